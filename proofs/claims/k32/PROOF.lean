import PyProof.Rows.All
import Wide.All
import OpenK.AllK
import Wide.FinOn
import Lean
import PyProof.EqAt
import PyProof.EqKinds
import PyProof.TupleCall
import KE.KIsAll
import PyProof.ExcAttrAll.ValueError
import PyProof.NeKinds
import PyProof.InstStoreFacts
import KE.KUnpackStar
import KE.KSortTup
import PyProof.EnumFor
import PyProof.EnumStmt
import PyProof.ListRange
import PyProof.TupleKey
import PyProof.SetKind
import PyProof.Rows.SetFrom
import PyProof.SetRoads
import PyProof.CollectWalk
import PyProof.WalksMore
import PyProof.Rows.SortWalk
import PyProof.DictKinds
import PyProof.DictCompW
import PyProof.DictRoadsH
import PyProof.DictWalks
import PySem.Challenge.RW_pickalike_k32_where_parted
noncomputable section
open And renaming intro->XJ
open Array renaming length_toList->Q3,getElem?_eq_some_iff->R3,getElem?_toList->Se,getD->S0,getElem?_eq_getElem->T7,mem_toList_iff->UQ,forIn_toList->Vn,getD_eq_getD_getElem?->Wc,toList->Xs,size_append->Y4,toList_push->Za
open Array.Perm renaming mem_iff->TU,refl->abS
open Bool renaming and_eq_true->QX,false_eq_true->Rf,false_ne_true->RB,eq_iff_iff->R5,not_true->Tn,or_eq_true->Ud,and_false->Uw,true_and->UM,not_false->VF,and_eq_true_iff->X8,or_false->aaE,and_self->aaG,false_or->aaL
open Classical renaming byContradiction->Ss,propDecidable->aaT
open False renaming elim->UE
open ForInStep renaming yield->Tv
open Function renaming comp_def->WU
open Iff renaming rfl->abV
open Int renaming toNat_natCast->Sz,emod_lt_of_pos->SO,emod_nonneg->Tz,ediv_one->aaZ
open List renaming length_map->QO,mem_cons_of_mem->QS,mem_map->QT,range->QU,mem_cons_self->QW,size_toArray->Q2,getElem?_eq_getElem->Q5,mem_singleton->Q9,map_cons->Ra,mem_cons->Rc,mem_range->Ri,getElem?_map->Rj,length_append->Rm,map_append->Ro,getElem?_eq_some_iff->Rr,map_map->Rv,mem_append->Rx,getD_eq_getElem?_getD->RH,mem_filter->RI,all_eq_true->RJ,getElem?_set_ne->RM,mem_append_right->RO,pairwise_map->RP,idxOf_lt_length_of_mem->R0,replicate->R8,length_filter_le->Sf,length_cons->Sh,getElem_mem->Si,getElem?_append_right->Sl,mem_of_getElem?->Sm,getElem?_set_self->So,pairwise_iff_getElem->Sq,lookup_cons->Sv,length_range->SD,nodup_cons->SM,not_mem_nil->SW,eraseIdx_eq_take_drop_succ->S4,getElem?_append_left->S6,append_nil->S8,length_replicate->S9,any_eq_true->Tf,nodup_range->Tg,mem_iff_getElem->Tj,length_eq_zero_iff->Tr,eq_nil_or_concat->TY,concat_eq_append->TZ,nodup_nil->T6,mem_append_left->T8,pairwise_append->T_,getElem?_range->Ui,replicate_succ->Uj,pairwise_singleton->Ul,map_congr_left->Um,length_take->Uq,length_drop->Ur,ext_getElem->Us,pairwise_lt_range->Uy,pairwise_cons->Uz,getElem_idxOf->UA,take_append_drop->UC,all_cons->UI,map_take->UK,append_assoc->UO,drop_eq_getElem_cons->UU,filterMap_cons->UZ,find?_range_eq_some->U9,mem_filterMap->Vb,getElem?_replicate->Vd,length_nil->Vk,map_drop->Vl,range_succ_eq_map->Vu,getElem_cons_drop->Vv,length->Vw,reverse_cons->Vy,nodup_append->VC,map_nil->VI,singleton_append->VL,eq_nil_of_length_eq_zero->VO,getElem_map->VR,mem_flatMap->VU,map_flatMap->VV,length_eraseIdx->VZ,any_cons->V0,foldl_cons->V_,range_succ->We,filter_eq_self->Wi,perm_ext_iff_of_nodup->Wk,zip_cons_cons->Wn,any_map->Wo,find?_eq_none->Wq,getLast?_eq_none_iff->Wz,getElem?_zip_eq_some->WA,getElem_append_left->WM,filter_cons_of_pos->W4,filter_cons_of_neg->W5,pairwise_filterMap->W6,getElem_inj->W_,take_length->Xe,perm_middle->Xf,drop_eq_nil_of_le->Xj,take_of_length_le->Xm,of_mem_zip->Xv,all_map->Xz,getElem?_reverse->XA,mem_iff_getElem?->XC,getD->XI,pairwise_flatMap->XN,getLast?_concat->X5,mem_of_mem_take->X6,mem_of_mem_drop->X7,take_succ->Yc,getD_cons_zero->Yk,filterMap_map->Yy,contains_cons->YF,map_singleton->YK,take_sublist->YW,eraseIdx_nil->Y6,getElem_drop->Y9,idxOf_append->Y_,filter_congr->Ze,le_antisymm->Zt,filter_map->Z2,length_zip->Z3,drop_zero->Z8,filterMap->aab,lookup->abq,map->abD
open List.Nodup renaming length_le_of_subset->Rp
open List.Pairwise renaming nil->SX,and_mem->TX,imp->VA,filter->X4,of_map->abb,and->abL,map->abM
open List.Perm renaming of_eq->ZS,append_left->aa7
open List.cons renaming inj->abZ
open Nat renaming le_refl->QY,lt_of_lt_of_le->Rl,ne_of_lt->Rn,zero_le->RA,le_trans->RE,not_lt_zero->RZ,lt_irrefl->SJ,le_succ->SN,lt_succ_of_lt->S3,lt_succ_self->TM,le_of_succ_le->Ue,ne_of_gt->UB,lt_trichotomy->UJ,pow_le_pow_right->UR,mul_le_mul_right->US,le_add_right->UY,lt_trans->U7,le_of_lt_succ->VB,mul_le_mul->VE,mod_lt->WL,div_div_eq_div_mul->Xl,le_of_lt->Xq,lt_of_le_of_lt->YJ,lt_or_eq_of_le->YL,pow_succ->Zm,zero_add->Zn,le_of_not_lt->Zr,div_add_mod->ZQ,min_eq_left->ZW,add_mul->ZZ,add_assoc->aaN,le_of_eq->aa1,not_lt->abK
open Ne renaming symm->Tt
open Option renaming isSome_iff_exists->Sd,bind_some->Xc,getD_none->Zq,map_some->ZI,none->abp
open Option.some renaming inj->R4,injEq->SY
open Or renaming inr->Uu,inl->VJ
open Prod renaming fst->Sk,snd->abF,ext->abX
open PyProof.Rows renaming slot_tuple_getitem->RC,seqObj->Ti,IntsAre->U0,subscriptTail_builtinR->Vs,callWith_type1->V5,entry_tuple_getitem->V7,entry_list_sort->Wb,args_tuple_getitem->Wl,slicePart_none->Ws,slot_list_sort->Wu,args_list_sort->Wv,envOfC->WE,AllBare->WW,listUpdate_at->W3,seqEpoch_at->Ym,tupleItemsOf_->Yz,sortedAll->YH,sortedAll_old->YI,callWith_builtin1->Zf,sortedAll_at->Zh,plain_sorted->Zj,entry_sorted->Zk,args_sorted1->Zl,get?_update_seq->ZL,list_sort_plain->ZM,kind_sorted->ZN,keyLt'_oneType->aaa,Subscript_->aam,sortedHeap->aat,slicePart_int->aaB,subscriptTail->aaD,SortKind->aaI,keyKind'->aaJ,oneType'->aaM,sortedHeap_at->aaQ,IsTup->aaW,oneLt_int->aa6,lt_int->abt,lt_str->abu,tuples'->abv,le_int->abz,tail_any->abA
open PyProof.Rows.F renaming plain_set_update_loop->Ry,entry_set_update_loop->Su
open PyProof.Rows.IsTup renaming new->ZF
open PySem renaming wpAny_bind->QJ,wpAny_pure->QL,Value->QM,Shared->QN,starEach->QZ,Addr->Q4,foldedSetIterable->Q_,Program->Rb,wpAny->Rg,model->Rk,FuncData->Rq,mainGlobals->Rt,wpAny_holding->Ru,wpAny_newObj_type->Rw,Expr->Rz,World->RD,Around->RG,wpAny_call_entry->RL,sizeLine_eq->RS,wpAny_mono->RU,cellsFrom->RV,SetTable->RX,bootBuiltins->R1,wpAny_truthy_bool->R6,behindInMarks->Sa,wpAny_callSpecial?_slot->Sj,Heap->Sn,compareOp->Sx,cLine->Sy,wpAny_setState_of->SE,wpAny_standAt->SK,backTo->SV,NameKind->S5,codeAny_builtin->Tc,wpAny_typeNameOfWhole_keyiter->Th,letOwnedTupleGo->Tu,wpAny_loadPart'->Tw,Scope->TF,codeAny->TH,wpAny_forIn_list->TN,wpAny_askSetting->TQ,codeAny_mono->TR,Stmt->T9,assignEach->Ub,wpAny_passesOwn->Uc,standAt->Ug,mem_of_lookup->Uh,swapsWith->Uo,sysModules->Uv,binaryOp->UG,plainId_quiet->UN,hashInt->UP,Builtin->U1,wpAny_of_eq->U3,wpAny_typeOf->U6,swapsWithSole->Va,wpAny_Call_Name_kw->Vc,attributeBase->Vf,wpAny_attempt->Vg,mem_of_lookup->Vj,wpAny_specialOf->Vm,codeAny_of_tree->Vp,pyNext->Vq,sliceBounds->Vx,wpAny_storeSet_of->VD,compTurn->VH,builtinLookup_eq_fast->VM,wpAny_isInstance->VS,codeAny_call_builtin->VY,wpAny_newList->V1,wpAny_execs_nil->V4,wpAny_field->V6,wpAny_updateSeq->Wa,wpAny_setEntries_of->Wf,wpAny_pyIter_tuple->Wm,wpAny_setField_rec->Wr,isSubtype_type->Ww,wpAny_fieldsOf->Wx,firstArgMember->Wy,Paired->WB,pyIter->WD,wpAny_sequenceKey->WG,wpAny_pyIter_list->WH,wpAny_rule->WI,searchCouldBeSeen->WN,wpAny_pyIter_slot->WQ,arm_evalThenUse_ListComp->WS,wpAny_dictEntries->WV,keywordEach->WY,Keyword->WZ,Comprehension->W7,wpAny_pyHash_int->W9,noFill_tuple_add->Xa,checkBuiltinCall->Xb,richCompare_meets_room->Xk,codeAny_compStart_list->Xo,codeAny_compStart_dict->Xp,wpAny_isTrue_Compare1->Xr,inplaceOp->Xu,getItem->Xw,setAddHashed->XD,typeLookup_type->XG,weight_type_call_type->XH,arm_exec_Assign->XM,wpAny_dictEpoch->XR,wpAny_isOneOf_keyiter->XS,wpAny_call->XU,wpAny_loadName_local->XY,isTrue->X_,wpAny_seqItems->Yd,wpAny_runValue->Ye,wpAny_bindName->Yg,wpAny_loadName_cell->Yh,GenState->Yq,Operator->Yr,swappedStores->Ys,bindArgs->Yt,seq_tuple_add->Yw,IsPart->Yx,evalPart_none->YA,seqIndex?->YC,DictEntry->YE,compPost->YQ,slot_dict_contains->YR,intKind->YV,slot_list_getitem->YX,call_meets->YY,callerA->YZ,ofAClassStatement->Zb,concat_meets->Zg,wpAny_execs_cons->Zp,check_set_init_1->Zw,backToKw->Zz,PassesOwn->ZC,Result->ZD,BindsTo->ZE,pushCells->ZO,pushCells_keeps->ZP,pickOrder->ZT,noteFrame->ZX,theTreesLotGoes->ZY,compStart->Z0,theWindowsPlace->Z1,recursionLimit->Z6,wpAny_newTuple->Z9,newFunctionEnv->Z_,setAddHashedIn->aad,entryFor_alias->aae,isSubtype_stop->aaf,wpAny_setField->aah,entryOfKey->aai,builtinsNs->aaj,wpAny_Name->aak,rawInt->aal,call->aao,isInstance->aaq,reduceHash->aar,checkCount->aau,setsByText->aav,intKind_is->aax,rangeSize_one->aaz,intBits_le_64->aaA,evalPart_some->aaC,setSearchFrom->aaO,wpAny_handled->aaP,wpAny_notedAt->aaR,eval_ListComp->aaS,atKey->aaU,storeName->aaX,CmpOp->aaY,Params->aa0,seqItems?->aa4,Model->abd,bindL->abf,bindC->abg,CellsOk->abw,entryFor->abE,bindName->abG,Fin->abT
open PySem.Around renaming under_plainId->SS,under_plain->YO
open PySem.AutoSeq1 renaming sub_tuple_tuple->U8
open PySem.Builtin.Dict renaming showsAll->XQ,dictSlotNone->aag
open PySem.Builtin.Dict_items renaming ownsTuple->V3
open PySem.Builtin.Frozenset renaming updateFrom->V2,sizeOf->WR,newClass->Z5
open PySem.Builtin.List renaming listTooLong->Te,listLengthHint->Wg,listExtendWith->Wh,listSameRef->aaw
open PySem.Builtin.Range renaming rangeSize->WX
open PySem.Builtin.Slice renaming slicePlaces->RT,sliceAdjust->S7,sliceApplied->TJ,sliceFields->Wt,slicePartIndex->Zy
open PySem.Builtin.Str renaming occurrences->W2,tooLong->Yj
open PySem.Builtin.Tuple renaming tupleExact->RY,tupleHashOf->R9,tupleItemsOf->TL,tupleCompareSizes->Vz,tupleIsExact->Z4
open PySem.Calls renaming call_function_entry->UW,Name_function_global->Wj
open PySem.CmpOp renaming NotIn->abe,In->abW
open PySem.Code renaming quiet_builtin->YN
open PySem.Env renaming kindOf->abI
open PySem.Expr renaming Call->abU
open PySem.F renaming called_set->Sg,slot_dict_keyiterator_next->SI,plainAttrs_list->Uk,slot_tuple_hash->UL,args_tuple_add_2->U4,entry_tuple_add->Ve,slot_tuple_add->Vr,args_dict_keyiterator_next_1->VN,entry_dict_keyiterator_next->VX,attrBase_ValueError->V9,slot_list_append->WJ,type_list_append->WK,typeCall_set_1->Xn,args_list_extend_2->XZ,entry_list_extend->Yi,slot_list_extend->YD,plain_list_iadd->Zc,entry_type_call->Zd,entry_set_init->Zv,slot_dict_iter->Zx,slot_set_iter->ZU,plain_set_new->ZV
open PySem.Heap renaming get?_push_of_some->QV,get?_push_size->Q7,lt_size->Q8,SameBut->R_,get?_update_self->SG,size_push->Ux,get?_update_other->Vt,size_update->Xd,get?_update_ne->Yl,get?_push_ne->Y8,ExtBut->abx
open PySem.Heap.IsList renaming push->Zu
open PySem.Heap.IsSliceOf renaming new->YB
open PySem.Heap.SameBut renaming update->Sw,refl->WT
open PySem.IsL renaming update->abN
open PySem.Moved renaming trans->Yn
open PySem.NameKind renaming free->Sb,cell->Vi
open PySem.Obj renaming mapSeq->SA,putSet->WO,data_mapFields->YS,mapFields->aaV
open PySem.Paired renaming length->aay
open PySem.PassesOwn renaming leaving->Y7,never->ZJ
open PySem.SeqAt renaming EqAt->Td,ne_of_list_tuple->Xi
open PySem.SeqAt.EqAt renaming same->Xx,int_str->Yo,str_int->Yp,int_int->Yv,of_refs->YG,tuple_list->aa2,list_tuple->aa3,none_bool->aa8,bool_none->aa9,bool_bool->aa_,none_int->abh,none_str->abi,bool_int->abj,bool_str->abk,int_none->abl,int_bool->abm,str_none->abn,str_bool->abo,str_str->abB
open PySem.SeqAt.RcAt renaming tuples->Y3,lists->Zs,lists_lengths->aas
open PySem.SeqAt.RcNeAt renaming tuples->abr,lists->abC
open PySem.SetTable renaming insertAt->SH,sizeAbove->SQ,below->UX,grown->VG,tooFull->VT,advance->Xg,fill->YM,runEnd->ZR,turns->aac
open PySem.Shared renaming TypeIs->Vo
open PySem.Str renaming ofString->U5,length->aan
open PySem.Value renaming none->RN,bool->Ua,type->UD,ref->U_,builtin->W0,notImplemented->X3,int->ZA,str->abQ
open PySem.Value.ref renaming inj->abY
open PySem.W renaming Frag->QK,fnOf->Q6,mg_of->Rh,nsIn->RK,mg_none_of->RQ,keepIn->R7,kia_one->S_,kas_desc->Tp,kas_sort->Tq,kas_place->TV,codeIn->T3,findIn->T5,mroIn->UH,InstAt->UT,clsIn->Vh,kas_rev->VP,kas_asc->VQ,findObj->V8,methodObj->WC,cellsFrom_some->Xh,OpenLaw->Xy,looks_findIn->X0,kitOne->Yb,callWith_K->Yu,specialIn->Y0,kitx_dict->Y5,kas_descPart->Zi,takesIn->ZG,kitMeta->ZH,kas_count->ZK,notCls->Z7,WalkO->aaF,kas_bin->aaH,kat_cons->aaK,kas_tail3->aa5
open PySem.W.Hook renaming obs->abO,val->abP
open PySem.W.OpenLaw renaming wellSaid->aap
open PySem.W.RowW renaming records->aba
open PySem.W.WData renaming int->abR
open PySem.W.WShape renaming has->abH
open PySem.Walks renaming tuple->aby,list->abJ
open PySem.pickOrder renaming go->Zo
open Subtype renaming ext->W8
open Sum renaming inl->YT,inr->YU
open True renaming intro->XX
set_option Elab.async false
set_option linter.all false
set_option maxRecDepth 100000
namespace L2
open PySem PySem.Spec PyProof.Rows
noncomputable abbrev Key:=Sum Int Str
noncomputable def GZ:Key->QM->Bool
 | .inl k,v=>Value.isInt k v
 | .inr x,v=>Value.isStrOf x v
noncomputable def Nu (w:RD):Key->Int
 | .inl k=>UP k
 | .inr x=>hashStr w x
theorem dF:∀{k:Key}{v:QM},GZ k v=true->(∃i t,k=YT i/\v=ZA i t)\/(∃x t,k=YU x/\v=abQ x t)
 | .inl i,v,h=>by
  obtain ⟨t,e⟩:=Value.isInt_shape (k:=i) (v:=v) h
  exact .inl ⟨i,t,rfl,e⟩
 | .inr x,v,h=>by
  obtain ⟨t,e⟩:=Value.isStrOf_shape (x:=x) (v:=v) h
  exact .inr ⟨x,t,rfl,e⟩
theorem KG (a b:Int):decide ((YT a:Key)=YT b)=(a == b):=by
 by_cases e:a=b
 ·subst e;simp
 ·have h:¬(YT a:Key)=YT b:=λq=>e (Sum.inl.inj q)
  rw [decide_eq_false h]
  exact (beq_eq_false_iff_ne.mpr e).symm
theorem KJ (a b:Str):decide ((YU a:Key)=YU b)=decide (a=b):=by
 by_cases e:a=b
 ·subst e;simp
 ·have h:¬(YU a:Key)=YU b:=λq=>e (Sum.inr.inj q)
  rw [decide_eq_false h,decide_eq_false e]
theorem KH (a:Int) (b:Str):decide ((YT a:Key)=YU b)=false:=decide_eq_false (λq=>nomatch q)
theorem KI (a:Str) (b:Int):decide ((YU a:Key)=YT b)=false:=decide_eq_false (λq=>nomatch q)
noncomputable def uC (prog:Rb) (w:RD):PySem.KeyKind prog w Key where
 is:=GZ
 hash:=Nu w
 inj:=λv a b ha hb=>by
  rcases dF ha with ⟨i,t,rfl,rfl⟩ | ⟨x,t,rfl,rfl⟩
  ·rcases dF hb with ⟨j,u,rfl,e⟩ | ⟨y,u,rfl,e⟩
   ·injection e with e1 _;rw [e1]
   ·exact nomatch e
  ·rcases dF hb with ⟨j,u,rfl,e⟩ | ⟨y,u,rfl,e⟩
   ·exact nomatch e
   ·injection e with e1 _;rw [e1]
 byValue:=λk v h=>by
  rcases dF h with ⟨i,t,rfl,rfl⟩ | ⟨x,t,rfl,rfl⟩ <;> rfl
 pyHash:=λhv h=>by
  rcases dF hv with ⟨i,t,rfl,rfl⟩ | ⟨x,t,rfl,rfl⟩
  ·exact W9 h
  ·exact wpAny_pyHash_str h
 eqBool:=λhu hv h=>by
  rcases dF hu with ⟨i,t,rfl,rfl⟩ | ⟨x,t,rfl,rfl⟩
  ·rcases dF hv with ⟨j,u,rfl,rfl⟩ | ⟨y,u,rfl,rfl⟩
   ·rw [KG] at h;exact wpAny_eqBool_int h
   ·rw [KH] at h;exact Yo i t y u _ _ _ _ h
  ·rcases dF hv with ⟨j,u,rfl,rfl⟩ | ⟨y,u,rfl,rfl⟩
   ·rw [KI] at h;exact Yp x t j u _ _ _ _ h
   ·rw [KJ] at h;exact wpAny_eqBool_str h
 «strs»:=λk x t v h=>by
  rcases dF h with ⟨i,u,rfl,e⟩ | ⟨y,u,rfl,e⟩
  ·exact nomatch e
  ·injection e with e1 _
   subst e1
   cases v <;> rfl
inductive V where
 | non | bl (b:Bool) | int (i:Int) | str (x:Str) | byt (b:Array UInt8) | flt (b:UInt64) | ref (a:Q4) | ty (n:String)
 deriving DecidableEq
noncomputable def RelV:V->QM->Prop
 | .non,u=>u=RN
 | .bl b,u=>u=Ua b
 | .int i,u=>∃t,u=ZA i t
 | .str x,u=>∃t,u=abQ x t
 | .byt b,u=>∃t,u=Value.bytes b t
 | .flt b,u=>∃t,u=Value.float b t
 | .ref a,u=>u=U_ a
 | .ty n,u=>u=UD n
noncomputable abbrev Vals:List V->List QM->Prop:=WB RelV
theorem Vals.length {xs:List V}{us:List QM}(r:Vals xs us):xs.length=us.length:=aay r
theorem Vals.get:∀{xs:List V}{us:List QM}{i:Nat}{x:V},Vals xs us->xs[i]?=some x->∃u,us[i]?=some u/\RelV x u
 | _,_,_,_,.nil,e=>by simp at e
 | _,_,0,_,.cons r _,e=>by simp at e;subst e;exact ⟨_,rfl,r⟩
 | _,_,i + 1,x,.cons _ t,e=>by
  obtain ⟨u,h1,h2⟩:=Vals.get (i:=i) (x:=x) t (by simpa using e)
  exact ⟨u,by simpa using h1,h2⟩
theorem Vals.set {x:V}{u:QM}(r:RelV x u):∀{xs:List V}{us:List QM}(i:Nat),Vals xs us->Vals (xs.set i x) (us.set i u)
 | _,_,_,.nil=>.nil
 | _,_,0,.cons _ t=>.cons r t
 | _,_,i + 1,.cons q t=>.cons q (Vals.set r i t)
theorem Vals.append:∀{xs ys:List V}{us ws:List QM},Vals xs us->Vals ys ws->Vals (xs++ys) (us++ws)
 | _,_,_,_,.nil,s=>s
 | _,_,_,_,.cons r t,s=>.cons r (Vals.append t s)
theorem Vals.take:∀{xs:List V}{us:List QM}(n:Nat),Vals xs us->Vals (xs.take n) (us.take n)
 | _,_,0,_=>.nil
 | _,_,_ + 1,.nil=>.nil
 | _,_,n + 1,.cons r t=>.cons r (Vals.take n t)
theorem Vals.drop:∀{xs:List V}{us:List QM}(n:Nat),Vals xs us->Vals (xs.drop n) (us.drop n)
 | _,_,0,r=>r
 | _,_,_ + 1,.nil=>.nil
 | _,_,n + 1,.cons _ t=>Vals.drop n t
noncomputable def JK:Option V->Option QM->Prop
 | some v,some u=>RelV v u
 | none,none=>True
 | _,_=>False
noncomputable def KV {κ:Type}:List (κ×V)->List (κ×QM)->Prop:=WB λ(p:κ×V) (q:κ×QM)=>p.1=q.1/\RelV p.2 q.2
noncomputable def kV:Key->V
 | .inl i=>.int i
 | .inr x=>.str x
inductive HO where
  | lst (xs:List V)
  | tup (xs:List V)
  | dK (QH:List (Key×V)) | dT (QH:List (List Key×V))
  | set (S:Int->Bool) (n:Nat)
  | ins (C dx:Q4) (fs:List (Str×V))
  | own (x:Q4)
  | xd (fs:List (Str×V))
  | met (f x:Q4)
  | rng (lo hi:Int)
  | frz (o:Obj) (u:HO)
  | tbl (ps:Array QM)
  | ext (φ:Sn->Prop)
noncomputable abbrev Hp:=Q4->Option HO
noncomputable def upd (H:Hp) (a:Q4) (o:HO):Hp:=λb=>if b=a then some o else H b
theorem b_ {H:Hp}{a:Q4}{o:HO}:upd H a o a=some o:=by unfold upd;rw [if_pos rfl]
theorem bA {H:Hp}{a b:Q4}{o:HO}(h:b≠a):upd H a o b=H b:=by unfold upd;rw [if_neg h]
theorem fz {H:Hp}{a b:Q4}{o:HO}(h:H a=some o) (h':H b=none):a≠b:=by
 intro e;subst e;rw [h] at h';cases h'
section
variable (P:Rb) (w:RD)
noncomputable def cg (H:Hp) (h:Sn) (a:Q4):HO->Prop
 | .lst xs=>xs.length<=sizeLine/\∃(QA:List QM) (n:Nat),Vals xs QA/\h.get? a=some {cls:=.type "list",data:=.seq QA.toArray n}
 | .tup xs=>xs.length<=sizeLine/\∃QA:List QM,Vals xs QA/\aaW h a QA.toArray
 | .dK QH=>QH.length<=sizeLine/\(a == Uv)=false/\∃vs,KV QH vs/\h.DictOf (uC P w) a vs
 | .dT QH=>QH.length<=sizeLine/\(a == Uv)=false/\∃xs:List (List Key×Q4×QM),
   WB (λ(p:List Key×V) (q:List Key×Q4×QM)=>p.1=q.1/\H q.2.1=some (.tup (p.1.map kV))/\RelV p.2 q.2.2) QH xs/\
   ∃o es ep,h.get? a=some o/\o.ExactDict/\o.data=.dict es ep/\es.toList=xs.map (aai (tupleKind (uC P w)))/\(xs.map (·.1)).Nodup
 | .set S n=>h.SetOf (YV P w) a S n
 | .ins C dx fs=>H dx=some (.own a)/\fs.length<=1000/\dx≠a/\h.get? a=some (W.instObj C dx)/\
   ∃mA,h.Ns1 dx mA/\(∀f,JK (fs.lookup f) (mA f))/\PySem.Within mA (fs.map (·.1))
 | .own _=>∃o,h.get? a=some o
 | .xd fs=>∃mA,h.Ns1 a mA/\∀f,JK (fs.lookup f) (mA f)
 | .rng lo hi=>∃t u v,h.get? a=some {cls:=.type "range",data:=.fields #[.int lo t,.int hi u,.int 1 v]}
 | .frz o u=>h.get? a=some o/\cg H h a u
 | .tbl ps=>h.get? a=some {cls:=.none,data:=.fields ps}
 | .met f x=>h.get? a=some (WC (.ref f) (.ref x))
 | .ext φ=>φ h/\(∃o,h.get? a=some o)/\∀h1 h2:Sn,φ h1->(∀o,h1.get? a=some o->h2.get? a=some o)->φ h2
noncomputable def fU (H:Hp) (h:Sn):Prop:=∀a o,H a=some o->cg P w H h a o
end
section
variable {P:Rb}{w:RD}{H H':Hp}{h h':Sn}{a:Q4}{o:HO}
theorem cg.lt (x:cg P w H h a o):a < h.objs.size:=by
 cases o with
 | lst xs=>obtain ⟨_,_,_,_,e⟩:=x;exact Q8 e
 | tup xs=>obtain ⟨_,_,_,p⟩:=x;exact p.lt
 | dK QH=>obtain ⟨_,_,_,_,o,_,_,e,_⟩:=x;exact Q8 e
 | dT QH=>obtain ⟨_,_,_,_,o,_,_,e,_⟩:=x;exact Q8 e
 | set S n=>obtain ⟨o,_,_,_,e,_⟩:=x;exact Q8 e
 | ins C dx fs=>obtain ⟨_,_,_,e,_⟩:=x;exact Q8 e
 | own y=>obtain ⟨_,e⟩:=x;exact Q8 e
 | xd fs=>obtain ⟨_,⟨_,_,_,e,_⟩,_⟩:=x;exact Q8 e
 | rng lo hi=>obtain ⟨_,_,_,e⟩:=x;exact Q8 e
 | frz ob u=>obtain ⟨e,_⟩:=x;exact Q8 e
 | tbl ps=>exact Q8 (show h.get? a=some _ from x)
 | met f y=>exact Q8 (show h.get? a=some _ from x)
 | ext φ=>obtain ⟨_,⟨_,e⟩,_⟩:=x;exact Q8 e
theorem WB.mapP {α β:Type}{F G:α->β->Prop}:∀{l₁:List α}{l₂:List β},WB F l₁ l₂->(∀a b,F a b->G a b)->WB G l₁ l₂
 | _,_,.nil,_=>.nil
 | _,_,.cons r t,f=>.cons (f _ _ r) (WB.mapP t f)
theorem cg.stay (x:cg P w H h a o) (k:∀b u,(b=a\/H b=some (.own a))->h.get? b=some u->h'.get? b=some u)
  (ho:∀b,H b=some (.own a)->H' b=some (.own a)) (ht:∀b xs,H b=some (.tup xs)->H' b=some (.tup xs)):cg P w H' h' a o:=by
 induction o with
 | lst xs=>obtain ⟨z,QA,n,r,e⟩:=x;exact ⟨z,QA,n,r,k _ _ (.inl rfl) e⟩
 | tup xs=>obtain ⟨z,QA,r,ob,e,c⟩:=x;exact ⟨z,QA,r,ob,k _ _ (.inl rfl) e,c⟩
 | dK QH=>obtain ⟨z,y,vs,r,ob,es,ep,e,c⟩:=x;exact ⟨z,y,vs,r,ob,es,ep,k _ _ (.inl rfl) e,c⟩
 | dT QH=>
  obtain ⟨z,y,xs,r,ob,es,ep,e,c⟩:=x
  exact ⟨z,y,xs,WB.mapP r λp q z=>⟨z.1,ht _ _ z.2.1,z.2.2⟩,ob,es,ep,k _ _ (.inl rfl) e,c⟩
 | set S n=>obtain ⟨ob,es,ep,t,e,c⟩:=x;exact ⟨ob,es,ep,t,k _ _ (.inl rfl) e,c⟩
 | ins C dx fs=>
  obtain ⟨d,z,ne,e,mA,⟨od,es,ep,e2,c⟩,r⟩:=x
  exact ⟨ho _ d,z,ne,k _ _ (.inl rfl) e,mA,⟨od,es,ep,k _ _ (.inr d) e2,c⟩,r⟩
 | own y=>obtain ⟨ob,e⟩:=x;exact ⟨ob,k _ _ (.inl rfl) e⟩
 | xd fs=>obtain ⟨mA,⟨od,es,ep,e,c⟩,r⟩:=x;exact ⟨mA,⟨od,es,ep,k _ _ (.inl rfl) e,c⟩,r⟩
 | rng lo hi=>obtain ⟨t,u,v,e⟩:=x;exact ⟨t,u,v,k _ _ (.inl rfl) e⟩
 | frz ob u ih=>obtain ⟨e,q⟩:=x;exact ⟨k _ _ (.inl rfl) e,ih q⟩
 | tbl ps=>
  have e:h.get? a=some {cls:=.none,data:=.fields ps}:=x
  show h'.get? a=some {cls:=.none,data:=.fields ps}
  exact k a _ (.inl rfl) e
 | met f y=>
  have e:h.get? a=some (WC (.ref f) (.ref y)):=x
  show h'.get? a=some (WC (.ref f) (.ref y))
  exact k a _ (.inl rfl) e
 | ext φ=>obtain ⟨p,⟨o,e⟩,st⟩:=x;exact ⟨st _ _ p λo q=>k _ _ (.inl rfl) q,⟨o,k _ _ (.inl rfl) e⟩,st⟩
theorem fU.lt (x:fU P w H h) (e:H a=some o):a < h.objs.size:=(x a o e).lt
theorem fU.fresh (x:fU P w H h) (e:h.objs.size<=a):H a=none:=by
 cases q:H a with
 | none=>rfl
 | some u=>exact absurd (Rl (x.lt q) e) (SJ _)
theorem fU.kept (x:fU P w H h) (k:∀b u,h.get? b=some u->h'.get? b=some u):fU P w H h':=λa o e=>
 (x a o e).stay (λb u _ q=>k b u q) (λ_ q=>q) λ_ _ q=>q
theorem fU.laid (x:fU P w H h) (k:∀b u,h.get? b=some u->h'.get? b=some u) (hp:h.objs.size<=a) (new:cg P w (upd H a o) h' a o):fU P w (upd H a o) h':=λb u e=>by
 have hn:=x.fresh hp
 by_cases hb:b=a
 ·subst hb;rw [b_] at e;cases e;exact new
 ·rw [bA hb] at e
  exact (x b u e).stay (λc v _ q=>k c v q) (λc q=>by rw [bA (fz q hn)];exact q) λc xs q=>by rw [bA (fz q hn)];exact q
end
noncomputable def Rd (H:Hp) (a:Q4) (u:HO):Prop:=H a=some u\/∃o,H a=some (.frz o u)
theorem Rd.ok {P:Rb}{w:RD}{H:Hp}{h:Sn}{a:Q4}{u:HO}(r:Rd H a u) (x:fU P w H h):cg P w H h a u:=by
 rcases r with r | ⟨o,r⟩
 ·exact x a u r
 ·obtain ⟨_,q⟩:=x a _ r
  exact q
noncomputable def GK:Option HO->Prop
 | some (.lst _)=>True
 | some (.dK _)=>True
 | some (.dT _)=>True
 | some (.set _ _)=>True
 | some (.ins _ _ _)=>True
 | some (.ext _)=>True
 | _=>False
section
variable {P:Rb}{w:RD}{H:Hp}{h h':Sn}{x e:Q4}{o':HO}
theorem fU.write (ok:fU P w H h) (mu:GK (H x)) (he:e=x\/H e=some (.own x)) (k:∀b u,b≠e->h.get? b=some u->h'.get? b=some u) (O4:∃u,h'.get? e=some u)
  (new:cg P w (upd H x o') h' x o'):fU P w (upd H x o') h':=λb u q=>by
 have nown:∀c y,H c=some (.own y)->c≠x:=λc y r z=>by subst z;rw [r] at mu;exact mu
 have ntup:∀c xs,H c=some (.tup xs)->c≠x:=λc xs r z=>by subst z;rw [r] at mu;exact mu
 by_cases hb:b=x
 ·subst hb;rw [b_] at q;cases q;exact new
 ·rw [bA hb] at q
  by_cases O0:b=e
  ·have q':H b=some (.own x):=by
    rcases he with z | z
    ·exact absurd (O0.trans z) hb
    ·rw [O0];exact z
   rw [q] at q';cases q'
   obtain ⟨v,hv⟩:=O4
   exact ⟨v,by rw [O0];exact hv⟩
  ·refine (ok b u q).stay (λc v hc r=>k c v ?_ r) (λc r=>by rw [bA (nown c b r)];exact r) λc xs r=>by rw [bA (ntup c xs r)];exact r
   rcases hc with rfl | hc
   ·exact O0
   ·rintro rfl
    rcases he with z | z
    ·exact nown c b hc z
    ·rw [hc] at z;cases z;exact hb rfl
end
structure Un (fs ex:List Q4) (H H':Hp) (h h':Sn):Prop where
 keep:∀b o,h.get? b=some o->H b=none->b∉fs->b∉ex->h'.get? b=some o
 slot:∀b o,h.get? b=some o->H b=none->b∈fs->b∉ex->∃sl,h'.get? b=some {o with slots:=sl}
 free:∀b o,h.get? b=some o->H b=none->b∉ex->H' b=none
 there:∀b o,h.get? b=some o->b∉ex->∃o',h'.get? b=some o'
 tups:∀b xs,H b=some (.tup xs)->H' b=some (.tup xs)
 frzs:∀b o u,H b=some (.frz o u)->H' b=some (.frz o u)
 tbls:∀b ps,H b=some (.tbl ps)->∃more,H' b=some (.tbl (ps++more))
section
variable {fs fs' ex ex':List Q4}{H H1 H2:Hp}{h h1 h2 h':Sn}{a x e:Q4}{o:HO}
theorem Un.any (u:Un fs ex H H1 h h1){b:Q4}{ob:Obj}(q:h.get? b=some ob) (n:H b=none) (hx:b∉ex):∃sl,h1.get? b=some {ob with slots:=sl}:=by
 by_cases hb:b∈fs
 ·exact u.slot b ob q n hb hx
 ·exact ⟨ob.slots,u.keep b ob q n hb hx⟩
theorem Un.kept (k:∀b u,h.get? b=some u->h'.get? b=some u):Un fs ex H H h h':=
 ⟨λb ob q _ _ _=>k b ob q,λb ob q _ _ _=>⟨ob.slots,k b ob q⟩,λ_ _ _ n _=>n,λb ob q _=>⟨ob,k b ob q⟩,λ_ _ q=>q,λ_ _ _ q=>q,λ_ ps q=>⟨#[],by rw [q];simp⟩⟩
theorem Un.refl:Un fs ex H H h h:=Un.kept λ_ _ q=>q
theorem Un.laid (k:∀b u,h.get? b=some u->h'.get? b=some u) (hp:h.objs.size<=a) (hn:H a=none):Un fs ex H (upd H a o) h h' where
 keep:=λb u q _ _ _=>k b u q
 slot:=λb u q _ _ _=>⟨u.slots,k b u q⟩
 free:=λb u q n _=>by rw [bA (Rn (Rl (Q8 q) hp))];exact n
 there:=λb u q _=>⟨u,k b u q⟩
 tups:=λb xs q=>by rw [bA (fz q hn)];exact q
 frzs:=λb u xs q=>by rw [bA (fz q hn)];exact q
 tbls:=λb ps q=>⟨#[],by rw [bA (fz q hn),q];simp⟩
theorem Un.write (mu:GK (H x)) (he:e=x\/H e=some (.own x)) (k:∀b u,b≠e->h.get? b=some u->h'.get? b=some u) (O4:∃u,h'.get? e=some u):Un fs ex H (upd H x o) h h':=by
 have hx:∀b,H b=none->b≠x:=λb n z=>by subst z;rw [n] at mu;exact mu
 have hb:∀b,H b=none->b≠e:=λb n z=>by
  subst z
  rcases he with r | r
  ·exact hx b n r
  ·rw [n] at r;cases r
 have hm:∀b u,H b=some u->¬GK (some u)->b≠x:=λb u q nm z=>by subst z;rw [q] at mu;exact nm mu
 refine ⟨λb u q n _ _=>k b u (hb b n) q,λb u q n _ _=>⟨u.slots,k b u (hb b n) q⟩,λb u q n _=>by rw [bA (hx b n)];exact n,λb u q _=>?_,
  λb xs q=>by rw [bA (hm b _ q λz=>z)];exact q,λb u xs q=>by rw [bA (hm b _ q λz=>z)];exact q,λb ps q=>⟨#[],by rw [bA (hm b _ q λz=>z),q];simp⟩⟩
 by_cases O0:b=e
 ·subst O0;exact O4
 ·exact ⟨u,k b u O0 q⟩
end
noncomputable def El (h:Sn) (H:Hp):List Q4:=(QU h.objs.size).filter λa=>(H a).isSome
noncomputable def nE (h:Sn) (H:Hp):Sn:=W.hideAll h (El h H)
theorem Dv (h:Sn) (H:Hp):(nE h H).objs.size=h.objs.size:=W.hideAll_size _ _
theorem E5 {h:Sn}{H:Hp}{b:Q4}{o:Obj}(e:h.get? b=some o) (n:H b=none):(nE h H).get? b=some o:=
 W.hideAll_get _ e λhm=>by
  have q:(H b).isSome=true:=(RI.mp hm).2
  rw [n] at q;simp at q
theorem Io {h:Sn}{H:Hp}{b:Q4}{o:Obj}(e:(nE h H).get? b=some o):h.get? b=some o/\H b=none:=by
 have e':h.get? b=some o:=W.of_hideAll (El h H) e
 refine ⟨e',?_⟩
 cases q:H b with
 | none=>rfl
 | some x=>
  have hm:b∈El h H:=RI.mpr ⟨Ri.mpr (Q8 e'),by simp [q]⟩
  have z:(nE h H).get? b=none:=W.hideAll_none (El h H) hm
  rw [z] at e;cases e
noncomputable def Hx (g h:Sn) (L:Q4):List (Q4×Obj):=(QU h.objs.size).filterMap λa=>if a=L\/(g.get? a).isSome=true then none else (h.get? a).map λo=>(a,o)
noncomputable def rest (g h:Sn) (L d:Q4):List (Q4×Obj):=(Hx g h L).filter λp=>decide (p.1≠d)
structure Mod (K:QK) (mg:Str->Option QM) (base:Sn):Prop where
 kin:K.In base
 glob:base.Ns Rt mg
 blt:∃mb,base.Ns aaj mb/\∀x:Str,x≠"__name__"->mb x=R1 x
 nolimit:base.NoLimit
structure Cx where
 prog:Rb
 w:RD
 K:QK
 mg:Str->Option QM
 base:Sn
 A:RG
 N:List Str
 s₀:QN
 H₀:Hp
 env:Env
 outer:List Env
 stack:List Env
 ex:List Q4
 fn:Str->Bool
 calm:Bool
 pn:List (Q4×Obj)
 xe:QM->QN->Prop
noncomputable def frs (l:List Env):List Q4:=l.filterMap (·.frame)
noncomputable abbrev Cx.fs (X:Cx):List Q4:=frs X.outer
noncomputable def qu (sc:TF) (x:Str):Prop:=sc.names.lookup x=some .local\/sc.names.lookup x=some .cell\/sc.names.lookup x=some .free
noncomputable def Loc (sc:TF) (x:Str):Prop:=sc.names.lookup x=some .local\/sc.names.lookup x=some .cell
noncomputable def Look (env:Env) (h:Sn) (m:Str->Option QM) (x:Str) (u:QM):Prop:=
 (env.kindOf x=some .local/\m x=some u)\/((env.kindOf x=some .cell\/env.kindOf x=some .free)/\∃c,env.cells.lookup x=some c/\h.IsCell c (some u))
structure Cx.Ok (X:Cx):Prop where
 mod:Mod X.K X.mg X.base
 kind:X.env.scope.kind=.function
 glob:X.env.globals=Rt
 blt:X.env.builtins=aaj
 above:X.s₀.heap.objs.size<=X.env.locals
 inj:∀x y c,X.env.cells.lookup x=some c->X.env.cells.lookup y=some c->x=y
 has:∀x,(X.env.kindOf x=some .cell\/X.env.kindOf x=some .free)->∃c,X.env.cells.lookup x=some c
 cab:∀x c,X.fn x=true->X.env.cells.lookup x=some c->X.s₀.heap.objs.size<=c
 hd:X.calm=true->X.A.handled=none
 frames:X.A.frames=some X.stack
 stk:X.stack=X.outer\/(X.stack=X.env::X.outer/\X.env.frame=some X.env.locals)
 exf:∀b∈X.ex,b≠X.env.locals/\∀x c,X.env.cells.lookup x=some c->c≠b
 bs:∀b o,X.base.get? b=some o->X.s₀.heap.get? b=some o/\X.H₀ b=none
 bsz:X.base.objs.size<=X.s₀.heap.objs.size
 noex:∀b o,X.base.get? b=some o->b∉X.ex
 exfs:∀b∈X.ex,b∉X.fs
 funs:X.s₀.heap.FunFrames X.base X.outer
 frf:∀b∈X.fs,X.H₀ b=none
structure Inv (X:Cx) (Qz:List (Q4×Obj)) (σ:List (Option V)) (H:Hp) (s:QN):Prop where
 ok:X.Ok
 os:s.os=X.s₀.os
 bare:WW s.gens
 base:Un X.fs X.ex X.H₀ H X.s₀.heap s.heap
 loc:∃m,s.heap.Ns X.env.locals m/\∀(i:Nat) (x:Str) (v:V),X.N[i]?=some x->σ[i]?=some (some v)->qu X.env.scope x->∃u,RelV v u/\Look X.env s.heap m x u
 cell:∀x c,X.env.cells.lookup x=some c->∃v,s.heap.IsCell c v
 free:H X.env.locals=none
 freeC:∀x c,X.env.cells.lookup x=some c->H c=none
 pin:∀p∈X.pn++Qz,s.heap.get? p.1=some p.2/\H p.1=none/\p.1≠X.env.locals/\p.1∉X.fs/\∀v,p.2.data≠.cell v
 hok:fU X.prog X.w H s.heap
 len:σ.length=X.N.length
section
variable {X:Cx}{Qz:List (Q4×Obj)}{σ:List (Option V)}{H H':Hp}{s:QN}{h':Sn}
theorem Cx.Ok.nofr (ok:X.Ok){b:Q4}{o:Obj}(e:X.base.get? b=some o):b∉X.fs:=λhb=>by
 have:=(ok.funs.mem hb).1
 rw [e] at this;cases this
theorem Inv.bs (I:Inv X Qz σ H s):∀b o,X.base.get? b=some o->s.heap.get? b=some o/\H b=none:=λb o e=>
 ⟨I.base.keep b o (I.ok.bs b o e).1 (I.ok.bs b o e).2 (I.ok.nofr e) (I.ok.noex b o e),I.base.free b o (I.ok.bs b o e).1 (I.ok.bs b o e).2 (I.ok.noex b o e)⟩
theorem Inv.bk (I:Inv X Qz σ H s):∀b o,X.base.get? b=some o->s.heap.get? b=some o:=λb o e=>(I.bs b o e).1
theorem Inv.mod (I:Inv X Qz σ H s):Mod X.K X.mg X.base:=I.ok.mod
theorem Inv.kIn (I:Inv X Qz σ H s):X.K.In s.heap:=I.ok.mod.kin.keeps I.bk
theorem Inv.lt (I:Inv X Qz σ H s):X.env.locals < s.heap.objs.size:=let ⟨_,hn,_⟩:=I.loc;hn.lt
theorem Inv.sz (I:Inv X Qz σ H s):X.s₀.heap.objs.size<=s.heap.objs.size:=RE I.ok.above (Xq I.lt)
theorem Inv.nofs (I:Inv X Qz σ H s){a:Q4}(h:s.heap.objs.size<=a):a∉X.fs:=λhb=>by
 obtain ⟨_,o,ho,_⟩:=I.ok.funs.mem hb
 exact absurd (Rl (Q8 ho) (RE I.sz h)) (SJ _)
theorem Inv.cne (I:Inv X Qz σ H s):∀x c,X.env.cells.lookup x=some c->c≠X.env.locals:=λx c e z=>by
 obtain ⟨v,o,ho,hd⟩:=I.cell x c e
 obtain ⟨m,⟨o',es,ep,ho',hd',_⟩,_⟩:=I.loc
 rw [z,ho'] at ho;cases ho;rw [hd'] at hd;cases hd
theorem Inv.funs (I:Inv X Qz σ H s):s.heap.FunFrames X.base X.outer:=by
 have all:∀(l:List Env),(∀b∈frs l,b∈X.fs)->X.s₀.heap.FunFrames X.base l->s.heap.FunFrames X.base l:=by
  intro l
  induction l with
  | nil=>intro _ _;trivial
  | cons env r ih=>
   intro hs hl
   obtain ⟨hk,⟨L,o,hf,hn,ho,hd⟩,hr⟩:=hl
   have hL:L∈X.fs:=hs L (by unfold frs;rw [UZ,hf];exact QW)
   obtain ⟨sl,e⟩:=I.base.slot L o ho (I.ok.frf L hL) hL λz=>I.ok.exfs L z hL
   exact ⟨hk,⟨L,_,hf,hn,e,hd⟩,ih (λb hb=>hs b (by unfold frs;rw [UZ,hf];exact QS _ hb)) hr⟩
 exact all X.outer (λ_ hb=>hb) I.ok.funs
theorem Inv.stack (I:Inv X Qz σ H s):s.heap.FunFrames X.base X.stack:=by
 rcases I.ok.stk with e | ⟨e,hf⟩
 ·rw [e];exact I.funs
 ·rw [e]
  obtain ⟨m,hn,_⟩:=I.loc
  refine .cons (by rw [I.ok.kind];decide) hf hn ?_ I.funs
  exact Heap.get?_none_of_le (RE I.ok.bsz I.ok.above)
theorem Inv.stkSub (I:Inv X Qz σ H s):∀b∈frs X.stack,b∈X.env.locals::X.fs:=λb hb=>by
 rcases I.ok.stk with e | ⟨e,hf⟩
 ·rw [e] at hb;exact QS _ hb
 ·rw [e] at hb
  unfold frs at hb
  rw [UZ,hf] at hb
  exact hb
theorem Inv.stkFree (I:Inv X Qz σ H s):∀b∈frs X.stack,H b=none:=λb hb=>by
 rcases Rc.mp (I.stkSub b hb) with e | hb
 ·rw [e];exact I.free
 ·obtain ⟨_,o,ho,_⟩:=I.ok.funs.mem hb
  exact I.base.free b o ho (I.ok.frf b hb) λz=>I.ok.exfs b z hb
theorem Inv.step {g':Array Yq}{t':Nat}{d':Drawn}{ch:List Q4}(I:Inv X Qz σ H s)
  (hch:∀b∈ch,(b∈X.ex\/X.s₀.heap.objs.size<=b)/\b≠X.env.locals/\(∀x c,X.env.cells.lookup x=some c->c≠b)/\∀p∈X.pn++Qz,p.1≠b)
  (keep:∀b o,b≠X.env.locals->b∉X.fs->b∉ch->s.heap.get? b=some o->H b=none->h'.get? b=some o)
  (slot:∀b o,b≠X.env.locals->b∈X.fs->b∉ch->s.heap.get? b=some o->H b=none->∃sl,h'.get? b=some {o with slots:=sl}) (free:∀b o,b∉ch->s.heap.get? b=some o->H b=none->H' b=none)
  (there:∀b o,b∉ch->s.heap.get? b=some o->∃o',h'.get? b=some o')
  (tups:∀b xs,H b=some (.tup xs)->H' b=some (.tup xs)) (frzs:∀b o u,H b=some (.frz o u)->H' b=some (.frz o u)) (tbls:∀b ps,H b=some (.tbl ps)->∃more,H' b=some (.tbl (ps++more)))
  (ns:∀m,s.heap.Ns X.env.locals m->h'.Ns X.env.locals m) (hok:fU X.prog X.w H' h') (hg:WW g'):
  Inv X Qz σ H' {s with heap:=h',gens:=g',drawn:=d',toks:=t'}:=by
 have neL:∀b o,X.s₀.heap.get? b=some o->b≠X.env.locals:=λb o e=>Rn (Rl (Q8 e) I.ok.above)
 have neC:∀b o,X.s₀.heap.get? b=some o->b∉X.ex->b∉ch:=λb o e hx hb=>by
  rcases (hch b hb).1 with z | z
  ·exact hx z
  ·exact absurd (Rl (Q8 e) z) (SJ _)
 have cellK:∀x c,X.env.cells.lookup x=some c->∀v,s.heap.IsCell c v->h'.IsCell c v:=λx c e v ⟨o,ho,hd⟩=>by
  have nch:c∉ch:=λz=>(hch c z).2.2.1 x c e rfl
  by_cases hc:c∈X.fs
  ·obtain ⟨sl,q⟩:=slot c o (I.cne x c e) hc nch ho (I.freeC x c e)
   exact ⟨_,q,hd⟩
  ·exact ⟨o,keep c o (I.cne x c e) hc nch ho (I.freeC x c e),hd⟩
 refine ⟨I.ok,I.os,hg,⟨λb o e n hb hx=>?_,λb o e n hb hx=>?_,λb o e n hx=>?_,λb o e hx=>?_,λb xs e=>tups b xs (I.base.tups b xs e),λb o xs e=>frzs b o xs (I.base.frzs b o xs e),λb ps e=>?_⟩,?_,λx c e=>?_,?_,λx c e=>?_,λp hp=>?_,hok,I.len⟩
 ·exact keep b o (neL b o e) hb (neC b o e hx) (I.base.keep b o e n hb hx) (I.base.free b o e n hx)
 ·obtain ⟨sl,e1⟩:=I.base.slot b o e n hb hx
  obtain ⟨sl',e2⟩:=slot b _ (neL b o e) hb (neC b o e hx) e1 (I.base.free b o e n hx)
  exact ⟨sl',e2⟩
 ·obtain ⟨o',e1⟩:=I.base.there b o e hx
  exact free b o' (neC b o e hx) e1 (I.base.free b o e n hx)
 ·obtain ⟨o',e1⟩:=I.base.there b o e hx
  exact there b o' (neC b o e hx) e1
 ·obtain ⟨m1,e1⟩:=I.base.tbls b ps e
  obtain ⟨m2,e2⟩:=tbls b _ e1
  exact ⟨m1++m2,by rw [e2,Array.append_assoc]⟩
 ·obtain ⟨m,hn,hl⟩:=I.loc
  refine ⟨m,ns m hn,λi x v e1 e2 e3=>?_⟩
  obtain ⟨u,r,l⟩:=hl i x v e1 e2 e3
  refine ⟨u,r,?_⟩
  rcases l with l | ⟨k,c,e,z⟩
  ·exact .inl l
  ·exact .inr ⟨k,c,e,cellK x c e _ z⟩
 ·obtain ⟨v,z⟩:=I.cell x c e
  exact ⟨v,cellK x c e v z⟩
 ·obtain ⟨m,⟨o,_,_,ho,_⟩,_⟩:=I.loc
  exact free _ o (λz=>(hch _ z).2.1 rfl) ho I.free
 ·obtain ⟨v,o,ho,hd⟩:=I.cell x c e
  exact free c o (λz=>(hch c z).2.2.1 x c e rfl) ho (I.freeC x c e)
 ·obtain ⟨e,n,ne,nf,d⟩:=I.pin p hp
  have nch:p.1∉ch:=λz=>(hch p.1 z).2.2.2 p hp rfl
  exact ⟨keep p.1 p.2 ne nf nch e n,free p.1 p.2 nch e n,ne,nf,d⟩
theorem Inv.un {t':Nat}(I:Inv X Qz σ H s) (u:Un X.fs [] H H' s.heap h') (hok:fU X.prog X.w H' h'):Inv X Qz σ H' {s with heap:=h',toks:=t'}:=by
 obtain ⟨m,⟨o,es,ep,ho,r⟩,_⟩:=id I.loc
 obtain ⟨sl,hL⟩:=u.any ho I.free (by simp)
 exact I.step (g':=s.gens) (d':=s.drawn) (ch:=[]) (λ_ z=>nomatch z) (λb o _ hb _ e n=>u.keep b o e n hb (by simp)) (λb o _ hb _ e n=>u.slot b o e n hb (by simp)) (λb o _ e n=>u.free b o e n (by simp)) (λb o _ e=>u.there b o e (by simp)) u.tups u.frzs u.tbls (λm' hm=>by
  obtain ⟨o',es',ep',ho',r'⟩:=hm
  rw [ho] at ho';cases ho'
  exact ⟨_,es',ep',hL,r'⟩) hok I.bare
theorem Inv.call {g':Array Yq}{t':Nat}{d':Drawn}{ch:List Q4}(I:Inv X Qz σ H s) (u:Un (frs X.stack) ch H H' s.heap h') (hok:fU X.prog X.w H' h') (hg:WW g')
  (hch:∀b∈ch,(b∈X.ex\/X.s₀.heap.objs.size<=b)/\b≠X.env.locals/\(∀x c,X.env.cells.lookup x=some c->c≠b)/\∀p∈X.pn++Qz,p.1≠b):
  Inv X Qz σ H' {s with heap:=h',gens:=g',drawn:=d',toks:=t'}:=by
 obtain ⟨m,⟨o,es,ep,ho,r⟩,_⟩:=id I.loc
 obtain ⟨sl,hL⟩:=u.any ho I.free λz=>(hch _ z).2.1 rfl
 exact I.step (ch:=ch) hch (λb o hL hb hc e n=>u.keep b o e n (λz=>(Rc.mp (I.stkSub b z)).elim hL hb) hc) (λb o _ _ hc e n=>u.any e n hc) (λb o hc e n=>u.free b o e n hc) (λb o hc e=>u.there b o e hc) u.tups u.frzs u.tbls (λm' hm=>by
  obtain ⟨o',es',ep',ho',r'⟩:=hm
  rw [ho] at ho';cases ho'
  exact ⟨_,es',ep',hL,r'⟩) hok hg
theorem Inv.turned {t':Nat}{it:Q4}(I:Inv X Qz σ H s) (k:∀b o,b≠it->s.heap.get? b=some o->h'.get? b=some o) (hn:H it=none) (hL:it≠X.env.locals)
  (h1:it∈X.ex\/X.s₀.heap.objs.size<=it) (h2:∀x c,X.env.cells.lookup x=some c->c≠it) (h3:∀p∈X.pn++Qz,p.1≠it):Inv X Qz σ H {s with heap:=h',toks:=t'}:=by
 have nit:∀b u,H b=some u->b≠it:=λb u e z=>by rw [z,hn] at e;cases e
 refine I.step (g':=s.gens) (d':=s.drawn) (ch:=[it]) (λb hb=>?_) (λb o _ _ hc e _=>k b o (λz=>hc (by simp [z])) e) (λb o _ _ hc e _=>⟨o.slots,k b o (λz=>hc (by simp [z])) e⟩) (λ_ _ _ _ n=>n)
  (λb o hc e=>⟨o,k b o (λz=>hc (by simp [z])) e⟩) (λ_ _ e=>e) (λ_ _ _ e=>e) (λb ps e=>⟨#[],by rw [e];simp⟩) (λm hm=>?_) (λb u e=>?_) I.bare
 ·have e:b=it:=by simpa using hb
  subst e
  exact ⟨h1,hL,h2,h3⟩
 ·obtain ⟨o,es,ep,ho,r⟩:=hm
  exact ⟨o,es,ep,k _ o (Tt hL) ho,r⟩
 ·refine (I.hok b u e).stay (λc v hc q=>k c v ?_ q) (λ_ q=>q) λ_ _ q=>q
  rcases hc with z | z
  ·rw [z];exact nit b u e
  ·exact nit c _ z
theorem Inv.tok (I:Inv X Qz σ H s) (t:Nat):Inv X Qz σ H {s with toks:=t}:=I.un (h':=s.heap) (t':=t) Un.refl I.hok
theorem Inv.kept {t':Nat}(I:Inv X Qz σ H s) (k:∀b u,s.heap.get? b=some u->h'.get? b=some u):Inv X Qz σ H {s with heap:=h',toks:=t'}:=I.un (Un.kept k) (I.hok.kept k)
theorem Inv.laid {a:Q4}{o:HO}{t':Nat}(I:Inv X Qz σ H s) (k:∀b u,s.heap.get? b=some u->h'.get? b=some u) (hp:s.heap.objs.size<=a) (new:cg X.prog X.w (upd H a o) h' a o):
  Inv X Qz σ (upd H a o) {s with heap:=h',toks:=t'}:=I.un (Un.laid k hp (I.hok.fresh hp)) (I.hok.laid k hp new)
theorem Inv.write {x e:Q4}{o:HO}{t':Nat}(I:Inv X Qz σ H s) (mu:GK (H x)) (he:e=x\/H e=some (.own x)) (k:∀b u,b≠e->s.heap.get? b=some u->h'.get? b=some u) (O4:∃u,h'.get? e=some u)
  (new:cg X.prog X.w (upd H x o) h' x o):Inv X Qz σ (upd H x o) {s with heap:=h',toks:=t'}:=I.un (Un.write mu he k O4) (I.hok.write mu he k O4 new)
theorem Inv.pins_of {pins':List (Q4×Obj)}(I:Inv X Qz σ H s) (h:∀p∈pins',s.heap.get? p.1=some p.2/\H p.1=none/\p.1≠X.env.locals/\p.1∉X.fs/\∀v,p.2.data≠.cell v):Inv X pins' σ H s:=
 ⟨I.ok,I.os,I.bare,I.base,I.loc,I.cell,I.free,I.freeC,λp hp=>(Rx.mp hp).elim (λz=>I.pin p (T8 _ z)) (h p),I.hok,I.len⟩
theorem yo {N:List Str}(hN:N.Nodup){i j:Nat}{x:Str}(a:N[i]?=some x) (b:N[j]?=some x):i=j:=by
 obtain ⟨h1,e1⟩:=Rr.mp a
 obtain ⟨h2,e2⟩:=Rr.mp b
 exact (W_ hN).mp (e1.trans e2.symm)
theorem lG {M:abd}{A:RG}{E:QM->QN->Prop}{i:Nat}{x:Str}{v:V}{u:QM}{Q:Unit->QN->Prop}(I:Inv X Qz σ H s) (hN:X.N.Nodup) (hi:X.N[i]?=some x) (hx:Loc X.env.scope x) (r:RelV v u)
  (h:∀s',Inv X Qz (σ.set i (some v)) H s'->(∃a,R_ a s.heap s'.heap/\(a=X.env.locals\/X.env.cells.lookup x=some a))->Q () s') (hf:X.fn x=true\/X.env.scope.names.lookup x=some .local:=by first | exact .inl rfl | exact .inr rfl | assumption):Rg M A (aaX X.env x u) Q E s:=by
 obtain ⟨m,hn,hl⟩:=id I.loc
 have hcls:(X.env.scope.kind == .class || (X.env.scope.kind == .module && X.env.locals != X.env.globals))=false:=by rw [I.ok.kind];rfl
 have hiσ:i < σ.length:=by rw [I.len];exact (Rr.mp hi).1
 have cne:=I.cne
 have tracked:∀{a:Q4}{h':Sn},(∃o,s.heap.get? a=some o/\H a=none)->R_ a s.heap h'->fU X.prog X.w H h':=fun {a h'} ha hs b ob e=>by
  obtain ⟨_,_,hfree⟩:=ha
  refine (I.hok b ob e).stay (λc w' hc q=>(hs.2 c ?_).trans q) (λ_ q=>q) λ_ _ q=>q
  rintro rfl
  rcases hc with rfl | hc
  ·rw [hfree] at e;cases e
  ·rw [hfree] at hc;cases hc
 rcases hx with hk | hk
 ·refine wpAny_storeName_local hk hn (λh' hn' hs=>?_) hcls
  obtain ⟨oL,_,_,Ql,_⟩:=id hn
  refine h _ ⟨I.ok,I.os,I.bare,⟨λb o e n hb hx=>?_,λb o e n hb hx=>?_,I.base.free,λb o e hx=>?_,I.base.tups,I.base.frzs,I.base.tbls⟩,⟨_,hn',λj y v' e1 e2 e3=>?_⟩,λy c e=>?_,I.free,I.freeC,λp hp=>?_,tracked ⟨oL,Ql,I.free⟩ hs,by simpa using I.len⟩ ⟨_,hs,.inl rfl⟩
  ·exact (hs.2 b (Rn (Rl (Q8 e) I.ok.above))).trans (I.base.keep b o e n hb hx)
  ·obtain ⟨sl,e1⟩:=I.base.slot b o e n hb hx
   exact ⟨sl,(hs.2 b (Rn (Rl (Q8 e) I.ok.above))).trans e1⟩
  ·obtain ⟨o',e1⟩:=I.base.there b o e hx
   exact ⟨o',(hs.2 b (Rn (Rl (Q8 e) I.ok.above))).trans e1⟩
  ·by_cases hj:j=i
   ·subst hj
    rw [hi] at e1;cases e1
    rw [So hiσ] at e2
    cases e2
    exact ⟨u,r,.inl ⟨hk,by simp⟩⟩
   ·rw [RM (Tt hj)] at e2
    obtain ⟨u',r',q⟩:=hl j y v' e1 e2 e3
    refine ⟨u',r',?_⟩
    rcases q with ⟨k,e⟩ | ⟨k,c,e,z⟩
    ·refine .inl ⟨k,?_⟩
     have:y≠x:=λe=>hj (yo hN e1 (e▸hi))
     simp [this,e]
    ·exact .inr ⟨k,c,e,z.sameBut hs (cne y c e)⟩
  ·obtain ⟨w',z⟩:=I.cell y c e
   exact ⟨w',z.sameBut hs (cne y c e)⟩
  ·obtain ⟨e,n,ne,nf,d⟩:=I.pin p hp
   exact ⟨(hs.2 p.1 ne).trans e,n,ne,nf,d⟩
 ·have hfn:X.fn x=true:=by
   rcases hf with z | z
   ·exact z
   ·rw [z] at hk;cases hk
  obtain ⟨c,hc⟩:=I.ok.has x (.inl hk)
  obtain ⟨w',z⟩:=I.cell x c hc
  refine wpAny_storeName_cell I.ok.kind hk hc z (λh' hc' hs=>?_)
  obtain ⟨oc,hoc,PF⟩:=id z
  refine h {s with heap:=h'} ⟨I.ok,I.os,I.bare,⟨λb o e n hb hx=>?_,λb o e n hb hx=>?_,I.base.free,λb o e hx=>?_,I.base.tups,I.base.frzs,I.base.tbls⟩,⟨m,hn.sameBut hs (Tt (cne x c hc)),λj y v' e1 e2 e3=>?_⟩,λy c' e=>?_,I.free,I.freeC,λp hp=>?_,tracked ⟨oc,hoc,I.freeC x c hc⟩ hs,by simpa using I.len⟩ ⟨c,hs,.inr hc⟩
  ·exact (hs.2 b (Rn (Rl (Q8 e) (I.ok.cab x c hfn hc)))).trans (I.base.keep b o e n hb hx)
  ·obtain ⟨sl,e1⟩:=I.base.slot b o e n hb hx
   exact ⟨sl,(hs.2 b (Rn (Rl (Q8 e) (I.ok.cab x c hfn hc)))).trans e1⟩
  ·obtain ⟨o',e1⟩:=I.base.there b o e hx
   exact ⟨o',(hs.2 b (Rn (Rl (Q8 e) (I.ok.cab x c hfn hc)))).trans e1⟩
  ·by_cases hj:j=i
   ·subst hj
    rw [hi] at e1;cases e1
    rw [So hiσ] at e2
    cases e2
    exact ⟨u,r,.inr ⟨.inl hk,c,hc,hc'⟩⟩
   ·rw [RM (Tt hj)] at e2
    obtain ⟨u',r',q⟩:=hl j y v' e1 e2 e3
    refine ⟨u',r',?_⟩
    rcases q with q | ⟨k,c',e,z'⟩
    ·exact .inl q
    ·refine .inr ⟨k,c',e,z'.sameBut hs ?_⟩
     rintro rfl
     exact hj (yo hN e1 (I.ok.inj _ _ _ e hc▸hi))
  ·by_cases hcc:c'=c
   ·subst hcc;exact ⟨_,hc'⟩
   ·obtain ⟨w2,z2⟩:=I.cell y c' e
    exact ⟨w2,z2.sameBut hs hcc⟩
  ·obtain ⟨e,n,ne,nf,d⟩:=I.pin p hp
   refine ⟨(hs.2 p.1 ?_).trans e,n,ne,nf,d⟩
   intro q
   rw [q,hoc] at e
   have q':oc=p.2:=R4 e
   exact d w' (by rw [<-q'];exact PF)
theorem q9 {M:abd}{A:RG}{E:QM->QN->Prop}{i:Nat}{x:Str}{v:V}{u:QM}{Q:Unit->QN->Prop}(I:Inv X Qz σ H s) (hN:X.N.Nodup) (hi:X.N[i]?=some x) (hx:Loc X.env.scope x) (r:RelV v u)
  (h:∀s',Inv X Qz (σ.set i (some v)) H s'->Q () s') (hf:X.fn x=true\/X.env.scope.names.lookup x=some .local:=by first | exact .inl rfl | exact .inr rfl | assumption):Rg M A (aaX X.env x u) Q E s:=
 lG I hN hi hx r (λs' I' _=>h s' I') hf
theorem Inv.call' {s':QN}{ch:List Q4}(I:Inv X Qz σ H s) (ho:s'.os=s.os) (u:Un (frs X.stack) ch H H' s.heap s'.heap) (hok:fU X.prog X.w H' s'.heap) (hg:WW s'.gens)
  (hch:∀b∈ch,(b∈X.ex\/X.s₀.heap.objs.size<=b)/\b≠X.env.locals/\(∀x c,X.env.cells.lookup x=some c->c≠b)/\∀p∈X.pn++Qz,p.1≠b):Inv X Qz σ H' s':=by
 obtain ⟨h',g',d',t',o'⟩:=s'
 have e:o'=s.os:=ho
 subst e
 exact I.call (g':=g') (t':=t') (d':=d') u hok hg hch
end
noncomputable abbrev XK:=QM->Option Q4->Hp->Prop
noncomputable abbrev St:=List (Option V)
noncomputable abbrev VK:=V->Hp->Prop
noncomputable abbrev TE:=St->Hp->VK->Prop
noncomputable abbrev TT:=St->Hp->(Bool->Hp->Prop)->Prop
noncomputable abbrev TA:=St->Hp->(List V->Hp->Prop)->Prop
structure Ends where
 nx:St->Hp->Prop
 rt:VK
 bk:St->Hp->Prop:=λ_ _=>False
 ct:St->Hp->Prop:=λ_ _=>False
noncomputable abbrev TS:=Ends->St->Hp->Prop
noncomputable def EP (X:Cx) (Qz:List (Q4×Obj)) (σ:St) (Q:VK) (u:QM) (s':QN):Prop:=∃v H',Inv X Qz σ H' s'/\RelV v u/\Q v H'
noncomputable def TP (X:Cx) (Qz:List (Q4×Obj)) (σ:St) (Q:Bool->Hp->Prop) (b:Bool) (s':QN):Prop:=∃H',Inv X Qz σ H' s'/\Q b H'
noncomputable def AP (X:Cx) (Qz:List (Q4×Obj)) (σ:St) (Q:List V->Hp->Prop) (us:List QM) (s':QN):Prop:=∃vs H',Inv X Qz σ H' s'/\Vals vs us/\Q vs H'
noncomputable def SP (X:Cx) (Qz:List (Q4×Obj)) (D:Ends) (f:Flow) (s':QN):Prop:=
 match f with
 | .next=>∃σ' H',Inv X Qz σ' H' s'/\D.nx σ' H'
 | .brk=>∃σ' H',Inv X Qz σ' H' s'/\D.bk σ' H'
 | .cont=>∃σ' H',Inv X Qz σ' H' s'/\D.ct σ' H'
 | .ret u=>∃v σ' H',Inv X Qz σ' H' s'/\RelV v u/\D.rt v H'
noncomputable def PE (X:Cx) (e:Rz) (t:TE):Prop:=
 ∀(Qz:List (Q4×Obj)) (s:QN) (σ:St) (H:Hp) (Q:VK),Inv X Qz σ H s->t σ H Q->Rg (Rk X.prog X.w) X.A (eval e X.env) (EP X Qz σ Q) X.xe s
noncomputable def PT (X:Cx) (e:Rz) (t:TT):Prop:=
 ∀(Qz:List (Q4×Obj)) (s:QN) (σ:St) (H:Hp) (Q:Bool->Hp->Prop),Inv X Qz σ H s->t σ H Q->Rg (Rk X.prog X.w) X.A (X_ e X.env (eval e X.env)) (TP X Qz σ Q) X.xe s
noncomputable def PW (X:Cx) (e:Rz) (t:TT):Prop:=
 ∀(whole:Sem QM) (Qz:List (Q4×Obj)) (s:QN) (σ:St) (H:Hp) (Q:Bool->Hp->Prop),Inv X Qz σ H s->t σ H Q->Rg (Rk X.prog X.w) X.A (X_ e X.env whole) (TP X Qz σ Q) X.xe s
theorem PW.pt {X:Cx}{e:Rz}{t:TT}(h:PW X e t):PT X e t:=h _
noncomputable def PA (X:Cx) (es:List Rz) (t:TA):Prop:=
 ∀(pos:Pos) (Qz:List (Q4×Obj)) (s:QN) (σ:St) (H:Hp) (Q:List V->Hp->Prop),Inv X Qz σ H s->t σ H Q->Rg (Rk X.prog X.w) X.A (spliced (SV pos (QZ es X.env))) (AP X Qz σ Q) X.xe s
noncomputable def PS (X:Cx) (st:T9) (t:TS):Prop:=
 ∀(Qz:List (Q4×Obj)) (s:QN) (σ:St) (H:Hp) (D:Ends),Inv X Qz σ H s->t D σ H->Rg (Rk X.prog X.w) X.A (exec st X.env) (SP X Qz D) X.xe s
noncomputable def jG (X:Cx) (st:List T9) (t:TS):Prop:=
 ∀(Qz:List (Q4×Obj)) (s:QN) (σ:St) (H:Hp) (D:Ends),Inv X Qz σ H s->t D σ H->Rg (Rk X.prog X.w) X.A (execs st X.env) (SP X Qz D) X.xe s
theorem bP {α:Type}{t:Sem α}{Q Q':α->QN->Prop}{M:abd}{A:RG}{E:QM->QN->Prop}{s:QN}(h:Rg M A t Q E s) (hQ:∀a s,Q a s->Q' a s):Rg M A t Q' E s:=RU h hQ λ_ _ x=>x
section
variable {X:Cx}
theorem bin {a b:Rz}{ta tb:TE}(ha:PE X a ta) (hb:PE X b tb){Qz:List (Q4×Obj)}{s:QN}{σ:St}{H:Hp}{R:V->V->Hp->Prop}(I:Inv X Qz σ H s) (h:ta σ H λx H1=>tb σ H1 λy H2=>R x y H2)
  {α:Type}{Q:α->QN->Prop}{f:QM->QM->Sem α}
  (hf:∀v u s2 x y H2,Inv X Qz σ H2 s2->RelV x v->RelV y u->R x y H2->Rg (Rk X.prog X.w) X.A (f v u) Q X.xe s2):
  Rg (Rk X.prog X.w) X.A (eval a X.env) (λv s₁=>Rg (Rk X.prog X.w) X.A (eval b X.env) (λu s₂=>Rg (Rk X.prog X.w) X.A (f v u) Q X.xe s₂) X.xe s₁) X.xe s:=by
 refine bP (ha Qz s σ H _ I h) λv s1 ⟨x,H1,I1,r1,q1⟩=>?_
 refine bP (hb Qz s1 σ H1 _ I1 q1) λu s2 ⟨y,H2,I2,r2,q2⟩=>?_
 exact hf v u s2 x y H2 I2 r1 r2 q2
noncomputable def LN (i:Nat):TE:=λσ H Q=>∃v,σ[i]?=some (some v)/\Q v H
noncomputable def tC (v:V):TE:=λ_ H Q=>Q v H
theorem kh {i:Nat}{x:Str}{pos:Pos}(hN:X.N[i]?=some x) (hv:qu X.env.scope x) (hd:(x == ("__debug__":Str))=false:=by decide) (hcd:(x == ("__classdict__":Str))=false:=by decide):PE X (.Name x pos) (LN i):=by
 intro Qz s σ H Q I h
 obtain ⟨v,e,h⟩:=h
 obtain ⟨m,hn,hl⟩:=I.loc
 obtain ⟨u,r,l⟩:=hl i x v hN e hv
 have fin:EP X Qz σ Q u s:=⟨v,H,I,r,h⟩
 rcases l with ⟨hk,hm⟩ | ⟨hk,c,hc,hcell⟩
 ·exact aak (XY I.ok.kind hk hn hm fin) hd
 ·rcases hk with hk | hk
  ·exact aak (Yh I.ok.kind hk hc hcell fin) hd
  ·exact aak (wpAny_loadName_free I.ok.kind hk hc hcell fin hcd) hd
theorem DV {i j pos}:PE X (.Constant (.int i) j pos) (tC (.int i)):=λ_ _ _ H _ I h=>wpAny_Constant_int ⟨.int i,H,I.tok _,⟨_,rfl⟩,h⟩
theorem Mx {b j pos}:PE X (.Constant (.bool b) j pos) (tC (.bl b)):=λ_ _ _ H _ I h=>Constant_bool ⟨.bl b,H,I,rfl,h⟩
theorem K9 {j pos}:PE X (.Constant .none j pos) (tC .non):=λ_ _ _ H _ I h=>Constant_none ⟨.non,H,I,rfl,h⟩
theorem Lc {x j pos}:PE X (.Constant (.str x) j pos) (tC (.str x)):=λ_ _ _ H _ I h=>Calls.Constant_str ⟨.str x,H,I.tok _,⟨_,rfl⟩,h⟩
noncomputable def Gl (X:Cx) (x:Str):Prop:=X.env.kindOf x=some .globalImplicit
theorem Av {E:QM->QN->Prop}{Qz:List (Q4×Obj)}{s:QN}{σ:St}{H:Hp}{x:Str}{u:QM}{pos:Pos}{Q:QM->QN->Prop}(I:Inv X Qz σ H s) (hg:Gl X x) (hm:X.mg x=some u) (h:Q u s)
  (hd:(x == ("__debug__":Str))=false:=by decide):Rg (Rk X.prog X.w) X.A (eval (.Name x pos) X.env) Q E s:=
 Wj I.ok.kind hg (Calls.loadGlobal_global (by rw [I.ok.glob];exact I.mod.glob.keeps I.bk) hm h) hd
theorem sO {E:QM->QN->Prop}{Qz:List (Q4×Obj)}{s:QN}{σ:St}{H:Hp}{x:Str}{u:QM}{pos:Pos}{Q:QM->QN->Prop}(I:Inv X Qz σ H s) (hg:Gl X x) (hm:X.mg x=none) (hv:R1 x=some u) (h:Q u s)
  (hn:x≠"__name__":=by decide) (hd:(x == ("__debug__":Str))=false:=by decide):Rg (Rk X.prog X.w) X.A (eval (.Name x pos) X.env) Q E s:=by
 obtain ⟨mb,h1,h2⟩:=I.mod.blt
 exact Wj I.ok.kind hg (Calls.loadGlobal_builtin (by rw [I.ok.glob];exact I.mod.glob.keeps I.bk) hm (by rw [I.ok.blt];exact h1.keeps I.bk) ((h2 x hn).trans hv) h) hd
theorem AB {x:Str}{v:V}{u:QM}{pos:Pos}(hg:Gl X x) (hm:X.mg x=some u) (r:RelV v u) (hd:(x == ("__debug__":Str))=false:=by decide):PE X (.Name x pos) (tC v):=
 λ_ _ _ H _ I h=>Av I hg hm ⟨v,H,I,r,h⟩ hd
theorem ID {x:Str}{v:V}{u:QM}{pos:Pos}(hg:Gl X x) (hm:X.mg x=none) (hv:R1 x=some u) (r:RelV v u) (hn:x≠"__name__":=by decide) (hd:(x == ("__debug__":Str))=false:=by decide):PE X (.Name x pos) (tC v):=
 λ_ _ _ H _ I h=>sO I hg hm hv ⟨v,H,I,r,h⟩ hn hd
variable {a b:Rz}{ta tb:TE}{pos:Pos}
noncomputable def PC (X:Cx) (op:aaY) (a b:Rz) (t:TE):Prop:=
 ∀(Qz:List (Q4×Obj)) (s:QN) (σ:St) (H:Hp) (Q:VK),Inv X Qz σ H s->t σ H Q->
  Rg (Rk X.prog X.w) X.A (eval a X.env) (λv s₁=>Rg (Rk X.prog X.w) X.A (eval b X.env) (λu s₂=>Rg (Rk X.prog X.w) X.A (Sx op v u) (EP X Qz σ Q) X.xe s₂) X.xe s₁) X.xe s
theorem Fq (b:Rz){op:aaY}(h:op≠.In) (h2:op≠.NotIn):Sa op b=false:=by
 have e1:(op == abW)=false:=by cases op <;> first | rfl | exact absurd rfl h
 have e2:(op == abe)=false:=by cases op <;> first | rfl | exact absurd rfl h2
 cases b <;> simp [Sa,e1,e2]
noncomputable def tB (t:TE):TT:=λσ H Q=>t σ H λx H1=>∃c,x=.bl c/\Q c H1
theorem Oc {op:aaY}{t:TE}(h:PC X op a b t) (h1:Sa op b=false:=by first | exact Fq _ (by decide) (by decide) | rfl):PT X (.Compare a [op] [b] pos) (tB t):=by
 intro Qz s σ H Q I hw
 refine Xr (bP (h Qz s σ H _ I hw) λv s1 h1=>bP h1 λu s2 h2=>bP h2 λc s3 ⟨x,H1,I1,r1,q1⟩=>?_) h1
 obtain ⟨d,rfl,q⟩:=q1
 cases r1
 exact R6 ⟨H1,I1,q⟩
theorem Lo {e:Rz}{t:TE}(h:PE X e t) (he:∀whole,X_ e X.env whole=(do let v <-whole;Ug e.pos;holding [v] (truthy v)):=by intro _;rfl):PT X e (tB t):=by
 intro Qz s σ H Q I hw
 refine isTrue_plain (bP (h Qz s σ H _ I hw) λv s1 ⟨x,H1,I1,r1,q1⟩=>?_) (he _)
 obtain ⟨d,rfl,q⟩:=q1
 cases r1
 exact R6 ⟨H1,I1,q⟩
variable {tA tB':TT}{rest:List Rz}
noncomputable def NQ (t u:TT):TT:=λσ H Q=>t σ H λc H1=>if c=true then u σ H1 Q else Q false H1
noncomputable def Oh (t u:TT):TT:=λσ H Q=>t σ H λc H1=>if c=true then Q true H1 else u σ H1 Q
noncomputable def NV (t:TT):TT:=λσ H Q=>t σ H λc H1=>Q (!c) H1
theorem IP (ha:PT X a tA):PW X (.BoolOp .And [a] pos) tA:=by
 intro wh Qz s σ H Q I h
 refine isTrue_and (bP (ha Qz s σ H Q I h) λc s1 e=>?_)
 cases c with
 | true=>exact isTrue_and_nil e
 | false=>exact e
theorem Lr (ha:PT X a tA):PW X (.BoolOp .Or [a] pos) tA:=by
 intro wh Qz s σ H Q I h
 refine isTrue_or (bP (ha Qz s σ H Q I h) λc s1 e=>?_)
 cases c with
 | false=>exact isTrue_or_nil e
 | true=>exact e
theorem Lq (ha:PT X a tA) (hb:PW X (.BoolOp .And (b::rest) pos) tB'):PW X (.BoolOp .And (a::b::rest) pos) (NQ tA tB'):=by
 intro wh Qz s σ H Q I h
 refine isTrue_and (bP (ha Qz s σ H _ I h) λc s1 ⟨H1,I1,q1⟩=>?_)
 cases c with
 | true=>exact hb wh Qz s1 σ H1 Q I1 q1
 | false=>exact ⟨H1,I1,q1⟩
theorem MD (ha:PT X a tA) (hb:PW X (.BoolOp .Or (b::rest) pos) tB'):PW X (.BoolOp .Or (a::b::rest) pos) (Oh tA tB'):=by
 intro wh Qz s σ H Q I h
 refine isTrue_or (bP (ha Qz s σ H _ I h) λc s1 ⟨H1,I1,q1⟩=>?_)
 cases c with
 | true=>exact ⟨H1,I1,q1⟩
 | false=>exact hb wh Qz s1 σ H1 Q I1 q1
theorem Ln (ha:PT X a tA):PT X (.UnaryOp .Not a pos) (NV tA):=by
 intro Qz s σ H Q I h
 exact isTrue_not (ha Qz s σ H (λc H1=>Q (!c) H1) I h)
noncomputable def MN (ta tb:TE):TE:=λσ H Q=>ta σ H λx H1=>∃c,x=.bl c/\if c=true then tb σ H1 Q else Q (.bl false) H1
noncomputable def NW (ta tb:TE):TE:=λσ H Q=>ta σ H λx H1=>∃c,x=.bl c/\if c=true then Q (.bl true) H1 else tb σ H1 Q
noncomputable def MR (ta:TE):TE:=λσ H Q=>ta σ H λx H1=>∃c,x=.bl c/\Q (.bl (!c)) H1
theorem Lb {op}{t:TE}(h:PE X a t):PE X (.BoolOp op [a] pos) t:=λQz s σ H Q I hw=>BoolOp_one (h Qz s σ H Q I hw)
theorem K7 (ha:PE X a ta) (hb:PE X (.BoolOp .And (b::rest) pos) tb):PE X (.BoolOp .And (a::b::rest) pos) (MN ta tb):=by
 intro Qz s σ H Q I h
 refine BoolOp_and (bP (ha Qz s σ H _ I h) λv s1 ⟨x,H1,I1,r1,q1⟩=>?_)
 obtain ⟨c,rfl,q1⟩:=q1
 cases r1
 refine R6 ?_
 cases c with
 | true=>exact hb Qz s1 σ H1 Q I1 q1
 | false=>exact ⟨.bl false,H1,I1,rfl,q1⟩
theorem MB (ha:PE X a ta) (hb:PE X (.BoolOp .Or (b::rest) pos) tb):PE X (.BoolOp .Or (a::b::rest) pos) (NW ta tb):=by
 intro Qz s σ H Q I h
 refine BoolOp_or (bP (ha Qz s σ H _ I h) λv s1 ⟨x,H1,I1,r1,q1⟩=>?_)
 obtain ⟨c,rfl,q1⟩:=q1
 cases r1
 refine R6 ?_
 cases c with
 | false=>exact hb Qz s1 σ H1 Q I1 q1
 | true=>exact ⟨.bl true,H1,I1,rfl,q1⟩
theorem K_ (ha:PE X a ta):PE X (.UnaryOp .Not a pos) (MR ta):=by
 intro Qz s σ H Q I h
 refine UnaryOp_ (bP (ha Qz s σ H _ I h) λv s1 ⟨x,H1,I1,r1,q1⟩=>?_)
 obtain ⟨c,rfl,q1⟩:=q1
 cases r1
 exact not_of (R6 ⟨.bl (!c),H1,I1,rfl,q1⟩)
end
noncomputable def cG (K:QK) (H:Hp) (a:Q4) (xs:List V):Prop:=
 Rd H a (.lst xs)\/
  ∃(o:Obj) (QA:Array QM) (n:Nat),K.lookup a=some o/\o.cls=.type "list"/\o.dict=none/\o.data=.seq QA n/\QA.size<=sizeLine/\Vals xs QA.toList
noncomputable def cX (K:QK) (H:Hp) (a:Q4) (xs:List V):Prop:=
 Rd H a (.tup xs)\/
  ∃(o:Obj) (QA:Array QM) (n:Nat),K.lookup a=some o/\o.cls=.type "tuple"/\o.data=.seq QA n/\QA.size<=sizeLine/\Vals xs QA.toList
noncomputable def Nl:QM->Option V
 | .none=>some .non
 | .bool b=>some (.bl b)
 | .int i _=>some (.int i)
 | .str x _=>some (.str x)
 | .bytes b _=>some (.byt b)
 | .float b _=>some (.flt b)
 | .ref a=>some (.ref a)
 | .type n=>some (.ty n)
 | _=>none
theorem RelV.abs {x:V}{u:QM}(r:RelV x u):Nl u=some x:=by
 cases x with
 | non=>cases r;rfl
 | bl _=>cases r;rfl
 | int _=>obtain ⟨t,rfl⟩:=r;rfl
 | str _=>obtain ⟨t,rfl⟩:=r;rfl
 | byt _=>obtain ⟨t,rfl⟩:=r;rfl
 | flt _=>obtain ⟨t,rfl⟩:=r;rfl
 | ref _=>cases r;rfl
 | ty _=>cases r;rfl
theorem RelV.inj {x y:V}{u:QM}(r:RelV x u) (q:RelV y u):x=y:=R4 (r.abs.symm.trans q.abs)
theorem Vals.inj:∀{xs ys:List V}{us:List QM},Vals xs us->Vals ys us->xs=ys
 | _,_,_,.nil,.nil=>rfl
 | _,_,_,.cons r t,.cons r' t'=>by rw [r.inj r',Vals.inj t t']
section
variable {X:Cx}{Qz:List (Q4×Obj)}{σ:St}{H:Hp}{s:QN}{a:Q4}{xs ys:List V}
theorem cG.of {K:QK}(h:H a=some (.lst xs)):cG K H a xs:=.inl (.inl h)
theorem Inv.list (I:Inv X Qz σ H s) (h:cG X.K H a xs):∃QA:List QM,Vals xs QA/\PlainL s.heap a QA.toArray/\xs.length<=sizeLine:=by
 rcases h with h | ⟨o,QA,n,hk,hc,hd,hs,hz,r⟩
 ·obtain ⟨z,QA,n,r,e⟩:=h.ok I.hok
  exact ⟨QA,r,⟨_,n,e,rfl,rfl,rfl⟩,z⟩
 ·refine ⟨QA.toList,r,⟨o,n,I.kIn a o hk,hc,hd,by simpa using hs⟩,?_⟩
  have e:=r.length
  simp only [Q3] at e
  omega
theorem Inv.tuple (I:Inv X Qz σ H s) (h:cX X.K H a xs):∃QA:List QM,Vals xs QA/\aaW s.heap a QA.toArray/\xs.length<=sizeLine:=by
 rcases h with h | ⟨o,QA,n,hk,hc,hs,hz,r⟩
 ·obtain ⟨z,QA,r,p⟩:=h.ok I.hok
  exact ⟨QA,r,p,z⟩
 ·refine ⟨QA.toList,r,⟨o,I.kIn a o hk,hc,n,by simpa using hs⟩,?_⟩
  have e:=r.length
  simp only [Q3] at e
  omega
theorem Inv.list_inj (I:Inv X Qz σ H s) (h:cG X.K H a xs) (h':cG X.K H a ys):xs=ys:=by
 obtain ⟨QA,r,⟨o,n,e,_,_,d⟩,_⟩:=I.list h
 obtain ⟨its',r',⟨o',n',e',_,_,d'⟩,_⟩:=I.list h'
 rw [e] at e';cases e'
 rw [d] at d'
 injection d' with d1 _
 have:QA=its':=by simpa using congrArg Xs d1
 subst this
 exact r.inj r'
theorem Inv.tuple_inj (I:Inv X Qz σ H s) (h:cX X.K H a xs) (h':cX X.K H a ys):xs=ys:=by
 obtain ⟨QA,r,⟨o,e,_,n,d⟩,_⟩:=I.tuple h
 obtain ⟨its',r',⟨o',e',_,n',d'⟩,_⟩:=I.tuple h'
 rw [e] at e';cases e'
 rw [d] at d'
 injection d' with d1 _
 have:QA=its':=by simpa using congrArg Xs d1
 subst this
 exact r.inj r'
end
noncomputable abbrev Cx.wish (X:Cx) (E:QM->QN->Prop):Cx:={X with xe:=E}
noncomputable abbrev Cx.nox (X:Cx):Cx:=X.wish λ_ _=>False
theorem Cx.Ok.wish {X:Cx}(ok:X.Ok) (E:QM->QN->Prop):(X.wish E).Ok:=
 ⟨ok.mod,ok.kind,ok.glob,ok.blt,ok.above,ok.inj,ok.has,ok.cab,ok.hd,ok.frames,ok.stk,ok.exf,ok.bs,ok.bsz,ok.noex,ok.exfs,ok.funs,ok.frf⟩
theorem Cx.Ok.unwish {X:Cx}{E:QM->QN->Prop}(ok:(X.wish E).Ok):X.Ok:=
 ⟨ok.mod,ok.kind,ok.glob,ok.blt,ok.above,ok.inj,ok.has,ok.cab,ok.hd,ok.frames,ok.stk,ok.exf,ok.bs,ok.bsz,ok.noex,ok.exfs,ok.funs,ok.frf⟩
section
variable {X:Cx}{Qz:List (Q4×Obj)}{σ:St}{H:Hp}{s:QN}{E:QM->QN->Prop}
theorem Inv.wish (I:Inv X Qz σ H s) (E:QM->QN->Prop):Inv (X.wish E) Qz σ H s:=⟨I.ok.wish E,I.os,I.bare,I.base,I.loc,I.cell,I.free,I.freeC,I.pin,I.hok,I.len⟩
theorem Inv.unwish (I:Inv (X.wish E) Qz σ H s):Inv X Qz σ H s:=⟨I.ok.unwish,I.os,I.bare,I.base,I.loc,I.cell,I.free,I.freeC,I.pin,I.hok,I.len⟩
theorem SP.unwish {D:Ends}{f:Flow}{s':QN}(h:SP (X.wish E) Qz D f s'):SP X Qz D f s':=by
 cases f with
 | next=>obtain ⟨σ',H',I,q⟩:=h;exact ⟨σ',H',I.unwish,q⟩
 | brk=>obtain ⟨σ',H',I,q⟩:=h;exact ⟨σ',H',I.unwish,q⟩
 | cont=>obtain ⟨σ',H',I,q⟩:=h;exact ⟨σ',H',I.unwish,q⟩
 | ret u=>obtain ⟨v,σ',H',I,r,q⟩:=h;exact ⟨v,σ',H',I.unwish,r,q⟩
theorem jG.nox {st:List T9}{t:TS}(h:jG X.nox st t):jG X st t:=λQz s σ H D I hw=>
 RU (h Qz s σ H D (I.wish _) hw) (λ_ _ q=>q.unwish) λ_ _ z=>UE z
end
section
variable {X:Cx}{st:T9}{rest:List T9}{t u:TS}{e:Rz}{te:TE}{pos:Pos}
noncomputable def MQ:TS:=λD σ H=>D.nx σ H
noncomputable def NY (t u:TS):TS:=λD σ H=>t {D with nx:=u D} σ H
theorem IK:jG X [] MQ:=λ_ _ σ H _ I h=>V4 ⟨σ,H,I,h⟩
theorem FW (h1:PS X st t) (h2:jG X rest u):jG X (st::rest) (NY t u):=by
 intro Qz s σ H D I h
 refine Zp (bP (h1 Qz s σ H {D with nx:=u D} I h) λf s1 q=>?_)
 cases f with
 | next=>
  obtain ⟨σ',H',I',q⟩:=q
  exact h2 Qz s1 σ' H' D I' q
 | ret v=>exact q
 | brk=>exact q
 | cont=>exact q
theorem IL (h1:PS X st t):jG X [st] t:=by
 intro Qz s σ H D I h
 refine Zp (bP (h1 Qz s σ H D I h) λf s1 q=>?_)
 cases f with
 | next=>exact V4 q
 | ret v=>exact q
 | brk=>exact q
 | cont=>exact q
theorem Inv.quiet {Qz:List (Q4×Obj)}{σ:St}{H:Hp}{s:QN}(I:Inv X Qz σ H s):interactive X.env=false:=by simp [interactive,I.ok.kind]
noncomputable def MP (te:TE):TS:=λD σ H=>te σ H λ_ H1=>D.nx σ H1
theorem qb (he:PE X e te) (hs:Uo e none pos.line X.env=pure false:=by rfl):PS X (.Expr e pos) (MP te):=by
 intro Qz s σ H D I h
 exact wpAny_Expr_any (bP (he Qz s σ H _ I h) λv s1 ⟨x,H1,I1,r1,q1⟩=>⟨σ,H1,I1,q1⟩) I.quiet hs
noncomputable def NX (te:TE):TS:=λD σ H=>te σ H D.rt
theorem Ll (he:PE X e te):PS X (.Return (some e) pos) (NX te):=by
 intro Qz s σ H D I h
 exact wpAny_Return_some (bP (he Qz s σ H _ I h) λv s1 ⟨x,H1,I1,r1,q1⟩=>⟨x,σ,H1,I1,r1,q1⟩)
noncomputable def NT (c:TT) (t u:TS):TS:=λD σ H=>c σ H λb H1=>if b=true then t D σ H1 else u D σ H1
theorem MC {c:Rz}{a b:List T9}{tc:TT}(hc:PT X c tc) (ha:jG X a t) (hb:jG X b u):PS X (.If c a b pos) (NT tc t u):=by
 intro Qz s σ H D I h
 refine wpAny_If (bP (hc Qz s σ H _ I h) λd s1 ⟨H1,I1,q1⟩=>?_)
 cases d with
 | true=>exact ha Qz s1 σ H1 D I1 q1
 | false=>exact hb Qz s1 σ H1 D I1 q1
end
noncomputable abbrev TG:=V->St->Hp->(St->Hp->Prop)->Prop
noncomputable abbrev rQ:=List V->St->Hp->(St->Hp->Prop)->Prop
noncomputable def PG (X:Cx) (QC:Rz) (t:TG):Prop:=
 ∀(Qz:List (Q4×Obj)) (s:QN) (σ:St) (H:Hp) (v:V) (u:QM) (Q:St->Hp->Prop),Inv X Qz σ H s->RelV v u->t v σ H Q->
  Rg (Rk X.prog X.w) X.A (assign QC X.env u) (λ_ s'=>∃σ' H',Inv X Qz σ' H' s'/\Q σ' H') X.xe s
noncomputable def xg (X:Cx) (ts:List Rz) (t:rQ):Prop:=
 ∀(Qz:List (Q4×Obj)) (s:QN) (σ:St) (H:Hp) (vs:List V) (us:List QM) (Q:St->Hp->Prop),Inv X Qz σ H s->Vals vs us->t vs σ H Q->
  Rg (Rk X.prog X.w) X.A (assignInOrder ((Ub ts X.env).map (·.2)) us) (λ_ s'=>∃σ' H',Inv X Qz σ' H' s'/\Q σ' H') X.xe s
noncomputable abbrev A7:=V->V->V->Hp->(Hp->Prop)->Prop
noncomputable def JJ (X:Cx) (t:A7):Prop:=
 ∀(Qz:List (Q4×Obj)) (s:QN) (σ:St) (H:Hp) (o i v:V) (ov iv u:QM) (Q:Hp->Prop),Inv X Qz σ H s->RelV o ov->RelV i iv->RelV v u->t o i v H Q->
  Rg (Rk X.prog X.w) X.A (setItem ov iv u) (λ_ s'=>∃H',Inv X Qz σ H' s'/\Q H') X.xe s
noncomputable abbrev JL:=V->V->Hp->VK->Prop
noncomputable def N7 (X:Cx) (op:Yr) (t:JL):Prop:=
 ∀(Qz:List (Q4×Obj)) (s:QN) (σ:St) (H:Hp) (x y:V) (v u:QM) (Q:VK),Inv X Qz σ H s->RelV x v->RelV y u->t x y H Q->
  Rg (Rk X.prog X.w) X.A (Xu op v u) (EP X Qz σ Q) X.xe s
section
variable {X:Cx}{pos:Pos}
noncomputable def GW (i:Nat):TG:=λv σ H Q=>Q (σ.set i (some v)) H
theorem IF {i:Nat}{x:Str}(hN:X.N.Nodup) (hi:X.N[i]?=some x) (hx:Loc X.env.scope x) (hf:X.fn x=true\/X.env.scope.names.lookup x=some .local:=by first | exact .inl rfl | exact .inr rfl | assumption):PG X (.Name x pos) (GW i):=by
 intro Qz s σ H v u Q I r h
 exact wpAny_assign_Name (q9 I hN hi hx r (λs' I'=>⟨_,H,I',h⟩) hf)
noncomputable def aC:rQ:=λvs σ H Q=>vs=[]/\Q σ H
noncomputable def ao (t:TG) (u:rQ):rQ:=λvs σ H Q=>∃v r,vs=v::r/\t v σ H λσ' H'=>u r σ' H' Q
theorem IG:xg X [] aC:=by
 intro Qz s σ H vs us Q I r h
 obtain ⟨e,h⟩:=h
 subst e
 cases r
 exact assignInOrder_nil ⟨σ,H,I,h⟩
theorem FP {e:Rz}{es:List Rz}{t:TG}{u:rQ}(h1:PG X e t) (h2:xg X es u)
  (hs:(Ub (e::es) X.env).map (·.2)=assign e X.env::(Ub es X.env).map (·.2):=by rfl):xg X (e::es) (ao t u):=by
 intro Qz s σ H vs us Q I r h
 obtain ⟨v,vr,e1,h⟩:=h
 subst e1
 cases r with
 | cons r rr=>
  rw [hs]
  refine assignInOrder_cons (bP (h1 Qz s σ H _ _ _ I r h) λ_ s1 ⟨σ1,H1,I1,q1⟩=>?_)
  exact h2 Qz s1 σ1 H1 _ _ Q I1 rr q1
noncomputable def bJ (K:QK) (n:Nat) (t:rQ):TG:=λv σ H Q=>∃a xs,v=.ref a/\cX K H a xs/\xs.length=n/\t xs σ H Q
theorem Lf {es:List Rz}{k:Nat}{t:rQ}{n:Nat}(hc:X.calm=true) (h:xg X es t)
  (hn:(Ub es X.env).length=n:=by rfl) (hst:(Ub es X.env).findIdx? (·.1)=none:=by rfl):PG X (.Tuple es k pos) (bJ X.K n t):=by
 intro Qz s σ H v u Q I r hw
 obtain ⟨a,xs,e1,hq,hl,hw⟩:=hw
 subst e1
 cases r
 obtain ⟨QA,rv,ht,hz⟩:=I.tuple hq
 refine assign_Tuple_tuple (I.ok.hd hc) ht (by simp [hn,<-hl,rv.length]) hst λh' hx=>?_
 have I1:Inv X Qz σ H {s with heap:=h'}:=I.kept (t':=s.toks) λb o e=>hx b o (Rn (Q8 e)) e
 exact h Qz _ σ H xs _ Q I1 (by simpa using rv) hw
noncomputable def Nq (to ti:TE) (t:A7):TG:=λv σ H Q=>to σ H λo H1=>ti σ H1 λi H2=>t o i v H2 λH3=>Q σ H3
theorem Le {o i:Rz}{to ti:TE}{t:A7}(ho:PE X o to) (hi:PE X i ti) (hs:JJ X t)
  (ha:∀v,assign (.Subscript o i pos) X.env v=(do
   let ov <-holding [v] (eval o X.env)
   let iv <-holding [v,ov] (eval i X.env)
   Ug pos
   holding [v,ov,iv] (setItem ov iv v)
   release [v,ov,iv] []):=by intro _;rfl):PG X (.Subscript o i pos) (Nq to ti t):=by
 intro Qz s σ H v u Q I r h
 rw [ha]
 refine QJ (Ru (bP (ho Qz s σ H _ I h) λov s1 ⟨x,H1,I1,r1,q1⟩=>?_))
 refine QJ (Ru (bP (hi Qz s1 σ H1 _ I1 q1) λiv s2 ⟨y,H2,I2,r2,q2⟩=>?_))
 refine QJ (SK (QJ (Ru (bP (hs Qz s2 σ H2 x y v ov iv u _ I2 r1 r2 r q2) λ_ s3 ⟨H3,I3,q3⟩=>?_))))
 exact wpAny_release ⟨σ,H3,I3,q3⟩
noncomputable def Gz (te:TE) (g:TG):TS:=λD σ H=>te σ H λx H1=>g x σ H1 D.nx
theorem D5 {tg e:Rz}{te:TE}{g:TG}(he:PE X e te) (hg:PG X tg g) (hs:Va [tg] e pos.line X.env=pure false:=by rfl) (hw:Ys [tg] e X.env=pure none:=by rfl)
  (h1:(Ub [tg] X.env).map (·.2)=[assign tg X.env]:=by rfl):PS X (.Assign [tg] e pos) (Gz te g):=by
 intro Qz s σ H D I h
 refine wpAny_Assign_stores (bP (he Qz s σ H _ I h) λv s1 ⟨x,H1,I1,r1,q1⟩=>?_) hs hw
 rw [h1]
 exact bP (hg Qz s1 σ H1 x v _ I1 r1 q1) λ_ s2 q=>q
theorem Lm {i:Nat}{x:Str}{e:Rz}{te:TE}{pos':Pos}(hN:X.N.Nodup) (hi:X.N[i]?=some x) (hx:Loc X.env.scope x) (he:PE X e te) (hs:Uo e (some (.Name x pos')) pos.line X.env=pure false:=by rfl) (hf:X.fn x=true\/X.env.scope.names.lookup x=some .local:=by first | exact .inl rfl | exact .inr rfl | assumption):
  PS X (.Assign [.Name x pos'] e pos) (Gz te (GW i)):=by
 intro Qz s σ H D I h
 refine wpAny_Assign_Name (bP (he Qz s σ H _ I h) λv s1 ⟨y,H1,I1,r1,q1⟩=>?_) hs
 exact q9 I1 hN hi hx r1 (λs2 I2=>⟨_,H1,I2,q1⟩) hf
noncomputable def NR (i:Nat) (te:TE) (ti:JL):TS:=λD σ H=>∃x,σ[i]?=some (some x)/\te σ H λy H1=>ti x y H1 λz H2=>D.nx (σ.set i (some z)) H2
theorem Li {i:Nat}{x:Str}{e:Rz}{te:TE}{op:Yr}{ti:JL}{pos':Pos}(hN:X.N.Nodup) (hi:X.N[i]?=some x) (hx:Loc X.env.scope x) (he:PE X e te) (ho:N7 X op ti) (hf:X.fn x=true\/X.env.scope.names.lookup x=some .local:=by first | exact .inl rfl | exact .inr rfl | assumption):
  PS X (.AugAssign (.Name x pos') op e pos) (NR i te ti):=by
 intro Qz s σ H D I h
 obtain ⟨v,e1,h⟩:=h
 obtain ⟨m,hn,hl⟩:=I.loc
 have vis:qu X.env.scope x:=by rcases hx with k | k;exact .inl k;exact .inr (.inl k)
 obtain ⟨u,r,l⟩:=hl i x v hi e1 vis
 refine wpAny_AugAssign_Name ?_
 have go:Rg (Rk X.prog X.w) X.A (eval e X.env) (λw s₂=>Rg (Rk X.prog X.w) X.A (Xu op u w) (λr s₃=>Rg (Rk X.prog X.w) X.A (aaX X.env x r) (λ_=>SP X Qz D .next) X.xe s₃) X.xe s₂) X.xe s:=by
  refine bP (he Qz s σ H _ I h) λw s1 ⟨y,H1,I1,r1,q1⟩=>?_
  refine bP (ho Qz s1 σ H1 v y u w _ I1 r r1 q1) λz s2 ⟨zv,H2,I2,r2,q2⟩=>?_
  exact q9 I2 hN hi hx r2 (λs3 I3=>⟨_,H2,I3,q2⟩) hf
 rcases l with ⟨hk,hm⟩ | ⟨hk,c,hc,hcell⟩
 ·exact XY I.ok.kind hk hn hm go
 ·rcases hk with hk | hk
  ·exact Yh I.ok.kind hk hc hcell go
  ·rcases hx with k | k
   ·have:X.env.scope.names.lookup x=some .free:=hk
    rw [k] at this;cases this
   ·have:X.env.scope.names.lookup x=some .free:=hk
    rw [k] at this;cases this
noncomputable def LO (c:TT) (tb:TS):TS:=λD σ H=>∃W:Nat->St->Hp->Prop,(∃m,W m σ H)/\∀m σ H,W m σ H->
 c σ H λb H1=>if b=true then ∃N:St->Hp->Prop,(∀σ' H',N σ' H'->∃m',m' < m/\W m' σ' H')/\tb {D with nx:=N,ct:=N,bk:=D.nx} σ H1 else D.nx σ H1
theorem FU {c:Rz}{body:List T9}{tc:TT}{tb:TS}(hp:ZC (Rk X.prog X.w) X.A X.env X.xe) (hc:PT X c tc) (hb:jG X body tb):PS X (.While c body [] pos) (LO tc tb):=by
 intro Qz s σ H D I h
 obtain ⟨W,⟨m0,w0⟩,turn⟩:=h
 refine wpAny_While (codeAny_whileLoop (λn s'=>∃σ' H',Inv X Qz σ' H' s'/\W n σ' H') ?_ m0 ⟨σ,H,I,w0⟩)
 rintro n s1 ⟨σ1,H1,I1,w1⟩
 refine Uc hp (bP (hc Qz s1 σ1 H1 _ I1 (turn n σ1 H1 w1)) λb s2 ⟨H2,I2,q2⟩=>?_)
 cases b with
 | true=>
  obtain ⟨N,hN,q2⟩:=q2
  rw [if_pos rfl]
  refine Uc hp (bP (hb Qz s2 σ1 H2 _ I2 q2) λf s3 q3=>?_)
  cases f with
  | next=>
   obtain ⟨σ3,H3,I3,n3⟩:=q3
   obtain ⟨m',hm,w3⟩:=hN σ3 H3 n3
   exact ⟨m',hm,σ3,H3,I3,w3⟩
  | cont=>
   obtain ⟨σ3,H3,I3,n3⟩:=q3
   obtain ⟨m',hm,w3⟩:=hN σ3 H3 n3
   exact ⟨m',hm,σ3,H3,I3,w3⟩
  | brk=>exact q3
  | ret v=>exact q3
 | false=>
  rw [if_neg RB]
  exact V4 ⟨σ1,H2,I2,q2⟩
end
structure It where
 go:Nat->Hp->Prop
 yld:Nat->Hp->V->Hp->Prop
 stop:Nat->Hp->Prop
noncomputable def jB (X:Cx) (Qz:List (Q4×Obj)) (H:Hp) (b:Q4):Prop:=
 H b=none/\b≠X.env.locals/\b∉X.fs/\(b∈X.ex\/X.s₀.heap.objs.size<=b)/\(∀x c,X.env.cells.lookup x=some c->c≠b)/\∀p∈X.pn++Qz,p.1≠b
theorem Inv.fpOk {X:Cx}{Qz:List (Q4×Obj)}{σ:St}{H H':Hp}{s:QN}{b:Q4}(I:Inv X Qz σ H s) (hb:s.heap.objs.size<=b) (hn:H' b=none):jB X Qz H' b:=by
 refine ⟨hn,UB (Rl I.lt hb),I.nofs hb,.inr (RE I.sz hb),λx c e z=>?_,λp hp z=>?_⟩
 ·obtain ⟨v,q⟩:=I.cell x c e
  exact absurd (Rl q.lt (by rw [z];exact hb)) (SJ _)
 ·exact absurd (Rl (Q8 (I.pin p hp).1) (by rw [z];exact hb)) (SJ _)
structure Turn (P:Rb) (w:RD) (K:QK) (tg:Rz) (J:It) (fp:List Q4) (it:Q4) (tn:Nat->Sn->Prop):Prop where
 mem:it∈fp
 obj:∀i h,tn i h->∀b∈fp,∃o,h.get? b=some o/\∀v,o.data≠.cell v
 keep:∀i h h',tn i h->(∀b∈fp,∀o,h.get? b=some o->h'.get? b=some o)->tn i h'
 item:∀(X:Cx),X.prog=P->X.w=w->X.K=K->X.calm=true->∀(i:Nat) (Qz:List (Q4×Obj)) (s:QN) (σ:St) (H:Hp) (E:QM->QN->Prop),Inv X Qz σ H s->(∀b∈fp,jB X Qz H b)->tn i s.heap->J.go i H->
  Rg (Rk P w) X.A (Vq (.ref it)) (λr s1=>∃u,r=some u/\
   Rg (Rk P w) X.A (Tu tg (.ref it) u) (λ_ s2=>∃x H',Inv X Qz σ H' s2/\RelV x u/\J.yld i H x H'/\tn (i + 1) s2.heap/\∀b∈fp,H' b=none) E s1) E s
 done:∀(X:Cx),X.prog=P->X.w=w->X.K=K->X.calm=true->∀(i:Nat) (Qz:List (Q4×Obj)) (s:QN) (σ:St) (H:Hp) (E:QM->QN->Prop),Inv X Qz σ H s->(∀b∈fp,jB X Qz H b)->tn i s.heap->J.stop i H->
  Rg (Rk P w) X.A (Vq (.ref it)) (λr s1=>r=none/\Inv X Qz σ H s1) E s
 self:∀(A:RG) (i:Nat) (s:QN) (Q:QM->QN->Prop) (E:QM->QN->Prop),tn i s.heap->Q (.ref it) s->Rg (Rk P w) A (WD (.ref it)) Q E s
noncomputable abbrev TI:=St->Hp->(It->Hp->Prop)->Prop
noncomputable def M3 (X:Cx) (Qz:List (Q4×Obj)) (σ:St) (tg:Rz) (R:It->Hp->Prop) (itv:QM) (s2:QN):Prop:=
 ∃(it:Q4) (fp:List Q4) (tn:Nat->Sn->Prop) (J:It) (H':Hp),itv=.ref it/\Inv X Qz σ H' s2/\Turn X.prog X.w X.K tg J fp it tn/\tn 0 s2.heap/\(∀b∈fp,jB X Qz H' b)/\R J H'
noncomputable def PI (X:Cx) (tg QE:Rz) (wi:TI):Prop:=
 ∀(Qz:List (Q4×Obj)) (s:QN) (σ:St) (H:Hp) (R:It->Hp->Prop),Inv X Qz σ H s->wi σ H R->
  Rg (Rk X.prog X.w) X.A (eval QE X.env) (λv s1=>Rg (Rk X.prog X.w) X.A (WD v) (M3 X Qz σ tg R) X.xe s1) X.xe s
theorem wJ {M:abd}{A:RG}{E:QM->QN->Prop}{s:QN}{tg:Rz}{it:Q4}{u:QM}{o:Obj}{n:String}{vs:Array QM}{Q:Unit->QN->Prop}(ho:s.heap.get? it=some o) (hc:o.cls=.type n) (hd:o.data=.fields vs)
  (hn:["enumerate","zip","dict_itemiterator","dict_reverseitemiterator","odict_iterator","itertools.zip_longest","itertools.pairwise"].contains n=false) (hQ:Q () s):Rg M A (Tu tg (.ref it) u) Q E s:=by
 unfold Tu
 cases tg <;> first
  | exact QL hQ
  | (cases u <;> first
    | exact QL hQ
    | (refine QJ (wpAny_load ho ?_);rw [hc,hd];show Rg M A (if (["enumerate","zip","dict_itemiterator","dict_reverseitemiterator","odict_iterator","itertools.zip_longest","itertools.pairwise"].contains n && vs[0]? == some (aal _))=true then _ else _) Q E s;rw [if_neg (by intro h;rw [hn,Bool.false_and] at h;cases h)];exact QL hQ))
noncomputable def GD (K:QK) (a:Q4):It:=
 ⟨λi H=>∃xs x,cG K H a xs/\xs[i]?=some x,λi H x H'=>H'=H/\∀xs,cG K H a xs->xs[i]?=some x,λi H=>∃xs,cG K H a xs/\xs.length<=i⟩
noncomputable def GG (K:QK) (a:Q4):It:=
 ⟨λi H=>∃xs x,cX K H a xs/\xs[i]?=some x,λi H x H'=>H'=H/\∀xs,cX K H a xs->xs[i]?=some x,λi H=>∃xs,cX K H a xs/\xs.length<=i⟩
noncomputable def GF (lo:Int) (n:Nat):It:=⟨λi _=>i < n,λi H x H'=>H'=H/\x=.int (lo + i),λi _=>n<=i⟩
theorem Eo {P:Rb}{w:RD}{K:QK}{tg:Rz}(a it:Q4):Turn P w K tg (GD K a) [it] it (λi h=>h.IsListIter it a i) where
 mem:=by simp
 obj:=λi h st b hb=>by
  have e:b=it:=by simpa using hb
  subst e
  obtain ⟨o,e,c,d⟩:=st
  exact ⟨o,e,λv z=>by rw [d] at z;cases z⟩
 keep:=λi h h' st k=>st.at λo e=>k it (by simp) o e
 item:=by
  intro X hP hw hK hc i Qz s σ H E I hf st hg
  subst hP hw hK
  obtain ⟨xs,x,hq,hx⟩:=hg
  obtain ⟨QA,rv,p,hz⟩:=I.list hq
  obtain ⟨u,hu,ru⟩:=rv.get hx
  obtain ⟨f0,f1,f2,f3,f4,f5⟩:=hf it (by simp)
  refine wpAny_pyNext_list_item st p.isList (x:=u) (by simpa using hu) λh' st' sb=>?_
  have I1:Inv X Qz σ H {s with heap:=h'}:=I.turned (t':=s.toks) (λb o hb e=>(sb.2 b hb).trans e) f0 f1 f3 f4 f5
  obtain ⟨o,e,c,d⟩:=id st'
  exact ⟨u,rfl,wJ (s:={s with heap:=h'}) e c d (by decide) ⟨x,H,I1,ru,⟨rfl,λys hy=>by rw [I.list_inj hy hq];exact hx⟩,st',λb hb=>(hf b hb).1⟩⟩
 done:=by
  intro X hP hw hK hc i Qz s σ H E I hf st hg
  subst hP hw hK
  obtain ⟨xs,hq,hx⟩:=hg
  obtain ⟨QA,rv,p,hz⟩:=I.list hq
  obtain ⟨f0,f1,f2,f3,f4,f5⟩:=hf it (by simp)
  have hl:=rv.length
  exact wpAny_pyNext_list_end (I.ok.hd hc) st p.isList (by simp;omega) λh' eb=>⟨rfl,I.turned (t':=s.toks) (λb o hb e=>eb b o hb e) f0 f1 f3 f4 f5⟩
 self:=λ_ _ _ _ _ st h=>wpAny_pyIter_listiter st h
theorem Cn {P:Rb}{w:RD}{K:QK}{tg:Rz}(a it:Q4):Turn P w K tg (GG K a) [it] it (λi h=>h.IsTupleIter it a i) where
 mem:=by simp
 obj:=λi h st b hb=>by
  have e:b=it:=by simpa using hb
  subst e
  obtain ⟨o,e,c,d⟩:=st
  exact ⟨o,e,λv z=>by rw [d] at z;cases z⟩
 keep:=λi h h' st k=>st.at λo e=>k it (by simp) o e
 item:=by
  intro X hP hw hK hc i Qz s σ H E I hf st hg
  subst hP hw hK
  obtain ⟨xs,x,hq,hx⟩:=hg
  obtain ⟨QA,rv,p,hz⟩:=I.tuple hq
  obtain ⟨u,hu,ru⟩:=rv.get hx
  obtain ⟨f0,f1,f2,f3,f4,f5⟩:=hf it (by simp)
  refine wpAny_pyNext_tuple_item st (show s.heap.IsTuple a QA.toArray from p) (x:=u) (by simpa using hu) λh' st' sb=>?_
  have I1:Inv X Qz σ H {s with heap:=h'}:=I.turned (t':=s.toks) (λb o hb e=>(sb.2 b hb).trans e) f0 f1 f3 f4 f5
  obtain ⟨o,e,c,d⟩:=id st'
  exact ⟨u,rfl,wJ (s:={s with heap:=h'}) e c d (by decide) ⟨x,H,I1,ru,⟨rfl,λys hy=>by rw [I.tuple_inj hy hq];exact hx⟩,st',λb hb=>(hf b hb).1⟩⟩
 done:=by
  intro X hP hw hK hc i Qz s σ H E I hf st hg
  subst hP hw hK
  obtain ⟨xs,hq,hx⟩:=hg
  obtain ⟨QA,rv,p,hz⟩:=I.tuple hq
  obtain ⟨f0,f1,f2,f3,f4,f5⟩:=hf it (by simp)
  have hl:=rv.length
  exact wpAny_pyNext_tuple_end (I.ok.hd hc) st (show s.heap.IsTuple a QA.toArray from p) (by simp;omega) λh' eb=>⟨rfl,I.turned (t':=s.toks) (λb o hb e=>eb b o hb e) f0 f1 f3 f4 f5⟩
 self:=λ_ _ _ _ _ st h=>wpAny_pyIter_tupleiter st h
theorem Cm {P:Rb}{w:RD}{K:QK}{tg:Rz}(it:Q4) (lo:Int) (n:Nat):Turn P w K tg (GF lo n) [it] it (λi h=>IsRangeIter h it (lo + (i:Nat) * 1) ((n:Int) - (i:Nat)) 1) where
 mem:=by simp
 obj:=λi h st b hb=>by
  have e:b=it:=by simpa using hb
  subst e
  exact ⟨_,st,λv z=>by
   have z':Data.fields _=Data.cell v:=z
   cases z'⟩
 keep:=λi h h' st k=>k it (by simp) _ st
 item:=by
  intro X hP hw hK hc i Qz s σ H E I hf st hg
  subst hP hw hK
  obtain ⟨f0,f1,f2,f3,f4,f5⟩:=hf it (by simp)
  have W:=Walks.range (prog:=X.prog) (w:=X.w) (I.ok.hd hc) it lo 1 n
  refine W.item i s _ _ hg st λv h' tk hv st' kk=>?_
  obtain ⟨t,rfl⟩:=hv
  have I1:Inv X Qz σ H {s with heap:=h',toks:=tk}:=I.turned (λb o hb e=>kk b o (by simpa using hb) e) f0 f1 f3 f4 f5
  refine ⟨_,rfl,wJ (s:={s with heap:=h',toks:=tk}) (n:="range_iterator") st' rfl rfl (by decide) ⟨.int (lo + i),H,I1,⟨t,?_⟩,⟨rfl,rfl⟩,st',λb hb=>(hf b hb).1⟩⟩
  rw [Int.mul_one]
 done:=by
  intro X hP hw hK hc i Qz s σ H E I hf st hg
  subst hP hw hK
  obtain ⟨f0,f1,f2,f3,f4,f5⟩:=hf it (by simp)
  exact wpAny_pyNext_range_end (I.ok.hd hc) st (by have:n<=i:=hg;omega) λh' eb=>⟨rfl,I.turned (t':=s.toks) (λb o hb e=>eb b o hb e) f0 f1 f3 f4 f5⟩
 self:=λ_ _ _ _ _ st h=>wpAny_pyIter_rangeiter st h
section
variable {X:Cx}{tg:Rz}
theorem Gh {Qz:List (Q4×Obj)}{σ:St}{H:Hp}{s:QN}{R:It->Hp->Prop}{E:QM->QN->Prop}{lo hi:Int}{t u v:Tok}{tk:Nat}(I:Inv X Qz σ H s) (h1:-(2 ^ 62)<=lo) (h2:lo < 2 ^ 62) (h3:-(2 ^ 62)<=hi) (h4:hi < 2 ^ 62)
  (q:R (GF lo (hi - lo).toNat) H):Rg (Rk X.prog X.w) X.A (WD (.ref s.heap.objs.size)) (M3 X Qz σ tg R) E {s with heap:=s.heap.push {cls:=.type "range",data:=.fields #[.int lo t,.int hi u,.int 1 v]},toks:=tk}:=by
 refine wpAny_pyIter_range (IsRange.new ..) (small_one h1 h2 h3 h4) ?_
 have I1:Inv X Qz σ H {s with heap:=s.heap.push {cls:=.type "range",data:=.fields #[.int lo t,.int hi u,.int 1 v]},toks:=tk}:=I.kept λb o e=>QV _ e
 refine ⟨(s.heap.push {cls:=.type "range",data:=.fields #[.int lo t,.int hi u,.int 1 v]}).objs.size,[(s.heap.push {cls:=.type "range",data:=.fields #[.int lo t,.int hi u,.int 1 v]}).objs.size],_,_,H,rfl,
  I1.kept (t':=tk) λb o e=>QV _ e,Cm _ lo (hi - lo).toNat,?_,λb hb=>?_,q⟩
 ·have e1:lo + ((0:Nat):Int) * 1=lo:=by simp
  have e2:(((hi - lo).toNat:Nat):Int) - ((0:Nat):Int)=WX lo hi 1:=by rw [aaz];split <;> omega
  show IsRangeIter _ _ (lo + ((0:Nat):Int) * 1) ((((hi - lo).toNat:Nat):Int) - ((0:Nat):Int)) 1
  rw [e1,e2]
  exact Q7 _ rfl
 ·have e:b=(s.heap.push {cls:=.type "range",data:=.fields #[.int lo t,.int hi u,.int 1 v]}).objs.size:=by simpa using hb
  subst e
  exact I1.fpOk (QY _) (I1.hok.fresh (QY _))
noncomputable def Mi (ta:TA):TI:=λσ H R=>ta σ H λvs H1=>∃j:Int,vs=[.int j]/\-(2 ^ 62)<=j/\j < 2 ^ 62/\R (GF 0 j.toNat) H1
theorem DZ {a:Rz}{ta:TA}{p pos:Pos}(hg:Gl X "range") (hm:X.mg "range"=none) (ha:PA X [a] ta) (hs:QZ [a] X.env=[(false,eval a X.env)]:=by rfl):PI X tg (.Call (.Name "range" p) [a] [] pos) (Mi ta):=by
 intro Qz s σ H R I h
 refine Call_ (sO I hg hm boot_range (V5 (bP (ha pos Qz s σ H _ I h) λus s1 ⟨vs,H1,I1,r1,q1⟩=>?_) hs rfl))
 obtain ⟨j,e,q1,q2,q⟩:=q1
 subst e
 cases r1 with
 | cons r rr=>
  cases rr
  obtain ⟨t,rfl⟩:=r
  exact call_range_1 (Gh I1 (by omega) (by omega) q1 q2 (by simpa using q))
noncomputable def NS (wi:TI) (g:TG) (tb:TS):TS:=λD σ H=>wi σ H λJ H1=>∃W:Nat->Nat->St->Hp->Prop,(∃m,W 0 m σ H1)/\∀i m σ H,W i m σ H->
 (J.stop i H/\D.nx σ H)\/(J.go i H/\∃N:St->Hp->Prop,(∀σ' H',N σ' H'->∃m',m' < m/\W (i + 1) m' σ' H')/\∀x H',J.yld i H x H'->g x σ H' λσ2 H2=>tb {D with nx:=N,ct:=N,bk:=D.nx} σ2 H2)
noncomputable def o7 (fp:List Q4) (h:Sn):List (Q4×Obj):=fp.filterMap λb=>(h.get? b).map λo=>(b,o)
theorem jN {fp:List Q4}{h:Sn}{b:Q4}{o:Obj}(hb:b∈fp) (e:h.get? b=some o):(b,o)∈o7 fp h:=Vb.mpr ⟨b,hb,by rw [e];rfl⟩
theorem DG {fp:List Q4}{h:Sn}{p:Q4×Obj}(hp:p∈o7 fp h):p.1∈fp/\h.get? p.1=some p.2:=by
 obtain ⟨b,hb,e⟩:=Vb.mp hp
 cases q:h.get? b with
 | none=>rw [q] at e;cases e
 | some o=>
  rw [q] at e
  have e':(b,o)=p:=R4 e
  subst e'
  exact ⟨hb,q⟩
theorem Inv.pinned {Qz:List (Q4×Obj)}{σ:St}{H:Hp}{s:QN}{fp:List Q4}(I:Inv X Qz σ H s) (hf:∀b∈fp,jB X Qz H b) (ho:∀b∈fp,∃o,s.heap.get? b=some o/\∀v,o.data≠.cell v):Inv X (Qz++o7 fp s.heap) σ H s:=
 I.pins_of λp hp=>(Rx.mp hp).elim (λz=>I.pin p (RO _ z)) λz=>by
  obtain ⟨hb,e⟩:=DG z
  obtain ⟨f0,f1,f2,_⟩:=hf p.1 hb
  obtain ⟨o,e',d⟩:=ho p.1 hb
  rw [e] at e';cases e'
  exact ⟨e,f0,f1,f2,d⟩
theorem Inv.unpinned {Qz pl:List (Q4×Obj)}{σ:St}{H:Hp}{s:QN}(I:Inv X (Qz++pl) σ H s):Inv X Qz σ H s:=I.pins_of λp hp=>I.pin p (RO _ (T8 _ hp))
theorem Lk {QE:Rz}{body:List T9}{wi:TI}{g:TG}{tb:TS}{pos:Pos}(hp:ZC (Rk X.prog X.w) X.A X.env X.xe) (hc:X.calm=true) (hi:PI X tg QE wi) (hg:PG X tg g) (hb:jG X body tb)
  (hs:∀x,Q_ QE X.env x=pure x:=by intro _;rfl):PS X (.For tg QE body [] pos) (NS wi g tb):=by
 intro Qz s σ H D I h
 refine wpAny_For (bP (hi Qz s σ H _ I h) λv s1 h1=>bP h1 λitv s2 h2=>?_) hs
 obtain ⟨it,fp,tn,J,H2,e,I2,T,st2,f2,W,⟨m0,w0⟩,turn⟩:=h2
 subst e
 have stat:∀{H':Hp},(∀b∈fp,H' b=none)->∀b∈fp,jB X Qz H' b:=λhn b hb=>⟨hn b hb,(f2 b hb).2⟩
 refine codeAny_forLoop_any (λn s'=>∃i σ' H',Inv X Qz σ' H' s'/\tn i s'.heap/\(∀b∈fp,H' b=none)/\W i n σ' H') ?_ m0 ⟨0,σ,H2,I2,st2,λb hb=>(f2 b hb).1,w0⟩
 rintro n s3 ⟨i,σ3,H3,I3,st3,fr3,w3⟩
 rcases turn i n σ3 H3 w3 with ⟨stop,qn⟩ | ⟨go,N,hN,step⟩
 ·refine Uc hp (bP (T.done X rfl rfl rfl hc i Qz s3 σ3 H3 X.xe I3 (stat fr3) st3 stop) λr s4 ⟨hr,I4⟩=>?_)
  subst hr
  exact V4 ⟨σ3,H3,I4,qn⟩
 ·refine Uc hp (bP (T.item X rfl rfl rfl hc i Qz s3 σ3 H3 X.xe I3 (stat fr3) st3 go) λr s4 ⟨u,hr,h4⟩=>?_)
  subst hr
  refine Uc hp (bP h4 λ_ s5 ⟨x,H5,I5,r5,y5,st5,fr5⟩=>?_)
  have I5':=I5.pinned (stat fr5) (T.obj _ _ st5)
  refine Uc hp (bP (hg _ s5 σ3 H5 x u _ I5' r5 (step x H5 y5)) λ_ s6 ⟨σ6,H6,I6,q6⟩=>?_)
  refine Uc hp (bP (hb _ s6 σ6 H6 _ I6 q6) λf s7 q7=>?_)
  have again:∀{σ7:St}{H7:Hp},Inv X (Qz++o7 fp s5.heap) σ7 H7 s7->N σ7 H7->∃m,m < n/\∃i σ' H',Inv X Qz σ' H' s7/\tn i s7.heap/\(∀b∈fp,H' b=none)/\W i m σ' H':=fun {σ7 H7} I7 n7=>by
   obtain ⟨m',hm,w7⟩:=hN σ7 H7 n7
   refine ⟨m',hm,i + 1,σ7,H7,I7.unpinned,T.keep _ _ _ st5 λb hb o e=>(I7.pin (b,o) (RO _ (RO _ (jN hb e)))).1,λb hb=>?_,w7⟩
   obtain ⟨o,e,d⟩:=T.obj _ _ st5 b hb
   exact (I7.pin (b,o) (RO _ (RO _ (jN hb e)))).2.1
  cases f with
  | next=>obtain ⟨σ7,H7,I7,n7⟩:=q7;exact again I7 n7
  | cont=>obtain ⟨σ7,H7,I7,n7⟩:=q7;exact again I7 n7
  | brk=>obtain ⟨σ7,H7,I7,q7⟩:=q7;exact ⟨σ7,H7,I7.unpinned,q7⟩
  | ret v=>obtain ⟨x7,σ7,H7,I7,r7,q7⟩:=q7;exact ⟨x7,σ7,H7,I7.unpinned,r7,q7⟩
end
noncomputable abbrev R2:=V->V->Hp->VK->Prop
noncomputable def c_ (X:Cx) (f:QM->QM->Sem QM) (r:R2):Prop:=
 ∀(Qz:List (Q4×Obj)) (s:QN) (σ:St) (H:Hp) (x y:V) (v u:QM) (Q:VK),Inv X Qz σ H s->RelV x v->RelV y u->r x y H Q->
  Rg (Rk X.prog X.w) X.A (f v u) (EP X Qz σ Q) X.xe s
noncomputable def JM (X:Cx) (f:QM->Sem QM) (r:V->Hp->VK->Prop):Prop:=
 ∀(Qz:List (Q4×Obj)) (s:QN) (σ:St) (H:Hp) (x:V) (v:QM) (Q:VK),Inv X Qz σ H s->RelV x v->r x H Q->
  Rg (Rk X.prog X.w) X.A (f v) (EP X Qz σ Q) X.xe s
noncomputable def bU (X:Cx) (f:QM) (r:List V->Hp->VK->Prop):Prop:=
 ∀(Qz:List (Q4×Obj)) (s:QN) (σ:St) (H:Hp) (xs:List V) (us:List QM) (Q:VK),Inv X Qz σ H s->Vals xs us->r xs H Q->
  Rg (Rk X.prog X.w) X.A (call f us) (EP X Qz σ Q) X.xe s
noncomputable def Nj (X:Cx) (r:V->Hp->(Bool->Hp->Prop)->Prop):Prop:=
 ∀(Qz:List (Q4×Obj)) (s:QN) (σ:St) (H:Hp) (x:V) (v:QM) (Q:Bool->Hp->Prop),Inv X Qz σ H s->RelV x v->r x H Q->
  Rg (Rk X.prog X.w) X.A (truthy v) (TP X Qz σ Q) X.xe s
noncomputable def Ej (r:R2) (ta tb:TE):TE:=λσ H Q=>ta σ H λx H1=>tb σ H1 λy H2=>r x y H2 Q
noncomputable def Ol (r:V->Hp->VK->Prop) (ta:TE):TE:=λσ H Q=>ta σ H λx H1=>r x H1 Q
noncomputable def rI (C:Int->Int->Prop) (g:Int->Int->V):R2:=λx y H Q=>∃i j,x=.int i/\y=.int j/\C i j/\Q (g i j) H
noncomputable def pe (g:Int->Int->V):R2:=λx y H Q=>∃i j,x=.int i/\y=.int j/\Q (g i j) H
noncomputable def rU (g:Int->V):V->Hp->VK->Prop:=λx H Q=>∃i,x=.int i/\Q (g i) H
section
variable {X:Cx}{a b c:Rz}{ta tb tc:TE}{pos:Pos}
theorem EJ (ha:PE X a ta) (hb:PE X b tb){Qz:List (Q4×Obj)}{s:QN}{σ:St}{H:Hp}{R:V->V->Hp->Prop}(I:Inv X Qz σ H s)
  (h:ta σ H λx H1=>tb σ H1 λy H2=>R x y H2){Q:QM->QN->Prop}{f:QM->QM->Sem QM}
  (hf:∀v u s2 x y H2,Inv X Qz σ H2 s2->RelV x v->RelV y u->R x y H2->Rg (Rk X.prog X.w) X.A (f v u) Q X.xe s2):
  Rg (Rk X.prog X.w) X.A (eval a X.env) (λv s₁=>Rg (Rk X.prog X.w) X.A (eval b X.env) (λu s₂=>Rg (Rk X.prog X.w) X.A (f v u) Q X.xe s₂) X.xe s₁) X.xe s:=by
 refine bP (ha Qz s σ H _ I h) λv s1 ⟨x,H1,I1,r1,q1⟩=>?_
 refine bP (hb Qz s1 σ H1 _ I1 q1) λu s2 ⟨y,H2,I2,r2,q2⟩=>?_
 exact hf v u s2 x y H2 I2 r1 r2 q2
theorem MA {op:Yr}{r:R2}(ho:c_ X (UG op) r) (ha:PE X a ta) (hb:PE X b tb):PE X (.BinOp a op b pos) (Ej r ta tb):=by
 intro Qz s σ H Q I h
 exact wpAny_BinOp (EJ ha hb I h λv u s2 x y H2 I2 rx ry q=>ho Qz s2 σ H2 x y v u Q I2 rx ry q)
theorem G4 {op:UnaryOp}{r:V->Hp->VK->Prop}(ho:JM X (unaryOp op) r) (ha:PE X a ta):PE X (.UnaryOp op a pos) (Ol r ta):=by
 intro Qz s σ H Q I h
 exact UnaryOp_ (bP (ha Qz s σ H _ I h) λv s1 ⟨x,H1,I1,r1,q1⟩=>ho Qz s1 σ H1 x v Q I1 r1 q1)
theorem Nm {op:Yr}{r:R2}(ho:c_ X (Xu op) r){Qz:List (Q4×Obj)}{s:QN}{σ:St}{H:Hp}{x y:V}{v u:QM}{Q:VK}(I:Inv X Qz σ H s)
  (rx:RelV x v) (ry:RelV y u) (q:r x y H Q):Rg (Rk X.prog X.w) X.A (Xu op v u) (EP X Qz σ Q) X.xe s:=ho Qz s σ H x y v u Q I rx ry q
theorem G2 {f:QM->QM->Sem QM}{C:Int->Int->Prop}{g:Int->Int->Int}
  (rule:∀(i j:Int) (t u:Tok) (s:QN) (Q:QM->QN->Prop) (E:QM->QN->Prop),C i j->Q (.int (g i j) s.toks) {s with toks:=s.toks + 1}->Rg (Rk X.prog X.w) X.A (f (.int i t) (.int j u)) Q E s):
  c_ X f (rI C λi j=>.int (g i j)):=by
 intro Qz s σ H x y v u Q I rx ry h
 obtain ⟨i,j,rfl,rfl,hc,q⟩:=h
 obtain ⟨t,rfl⟩:=rx
 obtain ⟨t',rfl⟩:=ry
 exact rule i j t t' s _ _ hc ⟨.int (g i j),H,I.tok _,⟨_,rfl⟩,q⟩
theorem FE {f:QM->QM->Sem QM}{g:Int->Int->Int}
  (rule:∀(i j:Int) (t u:Tok) (s:QN) (Q:QM->QN->Prop) (E:QM->QN->Prop),Q (.int (g i j) s.toks) {s with toks:=s.toks + 1}->Rg (Rk X.prog X.w) X.A (f (.int i t) (.int j u)) Q E s):
  c_ X f (pe λi j=>.int (g i j)):=by
 intro Qz s σ H x y v u Q I rx ry h
 obtain ⟨i,j,rfl,rfl,q⟩:=h
 obtain ⟨t,rfl⟩:=rx
 obtain ⟨t',rfl⟩:=ry
 exact rule i j t t' s _ _ ⟨.int (g i j),H,I.tok _,⟨_,rfl⟩,q⟩
theorem FD {f:QM->QM->Sem QM}{g:Int->Int->Bool}
  (rule:∀(i j:Int) (t u:Tok) (s:QN) (Q:QM->QN->Prop) (E:QM->QN->Prop),Q (.bool (g i j)) s->Rg (Rk X.prog X.w) X.A (f (.int i t) (.int j u)) Q E s):
  c_ X f (pe λi j=>.bl (g i j)):=by
 intro Qz s σ H x y v u Q I rx ry h
 obtain ⟨i,j,rfl,rfl,q⟩:=h
 obtain ⟨t,rfl⟩:=rx
 obtain ⟨t',rfl⟩:=ry
 exact rule i j t t' s _ _ ⟨.bl (g i j),H,I,rfl,q⟩
noncomputable def M_ (i j:Int):Prop:=0 < j/\j < 1073741824
noncomputable def Na (i j:Int):Prop:=0<=j/\j<=1000000/\i.natAbs < 2 ^ 64
noncomputable def AV (i j:Int):Prop:=(-(2 ^ 64) < i/\i < 2 ^ 64)\/(-(2 ^ 64) < j/\j < 2 ^ 64)
theorem AV.ok {i j:Int}(h:AV i j):IntMulOk i j:=by
 rcases h with ⟨h1,h2⟩ | ⟨h1,h2⟩
 ·exact .of_left (aaA h1 h2)
 ·exact .of_right (aaA h1 h2)
theorem DH:c_ X (UG .Add) (pe λi j=>.int (i + j)):=FE λ_ _ _ _ _ _ _ q=>add_int q
theorem K2:c_ X (UG .Sub) (pe λi j=>.int (i - j)):=FE λ_ _ _ _ _ _ _ q=>sub_int q
theorem KZ:c_ X (UG .Mult) (rI AV λi j=>.int (i * j)):=G2 λ_ _ _ _ _ _ _ hc q=>mul_int q hc.ok
theorem Iq:c_ X (UG .FloorDiv) (rI M_ λi j=>.int (i / j)):=G2 λi j _ _ _ _ _ hc q=>by
 have h1:(0:Int) < j:=hc.1
 have h2:j < 1073741824:=hc.2
 exact floordiv_int (by omega) (by rw [Int.fdiv_eq_ediv_of_nonneg i (by omega)];exact q) (.inl (PyProof.noPylong_small (by omega)))
theorem KY:c_ X (UG .Mod) (rI (λ_ j=>0 < j) λi j=>.int (i % j)):=G2 λi j _ _ _ _ _ hc q=>by
 have h1:(0:Int) < j:=hc
 exact mod_int' (by omega) (by rw [Int.fmod_eq_emod_of_nonneg i (by omega)];exact q)
theorem K1:c_ X (UG .Pow) (rI Na λi j=>.int (i ^ j.toNat)):=G2 λ_ _ _ _ _ _ _ hc q=>pow_int_small hc.1 hc.2.1 hc.2.2 q
theorem HW:c_ X (Xu .Add) (pe λi j=>.int (i + j)):=FE λ_ _ _ _ _ _ _ q=>iadd_int q
theorem AS {f:QM->Sem QM}{g:Int->Int}
  (rule:∀(i:Int) (t:Tok) (s:QN) (Q:QM->QN->Prop) (E:QM->QN->Prop),Q (.int (g i) s.toks) {s with toks:=s.toks + 1}->Rg (Rk X.prog X.w) X.A (f (.int i t)) Q E s):
  JM X f (rU λi=>.int (g i)):=by
 intro Qz s σ H x v Q I rx h
 obtain ⟨i,rfl,q⟩:=h
 obtain ⟨t,rfl⟩:=rx
 exact rule i t s _ _ ⟨.int (g i),H,I.tok _,⟨_,rfl⟩,q⟩
theorem Er:JM X (unaryOp .USub) (rU λi=>.int (-i)):=AS λ_ _ _ _ _ q=>neg_int q
theorem BP:c_ X (Sx .Lt) (pe λi j=>.bl (decide (i < j))):=FD λ_ _ _ _ _ _ _ q=>lt_int q
theorem p7:c_ X (Sx .Gt) (pe λi j=>.bl (decide (j < i))):=FD λ_ _ _ _ _ _ _ q=>gt_int q
theorem Mv:c_ X (Sx .GtE) (pe λi j=>.bl (decide (j<=i))):=FD λ_ _ _ _ _ _ _ q=>ge_int q
theorem c_.or {f:QM->QM->Sem QM}{r r':R2}(h:c_ X f r) (h':c_ X f r'):c_ X f (λx y H Q=>r x y H Q\/r' x y H Q):=by
 intro Qz s σ H x y v u Q I rx ry q
 rcases q with q | q
 ·exact h Qz s σ H x y v u Q I rx ry q
 ·exact h' Qz s σ H x y v u Q I rx ry q
theorem yp (b:Rz){op:aaY}(h:op≠.In:=by decide) (h2:op≠.NotIn:=by decide):Sa op b=false:=by
 have e1:(op == abW)=false:=by cases op <;> first | rfl | exact absurd rfl h
 have e2:(op == abe)=false:=by cases op <;> first | rfl | exact absurd rfl h2
 cases b <;> simp [Sa,e1,e2]
theorem IE {op:aaY}{r:R2}(ho:c_ X (Sx op) r) (ha:PE X a ta) (hb:PE X b tb) (hm:Sa op b=false):PE X (.Compare a [op] [b] pos) (Ej r ta tb):=by
 intro Qz s σ H Q I h
 exact wpAny_Compare1 (EJ ha hb I h λv u s2 x y H2 I2 rx ry q=>ho Qz s2 σ H2 x y v u Q I2 rx ry q) hm
noncomputable def MT (t:TE):TT:=λσ H Q=>t σ H λx H'=>∃k,x=.bl k/\Q k H'
theorem IM {op:aaY}{r:R2}(ho:c_ X (Sx op) r) (ha:PE X a ta) (hb:PE X b tb) (hm:Sa op b=false):PT X (.Compare a [op] [b] pos) (MT (Ej r ta tb)):=by
 intro Qz s σ H Q I h
 refine Xr (bP (ha Qz s σ H _ I h) λv s1 ⟨x,H1,I1,r1,q1⟩=>bP (hb Qz s1 σ H1 _ I1 q1) λu s2 ⟨y,H2,I2,r2,q2⟩=>
  bP (ho Qz s2 σ H2 x y v u _ I2 r1 r2 q2) λc s3 ⟨z,H3,I3,r3,k,e,q3⟩=>?_) hm
 subst e
 cases r3
 exact R6 ⟨H3,I3,q3⟩
noncomputable def EH (K:QK) (x:V) (H:Hp) (k:Bool):Prop:=
 match x with
 | .non=>k=false
 | .bl b=>k=b
 | .int i=>k=(i != 0)
 | .str y=>y.length<=sizeLine/\k=((y.length:Int) != 0)
 | .byt y=>y.size<=sizeLine/\k=((y.size:Int) != 0)
 | .ref p=>(∃xs,cG K H p xs/\k=!xs.isEmpty)\/(∃xs,cX K H p xs/\k=!xs.isEmpty)\/∃QH,H p=some (.dK QH)/\k=!QH.isEmpty
 | _=>False
theorem BA {κ:Type}{QH:List (κ×V)}{vs:List (κ×QM)}(r:KV QH vs):(!vs.isEmpty)=!QH.isEmpty:=by
 cases r <;> rfl
theorem sN {xs:List V}{QA:List QM}(r:Vals xs QA):(!QA.toArray.isEmpty)=!xs.isEmpty:=by
 cases r <;> simp
theorem mL:(sizeLine:Nat) < 2 ^ 63:=by rw [RS];decide
theorem LQ:Nj X (λx H Q=>∃k,EH X.K x H k/\Q k H):=by
 intro Qz s σ H x v Q I rx h
 obtain ⟨k,e,q⟩:=h
 have hl:=mL
 have hs:sizeLine=16777216:=RS
 cases x with
 | non=>
  cases rx
  have e':k=false:=e
  subst e'
  exact truthy_none ⟨H,I,q⟩
 | bl b=>
  cases rx
  have e':k=b:=e
  subst e'
  exact R6 ⟨H,I,q⟩
 | int i=>
  obtain ⟨t,rfl⟩:=rx
  have e':k=(i != 0):=e
  subst e'
  exact PySem.P.truthy_int ⟨H,I,q⟩
 | str y=>
  obtain ⟨t,rfl⟩:=rx
  obtain ⟨hy,e'⟩:y.length<=sizeLine/\k=((y.length:Int) != 0):=e
  subst e'
  exact PySem.P.truthy_str (by omega) ⟨H,I.tok _,q⟩
 | byt y=>
  obtain ⟨t,rfl⟩:=rx
  obtain ⟨hy,e'⟩:y.size<=sizeLine/\k=((y.size:Int) != 0):=e
  subst e'
  exact W.truthy_bytes (by omega) ⟨H,I.tok _,q⟩
 | ref p=>
  cases rx
  have e':(∃xs,cG X.K H p xs/\k=!xs.isEmpty)\/(∃xs,cX X.K H p xs/\k=!xs.isEmpty)\/∃QH,H p=some (.dK QH)/\k=!QH.isEmpty:=e
  rcases e' with ⟨xs,hx,e'⟩ | ⟨xs,hx,e'⟩ | ⟨QH,hx,e'⟩
  ·subst e'
   obtain ⟨QA,r,pl,hz⟩:=I.list hx
   have hlen:=r.length
   exact wpAny_truthy_list pl.isList (by simp only [Q2];omega) ⟨H,I.tok _,by rw [sN r];exact q⟩
  ·subst e'
   obtain ⟨QA,r,pl,hz⟩:=I.tuple hx
   have hlen:=r.length
   exact truthy_tuple pl (by simp only [Q2];omega) ⟨H,I.tok _,by rw [sN r];exact q⟩
  ·subst e'
   obtain ⟨hz,hS,vs,r,m⟩:QH.length<=sizeLine/\(p == Uv)=false/\∃vs,KV QH vs/\s.heap.DictOf (uC X.prog X.w) p vs:=I.hok p _ hx
   have hlen:QH.length=vs.length:=aay r
   exact wpAny_truthy_dict hS m (by omega) ⟨H,I.tok _,by rw [BA r];exact q⟩
 | _=>exact (show False from e).elim
theorem FY (ha:PE X a ta) (he:∀whole,X_ a X.env whole=(do let v <-whole;Ug a.pos;holding [v] (truthy v))):
  PT X a (λσ H Q=>ta σ H λx H'=>∃k,EH X.K x H' k/\Q k H'):=by
 intro Qz s σ H Q I h
 exact isTrue_plain (bP (ha Qz s σ H _ I h) λv s1 ⟨x,H1,I1,r1,q1⟩=>LQ Qz s1 σ H1 x v Q I1 r1 q1) (he _)
theorem sW:c_ X (UG .Add) (λx y H Q=>∃i j,x=.str i/\y=.str j/\i.length + j.length<=sizeLine/\Q (.str (i++j)) H):=by
 intro Qz s σ H x y v u Q I rx ry h
 obtain ⟨i,j,rfl,rfl,hz,q⟩:=h
 obtain ⟨t,rfl⟩:=rx
 obtain ⟨t',rfl⟩:=ry
 exact add_str (λt' tk=>⟨.str (i++j),H,I.tok _,⟨_,rfl⟩,q⟩) hz
theorem vals1 {x:V}{us:List QM}(r:Vals [x] us):∃u,us=[u]/\RelV x u:=by
 cases r with
 | cons r1 r2=>cases r2;exact ⟨_,rfl,r1⟩
theorem vals2 {x y:V}{us:List QM}(r:Vals [x,y] us):∃u w',us=[u,w']/\RelV x u/\RelV y w':=by
 cases r with
 | cons r1 r2=>
  cases r2 with
  | cons r3 r4=>cases r4;exact ⟨_,_,rfl,r1,r3⟩
theorem CO (hc:X.calm=true):bU X (.builtin "max") (λxs H Q=>∃i j,xs=[.int i,.int j]/\Q (.int (if j > i then j else i)) H):=by
 intro Qz s σ H xs us Q I r h
 obtain ⟨i,j,rfl,q⟩:=h
 obtain ⟨u,w',rfl,⟨t,rfl⟩,⟨t',rfl⟩⟩:=vals2 r
 refine max_two_ints (I.ok.hd hc) λh' tk k=>⟨_,H,I.kept k,?_,q⟩
 by_cases hj:j > i
 ·rw [if_pos hj,if_pos hj];exact ⟨_,rfl⟩
 ·rw [if_neg hj,if_neg hj];exact ⟨_,rfl⟩
end
structure cV (k:Nat) (A:RG):Prop where
 hd:A.handled=none
 dp:A.depth + 3 * k + 5 < Z6
 un:A.units + 16 * k + 200 < Sy
theorem cV.mono {j k:Nat}{A:RG}(r:cV k A) (h:j<=k):cV j A:=⟨r.hd,by have:=r.dp;omega,by have:=r.un;omega⟩
theorem cV.deeper {k:Nat}{A:RG}(r:cV (k + 1) A) (env:Env):cV k (A.deeper env):=
 ⟨r.hd,by have:=r.dp;show A.depth + 1 + 3 * k + 5 < _;omega,by have:=r.un;show A.units + 3 + 16 * k + 200 < _;omega⟩
theorem cV.depth {k:Nat}{A:RG}(r:cV k A):A.depth < Z6:=by have:=r.dp;omega
theorem cV.units {k:Nat}{A:RG}(r:cV k A):A.units + 64 < Sy:=by have:=r.un;omega
noncomputable def Cj:TA:=λ_ H Q=>Q [] H
noncomputable def MO (ta:TE) (tr:TA):TA:=λσ H Q=>ta σ H λx H1=>tr σ H1 λxs H2=>Q (x::xs) H2
section
variable {X:Cx}{e:Rz}{es:List Rz}{te:TE}{t:TA}{pos:Pos}
theorem g9:PA X [] Cj:=λ_ _ _ _ H Q I h=>Calls.spliced_nil ⟨[],H,I,.nil,h⟩
theorem e_ (ha:PE X e te) (hr:PA X es t) (hs:QZ (e::es) X.env=(false,eval e X.env)::QZ es X.env:=by rfl):PA X (e::es) (MO te t):=by
 intro pos Qz s σ H Q I h
 rw [hs]
 show Rg _ _ (spliced ((false,eval e X.env)::SV pos (QZ es X.env))) _ _ s
 refine Calls.spliced_cons (bP (ha Qz s σ H _ I h) λu s1 ⟨x,H1,I1,r1,q1⟩=>?_)
 exact bP (hr pos Qz s1 σ H1 _ I1 q1) λus s2 ⟨xs,H2,I2,r2,q2⟩=>⟨x::xs,H2,I2,.cons r1 r2,q2⟩
noncomputable def NZ (t:TA):TE:=λσ H Q=>t σ H λxs H1=>xs.length<=sizeLine/\∀p,H1 p=none->Q (.ref p) (upd H1 p (.tup xs))
noncomputable def NU (t:TA):TE:=λσ H Q=>t σ H λxs H1=>xs.length<=sizeLine/\∀p,H1 p=none->Q (.ref p) (upd H1 p (.lst xs))
theorem Ld {x1}(h:PA X es t):PE X (.Tuple es x1 pos) (NZ t):=by
 intro Qz s σ H Q I hq
 refine wpAny_Tuple_spliced (bP (h pos Qz s σ H _ I hq) λus s1 ⟨xs,H1,I1,r,z,q⟩=>⟨by rw [<-r.length];exact z,?_⟩)
 have hf:H1 s1.heap.objs.size=none:=I1.hok.fresh (QY _)
 refine ⟨.ref s1.heap.objs.size,upd H1 s1.heap.objs.size (.tup xs),I1.laid (t':=s1.toks) (λb u e=>QV _ e) (QY _) ?_,rfl,q _ hf⟩
 exact ⟨z,us,r,⟨_,Q7 _ rfl,rfl,_,rfl⟩⟩
theorem K8 (h:PA X es t):PE X (.List es pos) (NU t):=by
 intro Qz s σ H Q I hq
 refine wpAny_List_spliced (bP (h pos Qz s σ H _ I hq) λus s1 ⟨xs,H1,I1,r,z,q⟩=>⟨by rw [<-r.length];exact z,?_⟩)
 have hf:H1 s1.heap.objs.size=none:=I1.hok.fresh (QY _)
 refine ⟨.ref s1.heap.objs.size,upd H1 s1.heap.objs.size (.lst xs),I1.laid (t':=s1.toks) (λb u e=>QV _ e) (QY _) ?_,rfl,q _ hf⟩
 exact ⟨z,us,0,r,Q7 _ rfl⟩
end
noncomputable abbrev Sp:=List V->Hp->VK->XK->Prop
noncomputable abbrev om:=List Env->Hp->QN->XK->QM->QN->Prop
structure AY (P:Rb) (w:RD) (K:QK) (mg:Str->Option QM) (base:Sn) (A:RG) (outer:List Env) (s:QN) (H:Hp):Prop where
 frames:A.frames=some outer
 mod:Mod K mg base
 bs:∀b o,base.get? b=some o->s.heap.get? b=some o/\H b=none
 bsz:base.objs.size<=s.heap.objs.size
 funs:s.heap.FunFrames base outer
 frf:∀b∈frs outer,H b=none
 hok:fU P w H s.heap
 bare:WW s.gens
noncomputable def CE (outer:List Env) (P:Rb) (w:RD) (H:Hp) (s:QN) (Q:VK) (u:QM) (s':QN):Prop:=
 ∃v H',s'.os=s.os/\WW s'.gens/\Un (frs outer) [] H H' s.heap s'.heap/\fU P w H' s'.heap/\RelV v u/\Q v H'
noncomputable def CR (CX:om) (outer:List Env) (P:Rb) (w:RD) (H:Hp) (s:QN) (Q:VK) (E:XK) (r:ZD) (s':QN):Prop:=
 match r with
 | .ok (.ret u)=>CE outer P w H s Q u s'
 | .ok _=>False
 | .error e=>CX outer H s E e s'
structure fG (P:Rb) (w:RD) (K:QK) (mg:Str->Option QM) (base:Sn) (CX:om) (k:Nat) (f:Q4) (fd:Rq) (ps:List Str) (sp:Sp):Prop where
 len:∀vs H Q E,sp vs H Q E->vs.length=ps.length
 run:∀(A:RG) (outer:List Env) (s:QN) (H:Hp) (args:Args) (us:List QM) (vs:List V) (Q:VK) (E:XK),cV k A->AY P w K mg base A outer s H->ZE s fd args (ps.zip us)->Vals vs us->sp vs H Q E->
  TH (Rk P w) A (.call (.ref f) args) (CR CX outer P w H s Q E) s
section
variable {X:Cx}{Qz:List (Q4×Obj)}{σ:St}{H:Hp}{s s':QN}
theorem Inv.env0 (I:Inv X Qz σ H s):AY X.prog X.w X.K X.mg X.base X.A X.stack s H:=
 ⟨I.ok.frames,I.ok.mod,I.bs,RE I.ok.bsz I.sz,I.stack,I.stkFree,I.hok,I.bare⟩
theorem Inv.after {Q:VK}{u:QM}(I:Inv X Qz σ H s) (h:CE X.stack X.prog X.w H s Q u s'):EP X Qz σ Q u s':=by
 obtain ⟨v,H',os,bare,un,hok,r,q⟩:=h
 obtain ⟨hh,g,d,t,os'⟩:=s'
 obtain rfl:os'=s.os:=os
 exact ⟨v,H',I.call (h':=hh) (g':=g) (d':=d) (t':=t) (ch:=[]) un hok bare (λb z=>absurd z (by simp)),r,q⟩
end
noncomputable def Hf (sp:Sp) (dvs:List V) (E:XK) (t:TA):TE:=λσ H Q=>t σ H λvs H1=>sp (vs++dvs) H1 Q E
noncomputable def Binds (K:QK) (fd:Rq) (ps:List Str) (ds:List QM):Prop:=
 ∀(s:QN) (us:List QM),K.In s.heap->(us++ds).length=ps.length->ZE s fd ⟨us,[]⟩ (ps.zip (us++ds))
theorem Binds.all {K:QK}{fd:Rq}{ps:List Str}(h:∀us:List QM,us.length=ps.length->Yt fd ⟨us,[]⟩=pure (ps.zip us)):Binds K fd ps []:=λs us _ hl=>by
 rw [S8] at hl ⊢
 exact .of_eq (h us hl)
noncomputable def Passes (CX:om) (X:Cx) (E:XK):Prop:=∀(Qz:List (Q4×Obj)) (σ:St) (H:Hp) (s:QN) (e:QM) (s':QN),Inv X Qz σ H s->CX X.stack H s E e s'->X.xe e s'
section
variable {X:Cx}{CX:om}{k:Nat}{f C:Q4}{fd:Rq}{ps:List Str}{sp:Sp}{dvs:List V}{ds:List QM}{E:XK}{x m:Str}{p pos apos:Pos}{e o:Rz}{es:List Rz}{ta:TE}{t:TA}
theorem Ec {Qz:List (Q4×Obj)}{σ:St}{H:Hp}{s:QN}{Q:VK}{us:List QM}{vs:List V}(F:fG X.prog X.w X.K X.mg X.base CX k f fd ps sp) (hr:cV k X.A) (hb:Binds X.K fd ps ds) (hd:Vals dvs ds) (hx:Passes CX X E)
  (I:Inv X Qz σ H s) (r:Vals vs us) (h:sp (vs++dvs) H Q E):Rg (Rk X.prog X.w) X.A (call (.ref f) us) (EP X Qz σ Q) X.xe s:=by
 have r2:Vals (vs++dvs) (us++ds):=r.append hd
 have hl:(us++ds).length=ps.length:=by rw [<-r2.length];exact F.len _ _ _ _ h
 refine XU (TR (F.run X.A X.stack s H ⟨us,[]⟩ (us++ds) (vs++dvs) Q E hr I.env0 (hb s us I.kIn hl) r2 h) λr s' hq=>?_)
 cases r with
 | error e=>exact hx Qz σ H s e s' I hq
 | ok fl=>
  cases fl with
  | ret u=>exact I.after hq
  | next=>exact UE hq
  | brk=>exact UE hq
  | cont=>exact UE hq
theorem p_ (F:fG X.prog X.w X.K X.mg X.base CX k f fd ps sp) (hr:cV k X.A) (hg:Gl X x) (hm:X.mg x=some (.ref f)) (hk:R7 X.K (.ref f)=true) (hb:Binds X.K fd ps ds) (hd:Vals dvs ds) (hx:Passes CX X E)
  (ha:PA X (e::es) t) (hdb:(x == ("__debug__":Str))=false:=by decide) (he:QZ (e::es) X.env=(false,eval e X.env)::QZ es X.env:=by rfl) (hpl:(SV pos (QZ es X.env)).any (·.1)=false:=by rfl):
  PE X (.Call (.Name x p) (e::es) [] pos) (Hf sp dvs E t):=by
 intro Qz s σ H Q I h
 refine Vc (Av I hg hm ?_ hdb)
 refine Yu (h₀:=X.base) I.ok.mod.kin hk (bP (ha pos Qz s σ H _ I h) λus s1 ⟨vs,H1,I1,r,q⟩=>⟨I1.kIn,?_⟩) he hpl
 exact Ec F hr hb hd hx I1 r q
end
structure bf (N P:List Str) (sc:TF):Prop where
 kind:sc.kind=.function
 co:sc.isCoroutine=false
 gen:sc.isGenerator=false
 nd:N.Nodup
 pre:N.take P.length=P
 par:∀x∈P,sc.names.lookup x=some .local\/sc.names.lookup x=some .cell
 nofree:∀y∈sc.names,y.2≠.free
theorem uR {kindOf:Str->Option S5}{x:Str}:∀{binds:List (Str×QM)}{m:Str->Option QM},(∀v,(x,v)∉binds)->abf kindOf binds m x=m x
 | [],_,_=>rfl
 | (n,v)::r,m,h=>by
  unfold abf
  rw [uR λw hw=>h w (QS _ hw)]
  split
  ·have:x≠n:=by rintro rfl;exact h v QW
   simp [this]
  ·rfl
theorem uP {kindOf:Str->Option S5}{x:Str}:∀{binds:List (Str×QM)}{m:Str->Option QM},(∀v,(x,v)∉binds)->abg kindOf binds m x=m x
 | [],_,_=>rfl
 | (n,v)::r,m,h=>by
  unfold abg
  rw [uP λw hw=>h w (QS _ hw)]
  split
  ·rfl
  ·have:x≠n:=by rintro rfl;exact h v QW
   simp [this]
theorem uQ {kindOf:Str->Option S5}{x:Str}{v:QM}:∀{P:List Str}{vs:List QM}{i:Nat}{m:Str->Option QM},P.Nodup->P[i]?=some x->vs[i]?=some v->kindOf x=some .local->
  abf kindOf (P.zip vs) m x=some v
 | [],_,_,_,_,h,_,_=>by simp at h
 | _::_,[],_,_,_,_,h,_=>by simp at h
 | p::P,w::vs,0,m,nd,h1,h2,hk=>by
  simp at h1 h2;subst h1;subst h2
  show abf kindOf ((p,w)::P.zip vs) m p=_
  unfold abf
  rw [uR λv hv=>(SM.mp nd).1 (Xv hv).1,if_pos hk]
  simp
 | p::P,w::vs,i + 1,m,nd,h1,h2,hk=>by
  show abf kindOf ((p,w)::P.zip vs) m x=_
  unfold abf
  exact uQ (i:=i) (SM.mp nd).2 (by simpa using h1) (by simpa using h2) hk
theorem uO {kindOf:Str->Option S5}{x:Str}{v:QM}:∀{P:List Str}{vs:List QM}{i:Nat}{m:Str->Option QM},P.Nodup->P[i]?=some x->vs[i]?=some v->kindOf x≠some .local->
  abg kindOf (P.zip vs) m x=some v
 | [],_,_,_,_,h,_,_=>by simp at h
 | _::_,[],_,_,_,_,h,_=>by simp at h
 | p::P,w::vs,0,m,nd,h1,h2,hk=>by
  simp at h1 h2;subst h1;subst h2
  show abg kindOf ((p,w)::P.zip vs) m p=_
  unfold abg
  rw [uP λv hv=>(SM.mp nd).1 (Xv hv).1,if_neg hk]
  simp
 | p::P,w::vs,i + 1,m,nd,h1,h2,hk=>by
  show abg kindOf ((p,w)::P.zip vs) m x=_
  unfold abg
  exact uO (i:=i) (SM.mp nd).2 (by simpa using h1) (by simpa using h2) hk
noncomputable def start (N:List Str) (vs:List V):St:=vs.map some++R8 (N.length - vs.length) none
noncomputable def oJ (CX:om) (P:Rb) (w:RD) (K:QK) (mg:Str->Option QM) (base:Sn) (N:List Str) (QF:Str) (Qy:TF) (f:Q4) (cd:QM) (A:RG) (outer:List Env) (s:QN) (H:Hp) (E:XK):Cx where
 prog:=P
 w:=w
 K:=K
 mg:=mg
 base:=base
 A:=A.deeper (WE QF Qy s.heap.objs.size f cd)
 N:=N
 s₀:=s
 H₀:=H
 env:=WE QF Qy s.heap.objs.size f cd
 outer:=outer
 stack:=WE QF Qy s.heap.objs.size f cd::outer
 ex:=[]
 calm:=true
 fn:=λ_=>true
 pn:=[]
 xe:=λe s'=>Rg (Rk P w) (A.deeper (WE QF Qy s.heap.objs.size f cd)) (leaving (WE QF Qy s.heap.objs.size f cd) e) (λ_ s''=>CX outer H s E e s'') (λe' s''=>CX outer H s E e' s'') s'
theorem xM {sc:TF}{n:Nat}{x:Str}(h:sc.names.lookup x=some .cell):∃c,(RV n sc.names []).lookup x=some c:=by
 have q:=Xh sc.names n [] (.inl h)
 exact Sd.mp q
theorem Dw {CX:om}{P:Rb}{w:RD}{K:QK}{mg:Str->Option QM}{base:Sn}{N ps:List Str}{QF:Str}{Qy:TF}{f:Q4}{cd:QM}{A:RG}{outer:List Env}{s s1:QN}{H:Hp}{E:XK}{us:List QM}{vs:List V}
  (S:bf N ps Qy) (hd:A.handled=none) (e0:AY P w K mg base A outer s H) (hl:vs.length=ps.length) (r:Vals vs us)
  (x:InCallC s s.heap.objs.size (abf (WE QF Qy s.heap.objs.size f cd).kindOf (ps.zip us) λ_=>none) (RV (s.heap.objs.size + 1) Qy.names []) (abg (WE QF Qy s.heap.objs.size f cd).kindOf (ps.zip us) λ_=>none) s1):
  Inv (oJ CX P w K mg base N QF Qy f cd A outer s H E) [] (start N vs) H s1:=by
 have hpl:ps.length<=N.length:=by have:=congrArg Vw S.pre;rw [Uq] at this;omega
 obtain ⟨h1,tk,rfl,hk⟩:=x.done
 have noA:∀b:Q4,b∉(oJ CX P w K mg base N QF Qy f cd A outer s H E).ex:=λb z=>absurd (show b∈([]:List Q4) from z) (by simp)
 refine ⟨⟨e0.mod,S.kind,rfl,rfl,QY _,λy z c h1 h2=>?_,λy hy=>?_,λy c _ h=>?_,λ_=>hd,Around.frames_deeper e0.frames,.inr ⟨rfl,rfl⟩,λb z=>absurd z (noA b),e0.bs,e0.bsz,λb _ _=>noA b,λb z=>absurd z (noA b),e0.funs,e0.frf⟩,
  rfl,e0.bare,Un.kept hk,⟨_,x.toInCall.ns,λi y v h1 h2 h3=>?_⟩,λy c h=>⟨_,x.cell y c h⟩,e0.hok.fresh (QY _),λy c h=>?_,λp hp=>absurd (show p∈([]:List (Q4×Obj)) from hp) (by simp),e0.hok.kept hk,?_⟩
 ·exact name_of_addr x.apart (Uh h1) (Uh h2)
 ·have hy:Qy.names.lookup y=some .cell\/Qy.names.lookup y=some .free:=hy
  rcases hy with hy | hy
  ·exact xM hy
  ·exact absurd rfl (S.nofree _ (Uh hy))
 ·exact Xq (x.above y c (Uh h))
 ·have hi:i < vs.length:=by
   unfold start at h2
   by_cases hi:i < vs.length
   ·exact hi
   ·rw [Sl (by simpa using hi)] at h2
    rw [Vd] at h2
    split at h2 <;> cases h2
  have ha:vs[i]?=some v:=by
   unfold start at h2
   rw [S6 (by simpa using hi),Rj] at h2
   cases e:vs[i]? with
   | none=>rw [e] at h2;cases h2
   | some a=>rw [e] at h2;cases h2;rfl
  obtain ⟨u,hu,rv⟩:=r.get ha
  have hp:ps[i]?=some y:=by
   rw [<-S.pre,List.getElem?_take_of_lt (by omega)];exact h1
  have ndP:ps.Nodup:=by rw [<-S.pre];exact S.nd.sublist (YW _ _)
  refine ⟨u,rv,?_⟩
  rcases S.par y (Sm hp) with k | k
  ·exact .inl ⟨k,uQ ndP hp hu k⟩
  ·obtain ⟨c,e⟩:=xM (n:=s.heap.objs.size + 1) k
   refine .inr ⟨.inl k,c,e,?_⟩
   have q:=x.cell y c e
   rw [uO ndP hp hu (by show Qy.names.lookup y≠_;rw [k];decide)] at q
   exact q
 ·exact e0.hok.fresh (Xq (x.above y c (Uh h)))
 ·unfold start
  show _=N.length
  rw [Rm,QO,S9]
  omega
theorem GU {CX:om}{P:Rb}{w:RD}{K:QK}{mg:Str->Option QM}{base:Sn}{k:Nat}{f:Q4}{name QF:Str}{params:Arguments}{body:List T9}{Qy:TF}{dV kV doc pm cdv ct oc:QM}{an od:Option Q4}
  {osl:Array (Option QM)}{N ps:List Str}{sp:Sp}(lk:K.lookup f=some ⟨oc,od,.func (Q6 name QF params body Qy dV kV doc pm an cdv ct),osl⟩) (hcd:T3 K cdv QF=true) (S:bf N ps Qy)
  (len:∀vs H Q E,sp vs H Q E->vs.length=ps.length)
  (hbody:∀(A:RG) (outer:List Env) (s:QN) (H:Hp) (vs:List V) (Q:VK) (E:XK),cV k (A.deeper (WE QF Qy s.heap.objs.size f cdv))->sp vs H Q E->
   ∃t,jG (oJ CX P w K mg base N QF Qy f cdv A outer s H E) body t/\t {nx:=λ_ H'=>Q .non H',rt:=Q} (start N vs) H):
  fG P w K mg base CX (k + 1) f (Q6 name QF params body Qy dV kV doc pm an cdv ct) ps sp:=by
 refine ⟨len,λA outer s H args us vs Q E hr e0 hb r OT=>?_⟩
 have hl:=len _ _ _ _ OT
 have KX:K.In s.heap:=e0.mod.kin.keeps λb o e=>(e0.bs b o e).1
 have lim:s.heap.NoLimit:=e0.mod.nolimit.keeps λb o e=>(e0.bs b o e).1
 have hkind:∀y∈ps.zip us,Qy.names.lookup y.1=some .local\/(Qy.names.lookup y.1=some .cell/\((RV (s.heap.objs.size + 1) Qy.names []).lookup y.1).isSome=true):=λ⟨n,v⟩ hy=>by
  rcases S.par n (Xv hy).1 with q | q
  ·exact .inl q
  ·exact .inr ⟨q,Xh _ _ _ (.inl q)⟩
 refine codeAny_call_function hr.depth (KX _ _ lk) rfl S.co S.gen rfl (W.codeRec_of KX hcd) (hb _ _ _ _ ?_)
 refine wpAny_newFunctionEnv_cells S.kind hkind λenv he s1 x=>?_
 subst he
 refine ⟨lim.keeps x.toInCall.keep,codeAny_func ?_⟩
 obtain ⟨t,ht,hq⟩:=hbody A outer s H vs Q E (hr.deeper _) OT
 have I:Inv (oJ CX P w K mg base N QF Qy f cdv A outer s H E) [] (start N vs) H s1:=Dw S hr.hd e0 hl r x
 refine RU (ht [] s1 (start N vs) H _ I hq) (λfl s' hs=>?_) λe s' hs=>hs
 have fin:∀{σ':St}{H':Hp}{v:V}{u:QM},Inv (oJ CX P w K mg base N QF Qy f cdv A outer s H E) [] σ' H' s'->RelV v u->Q v H'->CE outer P w H s Q u s':=
  fun {σ' H' v u} J rv q=>⟨v,H',J.os,J.bare,J.base,J.hok,rv,q⟩
 cases fl with
 | ret u=>
  obtain ⟨v,σ',H',J,rv,q⟩:=hs
  exact fin J rv q
 | next=>
  obtain ⟨σ',H',J,q⟩:=hs
  exact fin (v:=V.non) (u:=RN) J rfl q
 | brk=>
  obtain ⟨_,_,_,q⟩:=hs
  exact UE q
 | cont=>
  obtain ⟨_,_,_,q⟩:=hs
  exact UE q
section
variable {X:Cx}{x:Str}{p pos:Pos}{e:Rz}{es:List Rz}{t:TA}{id T:String}{r:List V->Hp->VK->Prop}
noncomputable def M8 (r:List V->Hp->VK->Prop) (t:TA):TE:=λσ H Q=>t σ H λvs H1=>r vs H1 Q
theorem qS (hc:bU X (.builtin id) r) (hg:Gl X x) (hm:X.mg x=none) (hv:R1 x=some (.builtin id)) (ha:PA X (e::es) t) (hn:x≠"__name__":=by decide) (hdb:(x == ("__debug__":Str))=false:=by decide)
  (he:QZ (e::es) X.env=(false,eval e X.env)::QZ es X.env:=by rfl) (hpl:(SV pos (QZ es X.env)).any (·.1)=false:=by rfl):PE X (.Call (.Name x p) (e::es) [] pos) (M8 r t):=by
 intro Qz s σ H Q I h
 refine Vc (sO I hg hm hv ?_ hn hdb)
 exact Zf (bP (ha pos Qz s σ H _ I h) λus s1 ⟨vs,H1,I1,r1,q1⟩=>hc Qz s1 σ H1 vs us Q I1 r1 q1) he hpl
theorem lq (hc:bU X (.type T) r) (hg:Gl X x) (hm:X.mg x=none) (hv:R1 x=some (.type T)) (ha:PA X (e::es) t) (hn:x≠"__name__":=by decide) (hdb:(x == ("__debug__":Str))=false:=by decide)
  (he:QZ (e::es) X.env=(false,eval e X.env)::QZ es X.env:=by rfl) (hpl:(SV pos (QZ es X.env)).any (·.1)=false:=by rfl):PE X (.Call (.Name x p) (e::es) [] pos) (M8 r t):=by
 intro Qz s σ H Q I h
 refine Vc (sO I hg hm hv ?_ hn hdb)
 exact V5 (bP (ha pos Qz s σ H _ I h) λus s1 ⟨vs,H1,I1,r1,q1⟩=>hc Qz s1 σ H1 vs us Q I1 r1 q1) he hpl
end
end L2
namespace HT
open PySem PyProof.Rows
theorem EW (A:RG) (s:QN) (a:Int) (t:Tok) (c:Int) (u:Tok):∃e,Td A s (.int a t) (.int c u) e/\(e=true↔a=c):=
 ⟨(a == c),Yv a t c u,by simp⟩
section
open PySem.SeqAt
open PySem.AutoSeq1 (wpAny_loadPart')
open PySem.MeetsSeq PySem.MeetsSeq2 PySem.MeetsSeq3
end
section
variable {prog:Rb}{w:RD}{A:RG}{E:QM->QN->Prop}{s:QN}
theorem HC {t b:Q4}{vs ws:List QM}{Q:QM->QN->Prop}(ht:aaW s.heap t vs.toArray) (hb:aaW s.heap b ws.toArray) (hv:vs≠[])
  (h1:ws=[]->Q (.ref t) s) (h2:ws≠[]->Q (.ref s.heap.objs.size) {s with heap:=s.heap.push {cls:=.type "tuple",data:=.seq (vs++ws).toArray}})
  (hsz:vs.length + ws.length<=sizeLine):Rg (Rk prog w) A (UG .Add (.ref t) (.ref b)) Q E s:=by
 obtain ⟨⟨cls,dd,data,sl⟩,ho,hc,n,hd⟩:=id ht
 obtain ⟨⟨cls2,dd2,data2,sl2⟩,ho2,hc2,n2,hd2⟩:=id hb
 simp only at hc hd hc2 hd2
 subst hc hd hc2 hd2
 have e:vs.toArray++ws.toArray=(vs++ws).toArray:=by simp
 by_cases hw:ws=[]
 ·exact Zg ⟨_,ho,rfl⟩ ⟨_,ho2,rfl⟩ Xa Yw Vr Ve (U4 _ _)
   (tuple_addW1 t b vs.toArray ws.toArray n n2 dd dd2 sl sl2 (by simpa using hv) (by simp [hw])) ⟨ho,ho2,h1 hw⟩
 ·refine Zg ⟨_,ho,rfl⟩ ⟨_,ho2,rfl⟩ Xa Yw Vr Ve (U4 _ _)
   (tuple_addW2 t b vs.toArray ws.toArray n n2 dd dd2 sl sl2 (by simpa using hv) (by simpa using hw) (by rw [Q2,Q2];exact hsz)) ⟨ho,ho2,?_⟩
  rw [e]
  exact h2 hw
noncomputable def bK (n d:Nat):Option Int->Nat
 | none=>d
 | some v=>if v < 0 then (v + (n:Int)).toNat else min v.toNat n
theorem yH (n d:Nat):bK n d none=d:=rfl
theorem AJ (n d k:Nat):bK n d (some (k:Int))=min k n:=by
 show (if (k:Int) < 0 then ((k:Int) + (n:Int)).toNat else min (k:Int).toNat n)=min k n
 rw [if_neg (by omega),Sz]
theorem LI (n d:Nat) (hd:d<=n) (o:Option Int):bK n d o<=n:=by
 cases o with
 | none=>exact hd
 | some v=>
  show (if v < 0 then (v + (n:Int)).toNat else min v.toNat n)<=n
  by_cases hv:v < 0
  ·rw [if_pos hv];omega
  ·rw [if_neg hv];exact Nat.min_le_right _ _
theorem Ag (v:Int) (n d:Nat):(if v < 0 then max (v + (n:Int)) 0 else min v (n:Int))=((bK n d (some v):Nat):Int):=by
 show (if v < 0 then max (v + (n:Int)) 0 else min v (n:Int))=(((if v < 0 then (v + (n:Int)).toNat else min v.toNat n):Nat):Int)
 by_cases hv:v < 0
 ·simp only [if_pos hv];omega
 ·simp only [if_neg hv];omega
theorem Ba (lo hi:Option Int) (n:Nat):S7 lo hi 1 (n:Int)=(((bK n 0 lo:Nat):Int),((bK n n hi:Nat):Int)):=by
 have h1:¬((1:Int) < 0):=by omega
 unfold S7
 simp only [h1,if_false]
 refine abX ?_ ?_
 ·cases lo with
  | none=>rfl
  | some v=>exact Ag v n 0
 ·cases hi with
  | none=>rfl
  | some v=>exact Ag v n n
theorem BS (i j:Nat):RT (i:Int) (j:Int) 1=j - i:=by
 unfold RT
 have h1:(1:Int) > 0:=by omega
 simp only [h1,if_true,aaZ]
 split <;> omega
theorem tK {v:QM}{o:Option Int}{Q:Option Int->QN->Prop}(p:Yx v o) (h:Q o s):Rg (Rk prog w) A (Zy v) Q E s:=by
 cases p with
 | none=>exact Ws h
 | int i t=>exact aaB h
theorem kF {sl:Q4}{vl vu:QM}{lo hi:Option Int}{n:Nat}{Q:Int×Int×Nat->QN->Prop}(hs:s.heap.IsSliceOf sl vl vu .none) (pl:Yx vl lo) (pu:Yx vu hi)
  (h:Q (((bK n 0 lo:Nat):Int),1,bK n n hi - bK n 0 lo) s):Rg (Rk prog w) A (TJ (.ref sl) (pure (n:Int))) Q E s:=by
 obtain ⟨os,hos,hcs,hds⟩:=id hs
 unfold TJ Wt
 refine QJ (QJ (V6 hos hds (x:=vl) rfl (QJ (V6 hos hds (x:=vu) rfl (QJ (V6 hos hds (x:=.none) rfl (QL ?_)))))))
 refine QJ (Ws ?_)
 show Rg _ _ (if ((1:Int) == 0)=true then _ else _) _ _ s
 rw [if_neg (by decide)]
 refine QJ (tK pl (QJ (tK pu (QJ (QL ?_)))))
 show Rg _ _ (match S7 lo hi 1 (n:Int) with | (lo,hi)=>pure (lo,(1:Int),RT lo hi 1)) _ _ s
 rw [Ba lo hi n]
 show Rg _ _ (pure (((bK n 0 lo:Nat):Int),(1:Int),RT ((bK n 0 lo:Nat):Int) ((bK n n hi:Nat):Int) 1)) _ _ s
 rw [BS]
 exact QL h
theorem FQ (xs:Array QM) (i k:Nat):((QU k).filterMap λ(m:Nat)=>xs[((i:Int) + (m:Int) * 1).toNat]?).toArray=((xs.toList.drop i).take k).toArray:=by
 have e:(λ(m:Nat)=>xs[((i:Int) + (m:Int) * 1).toNat]?)=λm=>xs[i + m]?:=by
  funext m
  have:((i:Int) + (m:Int) * 1).toNat=i + m:=by omega
  rw [this]
 rw [e]
 have:=pick_run xs i k
 rw [Yy] at this
 have e2:((λx=>xs[x]?) ∘ λx=>i + x)=λm=>xs[i + m]?:=rfl
 rw [e2] at this
 rw [this]
theorem qm {t sl:Q4}{items:Array QM}{vl vu:QM}{lo hi:Option Int}{Q:QM->QN->Prop}(ht:aaW s.heap t items) (hs:s.heap.IsSliceOf sl vl vu .none) (pl:Yx vl lo) (pu:Yx vu hi)
  (hw:¬(bK items.size 0 lo=0/\bK items.size items.size hi=items.size))
  (h:Q (.ref s.heap.objs.size) {s with heap:=s.heap.push {cls:=.type "tuple",data:=.seq ((items.toList.drop (bK items.size 0 lo)).take (bK items.size items.size hi - bK items.size 0 lo)).toArray}})
  (hsz:items.size<=sizeLine):Rg (Rk prog w) A (Xw (.ref t) (.ref sl)) Q E s:=by
 have OA:sizeOk (.seq ((items.toList.drop (bK items.size 0 lo)).take (bK items.size items.size hi - bK items.size 0 lo)).toArray):=by
  show ((items.toList.drop (bK items.size 0 lo)).take (bK items.size items.size hi - bK items.size 0 lo)).toArray.size<=sizeLine
  rw [Q2,Uq,Ur,Q3]
  omega
 have hj:bK items.size items.size hi<=items.size:=LI _ _ (QY _) hi
 obtain ⟨os,hos,hcs,hds⟩:=id hs
 have O7:s.TypeIs (.ref sl) "slice":=⟨os,hos,hcs⟩
 unfold Xw
 try with_reducible refine Ru ?_
 first | refine QJ (QL ?_) | skip
 refine QJ (WG ht.typeIs (by decide) ?_)
 refine QJ (Sj (name:=U5 "__getitem__") ht.typeIs RC
  (RL RC ht.typeIs V7 ?_ (Wl _ _)))
 show Rg _ _ (TL (.ref t) >>= _) _ _ s
 refine QJ (Yz ht ?_)
 refine QJ (U6 O7 ?_)
 rw [if_pos (by decide)]
 refine QJ (kF hs pl pu ?_)
 have hno:¬((((bK items.size 0 lo:Nat):Int) == 0 && (1:Int) == 1 && (bK items.size items.size hi - bK items.size 0 lo) == items.size)=true):=by
  intro q
  rw [QX,QX] at q
  have q1:((bK items.size 0 lo:Nat):Int)=0:=eq_of_beq q.1.1
  have q2:bK items.size items.size hi - bK items.size 0 lo=items.size:=eq_of_beq q.2
  exact hw ⟨by omega,by omega⟩
 show Rg _ _ (if (((bK items.size 0 lo:Nat):Int) == 0 && (1:Int) == 1 && (bK items.size items.size hi - bK items.size 0 lo) == items.size)=true then _ else _) _ _ s
 rw [if_neg hno,FQ]
 first
  | exact QJ (m:=RY _) (Rw (QL ⟨_,rfl,QL h⟩) OA)
  | exact QJ (m:=RY _) (Rw (QJ (QL (QL ⟨_,rfl,QL h⟩))) OA)
  | exact QJ (QJ (m:=RY _) (Rw (QL (QL ⟨_,rfl,QL h⟩)) OA))
  | exact QJ (QJ (m:=RY _) (Rw (QL ⟨_,rfl,QL h⟩) OA))
end
end HT
namespace L2
open PySem PySem.Spec PyProof.Rows
noncomputable abbrev TO:=St->Hp->(Option Int->Hp->Prop)->Prop
noncomputable def PO (X:Cx) (e:Option Rz) (t:TO):Prop:=
 ∀(Qz:List (Q4×Obj)) (s:QN) (σ:St) (H:Hp) (Q:Option Int->Hp->Prop),Inv X Qz σ H s->t σ H Q->
  Rg (Rk X.prog X.w) X.A (evalPart e X.env) (λu s'=>∃o H',Inv X Qz σ H' s'/\Yx u o/\Q o H') X.xe s
noncomputable def Jq:TO:=λ_ H Q=>Q none H
noncomputable def MS (t:TE):TO:=λσ H Q=>t σ H λx H1=>∃i,x=.int i/\Q (some i) H1
theorem intsAre_of {ns:List Int}:∀{us:List QM},Vals (ns.map V.int) us->U0 us ns:=by
 induction ns with
 | nil=>intro us r;rw [VI] at r;cases r;exact .nil
 | cons n ns ih=>
  intro us r
  rw [Ra] at r
  cases r with
  | cons r1 r2=>
   obtain ⟨t,e⟩:=r1
   subst e
   exact .cons n t (ih r2)
section
variable {X:Cx}{e:Rz}{te:TE}{lo hi:Option Rz}{tl th:TO}{pos p2:Pos}
theorem II:PO X none Jq:=by
 intro Qz s σ H Q I h
 rw [YA]
 exact QL ⟨none,H,I,.none,h⟩
theorem IJ (h:PE X e te):PO X (some e) (MS te):=by
 intro Qz s σ H Q I hw
 rw [aaC]
 refine bP (h Qz s σ H _ I hw) λu s1 ⟨x,H1,I1,r1,q1⟩=>?_
 obtain ⟨i,rfl,q⟩:=q1
 obtain ⟨t,rfl⟩:=r1
 exact ⟨some i,H1,I1,.int i t,q⟩
noncomputable def rO (X:Cx) (r:V->Option Int->Option Int->Hp->VK->Prop):Prop:=
 ∀(Qz:List (Q4×Obj)) (s:QN) (σ:St) (H:Hp) (x:V) (v vl vu:QM) (lo hi:Option Int) (sl:Q4) (Q:VK),Inv X Qz σ H s->RelV x v->s.heap.IsSliceOf sl vl vu .none->Yx vl lo->Yx vu hi->r x lo hi H Q->
  ∃T id,typeLookup (.type T) "__getitem__"=pure (some (.builtin id))/\s.TypeIs v T/\Rg (Rk X.prog X.w) X.A (Xw v (.ref sl)) (EP X Qz σ Q) X.xe s
theorem rO.or {r r':V->Option Int->Option Int->Hp->VK->Prop}(h:rO X r) (h':rO X r'):rO X (λx lo hi H Q=>r x lo hi H Q\/r' x lo hi H Q):=by
 intro Qz s σ H x v vl vu lo hi sl Q I rx hs pl pu q
 rcases q with q | q
 ·exact h Qz s σ H x v vl vu lo hi sl Q I rx hs pl pu q
 ·exact h' Qz s σ H x v vl vu lo hi sl Q I rx hs pl pu q
noncomputable def Oi (r:V->Option Int->Option Int->Hp->VK->Prop) (te:TE) (tl th:TO):TE:=λσ H Q=>te σ H λx H1=>tl σ H1 λl H2=>th σ H2 λu H3=>r x l u H3 Q
theorem FO {r:V->Option Int->Option Int->Hp->VK->Prop}(hr:rO X r) (he:PE X e te) (hl:PO X lo tl) (hu:PO X hi th):PE X (.Subscript e (.Slice lo hi none p2) pos) (Oi r te tl th):=by
 intro Qz s σ H Q I h
 refine aam (bP (he Qz s σ H _ I h) λv s1 ⟨x,H1,I1,r1,q1⟩=>?_)
 refine wpAny_Slice (bP (hl Qz s1 σ H1 _ I1 q1) λvl s2 ⟨l,H2,I2,pl,q2⟩=>bP (hu Qz s2 σ H2 _ I2 q2) λvu s3 ⟨u,H3,I3,pu,q3⟩=>?_)
 rw [YA]
 refine QL ?_
 have I4:Inv X Qz σ H3 {s3 with heap:=s3.heap.push {cls:=.type "slice",data:=.fields #[vl,vu,.none]}}:=I3.kept (t':=s3.toks) λb ob q=>QV _ q
 obtain ⟨T,id,hT,ht,hg⟩:=hr Qz {s3 with heap:=s3.heap.push {cls:=.type "slice",data:=.fields #[vl,vu,.none]}} σ H3 x v vl vu l u s3.heap.objs.size Q I4 r1 (YB ..) pl pu q3
 show Rg (Rk X.prog X.w) X.A (aaD e (.Slice lo hi none p2) v (.ref s3.heap.objs.size)) (EP X Qz σ Q) X.xe {s3 with heap:=s3.heap.push {cls:=.type "slice",data:=.fields #[vl,vu,.none]}}
 exact abA (ops:=[.ref s3.heap.objs.size,v]) ht hT hg (by with_unfolding_all rfl)
noncomputable def lM (xs:List V) (lo hi:Option Int):List V:=(xs.drop (HT.bK xs.length 0 lo)).take (HT.bK xs.length xs.length hi - HT.bK xs.length 0 lo)
theorem qx (xs:List V) (lo hi:Option Int):(lM xs lo hi).length<=xs.length:=by
 unfold lM
 rw [Uq,Ur]
 omega
noncomputable def NC (K:QK):V->Option Int->Option Int->Hp->VK->Prop:=λx lo hi H Q=>∃a xs,x=.ref a/\cX K H a xs/\
 ¬(HT.bK xs.length 0 lo=0/\HT.bK xs.length xs.length hi=xs.length)/\∀p,H p=none->Q (.ref p) (upd H p (.tup (lM xs lo hi)))
theorem LK:rO X (NC X.K):=by
 intro Qz s σ H x v vl vu lo hi sl Q I rx hs pl pu h
 obtain ⟨a,xs,rfl,hx,hw,q⟩:=h
 cases rx
 obtain ⟨QA,r,ht,hz⟩:=I.tuple hx
 have hlen:QA.toArray.size=xs.length:=by rw [Q2];exact r.length.symm
 refine ⟨"tuple",_,RC.lookup,ht.typeIs,?_⟩
 refine HT.qm ht hs pl pu (by rw [hlen];exact hw) ?_ (by rw [hlen];exact hz)
 rw [hlen]
 refine ⟨.ref s.heap.objs.size,_,I.laid (t':=s.toks) (o:=.tup (lM xs lo hi)) (λb ob q=>QV _ q) (QY _) ?_,rfl,q _ (I.hok.fresh (QY _))⟩
 exact ⟨RE (qx xs lo hi) hz,_,(r.drop (HT.bK xs.length 0 lo)).take (HT.bK xs.length xs.length hi - HT.bK xs.length 0 lo),ZF _ _⟩
noncomputable def ME (K:QK):R2:=λx y H Q=>∃a b xs ys,x=.ref a/\y=.ref b/\cX K H a xs/\cX K H b ys/\xs≠[]/\xs.length + ys.length<=sizeLine/\
 (ys=[]->Q (.ref a) H)/\(ys≠[]->∀p,H p=none->Q (.ref p) (upd H p (.tup (xs++ys))))
theorem Vals.nil_iff {xs:List V}{us:List QM}(r:Vals xs us):us=[]↔xs=[]:=by
 cases r with
 | nil=>simp
 | cons _ _=>simp
theorem Ip:c_ X (UG .Add) (ME X.K):=by
 intro Qz s σ H x y v u Q I rx ry h
 obtain ⟨a,b,xs,ys,rfl,rfl,ha,hb,hx,hz,q1,q2⟩:=h
 cases rx
 cases ry
 obtain ⟨QA,r1,p1,_⟩:=I.tuple ha
 obtain ⟨its2,r2,p2,_⟩:=I.tuple hb
 refine HT.HC p1 p2 (λz=>hx (r1.nil_iff.mp z)) (λz=>⟨.ref a,H,I,rfl,q1 (r2.nil_iff.mp z)⟩) (λz=>?_) (by rw [<-r1.length,<-r2.length];exact hz)
 refine ⟨.ref s.heap.objs.size,_,I.laid (t':=s.toks) (o:=.tup (xs++ys)) (λb ob q=>QV _ q) (QY _) ?_,rfl,q2 (λw=>z (r2.nil_iff.mpr w)) _ (I.hok.fresh (QY _))⟩
 exact ⟨by rw [Rm];exact hz,_,r1.append r2,ZF _ _⟩
end
noncomputable def yd (n:Nat) (i:Int):Option Nat:=if 0<=i then (if i < n then some i.toNat else none) else if -(n:Int)<=i then some (i + n).toNat else none
noncomputable def kT {α:Type}(xs:List α) (i:Int):Option α:=(yd xs.length i).bind λj=>xs[j]?
theorem HX {n:Nat}{i:Int}{j:Nat}(h:yd n i=some j):YC i n=some j/\j < n/\-(n:Int)<=i/\i < n:=by
 unfold yd at h
 by_cases h0:0<=i
 ·rw [if_pos h0] at h
  by_cases h1:i < n
  ·rw [if_pos h1] at h
   have e:i.toNat=j:=R4 h
   exact ⟨by rw [seqIndex_of h0 h1,e],by omega,by omega,h1⟩
  ·rw [if_neg h1] at h;cases h
 ·rw [if_neg h0] at h
  by_cases h1:-(n:Int)<=i
  ·rw [if_pos h1] at h
   have e:(i + n).toNat=j:=R4 h
   exact ⟨by rw [seqIndex_neg (by omega) h1,e],by omega,h1,by omega⟩
  ·rw [if_neg h1] at h;cases h
theorem ua {α:Type}{xs:List α}{i:Int}{v:α}(h:kT xs i=some v):∃j,YC i xs.length=some j/\xs[j]?=some v/\j < xs.length/\-(xs.length:Int)<=i/\i < xs.length:=by
 unfold kT at h
 cases e:yd xs.length i with
 | none=>rw [e] at h;cases h
 | some j=>
  rw [e] at h
  obtain ⟨h1,h2,h3,h4⟩:=HX e
  exact ⟨j,h1,h,h2,h3,h4⟩
noncomputable def pS (b:Rz):Prop:=∀o i,subscripted b false o i=operate [o,i] (Xw o i)
noncomputable def oA (X:Cx) (r:R2):Prop:=
 ∀(value slice:Rz) (Qz:List (Q4×Obj)) (s:QN) (σ:St) (H:Hp) (x y:V) (v u:QM) (Q:VK),Inv X Qz σ H s->RelV x v->RelV y u->r x y H Q->
  subscripted slice false v u=operate [v,u] (Xw v u)->Rg (Rk X.prog X.w) X.A (aaD value slice v u) (EP X Qz σ Q) X.xe s
noncomputable def N4 (X:Cx) (id:String) (r:V->List V->Hp->VK->Prop):Prop:=
 ∀(Qz:List (Q4×Obj)) (s:QN) (σ:St) (H:Hp) (x:V) (xs:List V) (v:QM) (us:List QM) (Q:VK),Inv X Qz σ H s->RelV x v->Vals xs us->r x xs H Q->
  Rg (Rk X.prog X.w) X.A (call (.builtin id) (v::us)) (EP X Qz σ Q) X.xe s
section
variable {X:Cx}{a b:Rz}{ta tb:TE}{pos:Pos}
theorem oA.or {r r':R2}(h:oA X r) (h':oA X r'):oA X (λx y H Q=>r x y H Q\/r' x y H Q):=by
 intro value slice Qz s σ H x y v u Q I rx ry q hs
 rcases q with q | q
 ·exact h value slice Qz s σ H x y v u Q I rx ry q hs
 ·exact h' value slice Qz s σ H x y v u Q I rx ry q hs
theorem My {r:R2}(hr:oA X r) (ha:PE X a ta) (hb:PE X b tb) (hs:pS b):PE X (.Subscript a b pos) (Ej r ta tb):=by
 intro Qz s σ H Q I h
 exact aam (EJ ha hb I h λv u s2 x y H2 I2 rx ry q=>hr a b Qz s2 σ H2 x y v u Q I2 rx ry q (hs _ _))
noncomputable def Lw (K:QK):R2:=λx y H Q=>∃p xs i v,x=.ref p/\y=.int i/\cG K H p xs/\kT xs i=some v/\Q v H
noncomputable def Ly (K:QK):R2:=λx y H Q=>∃p xs i v,x=.ref p/\y=.int i/\cX K H p xs/\kT xs i=some v/\Q v H
noncomputable def Lx:R2:=λx y H Q=>∃z i c,x=.str z/\y=.int i/\z.length<=sizeLine/\kT z.cps.toList i=some c/\Q (.str ⟨#[c]⟩) H
theorem HY:oA X (Lw X.K):=by
 intro value slice Qz s σ H x y v u Q I rx ry h hs
 obtain ⟨p,xs,i,z,rfl,rfl,hq,he,q⟩:=h
 cases rx
 obtain ⟨t,rfl⟩:=ry
 obtain ⟨QA,r,pl,hz⟩:=I.list hq
 obtain ⟨j,h1,h2,h3,h4,h5⟩:=ua he
 obtain ⟨w,ew,rw'⟩:=r.get h2
 have hl:=r.length
 have hn:=mL
 have fin:EP X Qz σ Q w s:=⟨z,H,I,rw',q⟩
 by_cases h0:0<=i
 ·have hj:i.toNat=j:=by
   rw [seqIndex_of h0 h5] at h1
   exact R4 h1
  exact item_listR pl.isList h0 (by omega) (by rw [hj];simpa using ew) fin hs
 ·have hj:(i + (QA.toArray.size:Int)).toNat=j:=by
   rw [seqIndex_neg (by omega) h4] at h1
   rw [Q2,<-hl]
   exact R4 h1
  exact Vs (x:=w) pl.isList.typeIs YX.lookup
   (wpAny_getItem_list_neg (Q:=λr s'=>r=w/\EP X Qz σ Q r s') pl.isList (by omega) (by rw [Q2] <;> omega) (by omega) (by rw [hj];simpa using ew) ⟨rfl,fin⟩) hs
theorem KA:oA X (Ly X.K):=by
 intro value slice Qz s σ H x y v u Q I rx ry h hs
 obtain ⟨p,xs,i,z,rfl,rfl,hq,he,q⟩:=h
 cases rx
 obtain ⟨t,rfl⟩:=ry
 obtain ⟨QA,r,pl,hz⟩:=I.tuple hq
 obtain ⟨j,h1,h2,h3,h4,h5⟩:=ua he
 obtain ⟨w,ew,rw'⟩:=r.get h2
 have hl:=r.length
 have hn:=mL
 have fin:EP X Qz σ Q w s:=⟨z,H,I,rw',q⟩
 exact Vs (x:=w) pl.typeIs slot_tuple_getitem.lookup
  (getItem_tuple (j:=j) (Q:=λr s'=>r=w/\EP X Qz σ Q r s') pl (by omega) (by omega) (by rw [Q2,<-hl];exact h1) (by simpa using ew) ⟨rfl,fin⟩) hs
theorem Kz:oA X Lx:=by
 intro value slice Qz s σ H x y v u Q I rx ry h hs
 obtain ⟨z,i,c,rfl,rfl,hz,he,q⟩:=h
 obtain ⟨t,rfl⟩:=rx
 obtain ⟨t',rfl⟩:=ry
 obtain ⟨j,h1,h2,h3,h4,h5⟩:=ua he
 have hl:z.cps.toList.length=z.length:=by simp [aan]
 rw [hl] at h1 h4 h5
 have hn:=mL
 exact abA (typeIs_str s z t) slot_str_getitem.lookup (getItem_str (c:=c) (by
  have e1:decide (i < -(2 ^ 63:Int))=false:=decide_eq_false (by omega)
  have e2:decide (i ≥ 2 ^ 63)=false:=decide_eq_false (by omega)
  rw [e1,e2,aaE]) (by rw [h1];simpa using h2) ⟨.str ⟨#[c]⟩,H,I.tok _,⟨_,rfl⟩,q⟩) hs
noncomputable def Od (K:QK):R2:=λx y H Q=>Lw K x y H Q\/Ly K x y H Q\/Lx x y H Q
theorem Ky:oA X (Od X.K):=HY.or (KA.or Kz)
theorem Inv.lst {Qz:List (Q4×Obj)}{σ:St}{H:Hp}{s:QN}{p:Q4}{xs:List V}(I:Inv X Qz σ H s) (h:H p=some (.lst xs)):
  ∃(QA:List QM) (n:Nat),Vals xs QA/\s.heap.get? p=some {cls:=.type "list",data:=.seq QA.toArray n}/\xs.length<=sizeLine:=by
 obtain ⟨z,QA,n,r,e⟩:=I.hok p _ h
 exact ⟨QA,n,r,e,z⟩
theorem yU (lo hi:Option Int) (n:Nat):(Vx lo hi none n).1=((HT.bK n 0 lo:Nat):Int)/\(Vx lo hi none n).2.1=((HT.bK n n hi:Nat):Int)/\(Vx lo hi none n).2.2=1:=by
 refine ⟨?_,?_,rfl⟩
 ·cases lo with
  | none=>simp [Vx,HT.bK]
  | some i=>
   simp only [Vx,HT.bK,Zq,show (1:Int) > 0 by decide,if_true]
   by_cases h:i < 0
   ·simp only [h,if_true] <;> omega
   ·simp only [h,if_false] <;> omega
 ·cases hi with
  | none=>simp [Vx,HT.bK]
  | some i=>
   simp only [Vx,HT.bK,Zq,show (1:Int) > 0 by decide,if_true]
   by_cases h:i < 0
   ·simp only [h,if_true] <;> omega
   ·simp only [h,if_false] <;> omega
theorem wg (QA:List QM) (lo hi:Option Int):slicePick QA.toArray lo hi none=((QA.drop (HT.bK QA.length 0 lo)).take (HT.bK QA.length QA.length hi - HT.bK QA.length 0 lo)).toArray:=by
 obtain ⟨h1,h2,h3⟩:=yU lo hi QA.toArray.size
 unfold slicePick
 rw [h1,h2,h3]
 simp only [sliceRange_one,pick_run,Q2] <;> rfl
noncomputable def NB (K:QK):V->Option Int->Option Int->Hp->VK->Prop:=λx lo hi H Q=>∃a xs,x=.ref a/\cG K H a xs/\∀p,H p=none->Q (.ref p) (upd H p (.lst (lM xs lo hi)))
theorem Jk:rO X (NB X.K):=by
 intro Qz s σ H x v vl vu lo hi sl Q I rx hs pl pu h
 obtain ⟨a,xs,rfl,hx,q⟩:=h
 cases rx
 obtain ⟨QA,r,ht,hz⟩:=I.list hx
 have hlen:=r.length
 refine ⟨"list",_,YX.lookup,ht.isList.typeIs,?_⟩
 refine wpAny_getItem_list_slice ht.isList hs pl pu .none (by simp) ?_ (by rw [Q2] <;> omega)
 rw [wg,<-hlen]
 refine ⟨.ref s.heap.objs.size,_,I.laid (t':=s.toks) (o:=.lst (lM xs lo hi)) (λb ob q=>QV _ q) (QY _) ?_,rfl,q _ (I.hok.fresh (QY _))⟩
 exact ⟨RE (qx xs lo hi) hz,_,0,(r.drop (HT.bK xs.length 0 lo)).take (HT.bK xs.length xs.length hi - HT.bK xs.length 0 lo),Q7 _ rfl⟩
noncomputable def su:V->Bool
 | .non=>true
 | .bl _=>true
 | .int _=>true
 | .str _=>true
 | _=>false
noncomputable def J_:V->V->Bool
 | .non,.non=>true
 | .bl a,.bl b=>a == b
 | .bl a,.int b=>(if a then 1 else 0) == b
 | .int a,.bl b=>a == (if b then 1 else 0)
 | .int a,.int b=>a == b
 | .str a,.str b=>a == b
 | _,_=>false
theorem J6 {A:RG}{s:QN}{y x:V}{u v:QM}(ry:RelV y u) (rx:RelV x v) (fy:su y=true) (fx:su x=true):Td A s u v (J_ y x):=by
 cases y with
 | non=>
  cases ry
  cases x with
  | non=>cases rx;exact Xx _
  | bl b=>cases rx;exact aa8 b
  | int b=>obtain ⟨t,rfl⟩:=rx;exact abh b t
  | str b=>obtain ⟨t,rfl⟩:=rx;exact abi b t
  | _=>exact absurd (show false=true from fx) RB
 | bl a=>
  cases ry
  cases x with
  | non=>cases rx;exact aa9 a
  | bl b=>cases rx;exact aa_ a b
  | int b=>obtain ⟨t,rfl⟩:=rx;exact abj a b t
  | str b=>obtain ⟨t,rfl⟩:=rx;exact abk a b t
  | _=>exact absurd (show false=true from fx) RB
 | int a=>
  obtain ⟨t',rfl⟩:=ry
  cases x with
  | non=>cases rx;exact abl a t'
  | bl b=>cases rx;exact abm a t' b
  | int b=>obtain ⟨t,rfl⟩:=rx;exact Yv a t' b t
  | str b=>obtain ⟨t,rfl⟩:=rx;exact Yo a t' b t
  | _=>exact absurd (show false=true from fx) RB
 | str a=>
  obtain ⟨t',rfl⟩:=ry
  cases x with
  | non=>cases rx;exact abn a t'
  | bl b=>cases rx;exact abo a t' b
  | int b=>obtain ⟨t,rfl⟩:=rx;exact Yp a t' b t
  | str b=>obtain ⟨t,rfl⟩:=rx;exact abB a t' b t
  | _=>exact absurd (show false=true from fx) RB
 | _=>exact absurd (show false=true from fy) RB
theorem xD:bU X (.builtin "len") (λxs H Q=>∃p ys,xs=[.ref p]/\(cG X.K H p ys\/cX X.K H p ys)/\Q (.int ys.length) H):=by
 intro Qz s σ H xs us Q I r h
 obtain ⟨p,ys,rfl,hq,q⟩:=h
 obtain ⟨u,rfl,rx⟩:=vals1 r
 cases rx
 have hn:=mL
 rcases hq with hq | hq
 ·obtain ⟨QA,r',pl,hz⟩:=I.list hq
  have hlen:=r'.length
  exact Calls.call_len_list pl.isList (by simp only [Q2] <;> omega) ⟨.int ys.length,H,I.tok _,⟨s.toks + 1,by rw [Q2,hlen]⟩,q⟩
 ·obtain ⟨QA,r',pl,hz⟩:=I.tuple hq
  have hlen:=r'.length
  exact len_tuple pl (by simp only [Q2] <;> omega) ⟨.int ys.length,H,I.tok _,⟨s.toks + 1,by rw [Q2,hlen]⟩,q⟩
theorem xE:bU X (.builtin "len") (λxs H Q=>∃z,xs=[.str z]/\z.length<=sizeLine/\Q (.int z.length) H):=by
 intro Qz s σ H xs us Q I r h
 obtain ⟨z,rfl,hz,q⟩:=h
 obtain ⟨u,rfl,t,rfl⟩:=vals1 r
 have hn:=mL
 exact len_str (by omega) ⟨.int z.length,H,I.tok _,⟨_,rfl⟩,q⟩
theorem bU.or {f:QM}{r r':List V->Hp->VK->Prop}(h:bU X f r) (h':bU X f r'):bU X f (λxs H Q=>r xs H Q\/r' xs H Q):=by
 intro Qz s σ H xs us Q I rs q
 rcases q with q | q
 ·exact h Qz s σ H xs us Q I rs q
 ·exact h' Qz s σ H xs us Q I rs q
theorem vU:bU X (.type "tuple") (λxs H Q=>∃p ys,xs=[.ref p]/\((cG X.K H p ys/\∀l,H l=none->Q (.ref l) (upd H l (.tup ys)))\/(cX X.K H p ys/\Q (.ref p) H))):=by
 intro Qz s σ H xs us Q I r h
 obtain ⟨p,ys,rfl,h⟩:=h
 obtain ⟨u,rfl,rx⟩:=vals1 r
 cases rx
 rcases h with ⟨hq,q⟩ | ⟨hq,q⟩
 ·obtain ⟨QA,r',pl,hz⟩:=I.list hq
  have hlen:=r'.length
  refine call_tuple_list pl.isList (λh' kp=>?_) (by simp only [Q2] <;> omega)
  have I1:Inv X Qz σ H {s with heap:=h'}:=I.kept (t':=s.toks) kp
  have I2:Inv X Qz σ (upd H h'.objs.size (.tup ys)) {s with heap:=h'.push {cls:=.type "tuple",data:=.seq QA.toArray}}:=
   I1.laid (t':=s.toks) (λb o e=>QV _ e) (QY _) (show cg X.prog X.w _ _ _ (.tup ys) from ⟨hz,QA,r',ZF _ _⟩)
  exact ⟨.ref h'.objs.size,_,I2,rfl,q _ (I1.hok.fresh (QY _))⟩
 ·obtain ⟨QA,r',pl,hz⟩:=I.tuple hq
  exact call_tuple_same pl ⟨.ref p,H,I,rfl,q⟩
noncomputable def M9 (K:QK) (T:String) (x:V) (H:Hp):Prop:=match x with
 | .str _=>T="str"
 | .int _=>T="int"
 | .ref p=>(T="list"/\∃xs,cG K H p xs)\/(T="tuple"/\∃o,K.lookup p=some o/\o.cls=.type "tuple"/\o.dict=none)\/
   (T="dict"/\((∃QH,H p=some (.dK QH))\/∃QH,H p=some (.dT QH)))\/(T="set"/\∃S n,H p=some (.set S n))
 | _=>False
theorem LX {Qz:List (Q4×Obj)}{σ:St}{H:Hp}{s:QN}{T:String}{x:V}{v:QM}(I:Inv X Qz σ H s) (r:RelV x v) (ty:M9 X.K T x H):
  s.TypeIs v T/\∀a,v=.ref a->∃ob,s.heap.get? a=some ob/\ob.dict=none:=by
 cases x with
 | str z=>
  obtain ⟨t,rfl⟩:=r
  cases (show T="str" from ty)
  exact ⟨typeIs_str s z t,λ_ e=>nomatch e⟩
 | int i=>
  obtain ⟨t,rfl⟩:=r
  cases (show T="int" from ty)
  exact ⟨typeIs_int s i t,λ_ e=>nomatch e⟩
 | ref p=>
  cases r
  rcases ty with ⟨rfl,xs,hq⟩ | ⟨rfl,o,hk,hc,hd⟩ | ⟨rfl,hk⟩ | ⟨rfl,S,n,hk⟩
  ·obtain ⟨QA,_,pl,_⟩:=I.list hq
   refine ⟨pl.isList.typeIs,λa e=>?_⟩
   cases e
   obtain ⟨o,n,e,c,hd,_⟩:=pl
   exact ⟨o,e,hd⟩
  ·refine ⟨⟨o,I.kIn p o hk,hc⟩,λa e=>?_⟩
   cases e
   exact ⟨o,I.kIn _ o hk,hd⟩
  ·have z:∃o,s.heap.get? p=some o/\o.ExactDict:=by
    rcases hk with ⟨QH,hk⟩ | ⟨QH,hk⟩
    ·obtain ⟨_,_,_,_,o,_,_,e,ex,_⟩:=I.hok p _ hk
     exact ⟨o,e,ex⟩
    ·obtain ⟨_,_,_,_,o,_,_,e,ex,_⟩:=I.hok p _ hk
     exact ⟨o,e,ex⟩
   obtain ⟨o,e,ex⟩:=z
   refine ⟨⟨o,e,ex.1⟩,λa e2=>?_⟩
   cases e2
   exact ⟨o,e,ex.2.1⟩
  ·obtain ⟨o,_,_,_,e,ex,_⟩:=I.hok p _ hk
   refine ⟨⟨o,e,ex.1⟩,λa e2=>?_⟩
   cases e2
   exact ⟨o,e,ex.2.1⟩
 | _=>exact UE ty
noncomputable def Of (K:QK) (T:String) (r:V->List V->Hp->VK->Prop) (to:TE) (t:TA):TE:=λσ H Q=>to σ H λx H1=>M9 K T x H1/\t σ H1 λxs H2=>r x xs H2 Q
variable {o e:Rz}{es:List Rz}{to:TE}{t:TA}{name:Str}{apos cpos:Pos}{T id:String}{r:V->List V->Hp->VK->Prop}
theorem wO (pa:PlainAttrs T) (slot:Slot T name id) (hty:typeOf (.builtin id)=pure (.type "method_descriptor")) (hm:N4 X id r) (ho:PE X o to) (ha:PA X (e::es) t)
  (hbase:Vf o name X.env (eval o X.env)=eval o X.env:=by rfl)
  (hfew:((SV cpos (QZ (e::es) X.env)).all (λx=>!x.1) && (Zz cpos (WY [] X.env)).all (λx=>x.1.isSome)
   && decide ((e::es).length + ([]:List WZ).length + (if ([]:List WZ).isEmpty then 0 else 1) < 30))=true:=by rfl)
  (hline:(apos.endLine == cpos.line)=true:=by rfl) (hs:QZ (e::es) X.env=(false,eval e X.env)::QZ es X.env:=by rfl) (hplain:(SV cpos (QZ es X.env)).any (·.1)=false:=by rfl):
  PE X (.Call (.Attribute o name apos) (e::es) [] cpos) (Of X.K T r to t):=by
 intro Qz s σ H Q I h
 refine wpAny_Call_method_late hbase hfew hline rfl (bP (ho Qz s σ H _ I h) λv s1 ⟨x,H1,I1,r1,ty,q1⟩=>?_)
 obtain ⟨h1,h2⟩:=LX I1 r1 ty
 refine ⟨T,id,pa,slot,hty,h1,h2,?_⟩
 have hA:=ha cpos Qz s1 σ H1 _ I1 q1
 rw [hs] at hA ⊢
 refine Calls.callWith_builtin (by show (false || (SV cpos (QZ es X.env)).any (·.1))=false;rw [hplain] <;> rfl) (Calls.evalArgs_plain ?_)
 exact bP hA λus s2 ⟨vs,H2,I2,r2,q2⟩=>hm Qz s2 σ H2 x vs v us Q I2 r1 r2 q2
end
noncomputable def GJ (X:Cx) (id:String) (r:V->List V->Hp->VK->Prop):Prop:=
 ∀(Qz:List (Q4×Obj)) (s:QN) (σ:St) (H:Hp) (x:V) (xs:List V) (v:QM) (us:List QM) (Q:VK),Inv X Qz σ H s->RelV x v->Vals xs us->r x xs H Q->
  Rg (Rk X.prog X.w) X.A (call (.builtin id) (v::us)) (EP X Qz σ Q) X.xe s
theorem Vals.one:∀{x:V}{us:List QM},Vals [x] us->∃u,us=[u]/\RelV x u
 | _,_,.cons r .nil=>⟨_,rfl,r⟩
theorem Vals.eraseIdx:∀{xs:List V}{us:List QM}(i:Nat),Vals xs us->Vals (xs.eraseIdx i) (us.eraseIdx i)
 | _,_,_,.nil=>.nil
 | _,_,0,.cons _ t=>t
 | _,_,i + 1,.cons r t=>.cons r (Vals.eraseIdx i t)
theorem Vals.reverse {xs:List V}{us:List QM}(h:Vals xs us):Vals xs.reverse us.reverse:=by
 induction h with
 | nil=>exact .nil
 | cons r t ih=>rw [Vy,Vy];exact Vals.append ih (.cons r .nil)
theorem vh {α:Type}:∀(l:List α) (i:Nat),(l.eraseIdx i).length<=l.length
 | [],_=>QY _
 | _::_,0=>SN _
 | _::r,i + 1=>Nat.succ_le_succ (vh r i)
section
variable {X:Cx}{Qz:List (Q4×Obj)}{σ:St}{H:Hp}{s:QN}{l b:Q4}{xs ys zs:List V}
theorem Inv.lset {QA its':List QM}{n:Nat}{f:Array QM->Array QM}{t':Nat}(I:Inv X Qz σ H s) (hH:H l=some (.lst xs))
  (e:s.heap.get? l=some {cls:=.type "list",data:=.seq QA.toArray n}) (hf:f QA.toArray=its'.toArray) (hv:Vals ys its') (hz:ys.length<=sizeLine):
  Inv X Qz σ (upd H l (.lst ys)) {s with heap:=s.heap.update l (SA f),toks:=t'}:=by
 have q:=abN e f
 rw [hf] at q
 refine I.write (x:=l) (e:=l) (by rw [hH];exact trivial) (.inl rfl) (λb' u hb hu=>(Vt s.heap (SA f) (Tt hb)).trans hu) ⟨_,q⟩ ?_
 exact ⟨hz,its',_,hv,q⟩
theorem Inv.lnew {QA:List QM}{t':Nat}(I:Inv X Qz σ H s) (hv:Vals ys QA) (hz:ys.length<=sizeLine):
  Inv X Qz σ (upd H s.heap.objs.size (.lst ys)) {s with heap:=s.heap.push {cls:=.type "list",data:=.seq QA.toArray},toks:=t'}:=
 I.laid (λ_ _ q=>QV _ q) (QY _) ⟨hz,QA,0,hv,Q7 _ rfl⟩
theorem Inv.fresh (I:Inv X Qz σ H s):H s.heap.objs.size=none:=I.hok.fresh (QY _)
theorem Inv.lstM (I:Inv X Qz σ H s) (hH:H l=some (.lst xs)):xs.length<=sizeLine/\∃(QA:List QM) (n:Nat),Vals xs QA/\xs.length=QA.length/\s.heap.get? l=some {cls:=.type "list",data:=.seq QA.toArray n}:=by
 obtain ⟨z,QA,n,r,e⟩:=I.hok l _ hH
 exact ⟨z,QA,n,r,r.length,e⟩
theorem yq {n:Nat}(h:n<=sizeLine):Te n=false:=by
 unfold Te
 exact decide_eq_false (by omega)
end
section
variable {X:Cx}
noncomputable def Ja:V->List V->Hp->VK->Prop:=λx vs H Q=>∃l xs y,x=.ref l/\vs=[y]/\H l=some (.lst xs)/\xs.length < sizeLine/\Q .non (upd H l (.lst (xs++[y])))
theorem oY:GJ X "list.append" Ja:=by
 intro Qz s σ H x vs v us Q I rx rv h
 obtain ⟨l,xs,y,rfl,rfl,hH,hz,q⟩:=h
 cases rx
 obtain ⟨u,rfl,ru⟩:=rv.one
 obtain ⟨z,QA,n,r,hl,e⟩:=I.lstM hH
 refine YY F.slot_list_append ⟨_,e,rfl⟩ F.entry_list_append (F.args_list_append_2 _ _) (PySem.list_append l QA.toArray n u (by rw [Q2];omega)) ⟨e,?_⟩
 refine ⟨.non,_,I.lset (its':=QA++[u]) hH e (by simp) (r.append (.cons ru .nil)) ?_,rfl,q⟩
 rw [Rm,List.length_singleton]
 omega
noncomputable def Jb:V->List V->Hp->VK->Prop:=λx vs H Q=>∃l b xs zs,x=.ref l/\vs=[.ref b]/\H l=some (.lst xs)/\H b=some (.lst zs)/\xs.length + zs.length<=sizeLine/\Q .non (upd H l (.lst (xs++zs)))
theorem M7:GJ X "list.extend" Jb:=by
 intro Qz s σ H x vs v us Q I rx rv h
 obtain ⟨l,b,xs,zs,rfl,rfl,hH,hB,hz,q⟩:=h
 cases rx
 obtain ⟨u,rfl,ru⟩:=rv.one
 cases ru
 obtain ⟨z,QA,n,r,hl,e⟩:=I.lstM hH
 obtain ⟨z2,its2,n2,r2,hl2,e2⟩:=I.lstM hB
 have hsz:QA.toArray.size + its2.toArray.size<=sizeLine:=by rw [Q2,Q2];omega
 have OO:¬(!QA.toArray.isEmpty && Te (QA.toArray.size + its2.toArray.size))=true:=by
  rw [yq hsz,Uw]
  exact RB
 refine YY YD ⟨_,e,rfl⟩ Yi (XZ _ _)
  (AutoSeq1.list_extend_list_list_0 l QA.toArray n b its2.toArray n2 OO (by rw [Q2];omega) (by omega)) ⟨e,e2,?_⟩
 refine ⟨.non,_,I.lset (its':=QA++its2) hH e (by simp) (r.append r2) ?_,rfl,q⟩
 rw [Rm]
 omega
noncomputable def Lz:V->List V->Hp->VK->Prop:=λx vs H Q=>∃l xs i k y,x=.ref l/\vs=[.int i]/\H l=some (.lst xs)/\-(2 ^ 63)<=i/\i < 2 ^ 63/\YC i xs.length=some k/\xs[k]?=some y/\Q y (upd H l (.lst (xs.eraseIdx k)))
theorem Fj:GJ X "list.pop" Lz:=by
 intro Qz s σ H x vs v us Q I rx rv h
 obtain ⟨l,xs,i,k,y,rfl,rfl,hH,h1,h2,hk,hy,q⟩:=h
 cases rx
 obtain ⟨u,rfl,ru⟩:=rv.one
 obtain ⟨t,rfl⟩:=ru
 obtain ⟨z,QA,n,r,hl,e⟩:=I.lstM hH
 obtain ⟨w,hw,rw'⟩:=r.get hy
 refine YY F.slot_list_pop ⟨_,e,rfl⟩ F.entry_list_pop (F.args_list_pop_2 _ _)
  (MeetsSeq.list_pop_at l QA.toArray n i t k w (fitsIndex_both h1 h2) (by rw [Q2,<-hl];exact hk) (by rw [<-Se];exact hw) (by rw [Q2];omega)) ⟨e,?_⟩
 refine ⟨y,_,I.lset (its':=QA.eraseIdx k) hH e ?_ (r.eraseIdx k) ?_,rw',q⟩
 ·show QA.toArray.eraseIdxIfInBounds k=(QA.eraseIdx k).toArray
  rw [List.eraseIdxIfInBounds_toArray]
 ·have:=vh xs k
  omega
noncomputable def Ny:R2:=λx y H Q=>∃l b xs zs,x=.ref l/\y=.ref b/\H l=some (.lst xs)/\H b=some (.lst zs)/\xs.length + zs.length<=sizeLine/\∀p,H p=none->Q (.ref p) (upd H p (.lst (xs++zs)))
theorem DI:c_ X (UG .Add) Ny:=by
 intro Qz s σ H x y v u Q I rx ry h
 obtain ⟨l,b,xs,zs,rfl,rfl,hH,hB,hz,q⟩:=h
 cases rx
 cases ry
 obtain ⟨z,QA,n,r,hl,e⟩:=I.lstM hH
 obtain ⟨z2,its2,n2,r2,hl2,e2⟩:=I.lstM hB
 refine PySem.P.add_list e e2 ?_ (by rw [Q2,Q2];omega)
 have ea:QA.toArray++its2.toArray=(QA++its2).toArray:=by simp
 rw [ea]
 exact ⟨.ref _,_,I.lnew (t':=s.toks) (r.append r2) (by rw [Rm];omega),rfl,q _ I.fresh⟩
end
end L2
namespace Att
open PySem PySem.W PySem.Calls PyProof.Rows
theorem sM {P:aa0}{h:Sn}:∀(ns:List Int) (vs:List QM),WellAll P h vs (ns.map abR)->U0 vs ns:=by
 intro ns
 induction ns with
 | nil=>
  intro vs w
  rw [VI] at w
  cases w
  exact .nil
 | cons n ns ih=>
  intro vs w
  rw [Ra] at w
  cases w with
  | cons a b=>
   cases a
   exact .cons _ _ (ih _ b)
theorem Ef {l:OpenLaw}{n:Nat}(hn:l.most=some n){P:aa0}{h:Sn}{args:List WData}{vals:List QM}
  (hpre:l.row.toRowW.claim.pre args=true) (hwl:WellAll P h vals args):
  ∃a vs ns,vals=[U_ a]/\args=[WData.list (ns.map abR)]/\h.get? a=some {cls:=.type "list",data:=.seq vs.toArray}/\U0 vs ns/\ns.length<=n:=by
 have hsh:WShape.hasAll [] args [.list .int]=true:=(pre_splitW hpre).1
 have hc:l.pre.holds [] {args:=args}=true:=(pre_splitW hpre).2
 obtain ⟨d,r,rfl,h1,h2⟩:=hasAllW_cons hsh
 obtain rfl:=hasAllW_nil h2
 obtain ⟨xs,rfl,h3⟩:=hasW_list h1
 obtain ⟨ns,rfl⟩:=items_int h3
 have hlen:ns.length<=n:=by
  unfold OpenLaw.pre at hc
  have h4:(WTm.not (.lt (.lit (.int (n:Int))) (.len (.arg 0)))).holds [] {args:=[.list (ns.map .int)]}=true:=by
   have h4:=(holds_andW hc).1
   rw [hn] at h4
   exact h4
  have h5:=condW_of h4 (w_not (w_lt w_lit (w_len_list (w_arg rfl))))
  rw [QO] at h5
  refine Zr λq=>?_
  have q':(n:Int) < ((ns.length:Nat):Int):=by omega
  first
   | (rw [decide_eq_true q'] at h5;exact absurd h5 (by decide))
   | (simp at h5;omega)
 cases hwl with
 | cons w1 w2=>
  cases w2
  cases w1 with
  | list ho hall=>exact ⟨_,_,ns,rfl,rfl,ho,sM ns _ hall,hlen⟩
theorem D3 (l:OpenLaw) (args:List WData):l.row.toRowW.claim.post args (.bool true) args=true:=
 postW_of (r:=l.row.toRowW) (X:=(true == true))
  (show abH [] (.bool true) .bool=true by first | rfl | decide | simp [abH,WShape.arms,WShape.armsAll])
  (show (WTm.eq .res (.lit (.bool true))).value [] {args:=args,res:=some (.bool true),after:=args}=some (.bool (true == true)) from w_eq_bool (w_res rfl) w_lit) rfl
theorem zo {l:OpenLaw}{n:Nat}{q:Rb}{loose:List Str}{XP:(Str->Option QM)->Sn->Prop}{YP:RD->Sn->Prop}{d:DefRec}
  (hn:l.most=some n) (hdf:d.params.defaults=[])
  (call:∀(w:RD) (s₀ s₁:QN) (mg mb:Str->Option QM) (fa:Q4) (o:Obj) (pm cd doc:QM) (a:Q4) (vs:List QM) (ns:List Int),
   Ground q loose [] XP w s₀ mg mb s₁.heap->YP w s₁.heap->
   s₁.heap.get? fa=some o->o.data=.func (docDef d.name d.params d.body d.scope pm cd doc)->s₁.heap.CodeRec cd d.name->mg d.name=some (.ref fa)->
   s₁.heap.get? a=some {cls:=.type "list",data:=.seq vs.toArray}->U0 vs ns->ns.length<=n->s₁.gens=#[]->
   TH (Rk l.prog w) YZ (.call (.ref fa) ⟨[.ref a],[]⟩) (λr s'=>r=.ok (.ret (.bool true))/\OldK s₁.heap s'.heap/\s'.os=s₁.os/\WW s'.gens) s₁):
  WalkO q loose XP YP l.row.toRowW d [] (λf vs=>aao f vs):=by
 intro w s₀ s₁ mg mb G Y fa o pm cd doc dV kV ho hd hcd hD hmg hg args vals as hpre hlay hrd hwl hlo
 obtain rfl:dV=.none:=Dflts.none hD hdf
 obtain rfl:kV=.none:=Dflts.noKw hD
 obtain ⟨a,vs,ns,rfl,rfl,hobj,hints,hlen⟩:=Ef hn hpre hwl
 refine enter_call (TR (call w s₀ s₁ mg mb fa o pm cd doc a vs ns G Y ho (fd_plain hd) hcd hmg hobj hints hlen hg) λr s' hq=>?_)
 obtain ⟨rfl,h2,h3,h4⟩:=hq
 exact ⟨.inl ⟨.bool true,.bool true,[],rfl,λ_=>rfl,.bool true,D3 l _,λ_=>⟨SX,λ_ hm=>(nomatch hm)⟩⟩,h2,h3,h4⟩
end Att
namespace L2
open PySem PySem.Spec PyProof.Rows
theorem vK:∀{vs:List QM}{ns:List Int},U0 vs ns->Vals (ns.map V.int) vs
 | _,_,.nil=>.nil
 | _,_,.cons n t h=>.cons ⟨t,rfl⟩ (vK h)
noncomputable def A4 (H:Hp):Prop:=∀b,H b=none\/∃o xs,H b=some (.frz o (.lst xs))
theorem Fc {P:Rb}{w:RD}{K:QK}{mg mb:Str->Option QM}{CX:om}{k:Nat}{fa a:Q4}{fd:Rq}{x:Str}{sp:Sp}{s₁:QN}{vs:List QM}{ns:List Int}
  (KX:K.In s₁.heap) (hns:s₁.heap.Ns Rt mg) (hb:s₁.heap.Ns aaj mb) (P7:∀x:Str,x≠"__name__"->mb x=R1 x) (hlim:s₁.heap.NoLimit) (hg:s₁.gens=#[])
  (ha:s₁.heap.get? a=some {cls:=.type "list",data:=.seq vs.toArray}) (hi:U0 vs ns) (hl:ns.length<=sizeLine) (hr:cV k YZ)
  (F:∀base:Sn,K.In base->base.Ns Rt mg->fG P w K mg base CX k fa fd [x] sp) (hbind:∀(s:QN) (u:QM),ZE s fd ⟨[u],[]⟩ [(x,u)])
  (OT:∀H:Hp,A4 H->cG K H a (ns.map V.int)->sp [.ref a] H (λv _=>v=.bl true) λ_ _ _=>False)
  (Pf:∀H e s',CX [] H s₁ (λ_ _ _=>False) e s'->False):
  TH (Rk P w) YZ (.call (.ref fa) ⟨[.ref a],[]⟩) (λr s'=>r=.ok (.ret (.bool true))/\OldK s₁.heap s'.heap/\s'.os=s₁.os/\WW s'.gens) s₁:=by
 have rv:=vK hi
 have lenV:=hi.length
 have core:∀H:Hp,A4 H->cG K H a (ns.map V.int)->fU P w H s₁.heap->(∀b,H b≠none->b=a)->(H a≠none->K.lookup a=none)->
   TH (Rk P w) YZ (.call (.ref fa) ⟨[.ref a],[]⟩) (λr s'=>r=.ok (.ret (.bool true))/\OldK s₁.heap s'.heap/\s'.os=s₁.os/\WW s'.gens) s₁:=by
  intro H hO hS hok hA hK
  have base_of:∀{b:Q4}{o:Obj},s₁.heap.get? b=some o->H b=none->(nE s₁.heap H).get? b=some o:=λe n=>E5 e n
  have noA:∀{b:Q4}{o:Obj}{es:Array YE}{ep:Nat},s₁.heap.get? b=some o->o.data=.dict es ep->H b=none:=fun {b o es ep} e d=>by
   cases q:H b with
   | none=>rfl
   | some u=>
    have e':b=a:=hA b (by rw [q];simp)
    subst e'
    rw [ha] at e;cases e
    have d':Data.seq vs.toArray _=Data.dict es ep:=d
    cases d'
  have nsK:∀{b:Q4}{m:Str->Option QM},s₁.heap.Ns b m->(nE s₁.heap H).Ns b m:=fun {b m} ⟨o,es,ep,e,d,r⟩=>⟨o,es,ep,base_of e (noA e d),d,r⟩
  have PZ:K.In (nE s₁.heap H):=λb o e=>base_of (KX b o e) (by
   cases q:H b with
   | none=>rfl
   | some u=>
    have e':b=a:=hA b (by rw [q];simp)
    subst e'
    rw [hK (by rw [q];simp)] at e;cases e)
  have hM:Mod K mg (nE s₁.heap H):=⟨PZ,nsK hns,⟨mb,nsK hb,P7⟩,let ⟨mc,h1,h2⟩:=hlim;⟨mc,nsK h1,h2⟩⟩
  have e0:AY P w K mg (nE s₁.heap H) YZ [] s₁ H:=⟨rfl,hM,λb o e=>Io e,aa1 (Dv _ _),trivial,λb hb=>absurd (show b∈([]:List Q4) from hb) (by simp),hok,.of_eq hg⟩
  refine TR ((F _ PZ (nsK hns)).run YZ [] s₁ H ⟨[.ref a],[]⟩ [.ref a] [.ref a] _ _ hr e0 (hbind s₁ (.ref a)) (.cons rfl .nil) (OT H hO hS)) λr s' h=>?_
  cases r with
  | error e=>exact (Pf H e s' h).elim
  | ok fl=>
   cases fl with
   | next=>exact UE h
   | brk=>exact UE h
   | cont=>exact UE h
   | ret u=>
    obtain ⟨v,H',os,bare,un,PJ,r',q⟩:=h
    have q':v=.bl true:=q
    subst q'
    obtain rfl:u=Ua true:=r'
    refine ⟨rfl,OldK.of_keep λb o e=>?_,os,bare⟩
    cases q:H b with
    | none=>exact un.keep b o e q (by intro z;exact absurd (show b∈([]:List Q4) from z) (by simp)) (by simp)
    | some u=>
     rcases hO b with z | ⟨ob,xs,z⟩
     ·rw [q] at z;cases z
     ·have z2:=un.frzs b ob _ z
      obtain ⟨e1,_⟩:=hok b _ z
      obtain ⟨e2,_⟩:=PJ b _ z2
      rw [e] at e1;cases e1
      exact e2
 cases hk:K.lookup a with
 | some o=>
  have e:=KX a o hk
  rw [ha] at e
  cases e
  refine core (λ_=>none) (λ_=>.inl rfl) (.inr ⟨_,vs.toArray,_,hk,rfl,rfl,rfl,by rw [Q2,lenV];exact hl,by simpa using rv⟩) (λb u z=>by have z':(none:Option HO)=some u:=z;cases z') (λb z=>absurd rfl z) λz=>absurd rfl z
 | none=>
  refine core (λb=>if b=a then some (.frz {cls:=.type "list",data:=.seq vs.toArray} (.lst (ns.map V.int))) else none) (λb=>?_) (.inl (.inr ⟨{cls:=.type "list",data:=.seq vs.toArray},if_pos rfl⟩)) (λb u z=>?_) (λb z=>?_) λ_=>hk
  ·by_cases hb:b=a
   ·exact .inr ⟨_,_,if_pos hb⟩
   ·exact .inl (if_neg hb)
  ·by_cases hb:b=a
   ·have z':=(if_pos hb).symm.trans z
    cases z'
    subst hb
    exact ⟨ha,by rw [QO];exact hl,vs,_,rv,ha⟩
   ·have z':=(if_neg hb).symm.trans z
    cases z'
  ·by_cases hb:b=a
   ·exact hb
   ·exact absurd (if_neg hb) z
noncomputable abbrev Ov {K:QK}{h:Sn}(_:K.In h):QK:=K
theorem Jw {l:Xy}{n k:Nat}{q:Rb}{loose:List Str}{XP:(Str->Option QM)->Sn->Prop}{YP:RD->Sn->Prop}{d:DefRec}{K:aa0->QK}{CX:RD->om}{sp:RD->Sp}{x:Str}
  (hn:l.most=some n) (hn2:n<=sizeLine) (hdf:d.params.defaults=[]) (hr:cV k YZ)
  (hY:∀(w:RD) (h:Sn),YP w h->(K w.params).In h)
  (F:∀(w:RD) (mg:Str->Option QM) (fa:Q4) (h:Sn),(K w.params).In h->h.Ns Rt mg->mg d.name=some (.ref fa)->
   ∃fd:Rq,(∀(s:QN) (u:QM),ZE s fd ⟨[u],[]⟩ [(x,u)])/\
    ∀base:Sn,(K w.params).In base->base.Ns Rt mg->fG l.prog w (K w.params) mg base (CX w) k fa fd [x] (sp w))
  (OT:∀(w:RD) (H:Hp) (a:Q4) (ns:List Int),ns.length<=n->A4 H->cG (K w.params) H a (ns.map V.int)->sp w [.ref a] H (λv _=>v=.bl true) λ_ _ _=>False)
  (Pf:∀(w:RD) (H:Hp) (s:QN) (e:QM) (s':QN),CX w [] H s (λ_ _ _=>False) e s'->False):
  aaF q loose XP YP l.row.toRowW d [] (λf vs=>aao f vs):=by
 refine Att.zo hn hdf λw s₀ s₁ mg mb fa o pm cd doc a vs ns G Y ho hd hcd hmg hobj hints hlen hg=>?_
 have KX:=hY w _ Y
 obtain ⟨fd,hb,hF⟩:=F w mg fa _ KX G.T.g hmg
 exact Fc KX G.T.g G.T.b G.T.builtins G.T.nolimit hg hobj hints (RE hlen hn2) hr hF hb (λH hO hS=>OT w H a ns hlen hO hS) λH e s'=>Pf w H s₁ e s'
noncomputable def aU (s:T9):Arguments:=match s with
 | .FunctionDef _ a _ _ _ _ _ _ _ _=>a
 | _=>{posonlyargs:=[],args:=[],vararg:=none,kwonlyargs:=[],kw_defaults:=[],kwarg:=none,defaults:=[]}
noncomputable def aQ (s:T9):List T9:=match s with
 | .FunctionDef _ _ b _ _ _ _ _ _ _=>b
 | _=>[]
noncomputable def ay (s:T9):TF:=match s with
 | .FunctionDef _ _ _ _ _ _ sc _ _ _=>sc
 | _=>{kind:=.function,names:=[],isGenerator:=false,isCoroutine:=false}
noncomputable abbrev n5:om:=λ_ _ _ _ _ _=>False
noncomputable abbrev E0:XK:=λ_ _ _=>False
theorem BR {X:Cx}:Passes n5 X E0:=λ_ _ _ _ _ _ _ h=>h.elim
structure cK (K:QK) (x QF:Str) (st:T9) (f:Q4) (fd:Rq):Prop where
 ex:∃(oc:QM) (od:Option Q4) (kV doc pm:QM) (an:Option Q4) (cdv ct:QM) (osl:Array (Option QM)),
  fd=Q6 x QF (aU st) (aQ st) (ay st) .none kV doc pm an cdv ct/\K.lookup f=some ⟨oc,od,.func fd,osl⟩/\T3 K cdv QF=true
 kp:R7 K (.ref f)=true
section
variable {P:Rb}{w:RD}{K:QK}{mg:Str->Option QM}{base:Sn}
theorem cK.ok {x QF:Str}{st:T9}{f:Q4}{fd:Rq}{N ps:List Str}{k:Nat}{sp:Sp}(F:cK K x QF st f fd) (S:bf N ps (ay st)) (len:∀vs H Q E,sp vs H Q E->vs.length=ps.length)
  (hbody:∀(cdv:QM) (A:RG) (outer:List Env) (s:QN) (H:Hp) (vs:List V) (Q:VK) (E:XK),cV k (A.deeper (WE QF (ay st) s.heap.objs.size f cdv))->sp vs H Q E->
   ∃t,jG (oJ n5 P w K mg base N QF (ay st) f cdv A outer s H E).nox (aQ st) t/\t {nx:=λ_ H'=>Q .non H',rt:=Q} (start N vs) H):fG P w K mg base n5 (k + 1) f fd ps sp:=by
 obtain ⟨oc,od,kV,doc,pm,an,cdv,ct,osl,rfl,lk,hcd⟩:=F.ex
 refine GU lk hcd S len λA outer s H vs Q E hr OT=>?_
 obtain ⟨t,h,q⟩:=hbody cdv A outer s H vs Q E hr OT
 exact ⟨t,h.nox,q⟩
theorem cK.binds {x QF:Str}{st:T9}{f:Q4}{fd:Rq}{ps:List Str}(F:cK K x QF st f fd)
  (h:∀(kV doc pm:QM) (an:Option Q4) (cdv ct:QM) (us:List QM),us.length=ps.length->Yt (Q6 x QF (aU st) (aQ st) (ay st) .none kV doc pm an cdv ct) ⟨us,[]⟩=pure (ps.zip us)):Binds K fd ps []:=by
 obtain ⟨oc,od,kV,doc,pm,an,cdv,ct,osl,rfl,lk,hcd⟩:=F.ex
 exact .all (h kV doc pm an cdv ct)
theorem Dn {x QF:Str}{st:T9}{f:Q4}{oc:QM}{od an:Option Q4}{osl:Array (Option QM)}{kV doc pm cdv ct:QM}(l:K.lookup f=some ⟨oc,od,.func (Q6 x QF (aU st) (aQ st) (ay st) .none kV doc pm an cdv ct),osl⟩)
  (c:T3 K cdv QF=true) (k:R7 K (.ref f)=true):cK K x QF st f (Q6 x QF (aU st) (aQ st) (ay st) .none kV doc pm an cdv ct):=⟨⟨oc,od,kV,doc,pm,an,cdv,ct,osl,rfl,l,c⟩,k⟩
end
theorem Ks {A B:Prop}(h:B):if false=true then A else B:=by
 rw [if_neg RB]
 exact h
theorem Ku {A B:Prop}(h:A):if true=true then A else B:=by
 rw [if_pos rfl]
 exact h
noncomputable def aT (H H':Hp):Prop:=∀b o,H b=some o->H' b=some o
theorem aT.refl (H:Hp):aT H H:=λ_ _ h=>h
theorem aT.trans {H H1 H2:Hp}(a:aT H H1) (b:aT H1 H2):aT H H2:=λc o h=>b c o (a c o h)
theorem aT.free {H H':Hp}(e:aT H H'){l:Q4}(h:H' l=abp):H l=abp:=by
 cases q:H l with
 | none=>rfl
 | some o=>
  rw [e l o q] at h
  cases h
theorem aT.seq {K:QK}{H H':Hp}{a:Q4}{xs:List V}(e:aT H H') (h:cG K H a xs):cG K H' a xs:=by
 rcases h with (h | ⟨o,h⟩) | h
 ·exact .inl (.inl (e _ _ h))
 ·exact .inl (.inr ⟨o,e _ _ h⟩)
 ·exact .inr h
end L2
set_option maxHeartbeats 4000000
namespace K32
open PySem
noncomputable def top (i:Nat):T9:=PySem.Challenge.pw_pickalike_k32_where_parted.main.body.getD i (.Pass ⟨0,0,0,0⟩)
noncomputable def topC (i j:Nat):T9:=match top i with
 | .ClassDef (body:=b) ..=>b.getD j (.Pass ⟨0,0,0,0⟩)
 | _=>.Pass ⟨0,0,0,0⟩
end K32
namespace K32
open PySem PySem.Spec PyProof.Rows L2
noncomputable abbrev E (P:aa0) (k:Str) (t:Nat) (v:QM):YE:=⟨PyData.keyHash P k,.str k t,v⟩
noncomputable def KF (P:aa0):QK:=
(nat_lit 2,⟨.none,none,(.dict #[] 0),#[]⟩)::
(nat_lit 3,⟨(.type "dict"),none,(.dict #[E P "__name__" 165 (.str "law_pickalike_k32_where_parted" 461),E P "__doc__" 166 .none,E P "__package__" 167 .none,E P "__loader__" 168 (.builtin "__main__.__loader__#opaque"),E P "__spec__" 169 .none,E P "__annotations__" 170 (.ref 6),E P "__builtins__" 171 (.ref 4),E P "__file__" 173 (.str "/claim/cut.py" 172),E P "__cached__" 174 .none,E P "PickError" 206 (.ref 24),E P "NoTongue" 222 (.ref 37),E P "TooMany" 247 (.ref 56),E P "NoCount" 272 (.ref 75),E P "is_whole" 281 (.ref 84),E P "tongue_of" 287 (.ref 89),E P "need_tongue" 295 (.ref 96),E P "MOST_SMALL" 299 (.int 4 298),E P "need_few_points" 307 (.ref 103),E P "need_small" 315 (.ref 110),E P "need_count" 324 (.ref 117),E P "rising" 333 (.ref 124),E P "view" 339 (.ref 129),E P "views" 345 (.ref 134),E P "agree" 355 (.ref 141),E P "goes_behind" 366 (.ref 148),E P "pairings" 372 (.ref 153),E P "MOST_DEPTH" 376 (.int 6 375),E P "added" 384 (.ref 160),E P "pairs_with" 390 (.ref 165),E P "picks_of" 396 (.ref 170),E P "outcomes" 402 (.ref 175),E P "answered_still" 408 (.ref 180),E P "peeled" 414 (.ref 185),E P "pairings_with" 420 (.ref 190),E P "parting_depths" 426 (.ref 195),E P "in_layer" 435 (.ref 202),E P "layers_of" 441 (.ref 207),E P "layers" 450 (.ref 214),E P "parted" 460 (.ref 222),E P "_law_cell" 470 (.ref 229),E P "_law_names" 485 (.ref 236),E P "_law_bits" 495 (.ref 243),E P "_law_world" 501 (.ref 248),E P "_law_order" 512 (.ref 255),E P "_law_turned" 518 (.ref 260),E P "_law_flipped" 524 (.ref 265),E P "_law_two" 530 (.ref 270),E P "_law_pairs" 546 (.ref 277),E P "_law_due" 556 (.ref 284),E P "_law_is" 564 (.ref 291),E P "law" 577 (.ref 298)] 51),#[]⟩)::
(nat_lit 15,⟨(.type "tuple"),none,(.seq #[(.type "ValueError")] 0),#[]⟩)::
(nat_lit 22,⟨(.type "tuple"),none,(.seq #[] 0),#[]⟩)::
(nat_lit 23,⟨(.type "dict"),none,(.dict #[E P "__module__" 196 (.str "pickalike.errors" 187),E P "__firstlineno__" 200 (.int 2 199),E P "__static_attributes__" 201 (.ref 22),E P "__weakref__" 203 (.ref 25),E P "__doc__" 204 .none] 3),#[]⟩)::
(nat_lit 24,⟨(.type "type"),none,(.cls ⟨"PickError",[(.type "ValueError")],[(.ref 24),(.type "ValueError"),(.type "Exception"),(.type "BaseException"),(.type "object")],23,"PickError",true,[],[(.ref 37),(.ref 56),(.ref 75)],false,none,false⟩),#[(some (.ref 15)),none,(some (.str "PickError" 189)),(some (.str "PickError" 197)),(some (.builtin "ValueError.__new__")),(some (.bool true))]⟩)::
(nat_lit 25,⟨(.type "getset_descriptor"),none,(.fields #[(.str "__weakref__" 202),(.ref 24),(.builtin "ExceptionGroup.__weakref__"),.none]),#[]⟩)::
(nat_lit 28,⟨(.type "tuple"),none,(.seq #[(.ref 24)] 0),#[]⟩)::
(nat_lit 35,⟨(.type "tuple"),none,(.seq #[] 0),#[]⟩)::
(nat_lit 36,⟨(.type "dict"),none,(.dict #[E P "__module__" 214 (.str "pickalike.errors" 187),E P "__firstlineno__" 218 (.int 4 217),E P "__static_attributes__" 219 (.ref 35),E P "__doc__" 220 .none] 2),#[]⟩)::
(nat_lit 37,⟨(.type "type"),none,(.cls ⟨"NoTongue",[(.ref 24)],[(.ref 37),(.ref 24),(.type "ValueError"),(.type "Exception"),(.type "BaseException"),(.type "object")],36,"NoTongue",true,[],[],false,none,false⟩),#[(some (.ref 28)),none,(some (.str "NoTongue" 207)),(some (.str "NoTongue" 215)),(some (.builtin "ValueError.__new__")),(some (.bool true))]⟩)::
(nat_lit 40,⟨(.type "tuple"),none,(.seq #[(.ref 24)] 0),#[]⟩)::
(nat_lit 47,⟨(.type "tuple"),none,(.seq #[] 0),#[]⟩)::
(nat_lit 49,⟨(.type "tuple"),none,(.seq #[(.str "self" 238),(.str "many" 239)] 0),#[]⟩)::
(nat_lit 50,⟨(.type "tuple"),none,(.seq #[] 0),#[]⟩)::
(nat_lit 52,⟨(.type "code"),none,(.fields #[(.str "__init__" 235),(.str "TooMany.__init__" 236),(.str "/claim/cut.py" 237),(.int 8 0),(.int 2 0),(.int 0 0),(.int 0 0),(.int 3 0),(.ref 47),(.bool true),(.int 181 0),(.ref 48),.none,(.ref 49),(.ref 50),(.ref 51),(.int 240 0),(.int 8 0),(.str "/claim/cut.py" 241)]),#[]⟩)::
(nat_lit 53,⟨(.type "function"),none,(.func (Q6 "__init__" "TooMany.__init__" (aU (topC 3 0)) (aQ (topC 3 0)) (ay (topC 3 0)) .none .none .none (.str "pickalike.errors" 187) none (.ref 52) .none)),#[]⟩)::
(nat_lit 54,⟨(.type "tuple"),none,(.seq #[(.str "many" 243)] 0),#[]⟩)::
(nat_lit 55,⟨(.type "dict"),none,(.dict #[E P "__module__" 230 (.str "pickalike.errors" 187),E P "__firstlineno__" 234 (.int 6 233),E P "__init__" 242 (.ref 53),E P "__static_attributes__" 244 (.ref 54),E P "__doc__" 245 .none] 2),#[]⟩)::
(nat_lit 56,⟨(.type "type"),none,(.cls ⟨"TooMany",[(.ref 24)],[(.ref 56),(.ref 24),(.type "ValueError"),(.type "Exception"),(.type "BaseException"),(.type "object")],55,"TooMany",true,[],[],false,none,false⟩),#[(some (.ref 40)),none,(some (.str "TooMany" 223)),(some (.str "TooMany" 231)),(some (.builtin "ValueError.__new__")),(some (.bool true))]⟩)::
(nat_lit 59,⟨(.type "tuple"),none,(.seq #[(.ref 24)] 0),#[]⟩)::
(nat_lit 66,⟨(.type "tuple"),none,(.seq #[] 0),#[]⟩)::
(nat_lit 68,⟨(.type "tuple"),none,(.seq #[(.str "self" 263),(.str "told" 264)] 0),#[]⟩)::
(nat_lit 69,⟨(.type "tuple"),none,(.seq #[] 0),#[]⟩)::
(nat_lit 71,⟨(.type "code"),none,(.fields #[(.str "__init__" 260),(.str "NoCount.__init__" 261),(.str "/claim/cut.py" 262),(.int 13 0),(.int 2 0),(.int 0 0),(.int 0 0),(.int 3 0),(.ref 66),(.bool true),(.int 181 0),(.ref 67),.none,(.ref 68),(.ref 69),(.ref 70),(.int 265 0),(.int 13 0),(.str "/claim/cut.py" 266)]),#[]⟩)::
(nat_lit 72,⟨(.type "function"),none,(.func (Q6 "__init__" "NoCount.__init__" (aU (topC 4 0)) (aQ (topC 4 0)) (ay (topC 4 0)) .none .none .none (.str "pickalike.errors" 187) none (.ref 71) .none)),#[]⟩)::
(nat_lit 73,⟨(.type "tuple"),none,(.seq #[(.str "told" 268)] 0),#[]⟩)::
(nat_lit 74,⟨(.type "dict"),none,(.dict #[E P "__module__" 255 (.str "pickalike.errors" 187),E P "__firstlineno__" 259 (.int 11 258),E P "__init__" 267 (.ref 72),E P "__static_attributes__" 269 (.ref 73),E P "__doc__" 270 .none] 2),#[]⟩)::
(nat_lit 75,⟨(.type "type"),none,(.cls ⟨"NoCount",[(.ref 24)],[(.ref 75),(.ref 24),(.type "ValueError"),(.type "Exception"),(.type "BaseException"),(.type "object")],74,"NoCount",true,[],[],false,none,false⟩),#[(some (.ref 59)),none,(some (.str "NoCount" 248)),(some (.str "NoCount" 256)),(some (.builtin "ValueError.__new__")),(some (.bool true))]⟩)::
(nat_lit 78,⟨(.type "tuple"),none,(.seq #[] 0),#[]⟩)::
(nat_lit 80,⟨(.type "tuple"),none,(.seq #[(.str "thing" 278)] 0),#[]⟩)::
(nat_lit 81,⟨(.type "tuple"),none,(.seq #[] 0),#[]⟩)::
(nat_lit 83,⟨(.type "code"),none,(.fields #[(.str "is_whole" 275),(.str "is_whole" 276),(.str "/claim/cut.py" 277),(.int 17 0),(.int 1 0),(.int 0 0),(.int 0 0),(.int 3 0),(.ref 78),(.bool true),(.int 181 0),(.ref 79),.none,(.ref 80),(.ref 81),(.ref 82),(.int 279 0),(.int 17 0),(.str "/claim/cut.py" 280)]),#[]⟩)::
(nat_lit 84,⟨(.type "function"),none,(.func (Q6 "is_whole" "is_whole" (aU (top 6)) (aQ (top 6)) (ay (top 6)) .none .none .none (.str "pickalike.worlds" 273) none (.ref 83) .none)),#[]⟩)::
(nat_lit 85,⟨(.type "tuple"),none,(.seq #[] 0),#[]⟩)::
(nat_lit 88,⟨(.type "code"),none,(.fields #[(.str "tongue_of" 282),(.str "tongue_of" 283),(.str "/claim/cut.py" 284),(.int 19 0),(.int 1 0),(.int 0 0),(.int 0 0),(.int 3 0),(.ref 85),(.bool true),(.int 181 0),(.ref 86),.none,.none,.none,(.ref 87),(.int 285 0),(.int 19 0),(.str "/claim/cut.py" 286)]),#[]⟩)::
(nat_lit 89,⟨(.type "function"),none,(.func (Q6 "tongue_of" "tongue_of" (aU (top 7)) (aQ (top 7)) (ay (top 7)) .none .none .none (.str "pickalike.worlds" 273) none (.ref 88) .none)),#[]⟩)::
(nat_lit 90,⟨(.type "tuple"),none,(.seq #[] 0),#[]⟩)::
(nat_lit 92,⟨(.type "tuple"),none,(.seq #[(.str "one" 291),(.str "other" 292)] 0),#[]⟩)::
(nat_lit 93,⟨(.type "tuple"),none,(.seq #[] 0),#[]⟩)::
(nat_lit 95,⟨(.type "code"),none,(.fields #[(.str "need_tongue" 288),(.str "need_tongue" 289),(.str "/claim/cut.py" 290),(.int 22 0),(.int 2 0),(.int 0 0),(.int 0 0),(.int 3 0),(.ref 90),(.bool true),(.int 181 0),(.ref 91),.none,(.ref 92),(.ref 93),(.ref 94),(.int 293 0),(.int 22 0),(.str "/claim/cut.py" 294)]),#[]⟩)::
(nat_lit 96,⟨(.type "function"),none,(.func (Q6 "need_tongue" "need_tongue" (aU (top 8)) (aQ (top 8)) (ay (top 8)) .none .none .none (.str "pickalike.worlds" 273) none (.ref 95) .none)),#[]⟩)::
(nat_lit 97,⟨(.type "tuple"),none,(.seq #[] 0),#[]⟩)::
(nat_lit 99,⟨(.type "tuple"),none,(.seq #[(.str "worlds" 303),(.str "world" 304)] 0),#[]⟩)::
(nat_lit 100,⟨(.type "tuple"),none,(.seq #[] 0),#[]⟩)::
(nat_lit 102,⟨(.type "code"),none,(.fields #[(.str "need_few_points" 300),(.str "need_few_points" 301),(.str "/claim/cut.py" 302),(.int 27 0),(.int 1 0),(.int 0 0),(.int 0 0),(.int 3 0),(.ref 97),(.bool true),(.int 181 0),(.ref 98),.none,(.ref 99),(.ref 100),(.ref 101),(.int 305 0),(.int 27 0),(.str "/claim/cut.py" 306)]),#[]⟩)::
(nat_lit 103,⟨(.type "function"),none,(.func (Q6 "need_few_points" "need_few_points" (aU (top 11)) (aQ (top 11)) (ay (top 11)) .none .none .none (.str "pickalike.checks" 296) none (.ref 102) .none)),#[]⟩)::
(nat_lit 104,⟨(.type "tuple"),none,(.seq #[] 0),#[]⟩)::
(nat_lit 106,⟨(.type "tuple"),none,(.seq #[(.str "one" 311),(.str "other" 312)] 0),#[]⟩)::
(nat_lit 107,⟨(.type "tuple"),none,(.seq #[] 0),#[]⟩)::
(nat_lit 109,⟨(.type "code"),none,(.fields #[(.str "need_small" 308),(.str "need_small" 309),(.str "/claim/cut.py" 310),(.int 31 0),(.int 2 0),(.int 0 0),(.int 0 0),(.int 3 0),(.ref 104),(.bool true),(.int 181 0),(.ref 105),.none,(.ref 106),(.ref 107),(.ref 108),(.int 313 0),(.int 31 0),(.str "/claim/cut.py" 314)]),#[]⟩)::
(nat_lit 110,⟨(.type "function"),none,(.func (Q6 "need_small" "need_small" (aU (top 12)) (aQ (top 12)) (ay (top 12)) .none .none .none (.str "pickalike.checks" 296) none (.ref 109) .none)),#[]⟩)::
(nat_lit 111,⟨(.type "tuple"),none,(.seq #[] 0),#[]⟩)::
(nat_lit 113,⟨(.type "tuple"),none,(.seq #[(.str "told" 319),(.str "least" 320),(.str "most" 321)] 0),#[]⟩)::
(nat_lit 114,⟨(.type "tuple"),none,(.seq #[] 0),#[]⟩)::
(nat_lit 116,⟨(.type "code"),none,(.fields #[(.str "need_count" 316),(.str "need_count" 317),(.str "/claim/cut.py" 318),(.int 34 0),(.int 3 0),(.int 0 0),(.int 0 0),(.int 3 0),(.ref 111),(.bool true),(.int 181 0),(.ref 112),.none,(.ref 113),(.ref 114),(.ref 115),(.int 322 0),(.int 34 0),(.str "/claim/cut.py" 323)]),#[]⟩)::
(nat_lit 117,⟨(.type "function"),none,(.func (Q6 "need_count" "need_count" (aU (top 13)) (aQ (top 13)) (ay (top 13)) .none .none .none (.str "pickalike.checks" 296) none (.ref 116) .none)),#[]⟩)::
(nat_lit 118,⟨(.type "tuple"),none,(.seq #[] 0),#[]⟩)::
(nat_lit 120,⟨(.type "tuple"),none,(.seq #[(.str "pairs" 330)] 0),#[]⟩)::
(nat_lit 121,⟨(.type "tuple"),none,(.seq #[] 0),#[]⟩)::
(nat_lit 123,⟨(.type "code"),none,(.fields #[(.str "rising" 327),(.str "rising" 328),(.str "/claim/cut.py" 329),(.int 38 0),(.int 1 0),(.int 0 0),(.int 0 0),(.int 3 0),(.ref 118),(.bool true),(.int 181 0),(.ref 119),.none,(.ref 120),(.ref 121),(.ref 122),(.int 331 0),(.int 38 0),(.str "/claim/cut.py" 332)]),#[]⟩)::
(nat_lit 124,⟨(.type "function"),none,(.func (Q6 "rising" "rising" (aU (top 15)) (aQ (top 15)) (ay (top 15)) .none .none .none (.str "pickalike.pairings" 325) none (.ref 123) .none)),#[]⟩)::
(nat_lit 125,⟨(.type "tuple"),none,(.seq #[] 0),#[]⟩)::
(nat_lit 128,⟨(.type "code"),none,(.fields #[(.str "view" 334),(.str "view" 335),(.str "/claim/cut.py" 336),(.int 42 0),(.int 3 0),(.int 0 0),(.int 0 0),(.int 3 0),(.ref 125),(.bool true),(.int 181 0),(.ref 126),.none,.none,.none,(.ref 127),(.int 337 0),(.int 42 0),(.str "/claim/cut.py" 338)]),#[]⟩)::
(nat_lit 129,⟨(.type "function"),none,(.func (Q6 "view" "view" (aU (top 16)) (aQ (top 16)) (ay (top 16)) .none .none .none (.str "pickalike.pairings" 325) none (.ref 128) .none)),#[]⟩)::
(nat_lit 130,⟨(.type "tuple"),none,(.seq #[] 0),#[]⟩)::
(nat_lit 133,⟨(.type "code"),none,(.fields #[(.str "views" 340),(.str "views" 341),(.str "/claim/cut.py" 342),(.int 47 0),(.int 1 0),(.int 0 0),(.int 0 0),(.int 3 0),(.ref 130),(.bool true),(.int 181 0),(.ref 131),.none,.none,.none,(.ref 132),(.int 343 0),(.int 47 0),(.str "/claim/cut.py" 344)]),#[]⟩)::
(nat_lit 134,⟨(.type "function"),none,(.func (Q6 "views" "views" (aU (top 17)) (aQ (top 17)) (ay (top 17)) .none .none .none (.str "pickalike.pairings" 325) none (.ref 133) .none)),#[]⟩)::
(nat_lit 135,⟨(.type "tuple"),none,(.seq #[] 0),#[]⟩)::
(nat_lit 137,⟨(.type "tuple"),none,(.seq #[(.str "first" 349),(.str "second" 350),(.str "pair" 351),(.str "again" 352)] 0),#[]⟩)::
(nat_lit 138,⟨(.type "tuple"),none,(.seq #[] 0),#[]⟩)::
(nat_lit 140,⟨(.type "code"),none,(.fields #[(.str "agree" 346),(.str "agree" 347),(.str "/claim/cut.py" 348),(.int 49 0),(.int 4 0),(.int 0 0),(.int 0 0),(.int 3 0),(.ref 135),(.bool true),(.int 181 0),(.ref 136),.none,(.ref 137),(.ref 138),(.ref 139),(.int 353 0),(.int 49 0),(.str "/claim/cut.py" 354)]),#[]⟩)::
(nat_lit 141,⟨(.type "function"),none,(.func (Q6 "agree" "agree" (aU (top 18)) (aQ (top 18)) (ay (top 18)) .none .none .none (.str "pickalike.pairings" 325) none (.ref 140) .none)),#[]⟩)::
(nat_lit 142,⟨(.type "tuple"),none,(.seq #[] 0),#[]⟩)::
(nat_lit 144,⟨(.type "tuple"),none,(.seq #[(.str "first" 359),(.str "second" 360),(.str "pairing" 361),(.str "pair" 362),(.str "again" 363)] 0),#[]⟩)::
(nat_lit 145,⟨(.type "tuple"),none,(.seq #[] 0),#[]⟩)::
(nat_lit 147,⟨(.type "code"),none,(.fields #[(.str "goes_behind" 356),(.str "goes_behind" 357),(.str "/claim/cut.py" 358),(.int 51 0),(.int 4 0),(.int 0 0),(.int 0 0),(.int 3 0),(.ref 142),(.bool true),(.int 181 0),(.ref 143),.none,(.ref 144),(.ref 145),(.ref 146),(.int 364 0),(.int 51 0),(.str "/claim/cut.py" 365)]),#[]⟩)::
(nat_lit 148,⟨(.type "function"),none,(.func (Q6 "goes_behind" "goes_behind" (aU (top 19)) (aQ (top 19)) (ay (top 19)) .none .none .none (.str "pickalike.pairings" 325) none (.ref 147) .none)),#[]⟩)::
(nat_lit 149,⟨(.type "tuple"),none,(.seq #[] 0),#[]⟩)::
(nat_lit 152,⟨(.type "code"),none,(.fields #[(.str "pairings" 367),(.str "pairings" 368),(.str "/claim/cut.py" 369),(.int 58 0),(.int 3 0),(.int 0 0),(.int 0 0),(.int 3 0),(.ref 149),(.bool true),(.int 181 0),(.ref 150),.none,.none,.none,(.ref 151),(.int 370 0),(.int 58 0),(.str "/claim/cut.py" 371)]),#[]⟩)::
(nat_lit 153,⟨(.type "function"),none,(.func (Q6 "pairings" "pairings" (aU (top 20)) (aQ (top 20)) (ay (top 20)) .none .none .none (.str "pickalike.pairings" 325) none (.ref 152) .none)),#[]⟩)::
(nat_lit 154,⟨(.type "tuple"),none,(.seq #[] 0),#[]⟩)::
(nat_lit 156,⟨(.type "tuple"),none,(.seq #[(.str "pairing" 380),(.str "pair" 381)] 0),#[]⟩)::
(nat_lit 157,⟨(.type "tuple"),none,(.seq #[] 0),#[]⟩)::
(nat_lit 159,⟨(.type "code"),none,(.fields #[(.str "added" 377),(.str "added" 378),(.str "/claim/cut.py" 379),(.int 72 0),(.int 2 0),(.int 0 0),(.int 0 0),(.int 3 0),(.ref 154),(.bool true),(.int 181 0),(.ref 155),.none,(.ref 156),(.ref 157),(.ref 158),(.int 382 0),(.int 72 0),(.str "/claim/cut.py" 383)]),#[]⟩)::
(nat_lit 160,⟨(.type "function"),none,(.func (Q6 "added" "added" (aU (top 23)) (aQ (top 23)) (ay (top 23)) .none .none .none (.str "pickalike.layers" 373) none (.ref 159) .none)),#[]⟩)::
(nat_lit 161,⟨(.type "tuple"),none,(.seq #[] 0),#[]⟩)::
(nat_lit 164,⟨(.type "code"),none,(.fields #[(.str "pairs_with" 385),(.str "pairs_with" 386),(.str "/claim/cut.py" 387),(.int 74 0),(.int 4 0),(.int 0 0),(.int 0 0),(.int 3 0),(.ref 161),(.bool true),(.int 181 0),(.ref 162),.none,.none,.none,(.ref 163),(.int 388 0),(.int 74 0),(.str "/claim/cut.py" 389)]),#[]⟩)::
(nat_lit 165,⟨(.type "function"),none,(.func (Q6 "pairs_with" "pairs_with" (aU (top 24)) (aQ (top 24)) (ay (top 24)) .none .none .none (.str "pickalike.layers" 373) none (.ref 164) .none)),#[]⟩)::
(nat_lit 166,⟨(.type "tuple"),none,(.seq #[] 0),#[]⟩)::
(nat_lit 169,⟨(.type "code"),none,(.fields #[(.str "picks_of" 391),(.str "picks_of" 392),(.str "/claim/cut.py" 393),(.int 78 0),(.int 2 0),(.int 0 0),(.int 0 0),(.int 3 0),(.ref 166),(.bool true),(.int 181 0),(.ref 167),.none,.none,.none,(.ref 168),(.int 394 0),(.int 78 0),(.str "/claim/cut.py" 395)]),#[]⟩)::
(nat_lit 170,⟨(.type "function"),none,(.func (Q6 "picks_of" "picks_of" (aU (top 25)) (aQ (top 25)) (ay (top 25)) .none .none .none (.str "pickalike.layers" 373) none (.ref 169) .none)),#[]⟩)::
(nat_lit 171,⟨(.type "tuple"),none,(.seq #[] 0),#[]⟩)::
(nat_lit 174,⟨(.type "code"),none,(.fields #[(.str "outcomes" 397),(.str "outcomes" 398),(.str "/claim/cut.py" 399),(.int 80 0),(.int 4 0),(.int 0 0),(.int 0 0),(.int 3 0),(.ref 171),(.bool true),(.int 181 0),(.ref 172),.none,.none,.none,(.ref 173),(.int 400 0),(.int 80 0),(.str "/claim/cut.py" 401)]),#[]⟩)::
(nat_lit 175,⟨(.type "function"),none,(.func (Q6 "outcomes" "outcomes" (aU (top 26)) (aQ (top 26)) (ay (top 26)) .none .none .none (.str "pickalike.layers" 373) none (.ref 174) .none)),#[]⟩)::
(nat_lit 176,⟨(.type "tuple"),none,(.seq #[] 0),#[]⟩)::
(nat_lit 179,⟨(.type "code"),none,(.fields #[(.str "answered_still" 403),(.str "answered_still" 404),(.str "/claim/cut.py" 405),(.int 83 0),(.int 2 0),(.int 0 0),(.int 0 0),(.int 3 0),(.ref 176),(.bool true),(.int 181 0),(.ref 177),.none,.none,.none,(.ref 178),(.int 406 0),(.int 83 0),(.str "/claim/cut.py" 407)]),#[]⟩)::
(nat_lit 180,⟨(.type "function"),none,(.func (Q6 "answered_still" "answered_still" (aU (top 27)) (aQ (top 27)) (ay (top 27)) .none .none .none (.str "pickalike.layers" 373) none (.ref 179) .none)),#[]⟩)::
(nat_lit 181,⟨(.type "tuple"),none,(.seq #[] 0),#[]⟩)::
(nat_lit 184,⟨(.type "code"),none,(.fields #[(.str "peeled" 409),(.str "peeled" 410),(.str "/claim/cut.py" 411),(.int 85 0),(.int 2 0),(.int 0 0),(.int 0 0),(.int 3 0),(.ref 181),(.bool true),(.int 181 0),(.ref 182),.none,.none,.none,(.ref 183),(.int 412 0),(.int 85 0),(.str "/claim/cut.py" 413)]),#[]⟩)::
(nat_lit 185,⟨(.type "function"),none,(.func (Q6 "peeled" "peeled" (aU (top 28)) (aQ (top 28)) (ay (top 28)) .none .none .none (.str "pickalike.layers" 373) none (.ref 184) .none)),#[]⟩)::
(nat_lit 186,⟨(.type "tuple"),none,(.seq #[] 0),#[]⟩)::
(nat_lit 189,⟨(.type "code"),none,(.fields #[(.str "pairings_with" 415),(.str "pairings_with" 416),(.str "/claim/cut.py" 417),(.int 95 0),(.int 3 0),(.int 0 0),(.int 0 0),(.int 3 0),(.ref 186),(.bool true),(.int 181 0),(.ref 187),.none,.none,.none,(.ref 188),(.int 418 0),(.int 95 0),(.str "/claim/cut.py" 419)]),#[]⟩)::
(nat_lit 190,⟨(.type "function"),none,(.func (Q6 "pairings_with" "pairings_with" (aU (top 29)) (aQ (top 29)) (ay (top 29)) .none .none .none (.str "pickalike.layers" 373) none (.ref 189) .none)),#[]⟩)::
(nat_lit 191,⟨(.type "tuple"),none,(.seq #[] 0),#[]⟩)::
(nat_lit 194,⟨(.type "code"),none,(.fields #[(.str "parting_depths" 421),(.str "parting_depths" 422),(.str "/claim/cut.py" 423),(.int 97 0),(.int 3 0),(.int 0 0),(.int 0 0),(.int 3 0),(.ref 191),(.bool true),(.int 181 0),(.ref 192),.none,.none,.none,(.ref 193),(.int 424 0),(.int 97 0),(.str "/claim/cut.py" 425)]),#[]⟩)::
(nat_lit 195,⟨(.type "function"),none,(.func (Q6 "parting_depths" "parting_depths" (aU (top 30)) (aQ (top 30)) (ay (top 30)) .none .none .none (.str "pickalike.layers" 373) none (.ref 194) .none)),#[]⟩)::
(nat_lit 196,⟨(.type "tuple"),none,(.seq #[] 0),#[]⟩)::
(nat_lit 198,⟨(.type "tuple"),none,(.seq #[(.str "depths" 430),(.str "pairing" 431),(.str "depth" 432)] 0),#[]⟩)::
(nat_lit 199,⟨(.type "tuple"),none,(.seq #[] 0),#[]⟩)::
(nat_lit 201,⟨(.type "code"),none,(.fields #[(.str "in_layer" 427),(.str "in_layer" 428),(.str "/claim/cut.py" 429),(.int 101 0),(.int 3 0),(.int 0 0),(.int 0 0),(.int 3 0),(.ref 196),(.bool true),(.int 181 0),(.ref 197),.none,(.ref 198),(.ref 199),(.ref 200),(.int 433 0),(.int 101 0),(.str "/claim/cut.py" 434)]),#[]⟩)::
(nat_lit 202,⟨(.type "function"),none,(.func (Q6 "in_layer" "in_layer" (aU (top 31)) (aQ (top 31)) (ay (top 31)) .none .none .none (.str "pickalike.layers" 373) none (.ref 201) .none)),#[]⟩)::
(nat_lit 203,⟨(.type "tuple"),none,(.seq #[] 0),#[]⟩)::
(nat_lit 206,⟨(.type "code"),none,(.fields #[(.str "layers_of" 436),(.str "layers_of" 437),(.str "/claim/cut.py" 438),(.int 103 0),(.int 2 0),(.int 0 0),(.int 0 0),(.int 3 0),(.ref 203),(.bool true),(.int 181 0),(.ref 204),.none,.none,.none,(.ref 205),(.int 439 0),(.int 103 0),(.str "/claim/cut.py" 440)]),#[]⟩)::
(nat_lit 207,⟨(.type "function"),none,(.func (Q6 "layers_of" "layers_of" (aU (top 32)) (aQ (top 32)) (ay (top 32)) .none .none .none (.str "pickalike.layers" 373) none (.ref 206) .none)),#[]⟩)::
(nat_lit 208,⟨(.type "tuple"),none,(.seq #[] 0),#[]⟩)::
(nat_lit 210,⟨(.type "tuple"),none,(.seq #[(.str "one" 445),(.str "other" 446),(.str "depth" 447)] 0),#[]⟩)::
(nat_lit 211,⟨(.type "tuple"),none,(.seq #[] 0),#[]⟩)::
(nat_lit 213,⟨(.type "code"),none,(.fields #[(.str "layers" 442),(.str "layers" 443),(.str "/claim/cut.py" 444),(.int 105 0),(.int 3 0),(.int 0 0),(.int 0 0),(.int 3 0),(.ref 208),(.bool true),(.int 181 0),(.ref 209),.none,(.ref 210),(.ref 211),(.ref 212),(.int 448 0),(.int 105 0),(.str "/claim/cut.py" 449)]),#[]⟩)::
(nat_lit 214,⟨(.type "function"),none,(.func (Q6 "layers" "layers" (aU (top 33)) (aQ (top 33)) (ay (top 33)) .none .none .none (.str "pickalike.layers" 373) none (.ref 213) .none)),#[]⟩)::
(nat_lit 215,⟨(.type "tuple"),none,(.seq #[.none] 0),#[]⟩)::
(nat_lit 216,⟨(.type "tuple"),none,(.seq #[] 0),#[]⟩)::
(nat_lit 218,⟨(.type "tuple"),none,(.seq #[(.str "one" 454),(.str "other" 455),(.str "pairs" 456),(.str "base" 457)] 0),#[]⟩)::
(nat_lit 219,⟨(.type "tuple"),none,(.seq #[] 0),#[]⟩)::
(nat_lit 221,⟨(.type "code"),none,(.fields #[(.str "parted" 451),(.str "parted" 452),(.str "/claim/cut.py" 453),(.int 109 0),(.int 3 0),(.int 0 0),(.int 0 0),(.int 3 0),(.ref 216),(.bool true),(.int 181 0),(.ref 217),.none,(.ref 218),(.ref 219),(.ref 220),(.int 458 0),(.int 109 0),(.str "/claim/cut.py" 459)]),#[]⟩)::
(nat_lit 222,⟨(.type "function"),none,(.func (Q6 "parted" "parted" (aU (top 34)) (aQ (top 34)) (ay (top 34)) (.ref 215) .none .none (.str "pickalike.layers" 373) none (.ref 221) .none)),#[]⟩)::
(nat_lit 223,⟨(.type "tuple"),none,(.seq #[] 0),#[]⟩)::
(nat_lit 225,⟨(.type "tuple"),none,(.seq #[(.str "_law_script" 466),(.str "_law_k" 467)] 0),#[]⟩)::
(nat_lit 226,⟨(.type "tuple"),none,(.seq #[] 0),#[]⟩)::
(nat_lit 228,⟨(.type "code"),none,(.fields #[(.str "_law_cell" 463),(.str "_law_cell" 464),(.str "/claim/cut.py" 465),(.int 114 0),(.int 2 0),(.int 0 0),(.int 0 0),(.int 3 0),(.ref 223),(.bool true),(.int 181 0),(.ref 224),.none,(.ref 225),(.ref 226),(.ref 227),(.int 468 0),(.int 114 0),(.str "/claim/cut.py" 469)]),#[]⟩)::
(nat_lit 229,⟨(.type "function"),none,(.func (Q6 "_law_cell" "_law_cell" (aU (top 36)) (aQ (top 36)) (ay (top 36)) .none .none .none (.str "law_pickalike_k32_where_parted" 461) none (.ref 228) .none)),#[]⟩)::
(nat_lit 230,⟨(.type "tuple"),none,(.seq #[] 0),#[]⟩)::
(nat_lit 232,⟨(.type "tuple"),none,(.seq #[(.str "_law_cell_here" 474),(.str "_law_many" 475),(.str "_law_letters" 476),(.str "_law_sign" 477),(.str "_law_stem" 478),(.str "_law_found" 479),(.str "_law_k" 480),(.str "_law_other" 481),(.str "_law_name" 482)] 0),#[]⟩)::
(nat_lit 233,⟨(.type "tuple"),none,(.seq #[] 0),#[]⟩)::
(nat_lit 235,⟨(.type "code"),none,(.fields #[(.str "_law_names" 471),(.str "_law_names" 472),(.str "/claim/cut.py" 473),(.int 118 0),(.int 2 0),(.int 0 0),(.int 0 0),(.int 3 0),(.ref 230),(.bool true),(.int 181 0),(.ref 231),.none,(.ref 232),(.ref 233),(.ref 234),(.int 483 0),(.int 118 0),(.str "/claim/cut.py" 484)]),#[]⟩)::
(nat_lit 236,⟨(.type "function"),none,(.func (Q6 "_law_names" "_law_names" (aU (top 37)) (aQ (top 37)) (ay (top 37)) .none .none .none (.str "law_pickalike_k32_where_parted" 461) none (.ref 235) .none)),#[]⟩)::
(nat_lit 237,⟨(.type "tuple"),none,(.seq #[] 0),#[]⟩)::
(nat_lit 239,⟨(.type "tuple"),none,(.seq #[(.str "_law_cell_here" 489),(.str "_law_size" 490),(.str "_law_found" 491),(.str "_law_k" 492)] 0),#[]⟩)::
(nat_lit 240,⟨(.type "tuple"),none,(.seq #[] 0),#[]⟩)::
(nat_lit 242,⟨(.type "code"),none,(.fields #[(.str "_law_bits" 486),(.str "_law_bits" 487),(.str "/claim/cut.py" 488),(.int 130 0),(.int 2 0),(.int 0 0),(.int 0 0),(.int 3 0),(.ref 237),(.bool true),(.int 181 0),(.ref 238),.none,(.ref 239),(.ref 240),(.ref 241),(.int 493 0),(.int 130 0),(.str "/claim/cut.py" 494)]),#[]⟩)::
(nat_lit 243,⟨(.type "function"),none,(.func (Q6 "_law_bits" "_law_bits" (aU (top 38)) (aQ (top 38)) (ay (top 38)) .none .none .none (.str "law_pickalike_k32_where_parted" 461) none (.ref 242) .none)),#[]⟩)::
(nat_lit 244,⟨(.type "tuple"),none,(.seq #[] 0),#[]⟩)::
(nat_lit 247,⟨(.type "code"),none,(.fields #[(.str "_law_world" 496),(.str "_law_world" 497),(.str "/claim/cut.py" 498),(.int 136 0),(.int 3 0),(.int 0 0),(.int 0 0),(.int 3 0),(.ref 244),(.bool true),(.int 181 0),(.ref 245),.none,.none,.none,(.ref 246),(.int 499 0),(.int 136 0),(.str "/claim/cut.py" 500)]),#[]⟩)::
(nat_lit 248,⟨(.type "function"),none,(.func (Q6 "_law_world" "_law_world" (aU (top 39)) (aQ (top 39)) (ay (top 39)) .none .none .none (.str "law_pickalike_k32_where_parted" 461) none (.ref 247) .none)),#[]⟩)::
(nat_lit 249,⟨(.type "tuple"),none,(.seq #[] 0),#[]⟩)::
(nat_lit 251,⟨(.type "tuple"),none,(.seq #[(.str "_law_cell_here" 505),(.str "_law_many" 506),(.str "_law_left" 507),(.str "_law_found" 508),(.str "_law_k" 509)] 0),#[]⟩)::
(nat_lit 252,⟨(.type "tuple"),none,(.seq #[] 0),#[]⟩)::
(nat_lit 254,⟨(.type "code"),none,(.fields #[(.str "_law_order" 502),(.str "_law_order" 503),(.str "/claim/cut.py" 504),(.int 146 0),(.int 2 0),(.int 0 0),(.int 0 0),(.int 3 0),(.ref 249),(.bool true),(.int 181 0),(.ref 250),.none,(.ref 251),(.ref 252),(.ref 253),(.int 510 0),(.int 146 0),(.str "/claim/cut.py" 511)]),#[]⟩)::
(nat_lit 255,⟨(.type "function"),none,(.func (Q6 "_law_order" "_law_order" (aU (top 40)) (aQ (top 40)) (ay (top 40)) .none .none .none (.str "law_pickalike_k32_where_parted" 461) none (.ref 254) .none)),#[]⟩)::
(nat_lit 256,⟨(.type "tuple"),none,(.seq #[] 0),#[]⟩)::
(nat_lit 259,⟨(.type "code"),none,(.fields #[(.str "_law_turned" 513),(.str "_law_turned" 514),(.str "/claim/cut.py" 515),(.int 153 0),(.int 2 0),(.int 0 0),(.int 0 0),(.int 3 0),(.ref 256),(.bool true),(.int 181 0),(.ref 257),.none,.none,.none,(.ref 258),(.int 516 0),(.int 153 0),(.str "/claim/cut.py" 517)]),#[]⟩)::
(nat_lit 260,⟨(.type "function"),none,(.func (Q6 "_law_turned" "_law_turned" (aU (top 41)) (aQ (top 41)) (ay (top 41)) .none .none .none (.str "law_pickalike_k32_where_parted" 461) none (.ref 259) .none)),#[]⟩)::
(nat_lit 261,⟨(.type "tuple"),none,(.seq #[] 0),#[]⟩)::
(nat_lit 264,⟨(.type "code"),none,(.fields #[(.str "_law_flipped" 519),(.str "_law_flipped" 520),(.str "/claim/cut.py" 521),(.int 157 0),(.int 2 0),(.int 0 0),(.int 0 0),(.int 3 0),(.ref 261),(.bool true),(.int 181 0),(.ref 262),.none,.none,.none,(.ref 263),(.int 522 0),(.int 157 0),(.str "/claim/cut.py" 523)]),#[]⟩)::
(nat_lit 265,⟨(.type "function"),none,(.func (Q6 "_law_flipped" "_law_flipped" (aU (top 42)) (aQ (top 42)) (ay (top 42)) .none .none .none (.str "law_pickalike_k32_where_parted" 461) none (.ref 264) .none)),#[]⟩)::
(nat_lit 266,⟨(.type "tuple"),none,(.seq #[] 0),#[]⟩)::
(nat_lit 269,⟨(.type "code"),none,(.fields #[(.str "_law_two" 525),(.str "_law_two" 526),(.str "/claim/cut.py" 527),(.int 176 0),(.int 2 0),(.int 0 0),(.int 0 0),(.int 3 0),(.ref 266),(.bool true),(.int 181 0),(.ref 267),.none,.none,.none,(.ref 268),(.int 528 0),(.int 176 0),(.str "/claim/cut.py" 529)]),#[]⟩)::
(nat_lit 270,⟨(.type "function"),none,(.func (Q6 "_law_two" "_law_two" (aU (top 43)) (aQ (top 43)) (ay (top 43)) .none .none .none (.str "law_pickalike_k32_where_parted" 461) none (.ref 269) .none)),#[]⟩)::
(nat_lit 271,⟨(.type "tuple"),none,(.seq #[] 0),#[]⟩)::
(nat_lit 273,⟨(.type "tuple"),none,(.seq #[(.str "_law_script" 534),(.str "_law_one" 535),(.str "_law_other" 536),(.str "_law_first" 537),(.str "_law_order_here" 538),(.str "_law_found" 539),(.str "_law_k" 540),(.str "_law_cell_here" 541),(.str "_law_a" 542),(.str "_law_b" 543)] 0),#[]⟩)::
(nat_lit 274,⟨(.type "tuple"),none,(.seq #[] 0),#[]⟩)::
(nat_lit 276,⟨(.type "code"),none,(.fields #[(.str "_law_pairs" 531),(.str "_law_pairs" 532),(.str "/claim/cut.py" 533),(.int 191 0),(.int 3 0),(.int 0 0),(.int 0 0),(.int 3 0),(.ref 271),(.bool true),(.int 181 0),(.ref 272),.none,(.ref 273),(.ref 274),(.ref 275),(.int 544 0),(.int 191 0),(.str "/claim/cut.py" 545)]),#[]⟩)::
(nat_lit 277,⟨(.type "function"),none,(.func (Q6 "_law_pairs" "_law_pairs" (aU (top 44)) (aQ (top 44)) (ay (top 44)) .none .none .none (.str "law_pickalike_k32_where_parted" 461) none (.ref 276) .none)),#[]⟩)::
(nat_lit 278,⟨(.type "tuple"),none,(.seq #[] 0),#[]⟩)::
(nat_lit 280,⟨(.type "tuple"),none,(.seq #[(.str "_law_told" 550),(.str "_law_pairs_here" 551),(.str "_law_key" 552),(.str "_law_depth" 553)] 0),#[]⟩)::
(nat_lit 281,⟨(.type "tuple"),none,(.seq #[] 0),#[]⟩)::
(nat_lit 283,⟨(.type "code"),none,(.fields #[(.str "_law_due" 547),(.str "_law_due" 548),(.str "/claim/cut.py" 549),(.int 203 0),(.int 2 0),(.int 0 0),(.int 0 0),(.int 3 0),(.ref 278),(.bool true),(.int 181 0),(.ref 279),.none,(.ref 280),(.ref 281),(.ref 282),(.int 554 0),(.int 203 0),(.str "/claim/cut.py" 555)]),#[]⟩)::
(nat_lit 284,⟨(.type "function"),none,(.func (Q6 "_law_due" "_law_due" (aU (top 45)) (aQ (top 45)) (ay (top 45)) .none .none .none (.str "law_pickalike_k32_where_parted" 461) none (.ref 283) .none)),#[]⟩)::
(nat_lit 285,⟨(.type "tuple"),none,(.seq #[] 0),#[]⟩)::
(nat_lit 287,⟨(.type "tuple"),none,(.seq #[(.str "_law_found" 560),(.str "_law_due_here" 561)] 0),#[]⟩)::
(nat_lit 288,⟨(.type "tuple"),none,(.seq #[] 0),#[]⟩)::
(nat_lit 290,⟨(.type "code"),none,(.fields #[(.str "_law_is" 557),(.str "_law_is" 558),(.str "/claim/cut.py" 559),(.int 209 0),(.int 2 0),(.int 0 0),(.int 0 0),(.int 3 0),(.ref 285),(.bool true),(.int 181 0),(.ref 286),.none,(.ref 287),(.ref 288),(.ref 289),(.int 562 0),(.int 209 0),(.str "/claim/cut.py" 563)]),#[]⟩)::
(nat_lit 291,⟨(.type "function"),none,(.func (Q6 "_law_is" "_law_is" (aU (top 46)) (aQ (top 46)) (ay (top 46)) .none .none .none (.str "law_pickalike_k32_where_parted" 461) none (.ref 290) .none)),#[]⟩)::
(nat_lit 292,⟨(.type "tuple"),none,(.seq #[] 0),#[]⟩)::
(nat_lit 294,⟨(.type "tuple"),none,(.seq #[(.str "_law_script" 568),(.str "_law_one" 569),(.str "_law_other" 570),(.str "_law_told" 571),(.str "_law_pairs_here" 572),(.str "_law_way" 573),(.str "_law_some" 574)] 0),#[]⟩)::
(nat_lit 295,⟨(.type "tuple"),none,(.seq #[] 0),#[]⟩)::
(nat_lit 297,⟨(.type "code"),none,(.fields #[(.str "law" 565),(.str "law" 566),(.str "/claim/cut.py" 567),(.int 213 0),(.int 1 0),(.int 0 0),(.int 0 0),(.int 3 0),(.ref 292),(.bool true),(.int 181 0),(.ref 293),.none,(.ref 294),(.ref 295),(.ref 296),(.int 575 0),(.int 213 0),(.str "/claim/cut.py" 576)]),#[]⟩)::
(nat_lit 298,⟨(.type "function"),none,(.func (Q6 "law" "law" (aU (top 47)) (aQ (top 47)) (ay (top 47)) .none .none .none (.str "law_pickalike_k32_where_parted" 461) none (.ref 297) .none)),#[]⟩)::[]
noncomputable def VW:Rb:={PySem.Challenge.pw_pickalike_k32_where_parted with main:={PySem.Challenge.pw_pickalike_k32_where_parted.main with body:=[top 1,top 2,top 3,top 4,top 6,top 7,top 8,top 10,top 11,top 12,top 13,top 15,top 16,top 17,top 18,top 19,top 20,top 22,top 23,top 24,top 25,top 26,top 27,top 28,top 29,top 30,top 31,top 32,top 33,top 36,top 37,top 38,top 39,top 40,top 41,top 42,top 43,top 44,top 45,top 46,top 47]}}
noncomputable def HK:W.Hook:=W.kHook KF [2,3,15,22,23,24,25,28,35,36,37,40,47,49,50,52,53,54,55,56,59,66,68,69,71,72,73,74,75,78,80,81,83,84,85,88,89,90,92,93,95,96,97,99,100,102,103,104,106,107,109,110,111,113,114,116,117,118,120,121,123,124,125,128,129,130,133,134,135,137,138,140,141,142,144,145,147,148,149,152,153,154,156,157,159,160,161,164,165,166,169,170,171,174,175,176,179,180,181,184,185,186,189,190,191,194,195,196,198,199,201,202,203,206,207,208,210,211,213,214,215,216,218,219,221,222,223,225,226,228,229,230,232,233,235,236,237,239,240,242,243,244,247,248,249,251,252,254,255,256,259,260,261,264,265,266,269,270,271,273,274,276,277,278,280,281,283,284,285,287,288,290,291,292,294,295,297,298] (λ_=>by kernel_rfl)
noncomputable def XT:QN->Bool:=λs=>W.xlAt VW [] s && W.recOk (aba PySem.Challenge.rw_pickalike_k32_where_parted.row.toRowW) s
theorem look:aap PySem.Challenge.rw_pickalike_k32_where_parted=true:=by decide +kernel
theorem left:W.LeftO PySem.Challenge.rw_pickalike_k32_where_parted.row.prog VW ["parted"] XT (abO HK) (abP HK) 4152:=λw=>by kernel_rfl
end K32
namespace DX
open PySem PySem.Spec
open Sem (wp)
noncomputable abbrev N_ (C t:Q4) (dx:Option Q4):Obj:={cls:=.ref C,dict:=dx,data:=.fields #[.ref t,.none,.none,.none,.bool false,.none]}
end DX
namespace DX
open PySem PySem.Spec
section
variable {M:abd}{A:RG}{E:QM->QN->Prop}{s:QN}
noncomputable def N2 (e C:Q4) (dx:Option Q4) (T:Q4) (h:Sn):Prop:=
 ∃oe vs oT ts,h.get? e=some oe/\oe.cls=.ref C/\oe.dict=dx/\oe.data=.fields vs/\vs[1]?=some (.ref T)/\T≠e/\h.get? T=some oT/\oT.data=.fields ts/\ts[3]?=some .none
end
end DX
namespace DX
open PySem PySem.Spec PyProof.Rows L2
noncomputable def Ma (a C:Q4) (dx:Option Q4):Sn->Prop:=λh=>∃oe vs,h.get? a=some oe/\oe.cls=.ref C/\oe.dict=dx/\oe.data=.fields vs
noncomputable abbrev XO (a C:Q4) (dx:Option Q4):HO:=.ext (Ma a C dx)
noncomputable def Fl (e C:Q4) (dx:Option Q4):Option Q4->Sn->Prop
 | none,h=>∃t,h.get? e=some (N_ C t dx)
 | some T,h=>N2 e C dx T h
structure Nf (P:Rb) (w:RD) (fs ex:List Q4) (H:Hp) (s:QN) (E:XK) (e C:Q4) (dx To:Option Q4) (H':Hp) (s':QN):Prop where
 os:s'.os=s.os
 bare:WW s'.gens
 un:Un fs ex H H' s.heap s'.heap
 hok:fU P w H' s'.heap
 fl:Fl e C dx To s'.heap
 newE:s.heap.objs.size<=e
 newT:∀T∈To.toList,s.heap.objs.size<=T
 El:H' e=some (XO e C dx)
 free:∀T∈To.toList,H' T=none
 wish:E (.ref e) dx H'
noncomputable def rB (P:Rb) (w:RD):om:=λouter H s E v s'=>∃e C dx T H',v=.ref e/\Nf P w (frs outer) [] H s E e C dx (some T) H' s'
end DX
namespace DX
open PySem PySem.Spec PyProof.Rows
open Sem (wp)
section
variable {prog:Rb}{w:RD}{A:RG}{E:QM->QN->Prop}{s:QN}{K:QK}{x C:Q4}{ox:Obj}{od:Option Obj}{name:Str}
theorem EO {M:abd}{nameV:QM}{Q:Unit->QN->Prop}(X:K.In s.heap) (I:UT s.heap x ox C od) (hm:UH K C (.type "BaseException")=some true) (hq:Q () s):Rg M A (Xb "BaseException.__getattribute__" ⟨[.ref x,nameV],[]⟩) Q E s:=by
 have hk:builtinKind "BaseException.__getattribute__"=some .slot:=by decide +kernel
 have OT:splitId "BaseException.__getattribute__"=some ("BaseException","__getattribute__"):=by decide +kernel
 have ha:=F.args_bexc_ga (.ref x) nameV
 have L1:=I.type (M:=M)
 have L2:=W.looks_mroIn (M:=M) X hm
 simp only [Xb,hk,OT]
 have L:W.Looks M s.heap (aaq (.ref x) (.type "BaseException")) true:=L1.andThen L2
 refine QJ (L.here ?_)
 obtain ⟨h,g,d,t,os⟩:=s
 repeat (any_goals (first | assumption | wp_step))
theorem entry_class {tk:Tok}{Q:Fin->QN->Prop}(X:K.In s.heap) (I:UT s.heap x ox C od) (hf:V8 K C od "__class__"=some (.bind (.builtin "getset_descriptor.__get__") (.builtin "object.__class__"))) (hm:UH K C (.type "object")=some true) (h:Q (.done (.ret (.ref C))) s):
  Rg (Rk prog w) A (U1.«object.__getattribute__» ⟨[.ref x,.str "__class__" tk],[]⟩) Q E s:=by
 obtain ⟨hh,g,d,t,os⟩:=s
 have L0:=I.type (M:=Rk prog w)
 have L1:=W.looks_find (M:=Rk prog w) X I hf
 refine QJ (QL (QJ (QL (QJ (L0.at (QJ (L1.at ?_)))))))
 show Rg _ _ (holding [_] (call _ [_,.ref x,.ref C]) >>= ret) _ _ _
 exact QJ (Ru (XU (W.class_get (ox:=ox) (od:=od) X I hm (QL h))))
theorem Kf {tk:Tok}{fill expr:Bool}{Q:QM->QN->Prop}(X:K.In s.heap) (I:UT s.heap x ox C od) (hga:T5 K (.ref C) "__getattribute__"=some (some (.builtin "BaseException.__getattribute__"))) (hgt:T5 K (.ref C) "__getattr__"=some none)
  (h:TH (Rk prog w) A (.call (.builtin "BaseException.__getattribute__") ⟨[.ref x,.str name tk],[]⟩) (λr s'=>match r with | .ok (.ret v)=>Rg (Rk prog w) A (handedOut v) Q E s' | _=>False) s):Rg (Rk prog w) A (getAttrBy (.ref x) (.str name tk) fill expr) Q E s:=by
 obtain ⟨hh,g,d,t,os⟩:=s
 have L0:=I.type (M:=Rk prog w)
 have L1:=X0 (M:=Rk prog w) X hga
 have L2:=X0 (M:=Rk prog w) X hgt
 have Qu:(W0 "BaseException.__getattribute__" == W0 "object.__getattribute__")=false:=by decide +kernel
 unfold getAttrBy
 refine Ru (QJ (L0.at (QJ (L1.at ?_))))
 dsimp only
 rw [Qu,Uw,if_neg (by decide)]
 unfold getAttrByItsOwn
 refine QJ (L2.at ?_)
 have h0:(expr && onTheHeap (W0 "BaseException.__getattribute__"))=false:=by cases expr <;> rfl
 refine QJ (Vg (Ru ?_))
 unfold callGetattribute
 rw [h0,if_neg (by decide)]
 unfold boundAndCalled
 rw [V9.ga.bind (.ref x)]
 refine QJ (QL (XU (TR h λr s' q=>?_)))
 match r,q with
 | .ok (.ret v),q=>exact q
theorem get_class {Q:Option QM->QN->Prop}(X:K.In s.heap) (I:UT s.heap x ox C od) (hga:T5 K (.ref C) "__getattribute__"=some (some (.builtin "BaseException.__getattribute__"))) (hgt:T5 K (.ref C) "__getattr__"=some none)
  (hm:UH K C (.type "BaseException")=some true) (hf:V8 K C od "__class__"=some (.bind (.builtin "getset_descriptor.__get__") (.builtin "object.__class__"))) (ho:UH K C (.type "object")=some true) (h:Q (some (.ref C)) {s with toks:=s.toks + 1}):
  Rg (Rk prog w) A (getAttr? (.ref x) "__class__") Q E s:=by
 obtain ⟨hp,g,d,t,os⟩:=s
 unfold getAttr? getAttrBy?
 refine QJ (wpAny_mkText (QJ (Vg (Kf (s:=⟨hp,g,d,t + 1,os⟩) X I hga hgt ?_))))
 refine VY V9.ga.plain F.entry_bexc_ga (EO (s:=⟨hp,g,d,t + 1,os⟩) X I hm (entry_class (s:=⟨hp,g,d,t + 1,os⟩) X I hf ho ?_))
 exact QL (QL h)
end
end DX
namespace DX
open PySem PySem.Spec PyProof.Rows L2
noncomputable abbrev zb:List QM:=[.type "ValueError",.type "Exception",.type "BaseException",.type "object"]
noncomputable def quiet:List Str:=["__init__","__setattr__","name","letter","many","told","point","row"]
structure GX (K:QK) (P:Q4):Prop where
 gt:Y0 K (.builtin "object.__class__") "__get__"=some (some (.builtin "getset_descriptor.__get__"))
 tk:ZG K (.builtin "object.__class__")=some true
 lk:∃nm q N bs sn sub ab col dd k0 k1 k2 k3 k5,K.lookup P=some (excClassObj nm q P N bs zb true sn sub ab col dd k0 k1 k2 k3 k5 "ValueError.__new__")/\∀h,K.In h->∃m,h.Ns N m/\∀n∈quiet,m n=none
structure XE (K:QK) (P C:Q4):Prop where
 lk:∃nm q N bs sn sub ab col dd k0 k1 k2 k3 k5,K.lookup C=some (excClassObj nm q C N bs (.ref P::zb) true sn sub ab col dd k0 k1 k2 k3 k5 "ValueError.__new__")
 ga:T5 K (.ref C) "__getattribute__"=some (some (.builtin "BaseException.__getattribute__"))
 gt:T5 K (.ref C) "__getattr__"=some none
 cl:T5 K (.ref C) "__class__"=some (some (.builtin "object.__class__"))
section
variable {K:QK}{P C:Q4}
theorem CZ (X:XE K P C):∃cd,Vh K C=some cd/\cd.mro=.ref C::.ref P::zb/\cd.hasDict=true/\W.typeIn K (.ref C)=some (.type "type"):=by
 obtain ⟨nm,q,N,bs,sn,sub,ab,col,dd,k0,k1,k2,k3,k5,l⟩:=X.lk
 have h1:Vh K C=some {name:=nm,bases:=bs,mro:=.ref C::.ref P::zb,ns:=N,qualname:=q,hasDict:=true,slotNames:=sn,subclasses:=sub,abstract:=ab,collection:=col,hasDel:=false}:=by
  unfold Vh
  rw [l]
 refine ⟨_,h1,rfl,rfl,?_⟩
 show (K.lookup C).map (·.cls)=_
 rw [l]
 rfl
theorem ym (X:XE K P C) (b:QM):UH K C b=some ((U_ C::.ref P::zb).contains b):=by
 obtain ⟨cd,h1,h2,_⟩:=CZ X
 unfold UH
 rw [h1,Xc,h2]
 rfl
end
theorem KL {K:QK}{P C:Q4}(X:XE K P C){T:String}(h1:ZH T=true) (h2:zb.contains (.type T)=false):Yb K (.ref C) (.type T)=some false:=by
 unfold Yb W.kitCls
 rw [if_neg (by simp)]
 simp only [h1,if_true]
 show UH K C _=_
 rw [ym X,YF,YF,h2]
 rfl
theorem HR {K:QK}{C:Q4}{od:Option Obj}{name:Str}{a g:QM}(hc:(Vh K C).isSome=true) (ha:T5 K (.ref C) name=some (some a)) (hg:Y0 K a "__get__"=some (some g)) (ht:ZG K a=some true):V8 K C od name=some (.bind g a):=by
 obtain ⟨cd,hc⟩:=Sd.mp hc
 unfold V8
 rw [hc,Xc,ha,Xc]
 simp [hg,ht]
theorem E_ {K:QK}{e P C:Q4}(G:GX K P) (E:XE K P C):W.KitX K (.ref e) (.ref C) (λh=>∃ox od,UT h e ox C od):=by
 obtain ⟨cd,hc,hm,hd,ht⟩:=CZ E
 refine ⟨λM h _ ⟨ox,od,I⟩=>I.type,λM h X _=>?_,λh tp dd QA n sl X htp=>?_,λX ⟨ox,od,I⟩ k=>?_⟩
 ·unfold Vh at hc
  split at hc
  ·rename_i ho
   intro A' Q' E' s' k q
   unfold isType loadHead
   exact QJ (wpAny_loadPart (k _ _ (X _ _ ho)) (QL q))
  ·cases hc
 ·refine Bool.eq_false_iff.mpr λq=>?_
  obtain rfl:C=tp:=abY (beq_iff_eq.mp q)
  unfold Vh at hc
  split at hc
  ·rename_i ho
   have z:=(X _ _ ho).symm.trans htp
   cases z
  ·cases hc
 ·exact get_class X I E.ga E.gt (by rw [ym E];simp) (HR (by rw [hc];rfl) E.cl G.gt G.tk) (by rw [ym E];simp) k
end DX
namespace DL
open PySem PySem.Spec PyProof.Rows L2
inductive D where
 | non | bl (b:Bool) | int (i:Int) | str (x:Str) | tup (xs:List D) | lst (xs:List D) | emp
 | exn (cls:Str) (ns:List Str) (ds:List D)
  | dct (ks vs:List D)
mutual
noncomputable def isKey:D->Bool
 | .int _=>true
 | .tup xs=>areKeys xs
 | _=>false
noncomputable def areKeys:List D->Bool
 | []=>true
 | x::xs=>isKey x && areKeys xs
end
mutual
noncomputable def bT:D->Int
 | .int i=>UP i
 | .tup xs=>aar (R9 (cB xs))
 | _=>0
noncomputable def cB:List D->List Int
 | []=>[]
 | x::xs=>bT x::cB xs
end
mutual
noncomputable def dep:D->Nat
 | .tup xs=>deps xs + 1
 | .lst xs=>deps xs + 1
 | .emp=>5000
 | .exn _ _ _=>5000
 | .dct _ _=>5000
 | _=>0
noncomputable def deps:List D->Nat
 | []=>0
 | x::xs=>max (dep x) (deps xs)
end
structure JC (ks:List D):Prop where
 key:areKeys ks=true
 nd:ks.Nodup
 dp:deps ks<=8
 tp:∀k∈ks,∃xs,k=.tup xs
noncomputable def wW (p:Int×V×V) (e:YE):Prop:=e.hash=p.1/\RelV p.2.1 e.key/\RelV p.2.2 e.val
noncomputable abbrev j5 (a:Q4) (ep:Nat) (QH:List (Int×V×V)):HO:=.ext λh=>∃o es,h.get? a=some o/\o.ExactDict/\o.data=.dict es ep/\WB wW QH es.toList
noncomputable def XF (J:Hp) (dx:Option Q4) (ns:List Str) (vs:List V):Prop:=(dx=none/\ns=[]/\vs=[])\/∃d,dx=some d/\ns.length=vs.length/\J d=some (.xd (ns.zip vs))
theorem XF.mono {J J':Hp}(e:aT J J'){dx:Option Q4}{ns:List Str}{vs:List V}(h:XF J dx ns vs):XF J' dx ns vs:=by
 rcases h with h | ⟨d,h1,h2,h3⟩
 ·exact .inl h
 ·exact .inr ⟨d,h1,h2,e _ _ h3⟩
mutual
inductive Rep (K:QK) (J:Hp):D->V->Prop
 | non:Rep K J .non .non
 | bl (b:Bool):Rep K J (.bl b) (.bl b)
 | int (i:Int):Rep K J (.int i) (.int i)
 | str (x:Str):Rep K J (.str x) (.str x)
 | emp {a:Q4}:J a=some (.dK [])->Rep K J .emp (.ref a)
 | tup {a:Q4}{vs:List V}{ds:List D}:cX K J a vs->aF K J ds vs->Rep K J (.tup ds) (.ref a)
 | lst {a:Q4}{vs:List V}{ds:List D}:cG K J a vs->aF K J ds vs->Rep K J (.lst ds) (.ref a)
 | exn {a C:Q4}{dx:Option Q4}{cls:Str}{ns:List Str}{vs:List V}{ds:List D}:J a=some (DX.XO a C dx)->RK K Rt cls=some (some (.ref C))->XF J dx ns vs->aF K J ds vs->(∃P,DX.GX K P/\DX.XE K P C)->Rep K J (.exn cls ns ds) (.ref a)
 | dct {a:Q4}{ep:Nat}{ks vs:List D}{us ws:List V}:J a=some (j5 a ep ((cB ks).zip (us.zip ws)))->aF K J ks us->aF K J vs ws->JC ks->(a == Uv)=false/\ks.length=vs.length->Rep K J (.dct ks vs) (.ref a)
inductive aF (K:QK) (J:Hp):List D->List V->Prop
 | nil:aF K J [] []
 | cons {d:D}{v:V}{ds:List D}{vs:List V}:Rep K J d v->aF K J ds vs->aF K J (d::ds) (v::vs)
end
theorem fB {K:QK}{H H':Hp}{a:Q4}{xs:List V}(e:aT H H') (h:cX K H a xs):cX K H' a xs:=by
 rcases h with (h | ⟨o,h⟩) | h
 ·exact .inl (.inl (e _ _ h))
 ·exact .inl (.inr ⟨o,e _ _ h⟩)
 ·exact .inr h
mutual
theorem Rep.mono {K:QK}{J J':Hp}(e:aT J J'):∀{d:D}{v:V},Rep K J d v->Rep K J' d v
 | _,_,.non=>.non
 | _,_,.bl b=>.bl b
 | _,_,.int i=>.int i
 | _,_,.str x=>.str x
 | _,_,.emp h=>.emp (e _ _ h)
 | _,_,.tup h hs=>.tup (fB e h) (aF.mono e hs)
 | _,_,.lst h hs=>.lst (e.seq h) (aF.mono e hs)
 | _,_,.exn h1 h2 h3 hs hx=>.exn (e _ _ h1) h2 (h3.mono e) (aF.mono e hs) hx
 | _,_,.dct h h1 h2 h3 h4=>.dct (e _ _ h) (aF.mono e h1) (aF.mono e h2) h3 h4
theorem aF.mono {K:QK}{J J':Hp}(e:aT J J'):∀{ds:List D}{vs:List V},aF K J ds vs->aF K J' ds vs
 | _,_,.nil=>.nil
 | _,_,.cons h hs=>.cons (Rep.mono e h) (aF.mono e hs)
end
section
variable {K:QK}{J:Hp}
theorem aF.length:∀{ds:List D}{vs:List V},aF K J ds vs->ds.length=vs.length
 | _,_,.nil=>rfl
 | _,_,.cons _ hs=>congrArg (· + 1) (aF.length hs)
theorem aF.get:∀{ds:List D}{vs:List V}{i:Nat}{d:D},aF K J ds vs->ds[i]?=some d->∃v,vs[i]?=some v/\Rep K J d v
 | _,_,_,_,.nil,e=>by simp at e
 | _,_,0,_,.cons r _,e=>by simp at e;subst e;exact ⟨_,rfl,r⟩
 | _,_,i + 1,d,.cons _ t,e=>by
  obtain ⟨v,h1,h2⟩:=aF.get (i:=i) (d:=d) t (by simpa using e)
  exact ⟨v,by simpa using h1,h2⟩
theorem aF.append:∀{ds es:List D}{vs us:List V},aF K J ds vs->aF K J es us->aF K J (ds++es) (vs++us)
 | _,_,_,_,.nil,s=>s
 | _,_,_,_,.cons r t,s=>.cons r (aF.append t s)
theorem aF.take:∀{ds:List D}{vs:List V}(n:Nat),aF K J ds vs->aF K J (ds.take n) (vs.take n)
 | _,_,0,_=>.nil
 | _,_,_ + 1,.nil=>.nil
 | _,_,n + 1,.cons r t=>.cons r (aF.take n t)
theorem aF.drop:∀{ds:List D}{vs:List V}(n:Nat),aF K J ds vs->aF K J (ds.drop n) (vs.drop n)
 | _,_,0,r=>r
 | _,_,_ + 1,.nil=>.nil
 | _,_,n + 1,.cons _ t=>aF.drop n t
end
noncomputable def dG (K:QK) (J H:Hp) (a:Q4) (ks vs:List D):Prop:=∃us ws ep,H a=some (j5 a ep ((cB ks).zip (us.zip ws)))/\aF K J ks us/\aF K J vs ws/\JC ks/\(a == Uv)=false/\ks.length=vs.length
theorem dG.mono {K:QK}{J J' H H':Hp}{a:Q4}{ks vs:List D}(e:aT J J') (e':aT H H'):dG K J H a ks vs->dG K J' H' a ks vs
 | ⟨us,ws,ep,h1,h2,h3,h4⟩=>⟨us,ws,ep,e' _ _ h1,h2.mono e,h3.mono e,h4⟩
theorem dG.ne {K:QK}{J H:Hp}{a:Q4}{ks vs:List D}:dG K J H a ks vs->H a≠none
 | ⟨us,ws,ep,h1,_⟩=>by rw [h1];intro z;cases z
theorem dG.rep {K:QK}{J H:Hp}{a:Q4}{ks vs:List D}(e:aT J H):dG K J H a ks vs->Rep K H (.dct ks vs) (.ref a)
 | ⟨us,ws,ep,h1,h2,h3,h4,h5⟩=>.dct h1 (h2.mono e) (h3.mono e) h4 h5
structure Exc where
 cls:Str
 ns:List Str
 ds:List D
inductive M (α:Type) where
 | bad | ok (a:α) | exc (x:Exc)
noncomputable def M.bind {α β:Type}:M α->(α->M β)->M β
 | .bad,_=>.bad
 | .ok a,f=>f a
 | .exc x,_=>.exc x
instance:Monad M where
 pure:=M.ok
 bind:=M.bind
@[simp] theorem aN {α β:Type}(a:α) (f:α->M β):(M.ok a >>= f)=f a:=rfl
noncomputable def cD {α:Type}(m:M α) (Q:α->Prop) (T:Exc->Prop):Prop:=match m with
 | .bad=>False
 | .ok a=>Q a
 | .exc x=>T x
theorem aH {α β:Type}{m:M α}{f:α->M β}{Q:β->Prop}{T:Exc->Prop}(h:cD (m >>= f) Q T):cD m (λa=>cD (f a) Q T) T:=by
 cases m with
 | bad=>exact h
 | ok a=>exact h
 | exc x=>exact h
theorem aB {α:Type}{m:M α}{Q Q':α->Prop}{T:Exc->Prop}(h:cD m Q T) (k:∀a,Q a->Q' a):cD m Q' T:=by
 cases m with
 | bad=>exact h
 | ok a=>exact k a h
 | exc x=>exact h
inductive Md where
 | fresh | own | bor
inductive R where
 | d (x:D) | l (m:Md) (xs:List D)
  | mo (ks vs:List D) | mb (ks vs:List D) | mf (ks vs:List D)
inductive S where
 | d (x:D) | own (xs:List D) | bor (xs:List D) | dk (ks vs:List D) | db (ks vs:List D)
  | fn (x:Str)
noncomputable abbrev Ev:=List (Option S)
noncomputable abbrev Mn:=List D ⊕ (List D×List D)
noncomputable def mS:Mn->S
 | .inl xs=>.own xs
 | .inr p=>.dk p.1 p.2
structure C where
 K:QK
 H0:Hp
 J0:Hp
 T:Exc->Prop
structure HI (c:C) (J H:Hp):Prop where
 sub:aT J H
 ent:aT c.H0 H
 entJ:aT c.J0 J
 frz:∀a,c.H0 a≠none->c.J0 a=none->J a=none
structure Ext (J H J' H':Hp):Prop where
 h:aT H H'
 j:aT J J'
 sub:aT J' H'
 frz:∀a,H a≠none->J a=none->J' a=none
theorem aT.ne {H H':Hp}(e:aT H H'){a:Q4}(h:H a≠none):H' a≠none:=by
 cases q:H a with
 | none=>exact absurd q h
 | some o=>rw [e a o q];intro z;cases z
theorem Ext.refl {J H:Hp}(h:aT J H):Ext J H J H:=⟨aT.refl H,aT.refl J,h,λ_ _ q=>q⟩
theorem Ext.trans {J H J1 H1 J2 H2:Hp}(a:Ext J H J1 H1) (b:Ext J1 H1 J2 H2):Ext J H J2 H2:=
 ⟨a.h.trans b.h,a.j.trans b.j,b.sub,λp h q=>b.frz p (aT.ne a.h h) (a.frz p h q)⟩
theorem HI.ext {c:C}{J H J' H':Hp}(h:HI c J H) (e:Ext J H J' H'):HI c J' H':=
 ⟨e.sub,h.ent.trans e.h,h.entJ.trans e.j,λa h0 j0=>e.frz a (aT.ne h.ent h0) (h.frz a h0 j0)⟩
theorem cM {H:Hp}{p:Q4}(h:H p=none) (o:HO):aT H (upd H p o):=λb u q=>by rw [bA (fz q h)];exact q
theorem Ext.new {J H:Hp}(h:aT J H){p:Q4}(e:H p=none) (o:HO):Ext J H J (upd H p o):=
 ⟨cM e o,aT.refl J,λb u q=>cM e o b u (h b u q),λ_ _ q=>q⟩
theorem Ext.newJ {J H:Hp}(h:aT J H){p:Q4}(e:H p=none) (o:HO):Ext J H (upd J p o) (upd H p o):=
 ⟨cM e o,cM (h.free e) o,λb u q=>by
  by_cases hb:b=p
  ·subst hb;rw [b_] at q ⊢;exact q
  ·rw [bA hb] at q ⊢;exact h b u q,λa ha q=>by
  have:a≠p:=λz=>ha (z▸e)
  rw [bA this];exact q⟩
noncomputable def qI (c:C) (J H:Hp):S->V->Prop
 | .d x,v=>Rep c.K J x v
 | .own xs,v=>∃a vs,v=.ref a/\H a=some (.lst vs)/\J a=none/\c.H0 a=none/\aF c.K J xs vs
 | .bor xs,v=>∃a vs,v=.ref a/\cG c.K c.H0 a vs/\aF c.K J xs vs
 | .dk ks vs,v=>∃a,v=.ref a/\dG c.K J H a ks vs/\J a=none/\c.H0 a=none
 | .db ks vs,v=>∃a,v=.ref a/\dG c.K J c.H0 a ks vs
 | .fn x,v=>∃f,v=.ref f/\RK c.K Rt x=some (some (.ref f))
theorem qI.ext {c:C}{J H J' H':Hp}(e:Ext J H J' H'):∀{x:S}{v:V},qI c J H x v->qI c J' H' x v
 | .d x,v,h=>Rep.mono e.j h
 | .own xs,v,⟨a,vs,h1,h2,h3,h4,h5⟩=>⟨a,vs,h1,e.h _ _ h2,e.frz a (by rw [h2];intro z;cases z) h3,h4,aF.mono e.j h5⟩
 | .bor xs,v,⟨a,vs,h1,h2,h3⟩=>⟨a,vs,h1,h2,aF.mono e.j h3⟩
 | .dk _ _,v,⟨a,h1,h2,h3,h4⟩=>⟨a,h1,h2.mono e.j e.h,e.frz a h2.ne h3,h4⟩
 | .db _ _,v,⟨a,h1,h2⟩=>⟨a,h1,h2.mono e.j (aT.refl _)⟩
 | .fn _,v,h=>h
structure SR (c:C) (J H:Hp) (σ:L2.St) (env:Ev):Prop where
 hp:HI c J H
 len:env.length=σ.length
 at_:∀(i:Nat) (x:S),env[i]?=some (some x)->∃v,σ[i]?=some (some v)/\qI c J H x v
 sep:∀(i j:Nat) (xs ys:Mn) (v:V),i≠j->env[i]?=some (some (mS xs))->env[j]?=some (some (mS ys))->σ[i]?=some (some v)->σ[j]?≠some (some v)
theorem SR.ext {c:C}{J H J' H':Hp}{σ:L2.St}{env:Ev}(h:SR c J H σ env) (e:Ext J H J' H'):SR c J' H' σ env:=
 ⟨h.hp.ext e,h.len,λi x q=>let ⟨v,q1,q2⟩:=h.at_ i x q;⟨v,q1,q2.ext e⟩,h.sep⟩
theorem SR.mine {c:C}{J H:Hp}{σ:L2.St}{env:Ev}(sr:SR c J H σ env){i:Nat}:∀{x:Mn},env[i]?=some (some (mS x))->∃p,σ[i]?=some (some (.ref p))/\H p≠none/\J p=none/\c.H0 p=none
 | .inl xs,h=>let ⟨_,k1,p,vs,e,k2,k3,k4,_⟩:=sr.at_ i (.own xs) h;⟨p,e▸k1,by rw [k2];exact λz=>(by cases z),k3,k4⟩
 | .inr q,h=>let ⟨_,k1,p,e,k2,k3,k4⟩:=sr.at_ i (.dk q.1 q.2) h;⟨p,e▸k1,k2.ne,k3,k4⟩
noncomputable def RR (c:C) (He J H:Hp):R->V->Prop
 | .d x,v=>Rep c.K J x v
 | .l .fresh xs,v=>∃a vs,v=.ref a/\H a=some (.lst vs)/\J a=none/\He a=none/\aF c.K J xs vs
 | .l .own xs,v=>∃a vs,v=.ref a/\H a=some (.lst vs)/\J a=none/\c.H0 a=none/\aF c.K J xs vs
 | .l .bor xs,v=>∃a vs,v=.ref a/\cG c.K c.H0 a vs/\aF c.K J xs vs
 | .mo ks vs,v=>∃a,v=.ref a/\dG c.K J H a ks vs/\J a=none/\c.H0 a=none
 | .mb ks vs,v=>∃a,v=.ref a/\dG c.K J c.H0 a ks vs
 | .mf ks vs,v=>∃a,v=.ref a/\dG c.K J H a ks vs/\J a=none/\He a=none
theorem RR.ext {c:C}{He J H J' H':Hp}(e:Ext J H J' H'):∀{x:R}{v:V},RR c He J H x v->RR c He J' H' x v
 | .d x,v,h=>Rep.mono e.j h
 | .l .fresh xs,v,⟨a,vs,h1,h2,h3,h4,h5⟩=>⟨a,vs,h1,e.h _ _ h2,e.frz a (by rw [h2];intro z;cases z) h3,h4,aF.mono e.j h5⟩
 | .l .own xs,v,⟨a,vs,h1,h2,h3,h4,h5⟩=>⟨a,vs,h1,e.h _ _ h2,e.frz a (by rw [h2];intro z;cases z) h3,h4,aF.mono e.j h5⟩
 | .l .bor xs,v,⟨a,vs,h1,h2,h3⟩=>⟨a,vs,h1,h2,aF.mono e.j h3⟩
 | .mo _ _,v,⟨a,h1,h2,h3,h4⟩=>⟨a,h1,h2.mono e.j e.h,e.frz a h2.ne h3,h4⟩
 | .mb _ _,v,⟨a,h1,h2⟩=>⟨a,h1,h2.mono e.j (aT.refl _)⟩
 | .mf _ _,v,⟨a,h1,h2,h3,h4⟩=>⟨a,h1,h2.mono e.j e.h,e.frz a h2.ne h3,h4⟩
theorem RR.from {c:C}{He He' J H:Hp}(e:aT He He'):∀{x:R}{v:V},RR c He' J H x v->RR c He J H x v
 | .d x,v,h=>h
 | .l .fresh xs,v,⟨a,vs,h1,h2,h3,h4,h5⟩=>⟨a,vs,h1,h2,h3,e.free h4,h5⟩
 | .l .own xs,v,h=>h
 | .l .bor xs,v,h=>h
 | .mo _ _,v,h=>h
 | .mb _ _,v,h=>h
 | .mf _ _,v,⟨a,h1,h2,h3,h4⟩=>⟨a,h1,h2,h3,e.free h4⟩
noncomputable def jI:R->M (List D)
 | .d (.lst xs)=>.ok xs
 | .l _ xs=>.ok xs
 | _=>.bad
noncomputable def toD:R->M D
 | .d x=>.ok x
 | .l .fresh xs=>.ok (.lst xs)
 | .mf ks vs=>.ok (.dct ks vs)
 | _=>.bad
theorem RR.list {c:C}{He J H:Hp}(hp:HI c J H):∀{r:R}{v:V}{xs:List D},RR c He J H r v->jI r=.ok xs->∃a vs,v=.ref a/\cG c.K H a vs/\aF c.K J xs vs
 | .d (.lst ys),v,xs,h,e=>by
  cases e
  cases h with
  | lst h hs=>exact ⟨_,_,rfl,hp.sub.seq h,hs⟩
 | .l .fresh ys,v,xs,⟨a,vs,h1,h2,h3,h4,h5⟩,e=>by cases e;exact ⟨a,vs,h1,cG.of h2,h5⟩
 | .l .own ys,v,xs,⟨a,vs,h1,h2,h3,h4,h5⟩,e=>by cases e;exact ⟨a,vs,h1,cG.of h2,h5⟩
 | .l .bor ys,v,xs,⟨a,vs,h1,h2,h3⟩,e=>by cases e;exact ⟨a,vs,h1,hp.ent.seq h2,h3⟩
 | .d .non,_,_,_,e=>nomatch e
 | .d (.bl _),_,_,_,e=>nomatch e
 | .d (.int _),_,_,_,e=>nomatch e
 | .d (.str _),_,_,_,e=>nomatch e
 | .d (.tup _),_,_,_,e=>nomatch e
 | .d .emp,_,_,_,e=>nomatch e
 | .d (.dct _ _),_,_,_,e=>nomatch e
 | .mo _ _,_,_,_,e=>nomatch e
 | .mb _ _,_,_,_,e=>nomatch e
 | .mf _ _,_,_,_,e=>nomatch e
theorem Al {Je He J H:Hp}(x:Ext Je He J H){a:Q4}{o:HO}(h2:H a=some o) (h3:J a=none) (h4:He a=none):Ext Je He (upd J a o) H:=by
 refine ⟨x.h,x.j.trans (cM h3 _),λb u q=>?_,λb hb q=>?_⟩
 ·by_cases hb:b=a
  ·subst hb;rw [b_] at q;cases q;exact h2
  ·rw [bA hb] at q;exact x.sub b u q
 ·have:b≠a:=λz=>hb (z▸h4)
  rw [bA this];exact x.frz b hb q
theorem freeze {c:C}{Je He J H:Hp}(x:Ext Je He J H):∀{r:R}{v:V}{d:D},RR c He J H r v->toD r=.ok d->∃J',Ext Je He J' H/\aT J J'/\Rep c.K J' d v
 | .d y,v,d,h,e=>by cases e;exact ⟨J,x,aT.refl J,h⟩
 | .l .fresh ys,v,d,⟨a,vs,h1,h2,h3,h4,h5⟩,e=>by
  cases e
  subst h1
  exact ⟨_,Al x h2 h3 h4,cM h3 _,.lst (.inl (.inl b_)) (aF.mono (cM h3 _) h5)⟩
 | .mf ks vs,v,d,⟨a,h1,⟨us,ws,ep,h2,m1,m2,m3⟩,h3,h4⟩,e=>by
  cases e
  subst h1
  exact ⟨_,Al x h2 h3 h4,cM h3 _,.dct b_ (m1.mono (cM h3 _)) (m2.mono (cM h3 _)) m3.1 m3.2⟩
 | .l .own _,_,_,_,e=>nomatch e
 | .l .bor _,_,_,_,e=>nomatch e
 | .mo _ _,_,_,_,e=>nomatch e
 | .mb _ _,_,_,_,e=>nomatch e
noncomputable abbrev G (α:Type):=Ev->M α
noncomputable def tD (c:C) (g:G R):TE:=λσ H Q=>∃J env,SR c J H σ env/\cD (g env) (λr=>∀v J' H',Ext J H J' H'->RR c H J' H' r v->Q v H') c.T
noncomputable def PD (X:Cx) (c:C) (e:Rz) (g:G R):Prop:=PE X e (tD c g)
noncomputable def tB (c:C) (g:G Bool):TT:=λσ H Q=>∃J env,SR c J H σ env/\cD (g env) (λb=>∀J' H',Ext J H J' H'->Q b H') c.T
noncomputable def PB (X:Cx) (c:C) (e:Rz) (g:G Bool):Prop:=PT X e (tB c g)
noncomputable def jH (c:C) (He J H:Hp):List R->List V->Prop
 | [],vs=>vs=[]
 | r::rs,vs=>∃v us,vs=v::us/\RR c He J H r v/\jH c He J H rs us
noncomputable def tA (c:C) (g:G (List R)):TA:=λσ H Q=>∃J env,SR c J H σ env/\cD (g env) (λrs=>∀vs J' H',Ext J H J' H'->jH c H J' H' rs vs->Q vs H') c.T
noncomputable def zV (X:Cx) (c:C) (es:List Rz) (g:G (List R)):Prop:=PA X es (tA c g)
noncomputable def Oe (c:C) (g:G (List D)):TA:=λσ H Q=>∃J env,SR c J H σ env/\cD (g env) (λds=>∀vs J' H',Ext J H J' H'->aF c.K J' ds vs->Q vs H') c.T
noncomputable def N5 (X:Cx) (c:C) (es:List Rz) (g:G (List D)):Prop:=PA X es (Oe c g)
inductive O where
 | nx (e:Ev) | rt (r:R) | bk (e:Ev) | ct (e:Ev)
noncomputable def RF (c:C) (J H:Hp):R->V->Prop
 | .d x,v=>Rep c.K J x v
 | .l _ xs,v=>∃a vs,v=.ref a/\H a=some (.lst vs)/\J a=none/\c.H0 a=none/\aF c.K J xs vs
 | .mf ks vs,v=>∃a,v=.ref a/\dG c.K J H a ks vs/\J a=none/\c.H0 a=none
 | _,_=>False
noncomputable def oP (c:C) (J:Hp) (E:Ends):O->Prop
 | .nx e=>∀σ' J' H',aT J J'->SR c J' H' σ' e->E.nx σ' H'
 | .rt r=>∀v J' H',aT J J'->HI c J' H'->RF c J' H' r v->E.rt v H'
 | .bk e=>∀σ' J' H',aT J J'->SR c J' H' σ' e->E.bk σ' H'
 | .ct e=>∀σ' J' H',aT J J'->SR c J' H' σ' e->E.ct σ' H'
noncomputable def tS (c:C) (g:G O):TS:=λE σ H=>∃J env,SR c J H σ env/\cD (g env) (oP c J E) c.T
noncomputable def zW (X:Cx) (c:C) (st:T9) (g:G O):Prop:=PS X st (tS c g)
noncomputable def GL (X:Cx) (c:C) (st:List T9) (g:G O):Prop:=jG X st (tS c g)
theorem oP.mono {c:C}{J J1:Hp}{E:Ends}(e:aT J J1):∀{o:O},oP c J E o->oP c J1 E o
 | .nx _,h=>λσ' J' H' q r=>h σ' J' H' (e.trans q) r
 | .rt _,h=>λσ' J' H' q r=>h σ' J' H' (e.trans q) r
 | .bk _,h=>λσ' J' H' q r=>h σ' J' H' (e.trans q) r
 | .ct _,h=>λσ' J' H' q r=>h σ' J' H' (e.trans q) r
theorem eV {X:Cx}{e:Rz}{t t':TE}(h:PE X e t) (k:∀σ H Q,t' σ H Q->t σ H Q):PE X e t':=λQz s σ H Q I q=>h Qz s σ H Q I (k σ H Q q)
theorem wQ {X:Cx}{e:Rz}{t t':TT}(h:PT X e t) (k:∀σ H Q,t' σ H Q->t σ H Q):PT X e t':=λQz s σ H Q I q=>h Qz s σ H Q I (k σ H Q q)
theorem wN {X:Cx}{es:List Rz}{t t':TA}(h:PA X es t) (k:∀σ H Q,t' σ H Q->t σ H Q):PA X es t':=λpos Qz s σ H Q I q=>h pos Qz s σ H Q I (k σ H Q q)
theorem ic {X:Cx}{st:T9}{t t':TS}(h:PS X st t) (k:∀D σ H,t' D σ H->t D σ H):PS X st t':=λQz s σ H D I q=>h Qz s σ H D I (k D σ H q)
theorem D6 {X:Cx}{st:List T9}{t t':TS}(h:jG X st t) (k:∀D σ H,t' D σ H->t D σ H):jG X st t':=λQz s σ H D I q=>h Qz s σ H D I (k D σ H q)
section
variable {X:Cx}{c:C}{e a b:Rz}{ga gb:G R}{pos:Pos}
noncomputable def S.rd:S->M R
 | .d x=>.ok (.d x)
 | .own xs=>.ok (.l .own xs)
 | .bor xs=>.ok (.l .bor xs)
 | .dk ks vs=>.ok (.mo ks vs)
 | .db ks vs=>.ok (.mb ks vs)
 | .fn _=>.bad
noncomputable def af (i:Nat):G R:=λenv=>match env[i]? with
 | some (some x)=>x.rd
 | _=>.bad
theorem IC {x:Str}{i:Nat}(h:PE X (.Name x pos) (LN i)):PD X c (.Name x pos) (af i):=eV h λσ H Q ⟨J,env,sr,w⟩=>by
 unfold af at w
 cases q:env[i]? with
 | none=>rw [q] at w;exact w.elim
 | some o=>
  cases o with
  | none=>rw [q] at w;exact w.elim
  | some x=>
   rw [q] at w
   obtain ⟨v,h1,h2⟩:=sr.at_ i x q
   refine ⟨v,h1,?_⟩
   cases x with
   | fn _=>exact w.elim
   | _=>exact w v J H (Ext.refl sr.hp.sub) h2
noncomputable def gC (d:D):G R:=λ_=>.ok (.d d)
theorem sX {d:D}{v:V}(hr:∀J,Rep c.K J d v) (h:PE X e (tC v)):PD X c e (gC d):=eV h λσ H Q ⟨J,env,sr,w⟩=>w v J H (Ext.refl sr.hp.sub) (hr J)
noncomputable def BD (c:C) (r:R2) (f:R->R->M R):Prop:=∀(He He' J H:Hp) (x y:R) (u v:V) (Q:VK),HI c J H->RR c He J H x u->RR c He' J H y v->
 cD (f x y) (λz=>∀w J' H',Ext J H J' H'->RR c H J' H' z w->Q w H') c.T->r u v H Q
noncomputable def g2 (f:R->R->M R) (ga gb:G R):G R:=λenv=>ga env >>= λx=>gb env >>= λy=>f x y
theorem two {P:R->R->M R}{σ:L2.St}{H:Hp}{k:V->V->Hp->Prop}{Q:VK}{J:Hp}{env:Ev}(sr:SR c J H σ env)
  (w:cD (g2 P ga gb env) (λr=>∀v J' H',Ext J H J' H'->RR c H J' H' r v->Q v H') c.T)
  (hk:∀x y u v J2 H2,SR c J2 H2 σ env->Ext J H J2 H2->RR c H J2 H2 x u->RR c H J2 H2 y v->cD (P x y) (λz=>∀w J' H',Ext J2 H2 J' H'->RR c H2 J' H' z w->Q w H') c.T->k u v H2):
  tD c ga σ H λu H1=>tD c gb σ H1 λv H2=>k u v H2:=by
 refine ⟨J,env,sr,aB (aH w) λx wx u J1 H1 e1 r1=>?_⟩
 have sr1:=sr.ext e1
 refine ⟨J1,env,sr1,aB (aH wx) λy wy v J2 H2 e2 r2=>?_⟩
 exact hk x y u v J2 H2 (sr1.ext e2) (e1.trans e2) (r1.ext e2) (RR.from e1.h r2) (aB wy λz q w J' H' e3 r3=>q w J' H' ((e1.trans e2).trans e3) (RR.from (e1.h.trans e2.h) r3))
theorem FI {t:TE}{r:R2}{f:R->R->M R}(ht:PE X e t) (heq:t=Ej r (tD c ga) (tD c gb)) (hf:BD c r f):PD X c e (g2 f ga gb):=by
 subst heq
 exact eV ht λσ H Q ⟨J,env,sr,w⟩=>two (k:=λu v H2=>r u v H2 Q) sr w λx y u v J2 H2 sr2 e2 r1 r2 q=>hf H H J2 H2 x y u v Q sr2.hp r1 r2 q
theorem nL {op:Yr}{r:R2}{f:R->R->M R}(ho:c_ X (UG op) r) (hf:BD c r f) (ha:PD X c a ga) (hb:PD X c b gb):PD X c (.BinOp a op b pos) (g2 f ga gb):=FI (MA ho ha hb) rfl hf
theorem o6 {op:aaY}{r:R2}{f:R->R->M R}(ho:c_ X (Sx op) r) (hf:BD c r f) (ha:PD X c a ga) (hb:PD X c b gb) (hm:Sa op b=false:=by first | exact yp _ | rfl):PD X c (.Compare a [op] [b] pos) (g2 f ga gb):=FI (IE ho ha hb hm) rfl hf
theorem G3 {r:R2}{f:R->R->M R}(ho:oA X r) (hf:BD c r f) (ha:PD X c a ga) (hb:PD X c b gb) (hs:pS b:=by exact λ_ _=>rfl):PD X c (.Subscript a b pos) (g2 f ga gb):=FI (My ho ha hb hs) rfl hf
theorem BD.or {r r':R2}{f f':R->R->M R}(p:R->R->Bool) (h:BD c r f) (h':BD c r' f'):BD c (λx y H Q=>r x y H Q\/r' x y H Q) (λx y=>if p x y then f x y else f' x y):=by
 intro He He' J H x y u v Q hp rx ry w
 simp only at w
 cases q:p x y with
 | true=>rw [q] at w;exact .inl (h He He' J H x y u v Q hp rx ry w)
 | false=>rw [q] at w;exact .inr (h' He He' J H x y u v Q hp rx ry w)
noncomputable def fI (C:Int->Int->Bool) (f:Int->Int->D):R->R->M R
 | .d (.int i),.d (.int j)=>if C i j then .ok (.d (f i j)) else .bad
 | _,_=>.bad
noncomputable def i8 (f:Int->Int->D):R->R->M R
 | .d (.int i),.d (.int j)=>.ok (.d (f i j))
 | _,_=>.bad
theorem Bd {P:Int->Int->Prop}{Cb:Int->Int->Bool}{g:Int->Int->V}{f:Int->Int->D}(hC:∀i j,Cb i j=true->P i j) (hr:∀i j J,Rep c.K J (f i j) (g i j)):BD c (rI P g) (fI Cb f):=by
 intro He He' J H x y u v Q hp rx ry w
 unfold fI at w
 split at w
 ·cases rx;cases ry
  rename_i i j
  cases q:Cb i j with
  | true=>rw [q] at w;exact ⟨i,j,rfl,rfl,hC i j q,w _ J H (Ext.refl hp.sub) (hr i j J)⟩
  | false=>rw [q] at w;exact w.elim
 ·exact w.elim
theorem gx {g:Int->Int->V}{f:Int->Int->D}(hr:∀i j J,Rep c.K J (f i j) (g i j)):BD c (pe g) (i8 f):=by
 intro He He' J H x y u v Q hp rx ry w
 unfold i8 at w
 split at w
 ·cases rx;cases ry
  rename_i i j
  exact ⟨i,j,rfl,rfl,w _ J H (Ext.refl hp.sub) (hr i j J)⟩
 ·exact w.elim
noncomputable def below (n:Nat) (j:Int):Bool:=Nat.blt j.natAbs n
theorem dY {n:Nat}{j:Int}:below n j=true↔-(n:Int) < j/\j < n:=by
 unfold below
 rw [Nat.blt_eq]
 omega
noncomputable def BF (_ j:Int):Bool:=decide (0 < j) && below 1073741824 j
noncomputable def KC (_ j:Int):Bool:=decide (0 < j)
noncomputable def ye (i j:Int):Bool:=below 18446744073709551616 i || below 18446744073709551616 j
theorem Ia {i j:Int}(h:ye i j=true):(-(2 ^ 64) < i/\i < 2 ^ 64)\/(-(2 ^ 64) < j/\j < 2 ^ 64):=by
 unfold ye at h
 rw [Ud] at h
 exact h.imp dY.mp dY.mp
theorem H_ {i j:Int}(h:BF i j=true):0 < j/\j < 1073741824:=by
 unfold BF at h
 rw [QX] at h
 exact ⟨of_decide_eq_true h.1,(dY.mp h.2).2⟩
noncomputable def E9 (i j:Int):Bool:=decide (0<=j) && below 1000001 j && below 18446744073709551616 i
theorem Ib {i j:Int}(h:E9 i j=true):0<=j/\j<=1000000/\i.natAbs < 2 ^ 64:=by
 unfold E9 at h
 rw [QX,QX] at h
 have h2:=dY.mp h.1.2
 have h3:=dY.mp h.2
 exact ⟨of_decide_eq_true h.1.1,by omega,by omega⟩
noncomputable abbrev xT:R->R->M R:=i8 λi j=>.int (i + j)
noncomputable abbrev Kd:R->R->M R:=i8 λi j=>.int (i - j)
noncomputable abbrev Ka:R->R->M R:=fI ye λi j=>.int (i * j)
noncomputable abbrev fM:R->R->M R:=fI BF λi j=>.int (i / j)
noncomputable abbrev cW:R->R->M R:=fI KC λi j=>.int (i % j)
noncomputable abbrev Kc:R->R->M R:=fI E9 λi j=>.int (i ^ j.toNat)
noncomputable def r_:R->R->M R
 | .d (.str i),.d (.str j)=>if i.length + j.length<=sizeLine then .ok (.d (.str (i++j))) else .bad
 | _,_=>.bad
theorem Jf {K:QK}{J:Hp}{ds:List D}{vs:List V}{i:Int}{d:D}(h:aF K J ds vs) (e:kT ds i=some d):∃v,kT vs i=some v/\Rep K J d v:=by
 unfold kT at e ⊢
 rw [h.length] at e
 cases q:yd vs.length i with
 | none=>rw [q] at e;cases e
 | some j=>rw [q] at e;exact h.get e
theorem nh {x:R}{f:List D->M R}{Q:R->Prop}{T:Exc->Prop}(w:cD (jI x >>= f) Q T):∃xs,jI x=.ok xs/\cD (f xs) Q T:=by
 cases q:jI x with
 | bad=>rw [q] at w;exact w.elim
 | ok xs=>rw [q] at w;exact ⟨xs,rfl,w⟩
 | exc z=>unfold jI at q;split at q <;> cases q
noncomputable def yc:R->Bool
 | .l .fresh _=>true
 | .l .own _=>true
 | _=>false
noncomputable def se (x y:R):M R:=if yc x && yc y then jI x >>= λxs=>jI y >>= λys=>if xs.length + ys.length<=sizeLine then .ok (.l .fresh (xs++ys)) else .bad else .bad
theorem RR.made {He J H:Hp}:∀{r:R}{v:V},yc r=true->RR c He J H r v->∃a vs xs,jI r=.ok xs/\v=.ref a/\H a=some (.lst vs)/\aF c.K J xs vs
 | .l .fresh xs,v,_,⟨a,vs,h1,h2,h3,h4,h5⟩=>⟨a,vs,xs,rfl,h1,h2,h5⟩
 | .l .own xs,v,_,⟨a,vs,h1,h2,h3,h4,h5⟩=>⟨a,vs,xs,rfl,h1,h2,h5⟩
 | .l .bor _,_,e,_=>nomatch e
 | .mo _ _,_,e,_=>nomatch e
 | .mb _ _,_,e,_=>nomatch e
 | .mf _ _,_,e,_=>nomatch e
 | .d _,_,e,_=>nomatch e
theorem iU {J H:Hp}{xs:List D}{vs:List V}{p:Q4}(hp:HI c J H) (e:H p=none) (h:aF c.K J xs vs):RR c H J (upd H p (.lst vs)) (.l .fresh xs) (.ref p):=
 ⟨p,vs,rfl,b_,hp.sub.free e,e,h⟩
noncomputable def CD (c:C) (r:List V->Hp->VK->Prop) (f:List R->M R):Prop:=∀(He J H:Hp) (xs:List R) (vs:List V) (Q:VK),HI c J H->jH c He J H xs vs->
 cD (f xs) (λz=>∀w J' H',Ext J H J' H'->RR c H J' H' z w->Q w H') c.T->r vs H Q
noncomputable def gN (f:List R->M R) (gs:G (List R)):G R:=λenv=>gs env >>= f
theorem FJ {t:TE}{ta:TA}{r:List V->Hp->VK->Prop}{f:List R->M R}{gs:G (List R)}(ht:PE X e t) (heq:t=λσ H Q=>tA c gs σ H λvs H1=>r vs H1 Q) (hf:CD c r f):PD X c e (gN f gs):=by
 subst heq
 refine eV ht λσ H Q ⟨J,env,sr,w⟩=>⟨J,env,sr,aB (aH w) λrs w vs J1 H1 e1 r1=>?_⟩
 exact hf H J1 H1 rs vs Q (sr.hp.ext e1) r1 (aB w λz q v J' H' e2 r2=>q v J' H' (e1.trans e2) (RR.from e1.h r2))
noncomputable def aC:G (List R):=λ_=>.ok []
noncomputable def ao (g:G R) (gs:G (List R)):G (List R):=λenv=>g env >>= λx=>gs env >>= λxs=>.ok (x::xs)
theorem jH.from {He He' J H:Hp}(e:aT He He'):∀{xs:List R}{vs:List V},jH c He' J H xs vs->jH c He J H xs vs
 | [],_,h=>h
 | _::_,_,⟨v,us,h1,h2,h3⟩=>⟨v,us,h1,RR.from e h2,jH.from e h3⟩
theorem jh {id:String}{x:Str}{p:Pos}{es:List Rz}{r:List V->Hp->VK->Prop}{f:List R->M R}{gs:G (List R)}(hc:bU X (.builtin id) r) (hf:CD c r f) (hv:R1 x=some (.builtin id)) (hm:X.mg x=none) (ha:zV X c (e::es) gs)
  (hg:Gl X x:=by rfl) (hn:x≠"__name__":=by decide) (hdb:(x == ("__debug__":Str))=false:=by decide)
  (he:QZ (e::es) X.env=(false,eval e X.env)::QZ es X.env:=by rfl) (hpl:(SV pos (QZ es X.env)).any (·.1)=false:=by rfl):PD X c (.Call (.Name x p) (e::es) [] pos) (gN f gs):=
 FJ (ta:=Cj) (qS hc hg hm hv ha hn hdb he hpl) rfl hf
theorem DS {T:String}{x:Str}{p:Pos}{es:List Rz}{r:List V->Hp->VK->Prop}{f:List R->M R}{gs:G (List R)}(hc:bU X (.type T) r) (hf:CD c r f) (hv:R1 x=some (.type T)) (hm:X.mg x=none) (ha:zV X c (e::es) gs)
  (hg:Gl X x:=by rfl) (hn:x≠"__name__":=by decide) (hdb:(x == ("__debug__":Str))=false:=by decide)
  (he:QZ (e::es) X.env=(false,eval e X.env)::QZ es X.env:=by rfl) (hpl:(SV pos (QZ es X.env)).any (·.1)=false:=by rfl):PD X c (.Call (.Name x p) (e::es) [] pos) (gN f gs):=
 FJ (ta:=Cj) (lq hc hg hm hv ha hn hdb he hpl) rfl hf
end
section
variable {X:Cx}{c:C}{e a b:Rz}{es:List Rz}{ga gb g:G R}{pos:Pos}
noncomputable def aX:G (List D):=λ_=>.ok []
noncomputable def aA (g:G R) (gs:G (List D)):G (List D):=λenv=>g env >>= λx=>toD x >>= λd=>gs env >>= λds=>.ok (d::ds)
theorem iH {α:Type}{x:R}{f:D->M α}{Q:α->Prop}{T:Exc->Prop}(w:cD (toD x >>= f) Q T):∃d,toD x=.ok d/\cD (f d) Q T:=by
 cases q:toD x with
 | bad=>rw [q] at w;exact w.elim
 | ok xs=>rw [q] at w;exact ⟨xs,rfl,w⟩
 | exc z=>unfold toD at q;split at q <;> cases q
noncomputable def bJ (gs:G (List D)):G R:=λenv=>gs env >>= λds=>if ds.length<=sizeLine then .ok (.d (.tup ds)) else .bad
noncomputable def fZ (gs:G (List D)):G R:=λenv=>gs env >>= λds=>if ds.length<=sizeLine then .ok (.l .fresh ds) else .bad
theorem mZ {J H:Hp}{xs:List D}{vs:List V}{p:Q4}(hp:HI c J H) (e:H p=none) (h:aF c.K J xs vs):Rep c.K (upd J p (.tup vs)) (.tup xs) (.ref p):=
 .tup (.inl (.inl b_)) (h.mono (cM (hp.sub.free e) _))
noncomputable def g8:R->M (List D)
 | .d (.tup xs)=>.ok xs
 | .d (.lst xs)=>.ok xs
 | .l _ xs=>.ok xs
 | _=>.bad
theorem pT {He J H:Hp}(hp:HI c J H):∀{r:R}{v:V}{xs:List D},RR c He J H r v->g8 r=.ok xs->∃a vs,v=.ref a/\(cG c.K H a vs\/cX c.K H a vs)/\aF c.K J xs vs
 | .d (.tup ys),v,xs,h,e=>by
  cases e
  cases h with
  | tup h hs=>exact ⟨_,_,rfl,.inr (fB hp.sub h),hs⟩
 | .d (.lst ys),v,xs,h,e=>let ⟨a,vs,h1,h2,h3⟩:=RR.list hp h e;⟨a,vs,h1,.inl h2,h3⟩
 | .l m ys,v,xs,h,e=>let ⟨a,vs,h1,h2,h3⟩:=RR.list hp h e;⟨a,vs,h1,.inl h2,h3⟩
 | .d .non,_,_,_,e=>nomatch e
 | .d (.bl _),_,_,_,e=>nomatch e
 | .d (.int _),_,_,_,e=>nomatch e
 | .d (.str _),_,_,_,e=>nomatch e
 | .d .emp,_,_,_,e=>nomatch e
 | .d (.dct _ _),_,_,_,e=>nomatch e
theorem ni {α:Type}{x:R}{f:List D->M α}{Q:α->Prop}{T:Exc->Prop}(w:cD (g8 x >>= f) Q T):∃xs,g8 x=.ok xs/\cD (f xs) Q T:=by
 cases q:g8 x with
 | bad=>rw [q] at w;exact w.elim
 | ok xs=>rw [q] at w;exact ⟨xs,rfl,w⟩
 | exc z=>unfold g8 at q;split at q <;> cases q
noncomputable def iR:List R->M R
 | [.d (.str z)]=>if z.length<=sizeLine then .ok (.d (.int z.length)) else .bad
 | [r]=>g8 r >>= λxs=>.ok (.d (.int xs.length))
 | _=>.bad
theorem jH.one {He J H:Hp}{r:R}{vs:List V}(h:jH c He J H [r] vs):∃v,vs=[v]/\RR c He J H r v:=by
 obtain ⟨v,us,rfl,h1,h2⟩:=h
 cases h2
 exact ⟨v,rfl,h1⟩
theorem jH.two {He J H:Hp}{r r':R}{vs:List V}(h:jH c He J H [r,r'] vs):∃v v',vs=[v,v']/\RR c He J H r v/\RR c He J H r' v':=by
 obtain ⟨v,us,rfl,h1,v2,us2,rfl,h2,h3⟩:=h
 cases h3
 exact ⟨v,v2,rfl,h1,h2⟩
noncomputable def cH:List R->M R
 | [r]=>g8 r >>= λxs=>.ok (.d (.tup xs))
 | _=>.bad
theorem zp:R1 "tuple"=some (.type "tuple"):=by decide +kernel
theorem Bj:R1 "list"=some (.type "list"):=by decide +kernel
noncomputable def bO (g:G R):G Bool:=λenv=>g env >>= λr=>match r with
 | .d (.bl k)=>.ok k
 | _=>.bad
theorem jz {op:aaY}{r:R2}{f:R->R->M R}(ho:c_ X (Sx op) r) (hf:BD c r f) (ha:PD X c a ga) (hb:PD X c b gb) (hm:Sa op b=false:=by first | exact yp _ | rfl):PB X c (.Compare a [op] [b] pos) (bO (g2 f ga gb)):=
 wQ (IM ho ha hb hm) λσ H Q ⟨J,env,sr,w⟩=>by
  have w2:=aH w
  refine two (k:=λu v H2=>r u v H2 λz H3=>∃k,z=.bl k/\Q k H3) (Q:=λz H3=>∃k,z=.bl k/\Q k H3) sr (aB w2 λr0 wr v J1 H1 e1 r1=>?_)
   λx y u v J2 H2 sr2 e2 r1 r2 q=>hf H H J2 H2 x y u v _ sr2.hp r1 r2 q
  split at wr
  ·cases r1;exact ⟨_,rfl,wr J1 H1 e1⟩
  ·exact wr.elim
noncomputable def jf (g h:G Bool):G Bool:=λenv=>g env >>= λk=>if k=true then h env else .ok false
noncomputable def sC (g h:G Bool):G Bool:=λenv=>g env >>= λk=>if k=true then .ok true else h env
noncomputable def ir (g:G Bool):G Bool:=λenv=>g env >>= λk=>.ok (!k)
noncomputable def N6 (X:Cx) (c:C) (e:Rz) (g:G Bool):Prop:=PW X e (tB c g)
variable {t u:G Bool}{rest:List Rz}
theorem G7 {X:Cx}{e:Rz}{t t':TT}(h:PW X e t) (k:∀σ H Q,t' σ H Q->t σ H Q):PW X e t':=λwh Qz s σ H Q I q=>h wh Qz s σ H Q I (k σ H Q q)
noncomputable def pU (g h:G R):G R:=λenv=>g env >>= λr=>match r with
 | .d (.bl true)=>h env
 | .d (.bl false)=>.ok (.d (.bl false))
 | _=>.bad
noncomputable def qP (g h:G R):G R:=λenv=>g env >>= λr=>match r with
 | .d (.bl false)=>h env
 | .d (.bl true)=>.ok (.d (.bl true))
 | _=>.bad
noncomputable def Bw (g:G R):G R:=λenv=>g env >>= λr=>match r with
 | .d (.bl k)=>.ok (.d (.bl (!k)))
 | _=>.bad
end
section
variable {X:Cx}{c:C}{e a b tg:Rz}{es:List Rz}{ga gb g:G R}{pos:Pos}{st:T9}{rest:List T9}{t u:G O}{tb:G Bool}
noncomputable def dS:G O:=λenv=>.ok (.nx env)
noncomputable def aL (t u:G O):G O:=λenv=>t env >>= λo=>match o with
 | .nx e=>u e
 | o=>.ok o
noncomputable def jo (g:G R):G O:=λenv=>g env >>= λ_=>.ok (.nx env)
noncomputable def rF:R->M R
 | .d x=>.ok (.d x)
 | .l .fresh xs=>.ok (.l .fresh xs)
 | .l .own xs=>.ok (.l .fresh xs)
 | .l .bor _=>.bad
 | .mo ks vs=>.ok (.mf ks vs)
 | .mf ks vs=>.ok (.mf ks vs)
 | .mb _ _=>.bad
noncomputable def bH (g:G R):G O:=λenv=>g env >>= λr=>rF r >>= λr=>.ok (.rt r)
theorem RR.rf {J H J1 H1:Hp}(hp:HI c J H):∀{r r':R}{v:V},RR c H J1 H1 r v->rF r=.ok r'->RF c J1 H1 r' v
 | .d x,r',v,h,e=>by cases e;exact h
 | .l .fresh xs,r',v,⟨a,vs,h1,h2,h3,h4,h5⟩,e=>by cases e;exact ⟨a,vs,h1,h2,h3,hp.ent.free h4,h5⟩
 | .l .own xs,r',v,⟨a,vs,h1,h2,h3,h4,h5⟩,e=>by cases e;exact ⟨a,vs,h1,h2,h3,h4,h5⟩
 | .l .bor _,_,_,_,e=>nomatch e
 | .mo _ _,_,v,⟨a,h1,h2,h3,h4⟩,e=>by cases e;exact ⟨a,h1,h2,h3,h4⟩
 | .mb _ _,_,_,_,e=>nomatch e
 | .mf _ _,_,v,⟨a,h1,h2,h3,h4⟩,e=>by cases e;exact ⟨a,h1,h2,h3,hp.ent.free h4⟩
noncomputable def b8 (b:G Bool) (t u:G O):G O:=λenv=>b env >>= λk=>if k=true then t env else u env
noncomputable def toS:R->M S
 | .d x=>.ok (.d x)
 | .l .fresh xs=>.ok (.own xs)
 | .l .bor xs=>.ok (.bor xs)
 | .l .own _=>.bad
 | .mb ks vs=>.ok (.db ks vs)
 | .mf ks vs=>.ok (.dk ks vs)
 | .mo _ _=>.bad
theorem gn {α:Type}{l:List (Option α)}{i j:Nat}{x y:α}(h:(l.set i (some x))[j]?=some (some y)):(j=i/\i < l.length/\y=x)\/(j≠i/\l[j]?=some (some y)):=by
 by_cases e:j=i
 ·subst e
  have hj:j < l.length:=by
   have:=(Rr.mp h).1
   simpa using this
  rw [So hj] at h
  cases h
  exact .inl ⟨rfl,hj,rfl⟩
 ·rw [RM (Tt e)] at h
  exact .inr ⟨e,h⟩
theorem SR.setD {J H:Hp}{σ:L2.St}{env:Ev}(sr:SR c J H σ env){i:Nat}{x:S}{v:V}(h:qI c J H x v) (hx:∀xs,x≠mS xs):SR c J H (σ.set i (some v)) (env.set i (some x)):=by
 refine ⟨sr.hp,by simpa using sr.len,λj y q=>?_,λj k xs ys w hjk q1 q2 q3 q4=>?_⟩
 ·rcases gn q with ⟨rfl,hl,rfl⟩ | ⟨hj,q⟩
  ·exact ⟨v,by rw [So (by rw [<-sr.len];exact hl)],h⟩
  ·obtain ⟨w,h1,h2⟩:=sr.at_ j y q
   exact ⟨w,by rw [RM (Tt hj)];exact h1,h2⟩
 ·rcases gn q1 with ⟨rfl,hl,e⟩ | ⟨hj,q1⟩
  ·exact hx xs e.symm
  ·rcases gn q2 with ⟨rfl,hl,e⟩ | ⟨hk,q2⟩
   ·exact hx ys e.symm
   ·rw [RM (Tt hj)] at q3
    rw [RM (Tt hk)] at q4
    exact sr.sep j k xs ys w hjk q1 q2 q3 q4
theorem SR.setM {J He:Hp}{σ:L2.St}{env:Ev}(sr:SR c J He σ env){J1 H1:Hp}(e1:Ext J He J1 H1){i:Nat}{y:Mn}{p:Q4}(h3:He p=none) (h:qI c J1 H1 (mS y) (.ref p)):SR c J1 H1 (σ.set i (some (.ref p))) (env.set i (some (mS y))):=by
 have sr1:=sr.ext e1
 have old:∀(j:Nat) (ys:Mn),env[j]?=some (some (mS ys))->σ[j]?≠some (some (.ref p)):=λj ys qj z=>by
  obtain ⟨a,k1,k2,_⟩:=sr.mine qj
  rw [z] at k1
  cases k1
  exact k2 h3
 refine ⟨sr1.hp,by simpa using sr.len,λj y q=>?_,λj k ys zs w hjk q1 q2 q3 q4=>?_⟩
 ·rcases gn q with ⟨rfl,hl,rfl⟩ | ⟨hj,q⟩
  ·exact ⟨.ref p,by rw [So (by rw [<-sr.len];exact hl)],h⟩
  ·obtain ⟨w,k1,k2⟩:=sr1.at_ j y q
   exact ⟨w,by rw [RM (Tt hj)];exact k1,k2⟩
 ·rcases gn q1 with ⟨rfl,hl,e⟩ | ⟨hj,q1'⟩
  ·rcases gn q2 with ⟨rfl,_,_⟩ | ⟨hk,q2⟩
   ·exact hjk rfl
   ·rw [So (by rw [<-sr.len];exact hl)] at q3
    cases q3
    rw [RM (Tt hk)] at q4
    exact old k zs q2 q4
  ·rw [RM (Tt hj)] at q3
   rcases gn q2 with ⟨rfl,hl,e⟩ | ⟨hk,q2⟩
   ·rw [So (by rw [<-sr.len];exact hl)] at q4
    cases q4
    exact old j ys q1' q3
   ·rw [RM (Tt hk)] at q4
    exact sr.sep j k ys zs w hjk q1' q2 q3 q4
theorem SR.set {J He:Hp}{σ:L2.St}{env:Ev}(sr:SR c J He σ env){J1 H1:Hp}(e1:Ext J He J1 H1){i:Nat}{r:R}{x:S}{v:V}(h:RR c He J1 H1 r v) (q:toS r=.ok x):SR c J1 H1 (σ.set i (some v)) (env.set i (some x)):=by
 have sr1:=sr.ext e1
 cases r with
 | d y=>cases q;exact sr1.setD h (λx z=>by cases x <;> cases z)
 | mb _ _=>cases q;exact sr1.setD h (λx z=>by cases x <;> cases z)
 | mf ks vs=>cases q;obtain ⟨p,rfl,h1,h2,h3⟩:=h;exact sr.setM (y:=.inr (ks,vs)) e1 h3 ⟨p,rfl,h1,h2,sr.hp.ent.free h3⟩
 | mo _ _=>cases q
 | l m xs=>
  cases m with
  | own=>cases q
  | bor=>cases q;exact sr1.setD h (λx z=>by cases x <;> cases z)
  | fresh=>
   cases q
   obtain ⟨p,vs,rfl,h1,h2,h3,h4⟩:=h
   exact sr.setM (y:=.inl xs) e1 h3 ⟨p,vs,rfl,h1,h2,sr.hp.ent.free h3,h4⟩
theorem nj {α:Type}{x:R}{f:S->M α}{Q:α->Prop}{T:Exc->Prop}(w:cD (toS x >>= f) Q T):∃d,toS x=.ok d/\cD (f d) Q T:=by
 cases q:toS x with
 | bad=>rw [q] at w;exact w.elim
 | ok xs=>rw [q] at w;exact ⟨xs,rfl,w⟩
 | exc z=>unfold toS at q;split at q <;> cases q
noncomputable def a_ (i:Nat) (g:G R):G O:=λenv=>g env >>= λr=>toS r >>= λx=>.ok (.nx (env.set i (some x)))
noncomputable abbrev GT:=D->Ev->M Ev
noncomputable def KO (env:Ev) (σ:L2.St) (e:Ev) (σ':L2.St):Prop:=∀(j:Nat) (xs:Mn),e[j]?=some (some (mS xs))->env[j]?=some (some (mS xs))/\σ'[j]?=σ[j]?
theorem KO.refl {env:Ev}{σ:L2.St}:KO env σ env σ:=λ_ _ h=>⟨h,rfl⟩
theorem KO.trans {env e1 e2:Ev}{σ s1 s2:L2.St}(a:KO env σ e1 s1) (b:KO e1 s1 e2 s2):KO env σ e2 s2:=λj xs h=>by
 obtain ⟨h1,h2⟩:=b j xs h
 obtain ⟨h3,h4⟩:=a j xs h1
 exact ⟨h3,h2.trans h4⟩
noncomputable def tT (c:C) (g:GT):TG:=λv σ H Q=>∃J env d,SR c J H σ env/\Rep c.K J d v/\cD (g d env) (λe=>∀σ',SR c J H σ' e->KO env σ e σ'->Q σ' H) c.T
noncomputable def iM (X:Cx) (c:C) (tg:Rz) (g:GT):Prop:=PG X tg (tT c g)
noncomputable abbrev rE:=List D->Ev->M Ev
noncomputable def Oj (c:C) (g:rE):rQ:=λvs σ H Q=>∃J env ds,SR c J H σ env/\aF c.K J ds vs/\cD (g ds env) (λe=>∀σ',SR c J H σ' e->KO env σ e σ'->Q σ' H) c.T
noncomputable def Ni (X:Cx) (c:C) (tgs:List Rz) (g:rE):Prop:=xg X tgs (Oj c g)
theorem G5 {X:Cx}{e:Rz}{t t':TG}(h:PG X e t) (k:∀v σ H Q,t' v σ H Q->t v σ H Q):PG X e t':=λQz s σ H v u Q I r q=>h Qz s σ H v u Q I r (k v σ H Q q)
theorem DW {X:Cx}{e:List Rz}{t t':rQ}(h:xg X e t) (k:∀v σ H Q,t' v σ H Q->t v σ H Q):xg X e t':=λQz s σ H vs us Q I r q=>h Qz s σ H vs us Q I r (k vs σ H Q q)
noncomputable def aD (i:Nat):GT:=λd env=>.ok (env.set i (some (.d d)))
noncomputable def fC:rE:=λds env=>match ds with
 | []=>.ok env
 | _=>.bad
noncomputable def bI (t:GT) (u:rE):rE:=λds env=>match ds with
 | d::r=>t d env >>= λe=>u r e
 | []=>.bad
noncomputable def eW (n:Nat) (u:rE):GT:=λd env=>match d with
 | .tup ds=>if ds.length=n then u ds env else .bad
 | _=>.bad
noncomputable def lO (t:GT) (g:G R):G O:=λenv=>g env >>= λr=>toD r >>= λd=>t d env >>= λe=>.ok (.nx e)
theorem Iw {t:GT}(h:PD X c e g) (ht:iM X c tg t)
  (hq:PS X (.Assign [tg] e pos) (Gz (tD c g) (tT c t))):zW X c (.Assign [tg] e pos) (lO t g):=ic hq λE σ H ⟨J,env,sr,w⟩=>by
 refine ⟨J,env,sr,aB (aH w) λr wr v J1 H1 e1 r1=>?_⟩
 obtain ⟨d,q,wr⟩:=iH wr
 obtain ⟨J1',e1',s1,rd⟩:=freeze e1 r1 q
 refine ⟨J1',env,d,sr.ext e1',rd,aB (aH wr) λe2 w2 σ' sr' _=>?_⟩
 exact w2 σ' J1' H1 e1'.j sr'
noncomputable def Walk (c:C) (It:It) (ds:List D) (J1:Hp) (U:Hp->Hp->Prop):Prop:=∀(i:Nat) (J H:Hp),HI c J H->U J H->
 (ds.length<=i->It.stop i H)/\∀d,ds[i]?=some d->It.go i H/\∀x H2,It.yld i H x H2->∃J2,Ext J H J2 H2/\Rep c.K J2 d x
noncomputable def tI (c:C) (g:G (List D)):TI:=λσ H Q=>∃J env,SR c J H σ env/\cD (g env) (λds=>∀It J1 H1,Ext J H J1 H1->Walk c It ds J1 (λJ' _=>aT J1 J')->Q It H1) c.T
noncomputable def xh (X:Cx) (c:C) (tg QE:Rz) (g:G (List D)):Prop:=PI X tg QE (tI c g)
theorem sY {X:Cx}{tg it:Rz}{t t':TI}(h:PI X tg it t) (k:∀σ H Q,t' σ H Q->t σ H Q):PI X tg it t':=λQz s σ H Q I q=>h Qz s σ H Q I (k σ H Q q)
noncomputable def gf (t:GT) (u:G O):List D->Ev->M O
 | [],env=>.ok (.nx env)
 | d::ds,env=>t d env >>= λe=>u e >>= λo=>match o with
  | .nx e=>gf t u ds e
  | .ct e=>gf t u ds e
  | .bk e=>.ok (.nx e)
  | .rt r=>.ok (.rt r)
noncomputable def gF (g:G (List D)) (t:GT) (u:G O):G O:=λenv=>g env >>= λds=>gf t u ds env
noncomputable def Ot (g:G R):G (List D):=λenv=>g env >>= λr=>match r with
 | .d (.tup xs)=>.ok xs
 | _=>.bad
theorem pQ {J1:Hp}{a:Q4}{vs:List V}{ds:List D}(h:cG c.K J1 a vs\/cG c.K c.H0 a vs) (hs:aF c.K J1 ds vs):Walk c (GD c.K a) ds J1 (λJ' _=>aT J1 J'):=by
 intro i J H hp u
 have h':cG c.K H a vs:=h.elim (λh=>hp.sub.seq (u.seq h)) λh=>hp.ent.seq h
 refine ⟨λhl=>⟨vs,h',by rw [<-hs.length];exact hl⟩,λd hd=>?_⟩
 obtain ⟨v,h1,h2⟩:=hs.get hd
 refine ⟨⟨vs,v,h',h1⟩,λx H2 ⟨e,hy⟩=>?_⟩
 subst e
 have:=hy vs h'
 rw [h1] at this
 cases this
 exact ⟨J,Ext.refl hp.sub,h2.mono u⟩
noncomputable def eY (lo:Int) (n:Nat):List D:=(QU n).map λ(k:Nat)=>.int (lo + (k:Int))
theorem Cp {J1:Hp}{lo:Int}{n:Nat}{Ut:Hp->Hp->Prop}:Walk c (GF lo n) (eY lo n) J1 Ut:=by
 intro i J H hp u
 refine ⟨λhl=>(show n<=i by simpa [eY] using hl),λd hd=>?_⟩
 have hi:i < n:=by
  have:=(Rr.mp hd).1
  simpa [eY] using this
 have hd':d=.int (lo + i):=by
  unfold eY at hd
  rw [Rj,Ui hi] at hd
  exact (R4 hd).symm
 subst hd'
 exact ⟨hi,λx H2 ⟨e,hx⟩=>by subst e hx;exact ⟨J,Ext.refl hp.sub,.int _⟩⟩
noncomputable def cj (gs:G (List R)):G (List D):=λenv=>gs env >>= λrs=>match rs with
 | [.d (.int j)]=>if below 4611686018427387904 j then .ok (eY 0 j.toNat) else .bad
 | _=>.bad
noncomputable def Og (c:C) (g:G (List D)):TI:=λσ H Q=>∃J env,SR c J H σ env/\cD (g env) (λds=>∀It J1 H1,Ext J H J1 H1->Walk c It ds J1 (λJ' H'=>aT J1 J'/\aT H1 H')->Q It H1) c.T
noncomputable def oB (X:Cx) (c:C) (tg QE:Rz) (g:G (List D)):Prop:=PI X tg QE (Og c g)
end
section
variable {X:Cx}{c:C}{e a b tg:Rz}{es:List Rz}{ga gb g:G R}{pos:Pos}
theorem SR.updM {J H:Hp}{σ:L2.St}{env:Ev}(sr:SR c J H σ env){i:Nat}{x y:Mn}{p:Q4}{o:HO}(hi:env[i]?=some (some (mS x))) (hs:σ[i]?=some (some (.ref p))) (hJ:J p=none) (h0:c.H0 p=none)
  (h:qI c J (L2.upd H p o) (mS y) (.ref p)):SR c J (L2.upd H p o) σ (env.set i (some (mS y))):=by
 refine ⟨⟨λb o q=>?_,λb o q=>?_,sr.hp.entJ,sr.hp.frz⟩,by simpa using sr.len,λj y q=>?_,λj k ys zs w hjk q1 q2 q3 q4=>?_⟩
 ·have:b≠p:=λz=>by rw [z,hJ] at q;cases q
  rw [bA this];exact sr.hp.sub b o q
 ·have:b≠p:=λz=>by rw [z,h0] at q;cases q
  rw [bA this];exact sr.hp.ent b o q
 ·rcases gn q with ⟨rfl,hl,rfl⟩ | ⟨hj,q⟩
  ·exact ⟨.ref p,hs,h⟩
  ·obtain ⟨w,k1,k2⟩:=sr.at_ j y q
   refine ⟨w,k1,?_⟩
   have hne:∀(z:Mn) p',y=mS z->w=.ref p'->p'≠p:=λz p' e ew ep=>sr.sep i j x z (.ref p) (Tt hj) hi (e▸q) hs (ep▸ew▸k1)
   cases y with
   | d x=>exact k2
   | bor zs=>exact k2
   | db _ _=>exact k2
   | fn _=>exact k2
   | dk ks zs=>
    obtain ⟨p',rfl,⟨us,ws,ep,m1,mr⟩,m2⟩:=k2
    exact ⟨p',rfl,⟨us,ws,ep,by rw [bA (hne (.inr (ks,zs)) p' rfl rfl)];exact m1,mr⟩,m2⟩
   | own zs=>
    obtain ⟨p',us,rfl,m1,m2,m3,m4⟩:=k2
    exact ⟨p',us,rfl,by rw [bA (hne (.inl zs) p' rfl rfl)];exact m1,m2,m3,m4⟩
 ·have f:∀(k:Nat) (ys:Mn),(env.set i (some (mS y)))[k]?=some (some (mS ys))->∃ys',env[k]?=some (some (mS ys')):=λk ys q=>by
   rcases gn q with ⟨rfl,_,_⟩ | ⟨_,q⟩
   ·exact ⟨x,hi⟩
   ·exact ⟨ys,q⟩
  obtain ⟨ys',r1⟩:=f j ys q1
  obtain ⟨zs',r2⟩:=f k zs q2
  exact sr.sep j k ys' zs' w hjk r1 r2 q3 q4
theorem SR.upd {J H:Hp}{σ:L2.St}{env:Ev}(sr:SR c J H σ env){i:Nat}{xs xs':List D}{p:Q4}{vs vs':List V}(hi:env[i]?=some (some (.own xs))) (hs:σ[i]?=some (some (.ref p))) (hH:H p=some (.lst vs)) (hJ:J p=none) (h0:c.H0 p=none)
  (h:aF c.K J xs' vs'):SR c J (L2.upd H p (.lst vs')) σ (env.set i (some (.own xs'))):=sr.updM (x:=.inl xs) (y:=.inl xs') hi hs hJ h0 ⟨p,vs',rfl,b_,hJ,h0,h⟩
noncomputable def j_ (i:Nat) (g:G R):G O:=λenv=>match env[i]? with
 | some (some (.own xs))=>g env >>= λr=>toD r >>= λd=>if xs.length < sizeLine then .ok (.nx (env.set i (some (.own (xs++[d]))))) else .bad
 | _=>.bad
noncomputable def fS:R->S
 | .d x=>.d x
 | .l _ xs=>.bor xs
 | .mo ks vs=>.db ks vs
 | .mb ks vs=>.db ks vs
 | .mf ks vs=>.db ks vs
noncomputable def i9 (K:QK) (J H:Hp):List S->List V->Prop
 | [],vs=>vs=[]
 | s::ss,vs=>∃v us,vs=v::us/\(match s with
  | .d x=>Rep K J x v
  | .bor xs=>∃a ws,v=.ref a/\cG K H a ws/\aF K J xs ws
  | .db ks ws=>∃a,v=.ref a/\dG K J H a ks ws
  | .fn x=>∃f,v=.ref f/\RK K Rt x=some (some (.ref f))
  | _=>False)/\i9 K J H ss us
theorem i9.length {K:QK}{J H:Hp}:∀{ss:List S}{vs:List V},i9 K J H ss vs->vs.length=ss.length
 | [],_,h=>by cases h;rfl
 | _::_,_,⟨_,_,h,_,h2⟩=>by subst h;exact congrArg (· + 1) h2.length
theorem i9.get {K:QK}{J H:Hp}:∀{ss:List S}{vs:List V}{i:Nat}{s:S},i9 K J H ss vs->ss[i]?=some s->∃v,vs[i]?=some v/\(match s with
  | .d x=>Rep K J x v
  | .bor xs=>∃a ws,v=.ref a/\cG K H a ws/\aF K J xs ws
  | .db ks ws=>∃a,v=.ref a/\dG K J H a ks ws
  | .fn x=>∃f,v=.ref f/\RK K Rt x=some (some (.ref f))
  | _=>False)
 | [],_,_,_,_,e=>by simp at e
 | _::_,_,0,_,⟨v,us,h,h1,h2⟩,e=>by simp at e;subst e;subst h;exact ⟨v,rfl,h1⟩
 | _::_,_,i + 1,s,⟨v,us,h,h1,h2⟩,e=>by
  subst h
  obtain ⟨v,k1,k2⟩:=i9.get (i:=i) (s:=s) h2 (by simpa using e)
  exact ⟨v,by simpa using k1,k2⟩
noncomputable def FR (K:QK) (H J' H':Hp):R->V->Prop
 | .d x,v=>Rep K J' x v
 | .l _ xs,v=>∃a vs,v=.ref a/\H' a=some (.lst vs)/\J' a=none/\H a=none/\aF K J' xs vs
 | .mf ks vs,v=>∃a,v=.ref a/\dG K J' H' a ks vs/\J' a=none/\H a=none
 | _,_=>False
noncomputable def pK (K:QK) (n:Nat) (F:List S->M R):Sp:=λvs H Q _=>∃J as,aT J H/\as.length=n/\i9 K J H as vs/\cD (F as) (λr=>∀v J' H',Ext J H J' H'->FR K H J' H' r v->Q v H') (λ_=>False)
noncomputable def fin:M O->M R
 | .ok (.rt r)=>.ok r
 | .ok (.nx _)=>.ok (.d .non)
 | .exc x=>.exc x
 | _=>.bad
noncomputable def aZ (N:List Str) (as:List S):Ev:=as.map some++R8 (N.length - as.length) none
theorem vH {N:List Str}{as:List S}{i:Nat}{x:S}(h:(aZ N as)[i]?=some (some x)):as[i]?=some x:=by
 unfold aZ at h
 by_cases hi:i < as.length
 ·rw [S6 (by simpa using hi),Rj] at h
  cases q:as[i]? with
  | none=>rw [q] at h;cases h
  | some y=>rw [q] at h;cases h;rfl
 ·rw [Sl (by simpa using hi),Vd] at h
  split at h <;> cases h
theorem Gy {N:List Str}{vs:List V}{i:Nat}{v:V}(h:vs[i]?=some v):(L2.start N vs)[i]?=some (some v):=by
 unfold L2.start
 have hi:i < vs.length:=(Rr.mp h).1
 rw [S6 (by simpa using hi),Rj,h]
 rfl
theorem yX {K:QK}{J H:Hp}{T:Exc->Prop}{N:List Str}{as:List S}{vs:List V}(hs:aT J H) (h:i9 K J H as vs):SR ⟨K,H,J,T⟩ J H (L2.start N vs) (aZ N as):=by
 have own:∀(i:Nat) (xs:Mn),(aZ N as)[i]?≠some (some (mS xs)):=λi xs q=>by
  obtain ⟨v,_,k⟩:=h.get (vH q)
  cases xs <;> exact k
 refine ⟨⟨hs,aT.refl H,aT.refl J,λ_ _ q=>q⟩,?_,λi x q=>?_,λi j xs ys v _ q=>absurd q (own i xs)⟩
 ·unfold aZ L2.start
  rw [Rm,Rm,QO,QO,S9,S9,h.length]
 ·obtain ⟨v,k1,k2⟩:=h.get (vH q)
  refine ⟨v,Gy k1,?_⟩
  cases x with
  | d y=>exact k2
  | own y=>exact k2.elim
  | bor y=>exact k2
  | dk _ _=>exact k2.elim
  | db _ _=>exact k2
  | fn _=>exact k2
noncomputable abbrev GR (P:Rb) (w:RD) (K:QK) (mg:Str->Option QM) (base:Sn) (N:List Str) (QF:Str) (sc:TF) (f:Q4) (cd:QM) (A:RG) (outer:List Env) (s:QN) (H:Hp) (E:XK):Cx:=(oJ n5 P w K mg base N QF sc f cd A outer s H E).nox
theorem Dk {P:Rb}{w:RD}{K:QK}{mg:Str->Option QM}{base:Sn}{x QF:Str}{st:T9}{f:Q4}{fd:Rq}{N ps:List Str}{k:Nat}{Fm:List S->M R}(F:cK K x QF st f fd) (Sc:bf N ps (ay st)){gB:G O}
  (hb:∀(cdv:QM) (A:RG) (outer:List Env) (s:QN) (H:Hp) (E:XK) (J:Hp) (T:Exc->Prop),cV k (A.deeper (WE QF (ay st) s.heap.objs.size f cdv))->
   GL (GR P w K mg base N QF (ay st) f cdv A outer s H E) ⟨K,H,J,T⟩ (aQ st) gB)
  (hF:∀as r,as.length=ps.length->Fm as=.ok r->fin (gB (aZ N as))=.ok r):fG P w K mg base n5 (k + 1) f fd ps (pK K ps.length Fm):=by
 refine F.ok Sc (λvs H Q E h=>?_) (λcdv A outer s H vs Q E hr h=>?_)
 ·obtain ⟨J,as,h1,h2,h3,h4⟩:=h
  rw [h3.length,h2]
 ·obtain ⟨J,as,h1,h2,h3,h4⟩:=h
  refine ⟨_,hb cdv A outer s H E J (λ_=>False) hr,J,aZ N as,yX h1 h3,?_⟩
  cases q:Fm as with
  | bad=>rw [q] at h4;exact h4.elim
  | exc x=>rw [q] at h4;exact h4.elim
  | ok r=>
   rw [q] at h4
   have z:=hF as r h2 q
   have ext:∀{J' H':Hp},HI ⟨K,H,J,λ_=>False⟩ J' H'->Ext J H J' H':=λhp=>⟨hp.ent,hp.entJ,hp.sub,hp.frz⟩
   cases qg:gB (aZ N as) with
   | bad=>rw [qg] at z;cases z
   | exc x=>rw [qg] at z;cases z
   | ok o=>
    rw [qg] at z
    cases o with
    | bk _=>cases z
    | ct _=>cases z
    | nx env=>cases z;exact λσ' J' H' _ sr=>h4 .non J' H' (ext sr.hp) .non
    | rt r'=>
     cases z
     exact λv J' H' _ hp rf=>h4 v J' H' (ext hp) (by
      cases r with
      | d x=>exact rf
      | l m xs=>exact rf
      | mo _ _=>exact rf
      | mf _ _=>exact rf
      | mb _ _=>exact rf)
noncomputable def j6:R->R
 | .d x=>.d x
 | .l _ xs=>.l .fresh xs
 | .mo ks vs=>.mo ks vs
 | .mb ks vs=>.mb ks vs
 | .mf ks vs=>.mf ks vs
noncomputable def aK (n:Nat) (F:List S->M R):List R->M R:=λrs=>if rs.length=n then (match F (rs.map fS) with
 | .ok r=>.ok (j6 r)
 | _=>.bad) else .bad
theorem jH.args {He J H:Hp}(hp:HI c J H):∀{rs:List R}{vs:List V},jH c He J H rs vs->i9 c.K J H (rs.map fS) vs
 | [],_,h=>h
 | r::rs,_,⟨v,us,h,h1,h2⟩=>by
  refine ⟨v,us,h,?_,jH.args hp h2⟩
  cases r with
  | d x=>exact h1
  | l m xs=>exact RR.list hp h1 rfl
  | mo _ _=>obtain ⟨a,h1,h2,_⟩:=h1;exact ⟨a,h1,h2⟩
  | mb _ _=>obtain ⟨a,h1,h2⟩:=h1;exact ⟨a,h1,h2.mono (aT.refl _) hp.ent⟩
  | mf _ _=>obtain ⟨a,h1,h2,_⟩:=h1;exact ⟨a,h1,h2⟩
theorem G9 {n:Nat}{F:List S->M R}{J H J1 H1:Hp}{Q:VK}{as:List S}{vs:List V}{T:Exc->Prop}(hT:c.K=X.K) (e1:Ext J H J1 H1) (ar:i9 c.K J1 H1 as vs) (hl:as.length=n)
  (wr:cD (match F as with
   | .ok r=>.ok (j6 r)
   | _=>.bad) (λr=>∀v J' H',Ext J H J' H'->RR c H J' H' r v->Q v H') T):pK X.K n F (vs++[]) H1 Q E0:=by
 rw [hT] at ar
 refine ⟨J1,as,e1.sub,hl,by rw [S8];exact ar,?_⟩
 cases q:F as with
 | bad=>rw [q] at wr;exact wr
 | exc x=>rw [q] at wr;exact wr
 | ok r=>
  rw [q] at wr
  intro v J' H' e2 fr
  refine wr v J' H' (e1.trans e2) ?_
  cases r with
  | d y=>exact (show Rep c.K J' y v from hT▸fr)
  | mo _ _=>exact fr.elim
  | mb _ _=>exact fr.elim
  | mf _ _=>obtain ⟨a,h1,h2,h3,h4⟩:=fr;exact ⟨a,h1,hT▸h2,h3,e1.h.free h4⟩
  | l m ys=>
   obtain ⟨a,us,h1,h2,h3,h4,h5⟩:=fr
   exact ⟨a,us,h1,h2,h3,e1.h.free h4,hT▸h5⟩
theorem xC {n:Nat}{F:List S->M R}{gs:G (List R)}(hT:c.K=X.K):∀σ H Q,tD c (gN (aK n F) gs) σ H Q->Hf (pK X.K n F) [] E0 (tA c gs) σ H Q:=λσ H Q ⟨J,env,sr,w⟩=>by
 refine ⟨J,env,sr,aB (aH w) λrs wr vs J1 H1 e1 r1=>?_⟩
 unfold aK at wr
 split at wr
 ·rename_i hl
  exact G9 hT e1 (r1.args (sr.hp.ext e1)) (by simpa using hl) wr
 ·exact wr.elim
theorem IA {k n:Nat}{f:Q4}{fd:Rq}{ps:List Str}{F:List S->M R}{x:Str}{p:Pos}{gs:G (List R)}(G:fG X.prog X.w X.K X.mg X.base n5 k f fd ps (pK X.K n F)) (hr:cV k X.A) (hm:X.mg x=some (.ref f)) (hk:R7 X.K (.ref f)=true)
  (hb:Binds X.K fd ps []) (ha:zV X c (e::es) gs) (hT:c.K=X.K:=by rfl) (hg:Gl X x:=by rfl) (hdb:(x == ("__debug__":Str))=false:=by decide) (he:QZ (e::es) X.env=(false,eval e X.env)::QZ es X.env:=by rfl)
  (hpl:(SV pos (QZ es X.env)).any (·.1)=false:=by rfl):PD X c (.Call (.Name x p) (e::es) [] pos) (gN (aK n F) gs):=
 eV (p_ (E:=E0) G hr hg hm hk hb .nil BR ha hdb he hpl) (xC hT)
end
noncomputable def bE (cells:List (Str×Q4)):List (Str×S5)->List (Str×Q4)->Option (List (Str×Q4))
 | [],cs=>some cs
 | (n,k)::r,cs=>if k == .free then (match cells.lookup n with
  | some a=>bE cells r ((n,a)::cs)
  | none=>none) else bE cells r cs
theorem lK {env:Env}:∀(names:List (Str×S5)) (cs cl:List (Str×Q4)),bE env.cells names cs=some cl->
  (forIn names cs λ(x:Str×S5) (r:List (Str×Q4))=>(if (x.2 == .free)=true then do let a <-cellOf env x.1;pure (Tv ((x.1,a)::r)) else pure (Tv r):Sem (ForInStep (List (Str×Q4)))))=(pure cl:Sem (List (Str×Q4)))
 | [],cs,cl,h=>by cases h;rfl
 | (n,k)::r,cs,cl,h=>by
  unfold bE at h
  rw [List.forIn_cons]
  cases hk:(k == Sb) with
  | true=>
   rw [hk,if_pos rfl] at h
   cases hc:env.cells.lookup n with
   | none=>rw [hc] at h;cases h
   | some a=>
    rw [hc] at h
    have e:cellOf env n=pure a:=by unfold cellOf;rw [hc]
    simp only [hk,if_true,e]
    exact lK r ((n,a)::cs) cl h
  | false=>
   rw [hk,if_neg (by decide)] at h
   simp only [hk]
   exact lK r cs cl h
theorem vZ {Qy:TF}{env:Env}{cl:List (Str×Q4)}(h:bE env.cells Qy.names []=some cl):closureFor Qy env=pure cl:=by
 have q:=lK (env:=env) Qy.names [] cl h
 unfold closureFor
 show ((forIn Qy.names [] λ(x:Str×S5) (r:List (Str×Q4))=>(if (x.2 == .free)=true then do let a <-cellOf env x.1;pure (Tv ((x.1,a)::r)) else pure (Tv r):Sem (ForInStep (List (Str×Q4))))) >>= λz=>pure z)=pure cl
 rw [q]
 rfl
theorem gA {cells:List (Str×Q4)}:∀(names:List (Str×S5)) (cs cl:List (Str×Q4)),bE cells names cs=some cl->(∀x c,cs.lookup x=some c->cells.lookup x=some c)->
  (∀x c,cl.lookup x=some c->cells.lookup x=some c)/\(∀x,((cs.lookup x).isSome=true\/(x,Sb)∈names)->(cl.lookup x).isSome=true)
 | [],cs,cl,h,k=>by
  cases h
  exact ⟨k,λx hx=>hx.elim id λz=>by cases z⟩
 | (n,kd)::r,cs,cl,h,k=>by
  unfold bE at h
  cases hk:(kd == Sb) with
  | true=>
   rw [hk,if_pos rfl] at h
   cases hc:cells.lookup n with
   | none=>rw [hc] at h;cases h
   | some a=>
    rw [hc] at h
    obtain ⟨h1,h2⟩:=gA r ((n,a)::cs) cl h (λx c q=>by
     rw [Sv] at q
     cases e:x == n with
     | true=>
      rw [e] at q
      cases q
      have:x=n:=by simpa using e
      rw [this];exact hc
     | false=>rw [e] at q;exact k x c q)
    refine ⟨h1,λx hx=>h2 x ?_⟩
    by_cases e:x=n
    ·left;subst e;rw [Sv];simp
    ·have e':(x == n)=false:=by simpa using e
     rcases hx with hx | hx
     ·left;rw [Sv,e'];exact hx
     ·right
      rcases Rc.mp hx with z | z
      ·cases z;exact absurd rfl e
      ·exact z
  | false=>
   rw [hk,if_neg (by decide)] at h
   obtain ⟨h1,h2⟩:=gA r cs cl h k
   refine ⟨h1,λx hx=>h2 x ?_⟩
   rcases hx with hx | hx
   ·exact .inl hx
   ·rcases Rc.mp hx with z | z
    ·cases z;simp at hk
    ·exact .inr z
section
variable {X:Cx}
noncomputable def cN (X:Cx) (own:List Str) (cap:List Nat):List Str:=own++cap.map λ(j:Nat)=>(X.N[j]?).getD ("":Str)
noncomputable def JX (X:Cx) (own:List Str) (cap:List Nat) (Qy:TF) (cl:List (Str×Q4)) (C:Q4) (s:QN) (H:Hp) (fp:List Q4):Cx where
 prog:=X.prog
 w:=X.w
 K:=X.K
 mg:=X.mg
 base:=X.base
 A:=X.A
 N:=cN X own cap
 s₀:=s
 H₀:=H
 env:=compEnvC Qy cl C X.env
 outer:=X.stack
 stack:=X.stack
 ex:=fp
 fn:=λ_=>false
 calm:=X.calm
 pn:=[]
 xe:=λ_ _=>False
noncomputable def dB (X:Cx) (cap:List Nat):Bool:=cap.all λj=>match X.N[j]? with
 | some x=>(match X.env.scope.names.lookup x with
  | some .cell=>true
  | some .free=>true
  | _=>false)
 | none=>false
theorem yG {Qy:TF}{env:Env}(hc:∀y∈Qy.names,y.2≠.cell):∀{x:Str},((relabel Qy env).names.lookup x=some .cell\/(relabel Qy env).names.lookup x=some .free)->(x,Sb)∈Qy.names:=by
 unfold relabel
 have main:∀(names:List (Str×S5)),(∀y∈names,y.2≠.cell)->∀x,((names.map λ(n,k)=>if (k == Sb && env.scope.kind == .function && env.kindOf n == some .cell) then (n,Vi) else (n,k)).lookup x=some .cell\/
   (names.map λ(n,k)=>if (k == Sb && env.scope.kind == .function && env.kindOf n == some .cell) then (n,Vi) else (n,k)).lookup x=some .free)->(x,Sb)∈names:=by
  intro names
  induction names with
  | nil=>intro _ x h;simp at h
  | cons p r ih=>
   obtain ⟨n,k⟩:=p
   intro hc x h
   rw [Ra] at h
   simp only at h
   by_cases hx:x=n
   ·subst hx
    have hk:k≠.cell:=hc (x,k) QW
    have:k=.free:=by
     by_cases q:(k == Sb && env.scope.kind == .function && env.kindOf x == some .cell)=true
     ·rw [QX,QX] at q
      simpa using q.1.1
     ·rw [if_neg q,Sv] at h
      simp at h
      rcases h with h | h
      ·exact absurd h hk
      ·exact h
    subst this
    exact QW
   ·have hx':(x == n)=false:=by simpa using hx
    refine QS _ (ih (λy hy=>hc y (QS _ hy)) x ?_)
    have red:∀(q:Str×S5) (l:List (Str×S5)),q.1=n->abq x (q::l)=abq x l:=λq l hq=>by
     obtain ⟨q1,q2⟩:=q
     simp only at hq
     subst hq
     rw [Sv,hx']
    have hq:(if (k == Sb && env.scope.kind == .function && env.kindOf n == some .cell) then (n,Vi) else (n,k)).1=n:=by split <;> rfl
    rw [red _ _ hq] at h
    exact h
 intro x h
 exact main Qy.names hc x h
end
section
variable {X:Cx}{c:C}
noncomputable def gw (X:Cx) (c:C) (ifs:List Rz) (g:G Bool):Prop:=
 ∀(Qz:List (Q4×Obj)) (s:QN) (σ:L2.St) (H:Hp) (Q:Bool->Hp->Prop),Inv X Qz σ H s->tB c g σ H Q->
  Rg (Rk X.prog X.w) X.A (forIn ifs true λc r=>if r=true then do let ok <-X_ c X.env (eval c X.env);pure (Tv ok) else pure (Tv r)) (TP X Qz σ Q) X.xe s
noncomputable def cF:G Bool:=λ_=>.ok true
noncomputable def cQ (gt:GT) (gts:G Bool) (ge:G R):List D->Ev->M (List D)
 | [],_=>.ok []
 | d::ds,env=>gt d env >>= λe=>gts e >>= λk=>if k=true then ge e >>= λr=>toD r >>= λy=>cQ gt gts ge ds e >>= λys=>.ok (y::ys) else cQ gt gts ge ds e
noncomputable def cE (n:Nat) (cap:List Nat) (env:Ev):Ev:=R8 n none++cap.map λ(j:Nat)=>(env[j]?).getD none
noncomputable def bM (n:Nat) (cap:List Nat) (gi:G (List D)) (gt:GT) (gts:G Bool) (ge:G R):G R:=λenv=>gi env >>= λds=>if ds.length<=sizeLine then cQ gt gts ge ds (cE n cap env) >>= λys=>.ok (.l .fresh ys) else .bad
theorem jK {α:Type}{n:Nat}{cap:List Nat}{env:List (Option α)}{i:Nat}{x:α}(h:(R8 n none++cap.map λ(j:Nat)=>(env[j]?).getD none)[i]?=some (some x)):∃j,n<=i/\cap[i - n]?=some j/\env[j]?=some (some x):=by
 by_cases hi:i < n
 ·rw [S6 (by simpa using hi),Vd] at h
  split at h <;> cases h
 ·rw [Sl (by simpa using hi),S9,Rj] at h
  cases q:cap[i - n]? with
  | none=>rw [q] at h;cases h
  | some j=>
   rw [q] at h
   refine ⟨j,by omega,rfl,?_⟩
   have h':(env[j]?).getD none=some x:=R4 h
   cases z:env[j]? with
   | none=>rw [z] at h';cases h'
   | some o=>rw [z] at h';exact congrArg some h'
theorem Mg {α:Type}{n:Nat}{cap:List Nat}{env:List (Option α)}{i j:Nat}{x:α}(h1:n<=i) (h2:cap[i - n]?=some j) (h3:env[j]?=some (some x)):(R8 n none++cap.map λ(j:Nat)=>(env[j]?).getD none)[i]?=some (some x):=by
 rw [Sl (by simpa using h1),S9,Rj,h2]
 simp [h3]
theorem SR.cap {J H:Hp}{σ:L2.St}{env:Ev}(sr:SR c J H σ env) (n:Nat) (cap:List Nat) (hnd:cap.Nodup):SR c J H (R8 n none++cap.map λ(j:Nat)=>(σ[j]?).getD none) (cE n cap env):=by
 refine ⟨sr.hp,by simp [cE],λi x q=>?_,λi j xs ys v hij q1 q2 q3 q4=>?_⟩
 ·obtain ⟨j,h1,h2,h3⟩:=jK q
  obtain ⟨v,k1,k2⟩:=sr.at_ j x h3
  exact ⟨v,Mg h1 h2 k1,k2⟩
 ·obtain ⟨a,h1,h2,h3⟩:=jK q1
  obtain ⟨b,h4,h5,h6⟩:=jK q2
  obtain ⟨a',h7,h8,h9⟩:=jK q3
  obtain ⟨b',Qv,h11,h12⟩:=jK q4
  rw [h2] at h8;cases h8
  rw [h5] at h11;cases h11
  have hab:a≠b:=λz=>by
   subst z
   have e1:=(Rr.mp h2)
   have e2:=(Rr.mp h5)
   have:=(W_ hnd).mp (e1.2.trans e2.2.symm)
   omega
  exact sr.sep a b xs ys v hab h3 h6 h9 h12
theorem SR.other {J H:Hp}{σ:L2.St}{env:Ev}(sr:SR c J H σ env){p:Q4}{o:HO}(hJ:J p=none) (h0:c.H0 p=none) (hn:∀(j:Nat) (xs:Mn),env[j]?=some (some (mS xs))->σ[j]?≠some (some (.ref p))):SR c J (L2.upd H p o) σ env:=by
 refine ⟨⟨λb u q=>?_,λb u q=>?_,sr.hp.entJ,sr.hp.frz⟩,sr.len,λj y q=>?_,sr.sep⟩
 ·have:b≠p:=λz=>by rw [z,hJ] at q;cases q
  rw [bA this];exact sr.hp.sub b u q
 ·have:b≠p:=λz=>by rw [z,h0] at q;cases q
  rw [bA this];exact sr.hp.ent b u q
 ·obtain ⟨w,k1,k2⟩:=sr.at_ j y q
  refine ⟨w,k1,?_⟩
  cases y with
  | d x=>exact k2
  | bor zs=>exact k2
  | db _ _=>exact k2
  | fn _=>exact k2
  | dk ks zs=>
   obtain ⟨p',rfl,⟨us,ws,ep,m1,mr⟩,m2⟩:=k2
   have hne:p'≠p:=λz=>hn j (.inr (ks,zs)) q (z▸k1)
   exact ⟨p',rfl,⟨us,ws,ep,by rw [bA hne];exact m1,mr⟩,m2⟩
  | own zs=>
   obtain ⟨p',us,rfl,m1,m2,m3,m4⟩:=k2
   have hne:p'≠p:=λz=>hn j (.inl zs) q (z▸k1)
   exact ⟨p',us,rfl,by rw [bA hne];exact m1,m2,m3,m4⟩
theorem Ext.other {J H J' H':Hp}(e:Ext J H J' H'){p:Q4}{o:HO}(h:H p=none) (hJ:J' p=none):Ext J H J' (L2.upd H' p o):=
 ⟨λb u q=>by rw [bA (fz q h)];exact e.h b u q,e.j,λb u q=>by
  have:b≠p:=λz=>by rw [z,hJ] at q;cases q
  rw [bA this];exact e.sub b u q,e.frz⟩
theorem zK {P:Rb}{w:RD}{H:Hp}{h h':Sn}{a:Q4}(x:fU P w H h) (hn:H a=none) (sb:R_ a h h'):fU P w H h':=λb u e=>by
 refine (x b u e).stay (λd v hd q=>(sb.2 d ?_).trans q) (λ_ q=>q) λ_ _ q=>q
 rintro rfl
 rcases hd with rfl | hd
 ·rw [hn] at e;cases e
 ·rw [hn] at hd;cases hd
theorem N1 {Qz:List (Q4×Obj)}{σ:L2.St}{H:Hp}{s:QN}{own:List Str}{cap:List Nat}{Qy:TF}{cl:List (Str×Q4)}{fp:List Q4}{h1:Sn}{m:Str->Option QM}{tk:Nat}(I:Inv X Qz σ H s) (ok:(JX X own cap Qy cl s.heap.objs.size s H fp).Ok)
  (hcl:bE X.env.cells Qy.names []=some cl) (hcell:∀y∈Qy.names,y.2≠.cell) (hcap:dB X cap=true) (OF:∀j∈cap,∀x,X.N[j]?=some x->(relabel Qy X.env).names.lookup x≠some .local)
  (hns:h1.Ns s.heap.objs.size m) (old:∀b o,s.heap.get? b=some o->h1.get? b=some o):
  Inv (JX X own cap Qy cl s.heap.objs.size s H fp) [] (R8 own.length none++cap.map λ(j:Nat)=>(σ[j]?).getD none) H {s with heap:=h1,toks:=tk}:=by
 obtain ⟨m1,m2⟩:=gA Qy.names [] cl hcl (λx c h=>by simp at h)
 refine ⟨ok,rfl,I.bare,Un.kept old,⟨m,hns,λi x v q1 q2 q3=>?_⟩,λx d h=>?_,I.hok.fresh (QY _),λx d h=>I.freeC x d (m1 x d h),λp hp=>absurd (show p∈([]:List (Q4×Obj)) from hp) (by simp),I.hok.kept old,?_⟩
 ·obtain ⟨j,h2,h3,h4⟩:=jK q2
  have q1':(own++cap.map λ(j:Nat)=>(X.N[j]?).getD ("":Str))[i]?=some x:=q1
  rw [Sl (by exact h2),Rj,h3] at q1'
  have hj:j∈cap:=Sm h3
  have hc:(match X.N[j]? with
   | some x=>(match X.env.scope.names.lookup x with
    | some .cell=>true
    | some .free=>true
    | _=>false)
   | none=>false)=true:=by
   unfold dB at hcap
   exact RJ.mp hcap j hj
  cases hx:X.N[j]? with
  | none=>rw [hx] at hc;cases hc
  | some y=>
   rw [ZI,hx] at q1'
   rw [hx] at hc
   have e:y=x:=by simpa using q1'
   subst e
   have kd:X.env.kindOf y=some .cell\/X.env.kindOf y=some .free:=by
    unfold abI
    simp only at hc
    split at hc
    ·rename_i z;exact .inl z
    ·rename_i z;exact .inr z
    ·cases hc
   obtain ⟨mX,nX,lX⟩:=I.loc
   obtain ⟨u,ru,lu⟩:=lX j y v hx h4 (kd.elim (λz=>.inr (.inl z)) λz=>.inr (.inr z))
   refine ⟨u,ru,.inr ?_⟩
   have kd':(relabel Qy X.env).names.lookup y=some .cell\/(relabel Qy X.env).names.lookup y=some .free:=by
    rcases q3 with z | z | z
    ·exact absurd z (OF j hj y hx)
    ·exact .inl z
    ·exact .inr z
   refine ⟨kd',?_⟩
   obtain ⟨d,hd⟩:=Sd.mp (m2 y (.inr (yG hcell kd')))
   refine ⟨d,hd,?_⟩
   rcases lu with ⟨z,_⟩ | ⟨_,d',hd',z⟩
   ·rcases kd with k | k <;> (rw [k] at z;cases z)
   ·have:=m1 y d hd
    rw [hd'] at this
    cases this
    obtain ⟨o,ho,hod⟩:=z
    exact ⟨o,old _ _ ho,hod⟩
 ·obtain ⟨v,o,ho,hod⟩:=I.cell x d (m1 x d h)
  exact ⟨v,o,old _ _ ho,hod⟩
 ·show _=(own++cap.map λ(j:Nat)=>(X.N[j]?).getD ("":Str)).length
  simp
noncomputable def dH (X:Cx) (cap:List Nat) (Qy:TF):Bool:=cap.all λj=>match X.N[j]? with
 | some x=>!((relabel Qy X.env).names.lookup x == some .local)
 | none=>true
noncomputable def fQ:List Nat->Bool
 | []=>true
 | x::r=>!(r.contains x) && fQ r
theorem Az:∀{l:List Nat},fQ l=true->l.Nodup
 | [],_=>T6
 | x::r,h=>by
  unfold fQ at h
  rw [QX] at h
  refine SM.mpr ⟨λz=>?_,Az h.2⟩
  have:=h.1
  simp [z] at this
theorem JP {X:Cx}{Qz:List (Q4×Obj)}{σ:L2.St}{H:Hp}{s:QN}(I:L2.Inv X Qz σ H s){T:Q4}(h:s.heap.objs.size<=T):(T∈X.ex\/X.s₀.heap.objs.size<=T)/\T≠X.env.locals/\(∀x c,X.env.cells.lookup x=some c->c≠T)/\∀p∈X.pn++Qz,p.1≠T:=by
 have ne:∀b,b < s.heap.objs.size->b≠T:=λb hb z=>absurd (Rl (z▸hb) h) (SJ _)
 refine ⟨.inr (RE I.sz h),(ne _ I.lt).symm,λx c hc=>?_,λp hp=>ne _ (Q8 (I.pin p hp).1)⟩
 obtain ⟨v,o,hv,_⟩:=I.cell x c hc
 exact ne _ (Q8 hv)
theorem o5 {X:Cx}{Qz:List (Q4×Obj)}{σ:L2.St}{H:Hp}{s:QN}{C:Q4}{h':Sn}{o0:Obj}(I:L2.Inv X Qz σ H s) (ap:(C∈X.ex\/X.s₀.heap.objs.size<=C)/\C≠X.env.locals/\(∀x c,X.env.cells.lookup x=some c->c≠C)/\∀p∈X.pn++Qz,p.1≠C) (hf:H C=none) (sb:R_ C s.heap h'):L2.Inv X Qz σ H {s with heap:=h'}:=by
 refine I.call' (ch:=[C]) rfl ⟨λb o hb hn _ hx=>?_,λb o hb hn _ hx=>⟨o.slots,?_⟩,λ_ _ _ n _=>n,λb o hb hx=>⟨o,?_⟩,λ_ _ q=>q,λ_ _ _ q=>q,λ_ ps q=>⟨#[],by rw [q];simp⟩⟩ (λa o ha=>?_) I.bare (λb hb=>by rw [Q9.mp hb];exact ap)
 ·exact (sb.2 b λz=>hx (by simp [z])).trans hb
 ·exact (sb.2 b λz=>hx (by simp [z])).trans hb
 ·exact (sb.2 b λz=>hx (by simp [z])).trans hb
 ·refine (I.hok a o ha).stay (λb u hb q=>(sb.2 b λz=>?_).trans q) (λ_ q=>q) λ_ _ q=>q
  rcases hb with rfl | hb
  ·rw [z,hf] at ha;cases ha
  ·rw [z,hf] at hb;cases hb
end
mutual
noncomputable def bu:D->D->Bool
 | .non,.non=>true
 | .bl p,.bl q=>p == q
 | .bl p,.int q=>(if p then 1 else 0) == q
 | .int p,.bl q=>p == (if q then 1 else 0)
 | .int p,.int q=>p == q
 | .str p,.str q=>p == q
 | .tup p,.tup q=>cu p q
 | .lst p,.lst q=>cu p q
 | .emp,.emp=>true
 | .exn _ _ _,.exn _ _ _=>true
 | .dct _ _,.dct _ _=>true
 | _,_=>false
noncomputable def cu:List D->List D->Bool
 | [],[]=>true
 | x::xs,y::ys=>bu x y && cu xs ys
 | _,_=>false
end
mutual
theorem gD:∀d:D,bu d d=true
 | .non=>by simp [bu]
 | .bl _=>by simp [bu]
 | .int _=>by simp [bu]
 | .str _=>by simp [bu]
 | .tup xs=>by simp only [bu];exact oK xs
 | .lst xs=>by simp only [bu];exact oK xs
 | .emp=>by simp [bu]
 | .exn _ _ _=>by simp [bu]
 | .dct _ _=>by simp [bu]
theorem oK:∀ds:List D,cu ds ds=true
 | []=>by simp [cu]
 | x::xs=>by simp only [cu,gD x,oK xs,aaG]
end
theorem nB:∀{xs ys:List D},xs.length≠ys.length->cu xs ys=false
 | [],[],h=>absurd rfl h
 | [],_::_,_=>by simp [cu]
 | _::_,[],_=>by simp [cu]
 | x::xs,y::ys,h=>by
  simp only [cu,nB (xs:=xs) (ys:=ys) (λz=>h (congrArg (· + 1) z)),Uw]
noncomputable def nK (xs ys:List D) (j:Nat):Bool:=match xs[j]?,ys[j]? with
 | some x,some y=>bu x y
 | _,_=>false
theorem nC:∀{xs ys:List D},xs.length=ys.length->(QU xs.length).all (nK xs ys)=cu xs ys
 | [],[],_=>by simp [cu]
 | x::xs,y::ys,h=>by
  have ih:=nC (xs:=xs) (ys:=ys) (by simpa using h)
  rw [Sh,Vu,UI,Xz]
  simp only [cu]
  rw [<-ih]
  rfl
theorem xQ (xs ys:List D):((QU (min xs.length ys.length)).all (nK xs ys) && xs.length == ys.length)=cu xs ys:=by
 by_cases h:xs.length=ys.length
 ·rw [<-h,Nat.min_self,nC h];simp
 ·rw [nB h,beq_eq_false_iff_ne.mpr h,Uw]
section
structure HF (K:QK) (J:Hp) (s:QN):Prop where
 t:∀a xs,cX K J a xs->∃QA:List QM,Vals xs QA/\s.heap.IsTuple a QA.toArray
 l:∀a xs,cG K J a xs->∃QA:List QM,Vals xs QA/\s.heap.IsList a QA.toArray
 e:∀a,J a=some (.dK [])->∃o,s.heap.get? a=some o/\o.cls=.type "dict"
 d:∀a ep QH,J a=some (j5 a ep QH)->∃o es,s.heap.get? a=some o/\o.ExactDict/\o.data=.dict es ep/\WB wW QH es.toList
variable {K:QK}{J:Hp}{s:QN}
theorem HF.of {X:Cx}{c:C}{Qz:List (Q4×Obj)}{σ:L2.St}{H:Hp}(I:Inv X Qz σ H s) (hs:aT J H):HF X.K J s:=
 ⟨λa xs h=>let ⟨QA,r,p,_⟩:=I.tuple (fB hs h);⟨QA,r,p⟩,λa xs h=>let ⟨QA,r,p,_⟩:=I.list (hs.seq h);⟨QA,r,p.isList⟩,λa h=>by
  obtain ⟨_,_,vs,_,p⟩:=(show cg X.prog X.w H s.heap a (.dK []) from I.hok a _ (hs _ _ h))
  obtain ⟨o,es,ep,h1,h2,_⟩:=p
  exact ⟨o,h1,h2.1⟩,λa ep QH h=>(show cg X.prog X.w H s.heap a (j5 a ep QH) from I.hok a _ (hs _ _ h)).1⟩
theorem Dz {a:Q4}{xs ys:List QM}(h:s.heap.IsTuple a xs.toArray) (h':s.heap.IsTuple a ys.toArray):xs=ys:=by
 obtain ⟨o,ho,_,n,hd⟩:=h
 obtain ⟨o',ho',_,n',hd'⟩:=h'
 rw [ho] at ho';cases ho'
 rw [hd] at hd'
 injection hd' with h1 _
 simpa using congrArg Xs h1
theorem BB {a:Q4}{xs ys:List QM}(h:s.heap.IsList a xs.toArray) (h':s.heap.IsList a ys.toArray):xs=ys:=by
 obtain ⟨o,ho,_,n,hd⟩:=h
 obtain ⟨o',ho',_,n',hd'⟩:=h'
 rw [ho] at ho';cases ho'
 rw [hd] at hd'
 injection hd' with h1 _
 simpa using congrArg Xs h1
mutual
theorem Rep.inj (F:HF K J s):∀{d e:D}{v:V},Rep K J d v->Rep K J e v->dep d<=1000->dep e<=1000->d=e
 | _,_,_,.emp _,_,h,_=>by unfold dep at h;omega
 | _,_,_,.exn _ _ _ _ _,_,h,_=>by unfold dep at h;omega
 | _,_,_,.dct _ _ _ _ _,_,h,_=>by unfold dep at h;omega
 | _,_,_,.non,.non,_,_=>rfl
 | _,_,_,.bl _,.bl _,_,_=>rfl
 | _,_,_,.int _,.int _,_,_=>rfl
 | _,_,_,.str _,.str _,_,_=>rfl
 | _,_,_,.tup _ _,.emp _,_,h=>by unfold dep at h;omega
 | _,_,_,.lst _ _,.emp _,_,h=>by unfold dep at h;omega
 | _,_,_,.tup _ _,.exn _ _ _ _ _,_,h=>by unfold dep at h;omega
 | _,_,_,.tup _ _,.dct _ _ _ _ _,_,h=>by unfold dep at h;omega
 | _,_,_,.lst _ _,.exn _ _ _ _ _,_,h=>by unfold dep at h;omega
 | _,_,_,.lst _ _,.dct _ _ _ _ _,_,h=>by unfold dep at h;omega
 | _,_,_,.tup h hs,.tup h' hs',k,k'=>by
  obtain ⟨QA,r,p⟩:=F.t _ _ h
  obtain ⟨its',r',p'⟩:=F.t _ _ h'
  have:=Dz p p'
  subst this
  have:=r.inj r'
  subst this
  rw [aF.inj F hs hs' (by unfold dep at k;omega) (by unfold dep at k';omega)]
 | _,_,_,.lst h hs,.lst h' hs',k,k'=>by
  obtain ⟨QA,r,p⟩:=F.l _ _ h
  obtain ⟨its',r',p'⟩:=F.l _ _ h'
  have:=BB p p'
  subst this
  have:=r.inj r'
  subst this
  rw [aF.inj F hs hs' (by unfold dep at k;omega) (by unfold dep at k';omega)]
 | _,_,_,.tup h _,.lst h' _,_,_=>by
  obtain ⟨QA,r,p⟩:=F.t _ _ h
  obtain ⟨its',r',p'⟩:=F.l _ _ h'
  exact absurd rfl (Xi p' p)
 | _,_,_,.lst h _,.tup h' _,_,_=>by
  obtain ⟨QA,r,p⟩:=F.l _ _ h
  obtain ⟨its',r',p'⟩:=F.t _ _ h'
  exact absurd rfl (Xi p p')
theorem aF.inj (F:HF K J s):∀{ds es:List D}{vs:List V},aF K J ds vs->aF K J es vs->deps ds<=1000->deps es<=1000->ds=es
 | _,_,_,.nil,.nil,_,_=>rfl
 | _,_,_,.cons h hs,.cons h' hs',k,k'=>by rw [Rep.inj F h h' (by unfold deps at k;omega) (by unfold deps at k';omega),aF.inj F hs hs' (by unfold deps at k;omega) (by unfold deps at k';omega)]
end
theorem i6 {A:RG}{a:Q4}{QA:Array QM}{v:V}{u:QM}(h:s.heap.IsTuple a QA) (r:RelV v u) (f:su v=true) (hu:A.units < Sy):Td A s (.ref a) u false/\Td A s u (.ref a) false:=by
 cases v with
 | non=>cases r;exact ⟨.tuple_none h hu,.none_tuple h hu⟩
 | bl b=>cases r;exact ⟨.tuple_bool b h hu,.bool_tuple b h hu⟩
 | int i=>obtain ⟨t,rfl⟩:=r;exact ⟨.tuple_int i t h hu,.int_tuple i t h hu⟩
 | str x=>obtain ⟨t,rfl⟩:=r;exact ⟨.tuple_str x t h hu,.str_tuple x t h hu⟩
 | _=>exact absurd (show false=true from f) RB
theorem jx {A:RG}{a:Q4}{QA:Array QM}{v:V}{u:QM}(h:s.heap.IsList a QA) (r:RelV v u) (f:su v=true) (hu:A.units < Sy):Td A s (.ref a) u false/\Td A s u (.ref a) false:=by
 cases v with
 | non=>cases r;exact ⟨.list_none h hu,.none_list h hu⟩
 | bl b=>cases r;exact ⟨.list_bool b h hu,.bool_list b h hu⟩
 | int i=>obtain ⟨t,rfl⟩:=r;exact ⟨.list_int i t h hu,.int_list i t h hu⟩
 | str x=>obtain ⟨t,rfl⟩:=r;exact ⟨.list_str x t h hu,.str_list x t h hu⟩
 | _=>exact absurd (show false=true from f) RB
noncomputable def oX:D->Bool
 | .tup _=>false
 | .lst _=>false
 | .emp=>false
 | .exn _ _ _=>false
 | .dct _ _=>false
 | _=>true
theorem Rep.flat {d:D}{v:V}(h:Rep K J d v) (f:oX d=true):su v=true:=by
 cases h <;> first | rfl | cases f
theorem EX {d e:D}{v w:V}(h:Rep K J d v) (h':Rep K J e w) (f:oX d=true) (f':oX e=true):J_ v w=bu d e:=by
 cases h <;> cases h' <;> first | rfl | cases f | cases f' | simp [J_,bu]
theorem in1_units (A:RG):A.in1.units=A.units + 1:=rfl
theorem sq (F:HF K J s){d e:D}{v w:V}{u u':QM}(A:RG) (hd:Rep K J d v) (he:Rep K J e w) (rv:RelV v u) (rw':RelV w u') (f:oX d=true) (hu:A.units < Sy) (hu':dep e<=1000):Td A s u u' (bu d e):=by
 cases q:oX e with
 | true=>rw [<-EX hd he f q];exact J6 rv rw' (hd.flat f) (he.flat q)
 | false=>
  cases he with
  | tup h' hs'=>
   cases rw'
   obtain ⟨its',r',p'⟩:=F.t _ _ h'
   have:=(i6 p' rv (hd.flat f) hu).2
   cases hd <;> first | exact this | cases f
  | lst h' hs'=>
   cases rw'
   obtain ⟨its',r',p'⟩:=F.l _ _ h'
   have:=(jx p' rv (hd.flat f) hu).2
   cases hd <;> first | exact this | cases f
  | emp _=>unfold dep at hu';omega
  | exn _ _ _ _ _=>unfold dep at hu';omega
  | dct _ _ _ _ _=>unfold dep at hu';omega
  | _=>cases q
mutual
theorem mD (F:HF K J s):∀{d e:D}{v w:V}{u u':QM}(A:RG),Rep K J d v->Rep K J e w->RelV v u->RelV w u'->A.units + dep d < Sy->dep d<=1000->dep e<=1000->Td A s u u' (bu d e)
 | .tup ds,e,_,w,u,u',A,.tup h hs,he,rv,rw',hu,hd1,hu'=>by
  cases rv
  obtain ⟨QA,r,p⟩:=F.t _ _ h
  have Oz:A.units < Sy:=by unfold dep at hu;omega
  cases he with
  | tup h' hs'=>
   cases rw'
   obtain ⟨its',r',p'⟩:=F.t _ _ h'
   rename_i a vs b ws es
   by_cases q:a=b
   ·subst q
    have:=Rep.inj F (.tup h hs) (.tup h' hs') hd1 hu'
    rw [<-this,gD]
    exact Xx _
   ·have l1:QA.length=ds.length:=by rw [<-r.length,hs.length]
    have l2:its'.length=es.length:=by rw [<-r'.length,hs'.length]
    simp only [bu]
    rw [<-xQ,<-l1,<-l2]
    refine YG q ?_
    have:=Y3 (e:=nK ds es) p p' Oz λj j1 j2=>by
     have k1:j < ds.length:=by rw [<-l1];simpa using j1
     have k2:j < es.length:=by rw [<-l2];simpa using j2
     have:=mE F A.in1 hs hs' r r' (by rw [in1_units];unfold dep at hu;omega) (by unfold dep at hd1;omega) (by unfold dep at hu';omega) j k1 k2
     have m1:j < QA.length:=by simpa using j1
     have m2:j < its'.length:=by simpa using j2
     simpa [m1,m2] using this
    simpa using this
  | lst h' hs'=>
   cases rw'
   obtain ⟨its',r',p'⟩:=F.l _ _ h'
   exact aa2 p p' Oz
  | non=>exact (i6 p rw' rfl Oz).1
  | bl _=>exact (i6 p rw' rfl Oz).1
  | int _=>exact (i6 p rw' rfl Oz).1
  | str _=>exact (i6 p rw' rfl Oz).1
  | emp _=>unfold dep at hu';omega
  | exn _ _ _ _ _=>unfold dep at hu';omega
  | dct _ _ _ _ _=>unfold dep at hu';omega
 | .lst ds,e,_,w,u,u',A,.lst h hs,he,rv,rw',hu,hd1,hu'=>by
  cases rv
  obtain ⟨QA,r,p⟩:=F.l _ _ h
  have Oz:A.units < Sy:=by unfold dep at hu;omega
  cases he with
  | lst h' hs'=>
   cases rw'
   obtain ⟨its',r',p'⟩:=F.l _ _ h'
   rename_i a vs b ws es
   by_cases q:a=b
   ·subst q
    have:=Rep.inj F (.lst h hs) (.lst h' hs') hd1 hu'
    rw [<-this,gD]
    exact Xx _
   ·have l1:QA.length=ds.length:=by rw [<-r.length,hs.length]
    have l2:its'.length=es.length:=by rw [<-r'.length,hs'.length]
    simp only [bu]
    refine YG q ?_
    by_cases z:ds.length=es.length
    ·rw [<-nC z,<-l1]
     have:=Zs (e:=nK ds es) p p' (by simp;omega) Oz λj j1 j2=>by
      have k1:j < ds.length:=by rw [<-l1];simpa using j1
      have k2:j < es.length:=by rw [<-l2];simpa using j2
      have:=mE F A.in1 hs hs' r r' (by rw [in1_units];unfold dep at hu;omega) (by unfold dep at hd1;omega) (by unfold dep at hu';omega) j k1 k2
      have m1:j < QA.length:=by simpa using j1
      have m2:j < its'.length:=by simpa using j2
      simpa [m1,m2] using this
     simpa using this
    ·rw [nB z]
     exact aas p p' (by simp;omega) Oz
  | tup h' hs'=>
   cases rw'
   obtain ⟨its',r',p'⟩:=F.t _ _ h'
   exact aa3 p p' Oz
  | non=>exact (jx p rw' rfl Oz).1
  | bl _=>exact (jx p rw' rfl Oz).1
  | int _=>exact (jx p rw' rfl Oz).1
  | str _=>exact (jx p rw' rfl Oz).1
  | emp _=>unfold dep at hu';omega
  | exn _ _ _ _ _=>unfold dep at hu';omega
  | dct _ _ _ _ _=>unfold dep at hu';omega
 | .non,e,v,w,u,u',A,hd,he,rv,rw',hu,_,hu'=>sq F A hd he rv rw' rfl (by omega) hu'
 | .bl _,e,v,w,u,u',A,hd,he,rv,rw',hu,_,hu'=>sq F A hd he rv rw' rfl (by omega) hu'
 | .int _,e,v,w,u,u',A,hd,he,rv,rw',hu,_,hu'=>sq F A hd he rv rw' rfl (by omega) hu'
 | .emp,e,v,w,u,u',A,hd,he,rv,rw',hu,hd1,hu'=>by unfold dep at hd1;omega
 | .exn _ _ _,e,v,w,u,u',A,hd,he,rv,rw',hu,hd1,hu'=>by unfold dep at hd1;omega
 | .dct _ _,e,v,w,u,u',A,hd,he,rv,rw',hu,hd1,hu'=>by unfold dep at hd1;omega
 | .str _,e,v,w,u,u',A,hd,he,rv,rw',hu,_,hu'=>sq F A hd he rv rw' rfl (by omega) hu'
theorem mE (F:HF K J s):∀{ds es:List D}{vs ws:List V}{us us':List QM}(A:RG),aF K J ds vs->aF K J es ws->Vals vs us->Vals ws us'->A.units + deps ds < Sy->deps ds<=1000->deps es<=1000->
  ∀(j:Nat) (h1:j < ds.length) (h2:j < es.length),Td A s (us.getD j .none) (us'.getD j .none) (nK ds es j)
 | _,_,_,_,_,_,A,.cons h hs,.cons h' hs',.cons r rs,.cons r' rs',hu,k1,k2,0,_,_=>mD F A h h' r r' (by unfold deps at hu;omega) (by unfold deps at k1;omega) (by unfold deps at k2;omega)
 | _,_,_,_,_,_,A,.cons h hs,.cons h' hs',.cons r rs,.cons r' rs',hu,k1,k2,j + 1,h1,h2=>mE F A hs hs' rs rs' (by unfold deps at hu;omega) (by unfold deps at k1;omega) (by unfold deps at k2;omega) j (by simpa using h1) (by simpa using h2)
end
end
section
variable {K:QK}{J:Hp}{s:QN}
theorem Ea (F:HF K J s){d e:D}{v w:V}{u u':QM}(A:RG) (hd:Rep K J d v) (he:Rep K J e w) (rv:RelV v u) (rw':RelV w u') (hu:A.units + dep d < Sy) (hd1:dep d<=1000) (hu':dep e<=1000):SeqAt.RcAt A s u u' (bu d e)/\SeqAt.RcNeAt A s u u' (!bu d e):=by
 have Oz:A.units < Sy:=by omega
 cases hd with
 | non=>
  cases rv
  cases he with
  | non=>cases rw';exact ⟨.none_none,.none_none⟩
  | bl b=>cases rw';exact ⟨.none_bool b,.none_bool b⟩
  | int i=>obtain ⟨t,rfl⟩:=rw';exact ⟨.none_int i t,.none_int i t⟩
  | str x=>obtain ⟨t,rfl⟩:=rw';exact ⟨.none_str x t,.none_str x t⟩
  | tup h hs=>cases rw';obtain ⟨QA,r,p⟩:=F.t _ _ h;exact ⟨.none_tuple p Oz,.none_tuple p Oz⟩
  | lst h hs=>cases rw';obtain ⟨QA,r,p⟩:=F.l _ _ h;exact ⟨.none_list p Oz,.none_list p Oz⟩
  | emp _=>unfold dep at hu';omega
  | exn _ _ _ _ _=>unfold dep at hu';omega
  | dct _ _ _ _ _=>unfold dep at hu';omega
 | bl a=>
  cases rv
  cases he with
  | non=>cases rw';exact ⟨.bool_none a,.bool_none a⟩
  | bl b=>cases rw';exact ⟨.bool_bool a b,.bool_bool a b⟩
  | int i=>obtain ⟨t,rfl⟩:=rw';exact ⟨.bool_int a i t,.bool_int a i t⟩
  | str x=>obtain ⟨t,rfl⟩:=rw';exact ⟨.bool_str a x t,.bool_str a x t⟩
  | tup h hs=>cases rw';obtain ⟨QA,r,p⟩:=F.t _ _ h;exact ⟨.bool_tuple a p Oz,.bool_tuple a p Oz⟩
  | lst h hs=>cases rw';obtain ⟨QA,r,p⟩:=F.l _ _ h;exact ⟨.bool_list a p Oz,.bool_list a p Oz⟩
  | emp _=>unfold dep at hu';omega
  | exn _ _ _ _ _=>unfold dep at hu';omega
  | dct _ _ _ _ _=>unfold dep at hu';omega
 | int a=>
  obtain ⟨t0,rfl⟩:=rv
  cases he with
  | non=>cases rw';exact ⟨.int_none a t0,.int_none a t0⟩
  | bl b=>cases rw';exact ⟨.int_bool a t0 b,.int_bool a t0 b⟩
  | int i=>obtain ⟨t,rfl⟩:=rw';exact ⟨.int_int a t0 i t,.int_int a t0 i t⟩
  | str x=>obtain ⟨t,rfl⟩:=rw';exact ⟨.int_str a t0 x t,.int_str a t0 x t⟩
  | tup h hs=>cases rw';obtain ⟨QA,r,p⟩:=F.t _ _ h;exact ⟨.int_tuple a t0 p Oz,.int_tuple a t0 p Oz⟩
  | lst h hs=>cases rw';obtain ⟨QA,r,p⟩:=F.l _ _ h;exact ⟨.int_list a t0 p Oz,.int_list a t0 p Oz⟩
  | emp _=>unfold dep at hu';omega
  | exn _ _ _ _ _=>unfold dep at hu';omega
  | dct _ _ _ _ _=>unfold dep at hu';omega
 | str a=>
  obtain ⟨t0,rfl⟩:=rv
  cases he with
  | non=>cases rw';exact ⟨.str_none a t0,.str_none a t0⟩
  | bl b=>cases rw';exact ⟨.str_bool a t0 b,.str_bool a t0 b⟩
  | int i=>obtain ⟨t,rfl⟩:=rw';exact ⟨.str_int a t0 i t,.str_int a t0 i t⟩
  | str x=>obtain ⟨t,rfl⟩:=rw';exact ⟨.str_str a t0 x t,.str_str a t0 x t⟩
  | tup h hs=>cases rw';obtain ⟨QA,r,p⟩:=F.t _ _ h;exact ⟨.str_tuple a t0 p Oz,.str_tuple a t0 p Oz⟩
  | lst h hs=>cases rw';obtain ⟨QA,r,p⟩:=F.l _ _ h;exact ⟨.str_list a t0 p Oz,.str_list a t0 p Oz⟩
  | emp _=>unfold dep at hu';omega
  | exn _ _ _ _ _=>unfold dep at hu';omega
  | dct _ _ _ _ _=>unfold dep at hu';omega
 | tup h hs=>
  cases rv
  obtain ⟨QA,r,p⟩:=F.t _ _ h
  cases he with
  | non=>cases rw';exact ⟨.tuple_none p Oz,.tuple_none p Oz⟩
  | bl b=>cases rw';exact ⟨.tuple_bool b p Oz,.tuple_bool b p Oz⟩
  | int i=>obtain ⟨t,rfl⟩:=rw';exact ⟨.tuple_int i t p Oz,.tuple_int i t p Oz⟩
  | str x=>obtain ⟨t,rfl⟩:=rw';exact ⟨.tuple_str x t p Oz,.tuple_str x t p Oz⟩
  | lst h' hs'=>cases rw';obtain ⟨its',r',p'⟩:=F.l _ _ h';exact ⟨.tuple_list p p' Oz,.tuple_list p p' Oz⟩
  | emp _=>unfold dep at hu';omega
  | exn _ _ _ _ _=>unfold dep at hu';omega
  | dct _ _ _ _ _=>unfold dep at hu';omega
  | tup h' hs'=>
   cases rw'
   obtain ⟨its',r',p'⟩:=F.t _ _ h'
   rename_i a vs ds b ws es
   have l1:QA.length=ds.length:=by rw [<-r.length,hs.length]
   have l2:its'.length=es.length:=by rw [<-r'.length,hs'.length]
   have it:∀(j:Nat) (j1:j < QA.toArray.size) (j2:j < its'.toArray.size),Td A.in1 s QA.toArray[j] its'.toArray[j] (nK ds es j):=λj j1 j2=>by
    have k1:j < ds.length:=by rw [<-l1];simpa using j1
    have k2:j < es.length:=by rw [<-l2];simpa using j2
    have:=mE F A.in1 hs hs' r r' (by rw [in1_units];unfold dep at hu;omega) (by unfold dep at hd1;omega) (by unfold dep at hu';omega) j k1 k2
    have m1:j < QA.length:=by simpa using j1
    have m2:j < its'.length:=by simpa using j2
    simpa [m1,m2] using this
   simp only [bu]
   rw [<-xQ,<-l1,<-l2]
   have q1:=Y3 p p' Oz it
   have q2:=abr p p' Oz it
   exact ⟨by simpa using q1,by simpa using q2⟩
 | emp _=>unfold dep at hd1;omega
 | exn _ _ _ _ _=>unfold dep at hd1;omega
 | dct _ _ _ _ _=>unfold dep at hd1;omega
 | lst h hs=>
  cases rv
  obtain ⟨QA,r,p⟩:=F.l _ _ h
  cases he with
  | non=>cases rw';exact ⟨.list_none p Oz,.list_none p Oz⟩
  | bl b=>cases rw';exact ⟨.list_bool b p Oz,.list_bool b p Oz⟩
  | int i=>obtain ⟨t,rfl⟩:=rw';exact ⟨.list_int i t p Oz,.list_int i t p Oz⟩
  | str x=>obtain ⟨t,rfl⟩:=rw';exact ⟨.list_str x t p Oz,.list_str x t p Oz⟩
  | tup h' hs'=>cases rw';obtain ⟨its',r',p'⟩:=F.t _ _ h';exact ⟨.list_tuple p p' Oz,.list_tuple p p' Oz⟩
  | emp _=>unfold dep at hu';omega
  | exn _ _ _ _ _=>unfold dep at hu';omega
  | dct _ _ _ _ _=>unfold dep at hu';omega
  | lst h' hs'=>
   cases rw'
   obtain ⟨its',r',p'⟩:=F.l _ _ h'
   rename_i a vs ds b ws es
   have l1:QA.length=ds.length:=by rw [<-r.length,hs.length]
   have l2:its'.length=es.length:=by rw [<-r'.length,hs'.length]
   have it:∀(j:Nat) (j1:j < QA.toArray.size) (j2:j < its'.toArray.size),Td A.in1 s QA.toArray[j] its'.toArray[j] (nK ds es j):=λj j1 j2=>by
    have k1:j < ds.length:=by rw [<-l1];simpa using j1
    have k2:j < es.length:=by rw [<-l2];simpa using j2
    have:=mE F A.in1 hs hs' r r' (by rw [in1_units];unfold dep at hu;omega) (by unfold dep at hd1;omega) (by unfold dep at hu';omega) j k1 k2
    have m1:j < QA.length:=by simpa using j1
    have m2:j < its'.length:=by simpa using j2
    simpa [m1,m2] using this
   simp only [bu]
   by_cases z:ds.length=es.length
   ·rw [<-nC z,<-l1]
    have q1:=Zs p p' (by simp;omega) Oz it
    have q2:=abC p p' (by simp;omega) Oz it
    exact ⟨by simpa using q1,by simpa using q2⟩
   ·rw [nB z]
    exact ⟨.lists_lengths p p' (by simp;omega) Oz,.lists_lengths p p' (by simp;omega) Oz⟩
end
section
variable {X:Cx}{c:C}{e a b tg:Rz}{es:List Rz}{ga gb g:G R}{pos:Pos}
theorem RR.rep {He J H:Hp}(hp:HI c J H):∀{r:R}{v:V}{d:D},RR c He J H r v->(∀xs,r=.l .fresh xs\/r=.l .own xs\/r=.l .bor xs->d=.lst xs)->(∀x,r=.d x->d=x)->(∀ks vs,r≠.mo ks vs/\r≠.mb ks vs/\r≠.mf ks vs)->Rep c.K H d v
 | .mo _ _,_,_,_,_,_,n=>((n _ _).1 rfl).elim
 | .mb _ _,_,_,_,_,_,n=>((n _ _).2.1 rfl).elim
 | .mf _ _,_,_,_,_,_,n=>((n _ _).2.2 rfl).elim
 | .d x,v,d,h,_,k,_=>by rw [k x rfl];exact Rep.mono hp.sub h
 | .l m xs,v,d,h,k,_,_=>by
  have e:d=.lst xs:=k xs (by cases m;exact .inl rfl;exact .inr (.inl rfl);exact .inr (.inr rfl))
  obtain ⟨a,vs,rfl,h1,h2⟩:=RR.list hp h rfl
  rw [e]
  exact .lst h1 (h2.mono hp.sub)
noncomputable def R.dat:R->D
 | .d x=>x
 | .l _ xs=>.lst xs
 | .mo ks vs=>.dct ks vs
 | .mb ks vs=>.dct ks vs
 | .mf ks vs=>.dct ks vs
theorem RR.dat {He J H:Hp}(hp:HI c J H){r:R}{v:V}(h:RR c He J H r v):Rep c.K H r.dat v:=by
 by_cases hm:∃ks vs,r=.mo ks vs
 ·obtain ⟨ks,vs,rfl⟩:=hm;obtain ⟨a,rfl,h,_⟩:=h;exact h.rep hp.sub
 by_cases hb:∃ks vs,r=.mb ks vs
 ·obtain ⟨ks,vs,rfl⟩:=hb;obtain ⟨a,rfl,h⟩:=h;exact (h.mono (aT.refl _) hp.ent).rep hp.sub
 by_cases hf:∃ks vs,r=.mf ks vs
 ·obtain ⟨ks,vs,rfl⟩:=hf;obtain ⟨a,rfl,h,_⟩:=h;exact h.rep hp.sub
 refine h.rep hp (λxs q=>?_) (λx q=>by rw [q];rfl) λks vs=>⟨λz=>hm ⟨_,_,z⟩,λz=>hb ⟨_,_,z⟩,λz=>hf ⟨_,_,z⟩⟩
 rcases q with q | q | q <;> (rw [q];rfl)
noncomputable def Gb (K:QK) (neg:Bool):R2:=λx y H Q=>∃d e,Rep K H d x/\Rep K H e y/\dep d<=60/\dep e<=60/\Q (.bl (if neg then !bu d e else bu d e)) H
theorem fP {Qz:List (Q4×Obj)}{σ:L2.St}{H:Hp}{s:QN}(I:Inv X Qz σ H s):HF X.K H s:=HF.of (c:=⟨X.K,H,H,λ_=>True⟩) I (aT.refl H)
theorem DK (hu:X.A.units + 64 < Sy):c_ X (Sx .Eq) (Gb X.K false):=by
 intro Qz s σ H x y v u Q I rx ry h
 obtain ⟨d,e,h1,h2,h3,h4,q⟩:=h
 exact (Ea (fP I) X.A h1 h2 rx ry (by omega) (by omega) (by omega)).1 X.prog X.w X.xe _ ⟨.bl _,H,I,rfl,q⟩
theorem K0 (hu:X.A.units + 64 < Sy):c_ X (Sx .NotEq) (Gb X.K true):=by
 intro Qz s σ H x y v u Q I rx ry h
 obtain ⟨d,e,h1,h2,h3,h4,q⟩:=h
 exact (Ea (fP I) X.A h1 h2 rx ry (by omega) (by omega) (by omega)).2 X.prog X.w X.xe _ ⟨.bl _,H,I,rfl,q⟩
noncomputable def fN (neg:Bool) (x y:R):M R:=if dep x.dat<=60/\dep y.dat<=60 then .ok (.d (.bl (if neg then !bu x.dat y.dat else bu x.dat y.dat))) else .bad
theorem Be (neg:Bool) (hK:X.K=c.K):BD c (Gb X.K neg) (fN neg):=by
 intro He He' J H x y u v Q hp rx ry w
 unfold fN at w
 split at w
 ·rename_i hd
  exact ⟨x.dat,y.dat,by rw [hK];exact rx.dat hp,by rw [hK];exact ry.dat hp,hd.1,hd.2,w _ J H (Ext.refl hp.sub) (.bl _)⟩
 ·exact w.elim
noncomputable def inD (d:D) (xs:List D):Bool:=xs.any λx=>bu x d
noncomputable def Gd (K:QK) (neg:Bool):R2:=λx y H Q=>∃d p vs ds,Rep K H d x/\dep d<=60/\y=.ref p/\(cG K H p vs\/cX K H p vs)/\aF K H ds vs/\deps ds<=60/\Q (.bl (if neg then !inD d ds else inD d ds)) H
theorem vz {K:QK}{H:Hp}{y:QM}:∀{ds:List D}{vs:List V}{us:List QM},aF K H ds vs->Vals vs us->deps ds<=60->y∈us->∃d' v',Rep K H d' v'/\RelV v' y/\dep d'<=60
 | _,_,_,.nil,.nil,_,hy=>nomatch hy
 | _,_,_,.cons r hs,.cons q rs,hd,hy=>by
  unfold deps at hd
  rcases Rc.mp hy with rfl | hy
  ·exact ⟨_,_,r,q,by omega⟩
  ·exact vz hs rs (by omega) hy
open Classical in
noncomputable def Bb (K:QK) (H:Hp) (d:D) (y:QM):Bool:=decide (∃d' v',Rep K H d' v'/\RelV v' y/\dep d'<=1000/\bu d' d=true)
theorem Ad {K:QK}{H:Hp}{s:QN}(F:HF K H s){d d':D}{v':V}{y:QM}(r':Rep K H d' v') (q':RelV v' y) (hd:dep d'<=1000):Bb K H d y=bu d' d:=by
 classical
 unfold Bb
 cases z:bu d' d with
 | true=>exact decide_eq_true ⟨d',v',r',q',hd,z⟩
 | false=>
  refine decide_eq_false ?_
  rintro ⟨d2,v2,r2,q2,hd2,z2⟩
  have:v2=v':=q2.inj q'
  subst this
  rw [Rep.inj F r2 r' hd2 hd] at z2
  rw [z] at z2
  cases z2
theorem xq {K:QK}{H:Hp}{s:QN}(F:HF K H s){d:D}:∀{ds:List D}{vs:List V}{us:List QM},aF K H ds vs->Vals vs us->deps ds<=1000->us.any (Bb K H d)=inD d ds
 | _,_,_,.nil,.nil,_=>rfl
 | _,_,_,.cons r hs,.cons q rs,hd=>by
  unfold deps at hd
  unfold inD
  rw [V0,V0,xq F hs rs (by omega),Ad F r q (by omega)]
  rfl
theorem rR {A:RG}{s:QN}{K:QK}{H:Hp}(F:HF K H s){d:D}{x:V}{u:QM}(h:Rep K H d x) (rx:RelV x u) (OL:dep d<=60) (hA:A.units + 60 < Sy){ds:List D}{vs:List V}{us:List QM}(hs:aF K H ds vs) (rs:Vals vs us) (hd:deps ds<=60):
  ∃e:QM->Bool,(∀y∈us,Td A s y u (e y))/\us.any e=inD d ds:=by
 refine ⟨Bb K H d,λy hy=>?_,xq F hs rs (by omega)⟩
 obtain ⟨d',v',r',q',hd'⟩:=vz hs rs hd hy
 rw [Ad F r' q' (by omega)]
 exact mD F A r' h q' rx (by omega) (by omega) (by omega)
theorem DM (hu:X.A.units + 64 < Sy):c_ X (Sx .In) (Gd X.K false):=by
 intro Qz s σ H x y v u Q I rx ry h
 obtain ⟨d,p,vs,ds,h1,OL,rfl,h2,h3,h4,q⟩:=h
 cases ry
 have F:=fP I
 rcases h2 with h2 | h2
 ·obtain ⟨QA,r,pl⟩:=F.l _ _ h2
  obtain ⟨e,he,hany⟩:=rR (A:=X.A.in1) F h1 rx OL (by rw [in1_units];omega) h3 r h4
  exact SeqAt.in_listAt e pl (λz hz=>he z (by simpa using hz)) ⟨.bl _,H,I,rfl,by rw [show QA.toArray.any e=QA.any e by simp,hany];exact q⟩
 ·obtain ⟨QA,r,pl⟩:=F.t _ _ h2
  obtain ⟨e,he,hany⟩:=rR (A:=X.A.in1) F h1 rx OL (by rw [in1_units];omega) h3 r h4
  exact SeqAt.in_tupleAt e pl (λz hz=>he z (by simpa using hz)) ⟨.bl _,H,I,rfl,by rw [show QA.toArray.any e=QA.any e by simp,hany];exact q⟩
theorem DP (hu:X.A.units + 64 < Sy):c_ X (Sx .NotIn) (Gd X.K true):=by
 intro Qz s σ H x y v u Q I rx ry h
 obtain ⟨d,p,vs,ds,h1,OL,rfl,h2,h3,h4,q⟩:=h
 cases ry
 have F:=fP I
 rcases h2 with h2 | h2
 ·obtain ⟨QA,r,pl⟩:=F.l _ _ h2
  obtain ⟨e,he,hany⟩:=rR (A:=X.A.in1) F h1 rx OL (by rw [in1_units];omega) h3 r h4
  exact SeqAt.notIn_listAt e pl (λz hz=>he z (by simpa using hz)) ⟨.bl _,H,I,rfl,by rw [show QA.toArray.any e=QA.any e by simp,hany];exact q⟩
 ·obtain ⟨QA,r,pl⟩:=F.t _ _ h2
  obtain ⟨e,he,hany⟩:=rR (A:=X.A.in1) F h1 rx OL (by rw [in1_units];omega) h3 r h4
  exact SeqAt.notIn_tupleAt e pl (λz hz=>he z (by simpa using hz)) ⟨.bl _,H,I,rfl,by rw [show QA.toArray.any e=QA.any e by simp,hany];exact q⟩
noncomputable def gT (neg:Bool) (x y:R):M R:=g8 y >>= λys=>if deps ys<=60/\dep x.dat<=60 then .ok (.d (.bl (if neg then !inD x.dat ys else inD x.dat ys))) else .bad
theorem Bf (neg:Bool) (hK:X.K=c.K):BD c (Gd X.K neg) (gT neg):=by
 intro He He' J H x y u v Q hp rx ry w
 obtain ⟨ys,q,w⟩:=ni w
 obtain ⟨p,vs,rfl,h1,h2⟩:=pT hp ry q
 split at w
 ·rename_i hd
  exact ⟨x.dat,p,vs,ys,by rw [hK];exact rx.dat hp,hd.2,rfl,by rw [hK];exact h1,by rw [hK];exact h2.mono hp.sub,hd.1,w _ J H (Ext.refl hp.sub) (.bl _)⟩
 ·exact w.elim
noncomputable abbrev GO:=G (Option Int)
noncomputable def tO (c:C) (g:GO):TO:=λσ H Q=>∃J env,SR c J H σ env/\cD (g env) (λo=>∀J' H',Ext J H J' H'->Q o H') c.T
noncomputable def JI (X:Cx) (c:C) (e:Option Rz) (g:GO):Prop:=PO X e (tO c g)
theorem G6 {X:Cx}{e:Option Rz}{t t':TO}(h:PO X e t) (k:∀σ H Q,t' σ H Q->t σ H Q):PO X e t':=λQz s σ H Q I q=>h Qz s σ H Q I (k σ H Q q)
noncomputable def uW:GO:=λ_=>.ok none
noncomputable def uX (g:G R):GO:=λenv=>g env >>= λr=>match r with
 | .d (.int i)=>.ok (some i)
 | _=>.bad
noncomputable def cutD (xs:List D) (lo hi:Option Int):List D:=(xs.drop (HT.bK xs.length 0 lo)).take (HT.bK xs.length xs.length hi - HT.bK xs.length 0 lo)
theorem aF.cut {K:QK}{J:Hp}{xs:List D}{vs:List V}(h:aF K J xs vs) (lo hi:Option Int):aF K J (cutD xs lo hi) (lM vs lo hi):=by
 unfold cutD lM
 rw [h.length]
 exact (h.drop _).take _
noncomputable def sD (f:R->Option Int->Option Int->M R) (g:G R) (lo hi:GO):G R:=λenv=>g env >>= λx=>lo env >>= λl=>hi env >>= λu=>f x l u
theorem Mw {r:V->Option Int->Option Int->Hp->VK->Prop}{f:R->Option Int->Option Int->M R}{lo hi:Option Rz}{gl gh:GO}{p2:Pos}(hr:rO X r) (hf:∀(He J H:Hp) (x:R) (v:V) (l u:Option Int) (Q:VK),HI c J H->RR c He J H x v->
   cD (f x l u) (λz=>∀w J' H',Ext J H J' H'->RR c H J' H' z w->Q w H') c.T->r v l u H Q) (h:PD X c e g) (hl:JI X c lo gl) (hh:JI X c hi gh):PD X c (.Subscript e (.Slice lo hi none p2) pos) (sD f g gl gh):=
 eV (FO hr h hl hh) λσ H Q ⟨J,env,sr,w⟩=>by
  refine ⟨J,env,sr,aB (aH w) λx wx v J1 H1 e1 r1=>?_⟩
  refine ⟨J1,env,sr.ext e1,aB (aH wx) λl wl J2 H2 e2=>?_⟩
  refine ⟨J2,env,(sr.ext e1).ext e2,aB (aH wl) λu wu J3 H3 e3=>?_⟩
  have ee:=(e1.trans e2).trans e3
  exact hf H J3 H3 x v l u Q (sr.hp.ext ee) ((r1.ext e2).ext e3) (aB wu λz q w J' H' e4 r4=>q w J' H' (ee.trans e4) (RR.from ee.h r4))
noncomputable def Np (x:R) (l u:Option Int):M R:=jI x >>= λxs=>.ok (.l .fresh (cutD xs l u))
theorem Cg {ss:List Str}:∀{us:List QM},Vals (ss.map V.str) us->StrsAre us ss:=by
 induction ss with
 | nil=>intro us h;cases h;exact .nil
 | cons x r ih=>
  intro us h
  cases h with
  | cons q rs=>
   obtain ⟨t,rfl⟩:=q
   exact .cons x t (ih rs)
theorem vL:∀{us:List QM}{ss:List Str},StrsAre us ss->Vals (ss.map V.str) us
 | _,_,.nil=>.nil
 | _,_,.cons y t h=>.cons ⟨t,rfl⟩ (vL h)
noncomputable def jw (x y:Str):Bool:=decide (x.cps.toList<=y.cps.toList)
noncomputable def qf (ss:List Str):List Str:=ss.mergeSort jw
theorem vg (x y z:Str) (h1:jw x y=true) (h2:jw y z=true):jw x z=true:=by
 unfold jw at *
 exact decide_eq_true (List.le_trans (of_decide_eq_true h1) (of_decide_eq_true h2))
theorem DE (x y:Str):(jw x y || jw y x)=true:=by
 unfold jw
 rw [Ud]
 rcases List.le_total x.cps.toList y.cps.toList with h | h
 ·exact .inl (decide_eq_true h)
 ·exact .inr (decide_eq_true h)
theorem Fd {x y:Str}(h1:jw x y=true) (h2:jw y x=true):x=y:=by
 unfold jw at *
 have:=Zt (of_decide_eq_true h1) (of_decide_eq_true h2)
 obtain ⟨⟨cx⟩⟩:=x
 obtain ⟨⟨cy⟩⟩:=y
 simp only at this
 rw [this]
theorem yV (ss:List Str):(qf ss).Pairwise λx y=>jw x y=true:=List.pairwise_mergeSort vg DE ss
theorem Cf (ss:List Str):(qf ss).Perm ss:=List.mergeSort_perm ss jw
theorem tF:∀(x:Str) (r:List Str),risingS x r=true->(x::r).Pairwise λx y=>jw x y=true
 | x,[],_=>by simp
 | x,y::r,h=>by
  unfold risingS at h
  rw [QX] at h
  have hy:=tF y r h.2
  have hxy:jw x y=true:=by
   have h1:=h.1
   rw [ltCps_eq] at h1
   unfold jw
   refine decide_eq_true ?_
   have:¬y.cps.toList < x.cps.toList:=by simpa using h1
   exact this
  refine Uz.mpr ⟨λz hz=>?_,hy⟩
  rcases Rc.mp hz with rfl | hz
  ·exact hxy
  ·exact vg x y z hxy ((Uz.mp hy).1 z hz)
theorem Ce {ss ss':List Str}(hp:ss'.Perm ss) (hs:sortedS ss'=true):ss'=qf ss:=by
 have pw:ss'.Pairwise λx y=>jw x y=true:=by
  cases ss' with
  | nil=>exact SX
  | cons x r=>exact tF x r hs
 exact (hp.trans (Cf ss).symm).eq_of_pairwise (λx y _ _ h1 h2=>Fd h1 h2) pw (yV ss)
theorem xG:bU X (.builtin "sorted") (λxs H Q=>∃p ss,xs=[.ref p]/\cG X.K H p (ss.map V.str)/\ss.length < 64/\∀ss',ss'.Perm ss->sortedS ss'=true->∀l,H l=none->Q (.ref l) (upd H l (.lst (ss'.map V.str)))):=by
 intro Qz s σ H xs us Q I r h
 obtain ⟨p,ss,rfl,hq,hl,q⟩:=h
 obtain ⟨u,rfl,rx⟩:=vals1 r
 cases rx
 obtain ⟨QA,r',pl,hz⟩:=I.list hq
 have hlen:=r'.length
 refine sorted_strs pl.isList (Cg r') (by rw [<-hlen,QO];exact hl) λout ss' a1 a2 a3=>?_
 obtain ⟨n,hn⟩:=Zh s.heap QA out
 have kp:∀b o,s.heap.get? b=some o->(YH s.heap QA out).get? b=some o:=λb o e=>YI e
 have fr:H (s.heap.objs.size + 1)=none:=I.hok.fresh (SN _)
 have ll:(ss'.map V.str).length=(ss.map V.str).length:=by rw [QO,QO,a2.length_eq]
 refine ⟨.ref (s.heap.objs.size + 1),_,I.laid (t':=s.toks) kp (SN _) (show cg X.prog X.w _ _ _ (.lst (ss'.map V.str)) from ⟨by rw [ll];exact hz,out.toList,n,vL a1,by simpa [Ti] using hn⟩),rfl,q ss' a2 a3 _ fr⟩
noncomputable def strsOf:List D->Option (List Str)
 | []=>some []
 | .str x::r=>(strsOf r).map (x::·)
 | _::_=>none
theorem tM {K:QK}{J:Hp}:∀{ds:List D}{vs:List V}{ss:List Str},strsOf ds=some ss->aF K J ds vs->vs=ss.map V.str
 | [],_,_,h,.nil=>by cases h;rfl
 | .str x::r,_,ss,h,.cons q rs=>by
  unfold strsOf at h
  cases z:strsOf r with
  | none=>rw [z] at h;cases h
  | some ss'=>
   rw [z] at h
   cases h
   cases q
   rw [tM z rs]
   rfl
theorem vB {K:QK}{J:Hp}:∀(ss:List Str),aF K J (ss.map D.str) (ss.map V.str)
 | []=>.nil
 | x::r=>.cons (.str x) (vB r)
noncomputable def mG:List R->M R
 | [r]=>jI r >>= λxs=>match strsOf xs with
  | some ss=>if ss.length < 64 then .ok (.l .fresh ((qf ss).map .str)) else .bad
  | none=>.bad
 | _=>.bad
theorem j3:R1 "sorted"=some (.builtin "sorted"):=by decide +kernel
theorem foldl_size (c:Array Nat):∀(k:Nat) (acc:Array Nat),((R8 k c).foldl (·++·) acc).size=acc.size + k * c.size
 | 0,acc=>by simp
 | k + 1,acc=>by
  rw [Uj,V_,foldl_size c k,Y4,Nat.succ_mul]
  omega
noncomputable def iz (x:Str) (n:Nat):Str:=⟨(R8 n x.cps).foldl (·++·) #[]⟩
theorem zI (x:Str) (n:Nat):(iz x n).length=n * x.length:=by
 unfold iz aan
 simp only
 rw [foldl_size]
 simp
theorem Ir:c_ X (UG .Mult) (λx y H Q=>∃z n,x=.str z/\y=.int n/\0<=n/\n<=1000/\z.length<=1000/\Q (.str (iz z n.toNat)) H):=by
 intro Qz s σ H x y v u Q I rx ry h
 obtain ⟨z,n,rfl,rfl,h0,h1,h2,q⟩:=h
 obtain ⟨t,rfl⟩:=rx
 obtain ⟨t',rfl⟩:=ry
 have hz:Yj (z.length * n.toNat)=false:=by
  have:z.length * n.toNat<=1000 * 1000:=VE h2 (by omega)
  unfold Yj
  exact decide_eq_false (by have:=RS;omega)
 refine PySem.P.mul_str (by
  rw [decide_eq_false (by omega:¬n < -(2 ^ 63:Int)),decide_eq_false (by omega:¬n ≥ 2 ^ 63)];rfl) (λhn _=>?_) (λ_ _=>hz) ?_
 ·have:(2 ^ 63 - 1:Int) / 1000<=(2 ^ 63 - 1) / n:=by
   refine (Int.le_ediv_iff_mul_le (by omega)).mpr ?_
   have:(2 ^ 63 - 1:Int) / 1000 * n<=(2 ^ 63 - 1:Int) / 1000 * 1000:=Int.mul_le_mul_of_nonneg_left h1 (by decide)
   exact Int.le_trans this (by decide)
  have e:(2 ^ 63 - 1:Int) / 1000=9223372036854775:=by decide
  omega
 ·split
  ·rename_i hn
   have e:n=0:=by omega
   subst e
   exact ⟨by decide,.str _,H,I.tok _,⟨_,rfl⟩,q⟩
  ·split
   ·rename_i hn hc
    have e:iz z n.toNat=z:=by
     unfold iz
     rw [Ud] at hc
     rcases hc with hc | hc
     ·have e:n=1:=by simpa using hc
      subst e
      simp
     ·have e:z.length=0:=by simpa using hc
      have e2:z.cps=#[]:=by
       unfold aan at e
       exact Array.eq_empty_of_size_eq_zero e
      obtain ⟨cz⟩:=z
      simp only at e2
      subst e2
      congr 1
      generalize n.toNat=k
      induction k with
      | zero=>rfl
      | succ k ih=>rw [Uj,V_];exact ih
    rw [e] at q
    exact ⟨.str z,H,I,⟨_,rfl⟩,q⟩
   ·exact ⟨by
     have:=zI z n.toNat
     unfold iz at this
     rw [this,Nat.mul_comm]
     have:z.length * n.toNat<=1000 * 1000:=VE h2 (by omega)
     rw [RS]
     omega,.str _,H,I.tok _,⟨_,rfl⟩,q⟩
noncomputable def Bt:R->R->M R
 | .d (.str z),.d (.int n)=>if 0<=n/\n<=1000/\z.length<=1000 then .ok (.d (.str (iz z n.toNat))) else .bad
 | _,_=>.bad
noncomputable def kJ:D->String
 | .non=>"NoneType"
 | .bl _=>"bool"
 | .int _=>"int"
 | .str _=>"str"
 | .tup _=>"tuple"
 | .lst _=>"list"
 | .emp=>"dict"
 | .exn _ _ _=>"exc"
 | .dct _ _=>"dict"
noncomputable def pO (t T:String):Bool:=t == T || (t == "bool" && T == "int")
noncomputable def Dy:R->Bool
 | .d (.int _)=>true
 | _=>false
noncomputable def Kp:R->Bool
 | .d (.str _)=>true
 | _=>false
noncomputable def dD (x y:R):M R:=if Dy x then xT x y else if Kp x then r_ x y else se x y
noncomputable def gE (x y:R):M R:=if Dy x then Ka x y else Bt x y
noncomputable def bg (x y:R):M R:=match x,y with
 | .d (.str z),.d (.int i)=>if z.length<=sizeLine then (match kT z.cps.toList i with
  | some k=>.ok (.d (.str ⟨#[k]⟩))
  | none=>.bad) else .bad
 | x,.d (.int i)=>g8 x >>= λxs=>(match kT xs i with
  | some d=>.ok (.d d)
  | none=>.bad)
 | _,_=>.bad
noncomputable def bC (P:Rb) (w:RD) (K:QK) (mg:Str->Option QM) (base:Sn) (k n:Nat) (x:Str) (Fm:List S->M R):Prop:=
 ∃f fd ps,fG P w K mg base n5 k f fd ps (pK K n Fm)/\mg x=some (.ref f)/\R7 K (.ref f)=true/\Binds K fd ps []
theorem JT {P:Rb}{w:RD}{K:QK}{mg:Str->Option QM}{base:Sn}{x QF:Str}{st:T9}{f:Q4}{fd:Rq}{N ps:List Str}{k:Nat}{Fm:List S->M R}(F:cK K x QF st f fd) (hm:mg x=some (.ref f)) (Sc:bf N ps (ay st))
  (hbi:∀(kV doc pm:QM) (an:Option Q4) (cdv ct:QM) (us:List QM),us.length=ps.length->Yt (Q6 x QF (aU st) (aQ st) (ay st) .none kV doc pm an cdv ct) ⟨us,[]⟩=pure (ps.zip us)){gB:G O}
  (hb:∀(cdv:QM) (A:RG) (outer:List Env) (s:QN) (H:Hp) (E:XK) (J:Hp) (T:Exc->Prop),cV k (A.deeper (WE QF (ay st) s.heap.objs.size f cdv))->
   GL (GR P w K mg base N QF (ay st) f cdv A outer s H E) ⟨K,H,J,T⟩ (aQ st) gB)
  (hF:∀as r,as.length=ps.length->Fm as=.ok r->fin (gB (aZ N as))=.ok r):bC P w K mg base (k + 1) ps.length x Fm:=
 ⟨f,fd,ps,Dk F Sc hb hF,hm,F.kp,F.binds hbi⟩
noncomputable def Ft:List Str->Bool
 | []=>true
 | x::r=>!(r.contains x) && Ft r
theorem bR:∀{l:List Str},Ft l=true->l.Nodup
 | [],_=>T6
 | x::r,h=>by
  unfold Ft at h
  rw [QX] at h
  refine SM.mpr ⟨λz=>?_,bR h.2⟩
  have:=h.1
  simp [z] at this
theorem EY {X:Cx}{Qz:List (Q4×Obj)}{σ:L2.St}{H:Hp}{s:QN}{a C:Q4}{dx:Option Q4}{ns:List Str}{vs:List V}(I:L2.Inv X Qz σ H s) (h:H a=some (DX.XO a C dx)) (xf:XF H dx ns vs):∃ox od,UT s.heap a ox C od/\od.isSome=dx.isSome/\(∀d,dx=some d->∃o,od=some o/\s.heap.get? d=some o):=by
 obtain ⟨⟨oe,fs,h1,h2,h3,h4⟩,_⟩:=I.hok a _ h
 have hn:Z7 oe=true:=by unfold Z7;rw [h4]
 rcases xf with ⟨rfl,_⟩ | ⟨d,rfl,_,hd⟩
 ·exact ⟨oe,none,⟨h1,h2,hn,by rw [h3];exact XX⟩,rfl,λd z=>by cases z⟩
 ·obtain ⟨m,⟨o,es,ep,k1,_⟩,_⟩:=I.hok d _ hd
  exact ⟨oe,some o,⟨h1,h2,hn,by rw [h3];exact k1⟩,rfl,λd' z=>by cases z;exact ⟨o,rfl,k1⟩⟩
noncomputable def Ct (T:String):Prop:=(∀(K:QK) (t:String),t∈["NoneType","bool","int","str","tuple","list","dict"]->Yb K (.type t) (.type T)=some (pO t T))/\ZH T=true/\DX.zb.contains (.type T)=false/\pO "exc" T=false
theorem Au:Ct "int":=⟨λK t h=>by
 simp only [Rc,SW,or_false] at h
 rcases h with rfl | rfl | rfl | rfl | rfl | rfl | rfl <;> rfl,by decide +kernel,by decide,by decide⟩
theorem yh:Ct "bool":=⟨λK t h=>by
 simp only [Rc,SW,or_false] at h
 rcases h with rfl | rfl | rfl | rfl | rfl | rfl | rfl <;> rfl,by decide +kernel,by decide,by decide⟩
theorem kit_tuple:Ct "tuple":=⟨λK t h=>by
 simp only [Rc,SW,or_false] at h
 rcases h with rfl | rfl | rfl | rfl | rfl | rfl | rfl <;> rfl,by decide +kernel,by decide,by decide⟩
theorem zA {T:String}(kit:Ct T):
  bU X (.builtin "isinstance") (λxs H Q=>∃d x,xs=[x,.ty T]/\Rep X.K H d x/\Q (.bl (pO (kJ d) T)) H):=by
 intro Qz s σ H xs us Q I r h
 obtain ⟨d,x,rfl,hd,q⟩:=h
 obtain ⟨u,w',rfl,rx,ry⟩:=vals2 r
 cases ry
 have fin:∀tk,EP X Qz σ Q (.bool (pO (kJ d) T)) {s with toks:=tk}:=λtk=>⟨.bl _,H,I.tok tk,rfl,q⟩
 have F:=fP I
 cases hd with
 | non=>cases rx;exact S_ W.kitx_none I.kIn XX (kit.1 X.K _ (by simp [kJ])) (λz=>nomatch z) fin
 | bl y=>cases rx;exact S_ W.kitx_bool I.kIn XX (kit.1 X.K _ (by simp [kJ])) (λz=>nomatch z) fin
 | int i=>obtain ⟨t,rfl⟩:=rx;exact S_ W.kitx_int I.kIn XX (kit.1 X.K _ (by simp [kJ])) (λz=>nomatch z) fin
 | str y=>obtain ⟨t,rfl⟩:=rx;exact S_ W.kitx_str I.kIn XX (kit.1 X.K _ (by simp [kJ])) (λz=>nomatch z) fin
 | tup h hs=>
  cases rx
  obtain ⟨QA,r,o,h1,h2,_⟩:=F.t _ _ h
  exact S_ W.kitx_tuple I.kIn ⟨o,h1,h2⟩ (kit.1 X.K _ (by simp [kJ])) (λz=>nomatch z) fin
 | lst h hs=>
  cases rx
  obtain ⟨QA,r,o,h1,h2,_⟩:=F.l _ _ h
  exact S_ W.kitx_list I.kIn ⟨o,h1,h2⟩ (kit.1 X.K _ (by simp [kJ])) (λz=>nomatch z) fin
 | emp h=>
  cases rx
  obtain ⟨o,h1,h2⟩:=F.e _ h
  exact S_ Y5 I.kIn ⟨o,h1,h2⟩ (kit.1 X.K _ (by simp [kJ])) (λz=>nomatch z) fin
 | dct h _ _ _ _=>
  cases rx
  obtain ⟨o,es,h1,h2,_⟩:=F.d _ _ _ h
  exact S_ Y5 I.kIn ⟨o,h1,h2.1⟩ (kit.1 X.K _ (by simp [kJ])) (λz=>nomatch z) fin
 | exn h1 h2 h3 hs hx=>
  cases rx
  obtain ⟨P,G,E⟩:=hx
  obtain ⟨ox,od,J,_⟩:=EY I h1 h3
  simp only [kJ,kit.2.2.2] at fin
  exact S_ (DX.E_ G E) I.kIn ⟨ox,od,J⟩ (DX.KL E kit.2.1 kit.2.2.1) (λz=>nomatch z) fin
noncomputable def xZ (T:String) (g:G R):G R:=λenv=>g env >>= λr=>.ok (.d (.bl (pO (kJ r.dat) T)))
noncomputable def jm:List D->Option (List Bool)
 | []=>some []
 | .bl k::r=>(jm r).map (k::·)
 | _::_=>none
theorem oG {K:QK}{J:Hp}:∀{ds:List D}{vs:List V}{ks:List Bool},jm ds=some ks->aF K J ds vs->vs=ks.map V.bl
 | [],_,_,h,.nil=>by cases h;rfl
 | .bl x::r,_,ks,h,.cons q rs=>by
  unfold jm at h
  cases z:jm r with
  | none=>rw [z] at h;cases h
  | some ks'=>
   rw [z] at h
   cases h
   cases q
   rw [oG z rs]
   rfl
theorem rA:∀{ks:List Bool}{us:List QM},Vals (ks.map V.bl) us->us=ks.map Ua
 | [],_,.nil=>rfl
 | k::ks,_,.cons r rs=>by
  cases r
  rw [rA rs]
  rfl
theorem all_range (ks:List Bool):(QU ks.length).all (λi=>ks.getD i true)=ks.all id:=by
 induction ks with
 | nil=>rfl
 | cons k r ih=>
  rw [Sh,Vu,UI,Xz,UI]
  simp only [Yk]
  rw [<-ih]
  rfl
theorem CM (hc:X.calm=true):bU X (.builtin "all") (λxs H Q=>∃(p:Q4) (ks:List Bool),xs=[.ref p]/\cG X.K H p (ks.map V.bl)/\Q (.bl (ks.all id)) H):=by
 intro Qz s σ H xs us Q I r h
 obtain ⟨p,ks,rfl,hq,q⟩:=h
 obtain ⟨u,rfl,rx⟩:=vals1 r
 cases rx
 obtain ⟨QA,r',pl,hz⟩:=I.list hq
 have hi:=rA r'
 subst hi
 have PM:p≠s.heap.objs.size:=by
  obtain ⟨o,h1,_⟩:=pl.isList
  exact Rn (Q8 h1)
 refine call_all_walk (WH pl.isList ⟨s.heap.objs.size,_,_,_,_,_,(λi=>ks.getD i true),rfl,abJ (A:=X.A.in1) (show X.A.in1.handled=none from I.ok.hd hc) s.heap.objs.size p PM (ks.map Ua).toArray,⟨⟨_,Q7 _ rfl,rfl,rfl⟩,Zu pl.isList _⟩,?_,λh' tk k=>?_⟩)
 ·intro i v s' Q' E' hP hQ
  have e:∃k,ks[i]?=some k/\v=.bool k:=by
   have hP':(ks.map Ua)[i]?=some v:=by simpa using hP
   rw [Rj] at hP'
   cases z:ks[i]? with
   | none=>rw [z] at hP';cases hP'
   | some k=>rw [z] at hP';cases hP';exact ⟨k,rfl,rfl⟩
  obtain ⟨k,e1,rfl⟩:=e
  simp only at hQ
  rw [RH,e1] at hQ
  exact R6 hQ
 ·have sz:(ks.map Ua).toArray.size=ks.length:=by simp
  rw [sz,all_range]
  refine ⟨.bl (ks.all id),H,?_,rfl,q⟩
  refine I.kept λb o e=>k b o (λz=>?_) (QV _ e)
  have:b=s.heap.objs.size:=by simpa using z
  exact absurd (this▸Q8 e) (SJ _)
noncomputable def qN:List R->M R
 | [r]=>jI r >>= λxs=>match jm xs with
  | some ks=>.ok (.d (.bl (ks.all id)))
  | none=>.bad
 | _=>.bad
theorem CJ:R1 "all"=some (.builtin "all"):=by decide +kernel
noncomputable def Oo (neg:Bool):R->R->M R
 | .d (.str i),.d (.str j)=>.ok (.d (.bl (if neg then !(!(W2 j i 0 j.length 1).isEmpty) else !(W2 j i 0 j.length 1).isEmpty)))
 | _,_=>.bad
noncomputable def Ow (p q:Int->Int->Bool) (ga gb gc:G R):G R:=λenv=>ga env >>= λx=>gb env >>= λy=>match x,y with
 | .d (.int i),.d (.int j)=>if p i j then (gc env >>= λz=>match z with
  | .d (.int k)=>.ok (.d (.bl (q j k)))
  | _=>.bad) else .ok (.d (.bl false))
 | _,_=>.bad
noncomputable def xW:List R->M R
 | [.d (.int i),.d (.int j)]=>.ok (.d (.int (if j > i then j else i)))
 | _=>.bad
theorem IB {d:D}{v:V}{x:Str}{u:QM}(hm:X.mg x=some u) (r:RelV v u) (hr:∀J,Rep c.K J d v) (hg:Gl X x:=by rfl) (hd:(x == ("__debug__":Str))=false:=by decide):PD X c (.Name x pos) (gC d):=sX hr (AB hg hm r hd)
theorem JR {Qz:List (Q4×Obj)}{σ:L2.St}{H:Hp}{s:QN}(I:Inv X Qz σ H s):Uv < s.heap.objs.size:=by
 have h:Rt < s.heap.objs.size:=(I.mod.glob.keeps I.bk).lt
 exact U7 (by decide) h
theorem DJ:c_ X (UG .Add) (λx y H Q=>∃a b xs ys,x=.ref a/\y=.ref b/\cX X.K H a xs/\cX X.K H b ys/\xs.length + ys.length<=sizeLine/\
  (xs=[]->Q (.ref b) H)/\(ys=[]->Q (.ref a) H)/\∀p,H p=none->Q (.ref p) (upd H p (.tup (xs++ys)))):=by
 intro Qz s σ H x y v u Q I rx ry h
 obtain ⟨a,b,xs,ys,rfl,rfl,ha,hb,hz,q0,q1,q2⟩:=h
 by_cases hx:xs=[]
 ·cases rx
  cases ry
  obtain ⟨QA,r1,p1,_⟩:=I.tuple ha
  obtain ⟨its2,r2,p2,_⟩:=I.tuple hb
  have he:QA=[]:=r1.nil_iff.mpr hx
  subst he
  obtain ⟨⟨cls,dd,data,sl⟩,ho,hc,n,hd⟩:=id p1
  obtain ⟨⟨cls2,dd2,data2,sl2⟩,ho2,hc2,n2,hd2⟩:=id p2
  simp only at hc hd hc2 hd2
  subst hc hd hc2 hd2
  exact Zg ⟨_,ho,rfl⟩ ⟨_,ho2,rfl⟩ Xa Yw Vr Ve (U4 _ _) (tuple_addW0 a b _ _ n n2 dd dd2 sl sl2 rfl) ⟨ho,ho2,⟨.ref b,H,I,rfl,q0 hx⟩⟩
 ·exact Ip Qz s σ H (.ref a) (.ref b) v u Q I rx ry ⟨a,b,xs,ys,rfl,rfl,ha,hb,hx,hz,q1,λ_=>q2⟩
noncomputable def Br:R->R->M R
 | .d (.tup xs),.d (.tup ys)=>if xs.length + ys.length<=sizeLine then .ok (.d (.tup (xs++ys))) else .bad
 | _,_=>.bad
theorem Hz (hK:X.K=c.K):BD c (λx y H Q=>∃a b xs ys,x=.ref a/\y=.ref b/\cX X.K H a xs/\cX X.K H b ys/\xs.length + ys.length<=sizeLine/\
  (xs=[]->Q (.ref b) H)/\(ys=[]->Q (.ref a) H)/\∀p,H p=none->Q (.ref p) (upd H p (.tup (xs++ys)))) Br:=by
 intro He He' J H x y u v Q hp rx ry w
 unfold Br at w
 split at w
 ·rename_i ds es
  cases rx with
  | tup h1 s1=>
   cases ry with
   | tup h2 s2=>
    split at w
    ·rename_i hz
     rw [s1.length,s2.length] at hz
     refine ⟨_,_,_,_,rfl,rfl,by rw [hK];exact fB hp.sub h1,by rw [hK];exact fB hp.sub h2,hz,λe=>?_,λe=>?_,λp hp'=>w _ _ _ (Ext.newJ hp.sub hp' _) (mZ hp hp' (s1.append s2))⟩
     ·have e':ds=[]:=VO (by rw [s1.length,e];rfl)
      subst e'
      exact w _ J H (Ext.refl hp.sub) (.tup h2 s2)
     ·have e':es=[]:=VO (by rw [s2.length,e];rfl)
      subst e'
      rw [S8] at w
      exact w _ J H (Ext.refl hp.sub) (.tup h1 s1)
    ·exact w.elim
 ·exact w.elim
noncomputable def Kq:R->Bool
 | .d (.tup _)=>true
 | _=>false
noncomputable def cY (x y:R):M R:=if Kq x then Br x y else dD x y
noncomputable def intsOf:List D->Option (List Int)
 | []=>some []
 | .int i::r=>(intsOf r).map (i::·)
 | _::_=>none
theorem nF {K:QK}{J:Hp}:∀{ds:List D}{vs:List V}{ns:List Int},intsOf ds=some ns->aF K J ds vs->vs=ns.map V.int
 | [],_,_,h,.nil=>by cases h;rfl
 | .int x::r,_,ks,h,.cons q rs=>by
  unfold intsOf at h
  cases z:intsOf r with
  | none=>rw [z] at h;cases h
  | some ks'=>
   rw [z] at h
   cases h
   cases q
   rw [nF z rs]
   rfl
noncomputable def signs (x:Str):List D:=x.cps.toList.map λk=>.str ⟨#[k]⟩
noncomputable def Oq (g:G R):G (List D):=λenv=>g env >>= λr=>match r with
 | .d (.str x)=>.ok (signs x)
 | _=>.bad
theorem zP {prog:Rb}{w:RD}{A:RG}{E:QM->QN->Prop}{s:QN}{t sl:Q4}{items:Array QM}{vl vu:QM}{lo hi:Option Int}{Q:QM->QN->Prop}(ht:aaW s.heap t items) (hs:s.heap.IsSliceOf sl vl vu .none) (pl:Yx vl lo) (pu:Yx vu hi)
  (hw:HT.bK items.size 0 lo=0/\HT.bK items.size items.size hi=items.size) (h:Q (.ref t) s):Rg (Rk prog w) A (Xw (.ref t) (.ref sl)) Q E s:=by
 obtain ⟨os,hos,hcs,hds⟩:=id hs
 have O7:s.TypeIs (.ref sl) "slice":=⟨os,hos,hcs⟩
 unfold Xw
 try with_reducible refine Ru ?_
 first | refine QJ (QL ?_) | skip
 refine QJ (WG ht.typeIs (by decide) ?_)
 refine QJ (Sj (name:=U5 "__getitem__") ht.typeIs RC
  (RL RC ht.typeIs V7 ?_ (Wl _ _)))
 show Rg _ _ (TL (.ref t) >>= _) _ _ s
 refine QJ (Yz ht ?_)
 refine QJ (U6 O7 ?_)
 rw [if_pos (by decide)]
 refine QJ (HT.kF hs pl pu ?_)
 have hyes:(((HT.bK items.size 0 lo:Nat):Int) == 0 && (1:Int) == 1 && (HT.bK items.size items.size hi - HT.bK items.size 0 lo) == items.size)=true:=by
  rw [hw.1,hw.2]
  simp
 show Rg _ _ (if (((HT.bK items.size 0 lo:Nat):Int) == 0 && (1:Int) == 1 && (HT.bK items.size items.size hi - HT.bK items.size 0 lo) == items.size)=true then _ else _) _ _ s
 rw [if_pos hyes]
 unfold Z4
 refine QJ (QJ (U6 ht.typeIs (QL ?_)))
 rw [if_pos (by decide)]
 exact QJ (WI (QL ⟨_,rfl,QL h⟩))
theorem Eg:rO X (λx lo hi H Q=>∃a xs,x=.ref a/\cX X.K H a xs/\((HT.bK xs.length 0 lo=0/\HT.bK xs.length xs.length hi=xs.length)->Q (.ref a) H)/\∀p,H p=none->Q (.ref p) (upd H p (.tup (lM xs lo hi)))):=by
 intro Qz s σ H x v vl vu lo hi sl Q I rx hs pl pu h
 obtain ⟨a,xs,rfl,hx,q0,q1⟩:=h
 by_cases hw:HT.bK xs.length 0 lo=0/\HT.bK xs.length xs.length hi=xs.length
 ·cases rx
  obtain ⟨QA,r,ht,hz⟩:=I.tuple hx
  have hlen:QA.toArray.size=xs.length:=by rw [Q2];exact r.length.symm
  exact ⟨"tuple",_,RC.lookup,ht.typeIs,zP ht hs pl pu (by rw [hlen];exact hw) ⟨.ref a,H,I,rfl,q0 hw⟩⟩
 ·exact LK Qz s σ H (.ref a) v vl vu lo hi sl Q I rx hs pl pu ⟨a,xs,rfl,hx,hw,q1⟩
theorem Bo {xs:List D}{lo hi:Option Int}(h:HT.bK xs.length 0 lo=0/\HT.bK xs.length xs.length hi=xs.length):cutD xs lo hi=xs:=by
 unfold cutD
 rw [h.1,h.2]
 simp
noncomputable def EZ:R->Option Int->Option Int->M R
 | .d (.tup xs),l,u=>.ok (.d (.tup (cutD xs l u)))
 | _,_,_=>.bad
theorem NP (hK:X.K=c.K) (He J H:Hp) (x:R) (v:V) (l u:Option Int) (Q:VK) (hp:HI c J H) (rx:RR c He J H x v) (w:cD (EZ x l u) (λz=>∀w J' H',Ext J H J' H'->RR c H J' H' z w->Q w H') c.T):
  ∃a xs,v=.ref a/\cX X.K H a xs/\((HT.bK xs.length 0 l=0/\HT.bK xs.length xs.length u=xs.length)->Q (.ref a) H)/\∀p,H p=none->Q (.ref p) (upd H p (.tup (lM xs l u))):=by
 unfold EZ at w
 split at w
 ·rename_i ds
  cases rx with
  | tup h1 s1=>
   refine ⟨_,_,rfl,by rw [hK];exact fB hp.sub h1,λhw=>?_,λp hp'=>w _ _ _ (Ext.newJ hp.sub hp' _) (mZ hp hp' (s1.cut _ _))⟩
   rw [<-s1.length] at hw
   rw [Bo hw] at w
   exact w _ J H (Ext.refl hp.sub) (.tup h1 s1)
 ·exact w.elim
noncomputable def lN (x:R) (l u:Option Int):M R:=if Kq x then EZ x l u else Np x l u
theorem zJ {prog:Rb}{w:RD}{A:RG}{E:QM->QN->Prop}{s:QN}{sl:Q4}{t:Tok}{n:Nat}{Q:Int×Int×Nat->QN->Prop}(hs:s.heap.IsSliceOf sl .none .none (.int (-1) t))
  (h:Q ((n:Int) - 1,-1,n) s):Rg (Rk prog w) A (TJ (.ref sl) (pure (n:Int))) Q E s:=by
 obtain ⟨os,hos,hcs,hds⟩:=id hs
 unfold TJ Wt
 refine QJ (QJ (V6 hos hds (x:=.none) rfl (QJ (V6 hos hds (x:=.none) rfl (QJ (V6 hos hds (x:=.int (-1) t) rfl (QL ?_)))))))
 refine QJ (aaB ?_)
 show Rg _ _ (if ((-1:Int) == 0)=true then _ else _) _ _ s
 rw [if_neg (by decide)]
 refine QJ (Ws (QJ (Ws (QJ (QL ?_)))))
 have e1:S7 none none (-1) (n:Int)=((n:Int) - 1,-1):=rfl
 have e2:RT ((n:Int) - 1) (-1) (-1)=n:=by
  unfold RT
  rw [if_neg (by decide)]
  split
  ·simp only [Int.neg_neg,aaZ]
   omega
  ·omega
 show Rg _ _ (match S7 none none (-1) (n:Int) with | (lo,hi)=>pure (lo,(-1:Int),RT lo hi (-1))) _ _ s
 rw [e1]
 show Rg _ _ (pure ((n:Int) - 1,(-1:Int),RT ((n:Int) - 1) (-1) (-1))) _ _ s
 rw [e2]
 exact QL h
theorem Dj {α β:Type}{f:α->Option β}{g:α->β}:∀(l:List α),(∀m∈l,f m=some (g m))->l.filterMap f=l.map g
 | [],_=>rfl
 | x::r,h=>by
  rw [UZ,h x QW,Ra]
  simp only
  rw [Dj r λm hm=>h m (QS _ hm)]
theorem FT (xs:Array QM):((QU xs.size).filterMap λ(m:Nat)=>xs[(((xs.size:Int) - 1) + (m:Int) * (-1)).toNat]?)=xs.toList.reverse:=by
 have e:((QU xs.size).filterMap λ(m:Nat)=>xs[(((xs.size:Int) - 1) + (m:Int) * (-1)).toNat]?)=(QU xs.size).map λm=>(xs.toList.reverse).getD m .none:=by
  refine Dj _ λm hm=>?_
  have hm':m < xs.size:=Ri.mp hm
  have e1:(((xs.size:Int) - 1) + (m:Int) * (-1)).toNat=xs.size - 1 - m:=by omega
  rw [e1]
  simp [RH,hm',XA,show xs.size - 1 - m < xs.size by omega]
 rw [e]
 refine Us (by simp) λi h1 h2=>?_
 simp [RH]
 have:i < xs.size:=by simpa using h1
 simp [XA,this,show xs.size - 1 - i < xs.size by omega]
theorem En {prog:Rb}{w:RD}{A:RG}{E:QM->QN->Prop}{s:QN}{t sl:Q4}{items:Array QM}{k:Tok}{Q:QM->QN->Prop}(ht:aaW s.heap t items) (hs:s.heap.IsSliceOf sl .none .none (.int (-1) k))
  (h:Q (.ref s.heap.objs.size) {s with heap:=s.heap.push {cls:=.type "tuple",data:=.seq items.toList.reverse.toArray}}) (hsz:items.size<=sizeLine):Rg (Rk prog w) A (Xw (.ref t) (.ref sl)) Q E s:=by
 obtain ⟨os,hos,hcs,hds⟩:=id hs
 have O7:s.TypeIs (.ref sl) "slice":=⟨os,hos,hcs⟩
 have OA:sizeOk (.seq items.toList.reverse.toArray):=by
  show items.toList.reverse.toArray.size<=sizeLine
  simpa using hsz
 unfold Xw
 try with_reducible refine Ru ?_
 first | refine QJ (QL ?_) | skip
 refine QJ (WG ht.typeIs (by decide) ?_)
 refine QJ (Sj (name:=U5 "__getitem__") ht.typeIs RC
  (RL RC ht.typeIs V7 ?_ (Wl _ _)))
 show Rg _ _ (TL (.ref t) >>= _) _ _ s
 refine QJ (Yz ht ?_)
 refine QJ (U6 O7 ?_)
 rw [if_pos (by decide)]
 refine QJ (zJ hs ?_)
 have hno:¬((((items.size:Int) - 1) == 0 && (-1:Int) == 1 && items.size == items.size)=true):=by
  intro q
  rw [QX,QX] at q
  exact absurd (eq_of_beq q.1.2) (by decide)
 show Rg _ _ (if (((items.size:Int) - 1) == 0 && (-1:Int) == 1 && items.size == items.size)=true then _ else _) _ _ s
 rw [if_neg hno,FT]
 first
  | exact QJ (m:=RY _) (Rw (QL ⟨_,rfl,QL h⟩) OA)
  | exact QJ (m:=RY _) (Rw (QJ (QL (QL ⟨_,rfl,QL h⟩))) OA)
  | exact QJ (QJ (m:=RY _) (Rw (QL (QL ⟨_,rfl,QL h⟩)) OA))
  | exact QJ (QJ (m:=RY _) (Rw (QL ⟨_,rfl,QL h⟩) OA))
theorem aF.rev {K:QK}{J:Hp}:∀{ds:List D}{vs:List V},aF K J ds vs->aF K J ds.reverse vs.reverse
 | _,_,.nil=>.nil
 | _,_,.cons h hs=>by
  rw [Vy,Vy]
  exact (aF.rev hs).append (.cons h .nil)
noncomputable def Bx (g:G R):G R:=λenv=>g env >>= λr=>match r with
 | .d (.tup xs)=>.ok (.d (.tup xs.reverse))
 | _=>.bad
noncomputable def AZ (K:QK) (mg:Str->Option QM) (x:Str) (d:D):Prop:=∃u v,mg x=some u/\RelV v u/\∀J,Rep K J d v
theorem Mz {j:Nat}{p q:Pos}:PE X (.UnaryOp .USub (.Constant (.int 1) j p) q) (tC (.int (-1))):=eV (G4 Er DV) λσ H Q h=>⟨1,rfl,h⟩
theorem uS:R1 "int"=some (.type "int"):=by decide +kernel
theorem rW:R1 "bool"=some (.type "bool"):=by decide +kernel
theorem zq:R1 "tuple"=some (.type "tuple"):=by decide +kernel
end
section
variable {X:Cx}{c:C}{e a b tg:Rz}{es:List Rz}{ga gb g:G R}{pos:Pos}{st:T9}{t u:G O}{tb:G Bool}
noncomputable def wI:G O:=λ_=>.bad
noncomputable def E2 (g:G R):G R:=λenv=>g env >>= λr=>match r with
 | .d (.int i)=>.ok (.d (.int (-i)))
 | _=>.bad
noncomputable def y9:R->M Bool
 | .d .non=>.ok false
 | .d (.bl b)=>.ok b
 | .d (.int i)=>.ok (i != 0)
 | .d (.str y)=>if y.length<=sizeLine then .ok ((y.length:Int) != 0) else .bad
 | .d (.tup xs)=>.ok (!xs.isEmpty)
 | .d (.lst xs)=>.ok (!xs.isEmpty)
 | .d .emp=>.ok false
 | .d (.exn _ _ _)=>.bad
 | .d (.dct _ _)=>.bad
 | .l _ xs=>.ok (!xs.isEmpty)
 | _=>.bad
theorem Ko {K:QK}{J:Hp}{ds:List D}{vs:List V}(h:aF K J ds vs):ds.isEmpty=vs.isEmpty:=by
 cases h <;> rfl
theorem Jt {He J H:Hp}(hp:HI c J H){Q:Bool->Prop}{T:Exc->Prop}:∀{r:R}{v:V},RR c He J H r v->cD (y9 r) Q T->∃k,EH c.K v H k/\Q k
 | .d .non,_,h,w=>by cases h;exact ⟨_,rfl,w⟩
 | .d (.bl b),_,h,w=>by cases h;exact ⟨_,rfl,w⟩
 | .d (.int i),_,h,w=>by cases h;exact ⟨_,rfl,w⟩
 | .d (.str y),_,h,w=>by
  cases h
  unfold y9 at w
  simp only at w
  split at w
  ·rename_i hz;exact ⟨_,⟨hz,rfl⟩,w⟩
  ·exact w.elim
 | .d (.tup xs),_,h,w=>by
  cases h with
  | tup h1 h2=>exact ⟨_,.inr (.inl ⟨_,fB hp.sub h1,rfl⟩),by rw [<-Ko h2];exact w⟩
 | .d (.lst xs),_,h,w=>by
  cases h with
  | lst h1 h2=>exact ⟨_,.inl ⟨_,hp.sub.seq h1,rfl⟩,by rw [<-Ko h2];exact w⟩
 | .d .emp,_,h,w=>by
  cases h with
  | emp h1=>exact ⟨_,.inr (.inr ⟨_,hp.sub _ _ h1,rfl⟩),w⟩
 | .d (.exn _ _ _),_,_,w=>w.elim
 | .d (.dct _ _),_,_,w=>w.elim
 | .mo _ _,_,_,w=>w.elim
 | .mb _ _,_,_,w=>w.elim
 | .mf _ _,_,_,w=>w.elim
 | .l m xs,_,h,w=>by
  obtain ⟨a,vs,rfl,h1,h2⟩:=RR.list hp h rfl
  exact ⟨_,.inl ⟨_,h1,rfl⟩,by rw [<-Ko h2];exact w⟩
noncomputable def ur (g:G R):G Bool:=λenv=>g env >>= y9
noncomputable def kL (tb:G Bool) (u:G O):Nat->Ev->M O
 | 0,_=>.bad
 | n + 1,env=>tb env >>= λk=>if k=true then u env >>= λo=>(match o with
  | .nx e=>kL tb u n e
  | .ct e=>kL tb u n e
  | .bk e=>.ok (.nx e)
  | .rt r=>.ok (.rt r)) else .ok (.nx env)
noncomputable def x_ (n:Nat) (tb:G Bool) (u:G O):G O:=λenv=>kL tb u n env
theorem aF.eraseIdx {K:QK}{J:Hp}:∀{ds:List D}{vs:List V}(k:Nat),aF K J ds vs->aF K J (ds.eraseIdx k) (vs.eraseIdx k)
 | _,_,_,.nil=>by rw [Y6,Y6];exact .nil
 | _,_,0,.cons _ t=>t
 | _,_,k + 1,.cons r t=>.cons r (aF.eraseIdx k t)
noncomputable def Ou (i j:Nat):G O:=λenv=>match env[j]? with
 | some (some (.own xs))=>(match xs[xs.length - 1]? with
  | some d=>.ok (.nx ((env.set j (some (.own xs.dropLast))).set i (some (.d d))))
  | none=>.bad)
 | _=>.bad
noncomputable def mH (i j:Nat) (g:G R):G O:=λenv=>match env[i]?,env[j]? with
 | some (some (.own zs)),some (some (.own xs))=>if i=j then .bad else g env >>= λr=>(match r with
  | .d (.int k)=>if 0<=k/\k.toNat < xs.length/\zs.length < sizeLine/\xs.length<=sizeLine then (match xs[k.toNat]? with
   | some d=>.ok (.nx ((env.set j (some (.own (xs.eraseIdx k.toNat)))).set i (some (.own (zs++[d])))))
   | none=>.bad) else .bad
  | _=>.bad)
 | _,_=>.bad
theorem ML {k:Int}{n:Nat}(h0:0<=k) (h:k.toNat < n):YC k n=some k.toNat:=by
 unfold YC
 have h1:¬k < 0:=by omega
 have h2:k < n:=by omega
 simp [h1,h0,h2]
theorem K5 {J H:Hp}{σ:L2.St}{env:Ev}(sr:SR c J H σ env){i j:Nat}{xs ys:List D}{p q:Q4}(hij:i≠j) (hi:env[i]?=some (some (.own xs))) (hj:env[j]?=some (some (.own ys))) (h1:σ[i]?=some (some (.ref p))) (h2:σ[j]?=some (some (.ref q))):p≠q:=λz=>
 sr.sep i j (.inl xs) (.inl ys) (.ref p) hij hi hj h1 (z▸h2)
end
open PySem.AutoSeq1 in
theorem Di (T:String) (hT:T="tuple"\/T="list") (l b:Q4) (xs ys:Array QM) (n m:Nat) (dd:Option Q4) (sl:Array (Option QM)) (z0:¬(!xs.isEmpty && Te (xs.size + ys.size))=true) (z1:xs.size<=sizeLine) (z2:xs.size + ys.size<=sizeLine + 1):
  Meets (U1.«list.extend» ⟨[.ref l,.ref b],[]⟩) λ_ R s=>s.heap.get? l=some {cls:=.type "list",dict:=none,data:=.seq xs n,slots:=#[]}/\
   s.heap.get? b=some {cls:=.type T,dict:=dd,data:=.seq ys m,slots:=sl}/\R (.ok (.ret RN)) {s with heap:=s.heap.update l (SA λx=>x++ys),toks:=s.toks}:=
 .of_wp λprog w A R s h=>by
  obtain ⟨hp,gs,dr,tk,os⟩:=s
  obtain ⟨h1,h2,h3⟩:=h
  have t1:=AutoSeq1.idx_int
  have t2:=U8
  have t3:=AutoSeq1.sub_list_list
  have t4:=AutoSeq1.sub_tuple_list
  have t5:=AutoSeq1.sub_list_tuple
  have z3:(xs++ys).size<=sizeLine + 1:=by
   rw [Y4]
   exact z2
  rcases hT with rfl | rfl
  ·wp_walk using (Wa h1 rfl (hz:=z1) (_hz':=z3)),Tw h1,Tw h2
   exact ⟨_,rfl,h3⟩
  ·wp_walk using (Wa h1 rfl (hz:=z1) (_hz':=z3)),Tw h1,Tw h2
   exact ⟨_,rfl,h3⟩
section
variable {X:Cx}{c:C}{e a b tg:Rz}{es:List Rz}{ga gb g:G R}{pos:Pos}
noncomputable def Nz (K:QK):V->List V->Hp->VK->Prop:=λx vs H Q=>∃l b xs zs,x=.ref l/\vs=[.ref b]/\H l=some (.lst xs)/\(cG K H b zs\/cX K H b zs)/\xs.length + zs.length<=sizeLine/\Q .non (upd H l (.lst (xs++zs)))
theorem KS:GJ X "list.extend" (Nz X.K):=by
 intro Qz s σ H x vs v us Q I rx rv h
 obtain ⟨l,b,xs,zs,rfl,rfl,hH,hB,hz,q⟩:=h
 cases rx
 obtain ⟨u,rfl,ru⟩:=rv.one
 cases ru
 obtain ⟨z,QA,n,r,hl,e⟩:=I.lstM hH
 have obj:∃T its2,(T="tuple"\/T="list")/\Vals zs its2/\∃dd m sl,s.heap.get? b=some {cls:=.type T,dict:=dd,data:=.seq its2.toArray m,slots:=sl}:=by
  rcases hB with hB | hB
  ·obtain ⟨its2,r2,pl,_⟩:=I.list hB
   obtain ⟨⟨cls,dd,data,sl⟩,ho,hc,m,hd⟩:=pl.isList
   simp only at hc hd
   subst hc hd
   exact ⟨"list",its2,.inr rfl,r2,dd,m,sl,ho⟩
  ·obtain ⟨its2,r2,pl,_⟩:=I.tuple hB
   obtain ⟨⟨cls,dd,data,sl⟩,ho,hc,m,hd⟩:=pl
   simp only at hc hd
   subst hc hd
   exact ⟨"tuple",its2,.inl rfl,r2,dd,m,sl,ho⟩
 obtain ⟨T,its2,hT,r2,dd,m,sl,e2⟩:=obj
 have hl2:=r2.length
 have hsz:QA.toArray.size + its2.toArray.size<=sizeLine:=by rw [Q2,Q2];omega
 have OO:¬(!QA.toArray.isEmpty && Te (QA.toArray.size + its2.toArray.size))=true:=by
  rw [yq hsz,Uw]
  exact RB
 refine YY YD ⟨_,e,rfl⟩ Yi (XZ _ _) (Di T hT l b QA.toArray its2.toArray n m dd sl OO (by rw [Q2];omega) (by omega)) ⟨e,e2,?_⟩
 refine ⟨.non,_,I.lset (its':=QA++its2) hH e (by simp) (r.append r2) ?_,rfl,q⟩
 rw [Rm]
 omega
noncomputable def xY (i:Nat) (g:G R):G O:=λenv=>match env[i]? with
 | some (some (.own xs))=>g env >>= λr=>g8 r >>= λys=>if xs.length + ys.length<=sizeLine then .ok (.nx (env.set i (some (.own (xs++ys))))) else .bad
 | _=>.bad
noncomputable def yu:V->Option (Option Bool)
 | .non=>some none
 | .bl k=>some (some k)
 | _=>none
theorem Gq {x y:V}{v u:QM}{o:Option Bool}(rx:RelV x v) (ry:RelV y u) (h:yu y=some o):isSame v u=pure (yu x == some o):=by
 cases y with
 | non=>
  cases h
  cases ry
  cases x with
  | non=>cases rx;rfl
  | bl k=>cases rx;rfl
  | int i=>obtain ⟨t,rfl⟩:=rx;rfl
  | str z=>obtain ⟨t,rfl⟩:=rx;rfl
  | byt z=>obtain ⟨t,rfl⟩:=rx;rfl
  | flt z=>obtain ⟨t,rfl⟩:=rx;rfl
  | ref p=>cases rx;rfl
  | ty n=>cases rx;rfl
 | bl k'=>
  cases h
  cases ry
  cases x with
  | non=>cases rx;rfl
  | bl k=>cases rx;cases k <;> cases k' <;> rfl
  | int i=>obtain ⟨t,rfl⟩:=rx;rfl
  | str z=>obtain ⟨t,rfl⟩:=rx;rfl
  | byt z=>obtain ⟨t,rfl⟩:=rx;rfl
  | flt z=>obtain ⟨t,rfl⟩:=rx;rfl
  | ref p=>cases rx;rfl
  | ty n=>cases rx;rfl
 | _=>cases h
theorem DO:c_ X (Sx .Is) (λx y H Q=>∃o,yu y=some o/\Q (.bl (yu x == some o)) H):=by
 intro Qz s σ H x y v u Q I rx ry h
 obtain ⟨o,ho,q⟩:=h
 show Rg _ _ (do return Ua (<-isSame v u)) _ _ s
 rw [Gq rx ry ho]
 exact QJ (QL (QL ⟨.bl _,H,I,rfl,q⟩))
noncomputable def BO:R->Option (Option Bool)
 | .d .non=>some none
 | .d (.bl k)=>some (some k)
 | _=>none
noncomputable def oM (neg:Bool) (x y:R):M R:=match BO y with
 | some o=>.ok (.d (.bl (if neg then !(BO x == some o) else BO x == some o)))
 | none=>.bad
theorem p6 {He J H:Hp}:∀{r:R}{v:V},RR c He J H r v->yu v=BO r
 | .d .non,_,h=>by cases h;rfl
 | .d (.bl _),_,h=>by cases h;rfl
 | .d (.int _),_,h=>by cases h;rfl
 | .d (.str _),_,h=>by cases h;rfl
 | .d (.tup _),_,h=>by cases h;rfl
 | .d (.lst _),_,h=>by cases h;rfl
 | .d .emp,_,h=>by cases h;rfl
 | .d (.exn _ _ _),_,h=>by cases h;rfl
 | .d (.dct _ _),_,h=>by cases h;rfl
 | .l .fresh _,_,h=>by obtain ⟨_,_,rfl,_⟩:=h;rfl
 | .l .own _,_,h=>by obtain ⟨_,_,rfl,_⟩:=h;rfl
 | .l .bor _,_,h=>by obtain ⟨_,_,rfl,_⟩:=h;rfl
 | .mo _ _,_,h=>by obtain ⟨_,rfl,_⟩:=h;rfl
 | .mb _ _,_,h=>by obtain ⟨_,rfl,_⟩:=h;rfl
 | .mf _ _,_,h=>by obtain ⟨_,rfl,_⟩:=h;rfl
end
section
variable {X:Cx}{c:C}{e a b d tg:Rz}{es:List Rz}{ga gb g:G R}{pos:Pos}
noncomputable def Nr (K:QK) (tl:TE):TI:=λσ H R=>tl σ H λx H1=>∃a,x=.ref a/\(((∃xs,cG K H1 a xs)/\R (GD K a) H1)\/((∃xs,cX K H1 a xs)/\R (GG K a) H1))
theorem DY {tl:TE}(hl:PE X e tl):PI X tg e (Nr X.K tl):=λQz s σ H R I h=>bP (hl Qz s σ H _ I h) λv s1 ⟨x,H1,I1,r1,a,ex,q1⟩=>by
 subst ex
 cases r1
 have fp:∀b∈[s1.heap.objs.size],jB X Qz H1 b:=λb hb=>by
  rw [Q9] at hb
  subst hb
  exact I1.fpOk (QY _) (I1.hok.fresh (QY _))
 rcases q1 with ⟨⟨xs,hq⟩,q⟩ | ⟨⟨xs,hq⟩,q⟩
 ·obtain ⟨QA,rv,p,hz⟩:=I1.list hq
  exact WH p.isList ⟨s1.heap.objs.size,[s1.heap.objs.size],_,_,H1,rfl,I1.kept (t':=s1.toks) (λb o e=>QV _ e),Eo a _,⟨_,Q7 _ rfl,rfl,rfl⟩,fp,q⟩
 ·obtain ⟨QA,rv,p,hz⟩:=I1.tuple hq
  exact Wm (show s1.heap.IsTuple a QA.toArray from p) ⟨s1.heap.objs.size,[s1.heap.objs.size],_,_,H1,rfl,I1.kept (t':=s1.toks) (λb o e=>QV _ e),Cn a _,⟨_,Q7 _ rfl,rfl,rfl⟩,fp,q⟩
theorem vM {J1:Hp}{a:Q4}{vs:List V}{ds:List D}{U:Hp->Hp->Prop}(hU:∀J H,U J H->aT J1 J) (h:cX c.K J1 a vs) (hs:aF c.K J1 ds vs):Walk c (GG c.K a) ds J1 U:=by
 intro i J H hp u
 have h':=fB hp.sub (fB (hU J H u) h)
 refine ⟨λhl=>⟨vs,h',by rw [<-hs.length];exact hl⟩,λd hd=>?_⟩
 obtain ⟨v,k1,k2⟩:=hs.get hd
 refine ⟨⟨vs,v,h',k1⟩,λx H2 ⟨e,hy⟩=>?_⟩
 subst e
 have:=hy vs h'
 rw [k1] at this
 cases this
 exact ⟨J,Ext.refl hp.sub,k2.mono (hU J _ u)⟩
noncomputable def oO (g:G R):G (List D):=λenv=>g env >>= λr=>match r with
 | .d (.tup xs)=>.ok xs
 | .d (.lst xs)=>.ok xs
 | .l .fresh xs=>.ok xs
 | .l .bor xs=>.ok xs
 | _=>.bad
noncomputable def fO (g:G R):G (List D):=λenv=>g env >>= g8
end
section
variable {X:Cx}{c:C}{st:T9}{g:G O}
theorem SR.frz {J H:Hp}{σ:L2.St}{env:Ev}(sr:SR c J H σ env){i:Nat}{x:Mn}{a:Q4}{o:HO}{d:D}(hi:env[i]?=some (some (mS x))) (h1:σ[i]?=some (some (.ref a))) (h2:H a=some o) (h3:J a=none) (h4:c.H0 a=none) (h5:Rep c.K (L2.upd J a o) d (.ref a)):∃J',aT J J'/\SR c J' H σ (env.set i (some (.d d))):=by
 have s1:aT J (L2.upd J a o):=cM h3 _
 refine ⟨L2.upd J a o,s1,⟨⟨λb o q=>?_,sr.hp.ent,sr.hp.entJ.trans s1,λb k1 k2=>?_⟩,by simpa using sr.len,λj y q=>?_,λj k ys zs w hjk q1 q2 q3 q4=>?_⟩⟩
 ·by_cases hb:b=a
  ·subst hb;rw [b_] at q;cases q;exact h2
  ·rw [bA hb] at q;exact sr.hp.sub b o q
 ·have:b≠a:=λz=>k1 (z▸h4)
  rw [bA this];exact sr.hp.frz b k1 k2
 ·rcases gn q with ⟨rfl,hl,rfl⟩ | ⟨hj,q⟩
  ·exact ⟨.ref a,h1,h5⟩
  ·obtain ⟨w,k1,k2⟩:=sr.at_ j y q
   refine ⟨w,k1,?_⟩
   have hne:∀(z:Mn) p',y=mS z->w=.ref p'->p'≠a:=λz p' e ew ep=>sr.sep i j x z (.ref a) (Tt hj) hi (e▸q) h1 (ep▸ew▸k1)
   cases y with
   | d x=>exact Rep.mono s1 k2
   | bor zs=>obtain ⟨p,us,m1,m2,m3⟩:=k2;exact ⟨p,us,m1,m2,m3.mono s1⟩
   | db _ _=>obtain ⟨p,m1,m2⟩:=k2;exact ⟨p,m1,m2.mono s1 (aT.refl _)⟩
   | fn _=>exact k2
   | dk ks zs=>
    obtain ⟨p,rfl,m1,m2,m3⟩:=k2
    exact ⟨p,rfl,m1.mono s1 (aT.refl _),by rw [bA (hne (.inr (ks,zs)) p rfl rfl)];exact m2,m3⟩
   | own zs=>
    obtain ⟨p,us,rfl,m1,m2,m3,m4⟩:=k2
    exact ⟨p,us,rfl,m1,by rw [bA (hne (.inl zs) p rfl rfl)];exact m2,m3,m4.mono s1⟩
 ·have f:∀(k:Nat) (ys:Mn),(env.set i (some (.d d)))[k]?=some (some (mS ys))->env[k]?=some (some (mS ys)):=λk ys q=>by
   rcases gn q with ⟨rfl,_,z⟩ | ⟨_,q⟩
   ·cases ys <;> cases z
   ·exact q
  exact sr.sep j k ys zs w hjk (f j ys q1) (f k zs q2) q3 q4
noncomputable def jD (i:Nat) (g:G O):G O:=λenv=>match env[i]? with
 | some (some (.own xs))=>g (env.set i (some (.d (.lst xs))))
 | some (some (.dk ks vs))=>g (env.set i (some (.d (.dct ks vs))))
 | _=>g env
end
structure QD (X:Cx) (c:C) (x0:Rz) (x1:G R):Prop where
 h:PD X c x0 x1
structure QB (X:Cx) (c:C) (x0:Rz) (x1:G Bool):Prop where
 h:PB X c x0 x1
structure jt (X:Cx) (c:C) (x0:List Rz) (x1:G (List R)):Prop where
 h:zV X c x0 x1
structure CB (X:Cx) (c:C) (x0:List Rz) (x1:G (List D)):Prop where
 h:N5 X c x0 x1
structure iD (X:Cx) (c:C) (x0:T9) (x1:G O):Prop where
 h:zW X c x0 x1
structure oE (X:Cx) (c:C) (x0:List T9) (x1:G O):Prop where
 h:GL X c x0 x1
structure xj (X:Cx) (c:C) (x0:Rz) (x1:G Bool):Prop where
 h:N6 X c x0 x1
structure jY (X:Cx) (c:C) (x0:Rz) (x1:GT):Prop where
 h:iM X c x0 x1
structure A5 (X:Cx) (c:C) (x0:List Rz) (x1:rE):Prop where
 h:Ni X c x0 x1
structure xm (X:Cx) (c:C) (x0:Rz) (x1:Rz) (x2:G (List D)):Prop where
 h:xh X c x0 x1 x2
structure qq (X:Cx) (c:C) (x0:Rz) (x1:Rz) (x2:G (List D)):Prop where
 h:oB X c x0 x1 x2
structure jC (X:Cx) (c:C) (x0:List Rz) (x1:G Bool):Prop where
 h:gw X c x0 x1
structure GN (X:Cx) (c:C) (x0:Option Rz) (x1:GO):Prop where
 h:JI X c x0 x1
section
variable {X:Cx}{c:C}{e a b:Rz}{ga gb:G R}{pos:Pos}
theorem aa (i:Nat){x:Str}(hN:X.N[i]?=some x:=by rfl) (hv:qu X.env.scope x:=by first | exact VJ rfl | exact Uu (VJ rfl) | exact Uu (Uu rfl)) (hd:(x == ("__debug__":Str))=false:=by decide)
  (hcd:(x == ("__classdict__":Str))=false:=by decide):QD X c (.Name x pos) (af i):=⟨IC (kh hN hv hd hcd)⟩
theorem av {i:Int}{j:Nat}:QD X c (.Constant (.int i) j pos) (gC (.int i)):=⟨sX (λ_=>.int i) DV⟩
theorem kq {i:Bool}{j:Nat}:QD X c (.Constant (.bool i) j pos) (gC (.bl i)):=⟨sX (λ_=>.bl i) Mx⟩
theorem gS {j:Nat}:QD X c (.Constant .none j pos) (gC .non):=⟨sX (λ_=>.non) K9⟩
theorem uF {x:Str}{j:Nat}:QD X c (.Constant (.str x) j pos) (gC (.str x)):=⟨sX (λ_=>.str x) Lc⟩
theorem I_ (ha:QD X c a ga) (hb:QD X c b gb):QD X c (.BinOp a .Sub b pos) (g2 Kd ga gb):=have ha:=ha.h;have hb:=hb.h;⟨nL K2 (gx λ_ _ _=>.int _) ha hb⟩
theorem cZ (ha:QD X c a ga) (hb:QD X c b gb):QD X c (.BinOp a .FloorDiv b pos) (g2 fM ga gb):=have ha:=ha.h;have hb:=hb.h;⟨nL Iq (Bd (λi j h=>H_ h) λ_ _ _=>.int _) ha hb⟩
theorem bY (ha:QD X c a ga) (hb:QD X c b gb):QD X c (.BinOp a .Mod b pos) (g2 cW ga gb):=have ha:=ha.h;have hb:=hb.h;⟨nL KY (Bd (λi j h=>by unfold KC at h;exact of_decide_eq_true h) λ_ _ _=>.int _) ha hb⟩
theorem IZ (ha:QD X c a ga) (hb:QD X c b gb):QD X c (.BinOp a .Pow b pos) (g2 Kc ga gb):=have ha:=ha.h;have hb:=hb.h;⟨nL K1 (Bd (λi j h=>Ib h) λ_ _ _=>.int _) ha hb⟩
theorem Lu (ha:QD X c a ga) (hb:QD X c b gb):QD X c (.Compare a [.Gt] [b] pos) (g2 (i8 λi j=>.bl (decide (j < i))) ga gb):=have ha:=ha.h;have hb:=hb.h;⟨o6 p7 (gx λ_ _ _=>.bl _) ha hb⟩
theorem aq:jt X c [] aC:=⟨wN g9 λσ H Q ⟨J,env,sr,w⟩=>w [] J H (Ext.refl sr.hp.sub) rfl⟩
theorem ak {es:List Rz}{g:G R}{gs:G (List R)}(h:QD X c e g) (hs:jt X c es gs) (hst:QZ (e::es) X.env=(false,eval e X.env)::QZ es X.env:=by rfl):jt X c (e::es) (ao g gs):=have h:=h.h;have hs:=hs.h;⟨
 wN (e_ h hs hst) λσ H Q ⟨J,env,sr,w⟩=>by
  refine ⟨J,env,sr,aB (aH w) λx wx u J1 H1 e1 r1=>?_⟩
  refine ⟨J1,env,sr.ext e1,aB (aH wx) λxs wy us J2 H2 e2 r2=>?_⟩
  exact wy (u::us) J2 H2 (e1.trans e2) ⟨u,us,rfl,r1.ext e2,jH.from e1.h r2⟩⟩
end
section
variable {X:Cx}{c:C}{e a b:Rz}{es:List Rz}{ga gb g:G R}{pos:Pos}
theorem aP:CB X c [] aX:=⟨wN g9 λσ H Q ⟨J,env,sr,w⟩=>w [] J H (Ext.refl sr.hp.sub) .nil⟩
theorem az {gs:G (List D)}(h:QD X c e g) (hs:CB X c es gs) (hst:QZ (e::es) X.env=(false,eval e X.env)::QZ es X.env:=by rfl):CB X c (e::es) (aA g gs):=have h:=h.h;have hs:=hs.h;⟨
 wN (e_ h hs hst) λσ H Q ⟨J,env,sr,w⟩=>by
  refine ⟨J,env,sr,aB (aH w) λx wx u J1 H1 e1 r1=>?_⟩
  obtain ⟨d,q,wx⟩:=iH wx
  obtain ⟨J1',e1',s1,rd⟩:=freeze e1 r1 q
  refine ⟨J1',env,sr.ext e1',aB (aH wx) λxs wy us J2 H2 e2 r2=>?_⟩
  exact wy (u::us) J2 H2 (e1'.trans e2) (.cons (rd.mono e2.j) r2)⟩
theorem bq {k}{gs:G (List D)}(h:CB X c es gs):QD X c (.Tuple es k pos) (bJ gs):=have h:=h.h;⟨eV (Ld h) λσ H Q ⟨J,env,sr,w⟩=>by
 refine ⟨J,env,sr,aB (aH w) λds wd vs J1 H1 e1 r1=>?_⟩
 split at wd
 ·rename_i hz
  rw [r1.length] at hz
  exact ⟨hz,λp hp=>wd _ _ _ (e1.trans (Ext.newJ e1.sub hp _)) (mZ (sr.hp.ext e1) hp r1)⟩
 ·exact wd.elim⟩
theorem eE {gs:G (List D)}(h:CB X c es gs):QD X c (.List es pos) (fZ gs):=have h:=h.h;⟨eV (K8 h) λσ H Q ⟨J,env,sr,w⟩=>by
 refine ⟨J,env,sr,aB (aH w) λds wd vs J1 H1 e1 r1=>?_⟩
 split at wd
 ·rename_i hz
  rw [r1.length] at hz
  exact ⟨hz,λp hp=>wd _ _ _ (e1.trans (Ext.new e1.sub hp _)) (RR.from e1.h (iU (sr.hp.ext e1) hp r1))⟩
 ·exact wd.elim⟩
theorem ff {p:Pos}{gs:G (List R)}(ha:jt X c (e::es) gs) (hm:X.mg "len"=none) (hK:X.K=c.K:=by rfl) (hg:Gl X "len":=by rfl)
  (he:QZ (e::es) X.env=(false,eval e X.env)::QZ es X.env:=by rfl) (hpl:(SV pos (QZ es X.env)).any (·.1)=false:=by rfl):QD X c (.Call (.Name "len" p) (e::es) [] pos) (gN iR gs):=have ha:=ha.h;⟨
 jh (xE.or xD) (by
  intro He J H xs vs Q hp rs w
  unfold iR at w
  split at w
  ·obtain ⟨v,rfl,r⟩:=rs.one
   cases r
   split at w
   ·rename_i hz;exact .inl ⟨_,rfl,hz,w _ J H (Ext.refl hp.sub) (.int _)⟩
   ·exact w.elim
  ·obtain ⟨v,rfl,r⟩:=rs.one
   obtain ⟨xs,q,w⟩:=ni w
   obtain ⟨p,vs,rfl,hq,hs⟩:=pT hp r q
   have w':=w (.int vs.length) J H (Ext.refl hp.sub) (by rw [hs.length];exact .int _)
   exact .inr ⟨p,vs,rfl,by rw [hK];exact hq,w'⟩
  ·exact w.elim) PySem.boot_len hm ha hg (by decide) (by decide) he hpl⟩
theorem bZ {p:Pos}{gs:G (List R)}(ha:jt X c (e::es) gs) (hm:X.mg "tuple"=none) (hK:X.K=c.K:=by rfl) (hg:Gl X "tuple":=by rfl)
  (he:QZ (e::es) X.env=(false,eval e X.env)::QZ es X.env:=by rfl) (hpl:(SV pos (QZ es X.env)).any (·.1)=false:=by rfl):QD X c (.Call (.Name "tuple" p) (e::es) [] pos) (gN cH gs):=have ha:=ha.h;⟨
 DS vU (by
  intro He J H xs vs Q hp rs w
  unfold cH at w
  split at w
  ·obtain ⟨v,rfl,r⟩:=rs.one
   rename_i r0
   obtain ⟨xs,q,w⟩:=ni w
   cases r0 with
   | d y=>
    cases y with
    | tup ys=>
     cases q
     cases r with
     | tup h hs=>exact ⟨_,_,rfl,.inr ⟨by rw [hK];exact fB hp.sub h,w _ J H (Ext.refl hp.sub) (.tup h hs)⟩⟩
    | lst ys=>
     cases q
     obtain ⟨p,vs,rfl,hq,hs⟩:=RR.list hp r rfl
     exact ⟨p,vs,rfl,.inl ⟨by rw [hK];exact hq,λl hl=>w _ _ _ (Ext.newJ hp.sub hl _) (mZ hp hl hs)⟩⟩
    | _=>cases q
   | mo _ _=>cases q
   | mb _ _=>cases q
   | mf _ _=>cases q
   | l m ys=>
    cases q
    obtain ⟨p,vs,rfl,hq,hs⟩:=RR.list hp r rfl
    exact ⟨p,vs,rfl,.inl ⟨by rw [hK];exact hq,λl hl=>w _ _ _ (Ext.newJ hp.sub hl _) (mZ hp hl hs)⟩⟩
  ·exact w.elim) zp hm ha hg (by decide) (by decide) he hpl⟩
theorem fc (h:QD X c e g) (he:∀whole,X_ e X.env whole=(do let v <-whole;Ug e.pos;holding [v] (truthy v)):=by intro _;rfl):QB X c e (bO g):=have h:=h.h;⟨wQ (Lo h he) λσ H Q ⟨J,env,sr,w⟩=>by
 refine ⟨J,env,sr,aB (aH w) λr wr v J1 H1 e1 r1=>?_⟩
 split at wr
 ·cases r1;exact ⟨_,rfl,wr J1 H1 e1⟩
 ·exact wr.elim⟩
theorem gR {op:aaY}{r:R2}{f:R->R->M R}(ho:c_ X (Sx op) r) (hf:BD c r f) (ha:QD X c a ga) (hb:QD X c b gb) (hm:Sa op b=false:=by first | exact yp _ | rfl):QB X c (.Compare a [op] [b] pos) (bO (g2 f ga gb)):=⟨jz ho hf ha.h hb.h hm⟩
variable {t u:G Bool}{rest:List Rz}
theorem mV (h:xj X c e t):QB X c e t:=have h:=h.h;⟨PW.pt h⟩
theorem qV (h:QB X c a t):xj X c (.BoolOp .And [a] pos) t:=have h:=h.h;⟨IP h⟩
theorem AF (h:QB X c a t):xj X c (.BoolOp .Or [a] pos) t:=have h:=h.h;⟨Lr h⟩
theorem qc (h:QB X c a t) (h':xj X c (.BoolOp .And (b::rest) pos) u):xj X c (.BoolOp .And (a::b::rest) pos) (jf t u):=have h:=h.h;have h':=h'.h;⟨G7 (Lq h h') λσ H Q ⟨J,env,sr,w⟩=>by
 refine ⟨J,env,sr,aB (aH w) λk wk J1 H1 e1=>?_⟩
 cases k with
 | true=>
  rw [if_pos rfl] at wk ⊢
  exact ⟨J1,env,sr.ext e1,aB wk λk q J2 H2 e2=>q J2 H2 (e1.trans e2)⟩
 | false=>
  rw [if_neg (by decide)] at wk ⊢
  exact wk J1 H1 e1⟩
theorem yy (h:QB X c a t) (h':xj X c (.BoolOp .Or (b::rest) pos) u):xj X c (.BoolOp .Or (a::b::rest) pos) (sC t u):=have h:=h.h;have h':=h'.h;⟨G7 (MD h h') λσ H Q ⟨J,env,sr,w⟩=>by
 refine ⟨J,env,sr,aB (aH w) λk wk J1 H1 e1=>?_⟩
 cases k with
 | true=>
  rw [if_pos rfl] at wk ⊢
  exact wk J1 H1 e1
 | false=>
  rw [if_neg (by decide)] at wk ⊢
  exact ⟨J1,env,sr.ext e1,aB wk λk q J2 H2 e2=>q J2 H2 (e1.trans e2)⟩⟩
theorem ji (h:QB X c a t):QB X c (.UnaryOp .Not a pos) (ir t):=have h:=h.h;⟨wQ (Ln h) λσ H Q ⟨J,env,sr,w⟩=>⟨J,env,sr,aB (aH w) λk wk J1 H1 e1=>wk J1 H1 e1⟩⟩
theorem nO {op}(h:QD X c a ga):QD X c (.BoolOp op [a] pos) ga:=have h:=h.h;⟨Lb h⟩
theorem qe (h:QD X c a ga) (h':QD X c (.BoolOp .And (b::rest) pos) gb):QD X c (.BoolOp .And (a::b::rest) pos) (pU ga gb):=have h:=h.h;have h':=h'.h;⟨eV (K7 h h') λσ H Q ⟨J,env,sr,w⟩=>by
 refine ⟨J,env,sr,aB (aH w) λr wr v J1 H1 e1 r1=>?_⟩
 split at wr
 ·cases r1
  exact ⟨true,rfl,Ku ⟨J1,env,sr.ext e1,aB wr λz q v J2 H2 e2 r2=>q v J2 H2 (e1.trans e2) (RR.from e1.h r2)⟩⟩
 ·cases r1
  exact ⟨false,rfl,Ks (wr _ J1 H1 e1 (.bl _))⟩
 ·exact wr.elim⟩
theorem Lv (h:QD X c a ga) (h':QD X c (.BoolOp .Or (b::rest) pos) gb):QD X c (.BoolOp .Or (a::b::rest) pos) (qP ga gb):=have h:=h.h;have h':=h'.h;⟨eV (MB h h') λσ H Q ⟨J,env,sr,w⟩=>by
 refine ⟨J,env,sr,aB (aH w) λr wr v J1 H1 e1 r1=>?_⟩
 split at wr
 ·cases r1
  exact ⟨false,rfl,Ks ⟨J1,env,sr.ext e1,aB wr λz q v J2 H2 e2 r2=>q v J2 H2 (e1.trans e2) (RR.from e1.h r2)⟩⟩
 ·cases r1
  exact ⟨true,rfl,Ku (wr _ J1 H1 e1 (.bl _))⟩
 ·exact wr.elim⟩
theorem AI (h:QD X c a ga):QD X c (.UnaryOp .Not a pos) (Bw ga):=have h:=h.h;⟨eV (K_ h) λσ H Q ⟨J,env,sr,w⟩=>by
 refine ⟨J,env,sr,aB (aH w) λr wr v J1 H1 e1 r1=>?_⟩
 split at wr
 ·cases r1
  exact ⟨_,rfl,wr _ J1 H1 e1 (.bl _)⟩
 ·exact wr.elim⟩
end
section
variable {X:Cx}{c:C}{e a b tg:Rz}{es:List Rz}{ga gb g:G R}{pos:Pos}{st:T9}{rest:List T9}{t u:G O}{tb:G Bool}
theorem bS:oE X c [] dS:=⟨D6 IK λE σ H ⟨J,env,sr,w⟩=>w σ J H (aT.refl J) sr⟩
theorem au (h:iD X c st t) (h':oE X c rest u):oE X c (st::rest) (aL t u):=have h:=h.h;have h':=h'.h;⟨D6 (FW h h') λE σ H ⟨J,env,sr,w⟩=>by
 refine ⟨J,env,sr,aB (aH w) λo wo=>?_⟩
 cases o with
 | nx e=>exact λσ' J' H' s' sr'=>⟨J',e,sr',aB wo λo q=>q.mono s'⟩
 | rt r=>exact wo
 | bk e=>exact wo
 | ct e=>exact wo⟩
theorem aG (h:iD X c st t):oE X c [st] t:=have h:=h.h;⟨IL h⟩
theorem gI (h:QD X c e g) (hs:Uo e none pos.line X.env=pure false:=by rfl):iD X c (.Expr e pos) (jo g):=have h:=h.h;⟨ic (qb h hs) λE σ H ⟨J,env,sr,w⟩=>
 ⟨J,env,sr,aB (aH w) λr wr v J1 H1 e1 r1=>wr σ J1 H1 e1.j (sr.ext e1)⟩⟩
theorem aV (h:QD X c e g):iD X c (.Return (some e) pos) (bH g):=have h:=h.h;⟨ic (Ll h) λE σ H ⟨J,env,sr,w⟩=>by
 refine ⟨J,env,sr,aB (aH w) λr wr v J1 H1 e1 r1=>?_⟩
 cases q:rF r with
 | bad=>rw [q] at wr;exact wr.elim
 | exc x=>cases r with
  | d _=>cases q
  | l m _=>cases m <;> cases q
  | mo _ _=>cases q
  | mb _ _=>cases q
  | mf _ _=>cases q
 | ok r'=>rw [q] at wr;exact wr v J1 H1 e1.j (sr.hp.ext e1) (RR.rf sr.hp r1 q)⟩
theorem b9 {x:Rz}{as bs:List T9}(hx:QB X c x tb) (h:oE X c as t) (h':oE X c bs u):iD X c (.If x as bs pos) (b8 tb t u):=have hx:=hx.h;have h:=h.h;have h':=h'.h;⟨ic (MC hx h h') λE σ H ⟨J,env,sr,w⟩=>by
 refine ⟨J,env,sr,aB (aH w) λk wk J1 H1 e1=>?_⟩
 cases k with
 | true=>
  rw [if_pos rfl] at wk ⊢
  exact ⟨J1,env,sr.ext e1,aB wk λo q=>q.mono e1.j⟩
 | false=>
  rw [if_neg (by decide)] at wk ⊢
  exact ⟨J1,env,sr.ext e1,aB wk λo q=>q.mono e1.j⟩⟩
theorem aM (i:Nat){x:Str}{pos':Pos}(hN:X.N.Nodup) (h:QD X c e g) (hi:X.N[i]?=some x:=by rfl) (hx:Loc X.env.scope x:=by first | exact VJ rfl | exact Uu rfl) (hs:Uo e (some (.Name x pos')) pos.line X.env=pure false:=by rfl)
  (hf:X.fn x=true\/X.env.scope.names.lookup x=some .local:=by first | exact .inl rfl | exact .inr rfl):iD X c (.Assign [.Name x pos'] e pos) (a_ i g):=have h:=h.h;⟨ic (Lm hN hi hx h hs hf) λE σ H ⟨J,env,sr,w⟩=>by
 refine ⟨J,env,sr,aB (aH w) λr wr v J1 H1 e1 r1=>?_⟩
 obtain ⟨x,q,wr⟩:=nj wr
 exact wr (σ.set i (some v)) J1 H1 e1.j (sr.set e1 r1 q)⟩
theorem aE (i:Nat){x:Str}(hN:X.N.Nodup) (hi:X.N[i]?=some x:=by rfl) (hx:Loc X.env.scope x:=by first | exact VJ rfl | exact Uu rfl) (hf:X.fn x=true\/X.env.scope.names.lookup x=some .local:=by first | exact .inl rfl | exact .inr rfl):jY X c (.Name x pos) (aD i):=⟨
 G5 (IF hN hi hx hf) λv σ H Q ⟨J,env,d,sr,rd,w⟩=>w _ (sr.setD (x:=.d d) rd λx z=>by cases x <;> cases z) λj xs q=>by
  rcases gn q with ⟨_,_,e⟩ | ⟨hj,q⟩
  ·cases xs <;> cases e
  ·exact ⟨q,RM (Tt hj)⟩⟩
theorem cU:A5 X c [] fC:=⟨DW IG λvs σ H Q ⟨J,env,ds,sr,rd,w⟩=>by
 cases rd with
 | nil=>exact ⟨rfl,w σ sr KO.refl⟩
 | cons _ _=>exact w.elim⟩
theorem bh {t:GT}{u:rE}(h:jY X c e t) (h':A5 X c es u) (hs:(Ub (e::es) X.env).map (·.2)=assign e X.env::(Ub es X.env).map (·.2):=by rfl):A5 X c (e::es) (bI t u):=have h:=h.h;have h':=h'.h;⟨
 DW (FP h h' hs) λvs σ H Q ⟨J,env,ds,sr,rd,w⟩=>by
  cases rd with
  | nil=>exact w.elim
  | cons r rs=>
   refine ⟨_,_,rfl,J,env,_,sr,r,aB (aH w) λe1 w1 σ' sr' ko=>?_⟩
   exact ⟨J,e1,_,sr',rs,aB w1 λe2 q σ2 sr2 ko2=>q σ2 sr2 (ko.trans ko2)⟩⟩
theorem dw {k:Nat}{u:rE}{n:Nat}(h:A5 X c es u) (hc:X.calm=true:=by rfl) (hK:X.K=c.K:=by rfl) (hn:(Ub es X.env).length=n:=by rfl) (hst:(Ub es X.env).findIdx? (·.1)=none:=by rfl):jY X c (.Tuple es k pos) (eW n u):=have h:=h.h;⟨
 G5 (Lf hc h hn hst) λv σ H Q ⟨J,env,d,sr,rd,w⟩=>by
  cases rd with
  | tup h1 h2=>
   unfold eW at w
   simp only at w
   split at w
   ·rename_i hl
    exact ⟨_,_,rfl,by rw [hK];exact fB sr.hp.sub h1,by rw [<-h2.length];exact hl,J,env,_,sr,h2,w⟩
   ·exact w.elim
  | _=>exact w.elim⟩
theorem eN {QE:Rz}{body:List T9}{gi:G (List D)}{t:GT}(hi:xm X c tg QE gi) (ht:jY X c tg t) (hb:oE X c body u) (hp:ZC (Rk X.prog X.w) X.A X.env X.xe:=by first | exact ZJ | exact Y7) (hc:X.calm=true:=by rfl)
  (hs:∀x,Q_ QE X.env x=pure x:=by intro _;rfl):iD X c (.For tg QE body [] pos) (gF gi t u):=have hi:=hi.h;have ht:=ht.h;have hb:=hb.h;⟨ic (Lk hp hc hi ht hb hs) λE σ H ⟨J,env,sr,w⟩=>by
 refine ⟨J,env,sr,aB (aH w) λds wd It J1 H1 e1 wk=>?_⟩
 refine ⟨λi m σ H=>m=ds.length - i/\∃J' env,aT J1 J'/\SR c J' H σ env/\cD (gf t u (ds.drop i) env) (oP c J' E) c.T,
  ⟨ds.length,by simp,J1,env,aT.refl J1,sr.ext e1,by rw [Z8];exact aB wd λo q=>q.mono e1.j⟩,?_⟩
 rintro i m σ H ⟨rfl,J',env,s',sr',w'⟩
 obtain ⟨w1,w2⟩:=wk i J' H sr'.hp s'
 by_cases hlt:i < ds.length
 ·obtain ⟨g1,y1⟩:=w2 ds[i] (by simp [hlt])
  rw [UU hlt] at w'
  refine .inr ⟨g1,λσ2 H2=>∃J2 env2,aT J' J2/\SR c J2 H2 σ2 env2/\cD (gf t u (ds.drop (i + 1)) env2) (oP c J2 E) c.T,?_,?_⟩
  ·rintro σ2 H2 ⟨J2,env2,s2,sr2,w2⟩
   exact ⟨ds.length - (i + 1),by omega,rfl,J2,env2,s'.trans s2,sr2,w2⟩
  ·intro x H2 hy
   obtain ⟨J2,e2,rx⟩:=y1 x H2 hy
   refine ⟨J2,env,ds[i],sr'.ext e2,rx,aB (aH w') λenv3 w3 σ3 sr3 _=>?_⟩
   refine ⟨J2,env3,sr3,aB (aH w3) λo wo=>?_⟩
   cases o with
   | nx env4=>exact λσ4 J4 H4 s4 sr4=>⟨J4,env4,e2.j.trans s4,sr4,aB wo λo q=>q.mono (e2.j.trans s4)⟩
   | ct env4=>exact λσ4 J4 H4 s4 sr4=>⟨J4,env4,e2.j.trans s4,sr4,aB wo λo q=>q.mono (e2.j.trans s4)⟩
   | bk env4=>exact λσ4 J4 H4 s4 sr4=>wo σ4 J4 H4 (e2.j.trans s4) sr4
   | rt r=>exact λv J4 H4 s4 h4 r4=>wo v J4 H4 (e2.j.trans s4) h4 r4
 ·rw [Xj (by omega)] at w'
  exact .inl ⟨w1 (by omega),w' σ J' H (aT.refl J') sr'⟩⟩
theorem bB {p:Pos}{gs:G (List R)}(ha:jt X c [a] gs) (hm:X.mg "range"=none) (hg:Gl X "range":=by rfl) (hs:QZ [a] X.env=[(false,eval a X.env)]:=by rfl):xm X c tg (.Call (.Name "range" p) [a] [] pos) (cj gs):=have ha:=ha.h;⟨
 sY (DZ hg hm ha hs) λσ H Q ⟨J,env,sr,w⟩=>by
  refine ⟨J,env,sr,aB (aH w) λrs wr vs J1 H1 e1 r1=>?_⟩
  split at wr
  ·split at wr
   ·rename_i h
    obtain ⟨v,rfl,r⟩:=r1.one
    cases r
    have h:=dY.mp h
    exact ⟨_,rfl,Int.le_of_lt h.1,h.2,wr _ J1 H1 e1 Cp⟩
   ·exact wr.elim
  ·exact wr.elim⟩
theorem dR {gi:G (List D)}(h:xm X c tg e gi):qq X c tg e gi:=have h:=h.h;⟨sY h λσ H Q ⟨J,env,sr,w⟩=>
 ⟨J,env,sr,aB w λds q It J1 H1 e1 wk=>q It J1 H1 e1 λi J' H' hp u=>wk i J' H' hp u.1⟩⟩
end
section
variable {X:Cx}{c:C}{e a b tg:Rz}{es:List Rz}{ga gb g:G R}{pos:Pos}
theorem g_ (i:Nat){x:Str}{p1 p2 pos':Pos}(h:QD X c e g) (hN:X.N[i]?=some x:=by rfl) (hv:qu X.env.scope x:=by first | exact VJ rfl | exact Uu (VJ rfl) | exact Uu (Uu rfl)) (hd:(x == ("__debug__":Str))=false:=by decide)
  (hcd:(x == ("__classdict__":Str))=false:=by decide)
  (hbase:Vf (.Name x p1) "append" X.env (eval (.Name x p1) X.env)=eval (.Name x p1) X.env:=by rfl)
  (hfew:((SV pos' (QZ [e] X.env)).all (λx=>!x.1) && (Zz pos' (WY [] X.env)).all (λx=>x.1.isSome)
   && decide (([e]:List Rz).length + ([]:List WZ).length + (if ([]:List WZ).isEmpty then 0 else 1) < 30))=true:=by rfl)
  (hline:(p2.endLine == pos'.line)=true:=by rfl) (hst:QZ [e] X.env=(false,eval e X.env)::QZ [] X.env:=by rfl) (hplain:(SV pos' (QZ [] X.env)).any (·.1)=false:=by rfl)
  (hs:Uo (.Call (.Attribute (.Name x p1) "append" p2) [e] [] pos') none pos.line X.env=pure false:=by rfl):iD X c (.Expr (.Call (.Attribute (.Name x p1) "append" p2) [e] [] pos') pos) (j_ i g):=have h:=h.h;⟨
 ic (qb (wO Uk WJ WK oY (kh hN hv hd hcd) (e_ h g9 hst) hbase hfew hline hst hplain) hs) λE σ H ⟨J,env,sr,w⟩=>by
  unfold j_ at w
  split at w
  ·rename_i xs hi
   obtain ⟨v,h1,a,vs,rfl,h2,h3,h4,h5⟩:=sr.at_ i _ hi
   refine ⟨.ref a,h1,.inl ⟨rfl,vs,cG.of h2⟩,?_⟩
   refine ⟨J,env,sr,aB (aH w) λr wr y J1 H1 e1 r1=>?_⟩
   obtain ⟨d,q,wr⟩:=iH wr
   obtain ⟨J2,e2,s2,rd⟩:=freeze e1 r1 q
   split at wr
   ·rename_i hz
    refine ⟨a,vs,y,rfl,rfl,e2.h _ _ h2,by rw [<-h5.length];exact hz,?_⟩
    refine wr σ J2 _ e2.j ?_
    exact (sr.ext e2).upd hi h1 (e2.h _ _ h2) (e2.frz a (by rw [h2];intro z;cases z) h3) h4 ((h5.mono e2.j).append (.cons rd .nil))
   ·exact wr.elim
  ·exact w.elim⟩
end
section
variable {X:Cx}{c:C}
theorem bz:jC X c [] cF:=⟨λQz s σ H Q I ⟨J,env,sr,w⟩=>wpAny_tests_nil ⟨H,I,w J H (Ext.refl sr.hp.sub)⟩⟩
theorem dZ {x:Rz}{g:G Bool}(h:QB X c x g):jC X c [x] g:=have h:=h.h;⟨λQz s σ H Q I q=>wpAny_tests_one (h Qz s σ H Q I q)⟩
end
section
variable {K:QK}{J:Hp}{s:QN}
variable {X:Cx}{c:C}{e a b tg:Rz}{es:List Rz}{ga gb g:G R}{pos:Pos}
theorem tw (hu:X.A.units + 64 < Sy) (ha:QD X c a ga) (hb:QD X c b gb) (hK:X.K=c.K:=by rfl):QD X c (.Compare a [.Eq] [b] pos) (g2 (fN false) ga gb):=have ha:=ha.h;have hb:=hb.h;⟨o6 (DK hu) (Be false hK) ha hb⟩
theorem ki (hu:X.A.units + 64 < Sy) (ha:QD X c a ga) (hb:QD X c b gb) (hK:X.K=c.K:=by rfl):QB X c (.Compare a [.Eq] [b] pos) (bO (g2 (fN false) ga gb)):=have ha:=ha.h;have hb:=hb.h;⟨jz (DK hu) (Be false hK) ha hb⟩
theorem D7 (hu:X.A.units + 64 < Sy) (ha:QD X c a ga) (hb:QD X c b gb) (hK:X.K=c.K:=by rfl):QB X c (.Compare a [.NotEq] [b] pos) (bO (g2 (fN true) ga gb)):=have ha:=ha.h;have hb:=hb.h;⟨jz (K0 hu) (Be true hK) ha hb⟩
theorem yC (hu:X.A.units + 64 < Sy) (ha:QD X c a ga) (hb:QD X c b gb) (hK:X.K=c.K:=by rfl) (hm:Sa .In b=false:=by rfl):QD X c (.Compare a [.In] [b] pos) (g2 (gT false) ga gb):=have ha:=ha.h;have hb:=hb.h;⟨o6 (DM hu) (Bf false hK) ha hb hm⟩
theorem Ls (hu:X.A.units + 64 < Sy) (ha:QD X c a ga) (hb:QD X c b gb) (hK:X.K=c.K:=by rfl) (hm:Sa .In b=false:=by rfl):QB X c (.Compare a [.In] [b] pos) (bO (g2 (gT false) ga gb)):=have ha:=ha.h;have hb:=hb.h;⟨jz (DM hu) (Bf false hK) ha hb hm⟩
theorem D8 (hu:X.A.units + 64 < Sy) (ha:QD X c a ga) (hb:QD X c b gb) (hK:X.K=c.K:=by rfl) (hm:Sa .NotIn b=false:=by rfl):QB X c (.Compare a [.NotIn] [b] pos) (bO (g2 (gT true) ga gb)):=have ha:=ha.h;have hb:=hb.h;⟨jz (DP hu) (Bf true hK) ha hb hm⟩
end
section
variable {X:Cx}{c:C}{e a b tg:Rz}{es:List Rz}{ga gb g:G R}{pos:Pos}
theorem o9:GN X c none uW:=⟨G6 II λσ H Q ⟨J,env,sr,w⟩=>w J H (Ext.refl sr.hp.sub)⟩
theorem o_ (h:QD X c e g):GN X c (some e) (uX g):=have h:=h.h;⟨G6 (IJ h) λσ H Q ⟨J,env,sr,w⟩=>by
 refine ⟨J,env,sr,aB (aH w) λr wr v J1 H1 e1 r1=>?_⟩
 split at wr
 ·cases r1;exact ⟨_,rfl,wr J1 H1 e1⟩
 ·exact wr.elim⟩
theorem B0 {p:Pos}{gs:G (List R)}(ha:jt X c (e::es) gs) (hm:X.mg "sorted"=none) (hK:X.K=c.K:=by rfl) (hg:Gl X "sorted":=by rfl)
  (he:QZ (e::es) X.env=(false,eval e X.env)::QZ es X.env:=by rfl) (hpl:(SV pos (QZ es X.env)).any (·.1)=false:=by rfl):QD X c (.Call (.Name "sorted" p) (e::es) [] pos) (gN mG gs):=have ha:=ha.h;⟨
 jh xG (by
  intro He J H xs vs Q hp rs w
  unfold mG at w
  split at w
  ·obtain ⟨v,rfl,r⟩:=rs.one
   obtain ⟨xs,q,w⟩:=nh w
   obtain ⟨p,vs,rfl,h1,h2⟩:=RR.list hp r q
   split at w
   ·rename_i ss z
    split at w
    ·rename_i hl
     have:=tM z h2
     subst this
     refine ⟨p,ss,rfl,by rw [hK];exact h1,hl,λss' hp' hs' l hl'=>?_⟩
     rw [Ce hp' hs']
     exact w _ _ _ (Ext.new hp.sub hl' _) (iU hp hl' (vB _))
    ·exact w.elim
   ·exact w.elim
  ·exact w.elim) j3 hm ha hg (by decide) (by decide) he hpl⟩
theorem eO (ha:QD X c a ga) (hb:QD X c b gb):QD X c (.BinOp a .Add b pos) (g2 dD ga gb):=by
 have ha:=ha.h
 have hb:=hb.h
 refine ⟨?_⟩
 have h1:BD c (pe λi j=>.int (i + j)) xT:=gx λ_ _ _=>.int _
 have q:=nL (pos:=pos) (DH.or (sW.or DI)) (BD.or (c:=c) (λx _=>Dy x) h1 (BD.or (c:=c) (λx _=>Kp x) (f:=r_) (f':=se) (by
  intro He He' J H x y u v Q hp rx ry w
  unfold r_ at w
  split at w
  ·cases rx;cases ry
   split at w
   ·rename_i h;exact ⟨_,_,rfl,rfl,h,w _ J H (Ext.refl hp.sub) (.str _)⟩
   ·exact w.elim
  ·exact w.elim) (by
  intro He He' J H x y u v Q hp rx ry w
  unfold se at w
  split at w
  ·rename_i hm
   rw [QX] at hm
   obtain ⟨p,vs,xs,e1,rfl,h1,s1⟩:=rx.made hm.1
   obtain ⟨p2,vs2,ys,e2,rfl,h2,s2⟩:=ry.made hm.2
   rw [e1,e2] at w
   simp only [aN] at w
   split at w
   ·rename_i hz
    rw [s1.length,s2.length] at hz
    exact ⟨p,p2,vs,vs2,rfl,rfl,h1,h2,hz,λq hq=>w _ J _ (Ext.new hp.sub hq _) (iU hp hq (s1.append s2))⟩
   ·exact w.elim
  ·exact w.elim))) ha hb
 exact q
theorem jA (ha:QD X c a ga) (hb:QD X c b gb):QD X c (.BinOp a .Mult b pos) (g2 gE ga gb):=by
 have ha:=ha.h
 have hb:=hb.h
 refine ⟨?_⟩
 have h1:BD c (rI AV λi j=>.int (i * j)) Ka:=Bd (λi j h=>Ia h) λ_ _ _=>.int _
 exact nL (pos:=pos) (KZ.or Ir) (BD.or (c:=c) (λx _=>Dy x) h1 (f':=Bt) (by
  intro He He' J H x y u v Q hp rx ry w
  unfold Bt at w
  split at w
  ·cases rx;cases ry
   split at w
   ·rename_i h;exact ⟨_,_,rfl,rfl,h.1,h.2.1,h.2.2,w _ J H (Ext.refl hp.sub) (.str _)⟩
   ·exact w.elim
  ·exact w.elim)) ha hb
theorem aJ (ha:QD X c a ga) (hb:QD X c b gb) (hK:X.K=c.K:=by rfl) (hs:pS b:=by exact λ_ _=>rfl):QD X c (.Subscript a b pos) (g2 bg ga gb):=have ha:=ha.h;have hb:=hb.h;⟨G3 Ky (by
 intro He He' J H x y u v Q hp rx ry w
 rw [hK]
 unfold bg at w
 split at w
 ·cases rx;cases ry
  split at w
  ·rename_i h
   split at w
   ·rename_i k hk;exact .inr (.inr ⟨_,_,k,rfl,rfl,h,hk,w _ J H (Ext.refl hp.sub) (.str _)⟩)
   ·exact w.elim
  ·exact w.elim
 ·cases ry
  obtain ⟨xs,q,w⟩:=ni w
  obtain ⟨p,vs,rfl,hl,hs⟩:=pT hp rx q
  split at w
  ·rename_i d hd
   obtain ⟨z,h1,h2⟩:=Jf hs hd
   have fin:=w z J H (Ext.refl hp.sub) h2
   rcases hl with hl | hl
   ·exact .inl ⟨p,vs,_,z,rfl,rfl,hl,h1,fin⟩
   ·exact .inr (.inl ⟨p,vs,_,z,rfl,rfl,hl,h1,fin⟩)
  ·exact w.elim
 ·exact w.elim) ha hb hs⟩
theorem aO {k k' n:Nat}{F:List S->M R}{x:Str}{p:Pos}{gs:G (List R)}(G:bC X.prog X.w X.K X.mg X.base k n x F) (hr:cV k' X.A) (ha:jt X c (e::es) gs) (hk:k<=k':=by decide) (hT:c.K=X.K:=by rfl) (hg:Gl X x:=by rfl) (hdb:(x == ("__debug__":Str))=false:=by decide)
  (he:QZ (e::es) X.env=(false,eval e X.env)::QZ es X.env:=by rfl) (hpl:(SV pos (QZ es X.env)).any (·.1)=false:=by rfl):QD X c (.Call (.Name x p) (e::es) [] pos) (gN (aK n F) gs):=by
 have ha:=ha.h
 refine ⟨?_⟩
 obtain ⟨f,fd,ps,h1,h2,h3,h4⟩:=G
 exact IA h1 (hr.mono hk) h2 h3 h4 ha hT hg hdb he hpl
theorem kj {t:GT}(h:QD X c e g) (ht:jY X c tg t) (hs:Va [tg] e pos.line X.env=pure false:=by rfl) (hw:Ys [tg] e X.env=pure none:=by rfl)
  (h1:(Ub [tg] X.env).map (·.2)=[assign tg X.env]:=by rfl):iD X c (.Assign [tg] e pos) (lO t g):=have h:=h.h;have ht:=ht.h;⟨Iw h ht (D5 h ht hs hw h1)⟩
theorem iT {T:String}{Ts:Str}{p p2:Pos}(kit:Ct T) (hT:R1 Ts=some (.type T)) (mT:X.mg Ts=none)
  (h:QD X c a g) (hm:X.mg "isinstance"=none) (hK:X.K=c.K:=by rfl) (hg:Gl X "isinstance":=by rfl) (Qe:Gl X Ts:=by rfl) (hn:Ts≠"__name__":=by decide) (Qa:(Ts == ("__debug__":Str))=false:=by decide)
  (he:QZ [a,.Name Ts p2] X.env=(false,eval a X.env)::QZ [.Name Ts p2] X.env:=by rfl) (O8:QZ [.Name Ts p2] X.env=(false,eval (.Name Ts p2) X.env)::QZ [] X.env:=by rfl)
  (hpl:(SV pos (QZ [.Name Ts p2] X.env)).any (·.1)=false:=by rfl):QD X c (.Call (.Name "isinstance" p) [a,.Name Ts p2] [] pos) (xZ T g):=have h:=h.h;⟨
 eV (qS (zA kit) hg hm (by decide +kernel) (e_ h (e_ (ID Qe mT hT (v:=.ty T) rfl hn Qa) g9 O8) he) (by decide) (by decide) he hpl) λσ H Q ⟨J,env,sr,w⟩=>by
  refine ⟨J,env,sr,aB (aH w) λr wr v J1 H1 e1 r1=>?_⟩
  exact ⟨r.dat,v,rfl,by rw [hK];exact r1.dat (sr.hp.ext e1),wr _ J1 H1 e1 (.bl _)⟩⟩
theorem AG {p:Pos}{gs:G (List R)}(ha:jt X c (e::es) gs) (hm:X.mg "all"=none) (hK:X.K=c.K:=by rfl) (hc:X.calm=true:=by rfl) (hg:Gl X "all":=by rfl)
  (he:QZ (e::es) X.env=(false,eval e X.env)::QZ es X.env:=by rfl) (hpl:(SV pos (QZ es X.env)).any (·.1)=false:=by rfl):QD X c (.Call (.Name "all" p) (e::es) [] pos) (gN qN gs):=have ha:=ha.h;⟨
 jh (CM hc) (by
  intro He J H xs vs Q hp rs w
  unfold qN at w
  split at w
  ·obtain ⟨v,rfl,r⟩:=rs.one
   obtain ⟨xs,q,w⟩:=nh w
   obtain ⟨p,vs,rfl,h1,h2⟩:=RR.list hp r q
   split at w
   ·rename_i ks z
    have:=oG z h2
    subst this
    exact ⟨p,ks,rfl,by rw [hK];exact h1,w _ J H (Ext.refl hp.sub) (.bl _)⟩
   ·exact w.elim
  ·exact w.elim) CJ hm ha hg (by decide) (by decide) he hpl⟩
theorem IX {p:Pos}{gs:G (List R)}(ha:jt X c (e::es) gs) (hm:X.mg "max"=none) (hc:X.calm=true:=by rfl) (hg:Gl X "max":=by rfl)
  (he:QZ (e::es) X.env=(false,eval e X.env)::QZ es X.env:=by rfl) (hpl:(SV pos (QZ es X.env)).any (·.1)=false:=by rfl):QD X c (.Call (.Name "max" p) (e::es) [] pos) (gN xW gs):=have ha:=ha.h;⟨
 jh (CO hc) (by
  intro He J H xs vs Q hp rs w
  unfold xW at w
  split at w
  ·obtain ⟨v,v',rfl,r,r'⟩:=rs.two
   cases r;cases r'
   exact ⟨_,_,rfl,w _ J H (Ext.refl hp.sub) (.int _)⟩
  ·exact w.elim) (by decide +kernel) hm ha hg (by decide) (by decide) he hpl⟩
theorem fJ (ha:QD X c a ga) (hb:QD X c b gb) (hK:X.K=c.K:=by rfl):QD X c (.BinOp a .Add b pos) (g2 cY ga gb):=by
 have ha:=ha.h
 have hb:=hb.h
 refine ⟨?_⟩
 have h1:BD c (pe λi j=>.int (i + j)) xT:=gx λ_ _ _=>.int _
 exact nL (pos:=pos) (DJ.or (DH.or (sW.or DI))) (BD.or (c:=c) (λx _=>Kq x) (Hz hK) (BD.or (c:=c) (λx _=>Dy x) h1 (BD.or (c:=c) (λx _=>Kp x) (f:=r_) (f':=se) (by
  intro He He' J H x y u v Q hp rx ry w
  unfold r_ at w
  split at w
  ·cases rx;cases ry
   split at w
   ·rename_i h;exact ⟨_,_,rfl,rfl,h,w _ J H (Ext.refl hp.sub) (.str _)⟩
   ·exact w.elim
  ·exact w.elim) (by
  intro He He' J H x y u v Q hp rx ry w
  unfold se at w
  split at w
  ·rename_i hm
   rw [QX] at hm
   obtain ⟨p,vs,xs,e1,rfl,h1,s1⟩:=rx.made hm.1
   obtain ⟨p2,vs2,ys,e2,rfl,h2,s2⟩:=ry.made hm.2
   rw [e1,e2] at w
   simp only [aN] at w
   split at w
   ·rename_i hz
    rw [s1.length,s2.length] at hz
    exact ⟨p,p2,vs,vs2,rfl,rfl,h1,h2,hz,λq hq=>w _ J _ (Ext.new hp.sub hq _) (iU hp hq (s1.append s2))⟩
   ·exact w.elim
  ·exact w.elim)))) ha hb
theorem uE {lo hi:Option Rz}{gl gh:GO}{p2:Pos}(h:QD X c e g) (hl:GN X c lo gl) (hh:GN X c hi gh) (hK:X.K=c.K:=by rfl):QD X c (.Subscript e (.Slice lo hi none p2) pos) (sD lN g gl gh):=have h:=h.h;have hl:=hl.h;have hh:=hh.h;⟨Mw (Eg.or Jk) (by
 intro He J H x v l u Q hp rx w
 unfold lN at w
 split at w
 ·exact .inl (NP hK He J H x v l u Q hp rx w)
 ·obtain ⟨xs,q,w⟩:=nh w
  obtain ⟨p,vs,rfl,h1,h2⟩:=rx.list hp q
  exact .inr ⟨p,vs,rfl,by rw [hK];exact h1,λp' hp'=>w _ _ _ (Ext.new hp.sub hp' _) (iU hp hp' (h2.cut l u))⟩) h hl hh⟩
theorem I0 {st:Rz}{p2:Pos}(h:QD X c e g) (hst:PE X st (tC (.int (-1)))) (hK:X.K=c.K:=by rfl):QD X c (.Subscript e (.Slice none none (some st) p2) pos) (Bx g):=by
 have h:=h.h
 refine ⟨?_⟩
 intro Qz s σ H Q I ⟨J,env,sr,w⟩
 refine aam (bP (h Qz s σ H (λv H1=>∃a xs,v=.ref a/\cX X.K H1 a xs/\∀p,H1 p=none->Q (.ref p) (upd H1 p (.tup xs.reverse))) I ⟨J,env,sr,aB (aH w) λr wr v J1 H1 e1 r1=>?_⟩) λv s1 ⟨x,H1,I1,r1,a,xs,hx,hq,q⟩=>?_)
 ·split at wr
  ·cases r1 with
   | tup h1 s1=>
    exact ⟨_,_,rfl,by rw [hK];exact fB e1.sub h1,λp hp'=>wr _ _ _ (e1.trans (Ext.newJ e1.sub hp' _)) (mZ (sr.hp.ext e1) hp' s1.rev)⟩
  ·exact wr.elim
 subst hx
 cases r1
 refine wpAny_Slice ?_
 rw [YA]
 refine QL (QL ?_)
 rw [aaC]
 refine bP (hst Qz s1 σ H1 (λv H2=>v=.int (-1)/\H2=H1) I1 ⟨rfl,rfl⟩) λu s3 ⟨y,H3,I3,r3,hy,hH⟩=>?_
 subst hy hH
 obtain ⟨k,rfl⟩:=r3
 have I4:Inv X Qz σ H3 {s3 with heap:=s3.heap.push {cls:=.type "slice",data:=.fields #[.none,.none,.int (-1) k]}}:=I3.kept (t':=s3.toks) λb ob q=>QV _ q
 obtain ⟨QA,r,ht,hz⟩:=I4.tuple hq
 have hlen:=r.length
 refine abA (ops:=[.ref a,.ref s3.heap.objs.size]) ht.typeIs RC.lookup ?_ (by with_unfolding_all rfl)
 refine En ht (YB ..) ?_ (by rw [Q2];omega)
 refine ⟨.ref _,_,I4.laid (t':=s3.toks) (o:=.tup xs.reverse) (λb ob q=>QV _ q) (QY _) ?_,rfl,q _ (I4.hok.fresh (QY _))⟩
 exact ⟨by simpa using hz,_,r.reverse,ZF _ _⟩
theorem lD {d:D}{x:Str}(h:AZ X.K X.mg x d) (hK:X.K=c.K:=by rfl) (hg:Gl X x:=by rfl) (hd:(x == ("__debug__":Str))=false:=by decide):QD X c (.Name x pos) (gC d):=by
 refine ⟨?_⟩
 obtain ⟨u,v,h1,h2,h3⟩:=h
 exact IB h1 h2 (λJ=>hK▸h3 J) hg hd
end
section
variable {X:Cx}{c:C}{e a b tg:Rz}{es:List Rz}{ga gb g:G R}{pos:Pos}{st:T9}{t u:G O}{tb:G Bool}
theorem nN:iD X c st wI:=⟨λQz s σ H D I ⟨J,env,sr,w⟩=>w.elim⟩
theorem IY (h:QD X c a g):QD X c (.UnaryOp .USub a pos) (E2 g):=have h:=h.h;⟨eV (G4 Er h) λσ H Q ⟨J,env,sr,w⟩=>by
 refine ⟨J,env,sr,aB (aH w) λr wr v J1 H1 e1 r1=>?_⟩
 split at wr
 ·cases r1
  exact ⟨_,rfl,wr _ J1 H1 e1 (.int _)⟩
 ·exact wr.elim⟩
theorem qd (h:QD X c e g) (hK:X.K=c.K:=by rfl) (he:∀whole,X_ e X.env whole=(do let v <-whole;Ug e.pos;holding [v] (truthy v)):=by intro _;rfl):QB X c e (ur g):=have h:=h.h;⟨wQ (FY h he) λσ H Q ⟨J,env,sr,w⟩=>by
 refine ⟨J,env,sr,aB (aH w) λr wr v J1 H1 e1 r1=>?_⟩
 rw [hK]
 obtain ⟨k,k1,k2⟩:=Jt (sr.hp.ext e1) r1 wr
 exact ⟨k,k1,k2 J1 H1 e1⟩⟩
theorem BX (n:Nat){body:List T9}(ht:QB X c e tb) (hb:oE X c body u) (hp:ZC (Rk X.prog X.w) X.A X.env X.xe:=by first | exact ZJ | exact Y7):iD X c (.While e body [] pos) (x_ n tb u):=have ht:=ht.h;have hb:=hb.h;⟨ic (FU hp ht hb) λE σ H ⟨J,env,sr,w⟩=>by
 refine ⟨λm σ H=>∃J' env,aT J J'/\SR c J' H σ env/\cD (kL tb u m env) (oP c J' E) c.T,⟨n,J,env,aT.refl J,sr,w⟩,?_⟩
 rintro m σ H ⟨J',env,s',sr',w'⟩
 cases m with
 | zero=>exact w'.elim
 | succ m=>
  refine ⟨J',env,sr',aB (aH w') λk wk J1 H1 e1=>?_⟩
  cases k with
  | false=>
   rw [if_neg (by decide)] at wk ⊢
   exact wk σ J1 H1 e1.j (sr'.ext e1)
  | true=>
   rw [if_pos rfl] at wk ⊢
   refine ⟨λσ2 H2=>∃J2 env2,aT J1 J2/\SR c J2 H2 σ2 env2/\cD (kL tb u m env2) (oP c J2 E) c.T,?_,?_⟩
   ·rintro σ2 H2 ⟨J2,env2,s2,sr2,w2⟩
    exact ⟨m,TM m,J2,env2,(s'.trans e1.j).trans s2,sr2,w2⟩
   ·refine ⟨J1,env,sr'.ext e1,aB (aH wk) λo wo=>?_⟩
    cases o with
    | nx env4=>exact λσ4 J4 H4 s4 sr4=>⟨J4,env4,s4,sr4,aB wo λo q=>q.mono (e1.j.trans s4)⟩
    | ct env4=>exact λσ4 J4 H4 s4 sr4=>⟨J4,env4,s4,sr4,aB wo λo q=>q.mono (e1.j.trans s4)⟩
    | bk env4=>exact λσ4 J4 H4 s4 sr4=>wo σ4 J4 H4 (e1.j.trans s4) sr4
    | rt r=>exact λv J4 H4 s4 h4 r4=>wo v J4 H4 (e1.j.trans s4) h4 r4⟩
theorem zG (i j:Nat){x y:Str}{p1 p2 pos' q1 q2 q3:Pos}(h:QD X c e g) (hi:X.N[i]?=some x:=by rfl) (Qp:qu X.env.scope x:=by first | exact VJ rfl | exact Uu (VJ rfl) | exact Uu (Uu rfl)) (hdx:(x == ("__debug__":Str))=false:=by decide) (P8:(x == ("__classdict__":Str))=false:=by decide)
  (hj:X.N[j]?=some y:=by rfl) (Qq:qu X.env.scope y:=by first | exact VJ rfl | exact Uu (VJ rfl) | exact Uu (Uu rfl)) (Pn:(y == ("__debug__":Str))=false:=by decide) (P9:(y == ("__classdict__":Str))=false:=by decide)
  (hbase:Vf (.Name x p1) "append" X.env (eval (.Name x p1) X.env)=eval (.Name x p1) X.env:=by rfl)
  (hfew:((SV pos' (QZ [.Call (.Attribute (.Name y q1) "pop" q2) [e] [] q3] X.env)).all (λx=>!x.1) && (Zz pos' (WY [] X.env)).all (λx=>x.1.isSome)
   && decide (([.Call (.Attribute (.Name y q1) "pop" q2) [e] [] q3]:List Rz).length + ([]:List WZ).length + (if ([]:List WZ).isEmpty then 0 else 1) < 30))=true:=by rfl)
  (hline:(p2.endLine == pos'.line)=true:=by rfl)
  (hst:QZ [.Call (.Attribute (.Name y q1) "pop" q2) [e] [] q3] X.env=(false,eval (.Call (.Attribute (.Name y q1) "pop" q2) [e] [] q3) X.env)::QZ [] X.env:=by rfl) (hplain:(SV pos' (QZ [] X.env)).any (·.1)=false:=by rfl)
  (OZ:Vf (.Name y q1) "pop" X.env (eval (.Name y q1) X.env)=eval (.Name y q1) X.env:=by rfl)
  (O9:((SV q3 (QZ [e] X.env)).all (λx=>!x.1) && (Zz q3 (WY [] X.env)).all (λx=>x.1.isSome)
   && decide (([e]:List Rz).length + ([]:List WZ).length + (if ([]:List WZ).isEmpty then 0 else 1) < 30))=true:=by rfl)
  (O1:(q2.endLine == q3.line)=true:=by rfl) (Pd:QZ [e] X.env=(false,eval e X.env)::QZ [] X.env:=by rfl) (OX:(SV q3 (QZ [] X.env)).any (·.1)=false:=by rfl)
  (hs:Uo (.Call (.Attribute (.Name x p1) "append" p2) [.Call (.Attribute (.Name y q1) "pop" q2) [e] [] q3] [] pos') none pos.line X.env=pure false:=by rfl):iD X c (.Expr (.Call (.Attribute (.Name x p1) "append" p2) [.Call (.Attribute (.Name y q1) "pop" q2) [e] [] q3] [] pos') pos) (mH i j g):=have h:=h.h;⟨
 ic (qb (wO Uk WJ WK oY (kh hi Qp hdx P8) (e_ (wO Uk PySem.F.slot_list_pop PySem.F.type_list_pop Fj (kh hj Qq Pn P9) (e_ h g9 Pd) OZ O9 O1 Pd OX) g9 hst) hbase hfew hline hst hplain) hs) λE σ H ⟨J,env,sr,w⟩=>by
  unfold mH at w
  split at w
  ·rename_i zs xs Po Pq
   split at w
   ·exact w.elim
   ·rename_i hij
    obtain ⟨_,k1,p,us,rfl,k2,k3,k4,k5⟩:=sr.at_ i _ Po
    obtain ⟨_,l1,q,vs,rfl,l2,l3,l4,l5⟩:=sr.at_ j _ Pq
    refine ⟨.ref p,k1,.inl ⟨rfl,us,cG.of k2⟩,?_⟩
    refine ⟨.ref q,l1,.inl ⟨rfl,vs,cG.of l2⟩,?_⟩
    refine ⟨J,env,sr,aB (aH w) λr wr v J1 H1 e1 r1=>?_⟩
    split at wr
    ·rename_i k
     cases r1
     split at wr
     ·rename_i hk
      split at wr
      ·rename_i d hd
       obtain ⟨z,hz,rz⟩:=l5.get hd
       have m2:=e1.h _ _ l2
       have n2:=e1.h _ _ k2
       have hpq:q≠p:=λzz=>K5 sr hij Po Pq k1 l1 zz.symm
       refine ⟨q,vs,k,k.toNat,z,rfl,rfl,m2,by omega,?_,ML hk.1 (by rw [<-l5.length];exact hk.2.1),hz,?_⟩
       ·have z1:=hk.2.1
        have z2:=hk.2.2.2
        have z3:sizeLine=16777216:=RS
        omega
       ·refine ⟨p,us,z,rfl,rfl,by rw [bA (Tt hpq)];exact n2,by rw [<-k5.length];exact hk.2.2.1,?_⟩
        have sr1:=sr.ext e1
        have J1p:J1 p=none:=e1.frz p (by rw [k2];intro z;cases z) k3
        have J1q:J1 q=none:=e1.frz q (by rw [l2];intro z;cases z) l3
        have sr2:=sr1.upd (xs':=xs.eraseIdx k.toNat) (vs':=vs.eraseIdx k.toNat) Pq l1 m2 J1q l4 ((l5.mono e1.j).eraseIdx _)
        have Pp:(env.set j (some (.own (xs.eraseIdx k.toNat))))[i]?=some (some (.own zs)):=by rw [RM (Tt hij)];exact Po
        have sr3:=sr2.upd (xs':=zs++[d]) (vs':=us++[z]) Pp k1 (by rw [bA (Tt hpq)];exact n2) J1p k4 ((k5.mono e1.j).append (.cons (rz.mono e1.j) .nil))
        exact wr σ J1 _ e1.j sr3
      ·exact wr.elim
     ·exact wr.elim
    ·exact wr.elim
  ·exact w.elim⟩
end
section
variable {X:Cx}{c:C}{e a b tg:Rz}{es:List Rz}{ga gb g:G R}{pos:Pos}
theorem zH (i:Nat){x:Str}{p1 p2 pos':Pos}(h:QD X c e g) (hN:X.N[i]?=some x:=by rfl) (hv:qu X.env.scope x:=by first | exact VJ rfl | exact Uu (VJ rfl) | exact Uu (Uu rfl)) (hd:(x == ("__debug__":Str))=false:=by decide)
  (hcd:(x == ("__classdict__":Str))=false:=by decide)
  (hbase:Vf (.Name x p1) "extend" X.env (eval (.Name x p1) X.env)=eval (.Name x p1) X.env:=by rfl)
  (hfew:((SV pos' (QZ [e] X.env)).all (λx=>!x.1) && (Zz pos' (WY [] X.env)).all (λx=>x.1.isSome)
   && decide (([e]:List Rz).length + ([]:List WZ).length + (if ([]:List WZ).isEmpty then 0 else 1) < 30))=true:=by rfl)
  (hline:(p2.endLine == pos'.line)=true:=by rfl) (hst:QZ [e] X.env=(false,eval e X.env)::QZ [] X.env:=by rfl) (hplain:(SV pos' (QZ [] X.env)).any (·.1)=false:=by rfl)
  (hs:Uo (.Call (.Attribute (.Name x p1) "extend" p2) [e] [] pos') none pos.line X.env=pure false:=by rfl) (hK:X.K=c.K:=by rfl):iD X c (.Expr (.Call (.Attribute (.Name x p1) "extend" p2) [e] [] pos') pos) (xY i g):=have h:=h.h;⟨
 ic (qb (wO Uk PySem.F.slot_list_extend PySem.F.type_list_extend KS (kh hN hv hd hcd) (e_ h g9 hst) hbase hfew hline hst hplain) hs) λE σ H ⟨J,env,sr,w⟩=>by
  unfold xY at w
  split at w
  ·rename_i xs hi
   obtain ⟨v,h1,a,vs,rfl,h2,h3,h4,h5⟩:=sr.at_ i _ hi
   refine ⟨.ref a,h1,.inl ⟨rfl,vs,cG.of h2⟩,?_⟩
   refine ⟨J,env,sr,aB (aH w) λr wr y J1 H1 e1 r1=>?_⟩
   obtain ⟨ys,q,wr⟩:=ni wr
   split at wr
   ·rename_i hz
    obtain ⟨p,ws,rfl,hq,hs⟩:=pT (sr.hp.ext e1) r1 q
    refine ⟨a,p,vs,ws,rfl,rfl,e1.h _ _ h2,by rw [hK];exact hq,by rw [<-h5.length,<-hs.length];exact hz,?_⟩
    refine wr σ J1 _ e1.j ?_
    exact (sr.ext e1).upd hi h1 (e1.h _ _ h2) (e1.frz a (by rw [h2];intro z;cases z) h3) h4 ((h5.mono e1.j).append hs)
   ·exact wr.elim
  ·exact w.elim⟩
theorem yD (ha:QD X c a ga) (hb:QD X c b gb):QD X c (.Compare a [.Is] [b] pos) (g2 (oM false) ga gb):=have ha:=ha.h;have hb:=hb.h;⟨o6 DO (by
 intro He He' J H x y u v Q hp rx ry w
 unfold oM at w
 split at w
 ·rename_i o ho
  refine ⟨o,by rw [p6 ry];exact ho,?_⟩
  rw [p6 rx]
  exact w _ J H (Ext.refl hp.sub) (.bl _)
 ·exact w.elim) ha hb⟩
theorem yx (ha:QD X c a ga) (hb:QD X c b gb):QB X c (.Compare a [.Is] [b] pos) (bO (g2 (oM false) ga gb)):=have ha:=ha.h;have hb:=hb.h;⟨jz DO (by
 intro He He' J H x y u v Q hp rx ry w
 unfold oM at w
 split at w
 ·rename_i o ho
  refine ⟨o,by rw [p6 ry];exact ho,?_⟩
  rw [p6 rx]
  exact w _ J H (Ext.refl hp.sub) (.bl _)
 ·exact w.elim) ha hb⟩
end
section
variable {X:Cx}{c:C}{e a b d tg:Rz}{es:List Rz}{ga gb g:G R}{pos:Pos}
theorem ku (h:QD X c e g) (hK:X.K=c.K:=by rfl):xm X c tg e (oO g):=have h:=h.h;⟨sY (DY h) λσ H Q ⟨J,env,sr,w⟩=>by
 refine ⟨J,env,sr,aB (aH w) λr wr v J1 H1 e1 r1=>?_⟩
 rw [hK]
 split at wr
 ·cases r1 with
  | tup h1 h2=>exact ⟨_,rfl,.inr ⟨⟨_,fB e1.sub h1⟩,wr _ J1 H1 e1 (vM (λJ H u=>u) h1 h2)⟩⟩
 ·cases r1 with
  | lst h1 h2=>exact ⟨_,rfl,.inl ⟨⟨_,e1.sub.seq h1⟩,wr _ J1 H1 e1 (pQ (.inl h1) h2)⟩⟩
 ·obtain ⟨J2,e2,s2,rd⟩:=freeze e1 r1 rfl
  cases rd with
  | lst h1 h2=>exact ⟨_,rfl,.inl ⟨⟨_,e2.sub.seq h1⟩,wr _ J2 H1 e2 (pQ (.inl h1) h2)⟩⟩
 ·obtain ⟨a,vs,rfl,h1,h2⟩:=r1
  exact ⟨_,rfl,.inl ⟨⟨_,(sr.hp.ext e1).ent.seq h1⟩,wr _ J1 H1 e1 (pQ (.inr h1) h2)⟩⟩
 ·exact wr.elim⟩
theorem cI (h:QD X c e g) (hK:X.K=c.K:=by rfl):qq X c tg e (fO g):=have h:=h.h;⟨sY (DY h) λσ H Q ⟨J,env,sr,w⟩=>by
 refine ⟨J,env,sr,aB (aH w) λr wr v J1 H1 e1 r1=>?_⟩
 rw [hK]
 have lst:∀{xs:List D},jI r=.ok xs->(∀It J1' H1',Ext J H J1' H1'->Walk c It xs J1' (λJ' H'=>aT J1' J'/\aT H1' H')->Q It H1')->∃a,v=.ref a/\(((∃xs,cG c.K H1 a xs)/\Q (GD c.K a) H1)\/((∃xs,cX c.K H1 a xs)/\Q (GG c.K a) H1)):=fun {xs} q wr=>by
  obtain ⟨a,vs,rfl,h1,h2⟩:=RR.list (sr.hp.ext e1) r1 q
  refine ⟨a,rfl,.inl ⟨⟨_,h1⟩,wr _ J1 H1 e1 λi J' H' hp u=>?_⟩⟩
  have h':=u.2.seq h1
  refine ⟨λhl=>⟨vs,h',by rw [<-h2.length];exact hl⟩,λd hd=>?_⟩
  obtain ⟨v,k1,k2⟩:=h2.get hd
  refine ⟨⟨vs,v,h',k1⟩,λx H2 ⟨e,hy⟩=>?_⟩
  subst e
  have:=hy vs h'
  rw [k1] at this
  cases this
  exact ⟨J',Ext.refl hp.sub,k2.mono u.1⟩
 cases r with
 | d y=>
  cases y with
  | tup xs=>
   cases r1 with
   | tup h1 h2=>exact ⟨_,rfl,.inr ⟨⟨_,fB e1.sub h1⟩,wr _ J1 H1 e1 (vM (λJ H u=>u.1) h1 h2)⟩⟩
  | lst xs=>exact lst rfl wr
  | _=>exact wr.elim
 | l m xs=>exact lst rfl wr
 | mo _ _=>exact wr.elim
 | mb _ _=>exact wr.elim
 | mf _ _=>exact wr.elim⟩
end
section
variable {X:Cx}{c:C}{st:T9}{g:G O}
theorem nM (i:Nat) (h:iD X c st g):iD X c st (jD i g):=have h:=h.h;⟨λQz s σ H D I ⟨J,env,sr,w⟩=>by
 unfold jD at w
 split at w
 ·rename_i xs hi
  obtain ⟨v,h1,a,vs,rfl,h2,h3,h4,h5⟩:=sr.at_ i _ hi
  obtain ⟨J',s1,sr'⟩:=sr.frz (x:=.inl xs) hi h1 h2 h3 h4 (.lst (.inl (.inl b_)) (h5.mono (cM h3 _)))
  exact h Qz s σ H D I ⟨J',_,sr',aB w λo q=>q.mono s1⟩
 ·rename_i ks vs hi
  obtain ⟨v,h1,a,rfl,⟨us,ws,ep,h2,m1,m2,m3,m4⟩,h3,h4⟩:=sr.at_ i _ hi
  obtain ⟨J',s1,sr'⟩:=sr.frz (x:=.inr (ks,vs)) hi h1 h2 h3 h4 (.dct b_ (m1.mono (cM h3 _)) (m2.mono (cM h3 _)) m3 m4)
  exact h Qz s σ H D I ⟨J',_,sr',aB w λo q=>q.mono s1⟩
 ·exact h Qz s σ H D I ⟨J,env,sr,w⟩⟩
end
section
variable {X:Cx}{c:C}
theorem bF {P:Rb}{w:RD}{K:QK}{mg:Str->Option QM}{base:Sn}{x QF:Str}{st:T9}{f:Q4}{fd:Rq}{N ps:List Str}{k:Nat}{Fm:List S->M R}(F:cK K x QF st f fd) (hm:mg x=some (.ref f)) (Sc:bf N ps (ay st))
  (hbi:∀(kV doc pm:QM) (an:Option Q4) (cdv ct:QM) (us:List QM),us.length=ps.length->Yt (Q6 x QF (aU st) (aQ st) (ay st) .none kV doc pm an cdv ct) ⟨us,[]⟩=pure (ps.zip us)){gB:G O}
  (hb:∀(cdv:QM) (A:RG) (outer:List Env) (s:QN) (H:Hp) (E:XK) (J:Hp) (T:Exc->Prop),cV k (A.deeper (WE QF (ay st) s.heap.objs.size f cdv))->
   oE (GR P w K mg base N QF (ay st) f cdv A outer s H E) ⟨K,H,J,T⟩ (aQ st) gB)
  (hF:∀as r,as.length=ps.length->Fm as=.ok r->fin (gB (aZ N as))=.ok r):bC P w K mg base (k + 1) ps.length x Fm:=
 JT F hm Sc hbi (λcdv A outer s H E J T hr=>(hb cdv A outer s H E J T hr).h) hF
theorem IQ {P:Rb}{w:RD}{K:QK}{mg:Str->Option QM}{base:Sn}{x QF:Str}{st:T9}{f:Q4}{fd:Rq}{N ps:List Str}{k:Nat}{Fm:List S->M R}(F:cK K x QF st f fd) (Sc:bf N ps (ay st)){gB:G O}
  (hb:∀(cdv:QM) (A:RG) (outer:List Env) (s:QN) (H:Hp) (E:XK) (J:Hp) (T:Exc->Prop),cV k (A.deeper (WE QF (ay st) s.heap.objs.size f cdv))->
   oE (GR P w K mg base N QF (ay st) f cdv A outer s H E) ⟨K,H,J,T⟩ (aQ st) gB)
  (hF:∀as r,as.length=ps.length->Fm as=.ok r->fin (gB (aZ N as))=.ok r):fG P w K mg base n5 (k + 1) f fd ps (pK K ps.length Fm):=
 Dk F Sc (λcdv A outer s H E J T hr=>(hb cdv A outer s H E J T hr).h) hF
end
end DL
namespace K01
open PySem DL
noncomputable def Cw:List Str:=["thing"]
noncomputable def u6:G O:=(bH (pU (xZ "int" (af 0)) (Bw (xZ "bool" (af 0)))))
noncomputable def ow (as:List S):M R:=fin (u6 (aZ Cw as))
theorem gH {n:Nat}(h:n<=1000):n<=sizeLine:=RE h (by decide)
theorem ud (f:D->Bool):∀(ds:List D),jm (ds.map λd=>.bl (f d))=some (ds.map f)
 | []=>rfl
 | d::r=>by
  simp only [Ra,jm,ud f r]
  rfl
theorem all_map (f:D->Bool) (ds:List D):qN [.l .fresh (ds.map λd=>.bl (f d))]=.ok (.d (.bl (ds.all f))):=by
 unfold qN
 simp only [jI,aN,ud]
 congr 3
 simp [Xz]
theorem jS {α:Type}{xs:List α}{k:Nat}{x:α}(h:xs[k]?=some x):L2.kT xs (k:Int)=some x:=by
 have hk:k < xs.length:=(Rr.mp h).1
 unfold L2.kT L2.yd
 rw [if_pos (by omega),if_pos (by omega)]
 simpa using h
theorem jW {xs:List D}{k:Nat}{x:D}(h:xs[k]?=some x):bg (.d (.tup xs)) (.d (.int k))=.ok (.d x):=by
 unfold bg
 simp only [g8,aN,jS h]
theorem jn {m:Md}{xs:List D}{k:Nat}{x:D}(h:xs[k]?=some x):bg (.l m xs) (.d (.int k))=.ok (.d x):=by
 unfold bg
 simp only [g8,aN,jS h]
theorem HN {z:Str}{k:Nat}{c:Nat}(hz:z.length<=1000) (h:z.cps.toList[k]?=some c):bg (.d (.str z)) (.d (.int k))=.ok (.d (.str ⟨#[c]⟩)):=by
 unfold bg
 simp only [gH hz,if_true,jS h]
theorem eq_int (neg:Bool) (i j:Int):fN neg (.d (.int i)) (.d (.int j))=.ok (.d (.bl (if neg then !(i == j) else i == j))):=rfl
theorem gy (a:D) (r:List D):bg (.d (.tup (a::r))) (.d (.int 0))=.ok (.d a):=jW (k:=0) rfl
theorem Kv (a b:D) (r:List D):bg (.d (.tup (a::b::r))) (.d (.int 1))=.ok (.d b):=jW (k:=1) rfl
theorem Oa (a b c:D) (r:List D):bg (.d (.tup (a::b::c::r))) (.d (.int 2))=.ok (.d c):=jW (k:=2) rfl
theorem ND (n:Nat) (h:n<=1000):below 4611686018427387904 (n:Int)=true:=dY.mpr ⟨by omega,by omega⟩
noncomputable def G8 (j:Int):M (List D):=if below 4611686018427387904 j then .ok (eY 0 j.toNat) else .bad
theorem LH (j:Int) (h:below 4611686018427387904 j=true):G8 j=.ok (eY 0 j.toNat):=by unfold G8;exact if_pos h
theorem LF {gs:G (List R)}{env:Ev}{j:Int}(hg:gs env=.ok [.d (.int j)]):cj gs env=G8 j:=by
 unfold cj G8
 rw [hg]
 rfl
theorem nP {gs:G (List R)}{env:Ev}{n:Nat}(hg:gs env=.ok [.d (.int (n:Int))]) (h:n<=1000):cj gs env=.ok (eY 0 n):=by
 rw [LF hg,LH _ (ND n h)]
 exact congrArg (λk=>M.ok (eY 0 k)) (Sz n)
theorem Ke {g:G (List D)}{t:GT}{u:G O}{env:Ev}{ds:List D}(h:g env=.ok ds):gF g t u env=gf t u ds env:=by
 unfold gF
 rw [h]
 rfl
theorem tN (i j:Int):dD (.d (.int i)) (.d (.int j))=.ok (.d (.int (i + j))):=rfl
theorem Bs {C:Int->Int->Bool}{f:Int->Int->D}{i j:Int}(h:C i j=true):fI C f (.d (.int i)) (.d (.int j))=.ok (.d (f i j)):=by
 show (if C i j=true then M.ok (R.d (f i j)) else M.bad)=_
 rw [if_pos h]
theorem Jr (i j:Int) (h1:-(2 ^ 64) < j) (h2:j < 2 ^ 64):gE (.d (.int i)) (.d (.int j))=.ok (.d (.int (i * j))):=Bs (C:=ye) (f:=λi j=>.int (i * j)) (by unfold ye;rw [Ud];exact Uu (dY.mpr ⟨h1,h2⟩))
theorem iZ (i j:Int) (h1:0 < j) (h2:j < 1073741824):fM (.d (.int i)) (.d (.int j))=.ok (.d (.int (i / j))):=Bs (by
 unfold BF
 rw [QX]
 exact ⟨decide_eq_true h1,dY.mpr ⟨by omega,h2⟩⟩)
theorem dO (i j:Int) (h1:0 < j):cW (.d (.int i)) (.d (.int j))=.ok (.d (.int (i % j))):=Bs (decide_eq_true h1)
theorem Hh (x y:Str) (h:x.length + y.length<=1000):dD (.d (.str x)) (.d (.str y))=.ok (.d (.str (x++y))):=by
 show (if x.length + y.length<=sizeLine then M.ok (R.d (D.str (x++y))) else M.bad)=_
 rw [if_pos (gH h)]
theorem Hg (x:Str) (n:Int) (h0:0<=n) (h:n<=1000) (hx:x.length<=1000):gE (.d (.str x)) (.d (.int n))=.ok (.d (.str (iz x n.toNat))):=by
 show (if 0<=n/\n<=1000/\x.length<=1000 then M.ok (R.d (D.str (iz x n.toNat))) else M.bad)=_
 rw [if_pos ⟨h0,h,hx⟩]
noncomputable def JN:Str:="abcdefghijklmnopqrstuvwxyz"
theorem JO:∀k:Fin 26,JN.cps.toList[k.val]?=some (97 + k.val):=by decide +kernel
theorem Hv:JN.length<=1000:=by decide +kernel
theorem DA (i:Int) (h0:0<=i) (h:i < 26):bg (.d (.str "abcdefghijklmnopqrstuvwxyz")) (.d (.int i))=.ok (.d (.str ⟨#[97 + i.toNat]⟩)):=by
 have e:i=((i.toNat:Nat):Int):=by omega
 have:=HN (z:=JN) (k:=i.toNat) Hv (JO ⟨i.toNat,by omega⟩)
 rw [e]
 exact this
theorem sA (c:Array Nat):∀(k:Nat) (acc:Array Nat),((R8 k c).foldl (·++·) acc).toList=acc.toList++(R8 k c.toList).flatten
 | 0,acc=>by simp
 | k + 1,acc=>by
  rw [Uj,V_,sA c k]
  simp [Uj]
theorem HE (b n:Nat):(iz ⟨#[b]⟩ n).cps.toList=R8 n b:=by
 unfold iz
 simp only
 rw [sA]
 induction n with
 | zero=>rfl
 | succ n ih=>simpa [Uj] using ih
theorem Ih (x:Str):x.length=x.cps.toList.length:=by
 show x.cps.size=_
 simp
theorem strs_map:∀(ss:List Str),strsOf (ss.map .str)=some ss
 | []=>rfl
 | s::r=>by
  simp only [Ra,strsOf,strs_map r]
  rfl
theorem sorted_strs (m:Md) (ss:List Str) (h:ss.length < 64):mG [.l m (ss.map .str)]=.ok (.l .fresh ((qf ss).map .str)):=by
 unfold mG
 simp only [jI,aN,strs_map,h,if_true]
theorem sL {b:G Bool}{t u:G O}{env:Ev}(h:b env=.ok false):b8 b t u env=u env:=by
 unfold b8
 rw [h]
 rfl
theorem uw {b:G Bool}{t u:G O}{env:Ev}(h:b env=.ok true):b8 b t u env=t env:=by
 unfold b8
 rw [h]
 rfl
theorem Mr {g:G R}{f:List R->M R}{env:Ev}{r r':R}(h:g env=.ok r) (hf:f [r]=.ok r'):gN f (ao g aC) env=.ok r':=by
 unfold gN ao
 rw [h]
 exact hf
theorem LC {g:G R}{env:Ev}{r r':R}(h:g env=.ok r) (h2:rF r=.ok r'):bH g env=.ok (.rt r'):=by
 unfold bH
 rw [h,aN,h2]
 rfl
noncomputable abbrev dN (k:Nat):D:=.int k
noncomputable abbrev dP (p:Nat×Nat):D:=.tup [.int p.1,.int p.2]
noncomputable def jy (p q:Nat×Nat):Prop:=p.1 < q.1\/(p.1=q.1/\p.2 < q.2)
noncomputable def wF (m:Nat) (xs:List Nat):Prop:=xs.length<=8/\xs.Pairwise (· < ·)/\∀x∈xs,x < m
noncomputable def rN (m:Nat) (ps:List (Nat×Nat)):Prop:=ps.length<=64/\ps.Pairwise jy/\∀p∈ps,p.1 < m/\p.2 < m
structure Wd where
 m:Nat
 ms:List (Str×List Nat)
 ar:List (Str×List (Nat×Nat))
noncomputable abbrev kC (r:Str×List Nat):D:=.tup [.str r.1,.tup (r.2.map dN)]
noncomputable abbrev pg (r:Str×List (Nat×Nat)):D:=.tup [.str r.1,.tup (r.2.map dP)]
noncomputable def Wd.d (w:Wd):D:=.tup [.int w.m,.tup (w.ms.map kC),.tup (w.ar.map pg)]
theorem vA {K:QK}{J:L2.Hp}:∀(ns:List Int),aF K J (ns.map D.int) (ns.map L2.V.int)
 | []=>.nil
 | n::r=>.cons (.int n) (vA r)
end K01
namespace DX
open PySem PySem.Spec
open Builtin Builtin.ObjectAttr
end DX
namespace DX
open PySem PySem.Spec
end DX
namespace DX
open PySem PySem.Spec PyProof.Rows L2
end DX
namespace DL
open PySem PySem.Spec PyProof.Rows L2 DX
noncomputable def Nk (K:QK) (J:Hp) (x:Exc) (v:QM) (dx:Option Q4):Prop:=
 ∃a C vs,v=.ref a/\J a=some (XO a C dx)/\RK K Rt x.cls=some (some (.ref C))/\XF J dx x.ns vs/\aF K J x.ds vs/\∃P,GX K P/\XE K P C
noncomputable def XW (K:QK) (J H:Hp) (E:XK) (x:Exc):Prop:=∀v dx J' H',Ext J H J' H'->Nk K J' x v dx->E v dx H'
noncomputable def vG (K:QK) (n:Nat) (F:List S->M R):Sp:=λvs H Q E=>∃J as,aT J H/\as.length=n/\i9 K J H as vs/\cD (F as) (λr=>∀v J' H',Ext J H J' H'->FR K H J' H' r v->Q v H') (XW K J H E)
noncomputable abbrev N9 (P:Rb) (w:RD) (K:QK) (mg:Str->Option QM) (base:Sn) (N:List Str) (QF:Str) (sc:TF) (f:Q4) (cd:QM) (A:RG) (outer:List Env) (s:QN) (H:Hp) (E:XK):Cx:=oJ (rB P w) P w K mg base N QF sc f cd A outer s H E
end DL
namespace DX
open PySem PySem.Spec PyProof.Rows L2
end DX
namespace DL
open PySem PySem.Spec PyProof.Rows L2 DX
end DL
namespace DX
open PySem PySem.Spec PyProof.Rows L2
end DX
namespace DL
open PySem PySem.Spec PyProof.Rows L2 DX
end DL
namespace DX
open PySem PySem.Spec PyProof.Rows L2
open Sem (wp)
end DX
namespace DL
open PySem PySem.Spec PyProof.Rows L2 DX
noncomputable def Ex (P:Rb) (w:RD) (K:QK) (mg:Str->Option QM) (base:Sn) (k n:Nat) (x:Str) (Fm:List S->M R):Prop:=
 ∃f fd ps,fG P w K mg base (rB P w) k f fd ps (vG K n Fm)/\mg x=some (.ref f)/\R7 K (.ref f)=true/\Binds K fd ps []
section
variable {X:Cx}{c:C}{e a:Rz}{es:List Rz}{pos:Pos}{g:G R}{L:List Str}
theorem FL {k n:Nat}{f:Q4}{fd:Rq}{ps:List Str}{F:List S->M R}{x:Str}{p:Pos}{gs:G (List R)}(G:fG X.prog X.w X.K X.mg X.base (rB X.prog X.w) k f fd ps (vG X.K n F)) (hr:cV k X.A) (hm:X.mg x=some (.ref f)) (hk:R7 X.K (.ref f)=true)
  (hb:Binds X.K fd ps []) (ha:zV X c (e::es) gs) (hT:c.K=X.K:=by rfl) (hg:Gl X x:=by rfl) (hdb:(x == ("__debug__":Str))=false:=by decide) (he:QZ (e::es) X.env=(false,eval e X.env)::QZ es X.env:=by rfl)
  (hpl:(SV pos (QZ es X.env)).any (·.1)=false:=by rfl):PD X c (.Call (.Name x p) (e::es) [] pos) (gN (aK n F) gs):=by
 refine eV (p_ (E:=λ_ _ _=>False) G hr hg hm hk hb .nil (λQz σ H s v s' I ⟨e,C,dx,T,H',ev,f⟩=>f.wish.elim) ha hdb he hpl) λσ H Q ⟨J,env,sr,w⟩=>?_
 refine ⟨J,env,sr,aB (aH w) λrs wr vs J1 H1 e1 r1=>?_⟩
 unfold aK at wr
 split at wr
 ·rename_i hl
  have h1:=sr.hp.ext e1
  have ar:=r1.args h1
  rw [hT] at ar
  refine ⟨J1,rs.map fS,e1.sub,by simpa using hl,by rw [S8];exact ar,?_⟩
  cases q:F (rs.map fS) with
  | bad=>rw [q] at wr;exact wr
  | exc x=>rw [q] at wr;exact wr.elim
  | ok r=>
   rw [q] at wr
   intro v J' H' e2 fr
   refine wr v J' H' (e1.trans e2) ?_
   cases r with
   | d y=>exact (show Rep c.K J' y v from hT▸fr)
   | mo _ _=>exact fr.elim
   | mb _ _=>exact fr.elim
   | mf _ _=>obtain ⟨a,h1,h2,h3,h4⟩:=fr;exact ⟨a,h1,hT▸h2,h3,e1.h.free h4⟩
   | l m ys=>
    obtain ⟨a,us,h1,h2,h3,h4,h5⟩:=fr
    exact ⟨a,us,h1,h2,h3,e1.h.free h4,hT▸h5⟩
 ·exact wr.elim
theorem qW {k k' n:Nat}{F:List S->M R}{x:Str}{p:Pos}{gs:G (List R)}(G:Ex X.prog X.w X.K X.mg X.base k n x F) (hr:cV k' X.A) (ha:jt X c (e::es) gs) (hk:k<=k':=by decide) (hT:c.K=X.K:=by rfl) (hg:Gl X x:=by rfl) (hdb:(x == ("__debug__":Str))=false:=by decide)
  (he:QZ (e::es) X.env=(false,eval e X.env)::QZ es X.env:=by rfl) (hpl:(SV pos (QZ es X.env)).any (·.1)=false:=by rfl):QD X c (.Call (.Name x p) (e::es) [] pos) (gN (aK n F) gs):=by
 obtain ⟨f,fd,ps,h1,h2,h3,h4⟩:=G
 exact ⟨FL h1 (hr.mono hk) h2 h3 h4 ha.h hT hg hdb he hpl⟩
end
structure nk (K:QK) (x QF:Str) (st:T9) (f:Q4) (fd:Rq):Prop where
 ex:∃(oc:QM) (od:Option Q4) (T:Q4) (o:Obj) (n:Nat) (kV doc pm:QM) (an:Option Q4) (cdv ct:QM) (osl:Array (Option QM)),
  fd=Q6 x QF (aU st) (aQ st) (ay st) (.ref T) kV doc pm an cdv ct/\K.lookup f=some ⟨oc,od,.func fd,osl⟩/\T3 K cdv QF=true/\K.lookup T=some o/\o.data=.seq #[.none] n
 kp:R7 K (.ref f)=true
theorem xr {K:QK}{J H:Hp}:∀{as:List S}{vs:List V},i9 K J H as vs->i9 K J H (as++[.d .non]) (vs++[.non])
 | [],_,h=>by
  cases h
  exact ⟨.non,[],rfl,.non,rfl⟩
 | a::as,_,h=>by
  obtain ⟨v,us,rfl,h1,h2⟩:=h
  exact ⟨v,us++[.non],rfl,h1,xr h2⟩
section
variable {P:Rb}{w:RD}{K:QK}{mg:Str->Option QM}{base:Sn}
theorem HQ {x QF:Str}{st:T9}{f:Q4}{fd:Rq}{N ps:List Str}{k:Nat}{Fm:List S->M R}(F:nk K x QF st f fd) (Sc:bf N ps (ay st)){gB:G O}
  (hb:∀(cdv:QM) (A:RG) (outer:List Env) (s:QN) (H:Hp) (E:XK) (J:Hp),cV k (A.deeper (WE QF (ay st) s.heap.objs.size f cdv))->GL (N9 P w K mg base N QF (ay st) f cdv A outer s H E) ⟨K,H,J,XW K J H E⟩ (aQ st) gB)
  (hF:∀as,as.length=ps.length->Fm as≠.bad->fin (gB (aZ N as))=Fm as):fG P w K mg base (rB P w) (k + 1) f fd ps (vG K ps.length Fm):=by
 obtain ⟨oc,od,T,o,n,kV,doc,pm,an,cdv,ct,osl,rfl,lk,hcd,lT,dT⟩:=F.ex
 refine GU lk hcd Sc (λvs H Q E ⟨J,as,h1,h2,h3,h4⟩=>by rw [h3.length,h2]) λA outer s H vs Q E hr ⟨J,as,h1,h2,h3,h4⟩=>?_
 refine ⟨_,hb cdv A outer s H E J hr,J,aZ N as,yX h1 h3,?_⟩
 have z:=hF as h2 (λq=>by rw [q] at h4;exact h4)
 rw [<-z] at h4
 have ext:∀{J' H':Hp},HI ⟨K,H,J,XW K J H E⟩ J' H'->Ext J H J' H':=λhp=>⟨hp.ent,hp.entJ,hp.sub,hp.frz⟩
 cases qg:gB (aZ N as) with
 | bad=>rw [qg] at h4;exact h4
 | exc x=>rw [qg] at h4;exact h4
 | ok o=>
  rw [qg] at h4
  cases o with
  | bk _=>exact h4.elim
  | ct _=>exact h4.elim
  | nx env=>exact λσ' J' H' _ sr=>h4 .non J' H' (ext sr.hp) .non
  | rt r=>exact λv J' H' _ hp rf=>h4 v J' H' (ext hp) (by
    cases r with
    | d x=>exact rf
    | mo _ _=>exact rf
    | mf _ _=>exact rf
    | mb _ _=>exact rf
    | l m xs=>exact rf)
noncomputable def Ew (P:Rb) (w:RD) (K:QK) (mg:Str->Option QM) (base:Sn) (k n:Nat) (x:Str) (Fm:List S->M R):Prop:=
 ∃f fd ps,fG P w K mg base (rB P w) k f fd ps (vG K (n + 1) Fm)/\mg x=some (.ref f)/\R7 K (.ref f)=true/\Binds K fd ps [.none]
theorem nk.bindsAll {x QF:Str}{st:T9}{f:Q4}{fd:Rq}{ps:List Str}(F:nk K x QF st f fd)
  (h:∀(T:Q4) (kV doc pm:QM) (an:Option Q4) (cdv ct:QM) (us:List QM),us.length=ps.length->∃k:Option (Array QM)->Sem (List (Str×QM)),
   Yt (Q6 x QF (aU st) (aQ st) (ay st) (.ref T) kV doc pm an cdv ct) ⟨us,[]⟩=aa4 (.ref T) >>= k/\k (some #[.none])=pure (ps.zip us)):Binds K fd ps []:=by
 obtain ⟨oc,od,T,o,n,kV,doc,pm,an,cdv,ct,osl,rfl,lk,hcd,lT,dT⟩:=F.ex
 intro s us hK hl
 rw [S8] at hl ⊢
 obtain ⟨k,h1,h2⟩:=h T kV doc pm an cdv ct us hl
 exact .of_defaults (T:=T) (items:=#[.none]) rfl (hK _ _ lT) dT h1 h2
theorem nk.bindsOne {x QF:Str}{st:T9}{f:Q4}{fd:Rq}{ps:List Str}(F:nk K x QF st f fd)
  (h:∀(T:Q4) (kV doc pm:QM) (an:Option Q4) (cdv ct:QM) (us:List QM),us.length + 1=ps.length->∃k:Option (Array QM)->Sem (List (Str×QM)),
   Yt (Q6 x QF (aU st) (aQ st) (ay st) (.ref T) kV doc pm an cdv ct) ⟨us,[]⟩=aa4 (.ref T) >>= k/\k (some #[.none])=pure (ps.zip (us++[.none]))):Binds K fd ps [.none]:=by
 obtain ⟨oc,od,T,o,n,kV,doc,pm,an,cdv,ct,osl,rfl,lk,hcd,lT,dT⟩:=F.ex
 intro s us hK hl
 obtain ⟨k,h1,h2⟩:=h T kV doc pm an cdv ct us (by simpa using hl)
 exact .of_defaults (T:=T) (items:=#[.none]) rfl (hK _ _ lT) dT h1 h2
end
section
variable {X:Cx}{c:C}{e:Rz}{es:List Rz}{pos:Pos}
theorem DR {k n:Nat}{f:Q4}{fd:Rq}{ps:List Str}{F:List S->M R}{x:Str}{p:Pos}{gs:G (List R)}(G:fG X.prog X.w X.K X.mg X.base (rB X.prog X.w) k f fd ps (vG X.K (n + 1) F)) (hr:cV k X.A) (hm:X.mg x=some (.ref f)) (hk:R7 X.K (.ref f)=true)
  (hb:Binds X.K fd ps [.none]) (ha:zV X c (e::es) gs) (hT:c.K=X.K:=by rfl) (hg:Gl X x:=by rfl) (hdb:(x == ("__debug__":Str))=false:=by decide) (he:QZ (e::es) X.env=(false,eval e X.env)::QZ es X.env:=by rfl)
  (hpl:(SV pos (QZ es X.env)).any (·.1)=false:=by rfl):PD X c (.Call (.Name x p) (e::es) [] pos) (gN (aK n (λas=>F (as++[.d .non]))) gs):=by
 refine eV (p_ (E:=λ_ _ _=>False) G hr hg hm hk hb (dvs:=[.non]) (.cons rfl .nil) (λQz σ H s v s' I ⟨e,C,dx,T,H',ev,f⟩=>f.wish.elim) ha hdb he hpl) λσ H Q ⟨J,env,sr,w⟩=>?_
 refine ⟨J,env,sr,aB (aH w) λrs wr vs J1 H1 e1 r1=>?_⟩
 unfold aK at wr
 split at wr
 ·rename_i hl
  have h1:=sr.hp.ext e1
  have ar:=r1.args h1
  rw [hT] at ar
  refine ⟨J1,rs.map fS++[.d .non],e1.sub,by simpa using hl,xr ar,?_⟩
  dsimp only at wr
  cases q:F (rs.map fS++[.d .non]) with
  | bad=>rw [q] at wr;exact wr
  | exc x=>rw [q] at wr;exact wr.elim
  | ok r=>
   rw [q] at wr
   intro v J' H' e2 fr
   refine wr v J' H' (e1.trans e2) ?_
   cases r with
   | d y=>exact (show Rep c.K J' y v from hT▸fr)
   | mo _ _=>exact fr.elim
   | mb _ _=>exact fr.elim
   | mf _ _=>obtain ⟨a,h1,h2,h3,h4⟩:=fr;exact ⟨a,h1,hT▸h2,h3,e1.h.free h4⟩
   | l m ys=>
    obtain ⟨a,us,h1,h2,h3,h4,h5⟩:=fr
    exact ⟨a,us,h1,h2,h3,e1.h.free h4,hT▸h5⟩
 ·exact wr.elim
theorem F_ {k k' n:Nat}{F:List S->M R}{x:Str}{p:Pos}{gs:G (List R)}(G:Ew X.prog X.w X.K X.mg X.base k n x F) (hr:cV k' X.A) (ha:jt X c (e::es) gs) (hk:k<=k':=by decide) (hT:c.K=X.K:=by rfl) (hg:Gl X x:=by rfl) (hdb:(x == ("__debug__":Str))=false:=by decide)
  (he:QZ (e::es) X.env=(false,eval e X.env)::QZ es X.env:=by rfl) (hpl:(SV pos (QZ es X.env)).any (·.1)=false:=by rfl):QD X c (.Call (.Name x p) (e::es) [] pos) (gN (aK n (λas=>F (as++[.d .non]))) gs):=by
 obtain ⟨f,fd,ps,h1,h2,h3,h4⟩:=G
 exact ⟨DR h1 (hr.mono hk) h2 h3 h4 ha.h hT hg hdb he hpl⟩
end
end DL
namespace DL
open PySem PySem.Spec PyProof.Rows L2
noncomputable def t6 (A:RG) (s:QN) (y x:QM) (b:Bool):Prop:=
 ∀(prog:Rb) (w:RD) (E:QM->QN->Prop) (Q:QM->QN->Prop),Q (.bool b) s->Rg (Rk prog w) A (richCompare .Lt y x) Q E s
inductive gr (A:RG) (s:QN) (fin:Bool):List (QM×QM)->Bool->Prop
 | nil:gr A s fin [] fin
 | yes {x y:QM}{r:List (QM×QM)}{b:Bool}:Td A s x y true->gr A s fin r b->gr A s fin ((x,y)::r) b
 | no {x y:QM}{r:List (QM×QM)}{b:Bool}:Td A s x y false->t6 A s x y b->gr A s fin ((x,y)::r) b
section
open PySem.SeqAt
open PySem.AutoSeq1 (wpAny_loadPart')
open PySem.MeetsSeq PySem.MeetsSeq2 PySem.MeetsSeq3
theorem Em (l b:Q4) (items QG:Array QM) (n n2:Nat) (dd dd2:Option Q4) (sl sl2:Array (Option QM)) (ans:Bool):
  Meets (U1.«tuple.__lt__» ⟨[.ref l,.ref b],[]⟩)
   (λA R s=>s.heap.get? l=some {cls:=.type "tuple",dict:=dd,data:=.seq items n,slots:=sl}/\s.heap.get? b=some {cls:=.type "tuple",dict:=dd2,data:=.seq QG n2,slots:=sl2}/\
    gr A.in1 s (decide (items.size < QG.size)) (items.toList.zip QG.toList) ans/\R (.ok (.ret (.bool ans))) s):=
 .of_wp λprog w A R s h=>by
  obtain ⟨hp,g,d,tk,os⟩:=s;obtain ⟨hl,hb,hP,h⟩:=h
  have f2:=U8
  wp_walk using Tw hl,Tw hb,TN _ (λrest b s'=>b.1=none/\s'=⟨hp,g,d,tk,os⟩/\gr A.in1 ⟨hp,g,d,tk,os⟩ (decide (items.size < QG.size)) rest ans) _
  case turn=>
   rintro ⟨y,x⟩ rest b s' ⟨hb',rfl,hq⟩
   cases hq with
   | yes he hr=>
    refine QJ (he prog w _ _ ?_)
    wp_walk
    exact ⟨rfl,rfl,hr⟩
   | no he hlt=>
    refine QJ (he prog w _ _ ?_)
    have PN:=hlt prog w
    wp_walk using PN
    exact ⟨_,rfl,by simpa using h⟩
  case fin=>
   rintro ⟨b1,b2⟩ s' ⟨hb',rfl,hq⟩
   simp only at hb'
   subst hb'
   cases hq
   wp_walk
   exact ⟨_,rfl,by simpa [Vz] using h⟩
  case h=>
   exact ⟨rfl,rfl,hP⟩
end
section
variable {K:QK}{J:Hp}{s:QN}
theorem Ik {A:RG}{l b:Q4}{items QG:Array QM}{ans:Bool}(hl:s.heap.IsTuple l items) (hb:s.heap.IsTuple b QG) (hP:gr A.in1 s (decide (items.size < QG.size)) (items.toList.zip QG.toList) ans)
  (hu:A.units < Sy):t6 A s (.ref l) (.ref b) ans:=λprog w E Q h=>by
 obtain ⟨⟨cls,dd,data,sl⟩,ho,hc,n,hd⟩:=id hl
 obtain ⟨⟨cls2,dd2,data2,sl2⟩,ho2,hc2,n2,hd2⟩:=id hb
 simp only at hc hd hc2 hd2
 subst hc hd hc2 hd2
 exact Xk (op:=.Lt) ⟨_,ho,rfl⟩ ⟨_,ho2,rfl⟩ PySem.F.slot_tuple_lt PySem.F.entry_tuple_lt (PySem.F.args_tuple_lt_2 _ _) (Em l b items QG n n2 dd dd2 sl sl2 ans)
  ⟨ho,ho2,hP,show Ua ans≠X3/\Q (.bool ans) s from ⟨(λx=>nomatch x),h⟩⟩ hu
mutual
noncomputable def dM:D->D->Option Bool
 | .bl p,y=>match y with
  | .bl q=>some (!p && q)
  | _=>none
 | .int i,y=>match y with
  | .int j=>some (decide (i < j))
  | _=>none
 | .str x,y=>match y with
  | .str z=>some (decide (x.cps.toList < z.cps.toList))
  | _=>none
 | .tup xs,y=>match y with
  | .tup ys=>jE xs ys
  | _=>none
 | _,_=>none
noncomputable def jE:List D->List D->Option Bool
 | [],ys=>some (!ys.isEmpty)
 | x::xs,ys=>match ys with
  | []=>some false
  | y::ys=>if bu x y=true then jE xs ys else dM x y
end
theorem Ij (A:RG){p:Bool}{e:D}{w:V}{u':QM}{b:Bool}(h:dM (.bl p) e=some b) (re:Rep K J e w) (rw':RelV w u'):t6 A s (.bool p) u' b:=by
 unfold dM at h
 cases e with
 | bl q=>
  cases re
  cases rw'
  simp only [SY] at h
  subst h
  intro prog w E Q hq
  refine (lt_bool (p:=p) (q:=q) ?_:Rg (Rk prog w) A (Sx .Lt (.bool p) (.bool q)) Q E s)
  cases p <;> cases q <;> exact hq
 | _=>cases h
theorem Ff (A:RG){p:Int}{t:Tok}{e:D}{w:V}{u':QM}{b:Bool}(h:dM (.int p) e=some b) (re:Rep K J e w) (rw':RelV w u'):t6 A s (.int p t) u' b:=by
 unfold dM at h
 cases e with
 | int q=>
  cases re
  obtain ⟨t',rfl⟩:=rw'
  simp only [SY] at h
  subst h
  intro prog w E Q hq
  exact (abt hq:Rg (Rk prog w) A (Sx .Lt (.int p t) (.int q t')) Q E s)
 | _=>cases h
theorem Fg (A:RG){p:Str}{t:Tok}{e:D}{w:V}{u':QM}{b:Bool}(h:dM (.str p) e=some b) (re:Rep K J e w) (rw':RelV w u'):t6 A s (.str p t) u' b:=by
 unfold dM at h
 cases e with
 | str q=>
  cases re
  obtain ⟨t',rfl⟩:=rw'
  simp only [SY] at h
  subst h
  intro prog w E Q hq
  exact (abu hq:Rg (Rk prog w) A (Sx .Lt (.str p t) (.str q t')) Q E s)
 | _=>cases h
noncomputable def EF (K:QK) (J:Hp) (s:QN) (d:D):Prop:=∀{e:D}{v w:V}{u u':QM}{b:Bool}(A:RG),dM d e=some b->Rep K J d v->Rep K J e w->RelV v u->RelV w u'->A.units + dep d < Sy->dep d<=1000->dep e<=1000->t6 A s u u' b
noncomputable def rK (K:QK) (J:Hp) (s:QN) (ds:List D):Prop:=∀{es:List D}{vs ws:List V}{us us':List QM}{b:Bool}{n1 n2:Nat}(A:RG),jE ds es=some b->aF K J ds vs->aF K J es ws->Vals vs us->Vals ws us'->A.units + deps ds < Sy->deps ds<=1000->deps es<=1000->
  us.length + n2=us'.length + n1->gr A s (decide (n1 < n2)) (us.zip us') b
theorem Fi (F:HF K J s){ds:List D}(ih:rK K J s ds):EF K J s (.tup ds):=by
 intro e v w u u' b A h rd re rv rw' hu k1 k2
 unfold dM at h
 cases e with
 | tup es=>
  simp only at h
  cases rd with
  | tup h1 hs=>
   cases re with
   | tup h2 hs'=>
    cases rv;cases rw'
    obtain ⟨QA,r,p⟩:=F.t _ _ h1
    obtain ⟨its',r',p'⟩:=F.t _ _ h2
    refine Ik p p' ?_ (by unfold dep at hu;omega)
    have:=ih A.in1 (n1:=QA.length) (n2:=its'.length) h hs hs' r r' (by rw [in1_units];unfold dep at hu;omega) (by unfold dep at k1;omega) (by unfold dep at k2;omega) (by omega)
    simpa using this
 | _=>cases h
theorem DF:rK K J s []:=by
 intro es vs ws us us' b n1 n2 A h rd re rv rw' hu k1 k2 hl
 cases rd;cases rv
 cases re with
 | nil=>
  cases rw'
  simp only [jE,List.isEmpty_nil,Tn,SY] at h
  subst h
  have:decide (n1 < n2)=false:=decide_eq_false (by simp at hl;omega)
  rw [this]
  exact .nil
 | cons _ _=>
  cases rw'
  simp only [jE,List.isEmpty_cons,VF,SY] at h
  subst h
  have:decide (n1 < n2)=true:=decide_eq_true (by simp at hl;omega)
  rw [this]
  exact .nil
theorem BL (F:HF K J s){x:D}{xs:List D}(ix:EF K J s x) (ih:rK K J s xs):rK K J s (x::xs):=by
 intro es vs ws us us' b n1 n2 A h rd re rv rw' hu k1 k2 hl
 cases rd with
 | cons q1 r1=>
  cases rv with
  | cons t1 u1=>
   cases re with
   | nil=>
    cases rw'
    simp only [jE,SY] at h
    subst h
    have:decide (n1 < n2)=false:=decide_eq_false (by simp at hl;omega)
    rw [this]
    exact .nil
   | cons q2 r2=>
    cases rw' with
    | cons t2 u2=>
     unfold deps at hu k1 k2
     rename_i y v' ys ws' u0 us0
     have he:=mD F A q1 q2 t1 t2 (by omega) (by omega) (by omega)
     simp only [jE] at h
     cases z:bu x y with
     | true=>
      rw [z,if_pos rfl] at h
      rw [z] at he
      exact .yes he (ih A h r1 r2 u1 u2 (by omega) (by omega) (by omega) (by simp at hl;omega))
     | false=>
      rw [z,if_neg RB] at h
      rw [z] at he
      exact .no he (ix A h q1 q2 t1 t2 (by omega) (by omega) (by omega))
mutual
theorem Nv (F:HF K J s):∀d:D,EF K J s d
 | .bl p=>λA h rd re rv rw' _ _ _=>by cases rd;cases rv;exact Ij A h re rw'
 | .int p=>λA h rd re rv rw' _ _ _=>by cases rd;obtain ⟨t,rfl⟩:=rv;exact Ff A h re rw'
 | .str p=>λA h rd re rv rw' _ _ _=>by cases rd;obtain ⟨t,rfl⟩:=rv;exact Fg A h re rw'
 | .tup ds=>Fi F (wK F ds)
 | .non=>λA h _ _ _ _ _ _ _=>by unfold dM at h;cases h
 | .lst _=>λA h _ _ _ _ _ _ _=>by unfold dM at h;cases h
 | .emp=>λA h _ _ _ _ _ _ _=>by unfold dM at h;cases h
 | .exn _ _ _=>λA h _ _ _ _ _ _ _=>by unfold dM at h;cases h
 | .dct _ _=>λA h _ _ _ _ _ _ _=>by unfold dM at h;cases h
theorem wK (F:HF K J s):∀ds:List D,rK K J s ds
 | []=>DF
 | x::xs=>BL F (Nv F x) (wK F xs)
end
end
end DL
namespace DL
open PySem PySem.Spec PyProof.Rows L2
open PySem.W (KasT kas_sort kas_asc kas_desc kas_rev kas_tail3 kas_descPart kas_count kas_place kas_bin)
noncomputable def aY {α:Type}(q:Nat->Nat->Bool):KasT α->α
 | .ret a=>a
 | .ask i j k=>aY q (k (q i j))
inductive fK (n:Nat){α:Type}(P:α->Prop):KasT α->Prop
 | ret {a:α}:P a->fK n P (.ret a)
 | ask {i j:Nat}{k:Bool->KasT α}:i < n->j < n->(∀b,fK n P (k b))->fK n P (.ask i j k)
theorem fK.bind {n:Nat}{α β:Type}{P:α->Prop}{R:β->Prop}{f:α->KasT β}{t:KasT α}(h:fK n P t) (hf:∀a,P a->fK n R (f a)):fK n R (t.bind f):=by
 induction h with
 | ret p=>exact hf _ p
 | ask h1 h2 _ ih=>exact .ask h1 h2 ih
theorem fK.run {n:Nat}{α:Type}{P:α->Prop}{t:KasT α}(q:Nat->Nat->Bool) (h:fK n P t):P (aY q t):=by
 induction h with
 | ret p=>exact p
 | ask _ _ _ ih=>exact ih _
theorem fK.wp {n:Nat}{α:Type}{P:α->Prop}{t:KasT α}{q:Nat->Nat->Bool}{cmp:Nat->Nat->(Bool->QN->Prop)->QN->Prop}{s:QN}{G:α->QN->Prop}(h:fK n P t)
  (hc:∀i j C,i < n->j < n->C (q i j) s->cmp i j C s) (hG:G (aY q t) s):t.kasWp cmp G s:=by
 induction h with
 | ret p=>exact hG
 | ask h1 h2 _ ih=>exact hc _ _ _ h1 h2 (ih _ hG)
noncomputable def eF (n:Nat) (p:Array Nat):Prop:=p.Perm (QU n).toArray
theorem eF.lt {n:Nat}{p:Array Nat}(h:eF n p) (hn:0 < n) (k:Nat):p.getD k 0 < n:=by
 by_cases hk:k < p.size
 ·have e:p.getD k 0=p[k]:=by simp [S0,hk]
  rw [e]
  have hm:p[k]∈p:=Array.getElem_mem hk
  have:=(TU h).mp hm
  simpa using this
 ·have e:p.getD k 0=0:=by simp [S0,hk]
  rw [e];exact hn
theorem eF.rev {n:Nat}{p:Array Nat}(h:eF n p) (i j:Nat):eF n (VP p i j):=(mirror_perm _ _ _ _).trans h
theorem eF.bub {n:Nat}{p:Array Nat}(h:eF n p) (i j:Nat):eF n (bubble p i j):=(bubble_perm _ _ _).trans h
variable {n:Nat}
theorem Bc {p:Array Nat}(hn:0 < n) (h:eF n p):∀f m,fK n (λ_:Nat=>True) (VQ p f m)
 | 0,m=>.ret trivial
 | f + 1,m=>.ask (h.lt hn _) (h.lt hn _) λb=>by cases b with
  | true=>exact .ret trivial
  | false=>exact Bc hn h f (m + 1)
theorem rV (hn:0 < n):∀f {p:Array Nat} m q,eF n p->fK n (λr:Array Nat×Nat×Nat=>eF n r.1) (Tp f p m q)
 | 0,p,m,q,h=>.ret h
 | f + 1,p,m,q,h=>.ask (h.lt hn _) (h.lt hn _) λb=>by
  cases b with
  | true=>
   simp only [if_true]
   by_cases hq:q > 0
   ·rw [if_pos hq];exact rV hn f _ _ (h.rev _ _)
   ·rw [if_neg hq];exact rV hn f _ _ h
  | false=>
   simp only [Rf,if_false]
   refine .ask (h.lt hn _) (h.lt hn _) λb=>?_
   cases b with
   | true=>exact .ret h
   | false=>exact rV hn f _ _ h
theorem CG (hn:0 < n){p:Array Nat}(h:eF n p) (m k:Nat):fK n (λr:Nat×Array Nat=>eF n r.2) (aa5 m k p):=(Bc hn (h.rev 0 m) _ _).bind λa _=>.ret (h.rev _ _)
theorem Ae (hn:0 < n){p:Array Nat}(h:eF n p) (m k:Nat):fK n (λr:Nat×Array Nat=>eF n r.2) (Zi m k p):=(rV hn _ _ _ h).bind λr hr=>by
 split
 ·exact CG hn (hr.rev _ _) _ _
 ·exact CG hn hr _ _
theorem Hy (hn:0 < n){p:Array Nat}(h:eF n p) (k:Nat):fK n (λr:Nat×Array Nat=>eF n r.2) (ZK k p):=(Bc hn h _ _).bind λm _=>by
 split
 ·exact .ret h
 ·split
  ·refine .ask (h.lt hn _) (h.lt hn _) λb=>?_
   cases b with
   | true=>exact .ret h
   | false=>exact Ae hn (h.rev _ _) _ _
  ·exact Ae hn h _ _
theorem uc (hn:0 < n){p:Array Nat}(h:eF n p) (k:Nat):∀f l r,fK n (λ_:Nat=>True) (TV p k f l r)
 | 0,l,r=>.ret trivial
 | f + 1,l,r=>by
  unfold TV
  split
  ·exact .ret trivial
  ·refine .ask (h.lt hn _) (h.lt hn _) λb=>?_
   cases b with
   | true=>exact uc hn h k f _ _
   | false=>exact uc hn h k f _ _
theorem GP (hn:0 < n):∀f {p:Array Nat} k,eF n p->fK n (eF n) (aaH f p k)
 | 0,p,k,h=>.ret h
 | f + 1,p,k,h=>(uc hn h k _ _ _).bind λl _=>GP hn f _ (h.bub _ _)
theorem eH (hn:0 < n):fK n (eF n) (Tq n):=(Hy hn (show eF n _ from abS _) n).bind λr hr=>by
 split
 ·exact GP hn _ _ hr
 ·exact .ret hr
end DL
namespace DL
open PySem PySem.Spec PyProof.Rows L2
open PySem.W (KasT kas_sort kas_ask kas_item kat_run kat_snds KatLex kat_cons kat_yes kat_no kat_lt kat_one KatTups kat_kind Looks)
section
variable {prog:Rb}{w:RD}{A:RG}{E:QM->QN->Prop}{s:QN}
noncomputable def iw (q:Nat->Nat->Bool) (vs:List QM):List QM:=(aY q (Tq vs.length)).toList.map λi=>vs.getD i RN
theorem FF (q:Nat->Nat->Bool){vs:List QM}(h:0 < vs.length):(iw q vs).length=vs.length:=by
 unfold iw
 rw [QO,Q3]
 have:=((eH h).run q:eF _ _).size_eq
 simpa using this
theorem sQ {a:Q4}{vs:List QM}{n:Nat}{κ:aaI}{q:Nat->Nat->Bool}{P:abT->QN->Prop}(ho:s.heap.get? a=some (Ti "list" vs.toArray n)) (h2:2<=vs.length) (h64:vs.length < 64)
  (hk:∀h' C,(∀b o,b≠a->s.heap.get? b=some o->h'.get? b=some o)->C κ {s with heap:=h'}->Rg (Rk prog w) A (aaJ vs.toArray) C (λ_ _=>False) {s with heap:=h'})
  (hc:∀h',(∀b o,b≠a->s.heap.get? b=some o->h'.get? b=some o)->∀i j C,i < vs.length->j < vs.length->C (q i j) {s with heap:=h'}->kas_ask prog w A κ vs i j C {s with heap:=h'})
  (h:P (.done (.ret .none)) {s with heap:=aat s.heap a vs (iw q vs).toArray}):Rg (Rk prog w) A (U1.«list.sort» ⟨[.ref a],[]⟩) P E s:=by
 have la:a < s.heap.objs.size:=Q8 ho
 have sl:vs.length<=sizeLine:=by rw [RS];omega
 obtain ⟨e1,g1⟩:∃e1,(s.heap.update a (SA λ_=>(#[]:Array QM))).get? a=some (Ti "list" #[] e1):=⟨_,(ZL ho λ_=>#[])⟩
 have z1:(s.heap.update a (SA λ_=>(#[]:Array QM))).objs.size=s.heap.objs.size:=(Xd _ _ _)
 have g3:(((s.heap.update a (SA λ_=>(#[]:Array QM))).push (Ti "tuple" vs.toArray 0)).push (Ti "list" #[] 0)).get? a=some (Ti "list" #[] e1):=(QV _ ((QV _ g1)))
 have kp:∀b o,b≠a->s.heap.get? b=some o->(((s.heap.update a (SA λ_=>(#[]:Array QM))).push (Ti "tuple" vs.toArray 0)).push (Ti "list" #[] 0)).get? b=some o:=λb o nb q=>
  QV _ (QV _ (by rw [Yl _ _ _ _ nb];exact q))
 rw [ZM]
 refine QJ ((listItems_at ho rfl ?_))
 refine QJ (W3 ho rfl ?_ (by rw [Q2];exact sl) (RA _))
 refine QJ ((Ym g1 rfl ?_))
 refine QJ (Z9 ?_ (show vs.length<=_ from sl))
 refine QJ ((V1 ?_ (RA _)))
 refine (Ru ?_)
 dsimp only
 have n2:¬vs.toArray.size < 2:=by (rw [Q2]);omega
 rw [if_neg n2,if_neg n2]
 refine QJ (RU (hk _ (λk s'=>k=κ/\s'=_) kp ⟨rfl,rfl⟩) ?_ λ_ _ x=>x.elim)
 rintro _ _ ⟨rfl,rfl⟩
 refine QJ (RU (kat_run (E:=E) (Q:=λst' s'=>∃p:Array Nat,p.size=vs.length/\arrOf st'=p.map (kas_item (vs.toArray.zip vs.toArray))/\failedOf st'=none/\p=aY q (Tq vs.length)/\s'=_)
  rfl h2 h64 (λp' st' s' a1 a2 a3 a4=>⟨p',a1,a2,a3,a4⟩) ((eH (by omega)).wp (q:=q) (hc _ kp) ⟨rfl,rfl⟩)) ?_ λ_ _ e=>e)
 rintro ⟨⟨⟩,st'⟩ s' ⟨p,hp,har,hf,rfl,rfl⟩
 dsimp only
 have ou:(arrOf st').map (·.2)=(iw q vs).toArray:=kat_snds rfl har
 rw [ou]
 refine QJ ((Ym g3 rfl ?_))
 refine QJ (W3 g3 rfl ?_ (RA _) (RE (aa1 (Q2.trans (FF q (Rl Nat.zero_lt_two h2)))) (Nat.le_succ_of_le sl)))
 rw [hf]
 simp only [bne_self_eq_false,Rf,if_false]
 exact QL h
theorem AM {l:Q4}{vs:List QM}{κ:aaI}{q:Nat->Nat->Bool}{Q:QM->QN->Prop}(hl:s.heap.IsList l vs.toArray) (h2:2<=vs.length) (h64:vs.length < 64)
  (hk:∀h' C,(∀b o,s.heap.get? b=some o->h'.get? b=some o)->C κ {s with heap:=h'}->Rg (Rk prog w) A.in1.in1 (aaJ vs.toArray) C (λ_ _=>False) {s with heap:=h'})
  (hc:∀h',(∀b o,s.heap.get? b=some o->h'.get? b=some o)->∀i j C,i < vs.length->j < vs.length->C (q i j) {s with heap:=h'}->kas_ask prog w A.in1.in1 κ vs i j C {s with heap:=h'})
  (h:Q (.ref (s.heap.objs.size + 1)) {s with heap:=YH s.heap vs (iw q vs).toArray}):Rg (Rk prog w) A (call (.builtin "sorted") [.ref l]) Q E s:=by
 have sl:vs.length<=sizeLine:=by rw [RS];omega
 refine (UW ZN Zj Zk (Zl _) ?_)
 unfold U1.«sorted»
 refine QJ (m:=aau "sorted" 1 1 _) ((QL ?_))
 refine QJ (collect_list hl ?_ sl)
 refine QJ (V1 ?_ sl)
 have z:((s.heap.push (Ti "list" #[] 0)).update s.heap.objs.size (SA (·++vs.toArray))).objs.size=s.heap.objs.size + 1:=(by rw [Xd,size_push'])
 have gL:(((s.heap.push (Ti "list" #[] 0)).update s.heap.objs.size (SA (·++vs.toArray))).push (Ti "list" vs.toArray 0)).get? (s.heap.objs.size + 1)=some (Ti "list" vs.toArray 0):=(by rw [<-z];exact Q7 _ rfl)
 have kp:∀b o,s.heap.get? b=some o->b≠s.heap.objs.size + 1/\(((s.heap.push (Ti "list" #[] 0)).update s.heap.objs.size (SA (·++vs.toArray))).push (Ti "list" vs.toArray 0)).get? b=some o:=λb o e=>by
  have lb:b < s.heap.objs.size:=Q8 e
  refine ⟨Rn (S3 lb),?_⟩
  rw [Y8 _ _ _ (z▸Rn (S3 lb)),Yl _ _ _ _ (Rn lb),Y8 _ _ _ ((Rn lb))]
  exact e
 dsimp only
 rw [z]
 refine QJ (Ru (RL Wu ⟨_,gL,rfl⟩ Wb (sQ (κ:=κ) (q:=q) gL h2 h64 (λh' C k c=>?_) (λh' k i j C hi hj c=>?_) ⟨_,rfl,?_⟩) (Wv _)))
 ·exact hk h' C (λb o e=>k b o (kp b o e).1 (kp b o e).2) c
 ·exact hc h' (λb o e=>k b o (kp b o e).1 (kp b o e).2) i j C hi hj c
 ·exact QL ⟨_,rfl,h⟩
end
end DL
namespace DL
open PySem PySem.Spec PyProof.Rows L2
open PySem.W (KasT kas_sort kas_ask KatLex kat_nil kat_cons kat_yes kat_no kat_lt kat_one KatTups kat_kind Looks)
section
variable {prog:Rb}{w:RD}{A:RG}{E:QM->QN->Prop}{s:QN}{K:QK}{J:Hp}
theorem ve {fin ans:Bool}{Q:Bool->QN->Prop}{zs:List (QM×QM)}{b:Bool}(h:gr A s fin zs ans) (hq:Q ans s):∀{i:Nat},(b && i == 0)=false->KatLex prog w A b fin Q zs i s:=by
 induction h with
 | nil=>intro i _;exact kat_nil hq
 | yes he _ ih=>intro i _;exact aaK (he prog w _ _ (kat_yes (ih hq (by cases b <;> rfl))))
 | no he hl=>
  intro i hb
  refine aaK (he prog w _ _ (kat_no ?_))
  rw [hb]
  exact kat_one _ _ (hl prog w _ _ hq)
theorem Ic {fin ans e:Bool}{Q:Bool->QN->Prop}{u u':QM}{zs:List (QM×QM)}(he:Td A s u u' e) (h1:e=true->gr A s fin zs ans)
  (h2:e=false->Rg (Rk prog w) A (oneLt' true u u') Q (λ_ _=>False) s) (hq:Q ans s):KatLex prog w A true fin Q ((u,u')::zs) 0 s:=by
 cases e with
 | true=>exact aaK (he prog w _ _ (kat_yes (ve (h1 rfl) hq rfl)))
 | false=>exact aaK (he prog w _ _ (kat_no (h2 rfl)))
inductive Hd where
 | t | i | x
noncomputable def gX:D->Option Hd
 | .tup (.tup _::_)=>some .t
 | .tup (.int _::_)=>some .i
 | .tup (.str _::_)=>some .x
 | _=>none
noncomputable def Hd.flag:Hd->Bool
 | .t=>false
 | _=>true
noncomputable def Hd.ty:Hd->QM
 | .t=>.type "tuple"
 | .i=>.type "int"
 | .x=>.type "str"
theorem Fz {x y:D}{v v':V}{u u':QM}{k:Hd}{b:Bool}{C:Bool->QN->Prop}{xs ys:List D}(hd:gX (.tup (x::xs))=some k) (he:gX (.tup (y::ys))=some k) (hf:k.flag=true) (h:dM x y=some b) (rd:Rep K J x v) (re:Rep K J y v') (rv:RelV v u) (rv':RelV v' u') (c:C b s):
  Rg (Rk prog w) A (oneLt' true u u') C E s:=by
 cases x with
 | int x=>
  cases hd
  cases y with
  | int y=>
   cases rd;cases re
   obtain ⟨tk,rfl⟩:=rv
   obtain ⟨tk',rfl⟩:=rv'
   unfold dM at h
   simp only [SY] at h
   refine aa6 ?_
   rw [h];exact c
  | _=>cases he
 | str x=>
  cases hd
  cases y with
  | str y=>
   cases rd;cases re
   obtain ⟨tk,rfl⟩:=rv
   obtain ⟨tk',rfl⟩:=rv'
   unfold dM at h
   simp only [SY] at h
   refine oneLt_str ?_
   rw [h];exact c
  | _=>cases he
 | tup _=>cases hd;cases hf
 | _=>cases hd
theorem As (F:HF K J s){d e:D}{v v':V}{u u':QM}{k:Hd}{b:Bool}{C:Bool->QN->Prop}(hd:gX d=some k) (he:gX e=some k) (h:dM d e=some b) (rd:Rep K J d v) (re:Rep K J e v') (rv:RelV v u) (rv':RelV v' u')
  (hu:A.units + dep d < Sy) (k1:dep d<=1000) (k2:dep e<=1000) (c:C b s):Rg (Rk prog w) A (keyLt' (abv k.flag) u u') C E s:=by
 cases d with
 | tup ds=>
  cases e with
  | tup es=>
   unfold dM at h
   simp only at h
   cases rd with
   | tup h1 hs=>
    cases re with
    | tup h2 hs'=>
     cases rv;cases rv'
     obtain ⟨QA,r,p⟩:=F.t _ _ h1
     obtain ⟨its',r',p'⟩:=F.t _ _ h2
     obtain ⟨o,ho,hc,m,dm⟩:=id p
     obtain ⟨o',ho',hc',m',dm'⟩:=id p'
     refine kat_lt ho dm ho' dm' ?_
     simp only [Q2]
     cases hf:k.flag with
     | false=>
      exact ve (wK F ds A (n1:=QA.length) (n2:=its'.length) h hs hs' r r' (by unfold dep at hu;omega) (by unfold dep at k1;omega) (by unfold dep at k2;omega) (by omega)) c rfl
     | true=>
      cases hs with
      | nil=>cases hd
      | cons q1 t1=>
       cases hs' with
       | nil=>cases he
       | cons q2 t2=>
        cases r with
        | cons a1 b1=>
         cases r' with
         | cons a2 b2=>
          unfold dep deps at hu k1 k2
          rw [Wn]
          unfold jE at h
          simp only at h
          refine Ic (ans:=b) (mD F A q1 q2 a1 a2 (by omega) (by omega) (by omega)) (λz=>?_) (λz=>?_) c
          ·rw [z,if_pos rfl] at h
           exact wK F _ A h t1 t2 b1 b2 (by omega) (by omega) (by omega) (by simp;omega)
          ·rw [z,if_neg RB] at h
           exact Fz hd he hf h q1 q2 a1 a2 c
  | _=>cases he
 | _=>cases hd
noncomputable def gO (k:Hd):List D->Bool
 | []=>true
 | d::r=>(match gX d,k with
  | some .t,.t=>true
  | some .i,.i=>true
  | some .x,.x=>true
  | _,_=>false) && gO k r
theorem ju {k:Hd}:∀{ds:List D},gO k ds=true->∀d∈ds,gX d=some k
 | [],_,_,hm=>nomatch hm
 | x::r,h,d,hm=>by
  unfold gO at h
  rw [QX] at h
  rcases Rc.mp hm with rfl | hm
  ·cases q:gX d with
   | none=>rw [q] at h;cases h.1
   | some k'=>rw [q] at h;cases k' <;> cases k <;> first | rfl | cases h.1
  ·exact ju h.2 d hm
theorem Du (F:HF K J s){d:D}{v:V}{u:QM}{k:Hd}(hd:gX d=some k) (rd:Rep K J d v) (rv:RelV v u):∃a o xs n f,u=.ref a/\s.heap.get? a=some o/\o.cls=.type "tuple"/\o.data=.seq xs n/\xs[0]?=some f/\Looks (Rk prog w) s.heap (typeOf f) k.ty:=by
 cases d with
 | tup ds=>
  cases rd with
  | tup h1 hs=>
   cases rv
   obtain ⟨QA,r,p⟩:=F.t _ _ h1
   obtain ⟨o,ho,hc,m,dm⟩:=id p
   cases hs with
   | nil=>cases hd
   | cons q1 t1=>
    cases r with
    | cons a1 b1=>
     refine ⟨_,o,_,m,_,rfl,ho,hc,dm,rfl,?_⟩
     rename_i x v' ds' vs' u us
     cases x with
     | tup _=>
      cases hd
      cases q1 with
      | tup h2 _=>
       cases a1
       obtain ⟨its2,_,p2⟩:=F.t _ _ h2
       obtain ⟨o2,ho2,hc2,_,_⟩:=id p2
       have:=(Looks.ld (M:=Rk prog w) (part:=none) ho2).andThen (f:=λo=>pure o.cls) (b:=o2.cls) .now
       rw [hc2] at this
       exact this
     | int _=>
      cases hd
      cases q1
      obtain ⟨tk,rfl⟩:=a1
      exact .now
     | str _=>
      cases hd
      cases q1
      obtain ⟨tk,rfl⟩:=a1
      exact .now
     | _=>cases hd
 | _=>cases hd
theorem sJ (F:HF K J s){k:Hd}:∀{ds:List D}{vs:List V}{us:List QM},gO k ds=true->aF K J ds vs->Vals vs us->∃fs,KatTups s.heap us fs/\fs.length=us.length/\∀v∈fs,Looks (Rk prog w) s.heap (typeOf v) k.ty
 | _,_,_,_,.nil,.nil=>⟨[],trivial,rfl,λ_ h=>nomatch h⟩
 | d::ds,_,_,h,.cons q rs,.cons a b=>by
  have hd:=ju h d (QW ..)
  unfold gO at h
  rw [QX] at h
  obtain ⟨fs,h1,h2,h3⟩:=sJ F h.2 rs b
  obtain ⟨p,o,xs,n,f,rfl,e1,e2,e3,e4,e5⟩:=Du (prog:=prog) (w:=w) F hd q a
  refine ⟨f::fs,⟨⟨p,o,xs,n,rfl,e1,e2,e3,e4⟩,h1⟩,by simp [h2],λv hv=>?_⟩
  rcases Rc.mp hv with rfl | hv
  ·exact e5
  ·exact h3 v hv
theorem HP (k:Hd):(k.ty != UD "tuple")=k.flag:=by cases k <;> decide
theorem vf (F:HF K J s){k:Hd}{ds:List D}{vs:List V}{us:List QM}(h:gO k ds=true) (rs:aF K J ds vs) (rv:Vals vs us) (hl:0 < us.length){C:aaI->QN->Prop}(c:C (abv k.flag) s):Rg (Rk prog w) A (aaJ us.toArray) C E s:=by
 obtain ⟨fs,h1,h2,h3⟩:=sJ (prog:=prog) (w:=w) F h rs rv
 refine kat_kind h1 (by omega) h3 (by cases k <;> decide) ?_
 rw [HP]
 exact c
end
end DL
namespace DL
open PySem PySem.Spec PyProof.Rows L2
open PySem.W (KasT kas_sort kas_ask)
section
variable {prog:Rb}{w:RD}{A:RG}{E:QM->QN->Prop}{s:QN}
theorem sP {a:Q4}{vs:List QM}{n:Nat}{P:abT->QN->Prop}(ho:s.heap.get? a=some (Ti "list" vs.toArray n)) (h2:vs.length < 2)
  (h:P (.done (.ret .none)) {s with heap:=aat s.heap a vs vs.toArray}):Rg (Rk prog w) A (U1.«list.sort» ⟨[.ref a],[]⟩) P E s:=by
 have sl:vs.length<=sizeLine:=by rw [RS];omega
 obtain ⟨e1,g1⟩:∃e1,(s.heap.update a (SA λ_=>(#[]:Array QM))).get? a=some (Ti "list" #[] e1):=⟨_,(ZL ho λ_=>#[])⟩
 have g3:(((s.heap.update a (SA λ_=>(#[]:Array QM))).push (Ti "tuple" vs.toArray 0)).push (Ti "list" #[] 0)).get? a=some (Ti "list" #[] e1):=(QV _ ((QV _ g1)))
 rw [ZM]
 refine QJ ((listItems_at ho rfl ?_))
 refine QJ (W3 ho rfl ?_ (by rw [Q2];exact sl) (RA _))
 refine QJ ((Ym g1 rfl ?_))
 refine QJ (Z9 ?_ (show vs.length<=_ from sl))
 refine QJ ((V1 ?_ (RA _)))
 refine (Ru ?_)
 dsimp only
 have n2:vs.toArray.size < 2:=by (rw [Q2]);omega
 rw [if_pos n2,if_pos n2]
 refine (QJ (QL ?_))
 rw [StateT.run_pure]
 refine (QJ (QL ?_))
 dsimp only
 have ou:(arrOf (SortSt.mk' general' (vs.toArray.zip vs.toArray) #[] 7 none)).map (·.2)=vs.toArray:=by
  show (vs.toArray.zip vs.toArray).map (·.2)=vs.toArray
  match vs,h2 with
  | [],_=>simp
  | [_],_=>simp
 rw [ou]
 refine QJ ((Ym g3 rfl ?_))
 refine QJ (W3 g3 rfl ?_ (RA _) (by rw [Q2];omega))
 simp only [bne_self_eq_false,Rf,if_false]
 exact QL h
theorem AL {l:Q4}{vs:List QM}{Q:QM->QN->Prop}(hl:s.heap.IsList l vs.toArray) (h2:vs.length < 2)
  (h:Q (.ref (s.heap.objs.size + 1)) {s with heap:=YH s.heap vs vs.toArray}):Rg (Rk prog w) A (call (.builtin "sorted") [.ref l]) Q E s:=by
 have sl:vs.length<=sizeLine:=by rw [RS];omega
 refine (UW ZN Zj Zk (Zl _) ?_)
 unfold U1.«sorted»
 refine QJ (m:=aau "sorted" 1 1 _) ((QL ?_))
 refine QJ (collect_list hl ?_ sl)
 refine QJ (V1 ?_ sl)
 have z:((s.heap.push (Ti "list" #[] 0)).update s.heap.objs.size (SA (·++vs.toArray))).objs.size=s.heap.objs.size + 1:=(by rw [Xd,size_push'])
 have gL:(((s.heap.push (Ti "list" #[] 0)).update s.heap.objs.size (SA (·++vs.toArray))).push (Ti "list" vs.toArray 0)).get? (s.heap.objs.size + 1)=some (Ti "list" vs.toArray 0):=(by rw [<-z];exact Q7 _ rfl)
 dsimp only
 rw [z]
 refine QJ (Ru (RL Wu ⟨_,gL,rfl⟩ Wb (sP gL h2 ⟨_,rfl,?_⟩) (Wv _)))
 exact QL ⟨_,rfl,h⟩
end
noncomputable def cP (ds:List D) (i:Nat):D:=ds.getD i .non
noncomputable def ltB (ds:List D) (i j:Nat):Bool:=(dM (cP ds i) (cP ds j)).getD false
noncomputable def bw (ds:List D):List D:=if ds.length < 2 then ds else (aY (ltB ds) (Tq ds.length)).toList.map (cP ds)
noncomputable def rY (ds:List D):Bool:=ds.all λx=>ds.all λy=>(dM x y).isSome
noncomputable def Fy (ds:List D):Bool:=match ds with
 | []=>false
 | d::_=>match gX d with
  | some k=>gO k ds
  | none=>false
noncomputable def yt (ds:List D):Bool:=decide (ds.length < 2) || (decide (ds.length < 64) && (decide (deps ds<=60) && (Fy ds && rY ds)))
section
variable {K:QK}{J:Hp}
theorem eS {ds:List D}{vs:List V}(h:aF K J ds vs):∀{i:Nat},i < ds.length->Rep K J (cP ds i) (vs.getD i V.non):=by
 induction ds generalizing vs with
 | nil=>intro i hi;exact absurd hi (RZ _)
 | cons x r ih=>
  intro i hi
  cases h with
  | cons q rs=>
   cases i with
   | zero=>simpa [cP] using q
   | succ i=>simpa [cP] using ih rs (i:=i) (by simpa using hi)
theorem eU {vs:List V}{us:List QM}(h:Vals vs us):∀{i:Nat},i < vs.length->RelV (vs.getD i V.non) (us.getD i RN):=by
 induction vs generalizing us with
 | nil=>intro i hi;exact absurd hi (RZ _)
 | cons x r ih=>
  intro i hi
  cases h with
  | cons q rs=>
   cases i with
   | zero=>simpa using q
   | succ i=>simpa using ih rs (i:=i) (by simpa using hi)
theorem mY {ds:List D}{vs:List V}(h:aF K J ds vs):∀ix:List Nat,(∀i∈ix,i < ds.length)->aF K J (ix.map (cP ds)) (ix.map λi=>vs.getD i V.non)
 | [],_=>.nil
 | i::r,hi=>.cons (eS h (hi i (QW ..))) (mY h r λj hj=>hi j (QS _ hj))
theorem ng {vs:List V}{us:List QM}(h:Vals vs us):∀ix:List Nat,(∀i∈ix,i < vs.length)->Vals (ix.map λi=>vs.getD i V.non) (ix.map λi=>us.getD i RN)
 | [],_=>.nil
 | i::r,hi=>.cons (eU h (hi i (QW ..))) (ng h r λj hj=>hi j (QS _ hj))
theorem Ai {ds:List D}:∀{i:Nat},i < ds.length->dep (cP ds i)<=deps ds:=by
 induction ds with
 | nil=>intro i hi;exact absurd hi (RZ _)
 | cons x r ih=>
  intro i hi
  unfold deps
  cases i with
  | zero=>show dep x<=_;omega
  | succ i=>
   have:=ih (i:=i) (by simpa using hi)
   have e:cP (x::r) (i + 1)=cP r i:=rfl
   rw [e];omega
theorem eB {ds:List D}{i:Nat}(hi:i < ds.length):cP ds i∈ds:=by
 have e:cP ds i=ds[i]:=by simp [cP,hi]
 rw [e];exact Si hi
theorem HF.keeps {s:QN}{h':Sn}(F:HF K J s) (k:∀b o,s.heap.get? b=some o->h'.get? b=some o):HF K J {s with heap:=h'}:=
 ⟨λa xs h=>let ⟨QA,r,o,ho,q⟩:=F.t a xs h;⟨QA,r,o,k _ _ ho,q⟩,λa xs h=>let ⟨QA,r,o,ho,q⟩:=F.l a xs h;⟨QA,r,o,k _ _ ho,q⟩,λa h=>let ⟨o,ho,q⟩:=F.e a h;⟨o,k _ _ ho,q⟩,λa ep QH h=>let ⟨o,es,ho,q⟩:=F.d a ep QH h;⟨o,es,k _ _ ho,q⟩⟩
end
section
variable {X:Cx}{c:C}{e:Rz}{es:List Rz}{pos:Pos}
theorem xH (hu:X.A.units + 64 < Sy):bU X (.builtin "sorted") (λxs H Q=>∃p vs ds,xs=[.ref p]/\cG X.K H p vs/\aF X.K H ds vs/\yt ds=true/\∀l vs',H l=none->(∀J,aF X.K J ds vs->aF X.K J (bw ds) vs')->Q (.ref l) (upd H l (.lst vs'))):=by
 intro Qz s σ H xs us Q I r h
 obtain ⟨p,vs,ds,rfl,hq,rs,ok,q⟩:=h
 obtain ⟨u,rfl,rx⟩:=vals1 r
 cases rx
 obtain ⟨QA,r',pl,hz⟩:=I.list hq
 have l1:vs.length=QA.length:=r'.length
 have l2:ds.length=vs.length:=rs.length
 have fr:H (s.heap.objs.size + 1)=none:=I.hok.fresh (SN _)
 have fin:∀(out:List QM) (vs':List V),vs'.length=vs.length->Vals vs' out->(∀J,aF X.K J ds vs->aF X.K J (bw ds) vs')->∃v H',Inv X Qz σ H' {s with heap:=YH s.heap QA out.toArray}/\RelV v (.ref (s.heap.objs.size + 1))/\Q v H':=λout vs' lv rv rr=>by
  obtain ⟨n,hn⟩:=Zh s.heap QA out.toArray
  exact ⟨.ref (s.heap.objs.size + 1),_,I.laid (t':=s.toks) (λb o e=>YI e) (SN _) (show cg X.prog X.w _ _ _ (.lst vs') from ⟨by rw [lv];exact hz,out,n,rv,by simpa [Ti] using hn⟩),rfl,q _ vs' fr rr⟩
 by_cases h2:ds.length < 2
 ·refine AL pl.isList (by omega) (fin QA vs rfl r' ?_)
  intro J rj
  unfold bw
  rw [if_pos h2]
  exact rj
 ·unfold yt at ok
  rw [decide_eq_false h2,aaL,QX,QX,QX] at ok
  obtain ⟨o1,o2,o3,o4⟩:=ok
  have o1:=of_decide_eq_true o1
  have o2:=of_decide_eq_true o2
  obtain ⟨k,hk⟩:∃k,gO k ds=true:=by
   unfold Fy at o3
   cases ds with
   | nil=>cases o3
   | cons d r=>
    simp only at o3
    cases z:gX d with
    | none=>rw [z] at o3;cases o3
    | some k=>rw [z] at o3;exact ⟨k,o3⟩
  have F:HF X.K H s:=fP I
  have un:X.A.in1.in1.units=X.A.units + 2:=rfl
  have ib:∀i∈(aY (ltB ds) (Tq ds.length)).toList,i < ds.length:=λi hi=>by
   have:=((eH (n:=ds.length) (by omega)).run (ltB ds):eF _ _)
   have:=(TU this).mp (UQ.mp hi)
   simpa using this
  refine AM (κ:=abv k.flag) (q:=ltB ds) pl.isList (by omega) (by omega) (λh' C kp cc=>?_) (λh' kp i j C hi hj cc=>?_) ?_
  ·exact vf (F.keeps kp) hk rs r' (by omega) cc
  ·have hi':i < ds.length:=by omega
   have hj':j < ds.length:=by omega
   have hb:dM (cP ds i) (cP ds j)=some (ltB ds i j):=by
    unfold rY at o4
    have:=RJ.mp (RJ.mp o4 _ (eB hi')) _ (eB hj')
    unfold ltB
    cases z:dM (cP ds i) (cP ds j) with
    | none=>rw [z] at this;cases this
    | some b=>rfl
   have d1:=Ai hi'
   have d2:=Ai hj'
   exact As (F.keeps kp) (ju hk _ (eB hi')) (ju hk _ (eB hj')) hb (eS rs hi') (eS rs hj') (eU r' (by omega)) (eU r' (by omega)) (by rw [un];omega) (by omega) (by omega) cc
  ·have e1:iw (ltB ds) QA=(aY (ltB ds) (Tq ds.length)).toList.map λi=>QA.getD i RN:=by unfold iw;rw [l2,l1]
   rw [e1]
   refine fin _ _ ?_ (ng r' _ λi hi=>l2▸ib i hi) ?_
   ·rw [QO,<-l2]
    have:=((eH (n:=ds.length) (by omega)).run (ltB ds):eF _ _).size_eq
    simpa using this
   ·intro J rj
    unfold bw
    rw [if_neg h2]
    exact mY rj _ ib
end
end DL
namespace DL
open PySem PySem.Spec PyProof.Rows L2
section
variable {X:Cx}{c:C}{e:Rz}{g:G R}{pos:Pos}
noncomputable def uo (i:Nat) (f:R->R->M R) (g:G R):G O:=λenv=>match env[i]? with
 | some (some (.d d))=>g env >>= λy=>f (.d d) y >>= λz=>toS z >>= λx=>.ok (.nx (env.set i (some x)))
 | _=>.bad
theorem Iz (i:Nat){x:Str}{pos':Pos}{op:Yr}{r:R2}{f:R->R->M R}(hN:X.N.Nodup) (ho:c_ X (Xu op) r) (hb:BD c r f) (h:PD X c e g) (hi:X.N[i]?=some x:=by rfl) (hx:Loc X.env.scope x:=by first | exact VJ rfl | exact Uu rfl)
  (hf:X.fn x=true\/X.env.scope.names.lookup x=some .local:=by first | exact .inl rfl | exact .inr rfl):zW X c (.AugAssign (.Name x pos') op e pos) (uo i f g):=
 ic (Li hN hi hx h (λQz s σ H x y v u Q I rx ry q=>Nm ho I rx ry q) hf) λE σ H ⟨J,env,sr,w⟩=>by
 unfold uo at w
 split at w
 ·rename_i d hd
  obtain ⟨v,h1,h2⟩:=sr.at_ i _ hd
  refine ⟨v,h1,J,env,sr,aB (aH w) λy wr v' J1 H1 e1 r1=>?_⟩
  have sr1:=sr.ext e1
  refine hb H H J1 H1 (.d d) y v v' _ sr1.hp (Rep.mono e1.j h2) r1 (aB (aH wr) λz wz w' J2 H2 e2 r2=>?_)
  obtain ⟨x,q,wz⟩:=nj wz
  exact wz (σ.set i (some w')) J2 H2 (e1.j.trans e2.j) (sr1.set e2 r2 q)
 ·exact w.elim
end
end DL
namespace DL
open PySem PySem.Spec PyProof.Rows L2 DX
section
variable {M:abd}{A:RG}{E:QM->QN->Prop}{s:QN}
theorem BN {Qy:TF}{globals:Q4}{closure:List (Str×Q4)}{QF:Str}{func:Option Q4}{code:QM}{outer:Env}{builtins:Q4}{Q:Env->QN->Prop}
  (hQ:Q (newEnv Qy s.heap.objs.size globals (RV (s.heap.objs.size + 1) Qy.names closure) QF func code (some outer) builtins) {s with heap:=ZO (s.heap.push {cls:=.type "dict",data:=.dict #[]}) Qy.names}):
  Rg M A (Z_ Qy globals closure [] QF func code (some outer) builtins) Q E s:=by
 simp only [Z_,Option.isSome_some,if_true]
 refine QJ (wpAny_alloc ?_)
 refine QJ (wpAny_layCells _ (λname kind cells=>by cases hkc:kind == Vi <;> simp [hkc]) _ _ _ _ ?_)
 rw [show ({s with heap:=s.heap.push {cls:=.type "dict",data:=.dict #[]}}:QN).heap.objs.size=s.heap.objs.size + 1 from Ux ..]
 simp only [List.forIn_nil]
 exact QJ (QL (QL hQ))
theorem jd:∀(names:List (Str×S5)) (n:Nat) (acc:List (Str×Q4)) (x:Str),(∀y∈names,y.2=.cell->y.1≠x)->(RV n names acc).lookup x=acc.lookup x
 | [],_,_,_,_=>by unfold RV;rfl
 | (y,k)::r,n,acc,x,h=>by
  have hr:∀z∈r,z.2=.cell->z.1≠x:=λz hz=>h z (QS _ hz)
  unfold RV
  split
  ·rename_i hk
   rw [jd r _ _ x hr]
   have hy:y≠x:=h (y,k) (QW ..) (by simpa using hk)
   have:(x == y)=false:=by
    cases q:x == y with
    | false=>rfl
    | true=>exact absurd (eq_of_beq q).symm hy
   rw [Sv,this]
  ·exact jd r _ _ x hr
end
theorem vY:∀(names:List (Str×S5)) (n:Nat) (acc:List (Str×Q4)),RV n names acc=RV n names []++acc:=by
 intro names
 suffices ∀(n:Nat) (a b:List (Str×Q4)),RV n names (a++b)=RV n names a++b by
  intro n acc
  exact this n [] acc
 induction names with
 | nil=>intro n a b;unfold RV;rfl
 | cons p r ih=>
  obtain ⟨y,k⟩:=p
  intro n a b
  unfold RV
  split
  ·exact ih _ (_::a) b
  ·exact ih _ a b
noncomputable def cT (names:List (Str×S5)) (x:Str):Bool:=names.any λy=>y.1 == x && y.2 == .cell
theorem gg:∀(names:List (Str×S5)) (n:Nat) (acc:List (Str×Q4)) (x:Str),((acc.lookup x).isSome=true\/cT names x=true)->((RV n names acc).lookup x).isSome=true
 | [],_,_,_,h=>by
  unfold RV
  rcases h with h | h
  ·exact h
  ·cases h
 | (y,k)::r,n,acc,x,h=>by
  unfold RV
  have e:cT ((y,k)::r) x=((y == x && k == .cell) || cT r x):=rfl
  rw [e] at h
  split
  ·rename_i hk
   refine gg r _ _ x ?_
   by_cases hx:x=y
   ·left;subst hx;rw [Sv];simp
   ·rcases h with h | h
    ·left
     rw [Sv]
     cases q:x == y with
     | true=>exact absurd (eq_of_beq q) hx
     | false=>exact h
    ·rw [Ud,QX] at h
     rcases h with h | h
     ·exact absurd (eq_of_beq h.1).symm hx
     ·exact .inr h
  ·rename_i hk
   refine gg r _ _ x ?_
   rcases h with h | h
   ·exact .inl h
   ·rw [Ud,QX] at h
    rcases h with h | h
    ·exact absurd h.2 hk
    ·exact .inr h
theorem fV {names:List (Str×S5)}{n:Nat}{cl:List (Str×Q4)}{x:Str}{d:Q4}(h:(RV n names cl).lookup x=some d):
  (RV n names []).lookup x=some d\/(cT names x=false/\cl.lookup x=some d):=by
 rw [vY,List.lookup_append] at h
 cases q:(RV n names []).lookup x with
 | some e=>rw [q] at h;left;simpa using h
 | none=>
  rw [q] at h
  right
  refine ⟨?_,by simpa using h⟩
  cases z:cT names x with
  | false=>rfl
  | true=>
   have:=gg names n [] x (.inr z)
   rw [q] at this
   cases this
theorem oj {Qy:TF}{env:Env}{x:Str}(h:(relabel Qy env).names.lookup x=some .cell\/(relabel Qy env).names.lookup x=some .free):(x,Sb)∈Qy.names\/cT Qy.names x=true:=by
 unfold relabel at h
 revert h
 generalize Qy.names=names
 induction names with
 | nil=>intro h;simp at h
 | cons p r ih=>
  obtain ⟨n,k⟩:=p
  intro h
  rw [Ra] at h
  simp only at h
  by_cases hx:x=n
  ·subst hx
   cases k with
   | free=>exact .inl (QW ..)
   | cell=>right;unfold cT;simp
   | _=>simp [Sv] at h
  ·have e:(x == n)=false:=by simpa using hx
   have h':(r.map λ(n,k)=>if (k == Sb && env.scope.kind == .function && env.kindOf n == some .cell) then (n,Vi) else (n,k)).lookup x=some .cell\/(r.map λ(n,k)=>if (k == Sb && env.scope.kind == .function && env.kindOf n == some .cell) then (n,Vi) else (n,k)).lookup x=some .free:=by
    split at h <;> simpa [Sv,e] using h
   rcases ih h' with z | z
   ·exact .inl (QS _ z)
   ·right
    unfold cT at z ⊢
    rw [V0,z,Bool.or_true]
section
variable {X:Cx}
noncomputable def aW (X:Cx) (own:List Str) (cap:List Nat) (Qy:TF) (cl:List (Str×Q4)) (C:Q4) (s:QN) (H:Hp) (fp:List Q4):Cx:=
 {JX X own cap Qy (RV (C + 1) Qy.names cl) C s H fp with fn:=cT Qy.names}
theorem HG {Qz:List (Q4×Obj)}{σ:L2.St}{H:Hp}{s:QN}{own:List Str}{cap:List Nat}{Qy:TF}{cl:List (Str×Q4)}{fp:List Q4}{h1:Sn}(I:Inv X Qz σ H s) (hk:Qy.kind=.function)
  (hcl:bE X.env.cells Qy.names []=some cl) (ck:abw h1 (s.heap.objs.size + 1) (RV (s.heap.objs.size + 1) Qy.names [])) (hfp:∀b∈fp,jB X Qz H b) (hin:∀b∈fp,b < s.heap.objs.size):(aW X own cap Qy cl s.heap.objs.size s H fp).Ok:=by
 obtain ⟨m1,m2⟩:=gA Qy.names [] cl hcl (λx c h=>by simp at h)
 have lo:∀{x:Str}{d:Q4},(RV (s.heap.objs.size + 1) Qy.names []).lookup x=some d->s.heap.objs.size + 1<=d:=fun {x d} h=>(ck.empty _ _ (Vj h)).2
 have old:∀{x:Str}{d:Q4},cl.lookup x=some d->d < s.heap.objs.size:=fun {x d} h=>by
  obtain ⟨v,z⟩:=I.cell x d (m1 x d h)
  exact z.lt
 refine ⟨I.ok.mod,hk,I.ok.glob,I.ok.blt,QY _,λx y d h1 h2=>?_,λx hx=>?_,λx d hf h=>?_,λhc=>I.ok.hd hc,I.ok.frames,.inl rfl,λb hb=>⟨Rn (hin b hb),λx d h=>?_⟩,
  I.bs,RE I.ok.bsz I.sz,λb o h hb=>?_,λb hb hf=>?_,I.stack,I.stkFree⟩
 ·rcases fV h1 with h1 | ⟨_,h1⟩
  ·rcases fV h2 with h2 | ⟨_,h2⟩
   ·exact name_of_addr ck.apart (Vj h1) (Vj h2)
   ·exact absurd (Rl (old h2) (Ue (lo h1))) (SJ _)
  ·rcases fV h2 with h2 | ⟨_,h2⟩
   ·exact absurd (Rl (old h1) (Ue (lo h2))) (SJ _)
   ·exact I.ok.inj x y d (m1 x d h1) (m1 y d h2)
 ·refine Sd.mp (gg _ _ _ x ?_)
  rcases oj hx with z | z
  ·exact .inl (m2 x (.inr z))
  ·exact .inr z
 ·rcases fV h with h | ⟨z,h⟩
  ·exact Ue (lo h)
  ·have hf':cT Qy.names x=true:=hf
   rw [z] at hf'
   cases hf'
 ·rcases fV h with h | ⟨_,h⟩
  ·exact UB (Rl (hin b hb) (Ue (lo h)))
  ·exact (hfp b hb).2.2.2.2.1 x d (m1 x d h)
 ·rcases (hfp b hb).2.2.2.1 with z | z
  ·exact I.ok.noex b o h z
  ·exact absurd (Rl (Q8 (I.ok.bs b o h).1) z) (SJ _)
 ·rcases Rc.mp (I.stkSub b hf) with e | e
  ·exact (hfp b hb).2.1 e
  ·exact (hfp b hb).2.2.1 e
end
theorem yk {names:List (Str×S5)}{n:Nat}{cl:List (Str×Q4)}{x:Str}(h:cT names x=false):(RV n names cl).lookup x=cl.lookup x:=
 jd names n cl x λy hy hk e=>by
  unfold cT at h
  have:=List.any_eq_false.mp h y hy
  simp [hk,e] at this
section
variable {X:Cx}
theorem EU {Qz:List (Q4×Obj)}{σ:L2.St}{H:Hp}{s:QN}{own:List Str}{cap:List Nat}{Qy:TF}{cl:List (Str×Q4)}{fp:List Q4}{h1:Sn}{m:Str->Option QM}{tk:Nat}(I:Inv X Qz σ H s) (ok:(aW X own cap Qy cl s.heap.objs.size s H fp).Ok)
  (hcl:bE X.env.cells Qy.names []=some cl) (ck:abw h1 (s.heap.objs.size + 1) (RV (s.heap.objs.size + 1) Qy.names [])) (hcap:dB X cap=true) (OF:∀j∈cap,∀x,X.N[j]?=some x->(relabel Qy X.env).names.lookup x≠some .local)
  (hno:∀j∈cap,∀x,X.N[j]?=some x->cT Qy.names x=false) (hns:h1.Ns s.heap.objs.size m) (old:∀b o,s.heap.get? b=some o->h1.get? b=some o):
  Inv (aW X own cap Qy cl s.heap.objs.size s H fp) [] (R8 own.length none++cap.map λ(j:Nat)=>(σ[j]?).getD none) H {s with heap:=h1,toks:=tk}:=by
 obtain ⟨m1,m2⟩:=gA Qy.names [] cl hcl (λx c h=>by simp at h)
 refine ⟨ok,rfl,I.bare,Un.kept old,⟨m,hns,λi x v q1 q2 q3=>?_⟩,λx d h=>?_,I.hok.fresh (QY _),λx d h=>?_,λp hp=>absurd (show p∈([]:List (Q4×Obj)) from hp) (by simp),I.hok.kept old,?_⟩
 ·obtain ⟨j,h2,h3,h4⟩:=jK q2
  have q1':(own++cap.map λ(j:Nat)=>(X.N[j]?).getD ("":Str))[i]?=some x:=q1
  rw [Sl (by exact h2),Rj,h3] at q1'
  have hj:j∈cap:=Sm h3
  have hc:(match X.N[j]? with
   | some x=>(match X.env.scope.names.lookup x with
    | some .cell=>true
    | some .free=>true
    | _=>false)
   | none=>false)=true:=by
   unfold dB at hcap
   exact RJ.mp hcap j hj
  cases hx:X.N[j]? with
  | none=>rw [hx] at hc;cases hc
  | some y=>
   rw [ZI,hx] at q1'
   rw [hx] at hc
   have e:y=x:=by simpa using q1'
   subst e
   have kd:X.env.kindOf y=some .cell\/X.env.kindOf y=some .free:=by
    unfold abI
    simp only at hc
    split at hc
    ·rename_i z;exact .inl z
    ·rename_i z;exact .inr z
    ·cases hc
   obtain ⟨mX,nX,lX⟩:=I.loc
   obtain ⟨u,ru,lu⟩:=lX j y v hx h4 (kd.elim (λz=>.inr (.inl z)) λz=>.inr (.inr z))
   refine ⟨u,ru,.inr ?_⟩
   have kd':(relabel Qy X.env).names.lookup y=some .cell\/(relabel Qy X.env).names.lookup y=some .free:=by
    rcases q3 with z | z | z
    ·exact absurd z (OF j hj y hx)
    ·exact .inl z
    ·exact .inr z
   refine ⟨kd',?_⟩
   have no:=hno j hj y hx
   have fr:(y,Sb)∈Qy.names:=by
    rcases oj kd' with z | z
    ·exact z
    ·rw [no] at z;cases z
   obtain ⟨d,hd⟩:=Sd.mp (m2 y (.inr fr))
   refine ⟨d,(yk no).trans hd,?_⟩
   rcases lu with ⟨z,_⟩ | ⟨_,d',hd',z⟩
   ·rcases kd with k | k <;> (rw [k] at z;cases z)
   ·have:=m1 y d hd
    rw [hd'] at this
    cases this
    obtain ⟨o,ho,hod⟩:=z
    exact ⟨o,old _ _ ho,hod⟩
 ·rcases fV h with h | ⟨_,h⟩
  ·exact ⟨none,(ck.empty _ _ (Vj h)).1⟩
  ·obtain ⟨v,o,ho,hod⟩:=I.cell x d (m1 x d h)
   exact ⟨v,o,old _ _ ho,hod⟩
 ·rcases fV h with h | ⟨_,h⟩
  ·exact I.hok.fresh (Ue (ck.empty _ _ (Vj h)).2)
  ·exact I.freeC x d (m1 x d h)
 ·show _=(own++cap.map λ(j:Nat)=>(X.N[j]?).getD ("":Str)).length
  simp
end
theorem KU (h:Sn) (names:List (Str×S5)):(ZO (h.push {cls:=.type "dict",data:=.dict #[]}) names).Ns h.objs.size (λ_=>none):=
 (Heap.Ns.new h (.type "dict")).keeps λb o e=>ZP _ _ _ _ e
theorem CW (h:Sn) (names:List (Str×S5)):abw (ZO (h.push {cls:=.type "dict",data:=.dict #[]}) names) (h.objs.size + 1) (RV (h.objs.size + 1) names []):=by
 have:=cellsFrom_ok names (h.push {cls:=.type "dict",data:=.dict #[]}) (h.objs.size + 1) [] ⟨λ_ _ hm=>(nomatch hm),SX⟩ (by rw [Ux];exact QY _)
 rw [Ux] at this
 exact this
noncomputable def fq (X:Cx) (cap:List Nat) (Qy:TF):Bool:=cap.all λj=>match X.N[j]? with
 | some x=>!cT Qy.names x
 | none=>true
section
variable {X:Cx}{c:C}
theorem jT {cells:List (Str×Q4)}{names names2:List (Str×S5)}{cl:List (Str×Q4)}{n:Nat}(h:bE cells names []=some cl)
  (hn:(names2.all λy=>!(y.2 == .free) || ((names.any λz=>z.1 == y.1 && z.2 == .free) || cT names y.1))=true):(bE (RV n names cl) names2 []).isSome=true:=by
 obtain ⟨_,m2⟩:=gA names [] cl h (λx c h=>by simp at h)
 have go:∀(l:List (Str×S5)) (cs:List (Str×Q4)),(l.all λy=>!(y.2 == .free) || ((names.any λz=>z.1 == y.1 && z.2 == .free) || cT names y.1))=true->(bE (RV n names cl) l cs).isSome=true:=by
  intro l
  induction l with
  | nil=>intro cs _;rfl
  | cons y r ih=>
   obtain ⟨y,k⟩:=y
   intro cs hl
   rw [UI,QX] at hl
   unfold bE
   split
   ·rename_i hk
    have h1:=hl.1
    simp only [hk,Tn,aaL,Ud] at h1
    have:((RV n names cl).lookup y).isSome=true:=by
     refine gg names n cl y ?_
     rcases h1 with z | z
     ·obtain ⟨q,hq,e⟩:=Tf.mp z
      rw [QX] at e
      have e1:q=(y,Sb):=by
       obtain ⟨q1,q2⟩:=q
       have a1:q1=y:=eq_of_beq e.1
       have a2:q2=Sb:=by simpa using e.2
       rw [a1,a2]
      exact .inl (m2 y (.inr (e1▸hq)))
     ·exact .inr z
    obtain ⟨a,ha⟩:=Sd.mp this
    rw [ha]
    exact ih _ hl.2
   ·exact ih _ hl.2
 exact go names2 [] hn
end
section
variable {X:Cx}{c:C}{e:Rz}{es:List Rz}{g:G R}{pos:Pos}
theorem D9 (i:Nat){x:Str}{pos':Pos}(hN:X.N.Nodup) (h:QD X c e g) (hi:X.N[i]?=some x:=by rfl) (hx:Loc X.env.scope x:=by first | exact VJ rfl | exact Uu rfl) (hf:X.fn x=true\/X.env.scope.names.lookup x=some .local:=by first | exact .inl rfl | exact .inr rfl):
  iD X c (.AugAssign (.Name x pos') .Add e pos) (uo i xT g):=have h:=h.h;⟨Iz i hN HW (gx λ_ _ _=>.int _) h hi hx hf⟩
theorem HU {K:QK}{x QF:Str}{st:T9}{f T:Q4}{oc oT:QM}{od an dT:Option Q4}{osl sT:Array (Option QM)}{kV doc pm cdv ct:QM}{n:Nat}(l:K.lookup f=some ⟨oc,od,.func (Q6 x QF (aU st) (aQ st) (ay st) (.ref T) kV doc pm an cdv ct),osl⟩)
  (cd:T3 K cdv QF=true) (k:R7 K (.ref f)=true) (lT:K.lookup T=some ⟨oT,dT,.seq #[.none] n,sT⟩):nk K x QF st f (Q6 x QF (aU st) (aQ st) (ay st) (.ref T) kV doc pm an cdv ct):=
 ⟨⟨oc,od,T,_,n,kV,doc,pm,an,cdv,ct,osl,rfl,l,cd,lT,rfl⟩,k⟩
end
end DL
namespace K51
open PySem DL
noncomputable def A1:List Str:=["_law_script","_law_k"]
noncomputable def sF:G O:=(aL (b8 (bO (g2 (i8 λi j=>.bl (decide (i < j))) (af 1) (gN iR (ao (af 0) aC)))) (bH (g2 cW (g2 bg (af 0) (af 1)) (g2 Kc (gC (.int 10)) (gC (.int 64))))) dS)
 (bH (gC (.int 0))))
noncomputable def bQ (as:List S):M R:=fin (sF (aZ A1 as))
noncomputable def zf:List Str:=["_law_cell_here","_law_many","_law_letters","_law_sign","_law_stem","_law_found","_law_k","_law_other","_law_name"]
noncomputable def qy:G O:=(aL (a_ 2 (gC (.str "abcdefghijklmnopqrstuvwxyz")))
 (aL (a_ 3 (g2 bg (af 2) (g2 cW (g2 fM (af 0) (gC (.int 3))) (gC (.int 26)))))
 (aL (a_ 4 (g2 gE (af 3) (g2 dD (gC (.int 1)) (g2 cW (g2 fM (af 0) (gC (.int 78))) (gC (.int 7))))))
 (aL (a_ 5 (fZ aX))
 (aL (gF (cj (ao (af 1) aC)) (aD 6) (aL (a_ 7 (g2 bg (af 2) (g2 cW (g2 dD (g2 fM (af 0) (gC (.int 546))) (g2 gE (gC (.int 9)) (af 6))) (gC (.int 26)))))
 (aL (a_ 8 (g2 bg (fZ (aA (g2 dD (af 4) (af 7)) (aA (g2 dD (af 7) (af 4)) (aA (g2 gE (af 3) (g2 dD (af 6) (gC (.int 2)))) aX)))) (g2 cW (af 0) (gC (.int 3)))))
 (aL (b8 (bO (g2 (fN false) (af 8) (gC (.str "or")))) (a_ 8 (gC (.str "orx"))) dS)
 (j_ 5 (af 8))))))
 (bH (gN mG (ao (af 5) aC))))))))
noncomputable def gp (as:List S):M R:=fin (qy (aZ zf as))
noncomputable def A0:List Str:=["_law_cell_here","_law_size","_law_found","_law_k"]
noncomputable def sE:G O:=(aL (a_ 2 (fZ aX))
 (aL (gF (cj (ao (af 1) aC)) (aD 3) (aL (j_ 2 (g2 (fN false) (g2 cW (af 0) (gC (.int 2))) (gC (.int 1))))
 (a_ 0 (g2 fM (af 0) (gC (.int 2))))))
 (bH (af 2))))
noncomputable def gJ (as:List S):M R:=fin (sE (aZ A0 as))
noncomputable def zj:List Str:=["_law_names_here","_law_many","_law_cells","_law_marks","_law_k","_law_bits_here","_law_arrows"]
noncomputable def qB:G O:=(aL (a_ 3 (fZ aX))
 (aL (gF (cj (ao (gN iR (ao (g2 bg (af 0) (gC (.int 0))) aC)) aC)) (aD 4) (aL (a_ 5 (gN (aK 2 K51.gJ) (ao (g2 bg (af 2) (af 4)) (ao (af 1) aC))))
 (j_ 3 (bJ (aA (g2 bg (g2 bg (af 0) (gC (.int 0))) (af 4)) (aA (gN cH (ao (bM 1 [5] (cj (ao (af 1) aC)) (aD 0) (ur (g2 bg (af 1) (af 0))) (af 0)) aC)) aX))))))
 (aL (a_ 6 (fZ aX))
 (aL (gF (cj (ao (gN iR (ao (g2 bg (af 0) (gC (.int 1))) aC)) aC)) (aD 4) (aL (a_ 5 (gN (aK 2 K51.gJ) (ao (g2 bg (af 2) (g2 dD (gC (.int 3)) (af 4))) (ao (g2 gE (af 1) (af 1)) aC))))
 (j_ 6 (bJ (aA (g2 bg (g2 bg (af 0) (gC (.int 1))) (af 4)) (aA (gN cH (ao (bM 1 [5,1] (cj (ao (g2 gE (af 1) (af 1)) aC)) (aD 0) (ur (g2 bg (af 1) (af 0))) (bJ (aA (g2 fM (af 0) (af 2)) (aA (g2 cW (af 0) (af 2)) aX)))) aC)) aX))))))
 (bH (bJ (aA (af 1) (aA (gN cH (ao (af 3) aC)) (aA (gN cH (ao (af 6) aC)) aX)))))))))
noncomputable def fF (as:List S):M R:=fin (qB (aZ zj as))
end K51
namespace WP
open PySem DL K01
noncomputable def Wp {α:Type}(m:M α) (P:α->Prop):Prop:=∃a,m=.ok a/\P a
section
variable {α β:Type}{m:M α}{P P':α->Prop}{a:α}{env:Ev}{Q:O->Prop}{t u:G O}{g:G R}{r r':R}{i:Nat}{b:G Bool}
theorem Wp.of (h:m=.ok a) (p:P a):Wp m P:=⟨a,h,p⟩
theorem Wp.mono (h:Wp m P) (k:∀a,P a->P' a):Wp m P':=let ⟨a,h1,h2⟩:=h;⟨a,h1,k a h2⟩
theorem Wp.eq (h:Wp m (·=a)):m=.ok a:=let ⟨_,h1,h2⟩:=h;h2▸h1
theorem jQ {P:R->Prop}(h:Wp (t env) λo=>∃r,o=.rt r/\P r):Wp (fin (t env)) P:=by
 obtain ⟨_,h1,r,rfl,h2⟩:=h
 exact ⟨r,by rw [h1];rfl,h2⟩
theorem pP (h:Wp (t env) λo=>∃e,o=.nx e):fin (t env)=.ok (.d .non):=by
 obtain ⟨_,h1,r,rfl⟩:=h
 rw [h1];rfl
theorem cA (h:Wp (t env) (·=.rt r)):fin (t env)=.ok r:=by
 rw [h.eq];rfl
theorem cC (h:Wp (t env) λo=>match o with
 | .nx e=>Wp (u e) Q
 | o=>Q o):Wp (aL t u env) Q:=by
 obtain ⟨o,h1,h2⟩:=h
 show Wp (t env >>= _) Q
 rw [h1]
 cases o with
 | nx e=>exact h2
 | rt r=>exact ⟨_,rfl,h2⟩
 | bk e=>exact ⟨_,rfl,h2⟩
 | ct e=>exact ⟨_,rfl,h2⟩
theorem f_ {x:S}(h:g env=.ok r) (h2:toS r=.ok x) (k:Q (.nx (env.set i (some x)))):Wp (a_ i g env) Q:=⟨_,by show (g env >>= _)=_;rw [h,aN,h2];rfl,k⟩
theorem br {x:S}(h:g env=.ok r) (h2:toS r=.ok x) (k:Wp (u (env.set i (some x))) Q):Wp (aL (a_ i g) u env) Q:=cC (f_ h h2 k)
theorem bN (h:g env=.ok r) (h2:rF r=.ok r') (k:Q (.rt r')):Wp (bH g env) Q:=⟨_,LC h h2,k⟩
theorem lQ (k:Q (.nx env)):Wp (dS env) Q:=⟨_,rfl,k⟩
theorem NO (k:Wp (u env) Q):Wp (aL dS u env) Q:=cC (lQ k)
theorem ia (h:b env=.ok true) (k:Wp (t env) Q):Wp (b8 b t u env) Q:=by rw [uw h];exact k
theorem uy (h:b env=.ok false) (k:Wp (u env) Q):Wp (b8 b t u env) Q:=by rw [sL h];exact k
theorem BH {c:Bool}(h:b env=.ok c) (k1:c=true->Wp (t env) Q) (k2:c=false->Wp (u env) Q):Wp (b8 b t u env) Q:=by
 cases c with
 | true=>exact ia h (k1 rfl)
 | false=>exact uy h (k2 rfl)
theorem NN {v:G O}(h:b env=.ok false) (k:Wp (aL u v env) Q):Wp (aL (b8 b t u) v env) Q:=by
 have:aL (b8 b t u) v env=aL u v env:=by unfold aL;rw [sL h]
 rw [this];exact k
theorem dW {v:G O}(h:b env=.ok false) (k:Wp (v env) Q):Wp (aL (b8 b t dS) v env) Q:=NN h (NO k)
theorem pW {xs:List D}{d:D}(h0:env[i]?=some (some (.own xs))) (h:g env=.ok r) (h2:toD r=.ok d) (hl:xs.length<=1000) (k:Q (.nx (env.set i (some (.own (xs++[d])))))):Wp (j_ i g env) Q:=by
 refine ⟨_,?_,k⟩
 unfold j_
 rw [h0]
 show (g env >>= _)=_
 rw [h,aN,h2,aN,if_pos (YJ hl (by decide))]
theorem MI {xs:List D}{d:D}(h0:env[i]?=some (some (.own xs))) (h:g env=.ok r) (h2:toD r=.ok d) (hl:xs.length<=1000) (k:Wp (u (env.set i (some (.own (xs++[d]))))) Q):Wp (aL (j_ i g) u env) Q:=cC (pW h0 h h2 hl k)
theorem BG {gi:G (List D)}{tg:GT}{ds:List D}(h:gi env=.ok ds) (k:Wp (gf tg u ds env) Q):Wp (gF gi tg u env) Q:=by rw [Ke h];exact k
theorem jq {gi:G (List D)}{tg:GT}{ds:List D}{v:G O}(h:gi env=.ok ds) (k:Wp (gf tg t ds env) λo=>match o with
 | .nx e=>Wp (v e) Q
 | o=>Q o):Wp (aL (gF gi tg t) v env) Q:=cC (BG h k)
theorem zd {tg:GT}(I:Nat->Ev->Prop) (ds:List D) (h0:I 0 env) (step:∀(k:Nat) (hk:k < ds.length) (env:Ev),I k env->∃e,tg ds[k] env=.ok e/\Wp (u e) λo=>∃e,o=.nx e/\I (k + 1) e)
  (k:∀e,I ds.length e->Q (.nx e)):Wp (gf tg u ds env) Q:=by
 have key:∀(es:List D) (i:Nat) (env:Ev),ds.drop i=es->i<=ds.length->I i env->Wp (gf tg u es env) Q:=by
  intro es
  induction es with
  | nil=>
   intro i env hd hi hI
   have:i=ds.length:=by
    have:=congrArg Vw hd
    rw [Ur] at this
    simp at this;omega
   subst this
   exact ⟨_,rfl,k _ hI⟩
  | cons d es ih=>
   intro i env hd hi hI
   have hlt:i < ds.length:=by
    have:=congrArg Vw hd
    rw [Ur] at this
    simp at this;omega
   have e1:=UU hlt
   rw [hd] at e1
   obtain ⟨q1,q2⟩:=abZ e1
   obtain ⟨e,h1,_,h2,e2,rfl,h3⟩:=step i hlt env hI
   unfold gf
   rw [q1,h1,aN,h2,aN]
   exact ih (i + 1) e2 q2.symm (by omega) h3
 exact key ds 0 env rfl (RA _) h0
theorem lJ {tg:GT}{n:Nat}(I:Nat->Ev->Prop) (h0:I 0 env) (step:∀(k:Nat),k < n->∀env,I k env->∃e,tg (.int k) env=.ok e/\Wp (u e) λo=>∃e,o=.nx e/\I (k + 1) e)
  (k:∀e,I n e->Q (.nx e)):Wp (gf tg u (eY 0 n) env) Q:=by
 have hl:(eY 0 n).length=n:=by simp [eY]
 refine zd I (eY 0 n) h0 (λj hj env hI=>?_) (by rw [hl];exact k)
 obtain ⟨e,h1,h2⟩:=step j (by rw [hl] at hj;exact hj) env hI
 refine ⟨e,?_,h2⟩
 rw [<-h1]
 simp [eY]
theorem n1 {f:List R->M R}{x z:R}(hx:g env=.ok x) (hf:f [x]=.ok z):gN f (ao g aC) env=.ok z:=Mr hx hf
theorem two {f:R->R->M R}{h:G R}{x y z:R}(hx:g env=.ok x) (hy:h env=.ok y) (hf:f x y=.ok z):g2 f g h env=.ok z:=by
 show (g env >>= _)=_
 rw [hx,aN,hy,aN,hf]
theorem c1 {F:List S->M R}{x z:R}(hx:g env=.ok x) (hF:F [fS x]=.ok z):gN (aK 1 F) (ao g aC) env=.ok (j6 z):=by
 show (ao g aC env >>= _)=_
 unfold ao aC
 rw [hx]
 show (match F [fS x] with | .ok r=>M.ok (j6 r) | _=>M.bad)=_
 rw [hF]
theorem c2 {F:List S->M R}{h:G R}{x y z:R}(hx:g env=.ok x) (hy:h env=.ok y) (hF:F [fS x,fS y]=.ok z):gN (aK 2 F) (ao g (ao h aC)) env=.ok (j6 z):=by
 show (ao g (ao h aC) env >>= _)=_
 unfold ao aC
 rw [hx,hy]
 show (match F [fS x,fS y] with | .ok r=>M.ok (j6 r) | _=>M.bad)=_
 rw [hF]
theorem c3 {F:List S->M R}{h k:G R}{x y w z:R}(hx:g env=.ok x) (hy:h env=.ok y) (hw:k env=.ok w) (hF:F [fS x,fS y,fS w]=.ok z):gN (aK 3 F) (ao g (ao h (ao k aC))) env=.ok (j6 z):=by
 show (ao g (ao h (ao k aC)) env >>= _)=_
 unfold ao aC
 rw [hx,hy,hw]
 show (match F [fS x,fS y,fS w] with | .ok r=>M.ok (j6 r) | _=>M.bad)=_
 rw [hF]
theorem c4 {F:List S->M R}{h k l:G R}{x y w v z:R}(hx:g env=.ok x) (hy:h env=.ok y) (hw:k env=.ok w) (hv:l env=.ok v) (hF:F [fS x,fS y,fS w,fS v]=.ok z):gN (aK 4 F) (ao g (ao h (ao k (ao l aC)))) env=.ok (j6 z):=by
 show (ao g (ao h (ao k (ao l aC))) env >>= _)=_
 unfold ao aC
 rw [hx,hy,hw,hv]
 show (match F [fS x,fS y,fS w,fS v] with | .ok r=>M.ok (j6 r) | _=>M.bad)=_
 rw [hF]
theorem jU (h:g env=.ok r) (k:Wp (u env) Q):Wp (aL (jo g) u env) Q:=cC ⟨.nx env,by show (g env >>= _)=_;rw [h];rfl,k⟩
theorem kW {cap:List Nat}{gi:G (List D)}{ge:G R}{α:Type}{xs:List α}(a b:α->D) (f:α->D) (hi:gi env=.ok (xs.map λx=>.tup [a x,b x])) (hl:xs.length<=1000)
  (h:∀x∈xs,∃r,ge (some (.d (a x))::some (.d (b x))::cE 0 cap env)=.ok r/\toD r=.ok (f x)):bM 2 cap gi (eW 2 (bI (aD 0) (bI (aD 1) fC))) cF ge env=.ok (.l .fresh (xs.map f)):=by
 have key:∀(es:List α) (x y:Option S),(∀d∈es,d∈xs)->cQ (eW 2 (bI (aD 0) (bI (aD 1) fC))) cF ge (es.map λx=>.tup [a x,b x]) (x::y::cE 0 cap env)=.ok (es.map f):=by
  intro es
  induction es with
  | nil=>exact λ_ _ _=>rfl
  | cons d es ih=>
   intro x y hm
   obtain ⟨r,h1,h2⟩:=h d (hm d QW)
   rw [Ra]
   unfold cQ
   show (ge (some (.d (a d))::some (.d (b d))::cE 0 cap env) >>= _)=_
   rw [h1,aN,h2,aN]
   show (cQ _ cF ge _ (some (.d (a d))::some (.d (b d))::cE 0 cap env) >>= _)=_
   rw [ih _ _ λe he=>hm e (QS _ he)]
   rfl
 unfold bM
 rw [hi,aN,if_pos (gH (by rw [QO];exact hl))]
 show (cQ _ cF ge _ (none::none::cE 0 cap env) >>= _)=_
 rw [key xs none none λ_ h=>h]
 rfl
theorem Gm (n:Nat):eY 0 n=(QU n).map dN:=by simp [eY]
theorem iB {gs:G (List R)}{n:Nat}(hg:gs env=.ok [.d (.int (n:Int))]) (h:n<=1000):cj gs env=.ok ((QU n).map dN):=by rw [nP hg h,Gm]
theorem j4 {cap:List Nat}{gi:G (List D)}{ge:G R}{α:Type}{xs:List α}{h:α->D}(f:α->D) (hi:gi env=.ok (xs.map h)) (hl:xs.length<=1000000)
  (hb:∀x∈xs,∃r,ge (some (.d (h x))::cE 0 cap env)=.ok r/\toD r=.ok (f x)):bM 1 cap gi (aD 0) cF ge env=.ok (.l .fresh (xs.map f)):=by
 have key:∀(es:List α) (x:Option S),(∀d∈es,d∈xs)->cQ (aD 0) cF ge (es.map h) (x::cE 0 cap env)=.ok (es.map f):=by
  intro es
  induction es with
  | nil=>exact λ_ _=>rfl
  | cons d es ih=>
   intro x hm
   obtain ⟨r,h1,h2⟩:=hb d (hm d QW)
   rw [Ra]
   unfold cQ
   show (ge (some (.d (h d))::cE 0 cap env) >>= _)=_
   rw [h1,aN,h2,aN]
   show (cQ (aD 0) cF ge _ (some (.d (h d))::cE 0 cap env) >>= _)=_
   rw [ih _ λe he=>hm e (QS _ he)]
   rfl
 unfold bM
 rw [hi,aN,if_pos (by rw [RS,QO];omega)]
 show (cQ (aD 0) cF ge _ (none::cE 0 cap env) >>= _)=_
 rw [key xs none λ_ h=>h]
 rfl
theorem kU {cap:List Nat}{gi:G (List D)}{ge:G R}{gts:G Bool}{α:Type}{xs:List α}{h:α->D}(p:α->Bool) (f:α->D) (hi:gi env=.ok (xs.map h)) (hl:xs.length<=1000000)
  (hb:∀x∈xs,gts (some (.d (h x))::cE 0 cap env)=.ok (p x)/\(p x=true->∃r,ge (some (.d (h x))::cE 0 cap env)=.ok r/\toD r=.ok (f x))):bM 1 cap gi (aD 0) gts ge env=.ok (.l .fresh ((xs.filter p).map f)):=by
 have key:∀(es:List α) (x:Option S),(∀d∈es,d∈xs)->cQ (aD 0) gts ge (es.map h) (x::cE 0 cap env)=.ok ((es.filter p).map f):=by
  intro es
  induction es with
  | nil=>exact λ_ _=>rfl
  | cons d es ih=>
   intro x hm
   obtain ⟨h0,h1⟩:=hb d (hm d QW)
   rw [Ra]
   unfold cQ
   show (gts (some (.d (h d))::cE 0 cap env) >>= _)=_
   rw [h0,aN]
   cases q:p d with
   | true=>
    obtain ⟨r,h1,h2⟩:=h1 q
    rw [if_pos rfl]
    show (ge (some (.d (h d))::cE 0 cap env) >>= _)=_
    rw [h1,aN,h2,aN]
    show (cQ (aD 0) gts ge _ (some (.d (h d))::cE 0 cap env) >>= _)=_
    rw [ih _ λe he=>hm e (QS _ he),W4 q]
    rfl
   | false=>
    rw [if_neg (by decide),W5 (by simp [q])]
    exact ih _ λe he=>hm e (QS _ he)
 unfold bM
 rw [hi,aN,if_pos (by rw [RS,QO];omega)]
 show (cQ (aD 0) gts ge _ (none::cE 0 cap env) >>= _)=_
 rw [key xs none λ_ h=>h]
 rfl
theorem cS {x:R}(h:g env=.ok x):ao g aC env=.ok [x]:=by
 show (g env >>= _)=_
 rw [h]
 rfl
theorem bx:aX env=.ok []:=rfl
theorem aI {gs:G (List D)}{d:D}{ds:List D}(h:g env=.ok r) (h2:toD r=.ok d) (k:gs env=.ok ds):aA g gs env=.ok (d::ds):=by
 show (g env >>= _)=_
 rw [h,aN,h2,aN,k]
 rfl
theorem bD {gs:G (List D)}{ds:List D}(h:gs env=.ok ds) (hl:ds.length<=1000):bJ gs env=.ok (.d (.tup ds)):=by
 show (gs env >>= _)=_
 rw [h,aN,if_pos (gH hl)]
theorem mP {gs:G (List D)}{ds:List D}(h:gs env=.ok ds) (hl:ds.length<=1000):fZ gs env=.ok (.l .fresh ds):=by
 show (gs env >>= _)=_
 rw [h,aN,if_pos (gH hl)]
theorem mK {α:Type}{xs:List α}{h:α->D}(f:R) (hf:g8 f=.ok (xs.map h)) (i:Int) (h0:0<=i) (hi:i < xs.length):∃x∈xs,bg f (.d (.int i))=.ok (.d (h x)):=by
 obtain ⟨k,rfl⟩:=Int.eq_ofNat_of_zero_le h0
 have hk:k < xs.length:=by omega
 refine ⟨xs[k],Si hk,?_⟩
 have h1:(xs.map h)[k]?=some (h xs[k]):=by rw [Rj,Q5 hk];rfl
 cases f with
 | d x=>
  cases x with
  | tup ys=>cases hf;exact jW h1
  | lst ys=>cases hf;unfold bg;simp only [g8,aN,jS h1]
  | _=>cases hf
 | l m x=>cases hf;exact jn h1
 | mo _ _=>cases hf
 | mb _ _=>cases hf
 | mf _ _=>cases hf
theorem Co {xs:List D}(h:env[i]?=some (some (.own xs))) (k:Wp (t (env.set i (some (.d (.lst xs))))) Q):Wp (jD i t env) Q:=by
 have:jD i t env=t (env.set i (some (.d (.lst xs)))):=by unfold jD;rw [h]
 rw [this];exact k
theorem Mk {tg:GT}{d:D}{e:Ev}(h:g env=.ok r) (h2:toD r=.ok d) (h3:tg d env=.ok e) (k:Q (.nx e)):Wp (lO tg g env) Q:=⟨_,by show (g env >>= _)=_;rw [h,aN,h2,aN,h3];rfl,k⟩
theorem tG {tg:GT}{d:D}{e:Ev}(h:g env=.ok r) (h2:toD r=.ok d) (h3:tg d env=.ok e) (k:Wp (u e) Q):Wp (aL (lO tg g) u env) Q:=cC (Mk h h2 h3 k)
theorem EI {α:Type}(xs:List α) (z:α):L2.kT (xs++[z]) (-1)=some z:=by
 unfold L2.kT L2.yd
 rw [if_neg (by decide),if_pos (by simp;omega)]
 rw [show ((-1:Int) + ((xs++[z]).length:Nat)).toNat=xs.length by simp;omega]
 simp
theorem HZ (xs:List D) (z:D):bg (.d (.tup (xs++[z]))) (.d (.int (-1)))=.ok (.d z):=by
 unfold bg
 simp only [g8,aN,EI]
theorem By (neg:Bool) (x:D) (ys:List D) (h:deps ys<=60) (hx:dep x<=60):gT neg (.d x) (.d (.tup ys))=.ok (.d (.bl (if neg then !inD x ys else inD x ys))):=by
 show (if deps ys<=60/\dep x<=60 then M.ok (R.d (.bl (if neg then !inD x ys else inD x ys))) else M.bad)=_
 rw [if_pos ⟨h,hx⟩]
theorem Bp (neg:Bool) (x y:R) (h:dep x.dat<=60) (hx:dep y.dat<=60):fN neg x y=.ok (.d (.bl (if neg then !bu x.dat y.dat else bu x.dat y.dat))):=by
 unfold fN
 rw [if_pos ⟨h,hx⟩]
theorem fL {n:Nat}:∀{xs:List D},(∀x∈xs,dep x<=n)->deps xs<=n
 | [],_=>RA _
 | x::xs,h=>by
  have h1:=h x QW
  have h2:=fL (xs:=xs) λy hy=>h y (QS _ hy)
  simp only [deps]
  omega
theorem JZ (xs:List Nat):deps (xs.map dN)<=60:=fL λx hx=>by
 obtain ⟨k,_,rfl⟩:=QT.mp hx
 exact RA _
theorem Dg (xs:List (Nat×Nat)):deps (xs.map dP)<=60:=fL λx hx=>by
 obtain ⟨k,_,rfl⟩:=QT.mp hx
 exact (by decide:(1:Nat)<=60)
theorem AU {tb:G Bool}(I:Nat->Ev->Prop) (step:∀d env,I d env->(tb env=.ok false/\Q (.nx env))\/(tb env=.ok true/\Wp (t env) λo=>match o with
  | .nx e=>∃d',d' < d/\I d' e
  | .rt r=>Q (.rt r)
  | _=>False)):∀(n d:Nat) (env:Ev),I d env->d < n->Wp (kL tb t n env) Q
 | 0,d,env,_,h=>absurd h (RZ _)
 | n + 1,d,env,hI,h=>by
  unfold kL
  rcases step d env hI with ⟨h1,h2⟩ | ⟨h1,o,h2,h3⟩
  ·rw [h1]
   exact ⟨_,rfl,h2⟩
  ·rw [h1,aN,if_pos rfl,h2,aN]
   cases o with
   | nx e=>
    obtain ⟨d',hd,hI'⟩:=h3
    exact AU I step n d' e hI' (by omega)
   | rt r=>exact ⟨_,rfl,h3⟩
   | bk e=>exact h3.elim
   | ct e=>exact h3.elim
theorem Jg {tb:G Bool}{n:Nat}(I:Nat->Ev->Prop) (d:Nat) (hd:d < n) (h0:I d env) (step:∀d env,I d env->(tb env=.ok false/\Wp (u env) Q)\/(tb env=.ok true/\Wp (t env) λo=>match o with
  | .nx e=>∃d',d' < d/\I d' e
  | .rt r=>Q (.rt r)
  | _=>False)):Wp (aL (x_ n tb t) u env) Q:=cC (AU I (λd env h=>by
  rcases step d env h with h | ⟨h1,h2⟩
  ·exact .inl h
  ·refine .inr ⟨h1,h2.mono λo ho=>?_⟩
   cases o <;> exact ho) n d env h0 hd)
theorem Ml {d:D}{f:R->R->M R}{y z:R}{x:S}(h0:env[i]?=some (some (.d d))) (h:g env=.ok y) (hf:f (.d d) y=.ok z) (h2:toS z=.ok x) (k:Q (.nx (env.set i (some x)))):Wp (uo i f g env) Q:=by
 refine ⟨_,?_,k⟩
 unfold uo
 rw [h0]
 show (g env >>= _)=_
 rw [h,aN,hf,aN,h2]
 rfl
end
end WP
namespace K51
open PySem DL K01 WP
noncomputable def bW (ns:List Int) (k:Nat):Int:=(ns.map λx=>x % 10 ^ 64).getD k 0
theorem jc (ns:List Int) (k:Nat):0<=bW ns k:=by
 unfold bW
 rw [RH,Rj]
 cases ns[k]? with
 | none=>exact Int.le_refl _
 | some x=>exact Tz _ (by decide)
theorem Cr (ns:List Int) (k:Nat):bQ [.bor (ns.map D.int),.d (.int k)]=.ok (.d (.int (bW ns k))):=by
 refine cA (cC (BH (c:=decide ((k:Int) < ((ns.map D.int).length:Nat))) rfl (λh=>?_) λh=>?_))
 ·have h:k < ns.length:=by simpa using h
  have e:(ns.map D.int)[k]?=some (.int ns[k]):=by rw [Rj,Q5 h];rfl
  refine bN (two (two rfl rfl (jn e)) rfl (dO _ _ (by decide))) rfl ?_
  unfold bW
  rw [RH,Rj,Q5 h]
  rfl
 ·have h:ns.length<=k:=by simpa using h
  refine lQ (bN rfl rfl ?_)
  unfold bW
  rw [RH,Rj,List.getElem?_eq_none (by omega)]
  rfl
theorem Jd (b n:Nat):(iz ⟨#[b]⟩ n).length=n:=by
 rw [Ih,HE,S9]
theorem zR (c:Int) (hc:0<=c) (m:Nat) (hm:m<=3):∃ss:List Str,gp [.d (.int c),.d (.int m)]=.ok (.l .fresh (ss.map .str))/\ss.length=m:=by
 have key:Wp (gp [.d (.int c),.d (.int m)]) λr=>∃ss:List Str,r=.l .fresh (ss.map .str)/\ss.length=m:=by
  refine jQ (br rfl rfl (br (two rfl rfl (DA (c / 3 % 26) (by omega) (by omega))) rfl ?_))
  generalize 97 + (c / 3 % 26).toNat=b
  refine br (two rfl rfl (Hg _ (1 + c / 78 % 7) (by omega) (by omega) (show 1<=1000 by decide))) rfl ?_
  have hst:(iz ⟨#[b]⟩ (1 + c / 78 % 7).toNat).length<=8:=by rw [Jd];omega
  generalize iz ⟨#[b]⟩ (1 + c / 78 % 7).toNat=stem at hst
  refine br rfl rfl (jq (nP (n:=m) rfl (by omega)) ?_)
  refine lJ (n:=m) (λk env=>∃(ss:List Str) (x y z:Option S),env=[some (.d (.int c)),some (.d (.int m)),some (.d (.str "abcdefghijklmnopqrstuvwxyz")),some (.d (.str ⟨#[b]⟩)),some (.d (.str stem)),some (.own (ss.map .str)),x,y,z]/\ss.length=k) ⟨[],none,none,none,rfl,rfl⟩ ?_ ?_
  ·rintro k hk _ ⟨ss,x,y,z,rfl,hl⟩
   refine ⟨_,rfl,?_⟩
   refine br (two rfl rfl (DA ((c / 546 + 9 * k) % 26) (by omega) (by omega))) rfl ?_
   generalize 97 + ((c / 546 + 9 * k) % 26).toNat=o
   obtain ⟨nm,hnm⟩:∃nm:Str,g2 bg (fZ (aA (g2 dD (af 4) (af 7)) (aA (g2 dD (af 7) (af 4)) (aA (g2 gE (af 3) (g2 dD (af 6) (gC (.int 2)))) aX)))) (g2 cW (af 0) (gC (.int 3))) [some (.d (.int c)),some (.d (.int m)),some (.d (.str "abcdefghijklmnopqrstuvwxyz")),some (.d (.str ⟨#[b]⟩)),some (.d (.str stem)),some (.own (ss.map .str)),some (.d (.int k)),some (.d (.str ⟨#[o]⟩)),z]=.ok (.d (.str nm)):=by
    have h1:=Hh stem ⟨#[o]⟩ (by show _ + 1<=1000;omega)
    have h2:=Hh ⟨#[o]⟩ stem (by show 1 + _<=1000;omega)
    have h3:=Hg ⟨#[b]⟩ (k + 2) (by omega) (by omega) (show 1<=1000 by decide)
    have hg:fZ (aA (g2 dD (af 4) (af 7)) (aA (g2 dD (af 7) (af 4)) (aA (g2 gE (af 3) (g2 dD (af 6) (gC (.int 2)))) aX))) [some (.d (.int c)),some (.d (.int m)),some (.d (.str "abcdefghijklmnopqrstuvwxyz")),some (.d (.str ⟨#[b]⟩)),some (.d (.str stem)),some (.own (ss.map .str)),some (.d (.int k)),some (.d (.str ⟨#[o]⟩)),z]=.ok (.l .fresh [.str (stem++⟨#[o]⟩),.str (⟨#[o]⟩++stem),.str (iz ⟨#[b]⟩ ((k:Int) + 2).toNat)]):=by
     have l3:(3:Nat)<=sizeLine:=by decide
     simp only [fZ,aA,aX,g2,af,gC,S.rd,List.getElem?_cons_zero,List.getElem?_cons_succ,aN,h1,h2,tN,h3,toD,Sh,Vk,l3,if_true]
    have hcs:c % 3=0\/c % 3=1\/c % 3=2:=by omega
    rcases hcs with h | h | h
    ·exact ⟨_,two hg (dO c 3 (by decide)) (by rw [h];rfl)⟩
    ·exact ⟨_,two hg (dO c 3 (by decide)) (by rw [h];rfl)⟩
    ·exact ⟨_,two hg (dO c 3 (by decide)) (by rw [h];rfl)⟩
   refine br hnm rfl (cC (BH (c:=bu (.str nm) (.str "or")) rfl (λh=>f_ rfl rfl ?_) λh=>lQ ?_))
   ·exact pW rfl rfl rfl (by rw [QO];omega) ⟨_,rfl,ss++[("orx":Str)],_,_,_,by rw [Ro];rfl,by rw [Rm,hl];rfl⟩
   ·exact pW rfl rfl rfl (by rw [QO];omega) ⟨_,rfl,ss++[nm],_,_,_,by rw [Ro];rfl,by rw [Rm,hl];rfl⟩
  ·rintro _ ⟨ss,x,y,z,rfl,hl⟩
   refine bN (n1 rfl (sorted_strs _ _ (by omega))) rfl ⟨_,rfl,_,rfl,?_⟩
   unfold qf
   simp [hl]
 obtain ⟨_,h,ss,rfl,hl⟩:=key
 exact ⟨ss,h,hl⟩
theorem Cq (c:Int) (m:Nat) (hm:m<=64):∃bs:List Bool,gJ [.d (.int c),.d (.int m)]=.ok (.l .fresh (bs.map .bl))/\bs.length=m:=by
 have key:Wp (gJ [.d (.int c),.d (.int m)]) λr=>∃bs:List Bool,r=.l .fresh (bs.map .bl)/\bs.length=m:=by
  refine jQ (br rfl rfl (jq (nP (n:=m) rfl (by omega)) ?_))
  refine lJ (n:=m) (λk env=>∃(bs:List Bool) (c:Int) (x:Option S),env=[some (.d (.int c)),some (.d (.int m)),some (.own (bs.map .bl)),x]/\bs.length=k) ⟨[],c,none,rfl,rfl⟩ ?_ ?_
  ·rintro k hk _ ⟨bs,c,x,rfl,hl⟩
   refine ⟨_,rfl,MI rfl rfl rfl (by rw [QO];omega) (f_ rfl rfl ⟨_,rfl,bs++[c % 2 == 1],c / 2,_,by rw [Ro];rfl,by rw [Rm,hl];rfl⟩)⟩
  ·rintro _ ⟨ss,x,y,rfl,hl⟩
   exact bN rfl rfl ⟨_,rfl,_,rfl,hl⟩
 obtain ⟨_,h,ss,rfl,hl⟩:=key
 exact ⟨ss,h,hl⟩
theorem Lp (bs:List Bool) (m:Nat) (hm:m<=8):wF m ((QU m).filter λp=>bs.getD p false):=by
 refine ⟨?_,X4 _ Uy,λx hx=>?_⟩
 ·exact RE (Sf _ _) (by simpa using hm)
 ·simpa using (RI.mp hx).1
theorem Lh (bs:List Bool) (m:Nat) (h1:1<=m) (hm:m<=8):rN m (((QU (m * m)).filter λp=>bs.getD p false).map λp=>(p / m,p % m)):=by
 have OS:m * m<=64:=VE hm hm
 refine ⟨?_,?_,λx hx=>?_⟩
 ·rw [QO]
  refine RE (Sf _ _) (by simpa using OS)
 ·rw [RP]
  refine VA ?_ (X4 _ Uy)
  intro p q hpq
  have e1:=ZQ p m
  have e2:=ZQ q m
  have h3:p / m<=q / m:=Nat.div_le_div_right (by omega)
  by_cases h:p / m < q / m
  ·exact .inl h
  ·have e:p / m=q / m:=by omega
   refine .inr ⟨e,?_⟩
   rw [e] at e1
   show p % m < q % m
   omega
 ·obtain ⟨p,hp,rfl⟩:=QT.mp hx
  have:p < m * m:=by simpa using (RI.mp hp).1
  exact ⟨Nat.div_lt_of_lt_mul this,WL _ (by omega)⟩
theorem N8 (bs:List Bool) (m k:Nat) (hl:bs.length=m) (hk:k < m):bg (.l .bor (bs.map D.bl)) (.d (.int k))=.ok (.d (.bl (bs.getD k false))):=by
 refine jn ?_
 rw [Rj,Q5 (by omega),RH,Q5 (by omega)]
 rfl
theorem Af (bs:List Bool) (m k:Nat) (hl:bs.length=m) (hk:k < m):bg (.l .own (bs.map D.bl)) (.d (.int k))=.ok (.d (.bl (bs.getD k false))):=by
 refine jn ?_
 rw [Rj,Q5 (by omega),RH,Q5 (by omega)]
 rfl
theorem JB (m:Nat) (h1:1<=m) (hm:m<=8) (A B:List Str) (hA:A.length<=3) (hB:B.length<=3) (cs:List Int) (hc:cs.length=6):
  ∃ms rs,fF [.d (.tup [.lst (A.map .str),.lst (B.map .str)]),.d (.int m),.bor (cs.map .int)]=.ok (.d (Wd.d ⟨m,ms,rs⟩))/\ms.map Sk=A/\rs.map Sk=B/\(∀r∈ms,wF m r.2)/\∀r∈rs,rN m r.2:=by
 have key:Wp (fF [.d (.tup [.lst (A.map .str),.lst (B.map .str)]),.d (.int m),.bor (cs.map .int)]) λr=>∃ms rs,r=.d (Wd.d ⟨m,ms,rs⟩)/\ms.map Sk=A/\rs.map Sk=B/\(∀r∈ms,wF m r.2)/\∀r∈rs,rN m r.2:=by
  have OS:m * m<=64:=VE hm hm
  have tm:gE (.d (.int m)) (.d (.int m))=.ok (.d (.int ((m * m:Nat):Int))):=by rw [Jr _ _ (by omega) (by omega)];simp
  refine jQ (br rfl rfl (jq (nP (n:=(A.map D.str).length) rfl (by rw [QO];omega)) ?_))
  refine lJ (n:=(A.map D.str).length) (λk env=>∃(ms:List (Str×List Nat)) (x y:Option S),env=[some (.d (.tup [.lst (A.map .str),.lst (B.map .str)])),some (.d (.int m)),some (.bor (cs.map .int)),some (.own (ms.map kC)),x,y,none]/\ms.map Sk=A.take k/\∀r∈ms,wF m r.2) ⟨[],none,none,rfl,rfl,λ_ h=>by cases h⟩ ?_ ?_
  ·rintro k hk _ ⟨ms,x,y,rfl,hf,hp⟩
   rw [QO] at hk
   refine ⟨_,rfl,?_⟩
   obtain ⟨c,_,hcc⟩:=mK (xs:=cs) (h:=D.int) (.l .bor (cs.map .int)) rfl k (by omega) (by omega)
   obtain ⟨bs,hb,Pk⟩:=Cq c m (by omega)
   have hlen:ms.length<=3:=by
    have:=congrArg Vw hf
    rw [QO,Uq] at this
    omega
   refine br (c2 (two rfl rfl hcc) rfl hb) rfl ?_
   refine pW rfl (bD (aI (two rfl rfl (show bg (.d (.lst (A.map D.str))) _=.ok (.d (.str A[k])) from ?_)) rfl (aI (n1 (kU (xs:=QU m) (h:=dN) (λp=>bs.getD p false) dN (iB rfl (by omega)) (by simp;omega) ?_) rfl) rfl bx)) (by show 2<=1000;decide)) rfl (by rw [QO];omega) ?_
   ·show bg (.d (.lst (A.map D.str))) (.d (.int k))=_
    unfold bg
    have:(A.map D.str)[k]?=some (.str A[k]):=by rw [Rj,Q5 hk];rfl
    simp only [g8,aN,jS this]
   ·intro p hp'
    have hp':p < m:=by simpa using hp'
    have hb:=Af bs m p Pk hp'
    refine ⟨?_,λ_=>⟨_,rfl,rfl⟩⟩
    show (g2 bg (af 1) (af 0) [some (.d (dN p)),some (.own (bs.map D.bl))] >>= y9)=_
    rw [two (x:=.l .own (bs.map D.bl)) (y:=.d (dN p)) rfl rfl hb]
    rfl
   ·refine ⟨_,rfl,ms++[(A[k],(QU m).filter λp=>bs.getD p false)],_,_,by rw [Ro];rfl,?_,λr hr=>?_⟩
    ·rw [Ro,hf,Yc,Q5 hk]
     rfl
    ·rw [Rx,Q9] at hr
     rcases hr with h | h
     ·exact hp r h
     ·rw [h];exact Lp bs m hm
  ·rintro _ ⟨ms,x,y,rfl,hf,hp⟩
   refine br rfl rfl (jq (nP (n:=(B.map D.str).length) rfl (by rw [QO];omega)) ?_)
   refine lJ (n:=(B.map D.str).length) (λk env=>∃(rs:List (Str×List (Nat×Nat))) (x y:Option S),env=[some (.d (.tup [.lst (A.map .str),.lst (B.map .str)])),some (.d (.int m)),some (.bor (cs.map .int)),some (.own (ms.map kC)),x,y,some (.own (rs.map pg))]/\rs.map Sk=B.take k/\∀r∈rs,rN m r.2) ⟨[],_,_,rfl,rfl,λ_ h=>by cases h⟩ ?_ ?_
   ·rintro k hk _ ⟨rs,x,y,rfl,hf,hp⟩
    rw [QO] at hk
    refine ⟨_,rfl,?_⟩
    obtain ⟨c,_,hcc⟩:=mK (xs:=cs) (h:=D.int) (.l .bor (cs.map .int)) rfl (3 + k) (by omega) (by omega)
    obtain ⟨bs,hb,Pk⟩:=Cq c (m * m) (by omega)
    have hlen:rs.length<=3:=by
     have:=congrArg Vw hf
     rw [QO,Uq] at this
     omega
    refine br (c2 (two rfl rfl hcc) (two rfl rfl tm) hb) rfl ?_
    refine pW rfl (bD (aI (two rfl rfl (show bg (.d (.lst (B.map D.str))) _=.ok (.d (.str B[k])) from ?_)) rfl (aI (n1 (kU (xs:=QU (m * m)) (h:=dN) (λp=>bs.getD p false) (λp=>dP (p / m,p % m)) (iB (cS (two rfl rfl tm)) (by omega)) (by simp;omega) ?_) rfl) rfl bx)) (by show 2<=1000;decide)) rfl (by rw [QO];omega) ?_
    ·show bg (.d (.lst (B.map D.str))) (.d (.int k))=_
     unfold bg
     have:(B.map D.str)[k]?=some (.str B[k]):=by rw [Rj,Q5 hk];rfl
     simp only [g8,aN,jS this]
    ·intro p hp'
     have hp':p < m * m:=by simpa using hp'
     have hb:=Af bs (m * m) p Pk hp'
     refine ⟨?_,λ_=>⟨_,bD (aI (two rfl rfl (iZ p m (by omega) (by omega))) rfl (aI (two rfl rfl (dO p m (by omega))) rfl bx)) (by show 2<=1000;decide),?_⟩⟩
     ·show (g2 bg (af 1) (af 0) [some (.d (dN p)),some (.own (bs.map D.bl)),some (.d (.int m))] >>= y9)=_
      rw [two (x:=.l .own (bs.map D.bl)) (y:=.d (dN p)) rfl rfl hb]
      rfl
     ·simp [toD,dP]
    ·refine ⟨_,rfl,rs++[(B[k],((QU (m * m)).filter λp=>bs.getD p false).map λp=>(p / m,p % m))],_,_,by rw [Ro,YK,pg,Rv];rfl,?_,λr hr=>?_⟩
     ·rw [Ro,hf,Yc,Q5 hk]
      rfl
     ·rw [Rx,Q9] at hr
      rcases hr with h | h
      ·exact hp r h
      ·rw [h];exact Lh bs m h1 hm
   ·rintro _ ⟨rs,x,y,rfl,hf2,hp2⟩
    rw [QO] at hf hf2
    refine bN (bD (aI rfl rfl (aI rfl rfl (aI rfl rfl bx))) (by show 3<=1000;decide)) rfl ⟨_,rfl,ms,rs,rfl,by rw [hf,Xe],by rw [hf2,Xe],hp,hp2⟩
 obtain ⟨_,h,ms,rs,rfl,hk⟩:=key
 exact ⟨ms,rs,h,hk⟩
theorem d_ (ns:List Int) (i:Int) (k:Nat) (h:i=k):bQ [.bor (ns.map D.int),.d (.int i)]=.ok (.d (.int (bW ns k))):=by
 rw [h];exact Cr ns k
structure mw (w:Wd):Prop where
 lo:1<=w.m
 hi:w.m<=8
 ml:w.ms.length<=3
 al:w.ar.length<=3
theorem qh (xs ys:List D) (h:xs.length + ys.length<=1000):cY (.d (.tup xs)) (.d (.tup ys))=.ok (.d (.tup (xs++ys))):=by
 show (if xs.length + ys.length<=sizeLine then M.ok (R.d (.tup (xs++ys))) else M.bad)=_
 rw [if_pos (gH h)]
theorem Nt (l:Nat) (xs:List Nat):gT false (.d (dN l)) (.d (.tup (xs.map dN)))=.ok (.d (.bl (inD (dN l) (xs.map dN)))):=By false _ _ (JZ xs) (RA _)
theorem Km (l:Nat×Nat) (xs:List (Nat×Nat)):gT false (.d (dP l)) (.d (.tup (xs.map dP)))=.ok (.d (.bl (inD (dP l) (xs.map dP)))):=By false _ _ (Dg xs) (by show (1:Nat)<=60;decide)
theorem t2:(2:Nat)<=1000:=by decide
end K51
namespace K51
open PySem DL K01 WP
open PySem.W (kas_sort)
theorem pI (ds:List D):(bw ds).length=ds.length:=by
 unfold bw
 by_cases h:ds.length < 2
 ·rw [if_pos h]
 ·rw [if_neg h,QO]
  have:=(eH (n:=ds.length) (by omega)).run (ltB ds)
  have:=this.size_eq
  simpa using this
theorem lE {ds:List D}{x:D}(hx:x∈bw ds):x∈ds:=by
 unfold bw at hx
 by_cases h:ds.length < 2
 ·rwa [if_pos h] at hx
 ·rw [if_neg h] at hx
  have hp:=(eH (n:=ds.length) (by omega)).run (ltB ds)
  obtain ⟨i,hi,rfl⟩:=QT.mp hx
  have hi:i∈aY (ltB ds) (Tq ds.length):=by simpa using hi
  have:=(TU hp).mp hi
  exact eB (by simpa using this)
end K51
namespace K51
open PySem DL K01 WP
end K51
namespace DL
open PySem PySem.Spec PyProof.Rows L2
open PySem.W (KasT kas_sort kas_asc kas_desc kas_rev kas_tail3 kas_descPart kas_count kas_place kas_bin)
theorem run_bind {α β:Type}(q:Nat->Nat->Bool) (f:α->KasT β):∀t:KasT α,aY q (t.bind f)=aY q (f (aY q t))
 | .ret _=>rfl
 | .ask i j k=>run_bind q f (k (q i j))
theorem Gn {n:Nat}{α:Type}{P:α->Prop}{t:KasT α}{q q':Nat->Nat->Bool}(h:fK n P t) (e:∀i j,i < n->j < n->q i j=q' i j):aY q t=aY q' t:=by
 induction h with
 | ret _=>rfl
 | @ask i j k h1 h2 _ ih=>
  show aY q (k (q i j))=aY q' (k (q' i j))
  rw [e _ _ h1 h2]
  exact ih _
structure Ord (q:Nat->Nat->Bool):Prop where
 asy:∀a b,q a b=true->q b a=false
 tra:∀a b c,q b a=false->q c b=false->q c a=false
section
variable {q:Nat->Nat->Bool}{n:Nat}
noncomputable abbrev bG (p:Array Nat) (k:Nat):Nat:=p.getD k 0
noncomputable def Up (q:Nat->Nat->Bool) (p:Array Nat) (k:Nat):Prop:=∀i j,i<=j->j < k->q (bG p j) (bG p i)=false
noncomputable def Down (q:Nat->Nat->Bool) (p:Array Nat) (k:Nat):Prop:=∀i j,i<=j->j < k->q (bG p i) (bG p j)=false
theorem Ord.irr (O:Ord q) (a:Nat):q a a=false:=by
 cases h:q a a with
 | false=>rfl
 | true=>rw [<-h];exact (O.asy a a h)
theorem getD_eq {p p':Array Nat}{i j:Nat}(h:p[i]?=p'[j]?):bG p i=bG p' j:=by
 show p.getD i 0=p'.getD j 0
 rw [Wc,Wc,h]
theorem iQ {p:Array Nat}{i j:Nat}(hj:j<=p.size) (k:Nat):bG (VP p i j) k=if i<=k/\k < j then bG p (i + j - 1 - k) else bG p k:=by
 have e:=getElem?_mirror_all (xs:=p) (i:=i) hj k
 by_cases c:i<=k/\k < j
 ·rw [if_pos c] at e ⊢;exact getD_eq e
 ·rw [if_neg c] at e ⊢;exact getD_eq e
theorem CF {p:Array Nat}{src d:Nat}(hs:src < p.size) (hd:d<=src) (k:Nat):bG (bubble p src d) k=if k=src - d then bG p src else if src - d < k/\k<=src then bG p (k - 1) else bG p k:=by
 have e:=getElem?_bubble hs d hd k
 by_cases c:k=src - d
 ·rw [if_pos c] at e ⊢;exact getD_eq e
 ·rw [if_neg c] at e ⊢
  by_cases c':src - d < k/\k<=src
  ·rw [if_pos c'] at e ⊢;exact getD_eq e
  ·rw [if_neg c'] at e ⊢;exact getD_eq e
theorem iA (p:Array Nat) (i j:Nat):(VP p i j).size=p.size:=mirror_size _ _ _ _
theorem Up.one (O:Ord q) (p:Array Nat):Up q p 1:=λi j h1 h2=>by
 have:i=j:=by omega
 rw [this];exact O.irr _
theorem Up.more (O:Ord q){p:Array Nat}{k:Nat}(h:Up q p k) (h1:1<=k) (e:q (bG p k) (bG p (k - 1))=false):Up q p (k + 1):=λi j hi hj=>by
 by_cases c:j < k
 ·exact h i j hi c
 ·have:j=k:=by omega
  subst this
  by_cases c':i=j
  ·rw [c'];exact O.irr _
  ·exact O.tra _ _ _ (h i (j - 1) (by omega) (by omega)) e
theorem Down.more (O:Ord q){p:Array Nat}{k:Nat}(h:Down q p k) (h1:1<=k) (e:q (bG p (k - 1)) (bG p k)=false):Down q p (k + 1):=λi j hi hj=>by
 by_cases c:j < k
 ·exact h i j hi c
 ·have:j=k:=by omega
  subst this
  by_cases c':i=j
  ·rw [c'];exact O.irr _
  ·exact O.tra _ _ _ e (h i (j - 1) (by omega) (by omega))
theorem xw (O:Ord q) (p:Array Nat):∀(f m:Nat),1<=m->Up q p m->m<=aY q (VQ p f m)/\aY q (VQ p f m)<=m + f/\Up q p (aY q (VQ p f m))/\(aY q (VQ p f m)=m + f\/q (bG p (aY q (VQ p f m))) (bG p (aY q (VQ p f m) - 1))=true)
 | 0,m,h1,h=>⟨QY _,QY _,h,.inl rfl⟩
 | f + 1,m,h1,h=>by
  have e:aY q (VQ p (f + 1) m)=if q (bG p m) (bG p (m - 1))=true then m else aY q (VQ p f (m + 1)):=by
   show aY q (if q (bG p m) (bG p (m - 1))=true then KasT.ret m else VQ p f (m + 1))=_
   by_cases c:q (bG p m) (bG p (m - 1))=true
   ·rw [if_pos c,if_pos c];rfl
   ·rw [if_neg c,if_neg c]
  rw [e]
  by_cases c:q (bG p m) (bG p (m - 1))=true
  ·rw [if_pos c]
   exact ⟨QY _,by omega,h,.inr c⟩
  ·rw [if_neg c]
   obtain ⟨a1,a2,a3,a4⟩:=xw O p f (m + 1) (by omega) (h.more O h1 (by simpa using c))
   refine ⟨by omega,by omega,a3,?_⟩
   rcases a4 with a4 | a4
   ·exact .inl (by omega)
   ·exact .inr a4
noncomputable def Alike (q:Nat->Nat->Bool) (p:Array Nat) (i j:Nat):Prop:=∀a b,i<=a->a < j->i<=b->b < j->q (bG p a) (bG p b)=false
theorem vC {p:Array Nat}{i j k:Nat}(hj:j<=p.size) (ha:Alike q p i j) (hd:Down q p j) (O:Ord q):Down q (VP p i j) j:=λa b h1 h2=>by
 rw [iQ hj,iQ hj]
 by_cases c:i<=a/\a < j
 ·rw [if_pos c]
  by_cases c':i<=b/\b < j
  ·rw [if_pos c'];exact ha _ _ (by omega) (by omega) (by omega) (by omega)
  ·omega
 ·rw [if_neg c]
  by_cases c':i<=b/\b < j
  ·rw [if_pos c']
   exact hd _ _ (by omega) (by omega)
  ·rw [if_neg c'];exact hd _ _ h1 h2
theorem LD {p:Array Nat}{j:Nat}(hj:j<=p.size) (hd:Down q p j):Up q (VP p 0 j) j:=λa b h1 h2=>by
 rw [iQ hj,iQ hj,if_pos (by omega),if_pos (by omega)]
 exact hd _ _ (by omega) (by omega)
theorem tE {p:Array Nat}{i j k:Nat}(hj:j<=p.size) (h:j<=k):bG (VP p i j) k=bG p k:=by
 rw [iQ hj,if_neg (by omega)]
theorem kX (O:Ord q):∀(f:Nat) (p:Array Nat) (m e:Nat),1<=m->e + 1<=m->m + f<=p.size->Down q p m->Alike q p (m - (e + 1)) m->
  (aY q (Tp f p m e)).1.size=p.size/\m<=(aY q (Tp f p m e)).2.1/\(aY q (Tp f p m e)).2.1<=m + f/\(aY q (Tp f p m e)).2.2 + 1<=(aY q (Tp f p m e)).2.1/\
  Down q (aY q (Tp f p m e)).1 (aY q (Tp f p m e)).2.1/\Alike q (aY q (Tp f p m e)).1 ((aY q (Tp f p m e)).2.1 - ((aY q (Tp f p m e)).2.2 + 1)) (aY q (Tp f p m e)).2.1
 | 0,p,m,e,h1,h2,h3,h4,h5=>⟨rfl,QY _,QY _,h2,h4,h5⟩
 | f + 1,p,m,e,h1,h2,h3,h4,h5=>by
  have solo:∀(p:Array Nat) (m:Nat),Alike q p (m + 1 - (0 + 1)) (m + 1):=λp m a b c1 c2 c3 c4=>by
   have:a=b:=by omega
   rw [this];exact O.irr _
  cases c:q (bG p m) (bG p (m - 1)) with
  | true=>
   have c2:=O.asy _ _ c
   by_cases he:e > 0
   ·have er:aY q (Tp (f + 1) p m e)=aY q (Tp f (VP p (m - (e + 1)) m) (m + 1) 0):=by
     show aY q (if q (bG p m) (bG p (m - 1))=true then _ else _)=_
     rw [if_pos c,if_pos he]
    rw [er]
    have hr:=vC (k:=0) (i:=m - (e + 1)) (by omega:m<=p.size) h5 h4 O
    have hl:bG (VP p (m - (e + 1)) m) (m - 1)=bG p (m - (e + 1)):=by
     rw [iQ (by omega),if_pos (by omega)]
     congr 1;omega
    obtain ⟨a0,a1,a2,a3,a4,a5⟩:=kX O f (VP p (m - (e + 1)) m) (m + 1) 0 (by omega) (by omega) (by rw [iA];omega)
     (hr.more O h1 (by
      rw [hl,tE (by omega) (QY _)]
      exact O.tra _ _ _ c2 (h5 _ _ (by omega) (by omega) (by omega) (by omega)))) (solo _ _)
    rw [iA] at a0
    exact ⟨a0,by omega,by omega,a3,a4,a5⟩
   ·have er:aY q (Tp (f + 1) p m e)=aY q (Tp f p (m + 1) 0):=by
     show aY q (if q (bG p m) (bG p (m - 1))=true then _ else _)=_
     rw [if_pos c,if_neg he]
    rw [er]
    obtain ⟨a0,a1,a2,a3,a4,a5⟩:=kX O f p (m + 1) 0 (by omega) (by omega) (by omega) (h4.more O h1 c2) (solo _ _)
    exact ⟨a0,by omega,by omega,a3,a4,a5⟩
  | false=>
   cases c2:q (bG p (m - 1)) (bG p m) with
   | true=>
    have er:aY q (Tp (f + 1) p m e)=(p,m,e):=by
     show aY q (if q (bG p m) (bG p (m - 1))=true then _ else _)=_
     rw [if_neg (by rw [c];decide)]
     show aY q (if q (bG p (m - 1)) (bG p m)=true then _ else _)=_
     rw [if_pos c2]
     rfl
    rw [er]
    exact ⟨rfl,QY _,UY _ _,h2,h4,h5⟩
   | false=>
    have er:aY q (Tp (f + 1) p m e)=aY q (Tp f p (m + 1) (e + 1)):=by
     show aY q (if q (bG p m) (bG p (m - 1))=true then _ else _)=_
     rw [if_neg (by rw [c];decide)]
     show aY q (if q (bG p (m - 1)) (bG p m)=true then _ else _)=_
     rw [if_neg (by rw [c2];decide)]
    rw [er]
    have hal:Alike q p (m + 1 - (e + 1 + 1)) (m + 1):=λa b d1 d2 d3 d4=>by
     by_cases ea:a=m
     ·subst ea
      by_cases eb:b=a
      ·rw [eb];exact O.irr _
      ·exact O.tra _ _ _ (h5 (a - 1) b (by omega) (by omega) (by omega) (by omega)) c
     ·by_cases eb:b=m
      ·subst eb
       exact O.tra _ _ _ c2 (h5 a (b - 1) (by omega) (by omega) (by omega) (by omega))
      ·exact h5 a b (by omega) (by omega) (by omega) (by omega)
    obtain ⟨a0,a1,a2,a3,a4,a5⟩:=kX O f p (m + 1) (e + 1) (by omega) (by omega) (by omega) (h4.more O h1 c2) hal
    exact ⟨a0,by omega,by omega,a3,a4,a5⟩
noncomputable def Got (q:Nat->Nat->Bool) (N s:Nat) (r:Nat×Array Nat):Prop:=r.2.size=s/\1<=r.1/\r.1<=N/\Up q r.2 r.1
theorem AN (O:Ord q){p:Array Nat}{m N:Nat}(h1:1<=m) (hm:m<=N) (hN:N<=p.size) (hd:Down q p m):Got q N p.size (aY q (aa5 m N p)):=by
 unfold aa5
 rw [run_bind]
 obtain ⟨a1,a2,a3,_⟩:=xw O (VP p 0 m) (N - m) m h1 (LD (by omega) hd)
 exact ⟨iA _ _ _,by show 1<=aY q (VQ _ _ _);omega,by show aY q (VQ _ _ _)<=N;omega,a3⟩
theorem AA (O:Ord q){p:Array Nat}{m N:Nat}(h1:1<=m) (hm:m + 1<=N) (hN:N<=p.size) (hd:Down q p (m + 1)):Got q N p.size (aY q (Zi m N p)):=by
 unfold Zi
 rw [run_bind]
 obtain ⟨a0,a1,a2,a3,a4,a5⟩:=kX O (N - (m + 1)) p (m + 1) 0 (by omega) (by omega) (by omega) hd (λa b c1 c2 c3 c4=>by
  have:a=b:=by omega
  rw [this];exact O.irr _)
 generalize aY q (Tp (N - (m + 1)) p (m + 1) 0)=r at *
 obtain ⟨p',m',e'⟩:=r
 simp only at *
 by_cases c:e' > 0
 ·rw [if_pos c]
  have:=AN (N:=N) O (p:=VP p' (m' - (e' + 1)) m') (m:=m') (by omega) (by omega) (by rw [iA];omega) (vC (k:=0) (by omega) a5 a4 O)
  rw [iA,a0] at this
  exact this
 ·rw [if_neg c]
  have:=AN (N:=N) O (p:=p') (m:=m') (by omega) (by omega) (by omega) a4
  rw [a0] at this
  exact this
theorem ES (O:Ord q){p:Array Nat}{N:Nat}(h1:1<=N) (hN:N<=p.size):Got q N p.size (aY q (ZK N p)):=by
 unfold ZK
 rw [run_bind]
 obtain ⟨a1,a2,a3,a4⟩:=xw O p (N - 1) 1 (QY _) (Up.one O p)
 generalize aY q (VQ p (N - 1) 1)=m at *
 by_cases c:(m == N)=true
 ·rw [if_pos c]
  exact ⟨rfl,a1,by show m<=N;omega,a3⟩
 ·rw [if_neg c]
  have hm:m + 1<=N:=by
   have:m≠N:=by simpa using c
   omega
  have a4:q (bG p m) (bG p (m - 1))=true:=by
   rcases a4 with h | h
   ·omega
   ·exact h
  have a5:=O.asy _ _ a4
  by_cases c':m > 1
  ·rw [if_pos c']
   show Got q N p.size (aY q (if q (bG p 0) (bG p (m - 1))=true then _ else _))
   by_cases d:q (bG p 0) (bG p (m - 1))=true
   ·rw [if_pos d]
    exact ⟨rfl,a1,by show m<=N;omega,a3⟩
   ·rw [if_neg d]
    have d:q (bG p 0) (bG p (m - 1))=false:=by simpa using d
    have all:∀a b,a < m->b < m->q (bG p a) (bG p b)=false:=λa b ha hb=>O.tra _ _ _ (O.tra _ _ _ (a3 b (m - 1) (by omega) (by omega)) d) (a3 0 a (by omega) (by omega))
    have hd:Down q (VP p 0 m) m:=λa b h1 h2=>by
     rw [iQ (by omega),iQ (by omega),if_pos (by omega),if_pos (by omega)]
     exact all _ _ (by omega) (by omega)
    have:=AA O (p:=VP p 0 m) (m:=m) (N:=N) (by omega) hm (by rw [iA];exact hN) (hd.more O (by omega) (by
     rw [tE (by omega) (QY _),iQ (by omega),if_pos (by omega),show 0 + m - 1 - (m - 1)=0 by omega]
     exact O.tra _ _ _ a5 d))
    rw [iA] at this
    exact this
  ·rw [if_neg c']
   have:m=1:=by omega
   subst this
   refine AA O (QY _) hm hN ?_
   exact Down.more O (λi j h1 h2=>by
    have:i=j:=by omega
    rw [this];exact O.irr _) (QY _) a5
theorem qU (O:Ord q){p:Array Nat}{k:Nat}(hs:Up q p k):∀(f l r:Nat),l<=r->r<=k->r - l<=f->(∀i,i < l->q (bG p k) (bG p i)=false)->(∀i,r<=i->i < k->q (bG p k) (bG p i)=true)->
  aY q (TV p k f l r)<=k/\(∀i,i < aY q (TV p k f l r)->q (bG p k) (bG p i)=false)/\∀i,aY q (TV p k f l r)<=i->i < k->q (bG p k) (bG p i)=true
 | 0,l,r,h1,h2,h3,h4,h5=>⟨by show l<=k;omega,h4,λi hi=>h5 i (by show r<=i;have:l<=i:=hi;omega)⟩
 | f + 1,l,r,h1,h2,h3,h4,h5=>by
  by_cases c:l ≥ r
  ·have e:aY q (TV p k (f + 1) l r)=l:=by
    unfold TV
    rw [if_pos c]
    rfl
   rw [e]
   exact ⟨by omega,h4,λi hi=>h5 i (by omega)⟩
  ·cases d:q (bG p k) (bG p ((l + r) / 2)) with
   | true=>
    have e:aY q (TV p k (f + 1) l r)=aY q (TV p k f l ((l + r) / 2)):=by
     rw [TV,if_neg c]
     show aY q (if q (bG p k) (bG p ((l + r) / 2))=true then _ else _)=_
     rw [if_pos d]
    rw [e]
    refine qU O hs f l ((l + r) / 2) (by omega) (by omega) (by omega) h4 λi i1 i2=>?_
    by_cases ci:r<=i
    ·exact h5 i ci i2
    ·cases dd:q (bG p k) (bG p i) with
     | true=>rfl
     | false=>
      have:=O.tra _ _ _ (hs ((l + r) / 2) i i1 i2) dd
      rw [d] at this
      cases this
   | false=>
    have e:aY q (TV p k (f + 1) l r)=aY q (TV p k f ((l + r) / 2 + 1) r):=by
     rw [TV,if_neg c]
     show aY q (if q (bG p k) (bG p ((l + r) / 2))=true then _ else _)=_
     rw [if_neg (by rw [d];decide)]
    rw [e]
    refine qU O hs f ((l + r) / 2 + 1) r (by omega) (by omega) (by omega) (λi hi=>?_) h5
    exact O.tra _ _ _ (hs i ((l + r) / 2) (by omega) (by omega)) d
theorem JS (O:Ord q){p:Array Nat}{k l:Nat}(hk:k < p.size) (hl:l<=k) (hs:Up q p k) (h1:∀i,i < l->q (bG p k) (bG p i)=false) (h2:∀i,l<=i->i < k->q (bG p k) (bG p i)=true):Up q (bubble p k (k - l)) (k + 1):=λi j hi hj=>by
 rw [CF hk (by omega),CF hk (by omega),show k - (k - l)=l by omega]
 by_cases a:i=l
 ·rw [if_pos a]
  by_cases b:j=l
  ·rw [if_pos b];exact O.irr _
  ·rw [if_neg b,if_pos (by omega)]
   exact O.asy _ _ (h2 (j - 1) (by omega) (by omega))
 ·rw [if_neg a]
  by_cases b:j=l
  ·rw [if_pos b,if_neg (by omega)]
   exact h1 i (by omega)
  ·rw [if_neg b]
   by_cases a':l < i/\i<=k
   ·rw [if_pos a',if_pos (by omega)]
    exact hs _ _ (by omega) (by omega)
   ·rw [if_neg a']
    by_cases b':l < j/\j<=k
    ·rw [if_pos b']
     exact hs _ _ (by omega) (by omega)
    ·rw [if_neg b']
     exact hs _ _ hi (by omega)
theorem CI (O:Ord q):∀(f:Nat) (p:Array Nat) (k:Nat),k + f<=p.size->Up q p k->Up q (aY q (aaH f p k)) (k + f)
 | 0,p,k,_,h=>h
 | f + 1,p,k,hs,h=>by
  have e:aY q (aaH (f + 1) p k)=aY q (aaH f (bubble p k (k - aY q (TV p k k 0 k))) (k + 1)):=by
   rw [aaH,run_bind]
  rw [e]
  obtain ⟨a1,a2,a3⟩:=qU O h k 0 k (RA _) (QY _) (by omega) (λi hi=>by omega) (λi h1 h2=>by omega)
  have:=CI O f (bubble p k (k - aY q (TV p k k 0 k))) (k + 1) (by rw [bubble_size];omega) (JS O (by omega) a1 h a2 a3)
  rw [show k + (f + 1)=k + 1 + f by omega]
  exact this
theorem Jl (O:Ord q) (n:Nat) (hn:1<=n):Up q (aY q (Tq n)) n:=by
 unfold Tq
 rw [run_bind]
 obtain ⟨a0,a1,a2,a3⟩:=ES O (p:=(QU n).toArray) (N:=n) hn (by simp)
 generalize aY q (ZK n (QU n).toArray)=r at *
 have a0:r.2.size=n:=by simpa using a0
 by_cases c:r.1 < n
 ·rw [if_pos c]
  have:=CI O (n - max r.1 1) r.2 (max r.1 1) (by omega) (by rw [show max r.1 1=r.1 by omega];exact a3)
  rwa [show max r.1 1 + (n - max r.1 1)=n by omega] at this
 ·rw [if_neg c]
  have:r.1=n:=by omega
  rw [this] at a3
  exact a3
end
end DL
namespace DL
open PySem PySem.Spec PyProof.Rows L2
open PySem.W (kas_sort)
noncomputable def dU (x y:D):Bool:=(dM x y).getD false
structure fY (P:D->Prop):Prop where
 eq:∀x y,P x->P y->(bu x y=true↔x=y)
 lt:∀x y,P x->P y->(dM x y).isSome=true
 asy:∀x y,P x->P y->dU x y=true->dU y x=false
 tri:∀x y,P x->P y->dU x y=false->dU y x=false->x=y
 tra:∀x y z,P x->P y->P z->dU x y=true->dU y z=true->dU x z=true
noncomputable def gZ (xs ys:List D):Bool:=dU (.tup xs) (.tup ys)
theorem jg (x y:D) (xs ys:List D):gZ (x::xs) (y::ys)=if bu x y=true then gZ xs ys else dU x y:=by
 show (if bu x y=true then jE xs ys else dM x y).getD false=_
 by_cases h:bu x y=true
 ·rw [if_pos h,if_pos h];rfl
 ·rw [if_neg h,if_neg h];rfl
variable {P R:D->Prop}
theorem jV (xs ys:List D):bu (.tup xs) (.tup ys)=cu xs ys:=by rw [bu]
theorem gP (x y:D) (xs ys:List D):cu (x::xs) (y::ys)=(bu x y && cu xs ys):=by rw [cu]
structure jZ (Q:List D->Prop):Prop where
 eq:∀x y,Q x->Q y->(cu x y=true↔x=y)
 lt:∀x y,Q x->Q y->(jE x y).isSome=true
 asy:∀x y,Q x->Q y->gZ x y=true->gZ y x=false
 tri:∀x y,Q x->Q y->gZ x y=false->gZ y x=false->x=y
 tra:∀x y z,Q x->Q y->Q z->gZ x y=true->gZ y z=true->gZ x z=true
theorem jZ.tot {Q:List D->Prop}(h:jZ Q):fY λd=>∃xs,d=.tup xs/\Q xs where
 eq:=by
  rintro _ _ ⟨x,rfl,hx⟩ ⟨y,rfl,hy⟩
  rw [jV,h.eq x y hx hy]
  exact ⟨λe=>e▸rfl,λe=>by cases e;rfl⟩
 lt:=by
  rintro _ _ ⟨x,rfl,hx⟩ ⟨y,rfl,hy⟩
  exact h.lt x y hx hy
 asy:=by
  rintro _ _ ⟨x,rfl,hx⟩ ⟨y,rfl,hy⟩
  exact h.asy x y hx hy
 tri:=by
  rintro _ _ ⟨x,rfl,hx⟩ ⟨y,rfl,hy⟩ h1 h2
  rw [h.tri x y hx hy h1 h2]
 tra:=by
  rintro _ _ _ ⟨x,rfl,hx⟩ ⟨y,rfl,hy⟩ ⟨z,rfl,hz⟩
  exact h.tra x y z hx hy hz
theorem Aw (p:fY P){x y z:D}{r s t:List D}(px:P x) (py:P y) (pz:P z) (h:gZ r s=true->gZ s t=true->gZ r t=true) (h1:gZ (x::r) (y::s)=true) (h2:gZ (y::s) (z::t)=true):gZ (x::r) (z::t)=true:=by
 rw [jg] at h1 h2 ⊢
 by_cases e:x=y
 ·subst e
  rw [if_pos ((p.eq x x px px).mpr rfl)] at h1
  by_cases f:x=z
  ·subst f
   rw [if_pos ((p.eq x x px px).mpr rfl)] at h2 ⊢
   exact h h1 h2
  ·rw [if_neg λq=>f ((p.eq x z px pz).mp q)] at h2 ⊢
   exact h2
 ·rw [if_neg λq=>e ((p.eq x y px py).mp q)] at h1
  by_cases f:y=z
  ·subst f
   rw [if_neg λq=>e ((p.eq x y px py).mp q)]
   exact h1
  ·rw [if_neg λq=>f ((p.eq y z py pz).mp q)] at h2
   have h3:=p.tra x y z px py pz h1 h2
   by_cases g:x=z
   ·subst g
    have:=p.asy x x px px h3
    rw [h3] at this
    cases this
   ·rw [if_neg λq=>g ((p.eq x z px pz).mp q)]
    exact h3
theorem jZ.cons {Q:List D->Prop}(p:fY P) (h:jZ Q):jZ λxs=>∃x r,xs=x::r/\P x/\Q r where
 eq:=by
  rintro _ _ ⟨x,r,rfl,px,qr⟩ ⟨y,s,rfl,py,qs⟩
  rw [gP,QX,p.eq x y px py,h.eq r s qr qs]
  exact ⟨λe=>by rw [e.1,e.2],λe=>by cases e;exact ⟨rfl,rfl⟩⟩
 lt:=by
  rintro _ _ ⟨x,r,rfl,px,qr⟩ ⟨y,s,rfl,py,qs⟩
  show (if bu x y=true then jE r s else dM x y).isSome=true
  split
  ·exact h.lt r s qr qs
  ·exact p.lt x y px py
 asy:=by
  rintro _ _ ⟨x,r,rfl,px,qr⟩ ⟨y,s,rfl,py,qs⟩ hl
  rw [jg] at hl ⊢
  by_cases e:x=y
  ·subst e
   rw [if_pos ((p.eq x x px px).mpr rfl)] at hl ⊢
   exact h.asy r s qr qs hl
  ·rw [if_neg λz=>e ((p.eq x y px py).mp z)] at hl
   rw [if_neg λz=>e ((p.eq y x py px).mp z).symm]
   exact p.asy x y px py hl
 tri:=by
  rintro _ _ ⟨x,r,rfl,px,qr⟩ ⟨y,s,rfl,py,qs⟩ h1 h2
  rw [jg] at h1 h2
  by_cases e:x=y
  ·subst e
   rw [if_pos ((p.eq x x px px).mpr rfl)] at h1 h2
   rw [h.tri r s qr qs h1 h2]
  ·rw [if_neg λz=>e ((p.eq x y px py).mp z)] at h1
   rw [if_neg λz=>e ((p.eq y x py px).mp z).symm] at h2
   exact absurd (p.tri x y px py h1 h2) e
 tra:=by
  rintro _ _ _ ⟨x,r,rfl,px,qr⟩ ⟨y,s,rfl,py,qs⟩ ⟨z,t,rfl,pz,qt⟩ h1 h2
  exact Aw p px py pz (h.tra r s t qr qs qt) h1 h2
theorem jZ.nil:jZ λxs=>xs=[] where
 eq:=by rintro _ _ rfl rfl;simp [cu]
 lt:=by rintro _ _ rfl rfl;rfl
 asy:=by rintro _ _ rfl rfl h;cases h
 tri:=by rintro _ _ rfl rfl _ _;rfl
 tra:=by rintro _ _ _ rfl rfl rfl h;cases h
theorem fY.list (p:fY P):jZ λxs=>∀x∈xs,P x where
 eq:=by
  intro xs
  induction xs with
  | nil=>intro ys _ _;cases ys <;> simp [cu]
  | cons x xs ih=>
   intro ys hx hy
   cases ys with
   | nil=>simp [cu]
   | cons y ys=>
    rw [gP,QX,p.eq x y (hx x QW) (hy y QW),ih ys (λz hz=>hx z (QS _ hz)) λz hz=>hy z (QS _ hz)]
    exact ⟨λe=>by rw [e.1,e.2],λe=>by cases e;exact ⟨rfl,rfl⟩⟩
 lt:=by
  intro xs
  induction xs with
  | nil=>intro ys _ _;rfl
  | cons x xs ih=>
   intro ys hx hy
   cases ys with
   | nil=>rfl
   | cons y ys=>
    show (if bu x y=true then jE xs ys else dM x y).isSome=true
    split
    ·exact ih ys (λz hz=>hx z (QS _ hz)) λz hz=>hy z (QS _ hz)
    ·exact p.lt x y (hx x QW) (hy y QW)
 asy:=by
  intro xs
  induction xs with
  | nil=>
   intro ys _ _ h
   cases ys with
   | nil=>cases h
   | cons y ys=>rfl
  | cons x xs ih=>
   intro ys hx hy hl
   cases ys with
   | nil=>cases hl
   | cons y ys=>
    have px:=hx x QW
    have py:=hy y QW
    rw [jg] at hl ⊢
    by_cases e:x=y
    ·subst e
     rw [if_pos ((p.eq x x px px).mpr rfl)] at hl ⊢
     exact ih ys (λz hz=>hx z (QS _ hz)) (λz hz=>hy z (QS _ hz)) hl
    ·rw [if_neg λz=>e ((p.eq x y px py).mp z)] at hl
     rw [if_neg λz=>e ((p.eq y x py px).mp z).symm]
     exact p.asy x y px py hl
 tri:=by
  intro xs
  induction xs with
  | nil=>
   intro ys _ _ h1 h2
   cases ys with
   | nil=>rfl
   | cons y ys=>cases h1
  | cons x xs ih=>
   intro ys hx hy h1 h2
   cases ys with
   | nil=>cases h2
   | cons y ys=>
    have px:=hx x QW
    have py:=hy y QW
    rw [jg] at h1 h2
    by_cases e:x=y
    ·subst e
     rw [if_pos ((p.eq x x px px).mpr rfl)] at h1 h2
     rw [ih ys (λz hz=>hx z (QS _ hz)) (λz hz=>hy z (QS _ hz)) h1 h2]
    ·rw [if_neg λz=>e ((p.eq x y px py).mp z)] at h1
     rw [if_neg λz=>e ((p.eq y x py px).mp z).symm] at h2
     exact absurd (p.tri x y px py h1 h2) e
 tra:=by
  intro xs
  induction xs with
  | nil=>
   intro ys zs _ _ _ h1 h2
   cases ys with
   | nil=>cases h1
   | cons y ys=>
    cases zs with
    | nil=>cases h2
    | cons z zs=>rfl
  | cons x xs ih=>
   intro ys zs hx hy hz h1 h2
   cases ys with
   | nil=>cases h1
   | cons y ys=>
    cases zs with
    | nil=>cases h2
    | cons z zs=>
     have px:=hx x QW
     have py:=hy y QW
     have pz:=hz z QW
     exact Aw p px py pz (ih ys zs (λz hz=>hx z (QS _ hz)) (λz hz=>hy z (QS _ hz)) λw hw=>hz w (QS _ hw)) h1 h2
theorem MU:fY λd=>∃k,d=.bl k where
 eq:=by rintro _ _ ⟨x,rfl⟩ ⟨y,rfl⟩;simp [bu]
 lt:=by rintro _ _ ⟨x,rfl⟩ ⟨y,rfl⟩;rfl
 asy:=by rintro _ _ ⟨x,rfl⟩ ⟨y,rfl⟩;revert x y;decide
 tri:=by
  rintro _ _ ⟨x,rfl⟩ ⟨y,rfl⟩ h1 h2
  revert h1 h2
  cases x <;> cases y <;> intro h1 h2
  ·rfl
  ·exact absurd h1 (by decide)
  ·exact absurd h2 (by decide)
  ·rfl
 tra:=by rintro _ _ _ ⟨x,rfl⟩ ⟨y,rfl⟩ ⟨z,rfl⟩;revert x y z;decide
theorem mQ (x y:Int):dU (.int x) (.int y)=decide (x < y):=rfl
theorem MV:fY λd=>∃k,d=.int k where
 eq:=by rintro _ _ ⟨x,rfl⟩ ⟨y,rfl⟩;simp [bu]
 lt:=by rintro _ _ ⟨x,rfl⟩ ⟨y,rfl⟩;rfl
 asy:=by
  rintro _ _ ⟨x,rfl⟩ ⟨y,rfl⟩ h
  rw [mQ,decide_eq_true_eq] at h
  rw [mQ,decide_eq_false_iff_not]
  omega
 tri:=by
  rintro _ _ ⟨x,rfl⟩ ⟨y,rfl⟩ h1 h2
  rw [mQ,decide_eq_false_iff_not] at h1 h2
  rw [show x=y by omega]
 tra:=by
  rintro _ _ _ ⟨x,rfl⟩ ⟨y,rfl⟩ ⟨z,rfl⟩ h1 h2
  rw [mQ,decide_eq_true_eq] at h1 h2 ⊢
  omega
theorem pX (x y:Str):dU (.str x) (.str y)=decide (x.cps.toList < y.cps.toList):=rfl
theorem Jp {x y:Str}(h:x.cps.toList=y.cps.toList):x=y:=by
 obtain ⟨⟨cx⟩⟩:=x
 obtain ⟨⟨cy⟩⟩:=y
 simp only at h
 rw [h]
theorem MW:fY λd=>∃k,d=.str k where
 eq:=by rintro _ _ ⟨x,rfl⟩ ⟨y,rfl⟩;simp [bu]
 lt:=by rintro _ _ ⟨x,rfl⟩ ⟨y,rfl⟩;rfl
 asy:=by
  rintro _ _ ⟨x,rfl⟩ ⟨y,rfl⟩ h
  rw [pX,decide_eq_true_eq] at h
  rw [pX,decide_eq_false_iff_not]
  exact List.lt_asymm h
 tri:=by
  rintro _ _ ⟨x,rfl⟩ ⟨y,rfl⟩ h1 h2
  rw [pX,decide_eq_false_iff_not] at h1 h2
  rw [Jp (Zt h2 h1)]
 tra:=by
  rintro _ _ _ ⟨x,rfl⟩ ⟨y,rfl⟩ ⟨z,rfl⟩ h1 h2
  rw [pX,decide_eq_true_eq] at h1 h2 ⊢
  exact List.lt_trans h1 h2
inductive Fm where
 | b | i | s | hom (t:Fm) | tn | tc (x r:Fm)
noncomputable def i_:Fm->D->Prop
 | .b,d=>∃k,d=.bl k
 | .i,d=>∃k,d=.int k
 | .s,d=>∃k,d=.str k
 | .hom t,d=>∃xs,d=.tup xs/\∀x∈xs,i_ t x
 | .tn,d=>∃xs,d=.tup xs/\xs=[]
 | .tc x r,d=>∃xs,d=.tup xs/\∃y ys,xs=y::ys/\i_ x y/\i_ r (.tup ys)
theorem fY.tail {Q:List D->Prop}(h:fY R) (k:∀xs,Q xs->R (.tup xs)):jZ Q where
 eq:=λx y hx hy=>by
  have:=h.eq _ _ (k x hx) (k y hy)
  rw [jV] at this
  rw [this]
  exact ⟨λe=>by cases e;rfl,λe=>e▸rfl⟩
 lt:=λx y hx hy=>h.lt _ _ (k x hx) (k y hy)
 asy:=λx y hx hy=>h.asy _ _ (k x hx) (k y hy)
 tri:=λx y hx hy h1 h2=>by
  have:=h.tri _ _ (k x hx) (k y hy) h1 h2
  cases this;rfl
 tra:=λx y z hx hy hz=>h.tra _ _ _ (k x hx) (k y hy) (k z hz)
theorem fD:∀t:Fm,fY (i_ t)
 | .b=>MU
 | .i=>MV
 | .s=>MW
 | .hom t=>(fD t).list.tot
 | .tn=>jZ.nil.tot
 | .tc x r=>(jZ.cons (fD x) (fY.tail (Q:=λys=>i_ r (.tup ys)) (fD r) λ_ h=>h)).tot
theorem MM (ds:List D):(bw ds).length=ds.length:=by
 unfold bw
 by_cases h:ds.length < 2
 ·rw [if_pos h]
 ·rw [if_neg h,QO]
  have:=((eH (n:=ds.length) (by omega)).run (ltB ds)).size_eq
  simpa using this
theorem Im (ds:List D):(QU ds.length).map (cP ds)=ds:=by
 refine Us (by simp) λi h1 h2=>?_
 rw [VR,List.getElem_range]
 unfold cP
 rw [RH,Q5 h2]
 rfl
theorem iW (ds:List D):(bw ds).Perm ds:=by
 unfold bw
 by_cases h:ds.length < 2
 ·rw [if_pos h]
 ·rw [if_neg h]
  have hp:=(eH (n:=ds.length) (by omega)).run (ltB ds)
  have hq:(aY (ltB ds) (Tq ds.length)).toList.Perm (QU ds.length):=by
   have:=Array.perm_iff_toList_perm.mp hp
   simpa using this
  have:=hq.map (cP ds)
  rwa [Im] at this
theorem Gw (p:fY P) (ds:List D) (h:∀x∈ds,P x):(bw ds).Pairwise λx y=>dU y x=false:=by
 unfold bw
 by_cases h2:ds.length < 2
 ·rw [if_pos h2]
  match ds,h2 with
  | [],_=>exact .nil
  | [x],_=>exact Ul _ _
 ·rw [if_neg h2]
  have hn:0 < ds.length:=by omega
  have hb:=eH (n:=ds.length) hn
  have at_P:∀i,i < ds.length->P (cP ds i):=λi hi=>h _ (eB hi)
  let q':Nat->Nat->Bool:=λi j=>if i < ds.length then (if j < ds.length then ltB ds i j else true) else false
  have hq:aY (ltB ds) (Tq ds.length)=aY q' (Tq ds.length):=Gn hb λi j hi hj=>by simp [q',hi,hj]
  have O:Ord q':=by
   constructor
   ·intro a b hab
    by_cases ha:a < ds.length <;> by_cases hb:b < ds.length <;> simp [q',ha,hb] at hab ⊢
    exact p.asy _ _ (at_P a ha) (at_P b hb) hab
   ·intro a b c hab hbc
    by_cases ha:a < ds.length <;> by_cases hb:b < ds.length <;> by_cases hc:c < ds.length <;> simp [q',ha,hb,hc] at hab hbc ⊢
    have h1:dU (cP ds b) (cP ds a)=false:=hab
    have h2:dU (cP ds c) (cP ds b)=false:=hbc
    show dU (cP ds c) (cP ds a)=false
    cases g:dU (cP ds c) (cP ds a) with
    | false=>rfl
    | true=>
     have pa:=at_P a ha
     have pb:=at_P b hb
     have pc:=at_P c hc
     cases g2:dU (cP ds a) (cP ds b) with
     | true=>
      have:=p.tra _ _ _ pc pa pb g g2
      rw [this] at h2;cases h2
     | false=>
      rw [<-p.tri _ _ pb pa h1 g2] at g
      rw [g] at h2;cases h2
  have up:=Jl O ds.length (by omega)
  have hs:=(hb.run (ltB ds))
  rw [hq] at hs ⊢
  have hsz:(aY q' (Tq ds.length)).size=ds.length:=by simpa using hs.size_eq
  generalize aY q' (Tq ds.length)=A at *
  rw [RP,Sq]
  intro i j hi hj hij
  rw [Q3] at hi hj
  have:=up i j (by omega) (by omega)
  have e:∀k (hk:k < A.size),bG A k=A.toList[k]'(by rw [Q3];exact hk):=λk hk=>by
   show A.getD k 0=_
   simp [S0,hk]
  rw [e i hi,e j hj] at this
  have l:∀k (hk:k < A.size),A.toList[k]'(by rw [Q3];exact hk) < ds.length:=λk hk=>by
   rw [<-e k hk];exact hs.lt hn k
  have li:=l i hi
  have lj:=l j hj
  simp only [q',li,lj,if_true] at this
  exact this
end DL
namespace K52
open PySem DL
end K52
namespace K52
open PySem DL K01 WP K51
variable {P:D->Prop}
end K52
namespace DL
open PySem PySem.Spec PyProof.Rows L2
section
variable {X:Cx}{c:C}{e a b:Rz}{es elts:List Rz}{pos tp:Pos}{kk:Nat}
noncomputable def JQ:R->M (List D)
 | .d (.tup xs)=>.ok xs
 | .d (.lst xs)=>.ok xs
 | _=>.bad
noncomputable def Om (gs:G (List R)):G (List D):=λenv=>gs env >>= λrs=>match rs with
 | [x,y]=>JQ x >>= λxs=>JQ y >>= λys=>.ok (List.zipWith (λa b=>.tup [a,b]) xs ys)
 | _=>.bad
theorem EM:bU X (.type "range") (λxs H Q=>∃j:Int,xs=[.int j]/\∀p,H p=none->Q (.ref p) (upd H p (.rng 0 j))):=by
 intro Qz s σ H xs us Q I r h
 obtain ⟨j,rfl,q⟩:=h
 obtain ⟨u,rfl,t,rfl⟩:=vals1 r
 refine call_range_1 ⟨.ref s.heap.objs.size,_,I.laid (λb o e=>QV _ e) (QY _) (show cg X.prog X.w _ _ _ (.rng 0 j) from ⟨_,_,_,Q7 _ rfl⟩),rfl,q _ (I.hok.fresh (QY _))⟩
noncomputable def k_ (n:Nat):List V:=(QU n).map λ(k:Nat)=>V.int k
theorem GC {n:Nat}{acc:Array QM}(h:ItemsOf (λi v=>∃t,v=.int (0 + (i:Int) * 1) t) acc n):Vals (k_ n) acc.toList:=by
 have key:∀(us:List QM) (i:Nat),(∀j v,us[j]?=some v->∃t:Tok,v=ZA ((i + j:Nat):Int) t)->Vals ((List.range' i us.length).map λ(k:Nat)=>V.int k) us:=by
  intro us
  induction us with
  | nil=>exact λi _=>.nil
  | cons u us ih=>
   intro i hj
   obtain ⟨t,e⟩:=hj 0 u rfl
   rw [Sh,List.range'_succ,Ra]
   refine .cons ⟨t,by rw [e];rfl⟩ (ih (i + 1) λj v hv=>?_)
   obtain ⟨t,e⟩:=hj (j + 1) v (by simpa using hv)
   exact ⟨t,by rw [e];congr 2;omega⟩
 have e:acc.toList.length=n:=by rw [Q3];exact h.1
 unfold k_
 rw [List.range_eq_range',<-e]
 refine key acc.toList 0 λj v hv=>?_
 obtain ⟨t,q⟩:=h.2 j v (by simpa using hv)
 exact ⟨t,by rw [q];congr 1;omega⟩
theorem vS (hc:X.calm=true):bU X (.type "list") (λxs H Q=>∃(p:Q4) (j:Int),xs=[.ref p]/\H p=some (.rng 0 j)/\-(2 ^ 24)<=j/\j<=2 ^ 24/\∀l,H l=none->Q (.ref l) (upd H l (.lst (k_ j.toNat)))):=by
 intro Qz s σ H xs us Q I r h
 obtain ⟨p,j,rfl,hp,h0,h1,q⟩:=h
 obtain ⟨u,rfl,rx⟩:=vals1 r
 cases rx
 obtain ⟨t,u,v,ho⟩:=I.hok p _ hp
 have hn:WX 0 j 1=(j.toNat:Int):=by rw [aaz];split <;> omega
 refine call_list_range (I.ok.hd hc) ho (small_one (by decide) (by decide) (by omega) (by omega)) hn (by omega) λh' tk acc' c' kp e hi=>?_
 have hv:=GC hi
 refine ⟨.ref s.heap.objs.size,_,I.laid kp (QY _) (show cg X.prog X.w _ h' _ (.lst (k_ j.toNat)) from ⟨?_,acc'.toList,c',hv,e⟩),rfl,q _ (I.hok.fresh (QY _))⟩
 unfold k_
 rw [QO,SD]
 show j.toNat<=2 ^ 24
 omega
noncomputable def GV (gs:G (List R)):G R:=λenv=>gs env >>= λrs=>match rs with
 | [.d (.int j)]=>if below 16777216 j then .ok (.l .fresh (eY 0 j.toNat)) else .bad
 | _=>.bad
theorem Gk {K:QK}{J:Hp}(n:Nat):aF K J (eY 0 n) (k_ n):=by
 unfold eY k_
 generalize QU n=ks
 induction ks with
 | nil=>exact .nil
 | cons k ks ih=>
  rw [Ra,Ra,Int.zero_add]
  exact .cons (.int _) ih
end
end DL
namespace DL
open PySem PySem.Spec PyProof.Rows L2 DX
section
variable {X:Cx}{c:C}{e a:Rz}{es:List Rz}{ga g:G R}{pos:Pos}{L:List Str}{T:Str->Bool}
theorem BZ {p p2 pos2:Pos}{gs:G (List R)}(ha:jt X c [a] gs) (hm:X.mg "range"=none) (hm2:X.mg "list"=none) (hc:X.calm=true:=by rfl) (hK:X.K=c.K:=by rfl) (hg:Gl X "range":=by rfl) (O_:Gl X "list":=by rfl)
  (hs:QZ [a] X.env=(false,eval a X.env)::QZ [] X.env:=by rfl) (hs0:(SV pos (QZ [] X.env)).any (·.1)=false:=by rfl) (hs2:QZ [abU (.Name "range" p) [a] [] pos] X.env=(false,eval (abU (.Name "range" p) [a] [] pos) X.env)::QZ [] X.env:=by rfl) (Qo:(SV pos2 (QZ [] X.env)).any (·.1)=false:=by rfl):
  QD X c (.Call (.Name "list" p2) [.Call (.Name "range" p) [a] [] pos] [] pos2) (GV gs):=by
 have ha:=ha.h
 refine ⟨?_⟩
 have h1:=lq (p:=p) (pos:=pos) EM hg hm boot_range ha (by decide) (by decide) hs hs0
 have h2:=lq (p:=p2) (pos:=pos2) (vS hc) O_ hm2 Bj (e_ h1 g9 hs2) (by decide) (by decide) hs2 Qo
 refine eV h2 λσ H Q ⟨J,env,sr,w⟩=>?_
 refine ⟨J,env,sr,aB (aH w) λrs wr vs J1 H1 e1 r1=>?_⟩
 split at wr
 ·rename_i j
  obtain ⟨v,rfl,r⟩:=r1.one
  cases r
  split at wr
  ·rename_i hb
   obtain ⟨b1,b2⟩:=dY.mp hb
   refine ⟨j,rfl,λq hq=>?_⟩
   refine ⟨q,j,rfl,b_,by omega,by omega,λl hl=>?_⟩
   have hp1:=sr.hp.ext e1
   have e2:=Ext.new hp1.sub hq (.rng 0 j)
   have hp2:=hp1.ext e2
   have hr:RR c H1 J1 (upd (upd H1 q (.rng 0 j)) l (.lst (k_ j.toNat))) (.l .fresh (eY 0 j.toNat)) (.ref l):=by
    obtain ⟨a,us,x1,x2,x3,x4,x5⟩:=iU (c:=c) hp2 hl (Gk j.toNat)
    exact ⟨a,us,x1,x2,x3,e2.h.free x4,x5⟩
   exact wr _ _ _ ((e1.trans e2).trans (Ext.new hp2.sub hl _)) (by
    obtain ⟨a,us,x1,x2,x3,x4,x5⟩:=hr
    exact ⟨a,us,x1,x2,x3,e1.h.free x4,x5⟩)
  ·exact wr.elim
 ·exact wr.elim
end
end DL
namespace DL
open PySem PySem.Spec PyProof.Rows L2
end DL
namespace DL
open PySem PySem.Spec PyProof.Rows L2 DX
open PySem.W (KasT kas_sort kas_ask)
noncomputable def isInt:D->Bool
 | .int _=>true
 | _=>false
noncomputable def qG (ds:List D):Bool:=decide (ds.length < 64) && ds.all isInt
theorem Ar {K:QK}{J:Hp}:∀{ds:List D}{vs:List V}{us:List QM},ds.all isInt=true->aF K J ds vs->Vals vs us->∃ns,U0 us ns
 | _,_,_,_,.nil,.nil=>⟨[],.nil⟩
 | d::ds,_,_,h,.cons r rs,.cons v vs=>by
  (rw [UI,QX] at h)
  obtain ⟨ns,hn⟩:=Ar h.2 rs vs
  cases d with
  | int i=>
   cases r
   obtain ⟨t,rfl⟩:=v
   exact ⟨i::ns,.cons i t hn⟩
  | _=>cases h.1
section
variable {X:Cx}{c:C}{e:Rz}{es:List Rz}{pos:Pos}
theorem xF:bU X (.builtin "sorted") (λxs H Q=>∃p vs ds,xs=[.ref p]/\cG X.K H p vs/\aF X.K H ds vs/\qG ds=true/\∀l vs',H l=none->(∀J,aF X.K J ds vs->aF X.K J (bw ds) vs')->Q (.ref l) (upd H l (.lst vs'))):=by
 intro Qz s σ H xs us Q I r h
 obtain ⟨p,vs,ds,rfl,hq,rs,ok,q⟩:=h
 obtain ⟨u,rfl,rx⟩:=vals1 r
 cases rx
 obtain ⟨QA,r',pl,hz⟩:=I.list hq
 have l1:vs.length=QA.length:=r'.length
 have l2:ds.length=vs.length:=rs.length
 have fr:H (s.heap.objs.size + 1)=none:=I.hok.fresh (SN _)
 have fin:∀(out:List QM) (vs':List V),vs'.length=vs.length->Vals vs' out->(∀J,aF X.K J ds vs->aF X.K J (bw ds) vs')->∃v H',Inv X Qz σ H' {s with heap:=YH s.heap QA out.toArray}/\RelV v (.ref (s.heap.objs.size + 1))/\Q v H':=λout vs' lv rv rr=>by
  obtain ⟨n,hn⟩:=Zh s.heap QA out.toArray
  exact ⟨.ref (s.heap.objs.size + 1),_,I.laid (t':=s.toks) (λb o e=>YI e) (SN _) (show cg X.prog X.w _ _ _ (.lst vs') from ⟨by rw [lv];exact hz,out,n,rv,by simpa [Ti] using hn⟩),rfl,q _ vs' fr rr⟩
 unfold qG at ok
 rw [QX] at ok
 obtain ⟨o1,o2⟩:=ok
 have o1:=of_decide_eq_true o1
 by_cases h2:ds.length < 2
 ·refine AL pl.isList (by omega) (fin QA vs rfl r' ?_)
  intro J rj
  unfold bw
  rw [if_pos h2]
  exact rj
 ·have ib:∀i∈(aY (ltB ds) (Tq ds.length)).toList,i < ds.length:=λi hi=>by
   have:=((eH (n:=ds.length) (by omega)).run (ltB ds):eF _ _)
   have:=(TU this).mp (UQ.mp hi)
   simpa using this
  obtain ⟨ns,hI⟩:=Ar o2 rs r'
  refine AM (κ:=aaM) (q:=ltB ds) pl.isList (by omega) (by omega) (λh' C kp cc=>?_) (λh' kp i j C hi hj cc=>?_) ?_
  ·have hl:2<=QA.length:=by omega
   clear fin l1 r' pl
   match QA,hI,hl with
   | v1::v2::r,hI,_=>rw [keyKind_ints hI];exact QL cc
  ·have hi':i < ds.length:=by omega
   have hj':j < ds.length:=by omega
   have ai:=RJ.mp o2 _ (eB hi')
   have aj:=RJ.mp o2 _ (eB hj')
   have r1:=eS rs hi'
   have r2:=eS rs hj'
   have v1:=eU r' (i:=i) (by omega)
   have v2:=eU r' (i:=j) (by omega)
   show Rg _ _ (keyLt' aaM (QA.getD i RN) (QA.getD j RN)) _ _ _
   rw [aaa]
   have e:ltB ds i j=(dM (cP ds i) (cP ds j)).getD false:=rfl
   rw [e] at cc
   generalize cP ds i=di at ai r1 cc
   generalize cP ds j=dj at aj r2 cc
   generalize vs.getD i V.non=wi at r1 v1
   generalize vs.getD j V.non=wj at r2 v2
   cases di with
   | int a=>
    cases dj with
    | int b=>
     cases r1;cases r2
     obtain ⟨t1,q1⟩:=v1
     obtain ⟨t2,q2⟩:=v2
     rw [q1,q2]
     refine aa6 ?_
     unfold dM at cc
     exact cc
    | _=>cases aj
   | _=>cases ai
  ·have e1:iw (ltB ds) QA=(aY (ltB ds) (Tq ds.length)).toList.map λi=>QA.getD i RN:=by unfold iw;rw [l2,l1]
   rw [e1]
   refine fin _ _ ?_ (ng r' _ λi hi=>l2▸ib i hi) ?_
   ·rw [QO,<-l2]
    have:=((eH (n:=ds.length) (by omega)).run (ltB ds):eF _ _).size_eq
    simpa using this
   ·intro J rj
    unfold bw
    rw [if_neg h2]
    exact mY rj _ ib
noncomputable def mF:List R->M R
 | [r]=>jI r >>= λxs=>if yt xs=true then .ok (.l .fresh (bw xs)) else if qG xs=true then .ok (.l .fresh (bw xs)) else .bad
 | _=>.bad
theorem bU.or {f:QM}{r1 r2:List V->Hp->VK->Prop}(h1:bU X f r1) (h2:bU X f r2):bU X f (λxs H Q=>r1 xs H Q\/r2 xs H Q):=λQz s σ H xs us Q I rv h=>h.elim (h1 Qz s σ H xs us Q I rv) (h2 Qz s σ H xs us Q I rv)
theorem vp {p:Pos}{gs:G (List R)}(hu:X.A.units + 64 < Sy) (ha:jt X c (e::es) gs) (hm:X.mg "sorted"=none) (hK:X.K=c.K:=by rfl) (hg:Gl X "sorted":=by rfl)
  (he:QZ (e::es) X.env=(false,eval e X.env)::QZ es X.env:=by rfl) (hpl:(SV pos (QZ es X.env)).any (·.1)=false:=by rfl):QD X c (.Call (.Name "sorted" p) (e::es) [] pos) (gN mF gs):=have ha:=ha.h;⟨
 jh (bU.or (xH hu) xF) (by
  intro He J H xs vs Q hp rs w
  unfold mF at w
  split at w
  ·obtain ⟨v,rfl,r⟩:=rs.one
   obtain ⟨xs,q,w⟩:=nh w
   obtain ⟨p,vs,rfl,h1,h2⟩:=RR.list hp r q
   rw [hK]
   split at w
   ·rename_i ok
    exact .inl ⟨p,vs,xs,rfl,h1,h2.mono hp.sub,ok,λl vs' hl rr=>w _ _ _ (Ext.new hp.sub hl _) (iU hp hl (rr _ h2))⟩
   ·split at w
    ·rename_i ok
     exact .inr ⟨p,vs,xs,rfl,h1,h2.mono hp.sub,ok,λl vs' hl rr=>w _ _ _ (Ext.new hp.sub hl _) (iU hp hl (rr _ h2))⟩
    ·exact w.elim
  ·exact w.elim) j3 hm ha hg (by decide) (by decide) he hpl⟩
end
end DL
namespace DL
open PySem PySem.Spec PyProof.Rows L2 DX
section
variable {X:Cx}{c:C}{e:Rz}{es:List Rz}{pos:Pos}
theorem any_range (ks:List Bool):(QU ks.length).any (λi=>ks.getD i false)=ks.any id:=by
 induction ks with
 | nil=>rfl
 | cons k r ih=>
  rw [Sh,Vu,V0,Wo,V0]
  simp only [Yk]
  rw [<-ih]
  rfl
theorem CN (hc:X.calm=true):bU X (.builtin "any") (λxs H Q=>∃(p:Q4) (ks:List Bool),xs=[.ref p]/\cG X.K H p (ks.map V.bl)/\Q (.bl (ks.any id)) H):=by
 intro Qz s σ H xs us Q I r h
 obtain ⟨p,ks,rfl,hq,q⟩:=h
 obtain ⟨u,rfl,rx⟩:=vals1 r
 cases rx
 obtain ⟨QA,r',pl,hz⟩:=I.list hq
 have hi:=rA r'
 subst hi
 have PM:p≠s.heap.objs.size:=by
  obtain ⟨o,h1,_⟩:=pl.isList
  exact Rn (Q8 h1)
 refine call_any_walk (WH pl.isList ⟨s.heap.objs.size,_,_,_,_,_,(λi=>ks.getD i false),rfl,abJ (A:=X.A.in1) (show X.A.in1.handled=none from I.ok.hd hc) s.heap.objs.size p PM (ks.map Ua).toArray,⟨⟨_,Q7 _ rfl,rfl,rfl⟩,Zu pl.isList _⟩,?_,λh' tk k=>?_⟩)
 ·intro i v s' Q' E' hP hQ
  have e:∃k,ks[i]?=some k/\v=.bool k:=by
   have hP':(ks.map Ua)[i]?=some v:=by simpa using hP
   rw [Rj] at hP'
   cases z:ks[i]? with
   | none=>rw [z] at hP';cases hP'
   | some k=>rw [z] at hP';cases hP';exact ⟨k,rfl,rfl⟩
  obtain ⟨k,e1,rfl⟩:=e
  simp only at hQ
  rw [RH,e1] at hQ
  exact R6 hQ
 ·have sz:(ks.map Ua).toArray.size=ks.length:=by simp
  rw [sz,any_range]
  refine ⟨.bl (ks.any id),H,?_,rfl,q⟩
  refine I.kept λb o e=>k b o (λz=>?_) (QV _ e)
  have:b=s.heap.objs.size:=by simpa using z
  exact absurd (this▸Q8 e) (SJ _)
noncomputable def xU:List R->M R
 | [r]=>jI r >>= λxs=>match jm xs with
  | some ks=>.ok (.d (.bl (ks.any id)))
  | none=>.bad
 | _=>.bad
theorem CK:R1 "any"=some (.builtin "any"):=by decide +kernel
theorem IU {p:Pos}{gs:G (List R)}(ha:jt X c (e::es) gs) (hm:X.mg "any"=none) (hK:X.K=c.K:=by rfl) (hc:X.calm=true:=by rfl) (hg:Gl X "any":=by rfl)
  (he:QZ (e::es) X.env=(false,eval e X.env)::QZ es X.env:=by rfl) (hpl:(SV pos (QZ es X.env)).any (·.1)=false:=by rfl):QD X c (.Call (.Name "any" p) (e::es) [] pos) (gN xU gs):=have ha:=ha.h;⟨
 jh (CN hc) (by
  intro He J H xs vs Q hp rs w
  unfold xU at w
  split at w
  ·obtain ⟨v,rfl,r⟩:=rs.one
   obtain ⟨xs,q,w⟩:=nh w
   obtain ⟨p,vs,rfl,h1,h2⟩:=RR.list hp r q
   split at w
   ·rename_i ks z
    have:=oG z h2
    subst this
    exact ⟨p,ks,rfl,by rw [hK];exact h1,w _ J H (Ext.refl hp.sub) (.bl _)⟩
   ·exact w.elim
  ·exact w.elim) CK hm ha hg (by decide) (by decide) he hpl⟩
end
end DL
namespace ST
open PySem PySem.SetTable
theorem uu (xs:Array Nat) (j:Nat) (hs:xs.toList.Pairwise (· < ·)):∀(f lo hi:Nat),hi<=xs.size->lo<=hi->hi - lo<=f->(∀i,i < lo->xs.getD i 0 < j)->(∀i,hi<=i->i < xs.size->j<=xs.getD i 0)->
  below.go xs j f lo hi<=xs.size/\(∀i,i < below.go xs j f lo hi->xs.getD i 0 < j)/\∀i,below.go xs j f lo hi<=i->i < xs.size->j<=xs.getD i 0
 | 0,lo,hi,h1,h2,h3,h4,h5=>by
  have:lo=hi:=by omega
  subst this
  exact ⟨h1,h4,h5⟩
 | f + 1,lo,hi,h1,h2,h3,h4,h5=>by
  have mono:∀a b,a<=b->b < xs.size->xs.getD a 0<=xs.getD b 0:=λa b hab hb=>by
   rcases YL hab with h | h
   ·have:=Sq.mp hs a b (by simpa using U7 h hb) (by simpa using hb) h
    simp [S0,U7 h hb,hb] at this ⊢
    omega
   ·rw [h];exact QY _
  unfold below.go
  by_cases c:lo < hi
  ·rw [if_pos c]
   have hm:(lo + hi) / 2 < xs.size:=by omega
   have e:xs.getD ((lo + hi) / 2) j=xs.getD ((lo + hi) / 2) 0:=by simp [S0,hm]
   by_cases d:xs.getD ((lo + hi) / 2) j < j
   ·simp only [d,if_true]
    rw [e] at d
    exact uu xs j hs f _ hi h1 (by omega) (by omega) (λi hi'=>YJ (mono i ((lo + hi) / 2) (by omega) hm) d) h5
   ·simp only [d,if_false]
    rw [e] at d
    exact uu xs j hs f lo _ (by omega) (by omega) (by omega) h4 (λi hi' hs'=>RE (by omega) (mono ((lo + hi) / 2) i hi' hs'))
  ·rw [if_neg c]
   have:lo=hi:=by omega
   subst this
   exact ⟨h1,h4,h5⟩
theorem nt (xs:Array Nat) (j:Nat) (hs:xs.toList.Pairwise (· < ·)):below xs j<=xs.size/\(∀i,i < below xs j->xs.getD i 0 < j)/\∀i,below xs j<=i->i < xs.size->j<=xs.getD i 0:=
 uu xs j hs xs.size 0 xs.size (QY _) (RA _) (by omega) (λi h=>absurd h (RZ _)) (λi h1 h2=>by omega)
theorem below_at {xs:Array Nat}{i j:Nat}(hs:xs.toList.Pairwise (· < ·)) (h:xs[i]?=some j):below xs j=i:=by
 obtain ⟨hi,e⟩:=R3.mp h
 obtain ⟨b1,b2,b3⟩:=nt xs j hs
 have g:xs.getD i 0=j:=by simp [S0,hi,e]
 rcases UJ (below xs j) i with c | c | c
 ·have h1:=b3 (below xs j) (QY _) (by omega)
  have:=Sq.mp hs (below xs j) i (by simpa using U7 c hi) (by simpa using hi) c
  simp [S0,U7 c hi] at h1
  simp at this
  omega
 ·exact c
 ·have:=b2 i c
  omega
theorem pG {t:RX}{i j:Nat}(hs:t.place.toList.Pairwise (· < ·)) (h:t.place[i]?=some j):t.slot j=.live i:=by
 unfold slot
 rw [below_at hs h]
 show (if (t.place[i]? == some j)=true then Slot.live i else _)=_
 rw [h]
 simp
theorem tL {t:RX}{j:Nat}(hd:t.dummies=#[]) (h:j∉t.place.toList):t.slot j=.empty:=by
 unfold slot
 have h1:(t.place[below t.place j]? == some j)=false:=by
  rw [beq_eq_false_iff_ne]
  intro z
  exact h (by
   obtain ⟨hi,e⟩:=R3.mp z
   rw [<-e]
   simp)
 have h2:has t.dummies j=false:=by rw [hd];rfl
 simp only [h1,h2,Rf,if_false]
noncomputable def st (mask:Nat) (h:Int):Nat->Probe
 | 0=>({mask:=mask,place:=#[],dummies:=#[],finger:=0,led:=true,moves:=0,plain:=true}:RX).probeStart h
 | n + 1=>({mask:=mask,place:=#[],dummies:=#[],finger:=0,led:=true,moves:=0,plain:=true}:RX).advance (st mask h n)
noncomputable abbrev pos (mask:Nat) (h:Int) (n:Nat):Nat:=(st mask h n).j
theorem nY (mask:Nat) (h:Int):∀n,(st mask h n).dummy=none
 | 0=>rfl
 | n + 1=>by
  unfold st advance
  split
  ·exact nY mask h n
  ·exact nY mask h n
noncomputable def tn (mask:Nat) (h:Int):Nat->Nat×Nat
 | 0=>(bits h % (mask + 1),bits h)
 | k + 1=>leap mask (tn mask h k).1 (tn mask h k).2
theorem vD (mask:Nat) (h:Int):∀(m n:Nat) (i p j:Nat),st mask h n={j:=j,more:=m,i:=i,perturb:=p,dummy:=none}->st mask h (n + m)={j:=j + m,more:=0,i:=i,perturb:=p,dummy:=none}
 | 0,n,i,p,j,e=>e
 | m + 1,n,i,p,j,e=>by
  have e1:st mask h (n + 1)={j:=j + 1,more:=m,i:=i,perturb:=p,dummy:=none}:=by
   show advance _ (st mask h n)=_
   rw [e]
   unfold advance
   simp
  have:=vD mask h m (n + 1) i p (j + 1) e1
  rw [show n + (m + 1)=n + 1 + m by omega,this]
  congr 1;omega
theorem AR (mask:Nat) (h:Int):∀k,∃n,n<=10 * k/\st mask h n={j:=(tn mask h k).1,more:=runEnd mask (tn mask h k).1 - (tn mask h k).1,i:=(tn mask h k).1,perturb:=(tn mask h k).2,dummy:=none}
 | 0=>⟨0,QY _,rfl⟩
 | k + 1=>by
  obtain ⟨n,hn,e⟩:=AR mask h k
  have hm:runEnd mask (tn mask h k).1 - (tn mask h k).1<=9:=by unfold runEnd;split <;> omega
  have:=vD mask h _ n _ _ _ e
  refine ⟨n + (runEnd mask (tn mask h k).1 - (tn mask h k).1) + 1,by omega,?_⟩
  show advance _ (st mask h (n + (runEnd mask (tn mask h k).1 - (tn mask h k).1)))=_
  rw [this]
  unfold advance
  simp
  exact ⟨rfl,rfl,rfl,rfl⟩
theorem tP (mask:Nat) (h:Int):∀k,(tn mask h k).2=bits h / 32 ^ k
 | 0=>by simp [tn]
 | k + 1=>by
  show (tn mask h k).2 / 32=_
  rw [tP mask h k,Xl,Zm]
theorem HA (h:Int):bits h < 2 ^ 64:=by
 unfold bits
 have:=SO h (b:=2 ^ 64) (by decide)
 omega
noncomputable def DC (mask i:Nat):Nat:=(i * 5 + 1) % (mask + 1)
noncomputable def gY (mask:Nat):Nat->Nat->Nat
 | 0,i=>i
 | r + 1,i=>DC mask (gY mask r i)
theorem yZ (mask:Nat) (h:Int):∀r,(tn mask h (12 + r)).1=gY mask r (tn mask h 12).1
 | 0=>rfl
 | r + 1=>by
  show (leap mask (tn mask h (12 + r)).1 (tn mask h (12 + r)).2).1=DC mask (gY mask r (tn mask h 12).1)
  rw [<-yZ mask h r,tP]
  unfold leap DC
  have:bits h / 32 ^ (12 + r) / 32=0:=by
   rw [Xl,<-Zm]
   refine Nat.div_eq_of_lt (Rl (HA h) ?_)
   refine RE (show 2 ^ 64<=32 ^ 13 by decide) (UR (by decide) (by omega))
  rw [this]
theorem Nn:∀i:Fin 8,∀j:Fin 8,(QU 8).any (λr=>gY 7 r i.val == j.val)=true:=by decide +kernel
theorem Mh:∀i:Fin 32,∀j:Fin 32,(QU 32).any (λr=>gY 31 r i.val == j.val)=true:=by decide +kernel
noncomputable def JY:List Nat:=(QU 128).map λr=>gY 127 r 0
theorem Ah:∀j:Fin 128,JY.contains j.val=true:=by decide +kernel
theorem HD:gY 127 128 0=0:=by decide +kernel
theorem nG (mask:Nat):∀a b i,gY mask (a + b) i=gY mask a (gY mask b i)
 | 0,b,i=>by rw [Zn];rfl
 | a + 1,b,i=>by
  rw [show a + 1 + b=(a + b) + 1 by omega]
  show DC mask (gY mask (a + b) i)=DC mask (gY mask a (gY mask b i))
  rw [nG mask a b i]
noncomputable def kR (mask:Nat):Prop:=mask=7\/mask=31\/mask=127
theorem Df {mask:Nat}(hm:kR mask) (i j:Nat) (hi:i<=mask) (hj:j<=mask):∃r,r<=mask/\gY mask r i=j:=by
 rcases hm with rfl | rfl | rfl
 ·have:=Nn ⟨i,by omega⟩ ⟨j,by omega⟩
  rw [Tf] at this
  obtain ⟨r,h1,h2⟩:=this
  exact ⟨r,by have:=Ri.mp h1;omega,by simpa using h2⟩
 ·have:=Mh ⟨i,by omega⟩ ⟨j,by omega⟩
  rw [Tf] at this
  obtain ⟨r,h1,h2⟩:=this
  exact ⟨r,by have:=Ri.mp h1;omega,by simpa using h2⟩
 ·have hi':=Ah ⟨i,by omega⟩
  have hj':=Ah ⟨j,by omega⟩
  rw [List.contains_iff_mem] at hi' hj'
  obtain ⟨a,ha,ea⟩:=QT.mp hi'
  obtain ⟨b,hb,eb⟩:=QT.mp hj'
  have ha:=Ri.mp ha
  have hb:=Ri.mp hb
  have ea:gY 127 a 0=i:=ea
  have eb:gY 127 b 0=j:=eb
  by_cases c:a<=b
  ·refine ⟨b - a,by omega,?_⟩
   rw [<-ea,<-nG,show b - a + a=b by omega]
   exact eb
  ·refine ⟨128 + b - a,by omega,?_⟩
   rw [<-ea,<-nG,show 128 + b - a + a=b + 128 by omega,nG,HD]
   exact eb
theorem Ck (mask:Nat) (h:Int) (k:Nat):(tn mask h k).1<=mask:=by
 cases k with
 | zero=>exact VB (WL _ (by omega))
 | succ k=>exact VB (WL _ (by omega))
theorem visits {mask:Nat}(hm:kR mask) (h:Int) (j:Nat) (hj:j<=mask):∃n,n<=10 * (mask + 12)/\pos mask h n=j:=by
 obtain ⟨r,hr,e⟩:=Df hm (tn mask h 12).1 j (Ck mask h 12) hj
 obtain ⟨n,hn,q⟩:=AR mask h (12 + r)
 refine ⟨n,by omega,?_⟩
 show (st mask h n).j=j
 rw [q]
 show (tn mask h (12 + r)).1=j
 rw [yZ,e]
theorem sf {mask:Nat}(hm:kR mask) (h:Int) (P:List Nat) (hP:P.length<=mask):∃n,n<=10 * (mask + 12)/\pos mask h n∉P/\∀m,m < n->pos mask h m∈P:=by
 have ex:∃j,j<=mask/\j∉P:=by
  by_cases c:∀j,j<=mask->j∈P
  ·exfalso
   have:(QU (mask + 1)).length<=P.length:=Rp Tg λj hj=>c j (by have:=Ri.mp hj;omega)
   rw [SD] at this
   omega
  ·exact Ss λz=>c λj hj=>Ss λy=>z ⟨j,hj,y⟩
 obtain ⟨j,hj,hn⟩:=ex
 obtain ⟨n,hn1,hn2⟩:=visits hm h j hj
 have key:∀k,k<=n->(∃m,m<=k/\pos mask h m∉P/\∀m',m' < m->pos mask h m'∈P)\/∀m,m<=k->pos mask h m∈P:=by
  intro k
  induction k with
  | zero=>
   intro _
   by_cases c:pos mask h 0∈P
   ·exact .inr λm hm=>by rw [show m=0 by omega];exact c
   ·exact .inl ⟨0,QY _,c,λm' h'=>absurd h' (RZ _)⟩
  | succ k ih=>
   intro hk
   rcases ih (by omega) with ⟨m,h1,h2⟩ | h1
   ·exact .inl ⟨m,by omega,h2⟩
   ·by_cases c:pos mask h (k + 1)∈P
    ·exact .inr λm hm=>by
      by_cases d:m<=k
      ·exact h1 m d
      ·rw [show m=k + 1 by omega];exact c
    ·exact .inl ⟨k + 1,QY _,c,λm' h'=>h1 m' (by omega)⟩
 rcases key n (QY _) with ⟨m,h1,h2,h3⟩ | h1
 ·exact ⟨m,by omega,h2,h3⟩
 ·exact absurd (h1 n (QY _)) (by rw [hn2];exact hn)
noncomputable def Reach (mask:Nat) (P:List Nat) (h:Int) (j:Nat):Prop:=∃n,pos mask h n=j/\∀m,m < n->pos mask h m∈P
theorem Reach.mono {mask:Nat}{P P':List Nat}{h:Int}{j:Nat}(r:Reach mask P h j) (s:∀x∈P,x∈P'):Reach mask P' h j:=
 let ⟨n,h1,h2⟩:=r;⟨n,h1,λm hm=>s _ (h2 m hm)⟩
structure Tab (t:RX) (es:Array (Int×QM)) (L:List (Nat×Int×QM)):Prop where
 dm:t.dummies=#[]
 pl:t.place.toList=L.map (·.1)
 en:es.toList=L.map (·.2)
 so:(L.map (·.1)).Pairwise (· < ·)
 bd:∀e∈L,e.1<=t.mask
 mo:kR t.mask
 fl:L.length<=t.mask
 pr:∀e∈L,Reach t.mask (L.map (·.1)) e.2.1 e.1
section
variable {t:RX}{es:Array (Int×QM)}{L:List (Nat×Int×QM)}
theorem Tab.at_ (T:Tab t es L){i:Nat}{e:Nat×Int×QM}(h:L[i]?=some e):t.place[i]?=some e.1/\es[i]?=some e.2:=by
 constructor
 ·rw [<-Se,T.pl,Rj,h];rfl
 ·rw [<-Se,T.en,Rj,h];rfl
theorem Tab.sop (T:Tab t es L):t.place.toList.Pairwise (· < ·):=by rw [T.pl];exact T.so
theorem yw (T:Tab t es L) (hashAt:Nat->Int) (hA:∀i e,es[i]?=some e->hashAt i=e.1) (h:Int) (n0:Nat) (hf:pos t.mask h n0∉L.map (·.1)) (hb:∀m,m < n0->pos t.mask h m∈L.map (·.1)):
  ∀(d n F:Nat),n0 - n=d->n<=n0->d < F->∃m,n<=m/\m<=n0/\(∀k,n<=k->k < m->∀e∈L,e.1=pos t.mask h k->e.2.1≠h)/\
   ((m=n0/\probe.go t hashAt h F (st t.mask h n)=some (.empty (pos t.mask h n0) none))\/(m < n0/\∃i e,L[i]?=some e/\e.1=pos t.mask h m/\e.2.1=h/\probe.go t hashAt h F (st t.mask h n)=some (.candidate (pos t.mask h m) i (st t.mask h (m + 1)))))
 | d,n,0,_,_,h=>absurd h (RZ _)
 | d,n,F + 1,hd,hn,hF=>by
  by_cases c:n=n0
  ·subst c
   refine ⟨n,QY _,QY _,λk h1 h2=>by omega,.inl ⟨rfl,?_⟩⟩
   unfold probe.go
   rw [tL T.dm (by rw [T.pl];exact hf)]
   show some (Met.empty _ (st t.mask h n).dummy)=_
   rw [nY]
  ·obtain ⟨e,he,ej⟩:=QT.mp (hb n (by omega))
   obtain ⟨i,hi,rfl⟩:=Tj.mp he
   have hL:L[i]?=some L[i]:=Q5 hi
   obtain ⟨p1,p2⟩:=T.at_ hL
   have hs:t.slot (pos t.mask h n)=.live i:=pG T.sop (by rw [p1,ej])
   have hh:=hA i _ p2
   have uniq:∀e∈L,e.1=pos t.mask h n->e=L[i]:=λe he q=>by
    obtain ⟨k,hk,rfl⟩:=Tj.mp he
    have:k=i:=by
     have sw:=Sq.mp T.so
     rcases UJ k i with c | c | c
     ·have:=sw k i (by simpa using hk) (by simpa using hi) c
      simp at this
      omega
     ·exact c
     ·have:=sw i k (by simpa using hi) (by simpa using hk) c
      simp at this
      omega
    subst this;rfl
   by_cases q:L[i].2.1=h
   ·refine ⟨n,QY _,by omega,λk h1 h2=>by omega,.inr ⟨by omega,i,L[i],hL,ej,q,?_⟩⟩
    unfold probe.go
    rw [hs]
    show (if (hashAt i == h)=true then _ else _)=_
    rw [hh,q,if_pos (by simp)]
    rfl
   ·obtain ⟨m,m1,m2,m3,m4⟩:=yw T hashAt hA h n0 hf hb (n0 - (n + 1)) (n + 1) F rfl (by omega) (by omega)
    have eg:probe.go t hashAt h (F + 1) (st t.mask h n)=probe.go t hashAt h F (st t.mask h (n + 1)):=by
     rw [probe.go,hs]
     show (if (hashAt i == h)=true then _ else _)=_
     rw [hh,if_neg (by simpa using q)]
     rfl
    rw [eg]
    refine ⟨m,by omega,m2,λk h1 h2 e he' ek=>?_,m4⟩
    by_cases z:k=n
    ·subst z
     rw [uniq e he' ek];exact q
    ·exact m3 k (by omega) h2 e he' ek
theorem n9 {α:Type}(xs:Array α) (p:Nat) (x:α) (hp:p<=xs.size):(insertAt xs p x).toList=xs.toList.take p++x::xs.toList.drop p:=by
 unfold insertAt
 simp
 (exact Xm (by simp))
theorem Tab.put (T:Tab t es L) (h:Int) (x:QM) (n0:Nat) (hf:pos t.mask h n0∉L.map (·.1)) (hb:∀m,m < n0->pos t.mask h m∈L.map (·.1)) (hj:pos t.mask h n0<=t.mask) (hl:L.length + 1<=t.mask):
  ∃L',Tab (t.put (pos t.mask h n0)).1 (insertAt es (t.put (pos t.mask h n0)).2 (h,x)) L'/\L'.Perm ((pos t.mask h n0,h,x)::L):=by
 obtain ⟨b1,b2,b3⟩:=nt t.place (pos t.mask h n0) T.sop
 generalize hp:below t.place (pos t.mask h n0)=p at b1 b2 b3
 have hsz:t.place.size=L.length:=by rw [<-Q3,T.pl,QO]
 have hes:es.size=L.length:=by rw [<-Q3,T.en,QO]
 have perm:(L.take p++(pos t.mask h n0,h,x)::L.drop p).Perm ((pos t.mask h n0,h,x)::L):=by
  have:=Xf (a:=(pos t.mask h n0,h,x)) (l₁:=L.take p) (l₂:=L.drop p)
  rwa [UC] at this
 have e1:(t.put (pos t.mask h n0))=({t with place:=insertAt t.place p (pos t.mask h n0),dummies:=#[]},p):=by
  unfold SetTable.put
  rw [hp,T.dm]
  rfl
 rw [e1]
 have getP:∀i (hi:i < L.length),t.place.getD i 0=L[i].1:=λi hi=>by
  have:=(T.at_ (Q5 hi)).1
  have hi':i < t.place.size:=by omega
  simp [S0,hi']
  rw [T7 hi'] at this
  exact R4 this
 refine ⟨L.take p++(pos t.mask h n0,h,x)::L.drop p,⟨rfl,?_,?_,?_,λe he=>?_,T.mo,?_,λe he=>?_⟩,perm⟩
 ·show (insertAt t.place p (pos t.mask h n0)).toList=_
  rw [n9 _ _ _ b1,T.pl]
  simp [UK,Vl]
 ·show (insertAt es p (h,x)).toList=_
  rw [n9 _ _ _ (by omega),T.en]
  simp [UK,Vl]
 ·rw [Ro,Ra,T_]
  refine ⟨?_,?_,?_⟩
  ·rw [UK]
   exact T.so.sublist (YW _ _)
  ·rw [Uz]
   refine ⟨λa ha=>?_,?_⟩
   ·obtain ⟨e,he,rfl⟩:=QT.mp ha
    obtain ⟨i,hi,rfl⟩:=Tj.mp he
    rw [Y9]
    rw [Ur] at hi
    have:=b3 (p + i) (by omega) (by omega)
    rw [getP _ (by omega)] at this
    rcases YL this with c | c
    ·exact c
    ·exact absurd (QT.mpr ⟨L[p + i],Si _,c.symm⟩) hf
   ·rw [Vl]
    exact T.so.sublist (List.drop_sublist _ _)
  ·intro a ha b hb
   obtain ⟨e,he,rfl⟩:=QT.mp ha
   obtain ⟨i,hi,rfl⟩:=Tj.mp he
   rw [List.getElem_take]
   rw [Uq] at hi
   have h1:=b2 i (by omega)
   rw [getP _ (by omega)] at h1
   (rcases Rc.mp hb with rfl | hb)
   ·exact h1
   ·obtain ⟨e,he,rfl⟩:=QT.mp hb
    obtain ⟨k,hk,rfl⟩:=Tj.mp he
    rw [Y9]
    rw [Ur] at hk
    have:=b3 (p + k) (by omega) (by omega)
    rw [getP _ (by omega)] at this
    omega
 ·rcases Rc.mp (perm.mem_iff.mp he) with rfl | he
  ·exact hj
  ·exact T.bd e he
 ·rw [perm.length_eq];exact hl
 ·have sub:∀y∈L.map (·.1),y∈(L.take p++(pos t.mask h n0,h,x)::L.drop p).map (·.1):=λy hy=>by
   obtain ⟨e,he,rfl⟩:=QT.mp hy
   exact QT.mpr ⟨e,perm.mem_iff.mpr (QS _ he),rfl⟩
  rcases Rc.mp (perm.mem_iff.mp he) with rfl | he
  ·exact ⟨n0,rfl,λm hm=>sub _ (hb m hm)⟩
  ·exact (T.pr e he).mono sub
end
theorem m9 (mask:Nat) (h:Int) (n i p m:Nat) (e:st mask h n={j:=i,more:=m,i:=i,perturb:=p,dummy:=none}):∀r,r<=m->st mask h (n + r)={j:=i + r,more:=m - r,i:=i,perturb:=p,dummy:=none}
 | 0,_=>e
 | r + 1,hr=>by
  show advance _ (st mask h (n + r))=_
  rw [m9 mask h n i p m e r (by omega)]
  unfold advance
  rw [if_pos (by show m - r > 0;omega)]
  show Probe.mk _ _ _ _ _=_
  congr 1
theorem Ep (mask:Nat) (h:Int) (k n:Nat) (e:st mask h n={j:=(tn mask h k).1,more:=runEnd mask (tn mask h k).1 - (tn mask h k).1,i:=(tn mask h k).1,perturb:=(tn mask h k).2,dummy:=none}):
  st mask h (n + (runEnd mask (tn mask h k).1 - (tn mask h k).1) + 1)={j:=(tn mask h (k + 1)).1,more:=runEnd mask (tn mask h (k + 1)).1 - (tn mask h (k + 1)).1,i:=(tn mask h (k + 1)).1,perturb:=(tn mask h (k + 1)).2,dummy:=none}:=by
 show advance _ (st mask h (n + (runEnd mask (tn mask h k).1 - (tn mask h k).1)))=_
 rw [m9 mask h n _ _ _ e _ (QY _)]
 unfold advance
 simp
 exact ⟨rfl,rfl,rfl,rfl⟩
theorem uV (mask:Nat) (h:Int) (owner:Array (Option Nat)) (G:List Nat) (ho:∀j,j<=mask->((owner.getD j (some 0)).isNone=true↔j∉G)):
  ∀(f k n:Nat),st mask h n={j:=(tn mask h k).1,more:=runEnd mask (tn mask h k).1 - (tn mask h k).1,i:=(tn mask h k).1,perturb:=(tn mask h k).2,dummy:=none}->(∀m,m < n->pos mask h m∈G)->
   (∃n',layClean.free mask owner f (tn mask h k).1 (tn mask h k).2=some (pos mask h n')/\pos mask h n'<=mask/\pos mask h n'∉G/\∀m,m < n'->pos mask h m∈G)\/(layClean.free mask owner f (tn mask h k).1 (tn mask h k).2=none/\∀r,r < f->(tn mask h (k + r)).1∈G)
 | 0,k,n,e,hb=>.inr ⟨rfl,λr hr=>absurd hr (RZ _)⟩
 | f + 1,k,n,e,hb=>by
  have hi:=Ck mask h k
  have re:runEnd mask (tn mask h k).1<=mask/\(tn mask h k).1<=runEnd mask (tn mask h k).1:=by unfold runEnd;split <;> omega
  unfold layClean.free
  cases q:(QU (runEnd mask (tn mask h k).1 + 1 - (tn mask h k).1)).find? λr=>(owner.getD ((tn mask h k).1 + r) (some 0)).isNone with
  | some r=>
   have h1:=List.find?_some q
   have h2:=Ri.mp (List.mem_of_find?_eq_some q)
   have h3:pos mask h (n + r)=(tn mask h k).1 + r:=by
    show (st mask h (n + r)).j=_
    rw [m9 mask h n _ _ _ e r (by omega)]
   refine .inl ⟨n + r,?_,?_,?_,?_⟩
   ·show some _=_
    rw [h3]
   ·rw [h3];omega
   ·rw [h3];exact (ho _ (by omega)).mp h1
   ·intro m hm
    by_cases c:m < n
    ·exact hb m c
    ·obtain ⟨s,rfl⟩:∃s,m=n + s:=⟨m - n,by omega⟩
     have h4:pos mask h (n + s)=(tn mask h k).1 + s:=by
      show (st mask h (n + s)).j=_
      rw [m9 mask h n _ _ _ e s (by omega)]
     rw [h4]
     refine Ss λz=>?_
     have z':=(ho ((tn mask h k).1 + s) (by omega)).mpr z
     rw [List.find?_eq_some_iff_append] at q
     obtain ⟨_,as,bs,eq,hall⟩:=q
     have hs:s∈as:=by
      have hlen:as.length=r:=by
       have hl:as.length < (QU (runEnd mask (tn mask h k).1 + 1 - (tn mask h k).1)).length:=by rw [eq];simp
       have e3:(QU (runEnd mask (tn mask h k).1 + 1 - (tn mask h k).1))[as.length]?=some r:=by rw [eq];simp
       rw [SD] at hl
       rw [Ui hl] at e3
       exact R4 e3
      have e4:(QU (runEnd mask (tn mask h k).1 + 1 - (tn mask h k).1))[s]?=some s:=Ui (by omega)
      rw [eq,S6 (by omega)] at e4
      exact Sm e4
     have:=hall s hs
     rw [z'] at this
     exact absurd this (by decide)
  | none=>
   have hall:=Wq.mp q
   have occ:∀s,s<=runEnd mask (tn mask h k).1 - (tn mask h k).1->(tn mask h k).1 + s∈G:=λs hs=>Ss λz=>by
    have z':=(ho ((tn mask h k).1 + s) (by omega)).mpr z
    exact hall s (Ri.mpr (by omega)) z'
   have nb:∀m,m < n + (runEnd mask (tn mask h k).1 - (tn mask h k).1) + 1->pos mask h m∈G:=λm hm=>by
    by_cases c:m < n
    ·exact hb m c
    ·obtain ⟨s,rfl⟩:∃s,m=n + s:=⟨m - n,by omega⟩
     have h4:pos mask h (n + s)=(tn mask h k).1 + s:=by
      show (st mask h (n + s)).j=_
      rw [m9 mask h n _ _ _ e s (by omega)]
     rw [h4]
     exact occ s (by omega)
   rcases uV mask h owner G ho f (k + 1) _ (Ep mask h k n e) nb with ⟨n',g1,g2',g3⟩ | ⟨g1,g2'⟩
   ·exact .inl ⟨n',g1,g2',g3⟩
   ·refine .inr ⟨g1,λr hr=>?_⟩
    cases r with
    | zero=>have:=occ 0 (RA _);exact this
    | succ r=>have:=g2' r (by omega);rwa [show k + (r + 1)=k + 1 + r by omega]
theorem HS {mask:Nat}(hm:kR mask) (h:Int) (owner:Array (Option Nat)) (G:List Nat) (hG:G.length<=mask) (ho:∀j,j<=mask->((owner.getD j (some 0)).isNone=true↔j∉G)):
  ∃n',layClean.free mask owner (turns mask) (bits h % (mask + 1)) (bits h)=some (pos mask h n')/\pos mask h n'<=mask/\pos mask h n'∉G/\∀m,m < n'->pos mask h m∈G:=by
 rcases uV mask h owner G ho (turns mask) 0 0 rfl (λm hm=>absurd hm (RZ _)) with a | ⟨_,b⟩
 ·exact a
 ·exfalso
  have all:∀j,j<=mask->j∈G:=λj hj=>by
   obtain ⟨r,hr,e⟩:=Df hm (tn mask h 12).1 j (Ck mask h 12) hj
   have:=b (12 + r) (by unfold turns;omega)
   rw [Zn,yZ,e] at this
   exact this
  have:(QU (mask + 1)).length<=G.length:=Rp Tg λj hj=>all j (by have:=Ri.mp hj;omega)
  rw [SD] at this
  omega
structure Own (mask:Nat) (owner:Array (Option Nat)) (G:List Nat) (hs:List Int):Prop where
 sz:owner.size=mask + 1
 ln:G.length=hs.length
 nd:G.Nodup
 bd:∀j∈G,j<=mask
 at_:∀j,j<=mask->owner.getD j none=if j∈G then some (G.idxOf j) else none
 pr:∀k (h1:k < G.length) (h2:k < hs.length),Reach mask G hs[k] G[k]
theorem Own.occ {mask:Nat}{owner:Array (Option Nat)}{G:List Nat}{hs:List Int}(O:Own mask owner G hs):∀j,j<=mask->((owner.getD j (some 0)).isNone=true↔j∉G):=λj hj=>by
 have e:owner.getD j (some 0)=owner.getD j none:=by
  have:j < owner.size:=by rw [O.sz];omega
  simp [S0,this]
 rw [e,O.at_ j hj]
 split <;> simp_all
theorem Own.step {mask:Nat}{owner:Array (Option Nat)}{G:List Nat}{hs:List Int}(O:Own mask owner G hs) (hm:kR mask) (hl:hs.length<=mask) (h:Int):
  ∃j,layClean.free mask owner (turns mask) (bits h % (mask + 1)) (bits h)=some j/\Own mask (owner.setIfInBounds j (some hs.length)) (G++[j]) (hs++[h]):=by
 obtain ⟨n',e,b,f,r⟩:=HS hm h owner G (by rw [O.ln];exact hl) O.occ
 refine ⟨_,e,⟨by rw [Array.size_setIfInBounds,O.sz],by simp [O.ln],?_,λj hj=>?_,λj hj=>?_,λk h1 h2=>?_⟩⟩
 ·rw [VC]
  refine ⟨O.nd,by simp,λa ha b hb=>?_⟩
  rw [Q9] at hb
  subst hb
  intro z;subst z;exact f ha
 ·rcases Rx.mp hj with h1 | h1
  ·exact O.bd j h1
  ·rw [Q9.mp h1];exact b
 ·have hsz:j < owner.size:=by rw [O.sz];omega
  by_cases c:j=pos mask h n'
  ·subst c
   rw [if_pos (by simp)]
   simp [S0,hsz]
   rw [Y_,if_neg f]
   simp [O.ln]
  ·have e1:(owner.setIfInBounds (pos mask h n') (some hs.length)).getD j none=owner.getD j none:=by
    simp [S0,hsz]
    rw [Array.getElem_setIfInBounds_ne]
    exact λz=>c z.symm
   rw [e1,O.at_ j hj]
   by_cases d:j∈G
   ·rw [if_pos d,if_pos (T8 _ d),Y_,if_pos d]
   ·rw [if_neg d,if_neg (by simp [d,c])]
 ·have sub:∀x∈G,x∈G++[pos mask h n']:=λx hx=>T8 _ hx
  by_cases c:k < G.length
  ·have:=(O.pr k c (by rw [<-O.ln];exact c)).mono sub
   rw [WM c,WM (by rw [<-O.ln];exact c)]
   exact this
  ·have hk:k=G.length:=by simp at h1;omega
   subst hk
   have e1:(G++[pos mask h n'])[G.length]=pos mask h n':=by simp
   have e2:(hs++[h])[G.length]=h:=by simp [O.ln]
   rw [e1,e2]
   exact ⟨n',rfl,λm hm=>sub _ (r m hm)⟩
theorem yj {mask:Nat}(hm:kR mask):∀(rest hs:List Int) (owner:Array (Option Nat)) (G:List Nat),Own mask owner G hs->(hs++rest).length<=mask->∃owner' G',rest.foldl (λacc h=>do
  let (owner,k) <-acc
  let j <-layClean.free mask owner (turns mask) (bits h % (mask + 1)) (bits h)
  pure (owner.setIfInBounds j (some k),k + 1)) (some (owner,hs.length))=some (owner',(hs++rest).length)/\Own mask owner' G' (hs++rest)
 | [],hs,owner,G,O,_=>⟨owner,G,by simp,by simpa using O⟩
 | h::rest,hs,owner,G,O,hl=>by
  obtain ⟨j,e,O'⟩:=O.step hm (by simp at hl;omega) h
  obtain ⟨owner',G',e2,O2⟩:=yj hm rest (hs++[h]) _ _ O' (by simpa using hl)
  refine ⟨owner',G',?_,by simpa using O2⟩
  rw [V_]
  have e3:(do
   let (owner,k) <-some (owner,hs.length)
   let j <-layClean.free mask owner (turns mask) (bits h % (mask + 1)) (bits h)
   pure (owner.setIfInBounds j (some k),k + 1):Option (Array (Option Nat)×Nat))=some (owner.setIfInBounds j (some hs.length),(hs++[h]).length):=by
   show Option.bind (layClean.free mask owner (turns mask) (bits h % (mask + 1)) (bits h)) _=_
   rw [e]
   simp
  rw [e3]
  simpa using e2
theorem Iv (mask:Nat):Own mask (Array.replicate (mask + 1) none) [] []:=
 ⟨by simp,rfl,T6,λj h=>absurd h (by simp),λj hj=>by simp [S0],λk h1=>absurd h1 (by simp)⟩
theorem DB {mask:Nat}(hm:kR mask) (hs:Array Int) (hl:hs.size<=mask):∃owner G,layClean mask hs=some owner/\Own mask owner G hs.toList:=by
 obtain ⟨owner,G,e,O⟩:=yj hm hs.toList [] _ [] (Iv mask) (by simpa using hl)
 refine ⟨owner,G,?_,by simpa using O⟩
 unfold layClean
 rw [<-Array.foldl_toList]
 have e':=congrArg (Option.map (·.1)) e
 exact e'
theorem Ie {t:RX}{es:Array (Int×QM)}{mask:Nat}(hm:kR mask) (finger moves:Nat) (led plain:Bool) (hl:es.size<=mask):
  ∃t' QI L',laid mask finger moves led plain (es.map (·.1))=some (t',QI)/\t'.mask=mask/\t'.led=led/\t'.plain=plain/\Tab t' (QI.filterMap (es[·]?)) L'/\(QI.filterMap (es[·]?)).toList.Perm es.toList:=by
 obtain ⟨owner,G,e,O⟩:=DB hm (es.map (·.1)) (by simpa using hl)
 have hlen:G.length=es.size:=by rw [O.ln];simp
 (let live:=(QU (mask + 1)).filterMap λj=>(owner.getD j none).map (j,·))
 have lv:∀p,p∈live↔p.1∈G/\p.2=G.idxOf p.1:=λp=>by
  show p∈(QU (mask + 1)).filterMap _↔_
  rw [Vb]
  constructor
  ·rintro ⟨j,hj,q⟩
   have hj':j<=mask:=by have:=Ri.mp hj;omega
   rw [O.at_ j hj'] at q
   by_cases c:j∈G
   ·rw [if_pos c] at q
    have q:(j,G.idxOf j)=p:=by simpa using q
    subst q
    exact ⟨c,rfl⟩
   ·rw [if_neg c] at q;exact absurd q (by simp)
  ·rintro ⟨h1,h2⟩
   refine ⟨p.1,Ri.mpr (by have:=O.bd _ h1;omega),?_⟩
   rw [O.at_ _ (O.bd _ h1),if_pos h1]
   show some (p.1,G.idxOf p.1)=some p
   rw [<-h2]
 have so1:live.Pairwise λa b=>a.1 < b.1:=by
  show ((QU (mask + 1)).filterMap _).Pairwise _
  rw [W6]
  refine Uy.imp ?_
  intro a b hab x hx y hy
  cases q1:owner.getD a none with
  | none=>rw [q1] at hx;exact absurd hx (by simp)
  | some k1=>cases q2:owner.getD b none with
   | none=>rw [q2] at hy;exact absurd hy (by simp)
   | some k2=>
    rw [q1] at hx;rw [q2] at hy
    have hx:(a,k1)=x:=by simpa using hx
    have hy:(b,k2)=y:=by simpa using hy
    subst hx;subst hy;exact hab
 have ord:(live.map (·.2)).Perm (QU es.size):=by
  rw [Wk _ Tg]
  ·intro k
   rw [QT,Ri]
   constructor
   ·rintro ⟨p,hp,rfl⟩
    obtain ⟨h1,h2⟩:=(lv p).mp hp
    rw [h2,<-hlen]
    exact R0 h1
   ·intro hk
    rw [<-hlen] at hk
    exact ⟨(G[k],k),(lv _).mpr ⟨Si _,(O.nd.idxOf_getElem k hk).symm⟩,rfl⟩
  ·show (live.map (·.2)).Pairwise _
   rw [RP]
   refine (TX.mp so1).imp ?_
   rintro a b ⟨ha,hb,hab⟩ z
   obtain ⟨a1,a2⟩:=(lv a).mp ha
   obtain ⟨b1,b2⟩:=(lv b).mp hb
   rw [a2,b2] at z
   have ga:=UA (R0 a1)
   have gb:=UA (R0 b1)
   have:a.1=b.1:=by
    rw [<-ga,<-gb]
    congr 1
   omega
 have inR:∀p∈live,∃h:p.2 < es.size,True:=λp hp=>by
  have:p.2∈live.map (·.2):=QT.mpr ⟨p,hp,rfl⟩
  exact ⟨Ri.mp (ord.mem_iff.mp this),trivial⟩
 let L':=live.map λp=>(p.1,es.getD p.2 default)
 have eL:(live.map (·.2)).toArray.filterMap (es[·]?)=(L'.map (·.2)).toArray:=by
  rw [List.filterMap_toArray]
  congr 1
  show aab _ (live.map _)=(live.map _).map _
  rw [Yy,Rv]
  have:∀(l:List (Nat×Nat)),(∀p∈l,p∈live)->aab ((λx=>es[x]?) ∘ λx=>x.snd) l=abD ((λx=>x.snd) ∘ λp=>(p.fst,es.getD p.snd default)) l:=by
   intro l
   induction l with
   | nil=>intro _;rfl
   | cons p l ih=>
    intro hl
    obtain ⟨hp,_⟩:=inR p (hl p (by simp))
    rw [List.filterMap_cons_some (b:=es.getD p.2 default)]
    ·rw [Ra,ih λq hq=>hl q (by simp [hq])]
     rfl
    ·show es[p.2]?=_
     simp [S0,hp]
  exact this live λp hp=>hp
 have eP:L'.map (·.1)=live.map (·.1):=by
  show (live.map _).map _=_
  rw [Rv];rfl
 have memP:∀j,j∈live.map (·.1)↔j∈G:=λj=>by
  rw [QT]
  constructor
  ·rintro ⟨p,hp,rfl⟩;exact ((lv p).mp hp).1
  ·intro h;exact ⟨(j,G.idxOf j),(lv _).mpr ⟨h,rfl⟩,rfl⟩
 have lenL:L'.length=es.size:=by
  have:=ord.length_eq
  rw [QO,SD] at this
  show (live.map _).length=_
  rw [QO,this]
 refine ⟨{mask,place:=(live.map (·.1)).toArray,dummies:=#[],finger,led,moves,plain},(live.map (·.2)).toArray,L',?_,rfl,rfl,rfl,⟨rfl,?_,?_,?_,λx hx=>?_,hm,?_,λx hx=>?_⟩,?_⟩
 ·unfold laid
  rw [e]
  rfl
 ·show (live.map (·.1)).toArray.toList=_
  rw [eP]
 ·rw [eL]
 ·rw [eP,RP];exact so1
 ·obtain ⟨p,hp,rfl⟩:=QT.mp hx
  exact O.bd _ ((lv p).mp hp).1
 ·show L'.length<=mask
  rw [lenL];exact hl
 ·obtain ⟨p,hp,rfl⟩:=QT.mp hx
  obtain ⟨h1,h2⟩:=(lv p).mp hp
  obtain ⟨hs,_⟩:=inR p hp
  have r:=O.pr p.2 (by omega) (by simpa using hs)
  have e1:G[p.2]'(by omega)=p.1:=by
   have:=UA (R0 h1)
   rw [<-this]
   congr 1
  have e2:((es.map (·.1)).toList[p.2]'(by simpa using hs))=(es.getD p.2 default).1:=by
   simp [S0,hs]
  rw [e1,e2] at r
  show Reach mask (L'.map (·.1)) (es.getD p.2 default).1 p.1
  refine r.mono λy hy=>?_
  rw [eP]
  exact (memP y).mpr hy
 ·rw [eL]
  show (L'.map (·.2)).Perm es.toList
  have e1:(live.map (·.2)).map (λk=>es.getD k default)=L'.map (·.2):=by
   show _=(live.map _).map _
   rw [Rv,Rv];rfl
  rw [<-e1]
  refine (ord.map _).trans ?_
  have:(QU es.size).map (λk=>es.getD k default)=es.toList:=by
   refine Us (by simp) λi h1 h2=>?_
   simp at h1
   simp [S0,h1]
  rw [this]
theorem vt {t:RX}{es:Array (Int×QM)}{w:Nat}(hm:kR (sizeAbove w - 1)) (hl:es.size<=sizeAbove w - 1):
  ∃t' QI L',t.relaid (es.map (·.1)) w=some (t',QI)/\t'.mask=sizeAbove w - 1/\t'.led=t.led/\t'.plain=t.plain/\Tab t' (QI.filterMap (es[·]?)) L'/\(QI.filterMap (es[·]?)).toList.Perm es.toList:=
 Ie (t:=t) hm t.finger (t.movedTo (sizeAbove w - 1)) t.led t.plain hl
end ST
namespace DL
open PySem PySem.Spec PyProof.Rows L2
mutual
noncomputable def jL:D->Nat
 | .int _=>1
 | .tup xs=>fu xs + 1
 | _=>0
noncomputable def fu:List D->Nat
 | []=>0
 | x::xs=>jL x + fu xs
end
theorem qw:∀{ds:List D},areKeys ds=true->∀d∈ds,isKey d=true
 | [],_,_,h=>nomatch h
 | x::xs,h,d,hm=>by
  unfold areKeys at h
  rw [QX] at h
  (rcases Rc.mp hm with rfl | hm)
  ·exact h.1
  ·exact qw h.2 d hm
mutual
theorem yg:∀{d e:D},isKey d=true->isKey e=true->bu d e=true->d=e
 | .int i,.int j,_,_,h=>by simp [bu] at h;rw [h]
 | .tup xs,.tup ys,hd,he,h=>by
  unfold isKey at hd he
  simp only [bu] at h
  rw [keys_eq hd he h]
 | .int _,.tup _,_,_,h=>by simp [bu] at h
 | .tup _,.int _,_,_,h=>by simp [bu] at h
theorem keys_eq:∀{ds es:List D},areKeys ds=true->areKeys es=true->cu ds es=true->ds=es
 | [],[],_,_,_=>rfl
 | x::xs,y::ys,hd,he,h=>by
  unfold areKeys at hd he
  rw [QX] at hd he
  simp only [cu,QX] at h
  rw [yg hd.1 he.1 h.1,keys_eq hd.2 he.2 h.2]
 | [],_::_,_,_,h=>by simp [cu] at h
 | _::_,[],_,_,h=>by simp [cu] at h
end
theorem ux {d e:D}(hd:isKey d=true) (he:isKey e=true):bu d e=true↔d=e:=⟨yg hd he,λh=>by rw [h];exact gD _⟩
theorem HF.keep {K:QK}{J:Hp}{s s':QN}(F:HF K J s) (k:∀b o,s.heap.get? b=some o->s'.heap.get? b=some o):HF K J s':=
 ⟨λa xs h=>let ⟨QA,r,o,ho,p⟩:=F.t a xs h;⟨QA,r,o,k _ _ ho,p⟩,λa xs h=>let ⟨QA,r,o,ho,p⟩:=F.l a xs h;⟨QA,r,o,k _ _ ho,p⟩,λa h=>let ⟨o,ho,p⟩:=F.e a h;⟨o,k _ _ ho,p⟩,λa ep QH h=>let ⟨o,es,ho,p⟩:=F.d a ep QH h;⟨o,es,k _ _ ho,p⟩⟩
section
variable {prog:Rb}{w:RD}{E:QM->QN->Prop}{K:QK}{J:Hp}
noncomputable def Cs (prog:Rb) (w:RD) (A:RG) (K:QK) (J:Hp) (d:D) (u:QM):Prop:=
 ∀(E:QM->QN->Prop) (s:QN) (Q:Int->QN->Prop),HF K J s->Q (bT d) {s with toks:=s.toks + jL d}->Rg (Rk prog w) A (pyHash u) Q E s
inductive jR (prog:Rb) (w:RD) (A:RG) (K:QK) (J:Hp):List D->List QM->Prop
 | nil:jR prog w A K J [] []
 | cons {d:D}{u:QM}{ds:List D}{us:List QM}:Cs prog w A K J d u->jR prog w A K J ds us->jR prog w A K J (d::ds) (u::us)
theorem sI:∀(a b:List D),cB (a++b)=cB a++cB b
 | [],b=>rfl
 | x::a,b=>by show bT x::cB (a++b)=_;rw [sI a b];rfl
theorem rZ:∀(a b:List D),fu (a++b)=fu a + fu b
 | [],b=>by show fu b=0 + _;omega
 | x::a,b=>by show jL x + fu (a++b)=jL x + fu a + fu b;rw [rZ a b];omega
theorem E4 {A:RG}{s:QN}{a:Q4}{o:Obj}{QA:List QM}{n:Nat}{ds:List D}{Q:Int->QN->Prop}(N:HF K J s) (ho:s.heap.get? a=some o) (hc:o.cls=.type "tuple") (hd:o.data=.seq QA.toArray n) (hu:A.units < Sy)
  (hl:jR prog w A.in1 K J ds QA) (h:Q (aar (R9 (cB ds))) {s with toks:=s.toks + (fu ds + 1)}):Rg (Rk prog w) A (pyHash (.ref a)) Q E s:=by
 have hT:s.TypeIs (.ref a) "tuple":=⟨o,ho,hc⟩
 unfold pyHash
 (first | unfold pyHashByItsType | skip)
 (first | refine QJ (wpAny_cRoomFor_or (.inr hu) ?_) | skip)
 (refine QJ (Vm hT UL.lookup ?_))
 (show Rg _ _ (if (some (W0 "tuple.__hash__") == some RN)=true then _ else _) Q E s)
 (rw [if_neg (by rw [beq_builtin_none];exact RB)])
 (refine QJ (Vm hT UL.lookup ?_))
 (show Rg _ _ (callSpecialIfBoundUnlessNone? (.ref a) "__hash__" _ >>= _) Q E s)
 (refine QJ (wpAny_callSpecialIfBoundUnlessNone?_slot hT UL (RL UL hT F.entry_tuple_hash ?_ (F.args_tuple_hash_1 _))))
 (show Rg _ _ (TL (.ref a) >>= _) _ _ s)
 (refine QJ (wpAny_tupleItemsOf ho hd ?_))
 refine QJ ?_
 rw [<-Vn]
 refine TN _
  (λrest (b:Array Int) s'=>∃done left,ds=done++left/\jR prog w A.in1 K J left rest/\b.toList=cB done/\s'={s with toks:=s.toks + fu done})
  _ ?_ ?_ _ _ ⟨[],ds,rfl,hl,rfl,rfl⟩
 ·(rintro x rest b s' ⟨done,left,rfl,hl,hb,rfl⟩)
  cases hl with
  | @cons k _ ks' _ h1 hl'=>
   refine QJ (h1 _ _ _ ⟨N.t,N.l,N.e,N.d⟩ ?_)
   have e1:(b.push (bT k)).toList=cB (done++[k]):=by rw [Za,sI,hb];rfl
   have e2:s.toks + fu done + jL k=s.toks + fu (done++[k]):=by rw [rZ];show _=s.toks + (fu done + (jL k + 0));omega
   first
    | exact QL ⟨done++[k],ks',by simp,hl',e1,by rw [e2]⟩
    | exact QJ (QL (QL ⟨done++[k],ks',by simp,hl',e1,by rw [e2]⟩))
 ·(rintro b s' ⟨done,left,rfl,hl,hb,rfl⟩)
  cases hl
  rw [S8] at h
  (show Rg _ _ (retInt (R9 b.toList)) _ _ _)
  rw [hb]
  refine wpAny_ret_mkInt ?_
  show Rg _ _ (if (decide (-(2:Int) ^ 63<=R9 (cB done)) && decide (R9 (cB done) < 2 ^ 63))=true then _ else _) Q E _
  unfold aar at h
  by_cases hr:(decide (-(2:Int) ^ 63<=R9 (cB done)) && decide (R9 (cB done) < 2 ^ 63))=true
  ·rw [if_pos hr]
   rw [if_pos hr] at h
   (exact QL (by simpa [aaN] using h))
  ·rw [if_neg hr]
   rw [if_neg hr] at h
   (exact QJ (WI (QL (by simpa [aaN] using h))))
mutual
theorem uM:∀(d:D) (v:V) (u:QM) (A:RG) (s:QN),HF K J s->isKey d=true->Rep K J d v->RelV v u->A.units + dep d < Sy->Cs prog w A K J d u
 | .int i,v,u,A,s,N,hk,hr,rv,hu=>λE s' Q N' h=>by
  cases hr
  obtain ⟨t,rfl⟩:=rv
  exact W9 h
 | .tup ds,v,u,A,s,N,hk,hr,rv,hu=>λE s' Q N' h=>by
  cases hr with
  | tup h1 hs=>
   cases rv
   obtain ⟨QA,r,o,ho,hc,n,hd⟩:=N'.t _ _ h1
   exact E4 N' ho hc hd (by unfold dep at hu;omega) (ze ds _ _ A.in1 s N hk hs r (by rw [in1_units];unfold dep at hu;omega)) h
 | .non,v,u,A,s,N,hk,hr,rv,hu=>nomatch hk
 | .bl _,v,u,A,s,N,hk,hr,rv,hu=>nomatch hk
 | .str _,v,u,A,s,N,hk,hr,rv,hu=>nomatch hk
 | .lst _,v,u,A,s,N,hk,hr,rv,hu=>nomatch hk
 | .emp,v,u,A,s,N,hk,hr,rv,hu=>nomatch hk
 | .exn _ _ _,v,u,A,s,N,hk,hr,rv,hu=>nomatch hk
 | .dct _ _,v,u,A,s,N,hk,hr,rv,hu=>nomatch hk
theorem ze:∀(ds:List D) (vs:List V) (us:List QM) (A:RG) (s:QN),HF K J s->areKeys ds=true->aF K J ds vs->Vals vs us->A.units + deps ds < Sy->jR prog w A K J ds us
 | [],vs,us,A,s,N,hk,hr,rv,hu=>by
  cases hr;cases rv;exact .nil
 | d::ds,vs,us,A,s,N,hk,hr,rv,hu=>by
  unfold areKeys at hk
  rw [QX] at hk
  unfold deps at hu
  cases hr with
  | cons a b=>
   cases rv with
   | cons c e=>exact .cons (uM d _ _ A s N hk.1 a c (by omega)) (ze ds _ _ A s N hk.2 b e (by omega))
end
end
noncomputable def ig (K:QK) (J:Hp) (n:Nat) (u:QM):Prop:=∃d v,isKey d=true/\dep d<=n/\Rep K J d v/\RelV v u
section
variable {prog:Rb}{w:RD}{E:QM->QN->Prop}{K:QK}{J:Hp}{A:RG}{s:QN}
theorem yf {n:Nat}:∀{ds:List D}{vs:List V}{us:List QM},areKeys ds=true->deps ds<=n->aF K J ds vs->Vals vs us->∀u∈us,ig K J n u
 | _,_,_,_,_,.nil,.nil=>λu h=>nomatch h
 | d::ds,_,_,hk,hn,.cons a b,.cons c e=>λu h=>by
  unfold areKeys at hk
  rw [QX] at hk
  unfold deps at hn
  (rcases Rc.mp h with rfl | h)
  ·exact ⟨d,_,hk.1,by omega,a,c⟩
  ·exact yf hk.2 (by omega) b e u h
theorem ig.cases' {n:Nat}{u:QM}(N:HF K J s) (h:ig K J n u):(∃i t,u=.int i t)\/∃a o QA m k,u=.ref a/\s.heap.get? a=some o/\o.cls=.type "tuple"/\o.data=.seq QA m/\n=k + 1/\∀y∈QA.toList,ig K J k y:=by
 obtain ⟨d,v,hk,hn,hr,rv⟩:=h
 cases d with
 | int i=>
  cases hr
  obtain ⟨t,rfl⟩:=rv
  exact .inl ⟨_,_,rfl⟩
 | tup ds=>
  cases hr with
  | tup h1 hs=>
   cases rv
   obtain ⟨QA,r,o,ho,hc,m,hd⟩:=N.t _ _ h1
   unfold dep at hn
   obtain ⟨k,rfl⟩:∃k,n=k + 1:=⟨n - 1,by omega⟩
   exact .inr ⟨_,o,_,m,k,rfl,ho,hc,hd,rfl,yf hk (by omega) hs r⟩
 | _=>cases hk
theorem mW:∀(n:Nat){u:QM}{Q:Bool->QN->Prop},HF K J s->ig K J n u->Q true s->Rg (Rk prog w) A (eqIsQuiet n u) Q E s
 | n,u,Q,N,hk,h=>by
  rcases hk.cases' N with ⟨i,t,rfl⟩ | ⟨a,o,QA,m,k,rfl,ho,hc,hd,rfl,hi⟩
  ·rw [eqIsQuiet_byValue _ rfl]
   exact QL h
  ·have hT:s.TypeIs (.ref a) "tuple":=⟨o,ho,hc⟩
   unfold eqIsQuiet
   (refine QJ (Vm hT F.slot_tuple_eq.lookup ?_))
   (show Rg _ _ (aaq (.ref a) (.type "tuple") >>= _) _ _ s)
   (refine QJ (VS hT isSubtype_tuple_tuple ?_))
   (simp only [Tn,Rf,if_false])
   (refine QJ (Yd ho hd ?_))
   refine QJ ?_
   show Rg _ _ (forIn QA _ _) _ _ s
   rw [<-Vn]
   refine TN _ (λrest r s'=>r.1=none/\s=s'/\∀v∈rest,ig K J k v) _ ?_ ?_ _ _ ⟨rfl,rfl,hi⟩
   ·(rintro v rest r s' ⟨hr,rfl,hall⟩)
    refine QJ (mW k N (hall v QW) ?_)
    (simp only [Tn,Rf,if_false])
    (exact QL ⟨rfl,rfl,λu hu'=>hall u (QS _ hu')⟩)
   ·(rintro ⟨r1,r2⟩ s' ⟨hr,rfl,_⟩)
    simp only at hr
    subst hr
    exact QL h
theorem D0:∀(n:Nat){u:QM}{Q:Bool->QN->Prop},HF K J s->ig K J n u->Q true s->Rg (Rk prog w) A (hashByValue n u) Q E s
 | n,u,Q,N,hk,h=>by
  rcases hk.cases' N with ⟨i,t,rfl⟩ | ⟨a,o,QA,m,k,rfl,ho,hc,hd,rfl,hi⟩
  ·cases n <;> exact QL h
  ·have hT:s.TypeIs (.ref a) "tuple":=⟨o,ho,hc⟩
   unfold hashByValue
   (refine QJ (Vm hT UL.lookup ?_))
   show Rg _ _ (aa4 (.ref a) >>= _) _ _ s
   (refine QJ (Yd ho hd ?_))
   refine QJ ?_
   show Rg _ _ (forIn QA _ _) _ _ s
   rw [<-Vn]
   refine TN _ (λrest r s'=>r.1=none/\s=s'/\∀v∈rest,ig K J k v) _ ?_ ?_ _ _ ⟨rfl,rfl,hi⟩
   ·(rintro v rest r s' ⟨hr,rfl,hall⟩)
    refine QJ (D0 k N (hall v QW) ?_)
    (simp only [Tn,Rf,if_false])
    (exact QL ⟨rfl,rfl,λu hu'=>hall u (QS _ hu')⟩)
   ·(rintro ⟨r1,r2⟩ s' ⟨hr,rfl,_⟩)
    simp only at hr
    subst hr
    exact QL h
theorem mU:∀(n:Nat){u:QM}{Q:Bool->QN->Prop},HF K J s->ig K J n u->Q false s->Rg (Rk prog w) A (Zb n u) Q E s
 | n,u,Q,N,hk,h=>by
  rcases hk.cases' N with ⟨i,t,rfl⟩ | ⟨a,o,QA,m,k,rfl,ho,hc,hd,rfl,hi⟩
  ·cases n <;> exact QL h
  ·have hT:s.TypeIs (.ref a) "tuple":=⟨o,ho,hc⟩
   unfold Zb
   (refine QJ (U6 hT ?_))
   dsimp only
   (refine QJ (QL ?_))
   (simp only [Tn,Rf,if_false])
   (refine QJ (Yd ho hd ?_))
   dsimp only
   refine QJ ?_
   show Rg _ _ (forIn QA _ _) _ _ s
   rw [<-Vn]
   refine TN _ (λrest r s'=>r.1=none/\s=s'/\∀v∈rest,ig K J k v) _ ?_ ?_ _ _ ⟨rfl,rfl,hi⟩
   ·(rintro v rest r s' ⟨hr,rfl,hall⟩)
    refine QJ (mU k N (hall v QW) ?_)
    (simp only [Rf,if_false])
    (exact QL ⟨rfl,rfl,λu hu'=>hall u (QS _ hu')⟩)
   ·(rintro ⟨r1,r2⟩ s' ⟨hr,rfl,_⟩)
    simp only at hr
    subst hr
    exact QL h
theorem L3 {x:QM}{ys:List QM}{Q:Bool->QN->Prop}(N:HF K J s) (hx:ig K J 8 x) (hy:∀y∈ys,ig K J 8 y) (h:Q false s):Rg (Rk prog w) A (WN x ys) Q E s:=by
 unfold WN
 refine QJ ?_
 refine TN _ (λrest r s'=>r.1=none/\s=s'/\∀v∈rest,ig K J 8 v) _ ?_ ?_ _ _ ⟨rfl,rfl,hy⟩
 ·(rintro v rest r s' ⟨hr,rfl,hall⟩)
  have nx:∀u∈rest,ig K J 8 u:=λu hu'=>hall u (QS _ hu')
  dsimp only
  have hv:=hall v QW
  split
  ·split
   ·exact QL ⟨rfl,rfl,nx⟩
   ·refine QJ (mW 8 N hx ?_)
    (simp only [Tn,Rf,if_false])
    refine QJ (mW 8 N hv ?_)
    (simp only [Tn,Rf,if_false])
    refine QJ (mU 8 N hx ?_)
    (simp only [Rf,if_false])
    refine QJ (mU 8 N hv ?_)
    (simp only [Rf,if_false])
    exact QL ⟨rfl,rfl,nx⟩
  ·split
   ·exact QL ⟨rfl,rfl,nx⟩
   ·refine QJ (mW 8 N hx ?_)
    (simp only [Tn,Rf,if_false])
    refine QJ (mW 8 N hv ?_)
    (simp only [Tn,Rf,if_false])
    refine QJ (mU 8 N hx ?_)
    (simp only [Rf,if_false])
    refine QJ (mU 8 N hv ?_)
    (simp only [Rf,if_false])
    exact QL ⟨rfl,rfl,nx⟩
 ·(rintro ⟨r1,r2⟩ s' ⟨hr,rfl,_⟩)
  simp only at hr
  subst hr
  exact QL h
end
end DL
namespace DL
open PySem PySem.Spec PyProof.Rows L2 ST
noncomputable def KV (K:QK) (J:Hp) (u:QM) (d:D):Prop:=(∃a,u=.ref a)/\isKey d=true/\dep d<=8/\∃v,Rep K J d v/\RelV v u
theorem KV.key {K:QK}{J:Hp}{u:QM}{d:D}(h:KV K J u d):ig K J 8 u:=let ⟨_,a,b,v,c,e⟩:=h;⟨d,v,a,b,c,e⟩
inductive fE (K:QK) (J:Hp):List (Int×QM)->List D->Prop
 | nil:fE K J [] []
 | cons {h:Int}{x:QM}{d:D}{es:List (Int×QM)}{ks:List D}:h=bT d->KV K J x d->fE K J es ks->fE K J ((h,x)::es) (d::ks)
section
variable {K:QK}{J:Hp}
theorem fE.length {es:List (Int×QM)}{ks:List D}(h:fE K J es ks):es.length=ks.length:=by
 induction h with
 | nil=>rfl
 | cons _ _ _ ih=>simp [ih]
theorem fE.at_ {es:List (Int×QM)}{ks:List D}(h:fE K J es ks):∀{i:Nat}{e:Int×QM},es[i]?=some e->∃d,ks[i]?=some d/\KV K J e.2 d/\e.1=bT d:=by
 induction h with
 | nil=>intro i e q;simp at q
 | @cons hh x d es ks h1 h2 _ ih=>
  intro i e q
  cases i with
  | zero=>simp at q;subst q;exact ⟨d,rfl,h2,h1⟩
  | succ i=>simp at q;obtain ⟨d',a,b⟩:=ih q;exact ⟨d',by simpa using a,b⟩
theorem fE.mem {es:List (Int×QM)}{ks:List D}(h:fE K J es ks):∀e∈es,∃d∈ks,KV K J e.2 d/\e.1=bT d:=λe he=>by
 obtain ⟨i,hi⟩:=XC.mp he
 obtain ⟨d,h1,h2⟩:=h.at_ hi
 exact ⟨d,Sm h1,h2⟩
theorem fE.back {es:List (Int×QM)}{ks:List D}(h:fE K J es ks){i:Nat}{d:D}(q:ks[i]?=some d):∃e,es[i]?=some e/\KV K J e.2 d/\e.1=bT d:=by
 have hi:i < es.length:=by rw [h.length];exact (Rr.mp q).1
 obtain ⟨d',h1,h2⟩:=h.at_ (Q5 hi)
 rw [q] at h1;cases h1
 exact ⟨_,Q5 hi,h2⟩
theorem fE.perm {es es':List (Int×QM)}(p:es.Perm es'):∀{ks:List D},fE K J es ks->∃ks',ks.Perm ks'/\fE K J es' ks':=by
 induction p with
 | nil=>intro ks h;exact ⟨ks,.refl _,h⟩
 | cons x _ ih=>
  intro ks h
  cases h with
  | cons h1 h2 h3=>obtain ⟨ks',a,b⟩:=ih h3;exact ⟨_,a.cons _,.cons h1 h2 b⟩
 | swap x y l=>
  intro ks h
  cases h with
  | cons h1 h2 h3=>cases h3 with
   | cons h4 h5 h6=>exact ⟨_,.swap _ _ _,.cons h4 h5 (.cons h1 h2 h6)⟩
 | trans _ _ ih1 ih2=>
  intro ks h
  obtain ⟨k1,a,b⟩:=ih1 h
  obtain ⟨k2,c,d⟩:=ih2 b
  exact ⟨k2,a.trans c,d⟩
end
theorem cO {t:RX}{es:Array (Int×QM)}{L:List (Nat×Int×QM)}(T:Tab t es L):t.fits es.size=true:=by
 have h1:t.place.size=L.length:=by rw [<-Q3,T.pl,QO]
 have h2:es.size=L.length:=by rw [<-Q3,T.en,QO]
 have h3:t.fill=L.length:=by unfold YM;rw [T.dm,h1];rfl
 unfold SetTable.fits
 rw [h1,h2,h3]
 simp [T.fl]
theorem Js {t:RX}{es:Array (Int×QM)}{L:List (Nat×Int×QM)}(T:Tab t es L):t.gaveWay=false:=by
 unfold SetTable.gaveWay
 rcases T.mo with h | h | h <;> rw [h] <;> rfl
section
variable {prog:Rb}{w:RD}{E:QM->QN->Prop}{K:QK}{J:Hp}{A:RG}{s:QN}
theorem search {a:Q4}{o:Obj}{es:Array (Int×QM)}{ep:Nat}{t:RX}{L:List (Nat×Int×QM)}{ks:List D}{x:QM}{d:D}{Q:SetFound->QN->Prop}(N:HF K J s) (ho:s.heap.get? a=some o) (hd:o.data=.set es ep t) (T:Tab t es L) (en:fE K J es.toList ks)
  (hx:KV K J x d) (hu:A.units + 8 < Sy) (n0:Nat) (hf:pos t.mask (bT d) n0∉L.map (·.1)) (hb:∀m,m < n0->pos t.mask (bT d) m∈L.map (·.1)) (hn0:n0<=10 * (t.mask + 12))
  (q1:d∈ks->Q (.there none) s) (q2:d∉ks->Q (.free (pos t.mask (bT d) n0) false) s):
  ∀(fuel n:Nat) (stand:Option SetTable.Probe),n<=n0->n0 - n < fuel->stand.getD (t.probeStart (bT d))=st t.mask (bT d) n->(∀k,k < n->∀(i:Nat) (e:Nat×Int×QM),L[i]?=some e->e.1=pos t.mask (bT d) k->ks[i]?≠some d)->
   Rg (Rk prog w) A (aaO a x (bT d) true fuel stand) Q E s
 | 0,n,stand,h1,h2,h3,h4=>absurd h2 (RZ _)
 | fuel + 1,n,stand,h1,h2,h3,h4=>by
  have esL:∀i,es[i]?=(L[i]?).map (λe:Nat×Int×QM=>e.2):=λi=>by rw [<-Se,T.en,Rj]
  unfold aaO
  refine QJ (SE ho hd (cO T) ?_)
  dsimp only
  rw [Js T]
  (simp only [Rf,if_false])
  rw [h3]
  obtain ⟨m,m1,m2,m3,m4⟩:=yw T (λi=>(es[i]?.map (·.1)).getD 0) (λi e q=>by rw [q];rfl) (bT d) n0 hf hb (n0 - n) n (10 * aac t.mask) rfl h1 (by unfold aac;omega)
  generalize hP:SetTable.probe t _ (bT d) (st t.mask (bT d) n)=r
  rcases m4 with ⟨rfl,m4⟩ | ⟨m5,i,e,m6,m7,m8,m4⟩
  ·have:r=_:=hP.symm.trans m4
   subst this
   dsimp only
   refine QL (q2 λhm=>?_)
   obtain ⟨i,hi⟩:=XC.mp hm
   obtain ⟨e,e1,e2,e3⟩:=en.back hi
   rw [Se,esL] at e1
   obtain ⟨e',e4,rfl⟩:=Option.map_eq_some_iff.mp e1
   have hm':=Sm e4
   obtain ⟨k,k1,k2⟩:=T.pr _ hm'
   rw [e3] at k1 k2
   have kl:k < m:=by
    rcases UJ k m with c | c | c
    ·exact c
    ·subst c;rw [k1] at hf;exact absurd (QT.mpr ⟨_,hm',rfl⟩) hf
    ·exact absurd (k2 m c) hf
   by_cases c:k < n
   ·exact h4 k c i e' e4 k1.symm hi
   ·exact m3 k (by omega) kl e' hm' k1.symm e3
  ·have:r=_:=hP.symm.trans m4
   subst this
   dsimp only
   have hei:es[i]?=some e.2:=by rw [esL,m6];rfl
   obtain ⟨d',f1,f2,f3⟩:=en.at_ (by rw [Se];exact hei)
   obtain ⟨⟨ya,g0⟩,g1,g2',v',g3,g4⟩:=id f2
   obtain ⟨_,x1,x2,v,x3,x4⟩:=id hx
   obtain ⟨j,hh,y⟩:=e
   dsimp only at g0 g4 m7 m8 hei
   subst g0
   have cmp:=mD N A g3 x3 g4 x4 (by omega) (by omega) (by omega)
   have pass:∀(k:Sem SetFound),Rg (Rk prog w) A k Q E s->Rg (Rk prog w) A (if (!t.led)=true then do
     let c <-WN x (abD (λx=>x.snd) (Array.filter (λx=>x.fst == bT d) es).toList)
     if c=true then do unsupported "set:the-search-would-show-the-table";k else k
     else k) Q E s:=λk hk=>by
    split
    ·refine QJ (L3 N hx.key (λy hy=>?_) ?_)
     ·obtain ⟨e',he',rfl⟩:=QT.mp hy
      have:e'∈es.toList:=by
       rw [Array.toList_filter] at he'
       exact (RI.mp he').1
      obtain ⟨d2,_,h2,_⟩:=en.mem e' this
      exact h2.key
     ·(simp only [Rf,if_false])
      exact hk
    ·exact hk
   refine pass _ ?_
   rw [hei]
   dsimp only
   refine QJ (Ru (cmp _ _ _ _ ?_))
   refine QJ (SE ho hd (cO T) ?_)
   dsimp only
   by_cases c:bu d' d=true
   ·rw [c]
    (simp only [aaG,if_true])
    refine QL (q1 ?_)
    rw [<-yg g1 x1 c]
    exact Sm f1
   ·rw [Bool.not_eq_true] at c
    rw [c]
    have sm:t.sameMemory t.moves t.mask=some true:=by unfold SetTable.sameMemory;simp
    have sl:t.slot (pos t.mask (bT d) m)=.live i:=pG T.sop (by rw [<-m7];exact (T.at_ m6).1)
    rw [sm]
    simp only [Uw,Rf,if_false,if_true]
    rw [sl]
    dsimp only
    rw [hei]
    dsimp only
    refine QJ (wpAny_isSame_ref_self ?_)
    simp only [if_true]
    (refine QJ (QL ?_))
    dsimp only
    refine search N ho hd T en hx hu n0 hf hb hn0 q1 q2 fuel (m + 1) _ (by omega) (by omega) rfl λk hk i2 e2 z1 z2 z3=>?_
    by_cases c1:k < n
    ·exact h4 k c1 i2 e2 z1 z2 z3
    ·by_cases c2:k < m
     ·obtain ⟨dd,w1,_,w3⟩:=en.at_ (i:=i2) (e:=e2.2) (by rw [Se,esL,z1];rfl)
      rw [z3] at w1;cases w1
      exact m3 k (by omega) c2 e2 (Sm z1) z2 w3
     ·obtain rfl:k=m:=by omega
      have hi2:i2=i:=by
       obtain ⟨p1,p2⟩:=Rr.mp z1
       obtain ⟨p3,p4⟩:=Rr.mp m6
       have sw:=Sq.mp T.so
       rcases UJ i2 i with c | c | c
       ·have:=sw i2 i (by simpa using p1) (by simpa using p3) c
        simp [p2,p4] at this
        omega
       ·exact c
       ·have:=sw i i2 (by simpa using p3) (by simpa using p1) c
        simp [p2,p4] at this
        omega
      subst hi2
      rw [f1] at z3
      cases z3
      rw [gD] at c
      exact absurd c (by decide)
end
structure iN (K:QK) (J:Hp) (h:Sn) (a:Q4) (led:Bool) (ks:List D) (es:Array (Int×QM)) (ep:Nat) (t:RX):Prop where
 at_:h.get? a=some {cls:=.type "set",dict:=none,data:=.set es ep t}
 tab:∃L,Tab t es L
 pl:t.plain=true
 ld:t.led=led
 rm:ks.length * 5 < t.mask * 3
 en:fE K J es.toList ks
 nd:ks.Nodup
theorem Dh (mask i:Nat) (h:i<=mask):i + (ZR mask i - i)<=mask:=by unfold ZR;split <;> omega
theorem G_ (mask:Nat) (h:Int):∀n,(ST.st mask h n).j + (ST.st mask h n).more<=mask
 | 0=>Dh mask _ (VB (WL _ (by omega)))
 | n + 1=>by
  have ih:=G_ mask h n
  show (Xg _ (ST.st mask h n)).j + (Xg _ (ST.st mask h n)).more<=mask
  unfold Xg
  split
  ·dsimp only;omega
  ·exact Dh mask _ (VB (WL _ (by omega)))
theorem yv (mask:Nat) (h:Int) (n:Nat):ST.pos mask h n<=mask:=by have:=G_ mask h n;show (ST.st mask h n).j<=mask;omega
theorem zX:SQ 20=32:=by decide +kernel
theorem zY:SQ 76=128:=by decide +kernel
theorem nc {t:RX}{es:Array (Int×QM)}{L:List (Nat×Int×QM)}(T:Tab t es L):L.length=es.size:=by rw [<-Q3,T.en,QO]
section
variable {prog:Rb}{w:RD}{E:QM->QN->Prop}{K:QK}{J:Hp}{A:RG}{s:QN}
theorem MG {a:Q4}{es:Array (Int×QM)}{ep:Nat}{t:RX}{led:Bool}{L:List (Nat×Int×QM)}{ks:List D}{Q:Unit->QN->Prop}(ho:s.heap.get? a=some {cls:=.type "set",dict:=none,data:=.set es ep t}) (T:Tab t es L) (hp:t.plain=true) (hl:t.led=led)
  (en:fE K J es.toList ks) (nd:ks.Nodup) (W:Nat) (hW:(SQ W=32/\ks.length=5)\/(SQ W=128/\ks.length=19))
  (h:∀(h':Sn) ks' es' ep' t',R_ a s.heap h'->ks.Perm ks'->iN K J h' a led ks' es' ep' t'->Q () {s with heap:=h'}):Rg (Rk prog w) A (setRelay a W) Q E s:=by
 have hsz:es.size=ks.length:=by rw [<-Q3,en.length]
 have hm:kR (SQ W - 1):=by rcases hW with ⟨h,_⟩ | ⟨h,_⟩ <;> rw [h];exact .inr (.inl rfl);exact .inr (.inr rfl)
 obtain ⟨t',QI,L',e1,e2,e3,e4,e5,e6⟩:=vt (t:=t) (es:=es) hm (by rcases hW with ⟨h,_⟩ | ⟨h,_⟩ <;> rw [h] <;> omega)
 unfold setRelay
 refine QJ (SE ho rfl (cO T) ?_)
 dsimp only
 rw [if_neg (by rw [RS];rcases hW with ⟨h,_⟩ | ⟨h,_⟩ <;> rw [h] <;> omega)]
 have sz':(QI.filterMap (es[·]?)).size=es.size:=by
  rw [<-Q3,e6.length_eq,Q3]
 rw [e1]
 have cnd:((QI.filterMap (es[·]?)).size != es.size)=false:=by rw [sz'];simp
 refine QJ (U3 (a:=(QI.filterMap (es[·]?),t')) ?_ ?_)
 ·show (if ((QI.filterMap (es[·]?)).size != es.size)=true then _ else pure (QI.filterMap (es[·]?),t'))=_
  rw [cnd]
  rfl
 ·dsimp only
  obtain ⟨ks',p1,p2⟩:=en.perm e6.symm
  refine VD ho rfl ?_ (by rw [sz',RS];rcases hW with ⟨_,h⟩ | ⟨_,h⟩ <;> omega)
  have hg:=SG (WO (QI.filterMap (es[·]?)) t') ho rfl
  refine h _ ks' _ _ _ (Sw _ _ _) p1 ⟨hg,⟨L',e5⟩,e4.trans hp,e3.trans hl,?_,p2,p1.nodup_iff.mp nd⟩
  rw [<-p1.length_eq,e2]
  rcases hW with ⟨h,h'⟩ | ⟨h,h'⟩ <;> rw [h,h'] <;> omega
theorem Hw {a:Q4}{es:Array (Int×QM)}{ep:Nat}{t:RX}{led:Bool}{ks:List D}{x:QM}{d:D}{Q:Bool->QN->Prop}(N:HF K J s) (S:iN K J s.heap a led ks es ep t) (hx:KV K J x d) (hu:A.units + 8 < Sy) (hl:ks.length < 76)
  (q1:d∈ks->Q false s) (q2:d∉ks->∀(h':Sn) ks' es' ep' t',R_ a s.heap h'->(d::ks).Perm ks'->iN K J h' a led ks' es' ep' t'->Q true {s with heap:=h'}):
  Rg (Rk prog w) A (XD a x (bT d)) Q E s:=by
 obtain ⟨L,T⟩:=S.tab
 have lenL:L.length=ks.length:=by rw [nc T,<-Q3,S.en.length]
 obtain ⟨n0,b1,b2,b3⟩:=sf T.mo (bT d) (L.map (·.1)) (by rw [QO];exact T.fl)
 have hj:pos t.mask (bT d) n0<=t.mask:=yv _ _ _
 (unfold XD aad)
 refine Ru (QJ (SE S.at_ rfl (cO T) ?_))
 dsimp only
 have ns:byScan x es=false:=by
  obtain ⟨⟨xa,rfl⟩,_⟩:=hx
  rfl
 rw [ns]
 (simp only [Rf,if_false])
 unfold setSearch
 refine QJ (search N S.at_ rfl T S.en hx hu n0 b2 b3 b1 (λhm=>?_) (λhm=>?_) 100000 0 none (RA _) (by rcases T.mo with h | h | h <;> rw [h] at b1 <;> omega) rfl (λk hk=>absurd hk (RZ _)))
 ·exact QL (q1 hm)
 ·dsimp only
  refine QJ (SE S.at_ rfl (cO T) ?_)
  dsimp only
  obtain ⟨L',T',pm⟩:=T.put (bT d) x n0 b2 b3 hj (by have:=S.rm;rcases T.mo with h | h | h <;> rw [h] at this <;> omega)
  have fl:(t.put (pos t.mask (bT d) n0)).1.mask=t.mask/\(t.put (pos t.mask (bT d) n0)).1.plain=t.plain/\(t.put (pos t.mask (bT d) n0)).1.led=t.led:=⟨rfl,rfl,rfl⟩
  generalize t.put (pos t.mask (bT d) n0)=tp at T' fl ⊢
  obtain ⟨t',p⟩:=tp
  dsimp only at T' fl ⊢
  obtain ⟨f1,f2,f3⟩:=fl
  have en':∃ks',(d::ks).Perm ks'/\fE K J (SH es p (bT d,x)).toList ks':=by
   refine fE.perm (es:=(bT d,x)::es.toList) ?_ (.cons rfl hx S.en)
   rw [T'.en,T.en]
   have:=pm.map (·.2)
   exact this.symm
  obtain ⟨ks',p1,p2⟩:=en'
  have nd':ks'.Nodup:=p1.nodup_iff.mp (SM.mpr ⟨hm,S.nd⟩)
  have lk:ks'.length=ks.length + 1:=by rw [<-p1.length_eq];rfl
  rw [f2,S.pl]
  simp only [if_true]
  refine QJ (D0 8 N hx.key ?_)
  simp only [if_true]
  have esz:(SH es p (bT d,x)).size=ks'.length:=by rw [<-Q3,p2.length]
  refine QJ (VD S.at_ rfl ?_ (by rw [esz,RS];omega))
  have hg:=SG (WO (SH es p (bT d,x)) t') S.at_ rfl
  have hfill:t'.fill=ks'.length:=by
   unfold YM
   rw [T'.dm,<-Q3,T'.pl,QO,nc T',esz]
   rfl
  have hes:es.size=ks.length:=by rw [<-Q3,S.en.length]
  split
  ·rename_i c
   simp only [VF,UM] at c
   unfold VT at c
   rw [hfill,f1,decide_eq_true_eq] at c
   have rm:=S.rm
   refine QJ (MG (s:={s with heap:=s.heap.update a (WO (SH es p (bT d,x)) t')}) hg T' (f2.trans S.pl) (f3.trans S.ld) p2 nd' _ ?_ λh' ks2 es2 ep2 t2 g1 g2' g3=>?_)
   ·rw [hes]
    unfold VG
    rw [if_neg (by omega)]
    rcases T.mo with h | h | h
    ·rw [h] at c rm
     have:ks.length + 1=5:=by omega
     rw [this]
     exact .inl ⟨zX,by omega⟩
    ·rw [h] at c rm
     have:ks.length + 1=19:=by omega
     rw [this]
     exact .inr ⟨zY,by omega⟩
    ·rw [h] at c;omega
   ·exact QL (q2 hm h' ks2 es2 ep2 t2 ((Sw _ _ _).trans g1) (p1.trans g2') g3)
  ·rename_i c
   simp only [VF,UM] at c
   unfold VT at c
   rw [hfill,f1,decide_eq_true_eq] at c
   exact QL (q2 hm _ ks' _ _ _ (Sw _ _ _) p1 ⟨hg,⟨L',T'⟩,f2.trans S.pl,f3.trans S.ld,by rw [f1];omega,p2,nd'⟩)
end
theorem iN.keep {K:QK}{J:Hp}{h h':Sn}{a:Q4}{led:Bool}{ks:List D}{es:Array (Int×QM)}{ep:Nat}{t:RX}(S:iN K J h a led ks es ep t) (e:∀o,h.get? a=some o->h'.get? a=some o):iN K J h' a led ks es ep t:=
 ⟨e _ S.at_,S.tab,S.pl,S.ld,S.rm,S.en,S.nd⟩
section
variable {prog:Rb}{w:RD}{A:RG}{R:ZD->QN->Prop}{I:Q4}{fp wr:List Q4}{G:Array Yq->Array Yq->Prop}{n:Nat}{P:Nat->QM->Prop}{St:Nat->QN->Prop}{K:QK}{J:Hp}
theorem GB (W:WalksS prog w A.in1 I fp wr G n P St) (S:Q4) (hSf:S∉fp) (val:Nat->D) (hval:∀i v,P i v->KV K J v (val i)){s0:QN}(N0:HF K J s0) (hnew:∀b∈S::wr,s0.heap.get? b=none) (hu:A.in1.units + 8 < Sy) (hn:n<=76){led:Bool}:
  ∀(k i:Nat) (s:QN) (ks:List D) (es:Array (Int×QM)) (ep:Nat) (t:RX),n - i=k->i<=n->St i s->(∀b o,s0.heap.get? b=some o->s.heap.get? b=some o)->iN K J s.heap S led ks es ep t->(∀d,d∈ks↔d∈(QU i).map val)->
   (∀s' ks' es' ep' t',Moved (S::wr) G s s'->iN K J s'.heap S led ks' es' ep' t'->(∀d,d∈ks'↔d∈(QU n).map val)->R (.ok (.ret .none)) s')->
   (TH (Rk prog w) A (.builtin "set.update.loop" ⟨[.ref S,.ref I],[]⟩) R s):=by
 (have O6:S∉wr:=λh=>hSf (W.sub _ h))
 (have hsub:∀b∈wr,b∈S::wr:=λb hb=>QS _ hb)
 have old:∀b o,s0.heap.get? b=some o->b∉S::wr:=λb o e hm=>by rw [hnew b hm] at e;cases e
 intro k
 induction k with
 | zero=>
  intro i s ks es ep t hk hi hst hb hS hm hR
  have hin:i=n:=by omega
  subst hin
  refine Tc Su ?_
  rw [SS Ry _]
  (show Rg _ A.in1 (Vq (.ref I) >>= _) _ _ s)
  refine QJ (W.done s _ _ hst λs' OH=>?_)
  (show Rg _ A.in1 (ret RN) _ _ s')
  exact QL (hR s' ks es ep t (OH.mono hsub) (hS.keep λo e=>OH.heap S o O6 e) hm)
 | succ k ih=>
  intro i s ks es ep t hk hi hst hb hS hm hR
  have hlt:i < n:=by omega
  have hlen:ks.length<=i:=by
   have:=Rp hS.nd (λd hd=>(hm d).mp hd)
   simpa using this
  refine Tc Su ?_
  rw [SS Ry _]
  (show Rg _ A.in1 (Vq (.ref I) >>= _) _ _ s)
  refine QJ (W.item i s _ _ hlt hst λv s' hP OQ OH=>?_)
  have hx:=hval i v hP
  obtain ⟨_,x1,x2,vv,x3,x4⟩:=id hx
  have hS':=hS.keep (h':=s'.heap) λo e=>OH.heap S o O6 e
  have hb':∀b o,s0.heap.get? b=some o->s'.heap.get? b=some o:=λb o e=>OH.heap b o (λhm=>old b o e (hsub b hm)) (hb b o e)
  have N':HF K J s':=N0.keep hb'
  have mem':∀(ks':List D),(∀d,d∈ks'↔d=val i\/d∈ks)->∀d,d∈ks'↔d∈(QU (i + 1)).map val:=λks' h d=>by
   rw [h d,hm d,We,Ro,Rx]
   simp only [Ra,VI,Q9]
   exact Or.comm
  show Rg _ A.in1 (holding [v] (setAdd S v) >>= _) _ _ s'
  (refine QJ (Ru ?_))
  unfold setAdd
  refine Ru ?_
  refine QJ (uM (val i) vv v A.in1 s' N' x1 x3 x4 (by omega) _ _ _ N' ?_)
  refine Hw (s:={s' with toks:=s'.toks + jL (val i)}) (⟨N'.t,N'.l,N'.e,N'.d⟩:HF K J {s' with toks:=s'.toks + jL (val i)}) hS' hx hu (by omega) (λhin=>?_) (λhin h' ks' es' ep' t' O5 PL Pj=>?_)
  ·refine QL ⟨UN Ry _,ih (i + 1) _ ks es ep t (by omega) hlt (W.frame _ s' _ _ OQ (UY _ _) λb hb o e=>e) hb' hS' (mem' ks λd=>⟨.inr,λh=>h.elim (λh=>h▸hin) id⟩) λs'' ks'' es'' ep'' t'' hm'' hS'' OS=>?_⟩
   exact hR s'' ks'' es'' ep'' t'' (Yn W.gtrans ((OH.mono hsub).then_heap (UY _ _) λb o hb e=>e) hm'') hS'' OS
  ·refine QL ⟨UN Ry _,ih (i + 1) _ ks' es' ep' t' (by omega) hlt (W.frame _ s' _ _ OQ (UY _ _) λb hb o e=>?_) (λb o e=>?_) Pj (mem' ks' λd=>?_) λs'' ks'' es'' ep'' t'' hm'' hS'' OS=>?_⟩
   ·(rw [O5.2 b (λh:b=S=>hSf (by rw [<-h];exact hb))];exact e)
   ·show h'.get? b=some o
    rw [O5.2 b (λh:b=S=>old b o e (by rw [h];exact QW))]
    exact hb' b o e
   ·rw [<-PL.mem_iff,Rc]
   ·refine hR s'' ks'' es'' ep'' t'' (Yn W.gtrans ((OH.mono hsub).then_heap (UY _ _) λb o hb e=>?_) hm'') hS'' OS
    (rw [O5.2 b (λh:b=S=>hb (by rw [h];exact QW))];exact e)
end
theorem Cc {K:QK}{J:Hp}{h:Sn}{a:Q4}{led:Bool}(e:h.get? a=some {cls:=.type "set",dict:=none,data:=.set #[] 0 (.fresh 0 0 led)}):iN K J h a led [] #[] 0 (.fresh 0 0 led):=
 ⟨e,⟨[],⟨rfl,rfl,rfl,SX,(λ_ h=>nomatch h),.inl rfl,RA _,(λ_ h=>nomatch h)⟩⟩,rfl,rfl,(show 0 * 5 < 7 * 3 by decide),.nil,T6⟩
end DL
namespace ST
open PySem PySem.SetTable
theorem xy {xs:Array Nat}{i j:Nat}(hs:xs.toList.Pairwise (· < ·)) (hi:i<=xs.size) (h1:∀k,k < i->xs.getD k 0 < j) (h2:∀k,i<=k->k < xs.size->j<=xs.getD k 0):below xs j=i:=by
 obtain ⟨b1,b2,b3⟩:=nt xs j hs
 rcases UJ (below xs j) i with c | c | c
 ·have:=h1 _ c
  have:=b3 _ (QY _) (by omega)
  omega
 ·exact c
 ·have:=b2 _ c
  have:=h2 i (QY _) (by omega)
  omega
theorem Bh {xs:Array Nat}(hs:xs.toList.Pairwise (· < ·)):below xs 0=0:=xy hs (RA _) (λk h=>absurd h (RZ _)) λk _ _=>RA _
theorem Bg {xs:Array Nat}{i j:Nat}(hs:xs.toList.Pairwise (· < ·)) (h:xs[i]?=some j):below xs (j + 1)=i + 1:=by
 obtain ⟨hi,e⟩:=R3.mp h
 have sw:=Sq.mp hs
 have gd:∀k (hk:k < xs.size),xs.getD k 0=xs[k]:=λk hk=>by simp [S0,hk]
 refine xy hs (by omega) (λk hk=>?_) (λk h1 h2=>?_)
 ·rw [gd k (by omega)]
  by_cases c:k=i
  ·subst c;omega
  ·have:=sw k i (by simp;omega) (by simpa using hi) (by omega)
   simp at this
   omega
 ·rw [gd k h2]
  have:=sw i k (by simpa using hi) (by simpa using h2) (by omega)
  simp at this
  omega
theorem vn {α:Type}(next:Nat->Nat):∀(f k:Nat) (left:List α) (out:Array α),f=left.length->(Zo next f k left out).toList.Perm (out.toList++left)
 | 0,k,left,out,h=>by
  have:left=[]:=Tr.mp h.symm
  subst this
  unfold Zo
  simp
 | f + 1,k,left,out,h=>by
  have hl:next k % left.length < left.length:=WL _ (by omega)
  unfold Zo
  rw [Q5 hl]
  dsimp only
  refine (vn next f (k + 1) _ _ (by rw [VZ];simp [hl];omega)).trans ?_
  rw [Za,UO]
  (refine aa7 _ ?_)
  have e1:left.eraseIdx (next k % left.length)=left.take (next k % left.length)++left.drop (next k % left.length + 1):=S4 _ _
  have e2:left=left.take (next k % left.length)++left[next k % left.length]::left.drop (next k % left.length + 1):=by
   rw [Vv,UC]
  rw [e1,VL]
  exact (Xf.symm).trans (ZS e2.symm)
theorem BQ {α:Type}(next:Nat->Nat) (xs:Array α):(ZT next xs).toList.Perm xs.toList:=by
 have h:=vn next xs.size 0 xs.toList #[] (by simp)
 rw [show (#[]:Array α).toList++xs.toList=xs.toList from rfl] at h
 exact h
end ST
namespace DL
open PySem PySem.Spec PyProof.Rows L2 ST
structure iO (h:Sn) (a:Q4) (led:Bool) (es:Array (Int×QM)) (ep:Nat) (t:RX):Prop where
 at_:h.get? a=some {cls:=.type "set",dict:=none,data:=.set es ep t}
 tab:∃L,Tab t es L
 pl:t.plain=true
 ld:t.led=led
theorem iO.keep {h h':Sn}{a:Q4}{led:Bool}{es:Array (Int×QM)}{ep:Nat}{t:RX}(S:iO h a led es ep t) (e:∀o,h.get? a=some o->h'.get? a=some o):iO h' a led es ep t:=⟨e _ S.at_,S.tab,S.pl,S.ld⟩
theorem iN.wk {K:QK}{J:Hp}{h:Sn}{a:Q4}{led:Bool}{ks:List D}{es:Array (Int×QM)}{ep:Nat}{t:RX}(S:iN K J h a led ks es ep t):iO h a led es ep t:=⟨S.at_,S.tab,S.pl,S.ld⟩
noncomputable abbrev lg (w:RD):Bool:=!w.params.followText "set-order"
noncomputable def fT (w:RD) (a ep:Nat) (es:Array (Int×QM)):Array (Int×QM):=if w.params.followText "set-order"=true then ZT (w.params.setOrder a ep) es else es
theorem l_ (w:RD) (a ep:Nat) (es:Array (Int×QM)):(fT w a ep es).toList.Perm es.toList:=by
 unfold fT
 split
 ·exact BQ _ _
 ·exact .refl _
theorem mh (w:RD) (a ep:Nat) (es:Array (Int×QM)):(fT w a ep es).size=es.size:=by
 rw [<-Q3,(l_ w a ep es).length_eq,Q3]
noncomputable abbrev n_ (a:Q4) (slot i n ep:Nat):Obj:={cls:=.type "set_iterator",data:=.fields #[.int slot 0,.int i 0,.ref a,.int n 0,.int ep 0]}
theorem r6:abE table "set.__iter__"=some U1.«frozenset.__iter__»:=
 (aae (id':="frozenset.__iter__") (by kernel_rfl) rfl (by decide +kernel) (by kernel_rfl))
theorem fR:Slot "set_iterator" "__next__" "set_iterator.__next__":=
 (.of (owner:="set_iterator") (n:="__next__") (by rw [XG,VM];kernel_rfl) (by decide +kernel) (by decide +kernel) (by decide +kernel)
  (by first | exact .inl (by decide +kernel) | exact .inr (by decide +kernel)) (by rw [Ww];kernel_rfl))
theorem n6:abE table "set_iterator.__next__"=some U1.«set_iterator.__next__»:=(entryFor_of_tree (by kernel_rfl))
theorem oF (a:QM):argsOk "set_iterator.__next__" ⟨[a],[]⟩:=by unfold argsOk;kernel_rfl
section
variable {prog:Rb}{w:RD}{A:RG}{E:QM->QN->Prop}{s:QN}
theorem E8 {a:Q4}{led:Bool}{es:Array (Int×QM)}{ep:Nat}{t:RX}{Q:QM->QN->Prop}(S:iO s.heap a led es ep t)
  (hQ:Q (.ref s.heap.objs.size) {s with heap:=s.heap.push (n_ a 0 0 es.size ep)}):Rg (Rk prog w) A (WD (.ref a)) Q E s:=by
 obtain ⟨L,T⟩:=S.tab
 have hT:s.TypeIs (.ref a) "set":=⟨_,S.at_,rfl⟩
 refine WQ hT ZU (RL ZU hT r6 ?_ (F.args_set_iter_1 _))
 show Rg _ _ (WR a >>= _) _ _ s
 unfold WR
 refine QJ (QJ (Wf S.at_ rfl (cO T) (QL ?_)))
 unfold setDrawn aav
 refine QJ (QJ (SE S.at_ rfl (cO T) (QJ (QJ (TQ (QL (QL ?_)))))))
 dsimp only
 split
 ·rename_i c
  have c:(!w.params.followText "set-order" && (!t.plain && decide (es.size > 1)))=true:=c
  rw [S.pl] at c
  simp at c
 ·(refine QJ (QL ?_))
  refine QJ (wpAny_setEpoch_of S.at_ rfl (cO T) ?_)
  (refine QJ (Rw ?_))
  exact QL ⟨_,rfl,"set_iterator",_,⟨_,Q7 _ rfl,rfl⟩,fR.lookup,hQ⟩
theorem yS {a:Q4}{es:Array (Int×QM)}{ep:Nat}{t:RX}{slot i:Nat}{Q:Option (QM×Nat)->QN->Prop}(S:iO s.heap a (lg w) es ep t) (hb:w.params.followText "set-order"=false->UX t.place slot=i)
  (q1:∀e slot',(fT w a ep es)[i]?=some e->(w.params.followText "set-order"=false->UX t.place slot'=i + 1)->Q (some (e.2,slot')) s) (q2:(fT w a ep es)[i]?=none->Q none s):
  Rg (Rk prog w) A (setNext a slot i ep) Q E s:=by
 obtain ⟨L,T⟩:=S.tab
 unfold setNext aav
 refine QJ (SE S.at_ rfl (cO T) ?_)
 dsimp only
 (refine QJ (QJ (TQ (QL ?_))))
 dsimp only
 cases bt:w.params.followText "set-order" with
 | true=>
  rw [show (Rk prog w).w.params.followText "set-order"=true from bt]
  simp only [if_true,bne_self_eq_false,Rf,if_false]
  unfold setWalk aav
  refine QJ (QJ (SE S.at_ rfl (cO T) ?_))
  dsimp only
  (refine QJ (QJ (TQ (QL ?_))))
  dsimp only
  rw [show (Rk prog w).w.params.followText "set-order"=true from bt]
  simp only [if_true]
  refine QJ (TQ (QL ?_))
  dsimp only
  have ew:fT w a ep es=ZT ((Rk prog w).w.params.setOrder a ep) es:=by unfold fT;rw [if_pos bt];rfl
  rw [ew] at q1 q2
  cases q:(ZT ((Rk prog w).w.params.setOrder a ep) es)[i]? with
  | none=>exact QL (q2 q)
  | some e=>exact QL (q1 e slot q λz=>absurd (bt.symm.trans z) (by decide))
 | false=>
  rw [show (Rk prog w).w.params.followText "set-order"=false from bt]
  (simp only [Rf,if_false])
  have ew:fT w a ep es=es:=by unfold fT;rw [if_neg (by rw [bt];decide)]
  rw [ew] at q1 q2
  have Pu:t.led=true:=by rw [S.ld];show (!w.params.followText "set-order")=true;rw [bt];rfl
  split
  ·rename_i c
   have c:(!t.plain && decide (es.size > 1))=true:=c
   rw [S.pl] at c
   simp at c
  ·refine QJ (U3 (a:=()) ?_ ?_)
   ·show (if (!t.led && !es.isEmpty)=true then _ else pure ())=pure ()
    rw [Pu]
    rfl
   ·rw [hb bt]
    cases q:es[i]? with
    | none=>exact QL (q2 q)
    | some e=>
     have hlen:i < t.place.size:=by
      have h1:=(R3.mp q).1
      have h2:t.place.size=es.size:=by rw [<-Q3,T.pl,QO,nc T]
      omega
     have ep':t.place[i]?=some t.place[i]:=T7 hlen
     rw [ep']
     exact QL (q1 e _ q λ_=>Bg T.sop ep')
theorem Fp {I a:Q4}{es:Array (Int×QM)}{ep:Nat}{t:RX}{slot i:Nat}{Q:Option QM->QN->Prop}(hne:a≠I) (S:iO s.heap a (lg w) es ep t) (hI:s.heap.get? I=some (n_ a slot i es.size ep)) (hb:w.params.followText "set-order"=false->UX t.place slot=i) (hi:i < es.size)
  (hQ:∀h' slot' e,(fT w a ep es)[i]?=some e->h'.get? I=some (n_ a slot' (i + 1) es.size ep)->(w.params.followText "set-order"=false->UX t.place slot'=i + 1)->R_ I s.heap h'->Q (some e.2) {s with heap:=h'}):
  Rg (Rk prog w) A (Vq (.ref I)) Q E s:=by
 obtain ⟨L,T⟩:=S.tab
 have hT:s.TypeIs (.ref I) "set_iterator":=⟨_,hI,rfl⟩
 unfold Vq
 refine QJ (Vg (Sj (name:=U5 "__next__") hT fR (RL fR hT n6 ?_ (oF _))))
 show Rg _ _ (fieldsOf (.ref I) >>= _) _ _ s
 refine QJ (Wx hI rfl ?_)
 dsimp only
 refine QJ (Wf S.at_ rfl (cO T) ?_)
 simp only [bne_self_eq_false,Rf,if_false,Sz]
 refine QJ (yS S hb (λe slot' q1 q2=>?_) λq=>?_)
 ·dsimp only
  refine QJ (Wr hI (by simp) λh1 g1 b1=>?_)
  refine QJ (Wr (s:={s with heap:=h1}) g1 (by simp) λh2 g2' b2=>?_)
  exact QL ⟨_,rfl,QL (hQ h2 slot' e q1 (g2'.trans (by simp [aal])) q2 (b1.trans b2))⟩
 ·exfalso
  have:=(Array.getElem?_eq_none_iff.mp q)
  rw [mh] at this
  omega
theorem HM {I a:Q4}{es:Array (Int×QM)}{ep:Nat}{t:RX}{slot:Nat}{Q:Option QM->QN->Prop}(hh:A.handled=none) (S:iO s.heap a (lg w) es ep t) (hI:s.heap.get? I=some (n_ a slot es.size es.size ep)) (hb:w.params.followText "set-order"=false->UX t.place slot=es.size)
  (hQ:∀h',abx I s.heap h'->Q none {s with heap:=h'}):Rg (Rk prog w) A (Vq (.ref I)) Q E s:=by
 obtain ⟨L,T⟩:=S.tab
 have hT:s.TypeIs (.ref I) "set_iterator":=⟨_,hI,rfl⟩
 unfold Vq
 refine QJ (Vg (Sj (name:=U5 "__next__") hT fR (RL fR hT n6 ?_ (oF _))))
 show Rg _ _ (fieldsOf (.ref I) >>= _) _ _ s
 refine QJ (Wx hI rfl ?_)
 dsimp only
 refine QJ (Wf S.at_ rfl (cO T) ?_)
 simp only [bne_self_eq_false,Rf,if_false,Sz]
 refine QJ (yS S hb (λe slot' q1 q2=>?_) λq=>?_)
 ·exfalso
  have:=(R3.mp q1).1
  rw [mh] at this
  omega
 ·dsimp only
  refine QJ (Wr hI (by simp) λh1 g1 b1=>?_)
  refine QJ ?_
  simp only [newExc,newTuple]
  (refine QJ (Rw ?_ (by size_fits)))
  (refine QJ (m:=Wy _ _) (U3 (a:=RN) (by first | rfl | (simp only [Wy];rfl)) ?_))
  (refine Rw ?_ (by size_fits))
  simp only [raiseNew]
  (refine QJ (aaP ?_))
  (first | rw [show A.in1.handled=none from hh] | rw [hh])
  (refine QJ (QL (wpAny_throw ?_)))
  (refine QJ (VS (T:="StopIteration") (b:=true) ⟨_,Q7 _ rfl,rfl⟩ aaf ?_))
  exact QL (hQ _ ((b1.extBut.push _).push _))
end
theorem wA:typeLookup (.type "set") "__len__"=pure (some (.builtin "set.__len__")):=by rw [XG,VM];kernel_rfl
theorem Eu {M:abd}{A:RG}{E:QM->QN->Prop}{s:QN}{α:Type}{c:Prop} [Decidable c] {m1 m2:Sem α}{Q:α->QN->Prop}(hc:c) (h:Rg M A m1 Q E s):Rg M A (if c then m1 else m2) Q E s:=by rw [if_pos hc];exact h
theorem E6 {prog:Rb}{w:RD}{A:RG}{E:QM->QN->Prop}{s:QN}{a:Q4}{Q:Bool->QN->Prop}(hT:s.TypeIs (.ref a) "set") (hQ:Q false s):Rg (Rk prog w) A (Wg (.ref a)) Q E s:=by
 have sp:splitId "set.__len__"=some ("set","__len__"):=by decide +kernel
 (unfold Wg)
 refine QJ (Vm hT wA ?_)
 dsimp -zeta only
 rw [sp]
 dsimp -zeta only
 refine QJ (m:=aaq (.ref a) (.type "set")) (VS hT sub_set_self ?_)
 (show Rg _ _ (if (!true)=true then _ else _) _ _ _)
 rw [if_neg (by decide)]
 refine Eu (by decide +kernel) ?_
 (refine QJ (U6 hT ?_))
 exact QL hQ
theorem pH:Slot "set_iterator" "__iter__" "set_iterator.__iter__":=
 ((.of (owner:="set_iterator") (n:="__iter__") (by rw [XG,VM];kernel_rfl) (by decide +kernel) (by decide +kernel) (by decide +kernel)
  ((by first | exact .inl (by decide +kernel) | exact .inr (by decide +kernel))) (by rw [Ww];kernel_rfl)))
theorem v5:abE table "set_iterator.__iter__"=some U1.«dict_keyiterator.__iter__»:=
 (aae (id':="dict_keyiterator.__iter__") (by kernel_rfl) rfl (by decide +kernel) (by kernel_rfl))
theorem xu (a:QM):argsOk "set_iterator.__iter__" ⟨[a],[]⟩:=by unfold argsOk;kernel_rfl
section
variable {prog:Rb}{w:RD}{A:RG}{E:QM->QN->Prop}{s:QN}
noncomputable def ie (w:RD) (a ep:Nat) (es:Array (Int×QM)):List QM:=(fT w a ep es).toList.map (·.2)
theorem Et (hh:A.handled=none) (I a:Q4) (hne:a≠I){es:Array (Int×QM)}{ep:Nat}{t:RX}:
  Walks prog w A I [I,a] [I] es.size (λi v=>(ie w a ep es)[i]?=some v) (λi h=>∃slot,h.get? I=some (n_ a slot i es.size ep)/\iO h a (lg w) es ep t/\(w.params.followText "set-order"=false->UX t.place slot=i)) where
 sub:=λ_ hb=>by simp at hb;simp [hb]
 frame:=λ_ _ _ ⟨slot,h1,h2,h3⟩ hk=>⟨slot,hk I (by simp) _ h1,h2.keep λo e=>hk a (by simp) o e,h3⟩
 item:=λi s Q E hi ⟨slot,h1,h2,h3⟩ hQ=>by
  refine Fp hne h2 h1 h3 hi λh' slot' e q1 q2 q3 q4=>?_
  refine hQ e.2 h' s.toks ?_ ⟨slot',q2,h2.keep λo e=>?_,q3⟩ λb o hb e=>?_
  ·unfold ie;rw [Rj,Se,q1];rfl
  ·rw [q4.2 a hne];exact e
  ·exact q4.extBut b o (λh=>hb (by simp [h])) e
 done:=λs Q E ⟨slot,h1,h2,h3⟩ hQ=>HM hh h2 h1 h3 λh' he=>hQ h' s.toks λb o hb e=>he b o (λh=>hb (by simp [h])) e
 self:=λi s Q E ⟨slot,h1,h2,h3⟩ hQ=>by
  have hT:s.TypeIs (.ref I) "set_iterator":=⟨_,h1,rfl⟩
  refine WQ hT pH (RL pH hT v5 ?_ (xu _))
  show Rg _ _ (ret (.ref I)) _ _ s
  exact QL ⟨_,rfl,"set_iterator",_,hT,fR.lookup,hQ⟩
theorem zF {a:Q4}{es:Array (Int×QM)}{ep:Nat}{t:RX}{Q:List QM->QN->Prop}(hh:A.handled=none) (S:iO s.heap a (lg w) es ep t) (hn:es.size<=76)
  (hQ:∀(h':Sn) (tk:Nat),(∀b o,s.heap.get? b=some o->h'.get? b=some o)->s.heap.objs.size < h'.objs.size->Q (ie w a ep es) {s with heap:=h',toks:=tk}):Rg (Rk prog w) A (collect (.ref a)) Q E s:=by
 have ha:a < s.heap.objs.size:=Q8 S.at_
 have hT:s.TypeIs (.ref a) "set":=⟨_,S.at_,rfl⟩
 unfold collect
 (refine QJ (Ye (Tc F.entry_proto_collect ?_)))
 (rw [SS F.plain_proto_collect _])
 show Rg _ A.in1 (newList [] >>= λl=>again (.builtin "list.__iadd__" ⟨[l,.ref a],[]⟩)) _ _ s
 (refine QJ (Rw ?_))
 (refine QL ⟨UN Zc _,Tc F.entry_list_iadd ?_⟩)
 (rw [SS Zc _])
 generalize Qk:({cls:=.type "list",data:=.seq ([]:List QM).toArray}:Obj)=l0
 have S1:iO (s.heap.push l0) a (lg w) es ep t:=S.keep λo e=>QV _ e
 have hT1:Vo {s with heap:=s.heap.push l0} (.ref a) "set":=⟨_,S1.at_,rfl⟩
 show Rg _ A.in1 (Wh (.ref s.heap.objs.size) (.ref a) (.ref s.heap.objs.size)) _ _ _
 (unfold Wh)
 refine QJ (U6 hT1 ?_)
 have h1:aaw (.ref s.heap.objs.size) (.ref a)=false:=by
  show (s.heap.objs.size == a)=false
  exact beq_eq_false_iff_ne.mpr (UB ha)
 have h2:(UD "set" == UD "list")=false:=by decide
 have h3:(UD "set" == UD "tuple")=false:=by decide
 (simp only [h1,h2,h3,aaE,Rf,if_false])
 refine QJ (E8 S1 ?_)
 (refine QJ (Ru ?_))
 have z1:(s.heap.push l0).objs.size=s.heap.objs.size + 1:=Ux _ _
 rw [z1]
 have S2:iO ((s.heap.push l0).push (n_ a 0 0 es.size ep)) a (lg w) es ep t:=S1.keep λo e=>QV _ e
 have hT2:Vo {s with heap:=(s.heap.push l0).push (n_ a 0 0 es.size ep)} (.ref a) "set":=⟨_,S2.at_,rfl⟩
 refine E6 hT2 ?_
 refine Eu (by decide +kernel) ?_
 (refine QJ (WI ?_))
 subst Qk
 have hI:((s.heap.push {cls:=.type "list",data:=.seq ([]:List QM).toArray}).push (n_ a 0 0 es.size ep)).get? (s.heap.objs.size + 1)=some (n_ a 0 0 es.size ep):=by rw [<-z1];exact Q7 _ rfl
 have hS₁:((s.heap.push {cls:=.type "list",data:=.seq ([]:List QM).toArray}).push (n_ a 0 0 es.size ep)).get? s.heap.objs.size=some {cls:=.type "list",data:=.seq ([]:List QM).toArray}:=QV _ (Q7 _ rfl)
 refine QJ ?_
 (show Rg _ A.in1 (updateSeq s.heap.objs.size (·.push .none) >>= λ_=>updateSeq s.heap.objs.size (·.pop)) _ _ _)
 (refine QJ (Wa hS₁ rfl ?_))
 (have hS₂:=SG (SA (·.push RN)) hS₁ rfl)
 (refine Wa hS₂ rfl ?_)
 (have hS₃:=SG (SA (·.pop)) hS₂ rfl)
 have oth:∀b o,b≠s.heap.objs.size->((s.heap.push {cls:=.type "list",data:=.seq ([]:List QM).toArray}).push (n_ a 0 0 es.size ep)).get? b=some o->
   ((((s.heap.push {cls:=.type "list",data:=.seq ([]:List QM).toArray}).push (n_ a 0 0 es.size ep)).update s.heap.objs.size (SA (·.push RN))).update s.heap.objs.size (SA (·.pop))).get? b=some o:=
  (λb o hb e=>(Vt _ _ (Tt hb)).trans ((Vt _ _ (Tt hb)).trans e))
 have hne:a≠s.heap.objs.size + 1:=Rn (S3 ha)
 have hSf:s.heap.objs.size∉[s.heap.objs.size + 1,a]:=by
  simp only [Rc,SW,or_false,not_or]
  exact ⟨Rn (TM _),UB ha⟩
 obtain ⟨L,T⟩:=S.tab
 refine QL ⟨UN F.plain_extend_loop _,codeAny_extend_loopS ((Et (A:=A.in1) (prog:=prog) (w:=w) (es:=es) (ep:=ep) (t:=t) hh (s.heap.objs.size + 1) a hne).toS) (by rw [RS];omega) _ hSf _ es.size 0 _ _ _ rfl (RA _)
  ⟨0,oth _ _ (UB (TM _)) hI,S2.keep λo e=>oth _ _ (Rn ha) e,λ_=>Bh T.sop⟩ hS₃ (ItemsOf.nil _) λs' acc' c' hm hS' hacc=>?_⟩
 (show Rg _ A (load s.heap.objs.size >>= _) _ _ s')
 (refine QJ (wpAny_load hS' ?_))
 have eacc:acc'.toList=ie w a ep es:=by
  obtain ⟨z,q⟩:=hacc
  have lw:(ie w a ep es).length=es.size:=by unfold ie;rw [QO,Q3,mh]
  refine Us (by rw [Q3,z,lw]) λi x1 x2=>?_
  have this:(ie w a ep es)[i]?=some (acc'[i]'(by simpa using x1)):=q i _ (T7 (by simpa using x1))
  rw [Q5 x2] at this
  (exact (R4 this).symm)
 refine QL ?_
 rw [eacc]
 (obtain ⟨h',g',d',tk',os'⟩:=s')
 (have eg:g'=s.gens:=hm.gens)
 (have ed:d'=s.drawn:=hm.drawn)
 have eo:os'=s.os:=hm.os
 subst eg;subst ed;subst eo
 refine hQ h' tk' (λb o e=>?_) (Q8 hS')
 have lb:=Q8 e
 refine hm.heap b o ?_ (oth b o (Rn lb) (QV _ (QV _ e)))
 simp only [Rc,SW,or_false,not_or]
 exact ⟨Rn lb,Rn (S3 lb)⟩
end
theorem vJ:isSubtype (.type "tuple") (.type "set")=pure false:=by rw [Ww];kernel_rfl
theorem vI:isSubtype (.type "tuple") (.type "frozenset")=pure false:=by rw [Ww];kernel_rfl
noncomputable abbrev eK (led:Bool):Obj:={cls:=.type "set",dict:=none,data:=.set #[] 0 (.fresh 0 0 led)}
noncomputable abbrev cL (w:RD):Bool:=!w.params.followText "set-order"
section
variable {prog:Rb}{w:RD}{A:RG}{E:QM->QN->Prop}{s:QN}{K:QK}{J:Hp}
theorem yR (a:QM){Q₁:QM->QN->Prop}(h:Q₁ (.ref s.heap.objs.size) {s with heap:=s.heap.push (eK (cL w))}):
  (TH (Rk prog w) A (.call (.builtin "set.__new__") ⟨[.type "set",a],[]⟩) (wants Q₁ E) s):=by
 refine (Vp ?_)
 (show Rg _ A.in1 (do Xb "set.__new__" ⟨[.type "set",a],[]⟩;again (.builtin "set.__new__" ⟨[.type "set",a],[]⟩)) _ _ s)
 refine QJ (U3 (PySem.F.newCall_set_1 a) (QL ⟨UN ZV _,Tc F.entry_set_new ?_⟩))
 (rw [SS ZV _])
 (unfold U1.«set.__new__» Z5)
 have hsub:=sub_set_self
 (obtain ⟨hp,g,d,tk,os⟩:=s)
 dsimp only
 wp_walk
 (refine TQ (QL ?_))
 dsimp only
 simp only [newObj]
 (refine QJ (wpAny_alloc (QL ?_)))
 exact QL h
theorem yT {l:Q4}{items:Array QM}{ds:List D}{Q:QM->QN->Prop}(N:HF K J s) (hh:A.handled=none) (hl:s.heap.IsTuple l items) (hz:items.size=ds.length) (hi:∀i v,items[i]?=some v->KV K J v (ds.getD i .non)) (hn:ds.length<=76) (hu:A.units + 16 < Sy)
  (h:∀(h':Sn) (tk:Nat) ks es ep t,iN K J h' s.heap.objs.size (cL w) ks es ep t->(∀d,d∈ks↔d∈ds)->(∀b o,b < s.heap.objs.size->s.heap.get? b=some o->h'.get? b=some o)->Q (.ref s.heap.objs.size) {s with heap:=h',toks:=tk}):
  (Rg (Rk prog w) A (call (.type "set") [.ref l]) Q E s):=by
 (obtain ⟨c,tl,Py⟩:=Sg.mro)
 (have hmade:=Sg.made)
 have hsub:=Sg.sub
 (refine XU (Vp ?_))
 (show Rg _ _ (callAny (.type "set") _) _ _ _)
 (refine QL ⟨YN _ (by decide +kernel),Tc Zd ?_⟩)
 (rw [YO (XH "set" [.ref l] []) rfl])
 (have h1:=Sg.notType)
 (have h2:=Sg.canCreate)
 have hct:=Xn (.ref l)
 (repeat (any_goals (first | assumption | wp_step)))
 refine TR (yR (.ref l) (E:=E) (Q₁:=λobj s₁=>obj=.ref s.heap.objs.size/\s₁={s with heap:=s.heap.push (eK (cL w))}) ⟨rfl,rfl⟩) λr s₁ hr=>?_
 cases r with
 | error e=>exact hr
 | ok fl=>
  cases fl with
  | ret obj=>
   obtain ⟨rfl,rfl⟩:=hr
   have hS:(s.heap.push (eK (cL w))).get? s.heap.objs.size=some (eK (cL w)):=Q7 _ rfl
   have hT:Vo {s with heap:=s.heap.push (eK (cL w))} (.ref s.heap.objs.size) "set":=⟨_,hS,rfl⟩
   (have hli:=Sg.init.lookup)
   (have hbi:=Sg.init.bind (.ref s.heap.objs.size))
   (repeat (any_goals (first | assumption | wp_step)))
   refine TR (VY (R:=wants (λr s₂=>r=.none/\∃h' tk ks es ep t,s₂={s with heap:=h',toks:=tk}/\iN K J h' s.heap.objs.size (cL w) ks es ep t/\(∀d,d∈ks↔d∈ds)/\
     (∀b o,b < s.heap.objs.size->s.heap.get? b=some o->h'.get? b=some o)) E) Sg.init.plain Zv ((Zw hT ?_))) λr₂ s₂ hr₂=>?_
   ·obtain ⟨ol,Pc,hcl,nl,hdl⟩:=id hl
    have OP:(s.heap.push (eK (cL w))).get? l=some ol:=QV _ Pc
    have PU:=vJ
    have PR:=vI
    have hne:(UD "tuple" == UD "dict")=false:=by decide
    have hl1:(s.heap.push (eK (cL w))).IsTuple l items:=⟨_,OP,hcl,nl,hdl⟩
    have P6:Vo {s with heap:=s.heap.push (eK (cL w))} (.ref l) "tuple":=⟨_,OP,hcl⟩
    (unfold U1.«set.__init__» noKeywords V2)
    generalize Ph:WD=PI
    wp_walk
    subst Ph
    refine (Wm hl1 ?_)
    refine (QJ (Ye ?_))
    (have hlS:l < s.heap.objs.size:=Q8 Pc)
    have z1:(s.heap.push (eK (cL w))).objs.size=s.heap.objs.size + 1:=Ux _ _
    have O3:l≠(s.heap.push (eK (cL w))).objs.size:=by rw [z1];exact Rn (S3 hlS)
    have hSf:s.heap.objs.size∉[(s.heap.push (eK (cL w))).objs.size,l]:=by
     rw [z1]
     simp only [Rc,SW,or_false,not_or]
     (exact ⟨Rn (TM _),UB hlS⟩)
    have hno:∀b,s.heap.objs.size<=b->s.heap.get? b=none:=λb hb=>by
     cases q:s.heap.get? b with
     | none=>rfl
     | some o=>exact absurd (Q8 q) (abK.mpr hb)
    have hval:∀(i:Nat) (v:QM),items[i]?=some v->KV K J v (ds.getD i .non):=hi
    have all:(QU items.size).map (λi=>ds.getD i .non)=ds:=by
     refine Us (by simp [hz]) λi a b=>?_
     simp [b]
    refine GB (A:=A.in1.in1) (K:=K) (J:=J) (s0:=s) (led:=cL w) ((aby (A:=A.in1.in1.in1) (by simp [hh]) (s.heap.push (eK (cL w))).objs.size l O3 items).toS) s.heap.objs.size hSf (λi=>ds.getD i .non) hval N (λb hb=>hno b ?_) (by simp only [in1_units];omega) (by omega) items.size 0 _ [] #[] 0 (.fresh 0 0 (cL w)) (by omega) (RA _) ⟨⟨_,Q7 _ rfl,rfl,rfl⟩,hl1.push _⟩ (λb o e=>QV _ (QV _ e)) (Cc (QV _ hS)) (λd=>by simp) λs' ks es ep t hm hS' hmem=>?_
    ·(rcases Rc.mp hb with rfl | hb)
     ·exact QY _
     ·rw [Q9.mp hb,z1];exact SN _
    ·rw [all] at hmem
     (obtain ⟨h',g',d',tk',os'⟩:=s')
     (have eg:g'=s.gens:=hm.gens)
     (have ed:d'=s.drawn:=hm.drawn)
     have eo:os'=s.os:=hm.os
     subst eg;subst ed;subst eo
     show Rg _ _ _ _ _ _
     refine QL ?_
     (show Rg _ _ (ret RN) _ _ _)
     refine QL ⟨rfl,h',tk',ks,es,ep,t,rfl,hS',hmem,λb o hb e=>?_⟩
     refine hm.heap b o ?_ (QV _ (QV _ e))
     rw [z1]
     simp only [Rc,SW,or_false,not_or]
     exact ⟨Rn hb,Rn (S3 hb)⟩
   ·cases r₂ with
    | error e=>exact hr₂
    | ok fl₂=>
     cases fl₂ with
     | ret r=>
      obtain ⟨rfl,h',tk,ks,es,ep,t,rfl,hS',hm',hk'⟩:=hr₂
      (repeat (any_goals (first | assumption | wp_step)))
      exact h _ _ _ _ _ _ hS' hm' hk'
     | _=>exact hr₂.elim
  | _=>exact hr.elim
end
end DL
namespace DL
open PySem PySem.Spec PyProof.Rows L2 ST
open PySem.W (KasT kas_sort kas_ask)
section
variable {prog:Rb}{w:RD}{A:RG}{E:QM->QN->Prop}{s:QN}
theorem sortedS {a:Q4}{es:Array (Int×QM)}{ep:Nat}{t:RX}{κ:aaI}{q:Nat->Nat->Bool}{Q:QM->QN->Prop}{vs:List QM}(hv:ie w a ep es=vs) (hh:A.handled=none) (S:iO s.heap a (lg w) es ep t) (hn:es.size<=76)
  (hs:vs.length < 2\/(2<=vs.length/\vs.length < 64/\
   (∀h' tk C,(∀b o,s.heap.get? b=some o->h'.get? b=some o)->C κ {s with heap:=h',toks:=tk}->Rg (Rk prog w) A.in1.in1 (aaJ vs.toArray) C (λ_ _=>False) {s with heap:=h',toks:=tk})/\
   ∀h' tk,(∀b o,s.heap.get? b=some o->h'.get? b=some o)->∀i j C,i < vs.length->j < vs.length->C (q i j) {s with heap:=h',toks:=tk}->kas_ask prog w A.in1.in1 κ vs i j C {s with heap:=h',toks:=tk}))
  (h:∀h' tk l n,(∀b o,s.heap.get? b=some o->h'.get? b=some o)->s.heap.objs.size<=l->h'.get? l=some (Ti "list" (if vs.length < 2 then vs else iw q vs).toArray n)->Q (.ref l) {s with heap:=h',toks:=tk}):Rg (Rk prog w) A (call (.builtin "sorted") [.ref a]) Q E s:=by
 have sl:vs.length<=sizeLine:=by rcases hs with h | ⟨_,h,_⟩ <;> rw [RS] <;> omega
 refine (UW ZN Zj Zk (Zl _) ?_)
 unfold U1.«sorted»
 refine QJ (m:=aau "sorted" 1 1 _) ((QL ?_))
 refine QJ (zF hh S hn λh1 tk1 k1 le0=>?_)
 rw [hv]
 refine QJ (V1 ?_ sl)
 have le1:s.heap.objs.size<=h1.objs.size:=Xq le0
 have gL:(h1.push (Ti "list" vs.toArray 0)).get? h1.objs.size=some (Ti "list" vs.toArray 0):=Q7 _ rfl
 have kp:∀b o,s.heap.get? b=some o->b≠h1.objs.size/\(h1.push (Ti "list" vs.toArray 0)).get? b=some o:=λb o e=>by
  have e1:=k1 b o e
  exact ⟨Rn (Q8 e1),QV _ e1⟩
 have kend:∀out b o,s.heap.get? b=some o->(aat (h1.push (Ti "list" vs.toArray 0)) h1.objs.size vs out).get? b=some o:=λout b o e=>by
  obtain ⟨g1,g2'⟩:=kp b o e
  rw [sortedHeap_old g1 (Q8 g2')]
  exact g2'
 dsimp only
 rcases hs with h2 | ⟨h2,h64,hk,hc⟩
 ·refine QJ (Ru (RL Wu ⟨_,gL,rfl⟩ Wb (sP gL h2 ⟨_,rfl,?_⟩) (Wv _)))
  obtain ⟨n,hn'⟩:=aaQ (out:=vs.toArray) gL
  rw [if_pos h2] at h
  exact QL ⟨_,rfl,h _ tk1 _ n (kend _) le1 hn'⟩
 ·refine QJ (Ru (RL Wu ⟨_,gL,rfl⟩ Wb (sQ (κ:=κ) (q:=q) gL h2 h64 (λh' C k c=>?_) (λh' k i j C hi hj c=>?_) ⟨_,rfl,?_⟩) (Wv _)))
  ·exact hk h' tk1 C (λb o e=>k b o (kp b o e).1 (kp b o e).2) c
  ·exact hc h' tk1 (λb o e=>k b o (kp b o e).1 (kp b o e).2) i j C hi hj c
  ·obtain ⟨n,hn'⟩:=aaQ (out:=(iw q vs).toArray) gL
   rw [if_neg (by omega)] at h
   exact QL ⟨_,rfl,h _ tk1 _ n (kend _) le1 hn'⟩
end
mutual
noncomputable def formOf:D->Fm
 | .int _=>.i
 | .tup xs=>Ak xs
 | _=>.b
noncomputable def Ak:List D->Fm
 | []=>.tn
 | x::xs=>.tc (formOf x) (Ak xs)
end
noncomputable def pV:Fm->D->Bool
 | .i,.int _=>true
 | .tn,.tup xs=>xs.isEmpty
 | .tc x r,.tup (y::ys)=>pV x y && pV r (.tup ys)
 | _,_=>false
theorem qR:∀(f:Fm) (d:D),pV f d=true->i_ f d
 | .i,.int k,_=>⟨k,rfl⟩
 | .tn,.tup [],_=>⟨[],rfl,rfl⟩
 | .tc x r,.tup (y::ys),h=>by
  unfold pV at h
  rw [QX] at h
  exact ⟨_,rfl,y,ys,rfl,qR x y h.1,qR r (.tup ys) h.2⟩
noncomputable def G0:List D->Bool
 | []=>true
 | d::r=>(match gX d with
  | some k=>gO k (d::r)
  | none=>false) && (d::r).all (pV (formOf d))
noncomputable def oZ (ds:List D):Bool:=decide (ds.length < 64) && (areKeys ds && (decide (deps ds<=8) && G0 ds))
theorem Fx {ds:List D}(h:G0 ds=true):∃k f,∀d∈ds,gX d=some k/\i_ f d:=by
 cases ds with
 | nil=>exact ⟨.i,.i,λ_ h=>nomatch h⟩
 | cons d r=>
  unfold G0 at h
  rw [QX] at h
  cases q:gX d with
  | none=>rw [q] at h;cases h.1
  | some k=>
   rw [q] at h
   exact ⟨k,formOf d,λx hx=>⟨ju h.1 x hx,qR _ _ (RJ.mp h.2 x hx)⟩⟩
theorem nA {n:Nat}:∀{ds:List D},deps ds<=n->∀d∈ds,dep d<=n
 | [],_,_,h=>nomatch h
 | x::r,hn,d,h=>by
  unfold deps at hn
  (rcases Rc.mp h with rfl | h)
  ·omega
  ·exact nA (ds:=r) (by omega) d h
theorem nq {k:Hd}:∀{ds:List D},(∀d∈ds,gX d=some k)->gO k ds=true
 | [],_=>rfl
 | x::r,h=>by
  unfold gO
  rw [h x (QW ..),nq λd hd=>h d (QS _ hd)]
  cases k <;> rfl
structure M1 (ds:List D) (k:Hd) (f:Fm):Prop where
 ln:ds.length < 64
 ky:areKeys ds=true
 dp:deps ds<=8
 al:∀d∈ds,gX d=some k/\i_ f d
theorem yr {ds:List D}(h:oZ ds=true):∃k f,M1 ds k f:=by
 unfold oZ at h
 rw [QX,QX,QX] at h
 obtain ⟨h1,h2,h3,h4⟩:=h
 obtain ⟨k,f,h5⟩:=Fx h4
 exact ⟨k,f,of_decide_eq_true h1,h2,of_decide_eq_true h3,h5⟩
noncomputable abbrev nU (X:Cx) (H0:Hp) (a:Q4) (ds:List D):HO:=.ext λh=>∃ks es ep t,iN X.K H0 h a (cL X.w) ks es ep t/\∀d,d∈ks↔d∈ds
section
variable {X:Cx}
theorem Mj {K:QK}{J:Hp}{k:Hd}{f:Fm}{ds:List D}{vs:List V}{us:List QM}(o:M1 ds k f) (rs:aF K J ds vs) (rv:Vals vs us):∀i v,us.toArray[i]?=some v->KV K J v (ds.getD i .non):=λi v q=>by
 have l1:vs.length=us.length:=rv.length
 have l2:ds.length=vs.length:=rs.length
 have hi:i < us.length:=by
  have:=(R3.mp q).1
  simpa using this
 have e:us.getD i RN=v:=by
  simp at q
  simp [XI,q]
 have r1:=eS rs (i:=i) (by omega)
 have r2:=eU rv (i:=i) (by omega)
 rw [e] at r2
 have m:=eB (ds:=ds) (i:=i) (by omega)
 refine ⟨?_,qw o.ky _ m,nA o.dp _ m,_,r1,r2⟩
 have hh:=(o.al _ m).1
 generalize cP ds i=d at r1 hh
 generalize vs.getD i V.non=vv at r1 r2
 cases d with
 | tup xs=>cases r1 with
  | tup _ _=>cases r2;exact ⟨_,rfl⟩
 | _=>cases hh
theorem CQ (hu:X.A.units + 64 < Sy) (hc:X.calm=true):bU X (.type "set") (λxs H Q=>∃p vs ds J0,xs=[.ref p]/\cX X.K H p vs/\aT J0 H/\aF X.K J0 ds vs/\oZ ds=true/\∀l,H l=none->Q (.ref l) (upd H l (nU X J0 l ds))):=by
 intro Qz s σ H xs us Q I r h
 obtain ⟨p,vs,ds,J0,rfl,hq,sm,rs,oks,q⟩:=h
 obtain ⟨u,rfl,rx⟩:=vals1 r
 cases rx
 obtain ⟨k,f,o⟩:=yr oks
 have N:HF X.K J0 s:=HF.of (c:=⟨X.K,H,H,λ_=>True⟩) I sm
 obtain ⟨QA,r',pt,hz⟩:=I.tuple hq
 refine yT N (I.ok.hd hc) pt (by simp [<-r'.length,rs.length]) (Mj o rs r') (by have:=o.ln;omega) (by omega) λh' tk ks es ep t S hm kp=>?_
 exact ⟨.ref s.heap.objs.size,_,I.laid (t':=tk) (λb o e=>kp b o (Q8 e) e) (QY _) (show cg X.prog X.w _ _ _ (nU X J0 s.heap.objs.size ds) from ⟨⟨ks,es,ep,t,S,hm⟩,⟨_,S.at_⟩,λh1 h2 ⟨ks,es,ep,t,S,hm⟩ e=>⟨ks,es,ep,t,S.keep e,hm⟩⟩),rfl,q _ (I.hok.fresh (QY _))⟩
end
noncomputable def dd:List D->List D
 | []=>[]
 | x::xs=>if (dd xs).any (bu x)=true then dd xs else x::dd xs
noncomputable def cR (ds:List D):List D:=bw (dd ds)
section
variable {P:D->Prop}
theorem wH (p:fY P):∀(ds:List D),(∀x∈ds,P x)->(dd ds).Nodup/\∀y,y∈dd ds↔y∈ds
 | [],_=>⟨T6,λ_=>.rfl⟩
 | x::xs,h=>by
  obtain ⟨h1,h2⟩:=wH p xs λy hy=>h y (QS _ hy)
  have px:=h x (QW ..)
  have eqv:(dd xs).any (bu x)=true↔x∈xs:=by
   rw [Tf]
   constructor
   ·rintro ⟨z,hz,e⟩
    have hz':=(h2 z).mp hz
    rw [(p.eq x z px (h z (QS _ hz'))).mp e]
    exact hz'
   ·intro hx
    exact ⟨x,(h2 x).mpr hx,(p.eq x x px px).mpr rfl⟩
  unfold dd
  by_cases c:(dd xs).any (bu x)=true
  ·rw [if_pos c]
   refine ⟨h1,λy=>?_⟩
   rw [h2 y,Rc]
   exact ⟨.inr,λz=>z.elim (λe=>e▸eqv.mp c) id⟩
  ·rw [if_neg c]
   refine ⟨SM.mpr ⟨λz=>c (eqv.mpr ((h2 x).mp z)),h1⟩,λy=>?_⟩
   rw [Rc,Rc,h2 y]
theorem za (p:fY P):∀{A B:List D},(∀x∈A,P x)->A.Pairwise (λa b=>dU a b=true)->B.Pairwise (λa b=>dU a b=true)->(∀y,y∈A↔y∈B)->A=B
 | [],[],_,_,_,_=>rfl
 | [],b::B,_,_,_,h=>by cases (h b).mpr QW
 | a::A,[],_,_,_,h=>by cases (h a).mp QW
 | a::A,b::B,hp,hA,hB,h=>by
  obtain ⟨a1,a2⟩:=Uz.mp hA
  obtain ⟨b1,b2⟩:=Uz.mp hB
  have pa:=hp a QW
  have pb:=hp b ((h b).mpr QW)
  have no:∀z,P z->dU z z=true->False:=λz pz q=>by
   have:=p.asy z z pz pz q
   rw [q] at this;cases this
  have e:a=b:=by
   rcases Rc.mp ((h a).mp QW) with e | e
   ·exact e
   ·rcases Rc.mp ((h b).mpr QW) with f | f
    ·exact f.symm
    ·exact (no a pa (p.tra _ _ _ pa pb pa (a1 b f) (b1 a e))).elim
  subst e
  have:A=B:=by
   refine za p (λx hx=>hp x (QS _ hx)) a2 b2 λy=>⟨λhy=>?_,λhy=>?_⟩
   ·rcases Rc.mp ((h y).mp (QS _ hy)) with e | e
    ·subst e;exact (no y pa (a1 y hy)).elim
    ·exact e
   ·rcases Rc.mp ((h y).mpr (QS _ hy)) with e | e
    ·subst e;exact (no y pa (b1 y hy)).elim
    ·exact e
  rw [this]
theorem m_ (p:fY P){ds:List D}(h:∀x∈ds,P x) (nd:ds.Nodup):(bw ds).Pairwise λa b=>dU a b=true:=by
 have up:=Gw p ds h
 have pm:=iW ds
 have nd':(bw ds).Nodup:=pm.nodup_iff.mpr nd
 have both:=abL up nd'
 refine (TX.mp both).imp ?_
 rintro a b ⟨ha,hb,h1,h2⟩
 cases q:dU a b with
 | true=>rfl
 | false=>exact absurd (p.tri a b (h a (pm.mem_iff.mp ha)) (h b (pm.mem_iff.mp hb)) q h1) h2
theorem yW (p:fY P){ds ks:List D}(h:∀x∈ds,P x) (nd:ks.Nodup) (hm:∀d,d∈ks↔d∈ds):bw ks=cR ds:=by
 obtain ⟨h1,h2⟩:=wH p ds h
 have hk:∀x∈ks,P x:=λx hx=>h x ((hm x).mp hx)
 have hd:∀x∈dd ds,P x:=λx hx=>h x ((h2 x).mp hx)
 exact za p (λx hx=>hk x ((iW ks).mem_iff.mp hx)) (m_ p hk nd) (m_ p hd h1) λy=>by
  rw [(iW ks).mem_iff,hm y]
  show _↔y∈bw (dd ds)
  rw [(iW (dd ds)).mem_iff,h2 y]
theorem kH (p:fY P){ds:List D}(h:∀x∈ds,P x):(cR ds).Pairwise (λa b=>dU a b=true)/\∀d,d∈cR ds↔d∈ds:=by
 obtain ⟨h1,h2⟩:=wH p ds h
 exact ⟨m_ p (λx hx=>h x ((h2 x).mp hx)) h1,λd=>by show d∈bw (dd ds)↔_;rw [(iW (dd ds)).mem_iff,h2 d]⟩
end
theorem fE.reps {K:QK}{J:Hp}{es:List (Int×QM)}{ks:List D}(h:fE K J es ks):∃vs,aF K J ks vs/\Vals vs (es.map (·.2)):=by
 induction h with
 | nil=>exact ⟨_,.nil,.nil⟩
 | cons _ hk _ ih=>
  obtain ⟨vs,h1,h2⟩:=ih
  obtain ⟨_,_,_,v,r,rv⟩:=hk
  exact ⟨v::vs,.cons r h1,.cons rv h2⟩
section
variable {X:Cx}
theorem Bm (hu:X.A.units + 64 < Sy) (hc:X.calm=true):bU X (.builtin "sorted") (λxs H Q=>∃p ds J0,xs=[.ref p]/\H p=some (nU X J0 p ds)/\aT J0 H/\oZ ds=true/\∀l vs',H l=none->aF X.K J0 (cR ds) vs'->Q (.ref l) (upd H l (.lst vs'))):=by
 intro Qz s σ H xs us Q I r h
 obtain ⟨p,ds,J0,rfl,hp,sm,oks,q⟩:=h
 obtain ⟨u,rfl,rx⟩:=vals1 r
 cases rx
 obtain ⟨k,f,o⟩:=yr oks
 have hh:X.A.handled=none:=I.ok.hd hc
 have N:HF X.K J0 s:=HF.of (c:=⟨X.K,H,H,λ_=>True⟩) I sm
 obtain ⟨⟨ks,es,ep,t,S,hm⟩,_⟩:=(show cg X.prog X.w H s.heap p (nU X J0 p ds) from I.hok p _ hp)
 obtain ⟨ks',pm,en'⟩:=S.en.perm (l_ X.w p ep es).symm
 have nd':ks'.Nodup:=pm.nodup_iff.mp S.nd
 have hm':∀d,d∈ks'↔d∈ds:=λd=>by rw [<-pm.mem_iff,hm d]
 obtain ⟨vs,rs,rv⟩:=en'.reps
 have hv:ie X.w p ep es=(fT X.w p ep es).toList.map (·.2):=rfl
 rw [<-hv] at rv
 generalize hits:ie X.w p ep es=QA at rv
 have l1:vs.length=QA.length:=rv.length
 have l2:ks'.length=vs.length:=rs.length
 have len:ks'.length<=ds.length:=Rp nd' λd hd=>(hm' d).mp hd
 have l64:=o.ln
 have les:es.size=ks'.length:=by rw [<-Q3,S.en.length,pm.length_eq]
 have tot:=fD f
 have out:=yW tot (λx hx=>(o.al x hx).2) nd' hm'
 have fin:∀(h':Sn) (tk:Nat) (l:Q4) (n:Nat) (ot:List QM) (vs':List V),vs'.length=vs.length->Vals vs' ot->aF X.K J0 (bw ks') vs'->(∀b o,s.heap.get? b=some o->h'.get? b=some o)->s.heap.objs.size<=l->h'.get? l=some (Ti "list" ot.toArray n)->EP X Qz σ Q (.ref l) {s with heap:=h',toks:=tk}:=λh' tk l n ot vs' lv rv' rr kp hl hg=>by
  refine ⟨.ref l,_,I.laid (t':=tk) kp hl (show cg X.prog X.w _ _ _ (.lst vs') from ⟨by rw [lv,RS];omega,ot,n,rv',by simpa [Ti] using hg⟩),rfl,q l vs' (I.hok.fresh hl) (by rw [<-out];exact rr)⟩
 have un:X.A.in1.in1.units=X.A.units + 2:=rfl
 refine sortedS (κ:=abv k.flag) (q:=ltB ks') (vs:=QA) hits hh S.wk (by omega) ?_ λh' tk l n kp hl hg=>?_
 ·by_cases h2:QA.length < 2
  ·exact .inl h2
  ·refine .inr ⟨by omega,by omega,λh' tk C kp cc=>?_,λh' tk kp i j C hi hj cc=>?_⟩
   ·exact vf (N.keep kp) (nq λd hd=>(o.al d ((hm' d).mp hd)).1) rs rv (by omega) cc
   ·have hi':i < ks'.length:=by omega
    have hj':j < ks'.length:=by omega
    have mi:=(hm' _).mp (eB hi')
    have mj:=(hm' _).mp (eB hj')
    have hb:dM (cP ks' i) (cP ks' j)=some (ltB ks' i j):=by
     have:=tot.lt _ _ (o.al _ mi).2 (o.al _ mj).2
     unfold ltB
     cases z:dM (cP ks' i) (cP ks' j) with
     | none=>rw [z] at this;cases this
     | some b=>rfl
    have d1:=nA o.dp _ mi
    have d2:=nA o.dp _ mj
    exact As (N.keep kp) (o.al _ mi).1 (o.al _ mj).1 hb (eS rs hi') (eS rs hj') (eU rv (by omega)) (eU rv (by omega)) (by rw [un];omega) (by omega) (by omega) cc
 ·by_cases h2:QA.length < 2
  ·rw [if_pos h2] at hg
   refine fin h' tk l n QA vs rfl rv ?_ kp hl hg
   unfold bw
   rw [if_pos (by omega)]
   exact rs
  ·rw [if_neg h2] at hg
   have ib:∀i∈(aY (ltB ks') (Tq ks'.length)).toList,i < ks'.length:=λi hi=>by
    have:=((eH (n:=ks'.length) (by omega)).run (ltB ks'):eF _ _)
    have:=(TU this).mp (UQ.mp hi)
    simpa using this
   have e1:iw (ltB ks') QA=(aY (ltB ks') (Tq ks'.length)).toList.map λi=>QA.getD i RN:=by unfold iw;rw [l2,l1]
   rw [e1] at hg
   refine fin h' tk l n _ _ ?_ (ng rv _ λi hi=>l2▸ib i hi) ?_ kp hl hg
   ·rw [QO,<-l2]
    have:=((eH (n:=ks'.length) (by omega)).run (ltB ks'):eF _ _).size_eq
    simpa using this
   ·unfold bw
    rw [if_neg (by omega)]
    exact mY rs _ ib
end
end DL
namespace DL
open PySem PySem.Spec PyProof.Rows L2 ST
end DL
namespace DL
open PySem PySem.Spec PyProof.Rows L2 DX
end DL
namespace DL
open PySem PySem.Spec PyProof.Rows L2 ST PySem.SetTable
section
variable {t:RX}{es:Array (Int×QM)}{L:List (Nat×Int×QM)}
theorem sZ (T:Tab t es L) (h:Int) (n0:Nat) (hf:pos t.mask h n0∉L.map (·.1)) (hb:∀m,m < n0->pos t.mask h m∈L.map (·.1)):
  ∀(d n F:Nat),n0 - n=d->n<=n0->d < F->probe.go t (λ_=>h + 1) h F (st t.mask h n)=some (.empty (pos t.mask h n0) none)
 | d,n,0,_,_,h=>absurd h (RZ _)
 | d,n,F + 1,hd,hn,hF=>by
  by_cases c:n=n0
  ·subst c
   unfold probe.go
   rw [tL T.dm (by rw [T.pl];exact hf)]
   show some (Met.empty _ (st t.mask h n).dummy)=_
   rw [nY]
  ·obtain ⟨e,he,ej⟩:=QT.mp (hb n (by omega))
   obtain ⟨i,hi,rfl⟩:=Tj.mp he
   have hs:t.slot (pos t.mask h n)=.live i:=pG T.sop (by rw [(T.at_ (Q5 hi)).1,ej])
   have eg:probe.go t (λ_=>h + 1) h (F + 1) (st t.mask h n)=probe.go t (λ_=>h + 1) h F (st t.mask h (n + 1)):=by
    rw [probe.go,hs]
    show (if (h + 1 == h)=true then _ else _)=_
    rw [if_neg (by rw [beq_iff_eq];omega)]
    rfl
   rw [eg]
   exact sZ T h n0 hf hb (n0 - (n + 1)) (n + 1) F rfl (by omega) (by omega)
theorem Dm (T:Tab t es L) (h:Int) (n0:Nat) (hf:pos t.mask h n0∉L.map (·.1)) (hb:∀m,m < n0->pos t.mask h m∈L.map (·.1)) (hn0:n0<=10 * (t.mask + 12)):t.freeSlot h=some (pos t.mask h n0,false):=by
 have e:t.probe (λ_=>h + 1) h (t.probeStart h)=some (.empty (pos t.mask h n0) none):=sZ T h n0 hf hb n0 0 (10 * turns t.mask) rfl (RA _) (by unfold turns;omega)
 unfold SetTable.freeSlot
 rw [e]
 rfl
theorem Ig (T:Tab t es L) (h:Int) (x:QM) (n0:Nat) (hf:pos t.mask h n0∉L.map (·.1)) (hb:∀m,m < n0->pos t.mask h m∈L.map (·.1)) (hn0:n0<=10 * (t.mask + 12)) (hl:L.length + 1<=t.mask):
  layNew t es h x=(insertAt es (t.put (pos t.mask h n0)).2 (h,x),(t.put (pos t.mask h n0)).1,false,false):=by
 obtain ⟨L',T',_⟩:=T.put h x n0 hf hb (yv _ _ _) hl
 have fit:=cO T'
 unfold layNew
 rw [Dm T h n0 hf hb hn0]
 dsimp only
 unfold SetTable.orStandIn
 rw [fit]
 rfl
theorem Fb {mask finger moves:Nat}{led plain:Bool}{t':RX}{QI:Array Nat}(hm:kR mask) (hl:es.size<=mask) (e:laid mask finger moves led plain (es.map (·.1))=some (t',QI)):QI.toList.Perm (QU es.size):=by
 obtain ⟨owner,G,e0,O⟩:=DB hm (es.map (·.1)) (by simpa using hl)
 have hlen:G.length=es.size:=by rw [O.ln];simp
 (let live:=(QU (mask + 1)).filterMap λj=>(owner.getD j none).map (j,·))
 have lv:∀p,p∈live↔p.1∈G/\p.2=G.idxOf p.1:=λp=>by
  show p∈(QU (mask + 1)).filterMap _↔_
  rw [Vb]
  constructor
  ·rintro ⟨j,hj,q⟩
   have hj':j<=mask:=by have:=Ri.mp hj;omega
   rw [O.at_ j hj'] at q
   by_cases c:j∈G
   ·rw [if_pos c] at q
    have q:(j,G.idxOf j)=p:=by simpa using q
    subst q
    exact ⟨c,rfl⟩
   ·rw [if_neg c] at q;exact absurd q (by simp)
  ·rintro ⟨h1,h2⟩
   refine ⟨p.1,Ri.mpr (by have:=O.bd _ h1;omega),?_⟩
   rw [O.at_ _ (O.bd _ h1),if_pos h1]
   show some (p.1,G.idxOf p.1)=some p
   rw [<-h2]
 have so1:live.Pairwise λa b=>a.1 < b.1:=by
  show ((QU (mask + 1)).filterMap _).Pairwise _
  rw [W6]
  refine Uy.imp ?_
  intro a b hab x hx y hy
  cases q1:owner.getD a none with
  | none=>rw [q1] at hx;exact absurd hx (by simp)
  | some k1=>cases q2:owner.getD b none with
   | none=>rw [q2] at hy;exact absurd hy (by simp)
   | some k2=>
    rw [q1] at hx;rw [q2] at hy
    have hx:(a,k1)=x:=by simpa using hx
    have hy:(b,k2)=y:=by simpa using hy
    subst hx;subst hy;exact hab
 have ord:(live.map (·.2)).Perm (QU es.size):=by
  rw [Wk _ Tg]
  ·intro k
   rw [QT,Ri]
   constructor
   ·rintro ⟨p,hp,rfl⟩
    obtain ⟨h1,h2⟩:=(lv p).mp hp
    rw [h2,<-hlen]
    exact R0 h1
   ·intro hk
    rw [<-hlen] at hk
    exact ⟨(G[k],k),(lv _).mpr ⟨Si _,(O.nd.idxOf_getElem k hk).symm⟩,rfl⟩
  ·show (live.map (·.2)).Pairwise _
   rw [RP]
   refine (TX.mp so1).imp ?_
   rintro a b ⟨ha,hb,hab⟩ z
   obtain ⟨a1,a2⟩:=(lv a).mp ha
   obtain ⟨b1,b2⟩:=(lv b).mp hb
   rw [a2,b2] at z
   have ga:=UA (R0 a1)
   have gb:=UA (R0 b1)
   have:a.1=b.1:=by
    rw [<-ga,<-gb]
    congr 1
   omega
 unfold laid at e
 rw [e0] at e
 have e1:(live.map (·.2)).toArray=QI:=by
  have:=R4 e
  exact congrArg abF this
 rw [<-e1]
 exact ord
theorem Eb {w:Nat}(hm:kR (sizeAbove w - 1)) (hl:es.size<=sizeAbove w - 1):∃t' es' L',relayAll t es w=(es',t',false)/\t'.mask=sizeAbove w - 1/\t'.led=t.led/\t'.plain=t.plain/\Tab t' es' L'/\es'.toList.Perm es.toList:=by
 obtain ⟨t',QI,L',e1,e2,e3,e4,e5,e6⟩:=vt (t:=t) (es:=es) hm hl
 have od:QI.toList.Perm (QU es.size):=Fb hm hl e1
 refine ⟨t',QI.filterMap (es[·]?),L',?_,e2,e3,e4,e5,e6⟩
 unfold relayAll
 rw [e1]
 dsimp only
 have c1:coversAll QI es.size=true:=by unfold coversAll;exact List.isPerm_iff.mpr od
 rw [c1,cO e5]
 rfl
end
end DL
namespace DL
open PySem PySem.Spec PyProof.Rows L2 ST
inductive fh:List (Int×QM)->List Int->Prop
 | nil:fh [] []
 | cons {i:Int}{k:Tok}{es:List (Int×QM)}{ns:List Int}:fh es ns->fh ((UP i,.int i k)::es) (i::ns)
theorem fh.perm {es es':List (Int×QM)}(p:es.Perm es'):∀{ns:List Int},fh es ns->∃ns',ns.Perm ns'/\fh es' ns':=by
 induction p with
 | nil=>intro ns h;exact ⟨ns,.refl _,h⟩
 | cons x _ ih=>
  intro ns h
  cases h with
  | cons h3=>obtain ⟨ns',a,b⟩:=ih h3;exact ⟨_,a.cons _,.cons b⟩
 | swap x y l=>
  intro ns h
  cases h with
  | cons h3=>cases h3 with
   | cons h6=>exact ⟨_,.swap _ _ _,.cons (.cons h6)⟩
 | trans _ _ ih1 ih2=>
  intro ns h
  obtain ⟨k1,a,b⟩:=ih1 h
  obtain ⟨k2,c,d⟩:=ih2 b
  exact ⟨k2,a.trans c,d⟩
theorem fh.length {es:List (Int×QM)}{ns:List Int}(h:fh es ns):es.length=ns.length:=by
 induction h with
 | nil=>rfl
 | cons _ ih=>simp [ih]
structure jb (h:Sn) (a:Q4) (led:Bool) (ns:List Int) (es:Array (Int×QM)) (ep:Nat) (t:RX):Prop where
 at_:h.get? a=some {cls:=.type "set",dict:=none,data:=.set es ep t}
 tab:∃L,Tab t es L
 pl:t.plain=true
 ld:t.led=led
 rm:ns.length * 5 < t.mask * 3
 en:fh es.toList ns
 nd:ns.Nodup
section
variable {w:RD}{prog:Rb}{E:QM->QN->Prop}{A:RG}{s:QN}
theorem fh.elems {es:List (Int×QM)}{ns:List Int}(h:fh es ns):ElemsOf (YV prog w) es:=by
 induction h with
 | nil=>exact λe he=>nomatch he
 | @cons i k es ns _ ih=>
  intro e he
  (rcases Rc.mp he with rfl | he)
  ·exact ⟨⟨i,aax _ _ _ _,rfl⟩,rfl⟩
  ·exact ih e he
theorem fh.find {es:List (Int×QM)}{ns:List Int}(h:fh es ns) (i:Int):(es.findIdx? λe=>(YV prog w).is i e.2)=none↔i∉ns:=by
 rw [List.findIdx?_eq_none_iff]
 induction h with
 | nil=>simp
 | @cons j k es ns _ ih=>
  rw [Rc,not_or,<-ih]
  have e:(YV prog w).is i (.int j k)=decide (i=j):=KeyKind.is_eq_decide (aax prog w j k) i
  constructor
  ·intro h
   refine ⟨λz=>?_,λx hx=>h x (QS _ hx)⟩
   have:=h _ QW
   rw [e,z] at this
   simp at this
  ·rintro ⟨h1,h2⟩ x hx
   (rcases Rc.mp hx with rfl | hx)
   ·rw [e];simpa using h1
   ·exact h2 x hx
theorem add_int {a:Q4}{es:Array (Int×QM)}{ep:Nat}{t:RX}{led:Bool}{ns:List Int}{i:Int}{k:Tok}{Q:Bool->QN->Prop}(S:jb s.heap a led ns es ep t) (hl:ns.length < 76)
  (q1:i∈ns->Q false s) (q2:i∉ns->∀(h':Sn) ns' es' ep' t',R_ a s.heap h'->(i::ns).Perm ns'->jb h' a led ns' es' ep' t'->Q true {s with heap:=h'}):
  Rg (Rk prog w) A (XD a (.int i k) (UP i)) Q E s:=by
 obtain ⟨L,T⟩:=S.tab
 have lenL:L.length=ns.length:=by rw [nc T,<-Q3,S.en.length]
 have hes:es.size=ns.length:=by rw [<-Q3,S.en.length]
 obtain ⟨n0,b1,b2,b3⟩:=sf T.mo (UP i) (L.map (·.1)) (by rw [QO];exact T.fl)
 (unfold XD aad)
 refine Ru (QJ (SE S.at_ rfl (cO T) ?_))
 dsimp only
 have sc:byScan (.int i k) es=true:=byScan_of (prog:=prog) (w:=w) (knd:=YV prog w) rfl (by unfold scanBound;omega) S.en.elems
 rw [sc]
 simp only [if_true]
 unfold setAddByScan
 refine QJ ?_
 (refine QJ (WI ?_))
 refine QJ (wpAny_setScan_of (knd:=YV prog w) (k:=i) (aax _ _ _ _) S.at_ rfl (cO T) S.en.elems ?_)
 cases hr:List.findIdx? (λe=>(YV prog w).is i e.2) es.toList with
 | some j=>
  dsimp only
  have hin:i∈ns:=Ss λz=>by
   have:=(S.en.find (prog:=prog) (w:=w) i).mpr z
   rw [hr] at this;cases this
  exact QL (QL (q1 hin))
 | none=>
  dsimp only
  have hm:i∉ns:=(S.en.find i).mp hr
  have rm:=S.rm
  have ln:=Ig T (UP i) (.int i k) n0 b2 b3 b1 (by rcases T.mo with h | h | h <;> rw [h] at rm ⊢ <;> omega)
  rw [ln]
  dsimp only
  (refine QJ (U3 (a:=()) rfl ?_))
  obtain ⟨L',T',pm⟩:=T.put (UP i) (.int i k) n0 b2 b3 (yv _ _ _) (by rcases T.mo with h | h | h <;> rw [h] at rm ⊢ <;> omega)
  have fl:(t.put (pos t.mask (UP i) n0)).1.mask=t.mask/\(t.put (pos t.mask (UP i) n0)).1.plain=t.plain/\(t.put (pos t.mask (UP i) n0)).1.led=t.led:=⟨rfl,rfl,rfl⟩
  generalize t.put (pos t.mask (UP i) n0)=tp at T' fl ⊢
  obtain ⟨t',p⟩:=tp
  dsimp only at T' fl ⊢
  obtain ⟨f1,f2,f3⟩:=fl
  obtain ⟨ns',p1,p2⟩:∃ns',(i::ns).Perm ns'/\fh (SH es p (UP i,.int i k)).toList ns':=by
   refine fh.perm (es:=(UP i,.int i k)::es.toList) ?_ (.cons S.en)
   rw [T'.en,T.en]
   exact (pm.map (·.2)).symm
  have nd':ns'.Nodup:=p1.nodup_iff.mp (SM.mpr ⟨hm,S.nd⟩)
  have lk:ns'.length=ns.length + 1:=by rw [<-p1.length_eq];rfl
  rw [f2,S.pl]
  simp only [if_true]
  (refine QJ (U3 (a:=true) rfl ?_))
  simp only [if_true]
  have esz:(SH es p (UP i,ZA i k)).size=ns'.length:=by rw [<-Q3,p2.length]
  refine QJ (VD S.at_ rfl ?_ (by rw [esz,RS];omega))
  have hg:=SG (WO (SH es p (UP i,.int i k)) t') S.at_ rfl
  have hfill:t'.fill=ns'.length:=by
   unfold YM
   rw [T'.dm,<-Q3,T'.pl,QO,nc T',esz]
   rfl
  split
  ·rename_i c
   simp only [VF,UM] at c
   unfold VT at c
   rw [hfill,f1,decide_eq_true_eq] at c
   have hW:(SQ (VG ns'.length)=32/\ns'.length=5)\/(SQ (VG ns'.length)=128/\ns'.length=19):=by
    unfold VG
    rw [if_neg (by omega)]
    rcases T.mo with h | h | h
    ·rw [h] at c rm
     have:ns'.length=5:=by omega
     rw [this]
     exact .inl ⟨zX,rfl⟩
    ·rw [h] at c rm
     have:ns'.length=19:=by omega
     rw [this]
     exact .inr ⟨zY,rfl⟩
    ·rw [h] at c;omega
   have hmo:kR (SQ (VG ns'.length) - 1):=by rcases hW with ⟨h,_⟩ | ⟨h,_⟩ <;> rw [h];exact .inr (.inl rfl);exact .inr (.inr rfl)
   rw [esz]
   obtain ⟨t2,es2,L2,g1,g2',g3,g4,g5,g6⟩:=Eb (t:=t') (es:=SH es p (UP i,.int i k)) hmo (by rw [esz];rcases hW with ⟨h,h'⟩ | ⟨h,h'⟩ <;> rw [h] <;> omega)
   rw [g1]
   dsimp only
   (refine QJ (U3 (a:=()) rfl ?_))
   obtain ⟨ns2,r1,r2⟩:=p2.perm g6.symm
   have es2z:es2.size=ns'.length:=by rw [<-Q3,r2.length,r1.length_eq]
   refine QJ (VD (s:={s with heap:=s.heap.update a (WO (SH es p (UP i,.int i k)) t')}) hg rfl ?_ (by rw [es2z,RS];omega))
   have O_:=SG (WO es2 t2) hg rfl
   refine QL (QL (q2 hm _ ns2 _ _ _ ((Sw _ _ _).trans (Sw _ _ _)) (p1.trans r1) ⟨O_,⟨L2,g5⟩,g4.trans (f2.trans S.pl),g3.trans (f3.trans S.ld),?_,r2,r1.nodup_iff.mp nd'⟩))
   rw [<-r1.length_eq,g2']
   rcases hW with ⟨h,h'⟩ | ⟨h,h'⟩ <;> rw [h,h'] <;> omega
  ·rename_i c
   simp only [VF,UM] at c
   unfold VT at c
   rw [hfill,f1,decide_eq_true_eq] at c
   exact QL (QL (q2 hm _ ns' _ _ _ (Sw _ _ _) p1 ⟨hg,⟨L',T'⟩,f2.trans S.pl,f3.trans S.ld,by rw [f1];omega,p2,nd'⟩))
end
theorem jb.keep {h h':Sn}{a:Q4}{led:Bool}{ns:List Int}{es:Array (Int×QM)}{ep:Nat}{t:RX}(S:jb h a led ns es ep t) (e:∀o,h.get? a=some o->h'.get? a=some o):jb h' a led ns es ep t:=
 ⟨e _ S.at_,S.tab,S.pl,S.ld,S.rm,S.en,S.nd⟩
section
variable {w:RD}{prog:Rb}{R:ZD->QN->Prop}{A:RG}{I:Q4}{fp wr:List Q4}{G:Array Yq->Array Yq->Prop}{n:Nat}{P:Nat->QM->Prop}{St:Nat->QN->Prop}
theorem Es (W:WalksS prog w A.in1 I fp wr G n P St) (S:Q4) (hSf:S∉fp) (val:Nat->Int) (hval:∀i v,P i v->∃t,v=.int (val i) t) (hn:n<=76){led:Bool}:
  ∀(k i:Nat) (s:QN) (ns:List Int) (es:Array (Int×QM)) (ep:Nat) (t:RX),n - i=k->i<=n->St i s->jb s.heap S led ns es ep t->(∀d,d∈ns↔d∈(QU i).map val)->
   (∀s' ns' es' ep' t',Moved (S::wr) G s s'->jb s'.heap S led ns' es' ep' t'->(∀d,d∈ns'↔d∈(QU n).map val)->R (.ok (.ret .none)) s')->
   (TH (Rk prog w) A (.builtin "set.update.loop" ⟨[.ref S,.ref I],[]⟩) R s):=by
 (have O6:S∉wr:=λh=>hSf (W.sub _ h))
 (have hsub:∀b∈wr,b∈S::wr:=λb hb=>QS _ hb)
 intro k
 induction k with
 | zero=>
  intro i s ns es ep t hk hi hst hS hm hR
  have hin:i=n:=by omega
  subst hin
  refine Tc Su ?_
  rw [SS Ry _]
  (show Rg _ A.in1 (Vq (.ref I) >>= _) _ _ s)
  refine QJ (W.done s _ _ hst λs' OH=>?_)
  (show Rg _ A.in1 (ret RN) _ _ s')
  exact QL (hR s' ns es ep t (OH.mono hsub) (hS.keep λo e=>OH.heap S o O6 e) hm)
 | succ k ih=>
  intro i s ns es ep t hk hi hst hS hm hR
  have hlt:i < n:=by omega
  have hlen:ns.length<=i:=by
   have:=Rp hS.nd (λd hd=>(hm d).mp hd)
   simpa using this
  refine Tc Su ?_
  rw [SS Ry _]
  (show Rg _ A.in1 (Vq (.ref I) >>= _) _ _ s)
  refine QJ (W.item i s _ _ hlt hst λv s' hP OQ OH=>?_)
  obtain ⟨tk,rfl⟩:=hval i v hP
  have hS':=hS.keep (h':=s'.heap) λo e=>OH.heap S o O6 e
  have mem':∀(ns':List Int),(∀d,d∈ns'↔d=val i\/d∈ns)->∀d,d∈ns'↔d∈(QU (i + 1)).map val:=λns' h d=>by
   rw [h d,hm d,We,Ro,Rx]
   simp only [Ra,VI,Q9]
   exact Or.comm
  show Rg _ A.in1 (holding [.int (val i) tk] (setAdd S (.int (val i) tk)) >>= _) _ _ s'
  (refine QJ (Ru ?_))
  unfold setAdd
  refine Ru ?_
  (refine QJ (W9 ?_))
  refine add_int (s:={s' with toks:=s'.toks + 1}) hS' (by omega) (λhin=>?_) (λhin h' ns' es' ep' t' O5 PL Pj=>?_)
  ·refine QL ⟨UN Ry _,ih (i + 1) _ ns es ep t (by omega) hlt (W.frame _ s' _ _ OQ (SN _) λb hb o e=>e) hS' (mem' ns λd=>⟨.inr,λh=>h.elim (λh=>h▸hin) id⟩) λs'' ns'' es'' ep'' t'' hm'' hS'' OS=>?_⟩
   exact hR s'' ns'' es'' ep'' t'' (Yn W.gtrans ((OH.mono hsub).then_heap (SN _) λb o hb e=>e) hm'') hS'' OS
  ·refine QL ⟨UN Ry _,ih (i + 1) _ ns' es' ep' t' (by omega) hlt (W.frame _ s' _ _ OQ (SN _) λb hb o e=>?_) Pj (mem' ns' λd=>?_) λs'' ns'' es'' ep'' t'' hm'' hS'' OS=>?_⟩
   ·(rw [O5.2 b (λh:b=S=>hSf (by rw [<-h];exact hb))];exact e)
   ·rw [<-PL.mem_iff,Rc]
   ·refine hR s'' ns'' es'' ep'' t'' (Yn W.gtrans ((OH.mono hsub).then_heap (SN _) λb o hb e=>?_) hm'') hS'' OS
    (rw [O5.2 b (λh:b=S=>hb (by rw [h];exact QW))];exact e)
end
theorem Cd {h:Sn}{a:Q4}{led:Bool}(e:h.get? a=some {cls:=.type "set",dict:=none,data:=.set #[] 0 (.fresh 0 0 led)}):jb h a led [] #[] 0 (.fresh 0 0 led):=
 ⟨e,⟨[],⟨rfl,rfl,rfl,SX,(λ_ h=>nomatch h),.inl rfl,RA _,(λ_ h=>nomatch h)⟩⟩,rfl,rfl,(show 0 * 5 < 7 * 3 by decide),.nil,T6⟩
section
variable {w:RD}{prog:Rb}{A:RG}{s:QN}{E:QM->QN->Prop}
theorem we {l:Q4}{items:Array QM}{ds:List Int}{Q:QM->QN->Prop}(hh:A.handled=none) (hl:s.heap.IsTuple l items) (hz:items.size=ds.length) (hi:∀(i:Nat) (v:QM),items[i]?=some v->∃t,v=.int (ds.getD i 0) t) (hn:ds.length<=76)
  (h:∀(h':Sn) (tk:Nat) ks es ep t,jb h' s.heap.objs.size (cL w) ks es ep t->(∀d,d∈ks↔d∈ds)->(∀b o,b < s.heap.objs.size->s.heap.get? b=some o->h'.get? b=some o)->Q (.ref s.heap.objs.size) {s with heap:=h',toks:=tk}):
  (Rg (Rk prog w) A (call (.type "set") [.ref l]) Q E s):=by
 (obtain ⟨c,tl,Py⟩:=Sg.mro)
 (have hmade:=Sg.made)
 have hsub:=Sg.sub
 (refine XU (Vp ?_))
 (show Rg _ _ (callAny (.type "set") _) _ _ _)
 (refine QL ⟨YN _ (by decide +kernel),Tc Zd ?_⟩)
 (rw [YO (XH "set" [.ref l] []) rfl])
 (have h1:=Sg.notType)
 (have h2:=Sg.canCreate)
 have hct:=Xn (.ref l)
 (repeat (any_goals (first | assumption | wp_step)))
 refine TR (yR (.ref l) (E:=E) (Q₁:=λobj s₁=>obj=.ref s.heap.objs.size/\s₁={s with heap:=s.heap.push (eK (cL w))}) ⟨rfl,rfl⟩) λr s₁ hr=>?_
 cases r with
 | error e=>exact hr
 | ok fl=>
  cases fl with
  | ret obj=>
   obtain ⟨rfl,rfl⟩:=hr
   have hS:(s.heap.push (eK (cL w))).get? s.heap.objs.size=some (eK (cL w)):=Q7 _ rfl
   have hT:Vo {s with heap:=s.heap.push (eK (cL w))} (.ref s.heap.objs.size) "set":=⟨_,hS,rfl⟩
   (have hli:=Sg.init.lookup)
   (have hbi:=Sg.init.bind (.ref s.heap.objs.size))
   (repeat (any_goals (first | assumption | wp_step)))
   refine TR (VY (R:=wants (λr s₂=>r=.none/\∃h' tk ks es ep t,s₂={s with heap:=h',toks:=tk}/\jb h' s.heap.objs.size (cL w) ks es ep t/\(∀d,d∈ks↔d∈ds)/\
     (∀b o,b < s.heap.objs.size->s.heap.get? b=some o->h'.get? b=some o)) E) Sg.init.plain Zv ((Zw hT ?_))) λr₂ s₂ hr₂=>?_
   ·obtain ⟨ol,Pc,hcl,nl,hdl⟩:=id hl
    have OP:(s.heap.push (eK (cL w))).get? l=some ol:=QV _ Pc
    have PU:=vJ
    have PR:=vI
    have hne:(UD "tuple" == UD "dict")=false:=by decide
    have hl1:(s.heap.push (eK (cL w))).IsTuple l items:=⟨_,OP,hcl,nl,hdl⟩
    have P6:Vo {s with heap:=s.heap.push (eK (cL w))} (.ref l) "tuple":=⟨_,OP,hcl⟩
    (unfold U1.«set.__init__» noKeywords V2)
    generalize Ph:WD=PI
    wp_walk
    subst Ph
    refine (Wm hl1 ?_)
    refine (QJ (Ye ?_))
    (have hlS:l < s.heap.objs.size:=Q8 Pc)
    have z1:(s.heap.push (eK (cL w))).objs.size=s.heap.objs.size + 1:=Ux _ _
    have O3:l≠(s.heap.push (eK (cL w))).objs.size:=by rw [z1];exact Rn (S3 hlS)
    have hSf:s.heap.objs.size∉[(s.heap.push (eK (cL w))).objs.size,l]:=by
     rw [z1]
     simp only [Rc,SW,or_false,not_or]
     (exact ⟨Rn (TM _),UB hlS⟩)
    have hno:∀b,s.heap.objs.size<=b->s.heap.get? b=none:=λb hb=>by
     cases q:s.heap.get? b with
     | none=>rfl
     | some o=>exact absurd (Q8 q) (abK.mpr hb)
    have hval:∀(i:Nat) (v:QM),items[i]?=some v->∃t,v=.int (ds.getD i 0) t:=hi
    have all:(QU items.size).map (λi=>ds.getD i 0)=ds:=by
     refine Us (by simp [hz]) λi a b=>?_
     simp [b]
    refine Es (A:=A.in1.in1) (led:=cL w) ((aby (A:=A.in1.in1.in1) (by simp [hh]) (s.heap.push (eK (cL w))).objs.size l O3 items).toS) s.heap.objs.size hSf (λi=>ds.getD i 0) hval (by omega) items.size 0 _ [] #[] 0 (.fresh 0 0 (cL w)) (by omega) (RA _) ⟨⟨_,Q7 _ rfl,rfl,rfl⟩,hl1.push _⟩ (Cd (QV _ hS)) (λd=>by simp) λs' ks es ep t hm hS' hmem=>?_
    ·rw [all] at hmem
     (obtain ⟨h',g',d',tk',os'⟩:=s')
     (have eg:g'=s.gens:=hm.gens)
     (have ed:d'=s.drawn:=hm.drawn)
     have eo:os'=s.os:=hm.os
     subst eg;subst ed;subst eo
     show Rg _ _ _ _ _ _
     refine QL ?_
     (show Rg _ _ (ret RN) _ _ _)
     refine QL ⟨rfl,h',tk',ks,es,ep,t,rfl,hS',hmem,λb o hb e=>?_⟩
     refine hm.heap b o ?_ (QV _ (QV _ e))
     rw [z1]
     simp only [Rc,SW,or_false,not_or]
     exact ⟨Rn hb,Rn (S3 hb)⟩
   ·cases r₂ with
    | error e=>exact hr₂
    | ok fl₂=>
     cases fl₂ with
     | ret r=>
      obtain ⟨rfl,h',tk,ks,es,ep,t,rfl,hS',hm',hk'⟩:=hr₂
      (repeat (any_goals (first | assumption | wp_step)))
      exact h _ _ _ _ _ _ hS' hm' hk'
     | _=>exact hr₂.elim
  | _=>exact hr.elim
end
end DL
namespace DL
open PySem PySem.Spec PyProof.Rows L2 ST DX
open PySem.W (KasT kas_sort kas_ask)
theorem jb.wk {h:Sn}{a:Q4}{led:Bool}{ns:List Int}{es:Array (Int×QM)}{ep:Nat}{t:RX}(S:jb h a led ns es ep t):iO h a led es ep t:=⟨S.at_,S.tab,S.pl,S.ld⟩
noncomputable def AS:D->Int
 | .int i=>i
 | _=>0
theorem LZ {ds:List D}(h:ds.all isInt=true):ds=(ds.map AS).map .int:=by
 induction ds with
 | nil=>rfl
 | cons d r ih=>
  rw [UI,QX] at h
  cases d with
  | int i=>rw [Ra,Ra,<-ih h.2];rfl
  | _=>cases h.1
noncomputable abbrev nT (X:Cx) (a:Q4) (ms:List Int):HO:=.ext λh=>∃ns es ep t,jb h a (cL X.w) ns es ep t/\∀d,d∈ns↔d∈ms
theorem int_at {K:QK}{J:Hp}{ms:List Int}{vs:List V}{us:List QM}(rs:aF K J (ms.map .int) vs) (rv:Vals vs us):∀(i:Nat) (v:QM),us.toArray[i]?=some v->∃t,v=.int (ms.getD i 0) t:=λi v q=>by
 have l1:vs.length=us.length:=rv.length
 have l2:(ms.map D.int).length=vs.length:=rs.length
 have hi:i < us.length:=by
  have:=(R3.mp q).1
  simpa using this
 have e:us.getD i RN=v:=by
  simp at q
  simp [XI,q]
 have r1:=eS rs (i:=i) (by omega)
 have r2:=eU rv (i:=i) (by omega)
 rw [e] at r2
 have lm:i < ms.length:=by rw [QO] at l2;omega
 have e2:cP (ms.map D.int) i=.int (ms.getD i 0):=by
  unfold cP
  simp [XI,lm]
 rw [e2] at r1
 generalize vs.getD i V.non=vv at r1 r2
 cases r1
 exact r2
section
variable {X:Cx}
theorem CP (hc:X.calm=true):bU X (.type "set") (λxs H Q=>∃p vs ms J0,xs=[.ref p]/\cX X.K H p vs/\aF X.K J0 (ms.map .int) vs/\ms.length < 64/\∀l,H l=none->Q (.ref l) (upd H l (nT X l ms))):=by
 intro Qz s σ H xs us Q I r h
 obtain ⟨p,vs,ms,J0,rfl,hq,rs,l64,q⟩:=h
 obtain ⟨u,rfl,rx⟩:=vals1 r
 cases rx
 have hh:X.A.handled=none:=I.ok.hd hc
 have fr:H s.heap.objs.size=none:=I.hok.fresh (QY _)
 obtain ⟨QA,r',pt,hz⟩:=I.tuple hq
 have lm:(ms.map D.int).length=vs.length:=rs.length
 rw [QO] at lm
 refine we hh pt (by simp [<-r'.length,lm]) (int_at rs r') (by omega) λh' tk ks es ep t S hm kp=>?_
 exact ⟨.ref s.heap.objs.size,_,I.laid (t':=tk) (λb o e=>kp b o (Q8 e) e) (QY _) (show cg X.prog X.w _ _ _ (nT X s.heap.objs.size ms) from ⟨⟨ks,es,ep,t,S,hm⟩,⟨_,S.at_⟩,λh1 h2 ⟨ks,es,ep,t,S,hm⟩ e=>⟨ks,es,ep,t,S.keep e,hm⟩⟩),rfl,q _ fr⟩
theorem fh.reps {es:List (Int×QM)}{ns:List Int}(h:fh es ns):∃vs,(∀(K:QK) (J:Hp),aF K J (ns.map .int) vs)/\Vals vs (es.map (·.2))/\U0 (es.map (·.2)) ns:=by
 induction h with
 | nil=>exact ⟨[],λK J=>.nil,.nil,.nil⟩
 | @cons i k es ns _ ih=>
  obtain ⟨vs,h1,h2,h3⟩:=ih
  exact ⟨.int i::vs,λK J=>.cons (.int _) (h1 K J),.cons ⟨k,rfl⟩ h2,.cons i k h3⟩
theorem zB (hc:X.calm=true):bU X (.builtin "sorted") (λxs H Q=>∃p ms,xs=[.ref p]/\H p=some (nT X p ms)/\ms.length < 64/\∀l vs',H l=none->(∀J0,aF X.K J0 (cR (ms.map .int)) vs')->Q (.ref l) (upd H l (.lst vs'))):=by
 intro Qz s σ H xs us Q I r h
 obtain ⟨p,ms,rfl,hp,l64,q⟩:=h
 obtain ⟨u,rfl,rx⟩:=vals1 r
 cases rx
 have hh:X.A.handled=none:=I.ok.hd hc
 obtain ⟨⟨ns,es,ep,t,S,hm⟩,_⟩:=(show cg X.prog X.w H s.heap p (nT X p ms) from I.hok p _ hp)
 obtain ⟨ns',pm,en'⟩:=S.en.perm (l_ X.w p ep es).symm
 have nd':ns'.Nodup:=pm.nodup_iff.mp S.nd
 have hm':∀d,d∈ns'↔d∈ms:=λd=>by rw [<-pm.mem_iff,hm d]
 obtain ⟨vs,rs,rv,hI⟩:=en'.reps
 have hv:ie X.w p ep es=(fT X.w p ep es).toList.map (·.2):=rfl
 rw [<-hv] at rv hI
 generalize hits:ie X.w p ep es=QA at rv hI
 have l1:vs.length=QA.length:=rv.length
 have l2:(ns'.map D.int).length=vs.length:=(rs X.K H).length
 have len:ns'.length<=ms.length:=Rp nd' λd hd=>(hm' d).mp hd
 have les:es.size=ns'.length:=by rw [<-Q3,S.en.length,pm.length_eq]
 have ndD:(ns'.map D.int).Nodup:=RP.mpr (VA (λh e=>h (by cases e;rfl)) nd')
 have Pw:∀d,d∈ns'.map D.int↔d∈ms.map D.int:=λd=>by simp only [QT,hm']
 have allI:∀d∈ms.map D.int,i_ .i d:=λd hd=>by obtain ⟨i,_,rfl⟩:=QT.mp hd;exact ⟨i,rfl⟩
 have out:=yW (fD .i) allI ndD Pw
 have lm:(ns'.map D.int).length=ns'.length:=QO _
 generalize hk:ns'.map D.int=ks' at *
 have fin:∀(h':Sn) (tk:Nat) (l:Q4) (n:Nat) (ot:List QM) (vs':List V),vs'.length=vs.length->Vals vs' ot->(∀J0,aF X.K J0 (bw ks') vs')->(∀b o,s.heap.get? b=some o->h'.get? b=some o)->s.heap.objs.size<=l->h'.get? l=some (Ti "list" ot.toArray n)->EP X Qz σ Q (.ref l) {s with heap:=h',toks:=tk}:=λh' tk l n ot vs' lv rv' rr kp hl hg=>by
  refine ⟨.ref l,_,I.laid (t':=tk) kp hl (show cg X.prog X.w _ _ _ (.lst vs') from ⟨by rw [lv,RS];omega,ot,n,rv',by simpa [Ti] using hg⟩),rfl,q l vs' (I.hok.fresh hl) (by rw [<-out];exact rr)⟩
 refine sortedS (κ:=aaM) (q:=ltB ks') (vs:=QA) hits hh S.wk (by omega) ?_ λh' tk l n kp hl hg=>?_
 ·by_cases h2:QA.length < 2
  ·exact .inl h2
  ·refine .inr ⟨by omega,by omega,λh' tk C kp cc=>?_,λh' tk kp i j C hi hj cc=>?_⟩
   ·have hl:2<=QA.length:=by omega
    clear fin l1 rv hits
    match QA,hI,hl with
    | v1::v2::r,hI,_=>rw [keyKind_ints hI];exact QL cc
   ·have hi':i < ks'.length:=by omega
    have hj':j < ks'.length:=by omega
    have ai:=allI _ ((Pw _).mp (eB hi'))
    have aj:=allI _ ((Pw _).mp (eB hj'))
    have r1:=eS (rs X.K H) hi'
    have r2:=eS (rs X.K H) hj'
    have v1:=eU rv (i:=i) (by omega)
    have v2:=eU rv (i:=j) (by omega)
    show Rg _ _ (keyLt' aaM (QA.getD i RN) (QA.getD j RN)) _ _ _
    rw [aaa]
    have e:ltB ks' i j=(dM (cP ks' i) (cP ks' j)).getD false:=rfl
    rw [e] at cc
    obtain ⟨a,ea⟩:=ai
    obtain ⟨b,eb⟩:=aj
    rw [ea] at r1 cc
    rw [eb] at r2 cc
    generalize vs.getD i V.non=wi at r1 v1
    generalize vs.getD j V.non=wj at r2 v2
    cases r1;cases r2
    obtain ⟨t1,q1⟩:=v1
    obtain ⟨t2,q2⟩:=v2
    rw [q1,q2]
    refine aa6 ?_
    unfold dM at cc
    exact cc
 ·by_cases h2:QA.length < 2
  ·rw [if_pos h2] at hg
   refine fin h' tk l n QA vs rfl rv ?_ kp hl hg
   unfold bw
   rw [if_pos (by omega)]
   exact λJ0=>rs _ J0
  ·rw [if_neg h2] at hg
   have ib:∀i∈(aY (ltB ks') (Tq ks'.length)).toList,i < ks'.length:=λi hi=>by
    have:=((eH (n:=ks'.length) (by omega)).run (ltB ks'):eF _ _)
    have:=(TU this).mp (UQ.mp hi)
    simpa using this
   have e1:iw (ltB ks') QA=(aY (ltB ks') (Tq ks'.length)).toList.map λi=>QA.getD i RN:=by unfold iw;rw [l2,l1]
   rw [e1] at hg
   refine fin h' tk l n _ _ ?_ (ng rv _ λi hi=>l2▸ib i hi) ?_ kp hl hg
   ·rw [QO,<-l2]
    have:=((eH (n:=ks'.length) (by omega)).run (ltB ks'):eF _ _).size_eq
    simpa using this
   ·unfold bw
    rw [if_neg (by omega)]
    exact λJ0=>mY (rs _ J0) _ ib
end
end DL
namespace DL
open PySem PySem.Spec PyProof.Rows L2 ST DX
theorem CL:R1 "set"=some (.type "set"):=by decide +kernel
section
variable {X:Cx}{c:C}{e:Rz}{pos pos2:Pos}
noncomputable def gj:List R->M R
 | [.d (.tup ys)]=>if oZ ys=true then .ok (.l .fresh (cR ys)) else if qG ys=true then .ok (.l .fresh (cR ys)) else .bad
 | _=>.bad
noncomputable def LA (X:Cx):List V->Hp->VK->Prop:=λxs H Q=>∃p vs ms J0,xs=[.ref p]/\cX X.K H p vs/\aF X.K J0 (ms.map .int) vs/\ms.length < 64/\∀l,H l=none->Q (.ref l) (upd H l (nT X l ms))
noncomputable def LB (X:Cx):List V->Hp->VK->Prop:=λxs H Q=>∃p vs ds J0,xs=[.ref p]/\cX X.K H p vs/\aT J0 H/\aF X.K J0 ds vs/\oZ ds=true/\∀l,H l=none->Q (.ref l) (upd H l (nU X J0 l ds))
noncomputable def Gf (X:Cx):List V->Hp->VK->Prop:=λxs H Q=>∃p ms,xs=[.ref p]/\H p=some (nT X p ms)/\ms.length < 64/\∀l vs',H l=none->(∀J0,aF X.K J0 (cR (ms.map .int)) vs')->Q (.ref l) (upd H l (.lst vs'))
noncomputable def Gg (X:Cx):List V->Hp->VK->Prop:=λxs H Q=>∃p ds J0,xs=[.ref p]/\H p=some (nU X J0 p ds)/\aT J0 H/\oZ ds=true/\∀l vs',H l=none->aF X.K J0 (cR ds) vs'->Q (.ref l) (upd H l (.lst vs'))
theorem o8 {p p2:Pos}{gs:G (List R)}(hu:X.A.units + 64 < Sy) (ha:jt X c [e] gs) (hm:X.mg "sorted"=none) (hm2:X.mg "set"=none) (hK:X.K=c.K:=by rfl) (hc:X.calm=true:=by rfl) (hg:Gl X "sorted":=by rfl) (O_:Gl X "set":=by rfl)
  (he:QZ [.Call (.Name "set" p2) [e] [] pos2] X.env=(false,eval (.Call (.Name "set" p2) [e] [] pos2) X.env)::QZ [] X.env:=by rfl) (hpl:(SV pos (QZ [] X.env)).any (·.1)=false:=by rfl)
  (O8:QZ [e] X.env=(false,eval e X.env)::QZ [] X.env:=by rfl) (PK:(SV pos2 (QZ [] X.env)).any (·.1)=false:=by rfl):
  QD X c (.Call (.Name "sorted" p) [.Call (.Name "set" p2) [e] [] pos2] [] pos) (gN gj gs):=by
 have ha:=ha.h
 refine ⟨?_⟩
 have h1:=lq (p:=p2) (pos:=pos2) (bU.or (show bU X (.type "set") (LB X) from CQ hu hc) (show bU X (.type "set") (LA X) from CP hc)) O_ hm2 CL ha (by decide) (by decide) O8 PK
 have h2:=qS (p:=p) (pos:=pos) (bU.or (show bU X (.builtin "sorted") (Gg X) from Bm hu hc) (show bU X (.builtin "sorted") (Gf X) from zB hc)) hg hm j3 (e_ h1 g9 he) (by decide) (by decide) he hpl
 refine FJ (ta:=Cj) (f:=gj) (r:=λvs H1 Q=>(LB X vs H1 λv H2=>Gg X [v] H2 Q\/Gf X [v] H2 Q)\/(LA X vs H1 λv H2=>Gg X [v] H2 Q\/Gf X [v] H2 Q)) h2 rfl ?_
 intro He J H xs vs Q hp rs w
 unfold gj at w
 split at w
 ·rename_i ys
  obtain ⟨v,rfl,r⟩:=rs.one
  cases r with
  | tup h hs=>
   have hT:∀{p:Q4}{us:List V},cX c.K J p us->cX X.K H p us:=λh=>by rw [hK];exact fB hp.sub h
   have fin:∀(o:Q4->HO) (w:∀w J' H',Ext J H J' H'->RR c H J' H' (.l .fresh (cR ys)) w->Q w H') (l l2:Q4) (vs':List V),H l=none->upd H l (o l) l2=none->aF X.K J (cR ys) vs'->Q (.ref l2) (upd (upd H l (o l)) l2 (.lst vs')):=λo w l l2 vs' hl h2 rr=>by
    rw [hK] at rr
    have e1:=Ext.new hp.sub hl (o l)
    have e2:=Ext.new e1.sub h2 (.lst vs')
    exact w _ _ _ (e1.trans e2) (RR.from e1.h (iU (hp.ext e1) h2 rr))
   split at w
   ·rename_i ok
    exact .inl ⟨_,_,ys,J,rfl,hT h,hp.sub,by rw [hK];exact hs,ok,λl hl=>.inl ⟨l,ys,J,rfl,b_,(Ext.new hp.sub hl _).sub,ok,λl2 vs' h2 rr=>fin (λl=>nU X J l ys) w l l2 vs' hl h2 rr⟩⟩
   ·split at w
    ·rename_i ok
     unfold qG at ok
     rw [QX] at ok
     have o1:=of_decide_eq_true ok.1
     have ey:=LZ ok.2
     refine .inr ⟨_,_,ys.map AS,J,rfl,hT h,by rw [hK,<-ey];exact hs,by rw [QO];exact o1,λl hl=>.inr ⟨l,ys.map AS,rfl,b_,by rw [QO];exact o1,λl2 vs' h2 rr=>?_⟩⟩
     rw [<-ey] at rr
     exact fin (λl=>nT X l (ys.map AS)) w l l2 vs' hl h2 (rr _)
    ·exact w.elim
 ·exact w.elim
end
end DL
namespace DL
open PySem PySem.Spec PyProof.Rows L2 DX
end DL
namespace K55
open PySem DL
noncomputable def zk:List Str:=["told","least","most"]
noncomputable def qC:G O:=(b8 (sC (ir (bO (gN (aK 1 K01.ow) (ao (af 0) aC)))) (sC (bO (g2 (i8 λi j=>.bl (decide (i < j))) (af 0) (af 1))) (bO (g2 (i8 λi j=>.bl (decide (j < i))) (af 0) (af 2))))) wI dS)
noncomputable def fH (as:List S):M R:=fin (qC (aZ zk as))
noncomputable def zg:List Str:=["_law_cell_here","_law_many","_law_left","_law_found","_law_k"]
noncomputable def qz:G O:=(aL (a_ 2 (GV (ao (af 1) aC)))
 (aL (a_ 3 (fZ aX))
 (aL (gF (cj (ao (af 1) aC)) (aD 4) (aL (mH 3 2 (g2 cW (af 0) (gN iR (ao (af 2) aC))))
 (a_ 0 (g2 fM (af 0) (gC (.int 9))))))
 (bH (gN cH (ao (af 3) aC))))))
noncomputable def dz (as:List S):M R:=fin (qz (aZ zg as))
noncomputable def wY:List Str:=["_law_world_here","_law_order_here","_law_marks","_law_arrows"]
noncomputable def oQ:G O:=(aL (a_ 2 (bM 2 [1] (fO (g2 bg (af 0) (gC (.int 1)))) (eW 2 (bI (aD 0) (bI (aD 1) fC))) cF (bJ (aA (af 0) (aA (gN cH (ao (gN mF (ao (bM 1 [2] (fO (af 1)) (aD 0) cF (g2 bg (af 1) (af 0))) aC)) aC)) aX)))))
 (aL (a_ 3 (bM 2 [1] (fO (g2 bg (af 0) (gC (.int 2)))) (eW 2 (bI (aD 0) (bI (aD 1) fC))) cF (bJ (aA (af 0) (aA (gN cH (ao (gN mF (ao (bM 2 [2] (fO (af 1)) (eW 2 (bI (aD 0) (bI (aD 1) fC))) cF (bJ (aA (g2 bg (af 2) (af 0)) (aA (g2 bg (af 2) (af 1)) aX)))) aC)) aC)) aX)))))
 (bH (bJ (aA (g2 bg (af 0) (gC (.int 0))) (aA (gN cH (ao (af 2) aC)) (aA (gN cH (ao (af 3) aC)) aX)))))))
noncomputable def iI (as:List S):M R:=fin (oQ (aZ wY as))
noncomputable def vN:List Str:=["_law_world_here","_law_cell_here","_law_many","_law_marks","_law_arrows","_law_at","_law_thing","_law_some","_law_name","_law_had","_law_now"]
noncomputable def n8:G O:=(aL (lO (eW 3 (bI (aD 2) (bI (aD 3) (bI (aD 4) fC)))) (af 0))
 (aL (b8 (bO (g2 (fN false) (g2 cY (gN iR (ao (af 3) aC)) (gN iR (ao (af 4) aC))) (gC (.int 0)))) (bH (af 0)) dS)
 (aL (a_ 5 (g2 cW (af 1) (g2 cY (gN iR (ao (af 3) aC)) (gN iR (ao (af 4) aC)))))
 (aL (a_ 6 (g2 cW (g2 fM (af 1) (gC (.int 6))) (af 2)))
 (aL (a_ 7 (af 3))
 (aL (b8 (bO (g2 (i8 λi j=>.bl (decide (j<=i))) (af 5) (gN iR (ao (af 3) aC)))) (aL (a_ 5 (g2 Kd (af 5) (gN iR (ao (af 3) aC))))
 (aL (a_ 6 (bJ (aA (af 6) (aA (g2 cW (g2 fM (af 1) (gC (.int 48))) (af 2)) aX))))
 (a_ 7 (af 4)))) dS)
 (aL (lO (eW 2 (bI (aD 8) (bI (aD 9) fC))) (g2 bg (af 7) (af 5)))
 (aL (a_ 10 (gN cH (ao (gN gj (ao (g2 cY (af 9) (bJ (aA (af 6) aX))) aC)) aC)))
 (aL (b8 (bO (g2 (gT false) (af 6) (af 9))) (a_ 10 (gN cH (ao (bM 1 [6] (fO (af 9)) (aD 0) (bO (g2 (fN true) (af 0) (af 1))) (af 0)) aC))) dS)
 (aL (a_ 7 (g2 cY (g2 cY (sD lN (af 7) uW (uX (af 5))) (bJ (aA (bJ (aA (af 8) (aA (af 10) aX))) aX))) (sD lN (af 7) (uX (g2 cY (af 5) (gC (.int 1)))) uW)))
 (aL (b8 (bO (xZ "tuple" (af 6))) (bH (bJ (aA (af 2) (aA (af 3) (aA (af 7) aX))))) dS)
 (bH (bJ (aA (af 2) (aA (af 7) (aA (af 4) aX))))))))))))))))
noncomputable def eZ (as:List S):M R:=fin (n8 (aZ vN as))
noncomputable def Cv:List Str:=["_law_script","_law_sizes","_law_first","_law_second","_law_marks","_law_names_here","_law_one","_law_way","_law_other"]
noncomputable def uZ:G O:=(aL (a_ 2 (gN (aK 2 K51.bQ) (ao (af 0) (ao (gC (.int 0)) aC))))
 (aL (a_ 3 (gN (aK 2 K51.bQ) (ao (af 0) (ao (gC (.int 1)) aC))))
 (aL (a_ 4 (gN (aK 2 K51.gp) (ao (g2 fM (af 3) (gC (.int 20))) (ao (g2 bg (fZ (aA (gC (.int 1)) (aA (gC (.int 0)) (aA (gC (.int 2)) (aA (gC (.int 3)) aX))))) (g2 cW (af 3) (gC (.int 4)))) aC))))
 (aL (jD 4 (a_ 5 (bJ (aA (af 4) (aA (gN (aK 2 K51.gp) (ao (gN (aK 2 K51.bQ) (ao (af 0) (ao (gC (.int 2)) aC))) (ao (g2 bg (fZ (aA (gC (.int 1)) (aA (gC (.int 2)) (aA (gC (.int 0)) (aA (gC (.int 1)) (aA (gC (.int 3)) aX)))))) (g2 cW (g2 fM (af 3) (gC (.int 4))) (gC (.int 5)))) aC))) aX)))))
 (aL (a_ 6 (gN (aK 3 K51.fF) (ao (af 5) (ao (g2 bg (af 1) (g2 cW (af 2) (gC (.int 8)))) (ao (bM 1 [0] (cj (ao (gC (.int 6)) aC)) (aD 0) cF (gN (aK 2 K51.bQ) (ao (af 1) (ao (g2 dD (gC (.int 3)) (af 0)) aC)))) aC)))))
 (aL (a_ 7 (g2 cW (g2 fM (af 2) (gC (.int 8))) (gC (.int 4))))
 (aL (b8 (bO (g2 (fN false) (af 7) (gC (.int 0)))) (bH (bJ (aA (af 6) (aA (gN (aK 3 K51.fF) (ao (af 5) (ao (g2 bg (af 1) (g2 cW (g2 fM (af 2) (gC (.int 32))) (gC (.int 8)))) (ao (bM 1 [0] (cj (ao (gC (.int 6)) aC)) (aD 0) cF (gN (aK 2 K51.bQ) (ao (af 1) (ao (g2 dD (gC (.int 9)) (af 0)) aC)))) aC)))) aX)))) dS)
 (aL (a_ 8 (gN (aK 2 K55.iI) (ao (af 6) (ao (gN (aK 2 K55.dz) (ao (gN (aK 2 K51.bQ) (ao (af 0) (ao (gC (.int 15)) aC))) (ao (g2 bg (af 6) (gC (.int 0))) aC))) aC))))
 (aL (b8 (bO (g2 (i8 λi j=>.bl (decide (j < i))) (af 7) (gC (.int 1)))) (a_ 8 (gN (aK 2 K55.eZ) (ao (af 8) (ao (gN (aK 2 K51.bQ) (ao (af 0) (ao (gC (.int 9)) aC))) aC)))) dS)
 (aL (b8 (bO (g2 (fN false) (af 7) (gC (.int 3)))) (a_ 8 (gN (aK 2 K55.eZ) (ao (af 8) (ao (gN (aK 2 K51.bQ) (ao (af 0) (ao (gC (.int 10)) aC))) aC)))) dS)
 (bH (bJ (aA (af 6) (aA (af 8) aX))))))))))))))
noncomputable def jr (as:List S):M R:=fin (uZ (aZ Cv as))
end K55
namespace K55
open PySem DL K01 WP K51 K52
theorem xR (a b:Nat):bu (dN a) (dN b)=(a == b):=by
 show ((a:Int) == (b:Int))=_
 by_cases h:a=b
 ·subst h;simp
 ·rw [beq_eq_false_iff_ne.mpr h,beq_eq_false_iff_ne.mpr (by omega)]
structure kQ (n:Nat) (w:Wd):Prop where
 mp:∀r∈w.ms,r.2.length<=n/\∀p∈r.2,p < w.m
 ap:∀r∈w.ar,r.2.length<=n/\∀p∈r.2,p.1 < w.m/\p.2 < w.m
noncomputable abbrev N3 (w:Wd):Prop:=kQ 30 w
noncomputable def em (m:Nat) (x:Nat×Nat):Nat:=if x.1=0 then x.2 else x.2 + m
theorem inN (l:Nat) (xs:List Nat):inD (dN l) (xs.map dN)=decide (l∈xs):=by
 unfold inD
 rw [Wo,R5,Tf,decide_eq_true_eq]
 constructor
 ·rintro ⟨x,hx,e⟩
  have e:bu (dN x) (dN l)=true:=e
  rw [xR] at e
  rw [<-eq_of_beq e];exact hx
 ·intro h
  exact ⟨l,h,by show bu (dN l) (dN l)=true;rw [xR];simp⟩
theorem uU (a b:Nat×Nat):bu (dP a) (dP b)=decide (a=b):=by
 have:bu (dP a) (dP b)=(bu (dN a.1) (dN b.1) && (bu (dN a.2) (dN b.2) && true)):=by
  show bu (.tup [dN a.1,dN a.2]) (.tup [dN b.1,dN b.2])=_
  rw [jV,gP,gP,cu]
 rw [this,xR,xR,R5]
 obtain ⟨a1,a2⟩:=a
 obtain ⟨b1,b2⟩:=b
 simp
theorem M6 (l:Nat×Nat) (xs:List (Nat×Nat)):inD (dP l) (xs.map dP)=decide (l∈xs):=by
 unfold inD
 rw [Wo,R5,Tf,decide_eq_true_eq]
 constructor
 ·rintro ⟨x,hx,e⟩
  have e:bu (dP x) (dP l)=true:=e
  rw [uU,decide_eq_true_eq] at e
  rw [<-e];exact hx
 ·intro h
  exact ⟨l,h,by show bu (dP l) (dP l)=true;rw [uU];simp⟩
theorem fp (i j:Int):cY (.d (.int i)) (.d (.int j))=.ok (.d (.int (i + j))):=rfl
theorem yi {env:Ev}{Q:O->Prop}{g:G R}{i j k:Nat}{xs zs:List D}(h1:env[i]?=some (some (.own zs))) (h2:env[j]?=some (some (.own xs))) (hij:i≠j) (h:g env=.ok (.d (.int k))) (hk:k < xs.length) (lz:zs.length < 1000) (lx:xs.length<=1000)
  (c:Q (.nx ((env.set j (some (.own (xs.eraseIdx k)))).set i (some (.own (zs++[xs[k]])))))):Wp (mH i j g env) Q:=by
 refine ⟨_,?_,c⟩
 unfold mH
 rw [h1,h2]
 show (if i=j then M.bad else (g env >>= _))=_
 rw [if_neg hij,h,aN]
 show (if 0<=(k:Int)/\(k:Int).toNat < xs.length/\zs.length < sizeLine/\xs.length<=sizeLine then _ else _)=_
 rw [if_pos ⟨by omega,by simpa using hk,Rl lz (gH (QY _)),gH lx⟩]
 rw [Sz,Q5 hk]
theorem Hj (c:Int) (m:Nat) (hm:m<=8):∃ps:List Nat,dz [.d (.int c),.d (.int m)]=.ok (.d (.tup (ps.map dN)))/\ps.length=m/\∀p∈ps,p < m:=by
 have key:Wp (dz [.d (.int c),.d (.int m)]) λr=>∃ps:List Nat,r=.d (.tup (ps.map dN))/\ps.length=m/\∀p∈ps,p < m:=by
  refine jQ (br (r:=.l .fresh ((QU m).map dN)) ?_ rfl (br rfl rfl (jq (nP (n:=m) rfl (by omega)) ?_)))
  ·show (if below 16777216 (m:Int) then M.ok (R.l .fresh (eY 0 (m:Int).toNat)) else .bad)=_
   rw [if_pos (by unfold below;simp;omega),Sz,Gm]
  ·refine lJ (λk env=>∃(c:Int) (ls ps:List Nat) (x:Option S),env=[some (.d (.int c)),some (.d (.int m)),some (.own (ls.map dN)),some (.own (ps.map dN)),x]/\ls.length + k=m/\ps.length=k/\(∀p∈ls,p < m)/\∀p∈ps,p < m) ⟨c,QU m,[],none,rfl,by simp,rfl,λp hp=>by simpa using hp,λ_ h=>by cases h⟩ ?_ ?_
   ·rintro k hk _ ⟨c,ls,ps,x,rfl,l1,l2,m1,m2⟩
    have hlen:(0:Int) < ((ls.map dN).length:Nat):=by simp;omega
    obtain ⟨j,hj⟩:∃j:Nat,c % ((ls.map dN).length:Nat)=j:=⟨(c % ((ls.map dN).length:Nat)).toNat,by have:=Tz c (b:=((ls.map dN).length:Nat)) (by omega);omega⟩
    have hjl:j < (ls.map dN).length:=by
     have:=SO c hlen
     omega
    have ON:j < ls.length:=by simpa using hjl
    refine ⟨_,rfl,cC (yi (k:=j) rfl rfl (by decide) ((two rfl (n1 rfl rfl) (dO _ _ hlen)).trans (by rw [hj])) hjl (by simp;omega) (by simp;omega) ?_)⟩
    refine f_ (two rfl rfl (iZ _ 9 (by decide) (by decide))) rfl ⟨_,rfl,c / 9,ls.eraseIdx j,ps++[ls[j]],some (.d (.int k)),?_,?_,?_,λp hp=>m1 p (List.mem_of_mem_eraseIdx hp),λp hp=>?_⟩
    ·rw [Ro,VR,show (ls.eraseIdx j).map dN=(ls.map dN).eraseIdx j by simp [S4,UK,Vl]]
     rfl
    ·rw [VZ,if_pos ON];omega
    ·rw [Rm];simp;omega
    ·rcases Rx.mp hp with h | h
     ·exact m2 p h
     ·rw [Q9.mp h];exact m1 _ (Si ON)
   ·rintro _ ⟨c,ls,ps,x,rfl,l1,l2,m1,m2⟩
    exact bN rfl rfl ⟨_,rfl,ps,rfl,l2,m2⟩
 obtain ⟨_,h,ps,rfl,hk⟩:=key
 exact ⟨ps,h,hk⟩
noncomputable def lI:D->Nat
 | .int i=>i.toNat
 | _=>0
noncomputable def kK:D->Nat×Nat
 | .tup [x,y]=>(lI x,lI y)
 | _=>(0,0)
theorem tR (n:Nat):lI (dN n)=n:=rfl
theorem jP (n:Nat×Nat):kK (dP n)=n:=rfl
theorem back {α:Type}(h:α->D) (u:D->α) (hu:∀x,u (h x)=x){l:List D}(hl:∀d∈l,∃x,d=h x):(l.map u).map h=l:=by
 rw [Rv]
 refine (Um (g:=id) λd hd=>?_).trans (List.map_id _)
 obtain ⟨x,rfl⟩:=hl d hd
 show h (u (h x))=h x
 rw [hu]
theorem vF {α:Type}(h:α->D) (u:D->α) (hu:∀x,u (h x)=x) (xs:List α):((bw (xs.map h)).map u).map h=bw (xs.map h):=back h u hu λd hd=>by
 obtain ⟨x,_,rfl⟩:=QT.mp (lE hd)
 exact ⟨x,rfl⟩
theorem AK {α:Type}(h:α->D) (u:D->α) (hu:∀x,u (h x)=x) (xs:List α):∀y∈(bw (xs.map h)).map u,y∈xs:=λy hy=>by
 obtain ⟨d,hd,rfl⟩:=QT.mp hy
 obtain ⟨x,hx,rfl⟩:=QT.mp (lE hd)
 rw [hu];exact hx
noncomputable def pF:Fm:=.tc .i (.tc .i .tn)
theorem oV (p:Nat×Nat):i_ pF (dP p):=⟨_,rfl,_,_,rfl,⟨_,rfl⟩,_,rfl,_,_,rfl,⟨_,rfl⟩,[],rfl,rfl⟩
theorem G1 (xs:List Nat) (hl:xs.length < 64):qG (xs.map dN)=true:=by
 unfold qG
 rw [QO,decide_eq_true hl,UM,RJ]
 intro d hd
 obtain ⟨x,_,rfl⟩:=QT.mp hd
 rfl
theorem Kh (xs:List (Nat×Nat)):∀d∈xs.map dP,gX d=some .i:=λd hd=>by
 obtain ⟨x,_,rfl⟩:=QT.mp hd
 rfl
theorem Mt (xs:List (Nat×Nat)) (hl:xs.length < 64):yt (xs.map dP)=true:=by
 have Qc:=Dg xs
 have hc:rY (xs.map dP)=true:=by
  unfold rY
  rw [RJ]
  intro x hx
  rw [RJ]
  intro y hy
  obtain ⟨a,_,rfl⟩:=QT.mp hx
  obtain ⟨b,_,rfl⟩:=QT.mp hy
  exact (fD pF).lt _ _ (oV a) (oV b)
 unfold yt
 rw [hc,decide_eq_true Qc,QO,decide_eq_true hl]
 cases xs with
 | nil=>rfl
 | cons x xs=>
  have hh:Fy ((x::xs).map dP)=true:=by
   show gO .i ((x::xs).map dP)=true
   exact nq (Kh (x::xs))
  rw [hh]
  simp
theorem NF (xs:List Nat) (hl:xs.length < 64):mF [.l .fresh (xs.map dN)]=.ok (.l .fresh (bw (xs.map dN))):=by
 show (if yt (xs.map dN)=true then M.ok (R.l .fresh (bw (xs.map dN))) else if qG (xs.map dN)=true then M.ok (R.l .fresh (bw (xs.map dN))) else .bad)=_
 rw [if_pos (G1 xs hl)]
 split <;> rfl
theorem NG (xs:List (Nat×Nat)) (hl:xs.length < 64):mF [.l .fresh (xs.map dP)]=.ok (.l .fresh (bw (xs.map dP))):=by
 show (if yt (xs.map dP)=true then M.ok (R.l .fresh (bw (xs.map dP))) else if qG (xs.map dP)=true then M.ok (R.l .fresh (bw (xs.map dP))) else .bad)=_
 rw [if_pos (Mt xs hl)]
theorem BE {ps:List Nat}{p:Nat}(hp:p < ps.length):bg (.d (.tup (ps.map dN))) (.d (dN p))=.ok (.d (dN (ps.getD p 0))):=by
 have h1:(ps.map dN)[p]?=some (dN (ps.getD p 0)):=by rw [Rj,Q5 hp];simp [XI,hp]
 exact jW h1
noncomputable def kI (w:Wd) (ps:List Nat):Wd:=⟨w.m,w.ms.map λr=>(r.1,(bw ((r.2.map λp=>ps.getD p 0).map dN)).map lI),w.ar.map λr=>(r.1,(bw ((r.2.map λp=>(ps.getD p.1 0,ps.getD p.2 0)).map dP)).map kK)⟩
theorem ED (w:Wd) (hw:mw w) (n:Nat) (hn:n<=40) (hb:kQ n w) (ps:List Nat) (hl:ps.length=w.m):iI [.d w.d,.d (.tup (ps.map dN))]=.ok (.d (kI w ps).d):=by
 have ml:=hw.ml
 have al:=hw.al
 refine cA (br (kW (xs:=w.ms) (λr=>.str r.1) (λr=>.tup (r.2.map dN)) (λr=>kC (r.1,(bw ((r.2.map λp=>ps.getD p 0).map dN)).map lI)) ?_ (by omega) λr hr=>?_) rfl ?_)
 ·show (g2 bg (af 0) (gC (.int 1)) _ >>= _)=_
  rw [two (x:=.d w.d) rfl rfl (Kv _ _ _)]
  rfl
 ·obtain ⟨h1,h2⟩:=hb.mp r hr
  refine ⟨_,bD (aI rfl rfl (aI (n1 (n1 (j4 (xs:=r.2) (h:=dN) (λp=>dN (ps.getD p 0)) rfl (by omega) λp hp=>⟨_,two rfl rfl (BE (by rw [hl];exact h2 p hp)),rfl⟩) (x:=.l .fresh (r.2.map λp=>dN (ps.getD p 0))) (z:=.l .fresh (bw ((r.2.map λp=>ps.getD p 0).map dN))) ?_) rfl) rfl bx)) t2,?_⟩
  ·have:=NF (r.2.map λp=>ps.getD p 0) (by simp;omega)
   rw [Rv] at this ⊢
   exact this
  ·unfold kC
   rw [vF dN lI tR]
   rfl
 refine br (kW (xs:=w.ar) (λr=>.str r.1) (λr=>.tup (r.2.map dP)) (λr=>pg (r.1,(bw ((r.2.map λp=>(ps.getD p.1 0,ps.getD p.2 0)).map dP)).map kK)) ?_ (by omega) λr hr=>?_) rfl ?_
 ·show (g2 bg (af 0) (gC (.int 2)) _ >>= _)=_
  rw [two (x:=.d w.d) rfl rfl (Oa _ _ _ _)]
  rfl
 ·obtain ⟨h1,h2⟩:=hb.ap r hr
  refine ⟨_,bD (aI rfl rfl (aI (n1 (n1 (kW (xs:=r.2) (λp=>dN p.1) (λp=>dN p.2) (λp=>dP (ps.getD p.1 0,ps.getD p.2 0)) rfl (by omega) λp hp=>⟨_,bD (aI (two rfl rfl (BE (by rw [hl];exact (h2 p hp).1))) rfl (aI (two rfl rfl (BE (by rw [hl];exact (h2 p hp).2))) rfl bx)) t2,rfl⟩) (x:=.l .fresh (r.2.map λp=>dP (ps.getD p.1 0,ps.getD p.2 0))) (z:=.l .fresh (bw ((r.2.map λp=>(ps.getD p.1 0,ps.getD p.2 0)).map dP))) ?_) rfl) rfl bx)) t2,?_⟩
  ·have:=NG (r.2.map λp=>(ps.getD p.1 0,ps.getD p.2 0)) (by simp;omega)
   rw [Rv] at this ⊢
   exact this
  ·unfold pg
   rw [vF dP kK jP]
   rfl
 refine bN (bD (aI (two rfl rfl (gy _ _)) rfl (aI rfl rfl (aI rfl rfl bx))) (by show 3<=1000;decide)) rfl ?_
 unfold kI Wd.d
 simp only [Rv]
 rfl
theorem MX (w:Wd) (hw:mw w) (n:Nat) (hb:kQ n w) (ps:List Nat) (hl:ps.length=w.m) (hp:∀p∈ps,p < w.m):mw (kI w ps)/\kQ n (kI w ps)/\(kI w ps).m=w.m/\(kI w ps).ms.length=w.ms.length/\(kI w ps).ar.length=w.ar.length:=by
 have gd:∀p,p < w.m->ps.getD p 0 < w.m:=λp h=>by
  have h':p < ps.length:=by omega
  rw [show ps.getD p 0=ps[p] by simp [XI,h']]
  exact hp _ (Si h')
 refine ⟨⟨hw.lo,hw.hi,?_,?_⟩,⟨λr hr=>?_,λr hr=>?_⟩,rfl,QO _,QO _⟩
 ·show (w.ms.map _).length<=3
  rw [QO];exact hw.ml
 ·show (w.ar.map _).length<=3
  rw [QO];exact hw.al
 ·obtain ⟨q,hq,rfl⟩:=QT.mp (show r∈w.ms.map _ from hr)
  obtain ⟨h1,h2⟩:=hb.mp q hq
  refine ⟨?_,λp hp'=>?_⟩
  ·show ((bw _).map lI).length<=n
   rw [QO,pI,QO,QO];exact h1
  ·have:=AK dN lI tR _ p hp'
   obtain ⟨z,hz,rfl⟩:=QT.mp this
   exact gd z (h2 z hz)
 ·obtain ⟨q,hq,rfl⟩:=QT.mp (show r∈w.ar.map _ from hr)
  obtain ⟨h1,h2⟩:=hb.ap q hq
  refine ⟨?_,λp hp'=>?_⟩
  ·show ((bw _).map kK).length<=n
   rw [QO,pI,QO,QO];exact h1
  ·have:=AK dP kK jP _ p hp'
   obtain ⟨z,hz,rfl⟩:=QT.mp this
   exact ⟨gd _ (h2 z hz).1,gd _ (h2 z hz).2⟩
theorem NL (xs:List Nat) (hl:xs.length < 64):gj [.d (.tup (xs.map dN))]=.ok (.l .fresh (cR (xs.map dN))):=by
 show (if oZ (xs.map dN)=true then M.ok (R.l .fresh (cR (xs.map dN))) else if qG (xs.map dN)=true then M.ok (R.l .fresh (cR (xs.map dN))) else .bad)=_
 rw [if_pos (G1 xs hl)]
 split <;> rfl
theorem Ms (xs:List (Nat×Nat)) (hl:xs.length < 64):oZ (xs.map dP)=true:=by
 have h1:areKeys (xs.map dP)=true:=by
  induction xs with
  | nil=>rfl
  | cons x xs ih=>
   rw [Ra]
   show (isKey (dP x) && areKeys (xs.map dP))=true
   rw [ih (by simp at hl;omega)]
   rfl
 have h2:deps (xs.map dP)<=8:=fL λd hd=>by
  obtain ⟨x,_,rfl⟩:=QT.mp hd
  exact (by decide:(1:Nat)<=8)
 have h3:G0 (xs.map dP)=true:=by
  cases xs with
  | nil=>rfl
  | cons x xs=>
   show (gO .i ((x::xs).map dP) && ((x::xs).map dP).all (pV pF))=true
   rw [nq (Kh (x::xs)),UM,RJ]
   intro d hd
   obtain ⟨y,_,rfl⟩:=QT.mp hd
   rfl
 unfold oZ
 rw [h1,h3,decide_eq_true h2,QO,decide_eq_true hl]
 rfl
theorem Gp (xs:List (Nat×Nat)) (hl:xs.length < 64):gj [.d (.tup (xs.map dP))]=.ok (.l .fresh (cR (xs.map dP))):=by
 show (if oZ (xs.map dP)=true then M.ok (R.l .fresh (cR (xs.map dP))) else _)=_
 rw [if_pos (Ms xs hl)]
theorem lF {P:D->Prop}(p:fY P){ds:List D}(h:∀x∈ds,P x):(cR ds).length<=ds.length/\∀d∈cR ds,d∈ds:=by
 obtain ⟨h1,h2⟩:=wH p ds h
 refine ⟨?_,λd hd=>((kH p h).2 d).mp hd⟩
 show (bw (dd ds)).length<=_
 rw [pI]
 exact Rp h1 λd hd=>(h2 d).mp hd
theorem JW (xs:List D) (k:Nat) (hk:k<=xs.length):cutD xs none (some (k:Int))=xs.take k:=by
 unfold cutD
 rw [HT.yH,HT.AJ,ZW hk]
 simp
theorem ET (xs:List D) (k:Nat) (hk:k<=xs.length):cutD xs (some (k:Int)) none=xs.drop k:=by
 unfold cutD
 rw [HT.yH,HT.AJ,ZW hk]
 rw [Xm (by simp)]
noncomputable abbrev MH:G O:=(aL (lO (eW 2 (bI (aD 8) (bI (aD 9) fC))) (g2 bg (af 7) (af 5)))
 (aL (a_ 10 (gN cH (ao (gN gj (ao (g2 cY (af 9) (bJ (aA (af 6) aX))) aC)) aC)))
 (aL (b8 (bO (g2 (gT false) (af 6) (af 9))) (a_ 10 (gN cH (ao (bM 1 [6] (fO (af 9)) (aD 0) (bO (g2 (fN true) (af 0) (af 1))) (af 0)) aC))) dS)
 (aL (a_ 7 (g2 cY (g2 cY (sD lN (af 7) uW (uX (af 5))) (bJ (aA (bJ (aA (af 8) (aA (af 10) aX))) aX))) (sD lN (af 7) (uX (g2 cY (af 5) (gC (.int 1)))) uW)))
 (aL (b8 (bO (xZ "tuple" (af 6))) (bH (bJ (aA (af 2) (aA (af 3) (aA (af 7) aX))))) dS)
 (bH (bJ (aA (af 2) (aA (af 7) (aA (af 4) aX))))))))))
noncomputable abbrev dc {α:Type}(h:α->D) (r:Str×List α):D:=.tup [.str r.1,.tup (r.2.map h)]
structure CC {α:Type}(P:α->Prop) (n:Nat) (L:List (Str×List α)):Prop where
 all:∀r∈L,r.2.length<=n/\∀p∈r.2,P p
theorem sV {i:Int}(h:0<=i):∃k:Nat,i=k:=⟨i.toNat,by omega⟩
theorem qa {m:Nat}{ps:List (Nat×Nat)}(h:rN m ps) (hm:m<=4):ps.length<=16:=by
 obtain ⟨_,h2,h3⟩:=h
 have nd:ps.Nodup:=h2.imp fun {a b} hab e=>by subst e;unfold jy at hab;omega
 have sub:∀p∈ps,p∈(QU 16).map λk=>(k / 4,k % 4):=λp hp=>by
  obtain ⟨a,b⟩:=h3 p hp
  refine QT.mpr ⟨p.1 * 4 + p.2,by rw [Ri];omega,?_⟩
  obtain ⟨x,y⟩:=p
  simp only at a b ⊢
  rw [Prod.mk.injEq]
  omega
 have:=Rp nd sub
 simpa using this
end K55
namespace DL
open PySem PySem.Spec PyProof.Rows L2 DX
noncomputable def bV (gt:GT) (gts:G Bool) (act:Ev->M (List D×Ev)):List D->Ev->M (List D×Ev)
 | [],env=>.ok ([],env)
 | d::ds,env=>gt d env >>= λe=>gts e >>= λk=>if k=true then act e >>= λr=>bV gt gts act ds r.2 >>= λz=>.ok (r.1++z.1,z.2) else bV gt gts act ds e
noncomputable def w_ (env:Ev) (σ:L2.St) (p:Q4):Prop:=∀(j:Nat) (xs:Mn),env[j]?=some (some (mS xs))->σ[j]?≠some (some (.ref p))
structure wR (Acc:Hp->Hp->List D->Prop):Prop where
 ext:∀{J H J' H':Hp}{ys:List D},Acc J H ys->Ext J H J' H'->Acc J' H' ys
noncomputable def t8 (X:Cx) (c:C) (p:Q4) (Acc:Hp->Hp->List D->Prop) (J2 H2:Hp) (N:Nat) (m:Sem Unit) (act:Ev->M (List D×Ev)):Prop:=
 ∀(Qz:List (Q4×Obj)) (s:QN) (σ:L2.St) (H J:Hp) (env:Ev) (ys:List D) (Qf:List D×Ev->Prop),Inv X Qz σ H s->Ext J2 H2 J H->SR c J H σ env->w_ env σ p->Acc J H ys->ys.length + N<=sizeLine->cD (act env) Qf c.T->
  Rg (Rk X.prog X.w) X.A m (λ_ s'=>∃σ' H' J' r,Inv X Qz σ' H' s'/\Ext J2 H2 J' H'/\aT J J'/\SR c J' H' σ' r.2/\w_ r.2 σ' p/\Acc J' H' (ys++r.1)/\r.1.length<=N/\Qf r) (λ_ _=>False) s
noncomputable abbrev Ek (ifs:List Rz) (env:Env):Sem Bool:=forIn ifs true λc r=>if r=true then do let ok <-X_ c env (eval c env);pure (Tv ok) else pure (Tv r)
noncomputable abbrev lH (QC QE:Rz) (ifs:List Rz) (it:QM) (env:Env) (act:Sem Unit) (again':Sem Fin):Sem Fin:=do
 Ug QE.pos
 match <-Vq it with
 | none=>pure (.done .next)
 | some v=>
  Tu QC it v
  assign QC env v
  let mut ok:=true
  for c in ifs do
   if ok then ok <-X_ c env (eval c env)
  if ok then
   act
  again'
noncomputable def rJ (prog:Rb) (w:RD) (A:RG) (e:Rz) (depth:Nat) (it acc:QM) (env:Env) (QC:Rz) (ifs:List Rz) (m:Sem Unit):Prop:=
 ∀(R:ZD->QN->Prop) (I:Nat->QN->Prop),(∀n s,I n s->Rg (Rk prog w) A (Vq it) (λr s₁=>match r with
   | none=>R (.ok .next) s₁
   | some v=>Rg (Rk prog w) A (Tu QC it v) (λ_ s₁=>Rg (Rk prog w) A (assign QC env v) (λ_ s₂=>
     Rg (Rk prog w) A (Ek ifs env) (λok s₃=>if ok=true then Rg (Rk prog w) A m (λ_ s₅=>∃m,m < n/\I m s₅) (λ_ _=>False) s₃ else ∃m,m < n/\I m s₃) (λ_ _=>False) s₂) (λ_ _=>False) s₁) (λ_ _=>False) s₁) (λ_ _=>False) s)->
  ∀(n:Nat) (s:QN),I n s->TH (Rk prog w) A (.compLoop e depth it acc env) R s
section
variable {prog:Rb}{w:RD}{A:RG}{QC QE:Rz}{ifs:List Rz}{Qy:TF}{pos:Pos}{it acc:QM}{env:Env}{depth:Nat}{gens:List W7}{act:Sem Unit}
theorem y_ {R:ZD->QN->Prop}{I:Nat->QN->Prop}{E:QM->QN->Prop}{code:Code}{n:Nat}{s:QN}{Q:Fin->QN->Prop}
  (P5:∀s,R (.ok .next) s->Q (.done .next) s) (P0:∀s,(∃m,m < n/\I m s)->Rg (Rk prog w) A (again code) Q E s)
  (t:Rg (Rk prog w) A (Vq it) (λr s₁=>match r with
   | none=>R (.ok .next) s₁
   | some v=>Rg (Rk prog w) A (Tu QC it v) (λ_ s₁=>Rg (Rk prog w) A (assign QC env v) (λ_ s₂=>
     Rg (Rk prog w) A (Ek ifs env) (λok s₃=>if ok=true then Rg (Rk prog w) A act (λ_ s₅=>∃m,m < n/\I m s₅) (λ_ _=>False) s₃ else ∃m,m < n/\I m s₃) (λ_ _=>False) s₂) (λ_ _=>False) s₁) (λ_ _=>False) s₁) (λ_ _=>False) s):
  Rg (Rk prog w) A (lH QC QE ifs it env act (again code)) Q E s:=by
 refine QJ (SK (QJ (RU t (λr s₁ h₁=>?_) λ_ _ f=>f.elim)))
 cases r with
 | none=>exact QL (P5 _ h₁)
 | some v=>
  refine QJ (RU h₁ (λ_ s₁' h₁'=>?_) λ_ _ f=>f.elim)
  refine QJ (RU h₁' (λ_ s₂ h₂=>QJ (RU h₂ (λok s₃ h₃=>?_) λ_ _ f=>f.elim)) λ_ _ f=>f.elim)
  cases ok with
  | false=>exact P0 _ h₃
  | true=>exact QJ (RU h₃ (λ_ s₅ h₅=>P0 _ h₅) λ_ _ f=>f.elim)
theorem BK {elt:Rz}(ht:VH (.ListComp elt gens Qy pos) depth it acc env=lH QC QE ifs it env act (again (.compLoop (.ListComp elt gens Qy pos) depth it acc env))):rJ prog w A (.ListComp elt gens Qy pos) depth it acc env QC ifs act:=by
 intro R I turn n s h
 refine codeAny_loop rfl I (λn s hI=>?_) n h
 show Rg _ A ((VH (.ListComp elt gens Qy pos) depth it acc env).onRaise (λx=>do ZX x env;ZY x)) _ _ s
 refine wpAny_noted ?_
 rw [ht]
 exact y_ (λ_ h=>h) (λ_ h=>QL ⟨rfl,h⟩) (turn n s hI)
theorem BJ {kx vx:Rz}(ht:VH (.DictComp kx vx gens Qy pos) depth it acc env=lH QC QE ifs it env act (again (.compLoop (.DictComp kx vx gens Qy pos) depth it acc env))):rJ prog w A (.DictComp kx vx gens Qy pos) depth it acc env QC ifs act:=by
 intro R I turn n s h
 refine codeAny_loop rfl I (λn s hI=>?_) n h
 show Rg _ A ((VH (.DictComp kx vx gens Qy pos) depth it acc env).onRaise (λx=>do ZX x env;ZY x)) _ _ s
 refine wpAny_noted ?_
 rw [ht]
 exact y_ (λ_ h=>h) (λ_ h=>QL ⟨rfl,h⟩) (turn n s hI)
end
section
variable {X:Cx}{c:C}{p:Q4}{Acc:Hp->Hp->List D->Prop}{J2 H2:Hp}{N:Nat}{m:Sem Unit}{act:Ev->M (List D×Ev)}{QC:Rz}{ifs:List Rz}{gt:GT}{gts:G Bool}{e:Rz}{depth:Nat}{acc:QM}{it:Q4}{fp:List Q4}{tn:Nat->Sn->Prop}{It:It}{ds:List D}{J1:Hp}
theorem yl (aR:wR Acc) (hc:X.calm=true) (hx:∀v s,X.xe v s->False) (LP:rJ X.prog X.w X.A e depth (.ref it) acc X.env QC ifs m) (hT:iM X c QC gt) (hIf:gw X c ifs gts) (hA:t8 X c p Acc J2 H2 N m act) (T:Turn X.prog X.w X.K QC It fp it tn)
  (U:Hp->Hp->Prop) (wk:Walk c It ds J1 U){Qz:List (Q4×Obj)}{s:QN}{σ:L2.St}{H J:Hp}{env:Ev}{ys:List D}{Qf:List D×Ev->Prop}(hU:∀J' H',Ext J2 H2 J' H'->aT J J'->U J' H') (I:Inv X Qz σ H s) (st:tn 0 s.heap) (fr:∀b∈fp,jB X Qz H b) (e2:Ext J2 H2 J H) (sr:SR c J H σ env) (no:w_ env σ p) (ac:Acc J H ys)
  (hl:ys.length + ds.length * N<=sizeLine) (w:cD (bV gt gts act ds env) Qf c.T):
  TH (Rk X.prog X.w) X.A (.compLoop e depth (.ref it) acc X.env) (λr s'=>r=.ok .next/\∃σ' H' J' r',Inv X Qz σ' H' s'/\Ext J2 H2 J' H'/\aT J J'/\SR c J' H' σ' r'.2/\w_ r'.2 σ' p/\Acc J' H' (ys++r'.1)/\r'.1.length<=ds.length * N/\Qf r') s:=by
 refine LP _ (λn s'=>∃(i:Nat) (σ':L2.St) (H' J':Hp) (env':Ev) (zs:List D),n=ds.length - i/\i<=ds.length/\Inv X Qz σ' H' s'/\tn i s'.heap/\(∀b∈fp,H' b=none)/\Ext J2 H2 J' H'/\aT J J'/\SR c J' H' σ' env'/\w_ env' σ' p/\Acc J' H' (ys++zs)/\zs.length<=i * N/\
  cD (bV gt gts act (ds.drop i) env') (λr=>Qf (zs++r.1,r.2)) c.T) ?_ ds.length s ⟨0,σ,H,J,env,[],rfl,RA _,I,st,λb hb=>(fr b hb).1,e2,aT.refl J,sr,no,by rw [S8];exact ac,by simp,by rw [Z8];exact w⟩
 rintro n s' ⟨i,σ',H',J',env',zs,rfl,hi,I',st',fr',e',sj,sr',no',ac',hz,w'⟩
 have stat:∀{H':Hp},(∀b∈fp,H' b=none)->∀b∈fp,jB X Qz H' b:=λhn b hb=>⟨hn b hb,(fr b hb).2⟩
 obtain ⟨wk1,wk2⟩:=wk i J' H' sr'.hp (hU J' H' e' sj)
 by_cases hlt:i < ds.length
 ·obtain ⟨g1,y1⟩:=wk2 ds[i] (by simp [hlt])
  rw [UU hlt] at w'
  refine RU (T.item X rfl rfl rfl hc i Qz s' σ' H' (λ_ _=>False) I' (stat fr') st' g1) (λr s4 ⟨u,hr,h4⟩=>?_) λ_ _ f=>f.elim
  subst hr
  refine RU h4 (λ_ s5 ⟨x,H5,I5,r5,y5,st5,fr5⟩=>?_) λ_ _ f=>f.elim
  obtain ⟨J5,e5,rx⟩:=y1 x H5 y5
  have I5':=I5.pinned (stat fr5) (T.obj _ _ st5)
  have again:∀{σ7:L2.St}{H7:Hp}{s7:QN},Inv X (Qz++o7 fp s5.heap) σ7 H7 s7->Inv X Qz σ7 H7 s7/\tn (i + 1) s7.heap/\(∀b∈fp,H7 b=none):=fun {σ7 H7 s7} I7=>by
   refine ⟨I7.unpinned,T.keep _ _ _ st5 λb hb o e=>(I7.pin (b,o) (RO _ (RO _ (jN hb e)))).1,λb hb=>?_⟩
   obtain ⟨o,e,d⟩:=T.obj _ _ st5 b hb
   exact (I7.pin (b,o) (RO _ (RO _ (jN hb e)))).2.1
  refine RU (hT _ s5 σ' H5 x u (λσ6 H6=>∃e6,H6=H5/\SR c J5 H5 σ6 e6/\KO env' σ' e6 σ6/\cD (gts e6 >>= λk=>if k=true then act e6 >>= λr=>bV gt gts act (ds.drop (i + 1)) r.2 >>= λz=>.ok (r.1++z.1,z.2) else bV gt gts act (ds.drop (i + 1)) e6)
   (λr=>Qf (zs++r.1,r.2)) c.T) I5' r5 ⟨J5,env',ds[i],sr'.ext e5,rx,aB (aH w') λe6 w6 σ6 sr6 ko=>⟨e6,rfl,sr6,ko,w6⟩⟩) (λ_ s6 ⟨σ6,H6,I6,e6,P4,sr6,ko,w6⟩=>?_) λ_ _ f=>(hx _ _ f).elim
  subst P4
  have no6:w_ e6 σ6 p:=λj xs q z=>by
   obtain ⟨k1,k2⟩:=ko j xs q
   exact no' j xs k1 (k2▸z)
  refine RU (hIf _ s6 σ6 H6 (λk H7=>∃J7,Ext J5 H6 J7 H7/\cD (if k=true then act e6 >>= λr=>bV gt gts act (ds.drop (i + 1)) r.2 >>= λz=>.ok (r.1++z.1,z.2) else bV gt gts act (ds.drop (i + 1)) e6)
   (λr=>Qf (zs++r.1,r.2)) c.T) I6 ⟨J5,e6,sr6,aB (aH w6) λk wk J7 H7 e7=>⟨J7,e7,wk⟩⟩) (λk s7 ⟨H7,I7,J7,e7,w7⟩=>?_) λ_ _ f=>(hx _ _ f).elim
  have sr7:=sr6.ext e7
  have ac7:=aR.ext (aR.ext ac' e5) e7
  have x7:=(e'.trans e5).trans e7
  have j7:=(sj.trans e5.j).trans e7.j
  have hm:(i + 1) * N=i * N + N:=by rw [ZZ,Nat.one_mul]
  cases k with
  | false=>
   rw [if_neg (by decide)] at w7 ⊢
   obtain ⟨a1,a2,a3⟩:=again I7
   exact ⟨ds.length - (i + 1),by omega,i + 1,σ6,H7,J7,e6,zs,rfl,hlt,a1,a2,a3,x7,j7,sr7,no6,ac7,by omega,w7⟩
  | true=>
   rw [if_pos rfl] at w7 ⊢
   have hN:(i + 1) * N<=ds.length * N:=US N hlt
   refine RU (hA _ s7 σ6 H7 J7 e6 (ys++zs) _ I7 x7 sr7 no6 ac7 (by rw [Rm];omega) (aH w7)) (λ_ s8 ⟨σ8,H8,J8,r,I8,x8,j8,sr8,no8,ac8,l8,w8⟩=>?_) λ_ _ f=>f.elim
   obtain ⟨a1,a2,a3⟩:=again I8
   refine ⟨ds.length - (i + 1),by omega,i + 1,σ8,H8,J8,r.2,zs++r.1,rfl,hlt,a1,a2,a3,x8,j7.trans j8,sr8,no8,by rw [<-UO];exact ac8,by rw [Rm];omega,?_⟩
   refine aB (aH w8) λz q=>?_
   rw [UO]
   exact q
 ·have Qi:i=ds.length:=by omega
  subst Qi
  rw [Xj (QY _)] at w'
  refine RU (T.done X rfl rfl rfl hc _ Qz s' σ' H' (λ_ _=>False) I' (stat fr') st' (wk1 (QY _))) (λr s4 ⟨hr,I9⟩=>?_) λ_ _ f=>f.elim
  subst hr
  have w9:Qf (zs++[],env'):=w'
  rw [S8] at w9
  exact ⟨rfl,σ',H',J',(zs,env'),I9,e',sj,sr',no',ac',hz,w9⟩
end
section
variable {prog:Rb}{w:RD}{A:RG}{R:ZD->QN->Prop}{s:QN}{it acc:QM}{env:Env}{Qy:TF}{pos:Pos}{g0:W7}{QC QE:Rz}{ifs:List Rz}{rest:List W7}
theorem LM {elt:Rz}(h0:TH (Rk prog w) A (.compLoop (.ListComp elt (g0::⟨QC,QE,ifs,0⟩::rest) Qy pos) 1 it acc env) R s)
  (h:Rg (Rk prog w) A (WD it) (λit' s'=>TH (Rk prog w) A (.compLoop (.ListComp elt (g0::⟨QC,QE,ifs,0⟩::rest) Qy pos) 1 it' acc env) R s') (λ_ _=>False) s):
  TH (Rk prog w) A (.compStart (.ListComp elt (g0::⟨QC,QE,ifs,0⟩::rest) Qy pos) 1 it acc env) R s:=by
 refine Vp ?_
 show Rg _ _ ((Z0 (.ListComp elt (g0::⟨QC,QE,ifs,0⟩::rest) Qy pos) 1 it acc env).onRaise (λx=>do ZX x env;Ug Z1)) _ _ s
 refine aaR ?_
 unfold Z0
 show Rg _ _ (ask >>= _) _ _ s
 refine QJ (TQ (wpAny_ite ?_))
 split
 ·first
   | exact QJ (QL (QL (XJ rfl h0)))
   | exact QL (XJ rfl h0)
 ·refine QJ (WI ?_)
  show Rg _ _ (Ug QE.pos >>= _) _ _ s
  exact QJ (SK (QJ (RU h (λit' s' h'=>QL (XJ rfl h')) λ_ _ x=>x.elim)))
theorem LL {kx vx:Rz}(h0:TH (Rk prog w) A (.compLoop (.DictComp kx vx (g0::⟨QC,QE,ifs,0⟩::rest) Qy pos) 1 it acc env) R s)
  (h:Rg (Rk prog w) A (WD it) (λit' s'=>TH (Rk prog w) A (.compLoop (.DictComp kx vx (g0::⟨QC,QE,ifs,0⟩::rest) Qy pos) 1 it' acc env) R s') (λ_ _=>False) s):
  TH (Rk prog w) A (.compStart (.DictComp kx vx (g0::⟨QC,QE,ifs,0⟩::rest) Qy pos) 1 it acc env) R s:=by
 refine Vp ?_
 show Rg _ _ ((Z0 (.DictComp kx vx (g0::⟨QC,QE,ifs,0⟩::rest) Qy pos) 1 it acc env).onRaise (λx=>do ZX x env;Ug Z1)) _ _ s
 refine aaR ?_
 unfold Z0
 show Rg _ _ (ask >>= _) _ _ s
 refine QJ (TQ (wpAny_ite ?_))
 split
 ·first
   | exact QJ (QL (QL (XJ rfl h0)))
   | exact QL (XJ rfl h0)
 ·refine QJ (WI ?_)
  show Rg _ _ (Ug QE.pos >>= _) _ _ s
  exact QJ (SK (QJ (RU h (λit' s' h'=>QL (XJ rfl h')) λ_ _ x=>x.elim)))
end
noncomputable def iP (gi:G (List D)) (gt:GT) (gts:G Bool) (act:Ev->M (List D×Ev)):Ev->M (List D×Ev):=λenv=>gi env >>= λds=>if ds.length<=1000 then bV gt gts act ds env else .bad
noncomputable abbrev qO (e QE:Rz) (acc:QM) (env:Env):Sem Unit:=do
 let x <-eval QE env
 Ug QE.pos
 let x <-Q_ QE env x
 let _ <-runOwn (.compStart e 1 (<-holding [x] (WD x)) acc env) env
section
variable {X:Cx}{c:C}{p:Q4}{Acc:Hp->Hp->List D->Prop}{J2 H2:Hp}{N:Nat}{m:Sem Unit}{act:Ev->M (List D×Ev)}{QC QE:Rz}{ifs:List Rz}{gi:G (List D)}{gt:GT}{gts:G Bool}{e:Rz}{acc:QM}
theorem Aa (aR:wR Acc) (hc:X.calm=true) (hx:∀v s,X.xe v s->False) (hs:∀x,Q_ QE X.env x=pure x)
  (start:∀(it:Q4) (R:ZD->QN->Prop) (s:QN),TH (Rk X.prog X.w) X.A (.compLoop e 1 (.ref it) acc X.env) R s->Rg (Rk X.prog X.w) X.A (WD (.ref it)) (λit' s'=>TH (Rk X.prog X.w) X.A (.compLoop e 1 it' acc X.env) R s') (λ_ _=>False) s->TH (Rk X.prog X.w) X.A (.compStart e 1 (.ref it) acc X.env) R s)
  (LP:∀it:Q4,rJ X.prog X.w X.A e 1 (.ref it) acc X.env QC ifs m) (hi:xh X c QC QE gi) (hT:iM X c QC gt) (hIf:gw X c ifs gts) (hA:t8 X c p Acc J2 H2 N m act):
  t8 X c p Acc J2 H2 (1000 * N) (qO e QE acc X.env) (iP gi gt gts act):=by
 intro Qz s σ H J env ys Qf I x2 sr no ac hl w
 refine QJ (RU (hi Qz s σ H (λIt H1=>∃ds J1,Ext J H J1 H1/\Walk c It ds J1 (λJ' _=>aT J1 J')/\cD (if ds.length<=1000 then bV gt gts act ds env else .bad) Qf c.T) I ⟨J,env,sr,aB (aH w) λds wd It J1 H1 e1 wk=>⟨ds,J1,e1,wk,wd⟩⟩) (λxv s1 h1=>?_) λv s f=>(hx v s f).elim)
 refine QJ (SK ?_)
 rw [hs xv]
 refine QJ (QL (QJ (Ru (RU h1 (λitv s2 h2=>?_) λv s f=>(hx v s f).elim))))
 obtain ⟨it,fp,tn,It,H1,rfl,I1,T,st1,f1,ds,J1,e1,wk,w1⟩:=h2
 have hsz:ds.length<=1000:=by
  by_cases z:ds.length<=1000
  ·exact z
  ·rw [if_neg z] at w1;exact w1.elim
 rw [if_pos hsz] at w1
 have hm:ds.length * N<=1000 * N:=US N hsz
 have hb:ys.length + ds.length * N<=sizeLine:=RE (Nat.add_le_add_left hm _) hl
 have run:=yl aR hc hx (LP it) hT hIf hA T (λJ' _=>aT J1 J') wk (λ_ _ _ h=>h) I1 st1 f1 (x2.trans e1) (sr.ext e1) no (aR.ext ac e1) hb w1
 have run':TH (Rk X.prog X.w) X.A (.compLoop e 1 (.ref it) acc X.env) (λr s'=>match r with | .ok f=>Rg (Rk X.prog X.w) X.A (pure ()) (λ_ s'=>∃σ' H' J' r,Inv X Qz σ' H' s'/\Ext J2 H2 J' H'/\aT J J'/\SR c J' H' σ' r.2/\w_ r.2 σ' p/\Acc J' H' (ys++r.1)/\r.1.length<=1000 * N/\Qf r) (λ_ _=>False) s' | .error e=>cameBackBy (Rk X.prog X.w) X.A X.env (λ_ _=>False) e s') s2:=TR run λr s' ⟨hr,σ',H',J',r',q1,q2,q3,q4,q5,q6,q7,q8⟩=>by
  subst hr
  exact QL ⟨σ',H',J',r',q1,q2,e1.j.trans q3,q4,q5,q6,RE q7 hm,q8⟩
 exact QJ (wpAny_runOwn (h:=none) (start it _ _ run' (T.self _ 0 _ _ _ st1 run')))
end
noncomputable def gz (ge:G R):Ev->M (List D×Ev):=λe=>ge e >>= λr=>toD r >>= λy=>.ok ([y],e)
noncomputable def A_ (c:C) (p:Q4):Hp->Hp->List D->Prop:=λJ H ys=>∃us,H p=some (.lst us)/\J p=none/\aF c.K J ys us
theorem qK {c:C}{p:Q4}:wR (A_ c p):=⟨fun {J H J' H' ys} ⟨us,h1,h2,h3⟩ e=>⟨us,e.h _ _ h1,e.frz _ (by rw [h1];intro z;cases z) h2,h3.mono e.j⟩⟩
section
variable {X:Cx}{c:C}{p:Q4}{J2 H2:Hp}{elt:Rz}{ge:G R}
theorem z_ (hx:∀v s,X.xe v s->False) (hp2:H2 p=none) (hp0:c.H0 p=none) (hE:PD X c elt ge):t8 X c p (A_ c p) J2 H2 1 (do let _ <-call (.builtin "list.append") [.ref p,<-eval elt X.env]) (gz ge):=by
 intro Qz s σ H J env ys Qf I x2 sr no ⟨us,h1,h2,h3⟩ hl w
 have hlen:ys.length=us.length:=h3.length
 refine QJ (RU (hE _ s σ H (λv H8=>∃J8 y,Ext J H J8 H8/\Rep c.K J8 y v/\Qf ([y],env)) I ⟨J,env,sr,aB (aH w) λr wr v J8 H8 e8 r8=>?_⟩) (λu8 s8 ⟨v8,H8,I8,r8,J8,y,e8,ry,w8⟩=>?_) λv s f=>(hx v s f).elim)
 ·obtain ⟨y,q,wr⟩:=iH wr
  obtain ⟨J9,e9,_,ry⟩:=freeze e8 r8 q
  exact ⟨J9,y,e9,ry,wr⟩
 have p8:H8 p=some (.lst us):=e8.h _ _ h1
 have J8p:J8 p=none:=e8.frz _ (by rw [h1];intro z;cases z) h2
 refine QJ (RU (oY (X:=X) _ s8 σ H8 (.ref p) [v8] (.ref p) [u8] (λ_ H9=>H9=L2.upd H8 p (.lst (us++[v8]))) I8 rfl (.cons r8 .nil) ⟨_,us,v8,rfl,rfl,p8,by omega,rfl⟩) (λ_ s9 ⟨_,H9,I9,_,h9⟩=>?_) λv s f=>(hx v s f).elim)
 subst h9
 exact QL ⟨σ,_,J8,([y],env),I9,(x2.trans e8).other hp2 J8p,e8.j,(sr.ext e8).other J8p hp0 no,no,⟨us++[v8],b_,J8p,(h3.mono e8.j).append (.cons ry .nil)⟩,QY _,w8⟩
end
noncomputable def iS (lim n:Nat) (cap:List Nat) (gi:G (List D)) (gt:GT) (gts:G Bool) (act:Ev->M (List D×Ev)) (fin:List D->M R):G R:=λenv=>gi env >>= λds=>if ds.length<=lim then bV gt gts act ds (cE n cap env) >>= λr=>fin r.1 else .bad
section
variable {X:Cx}{c:C}
theorem nu (own:List Str) (cap:List Nat){e QC QE:Rz}{ifs:List Rz}{gs:List W7}{Qy:TF}{gi:G (List D)}{gt:GT}{gts:G Bool}{act:Ev->M (List D×Ev)}{fin:List D->M R}{newAcc:Sem QM}{ob:Obj}{o0:Q4->HO}{Acc:Q4->Hp->Hp->List D->Prop}{N lim:Nat}{m:Q4->Env->Sem Unit}
  (hcls:clausesOf e=⟨QC,QE,ifs,0⟩::gs) (hi:oB X c QC QE gi)
  (hnew:∀(s:QN) (Q:QM->QN->Prop) (E:QM->QN->Prop),Q (.ref s.heap.objs.size) {s with heap:=s.heap.push ob}->Rg (Rk X.prog X.w) X.A newAcc Q E s)
  (hob:∀(h:Sn) (H:Hp),cg X.prog X.w H (h.push ob) h.objs.size (o0 h.objs.size))
  (aR:∀p,wR (Acc p)) (a0:∀(p:Q4) (J H:Hp),Uv < p->H p=some (o0 p)->J p=none->Acc p J H [])
  (hN:lim * N<=sizeLine) (LP:∀(it p:Q4) (env:Env),rJ X.prog X.w X.A e 0 (.ref it) (.ref p) env QC ifs (m p env))
  (start:∀(it:Q4) (acc:QM) (env:Env) (R:ZD->QN->Prop) (s:QN),TH (Rk X.prog X.w) X.A (.compLoop e 0 (.ref it) acc env) R s->Rg (Rk X.prog X.w) X.A (WD (.ref it)) (λit' s'=>TH (Rk X.prog X.w) X.A (.compLoop e 0 it' acc env) R s') (notedBy (Rk X.prog X.w) X.A env λx s'=>R (.error x) s') s->TH (Rk X.prog X.w) X.A (.compStart e 0 (.ref it) acc env) R s)
  (nofin:∀ys z,fin ys≠.exc z) (hend:∀{p:Q4}{J H J' H':Hp}{ys:List D}{r:R},H p=none->Ext J H J' H'->Acc p J' H' ys->fin ys=.ok r->∃J'',Ext J H J'' H'/\RR c H J'' H' r (.ref p))
  (hbody:∀(cl:List (Str×Q4)) (C:Q4) (s:QN) (H:Hp) (fp:List Q4),bE X.env.cells Qy.names []=some cl->iM (aW X own cap Qy cl C s H fp) c QC gt/\gw (aW X own cap Qy cl C s H fp) c ifs gts/\∀(p:Q4) (J2 H2:Hp),H2 p=none->c.H0 p=none->t8 (aW X own cap Qy cl C s H fp) c p (Acc p) J2 H2 N (m p (aW X own cap Qy cl C s H fp).env) act)
  (hk:Qy.kind=.function) (hno:fq X cap Qy=true) (hnames:(Qy.names.all λx=>!(x.2 == .local) || (Qy.names.lookup x.1 == some .local))=true)
  (hcl:(bE X.env.cells Qy.names []).isSome=true) (hcap:dB X cap=true) (hloc:dH X cap Qy=true) (hnd:fQ cap=true) (Ox:X.calm=true)
  (hs:∀x,Q_ QE X.env x=pure x)
  {Qz:List (Q4×Obj)}{s:QN}{σ:L2.St}{H:Hp}{Q:VK}{use:Option (QM->Sem Unit)}{Q0:QM->QN->Prop}{pos':Pos}(I:Inv X Qz σ H s) (h:tD c (iS lim own.length cap gi gt gts act fin) σ H Q)
  (OC:∀(acc C:Q4) (m:Str->Option QM) (s':QN) (H':Hp) (fl:Flow),s'.heap.Ns C m->((C∈X.ex\/X.s₀.heap.objs.size<=C)/\C≠X.env.locals/\(∀x c,X.env.cells.lookup x=some c->c≠C)/\∀p∈X.pn++Qz,p.1≠C)->H' C=none->(∀h'',R_ C s'.heap h''->Inv X Qz σ H' {s' with heap:=h''})->Q (.ref acc) H'->YQ (Rk X.prog X.w) X.A X.xe use Q0 (.ref acc) C (.ok fl) s'):
  Rg (Rk X.prog X.w) X.A (comprehension e Qy X.env pos' newAcc false (eval QE X.env) use) Q0 X.xe s:=by
 obtain ⟨J,env,sr,w⟩:=h
 obtain ⟨cl,hcl⟩:=Sd.mp hcl
 have Pz:∀j∈cap,∀x,X.N[j]?=some x->cT Qy.names x=false:=λj hj x hx=>by
  have:=RJ.mp hno j hj
  rw [hx] at this
  simpa using this
 have OV:∀x∈Qy.names,x.2=.local->Qy.names.lookup x.1=some .local:=λy hy z=>by
  have:=RJ.mp hnames y hy
  rw [z] at this
  simpa using this
 have Pb:∀j∈cap,∀x,X.N[j]?=some x->(relabel Qy X.env).names.lookup x≠some .local:=λj hj x hx z=>by
  have:=RJ.mp hloc j hj
  rw [hx] at this
  simp only at this
  rw [z] at this
  cases this
 refine wpAny_comprehension_free (use:=use) hcls hs (vZ hcl) hk OV ?_
 refine bP (hi Qz s σ H (λIt H1=>∃ds J1,Ext J H J1 H1/\Walk c It ds J1 (λJ' H'=>aT J1 J'/\aT H1 H')/\
  cD (if ds.length<=lim then bV gt gts act ds (cE own.length cap env) >>= λr=>fin r.1 else .bad) (λr=>∀v J' H',Ext J H J' H'->RR c H J' H' r v->Q v H') c.T) I ⟨J,env,sr,aB (aH w) λds wd It J1 H1 e1 wk=>⟨ds,J1,e1,wk,wd⟩⟩) λxv s1 h1=>bP h1 λitv s2 h2=>?_
 obtain ⟨it,fp,tn,It,H2,rfl,I2,T,st2,f2,ds,J2,e2,wk,w2⟩:=h2
 have hsz:ds.length<=lim:=by
  by_cases z:ds.length<=lim
  ·exact z
  ·rw [if_neg z] at w2;exact w2.elim
 rw [if_pos hsz] at w2
 have w3:=aH w2
 refine hnew s2 _ _ (BN ?_)
 dsimp only
 generalize Pg:s2.heap.push ob=Hs
 have hC:Hs.objs.size=s2.heap.objs.size + 1:=by rw [<-Pg,Ux]
 have hp2:H2 s2.heap.objs.size=none:=I2.hok.fresh (QY _)
 have kHs:∀b o,s2.heap.get? b=some o->Hs.get? b=some o:=λb o e=>by rw [<-Pg];exact QV _ e
 have I3:Inv X Qz σ (L2.upd H2 s2.heap.objs.size (o0 s2.heap.objs.size)) {s2 with heap:=Hs,toks:=s2.toks}:=I2.laid (t':=s2.toks) kHs (QY _) (by rw [<-Pg];exact hob _ _)
 have f3:∀b∈fp,jB X Qz (L2.upd H2 s2.heap.objs.size (o0 s2.heap.objs.size)) b:=λb hb=>by
  obtain ⟨o,ho,_⟩:=T.obj _ _ st2 b hb
  exact ⟨by rw [bA (Rn (Q8 ho))];exact (f2 b hb).1,(f2 b hb).2⟩
 have hin:∀b∈fp,b < Hs.objs.size:=λb hb=>by
  obtain ⟨o,ho,_⟩:=T.obj _ _ st2 b hb
  exact U7 (Q8 ho) (by rw [hC];exact TM _)
 obtain ⟨h₁,eh₁⟩:∃h₁,h₁=ZO (Hs.push {cls:=.type "dict",data:=.dict #[]}) Qy.names:=⟨_,rfl⟩
 rw [<-eh₁]
 have hns₁:h₁.Ns Hs.objs.size (λ_=>none):=by rw [eh₁];exact KU Hs Qy.names
 have ck:abw h₁ (Hs.objs.size + 1) (RV (Hs.objs.size + 1) Qy.names []):=by rw [eh₁];exact CW Hs Qy.names
 have okC:=HG (own:=own) (cap:=cap) I3 hk hcl ck f3 hin
 have old1:∀b o,Hs.get? b=some o->h₁.get? b=some o:=λb o e=>by rw [eh₁];exact ZP _ _ _ _ (QV _ e)
 have I4:=EU (tk:=s2.toks) I3 okC hcl ck hcap Pb Pz hns₁ old1
 have sr2:=sr.ext e2
 have srA:SR c J2 (L2.upd H2 s2.heap.objs.size (o0 s2.heap.objs.size)) σ env:=sr2.ext (Ext.new e2.sub hp2 _)
 have J2p:J2 s2.heap.objs.size=none:=e2.sub.free hp2
 have H0p:c.H0 s2.heap.objs.size=none:=sr2.hp.ent.free hp2
 have nown:∀(j:Nat) (xs:Mn),(cE own.length cap env)[j]?=some (some (mS xs))->(R8 own.length none++cap.map λ(j:Nat)=>(σ[j]?).getD none)[j]?≠some (some (.ref s2.heap.objs.size)):=λj xs q z=>by
  obtain ⟨a,h1,h2,h3⟩:=jK q
  obtain ⟨a',h4,h5,h6⟩:=jK z
  rw [h2] at h5;cases h5
  obtain ⟨p,k1,k2,_⟩:=sr2.mine h3
  rw [h6] at k1
  cases k1
  exact k2 hp2
 obtain ⟨hT,hIf,hE⟩:=hbody cl Hs.objs.size {s2 with heap:=Hs,toks:=s2.toks} (L2.upd H2 s2.heap.objs.size (o0 s2.heap.objs.size)) fp hcl
 have fpC:∀{H':Hp},(∀b∈fp,H' b=none)->∀b∈fp,jB (aW X own cap Qy cl Hs.objs.size {s2 with heap:=Hs,toks:=s2.toks} (L2.upd H2 s2.heap.objs.size (o0 s2.heap.objs.size)) fp) [] H' b:=fun {H'} hn b hb=>by
  obtain ⟨m1,_⟩:=gA Qy.names [] cl hcl (λx c h=>by simp at h)
  refine ⟨hn b hb,Rn (hin b hb),λz=>?_,.inl hb,λx d h=>(fV h).elim (λh=>UB (Rl (hin b hb) (Ue (ck.empty _ _ (Vj h)).2))) (λh=>(f2 b hb).2.2.2.2.1 x d (m1 x d h.2)),λp hp=>absurd (show p∈([]:List (Q4×Obj)) from hp) (by simp)⟩
  rcases Rc.mp (I2.stkSub b z) with e | e
  ·exact (f2 b hb).2.1 e
  ·exact (f2 b hb).2.2.1 e
 have back:∀{pi:List (Q4×Obj)}{σ':L2.St}{H':Hp}{s':QN}{h'':Sn},Inv (aW X own cap Qy cl Hs.objs.size {s2 with heap:=Hs,toks:=s2.toks} (L2.upd H2 s2.heap.objs.size (o0 s2.heap.objs.size)) fp) pi σ' H' s'->R_ Hs.objs.size s'.heap h''->Inv X Qz σ H' {s' with heap:=h''}:=fun {pi σ' H' s' h''} I' sb=>by
  have B:Un (frs X.stack) fp (L2.upd H2 s2.heap.objs.size (o0 s2.heap.objs.size)) H' Hs s'.heap:=I'.base
  have ne2:∀{b:Q4}{o:Obj},s2.heap.get? b=some o->b≠s2.heap.objs.size/\b≠Hs.objs.size:=fun {b o} e=>
   ⟨Rn (Q8 e),Rn (U7 (Q8 e) (by rw [hC];exact TM _))⟩
  have nH:∀{b:Q4}{o:HO},H2 b=some o->L2.upd H2 s2.heap.objs.size (o0 s2.heap.objs.size) b=some o:=fun {b o} e=>by rw [bA (fz e hp2)];exact e
  refine Inv.call' (ch:=fp) (s':={s' with heap:=h''}) I2 I'.os ⟨λb o e n hf hx=>?_,λb o e n hf hx=>?_,λb o e n hx=>?_,λb o e hx=>?_,λb xs e=>B.tups b xs (nH e),λb o u e=>B.frzs b o u (nH e),λb ps e=>B.tbls b ps (nH e)⟩ (zK I'.hok I'.free sb) I'.bare λb hb=>⟨(f2 b hb).2.2.2.1,(f2 b hb).2.1,(f2 b hb).2.2.2.2.1,(f2 b hb).2.2.2.2.2⟩
  ·exact (sb.2 b (ne2 e).2).trans (B.keep b o (kHs b o e) (by rw [bA (ne2 e).1];exact n) hf hx)
  ·obtain ⟨sl,z⟩:=B.slot b o (kHs b o e) (by rw [bA (ne2 e).1];exact n) hf hx
   exact ⟨sl,(sb.2 b (ne2 e).2).trans z⟩
  ·exact B.free b o (kHs b o e) (by rw [bA (ne2 e).1];exact n) hx
  ·obtain ⟨o',z⟩:=B.there b o (kHs b o e) hx
   exact ⟨o',(sb.2 b (ne2 e).2).trans z⟩
 have run:=λ(s4:QN) (I4:Inv (aW X own cap Qy cl Hs.objs.size {s2 with heap:=Hs,toks:=s2.toks} (L2.upd H2 s2.heap.objs.size (o0 s2.heap.objs.size)) fp) [] _ _ s4) (st4:tn 0 s4.heap)=>yl (X:=aW X own cap Qy cl Hs.objs.size {s2 with heap:=Hs,toks:=s2.toks} (L2.upd H2 s2.heap.objs.size (o0 s2.heap.objs.size)) fp) (e:=e) (depth:=0) (acc:=.ref s2.heap.objs.size) (aR _) Ox (λ_ _ f=>f) (LP it _ _) hT hIf (hE s2.heap.objs.size J2 H2 hp2 H0p) T (λJ' H'=>aT J2 J'/\aT H2 H') wk (λJ' H' x _=>⟨x.j,x.h⟩) I4 st4 (fpC λb hb=>(f3 b hb).1) (Ext.new e2.sub hp2 _) (srA.cap own.length cap (Az hnd)) nown (a0 _ _ _ (JR I2) b_ J2p) (RE (by rw [Vk,Zn];exact US N hsz) hN) w3
 have st4:=T.keep _ _ _ st2 (λb hb o e=>old1 b o (kHs b o e))
 have go:=TR (run _ I4 st4) (R':=YQ (Rk X.prog X.w) X.A X.xe use Q0 (.ref s2.heap.objs.size) Hs.objs.size) λr s' ⟨hr,σ',H',J',r',I9,x9,j9,sr9,no9,ac9,l9,w9⟩=>by
  subst hr
  obtain ⟨mm,hm,_⟩:=I9.loc
  refine OC s2.heap.objs.size Hs.objs.size mm _ H' _ hm (JP I2 (by rw [hC];exact SN _)) I9.free (λh'' sb=>back I9 sb) ?_
  cases q:fin r'.1 with
  | bad=>rw [q] at w9;exact w9.elim
  | exc z=>rw [q] at w9;exact (nofin _ z q).elim
  | ok z=>
   rw [q] at w9
   obtain ⟨J9,x10,rr⟩:=hend (e2.h.free hp2) (e2.trans x9) ac9 q
   exact w9 _ J9 H' x10 rr
 exact start it _ _ _ _ go (T.self _ 0 _ _ _ st4 go)
end
noncomputable def jv (n:Nat) (cap:List Nat) (gi0:G (List D)) (gt0:GT) (gts0:G Bool) (gi1:G (List D)) (gt1:GT) (gts1:G Bool) (ge:G R):G R:=iS 10000 n cap gi0 gt0 gts0 (iP gi1 gt1 gts1 (gz ge)) (λys=>.ok (.l .fresh ys))
theorem Jv (elt t0 i0 t1 i1:Rz) (f0 f1:List Rz) (Qy:TF) (pos:Pos) (it acc:QM) (env:Env):
  VH (.ListComp elt [⟨t0,i0,f0,0⟩,⟨t1,i1,f1,0⟩] Qy pos) 0 it acc env=(do
   Ug i0.pos
   match <-Vq it with
   | none=>pure (.done .next)
   | some v=>
    Tu t0 it v
    assign t0 env v
    let mut ok:=true
    for c in f0 do
     if ok then ok <-X_ c env (eval c env)
    if ok then
     let x <-eval i1 env
     Ug i1.pos
     let x <-Q_ i1 env x
     let _ <-runOwn (.compStart (.ListComp elt [⟨t0,i0,f0,0⟩,⟨t1,i1,f1,0⟩] Qy pos) 1 (<-holding [x] (WD x)) acc env) env
    again (.compLoop (.ListComp elt [⟨t0,i0,f0,0⟩,⟨t1,i1,f1,0⟩] Qy pos) 0 it acc env)):=by rfl
theorem LV (elt t0 i0 t1 i1:Rz) (f0 f1:List Rz) (Qy:TF) (pos:Pos) (it acc:QM) (env:Env):
  VH (.ListComp elt [⟨t0,i0,f0,0⟩,⟨t1,i1,f1,0⟩] Qy pos) 0 it acc env=lH t0 i0 f0 it env (qO (.ListComp elt [⟨t0,i0,f0,0⟩,⟨t1,i1,f1,0⟩] Qy pos) i1 acc env) (again (.compLoop (.ListComp elt [⟨t0,i0,f0,0⟩,⟨t1,i1,f1,0⟩] Qy pos) 0 it acc env)):=by
 rw [Jv]
 refine bind_congr λ_=>bind_congr λr=>?_
 cases r with
 | none=>rfl
 | some v=>
  refine bind_congr λ_=>bind_congr λ_=>bind_congr λok=>?_
  cases ok with
  | false=>rfl
  | true=>simp only [qO,bind_assoc,pure_bind,if_true]
theorem LW (elt t0 i0 t1 i1:Rz) (f0 f1:List Rz) (Qy:TF) (pos:Pos) (it acc:QM) (env:Env):
  VH (.ListComp elt [⟨t0,i0,f0,0⟩,⟨t1,i1,f1,0⟩] Qy pos) 1 it acc env=lH t1 i1 f1 it env (do let _ <-call (.builtin "list.append") [acc,<-eval elt env]) (again (.compLoop (.ListComp elt [⟨t0,i0,f0,0⟩,⟨t1,i1,f1,0⟩] Qy pos) 1 it acc env)):=by rfl
section
variable {X:Cx}{c:C}
theorem Dd (own:List Str) (cap:List Nat){elt t0 i0 t1 i1:Rz}{f0 f1:List Rz}{Qy:TF}{pos:Pos}{gi0 gi1:G (List D)}{gt0 gt1:GT}{gts0 gts1:G Bool}{ge:G R}(hi:oB X c t0 i0 gi0)
  (hbody:∀(cl:List (Str×Q4)) (C:Q4) (s:QN) (H:Hp) (fp:List Q4),bE X.env.cells Qy.names []=some cl->iM (aW X own cap Qy cl C s H fp) c t0 gt0/\gw (aW X own cap Qy cl C s H fp) c f0 gts0/\xh (aW X own cap Qy cl C s H fp) c t1 i1 gi1/\iM (aW X own cap Qy cl C s H fp) c t1 gt1/\gw (aW X own cap Qy cl C s H fp) c f1 gts1/\PD (aW X own cap Qy cl C s H fp) c elt ge)
  (hk:Qy.kind=.function:=by rfl) (hno:fq X cap Qy=true:=by rfl) (hnames:(Qy.names.all λx=>!(x.2 == .local) || (Qy.names.lookup x.1 == some .local))=true:=by rfl)
  (hcl:(bE X.env.cells Qy.names []).isSome=true:=by rfl) (hcap:dB X cap=true:=by rfl) (hloc:dH X cap Qy=true:=by rfl) (hnd:fQ cap=true:=by rfl) (Ox:X.calm=true:=by rfl)
  (hs:∀x,Q_ i0 X.env x=pure x:=by intro _;rfl) (hs1:∀(en:Env) x,Q_ i1 en x=pure x:=by intro _ _;rfl)
  {Qz:List (Q4×Obj)}{s:QN}{σ:L2.St}{H:Hp}{Q:VK}{use:Option (QM->Sem Unit)}{Q0:QM->QN->Prop}{pos':Pos}(I:Inv X Qz σ H s) (h:tD c (jv own.length cap gi0 gt0 gts0 gi1 gt1 gts1 ge) σ H Q)
  (OC:∀(acc C:Q4) (m:Str->Option QM) (s':QN) (H':Hp) (fl:Flow),s'.heap.Ns C m->((C∈X.ex\/X.s₀.heap.objs.size<=C)/\C≠X.env.locals/\(∀x c,X.env.cells.lookup x=some c->c≠C)/\∀p∈X.pn++Qz,p.1≠C)->H' C=none->(∀h'',R_ C s'.heap h''->Inv X Qz σ H' {s' with heap:=h''})->Q (.ref acc) H'->YQ (Rk X.prog X.w) X.A X.xe use Q0 (.ref acc) C (.ok fl) s'):
  Rg (Rk X.prog X.w) X.A (comprehension (.ListComp elt [⟨t0,i0,f0,0⟩,⟨t1,i1,f1,0⟩] Qy pos) Qy X.env pos' (newList []) false (eval i0 X.env) use) Q0 X.xe s:=by
 refine nu (e:=.ListComp elt [⟨t0,i0,f0,0⟩,⟨t1,i1,f1,0⟩] Qy pos) (ob:={cls:=.type "list",dict:=none,data:=.seq ([]:List QM).toArray}) (o0:=λ_=>.lst []) (Acc:=A_ c) (N:=1000 * 1) (lim:=10000) (m:=λp env=>qO (.ListComp elt [⟨t0,i0,f0,0⟩,⟨t1,i1,f1,0⟩] Qy pos) i1 (.ref p) env) own cap rfl hi
  (λs Q E q=>Rw q) (λh H=>⟨RA _,[],0,.nil,Q7 _ rfl⟩) (λp=>qK) (λp J H _ h1 h2=>⟨[],h1,h2,.nil⟩) (by decide) (λit p env=>BK (LV ..)) (λit acc env R s h0 h=>Xo h0 h) (λys z q=>by cases q)
  (fun {p J H J' H' ys r} hp e ⟨us,h1,h2,h3⟩ q=>by cases q;exact ⟨J',e,⟨p,us,rfl,h1,h2,hp,h3⟩⟩) (λcl C s H fp hcc=>?_) hk hno hnames hcl hcap hloc hnd Ox hs I h OC
 obtain ⟨b1,b2,b3,b4,b5,b6⟩:=hbody cl C s H fp hcc
 refine ⟨b1,b2,λp J2 H2 hp2 hp0=>?_⟩
 exact Aa qK Ox (λ_ _ f=>f) (λx=>hs1 _ x) (λit R s h0 h=>LM h0 h) (λit=>BK (LW ..)) b3 b4 b5 (z_ (λ_ _ f=>f) hp2 hp0 b6)
theorem DU (own:List Str) (cap:List Nat){elt t0 i0 t1 i1:Rz}{f0 f1:List Rz}{Qy:TF}{pos:Pos}{gi0 gi1:G (List D)}{gt0 gt1:GT}{gts0 gts1:G Bool}{ge:G R}(hi:oB X c t0 i0 gi0)
  (hbody:∀(cl:List (Str×Q4)) (C:Q4) (s:QN) (H:Hp) (fp:List Q4),bE X.env.cells Qy.names []=some cl->iM (aW X own cap Qy cl C s H fp) c t0 gt0/\gw (aW X own cap Qy cl C s H fp) c f0 gts0/\xh (aW X own cap Qy cl C s H fp) c t1 i1 gi1/\iM (aW X own cap Qy cl C s H fp) c t1 gt1/\gw (aW X own cap Qy cl C s H fp) c f1 gts1/\PD (aW X own cap Qy cl C s H fp) c elt ge)
  (hk:Qy.kind=.function:=by rfl) (hno:fq X cap Qy=true:=by rfl) (hnames:(Qy.names.all λx=>!(x.2 == .local) || (Qy.names.lookup x.1 == some .local))=true:=by rfl)
  (hcl:(bE X.env.cells Qy.names []).isSome=true:=by rfl) (hcap:dB X cap=true:=by rfl) (hloc:dH X cap Qy=true:=by rfl) (hnd:fQ cap=true:=by rfl) (Ox:X.calm=true:=by rfl)
  (hs:∀x,Q_ i0 X.env x=pure x:=by intro _;rfl) (hs1:∀(en:Env) x,Q_ i1 en x=pure x:=by intro _ _;rfl):PD X c (.ListComp elt [⟨t0,i0,f0,0⟩,⟨t1,i1,f1,0⟩] Qy pos) (jv own.length cap gi0 gt0 gts0 gi1 gt1 gts1 ge):=by
 intro Qz s σ H Q I h
 rw [aaS]
 exact Dd own cap hi hbody hk hno hnames hcl hcap hloc hnd Ox hs hs1 I h λacc C m s' H' fl hm hz hf hb q=>⟨m,hm,λh'' sb=>⟨.ref acc,H',hb h'' sb,rfl,q⟩⟩
theorem DQ (i:Nat) (own:List Str) (cap:List Nat){elt t0 i0 t1 i1:Rz}{f0 f1:List Rz}{Qy:TF}{pos:Pos}{gi0 gi1:G (List D)}{gt0 gt1:GT}{gts0 gts1:G Bool}{ge:G R}{pos' pos2:Pos}{x:Str}(hN:X.N.Nodup) (hi:oB X c t0 i0 gi0)
  (hbody:∀(cl:List (Str×Q4)) (C:Q4) (s:QN) (H:Hp) (fp:List Q4),bE X.env.cells Qy.names []=some cl->iM (aW X own cap Qy cl C s H fp) c t0 gt0/\gw (aW X own cap Qy cl C s H fp) c f0 gts0/\xh (aW X own cap Qy cl C s H fp) c t1 i1 gi1/\iM (aW X own cap Qy cl C s H fp) c t1 gt1/\gw (aW X own cap Qy cl C s H fp) c f1 gts1/\PD (aW X own cap Qy cl C s H fp) c elt ge)
  (hk:Qy.kind=.function:=by rfl) (hno:fq X cap Qy=true:=by rfl) (hnames:(Qy.names.all λx=>!(x.2 == .local) || (Qy.names.lookup x.1 == some .local))=true:=by rfl)
  (hcl:(bE X.env.cells Qy.names []).isSome=true:=by rfl) (hcap:dB X cap=true:=by rfl) (hloc:dH X cap Qy=true:=by rfl) (hnd:fQ cap=true:=by rfl) (Ox:X.calm=true:=by rfl)
  (hs:∀x,Q_ i0 X.env x=pure x:=by intro _;rfl) (hs1:∀(en:Env) x,Q_ i1 en x=pure x:=by intro _ _;rfl) (hx:X.N[i]?=some x:=by rfl) (OG:X.env.scope.names.lookup x=some .local:=by rfl)
  (hsw:Uo (.ListComp elt [⟨t0,i0,f0,0⟩,⟨t1,i1,f1,0⟩] Qy pos) (some (.Name x pos')) pos2.line X.env=pure true:=by rfl):zW X c (.Assign [.Name x pos'] (.ListComp elt [⟨t0,i0,f0,0⟩,⟨t1,i1,f1,0⟩] Qy pos) pos2) (a_ i (jv own.length cap gi0 gt0 gts0 gi1 gt1 gts1 ge)):=by
 intro Qz s σ H D I ⟨J,env,sr,w⟩
 rw [XM]
 refine QJ (SK ?_)
 rw [show Va [.Name x pos'] (.ListComp elt [⟨t0,i0,f0,0⟩,⟨t1,i1,f1,0⟩] Qy pos) pos2.line X.env=pure true from hsw]
 refine QJ (QL ?_)
 rw [if_pos rfl,WS]
 refine QJ (QJ (Dd own cap hi hbody hk hno hnames hcl hcap hloc hnd Ox hs hs1 (Q:=λv H1=>∃J1 r xx,Ext J H J1 H1/\RR c H J1 H1 r v/\toS r=.ok xx/\oP c J D (.nx (env.set i (some xx)))) I ⟨J,env,sr,aB (aH w) λr wr v J1 H1 e1 r1=>?_⟩ λacc C m s' H' fl hm ap hf hb ⟨J1,r,xx,e1,r1,q1,w1⟩=>?_))
 ·obtain ⟨xx,q,wr⟩:=nj wr
  exact ⟨J1,r,xx,e1,r1,q,wr⟩
 ·have I1:L2.Inv X Qz σ H' s':=hb s'.heap (WT ..)
  show Rg _ _ (do Ug pos';abG X.env x (.ref acc)) _ _ _
  refine QJ (SK (Yg ?_))
  refine lG I1 hN hx (.inl OG) (v:=.ref acc) (u:=.ref acc) rfl (λs2 I2 ⟨a,sb,ha⟩=>?_) (.inr OG)
  have hac:C≠a:=λz=>by
   rcases ha with e | e
   ·exact ap.2.1 (z.trans e)
   ·exact ap.2.2.1 _ _ e z.symm
  refine ⟨m,hm.sameBut sb hac,λh2 sb2=>?_⟩
  refine QL (QL ⟨σ.set i (some (.ref acc)),H',o5 I2 ap hf sb2 (o0:=default),?_⟩)
  exact w1 _ J1 H' e1.j (sr.set e1 r1 q1)
theorem BY (own:List Str) (cap:List Nat){elt t0 i0 t1 i1:Rz}{f0 f1:List Rz}{Qy:TF}{pos:Pos}{gi0 gi1:G (List D)}{gt0 gt1:GT}{gts0 gts1:G Bool}{ge:G R}(hi:qq X c t0 i0 gi0)
  (hbody:∀(cl:List (Str×Q4)) (C:Q4) (s:QN) (H:Hp) (fp:List Q4),bE X.env.cells Qy.names []=some cl->jY (aW X own cap Qy cl C s H fp) c t0 gt0/\jC (aW X own cap Qy cl C s H fp) c f0 gts0/\xm (aW X own cap Qy cl C s H fp) c t1 i1 gi1/\jY (aW X own cap Qy cl C s H fp) c t1 gt1/\jC (aW X own cap Qy cl C s H fp) c f1 gts1/\QD (aW X own cap Qy cl C s H fp) c elt ge)
  (hk:Qy.kind=.function:=by rfl) (hno:fq X cap Qy=true:=by rfl) (hnames:(Qy.names.all λx=>!(x.2 == .local) || (Qy.names.lookup x.1 == some .local))=true:=by rfl)
  (hcl:(bE X.env.cells Qy.names []).isSome=true:=by rfl) (hcap:dB X cap=true:=by rfl) (hloc:dH X cap Qy=true:=by rfl) (hnd:fQ cap=true:=by rfl) (Ox:X.calm=true:=by rfl)
  (hs:∀x,Q_ i0 X.env x=pure x:=by intro _;rfl) (hs1:∀(en:Env) x,Q_ i1 en x=pure x:=by intro _ _;rfl):QD X c (.ListComp elt [⟨t0,i0,f0,0⟩,⟨t1,i1,f1,0⟩] Qy pos) (jv own.length cap gi0 gt0 gts0 gi1 gt1 gts1 ge):=
 ⟨DU own cap hi.h (λcl C s H fp hc=>let ⟨a,b,d,e,f,g⟩:=hbody cl C s H fp hc;⟨a.h,b.h,d.h,e.h,f.h,g.h⟩) hk hno hnames hcl hcap hloc hnd Ox hs hs1⟩
theorem BW (i:Nat) (own:List Str) (cap:List Nat){elt t0 i0 t1 i1:Rz}{f0 f1:List Rz}{Qy:TF}{pos:Pos}{gi0 gi1:G (List D)}{gt0 gt1:GT}{gts0 gts1:G Bool}{ge:G R}{pos' pos2:Pos}{x:Str}(hN:X.N.Nodup) (hi:qq X c t0 i0 gi0)
  (hbody:∀(cl:List (Str×Q4)) (C:Q4) (s:QN) (H:Hp) (fp:List Q4),bE X.env.cells Qy.names []=some cl->jY (aW X own cap Qy cl C s H fp) c t0 gt0/\jC (aW X own cap Qy cl C s H fp) c f0 gts0/\xm (aW X own cap Qy cl C s H fp) c t1 i1 gi1/\jY (aW X own cap Qy cl C s H fp) c t1 gt1/\jC (aW X own cap Qy cl C s H fp) c f1 gts1/\QD (aW X own cap Qy cl C s H fp) c elt ge)
  (hk:Qy.kind=.function:=by rfl) (hno:fq X cap Qy=true:=by rfl) (hnames:(Qy.names.all λx=>!(x.2 == .local) || (Qy.names.lookup x.1 == some .local))=true:=by rfl)
  (hcl:(bE X.env.cells Qy.names []).isSome=true:=by rfl) (hcap:dB X cap=true:=by rfl) (hloc:dH X cap Qy=true:=by rfl) (hnd:fQ cap=true:=by rfl) (Ox:X.calm=true:=by rfl)
  (hs:∀x,Q_ i0 X.env x=pure x:=by intro _;rfl) (hs1:∀(en:Env) x,Q_ i1 en x=pure x:=by intro _ _;rfl) (hx:X.N[i]?=some x:=by rfl) (OG:X.env.scope.names.lookup x=some .local:=by rfl)
  (hsw:Uo (.ListComp elt [⟨t0,i0,f0,0⟩,⟨t1,i1,f1,0⟩] Qy pos) (some (.Name x pos')) pos2.line X.env=pure true:=by rfl):iD X c (.Assign [.Name x pos'] (.ListComp elt [⟨t0,i0,f0,0⟩,⟨t1,i1,f1,0⟩] Qy pos) pos2) (a_ i (jv own.length cap gi0 gt0 gts0 gi1 gt1 gts1 ge)):=
 ⟨DQ i own cap hN hi.h (λcl C s H fp hc=>let ⟨a,b,d,e,f,g⟩:=hbody cl C s H fp hc;⟨a.h,b.h,d.h,e.h,f.h,g.h⟩) hk hno hnames hcl hcap hloc hnd Ox hs hs1 hx OG hsw⟩
end
noncomputable def B3:QM->Option V
 | .int i _=>some (.int i)
 | .ref a=>some (.ref a)
 | _=>none
noncomputable def jO:List QM->Option (List V)
 | []=>some []
 | u::us=>match B3 u,jO us with
  | some v,some vs=>some (v::vs)
  | _,_=>none
open Classical in
noncomputable def kB (h:Sn):Hp:=λa=>match h.get? a with
 | some o=>if o.cls=.type "tuple" then (match o.data with
  | .seq QA _=>(jO QA.toList).map .tup
  | _=>none) else none
 | none=>none
theorem Gi {u:QM}{v:V}(h:B3 u=some v):RelV v u:=by
 cases u with
 | int i t=>cases h;exact ⟨t,rfl⟩
 | ref a=>cases h;exact rfl
 | _=>cases h
theorem vq:∀{us:List QM}{vs:List V},jO us=some vs->Vals vs us
 | [],vs,h=>by cases h;exact .nil
 | u::us,vs,h=>by
  unfold jO at h
  cases q:B3 u with
  | none=>rw [q] at h;cases h
  | some v=>
   cases q2:jO us with
   | none=>rw [q,q2] at h;cases h
   | some ws=>rw [q,q2] at h;cases h;exact .cons (Gi q) (vq q2)
theorem iy {h:Sn}{a:Q4}{o:HO}(q:kB h a=some o):∃vs ob QA n,o=.tup vs/\h.get? a=some ob/\ob.cls=.type "tuple"/\ob.data=.seq QA n/\Vals vs QA.toList:=by
 unfold kB at q
 split at q
 ·rename_i ob hob
  split at q
  ·rename_i hc
   split at q
   ·rename_i QA n hd
    cases z:jO QA.toList with
    | none=>rw [z] at q;cases q
    | some vs=>rw [z] at q;cases q;exact ⟨vs,ob,QA,n,rfl,hob,hc,hd,vq z⟩
   ·cases q
  ·cases q
 ·cases q
theorem Jc {h:Sn}{a:Q4}{QA:List QM}{vs:List V}(p:h.IsTuple a QA.toArray) (q:jO QA=some vs):kB h a=some (.tup vs):=by
 obtain ⟨o,ho,hc,n,hd⟩:=p
 unfold kB
 rw [ho]
 simp only [hc,if_true,hd]
 rw [q];rfl
theorem oW {s:QN}:HF [] (kB s.heap) s:=by
 refine ⟨λa xs h=>?_,λa xs h=>?_,λa h=>?_,λa ep QH h=>?_⟩
 ·rcases h with (h | ⟨o,h⟩) | ⟨o,QA,n,h,_⟩
  ·obtain ⟨vs,ob,QA,n,e,h1,h2,h3,h4⟩:=iy h
   cases e
   exact ⟨QA.toList,h4,ob,h1,h2,n,by rw [h3]⟩
  ·obtain ⟨vs,ob,QA,n,e,_⟩:=iy h;cases e
  ·cases h
 ·rcases h with (h | ⟨o,h⟩) | ⟨o,QA,n,h,_⟩
  ·obtain ⟨vs,ob,QA,n,e,_⟩:=iy h;cases e
  ·obtain ⟨vs,ob,QA,n,e,_⟩:=iy h;cases e
  ·cases h
 ·obtain ⟨vs,ob,QA,n,e,_⟩:=iy h;cases e
 ·obtain ⟨vs,ob,QA,n,e,_⟩:=iy h;cases e
theorem yE {K:QK}{J:Hp}:∀{ds:List D}{vs:List V}{us:List QM},areKeys ds=true->aF K J ds vs->Vals vs us->jO us=some vs
 | _,_,_,_,.nil,.nil=>rfl
 | d::ds,v::vs,u::us,h,.cons r rs,.cons q qs=>by
  unfold areKeys at h
  rw [QX] at h
  have ih:=yE h.2 rs qs
  have e:B3 u=some v:=by
   cases d with
   | int i=>cases r;obtain ⟨t,rfl⟩:=q;rfl
   | tup xs=>cases r;cases q;rfl
   | _=>cases h.1
  unfold jO
  rw [e,ih]
mutual
theorem jj {K:QK}{J:Hp}{s:QN}(F:HF K J s):∀{d:D}{v:V},isKey d=true->Rep K J d v->Rep [] (kB s.heap) d v
 | .int i,_,_,.int _=>.int i
 | .tup ds,_,hk,.tup (a:=a) (vs:=vs) h hs=>by
  obtain ⟨QA,r,p⟩:=F.t _ _ h
  exact .tup (.inl (.inl (Jc p (yE hk hs r)))) (yF F hk hs)
 | .non,_,hk,_=>nomatch hk
 | .bl _,_,hk,_=>nomatch hk
 | .str _,_,hk,_=>nomatch hk
 | .lst _,_,hk,_=>nomatch hk
 | .emp,_,hk,_=>nomatch hk
 | .exn _ _ _,_,hk,_=>nomatch hk
 | .dct _ _,_,hk,_=>nomatch hk
theorem yF {K:QK}{J:Hp}{s:QN}(F:HF K J s):∀{ds:List D}{vs:List V},areKeys ds=true->aF K J ds vs->aF [] (kB s.heap) ds vs
 | [],_,_,.nil=>.nil
 | d::ds,_,h,.cons r rs=>by
  unfold areKeys at h
  rw [QX] at h
  exact .cons (jj F h.1 r) (yF F h.2 rs)
end
theorem D_ {h h':Sn}{d:Q4}{o:Obj} {es ep}(ho:h.get? d=some o) (hd:o.data=.dict es ep) (sb:R_ d h h'):aT (kB h) (kB h'):=λa x q=>by
 obtain ⟨vs,ob,QA,n,rfl,h1,h2,h3,h4⟩:=iy q
 have hne:a≠d:=by
  rintro rfl
  rw [ho] at h1;cases h1
  rw [hd] at h3;cases h3
 unfold kB at q ⊢
 rw [sb.2 a hne]
 exact q
noncomputable def KD:Type:={d:D // isKey d=true/\dep d<=8}
noncomputable instance:DecidableEq KD:=λa b=>aaT (a=b)
noncomputable def B4 (A:RG):Prop:=A.units + 16 < Sy
noncomputable def lP (prog:Rb) (w:RD):HeapKind prog w KD where
 is:=λh k a=>Rep [] (kB h) k.1 (.ref a)
 hash:=λk=>bT k.1
 draws:=λk=>jL k.1
 room:=B4
 inj:=fun {h a x y} hx hy=>W8 (Rep.inj (s:=({heap:=h}:QN)) oW hx hy (by have:=x.2.2;omega) (by have:=y.2.2;omega))
 keeps:=λhx ho hd sb=>Rep.mono (D_ ho hd sb) hx
 pyHash:=fun {A E s k a Q} hu hx q=>uM k.1 (.ref a) (.ref a) A s oW k.2.1 hx rfl (by have:=k.2.2;unfold B4 at hu;omega) E s Q oW q
 eqBool:=fun {A E s x y a b Q} hu hx hy q=>by
  have h:=mD (s:=s) oW A hx hy rfl rfl (u:=.ref a) (u':=.ref b) (by have:=x.2.2;unfold B4 at hu;omega) (by have:=x.2.2;omega) (by have:=y.2.2;omega)
  refine h _ _ _ _ ?_
  have e:bu x.1 y.1=decide (x=y):=by
   rw [R5,ux x.2.1 y.2.1,decide_eq_true_eq]
   exact ⟨λz=>W8 z,λz=>congrArg Subtype.val z⟩
  rw [e];exact q
 quiet:=fun {A E s k a Q} hx q=>mW 8 oW ⟨k.1,.ref a,k.2.1,k.2.2,hx,rfl⟩ q
noncomputable def gm:List D->List D->D->Option D
 | k::ks,v::vs,x=>if bu k x=true then some v else gm ks vs x
 | _,_,_=>none
section
variable {K:QK}{J:Hp}{s:QN}{P:Rb}{w:RD}
theorem Aj (F:HF K J s):∀{ks:List D}{us ws:List V}{es:List YE},areKeys ks=true->(∀k∈ks,∃xs,k=.tup xs)->deps ks<=8->aF K J ks us->ws.length=us.length->WB wW ((cB ks).zip (us.zip ws)) es->
  ∃xs:List (KD×Q4×QM),es=xs.map (aai (lP P w))/\xs.map (λx=>x.1.1)=ks/\(∀x∈xs,(lP P w).is s.heap x.1 x.2.1)/\Vals ws (xs.map λx=>x.2.2)/\Vals us (xs.map λx=>U_ x.2.1)
 | _,_,[],_,_,_,_,.nil,_,h=>by
  cases h
  exact ⟨[],rfl,rfl,λ_ h=>(nomatch h),.nil,.nil⟩
 | k::ks,u::us,v::ws,es,hk,ht,hd,.cons r rs,hl,h=>by
  unfold areKeys at hk
  rw [QX] at hk
  unfold deps at hd
  have h:WB wW ((bT k,u,v)::(cB ks).zip (us.zip ws)) es:=h
  cases h with
  | @cons _ e _ es' h1 h2=>
   obtain ⟨xs,e1,e2,e3,e4,e5⟩:=Aj F hk.2 (λk hk=>ht k (QS _ hk)) (by omega) rs (by simpa using hl) h2
   obtain ⟨xs',rfl⟩:=ht k QW
   obtain ⟨q1,q2,q3⟩:=h1
   obtain ⟨eh,ek,ev⟩:=e
   cases r with
   | tup t1 t2=>
    rename_i a vs
    have q2:ek=.ref a:=q2
    have q1:eh=bT (.tup xs'):=q1
    subst q2;subst q1
    refine ⟨(⟨.tup xs',hk.1,by omega⟩,a,ev)::xs,by rw [e1];rfl,by rw [Ra,e2],λx hx=>?_,.cons q3 e4,.cons rfl e5⟩
    (rcases Rc.mp hx with rfl | hx)
    ·exact jj F hk.1 (.tup t1 t2)
    ·exact e3 x hx
 | [],us,v::ws,_,_,_,_,rs,hl,_=>by cases rs;cases hl
 | k::ks,us,[],_,_,_,_,rs,hl,_=>by cases rs;cases hl
theorem Fv {xs:List (KD×Q4×QM)}{ks:List D}(e:xs.map (λx=>x.1.1)=ks) (nd:ks.Nodup):(xs.map (·.1)).Nodup:=by
 rw [<-e] at nd
 have this:((xs.map (·.1)).map (λk:KD=>k.1)).Nodup:=by rw [Rv];exact nd
 exact abb (λk:KD=>k.1) (λa b h e=>h (congrArg (λk:KD=>k.1) e)) this
theorem rT:∀{xs:List (KD×Q4×QM)}{ks vs:List D}{ws:List V}(k:KD),xs.map (λx=>x.1.1)=ks->aF K J vs ws->Vals ws (xs.map λx=>x.2.2)->
  (∀d,gm ks vs k.1=some d->∃p v,aaU xs k=some p/\RelV v p.2/\Rep K J d v)/\(gm ks vs k.1=none->aaU xs k=none)
 | [],_,vs,ws,k,e,rs,rv=>by
  subst e
  exact ⟨λd h=>(nomatch h),λ_=>rfl⟩
 | x::xs,_,_,_,k,e,.cons r rs,.cons q rv=>by
  subst e
  obtain ⟨i1,i2⟩:=rT (xs:=xs) k rfl rs rv
  rw [Ra]
  unfold gm
  by_cases c:x.1=k
  ·have:bu x.1.1 k.1=true:=by rw [c];exact gD _
   rw [if_pos this]
   have ek:aaU (x::xs) k=some x.2:=by unfold aaU;rw [List.find?_cons_of_pos (by simpa using c)];rfl
   exact ⟨λd h=>by cases h;exact ⟨x.2,_,ek,q,r⟩,λh=>nomatch h⟩
  ·have:¬bu x.1.1 k.1=true:=λh=>c (W8 ((ux x.1.2.1 k.2.1).mp h))
   rw [if_neg this]
   have ek:aaU (x::xs) k=aaU xs k:=by unfold aaU;rw [List.find?_cons_of_neg (by simpa using c)]
   rw [ek]
   exact ⟨i1,i2⟩
theorem ny {H:Hp}(F:HF K J s) (F':HF K H s){ks vs:List D}{a:Q4}(h:dG K J H a ks vs):∃(xs:List (KD×Q4×QM)) (us ws:List V),s.heap.DictOfH (lP P w) a xs/\xs.map (λx=>x.1.1)=ks/\aF K J ks us/\aF K J vs ws/\Vals ws (xs.map λx=>x.2.2)/\Vals us (xs.map λx=>U_ x.2.1)/\(a == Uv)=false:=by
 obtain ⟨us,ws,ep,h,hk,hv,ok,hs⟩:=h
 obtain ⟨o,es,h1,h2,h3,h4⟩:=F'.d _ _ _ h
 obtain ⟨xs,e1,e2,e3,e4,e5⟩:=Aj (P:=P) (w:=w) F ok.key ok.tp ok.dp hk (by rw [<-hv.length,<-hk.length,hs.2]) h4
 exact ⟨xs,us,ws,⟨o,es,ep,h1,h2,h3,e1,e3,Fv e2 ok.nd⟩,e2,hk,hv,e4,e5,hs.1⟩
end
noncomputable def dg:D->Bool
 | .tup xs=>areKeys xs && decide (deps xs + 1<=8)
 | _=>false
theorem gQ {k:D}(h:dg k=true):∃xs,k=.tup xs/\isKey k=true/\dep k<=8:=by
 cases k with
 | tup xs=>
  unfold dg at h
  rw [QX] at h
  exact ⟨xs,rfl,h.1,of_decide_eq_true h.2⟩
 | _=>cases h
noncomputable def rS:R->Option (List D×List D)
 | .d (.dct ks vs)=>some (ks,vs)
 | .mo ks vs=>some (ks,vs)
 | .mb ks vs=>some (ks,vs)
 | .mf ks vs=>some (ks,vs)
 | _=>none
noncomputable def gW (x y:R):M R:=match rS x,y with
 | some z,.d k=>if dg k=true then (match gm z.1 z.2 k with
  | some d=>.ok (.d d)
  | none=>.bad) else .bad
 | _,_=>.bad
section
variable {X:Cx}{c:C}{a b:Rz}{ga gb:G R}{pos:Pos}
theorem RR.dk {He J H:Hp}(hp:HI c J H):∀{r:R}{v:V}{z:List D×List D},RR c He J H r v->rS r=some z->∃a,v=.ref a/\dG c.K J H a z.1 z.2
 | .d (.dct ks vs),v,z,h,e=>by
  cases e
  cases h with
  | dct h1 h2 h3 h4 h5=>exact ⟨_,rfl,_,_,_,hp.sub _ _ h1,h2,h3,h4,h5⟩
 | .mo ks vs,v,z,⟨a,h1,h2,_⟩,e=>by cases e;exact ⟨a,h1,h2⟩
 | .mf ks vs,v,z,⟨a,h1,h2,_⟩,e=>by cases e;exact ⟨a,h1,h2⟩
 | .mb ks vs,v,z,⟨a,h1,h2⟩,e=>by cases e;exact ⟨a,h1,h2.mono (aT.refl _) hp.ent⟩
 | .d .non,_,_,_,e=>nomatch e
 | .d (.bl _),_,_,_,e=>nomatch e
 | .d (.int _),_,_,_,e=>nomatch e
 | .d (.str _),_,_,_,e=>nomatch e
 | .d (.tup _),_,_,_,e=>nomatch e
 | .d (.lst _),_,_,_,e=>nomatch e
 | .d .emp,_,_,_,e=>nomatch e
 | .d (.exn _ _ _),_,_,_,e=>nomatch e
 | .l _ _,_,_,_,e=>nomatch e
theorem Kw (hu:X.A.units + 64 < Sy):oA X (λx y H Q=>∃J p ks vs k d,aT J H/\x=.ref p/\dG X.K J H p ks vs/\Rep X.K J k y/\dg k=true/\gm ks vs k=some d/\∀v,Rep X.K J d v->Q v H):=by
 intro value slice Qz s σ H x y v u Q I rx ry h hs
 obtain ⟨J,p,ks,vs,k,d,sm,rfl,hd,hk,ok,lk,q⟩:=h
 have F:HF X.K J s:=HF.of (c:=⟨X.K,H,H,λ_=>True⟩) I sm
 obtain ⟨kx,rfl,k1,k2⟩:=gQ ok
 obtain ⟨r,rfl⟩:∃r,y=.ref r:=by cases hk;exact ⟨_,rfl⟩
 cases rx
 cases ry
 obtain ⟨xs,us,ws,hm,e2,_,hv,e4,_,hsm⟩:=ny (P:=X.prog) (w:=X.w) F (fP I) hd
 obtain ⟨pp,v,ea,rv,rd⟩:=(rT ⟨.tup kx,k1,k2⟩ e2 hv e4).1 d lk
 have room:(lP X.prog X.w).room X.A.in1:=by show X.A.units + 1 + 16 < Sy;omega
 exact Vs (x:=pp.2) hm.typeIs slot_dict_getitem.lookup (wpAny_getItem_heap (Q:=λr s'=>r=pp.2/\EP X Qz σ Q r s') room (jj F k1 hk) hm ea ⟨rfl,v,H,I.tok _,rv,q v rd⟩) hs
theorem gu (hu:X.A.units + 64 < Sy) (ha:QD X c a ga) (hb:QD X c b gb) (hK:X.K=c.K:=by rfl) (hs:pS b:=by exact λ_ _=>rfl):QD X c (.Subscript a b pos) (g2 gW ga gb):=have ha:=ha.h;have hb:=hb.h;⟨G3 (Kw hu) (by
 intro He He' J H x y u v Q hp rx ry w
 unfold gW at w
 split at w
 ·rename_i hz
  obtain ⟨p,rfl,hd⟩:=rx.dk hp hz
  split at w
  ·rename_i ok
   split at w
   ·rename_i d hl
    exact ⟨J,p,_,_,_,d,hp.sub,rfl,by rw [hK];exact hd,by rw [hK];exact ry,ok,hl,λv rd=>w v J H (Ext.refl hp.sub) (by rw [hK] at rd;exact rd)⟩
   ·exact w.elim
  ·exact w.elim
 ·exact w.elim) ha hb hs⟩
end
noncomputable def uD:List D->List D->D->D->List D
 | k::ks,v::vs,x,d=>(if bu k x=true then d else v)::uD ks vs x d
 | _,vs,_,_=>vs
noncomputable def dput (z:List D×List D) (k d:D):List D×List D:=if (gm z.1 z.2 k).isSome=true then (z.1,uD z.1 z.2 k d) else (z.1++[k],z.2++[d])
noncomputable def iE (ys:List D):List D×List D:=ys.foldl (λz y=>match y with
 | .tup [k,d]=>dput z k d
 | _=>z) ([],[])
theorem nv (ys:List D) (k d:D):iE (ys++[.tup [k,d]])=dput (iE ys) k d:=by unfold iE;rw [List.foldl_append];rfl
inductive cJ (K:QK) (J:Hp):List (KD×Q4×QM)->List D->List V->List D->List V->Prop
 | nil:cJ K J [] [] [] [] []
 | cons {x:KD×Q4×QM}{xs:List (KD×Q4×QM)}{ks vs:List D}{us ws:List V}{d:D}{v:V}:RelV v x.2.2->Rep K J d v->cJ K J xs ks us vs ws->cJ K J (x::xs) (x.1.1::ks) (.ref x.2.1::us) (d::vs) (v::ws)
section
variable {K:QK}{J:Hp}{P:Rb}{w:RD}
theorem cJ.of:∀{xs:List (KD×Q4×QM)}{us:List V}{vs:List D}{ws:List V},aF K J vs ws->Vals ws (xs.map λx=>x.2.2)->Vals us (xs.map λx=>U_ x.2.1)->cJ K J xs (xs.map λx=>x.1.1) us vs ws
 | [],_,_,_,.nil,.nil,.nil=>.nil
 | x::xs,u::us,_,_,.cons r rs,.cons q qs,.cons p ps=>by
  have:u=.ref x.2.1:=by
   cases u with
   | ref a=>cases p;rfl
   | int i=>obtain ⟨t,h⟩:=p;cases h
   | str i=>obtain ⟨t,h⟩:=p;cases h
   | byt i=>obtain ⟨t,h⟩:=p;cases h
   | flt i=>obtain ⟨t,h⟩:=p;cases h
   | non=>cases p
   | bl b=>cases p
   | ty n=>cases p
  subst this
  exact .cons q r (cJ.of rs qs ps)
theorem cJ.put {k:KD}{u:QM}{d:D}{v:V}(rv:RelV v u) (rd:Rep K J d v):∀{xs:List (KD×Q4×QM)}{ks vs:List D}{us ws:List V},cJ K J xs ks us vs ws->∃ws',cJ K J (xs.map (putAt k u)) ks us (uD ks vs k.1 d) ws'
 | _,_,_,_,_,.nil=>⟨[],.nil⟩
 | x::xs,_,_,_,_,.cons q r t=>by
  obtain ⟨ws',ih⟩:=cJ.put rv rd t
  rw [Ra]
  unfold uD
  by_cases c:x.1=k
  ·have:bu x.1.1 k.1=true:=by rw [c];exact gD _
   rw [if_pos this]
   have e:putAt k u x=(x.1,x.2.1,u):=by unfold putAt;rw [if_pos c]
   rw [e]
   exact ⟨v::ws',.cons (x:=(x.1,x.2.1,u)) rv rd ih⟩
  ·have:¬bu x.1.1 k.1=true:=λh=>c (W8 ((ux x.1.2.1 k.2.1).mp h))
   rw [if_neg this]
   have e:putAt k u x=x:=by unfold putAt;rw [if_neg c]
   rw [e]
   exact ⟨_,.cons q r ih⟩
theorem cJ.snoc {k:KD}{a:Q4}{u:QM}{d:D}{v:V}(rv:RelV v u) (rd:Rep K J d v):∀{xs:List (KD×Q4×QM)}{ks vs:List D}{us ws:List V},cJ K J xs ks us vs ws->cJ K J (xs++[(k,a,u)]) (ks++[k.1]) (us++[.ref a]) (vs++[d]) (ws++[v])
 | _,_,_,_,_,.nil=>.cons (x:=(k,a,u)) rv rd .nil
 | _,_,_,_,_,.cons q r t=>.cons q r (cJ.snoc rv rd t)
theorem cJ.ents:∀{xs:List (KD×Q4×QM)}{ks vs:List D}{us ws:List V},cJ K J xs ks us vs ws->WB wW ((cB ks).zip (us.zip ws)) (xs.map (aai (lP P w)))
 | _,_,_,_,_,.nil=>.nil
 | _,_,_,_,_,.cons q r t=>.cons ⟨rfl,rfl,q⟩ t.ents
theorem cJ.reps:∀{xs:List (KD×Q4×QM)}{ks vs:List D}{us ws:List V},cJ K J xs ks us vs ws->aF K J vs ws
 | _,_,_,_,_,.nil=>.nil
 | _,_,_,_,_,.cons q r t=>.cons r t.reps
theorem cJ.keys:∀{xs:List (KD×Q4×QM)}{ks vs:List D}{us ws:List V},cJ K J xs ks us vs ws->xs.map (λx=>x.1.1)=ks
 | _,_,_,_,_,.nil=>rfl
 | _,_,_,_,_,.cons q r t=>by rw [Ra,t.keys]
theorem cJ.len:∀{xs:List (KD×Q4×QM)}{ks vs:List D}{us ws:List V},cJ K J xs ks us vs ws->ks.length=vs.length
 | _,_,_,_,_,.nil=>rfl
 | _,_,_,_,_,.cons q r t=>by rw [Sh,Sh,t.len]
theorem qv:∀{xs ys:List D},areKeys (xs++ys)=(areKeys xs && areKeys ys)
 | [],_=>rfl
 | x::xs,ys=>by
  show (isKey x && areKeys (xs++ys))=((isKey x && areKeys xs) && areKeys ys)
  rw [qv,Bool.and_assoc]
theorem xO:∀{xs ys:List D}{n:Nat},deps xs<=n->deps ys<=n->deps (xs++ys)<=n
 | [],_,_,_,h=>h
 | x::xs,ys,n,h1,h2=>by
  unfold deps at h1
  have:=xO (xs:=xs) (ys:=ys) (n:=n) (by omega) h2
  show max (dep x) (deps (xs++ys))<=n
  omega
theorem aF.snoc {ds:List D}{vs:List V}{d:D}{v:V}(h:aF K J ds vs) (r:Rep K J d v):aF K J (ds++[d]) (vs++[v]):=h.append (.cons r .nil)
end
section
variable {X:Cx}
theorem AD {Qz:List (Q4×Obj)}{s:QN}{σ:L2.St}{H J:Hp}(I:Inv X Qz σ H s) (sub:aT J H){p:Q4}{ks vs:List D}(h:dG X.K J H p ks vs):
  ∃xs:List (KD×Q4×QM),s.heap.DictOfH (lP X.prog X.w) p xs/\xs.length=ks.length/\∀{kxs:List D}{a:Q4}{d:D}{v:V}{u:QM}(k1:isKey (.tup kxs)=true) (k2:dep (.tup kxs)<=8),Rep X.K J (.tup kxs) (.ref a)->Rep X.K J d v->RelV v u->
   ∀(h':Sn) (tk:Nat),h'.DictOfH (lP X.prog X.w) p (storedH xs ⟨.tup kxs,k1,k2⟩ a u)->R_ p s.heap h'->
    ∃o,Inv X Qz σ (upd H p o) {s with heap:=h',toks:=tk}/\dG X.K J (upd H p o) p (dput (ks,vs) (.tup kxs) d).1 (dput (ks,vs) (.tup kxs) d).2/\(dput (ks,vs) (.tup kxs) d).1.length<=ks.length + 1:=by
 have F:HF X.K J s:=HF.of (c:=⟨X.K,H,H,λ_=>True⟩) I sub
 obtain ⟨xs,us,ws,hm,q2,h3,h4,q4,q5,h7⟩:=ny (P:=X.prog) (w:=X.w) F (fP I) h
 obtain ⟨_,_,_,p9,_,_,h5,_⟩:=h
 have rows:cJ X.K J xs ks us vs ws:=by
  have:=cJ.of h4 q4 q5
  rw [q2] at this
  exact this
 refine ⟨xs,hm,by rw [<-q2,QO],fun {kxs a d v u} k1 k2 rk rd r9 h' tk hm' sb=>?_⟩
 obtain ⟨o',es',ep',g1',g2'',g3',g4',g5',g6'⟩:=hm'
 obtain ⟨l1,l2⟩:=rT (K:=X.K) (J:=J) ⟨.tup kxs,k1,k2⟩ q2 h4 q4
 have key:∃us' ws',cJ X.K J (storedH xs ⟨.tup kxs,k1,k2⟩ a u) (dput (ks,vs) (.tup kxs) d).1 us' (dput (ks,vs) (.tup kxs) d).2 ws'/\aF X.K J (dput (ks,vs) (.tup kxs) d).1 us'/\areKeys (dput (ks,vs) (.tup kxs) d).1=true/\deps (dput (ks,vs) (.tup kxs) d).1<=8/\(∀k∈(dput (ks,vs) (.tup kxs) d).1,∃xs,k=.tup xs)/\(dput (ks,vs) (.tup kxs) d).1.length<=ks.length + 1:=by
  unfold dput
  cases lk:gm ks vs (.tup kxs) with
  | some z=>
   obtain ⟨pp,v,ea,_,_⟩:=l1 z lk
   rw [storedH_old ea]
   obtain ⟨ws',t⟩:=cJ.put (k:=⟨.tup kxs,k1,k2⟩) r9 rd rows
   exact ⟨us,ws',t,h3,h5.key,h5.dp,h5.tp,SN _⟩
  | none=>
   rw [storedH_new (l2 lk)]
   refine ⟨us++[.ref a],ws++[v],cJ.snoc (k:=⟨.tup kxs,k1,k2⟩) r9 rd rows,h3.snoc rk,?_,xO h5.dp (by show max (dep (.tup kxs)) 0<=8;omega),λk hk=>?_,by simp⟩
   ·show areKeys (ks++[.tup kxs])=true
    rw [qv,h5.key]
    show (true && (isKey (.tup kxs) && true))=true
    rw [k1];rfl
   ·rcases Rx.mp hk with h | h
    ·exact h5.tp k h
    ·exact ⟨kxs,Q9.mp h⟩
 obtain ⟨us',ws',t,tk',kk,kd,kt,kl⟩:=key
 have nd':(dput (ks,vs) (.tup kxs) d).1.Nodup:=by
  rw [<-t.keys]
  have:((storedH xs ⟨.tup kxs,k1,k2⟩ a u).map (·.1)).Nodup:=g6'
  have h:=abM (S:=(·≠·)) (λk:KD=>k.1) (λa b (h:a≠b) e=>h (W8 e)) this
  rw [Rv] at h
  exact h
 refine ⟨j5 p ep' ((cB (dput (ks,vs) (.tup kxs) d).1).zip (us'.zip ws')),I.write (e:=p) (by rw [p9];trivial) (.inl rfl) (λb u hb q=>by rw [sb.2 b hb];exact q) ⟨_,g1'⟩ ⟨⟨o',es',g1',g2'',g3',by rw [g4'];exact t.ents⟩,⟨_,g1'⟩,?_⟩,⟨us',ws',ep',b_,tk',t.reps,⟨kk,nd',kd,kt⟩,h7,t.len⟩,kl⟩
 rintro h1 h2 ⟨o,es,a1,a2⟩ e
 exact ⟨o,es,e o a1,a2⟩
end
noncomputable def A9 (c:C) (p:Q4):Hp->Hp->List D->Prop:=λJ H ys=>dG c.K J H p (iE ys).1 (iE ys).2/\J p=none/\(iE ys).1.length<=ys.length
theorem qJ {c:C}{p:Q4}:wR (A9 c p):=⟨fun {J H J' H' ys} ⟨h1,h2,h3⟩ e=>⟨h1.mono e.j e.h,e.frz _ h1.ne h2,h3⟩⟩
noncomputable def qL (gk gv:G R):Ev->M (List D×Ev):=λe=>gk e >>= λr=>toD r >>= λk=>gv e >>= λr2=>toD r2 >>= λd=>if dg k=true then .ok ([.tup [k,d]],e) else .bad
noncomputable abbrev BU (kx vx:Rz) (p:Q4) (env:Env):Sem Unit:=do
 let kv <-eval kx env
 let vv <-holding [kv] (eval vx env)
 Ug {kx.pos with endLine:=vx.pos.endLine,endCol:=vx.pos.endCol}
 holding [kv,vv] (dictSet p kv vv)
section
variable {X:Cx}{c:C}{p:Q4}{J2 H2:Hp}{kx vx:Rz}{gk gv:G R}
theorem Ab (hu:X.A.units + 64 < Sy) (hK:X.K=c.K) (hx:∀v s,X.xe v s->False) (hp2:H2 p=none) (hp0:c.H0 p=none) (hk:PD X c kx gk) (hv:PD X c vx gv):t8 X c p (A9 c p) J2 H2 1 (BU kx vx p X.env) (qL gk gv):=by
 intro Qz s σ H J env ys Qf I x2 sr no ⟨h1,h2,h8⟩ hl w
 refine QJ (RU (hk _ s σ H (λv H8=>∃J8 k,Ext J H J8 H8/\Rep c.K J8 k v/\cD (gv env >>= λr2=>toD r2 >>= λd=>if dg k=true then M.ok ([.tup [k,d]],env) else .bad) Qf c.T) I ⟨J,env,sr,aB (aH w) λr wr v J8 H8 e8 r8=>?_⟩) (λu8 s8 ⟨v8,H8,I8,r8,J8,k,e8,rk,w8⟩=>?_) λv s f=>(hx v s f).elim)
 ·obtain ⟨y,q,wr⟩:=iH wr
  obtain ⟨J9,e9,_,ry⟩:=freeze e8 r8 q
  exact ⟨J9,y,e9,ry,wr⟩
 refine QJ (Ru (RU (hv _ s8 σ H8 (λv H9=>∃J9 d,Ext J8 H8 J9 H9/\Rep c.K J9 d v/\cD (if dg k=true then M.ok ([.tup [k,d]],env) else .bad) Qf c.T) I8 ⟨J8,env,sr.ext e8,aB (aH w8) λr wr v J9 H9 e9 r9=>?_⟩) (λu9 s9 ⟨v9,H9,I9,r9,J9,d,e9,rd,w9⟩=>?_) λv s f=>(hx v s f).elim))
 ·obtain ⟨y,q,wr⟩:=iH wr
  obtain ⟨J9',e9',_,ry⟩:=freeze e9 r9 q
  exact ⟨J9',y,e9',ry,wr⟩
 refine QJ (SK (Ru ?_))
 by_cases ok:dg k=true
 case neg=>rw [if_neg ok] at w9;exact w9.elim
 rw [if_pos ok] at w9
 have w9:Qf ([.tup [k,d]],env):=w9
 obtain ⟨kxs,rfl,k1,k2⟩:=gQ ok
 have ee:=e8.trans e9
 have rk9:=rk.mono e9.j
 obtain ⟨a,rfl⟩:∃a,v8=.ref a:=by cases rk;exact ⟨_,rfl⟩
 cases r8
 have J9p:J9 p=none:=ee.frz _ h1.ne h2
 rw [<-hK] at rk9 rd
 have h9:=h1.mono ee.j ee.h
 rw [<-hK] at h9
 obtain ⟨xs,hm,lx,put⟩:=AD I9 ee.sub h9
 refine wpAny_dictSet_heap (knd:=lP X.prog X.w) (k:=⟨.tup kxs,k1,k2⟩) (show X.A.units + 16 < Sy by omega) (jj (HF.of (c:=⟨X.K,H9,H9,λ_=>True⟩) I9 ee.sub) k1 rk9) hm (λh' hm' sb=>?_) (by rw [lx];omega)
 obtain ⟨o,W,hd,kl⟩:=put k1 k2 rk9 rd r9 h' _ hm' sb
 refine ⟨σ,_,J9,([.tup [.tup kxs,d]],env),W,(x2.trans ee).other hp2 J9p,ee.j,(sr.ext ee).other J9p hp0 no,no,⟨by rw [nv,<-hK];exact hd,J9p,?_⟩,QY _,w9⟩
 rw [nv,Rm];exact RE kl (Nat.add_le_add_right h8 1)
end
noncomputable def jX (n:Nat) (cap:List Nat) (gi0:G (List D)) (gt0:GT) (gts0:G Bool) (gi1:G (List D)) (gt1:GT) (gts1:G Bool) (gk gv:G R):G R:=iS 10000 n cap gi0 gt0 gts0 (iP gi1 gt1 gts1 (qL gk gv)) (λys=>.ok (.d (.dct (iE ys).1 (iE ys).2)))
theorem Ju (kx vx t0 i0 t1 i1:Rz) (f0 f1:List Rz) (Qy:TF) (pos:Pos) (it acc:QM) (env:Env):
  VH (.DictComp kx vx [⟨t0,i0,f0,0⟩,⟨t1,i1,f1,0⟩] Qy pos) 0 it acc env=(do
   Ug i0.pos
   match <-Vq it with
   | none=>pure (.done .next)
   | some v=>
    Tu t0 it v
    assign t0 env v
    let mut ok:=true
    for c in f0 do
     if ok then ok <-X_ c env (eval c env)
    if ok then
     let x <-eval i1 env
     Ug i1.pos
     let x <-Q_ i1 env x
     let _ <-runOwn (.compStart (.DictComp kx vx [⟨t0,i0,f0,0⟩,⟨t1,i1,f1,0⟩] Qy pos) 1 (<-holding [x] (WD x)) acc env) env
    again (.compLoop (.DictComp kx vx [⟨t0,i0,f0,0⟩,⟨t1,i1,f1,0⟩] Qy pos) 0 it acc env)):=by rfl
theorem LS (kx vx t0 i0 t1 i1:Rz) (f0 f1:List Rz) (Qy:TF) (pos:Pos) (it acc:QM) (env:Env):
  VH (.DictComp kx vx [⟨t0,i0,f0,0⟩,⟨t1,i1,f1,0⟩] Qy pos) 0 it acc env=lH t0 i0 f0 it env (qO (.DictComp kx vx [⟨t0,i0,f0,0⟩,⟨t1,i1,f1,0⟩] Qy pos) i1 acc env) (again (.compLoop (.DictComp kx vx [⟨t0,i0,f0,0⟩,⟨t1,i1,f1,0⟩] Qy pos) 0 it acc env)):=by
 rw [Ju]
 refine bind_congr λ_=>bind_congr λr=>?_
 cases r with
 | none=>rfl
 | some v=>
  refine bind_congr λ_=>bind_congr λ_=>bind_congr λok=>?_
  cases ok with
  | false=>rfl
  | true=>simp only [qO,bind_assoc,pure_bind,if_true]
theorem LU (kx vx t0 i0 t1 i1:Rz) (f0 f1:List Rz) (Qy:TF) (pos:Pos) (it:QM) (p:Q4) (env:Env):
  VH (.DictComp kx vx [⟨t0,i0,f0,0⟩,⟨t1,i1,f1,0⟩] Qy pos) 1 it (.ref p) env=lH t1 i1 f1 it env (BU kx vx p env) (again (.compLoop (.DictComp kx vx [⟨t0,i0,f0,0⟩,⟨t1,i1,f1,0⟩] Qy pos) 1 it (.ref p) env)):=by rfl
section
variable {X:Cx}{c:C}
theorem JV (hu:X.A.units + 64 < Sy) (hK:X.K=c.K) (own:List Str) (cap:List Nat){kx vx t0 i0 t1 i1:Rz}{f0 f1:List Rz}{Qy:TF}{pos:Pos}{gi0 gi1:G (List D)}{gt0 gt1:GT}{gts0 gts1:G Bool}{gk gv:G R}(hi:oB X c t0 i0 gi0)
  (hbody:∀(cl:List (Str×Q4)) (C:Q4) (s:QN) (H:Hp) (fp:List Q4),bE X.env.cells Qy.names []=some cl->iM (aW X own cap Qy cl C s H fp) c t0 gt0/\gw (aW X own cap Qy cl C s H fp) c f0 gts0/\xh (aW X own cap Qy cl C s H fp) c t1 i1 gi1/\iM (aW X own cap Qy cl C s H fp) c t1 gt1/\gw (aW X own cap Qy cl C s H fp) c f1 gts1/\PD (aW X own cap Qy cl C s H fp) c kx gk/\PD (aW X own cap Qy cl C s H fp) c vx gv)
  (hk:Qy.kind=.function:=by rfl) (hno:fq X cap Qy=true:=by rfl) (hnames:(Qy.names.all λx=>!(x.2 == .local) || (Qy.names.lookup x.1 == some .local))=true:=by rfl)
  (hcl:(bE X.env.cells Qy.names []).isSome=true:=by rfl) (hcap:dB X cap=true:=by rfl) (hloc:dH X cap Qy=true:=by rfl) (hnd:fQ cap=true:=by rfl) (Ox:X.calm=true:=by rfl)
  (hs:∀x,Q_ i0 X.env x=pure x:=by intro _;rfl) (hs1:∀(en:Env) x,Q_ i1 en x=pure x:=by intro _ _;rfl)
  {Qz:List (Q4×Obj)}{s:QN}{σ:L2.St}{H:Hp}{Q:VK}{use:Option (QM->Sem Unit)}{Q0:QM->QN->Prop}{pos':Pos}(I:Inv X Qz σ H s) (h:tD c (jX own.length cap gi0 gt0 gts0 gi1 gt1 gts1 gk gv) σ H Q)
  (OC:∀(acc C:Q4) (m:Str->Option QM) (s':QN) (H':Hp) (fl:Flow),s'.heap.Ns C m->((C∈X.ex\/X.s₀.heap.objs.size<=C)/\C≠X.env.locals/\(∀x c,X.env.cells.lookup x=some c->c≠C)/\∀p∈X.pn++Qz,p.1≠C)->H' C=none->(∀h'',R_ C s'.heap h''->Inv X Qz σ H' {s' with heap:=h''})->Q (.ref acc) H'->YQ (Rk X.prog X.w) X.A X.xe use Q0 (.ref acc) C (.ok fl) s'):
  Rg (Rk X.prog X.w) X.A (comprehension (.DictComp kx vx [⟨t0,i0,f0,0⟩,⟨t1,i1,f1,0⟩] Qy pos) Qy X.env pos' newDict false (eval i0 X.env) use) Q0 X.xe s:=by
 refine nu (e:=.DictComp kx vx [⟨t0,i0,f0,0⟩,⟨t1,i1,f1,0⟩] Qy pos) (ob:={cls:=.type "dict",data:=.dict #[]}) (o0:=λa=>j5 a 0 []) (Acc:=A9 c) (N:=1000 * 1) (lim:=10000) (m:=λp env=>qO (.DictComp kx vx [⟨t0,i0,f0,0⟩,⟨t1,i1,f1,0⟩] Qy pos) i1 (.ref p) env) own cap rfl hi
  (λs Q E q=>Rw q) (λh H=>⟨⟨_,#[],Q7 _ rfl,⟨rfl,rfl,rfl⟩,rfl,.nil⟩,⟨_,Q7 _ rfl⟩,λh1 h2 ⟨o,es,a1,a2⟩ e=>⟨o,es,e o a1,a2⟩⟩) (λp=>qJ) (λp J H hsm h1 h2=>⟨⟨[],[],0,h1,.nil,.nil,⟨rfl,T6,RA _,λ_ h=>(nomatch h)⟩,beq_eq_false_iff_ne.mpr (Tt (Rn hsm)),rfl⟩,h2,QY _⟩) (by decide) (λit p env=>BJ (LS ..)) (λit acc env R s h0 h=>Xp h0 h) (λys z q=>by cases q)
  (fun {p J H J' H' ys r} hp e ⟨⟨us,ws,ep,h1,h3,h4,h5,h7⟩,h2,h8⟩ q=>by
   cases q
   have s1:aT J' (upd J' p (j5 p ep ((cB (iE ys).1).zip (us.zip ws)))):=cM h2 _
   refine ⟨upd J' p (j5 p ep ((cB (iE ys).1).zip (us.zip ws))),⟨e.h,e.j.trans s1,λa o q=>?_,λa ha ja=>?_⟩,.dct b_ (h3.mono s1) (h4.mono s1) h5 h7⟩
   ·by_cases z:a=p
    ·subst z;rw [b_] at q;cases q;exact h1
    ·rw [bA z] at q;exact e.sub _ _ q
   ·have:a≠p:=λz=>ha (z▸hp)
    rw [bA this];exact e.frz a ha ja) (λcl C s H fp hcc=>?_) hk hno hnames hcl hcap hloc hnd Ox hs I h OC
 obtain ⟨b1,b2,b3,b4,b5,b6,b7⟩:=hbody cl C s H fp hcc
 refine ⟨b1,b2,λp J2 H2 hp2 hp0=>?_⟩
 exact Aa qJ Ox (λ_ _ f=>f) (λx=>hs1 _ x) (λit R s h0 h=>LL h0 h) (λit=>BJ (LU ..)) b3 b4 b5 (Ab hu hK (λ_ _ f=>f) hp2 hp0 b6 b7)
theorem DT (hu:X.A.units + 64 < Sy) (own:List Str) (cap:List Nat){kx vx t0 i0 t1 i1:Rz}{f0 f1:List Rz}{Qy:TF}{pos:Pos}{gi0 gi1:G (List D)}{gt0 gt1:GT}{gts0 gts1:G Bool}{gk gv:G R}(hi:oB X c t0 i0 gi0)
  (hbody:∀(cl:List (Str×Q4)) (C:Q4) (s:QN) (H:Hp) (fp:List Q4),bE X.env.cells Qy.names []=some cl->iM (aW X own cap Qy cl C s H fp) c t0 gt0/\gw (aW X own cap Qy cl C s H fp) c f0 gts0/\xh (aW X own cap Qy cl C s H fp) c t1 i1 gi1/\iM (aW X own cap Qy cl C s H fp) c t1 gt1/\gw (aW X own cap Qy cl C s H fp) c f1 gts1/\PD (aW X own cap Qy cl C s H fp) c kx gk/\PD (aW X own cap Qy cl C s H fp) c vx gv)
  (hk:Qy.kind=.function:=by rfl) (hno:fq X cap Qy=true:=by rfl) (hnames:(Qy.names.all λx=>!(x.2 == .local) || (Qy.names.lookup x.1 == some .local))=true:=by rfl)
  (hcl:(bE X.env.cells Qy.names []).isSome=true:=by rfl) (hcap:dB X cap=true:=by rfl) (hloc:dH X cap Qy=true:=by rfl) (hnd:fQ cap=true:=by rfl) (Ox:X.calm=true:=by rfl)
  (hs:∀x,Q_ i0 X.env x=pure x:=by intro _;rfl) (hs1:∀(en:Env) x,Q_ i1 en x=pure x:=by intro _ _;rfl) (hK:X.K=c.K:=by rfl):PD X c (.DictComp kx vx [⟨t0,i0,f0,0⟩,⟨t1,i1,f1,0⟩] Qy pos) (jX own.length cap gi0 gt0 gts0 gi1 gt1 gts1 gk gv):=by
 intro Qz s σ H Q I h
 rw [arm_eval_DictComp]
 exact JV hu hK own cap hi hbody hk hno hnames hcl hcap hloc hnd Ox hs hs1 I h λacc C m s' H' fl hm hz hf hb q=>⟨m,hm,λh'' sb=>⟨.ref acc,H',hb h'' sb,rfl,q⟩⟩
theorem tu (hu:X.A.units + 64 < Sy) (own:List Str) (cap:List Nat){kx vx t0 i0 t1 i1:Rz}{f0 f1:List Rz}{Qy:TF}{pos:Pos}{gi0 gi1:G (List D)}{gt0 gt1:GT}{gts0 gts1:G Bool}{gk gv:G R}(hi:qq X c t0 i0 gi0)
  (hbody:∀(cl:List (Str×Q4)) (C:Q4) (s:QN) (H:Hp) (fp:List Q4),bE X.env.cells Qy.names []=some cl->jY (aW X own cap Qy cl C s H fp) c t0 gt0/\jC (aW X own cap Qy cl C s H fp) c f0 gts0/\xm (aW X own cap Qy cl C s H fp) c t1 i1 gi1/\jY (aW X own cap Qy cl C s H fp) c t1 gt1/\jC (aW X own cap Qy cl C s H fp) c f1 gts1/\QD (aW X own cap Qy cl C s H fp) c kx gk/\QD (aW X own cap Qy cl C s H fp) c vx gv)
  (hk:Qy.kind=.function:=by rfl) (hno:fq X cap Qy=true:=by rfl) (hnames:(Qy.names.all λx=>!(x.2 == .local) || (Qy.names.lookup x.1 == some .local))=true:=by rfl)
  (hcl:(bE X.env.cells Qy.names []).isSome=true:=by rfl) (hcap:dB X cap=true:=by rfl) (hloc:dH X cap Qy=true:=by rfl) (hnd:fQ cap=true:=by rfl) (Ox:X.calm=true:=by rfl)
  (hs:∀x,Q_ i0 X.env x=pure x:=by intro _;rfl) (hs1:∀(en:Env) x,Q_ i1 en x=pure x:=by intro _ _;rfl) (hK:X.K=c.K:=by rfl):QD X c (.DictComp kx vx [⟨t0,i0,f0,0⟩,⟨t1,i1,f1,0⟩] Qy pos) (jX own.length cap gi0 gt0 gts0 gi1 gt1 gts1 gk gv):=
 ⟨DT hu own cap hi.h (λcl C s H fp hc=>let ⟨a,b,d,e,f,g,h⟩:=hbody cl C s H fp hc;⟨a.h,b.h,d.h,e.h,f.h,g.h,h.h⟩) hk hno hnames hcl hcap hloc hnd Ox hs hs1 hK⟩
end
noncomputable def lexLe:List Int->List Int->Bool
 | [],_=>true
 | _::_,[]=>false
 | x::xs,y::ys=>if x=y then lexLe xs ys else decide (x<=y)
theorem jM (x y:Int) (xs ys:List Int):lexLe (x::xs) (y::ys)=if x=y then lexLe xs ys else decide (x<=y):=rfl
theorem oh:lexLe [] []=true:=rfl
theorem uB (y:Int) (ys:List Int):lexLe [] (y::ys)=true:=rfl
theorem uA (x:Int) (xs:List Int):lexLe (x::xs) []=false:=rfl
theorem Gj (A:RG) (s:QN) (a:Int) (t:Tok) (c:Int) (u:Tok) (prog:Rb) (w:RD) (E:QM->QN->Prop) (Q:QM->QN->Prop) (h:Q (.bool (decide (a<=c))) s):
  Rg (Rk prog w) A (richCompare .LtE (.int a t) (.int c u)) Q E s:=
 (abz h:Rg (Rk prog w) A (Sx .LtE (.int a t) (.int c u)) Q E s)
section
open PySem.SeqAt
open PySem.AutoSeq1 (wpAny_loadPart')
open PySem.MeetsSeq PySem.MeetsSeq2 PySem.MeetsSeq3
theorem wB (l b:Q4) (items QG:Array QM) (n n2:Nat) (dd dd2:Option Q4) (sl sl2:Array (Option QM)) (ns ms:List Int) (hi:U0 items.toList ns) (hj:U0 QG.toList ms):
  Meets (U1.«tuple.__le__» ⟨[.ref l,.ref b],[]⟩)
   (λ_ R s=>s.heap.get? l=some {cls:=.type "tuple",dict:=dd,data:=.seq items n,slots:=sl}/\s.heap.get? b=some {cls:=.type "tuple",dict:=dd2,data:=.seq QG n2,slots:=sl2}/\
    R (.ok (.ret (.bool (lexLe ns ms)))) s):=
 .of_wp λprog w A R s h=>by
  obtain ⟨hp,g,d,tk,os⟩:=s;obtain ⟨hl,hb,h⟩:=h
  have f2:=U8
  have z1:items.size=ns.length:=by rw [<-hi.length];simp
  have z2:QG.size=ms.length:=by rw [<-hj.length];simp
  wp_walk using Tw hl,Tw hb,TN _ (λrest b s'=>b.1=none/\s'=⟨hp,g,d,tk,os⟩/\∃(vs ws:List QM) (ns' ms':List Int),rest=vs.zip ws/\
   U0 vs ns'/\U0 ws ms'/\ns'.length + QG.size=ms'.length + items.size/\R (.ok (.ret (.bool (lexLe ns' ms')))) ⟨hp,g,d,tk,os⟩) _
  case turn=>
   rintro ⟨y,x⟩ rest b s' ⟨hb',rfl,vs,ws,ns',ms',hz,PV,hwi,hlen,hR⟩
   cases PV with
   | nil=>rw [List.zip_nil_left] at hz;cases hz
   | cons a t PX=>
    cases hwi with
    | nil=>rw [List.zip_nil_right] at hz;cases hz
    | cons c u PY=>
     rw [Wn] at hz
     injection hz with hyx hrest
     injection hyx with hy hx
     subst hy hx
     rw [jM] at hR
     simp only [Sh] at hlen
     obtain ⟨e,he,hiff⟩:=HT.EW A.in1 ⟨hp,g,d,tk,os⟩ a t c u
     refine QJ (he prog w _ _ ?_)
     cases e with
     | true=>
      rw [if_pos (hiff.mp rfl)] at hR
      wp_walk
      exact ⟨rfl,rfl,_,_,_,_,hrest,PX,PY,by omega,hR⟩
     | false=>
      rw [if_neg (λq=>absurd (hiff.mpr q) RB)] at hR
      have PN:=Gj A.in1 ⟨hp,g,d,tk,os⟩ a t c u prog w
      wp_walk using PN
      exact ⟨_,rfl,by simpa using hR⟩
  case fin=>
   rintro ⟨b1,b2⟩ s' ⟨hb',rfl,vs,ws,ns',ms',hz,PV,hwi,hlen,hR⟩
   simp only at hb'
   subst hb'
   have hv:lexLe ns' ms'=decide (items.size<=QG.size):=by
    cases PV with
    | nil=>
     cases hwi with
     | nil=>
      simp only [Vk] at hlen
      rw [oh]
      exact (decide_eq_true (by omega)).symm
     | cons c u hw=>
      simp only [Vk,Sh] at hlen
      rw [uB]
      exact (decide_eq_true (by omega)).symm
    | cons a t hv=>
     cases hwi with
     | nil=>
      simp only [Vk,Sh] at hlen
      rw [uA]
      exact (decide_eq_false (by omega)).symm
     | cons c u hw=>
      rw [Wn] at hz
      cases hz
   rw [hv] at hR
   wp_walk
   exact ⟨_,rfl,by simpa [Vz] using hR⟩
  case h=>
   exact ⟨rfl,rfl,items.toList,QG.toList,ns,ms,rfl,hi,hj,by omega,h⟩
end
section
variable {prog:Rb}{w:RD}{A:RG}{E:QM->QN->Prop}{s:QN}
theorem BI {l b:Q4}{items QG:Array QM}{ns ms:List Int}{Q:QM->QN->Prop}(hl:aaW s.heap l items) (hb:aaW s.heap b QG) (hi:U0 items.toList ns) (hj:U0 QG.toList ms)
  (hu:A.units < Sy) (h:Q (.bool (lexLe ns ms)) s):Rg (Rk prog w) A (Sx .LtE (.ref l) (.ref b)) Q E s:=by
 obtain ⟨⟨cls,dd,data,sl⟩,ho,hc,n,hd⟩:=id hl
 obtain ⟨⟨cls2,dd2,data2,sl2⟩,ho2,hc2,n2,hd2⟩:=id hb
 simp only at hc hd hc2 hd2
 subst hc hd hc2 hd2
 exact Xk (op:=.LtE) ⟨_,ho,rfl⟩ ⟨_,ho2,rfl⟩ PySem.F.slot_tuple_le PySem.F.entry_tuple_le (PySem.F.args_tuple_le_2 _ _) (wB l b items QG n n2 dd dd2 sl sl2 ns ms hi hj)
  ⟨ho,ho2,show Ua (lexLe ns ms)≠X3/\Q (.bool (lexLe ns ms)) s from ⟨(λx=>nomatch x),h⟩⟩ hu
end
section
variable {X:Cx}{c:C}{a b e:Rz}{ga gb:G R}{pos pos2:Pos}
theorem KW (hu:X.A.units < Sy):c_ X (Sx .LtE) (λx y H Q=>∃a b ns ms,x=.ref a/\y=.ref b/\cX X.K H a (ns.map V.int)/\cX X.K H b (ms.map V.int)/\Q (.bl (lexLe ns ms)) H):=by
 intro Qz s σ H x y v u Q I rx ry h
 obtain ⟨a,b,ns,ms,rfl,rfl,ha,hb,q⟩:=h
 cases rx
 cases ry
 obtain ⟨QA,r1,p1,_⟩:=I.tuple ha
 obtain ⟨its2,r2,p2,_⟩:=I.tuple hb
 exact BI p1 p2 (L2.intsAre_of r1:U0 QA.toArray.toList ns) (L2.intsAre_of r2:U0 its2.toArray.toList ms) hu ⟨.bl (lexLe ns ms),H,I,rfl,q⟩
noncomputable def xV:R->R->M R
 | .d (.tup xs),.d (.tup ys)=>match intsOf xs,intsOf ys with
  | some ns,some ms=>.ok (.d (.bl (lexLe ns ms)))
  | _,_=>.bad
 | _,_=>.bad
theorem IT (hu:X.A.units + 64 < Sy) (ha:QD X c a ga) (hb:QD X c b gb) (hK:X.K=c.K:=by rfl):QB X c (.Compare a [.LtE] [b] pos) (bO (g2 xV ga gb)):=have ha:=ha.h;have hb:=hb.h;⟨jz (KW (by omega)) (by
 intro He He' J H x y u v Q hp rx ry w
 unfold xV at w
 split at w
 ·cases rx with
  | tup h1 s1=>
   cases ry with
   | tup h2 s2=>
    split at w
    ·rename_i ns ms z1 z2
     have e1:=nF z1 s1
     have e2:=nF z2 s2
     subst e1 e2
     exact ⟨_,_,ns,ms,rfl,rfl,by rw [hK];exact fB hp.sub h1,by rw [hK];exact fB hp.sub h2,w _ J H (Ext.refl hp.sub) (.bl _)⟩
    ·exact w.elim
 ·exact w.elim) ha hb⟩
end
theorem uh (gt:GT) (gts:G Bool) (ge:G R):∀(ds:List D) (env:Ev) (k:List D->M R),(bV gt gts (gz ge) ds env >>= λr=>k r.1)=(cQ gt gts ge ds env >>= k)
 | [],env,k=>rfl
 | d::ds,env,k=>by
  unfold bV cQ
  cases gt d env with
  | bad=>rfl
  | exc z=>rfl
  | ok e=>
   show ((gts e >>= λk=>if k=true then gz ge e >>= λr=>bV gt gts (gz ge) ds r.2 >>= λz=>.ok (r.1++z.1,z.2) else bV gt gts (gz ge) ds e) >>= _)=((gts e >>= λk=>if k=true then ge e >>= λr=>toD r >>= λy=>cQ gt gts ge ds e >>= λys=>.ok (y::ys) else cQ gt gts ge ds e) >>= _)
   cases gts e with
   | bad=>rfl
   | exc z=>rfl
   | ok b=>
    cases b with
    | false=>exact uh gt gts ge ds e k
    | true=>
     show ((gz ge e >>= λr=>bV gt gts (gz ge) ds r.2 >>= λz=>.ok (r.1++z.1,z.2)) >>= _)=((ge e >>= λr=>toD r >>= λy=>cQ gt gts ge ds e >>= λys=>.ok (y::ys)) >>= _)
     unfold gz
     cases ge e with
     | bad=>rfl
     | exc z=>rfl
     | ok r=>
      show (((toD r >>= λy=>M.ok ([y],e)) >>= λr=>bV gt gts (gz ge) ds r.2 >>= λz=>.ok (r.1++z.1,z.2)) >>= _)=((toD r >>= λy=>cQ gt gts ge ds e >>= λys=>.ok (y::ys)) >>= _)
      cases toD r with
      | bad=>rfl
      | exc z=>rfl
      | ok y=>
       have ih:=uh gt gts ge ds e λys=>k (y::ys)
       show ((bV gt gts (gz ge) ds e >>= λz=>.ok ([y]++z.1,z.2)) >>= λr=>k r.1)=((cQ gt gts ge ds e >>= λys=>M.ok (y::ys)) >>= k)
       have e1:((bV gt gts (gz ge) ds e >>= λz=>M.ok ([y]++z.1,z.2)) >>= λr=>k r.1)=(bV gt gts (gz ge) ds e >>= λr=>k (y::r.1)):=by cases bV gt gts (gz ge) ds e <;> rfl
       have e2:((cQ gt gts ge ds e >>= λys=>M.ok (y::ys)) >>= k)=(cQ gt gts ge ds e >>= λys=>k (y::ys)):=by cases cQ gt gts ge ds e <;> rfl
       rw [e1,e2,ih]
theorem HV (n:Nat) (cap:List Nat) (gi:G (List D)) (gt:GT) (gts:G Bool) (ge:G R):bM n cap gi gt gts ge=iS sizeLine n cap gi gt gts (gz ge) (λys=>.ok (.l .fresh ys)):=by
 funext env
 unfold bM iS
 cases gi env with
 | bad=>rfl
 | exc z=>rfl
 | ok ds=>
  show (if ds.length<=sizeLine then _ else _)=(if ds.length<=sizeLine then _ else _)
  by_cases c:ds.length<=sizeLine
  ·rw [if_pos c,if_pos c]
   exact (uh gt gts ge ds _ λys=>.ok (.l .fresh ys)).symm
  ·rw [if_neg c,if_neg c]
section
variable {X:Cx}{c:C}
theorem Dc (own:List Str) (cap:List Nat){elt QC QE:Rz}{ifs:List Rz}{Qy:TF}{pos:Pos}{gi:G (List D)}{gt:GT}{gts:G Bool}{ge:G R}(hi:oB X c QC QE gi)
  (hbody:∀(cl:List (Str×Q4)) (C:Q4) (s:QN) (H:Hp) (fp:List Q4),bE X.env.cells Qy.names []=some cl->iM (aW X own cap Qy cl C s H fp) c QC gt/\gw (aW X own cap Qy cl C s H fp) c ifs gts/\PD (aW X own cap Qy cl C s H fp) c elt ge)
  (hk:Qy.kind=.function:=by rfl) (hno:fq X cap Qy=true:=by rfl) (hnames:(Qy.names.all λx=>!(x.2 == .local) || (Qy.names.lookup x.1 == some .local))=true:=by rfl)
  (hcl:(bE X.env.cells Qy.names []).isSome=true:=by rfl) (hcap:dB X cap=true:=by rfl) (hloc:dH X cap Qy=true:=by rfl) (hnd:fQ cap=true:=by rfl) (Ox:X.calm=true:=by rfl)
  (hs:∀x,Q_ QE X.env x=pure x:=by intro _;rfl)
  {Qz:List (Q4×Obj)}{s:QN}{σ:L2.St}{H:Hp}{Q:VK}{use:Option (QM->Sem Unit)}{Q0:QM->QN->Prop}{pos':Pos}(I:Inv X Qz σ H s) (h:tD c (bM own.length cap gi gt gts ge) σ H Q)
  (OC:∀(acc C:Q4) (m:Str->Option QM) (s':QN) (H':Hp) (fl:Flow),s'.heap.Ns C m->((C∈X.ex\/X.s₀.heap.objs.size<=C)/\C≠X.env.locals/\(∀x c,X.env.cells.lookup x=some c->c≠C)/\∀p∈X.pn++Qz,p.1≠C)->H' C=none->(∀h'',R_ C s'.heap h''->Inv X Qz σ H' {s' with heap:=h''})->Q (.ref acc) H'->YQ (Rk X.prog X.w) X.A X.xe use Q0 (.ref acc) C (.ok fl) s'):
  Rg (Rk X.prog X.w) X.A (comprehension (.ListComp elt [⟨QC,QE,ifs,0⟩] Qy pos) Qy X.env pos' (newList []) false (eval QE X.env) use) Q0 X.xe s:=by
 rw [HV] at h
 refine nu (e:=.ListComp elt [⟨QC,QE,ifs,0⟩] Qy pos) (ob:={cls:=.type "list",dict:=none,data:=.seq ([]:List QM).toArray}) (o0:=λ_=>.lst []) (Acc:=A_ c) (N:=1) (lim:=sizeLine) (m:=λp env=>do let _ <-call (.builtin "list.append") [.ref p,<-eval elt env]) own cap rfl hi
  (λs Q E q=>Rw q) (λh H=>⟨RA _,[],0,.nil,Q7 _ rfl⟩) (λp=>qK) (λp J H _ h1 h2=>⟨[],h1,h2,.nil⟩) (by rw [Nat.mul_one];exact QY _) (λit p env=>BK (compTurn_list ..)) (λit acc env R s h0 h=>Xo h0 h) (λys z q=>by cases q)
  (fun {p J H J' H' ys r} hp e ⟨us,h1,h2,h3⟩ q=>by cases q;exact ⟨J',e,⟨p,us,rfl,h1,h2,hp,h3⟩⟩) (λcl C s H fp hcc=>?_) hk hno hnames hcl hcap hloc hnd Ox hs I h OC
 obtain ⟨b1,b2,b3⟩:=hbody cl C s H fp hcc
 exact ⟨b1,b2,λp J2 H2 hp2 hp0=>z_ (λ_ _ f=>f) hp2 hp0 b3⟩
theorem FN (own:List Str) (cap:List Nat){elt QC QE:Rz}{ifs:List Rz}{Qy:TF}{pos:Pos}{gi:G (List D)}{gt:GT}{gts:G Bool}{ge:G R}(hi:oB X c QC QE gi)
  (hbody:∀(cl:List (Str×Q4)) (C:Q4) (s:QN) (H:Hp) (fp:List Q4),bE X.env.cells Qy.names []=some cl->iM (aW X own cap Qy cl C s H fp) c QC gt/\gw (aW X own cap Qy cl C s H fp) c ifs gts/\PD (aW X own cap Qy cl C s H fp) c elt ge)
  (hk:Qy.kind=.function:=by rfl) (hno:fq X cap Qy=true:=by rfl) (hnames:(Qy.names.all λx=>!(x.2 == .local) || (Qy.names.lookup x.1 == some .local))=true:=by rfl)
  (hcl:(bE X.env.cells Qy.names []).isSome=true:=by rfl) (hcap:dB X cap=true:=by rfl) (hloc:dH X cap Qy=true:=by rfl) (hnd:fQ cap=true:=by rfl) (Ox:X.calm=true:=by rfl)
  (hs:∀x,Q_ QE X.env x=pure x:=by intro _;rfl):PD X c (.ListComp elt [⟨QC,QE,ifs,0⟩] Qy pos) (bM own.length cap gi gt gts ge):=by
 intro Qz s σ H Q I h
 rw [aaS]
 exact Dc own cap hi hbody hk hno hnames hcl hcap hloc hnd Ox hs I h λacc C m s' H' fl hm hz hf hb q=>⟨m,hm,λh'' sb=>⟨.ref acc,H',hb h'' sb,rfl,q⟩⟩
theorem FG (i:Nat) (own:List Str) (cap:List Nat){elt QC QE:Rz}{ifs:List Rz}{Qy:TF}{pos pos' pos2:Pos}{x:Str}{gi:G (List D)}{gt:GT}{gts:G Bool}{ge:G R}(hN:X.N.Nodup) (hi:oB X c QC QE gi)
  (hbody:∀(cl:List (Str×Q4)) (C:Q4) (s:QN) (H:Hp) (fp:List Q4),bE X.env.cells Qy.names []=some cl->iM (aW X own cap Qy cl C s H fp) c QC gt/\gw (aW X own cap Qy cl C s H fp) c ifs gts/\PD (aW X own cap Qy cl C s H fp) c elt ge)
  (hk:Qy.kind=.function:=by rfl) (hno:fq X cap Qy=true:=by rfl) (hnames:(Qy.names.all λx=>!(x.2 == .local) || (Qy.names.lookup x.1 == some .local))=true:=by rfl)
  (hcl:(bE X.env.cells Qy.names []).isSome=true:=by rfl) (hcap:dB X cap=true:=by rfl) (hloc:dH X cap Qy=true:=by rfl) (hnd:fQ cap=true:=by rfl) (Ox:X.calm=true:=by rfl)
  (hs:∀x,Q_ QE X.env x=pure x:=by intro _;rfl) (hx:X.N[i]?=some x:=by rfl) (OG:X.env.scope.names.lookup x=some .local:=by rfl)
  (hsw:Uo (.ListComp elt [⟨QC,QE,ifs,0⟩] Qy pos) (some (.Name x pos')) pos2.line X.env=pure true:=by rfl):zW X c (.Assign [.Name x pos'] (.ListComp elt [⟨QC,QE,ifs,0⟩] Qy pos) pos2) (a_ i (bM own.length cap gi gt gts ge)):=by
 intro Qz s σ H D I ⟨J,env,sr,w⟩
 rw [XM]
 refine QJ (SK ?_)
 rw [show Va [.Name x pos'] (.ListComp elt [⟨QC,QE,ifs,0⟩] Qy pos) pos2.line X.env=pure true from hsw]
 refine QJ (QL ?_)
 rw [if_pos rfl,WS]
 refine QJ (QJ (Dc own cap hi hbody hk hno hnames hcl hcap hloc hnd Ox hs (Q:=λv H1=>∃J1 r xx,Ext J H J1 H1/\RR c H J1 H1 r v/\toS r=.ok xx/\oP c J D (.nx (env.set i (some xx)))) I ⟨J,env,sr,aB (aH w) λr wr v J1 H1 e1 r1=>?_⟩ λacc C m s' H' fl hm ap hf hb ⟨J1,r,xx,e1,r1,q1,w1⟩=>?_))
 ·obtain ⟨xx,q,wr⟩:=nj wr
  exact ⟨J1,r,xx,e1,r1,q,wr⟩
 ·have I1:L2.Inv X Qz σ H' s':=hb s'.heap (WT ..)
  show Rg _ _ (do Ug pos';abG X.env x (.ref acc)) _ _ _
  refine QJ (SK (Yg ?_))
  refine lG I1 hN hx (.inl OG) (v:=.ref acc) (u:=.ref acc) rfl (λs2 I2 ⟨a,sb,ha⟩=>?_) (.inr OG)
  have hac:C≠a:=λz=>by
   rcases ha with e | e
   ·exact ap.2.1 (z.trans e)
   ·exact ap.2.2.1 _ _ e z.symm
  refine ⟨m,hm.sameBut sb hac,λh2 sb2=>?_⟩
  refine QL (QL ⟨σ.set i (some (.ref acc)),H',o5 I2 ap hf sb2 (o0:=default),?_⟩)
  exact w1 _ J1 H' e1.j (sr.set e1 r1 q1)
theorem bL (own:List Str) (cap:List Nat){elt QC QE:Rz}{ifs:List Rz}{Qy:TF}{pos:Pos}{gi:G (List D)}{gt:GT}{gts:G Bool}{ge:G R}(hi:qq X c QC QE gi)
  (hbody:∀(cl:List (Str×Q4)) (C:Q4) (s:QN) (H:Hp) (fp:List Q4),bE X.env.cells Qy.names []=some cl->jY (aW X own cap Qy cl C s H fp) c QC gt/\jC (aW X own cap Qy cl C s H fp) c ifs gts/\QD (aW X own cap Qy cl C s H fp) c elt ge)
  (hk:Qy.kind=.function:=by rfl) (hno:fq X cap Qy=true:=by rfl) (hnames:(Qy.names.all λx=>!(x.2 == .local) || (Qy.names.lookup x.1 == some .local))=true:=by rfl)
  (hcl:(bE X.env.cells Qy.names []).isSome=true:=by rfl) (hcap:dB X cap=true:=by rfl) (hloc:dH X cap Qy=true:=by rfl) (hnd:fQ cap=true:=by rfl) (Ox:X.calm=true:=by rfl)
  (hs:∀x,Q_ QE X.env x=pure x:=by intro _;rfl):QD X c (.ListComp elt [⟨QC,QE,ifs,0⟩] Qy pos) (bM own.length cap gi gt gts ge):=
 ⟨FN own cap hi.h (λcl C s H fp hc=>let ⟨a,b,d⟩:=hbody cl C s H fp hc;⟨a.h,b.h,d.h⟩) hk hno hnames hcl hcap hloc hnd Ox hs⟩
theorem lC (i:Nat) (own:List Str) (cap:List Nat){elt QC QE:Rz}{ifs:List Rz}{Qy:TF}{pos pos' pos2:Pos}{x:Str}{gi:G (List D)}{gt:GT}{gts:G Bool}{ge:G R}(hN:X.N.Nodup) (hi:qq X c QC QE gi)
  (hbody:∀(cl:List (Str×Q4)) (C:Q4) (s:QN) (H:Hp) (fp:List Q4),bE X.env.cells Qy.names []=some cl->jY (aW X own cap Qy cl C s H fp) c QC gt/\jC (aW X own cap Qy cl C s H fp) c ifs gts/\QD (aW X own cap Qy cl C s H fp) c elt ge)
  (hk:Qy.kind=.function:=by rfl) (hno:fq X cap Qy=true:=by rfl) (hnames:(Qy.names.all λx=>!(x.2 == .local) || (Qy.names.lookup x.1 == some .local))=true:=by rfl)
  (hcl:(bE X.env.cells Qy.names []).isSome=true:=by rfl) (hcap:dB X cap=true:=by rfl) (hloc:dH X cap Qy=true:=by rfl) (hnd:fQ cap=true:=by rfl) (Ox:X.calm=true:=by rfl)
  (hs:∀x,Q_ QE X.env x=pure x:=by intro _;rfl) (hx:X.N[i]?=some x:=by rfl) (OG:X.env.scope.names.lookup x=some .local:=by rfl)
  (hsw:Uo (.ListComp elt [⟨QC,QE,ifs,0⟩] Qy pos) (some (.Name x pos')) pos2.line X.env=pure true:=by rfl):iD X c (.Assign [.Name x pos'] (.ListComp elt [⟨QC,QE,ifs,0⟩] Qy pos) pos2) (a_ i (bM own.length cap gi gt gts ge)):=
 ⟨FG i own cap hN hi.h (λcl C s H fp hc=>let ⟨a,b,d⟩:=hbody cl C s H fp hc;⟨a.h,b.h,d.h⟩) hk hno hnames hcl hcap hloc hnd Ox hs hx OG hsw⟩
end
end DL
namespace K23
open PySem DL
noncomputable def A3:List Str:=["world","many","marks","arrows"]
noncomputable def sH:G O:=(aL (lO (eW 3 (bI (aD 1) (bI (aD 2) (bI (aD 3) fC)))) (af 0))
 (bH (bJ (aA (gN cH (ao (bM 2 [] (fO (af 2)) (eW 2 (bI (aD 0) (bI (aD 1) fC))) cF (af 0)) aC)) (aA (gN cH (ao (bM 2 [] (fO (af 3)) (eW 2 (bI (aD 0) (bI (aD 1) fC))) cF (af 0)) aC)) aX)))))
noncomputable def iL (as:List S):M R:=fin (sH (aZ A3 as))
noncomputable def w5:List Str:=["one","other"]
noncomputable def oU:G O:=(b8 (bO (g2 (fN true) (gN (aK 1 K23.iL) (ao (af 0) aC)) (gN (aK 1 K23.iL) (ao (af 1) aC)))) wI dS)
noncomputable def iK (as:List S):M R:=fin (oU (aZ w5 as))
noncomputable def qH:List Str:=["worlds","world"]
noncomputable def kc:G O:=(gF (oO (af 0)) (aD 1) (b8 (bO (g2 (i8 λi j=>.bl (decide (j < i))) (g2 bg (af 1) (gC (.int 0))) (gC (.int 4)))) wI dS))
noncomputable def fX (as:List S):M R:=fin (kc (aZ qH as))
noncomputable def zl:List Str:=["one","other"]
noncomputable def qD:G O:=(aL (jo (gN (aK 2 K23.iK) (ao (af 0) (ao (af 1) aC))))
 (jo (gN (aK 1 K23.fX) (ao (bJ (aA (af 0) (aA (af 1) aX))) aC))))
noncomputable def dX (as:List S):M R:=fin (qD (aZ zl as))
noncomputable def Hu:List Str:=["pairs"]
noncomputable def Ao:G O:=(aL (b8 (bO (g2 (oM false) (af 0) (gC .non))) (bH (bJ aX)) dS)
 (bH (gN cH (ao (gN gj (ao (af 0) aC)) aC))))
noncomputable def gM (as:List S):M R:=fin (Ao (aZ Hu as))
noncomputable def Mb:List Str:=["world","one","other","many","marks","arrows","bearing","leading"]
noncomputable def GY:G O:=(aL (lO (eW 3 (bI (aD 3) (bI (aD 4) (bI (aD 5) fC)))) (af 0))
 (aL (a_ 6 (gN cH (ao (bM 2 [1] (fO (af 4)) (eW 2 (bI (aD 0) (bI (aD 1) fC))) cF (g2 (gT false) (af 2) (af 1))) aC)))
 (aL (a_ 7 (gN cH (ao (bM 2 [1,2] (fO (af 5)) (eW 2 (bI (aD 0) (bI (aD 1) fC))) cF (g2 (gT false) (bJ (aA (af 2) (aA (af 3) aX))) (af 1))) aC)))
 (bH (bJ (aA (g2 (fN false) (af 1) (af 2)) (aA (af 6) (aA (af 7) aX))))))))
noncomputable def wC (as:List S):M R:=fin (GY (aZ Mb as))
noncomputable def JH:List Str:=["world"]
noncomputable def Dt:G O:=(bH (jX 2 [0] (cj (ao (g2 bg (af 0) (gC (.int 0))) aC)) (aD 0) cF (cj (ao (g2 bg (af 2) (gC (.int 0))) aC)) (aD 1) cF (bJ (aA (af 0) (aA (af 1) aX))) (gN (aK 3 K23.wC) (ao (af 2) (ao (af 0) (ao (af 1) aC))))))
noncomputable def oz (as:List S):M R:=fin (Dt (aZ JH as))
noncomputable def JG:List Str:=["first","second","pair","again"]
noncomputable def Dr:G O:=(bH (g2 (fN false) (g2 gW (af 0) (bJ (aA (g2 bg (af 2) (gC (.int 0))) (aA (g2 bg (af 3) (gC (.int 0))) aX)))) (g2 gW (af 1) (bJ (aA (g2 bg (af 2) (gC (.int 1))) (aA (g2 bg (af 3) (gC (.int 1))) aX))))))
noncomputable def fk (as:List S):M R:=fin (Dr (aZ JG as))
noncomputable def wZ:List Str:=["first","second","pairing","pair","again"]
noncomputable def oR:G O:=(aL (b8 (jf (ur (af 2)) (bO (g2 xV (af 3) (g2 bg (af 2) (E2 (gC (.int 1))))))) (bH (gC (.bl false))) dS)
 (aL (gF (oO (af 2)) (aD 4) (b8 (sC (ir (bO (gN (aK 4 K23.fk) (ao (af 0) (ao (af 1) (ao (af 3) (ao (af 4) aC))))))) (ir (bO (gN (aK 4 K23.fk) (ao (af 0) (ao (af 1) (ao (af 4) (ao (af 3) aC)))))))) (bH (gC (.bl false))) dS))
 (bH (gC (.bl true)))))
noncomputable def iJ (as:List S):M R:=fin (oR (aZ wZ as))
noncomputable def Cz:List Str:=["one","other","most","first","second","pairs","longest","told","step"]
noncomputable def u_:G O:=(aL (jo (gN (aK 2 K23.dX) (ao (af 0) (ao (af 1) aC))))
 (aL (jo (gN (aK 3 K55.fH) (ao (af 2) (ao (gC (.int 0)) (ao (gC (.int 4)) aC)))))
 (aL (a_ 3 (gN (aK 1 K23.oz) (ao (af 0) aC)))
 (aL (a_ 4 (gN (aK 1 K23.oz) (ao (af 1) aC)))
 (aL (a_ 5 (jv 2 [1,3,4] (cj (ao (g2 bg (af 0) (gC (.int 0))) aC)) (aD 0) cF (cj (ao (g2 bg (af 2) (gC (.int 0))) aC)) (aD 1) (bO (gN (aK 4 K23.fk) (ao (af 3) (ao (af 4) (ao (bJ (aA (af 0) (aA (af 1) aX))) (ao (bJ (aA (af 0) (aA (af 1) aX))) aC)))))) (bJ (aA (af 0) (aA (af 1) aX)))))
 (aL (jD 5 (a_ 6 (fZ (aA (bJ aX) aX))))
 (aL (a_ 7 (fZ (aA (bJ aX) aX)))
 (aL (gF (cj (ao (af 2) aC)) (aD 8) (aL (jD 5 (a_ 6 (jv 2 [5,3,4] (fO (af 6)) (aD 0) cF (oO (af 2)) (aD 1) (bO (gN (aK 4 K23.iJ) (ao (af 3) (ao (af 4) (ao (af 0) (ao (af 1) aC)))))) (g2 cY (af 0) (bJ (aA (af 1) aX))))))
 (xY 7 (af 6))))
 (bH (af 7))))))))))
noncomputable def kO (as:List S):M R:=fin (u_ (aZ Cz as))
end K23
namespace K23
open PySem DL K01 WP K51 K52 K55
section
variable {α β:Type}
theorem GQ {gts:G Bool}{act:Ev->M (List D×Ev)}{h':β->D}{a0:Option S}{rest:Ev}(p:β->Bool) (f:β->D):∀(ys:List β),(∀y∈ys,gts (a0::some (.d (h' y))::rest)=.ok (p y)/\(p y=true->act (a0::some (.d (h' y))::rest)=.ok ([f y],a0::some (.d (h' y))::rest)))->
  ∀z:Option S,∃z',bV (aD 1) gts act (ys.map h') (a0::z::rest)=.ok ((ys.filter p).map f,a0::z'::rest)
 | [],_,z=>⟨z,rfl⟩
 | y::ys,H,z=>by
  obtain ⟨h1,h2⟩:=H y QW
  obtain ⟨z',ih⟩:=GQ p f ys (λy hy=>H y (QS _ hy)) (some (.d (h' y)))
  refine ⟨z',?_⟩
  rw [Ra]
  unfold bV
  show (gts (a0::some (.d (h' y))::rest) >>= λk=>if k=true then act (a0::some (.d (h' y))::rest) >>= λr=>bV (aD 1) gts act (ys.map h') r.2 >>= λz=>.ok (r.1++z.1,z.2) else bV (aD 1) gts act (ys.map h') (a0::some (.d (h' y))::rest))=_
  rw [h1,aN]
  cases q:p y with
  | true=>
   rw [if_pos rfl,h2 q,aN]
   show (bV (aD 1) gts act (ys.map h') (a0::some (.d (h' y))::rest) >>= _)=_
   rw [ih,aN,W4 q]
   rfl
  | false=>
   rw [if_neg (by decide),ih,W5 (by simp [q])]
theorem CY {gi1:G (List D)}{gts:G Bool}{act:Ev->M (List D×Ev)}{h:α->D}{h':β->D}{rest:Ev}(ys:α->List β) (p:α->β->Bool) (f:α->β->D):∀(xs:List α),(∀x∈xs,(ys x).length<=1000/\(∀z:Option S,gi1 (some (.d (h x))::z::rest)=.ok ((ys x).map h'))/\∀y∈ys x,gts (some (.d (h x))::some (.d (h' y))::rest)=.ok (p x y)/\(p x y=true->act (some (.d (h x))::some (.d (h' y))::rest)=.ok ([f x y],some (.d (h x))::some (.d (h' y))::rest)))->
  ∀z0 z:Option S,∃z0' z',bV (aD 0) cF (iP gi1 (aD 1) gts act) (xs.map h) (z0::z::rest)=.ok (xs.flatMap λx=>((ys x).filter (p x)).map (f x),z0'::z'::rest)
 | [],_,z0,z=>⟨z0,z,rfl⟩
 | x::xs,H,z0,z=>by
  obtain ⟨h1,h2,h3⟩:=H x QW
  obtain ⟨z1,e1⟩:=GQ (a0:=some (.d (h x))) (p x) (f x) (ys x) h3 z
  obtain ⟨z0',z',ih⟩:=CY ys p f xs (λy hy=>H y (QS _ hy)) (some (.d (h x))) z1
  refine ⟨z0',z',?_⟩
  rw [Ra]
  unfold bV
  show (iP gi1 (aD 1) gts act (some (.d (h x))::z::rest) >>= _)=_
  unfold iP
  rw [h2 z,aN,if_pos (by rw [QO];exact h1),e1,aN]
  show (bV (aD 0) cF (iP gi1 (aD 1) gts act) (xs.map h) (some (.d (h x))::z1::rest) >>= _)=_
  rw [ih]
  rfl
theorem wG {env:Ev}{cap:List Nat}{gi0 gi1:G (List D)}{gts:G Bool}{act:Ev->M (List D×Ev)}{fin:List D->M R}{h:α->D}{h':β->D}{xs:List α}(ys:α->List β) (p:α->β->Bool) (f:α->β->D) (hi:gi0 env=.ok (xs.map h)) (hl:xs.length<=10000)
  (H:∀x∈xs,(ys x).length<=1000/\(∀z:Option S,gi1 (some (.d (h x))::z::cE 0 cap env)=.ok ((ys x).map h'))/\∀y∈ys x,gts (some (.d (h x))::some (.d (h' y))::cE 0 cap env)=.ok (p x y)/\(p x y=true->act (some (.d (h x))::some (.d (h' y))::cE 0 cap env)=.ok ([f x y],some (.d (h x))::some (.d (h' y))::cE 0 cap env))):
  iS 10000 2 cap gi0 (aD 0) cF (iP gi1 (aD 1) gts act) fin env=fin (xs.flatMap λx=>((ys x).filter (p x)).map (f x)):=by
 unfold iS
 rw [hi,aN,if_pos (by rw [QO];exact hl)]
 obtain ⟨z0',z',e⟩:=CY ys p f xs H none none
 show (bV (aD 0) cF (iP gi1 (aD 1) gts act) (xs.map h) (none::none::cE 0 cap env) >>= _)=_
 rw [e]
 rfl
theorem zZ {ge:G R}{env:Ev}{r:R}{d:D}(h:ge env=.ok r) (h2:toD r=.ok d):gz ge env=.ok ([d],env):=by
 unfold gz
 rw [h,aN,h2]
 rfl
theorem t9 {gk gv:G R}{env:Ev}{r r2:R}{k d:D}(h:gk env=.ok r) (h2:toD r=.ok k) (h3:gv env=.ok r2) (h4:toD r2=.ok d) (ok:dg k=true):qL gk gv env=.ok ([.tup [k,d]],env):=by
 unfold qL
 rw [h,aN,h2,aN,h3,aN,h4,aN,if_pos ok]
end
noncomputable def eX (u:Wd) (a c:Nat):D:=.tup [.bl (bu (dN a) (dN c)),.tup (u.ms.map λr=>.bl (inD (dN a) (r.2.map dN))),.tup (u.ar.map λr=>.bl (inD (dP (a,c)) (r.2.map dP)))]
theorem JA (u:Wd) (hu:mw u) (a c:Nat):wC [.d u.d,.d (dN a),.d (dN c)]=.ok (.d (eX u a c)):=by
 have ml:=hu.ml
 have al:=hu.al
 refine cA (tG rfl rfl rfl ?_)
 refine br (n1 (kW (xs:=u.ms) (λr=>.str r.1) (λr=>.tup (r.2.map dN)) (λr=>.bl (inD (dN a) (r.2.map dN))) rfl (by omega) λr _=>⟨_,two rfl rfl (Nt a r.2),rfl⟩) rfl) rfl ?_
 refine br (n1 (kW (xs:=u.ar) (λr=>.str r.1) (λr=>.tup (r.2.map dP)) (λr=>.bl (inD (dP (a,c)) (r.2.map dP))) rfl (by omega) λr _=>⟨_,two (bD (aI rfl rfl (aI rfl rfl bx)) t2) rfl (Km (a,c) r.2),rfl⟩) rfl) rfl ?_
 exact bN (bD (aI rfl rfl (aI rfl rfl (aI rfl rfl bx))) (by show 3<=1000;decide)) rfl rfl
noncomputable def dQ (m n:Nat):List (Nat×Nat):=(QU m).flatMap λa=>(QU n).map λb=>(a,b)
theorem nI {m n:Nat}{p:Nat×Nat}:p∈dQ m n↔p.1 < m/\p.2 < n:=by
 unfold dQ
 simp only [VU,Ri,QT]
 constructor
 ·rintro ⟨a,ha,b,hb,rfl⟩;exact ⟨ha,hb⟩
 ·rintro ⟨h1,h2⟩;exact ⟨p.1,h1,p.2,h2,rfl⟩
theorem nJ (m n:Nat):(dQ m n).Nodup:=by
 unfold dQ
 refine XN.mpr ⟨λa _=>RP.mpr (VA (λh e=>h (by cases e;rfl)) (Tg (n:=n))),?_⟩
 refine VA ?_ (Tg (n:=m))
 intro a b hab p h1 q h2 e
 subst e
 obtain ⟨x,_,rfl⟩:=QT.mp h1
 obtain ⟨y,_,e⟩:=QT.mp h2
 cases e
 exact hab rfl
theorem Fe (m n:Nat):(dQ m n).length=m * n:=by
 induction m with
 | zero=>simp [dQ]
 | succ m ih=>
  unfold dQ at ih ⊢
  rw [We,List.flatMap_append,Rm,ih,ZZ]
  simp
theorem Ii {ks vs:List D}{k:D}(h:∀x∈ks,bu x k=false):gm ks vs k=none:=by
 induction ks generalizing vs with
 | nil=>cases vs <;> rfl
 | cons x ks ih=>
  cases vs with
  | nil=>rfl
  | cons v vs=>
   unfold gm
   rw [h x QW,if_neg (by decide)]
   exact ih λy hy=>h y (QS _ hy)
theorem uT (f:Nat×Nat->D):∀(n:Nat) (ps:List (Nat×Nat)),ps.length=n->ps.Nodup->iE (ps.map λp=>D.tup [dP p,f p])=(ps.map dP,ps.map f)
 | 0,ps,h,_=>by
  have:=Tr.mp h
  subst this
  rfl
 | n + 1,ps,h,nd=>by
  rcases TY ps with rfl | ⟨qs,p,rfl⟩
  ·cases h
  ·rw [TZ] at h nd ⊢
   have nd':=VC.mp nd
   have ih:=uT f n qs (by simpa using h) nd'.1
   have hn:gm (qs.map dP) (qs.map f) (dP p)=none:=Ii λx hx=>by
    obtain ⟨q,hq,rfl⟩:=QT.mp hx
    rw [uU,decide_eq_false_iff_not]
    rintro rfl
    exact nd'.2.2 q hq q QW rfl
   rw [Ro,YK,nv,ih]
   unfold dput
   rw [hn]
   simp
noncomputable abbrev gU (u:Wd):List D:=(dQ u.m u.m).map dP
noncomputable abbrev gV (u:Wd):List D:=(dQ u.m u.m).map λp=>eX u p.1 p.2
theorem zS (u:Wd) (hu:mw u):oz [.d u.d]=.ok (.d (.dct (gU u) (gV u))):=by
 have hi:=hu.hi
 refine cA (bN (r:=.d (.dct (gU u) (gV u))) ?_ rfl rfl)
 refine (wG (xs:=QU u.m) (h:=dN) (h':=dN) (λ_=>QU u.m) (λ_ _=>true) (λa b=>.tup [dP (a,b),eX u a b]) ?_ (by simp;omega) λa _=>⟨by simp;omega,λz=>?_,λb _=>⟨rfl,λ_=>t9 (bD (aI rfl rfl (aI rfl rfl bx)) t2) rfl (c3 rfl rfl rfl (JA u hu a b)) rfl rfl⟩⟩).trans ?_
 ·exact iB (cS (two rfl rfl (gy _ _))) (by omega)
 ·exact iB (cS (two rfl rfl (gy _ _))) (by omega)
 ·have ef:(QU u.m).filter (λ_=>true)=QU u.m:=Wi.mpr λ_ _=>rfl
  have e:((QU u.m).flatMap λa=>((QU u.m).filter λ_=>true).map λb=>D.tup [dP (a,b),eX u a b])=(dQ u.m u.m).map λp=>D.tup [dP p,eX u p.1 p.2]:=by
   rw [ef]
   unfold dQ
   rw [VV]
   simp [Rv,WU]
  rw [e]
  have h:=uT (λp=>eX u p.1 p.2) _ (dQ u.m u.m) rfl (nJ _ _)
  show M.ok (R.d (.dct (iE ((dQ u.m u.m).map λp=>D.tup [dP p,eX u p.1 p.2])).1 (iE ((dQ u.m u.m).map λp=>D.tup [dP p,eX u p.1 p.2])).2))=_
  rw [h]
theorem Ax (u:Wd):∀(ps:List (Nat×Nat)) (p:Nat×Nat),p∈ps->gm (ps.map dP) (ps.map λp=>eX u p.1 p.2) (dP p)=some (eX u p.1 p.2)
 | q::ps,p,h=>by
  rw [Ra,Ra]
  unfold gm
  by_cases c:q=p
  ·subst c
   rw [if_pos (by rw [uU];simp)]
  ·rw [if_neg (by rw [uU];simpa using c)]
   rcases Rc.mp h with e | e
   ·exact absurd e.symm c
   ·exact Ax u ps p e
theorem xP (u:Wd) (a c:Nat) (ha:a < u.m) (hc:c < u.m):gW (.d (.dct (gU u) (gV u))) (.d (dP (a,c)))=.ok (.d (eX u a c)):=by
 show (if dg (dP (a,c))=true then (match gm (gU u) (gV u) (dP (a,c)) with
  | some d=>M.ok (R.d d)
  | none=>.bad) else .bad)=_
 rw [if_pos (show dg (dP (a,c))=true from rfl),Ax u (dQ u.m u.m) (a,c) (nI.mpr ⟨ha,hc⟩)]
theorem zc (u:Wd) (a c:Nat):dep (eX u a c)<=60:=by
 have h1:deps (u.ms.map λr=>D.bl (inD (dN a) (r.2.map dN)))<=0:=fL λx hx=>by obtain ⟨r,_,rfl⟩:=QT.mp hx;exact RA _
 have h2:deps (u.ar.map λr=>D.bl (inD (dP (a,c)) (r.2.map dP)))<=0:=fL λx hx=>by obtain ⟨r,_,rfl⟩:=QT.mp hx;exact RA _
 unfold eX
 simp only [dep,deps]
 omega
noncomputable def i7 (v w:Wd) (p q:Nat×Nat):Bool:=bu (eX v p.1 q.1) (eX w p.2 q.2)
noncomputable def qp (v w:Wd) (p:Nat×Nat):Prop:=p.1 < v.m/\p.2 < w.m
theorem tV (v w:Wd) (p q:Nat×Nat) (hp:qp v w p) (hq:qp v w q):fk [.d (.dct (gU v) (gV v)),.d (.dct (gU w) (gV w)),.d (dP p),.d (dP q)]=.ok (.d (.bl (i7 v w p q))):=by
 refine cA (bN (two (x:=.d (eX v p.1 q.1)) (y:=.d (eX w p.2 q.2)) (two rfl (bD (aI (two rfl rfl (gy _ _)) rfl (aI (two rfl rfl (gy _ _)) rfl bx)) t2) (xP v p.1 q.1 hp.1 hq.1)) (two rfl (bD (aI (two rfl rfl (Kv _ _ _)) rfl (aI (two rfl rfl (Kv _ _ _)) rfl bx)) t2) (xP w p.2 q.2 hp.2 hq.2)) (Bp _ _ _ (zc v p.1 q.1) (zc w p.2 q.2))) rfl rfl)
noncomputable def qF (p q:Nat×Nat):Bool:=lexLe [p.1,p.2] [q.1,q.2]
theorem Ob (p q:Nat×Nat):xV (.d (dP p)) (.d (dP q))=.ok (.d (.bl (qF p q))):=rfl
noncomputable def gb (v w:Wd) (ps:List (Nat×Nat)) (q:Nat×Nat):Bool:=(match ps.getLast? with
 | some l=>!qF q l
 | none=>true) && ps.all λr=>i7 v w q r && i7 v w r q
theorem uL {env:Ev}{g:G R}{b:Bool}(h:g env=.ok (.d (.bl b))):bO g env=.ok b:=by
 show (g env >>= _)=_
 rw [h]
 rfl
theorem rq {env:Ev}{g:G R}{b:Bool}(h:g env=.ok (j6 (.d (.bl b)))):bO g env=.ok b:=uL h
theorem eT {env:Ev}{f:R->R->M R}{g h:G R}{x y:R}{b:Bool}(hx:g env=.ok x) (hy:h env=.ok y) (hf:f x y=.ok (.d (.bl b))):bO (g2 f g h) env=.ok b:=uL (two hx hy hf)
theorem p5 {env:Ev}{g:G Bool}{b:Bool}(h:g env=.ok b):ir g env=.ok (!b):=by
 show (g env >>= _)=_
 rw [h]
 rfl
theorem xo {env:Ev}{a b:G Bool}(h:a env=.ok false):jf a b env=.ok false:=by
 unfold jf
 rw [h]
 rfl
theorem t_ {env:Ev}{a b:G Bool}{k:Bool}(h:a env=.ok true) (h2:b env=.ok k):jf a b env=.ok k:=by
 unfold jf
 rw [h]
 exact h2
theorem K4 {env:Ev}{a b:G Bool}{x y:Bool}(h:a env=.ok (!x)) (h2:b env=.ok (!y)):sC a b env=.ok (!(x && y)):=by
 unfold sC
 rw [h]
 cases x with
 | true=>exact h2
 | false=>rfl
theorem Nc (v w:Wd) (ps:List (Nat×Nat)) (q:Nat×Nat) (hp:∀p∈ps,qp v w p) (hq:qp v w q):iJ [.d (.dct (gU v) (gV v)),.d (.dct (gU w) (gV w)),.d (.tup (ps.map dP)),.d (dP q)]=.ok (.d (.bl (gb v w ps q))):=by
 have loop:(match ps.getLast? with
   | some l=>!qF q l
   | none=>true)=true->Wp (aL (gF (oO (af 2)) (aD 4) (b8 (sC (ir (bO (gN (aK 4 K23.fk) (ao (af 0) (ao (af 1) (ao (af 3) (ao (af 4) aC))))))) (ir (bO (gN (aK 4 K23.fk) (ao (af 0) (ao (af 1) (ao (af 4) (ao (af 3) aC)))))))) (bH (gC (.bl false))) dS))
 (bH (gC (.bl true))) [some (.d (.dct (gU v) (gV v))),some (.d (.dct (gU w) (gV w))),some (.d (.tup (ps.map dP))),some (.d (dP q)),none]) (·=.rt (.d (.bl (gb v w ps q)))):=by
  intro hl
  refine jq (ds:=ps.map dP) rfl ?_
  have key:∀(rs:List (Nat×Nat)),(∀p∈rs,qp v w p)->∀x:Option S,Wp (gf (aD 4) (b8 (sC (ir (bO (gN (aK 4 K23.fk) (ao (af 0) (ao (af 1) (ao (af 3) (ao (af 4) aC))))))) (ir (bO (gN (aK 4 K23.fk) (ao (af 0) (ao (af 1) (ao (af 4) (ao (af 3) aC)))))))) (bH (gC (.bl false))) dS) (rs.map dP) [some (.d (.dct (gU v) (gV v))),some (.d (.dct (gU w) (gV w))),some (.d (.tup (ps.map dP))),some (.d (dP q)),x])
    (λo=>((∃e,o=.nx e)/\(rs.all λr=>i7 v w q r && i7 v w r q)=true)\/(o=.rt (.d (.bl false))/\(rs.all λr=>i7 v w q r && i7 v w r q)=false)):=by
   intro rs
   induction rs with
   | nil=>intro _ x;exact ⟨_,rfl,.inl ⟨⟨_,rfl⟩,rfl⟩⟩
   | cons r rs ih=>
    intro hr x
    have h1:=tV v w q r hq (hr r QW)
    have h2:=tV v w r q (hr r QW) hq
    have ht:(sC (ir (bO (gN (aK 4 K23.fk) (ao (af 0) (ao (af 1) (ao (af 3) (ao (af 4) aC))))))) (ir (bO (gN (aK 4 K23.fk) (ao (af 0) (ao (af 1) (ao (af 4) (ao (af 3) aC)))))))) [some (.d (.dct (gU v) (gV v))),some (.d (.dct (gU w) (gV w))),some (.d (.tup (ps.map dP))),some (.d (dP q)),some (.d (dP r))]=.ok (!(i7 v w q r && i7 v w r q)):=K4 (p5 (rq (c4 rfl rfl rfl rfl h1))) (p5 (rq (c4 rfl rfl rfl rfl h2)))
    rw [Ra,UI]
    unfold gf
    show Wp ((b8 _ _ _ [some (.d (.dct (gU v) (gV v))),some (.d (.dct (gU w) (gV w))),some (.d (.tup (ps.map dP))),some (.d (dP q)),some (.d (dP r))]) >>= _) _
    cases hc:(i7 v w q r && i7 v w r q) with
    | true=>
     rw [hc] at ht
     rw [sL ht]
     exact ih (λp hp=>hr p (QS _ hp)) _
    | false=>
     rw [hc] at ht
     rw [uw ht]
     exact ⟨_,rfl,.inr ⟨rfl,rfl⟩⟩
  refine (key ps hp none).mono ?_
  rintro o (⟨⟨e,rfl⟩,h⟩ | ⟨rfl,h⟩)
  ·refine bN rfl rfl ?_
   unfold gb
   rw [hl,h]
   rfl
  ·show O.rt _=_
   unfold gb
   rw [h,Uw]
 refine cA ?_
 cases q':ps.getLast? with
 | none=>
  have:ps=[]:=Wz.mp q'
  subst this
  exact dW (xo rfl) (loop rfl)
 | some l=>
  obtain ⟨rs,rfl⟩:∃rs,ps=rs++[l]:=by
   rcases TY ps with rfl | ⟨ys,y,rfl⟩
   ·cases q'
   ·rw [TZ] at q' ⊢
    rw [X5] at q'
    cases q'
    exact ⟨ys,rfl⟩
  have hix:bg (.d (.tup ((rs++[l]).map dP))) (.d (.int (-1)))=.ok (.d (dP l)):=by rw [Ro];exact HZ _ _
  have ht:jf (ur (af 2)) (bO (g2 xV (af 3) (g2 bg (af 2) (E2 (gC (.int 1)))))) [some (.d (.dct (gU v) (gV v))),some (.d (.dct (gU w) (gV w))),some (.d (.tup ((rs++[l]).map dP))),some (.d (dP q)),none]=.ok (qF q l):=by
   refine t_ ?_ (uL (two rfl (two rfl rfl hix) (Ob q l)))
   show M.ok (!((rs++[l]).map dP).isEmpty)=_
   simp
  cases hc:qF q l with
  | true=>
   rw [hc] at ht
   refine cC (ia ht (bN rfl rfl ?_))
   show O.rt _=_
   unfold gb
   rw [q']
   simp [hc]
  | false=>
   rw [hc] at ht
   exact dW ht (loop (by rw [q'];simp [hc]))
section
variable {env:Ev}{Q:O->Prop}{g:G R}{t:G O}{r:R}{i:Nat}
theorem Mm {xs ys:List D}(h0:env[i]?=some (some (.own xs))) (h:g env=.ok r) (h2:g8 r=.ok ys) (hl:xs.length + ys.length<=16777216) (k:Q (.nx (env.set i (some (.own (xs++ys)))))):Wp (xY i g env) Q:=by
 refine ⟨_,?_,k⟩
 unfold xY
 rw [h0]
 show (g env >>= _)=_
 rw [h,aN,h2,aN,if_pos (by rw [RS];exact hl)]
theorem KP (h:g env=.ok r) (k:Q (.nx env)):Wp (jo g env) Q:=⟨.nx env,by show (g env >>= _)=_;rw [h];rfl,k⟩
theorem L4 {d:D}(h:env[i]?=some (some (.d d))) (k:Wp (t env) Q):Wp (jD i t env) Q:=by
 have:jD i t env=t env:=by unfold jD;rw [h]
 rw [this];exact k
end
structure Pr (v w:Wd):Prop where
 vo:mw v
 wo:mw w
 v4:v.m<=4
 w4:w.m<=4
 mn:v.ms.map Sk=w.ms.map Sk
 an:v.ar.map Sk=w.ar.map Sk
noncomputable def jl (u:Wd):D:=.tup [.tup ((u.ms.map Sk).map .str),.tup ((u.ar.map Sk).map .str)]
theorem wV (u:Wd) (hu:mw u):iL [.d u.d]=.ok (.d (jl u)):=by
 have ml:=hu.ml
 have al:=hu.al
 refine cA (tG rfl rfl rfl (bN (bD (aI (n1 (kW (xs:=u.ms) (λr=>.str r.1) (λr=>.tup (r.2.map dN)) (λr=>.str r.1) rfl (by omega) λr _=>⟨_,rfl,rfl⟩) rfl) rfl (aI (n1 (kW (xs:=u.ar) (λr=>.str r.1) (λr=>.tup (r.2.map dP)) (λr=>.str r.1) rfl (by omega) λr _=>⟨_,rfl,rfl⟩) rfl) rfl bx)) t2) rfl ?_))
 unfold jl
 rw [Rv,Rv]
 rfl
theorem AO (u:Wd):dep (jl u)<=60:=by
 have h:∀ss:List Str,deps (ss.map D.str)<=0:=λss=>fL λx hx=>by obtain ⟨r,_,rfl⟩:=QT.mp hx;exact RA _
 have h1:=h (u.ms.map Sk)
 have h2:=h (u.ar.map Sk)
 unfold jl
 simp only [dep,deps]
 omega
theorem tW {v w:Wd}(t:Pr v w):dX [.d v.d,.d w.d]=.ok (.d .non):=by
 have ht:iK [.d v.d,.d w.d]=.ok (.d .non):=by
  refine pP (uy (eT (b:=false) (c1 rfl (wV v t.vo)) (c1 rfl (wV w t.wo)) ?_) (lQ ⟨_,rfl⟩))
  show fN true (.d (jl v)) (.d (jl w))=_
  rw [Bp true (.d (jl v)) (.d (jl w)) (AO v) (AO w)]
  have e:jl v=jl w:=by unfold jl;rw [t.mn,t.an]
  show M.ok (R.d (.bl (!bu (jl v) (jl w))))=_
  rw [e,gD]
  rfl
 have hf:fX [.d (.tup [v.d,w.d])]=.ok (.d .non):=by
  have v4:=t.v4
  have w4:=t.w4
  have one:∀(u:Wd),u.m<=4->bO (g2 (i8 λi j=>.bl (decide (j < i))) (g2 bg (af 1) (gC (.int 0))) (gC (.int 4))) [some (.d (.tup [v.d,w.d])),some (.d u.d)]=.ok false:=λu hu=>by
   refine eT (two rfl rfl (gy _ _)) rfl ?_
   show M.ok (R.d (.bl (decide ((4:Int) < (u.m:Int)))))=_
   rw [decide_eq_false (by omega)]
  refine pP (BG (ds:=[v.d,w.d]) rfl (zd (λk env=>∃x,env=[some (.d (.tup [v.d,w.d])),x]) [v.d,w.d] ⟨none,rfl⟩ ?_ λe _=>⟨e,rfl⟩))
  rintro k hk _ ⟨x,rfl⟩
  match k,hk with
  | 0,_=>exact ⟨_,rfl,uy (one v v4) (lQ ⟨_,rfl,_,rfl⟩)⟩
  | 1,_=>exact ⟨_,rfl,uy (one w w4) (lQ ⟨_,rfl,_,rfl⟩)⟩
 refine pP (jU (c2 rfl rfl ht) ?_)
 exact KP (c1 (bD (aI rfl rfl (aI rfl rfl bx)) t2) hf) ⟨_,rfl⟩
theorem L5 (d:Nat) (hd:d<=4):K55.fH [.d (.int d),.d (.int 0),.d (.int 4)]=.ok (.d .non):=by
 refine pP (uy ?_ (lQ ⟨_,rfl⟩))
 show (if decide ((d:Int) < 0)=true then M.ok true else M.ok (decide ((4:Int) < d)))=M.ok false
 rw [decide_eq_false (show ¬(d:Int) < 0 by omega),decide_eq_false (show ¬(4:Int) < d by omega)]
 rfl
noncomputable def prs (v w:Wd):List (Nat×Nat):=(dQ v.m w.m).filter λp=>i7 v w p p
noncomputable def LG (v w:Wd):Nat->List (List (Nat×Nat))
 | 0=>[[]]
 | j + 1=>(LG v w j).flatMap λah=>((prs v w).filter (gb v w ah)).map λq=>ah++[q]
noncomputable def told (v w:Wd):Nat->List (List (Nat×Nat))
 | 0=>[[]]
 | j + 1=>told v w j++LG v w (j + 1)
noncomputable abbrev aS (ps:List (Nat×Nat)):D:=.tup (ps.map dP)
theorem D4 {v w:Wd}{p:Nat×Nat}(h:p∈prs v w):qp v w p:=nI.mp (RI.mp h).1
theorem qa {v w:Wd}(t:Pr v w):(prs v w).length<=16:=by
 have h1:=Sf (λp=>i7 v w p p) (dQ v.m w.m)
 rw [Fe] at h1
 have h2:=VE t.v4 t.w4
 unfold prs
 omega
theorem rG {v w:Wd}:∀(j:Nat){ps:List (Nat×Nat)},ps∈LG v w j->ps.length=j/\∀p∈ps,qp v w p
 | 0,ps,h=>by
  rw [show ps=[] from Q9.mp h]
  exact ⟨rfl,λ_ h=>by cases h⟩
 | j + 1,ps,h=>by
  obtain ⟨ah,h1,h2⟩:=VU.mp h
  obtain ⟨q,h3,rfl⟩:=QT.mp h2
  obtain ⟨l,k⟩:=rG j h1
  refine ⟨by rw [Rm,l];rfl,λp hp=>?_⟩
  rcases Rx.mp hp with h | h
  ·exact k p h
  ·rw [Q9.mp h];exact D4 (RI.mp h3).1
theorem xX {α β:Type}(f:α->List β) (n:Nat):∀(xs:List α),(∀x∈xs,(f x).length<=n)->(xs.flatMap f).length<=xs.length * n
 | [],_=>by simp
 | x::xs,h=>by
  have h1:=h x QW
  have h2:=xX f n xs λy hy=>h y (QS _ hy)
  rw [List.flatMap_cons,Rm,Sh,ZZ]
  omega
theorem rH {v w:Wd}(t:Pr v w):∀j,(LG v w j).length<=16 ^ j
 | 0=>QY _
 | j + 1=>by
  have h:=xX (λah=>((prs v w).filter (gb v w ah)).map λq=>ah++[q]) 16 (LG v w j) λah _=>by
   rw [QO]
   exact RE (Sf _ _) (qa t)
  have h2:=US 16 (rH t j)
  rw [Zm]
  exact RE h h2
theorem q_ {v w:Wd}(t:Pr v w):∀j,j<=4->(told v w j).length<=(j + 1) * 65536
 | 0,_=>by show 1<=_;omega
 | j + 1,h=>by
  have h1:=q_ t j (by omega)
  have h2:=rH t (j + 1)
  have h3:(16:Nat) ^ (j + 1)<=16 ^ 4:=UR (by decide) h
  have h4:(16:Nat) ^ 4=65536:=by decide
  show (told v w j++LG v w (j + 1)).length<=_
  rw [Rm]
  omega
theorem uK {v w:Wd}:∀(n:Nat){ps:List (Nat×Nat)},ps∈told v w n↔∃j,j<=n/\ps∈LG v w j
 | 0,ps=>by
  constructor
  ·exact λh=>⟨0,QY _,h⟩
  ·rintro ⟨j,hj,h⟩
   have:j=0:=by omega
   subst this
   exact h
 | n + 1,ps=>by
  show ps∈told v w n++LG v w (n + 1)↔_
  rw [Rx,uK n]
  constructor
  ·rintro (⟨j,hj,h⟩ | h)
   ·exact ⟨j,by omega,h⟩
   ·exact ⟨n + 1,QY _,h⟩
  ·rintro ⟨j,hj,h⟩
   by_cases c:j=n + 1
   ·subst c;exact .inr h
   ·exact .inl ⟨j,by omega,h⟩
theorem AX {v w:Wd}(t:Pr v w) (n:Nat) (hn:n<=4):kO [.d v.d,.d w.d,.d (.int n)]=.ok (.l .fresh ((told v w n).map aS)):=by
 have v4:=t.v4
 have w4:=t.w4
 refine cA (jU (c2 rfl rfl (tW t)) (jU (c3 rfl rfl rfl (L5 n hn)) (br (c1 rfl (zS v t.vo)) rfl (br (c1 rfl (zS w t.wo)) rfl ?_))))
 have hp:jv 2 [1,3,4] (cj (ao (g2 bg (af 0) (gC (.int 0))) aC)) (aD 0) cF (cj (ao (g2 bg (af 2) (gC (.int 0))) aC)) (aD 1) (bO (gN (aK 4 K23.fk) (ao (af 3) (ao (af 4) (ao (bJ (aA (af 0) (aA (af 1) aX))) (ao (bJ (aA (af 0) (aA (af 1) aX))) aC)))))) (bJ (aA (af 0) (aA (af 1) aX)))
   [some (.d v.d),some (.d w.d),some (.d (.int n)),some (.d (.dct (gU v) (gV v))),some (.d (.dct (gU w) (gV w))),none,none,none,none]=.ok (.l .fresh ((prs v w).map dP)):=by
  refine (wG (xs:=QU v.m) (h:=dN) (h':=dN) (λ_=>QU w.m) (λa b=>i7 v w (a,b) (a,b)) (λa b=>dP (a,b)) (iB (cS (two rfl rfl (gy _ _))) (by omega)) (by simp;omega) λa ha=>⟨by simp;omega,λz=>iB (cS (two rfl rfl (gy _ _))) (by omega),λb hb=>⟨?_,λ_=>zZ (bD (aI rfl rfl (aI rfl rfl bx)) t2) rfl⟩⟩).trans ?_
  ·have ha:a < v.m:=by simpa using ha
   have hb:b < w.m:=by simpa using hb
   exact rq (c4 rfl rfl (bD (aI rfl rfl (aI rfl rfl bx)) t2) (bD (aI rfl rfl (aI rfl rfl bx)) t2) (tV v w (a,b) (a,b) ⟨ha,hb⟩ ⟨ha,hb⟩))
  ·have e:((QU v.m).flatMap λa=>((QU w.m).filter λb=>i7 v w (a,b) (a,b)).map λb=>dP (a,b))=(prs v w).map dP:=by
    unfold prs dQ
    rw [List.filter_flatMap,VV]
    congr 1
    funext a
    rw [Z2,Rv]
    rfl
   rw [e]
 refine br hp rfl ?_
 refine cC (Co rfl (f_ (mP (aI (bD bx (by decide)) rfl bx) (by show 1<=1000;decide)) rfl ?_))
 refine br (mP (aI (bD bx (by decide)) rfl bx) (by show 1<=1000;decide)) rfl ?_
 refine jq (nP (n:=n) rfl (by omega)) ?_
 refine lJ (λk env=>∃x:Option S,env=[some (.d v.d),some (.d w.d),some (.d (.int n)),some (.d (.dct (gU v) (gV v))),some (.d (.dct (gU w) (gV w))),some (.d (.lst ((prs v w).map dP))),some (.own ((LG v w k).map aS)),some (.own ((told v w k).map aS)),x]) ⟨none,rfl⟩ ?_ ?_
 ·rintro k hk _ ⟨x,rfl⟩
  have l1:=rH t k
  have l2:=rH t (k + 1)
  have l3:=q_ t k (by omega)
  have p1:(16:Nat) ^ k<=16 ^ 3:=UR (by decide) (by omega)
  have p2:(16:Nat) ^ (k + 1)<=16 ^ 4:=UR (by decide) (by omega)
  have p3:(16:Nat) ^ 3=4096:=by decide
  have p4:(16:Nat) ^ 4=65536:=by decide
  refine ⟨_,rfl,cC (L4 rfl (f_ (r:=.l .fresh ((LG v w (k + 1)).map aS)) ?_ rfl (Mm rfl rfl rfl (by simp only [QO];omega) ⟨_,rfl,some (.d (.int k)),?_⟩)))⟩
  ·refine (wG (xs:=LG v w k) (h:=aS) (h':=dP) (λ_=>prs v w) (λah q=>gb v w ah q) (λah q=>aS (ah++[q])) rfl (by omega) λah P1=>⟨by have:=qa t;omega,λz=>rfl,λq hq=>⟨?_,λ_=>zZ (two rfl (bD (aI rfl rfl bx) (by show 1<=1000;decide)) (qh _ _ ?_)) ?_⟩⟩).trans ?_
   ·exact rq (c4 rfl rfl rfl rfl (Nc v w ah q (rG k P1).2 (D4 hq)))
   ·have:=(rG k P1).1
    simp;omega
   ·show M.ok (D.tup (ah.map dP++[dP q]))=M.ok (D.tup ((ah++[q]).map dP))
    rw [Ro]
    rfl
   ·show M.ok (R.l .fresh _)=_
    show _=M.ok (R.l .fresh (((LG v w k).flatMap λah=>((prs v w).filter (gb v w ah)).map λq=>ah++[q]).map aS))
    rw [VV]
    simp only [Rv]
    rfl
  ·show _=[_,_,_,_,_,_,_,some (S.own ((told v w k++LG v w (k + 1)).map aS)),_]
   rw [Ro]
   rfl
 ·rintro _ ⟨x,rfl⟩
  exact bN rfl rfl rfl
theorem allM {α:Type}(f:α->Bool) (xs:List α):qN [.l .fresh (xs.map λx=>.bl (f x))]=.ok (.d (.bl (xs.all f))):=by
 have:=all_map (λd=>match d with
  | .bl b=>b
  | _=>false) (xs.map λx=>.bl (f x))
 rw [Rv,Xz] at this
 exact this
theorem xS:∀{xs ys:List Bool},cu (xs.map D.bl) (ys.map D.bl)=true↔xs=ys
 | [],[]=>by simp [cu]
 | [],_::_=>by simp [cu]
 | _::_,[]=>by simp [cu]
 | x::xs,y::ys=>by
  rw [Ra,Ra,gP,QX,xS]
  simp [bu]
structure zQ (v w:Wd) (p q:Nat×Nat):Prop where
 eq:p.1=q.1↔p.2=q.2
 ms:v.ms.map (λr=>decide (p.1∈r.2))=w.ms.map λr=>decide (p.2∈r.2)
 ar:v.ar.map (λr=>decide ((p.1,q.1)∈r.2))=w.ar.map λr=>decide ((p.2,q.2)∈r.2)
theorem mz (v w:Wd) (p q:Nat×Nat):i7 v w p q=true↔zQ v w p q:=by
 have e:i7 v w p q=((p.1 == q.1) == (p.2 == q.2) && (cu ((v.ms.map λr=>decide (p.1∈r.2)).map D.bl) ((w.ms.map λr=>decide (p.2∈r.2)).map D.bl) && (cu ((v.ar.map λr=>decide ((p.1,q.1)∈r.2)).map D.bl) ((w.ar.map λr=>decide ((p.2,q.2)∈r.2)).map D.bl) && true))):=by
  unfold i7 eX
  rw [jV,gP,gP,gP,jV,jV,cu]
  simp only [K55.inN,K55.M6,Rv,K55.xR]
  rfl
 rw [e,QX,QX,QX,xS,xS]
 have e1:((p.1 == q.1) == (p.2 == q.2))=true↔(p.1=q.1↔p.2=q.2):=by
  rw [beq_iff_eq,R5,beq_iff_eq,beq_iff_eq]
 rw [e1]
 exact ⟨λ⟨a,b,c,_⟩=>⟨a,b,c⟩,λ⟨a,b,c⟩=>⟨a,b,c,rfl⟩⟩
theorem KR {p q:Nat×Nat}(h:qF p q=false):q.1 < p.1\/(q.1=p.1/\q.2 < p.2):=by
 unfold qF at h
 rw [jM] at h
 by_cases c:(p.1:Int)=q.1
 ·rw [if_pos c,jM] at h
  by_cases c2:(p.2:Int)=q.2
  ·rw [if_pos c2,oh] at h;cases h
  ·rw [if_neg c2,decide_eq_false_iff_not] at h
   exact .inr ⟨by omega,by omega⟩
 ·rw [if_neg c,decide_eq_false_iff_not] at h
  exact .inl (by omega)
theorem KQ {p q:Nat×Nat}(h:q.1 < p.1):qF p q=false:=by
 unfold qF
 rw [jM,if_neg (by omega),decide_eq_false_iff_not]
 omega
structure Good (v w:Wd) (ps:List (Nat×Nat)):Prop where
 up:ps.Pairwise λp q=>p.1 < q.1
 ag:∀p∈ps,∀q∈ps,zQ v w p q
 rg:∀p∈ps,qp v w p
theorem uz {α:Type}{ps:List α}{l:α}(h:ps.getLast?=some l):∃rs,ps=rs++[l]:=by
 rcases TY ps with rfl | ⟨ys,y,rfl⟩
 ·cases h
 ·rw [TZ] at h ⊢
  rw [X5] at h
  cases h
  exact ⟨ys,rfl⟩
theorem Ay {v w:Wd}{p:Nat×Nat}:p∈prs v w↔qp v w p/\zQ v w p p:=by
 unfold prs
 rw [RI,nI,mz]
 exact abV
theorem Ds {v w:Wd}{ps:List (Nat×Nat)}(g:Good v w ps){q:Nat×Nat}(hq:q∈prs v w):gb v w ps q=true↔Good v w (ps++[q]):=by
 obtain ⟨h1,h2⟩:=Ay.mp hq
 unfold gb
 rw [QX,RJ]
 constructor
 ·rintro ⟨a,b⟩
  have ag:∀r∈ps,zQ v w q r/\zQ v w r q:=λr hr=>by
   have:=b r hr
   rw [QX,mz,mz] at this
   exact this
  have lt:∀r∈ps,r.1 < q.1:=by
   cases e:ps.getLast? with
   | none=>rw [Wz.mp e];exact λ_ h=>by cases h
   | some l=>
    rw [e] at a
    have hl:l.1 < q.1:=by
     obtain ⟨rs,rfl⟩:=uz e
     rcases KR (by simpa using a) with h | ⟨h,h'⟩
     ·exact h
     ·have:=(ag l (by simp)).1.eq
      omega
    obtain ⟨rs,rfl⟩:=uz e
    intro r hr
    rcases Rx.mp hr with h | h
    ·have:=(T_.mp g.up).2.2 r h l (by simp)
     omega
    ·rw [Q9.mp h];exact hl
  refine ⟨T_.mpr ⟨g.up,Ul _ _,λr hr x hx=>by rw [Q9.mp hx];exact lt r hr⟩,λr hr x hx=>?_,λr hr=>?_⟩
  ·rcases Rx.mp hr with hr | hr <;> rcases Rx.mp hx with hx | hx
   ·exact g.ag r hr x hx
   ·rw [Q9.mp hx];exact (ag r hr).2
   ·rw [Q9.mp hr];exact (ag x hx).1
   ·rw [Q9.mp hr,Q9.mp hx];exact h2
  ·rcases Rx.mp hr with hr | hr
   ·exact g.rg r hr
   ·rw [Q9.mp hr];exact h1
 ·intro h
  refine ⟨?_,λr hr=>?_⟩
  ·cases e:ps.getLast? with
   | none=>rfl
   | some l=>
    have hl:l∈ps:=by obtain ⟨rs,rfl⟩:=uz e;simp
    have:=(T_.mp h.up).2.2 l hl q (by simp)
    show (!qF q l)=true
    rw [KQ this]
    rfl
  ·rw [QX,mz,mz]
   exact ⟨h.ag q (by simp) r (by simp [hr]),h.ag r (by simp [hr]) q (by simp)⟩
theorem sS {v w:Wd}:∀(j:Nat){ps:List (Nat×Nat)},ps∈LG v w j↔ps.length=j/\Good v w ps
 | 0,ps=>by
  constructor
  ·intro h
   rw [show ps=[] from Q9.mp h]
   exact ⟨rfl,.nil,(λ_ h=>nomatch h),(λ_ h=>nomatch h)⟩
  ·rintro ⟨h,_⟩
   rw [Tr.mp h]
   exact Q9.mpr rfl
 | j + 1,ps=>by
  constructor
  ·intro h
   obtain ⟨ah,h1,h2⟩:=VU.mp h
   obtain ⟨q,h3,rfl⟩:=QT.mp h2
   obtain ⟨l,g⟩:=(sS j).mp h1
   obtain ⟨h4,h5⟩:=RI.mp h3
   exact ⟨by rw [Rm,l];rfl,(Ds g h4).mp h5⟩
  ·rintro ⟨h,g⟩
   rcases TY ps with rfl | ⟨ah,q,rfl⟩
   ·cases h
   ·rw [TZ] at h g ⊢
    have ga:Good v w ah:=⟨(T_.mp g.up).1,λp hp x hx=>g.ag p (by simp [hp]) x (by simp [hx]),λp hp=>g.rg p (by simp [hp])⟩
    have hq:q∈prs v w:=Ay.mpr ⟨g.rg q (by simp),g.ag q (by simp) q (by simp)⟩
    exact VU.mpr ⟨ah,(sS j).mpr ⟨by simpa using h,ga⟩,QT.mpr ⟨q,RI.mpr ⟨hq,(Ds ga hq).mpr g⟩,rfl⟩⟩
theorem wL (a b:Nat):dU (dN a) (dN b)=true↔a < b:=by
 rw [mQ,decide_eq_true_eq]
 omega
theorem wM (a b:Nat×Nat):dU (dP a) (dP b)=true↔jy a b:=by
 have e:dU (dP a) (dP b)=gZ [dN a.1,dN a.2] [dN b.1,dN b.2]:=rfl
 rw [e,jg,K55.xR]
 unfold jy
 by_cases c:a.1=b.1
 ·rw [if_pos (by simpa using c),jg,K55.xR]
  by_cases c2:a.2=b.2
  ·rw [if_pos (by simpa using c2)]
   constructor
   ·intro h;cases h
   ·intro h;omega
  ·rw [if_neg (by simpa using c2)]
   rw [show dU (D.int a.2) (D.int b.2)=dU (dN a.2) (dN b.2) from rfl,wL]
   omega
 ·rw [if_neg (by simpa using c)]
  rw [show dU (D.int a.1) (D.int b.1)=dU (dN a.1) (dN b.1) from rfl,wL]
  omega
theorem tU {α:Type}(h:α->D) (u:D->α) (hu:∀x,u (h x)=x) (R:α->α->Prop) (hR:∀a b,dU (h a) (h b)=true->R a b){l:List D}(hl:∀d∈l,∃x,d=h x) (up:l.Pairwise λa b=>dU a b=true):(l.map u).Pairwise R:=by
 refine RP.mpr ((TX.mp up).imp ?_)
 rintro a b ⟨ha,hb,h1⟩
 obtain ⟨x,rfl⟩:=hl a ha
 obtain ⟨y,rfl⟩:=hl b hb
 rw [hu,hu]
 exact hR x y h1
theorem NJ (xs:List Nat) (hl:xs.length < 64):∃ys:List Nat,gj [.d (.tup (xs.map dN))]=.ok (.l .fresh (ys.map dN))/\ys.length<=xs.length/\(∀y∈ys,y∈xs)/\ys.Pairwise (· < ·):=by
 have tot:∀d∈xs.map dN,i_ .i d:=λd hd=>by obtain ⟨x,_,rfl⟩:=QT.mp hd;exact ⟨_,rfl⟩
 obtain ⟨h1,h2⟩:=lF (fD .i) tot
 have fm:∀d∈cR (xs.map dN),∃x,d=dN x:=λd hd=>by obtain ⟨x,_,rfl⟩:=QT.mp (h2 d hd);exact ⟨x,rfl⟩
 refine ⟨(cR (xs.map dN)).map lI,?_,by simpa using h1,λy hy=>?_,tU dN lI tR _ (λa b h=>(wL a b).mp h) fm (kH (fD .i) tot).1⟩
 ·rw [NL xs hl,back dN lI tR fm]
 ·obtain ⟨d,hd,rfl⟩:=QT.mp hy
  obtain ⟨x,hx,rfl⟩:=QT.mp (h2 d hd)
  exact hx
theorem NK (xs:List (Nat×Nat)) (hl:xs.length < 64):∃ys:List (Nat×Nat),gj [.d (.tup (xs.map dP))]=.ok (.l .fresh (ys.map dP))/\ys.length<=xs.length/\(∀y∈ys,y∈xs)/\ys.Pairwise jy:=by
 have tot:∀d∈xs.map dP,i_ pF d:=λd hd=>by obtain ⟨x,_,rfl⟩:=QT.mp hd;exact oV x
 obtain ⟨h1,h2⟩:=lF (fD pF) tot
 have fm:∀d∈cR (xs.map dP),∃x,d=dP x:=λd hd=>by obtain ⟨x,_,rfl⟩:=QT.mp (h2 d hd);exact ⟨x,rfl⟩
 refine ⟨(cR (xs.map dP)).map kK,?_,by simpa using h1,λy hy=>?_,tU dP kK jP _ (λa b h=>(wM a b).mp h) fm (kH (fD pF) tot).1⟩
 ·rw [Gp xs hl,back dP kK jP fm]
 ·obtain ⟨d,hd,rfl⟩:=QT.mp hy
  obtain ⟨x,hx,rfl⟩:=QT.mp (h2 d hd)
  exact hx
theorem sy {α:Type}(h:α->D) (P:α->Prop) (Sr:List α->Prop) (hf:∀xs p,Sr xs->Sr (xs.filter p)) (n:Nat) (hn:n<=40) (hd:∀x,dep (h x)<=1) (b:Bool) (hb:∀x,pO (kJ (h x)) "tuple"=b)
  (hs:∀xs:List α,xs.length < 64->∃ys:List α,gj [.d (.tup (xs.map h))]=.ok (.l .fresh (ys.map h))/\ys.length<=xs.length/\(∀y∈ys,y∈xs)/\Sr ys)
  (L:List (Str×List α)) (hL:CC P n L) (hS:∀r∈L,Sr r.2) (l3:L.length<=3) (k:Nat) (hk:k < L.length) (th:α) (ht:P th) (w c:Option S) (m:D) (ms ar:D):
  ∃L':List (Str×List α),CC P (n + 1) L'/\(∀r∈L',Sr r.2)/\L'.map Sk=L.map Sk/\L'.length=L.length/\MH [w,c,some (.d m),some (.d ms),some (.d ar),some (.d (.int k)),some (.d (h th)),some (.d (.tup (L.map (dc h)))),none,none,none]=.ok (.rt (.d (if b=true then .tup [m,ms,.tup (L'.map (dc h))] else .tup [m,.tup (L'.map (dc h)),ar]))):=by
 obtain ⟨a1,a2⟩:=hL.all L[k] (Si hk)
 obtain ⟨ys,e1,e2,e3,e4⟩:=hs (L[k].2++[th]) (by simp;omega)
 rw [Rm] at e2
 have e2:ys.length<=n + 1:=by simp at e2;omega
 have e3:∀y∈ys,P y:=λy hy=>by
  rcases Rx.mp (e3 y hy) with h | h
  ·exact a2 y h
  ·rw [Q9.mp h];exact ht
 have dp:deps (L[k].2.map h)<=60:=fL λd hd'=>by
  obtain ⟨x,_,rfl⟩:=QT.mp hd'
  have:=hd x;omega
 have dt:=hd th
 have nx:∃now:List α,now.length<=n + 1/\(∀y∈now,P y)/\Sr now/\∀(Q:O->Prop) (u:G O),Wp (u [w,c,some (.d m),some (.d ms),some (.d ar),some (.d (.int k)),some (.d (h th)),some (.d (.tup (L.map (dc h)))),some (.d (.str L[k].1)),some (.d (.tup (L[k].2.map h))),some (.d (.tup (now.map h)))]) Q->
   Wp (aL (b8 (bO (g2 (gT false) (af 6) (af 9))) (a_ 10 (gN cH (ao (bM 1 [6] (fO (af 9)) (aD 0) (bO (g2 (fN true) (af 0) (af 1))) (af 0)) aC))) dS) u [w,c,some (.d m),some (.d ms),some (.d ar),some (.d (.int k)),some (.d (h th)),some (.d (.tup (L.map (dc h)))),some (.d (.str L[k].1)),some (.d (.tup (L[k].2.map h))),some (.d (.tup (ys.map h)))]) Q:=by
  have hin:bO (g2 (gT false) (af 6) (af 9)) [w,c,some (.d m),some (.d ms),some (.d ar),some (.d (.int k)),some (.d (h th)),some (.d (.tup (L.map (dc h)))),some (.d (.str L[k].1)),some (.d (.tup (L[k].2.map h))),some (.d (.tup (ys.map h)))]=.ok (inD (h th) (L[k].2.map h)):=by
   show (g2 _ _ _ _ >>= _)=_
   rw [two (x:=.d (h th)) rfl rfl (By false _ _ dp (by omega))]
   rfl
  cases q:inD (h th) (L[k].2.map h) with
  | true=>
   rw [q] at hin
   refine ⟨L[k].2.filter (λx=>!bu (h x) (h th)),RE (Sf _ _) (by omega),λy hy=>a2 y (RI.mp hy).1,hf _ _ (hS _ (Si hk)),λQ u hu=>?_⟩
   refine cC (ia hin (f_ (n1 (kU (xs:=L[k].2) (h:=h) (λx=>!bu (h x) (h th)) h rfl (by omega) λx _=>⟨?_,λ_=>⟨_,rfl,rfl⟩⟩) rfl) rfl hu))
   have:=hd x
   show (g2 _ _ _ _ >>= _)=_
   rw [two (x:=.d (h x)) (y:=.d (h th)) rfl rfl (Bp _ _ _ (by show dep (h x)<=60;omega) (by show dep (h th)<=60;omega))]
   rfl
  | false=>
   rw [q] at hin
   exact ⟨ys,e2,e3,e4,λQ u hu=>dW hin hu⟩
 obtain ⟨now,n1',n2,nS,n3⟩:=nx
 refine ⟨L.take k++[(L[k].1,now)]++L.drop (k + 1),⟨λr hr=>?_⟩,λr hr=>?_,?_,?_,?_⟩
 ·simp only [Rx,Q9] at hr
  rcases hr with (hr | hr) | hr
  ·have:=hL.all r (X6 hr)
   exact ⟨by omega,this.2⟩
  ·rw [hr];exact ⟨n1',n2⟩
  ·have:=hL.all r (X7 hr)
   exact ⟨by omega,this.2⟩
 ·simp only [Rx,Q9] at hr
  rcases hr with (hr | hr) | hr
  ·exact hS r (X6 hr)
  ·rw [hr];exact nS
  ·exact hS r (X7 hr)
 ·have e:L=L.take k++[L[k]]++L.drop (k + 1):=by
   rw [UO,VL,Vv,UC]
  conv=>rhs;rw [e]
  simp only [Ro,Ra,VI]
 ·simp;omega
 ·have ix:bg (.d (.tup (L.map (dc h)))) (.d (.int k))=.ok (.d (dc h L[k])):=jW (by rw [Rj,Q5 hk];rfl)
  have hc1:cY (.d (.tup ((L.map (dc h)).take k))) (.d (.tup [dc h (L[k].1,now)]))=.ok (.d (.tup ((L.map (dc h)).take k++[dc h (L[k].1,now)]))):=qh _ _ (by simp;omega)
  have hc2:cY (.d (.tup ((L.map (dc h)).take k++[dc h (L[k].1,now)]))) (.d (.tup ((L.map (dc h)).drop (k + 1))))=.ok (.d (.tup ((L.map (dc h)).take k++[dc h (L[k].1,now)]++(L.map (dc h)).drop (k + 1)))):=qh _ _ (by simp;omega)
  have hm:(L.map (dc h)).take k++[dc h (L[k].1,now)]++(L.map (dc h)).drop (k + 1)=(L.take k++[(L[k].1,now)]++L.drop (k + 1)).map (dc h):=by
   rw [Ro,Ro,UK,Vl];rfl
  rw [hm] at hc2
  refine Wp.eq (tG (two rfl rfl ix) rfl rfl (br (n1 (n1 (two rfl (bD (aI rfl rfl bx) (by show 1<=1000;decide)) (qh _ _ (by simp;omega))) (by rw [show L[k].2.map h++[h th]=(L[k].2++[th]).map h by rw [Ro];rfl];exact e1)) rfl) rfl (n3 _ _ ?_)))
  refine br (two (x:=.d (.tup ((L.map (dc h)).take k++[dc h (L[k].1,now)]))) (y:=.d (.tup ((L.map (dc h)).drop (k + 1)))) (two (x:=.d (.tup ((L.map (dc h)).take k))) ?_ (bD (aI (bD (aI rfl rfl (aI rfl rfl bx)) t2) rfl bx) (by show 1<=1000;decide)) hc1) ?_ hc2) rfl ?_
  ·show M.ok (R.d (.tup (cutD (L.map (dc h)) none (some (k:Int)))))=_
   rw [JW _ _ (by simp;omega)]
  ·show M.ok (R.d (.tup (cutD (L.map (dc h)) (some ((k:Int) + 1)) none)))=_
   rw [show ((k:Int) + 1)=((k + 1:Nat):Int) by omega,ET _ _ (by simp;omega)]
  ·have hb':=hb th
   cases b with
   | true=>exact cC (ia (by show M.ok (pO (kJ (h th)) "tuple")=_;rw [hb']) (bN (bD (aI rfl rfl (aI rfl rfl (aI rfl rfl bx))) (by show 3<=1000;decide)) rfl rfl))
   | false=>exact dW (by show M.ok (pO (kJ (h th)) "tuple")=_;rw [hb']) (bN (bD (aI rfl rfl (aI rfl rfl (aI rfl rfl bx))) (by show 3<=1000;decide)) rfl rfl)
structure rP (u:Wd):Prop where
 mp:∀r∈u.ms,r.2.Pairwise (· < ·)
 ap:∀r∈u.ar,r.2.Pairwise jy
structure GI (n:Nat) (w u:Wd):Prop where
 ok:mw u
 inn:kQ n u
 iY:rP u
 m:u.m=w.m
 mn:u.ms.map Sk=w.ms.map Sk
 an:u.ar.map Sk=w.ar.map Sk
theorem Bq {α:Type}{l:List α}{j:Nat}(h:j < l.length):(l[j]::l.eraseIdx j).Perm l:=by
 have e2:l=l.take j++l[j]::l.drop (j + 1):=by rw [Vv,UC]
 rw [S4]
 exact Xf.symm.trans (ZS e2.symm)
theorem EA (c:Int) (m:Nat) (hm:m<=8):∃ps:List Nat,dz [.d (.int c),.d (.int m)]=.ok (.d (.tup (ps.map dN)))/\ps.Perm (QU m):=by
 have key:Wp (dz [.d (.int c),.d (.int m)]) λr=>∃ps:List Nat,r=.d (.tup (ps.map dN))/\ps.Perm (QU m):=by
  refine jQ (br (r:=.l .fresh ((QU m).map dN)) ?_ rfl (br rfl rfl (jq (nP (n:=m) rfl (by omega)) ?_)))
  ·show (if below 16777216 (m:Int) then M.ok (R.l .fresh (eY 0 (m:Int).toNat)) else .bad)=_
   rw [if_pos (by unfold below;simp;omega),Sz,Gm]
  ·refine lJ (λk env=>∃(c:Int) (ls ps:List Nat) (x:Option S),env=[some (.d (.int c)),some (.d (.int m)),some (.own (ls.map dN)),some (.own (ps.map dN)),x]/\ls.length + k=m/\ps.length=k/\(ps++ls).Perm (QU m)) ⟨c,QU m,[],none,rfl,by simp,rfl,.refl _⟩ ?_ ?_
   ·rintro k hk _ ⟨c,ls,ps,x,rfl,l1,l2,m1⟩
    have hlen:(0:Int) < ((ls.map dN).length:Nat):=by simp;omega
    obtain ⟨j,hj⟩:∃j:Nat,c % ((ls.map dN).length:Nat)=j:=⟨(c % ((ls.map dN).length:Nat)).toNat,by have:=Tz c (b:=((ls.map dN).length:Nat)) (by omega);omega⟩
    have hjl:j < (ls.map dN).length:=by
     have:=SO c hlen
     omega
    have ON:j < ls.length:=by simpa using hjl
    refine ⟨_,rfl,cC (yi (k:=j) rfl rfl (by decide) ((two rfl (n1 rfl rfl) (dO _ _ hlen)).trans (by rw [hj])) hjl (by simp;omega) (by simp;omega) ?_)⟩
    refine f_ (two rfl rfl (iZ _ 9 (by decide) (by decide))) rfl ⟨_,rfl,c / 9,ls.eraseIdx j,ps++[ls[j]],some (.d (.int k)),?_,?_,?_,?_⟩
    ·rw [Ro,VR,show (ls.eraseIdx j).map dN=(ls.map dN).eraseIdx j by simp [S4,UK,Vl]]
     rfl
    ·rw [VZ,if_pos ON];omega
    ·rw [Rm];simp;omega
    ·rw [UO,VL]
     exact ((Bq ON).append_left ps).trans m1
   ·rintro _ ⟨c,ls,ps,x,rfl,l1,l2,m1⟩
    have l0:ls=[]:=Tr.mp (by omega)
    rw [l0,S8] at m1
    exact bN rfl rfl ⟨_,rfl,ps,rfl,m1⟩
 obtain ⟨_,h,ps,rfl,hk⟩:=key
 exact ⟨ps,h,hk⟩
theorem getD_at {ps:List Nat}{k:Nat}(h:k < ps.length):ps.getD k 0=ps[k]:=by simp [XI,h]
theorem sR {α β:Type}{f:α->β}{xs:List α}(nd:xs.Nodup) (inj:∀a∈xs,∀b∈xs,f a=f b->a=b):(xs.map f).Nodup:=by
 refine RP.mpr ((TX.mp nd).imp ?_)
 rintro a b ⟨ha,hb,h⟩ e
 exact h (inj a ha b hb e)
theorem Mq {xs:List Nat}(h:xs.Pairwise (· < ·)):xs.Nodup:=h.imp λh e=>by omega
theorem K6 {xs:List (Nat×Nat)}(h:xs.Pairwise jy):xs.Nodup:=h.imp fun {a b} h e=>by subst e;unfold jy at h;omega
theorem qT {ps:List Nat}{m:Nat}(pm:ps.Perm (QU m)){a b:Nat}(ha:a < m) (hb:b < m) (e:ps.getD a 0=ps.getD b 0):a=b:=by
 have l:ps.length=m:=by rw [pm.length_eq,SD]
 rw [getD_at (by omega),getD_at (by omega)] at e
 exact (W_ (pm.nodup_iff.mpr Tg)).mp e
theorem NH {xs:List Nat}(nd:xs.Nodup):((bw (xs.map dN)).map lI).Pairwise (· < ·):=
 tU dN lI tR _ (λa b h=>(wL a b).mp h) (λd hd=>by obtain ⟨x,_,rfl⟩:=QT.mp (lE hd);exact ⟨x,rfl⟩) (m_ (fD .i) (λd hd=>by obtain ⟨x,_,rfl⟩:=QT.mp hd;exact ⟨_,rfl⟩) (sR nd λa _ b _ e=>by have:=congrArg lI e;exact this))
theorem NI {xs:List (Nat×Nat)}(nd:xs.Nodup):((bw (xs.map dP)).map kK).Pairwise jy:=
 tU dP kK jP _ (λa b h=>(wM a b).mp h) (λd hd=>by obtain ⟨x,_,rfl⟩:=QT.mp (lE hd);exact ⟨x,rfl⟩) (m_ (fD pF) (λd hd=>by obtain ⟨x,_,rfl⟩:=QT.mp hd;exact oV x) (sR nd λa _ b _ e=>by have:=congrArg kK e;exact this))
theorem LR (w:Wd) (hw:mw w) (n:Nat) (hb:kQ n w) (hs:rP w) (ps:List Nat) (pm:ps.Perm (QU w.m)):mw (kI w ps)/\kQ n (kI w ps)/\rP (kI w ps)/\(kI w ps).m=w.m/\(kI w ps).ms.map Sk=w.ms.map Sk/\(kI w ps).ar.map Sk=w.ar.map Sk:=by
 have l:ps.length=w.m:=by rw [pm.length_eq,SD]
 obtain ⟨h1,h2,h3,h4,h5⟩:=MX w hw n hb ps l λp hp=>by simpa using pm.mem_iff.mp hp
 refine ⟨h1,h2,⟨λr hr=>?_,λr hr=>?_⟩,h3,?_,?_⟩
 ·obtain ⟨q,hq,rfl⟩:=QT.mp (show r∈w.ms.map _ from hr)
  exact NH (sR (Mq (hs.mp q hq)) λa ha b hb' e=>qT pm ((hb.mp q hq).2 a ha) ((hb.mp q hq).2 b hb') e)
 ·obtain ⟨q,hq,rfl⟩:=QT.mp (show r∈w.ar.map _ from hr)
  refine NI (sR (K6 (hs.ap q hq)) λa ha b hb' e=>?_)
  have ra:=(hb.ap q hq).2 a ha
  have rb:=(hb.ap q hq).2 b hb'
  exact abX (qT pm ra.1 rb.1 (congrArg Sk e)) (qT pm ra.2 rb.2 (congrArg abF e))
 ·show (w.ms.map _).map _=_
  rw [Rv]
  rfl
 ·show (w.ar.map _).map _=_
  rw [Rv]
  rfl
theorem rC (w:Wd) (hw:mw w) (n:Nat) (hn:n<=40) (hb:kQ n w) (hs:rP w) (c:Int) (hc:0<=c):∃u:Wd,eZ [.d w.d,.d (.int c)]=.ok (.d u.d)/\GI (n + 1) w u:=by
 have ml:=hw.ml
 have al:=hw.al
 have lo:=hw.lo
 have key:Wp (eZ [.d w.d,.d (.int c)]) λr=>∃u:Wd,r=.d u.d/\GI (n + 1) w u:=by
  refine jQ (tG rfl rfl rfl ?_)
  have hadd:cY (.d (.int ((w.ms.map kC).length:Nat))) (.d (.int ((w.ar.map pg).length:Nat)))=.ok (.d (.int ((w.ms.length + w.ar.length:Nat):Int))):=by rw [fp,QO,QO,<-Int.natCast_add]
  by_cases c0:w.ms.length + w.ar.length=0
  ·refine cC (ia ?_ (bN rfl rfl ⟨_,rfl,w,rfl,hw,⟨λr hr=>⟨by have:=(hb.mp r hr).1;omega,(hb.mp r hr).2⟩,λr hr=>⟨by have:=(hb.ap r hr).1;omega,(hb.ap r hr).2⟩⟩,hs,rfl,rfl,rfl⟩))
   show (g2 _ _ _ _ >>= _)=_
   rw [two (two (n1 rfl rfl) (n1 rfl rfl) hadd) rfl (eq_int _ _ _),c0]
   rfl
  ·have hs':(0:Int) < ((w.ms.length + w.ar.length:Nat):Int):=by omega
   have hm:(0:Int) < (w.m:Int):=by omega
   refine dW ?_ (br (two rfl (two (n1 rfl rfl) (n1 rfl rfl) hadd) (dO _ _ hs')) rfl (br (two (two rfl rfl (iZ _ 6 (by decide) (by decide))) rfl (dO _ _ hm)) rfl (br rfl rfl ?_)))
   ·show (g2 _ _ _ _ >>= _)=_
    rw [two (two (n1 rfl rfl) (n1 rfl rfl) hadd) rfl (eq_int _ _ _)]
    show M.ok ((((w.ms.length + w.ar.length:Nat):Int)) == 0)=_
    rw [beq_eq_false_iff_ne.mpr (by omega)]
   obtain ⟨k,hk⟩:=sV (Tz c (b:=((w.ms.length + w.ar.length:Nat):Int)) (by omega))
   have Qj:=SO c hs'
   obtain ⟨p,hp⟩:=sV (Tz (c / 6) (b:=(w.m:Int)) (by omega))
   have hpl:=SO (c / 6) hm
   obtain ⟨q,hq⟩:=sV (Tz (c / 48) (b:=(w.m:Int)) (by omega))
   have Qn:=SO (c / 48) hm
   rw [hk] at Qj
   rw [hp] at hpl
   rw [hq] at Qn
   rw [hk,hp]
   by_cases ck:k < w.ms.length
   ·obtain ⟨L',o1,oS,oN,o2,o3⟩:=sy dN (λp=>p < w.m) (λxs=>xs.Pairwise (· < ·)) (λxs p h=>h.filter p) n hn (λ_=>RA _) false (λ_=>rfl) NJ w.ms ⟨hb.mp⟩ hs.mp ml k ck p (by show p < w.m;omega) (some (.d w.d)) (some (.d (.int c))) (.int w.m) (.tup (w.ms.map kC)) (.tup (w.ar.map pg))
    refine dW ?_ (Wp.of o3 ⟨_,rfl,⟨w.m,L',w.ar⟩,rfl,⟨lo,hw.hi,by show L'.length<=3;omega,al⟩,⟨o1.all,λr hr=>⟨by have:=(hb.ap r hr).1;omega,(hb.ap r hr).2⟩⟩,⟨oS,hs.ap⟩,rfl,oN,rfl⟩)
    show M.ok (decide ((((w.ms.map kC).length:Nat):Int)<=(k:Int)))=_
    rw [decide_eq_false (by simp;omega)]
   ·obtain ⟨L',o1,oS,oN,o2,o3⟩:=sy dP (λp=>p.1 < w.m/\p.2 < w.m) (λxs=>xs.Pairwise jy) (λxs p h=>h.filter p) n hn (λ_=>(by decide:(1:Nat)<=1)) true (λ_=>rfl) NK w.ar ⟨hb.ap⟩ hs.ap al (k - w.ms.length) (by omega) (p,q) (by show p < w.m/\q < w.m;omega) (some (.d w.d)) (some (.d (.int c))) (.int w.m) (.tup (w.ms.map kC)) (.tup (w.ar.map pg))
    refine cC (ia ?_ (br (x:=.d (.int ((k - w.ms.length:Nat):Int))) (two rfl (n1 rfl rfl) rfl) ?_ (br (x:=.d (dP (p,q))) (bD (aI rfl rfl (aI (two (two rfl rfl (iZ _ 48 (by decide) (by decide))) rfl (dO _ _ hm)) rfl bx)) t2) ?_ (f_ rfl rfl (Wp.of o3 ⟨_,rfl,⟨w.m,w.ms,L'⟩,rfl,⟨lo,hw.hi,ml,by show L'.length<=3;omega⟩,⟨λr hr=>⟨by have:=(hb.mp r hr).1;omega,(hb.mp r hr).2⟩,o1.all⟩,⟨hs.mp,oS⟩,rfl,rfl,oN⟩)))))
    ·show M.ok (decide ((((w.ms.map kC).length:Nat):Int)<=(k:Int)))=_
     rw [decide_eq_true (by simp;omega)]
    ·show M.ok (S.d (.int ((k:Int) - (((w.ms.map kC).length:Nat):Int))))=_
     rw [QO,show (k:Int) - (w.ms.length:Int)=((k - w.ms.length:Nat):Int) by omega]
    ·show M.ok (S.d (.tup [.int p,.int (c / 48 % w.m)]))=_
     rw [hq]
 obtain ⟨_,h,u,rfl,hu⟩:=key
 exact ⟨u,h,hu⟩
theorem Jz (ns:List Int) (sz:List Nat) (hz:sz.length=8) (hs:∀n∈sz,1<=n/\n<=4):∃v w:Wd,jr [.bor (ns.map D.int),.bor (sz.map dN)]=.ok (.d (.tup [v.d,w.d]))/\Pr v w/\kQ 30 v/\kQ 30 w/\rP v/\rP w:=by
 have c0:=K51.jc ns 0
 have c1':=K51.jc ns 1
 have c2':=K51.jc ns 2
 have c9:=K51.jc ns 9
 have c10:=K51.jc ns 10
 have key:Wp (jr [.bor (ns.map D.int),.bor (sz.map dN)]) λr=>∃v w:Wd,r=.d (.tup [v.d,w.d])/\Pr v w/\kQ 30 v/\kQ 30 w/\rP v/\rP w:=by
  refine jQ (br (c2 rfl rfl (K51.Cr ns 0)) rfl (br (c2 rfl rfl (d_ ns _ 1 rfl)) rfl ?_))
  obtain ⟨a,ha,ea⟩:=mK (xs:=[1,0,2,3]) (h:=dN) (.l .fresh ([1,0,2,3].map dN)) rfl (K51.bW ns 1 % 4) (by omega) (by show _ < (4:Int);omega)
  obtain ⟨b,hb,eb⟩:=mK (xs:=[1,2,0,1,3]) (h:=dN) (.l .fresh ([1,2,0,1,3].map dN)) rfl (K51.bW ns 1 / 4 % 5) (by omega) (by show _ < (5:Int);omega)
  have ha:a<=3:=by simp at ha;omega
  have hb:b<=3:=by simp at hb;omega
  obtain ⟨A,hA,lA⟩:=K51.zR (K51.bW ns 1 / 20) (by omega) a ha
  obtain ⟨B,hB,lB⟩:=K51.zR (K51.bW ns 2) (by omega) b hb
  refine br (c2 rfl (two (mP rfl (by show 4<=1000;decide)) rfl ea) hA) rfl ?_
  refine cC (Co rfl (f_ (bD (aI rfl rfl (aI (c2 (c2 rfl rfl (d_ ns _ 2 rfl)) (two (mP rfl (by show 5<=1000;decide)) rfl eb) hB) rfl bx)) (by show 2<=1000;decide)) rfl ?_))
  have mk:∀(m:Nat),1<=m/\m<=4->∀(j:Nat),∃w:Wd,K51.fF [.d (.tup [.lst (A.map .str),.lst (B.map .str)]),.d (.int m),.bor ((QU 6).map λk=>.int (K51.bW ns (j + k)))]=.ok (.d w.d)/\mw w/\kQ 16 w/\rP w/\w.m=m/\w.ms.map Sk=A/\w.ar.map Sk=B:=λm hm j=>by
   obtain ⟨ms,rs,hw,h1,h2,h3,h4⟩:=K51.JB m hm.1 (by omega) A B (by omega) (by omega) ((QU 6).map λk=>K51.bW ns (j + k)) rfl
   rw [Rv] at hw
   have l1:=congrArg Vw h1
   have l2:=congrArg Vw h2
   rw [QO] at l1 l2
   exact ⟨⟨m,ms,rs⟩,hw,⟨hm.1,by show m<=8;omega,by show ms.length<=3;omega,by show rs.length<=3;omega⟩,⟨λr hr=>⟨by have:=(h3 r hr).1;omega,(h3 r hr).2.2⟩,λr hr=>⟨K55.qa (h4 r hr) hm.2,(h4 r hr).2.2⟩⟩,⟨λr hr=>(h3 r hr).2.1,λr hr=>(h4 r hr).2.1⟩,rfl,h1,h2⟩
  obtain ⟨m,hm,em⟩:=mK (xs:=sz) (h:=dN) (.l .bor (sz.map dN)) rfl (K51.bW ns 0 % 8) (by omega) (by omega)
  obtain ⟨v,hv,vo,vb,vs,vm,vl,va⟩:=mk m (hs m hm) 3
  refine br (c3 rfl (two rfl rfl em) (j4 (xs:=QU 6) (h:=dN) (λk=>.int (K51.bW ns (3 + k))) (iB rfl (by decide)) (by decide) λk hk=>⟨_,c2 rfl (two rfl rfl (tN _ _)) (d_ ns _ (3 + k) (by simp)),rfl⟩) hv) rfl ?_
  refine br (two (two rfl rfl (iZ _ 8 (by decide) (by decide))) rfl (dO _ 4 (by decide))) rfl ?_
  have up:∀{n:Nat}{w:Wd},n<=30->kQ n w->N3 w:=λhn h=>⟨λr hr=>⟨by have:=(h.mp r hr).1;omega,(h.mp r hr).2⟩,λr hr=>⟨by have:=(h.ap r hr).1;omega,(h.ap r hr).2⟩⟩
  have vm4:=(hs m hm).2
  have Qs:=Tz (K51.bW ns 0 / 8) (b:=4) (by decide)
  have Qt:=SO (K51.bW ns 0 / 8) (b:=4) (by decide)
  generalize K51.bW ns 0 / 8 % 4=wy at Qs Qt
  by_cases cw:wy=0
  ·subst cw
   obtain ⟨m2,hm2,em2⟩:=mK (xs:=sz) (h:=dN) (.l .bor (sz.map dN)) rfl (K51.bW ns 0 / 32 % 8) (by omega) (by omega)
   obtain ⟨w,hw,wo,wb,ws,wm,wl,wa⟩:=mk m2 (hs m2 hm2) 9
   have:=(hs m2 hm2).2
   exact cC (ia rfl (bN (bD (aI rfl rfl (aI (c3 rfl (two rfl (two (two rfl rfl (iZ _ 32 (by decide) (by decide))) rfl (dO _ 8 (by decide))) em2) (j4 (xs:=QU 6) (h:=dN) (λk=>.int (K51.bW ns (9 + k))) (iB rfl (by decide)) (by decide) λk hk=>⟨_,c2 rfl (two rfl rfl (tN _ _)) (d_ ns _ (9 + k) (by simp)),rfl⟩) hw) rfl bx)) t2) rfl ⟨_,rfl,v,w,rfl,⟨vo,wo,by omega,by omega,by rw [vl,wl],by rw [va,wa]⟩,up (by decide) vb,up (by decide) wb,vs,ws⟩))
  ·refine dW ?_ ?_
   ·show M.ok (wy == 0)=_
    rw [beq_eq_false_iff_ne.mpr cw]
   obtain ⟨ps,hps,pm⟩:=EA (K51.bW ns 15) v.m vo.hi
   have lps:ps.length=v.m:=by rw [pm.length_eq,SD]
   have ht:=ED v vo 16 (by decide) vb ps lps
   obtain ⟨to,tb,ts,tm,tl,ta⟩:=LR v vo 16 vb vs ps pm
   refine br (c2 rfl (c2 (c2 rfl rfl (d_ ns _ 15 rfl)) (two rfl rfl (gy _ _)) hps) ht) rfl ?_
   obtain ⟨u1,f1,k1⟩:=rC (kI v ps) to 16 (by decide) tb ts (K51.bW ns 9) c9
   obtain ⟨u2,f2,k2⟩:=rC u1 k1.ok 17 (by decide) k1.inn k1.iY (K51.bW ns 10) c10
   have a1:=k1.m
   have a2:=k1.mn
   have a3:=k1.an
   have b1:=k2.m
   have b2:=k2.mn
   have b3:=k2.an
   have w3:wy=1\/wy=2\/wy=3:=by omega
   rcases w3 with rfl | rfl | rfl
   ·exact dW rfl (dW rfl (bN (bD (aI rfl rfl (aI rfl rfl bx)) t2) rfl ⟨_,rfl,v,kI v ps,rfl,⟨vo,to,by omega,by omega,tl.symm,ta.symm⟩,up (by decide) vb,up (by decide) tb,vs,ts⟩))
   ·exact cC (ia rfl (f_ (c2 rfl (c2 rfl rfl (d_ ns _ 9 rfl)) f1) rfl (dW rfl (bN (bD (aI rfl rfl (aI rfl rfl bx)) t2) rfl ⟨_,rfl,v,u1,rfl,⟨vo,k1.ok,by omega,by omega,by rw [a2,tl],by rw [a3,ta]⟩,up (by decide) vb,up (by decide) k1.inn,vs,k1.iY⟩))))
   ·exact cC (ia rfl (f_ (c2 rfl (c2 rfl rfl (d_ ns _ 9 rfl)) f1) rfl (cC (ia rfl (f_ (c2 rfl (c2 rfl rfl (d_ ns _ 10 rfl)) f2) rfl (bN (bD (aI rfl rfl (aI rfl rfl bx)) t2) rfl ⟨_,rfl,v,u2,rfl,⟨vo,k2.ok,by omega,by omega,by rw [b2,a2,tl],by rw [b3,a3,ta]⟩,up (by decide) vb,up (by decide) k2.inn,vs,k2.iY⟩))))))
 obtain ⟨_,h,v,w,rfl,hk⟩:=key
 exact ⟨v,w,h,hk⟩
end K23
namespace DL
open PySem PySem.Spec PyProof.Rows L2 DX
section
variable {X:Cx}{c:C}{e ke a b:Rz}{g gk ga gb:G R}{pos:Pos}
noncomputable def MF (K:QK):A7:=λo i v H Q=>∃J p ks vs kxs d,aT J H/\o=.ref p/\dG K J H p ks vs/\dg (.tup kxs)=true/\Rep K J (.tup kxs) i/\Rep K J d v/\ks.length<=sizeLine/\∀o,dG K J (upd H p o) p (dput (ks,vs) (.tup kxs) d).1 (dput (ks,vs) (.tup kxs) d).2->Q (upd H p o)
theorem set_dict (hu:X.A.units + 64 < Sy):JJ X (MF X.K):=by
 intro Qz s σ H o i v ov iv u Q I ro ri rv h
 obtain ⟨J,p,ks,vs,kxs,d,sm,rfl,hd,ok,rk,rd,hl,q⟩:=h
 obtain ⟨_,_,k1,k2⟩:=gQ ok
 obtain ⟨r,rfl⟩:∃r,i=.ref r:=by cases rk;exact ⟨_,rfl⟩
 cases ro
 cases ri
 obtain ⟨xs,hm,lx,put⟩:=AD I sm hd
 refine wpAny_setItem_heap (knd:=lP X.prog X.w) (k:=⟨.tup kxs,k1,k2⟩) (show X.A.units + 1 + 16 < Sy by omega) (jj (HF.of (c:=⟨X.K,H,H,λ_=>True⟩) I sm) k1 rk) hm (λh' hm' sb=>?_) (by rw [lx];exact hl)
 obtain ⟨o,W,hd,_⟩:=put k1 k2 rk rd rv h' _ hm' sb
 exact ⟨_,W,q o hd⟩
noncomputable def x6 (i:Nat) (gk g:G R):G O:=λenv=>match env[i]? with
 | some (some (.dk ks vs))=>g env >>= λr=>toD r >>= λd=>gk env >>= λr2=>toD r2 >>= λk=>if dg k=true/\ks.length<=1000000 then .ok (.nx (env.set i (some (.dk (dput (ks,vs) k d).1 (dput (ks,vs) k d).2)))) else .bad
 | _=>.bad
theorem De {prog:Rb}{w:RD}{K:Type} [DecidableEq K] {knd:HeapKind prog w K}{A:RG}{E:QM->QN->Prop}{s:QN}{d a:Q4}{k:K}{xs:List (K×Q4×QM)}{Q:Bool->QN->Prop}(hu:knd.room A.in1) (hkey:knd.is s.heap k a) (hd:(d == Uv)=false)
  (hm:s.heap.DictOfH knd d xs) (h:Q (aaU xs k).isSome {s with toks:=s.toks + knd.draws k}):Rg (Rk prog w) A (contains (.ref d) (.ref a)) Q E s:=by
 refine wpAny_contains_slot hm.typeIs YR (RL YR hm.typeIs entry_dict_contains ?_ (args_dict_contains _ _))
 show Rg _ _ (dictGet d (.ref a) >>= λ_=>_) _ _ s
 refine QJ (wpAny_dictGet_heap hu hkey hm ?_)
 cases q:aaU xs k with
 | some p=>rw [q] at h;exact QL ⟨_,rfl,R6 h⟩
 | none=>rw [q] at h;exact QJ (wpAny_pendingKey_other hd (QL ⟨_,rfl,R6 h⟩))
noncomputable def Ge (K:QK) (neg:Bool):R2:=λx y H Q=>∃J p ks vs k,aT J H/\y=.ref p/\dG K J H p ks vs/\Rep K J k x/\dg k=true/\Q (.bl (if neg then !(gm ks vs k).isSome else (gm ks vs k).isSome)) H
theorem ER (hu:X.A.units + 64 < Sy){Qz:List (Q4×Obj)}{s:QN}{σ:L2.St}{H:Hp}{x y:V}{v u:QM}{Q:VK}{neg:Bool}(I:Inv X Qz σ H s) (rx:RelV x v) (ry:RelV y u) (h:Ge X.K neg x y H Q):Rg (Rk X.prog X.w) X.A (contains u v) (λr s'=>EP X Qz σ Q (.bool (if neg then !r else r)) s') X.xe s:=by
 obtain ⟨J,p,ks,vs,k,sm,rfl,hd,hk,ok,q⟩:=h
 have F:HF X.K J s:=HF.of (c:=⟨X.K,H,H,λ_=>True⟩) I sm
 obtain ⟨kx,rfl,k1,k2⟩:=gQ ok
 obtain ⟨r,rfl⟩:∃r,x=.ref r:=by cases hk;exact ⟨_,rfl⟩
 cases rx
 cases ry
 obtain ⟨xs,us,ws,hm,e2,_,hv,e4,_,hsm⟩:=ny (P:=X.prog) (w:=X.w) F (fP I) hd
 have e:(aaU xs ⟨.tup kx,k1,k2⟩).isSome=(gm ks vs (.tup kx)).isSome:=by
  obtain ⟨l1,l2⟩:=rT (K:=X.K) (J:=J) ⟨.tup kx,k1,k2⟩ e2 hv e4
  cases z:gm ks vs (.tup kx) with
  | some d=>obtain ⟨p,_,e,_⟩:=l1 d z;rw [e];rfl
  | none=>rw [l2 z];rfl
 exact De (k:=⟨.tup kx,k1,k2⟩) (show X.A.units + 1 + 16 < Sy by omega) (jj F k1 hk) hsm hm ⟨.bl _,H,I.tok _,by rw [e];rfl,q⟩
theorem DN (hu:X.A.units + 64 < Sy):c_ X (Sx .In) (Ge X.K false):=λQz s σ H x y v u Q I rx ry h=>QJ (RU (ER hu I rx ry h) (λ_ _ h=>QL h) λ_ _ f=>f)
noncomputable def nD (neg:Bool) (x y:R):M R:=match rS y,x with
 | some z,.d k=>if dg k=true then .ok (.d (.bl (if neg then !(gm z.1 z.2 k).isSome else (gm z.1 z.2 k).isSome))) else .bad
 | _,_=>.bad
theorem CH (neg:Bool) (hK:X.K=c.K):BD c (Ge X.K neg) (nD neg):=by
 intro He He' J H x y u v Q hp rx ry w
 unfold nD at w
 split at w
 ·rename_i hz
  obtain ⟨p,rfl,hd⟩:=ry.dk hp hz
  split at w
  ·rename_i ok
   exact ⟨J,p,_,_,_,hp.sub,rfl,by rw [hK];exact hd,by rw [hK];exact rx,ok,w _ J H (Ext.refl hp.sub) (.bl _)⟩
  ·exact w.elim
 ·exact w.elim
theorem FZ (i:Nat){x:Str}{p1 p2:Pos}(hu:X.A.units + 64 < Sy) (h:QD X c e g) (hk:QD X c ke gk) (hN:X.N[i]?=some x:=by rfl) (hv:qu X.env.scope x:=by first | exact VJ rfl | exact Uu (VJ rfl) | exact Uu (Uu rfl)) (hd:(x == ("__debug__":Str))=false:=by decide)
  (hcd:(x == ("__classdict__":Str))=false:=by decide)
  (ha:∀v,assign (.Subscript (.Name x p1) ke p2) X.env v=(do
   let ov <-holding [v] (eval (.Name x p1) X.env)
   let iv <-holding [v,ov] (eval ke X.env)
   Ug p2
   (holding [v,ov,iv] (setItem ov iv v))
   release [v,ov,iv] []):=by intro _;rfl)
  (hs:Va [.Subscript (.Name x p1) ke p2] e pos.line X.env=pure false:=by rfl) (hw:Ys [.Subscript (.Name x p1) ke p2] e X.env=pure none:=by rfl)
  (h1:(Ub [.Subscript (.Name x p1) ke p2] X.env).map (·.2)=[assign (.Subscript (.Name x p1) ke p2) X.env]:=by rfl) (hK:X.K=c.K:=by rfl):
  iD X c (.Assign [.Subscript (.Name x p1) ke p2] e pos) (x6 i gk g):=have h:=h.h;have hk:=hk.h;⟨
 ic (D5 h (Le (kh hN hv hd hcd) hk (set_dict hu) ha) hs hw h1) λE σ H ⟨J,env,sr,w⟩=>by
  unfold x6 at w
  split at w
  ·rename_i ks vs hi
   obtain ⟨v,q1,p,rfl,h2,h3,h4⟩:=sr.at_ i _ hi
   refine ⟨J,env,sr,aB (aH w) λr wr y J1 H1 e1 r1=>?_⟩
   obtain ⟨d,q,wr⟩:=iH wr
   obtain ⟨J2,e2,s2,rd⟩:=freeze e1 r1 q
   refine ⟨.ref p,q1,?_⟩
   refine ⟨J2,env,sr.ext e2,aB (aH wr) λrk wk vk J3 H3 e3 r3=>?_⟩
   obtain ⟨k,qk,wk⟩:=iH wk
   obtain ⟨J4,e4,s4,rk⟩:=freeze e3 r3 qk
   have e5:=e2.trans e4
   split at wk
   ·rename_i ok
    obtain ⟨kxs,rfl,_⟩:=gQ ok.1
    have h2':=h2.mono e5.j e5.h
    have h3':=e5.frz p h2.ne h3
    refine ⟨J4,p,ks,vs,kxs,d,e5.sub,rfl,by rw [hK];exact h2',ok.1,by rw [hK];exact rk,by rw [hK];exact rd.mono e4.j,RE ok.2 (by decide),λo ho=>?_⟩
    rw [hK] at ho
    exact wk σ J4 _ e5.j ((sr.ext e5).updM (x:=.inr (ks,vs)) (y:=.inr (dput (ks,vs) (.tup kxs) d)) hi q1 h3' h4 ⟨p,rfl,ho,h3',h4⟩)
   ·exact wk.elim
  ·exact w.elim⟩
theorem IW (hu:X.A.units + 64 < Sy) (ha:QD X c a ga) (hb:QD X c b gb) (hK:X.K=c.K:=by rfl) (hm:Sa .In b=false:=by rfl):QD X c (.Compare a [.In] [b] pos) (g2 (nD false) ga gb):=⟨o6 (DN hu) (CH false hK) ha.h hb.h hm⟩
theorem IS (hu:X.A.units + 64 < Sy) (ha:QD X c a ga) (hb:QD X c b gb) (hK:X.K=c.K:=by rfl) (hm:Sa .In b=false:=by rfl):QB X c (.Compare a [.In] [b] pos) (bO (g2 (nD false) ga gb)):=⟨jz (DN hu) (CH false hK) ha.h hb.h hm⟩
end
end DL
namespace K22
open PySem DL
end K22
namespace K22
open PySem DL K01 WP K51 K52 K55 K23
theorem gG (ps:List (Nat×Nat)):dg (aS ps)=true:=by
 have h1:∀qs:List (Nat×Nat),areKeys (qs.map dP)=true:=λqs=>by
  induction qs with
  | nil=>rfl
  | cons q qs ih=>rw [Ra];unfold areKeys;rw [ih];rfl
 have h2:deps (ps.map dP)<=1:=fL λx hx=>by obtain ⟨q,_,rfl⟩:=QT.mp hx;exact QY _
 show (areKeys (ps.map dP) && decide (deps (ps.map dP) + 1<=8))=true
 rw [h1,decide_eq_true (by omega)]
 rfl
section
variable {env:Ev}{g gk:G R}{r r2:R}{u:G O}{Q:O->Prop}{i:Nat}
theorem Mp {ks vs:List D}{k d:D}(h0:env[i]?=some (some (.dk ks vs))) (h:g env=.ok r) (h2:toD r=.ok d) (h3:gk env=.ok r2) (h4:toD r2=.ok k) (ok:dg k=true) (hl:ks.length<=1000000) (q:Q (.nx (env.set i (some (.dk (dput (ks,vs) k d).1 (dput (ks,vs) k d).2))))):Wp (x6 i gk g env) Q:=by
 refine ⟨_,?_,q⟩
 unfold x6
 rw [h0]
 simp only
 rw [h,aN,h2,aN,h3,aN,h4,aN,if_pos ⟨ok,hl⟩]
theorem Iu {a b:G R}(h:a env=.ok (.d (.bl true))):qP a b env=.ok (.d (.bl true)):=by
 unfold qP;rw [h];rfl
theorem K3 {a b:G R}(h:a env=.ok (.d (.bl false))) (h2:b env=.ok r):qP a b env=.ok r:=by
 unfold qP;rw [h];exact h2
end
theorem Lj (ps:List (Nat×Nat)):dep (aS ps)<=60:=by
 have h2:deps (ps.map dP)<=1:=fL λx hx=>by obtain ⟨q,_,rfl⟩:=QT.mp hx;exact QY _
 show deps (ps.map dP) + 1<=60
 omega
end K22
namespace DL
open PySem PySem.Spec PyProof.Rows L2 DX
section
variable {X:Cx}{c:C}
noncomputable def wU (X:Cx) (c:C) (cm:Option (QM->Sem Unit)->Sem QM) (g:G R):Prop:=
 ∀{Qz:List (Q4×Obj)}{s:QN}{σ:L2.St}{H:Hp}{Q:VK}{use:Option (QM->Sem Unit)}{Q0:QM->QN->Prop},Inv X Qz σ H s->tD c g σ H Q->
  (∀(acc C:Q4) (m:Str->Option QM) (s':QN) (H':Hp) (fl:Flow),s'.heap.Ns C m->((C∈X.ex\/X.s₀.heap.objs.size<=C)/\C≠X.env.locals/\(∀x c,X.env.cells.lookup x=some c->c≠C)/\∀p∈X.pn++Qz,p.1≠C)->H' C=none->(∀h'',R_ C s'.heap h''->Inv X Qz σ H' {s' with heap:=h''})->Q (.ref acc) H'->YQ (Rk X.prog X.w) X.A X.xe use Q0 (.ref acc) C (.ok fl) s')->
  Rg (Rk X.prog X.w) X.A (cm use) Q0 X.xe s
theorem Nx {e:Rz}{cm:Option (QM->Sem Unit)->Sem QM}{g:G R}(core:wU X c cm g) (hev:eval e X.env=cm none):PD X c e g:=by
 intro Qz s σ H Q I h
 rw [hev]
 exact core I h λacc C m s' H' fl hm hz hf hb q=>⟨m,hm,λh'' sb=>⟨.ref acc,H',hb h'' sb,rfl,q⟩⟩
theorem FH (i:Nat){e:Rz}{cm:Option (QM->Sem Unit)->Sem QM}{g:G R}{x:Str}{pos' pos2:Pos}(hN:X.N.Nodup) (core:wU X c cm g) (hev:∀use,evalThenUse e X.env use=(do let _ <-cm (some use))) (hx:X.N[i]?=some x) (OG:X.env.scope.names.lookup x=some .local)
  (hsw:Uo e (some (.Name x pos')) pos2.line X.env=pure true):zW X c (.Assign [.Name x pos'] e pos2) (a_ i g):=by
 intro Qz s σ H D I ⟨J,env,sr,w⟩
 rw [XM]
 refine QJ (SK ?_)
 rw [show Va [.Name x pos'] e pos2.line X.env=pure true from hsw]
 refine QJ (QL ?_)
 rw [if_pos rfl,hev]
 refine QJ (QJ (core (Q:=λv H1=>∃J1 r xx,Ext J H J1 H1/\RR c H J1 H1 r v/\toS r=.ok xx/\oP c J D (.nx (env.set i (some xx)))) I ⟨J,env,sr,aB (aH w) λr wr v J1 H1 e1 r1=>?_⟩ λacc C m s' H' fl hm ap hf hb ⟨J1,r,xx,e1,r1,q1,w1⟩=>?_))
 ·obtain ⟨xx,q,wr⟩:=nj wr
  exact ⟨J1,r,xx,e1,r1,q,wr⟩
 ·have I1:L2.Inv X Qz σ H' s':=hb s'.heap (WT ..)
  show Rg _ _ (do Ug pos';abG X.env x (.ref acc)) _ _ _
  refine QJ (SK (Yg ?_))
  refine lG I1 hN hx (.inl OG) (v:=.ref acc) (u:=.ref acc) rfl (λs2 I2 ⟨a,sb,ha⟩=>?_) (.inr OG)
  have hac:C≠a:=λz=>by
   rcases ha with e | e
   ·exact ap.2.1 (z.trans e)
   ·exact ap.2.2.1 _ _ e z.symm
  refine ⟨m,hm.sameBut sb hac,λh2 sb2=>?_⟩
  refine QL (QL ⟨σ.set i (some (.ref acc)),H',o5 I2 ap hf sb2 (o0:=default),?_⟩)
  exact w1 _ J1 H' e1.j (sr.set e1 r1 q1)
noncomputable def iF (n:Nat) (cap:List Nat) (gi:G (List D)) (gt:GT) (gts:G Bool) (gk gv:G R):G R:=iS 1000000 n cap gi gt gts (qL gk gv) (λys=>.ok (.mf (iE ys).1 (iE ys).2))
theorem MY (kx vx t0 i0:Rz) (f0:List Rz) (Qy:TF) (pos:Pos) (it:QM) (p:Q4) (env:Env):
  VH (.DictComp kx vx [⟨t0,i0,f0,0⟩] Qy pos) 0 it (.ref p) env=lH t0 i0 f0 it env (BU kx vx p env) (again (.compLoop (.DictComp kx vx [⟨t0,i0,f0,0⟩] Qy pos) 0 it (.ref p) env)):=by rfl
theorem C_ (hu:X.A.units + 64 < Sy) (hK:X.K=c.K) (own:List Str) (cap:List Nat){kx vx t0 i0:Rz}{f0:List Rz}{Qy:TF}{pos pos':Pos}{gi0:G (List D)}{gt0:GT}{gts0:G Bool}{gk gv:G R}(hi:oB X c t0 i0 gi0)
  (hbody:∀(cl:List (Str×Q4)) (C:Q4) (s:QN) (H:Hp) (fp:List Q4),bE X.env.cells Qy.names []=some cl->iM (aW X own cap Qy cl C s H fp) c t0 gt0/\gw (aW X own cap Qy cl C s H fp) c f0 gts0/\PD (aW X own cap Qy cl C s H fp) c kx gk/\PD (aW X own cap Qy cl C s H fp) c vx gv)
  (hk:Qy.kind=.function) (hno:fq X cap Qy=true) (hnames:(Qy.names.all λx=>!(x.2 == .local) || (Qy.names.lookup x.1 == some .local))=true)
  (hcl:(bE X.env.cells Qy.names []).isSome=true) (hcap:dB X cap=true) (hloc:dH X cap Qy=true) (hnd:fQ cap=true) (Ox:X.calm=true) (hs:∀x,Q_ i0 X.env x=pure x):
  wU X c (λuse=>comprehension (.DictComp kx vx [⟨t0,i0,f0,0⟩] Qy pos) Qy X.env pos' newDict false (eval i0 X.env) use) (iF own.length cap gi0 gt0 gts0 gk gv):=by
 intro Qz s σ H Q use Q0 I h OC
 refine nu (e:=.DictComp kx vx [⟨t0,i0,f0,0⟩] Qy pos) (ob:={cls:=.type "dict",data:=.dict #[]}) (o0:=λa=>j5 a 0 []) (Acc:=A9 c) (N:=1) (lim:=1000000) (m:=λp env=>BU kx vx p env) own cap rfl hi
  (λs Q E q=>Rw q) (λh H=>⟨⟨_,#[],Q7 _ rfl,⟨rfl,rfl,rfl⟩,rfl,.nil⟩,⟨_,Q7 _ rfl⟩,λh1 h2 ⟨o,es,a1,a2⟩ e=>⟨o,es,e o a1,a2⟩⟩) (λp=>qJ) (λp J H hsm h1 h2=>⟨⟨[],[],0,h1,.nil,.nil,⟨rfl,T6,RA _,λ_ h=>(nomatch h)⟩,beq_eq_false_iff_ne.mpr (Tt (Rn hsm)),rfl⟩,h2,QY _⟩) (by decide) (λit p env=>BJ (MY ..)) (λit acc env R s h0 h=>Xp h0 h) (λys z q=>by cases q)
  (fun {p J H J' H' ys r} hp e ⟨h1,h2,h8⟩ q=>by cases q;exact ⟨J',e,⟨p,rfl,h1,h2,hp⟩⟩) (λcl C s H fp hcc=>?_) hk hno hnames hcl hcap hloc hnd Ox hs I h OC
 obtain ⟨b1,b2,b3,b4⟩:=hbody cl C s H fp hcc
 exact ⟨b1,b2,λp J2 H2 hp2 hp0=>Ab hu hK (λ_ _ f=>f) hp2 hp0 b3 b4⟩
theorem s_ (hu:X.A.units + 64 < Sy) (own:List Str) (cap:List Nat){kx vx t0 i0:Rz}{f0:List Rz}{Qy:TF}{pos:Pos}{gi0:G (List D)}{gt0:GT}{gts0:G Bool}{gk gv:G R}(hi:qq X c t0 i0 gi0)
  (hbody:∀(cl:List (Str×Q4)) (C:Q4) (s:QN) (H:Hp) (fp:List Q4),bE X.env.cells Qy.names []=some cl->jY (aW X own cap Qy cl C s H fp) c t0 gt0/\jC (aW X own cap Qy cl C s H fp) c f0 gts0/\QD (aW X own cap Qy cl C s H fp) c kx gk/\QD (aW X own cap Qy cl C s H fp) c vx gv)
  (hk:Qy.kind=.function:=by rfl) (hno:fq X cap Qy=true:=by rfl) (hnames:(Qy.names.all λx=>!(x.2 == .local) || (Qy.names.lookup x.1 == some .local))=true:=by rfl)
  (hcl:(bE X.env.cells Qy.names []).isSome=true:=by rfl) (hcap:dB X cap=true:=by rfl) (hloc:dH X cap Qy=true:=by rfl) (hnd:fQ cap=true:=by rfl) (Ox:X.calm=true:=by rfl)
  (hs:∀x,Q_ i0 X.env x=pure x:=by intro _;rfl) (hK:X.K=c.K:=by rfl):QD X c (.DictComp kx vx [⟨t0,i0,f0,0⟩] Qy pos) (iF own.length cap gi0 gt0 gts0 gk gv):=
 ⟨Nx (C_ hu hK own cap hi.h (λcl C s H fp hc=>let ⟨a,b,d,e⟩:=hbody cl C s H fp hc;⟨a.h,b.h,d.h,e.h⟩) hk hno hnames hcl hcap hloc hnd Ox hs) rfl⟩
theorem BV (i:Nat) (hu:X.A.units + 64 < Sy) (own:List Str) (cap:List Nat){kx vx t0 i0:Rz}{f0:List Rz}{Qy:TF}{pos pos' pos2:Pos}{x:Str}{gi0:G (List D)}{gt0:GT}{gts0:G Bool}{gk gv:G R}(hN:X.N.Nodup) (hi:qq X c t0 i0 gi0)
  (hbody:∀(cl:List (Str×Q4)) (C:Q4) (s:QN) (H:Hp) (fp:List Q4),bE X.env.cells Qy.names []=some cl->jY (aW X own cap Qy cl C s H fp) c t0 gt0/\jC (aW X own cap Qy cl C s H fp) c f0 gts0/\QD (aW X own cap Qy cl C s H fp) c kx gk/\QD (aW X own cap Qy cl C s H fp) c vx gv)
  (hk:Qy.kind=.function:=by rfl) (hno:fq X cap Qy=true:=by rfl) (hnames:(Qy.names.all λx=>!(x.2 == .local) || (Qy.names.lookup x.1 == some .local))=true:=by rfl)
  (hcl:(bE X.env.cells Qy.names []).isSome=true:=by rfl) (hcap:dB X cap=true:=by rfl) (hloc:dH X cap Qy=true:=by rfl) (hnd:fQ cap=true:=by rfl) (Ox:X.calm=true:=by rfl)
  (hs:∀x,Q_ i0 X.env x=pure x:=by intro _;rfl) (hx:X.N[i]?=some x:=by rfl) (OG:X.env.scope.names.lookup x=some .local:=by rfl)
  (hsw:Uo (.DictComp kx vx [⟨t0,i0,f0,0⟩] Qy pos) (some (.Name x pos')) pos2.line X.env=pure true:=by rfl) (hK:X.K=c.K:=by rfl):iD X c (.Assign [.Name x pos'] (.DictComp kx vx [⟨t0,i0,f0,0⟩] Qy pos) pos2) (a_ i (iF own.length cap gi0 gt0 gts0 gk gv)):=
 ⟨FH i hN (C_ hu hK own cap hi.h (λcl C s H fp hc=>let ⟨a,b,d,e⟩:=hbody cl C s H fp hc;⟨a.h,b.h,d.h,e.h⟩) hk hno hnames hcl hcap hloc hnd Ox hs) (λ_=>rfl) hx OG hsw⟩
end
end DL
namespace DL
open PySem PySem.Spec PyProof.Rows L2 DX
open Sem (wp)
section
variable {prog:Rb}{w:RD}{A:RG}{E:QM->QN->Prop}{s:QN}{d it:Q4}{o:Obj}{es:Array YE}{ep i:Nat}
theorem E7 {Q:QM->QN->Prop}(hd:(d == Uv)=false) (ho:s.heap.get? d=some o) (hc:o.ExactDict) (hdat:o.data=.dict es ep)
  (hQ:Q (.ref s.heap.objs.size) {s with heap:=s.heap.push {cls:=.type "dict_keyiterator",data:=.fields #[.ref d,.int 0 0,.int es.size 0,.int ep 0]}}):Rg (Rk prog w) A (WD (.ref d)) Q E s:=by
 have hT:s.TypeIs (.ref d) "dict":=⟨o,ho,hc.1⟩
 refine WQ hT Zx (RL Zx hT F.entry_dict_iter ?_ (F.args_dict_iter_1 _));unfold U1.«dict.__iter__»;refine QJ ?_
 unfold aag;refine QJ (wpAny_notOrdered_dict hT (QL ?_))
 show Rg _ _ (Bind.bind (XQ d) _) _ _ s
 unfold XQ;rw [if_neg (by rw [hd];decide)]
 refine QJ (QL (QJ (WV ho hdat (QJ (XR ho hdat ?_)))))
 exact QJ (Rw (QL ⟨_,rfl,"dict_keyiterator",_,⟨_,Q7 _ rfl,rfl⟩,SI.lookup,by simpa [aal] using hQ⟩))
theorem Fo {Q:Option QM->QN->Prop}(hit:s.heap.IsKeyIter it d i es.size ep) (hod:s.heap.get? d=some o) (OL:o.data=.dict es ep) (hi:i < es.size)
  (hQ:∀h',h'.IsKeyIter it d (i + 1) es.size ep->R_ it s.heap h'->Q (some es[i].key) {s with heap:=h'}):Rg (Rk prog w) A (Vq (.ref it)) Q E s:=by
 obtain ⟨oi,ho,hc,hd⟩:=id hit
 unfold Vq
 refine QJ (Vg (Sj (name:=U5 "__next__") hit.typeIs SI (RL SI hit.typeIs VX ?_ (VN _))))
 refine QJ (QL (QJ (QJ ?_)))
 refine QJ (Th hit.typeIs (QL (QJ (Wx ho hd ?_))))
 have hown:V3 "dict_keyiterator"=false:=by decide
 simp only [hown,Rf,if_false]
 show Rg _ _ (ite ((U_ d == RN)=true) _ _) _ _ s
 rw [if_neg (show ¬((U_ d == RN)=true) from RB)];refine QJ (QL (QJ (WV hod OL ?_)))
 rw [if_neg (by simp)];refine QJ (QL (QJ (XR hod OL ?_)))
 rw [if_neg (by simp)];refine QL ?_
 simp only [show ¬((i:Int) < 0) from by omega,if_false,Sz,T7 hi]
 refine QJ (QJ (Th hit.typeIs (QL ?_)))
 refine QJ (XS hit.typeIs ?_)
 refine QJ (m:=setField (.ref it) 1 (aal ((i:Int) + 1))) (aah ho hd (by simp) ?_)
 have Pa:(s.heap.update it (aaV (·.setIfInBounds 1 (aal ((i:Int) + 1))))).IsKeyIter it d (i + 1) es.size ep:=⟨_,SG _ ho (Obj.isFreed_of_fields (YS hd _)),(Obj.cls_mapFields ..).trans hc,by rw [YS hd];simp [aal]⟩
 refine QJ (Ru (QJ (XS (s:={s with heap:=s.heap.update it (aaV (·.setIfInBounds 1 (aal ((i:Int) + 1))))}) Pa.typeIs ?_)))
 exact QL (QL ⟨_,rfl,QL (hQ _ Pa (Sw ..))⟩)
theorem HL {Q:Option QM->QN->Prop}(hh:A.handled=none) (hit:s.heap.IsKeyIter it d i es.size ep) (hod:s.heap.get? d=some o) (OL:o.data=.dict es ep) (hi:es.size<=i)
  (hQ:∀h',abx it s.heap h'->Q none {s with heap:=h'}):Rg (Rk prog w) A (Vq (.ref it)) Q E s:=by
 obtain ⟨oi,ho,hc,hd⟩:=id hit
 unfold Vq
 refine QJ (Vg (Sj (name:=U5 "__next__") hit.typeIs SI (RL SI hit.typeIs VX ?_ (VN _))))
 refine QJ (QL (QJ (QJ ?_)))
 refine QJ (Th hit.typeIs (QL (QJ (Wx ho hd ?_))))
 have hown:V3 "dict_keyiterator"=false:=by decide
 simp only [hown,Rf,if_false]
 show Rg _ _ (ite ((U_ d == RN)=true) _ _) _ _ s
 rw [if_neg (show ¬((U_ d == RN)=true) from RB)];refine QJ (QL (QJ (WV hod OL ?_)))
 rw [if_neg (by simp)];refine QJ (QL (QJ (XR hod OL ?_)))
 rw [if_neg (by simp)];refine QL ?_
 simp only [show ¬((i:Int) < 0) from by omega,if_false,Sz,Array.getElem?_eq_none hi]
 refine QJ (QJ (Th hit.typeIs (QL ?_)))
 refine QJ (m:=setField (.ref it) 0 .none) (aah ho hd (by simp) ?_)
 refine QJ (m:=newExc (.type "StopIteration") []) ?_
 simp only [newExc,newTuple];refine QJ (Rw ?_ (by size_fits))
 refine QJ (m:=Wy _ _) (U3 (a:=RN) (by first | rfl | (simp only [Wy];rfl)) (Rw ?_ (by size_fits)))
 simp only [raiseNew];refine QJ (aaP ?_)
 rw [show A.in1.handled=none from hh];refine QJ (QL (wpAny_throw ?_))
 exact QJ (VS (T:="StopIteration") (b:=true) ⟨_,Q7 _ rfl,rfl⟩ aaf (QL (hQ _ (((Sw ..).extBut.push _).push _))))
end
end DL
namespace DL
open PySem PySem.Spec PyProof.Rows L2 DX
noncomputable def M0 (a:Q4) (ep:Nat) (QH:List (Int×V×V)):It:=⟨λi H=>H a=some (j5 a ep QH)/\i < QH.length,λi H x H'=>H'=H/\∃p,QH[i]?=some p/\x=p.2.1,λi H=>H a=some (j5 a ep QH)/\QH.length<=i⟩
theorem vj {α β:Type}{F:α->β->Prop}:∀{xs:List α}{ys:List β}{i:Nat}(hi:i < ys.length),WB F xs ys->∃p,xs[i]?=some p/\F p ys[i]
 | _,_,0,_,.cons h _=>⟨_,rfl,h⟩
 | _,_,i + 1,hi,.cons _ t=>vj (i:=i) (by simpa using hi) t
theorem GA {P:Rb}{w:RD}{K:QK}{tg:Rz}(a it:Q4) (ep:Nat) (QH:List (Int×V×V)):Turn P w K tg (M0 a ep QH) [it] it (λi h=>h.IsKeyIter it a i QH.length ep) where
 mem:=by simp
 obj:=λi h st b hb=>by
  cases Q9.mp hb
  obtain ⟨o,e,c,d⟩:=st
  exact ⟨o,e,λv z=>by rw [d] at z;cases z⟩
 keep:=λi h h' st k=>st.at λo e=>k it (by simp) o e
 item:=by
  rintro X rfl rfl rfl hc i Qz s σ H E I hf st ⟨hq,hi⟩
  obtain ⟨o,es,h1,h2,h3,h4⟩:=(show cg X.prog X.w H s.heap a (j5 a ep QH) from I.hok a _ hq).1
  have hl:QH.length=es.size:=by have:=h4.length;simpa using this
  obtain ⟨p,hp,er⟩:=vj (i:=i) (by simp;omega) h4
  obtain ⟨f0,f1,f2,f3,f4,f5⟩:=hf it (by simp)
  refine Fo (es:=es) (ep:=ep) (hl▸st) h1 h3 (by omega) λh' st' sb=>?_
  have I1:Inv X Qz σ H {s with heap:=h'}:=I.turned (t':=s.toks) (λb o hb e=>(sb.2 b hb).trans e) f0 f1 f3 f4 f5
  obtain ⟨oi,e,c,d⟩:=id st'
  exact ⟨_,rfl,wJ (s:={s with heap:=h'}) e c d (by decide) ⟨p.2.1,H,I1,by simpa using er.2.1,⟨rfl,p,hp,rfl⟩,by rw [hl];exact st',λb hb=>(hf b hb).1⟩⟩
 done:=by
  rintro X rfl rfl rfl hc i Qz s σ H E I hf st ⟨hq,hi⟩
  obtain ⟨o,es,h1,h2,h3,h4⟩:=(show cg X.prog X.w H s.heap a (j5 a ep QH) from I.hok a _ hq).1
  have hl:QH.length=es.size:=by have:=h4.length;simpa using this
  obtain ⟨f0,f1,f2,f3,f4,f5⟩:=hf it (by simp)
  exact HL (es:=es) (ep:=ep) (I.ok.hd hc) (hl▸st) h1 h3 (by omega) λh' eb=>⟨rfl,I.turned (t':=s.toks) (λb o hb e=>eb b o hb e) f0 f1 f3 f4 f5⟩
 self:=λ_ _ _ _ _ st h=>wpAny_pyIter_keyiter st h
section
variable {X:Cx}{c:C}{e tg:Rz}{g:G R}
noncomputable def uq (g:G R):G (List D):=λenv=>g env >>= λr=>match rS r with
 | some z=>.ok z.1
 | none=>.bad
theorem Lg {tl:TE}(hl:PE X e tl):PI X tg e (λσ H Q=>tl σ H λx H1=>∃a ep QH,x=.ref a/\(a == Uv)=false/\H1 a=some (j5 a ep QH)/\Q (M0 a ep QH) H1):=λQz s σ H R I h=>bP (hl Qz s σ H _ I h) λv s1 ⟨x,H1,I1,r1,a,ep,QH,ex,hsm,hq,q⟩=>by
 subst ex
 cases r1
 obtain ⟨o,es,h1,h2,h3,h4⟩:=(show cg X.prog X.w H1 s1.heap a (j5 a ep QH) from I1.hok a _ hq).1
 have hl:QH.length=es.size:=by have:=h4.length;simpa using this
 refine E7 hsm h1 h2 h3 ⟨s1.heap.objs.size,[s1.heap.objs.size],_,_,H1,rfl,I1.kept (t':=s1.toks) (λb o e=>QV _ e),GA a _ ep QH,⟨_,Q7 _ rfl,rfl,by rw [hl];rfl⟩,λb hb=>?_,q⟩
 cases Q9.mp hb
 exact I1.fpOk (QY _) (I1.hok.fresh (QY _))
theorem kr (h:QD X c e g) (hK:X.K=c.K:=by rfl):qq X c tg e (uq g):=have h:=h.h;⟨sY (Lg h) λσ H Q ⟨J,env,sr,w⟩=>by
 refine ⟨J,env,sr,aB (aH w) λr wr v J1 H1 e1 r1=>?_⟩
 cases hz:rS r with
 | none=>rw [hz] at wr;exact wr.elim
 | some z=>
  rw [hz] at wr
  obtain ⟨a,rfl,us,ws,ep,h1,h2,h3,h4,h5,h6⟩:=r1.dk (sr.hp.ext e1) hz
  have hh:∀ds:List D,(cB ds).length=ds.length:=λds=>by induction ds with
   | nil=>rfl
   | cons d ds ih=>show (cB ds).length + 1=_;rw [ih];rfl
  have lk:((cB z.1).zip (us.zip ws)).length=z.1.length:=by
   rw [Z3,Z3,hh,<-h2.length,<-h3.length,<-h6];omega
  refine ⟨a,ep,_,rfl,h5,h1,wr _ J1 H1 e1 λi J' H' hp u=>⟨λhl=>⟨u.2 _ _ h1,by omega⟩,λd hd=>?_⟩⟩
  have hi:i < z.1.length:=(Rr.mp hd).1
  obtain ⟨x,k1,k2⟩:=h2.get hd
  refine ⟨⟨u.2 _ _ h1,by omega⟩,λy H2 ⟨e,p,hp',hy⟩=>⟨J',by subst e;exact Ext.refl hp.sub,?_⟩⟩
  have:p.2.1=x:=by
   rw [WA,] at hp'
   have:=(WA.mp hp'.2).1
   rw [k1] at this
   cases this;rfl
  rw [hy,this]
  exact k2.mono u.1⟩
end
end DL
namespace DL
open PySem PySem.Spec PyProof.Rows L2
section
variable {X:Cx}{c:C}{e:Rz}{es:List Rz}{g:G R}{pos p:Pos}{x y:Str}
noncomputable def EE (K:QK) (mg:Str->Option QM) (x:Str):Prop:=∃f,RK K Rt x=some (some (.ref f))/\mg x=some (.ref f)
noncomputable def Dp (y:Str) (F:List S->M R) (g:G R):G R:=λenv=>g env >>= λr=>match F [fS r,.fn y] with
 | .ok r=>.ok (j6 r)
 | _=>.bad
theorem Ga {k k':Nat}{F:List S->M R}{q:Pos}(G:bC X.prog X.w X.K X.mg X.base k 2 x F) (hv:EE X.K X.mg y) (hr:cV k' X.A) (ha:QD X c e g) (hk:k<=k':=by decide) (hT:c.K=X.K:=by rfl) (hg:Gl X x:=by rfl) (Qg:Gl X y:=by rfl)
  (hdb:(x == ("__debug__":Str))=false:=by decide) (Pn:(y == ("__debug__":Str))=false:=by decide) (he:QZ [e,.Name y q] X.env=(false,eval e X.env)::QZ [.Name y q] X.env:=by rfl) (O8:QZ [.Name y q] X.env=(false,eval (.Name y q) X.env)::QZ [] X.env:=by rfl)
  (hpl:(SV pos (QZ [.Name y q] X.env)).any (·.1)=false:=by rfl):QD X c (.Call (.Name x p) [e,.Name y q] [] pos) (Dp y F g):=by
 obtain ⟨f,fd,ps,h1,h2,h3,h4⟩:=G
 obtain ⟨f',h5,h6⟩:=hv
 refine ⟨eV (p_ (E:=E0) h1 (hr.mono hk) hg h2 h3 h4 .nil BR (e_ ha.h (e_ (AB (v:=.ref f') Qg h6 rfl Pn) g9 O8) he) hdb he hpl) λσ H Q ⟨J,env,sr,w⟩=>?_⟩
 refine ⟨J,env,sr,aB (aH w) λr wr v J1 H1 e1 r1=>G9 hT e1 ?_ rfl wr⟩
 obtain ⟨_,_,e,a1,_⟩:=jH.args (rs:=[r]) (vs:=[v]) (sr.hp.ext e1) ⟨v,[],rfl,r1,rfl⟩
 cases e
 exact ⟨v,_,rfl,a1,_,_,rfl,⟨f',rfl,hT▸h5⟩,rfl⟩
noncomputable def Bv (i:Nat) (x:Str) (g g':G R):G R:=λenv=>match env[i]? with
 | some (some (.fn z))=>if z=x then g env else g' env
 | _=>.bad
noncomputable def Bu:G R:=λ_=>.bad
theorem AH:QD X c e Bu:=⟨λ_ _ _ _ _ _ ⟨_,_,_,w⟩=>w.elim⟩
theorem yz (i:Nat){k k' n:Nat}{F:List S->M R}{gs:G (List R)}(G:bC X.prog X.w X.K X.mg X.base k n x F) (hv:EE X.K X.mg x) (hr:cV k' X.A) (ha:jt X c (e::es) gs) (rest:QD X c (.Call (.Name y p) (e::es) [] pos) g) (hk:k<=k':=by decide) (hT:c.K=X.K:=by rfl)
  (hN:X.N[i]?=some y:=by rfl) (hvs:qu X.env.scope y:=by first | exact VJ rfl | exact Uu (VJ rfl) | exact Uu (Uu rfl)) (hd:(y == ("__debug__":Str))=false:=by decide) (hcd:(y == ("__classdict__":Str))=false:=by decide)
  (he:QZ (e::es) X.env=(false,eval e X.env)::QZ es X.env:=by rfl) (hpl:(SV pos (QZ es X.env)).any (·.1)=false:=by rfl):QD X c (.Call (.Name y p) (e::es) [] pos) (Bv i x (gN (aK n F) gs) g):=by
 refine ⟨λQz s σ H Q I ⟨J,env,sr,w⟩=>?_⟩
 obtain ⟨f,fd,ps,h1,h2,h3,h4⟩:=G
 obtain ⟨f',h5,h6⟩:=hv
 have ef:f'=f:=by rw [h2] at h6;cases h6;rfl
 subst ef
 unfold Bv at w
 split at w
 ·rename_i z hz
  split at w
  ·rename_i ez
   subst ez
   obtain ⟨_,hv,_,rfl,q⟩:=sr.at_ i _ hz
   rw [hT,h5] at q
   cases q
   refine Vc (bP (kh hN hvs hd hcd Qz s σ H (λv H1=>v=.ref f'/\H1=H) I ⟨_,hv,rfl,rfl⟩) λu s1 ⟨x',H1,I1,rx,ev,eh⟩=>?_)
   subst ev eh
   cases rx
   refine Yu (h₀:=X.base) I1.ok.mod.kin h3 (bP (ha.h pos Qz s1 σ H1 _ I1 (xC hT σ H1 Q ⟨J,env,sr,w⟩)) λus s2 ⟨vs,H2,I2,r,q⟩=>⟨I2.kIn,?_⟩) he hpl
   exact Ec h1 (hr.mono hk) h4 .nil BR I2 r q
  ·exact rest.h Qz s σ H Q I ⟨J,env,sr,w⟩
 ·exact w.elim
end
end DL
namespace K33
open PySem DL
noncomputable def JF:List Str:=["pairing","pair"]
noncomputable def Dq:G O:=(bH (gN (aK 1 K23.gM) (ao (g2 cY (af 0) (bJ (aA (af 1) aX))) aC)))
noncomputable def oq (as:List S):M R:=fin (Dq (aZ JF as))
noncomputable def zm:List Str:=["one","other","side","point"]
noncomputable def qE:G O:=(aL (b8 (bO (g2 (fN false) (af 2) (gC (.int 0)))) (bH (bM 1 [3] (cj (ao (g2 bg (af 1) (gC (.int 0))) aC)) (aD 0) cF (bJ (aA (af 1) (aA (af 0) aX))))) dS)
 (bH (bM 1 [3] (cj (ao (g2 bg (af 0) (gC (.int 0))) aC)) (aD 0) cF (bJ (aA (af 0) (aA (af 1) aX))))))
noncomputable def gq (as:List S):M R:=fin (qE (aZ zm as))
noncomputable def CA:List Str:=["one","other"]
noncomputable def vc:G O:=(bH (g2 dD (bM 1 [] (cj (ao (g2 bg (af 0) (gC (.int 0))) aC)) (aD 0) cF (bJ (aA (gC (.int 0)) (aA (af 0) aX)))) (bM 1 [] (cj (ao (g2 bg (af 1) (gC (.int 0))) aC)) (aD 0) cF (bJ (aA (gC (.int 1)) (aA (af 0) aX))))))
noncomputable def kP (as:List S):M R:=fin (vc (aZ CA as))
noncomputable def Cy:List Str:=["one","other","pairing","known","grown"]
noncomputable def u7:G O:=(aL (a_ 4 (jX 2 [0,1,2] (cj (ao (g2 bg (af 0) (gC (.int 0))) aC)) (aD 0) cF (oO (gN (aK 4 K33.gq) (ao (af 2) (ao (af 3) (ao (gC (.int 0)) (ao (af 0) aC)))))) (aD 1) cF (af 1) (gN (aK 2 K33.oq) (ao (af 4) (ao (af 1) aC)))))
 (bH (bM 2 [0,1,4,3] (fO (gN (aK 2 K33.kP) (ao (af 0) (ao (af 1) aC)))) (eW 2 (bI (aD 0) (bI (aD 1) fC))) cF (bM 1 [4,5] (fO (gN (aK 4 K33.gq) (ao (af 2) (ao (af 3) (ao (af 0) (ao (af 1) aC)))))) (aD 0) (bO (g2 (nD false) (g2 gW (af 1) (af 0)) (af 2))) (g2 gW (af 1) (af 0))))))
noncomputable def kN (as:List S):M R:=fin (u7 (aZ Cy as))
noncomputable def rL:List Str:=["rows","depths"]
noncomputable def kY:G O:=(bH (gN qN (ao (bM 1 [1] (fO (af 0)) (aD 0) cF (gN xU (ao (bM 1 [1] (fO (af 0)) (aD 0) cF (g2 (oM false) (g2 gW (af 1) (af 0)) (gC .non))) aC))) aC)))
noncomputable def dI (as:List S):M R:=fin (kY (aZ rL as))
noncomputable def zU:List Str:=["rows","stays","depths","depth","gone","pairing"]
noncomputable def uv:G O:=(aL (a_ 2 (iF 1 [] (uq (af 0)) (aD 0) cF (af 0) (gC .non)))
 (aL (a_ 3 (gC (.int 1)))
 (aL (a_ 4 (bM 1 [1,0,2] (uq (af 0)) (aD 0) (ir (bO (Bv 1 "answered_still" (gN (aK 2 K33.dI) (ao (g2 gW (af 2) (af 0)) (ao (af 3) aC))) Bu))) (af 0)))
 (aL (x_ 400000 (ur (af 4)) (aL (jD 4 (gF (oO (af 4)) (aD 5) (x6 2 (af 5) (af 3))))
 (aL (uo 3 xT (gC (.int 1)))
 (a_ 4 (bM 1 [2,1,0] (uq (af 0)) (aD 0) (jf (bO (g2 (oM false) (g2 gW (af 1) (af 0)) (gC .non))) (ir (bO (Bv 2 "answered_still" (gN (aK 2 K33.dI) (ao (g2 gW (af 3) (af 0)) (ao (af 1) aC))) Bu)))) (af 0))))))
 (bH (af 2))))))
noncomputable def mq (as:List S):M R:=fin (uv (aZ zU as))
noncomputable def t7:List Str:=["one","other","base"]
noncomputable def mJ:G O:=(bH (bM 1 [2] (fO (gN (aK 3 K23.kO) (ao (af 0) (ao (af 1) (ao (gC (.int 4)) aC))))) (aD 0) (bO (gN qN (ao (bM 1 [0] (fO (af 1)) (aD 0) cF (g2 (gT false) (af 0) (af 1))) aC))) (af 0)))
noncomputable def gK (as:List S):M R:=fin (mJ (aZ t7 as))
noncomputable def rM:List Str:=["one","other","base","known","rows"]
noncomputable def kZ:G O:=(aL (a_ 3 (iF 1 [] (fO (gN (aK 3 K33.gK) (ao (af 0) (ao (af 1) (ao (af 2) aC))))) (aD 0) cF (af 0) (gC (.bl true))))
 (aL (a_ 4 (iF 1 [0,1,3] (uq (af 3)) (aD 0) cF (af 0) (gN (aK 4 K33.kN) (ao (af 1) (ao (af 2) (ao (af 0) (ao (af 3) aC)))))))
 (bH (Dp "answered_still" K33.mq (af 4)))))
noncomputable def dJ (as:List S):M R:=fin (kZ (aZ rM as))
noncomputable def uN:List Str:=["depths","pairing","depth"]
noncomputable def u5:G O:=(bH (pU (g2 (nD false) (af 1) (af 0)) (qP (g2 (oM false) (g2 gW (af 0) (af 1)) (gC .non)) (g2 (i8 λi j=>.bl (decide (j < i))) (g2 gW (af 0) (af 1)) (af 2)))))
noncomputable def kM (as:List S):M R:=fin (u5 (aZ uN as))
noncomputable def A2:List Str:=["depths","depth"]
noncomputable def sG:G O:=(bH (bM 1 [0] (cj (ao (g2 dD (af 1) (gC (.int 1))) aC)) (aD 0) cF (bM 1 [1,0] (uq (af 1)) (aD 0) (bO (gN (aK 3 K33.kM) (ao (af 1) (ao (af 0) (ao (af 2) aC))))) (af 0))))
noncomputable def jJ (as:List S):M R:=fin (sG (aZ A2 as))
noncomputable def Hr:List Str:=["one","other","depth"]
noncomputable def Am:G O:=(aL (jo (gN (aK 2 K23.dX) (ao (af 0) (ao (af 1) aC))))
 (aL (jo (gN (aK 3 K55.fH) (ao (af 2) (ao (gC (.int 0)) (ao (gC (.int 6)) aC)))))
 (bH (gN (aK 2 K33.jJ) (ao (gN (aK 3 K33.dJ) (ao (af 0) (ao (af 1) (ao (bJ aX) aC)))) (ao (af 2) aC))))))
noncomputable def pR (as:List S):M R:=fin (Am (aZ Hr as))
end K33
namespace K33
open PySem DL K01 WP K51 K52 K55 K23
noncomputable abbrev Ps:=List (Nat×Nat)
section
variable {κ:Type}{rows:κ->List (List κ)}{i j d e:Nat}{k:κ}{ks:List κ}
noncomputable def LY (rows:κ->List (List κ)):Nat->κ->Bool
 | 0,_=>true
 | j + 1,k=>LY rows j k && (rows k).all λr=>r.any (LY rows j)
theorem tZ:LY rows (j + 1) k=true↔LY rows j k=true/\∀r∈rows k,∃x∈r,LY rows j x=true:=by
 show (LY rows j k && _)=true↔_
 simp only [QX,RJ,Tf]
theorem tY (h:i<=j) (q:LY rows j k=true):LY rows i k=true:=by
 induction h with
 | refl=>exact q
 | step _ ih=>exact ih (tZ.mp q).1
noncomputable def dA (rows:κ->List (List κ)) (d:Nat) (k:κ):Option Nat:=(QU (d + 1)).find? λj=>!LY rows j k
theorem je:dA rows d k=none↔LY rows d k=true:=by
 unfold dA
 rw [Wq]
 constructor
 ·intro h;simpa using h d (by simp)
 ·intro h j hj
  rw [tY (by have:=Ri.mp hj;omega) h]
  decide
theorem HH (h:dA rows d k=some e):LY rows e k=false/\∀i,i < e->LY rows i k=true:=by
 obtain ⟨h1,_,h2⟩:=U9.mp h
 exact ⟨by simpa using h1,λi hi=>by simpa using h2 i hi⟩
theorem HJ:dA rows (d + 1) k=if (LY rows d k && !LY rows (d + 1) k)=true then some (d + 1) else dA rows d k:=by
 have e:dA rows (d + 1) k=(dA rows d k).or ([d + 1].find? λj=>!LY rows j k):=by
  show (QU (d + 1 + 1)).find? _=_
  rw [We,List.find?_append];rfl
 rw [e]
 cases q:dA rows d k with
 | none=>
  rw [je.mp q]
  cases z:LY rows (d + 1) k <;> simp [List.find?,z]
 | some e=>
  have:LY rows d k=false:=by
   cases z:LY rows d k with
   | false=>rfl
   | true=>rw [je.mpr z] at q;cases q
  rw [this];rfl
theorem Gx (hc:∀k∈ks,∀r∈rows k,∀x∈r,x∈ks) (h:∀k∈ks,LY rows d k=true->LY rows (d + 1) k=true):∀j,∀k∈ks,LY rows d k=true->LY rows j k=true
 | 0,_,_,_=>rfl
 | j + 1,k,hk,q=>tZ.mpr ⟨Gx hc h j k hk q,λr hr=>by
  obtain ⟨x,h1,h2⟩:=(tZ.mp (h k hk q)).2 r hr
  exact ⟨x,h1,Gx hc h j x (hc k hk r hr x h1) h2⟩⟩
noncomputable def vd (o:Option Nat) (j:Nat):Bool:=match o with
 | none=>true
 | some e=>decide (j < e)
theorem Kl (hs:∀j,LY rows d k=true->LY rows j k=true):vd (dA rows d k) j=LY rows j k:=by
 cases q:dA rows d k with
 | none=>exact (hs j (je.mp q)).symm
 | some e=>
  obtain ⟨h1,h2⟩:=HH q
  show decide (j < e)=_
  by_cases c:j < e
  ·rw [h2 j c,decide_eq_true c]
  ·cases z:LY rows j k with
   | false=>exact decide_eq_false c
   | true=>rw [tY (by omega) z] at h1;cases h1
theorem wD {rows':κ->List (List κ)}(hc:∀k∈ks,∀r∈rows k,∀x∈r,x∈ks) (he:∀k∈ks,rows k=rows' k):∀j,∀k∈ks,LY rows j k=LY rows' j k
 | 0,_,_=>rfl
 | j + 1,k,hk=>by
  rw [R5,tZ,tZ,wD hc he j k hk,<-he k hk]
  refine and_congr abV ⟨λh r hr=>?_,λh r hr=>?_⟩ <;> obtain ⟨x,h1,h2⟩:=h r hr <;> refine ⟨x,h1,?_⟩
  ·rw [<-wD hc he j x (hc k hk r hr x h1)];exact h2
  ·rw [wD hc he j x (hc k hk r hr x h1)];exact h2
end
noncomputable def iY (ps:Ps):Ps:=(cR (ps.map dP)).map kK
theorem tQ (ps:Ps):∀d∈ps.map dP,i_ pF d:=λd hd=>by obtain ⟨x,_,rfl⟩:=QT.mp hd;exact oV x
theorem pN (ps:Ps):(iY ps).map dP=cR (ps.map dP):=back dP kK jP λd hd=>by
 obtain ⟨x,_,rfl⟩:=QT.mp ((lF (fD pF) (tQ ps)).2 d hd);exact ⟨x,rfl⟩
theorem GS {p:Nat×Nat}{ps:Ps}:dP p∈ps.map dP↔p∈ps:=by
 rw [QT]
 exact ⟨λ⟨q,h,e⟩=>by rw [<-jP p,<-e,jP];exact h,λh=>⟨p,h,rfl⟩⟩
theorem pZ {ps:Ps}{q:Nat×Nat}:q∈iY ps↔q∈ps:=by
 rw [<-GS,pN,(kH (fD pF) (tQ ps)).2,GS]
theorem Ei (ps:Ps):(iY ps).Pairwise jy:=by
 have:=(kH (fD pF) (tQ ps)).1
 rw [<-pN,RP] at this
 exact this.imp fun {a b} h=>(wM a b).mp h
theorem Mc {A B:Ps}(hA:A.Pairwise jy) (hB:B.Pairwise jy) (h:∀y,y∈A↔y∈B):A=B:=by
 have up:∀{C:Ps},C.Pairwise jy->(C.map dP).Pairwise λa b=>dU a b=true:=fun {C} hC=>RP.mpr (hC.imp fun {a b} h=>(wM a b).mpr h)
 have e:=za (fD pF) (tQ A) (up hA) (up hB) λy=>by
  rw [QT,QT]
  exact ⟨λ⟨q,a,b⟩=>⟨q,(h q).mp a,b⟩,λ⟨q,a,b⟩=>⟨q,(h q).mpr a,b⟩⟩
 have:=congrArg (abD kK) e
 simpa only [Rv,WU,jP,List.map_id'] using this
section
variable {v w:Wd}{ps qs S:Ps}{p:Nat×Nat}{n j:Nat}
structure zT (v w:Wd) (S:Ps):Prop where
 ag:∀p∈S,∀q∈S,zQ v w p q
 rg:∀p∈S,qp v w p
theorem zT.sub (h:zT v w S) (hs:∀p∈ps,p∈S):zT v w ps:=⟨λp hp q hq=>h.ag p (hs p hp) q (hs q hq),λp hp=>h.rg p (hs p hp)⟩
theorem E3 (hu:ps.Pairwise jy):Good v w ps↔zT v w ps:=⟨λg=>⟨g.ag,g.rg⟩,λf=>⟨hu.imp_of_mem fun {a b} ha hb h=>by
 have:=(f.ag a ha b hb).eq
 unfold jy at h
 omega,f.ag,f.rg⟩⟩
theorem qQ (g:Good v w ps):ps.length<=v.m:=by
 have h:=Rp (l₁:=ps.map Sk) (l₂:=QU v.m) (RP.mpr (g.up.imp λh=>by omega)) λx hx=>by
  obtain ⟨p,hp,rfl⟩:=QT.mp hx
  exact Ri.mpr (g.rg p hp).1
 simpa using h
noncomputable abbrev T4 (v w:Wd):List Ps:=told v w 4
theorem sU (t:Pr v w):ps∈T4 v w↔Good v w ps:=by
 rw [uK]
 constructor
 ·rintro ⟨j,_,h⟩;exact ((sS j).mp h).2
 ·intro g;exact ⟨ps.length,RE (qQ g) t.v4,(sS _).mpr ⟨rfl,g⟩⟩
theorem GH (v w:Wd):∀j,(LG v w j).Nodup
 | 0=>Ul _ _
 | j + 1=>by
  refine XN.mpr ⟨λah _=>RP.mpr ?_,(GH v w j).imp_of_mem fun {a b} _ _ hab x hx y hy e=>?_⟩
  ·exact (((nJ v.m w.m).filter _).filter _).imp λh e=>h (by simpa using e)
  ·obtain ⟨p,_,rfl⟩:=QT.mp hx
   obtain ⟨q,_,rfl⟩:=QT.mp hy
   exact hab (List.append_inj' e rfl).1
theorem AQ (v w:Wd):∀j,(told v w j).Nodup
 | 0=>Ul _ _
 | j + 1=>VC.mpr ⟨AQ v w j,GH v w (j + 1),λa ha b hb e=>by
  obtain ⟨i,hi,h⟩:=(uK j).mp ha
  have h1:=(rG i h).1
  have h2:=(rG (j + 1) hb).1
  rw [e] at h1
  omega⟩
noncomputable def eG (ps:Ps) (p:Nat×Nat):Ps:=iY (ps++[p])
theorem pY {q:Nat×Nat}:q∈eG ps p↔q∈ps\/q=p:=by unfold eG;rw [pZ];simp
theorem Mf (t:Pr v w):eG ps p∈T4 v w↔zT v w (ps++[p]):=by
 rw [sU t,eG,E3 (Ei _)]
 exact ⟨λh=>h.sub λq hq=>pZ.mpr hq,λh=>h.sub λq hq=>pZ.mp hq⟩
noncomputable def kn (v w:Wd) (B:Ps):List Ps:=(T4 v w).filter λps=>B.all λq=>decide (q∈ps)
theorem kg {B:Ps}:ps∈kn v w B↔ps∈T4 v w/\∀q∈B,q∈ps:=by
 unfold kn
 rw [RI,RJ]
 simp
noncomputable def picks (v w:Wd):Ps:=(QU v.m).map (λa=>(0,a))++(QU w.m).map λb=>(1,b)
noncomputable def ly (v w:Wd) (k:Nat×Nat):Ps:=if k.1=0 then (QU w.m).map λb=>(k.2,b) else (QU v.m).map λa=>(a,k.2)
noncomputable def RW (v w:Wd) (B ps:Ps):List (List Ps):=(picks v w).map λk=>((ly v w k).map (eG ps)).filter λx=>decide (x∈kn v w B)
theorem A6 {B:Ps}:∀k∈kn v w B,∀r∈RW v w B k,∀x∈r,x∈kn v w B:=λk _ r hr x hx=>by
 obtain ⟨_,_,rfl⟩:=QT.mp hr
 simpa using (RI.mp hx).2
theorem Me {B:Ps}:∀k∈kn v w B,RW v w B k=RW v w [] k:=λk hk=>Um λa _=>Ze λx hx=>by
 obtain ⟨p,_,rfl⟩:=QT.mp hx
 rw [R5,decide_eq_true_eq,decide_eq_true_eq,kg,kg]
 exact ⟨λh=>⟨h.1,λ_ h=>nomatch h⟩,λh=>⟨h.1,λq hq=>pY.mpr (.inl ((kg.mp hk).2 q hq))⟩⟩
noncomputable def La (v w:Wd) (j:Nat) (ps:Ps):Bool:=LY (RW v w []) j ps
theorem Ng {B:Ps}(h:ps∈kn v w B):LY (RW v w B) j ps=La v w j ps:=wD A6 Me j ps h
theorem JE:La v w (j + 1) ps=true↔La v w j ps=true/\∀k∈picks v w,∃p∈ly v w k,eG ps p∈T4 v w/\La v w j (eG ps p)=true:=by
 show LY _ (j + 1) ps=true↔_
 rw [tZ]
 refine and_congr abV ⟨λh k hk=>?_,λh r hr=>?_⟩
 ·obtain ⟨x,h1,h2⟩:=h _ (QT.mpr ⟨k,hk,rfl⟩)
  obtain ⟨h3,h4⟩:=RI.mp h1
  obtain ⟨p,h5,rfl⟩:=QT.mp h3
  exact ⟨p,h5,(kg.mp (of_decide_eq_true h4)).1,h2⟩
 ·obtain ⟨k,hk,rfl⟩:=QT.mp hr
  obtain ⟨p,h1,h2,h3⟩:=h k hk
  exact ⟨_,RI.mpr ⟨QT.mpr ⟨p,h1,rfl⟩,decide_eq_true (kg.mpr ⟨h2,λ_ h=>nomatch h⟩)⟩,h3⟩
end
end K33
namespace K33
open PySem DL K01 WP K51 K52 K55 K23 K22
section
variable {α:Type} [DecidableEq α] {e:α->D}{f:α->D}{ks:List α}{k:α}{d:D}
theorem mO (he:∀a b,bu (e a) (e b)=decide (a=b)) (f:α->D):∀(ks:List α) (k:α),gm (ks.map e) (ks.map f) (e k)=if k∈ks then some (f k) else none
 | [],_=>rfl
 | a::ks,k=>by
  rw [Ra,Ra,gm,he,mO he f ks k]
  by_cases h:a=k
  ·subst h;simp
  ·rw [if_neg (by simpa using h)]
   simp [Tt h]
theorem AE (he:∀a b,bu (e a) (e b)=decide (a=b)) (f:α->D) (k:α) (d:D):∀ks:List α,uD (ks.map e) (ks.map f) (e k) d=ks.map λx=>if x=k then d else f x
 | []=>rfl
 | a::ks=>by
  rw [Ra,Ra,uD,he,AE he f k d ks,Ra]
  simp only [decide_eq_true_eq]
theorem EV (he:∀a b,bu (e a) (e b)=decide (a=b)) (hk:k∈ks):dput (ks.map e,ks.map f) (e k) d=(ks.map e,ks.map λx=>if x=k then d else f x):=by
 unfold dput
 simp only
 rw [mO he,if_pos hk,AE he]
 rfl
theorem um (he:∀a b,bu (e a) (e b)=decide (a=b)) (f:α->D):∀(n:Nat) (ks:List α),ks.length=n->ks.Nodup->iE (ks.map λk=>D.tup [e k,f k])=(ks.map e,ks.map f)
 | 0,ks,h,_=>by rw [Tr.mp h];rfl
 | n + 1,ks,h,nd=>by
  rcases TY ks with rfl | ⟨qs,p,rfl⟩
  ·cases h
  ·rw [TZ] at h nd ⊢
   have nd':=VC.mp nd
   have hp:p∉qs:=λhq=>nd'.2.2 p hq p (by simp) rfl
   rw [Ro,Ro,Ro,Ra,VI,nv,um he f n qs (by simpa using h) nd'.1]
   unfold dput
   simp only
   rw [mO he,if_neg hp]
   rfl
end
theorem h_ (a b:Ps):bu (aS a) (aS b)=decide (a=b):=by
 show cu (a.map dP) (b.map dP)=_
 induction a generalizing b with
 | nil=>cases b <;> simp [cu]
 | cons x a ih=>
  cases b with
  | nil=>simp [cu]
  | cons y b=>rw [Ra,Ra,gP,ih,K55.uU,R5];simp
theorem Kn {m:Md}(p:Ps) (L:List Ps) (x:R) (hx:g8 x=.ok (L.map aS)):gT false (.d (aS p)) x=.ok (.d (.bl (decide (p∈L)))):=by
 have h1:∀q:Ps,dep (aS q)<=60:=Lj
 unfold gT
 rw [hx,aN,if_pos ⟨fL λd hd=>by obtain ⟨q,_,rfl⟩:=QT.mp hd;exact h1 q,h1 p⟩]
 have:inD (aS p) (L.map aS)=decide (p∈L):=by
  unfold inD
  rw [Wo,R5,Tf,decide_eq_true_eq]
  simp only [WU,h_,decide_eq_true_eq]
  exact ⟨λ⟨x,h,e⟩=>e▸h,λh=>⟨p,h,rfl⟩⟩
 show M.ok (R.d (.bl (inD (aS p) (L.map aS))))=_
 rw [this]
theorem rD (ps:Ps) (hl:ps.length < 64):gM [.d (aS ps)]=.ok (.d (aS (iY ps))):=by
 refine cA (dW (eT (b:=false) rfl rfl rfl) (bN (n1 (n1 (x:=.d (aS ps)) (z:=.l .fresh (cR (ps.map dP))) rfl (Gp ps hl)) rfl) rfl ?_))
 rw [<-pN]
theorem Eh {ps:Ps}(h:ps.Pairwise jy):iY ps=ps:=Mc (Ei ps) h λ_=>pZ
theorem JU (ps:Ps) (p:Nat×Nat) (hl:ps.length < 63):cY (.d (aS ps)) (.d (.tup [dP p]))=.ok (.d (aS (ps++[p]))):=by
 rw [aS,qh _ _ (by simp;omega),aS,Ro];rfl
theorem Hi (ps:Ps) (p:Nat×Nat) (hl:ps.length < 63):oq [.d (aS ps),.d (dP p)]=.ok (.d (aS (eG ps p))):=
 cA (bN (c1 (two rfl (bD (aI rfl rfl bx) (by show 1<=1000;decide)) (JU ps p hl)) (rD _ (by simp;omega))) rfl rfl)
section
variable {v w:Wd}
theorem Jy (hv:v.m<=1000) (hw:w.m<=1000) (s x:Nat):gq [.d v.d,.d w.d,.d (.int s),.d (.int x)]=.ok (.l .fresh ((ly v w (s,x)).map dP)):=by
 have hb:fN false (.d (.int (s:Int))) (.d (.int 0))=.ok (.d (.bl (decide (s=0)))):=by
  rw [K01.eq_int]
  congr 3
  rw [R5];simp
 unfold ly
 by_cases h:s=0
 ·rw [if_pos h,Rv]
  exact cA (cC (ia (eT rfl rfl (hb.trans (by rw [decide_eq_true h]))) (bN (j4 (λb=>dP (x,b)) (iB (cS (two rfl rfl (gy _ _))) hw) (by simp;omega) λb _=>⟨_,bD (aI rfl rfl (aI rfl rfl bx)) t2,rfl⟩) rfl rfl)))
 ·rw [if_neg h,Rv]
  exact cA (dW (eT rfl rfl (hb.trans (by rw [decide_eq_false h]))) (bN (j4 (λa=>dP (a,x)) (iB (cS (two rfl rfl (gy _ _))) hv) (by simp;omega) λb _=>⟨_,bD (aI rfl rfl (aI rfl rfl bx)) t2,rfl⟩) rfl rfl))
theorem Hl (hv:v.m<=1000) (hw:w.m<=1000):kP [.d v.d,.d w.d]=.ok (.l .fresh ((picks v w).map dP)):=by
 refine cA (bN (two (j4 (λa=>dP (0,a)) (iB (cS (two rfl rfl (gy _ _))) hv) (by simp;omega) λb _=>⟨_,bD (aI rfl rfl (aI rfl rfl bx)) t2,rfl⟩) (j4 (λa=>dP (1,a)) (iB (cS (two rfl rfl (gy _ _))) hw) (by simp;omega) λb _=>⟨_,bD (aI rfl rfl (aI rfl rfl bx)) t2,rfl⟩) (z:=.l .fresh ((picks v w).map dP)) ?_) rfl rfl)
 unfold picks
 rw [Ro,Rv,Rv]
 show (if _<=sizeLine then _ else M.bad)=_
 rw [if_pos (by rw [RS];simp;omega)]
 rfl
end
section
variable {α:Type} [DecidableEq α] {e f:α->D}{ks:List α}{k:α}{env:Ev}
theorem M5 {act:Ev->M (List D×Ev)}{h f:α->D}{rest:Ev}:∀(ys:List α),(∀y∈ys,act (some (.d (h y))::rest)=.ok ([f y],some (.d (h y))::rest))->∀z:Option S,∃z',bV (aD 0) cF act (ys.map h) (z::rest)=.ok (ys.map f,z'::rest)
 | [],_,z=>⟨z,rfl⟩
 | y::ys,H,z=>by
  obtain ⟨z',ih⟩:=M5 ys (λy hy=>H y (QS _ hy)) (some (.d (h y)))
  refine ⟨z',?_⟩
  rw [Ra]
  unfold bV
  show (act (some (.d (h y))::rest) >>= _)=_
  rw [H y QW,aN]
  show (bV (aD 0) cF act (ys.map h) (some (.d (h y))::rest) >>= _)=_
  rw [ih]
  rfl
theorem xN {cap:List Nat}{gi:G (List D)}{gk gv:G R}(he:∀a b,bu (e a) (e b)=decide (a=b)) (nd:ks.Nodup) (hi:gi env=.ok (ks.map e)) (hl:ks.length<=1000000)
  (hb:∀k∈ks,dg (e k)=true/\gk (some (.d (e k))::cE 0 cap env)=.ok (.d (e k))/\∃r,gv (some (.d (e k))::cE 0 cap env)=.ok r/\toD r=.ok (f k)):iF 1 cap gi (aD 0) cF gk gv env=.ok (.mf (ks.map e) (ks.map f)):=by
 obtain ⟨z,h⟩:=M5 (act:=qL gk gv) (h:=e) (f:=λk=>.tup [e k,f k]) (rest:=cE 0 cap env) ks (λk hk=>by
  obtain ⟨h1,h2,r,h3,h4⟩:=hb k hk
  exact t9 h2 rfl h3 h4 h1) none
 unfold iF iS
 rw [hi,aN,if_pos (by rw [QO];exact hl)]
 show (bV (aD 0) cF (qL gk gv) (ks.map e) (none::cE 0 cap env) >>= _)=_
 rw [h]
 show M.ok (R.mf (iE _).1 (iE _).2)=_
 rw [um he f _ ks rfl nd]
theorem mC (he:∀a b,bu (e a) (e b)=decide (a=b)){x:R}(hx:rS x=some (ks.map e,ks.map f)) (ok:dg (e k)=true) (hk:k∈ks):gW x (.d (e k))=.ok (.d (f k)):=by
 unfold gW
 rw [hx]
 simp only
 rw [if_pos ok,mO he,if_pos hk]
theorem Aq (he:∀a b,bu (e a) (e b)=decide (a=b)){x:R}(hx:rS x=some (ks.map e,ks.map f)) (ok:dg (e k)=true){q:Decidable (k∈ks)}:nD false (.d (e k)) x=.ok (.d (.bl (@decide (k∈ks) q))):=by
 unfold nD
 rw [hx]
 simp only
 rw [if_pos ok,mO he]
 by_cases h:k∈ks <;> simp [h]
end
theorem anyM {α:Type}(f:α->Bool) (xs:List α):xU [.l .fresh (xs.map λx=>.bl (f x))]=.ok (.d (.bl (xs.any f))):=by
 have:=ud (λd=>match d with
  | .bl b=>b
  | _=>false) (xs.map λx=>.bl (f x))
 rw [Rv,Rv] at this
 unfold xU
 show (match jm (xs.map λx=>.bl (f x)) with
  | some ks=>M.ok (R.d (.bl (ks.any id)))
  | none=>.bad)=_
 rw [show jm (xs.map λx=>.bl (f x))=some (xs.map f) from this]
 simp [Wo]
section
variable {v w:Wd}
noncomputable abbrev pq (r:List Ps):D:=.lst (r.map aS)
theorem L_ (t:Pr v w) (ks:List Ps) (ps:Ps) (hl:ps.length < 63):kN [.d v.d,.d w.d,.d (aS ps),.db (ks.map aS) (ks.map λ_=>.bl true)]=.ok (.l .fresh (((picks v w).map λk=>((ly v w k).map (eG ps)).filter λx=>decide (x∈ks)).map pq)):=by
 have v4:=t.v4
 have w4:=t.w4
 have hg:jX 2 [0,1,2] (cj (ao (g2 bg (af 0) (gC (.int 0))) aC)) (aD 0) cF (oO (gN (aK 4 K33.gq) (ao (af 2) (ao (af 3) (ao (gC (.int 0)) (ao (af 0) aC)))))) (aD 1) cF (af 1) (gN (aK 2 K33.oq) (ao (af 4) (ao (af 1) aC)))
   [some (.d v.d),some (.d w.d),some (.d (aS ps)),some (.db (ks.map aS) (ks.map λ_=>.bl true)),none]=.ok (.d (.dct ((dQ v.m w.m).map dP) ((dQ v.m w.m).map λq=>aS (eG ps q)))):=by
  refine (wG (xs:=QU v.m) (h:=dN) (h':=dP) (λa=>(QU w.m).map λb=>(a,b)) (λ_ _=>true) (λ_ q=>.tup [dP q,aS (eG ps q)]) (iB (cS (two rfl rfl (gy _ _))) (by omega)) (by simp;omega) λa ha=>⟨by simp;omega,λz=>?_,λq hq=>⟨rfl,λ_=>t9 rfl rfl (c2 rfl rfl (Hi ps q hl)) rfl rfl⟩⟩).trans ?_
  ·show (gN _ _ _ >>= _)=_
   rw [c4 rfl rfl rfl rfl (Jy (v:=v) (w:=w) (by omega) (by omega) 0 a)]
   rfl
  ·have e:((QU v.m).flatMap λa=>(((QU w.m).map λb=>(a,b)).filter λ_=>true).map λq=>D.tup [dP q,aS (eG ps q)])=(dQ v.m w.m).map λq=>D.tup [dP q,aS (eG ps q)]:=by
    unfold dQ
    rw [VV]
    congr 1
    funext a
    rw [Wi.mpr λ_ _=>rfl]
   rw [e]
   show M.ok (R.d (.dct (iE _).1 (iE _).2))=_
   rw [um K55.uU _ _ _ rfl (nJ v.m w.m)]
 refine cA (br hg rfl (bN (kW (xs:=picks v w) (λk=>dN k.1) (λk=>dN k.2) (λk=>pq (((ly v w k).map (eG ps)).filter λx=>decide (x∈ks))) ?_ (by unfold picks;simp;omega) λk hk=>?_) rfl (by rw [Rv];rfl)))
 ·show (gN _ _ _ >>= _)=_
  rw [c2 rfl rfl (Hl (v:=v) (w:=w) (by omega) (by omega))]
  rfl
 ·have hin:∀q∈ly v w k,q∈dQ v.m w.m:=λq hq=>by
   rw [nI]
   have hk:(k.1=0/\k.2 < v.m)\/(k.1≠0/\k.2 < w.m):=by
    unfold picks at hk
    simp only [Rx,QT,Ri] at hk
    rcases hk with ⟨a,h,rfl⟩ | ⟨a,h,rfl⟩
    ·exact .inl ⟨rfl,h⟩
    ·exact .inr ⟨Nat.one_ne_zero,h⟩
   unfold ly at hq
   rcases hk with ⟨h1,h2⟩ | ⟨h1,h2⟩
   ·rw [if_pos h1] at hq
    obtain ⟨b,hb,rfl⟩:=QT.mp hq
    exact ⟨h2,Ri.mp hb⟩
   ·rw [if_neg h1] at hq
    obtain ⟨b,hb,rfl⟩:=QT.mp hq
    exact ⟨Ri.mp hb,h2⟩
  refine ⟨.l .fresh (((((ly v w k).map (eG ps)).filter λx=>decide (x∈ks))).map aS),?_,rfl⟩
  rw [Z2,Rv]
  refine kU (xs:=ly v w k) (h:=dP) (λq=>decide (eG ps q∈ks)) (λq=>aS (eG ps q)) ?_ (by unfold ly;split <;> simp <;> omega) λq hq=>?_
  ·show (gN _ _ _ >>= _)=_
   rw [c4 rfl rfl rfl rfl (Jy (v:=v) (w:=w) (by omega) (by omega) k.1 k.2)]
   rfl
  ·have hd:=mC (e:=dP) (f:=λq=>aS (eG ps q)) K55.uU (x:=.d (.dct ((dQ v.m w.m).map dP) ((dQ v.m w.m).map λq=>aS (eG ps q)))) rfl (k:=q) rfl (hin q hq)
   exact ⟨eT (two rfl rfl hd) rfl (Aq (ks:=ks) (f:=λ_=>.bl true) h_ (x:=.mb (ks.map aS) (ks.map λ_=>.bl true)) rfl (gG (eG ps q))),λ_=>⟨_,two rfl rfl hd,rfl⟩⟩
end
noncomputable def dV:Option Nat->D
 | none=>.non
 | some e=>.int e
theorem BC (o:Option Nat):oM false (.d (dV o)) (.d .non)=.ok (.d (.bl o.isNone)):=by cases o <;> rfl
theorem Hq (rs:List (List Ps)) (ks:List Ps) (f:Ps->Option Nat) (h:∀r∈rs,∀x∈r,x∈ks) (h1:rs.length<=1000) (h2:∀r∈rs,r.length<=1000):dI [.d (.lst (rs.map pq)),.db (ks.map aS) (ks.map λk=>dV (f k))]=.ok (.d (.bl (rs.all λr=>r.any λx=>(f x).isNone))):=by
 refine cA (bN (n1 (j4 (xs:=rs) (h:=pq) (λr=>.bl (r.any λx=>(f x).isNone)) rfl (by omega) λr hr=>⟨_,n1 (j4 (xs:=r) (h:=aS) (λx=>.bl (f x).isNone) rfl (by have:=h2 r hr;omega) λx hx=>⟨_,two (two rfl rfl (mC (f:=λk=>dV (f k)) h_ rfl (gG x) (h r hr x hx))) rfl (BC (f x)),rfl⟩) (anyM _ r),rfl⟩) (allM _ rs)) rfl rfl)
theorem part {κ:Type}{p q:κ->Bool}(h:∀k,q k=true->p k=true):∀l:List κ,(l.filter p).length=(l.filter q).length + (l.filter λk=>p k && !q k).length
 | []=>rfl
 | a::l=>by
  have ih:=part h l
  cases hq:q a with
  | true=>simp [h a hq,hq];omega
  | false=>cases hp:p a <;> simp [hp,hq] <;> omega
noncomputable abbrev vE (rows:Ps->List (List Ps)) (k:Ps):D:=.lst ((rows k).map pq)
noncomputable abbrev eP (ks:List Ps) (rows:Ps->List (List Ps)) (f:Ps->Option Nat) (d:Nat) (g z:Option S):Ev:=[some (.db (ks.map aS) (ks.map (vE rows))),some (.fn "answered_still"),some (.dk (ks.map aS) (ks.map λk=>dV (f k))),some (.d (.int d)),g,z]
section
variable {ks:List Ps}{rows:Ps->List (List Ps)}
theorem EC (nd:ks.Nodup) (hl:ks.length<=390000) (hc:∀k∈ks,∀r∈rows k,∀x∈r,x∈ks) (h1:∀k∈ks,(rows k).length<=1000) (h2:∀k∈ks,∀r∈rows k,r.length<=1000):
  ∃d,mq [.db (ks.map aS) (ks.map (vE rows)),.fn "answered_still"]=.ok (.mf (ks.map aS) (ks.map λk=>dV (dA rows d k)))/\∀k∈ks,LY rows d k=true->LY rows (d + 1) k=true:=by
 have st:∀d k,k∈ks->dI [.d (vE rows k),.db (ks.map aS) (ks.map λk=>dV (dA rows d k))]=.ok (.d (.bl ((rows k).all λr=>r.any (LY rows d)))):=λd k hk=>by
  rw [Hq (rows k) ks (dA rows d) (hc k hk) (h1 k hk) (h2 k hk)]
  congr 4
  funext r
  congr 1
  funext x
  rw [R5,Option.isNone_iff_eq_none,je]
 have dx:∀k∈ks,∀x:R,rS x=some (ks.map aS,ks.map (vE rows))->gW x (.d (aS k))=.ok (.d (vE rows k)):=λk hk x hx=>mC h_ hx (gG k) hk
 have key:Wp (uv (aZ zU [.db (ks.map aS) (ks.map (vE rows)),.fn "answered_still"])) λo=>∃r,o=.rt r/\∃d,r=.mf (ks.map aS) (ks.map λk=>dV (dA rows d k))/\∀k∈ks,LY rows d k=true->LY rows (d + 1) k=true:=by
  refine br (xN (e:=aS) (f:=λk=>dV (dA rows 0 k)) (ks:=ks) h_ nd rfl (by omega) λk hk=>⟨gG k,rfl,_,rfl,by rw [je.mpr rfl];rfl⟩) rfl (br rfl rfl (br (kU (xs:=ks) (h:=aS) (λk=>LY rows 0 k && !LY rows 1 k) aS rfl (by omega) λk hk=>⟨?_,λ_=>⟨_,rfl,rfl⟩⟩) rfl ?_))
  ·refine p5 (b:=LY rows 1 k) (rq ?_)
   exact (c2 (two rfl rfl (dx k hk _ rfl)) rfl (st 0 k hk)).trans rfl
  ·refine Jg (λn env=>∃d z,env=eP ks rows (dA rows d) (d + 1) (some (.own ((ks.filter λk=>LY rows d k && !LY rows (d + 1) k).map aS))) z/\n=(ks.filter (LY rows d)).length) (ks.filter (LY rows 0)).length (by have:=Sf (LY rows 0) ks;omega) ⟨0,none,rfl,rfl⟩ ?_
   rintro n _ ⟨d,z,rfl,rfl⟩
   obtain ⟨g,hg⟩:∃g,g=ks.filter λk=>LY rows d k && !LY rows (d + 1) k:=⟨_,rfl⟩
   rw [<-hg]
   have hm:∀k,k∈g↔k∈ks/\LY rows d k=true/\LY rows (d + 1) k=false:=λk=>by rw [hg,RI];simp
   by_cases h0:g=[]
   ·refine .inl ⟨by rw [h0];rfl,bN rfl rfl ⟨_,rfl,d,rfl,λk hk q=>?_⟩⟩
    cases z:LY rows (d + 1) k with
    | true=>rfl
    | false=>have:=(hm k).mpr ⟨hk,q,z⟩;rw [h0] at this;cases this
   ·refine .inr ⟨?_,?_⟩
    ·show M.ok (!(g.map aS).isEmpty)=_
     cases g with
     | nil=>exact absurd rfl h0
     | cons _ _=>rfl
    have Qm:=part (p:=LY rows d) (q:=LY rows (d + 1)) (λk h=>tY (SN d) h) ks
    rw [<-hg] at Qm
    have g0:0 < g.length:=List.length_pos_iff.mpr h0
    refine cC (Co rfl (BG (ds:=g.map aS) rfl (zd (λi env=>∃z,env=eP ks rows (λk=>if k∈g.take i then some (d + 1) else dA rows d k) (d + 1) (some (.d (.lst (g.map aS)))) z) (g.map aS) ⟨z,by simp⟩ ?_ ?_)))
    ·rintro i hi _ ⟨z,rfl⟩
     have hi':i < g.length:=by simpa using hi
     have e:(g.map aS)[i]=aS g[i]:=VR ..
     have hk:g[i]∈ks:=((hm _).mp (Si hi')).1
     rw [e]
     have ev:dput (ks.map aS,ks.map λk=>dV (if k∈g.take i then some (d + 1) else dA rows d k)) (aS g[i]) (.int ((d + 1:Nat):Int))=(ks.map aS,ks.map λk=>dV (if k∈g.take (i + 1) then some (d + 1) else dA rows d k)):=by
      rw [EV h_ hk,Yc,Q5 hi']
      congr 1
      refine Um λk _=>?_
      simp only [Rx,Option.toList_some,Q9]
      by_cases c:k=g[i]
      ·rw [if_pos c,if_pos (.inr c)];rfl
      ·simp only [c,if_false,or_false]
     exact ⟨_,rfl,Mp (ks:=ks.map aS) (vs:=ks.map λk=>dV (if k∈g.take i then some (d + 1) else dA rows d k)) rfl rfl rfl rfl rfl (gG g[i]) (by rw [QO];omega) ⟨_,rfl,some (.d (aS g[i])),by rw [ev];rfl⟩⟩
    ·rintro _ ⟨z,rfl⟩
     have ev:(ks.map λk=>dV (if k∈g.take (g.map aS).length then some (d + 1) else dA rows d k))=ks.map λk=>dV (dA rows (d + 1) k):=Um λk hk=>by
      rw [QO,Xe,HJ]
      congr 1
      by_cases c:k∈g
      ·rw [if_pos c,if_pos (by obtain ⟨_,a,b⟩:=(hm k).mp c;rw [a,b];rfl)]
      ·rw [if_neg c,if_neg λz=>c ((hm k).mpr ⟨hk,by simpa using z⟩)]
     show Wp _ _
     unfold eP
     rw [ev]
     refine cC (Ml rfl rfl rfl rfl (f_ (kU (xs:=ks) (h:=aS) (λk=>LY rows (d + 1) k && !LY rows (d + 1 + 1) k) aS rfl (by omega) λk hk=>⟨?_,λ_=>⟨_,rfl,rfl⟩⟩) rfl ⟨(ks.filter (LY rows (d + 1))).length,by omega,d + 1,z,rfl,rfl⟩))
     have q1:=mC (f:=λk=>dV (dA rows (d + 1) k)) (ks:=ks) (k:=k) (e:=aS) h_ (x:=.mo (ks.map aS) (ks.map λk=>dV (dA rows (d + 1) k))) rfl (gG k) hk
     cases c:LY rows (d + 1) k with
     | false=>
      refine xo (eT (two rfl rfl q1) rfl ((BC _).trans ?_))
      cases z:dA rows (d + 1) k with
      | none=>rw [je.mp z] at c;cases c
      | some _=>rfl
     | true=>
      rw [je.mpr c] at q1
      refine t_ (eT (two rfl rfl q1) rfl (BC none)) (p5 (b:=LY rows (d + 1 + 1) k) (rq ((c2 (two rfl rfl (dx k hk _ rfl)) rfl (st (d + 1) k hk)).trans ?_)))
      show M.ok (R.d (.bl _))=M.ok (R.d (.bl (LY rows (d + 1) k && _)))
      rw [c];rfl
 obtain ⟨r,h,d,rfl,hs⟩:=jQ key
 exact ⟨d,h,hs⟩
end
section
variable {v w:Wd}{B:Ps}
theorem A8 (t:Pr v w):(T4 v w).length<=327680:=q_ t 4 (QY _)
theorem M4 (t:Pr v w){ps:Ps}(h:ps∈T4 v w):ps.length<=4:=RE (qQ ((sU t).mp h)) t.v4
theorem Ho (t:Pr v w) (hB:B.length<=100):gK [.d v.d,.d w.d,.d (aS B)]=.ok (.l .fresh ((kn v w B).map aS)):=by
 have tl:=A8 t
 refine cA (bN (kU (xs:=T4 v w) (h:=aS) (λps=>B.all λq=>decide (q∈ps)) aS ?_ (by omega) λps _=>⟨?_,λ_=>⟨_,rfl,rfl⟩⟩) rfl rfl)
 ·show (gN _ _ _ >>= _)=_
  rw [c3 rfl rfl rfl (AX t 4 (QY _))]
  rfl
 ·refine uL (n1 (j4 (xs:=B) (h:=dP) (λq=>.bl (decide (q∈ps))) rfl (by omega) λq _=>⟨_,two rfl rfl (Km q ps),by rw [K55.M6];rfl⟩) (allM _ B))
theorem Jx (t:Pr v w) (hB:B.length<=100):∃f:Ps->Option Nat,dJ [.d v.d,.d w.d,.d (aS B)]=.ok (.mf ((kn v w B).map aS) ((kn v w B).map λk=>dV (f k)))/\∀j,∀k∈kn v w B,vd (f k) j=La v w j k:=by
 have v4:=t.v4
 have w4:=t.w4
 have tl:=A8 t
 have kl:(kn v w B).length<=(T4 v w).length:=Sf _ _
 have nd:(kn v w B).Nodup:=(AQ v w 4).filter _
 have pl:(picks v w).length<=8:=by unfold picks;simp;omega
 obtain ⟨d,h1,h2⟩:=EC (ks:=kn v w B) (rows:=RW v w B) nd (by omega) A6 (λk _=>by unfold RW;rw [QO];omega) (λk _ r hr=>by
  obtain ⟨q,_,rfl⟩:=QT.mp hr
  refine RE (Sf _ _) ?_
  rw [QO]
  unfold ly
  split <;> simp <;> omega)
 refine ⟨dA (RW v w B) d,?_,λj k hk=>(Kl λj q=>Gx A6 h2 j k hk q).trans (Ng hk)⟩
 refine cA (br (xN (e:=aS) (f:=λ_=>.bl true) (ks:=kn v w B) h_ nd ?_ (by omega) λk hk=>⟨gG k,rfl,_,rfl,rfl⟩) rfl (br (xN (e:=aS) (f:=vE (RW v w B)) (ks:=kn v w B) h_ nd rfl (by omega) λk hk=>⟨gG k,rfl,_,c4 rfl rfl rfl rfl (L_ t (kn v w B) k (by have:=M4 t (kg.mp hk).1;omega)),rfl⟩) rfl (bN (r:=.mf ((kn v w B).map aS) ((kn v w B).map λk=>dV (dA (RW v w B) d k))) ?_ rfl rfl)))
 ·show (gN _ _ _ >>= _)=_
  rw [c3 rfl rfl rfl (Ho t hB)]
  rfl
 ·show (match mq [.db ((kn v w B).map aS) ((kn v w B).map (vE (RW v w B))),.fn "answered_still"] with
   | .ok r=>M.ok (j6 r)
   | _=>.bad)=_
  rw [h1]
  rfl
theorem L7 (ks:List Ps) (f:Ps->Option Nat) (p:Ps) (j:Nat):kM [.db (ks.map aS) (ks.map λk=>dV (f k)),.d (aS p),.d (.int j)]=.ok (.d (.bl (decide (p∈ks) && vd (f p) j))):=by
 have hi:=Aq (ks:=ks) (f:=λk=>dV (f k)) h_ (x:=.mb (ks.map aS) (ks.map λk=>dV (f k))) rfl (gG p) (q:=inferInstance)
 refine cA (bN (r:=.d (.bl (decide (p∈ks) && vd (f p) j))) ?_ rfl rfl)
 unfold pU
 rw [show g2 (nD false) (af 1) (af 0) (aZ uN [.db (ks.map aS) (ks.map λk=>dV (f k)),.d (aS p),.d (.int j)])=_ from two rfl rfl hi,aN]
 by_cases h:p∈ks
 ·rw [decide_eq_true h]
  have hd:=mC (ks:=ks) (f:=λk=>dV (f k)) h_ (x:=.mb (ks.map aS) (ks.map λk=>dV (f k))) rfl (gG p) h
  show qP _ _ _=M.ok (R.d (.bl (vd (f p) j)))
  cases q:f p with
  | none=>rw [q] at hd;exact Iu (two (two rfl rfl hd) rfl rfl)
  | some e=>
   rw [q] at hd
   refine K3 (two (two rfl rfl hd) rfl rfl) (two (two rfl rfl hd) rfl ?_)
   show M.ok (R.d (.bl (decide ((j:Int) < (e:Int)))))=M.ok (R.d (.bl (decide (j < e))))
   rw [show decide ((j:Int) < (e:Int))=decide (j < e) by rw [R5];simp]
 ·rw [decide_eq_false h];rfl
theorem L8 (ks:List Ps) (f:Ps->Option Nat) (n:Nat) (hn:n<=100) (hl:ks.length<=1000000):jJ [.db (ks.map aS) (ks.map λk=>dV (f k)),.d (.int n)]=.ok (.l .fresh ((QU (n + 1)).map λj=>pq (ks.filter λk=>vd (f k) j))):=by
 refine cA (bN (j4 (xs:=QU (n + 1)) (h:=dN) (λj=>pq (ks.filter λk=>vd (f k) j)) (iB (n:=n + 1) (cS (two rfl rfl rfl)) (by omega)) (by simp;omega) λj _=>⟨_,kU (xs:=ks) (h:=aS) (λk=>vd (f k) j) aS rfl hl λk hk=>⟨rq ((c3 rfl rfl rfl (L7 ks f k j)).trans ?_),λ_=>⟨_,rfl,rfl⟩⟩,rfl⟩) rfl rfl)
 rw [decide_eq_true hk,UM]
theorem Nb (d m:Nat) (hd:d<=m):K55.fH [.d (.int d),.d (.int 0),.d (.int m)]=.ok (.d .non):=by
 refine pP (uy ?_ (lQ ⟨_,rfl⟩))
 show (if decide ((d:Int) < 0)=true then M.ok true else M.ok (decide ((m:Int) < d)))=M.ok false
 rw [decide_eq_false (show ¬(d:Int) < 0 by omega),decide_eq_false (show ¬(m:Int) < d by omega)]
 rfl
theorem KN:kn v w []=T4 v w:=Wi.mpr λ_ _=>rfl
noncomputable def iu (v w:Wd) (j:Nat):D:=pq ((T4 v w).filter (La v w j))
theorem Ey (t:Pr v w) (n:Nat) (hn:n<=6):pR [.d v.d,.d w.d,.d (.int n)]=.ok (.l .fresh ((QU (n + 1)).map (iu v w))):=by
 obtain ⟨f,h1,h2⟩:=Jx (B:=[]) t (RA _)
 rw [KN] at h1 h2
 refine cA (jU (c2 rfl rfl (tW t)) (jU (c3 rfl rfl rfl (Nb n 6 hn)) (bN (c2 (c3 rfl rfl (bD bx (by decide)) h1) rfl (L8 (T4 v w) f n (by omega) (by have:=A8 t;omega))) rfl ?_)))
 show O.rt (.l .fresh _)=_
 congr 2
 refine Um λj _=>?_
 unfold iu
 rw [Ze λk hk=>h2 j k hk]
end
end K33
namespace K33
open PySem DL K01 WP K51 K52 K55 K23
section
variable {v w:Wd}{ps qs:Ps}{n j:Nat}
noncomputable def sd (s:Nat) (p:Nat×Nat):Nat:=if s=0 then p.1 else p.2
theorem MK {k p:Nat×Nat}(h:p∈ly v w k):sd k.1 p=k.2:=by
 unfold ly at h
 unfold sd
 split at h <;> rename_i c <;> obtain ⟨b,_,rfl⟩:=QT.mp h
 ·rw [if_pos c]
 ·rw [if_neg c]
theorem chain (t:Pr v w) (s:Nat):∀(xs:List Nat) (n:Nat) (ps:Ps),(∀x∈xs,(s,x)∈picks v w)->Good v w ps->xs.length<=n->La v w n ps=true->∃qs,Good v w qs/\(∀p∈ps,p∈qs)/\∀x∈xs,∃p∈qs,sd s p=x
 | [],_,ps,_,g,_,_=>⟨ps,g,λ_ h=>h,λ_ h=>nomatch h⟩
 | x::xs,0,_,_,_,h,_=>nomatch h
 | x::xs,n + 1,ps,hx,g,hl,h=>by
  obtain ⟨p,h1,h2,h3⟩:=(JE.mp h).2 _ (hx x QW)
  obtain ⟨qs,a,b,c⟩:=chain t s xs n (eG ps p) (λy hy=>hx y (QS _ hy)) ((sU t).mp h2) (by simpa using hl) h3
  refine ⟨qs,a,λq hq=>b q (pY.mpr (.inl hq)),λy hy=>?_⟩
  rcases Rc.mp hy with rfl | hy
  ·exact ⟨p,b p (pY.mpr (.inr rfl)),MK h1⟩
  ·exact c y hy
theorem cover {l:List Nat}{m:Nat}(nd:l.Nodup) (h:∀x∈l,x < m) (hm:m<=l.length):∀b,b < m->b∈l:=λb hb=>Ss λz=>by
 have:=Rp (l₁:=b::l) (l₂:=QU m) (SM.mpr ⟨z,nd⟩) λx hx=>by
  rcases Rc.mp hx with rfl | hx
  ·exact Ri.mpr hb
  ·exact Ri.mpr (h x hx)
 simp at this
 omega
theorem many {s m:Nat}(h:∀x,x < m->∃p∈qs,sd s p=x):m<=qs.length:=by
 have:=Rp (l₁:=QU m) (l₂:=qs.map (sd s)) Tg λx hx=>by
  obtain ⟨p,hp,e⟩:=h x (Ri.mp hx)
  exact QT.mpr ⟨p,hp,e⟩
 simpa using this
structure MZ (v w:Wd) (qs:Ps):Prop where
 g:Good v w qs
 a:∀x,x < v.m->∃p∈qs,p.1=x
 b:∀x,x < w.m->∃p∈qs,p.2=x
theorem Kr (t:Pr v w) (g:Good v w ps) (hv:v.m<=n) (hw:w.m<=n) (h:La v w n ps=true):∃qs,MZ v w qs/\∀p∈ps,p∈qs:=by
 by_cases c:w.m<=v.m
 ·obtain ⟨qs,a,b,d⟩:=chain t 0 (QU v.m) n ps (λx hx=>T8 _ (QT.mpr ⟨x,hx,rfl⟩)) g (by simpa using hv) h
  have d':∀x,x < v.m->∃p∈qs,p.1=x:=λx hx=>d x (Ri.mpr hx)
  have hl:=many (s:=0) d'
  have nd:(qs.map abF).Nodup:=RP.mpr (a.up.imp_of_mem fun {p q} hp hq hlt e=>by have:=(a.ag p hp q hq).eq;omega)
  refine ⟨qs,⟨a,d',λx hx=>?_⟩,b⟩
  obtain ⟨p,hp,e⟩:=QT.mp (cover nd (λy hy=>by obtain ⟨p,hp,rfl⟩:=QT.mp hy;exact (a.rg p hp).2) (by rw [QO];omega) x hx)
  exact ⟨p,hp,e⟩
 ·obtain ⟨qs,a,b,d⟩:=chain t 1 (QU w.m) n ps (λx hx=>RO _ (QT.mpr ⟨x,hx,rfl⟩)) g (by simpa using hw) h
  have hl:=many (s:=1) λx hx=>d x (Ri.mpr hx)
  have:=qQ a
  omega
theorem wX (t:Pr v w) (i:MZ v w qs):∀(j:Nat) (ps:Ps),(∀p∈ps,p∈qs)->La v w j ps=true
 | 0,_,_=>rfl
 | j + 1,ps,h=>by
  have add:∀p∈qs,eG ps p∈T4 v w/\La v w j (eG ps p)=true:=λp hp=>
   ⟨(Mf t).mpr (zT.sub ⟨i.g.ag,i.g.rg⟩ λq hq=>by rcases Rx.mp hq with hq | hq;exact h q hq;rw [Q9.mp hq];exact hp),wX t i j _ λq hq=>by rcases pY.mp hq with hq | rfl;exact h q hq;exact hp⟩
  refine JE.mpr ⟨wX t i j ps h,λk hk=>?_⟩
  rcases Rx.mp hk with hk | hk <;> obtain ⟨x,hx,rfl⟩:=QT.mp hk
  ·obtain ⟨p,hp,rfl⟩:=i.a x (Ri.mp hx)
   exact ⟨p,QT.mpr ⟨p.2,Ri.mpr (i.g.rg p hp).2,rfl⟩,add p hp⟩
  ·obtain ⟨p,hp,rfl⟩:=i.b x (Ri.mp hx)
   exact ⟨p,QT.mpr ⟨p.1,Ri.mpr (i.g.rg p hp).1,rfl⟩,add p hp⟩
theorem JD (t:Pr v w) (g:Good v w ps) (hv:v.m<=n) (hw:w.m<=n) (h:La v w n ps=true) (j:Nat):La v w j ps=true:=by
 obtain ⟨qs,i,hs⟩:=Kr t g hv hw h
 exact wX t i j ps hs
end
end K33
namespace K33
open PySem DL K01 WP K51 K52 K55 K23 K22
theorem mR (i:Int) (m:Nat) (h:0 < m):∃k:Nat,i % (m:Int)=k/\k < m:=by
 obtain ⟨k,hk⟩:=sV (Tz i (b:=m) (by omega))
 have:=SO i (b:=m) (by omega)
 exact ⟨k,hk,by omega⟩
end K33
namespace DL
open PySem PySem.Spec PyProof.Rows L2
section
variable {X:Cx}{c:C}{o a b:Rz}{go ga gb:G R}{apos cpos:Pos}
noncomputable def E1 (go ga gb:G R):G R:=λenv=>go env >>= λr=>match rS r with
 | some z=>ga env >>= λk=>gb env >>= λe=>(match k,e with
  | .d k,.d e=>if dg k=true then .ok (.d ((gm z.1 z.2 k).getD e)) else .bad
  | _,_=>.bad)
 | none=>.bad
theorem IV (hu:X.A.units + 64 < Sy) (ho:QD X c o go) (ha:QD X c a ga) (hb:QD X c b gb) (hK:X.K=c.K:=by rfl) (hbase:Vf o "get" X.env (eval o X.env)=eval o X.env:=by rfl) (hline:(apos.endLine == cpos.line)=true:=by rfl)
  (htr:SV cpos (QZ [a,b] X.env)=[(false,eval a X.env),(false,eval b X.env)]:=by rfl):QD X c (.Call (.Attribute o "get" apos) [a,b] [] cpos) (E1 go ga gb):=by
 refine ⟨λQz s σ H Q I ⟨J,env,sr,w⟩=>?_⟩
 refine wpAny_Call_method2_late hbase hline htr (bP (ho.h Qz s σ H (λx H1=>∃J1 r,Ext J H J1 H1/\RR c H J1 H1 r x/\cD _ _ _) I ⟨J,env,sr,aB (aH w) λr wr v J1 H1 e1 r1=>⟨J1,r,e1,r1,wr⟩⟩) λov s1 ⟨x,H1,I1,rx,J1,r,e1,r1,wr⟩=>?_)
 split at wr
 ·rename_i z hz
  obtain ⟨p,rfl,hd⟩:=r1.dk (sr.hp.ext e1) hz
  cases rx
  obtain ⟨us,ws,ep,h1,_,_,_,hsm,_⟩:=id hd
  obtain ⟨ob,es,g1,g2,_⟩:=(fP I1).d _ _ _ h1
  refine ⟨"dict","dict.get",PySem.F.plainAttrs_dict,PySem.F.slot_dict_get,PySem.F.type_dict_get,⟨ob,g1,g2.1⟩,λq e=>⟨ob,by cases e;exact g1,g2.2.1⟩,?_⟩
  refine wpAny_dict_get2_heap (knd:=lP X.prog X.w) (by show X.A.units + 1 + 16 < Sy;omega) hsm (bP (ha.h Qz s1 σ H1 (λx H2=>∃J2 r,Ext J1 H1 J2 H2/\RR c H1 J2 H2 r x/\cD _ _ _) I1 ⟨J1,env,sr.ext e1,aB (aH wr) λr wr v J2 H2 e2 r2=>⟨J2,r,e2,r2,wr⟩⟩) λkv s2 ⟨y,H2,I2,ry,J2,r',e2,r2,wr⟩=>?_)
  refine bP (hb.h Qz s2 σ H2 (λx H3=>∃J3 r,Ext J2 H2 J3 H3/\RR c H2 J3 H3 r x/\cD _ _ _) I2 ⟨J2,env,(sr.ext e1).ext e2,aB (aH wr) λr wr v J3 H3 e3 r3=>⟨J3,r,e3,r3,wr⟩⟩) λdv s3 ⟨y',H3,I3,ry',J3,r'',e3,r3,wr⟩=>?_
  have e4:=e1.trans (e2.trans e3)
  split at wr
  ·rename_i k e _ _
   split at wr
   ·rename_i ok
    have F:HF X.K J3 s3:=HF.of (c:=⟨X.K,H3,H3,λ_=>True⟩) I3 e3.sub
    have P_:dG X.K J3 H3 p z.1 z.2:=hK▸hd.mono (e2.j.trans e3.j) (e2.h.trans e3.h)
    have hk:Rep X.K J3 k y:=hK▸Rep.mono e3.j r2
    obtain ⟨kx,rfl,k1,k2⟩:=gQ ok
    obtain ⟨q,rfl⟩:∃q,y=.ref q:=by cases hk;exact ⟨_,rfl⟩
    cases ry
    obtain ⟨xs,us,ws,hm,m2,_,hv,m4,_,_⟩:=ny (P:=X.prog) (w:=X.w) F (fP I3) P_
    obtain ⟨l1,l2⟩:=rT (K:=X.K) (J:=J3) ⟨.tup kx,k1,k2⟩ m2 hv m4
    refine ⟨q,⟨.tup kx,k1,k2⟩,xs,rfl,jj F k1 hk,hm,?_⟩
    cases q2:gm z.1 z.2 (.tup kx) with
    | none=>rw [l2 q2];exact ⟨y',H3,I3.tok _,ry',wr y' J3 H3 e4 (by rw [q2];exact r3)⟩
    | some d=>
     obtain ⟨pp,v,ea,rv,rd⟩:=l1 d q2
     rw [ea]
     exact ⟨v,H3,I3.tok _,rv,wr v J3 H3 e4 (by rw [q2];show Rep c.K J3 d v;rw [<-hK];exact rd)⟩
   ·exact wr.elim
  ·exact wr.elim
 ·exact wr.elim
end
noncomputable def FA (K:QK) (x:Str) (st:T9):Prop:=∃f fd,RK K Rt x=some (some (.ref f))/\cK K x x st f fd
theorem bX {K:QK}{x:Str}{st:T9}{f:Q4}{u v d p q r:QM}{o n:Option Q4}{s:Array (Option QM)}(a:RK K Rt x=some (some (.ref f)))
  (l:K.lookup f=some ⟨u,o,.func (Q6 x x (aU st) (aQ st) (ay st) .none v d p n q r),s⟩) (c:T3 K q x=true) (k:R7 K (.ref f)=true):FA K x st:=⟨f,_,a,Dn l c k⟩
end DL
namespace K32
open PySem DL
noncomputable def Ht:List Str:=["one","other","pairs","base"]
noncomputable def An:G O:=(aL (jo (gN (aK 2 K23.dX) (ao (af 0) (ao (af 1) aC))))
 (aL (a_ 3 (gN (aK 1 K23.gM) (ao (af 2) aC)))
 (bH (E1 (gN (aK 3 K33.dJ) (ao (af 0) (ao (af 1) (ao (af 3) aC)))) (af 3) (gC (.int 0))))))
noncomputable def eu (as:List S):M R:=fin (An (aZ Ht as))
noncomputable def zh:List Str:=["_law_script","_law_one","_law_other","_law_first","_law_order_here","_law_found","_law_k","_law_cell_here","_law_a","_law_b"]
noncomputable def qA:G O:=(aL (a_ 3 (gN (aK 2 K51.bQ) (ao (af 0) (ao (gC (.int 16)) aC))))
 (aL (a_ 4 (gN (aK 2 K55.dz) (ao (gN (aK 2 K51.bQ) (ao (af 0) (ao (gC (.int 15)) aC))) (ao (g2 bg (af 1) (gC (.int 0))) aC))))
 (aL (a_ 5 (fZ aX))
 (aL (gF (cj (ao (g2 cW (af 3) (gC (.int 6))) aC)) (aD 6) (aL (a_ 7 (gN (aK 2 K51.bQ) (ao (af 0) (ao (g2 dD (gC (.int 17)) (af 6)) aC))))
 (aL (a_ 8 (g2 cW (af 7) (g2 bg (af 1) (gC (.int 0)))))
 (aL (a_ 9 (g2 cW (g2 fM (af 7) (gC (.int 8))) (g2 bg (af 2) (gC (.int 0)))))
 (aL (b8 (jf (bO (g2 (fN false) (g2 cW (g2 fM (af 3) (gC (.int 6))) (gC (.int 2))) (gC (.int 1)))) (jf (bO (g2 (i8 λi j=>.bl (decide (i < j))) (g2 bg (af 4) (af 8)) (g2 bg (af 2) (gC (.int 0))))) (bO (g2 (i8 λi j=>.bl (decide (j < i))) (g2 cW (g2 fM (af 7) (gC (.int 64))) (gC (.int 5))) (gC (.int 0)))))) (a_ 9 (g2 bg (af 4) (af 8))) dS)
 (j_ 5 (bJ (aA (af 8) (aA (af 9) aX)))))))))
 (bH (gN cH (ao (af 5) aC)))))))
noncomputable def g7 (as:List S):M R:=fin (qA (aZ zh as))
noncomputable def Cu:List Str:=["_law_told","_law_pairs_here","_law_key","_law_depth"]
noncomputable def uY:G O:=(aL (a_ 2 (gN cH (ao (gN gj (ao (af 1) aC)) aC)))
 (aL (gF (cj (ao (gN iR (ao (af 0) aC)) aC)) (aD 3) (b8 (bO (g2 (gT true) (af 2) (g2 bg (af 0) (af 3)))) (bH (af 3)) dS))
 (bH (gC .non))))
noncomputable def fj (as:List S):M R:=fin (uY (aZ Cu as))
noncomputable def EG:List Str:=["_law_found","_law_due_here"]
noncomputable def yb:G O:=(aL (b8 (bO (g2 (oM false) (af 1) (gC .non))) (bH (g2 (oM false) (af 0) (gC .non))) dS)
 (bH (pU (xZ "int" (af 0)) (pU (Bw (xZ "bool" (af 0))) (g2 (fN false) (af 0) (af 1))))))
noncomputable def fW (as:List S):M R:=fin (yb (aZ EG as))
noncomputable def Nh:List Str:=["_law_script","_law_one","_law_other","_law_told","_law_pairs_here","_law_way","_law_some"]
noncomputable def Kg:G O:=(aL (lO (eW 2 (bI (aD 1) (bI (aD 2) fC))) (gN (aK 2 K55.jr) (ao (af 0) (ao (fZ (aA (gC (.int 2)) (aA (gC (.int 3)) (aA (gC (.int 1)) (aA (gC (.int 3)) (aA (gC (.int 2)) (aA (gC (.int 3)) (aA (gC (.int 2)) (aA (gC (.int 4)) aX))))))))) aC))))
 (aL (a_ 3 (gN (aK 3 K33.pR) (ao (af 1) (ao (af 2) (ao (gN xW (ao (g2 bg (af 1) (gC (.int 0))) (ao (g2 bg (af 2) (gC (.int 0))) aC))) aC)))))
 (aL (a_ 4 (gN (aK 3 K32.g7) (ao (af 0) (ao (af 1) (ao (af 2) aC)))))
 (aL (a_ 5 (gN (aK 2 K51.bQ) (ao (af 0) (ao (gC (.int 22)) aC))))
 (aL (a_ 4 (g2 bg (fZ (aA (af 4) (aA (Bx (af 4)) (aA (g2 cY (af 4) (sD lN (af 4) uW (uX (gC (.int 1))))) aX)))) (g2 cW (af 5) (gC (.int 3)))))
 (aL (b8 (ir (bO (gN (aK 2 K32.fW) (ao (gN (aK 3 K32.eu) (ao (af 1) (ao (af 2) (ao (af 4) aC)))) (ao (gN (aK 2 K32.fj) (ao (af 3) (ao (af 4) aC))) aC))))) (bH (gC (.bl false))) dS)
 (aL (b8 (bO (g2 (i8 λi j=>.bl (decide (j < i))) (g2 cY (g2 bg (af 1) (gC (.int 0))) (g2 bg (af 2) (gC (.int 0)))) (gC (.int 7)))) (bH (gC (.bl true))) dS)
 (aL (a_ 6 (g2 bg (g2 bg (af 3) (gC (.int 0))) (g2 cW (gN (aK 2 K51.bQ) (ao (af 0) (ao (gC (.int 23)) aC))) (gN iR (ao (g2 bg (af 3) (gC (.int 0))) aC)))))
 (aL (b8 (ir (bO (gN (aK 2 K32.fW) (ao (gN (aK 3 K32.eu) (ao (af 1) (ao (af 2) (ao (af 6) aC)))) (ao (gN (aK 2 K32.fj) (ao (af 3) (ao (af 6) aC))) aC))))) (bH (gC (.bl false))) dS)
 (aL (b8 (bO (g2 (fN false) (g2 cW (g2 fM (af 5) (gC (.int 3))) (gC (.int 2))) (gC (.int 1)))) (bH (gN (aK 2 K32.fW) (ao (gN (aK 3 K32.eu) (ao (af 1) (ao (af 2) (ao (gC .non) aC)))) (ao (gN (aK 2 K32.fj) (ao (af 3) (ao (bJ aX) aC))) aC)))) dS)
 (bH (gN (aK 2 K32.fW) (ao (gN (aK 2 (λas=>K32.eu (as++[.d .non]))) (ao (af 1) (ao (af 2) aC))) (ao (gN (aK 2 K32.fj) (ao (af 3) (ao (bJ aX) aC))) aC))))))))))))))
noncomputable def tX (as:List S):M R:=fin (Kg (aZ Nh as))
end K32
namespace K32
open PySem PySem.Spec PyProof.Rows L2 DL DX
structure dh (w:RD) (K:QK) (mg:Str->Option QM):Prop where
 all:mg "all"=none
 any:mg "any"=none
 bool:mg "bool"=none
 int:mg "int"=none
 isinstance:mg "isinstance"=none
 len:mg "len"=none
 list:mg "list"=none
 max:mg "max"=none
 range:mg "range"=none
 set:mg "set"=none
 sorted:mg "sorted"=none
 tuple:mg "tuple"=none
 MOST_DEPTH:AZ K mg "MOST_DEPTH" (.int 6)
 MOST_SMALL:AZ K mg "MOST_SMALL" (.int 4)
 fv_answered_still:EE K mg "answered_still"
section
variable {P:Rb}{w:RD}{K:QK}{mg:Str->Option QM}{base:Sn}{f:Q4}{fd:Rq}
noncomputable abbrev pD:T9:=top 6
theorem B8:bf ["thing"] ["thing"] (ay pD):=⟨rfl,rfl,rfl,by decide +kernel,rfl,by decide +kernel,by decide +kernel⟩
theorem zy (m:dh w K mg) (F:cK K "is_whole" "is_whole" pD f fd) (hm:mg "is_whole"=some (.ref f)):bC P w K mg base 1 1 "is_whole" K01.ow:=
 have sc:=B8
 bF (k:=0) (gB:=K01.u6) F hm sc (λ_ _ _ _ _ _ us hl=>match us,hl with | [_],_=>rfl) (λcdv A outer s H E J T hr=>
 (aG (aV (qe (iT Au uS m.int (aa 0) m.isinstance) (nO (AI (iT yh rW m.bool (aa 0) m.isinstance))))))) (λas r _ h=>h)
noncomputable abbrev nZ:T9:=top 7
theorem zO:bf ["world","many","marks","arrows"] ["world"] (ay nZ):=⟨rfl,rfl,rfl,by decide +kernel,rfl,by decide +kernel,by decide +kernel⟩
theorem xK (m:dh w K mg) (F:cK K "tongue_of" "tongue_of" nZ f fd) (hm:mg "tongue_of"=some (.ref f)):bC P w K mg base 1 1 "tongue_of" K23.iL:=
 have sc:=zO
 bF (k:=0) (gB:=K23.sH) F hm sc (λ_ _ _ _ _ _ us hl=>match us,hl with | [_],_=>rfl) (λcdv A outer s H E J T hr=>
 (au (kj (aa 0) (dw (bh (aE 1 sc.nd) (bh (aE 2 sc.nd) (bh (aE 3 sc.nd) cU)))))
 (aG (aV (bq (az (bZ (ak (bL ["name","points"] [] (cI (aa 2)) (λ_ _ _ _ _ hc=>⟨(dw (bh (aE 0 (bR rfl)) (bh (aE 1 (bR rfl)) cU))),bz,(aa 0)⟩)) aq) m.tuple) (az (bZ (ak (bL ["name","pairs"] [] (cI (aa 3)) (λ_ _ _ _ _ hc=>⟨(dw (bh (aE 0 (bR rfl)) (bh (aE 1 (bR rfl)) cU))),bz,(aa 0)⟩)) aq) m.tuple) aP))))))) (λas r _ h=>h)
noncomputable abbrev kG:T9:=top 8
theorem wc:bf ["one","other"] ["one","other"] (ay kG):=⟨rfl,rfl,rfl,by decide +kernel,rfl,by decide +kernel,by decide +kernel⟩
theorem ug (m:dh w K mg) (htongue_of:bC P w K mg base 1 1 "tongue_of" K23.iL) (F:cK K "need_tongue" "need_tongue" kG f fd) (hm:mg "need_tongue"=some (.ref f)):bC P w K mg base 2 2 "need_tongue" K23.iK:=
 have sc:=wc
 bF (k:=1) (gB:=K23.oU) F hm sc (λ_ _ _ _ _ _ us hl=>match us,hl with | [_,_],_=>rfl) (λcdv A outer s H E J T hr=>
 (aG (b9 (D7 hr.units (aO htongue_of hr (ak (aa 0) aq)) (aO htongue_of hr (ak (aa 1) aq))) (aG nN) bS))) (λas r _ h=>h)
noncomputable abbrev iC:T9:=top 11
theorem qo:bf ["worlds","world"] ["worlds"] (ay iC):=⟨rfl,rfl,rfl,by decide +kernel,rfl,by decide +kernel,by decide +kernel⟩
theorem oH (m:dh w K mg) (F:cK K "need_few_points" "need_few_points" iC f fd) (hm:mg "need_few_points"=some (.ref f)):bC P w K mg base 1 1 "need_few_points" K23.fX:=
 have sc:=qo
 bF (k:=0) (gB:=K23.kc) F hm sc (λ_ _ _ _ _ _ us hl=>match us,hl with | [_],_=>rfl) (λcdv A outer s H E J T hr=>
 (aG (eN (ku (aa 0)) (aE 1 sc.nd) (aG (b9 (gR p7 (gx λ_ _ _=>.bl _) (aJ (aa 1) av) (lD m.MOST_SMALL)) (aG nN) bS))))) (λas r _ h=>h)
noncomputable abbrev lY:T9:=top 12
theorem yP:bf ["one","other"] ["one","other"] (ay lY):=⟨rfl,rfl,rfl,by decide +kernel,rfl,by decide +kernel,by decide +kernel⟩
theorem vW (m:dh w K mg) (hneed_tongue:bC P w K mg base 2 2 "need_tongue" K23.iK) (hneed_few_points:bC P w K mg base 1 1 "need_few_points" K23.fX) (F:cK K "need_small" "need_small" lY f fd) (hm:mg "need_small"=some (.ref f)):bC P w K mg base 3 2 "need_small" K23.dX:=
 have sc:=yP
 bF (k:=2) (gB:=K23.qD) F hm sc (λ_ _ _ _ _ _ us hl=>match us,hl with | [_,_],_=>rfl) (λcdv A outer s H E J T hr=>
 (au (gI (aO hneed_tongue hr (ak (aa 0) (ak (aa 1) aq))))
 (aG (gI (aO hneed_few_points hr (ak (bq (az (aa 0) (az (aa 1) aP))) aq)))))) (λas r _ h=>h)
noncomputable abbrev lW:T9:=top 13
theorem yO:bf ["told","least","most"] ["told","least","most"] (ay lW):=⟨rfl,rfl,rfl,by decide +kernel,rfl,by decide +kernel,by decide +kernel⟩
theorem vV (m:dh w K mg) (his_whole:bC P w K mg base 1 1 "is_whole" K01.ow) (F:cK K "need_count" "need_count" lW f fd) (hm:mg "need_count"=some (.ref f)):bC P w K mg base 2 3 "need_count" K55.fH:=
 have sc:=yO
 bF (k:=1) (gB:=K55.qC) F hm sc (λ_ _ _ _ _ _ us hl=>match us,hl with | [_,_,_],_=>rfl) (λcdv A outer s H E J T hr=>
 (aG (b9 (mV (yy (ji (fc (aO his_whole hr (ak (aa 0) aq)))) (yy (gR BP (gx λ_ _ _=>.bl _) (aa 0) (aa 1)) (AF (gR p7 (gx λ_ _ _=>.bl _) (aa 0) (aa 2)))))) (aG nN) bS))) (λas r _ h=>h)
noncomputable abbrev uJ:T9:=top 15
theorem Gv:bf ["pairs"] ["pairs"] (ay uJ):=⟨rfl,rfl,rfl,by decide +kernel,rfl,by decide +kernel,by decide +kernel⟩
theorem CV (m:dh w K mg) (F:cK K "rising" "rising" uJ f fd) (hm:mg "rising"=some (.ref f)):bC P w K mg base 1 1 "rising" K23.gM:=
 have sc:=Gv
 bF (k:=0) (gB:=K23.Ao) F hm sc (λ_ _ _ _ _ _ us hl=>match us,hl with | [_],_=>rfl) (λcdv A outer s H E J T hr=>
 (au (b9 (yx (aa 0) gS) (aG (aV (bq aP))) bS)
 (aG (aV (bZ (ak (o8 hr.units (ak (aa 0) aq) m.sorted m.set) aq) m.tuple))))) (λas r _ h=>h)
noncomputable abbrev Ci:T9:=top 16
theorem LJ:bf ["world","one","other","many","marks","arrows","bearing","leading"] ["world","one","other"] (ay Ci):=⟨rfl,rfl,rfl,by decide +kernel,rfl,by decide +kernel,by decide +kernel⟩
theorem HB (m:dh w K mg) (F:cK K "view" "view" Ci f fd) (hm:mg "view"=some (.ref f)):bC P w K mg base 1 3 "view" K23.wC:=
 have sc:=LJ
 bF (k:=0) (gB:=K23.GY) F hm sc (λ_ _ _ _ _ _ us hl=>match us,hl with | [_,_,_],_=>rfl) (λcdv A outer s H E J T hr=>
 (au (kj (aa 0) (dw (bh (aE 3 sc.nd) (bh (aE 4 sc.nd) (bh (aE 5 sc.nd) cU)))))
 (au (aM 6 sc.nd (bZ (ak (bL ["name","points"] [1] (cI (aa 4)) (λ_ _ _ _ _ hc=>⟨(dw (bh (aE 0 (bR rfl)) (bh (aE 1 (bR rfl)) cU))),bz,(yC hr.units (aa 2) (aa 1))⟩)) aq) m.tuple))
 (au (aM 7 sc.nd (bZ (ak (bL ["name","pairs"] [1,2] (cI (aa 5)) (λ_ _ _ _ _ hc=>⟨(dw (bh (aE 0 (bR rfl)) (bh (aE 1 (bR rfl)) cU))),bz,(yC hr.units (bq (az (aa 2) (az (aa 3) aP))) (aa 1))⟩)) aq) m.tuple))
 (aG (aV (bq (az (tw hr.units (aa 1) (aa 2)) (az (aa 6) (az (aa 7) aP)))))))))) (λas r _ h=>h)
noncomputable abbrev yY:T9:=top 17
theorem Jj:bf ["world"] ["world"] (ay yY):=⟨rfl,rfl,rfl,by decide +kernel,rfl,by decide +kernel,by decide +kernel⟩
theorem EN (m:dh w K mg) (Pe:bC P w K mg base 1 3 "view" K23.wC) (F:cK K "views" "views" yY f fd) (hm:mg "views"=some (.ref f)):bC P w K mg base 2 1 "views" K23.oz:=
 have sc:=Jj
 bF (k:=1) (gB:=K23.Dt) F hm sc (λ_ _ _ _ _ _ us hl=>match us,hl with | [_],_=>rfl) (λcdv A outer s H E J T hr=>
 (aG (aV (tu hr.units ["one","other"] [0] (dR (bB (ak (aJ (aa 0) av) aq) m.range)) (λ_ _ _ _ _ hc=>⟨(aE 0 (bR rfl)),bz,(bB (ak (aJ (aa 2) av) aq) m.range),(aE 1 (bR rfl)),bz,(bq (az (aa 0) (az (aa 1) aP))),(aO Pe hr (ak (aa 2) (ak (aa 0) (ak (aa 1) aq))))⟩))))) (λas r _ h=>h)
noncomputable abbrev yJ:T9:=top 18
theorem Ji:bf ["first","second","pair","again"] ["first","second","pair","again"] (ay yJ):=⟨rfl,rfl,rfl,by decide +kernel,rfl,by decide +kernel,by decide +kernel⟩
theorem EL (m:dh w K mg) (F:cK K "agree" "agree" yJ f fd) (hm:mg "agree"=some (.ref f)):bC P w K mg base 1 4 "agree" K23.fk:=
 have sc:=Ji
 bF (k:=0) (gB:=K23.Dr) F hm sc (λ_ _ _ _ _ _ us hl=>match us,hl with | [_,_,_,_],_=>rfl) (λcdv A outer s H E J T hr=>
 (aG (aV (tw hr.units (gu hr.units (aa 0) (bq (az (aJ (aa 2) av) (az (aJ (aa 3) av) aP)))) (gu hr.units (aa 1) (bq (az (aJ (aa 2) av) (az (aJ (aa 3) av) aP)))))))) (λas r _ h=>h)
noncomputable abbrev kE:T9:=top 19
theorem v_:bf ["first","second","pairing","pair","again"] ["first","second","pairing","pair"] (ay kE):=⟨rfl,rfl,rfl,by decide +kernel,rfl,by decide +kernel,by decide +kernel⟩
theorem uf (m:dh w K mg) (OB:bC P w K mg base 1 4 "agree" K23.fk) (F:cK K "goes_behind" "goes_behind" kE f fd) (hm:mg "goes_behind"=some (.ref f)):bC P w K mg base 2 4 "goes_behind" K23.iJ:=
 have sc:=v_
 bF (k:=1) (gB:=K23.oR) F hm sc (λ_ _ _ _ _ _ us hl=>match us,hl with | [_,_,_,_],_=>rfl) (λcdv A outer s H E J T hr=>
 (au (b9 (mV (qc (qd (aa 2)) (qV (IT hr.units (aa 3) (aJ (aa 2) (IY av)))))) (aG (aV kq)) bS)
 (au (eN (ku (aa 2)) (aE 4 sc.nd) (aG (b9 (mV (yy (ji (fc (aO OB hr (ak (aa 0) (ak (aa 1) (ak (aa 3) (ak (aa 4) aq))))))) (AF (ji (fc (aO OB hr (ak (aa 0) (ak (aa 1) (ak (aa 4) (ak (aa 3) aq)))))))))) (aG (aV kq)) bS)))
 (aG (aV kq))))) (λas r _ h=>h)
noncomputable abbrev pL:T9:=top 20
theorem B_:bf ["one","other","most","first","second","pairs","longest","told","step"] ["one","other","most"] (ay pL):=⟨rfl,rfl,rfl,by decide +kernel,rfl,by decide +kernel,by decide +kernel⟩
theorem zD (m:dh w K mg) (hneed_small:bC P w K mg base 3 2 "need_small" K23.dX) (hneed_count:bC P w K mg base 2 3 "need_count" K55.fH) (OR:bC P w K mg base 2 1 "views" K23.oz) (OB:bC P w K mg base 1 4 "agree" K23.fk) (hgoes_behind:bC P w K mg base 2 4 "goes_behind" K23.iJ) (F:cK K "pairings" "pairings" pL f fd) (hm:mg "pairings"=some (.ref f)):bC P w K mg base 4 3 "pairings" K23.kO:=
 have sc:=B_
 bF (k:=3) (gB:=K23.u_) F hm sc (λ_ _ _ _ _ _ us hl=>match us,hl with | [_,_,_],_=>rfl) (λcdv A outer s H E J T hr=>
 (au (gI (aO hneed_small hr (ak (aa 0) (ak (aa 1) aq))))
 (au (gI (aO hneed_count hr (ak (aa 2) (ak av (ak (lD m.MOST_SMALL) aq)))))
 (au (aM 3 sc.nd (aO OR hr (ak (aa 0) aq)))
 (au (aM 4 sc.nd (aO OR hr (ak (aa 1) aq)))
 (au (aM 5 sc.nd (BY ["a","b"] [1,3,4] (dR (bB (ak (aJ (aa 0) av) aq) m.range)) (λ_ _ _ _ _ hc=>⟨(aE 0 (bR rfl)),bz,(bB (ak (aJ (aa 2) av) aq) m.range),(aE 1 (bR rfl)),(dZ (fc (aO OB hr (ak (aa 3) (ak (aa 4) (ak (bq (az (aa 0) (az (aa 1) aP))) (ak (bq (az (aa 0) (az (aa 1) aP))) aq))))))),(bq (az (aa 0) (az (aa 1) aP)))⟩)))
 (au (nM 5 (aM 6 sc.nd (eE (az (bq aP) aP))))
 (au (aM 7 sc.nd (eE (az (bq aP) aP)))
 (au (eN (bB (ak (aa 2) aq) m.range) (aE 8 sc.nd) (au (nM 5 (BW 6 ["ahead","pair"] [5,3,4] sc.nd (cI (aa 6)) (λ_ _ _ _ _ hc=>⟨(aE 0 (bR rfl)),bz,(ku (aa 2)),(aE 1 (bR rfl)),(dZ (fc (aO hgoes_behind hr (ak (aa 3) (ak (aa 4) (ak (aa 0) (ak (aa 1) aq))))))),(fJ (aa 0) (bq (az (aa 1) aP)))⟩)))
 (aG (zH 7 (aa 6)))))
 (aG (aV (aa 7)))))))))))) (λas r _ h=>h)
noncomputable abbrev yI:T9:=top 23
theorem Jh:bf ["pairing","pair"] ["pairing","pair"] (ay yI):=⟨rfl,rfl,rfl,by decide +kernel,rfl,by decide +kernel,by decide +kernel⟩
theorem EK (m:dh w K mg) (OE:bC P w K mg base 1 1 "rising" K23.gM) (F:cK K "added" "added" yI f fd) (hm:mg "added"=some (.ref f)):bC P w K mg base 2 2 "added" K33.oq:=
 have sc:=Jh
 bF (k:=1) (gB:=K33.Dq) F hm sc (λ_ _ _ _ _ _ us hl=>match us,hl with | [_,_],_=>rfl) (λcdv A outer s H E J T hr=>
 (aG (aV (aO OE hr (ak (fJ (aa 0) (bq (az (aa 1) aP))) aq))))) (λas r _ h=>h)
noncomputable abbrev lZ:T9:=top 24
theorem yQ:bf ["one","other","side","point"] ["one","other","side","point"] (ay lZ):=⟨rfl,rfl,rfl,by decide +kernel,rfl,by decide +kernel,by decide +kernel⟩
theorem vX (m:dh w K mg) (F:cK K "pairs_with" "pairs_with" lZ f fd) (hm:mg "pairs_with"=some (.ref f)):bC P w K mg base 1 4 "pairs_with" K33.gq:=
 have sc:=yQ
 bF (k:=0) (gB:=K33.qE) F hm sc (λ_ _ _ _ _ _ us hl=>match us,hl with | [_,_,_,_],_=>rfl) (λcdv A outer s H E J T hr=>
 (au (b9 (ki hr.units (aa 2) av) (aG (aV (bL ["answer"] [3] (dR (bB (ak (aJ (aa 1) av) aq) m.range)) (λ_ _ _ _ _ hc=>⟨(aE 0 (bR rfl)),bz,(bq (az (aa 1) (az (aa 0) aP)))⟩)))) bS)
 (aG (aV (bL ["answer"] [3] (dR (bB (ak (aJ (aa 0) av) aq) m.range)) (λ_ _ _ _ _ hc=>⟨(aE 0 (bR rfl)),bz,(bq (az (aa 0) (az (aa 1) aP)))⟩)))))) (λas r _ h=>h)
noncomputable abbrev pM:T9:=top 25
theorem Ca:bf ["one","other"] ["one","other"] (ay pM):=⟨rfl,rfl,rfl,by decide +kernel,rfl,by decide +kernel,by decide +kernel⟩
theorem zE (m:dh w K mg) (F:cK K "picks_of" "picks_of" pM f fd) (hm:mg "picks_of"=some (.ref f)):bC P w K mg base 1 2 "picks_of" K33.kP:=
 have sc:=Ca
 bF (k:=0) (gB:=K33.vc) F hm sc (λ_ _ _ _ _ _ us hl=>match us,hl with | [_,_],_=>rfl) (λcdv A outer s H E J T hr=>
 (aG (aV (eO (bL ["point"] [] (dR (bB (ak (aJ (aa 0) av) aq) m.range)) (λ_ _ _ _ _ hc=>⟨(aE 0 (bR rfl)),bz,(bq (az av (az (aa 0) aP)))⟩)) (bL ["point"] [] (dR (bB (ak (aJ (aa 1) av) aq) m.range)) (λ_ _ _ _ _ hc=>⟨(aE 0 (bR rfl)),bz,(bq (az av (az (aa 0) aP)))⟩)))))) (λas r _ h=>h)
noncomputable abbrev pJ:T9:=top 26
theorem B9:bf ["one","other","pairing","known","grown"] ["one","other","pairing","known"] (ay pJ):=⟨rfl,rfl,rfl,by decide +kernel,rfl,by decide +kernel,by decide +kernel⟩
theorem zC (m:dh w K mg) (hpairs_with:bC P w K mg base 1 4 "pairs_with" K33.gq) (OY:bC P w K mg base 2 2 "added" K33.oq) (hpicks_of:bC P w K mg base 1 2 "picks_of" K33.kP) (F:cK K "outcomes" "outcomes" pJ f fd) (hm:mg "outcomes"=some (.ref f)):bC P w K mg base 3 4 "outcomes" K33.kN:=
 have sc:=B9
 bF (k:=2) (gB:=K33.u7) F hm sc (λ_ _ _ _ _ _ us hl=>match us,hl with | [_,_,_,_],_=>rfl) (λcdv A outer s H E J T hr=>
 (au (aM 4 sc.nd (tu hr.units ["a","pair"] [0,1,2] (dR (bB (ak (aJ (aa 0) av) aq) m.range)) (λ_ _ _ _ _ hc=>⟨(aE 0 (bR rfl)),bz,(ku (aO hpairs_with hr (ak (aa 2) (ak (aa 3) (ak av (ak (aa 0) aq)))))),(aE 1 (bR rfl)),bz,(aa 1),(aO OY hr (ak (aa 4) (ak (aa 1) aq)))⟩)))
 (aG (aV (bL ["side","point"] [0,1,4,3] (cI (aO hpicks_of hr (ak (aa 0) (ak (aa 1) aq)))) (λ_ _ _ _ _ hc=>⟨(dw (bh (aE 0 (bR rfl)) (bh (aE 1 (bR rfl)) cU))),bz,(bL ["pair"] [4,5] (cI (aO hpairs_with hr (ak (aa 2) (ak (aa 3) (ak (aa 0) (ak (aa 1) aq)))))) (λ_ _ _ _ _ hc=>⟨(aE 0 (bR rfl)),(dZ (IS hr.units (gu hr.units (aa 1) (aa 0)) (aa 2))),(gu hr.units (aa 1) (aa 0))⟩) (hcl:=jT hc rfl))⟩)))))) (λas r _ h=>h)
noncomputable abbrev iV:T9:=top 27
theorem qY:bf ["rows","depths"] ["rows","depths"] (ay iV):=⟨rfl,rfl,rfl,by decide +kernel,rfl,by decide +kernel,by decide +kernel⟩
theorem qi (m:dh w K mg) (F:cK K "answered_still" "answered_still" iV f fd) (hm:mg "answered_still"=some (.ref f)):bC P w K mg base 1 2 "answered_still" K33.dI:=
 have sc:=qY
 bF (k:=0) (gB:=K33.kY) F hm sc (λ_ _ _ _ _ _ us hl=>match us,hl with | [_,_],_=>rfl) (λcdv A outer s H E J T hr=>
 (aG (aV (AG (ak (bL ["row"] [1] (cI (aa 0)) (λ_ _ _ _ _ hc=>⟨(aE 0 (bR rfl)),bz,(IU (ak (bL ["pairing"] [1] (cI (aa 0)) (λ_ _ _ _ _ hc=>⟨(aE 0 (bR rfl)),bz,(yD (gu hr.units (aa 1) (aa 0)) gS)⟩) (hcl:=jT hc rfl)) aq) m.any)⟩)) aq) m.all)))) (λas r _ h=>h)
noncomputable abbrev uI:T9:=top 28
theorem Gu:bf ["rows","stays","depths","depth","gone","pairing"] ["rows","stays"] (ay uI):=⟨rfl,rfl,rfl,by decide +kernel,rfl,by decide +kernel,by decide +kernel⟩
theorem CU (m:dh w K mg) (hanswered_still:bC P w K mg base 1 2 "answered_still" K33.dI) (F:cK K "peeled" "peeled" uI f fd) (hm:mg "peeled"=some (.ref f)):bC P w K mg base 2 2 "peeled" K33.mq:=
 have sc:=Gu
 bF (k:=1) (gB:=K33.uv) F hm sc (λ_ _ _ _ _ _ us hl=>match us,hl with | [_,_],_=>rfl) (λcdv A outer s H E J T hr=>
 (au (aM 2 sc.nd (s_ hr.units ["pairing"] [] (kr (aa 0)) (λ_ _ _ _ _ hc=>⟨(aE 0 (bR rfl)),bz,(aa 0),gS⟩)))
 (au (aM 3 sc.nd av)
 (au (lC 4 ["pairing"] [1,0,2] sc.nd (kr (aa 0)) (λ_ _ _ _ _ hc=>⟨(aE 0 (bR rfl)),(dZ (ji (fc (yz 1 hanswered_still m.fv_answered_still hr (ak (gu hr.units (aa 2) (aa 0)) (ak (aa 3) aq)) AH)))),(aa 0)⟩))
 (au (BX 400000 (qd (aa 4)) (au (nM 4 (eN (ku (aa 4)) (aE 5 sc.nd) (aG (FZ 2 hr.units (aa 3) (aa 5)))))
 (au (D9 3 sc.nd av)
 (aG (lC 4 ["pairing"] [2,1,0] sc.nd (kr (aa 0)) (λ_ _ _ _ _ hc=>⟨(aE 0 (bR rfl)),(dZ (mV (qc (yx (gu hr.units (aa 1) (aa 0)) gS) (qV (ji (fc (yz 2 hanswered_still m.fv_answered_still hr (ak (gu hr.units (aa 3) (aa 0)) (ak (aa 1) aq)) AH))))))),(aa 0)⟩))))))
 (aG (aV (aa 2)))))))) (λas r _ h=>h)
noncomputable abbrev jk:T9:=top 29
theorem tH:bf ["one","other","base"] ["one","other","base"] (ay jk):=⟨rfl,rfl,rfl,by decide +kernel,rfl,by decide +kernel,by decide +kernel⟩
theorem qM (m:dh w K mg) (OJ:bC P w K mg base 4 3 "pairings" K23.kO) (F:cK K "pairings_with" "pairings_with" jk f fd) (hm:mg "pairings_with"=some (.ref f)):bC P w K mg base 5 3 "pairings_with" K33.gK:=
 have sc:=tH
 bF (k:=4) (gB:=K33.mJ) F hm sc (λ_ _ _ _ _ _ us hl=>match us,hl with | [_,_,_],_=>rfl) (λcdv A outer s H E J T hr=>
 (aG (aV (bL ["pairing"] [2] (cI (aO OJ hr (ak (aa 0) (ak (aa 1) (ak (lD m.MOST_SMALL) aq))))) (λ_ _ _ _ _ hc=>⟨(aE 0 (bR rfl)),(dZ (fc (AG (ak (bL ["pair"] [0] (cI (aa 1)) (λ_ _ _ _ _ hc=>⟨(aE 0 (bR rfl)),bz,(yC hr.units (aa 0) (aa 1))⟩) (hcl:=jT hc rfl)) aq) m.all))),(aa 0)⟩))))) (λas r _ h=>h)
noncomputable abbrev iX:T9:=top 30
theorem qZ:bf ["one","other","base","known","rows"] ["one","other","base"] (ay iX):=⟨rfl,rfl,rfl,by decide +kernel,rfl,by decide +kernel,by decide +kernel⟩
theorem ql (m:dh w K mg) (hpairings_with:bC P w K mg base 5 3 "pairings_with" K33.gK) (OI:bC P w K mg base 3 4 "outcomes" K33.kN) (OW:bC P w K mg base 2 2 "peeled" K33.mq) (F:cK K "parting_depths" "parting_depths" iX f fd) (hm:mg "parting_depths"=some (.ref f)):bC P w K mg base 6 3 "parting_depths" K33.dJ:=
 have sc:=qZ
 bF (k:=5) (gB:=K33.kZ) F hm sc (λ_ _ _ _ _ _ us hl=>match us,hl with | [_,_,_],_=>rfl) (λcdv A outer s H E J T hr=>
 (au (aM 3 sc.nd (s_ hr.units ["pairing"] [] (cI (aO hpairings_with hr (ak (aa 0) (ak (aa 1) (ak (aa 2) aq))))) (λ_ _ _ _ _ hc=>⟨(aE 0 (bR rfl)),bz,(aa 0),kq⟩)))
 (au (BV 4 hr.units ["pairing"] [0,1,3] sc.nd (kr (aa 3)) (λ_ _ _ _ _ hc=>⟨(aE 0 (bR rfl)),bz,(aa 0),(aO OI hr (ak (aa 1) (ak (aa 2) (ak (aa 0) (ak (aa 3) aq)))))⟩))
 (aG (aV (Ga OW m.fv_answered_still hr (aa 4))))))) (λas r _ h=>h)
noncomputable abbrev pC:T9:=top 31
theorem B7:bf ["depths","pairing","depth"] ["depths","pairing","depth"] (ay pC):=⟨rfl,rfl,rfl,by decide +kernel,rfl,by decide +kernel,by decide +kernel⟩
theorem zx (m:dh w K mg) (F:cK K "in_layer" "in_layer" pC f fd) (hm:mg "in_layer"=some (.ref f)):bC P w K mg base 1 3 "in_layer" K33.kM:=
 have sc:=B7
 bF (k:=0) (gB:=K33.u5) F hm sc (λ_ _ _ _ _ _ us hl=>match us,hl with | [_,_,_],_=>rfl) (λcdv A outer s H E J T hr=>
 (aG (aV (qe (IW hr.units (aa 1) (aa 0)) (nO (Lv (yD (gu hr.units (aa 0) (aa 1)) gS) (nO (Lu (gu hr.units (aa 0) (aa 1)) (aa 2))))))))) (λas r _ h=>h)
noncomputable abbrev nW:T9:=top 32
theorem zN:bf ["depths","depth"] ["depths","depth"] (ay nW):=⟨rfl,rfl,rfl,by decide +kernel,rfl,by decide +kernel,by decide +kernel⟩
theorem xJ (m:dh w K mg) (hin_layer:bC P w K mg base 1 3 "in_layer" K33.kM) (F:cK K "layers_of" "layers_of" nW f fd) (hm:mg "layers_of"=some (.ref f)):bC P w K mg base 2 2 "layers_of" K33.jJ:=
 have sc:=zN
 bF (k:=1) (gB:=K33.sG) F hm sc (λ_ _ _ _ _ _ us hl=>match us,hl with | [_,_],_=>rfl) (λcdv A outer s H E J T hr=>
 (aG (aV (bL ["step"] [0] (dR (bB (ak (eO (aa 1) av) aq) m.range)) (λ_ _ _ _ _ hc=>⟨(aE 0 (bR rfl)),bz,(bL ["pairing"] [1,0] (kr (aa 1)) (λ_ _ _ _ _ hc=>⟨(aE 0 (bR rfl)),(dZ (fc (aO hin_layer hr (ak (aa 1) (ak (aa 0) (ak (aa 2) aq)))))),(aa 0)⟩) (hcl:=jT hc rfl))⟩))))) (λas r _ h=>h)
noncomputable abbrev uH:T9:=top 33
theorem Gr:bf ["one","other","depth"] ["one","other","depth"] (ay uH):=⟨rfl,rfl,rfl,by decide +kernel,rfl,by decide +kernel,by decide +kernel⟩
theorem CS (m:dh w K mg) (hneed_small:bC P w K mg base 3 2 "need_small" K23.dX) (hneed_count:bC P w K mg base 2 3 "need_count" K55.fH) (hparting_depths:bC P w K mg base 6 3 "parting_depths" K33.dJ) (hlayers_of:bC P w K mg base 2 2 "layers_of" K33.jJ) (F:cK K "layers" "layers" uH f fd) (hm:mg "layers"=some (.ref f)):bC P w K mg base 7 3 "layers" K33.pR:=
 have sc:=Gr
 bF (k:=6) (gB:=K33.Am) F hm sc (λ_ _ _ _ _ _ us hl=>match us,hl with | [_,_,_],_=>rfl) (λcdv A outer s H E J T hr=>
 (au (gI (aO hneed_small hr (ak (aa 0) (ak (aa 1) aq))))
 (au (gI (aO hneed_count hr (ak (aa 2) (ak av (ak (lD m.MOST_DEPTH) aq)))))
 (aG (aV (aO hlayers_of hr (ak (aO hparting_depths hr (ak (aa 0) (ak (aa 1) (ak (bq aP) aq)))) (ak (aa 2) aq)))))))) (λas r _ h=>h)
noncomputable abbrev iG:T9:=top 34
theorem Gs:bf ["one","other","pairs","base"] ["one","other","pairs"] (ay iG):=⟨rfl,rfl,rfl,by decide +kernel,rfl,by decide +kernel,by decide +kernel⟩
theorem Dl (m:dh w K mg) (hneed_small:bC P w K mg base 3 2 "need_small" K23.dX) (OE:bC P w K mg base 1 1 "rising" K23.gM) (hparting_depths:bC P w K mg base 6 3 "parting_depths" K33.dJ) (F:nk K "parted" "parted" iG f fd):fG P w K mg base (rB P w) 7 f fd ["one","other","pairs"] (vG K 3 K32.eu):=
 have sc:=Gs
 HQ (k:=6) (gB:=K32.An) F sc (λcdv A outer s H E J hr=>oE.h (
 (au (gI (aO hneed_small hr (ak (aa 0) (ak (aa 1) aq))))
 (au (aM 3 sc.nd (aO OE hr (ak (aa 2) aq)))
 (aG (aV (IV hr.units (aO hparting_depths hr (ak (aa 0) (ak (aa 1) (ak (aa 3) aq)))) (aa 3) av))))))) (λ_ _ _=>rfl)
theorem CT (G:fG P w K mg base (rB P w) 7 f fd ["one","other","pairs"] (vG K 3 K32.eu)) (F:nk K "parted" "parted" iG f fd) (hm:mg "parted"=some (.ref f)):Ex P w K mg base 7 3 "parted" K32.eu:=⟨f,fd,["one","other","pairs"],G,hm,F.kp,F.bindsAll (λT kV doc pm an cdv ct us hl=>match us,hl with | [_,_,_],_=>⟨_,rfl,rfl⟩)⟩
theorem Bl (G:fG P w K mg base (rB P w) 7 f fd ["one","other","pairs"] (vG K 3 K32.eu)) (F:nk K "parted" "parted" iG f fd) (hm:mg "parted"=some (.ref f)):Ew P w K mg base 7 2 "parted" K32.eu:=⟨f,fd,["one","other","pairs"],G,hm,F.kp,F.bindsOne (λT kV doc pm an cdv ct us hl=>match us,hl with | [_,_],_=>⟨_,rfl,rfl⟩)⟩
noncomputable abbrev nR:T9:=top 36
theorem zM:bf ["_law_script","_law_k"] ["_law_script","_law_k"] (ay nR):=⟨rfl,rfl,rfl,by decide +kernel,rfl,by decide +kernel,by decide +kernel⟩
theorem xB (m:dh w K mg) (F:cK K "_law_cell" "_law_cell" nR f fd) (hm:mg "_law_cell"=some (.ref f)):bC P w K mg base 1 2 "_law_cell" K51.bQ:=
 have sc:=zM
 bF (k:=0) (gB:=K51.sF) F hm sc (λ_ _ _ _ _ _ us hl=>match us,hl with | [_,_],_=>rfl) (λcdv A outer s H E J T hr=>
 (au (b9 (gR BP (gx λ_ _ _=>.bl _) (aa 1) (ff (ak (aa 0) aq) m.len)) (aG (aV (bY (aJ (aa 0) (aa 1)) (IZ av av)))) bS)
 (aG (aV av)))) (λas r _ h=>h)
noncomputable abbrev lR:T9:=top 37
theorem yK:bf ["_law_cell_here","_law_many","_law_letters","_law_sign","_law_stem","_law_found","_law_k","_law_other","_law_name"] ["_law_cell_here","_law_many"] (ay lR):=⟨rfl,rfl,rfl,by decide +kernel,rfl,by decide +kernel,by decide +kernel⟩
theorem vO (m:dh w K mg) (F:cK K "_law_names" "_law_names" lR f fd) (hm:mg "_law_names"=some (.ref f)):bC P w K mg base 1 2 "_law_names" K51.gp:=
 have sc:=yK
 bF (k:=0) (gB:=K51.qy) F hm sc (λ_ _ _ _ _ _ us hl=>match us,hl with | [_,_],_=>rfl) (λcdv A outer s H E J T hr=>
 (au (aM 2 sc.nd uF)
 (au (aM 3 sc.nd (aJ (aa 2) (bY (cZ (aa 0) av) av)))
 (au (aM 4 sc.nd (jA (aa 3) (eO av (bY (cZ (aa 0) av) av))))
 (au (aM 5 sc.nd (eE aP))
 (au (eN (bB (ak (aa 1) aq) m.range) (aE 6 sc.nd) (au (aM 7 sc.nd (aJ (aa 2) (bY (eO (cZ (aa 0) av) (jA av (aa 6))) av)))
 (au (aM 8 sc.nd (aJ (eE (az (eO (aa 4) (aa 7)) (az (eO (aa 7) (aa 4)) (az (jA (aa 3) (eO (aa 6) av)) aP)))) (bY (aa 0) av)))
 (au (b9 (ki hr.units (aa 8) uF) (aG (aM 8 sc.nd uF)) bS)
 (aG (g_ 5 (aa 8)))))))
 (aG (aV (B0 (ak (aa 5) aq) m.sorted))))))))) (λas r _ h=>h)
noncomputable abbrev nQ:T9:=top 38
theorem zL:bf ["_law_cell_here","_law_size","_law_found","_law_k"] ["_law_cell_here","_law_size"] (ay nQ):=⟨rfl,rfl,rfl,by decide +kernel,rfl,by decide +kernel,by decide +kernel⟩
theorem xA (m:dh w K mg) (F:cK K "_law_bits" "_law_bits" nQ f fd) (hm:mg "_law_bits"=some (.ref f)):bC P w K mg base 1 2 "_law_bits" K51.gJ:=
 have sc:=zL
 bF (k:=0) (gB:=K51.sE) F hm sc (λ_ _ _ _ _ _ us hl=>match us,hl with | [_,_],_=>rfl) (λcdv A outer s H E J T hr=>
 (au (aM 2 sc.nd (eE aP))
 (au (eN (bB (ak (aa 1) aq) m.range) (aE 3 sc.nd) (au (g_ 2 (tw hr.units (bY (aa 0) av) av))
 (aG (aM 0 sc.nd (cZ (aa 0) av)))))
 (aG (aV (aa 2)))))) (λas r _ h=>h)
noncomputable abbrev lV:T9:=top 39
theorem yN:bf ["_law_names_here","_law_many","_law_cells","_law_marks","_law_k","_law_bits_here","_law_arrows"] ["_law_names_here","_law_many","_law_cells"] (ay lV):=⟨rfl,rfl,rfl,by decide +kernel,rfl,by decide +kernel,by decide +kernel⟩
theorem vR (m:dh w K mg) (h_law_bits:bC P w K mg base 1 2 "_law_bits" K51.gJ) (F:cK K "_law_world" "_law_world" lV f fd) (hm:mg "_law_world"=some (.ref f)):bC P w K mg base 2 3 "_law_world" K51.fF:=
 have sc:=yN
 bF (k:=1) (gB:=K51.qB) F hm sc (λ_ _ _ _ _ _ us hl=>match us,hl with | [_,_,_],_=>rfl) (λcdv A outer s H E J T hr=>
 (au (aM 3 sc.nd (eE aP))
 (au (eN (bB (ak (ff (ak (aJ (aa 0) av) aq) m.len) aq) m.range) (aE 4 sc.nd) (au (aM 5 sc.nd (aO h_law_bits hr (ak (aJ (aa 2) (aa 4)) (ak (aa 1) aq))))
 (aG (g_ 3 (bq (az (aJ (aJ (aa 0) av) (aa 4)) (az (bZ (ak (bL ["_law_p"] [5] (dR (bB (ak (aa 1) aq) m.range)) (λ_ _ _ _ _ hc=>⟨(aE 0 (bR rfl)),(dZ (qd (aJ (aa 1) (aa 0)))),(aa 0)⟩)) aq) m.tuple) aP)))))))
 (au (aM 6 sc.nd (eE aP))
 (au (eN (bB (ak (ff (ak (aJ (aa 0) av) aq) m.len) aq) m.range) (aE 4 sc.nd) (au (aM 5 sc.nd (aO h_law_bits hr (ak (aJ (aa 2) (eO av (aa 4))) (ak (jA (aa 1) (aa 1)) aq))))
 (aG (g_ 6 (bq (az (aJ (aJ (aa 0) av) (aa 4)) (az (bZ (ak (bL ["_law_p"] [5,1] (dR (bB (ak (jA (aa 1) (aa 1)) aq) m.range)) (λ_ _ _ _ _ hc=>⟨(aE 0 (bR rfl)),(dZ (qd (aJ (aa 1) (aa 0)))),(bq (az (cZ (aa 0) (aa 2)) (az (bY (aa 0) (aa 2)) aP)))⟩)) aq) m.tuple) aP)))))))
 (aG (aV (bq (az (aa 1) (az (bZ (ak (aa 3) aq) m.tuple) (az (bZ (ak (aa 6) aq) m.tuple) aP))))))))))) (λas r _ h=>h)
noncomputable abbrev lS:T9:=top 40
theorem yL:bf ["_law_cell_here","_law_many","_law_left","_law_found","_law_k"] ["_law_cell_here","_law_many"] (ay lS):=⟨rfl,rfl,rfl,by decide +kernel,rfl,by decide +kernel,by decide +kernel⟩
theorem vP (m:dh w K mg) (F:cK K "_law_order" "_law_order" lS f fd) (hm:mg "_law_order"=some (.ref f)):bC P w K mg base 1 2 "_law_order" K55.dz:=
 have sc:=yL
 bF (k:=0) (gB:=K55.qz) F hm sc (λ_ _ _ _ _ _ us hl=>match us,hl with | [_,_],_=>rfl) (λcdv A outer s H E J T hr=>
 (au (aM 2 sc.nd (BZ (ak (aa 1) aq) m.range m.list))
 (au (aM 3 sc.nd (eE aP))
 (au (eN (bB (ak (aa 1) aq) m.range) (aE 4 sc.nd) (au (zG 3 2 (bY (aa 0) (ff (ak (aa 2) aq) m.len)))
 (aG (aM 0 sc.nd (cZ (aa 0) av)))))
 (aG (aV (bZ (ak (aa 3) aq) m.tuple))))))) (λas r _ h=>h)
noncomputable abbrev kD:T9:=top 41
theorem v7:bf ["_law_world_here","_law_order_here","_law_marks","_law_arrows"] ["_law_world_here","_law_order_here"] (ay kD):=⟨rfl,rfl,rfl,by decide +kernel,rfl,by decide +kernel,by decide +kernel⟩
theorem ue (m:dh w K mg) (F:cK K "_law_turned" "_law_turned" kD f fd) (hm:mg "_law_turned"=some (.ref f)):bC P w K mg base 1 2 "_law_turned" K55.iI:=
 have sc:=v7
 bF (k:=0) (gB:=K55.oQ) F hm sc (λ_ _ _ _ _ _ us hl=>match us,hl with | [_,_],_=>rfl) (λcdv A outer s H E J T hr=>
 (au (lC 2 ["_law_name","_law_points"] [1] sc.nd (cI (aJ (aa 0) av)) (λ_ _ _ _ _ hc=>⟨(dw (bh (aE 0 (bR rfl)) (bh (aE 1 (bR rfl)) cU))),bz,(bq (az (aa 0) (az (bZ (ak (vp hr.units (ak (bL ["_law_p"] [2] (cI (aa 1)) (λ_ _ _ _ _ hc=>⟨(aE 0 (bR rfl)),bz,(aJ (aa 1) (aa 0))⟩) (hcl:=jT hc rfl)) aq) m.sorted) aq) m.tuple) aP)))⟩))
 (au (lC 3 ["_law_name","_law_some"] [1] sc.nd (cI (aJ (aa 0) av)) (λ_ _ _ _ _ hc=>⟨(dw (bh (aE 0 (bR rfl)) (bh (aE 1 (bR rfl)) cU))),bz,(bq (az (aa 0) (az (bZ (ak (vp hr.units (ak (bL ["_law_p","_law_q"] [2] (cI (aa 1)) (λ_ _ _ _ _ hc=>⟨(dw (bh (aE 0 (bR rfl)) (bh (aE 1 (bR rfl)) cU))),bz,(bq (az (aJ (aa 2) (aa 0)) (az (aJ (aa 2) (aa 1)) aP)))⟩) (hcl:=jT hc rfl)) aq) m.sorted) aq) m.tuple) aP)))⟩))
 (aG (aV (bq (az (aJ (aa 0) av) (az (bZ (ak (aa 2) aq) m.tuple) (az (bZ (ak (aa 3) aq) m.tuple) aP))))))))) (λas r _ h=>h)
noncomputable abbrev jF:T9:=top 42
theorem uG:bf ["_law_world_here","_law_cell_here","_law_many","_law_marks","_law_arrows","_law_at","_law_thing","_law_some","_law_name","_law_had","_law_now"] ["_law_world_here","_law_cell_here"] (ay jF):=⟨rfl,rfl,rfl,by decide +kernel,rfl,by decide +kernel,by decide +kernel⟩
theorem rX (m:dh w K mg) (F:cK K "_law_flipped" "_law_flipped" jF f fd) (hm:mg "_law_flipped"=some (.ref f)):bC P w K mg base 1 2 "_law_flipped" K55.eZ:=
 have sc:=uG
 bF (k:=0) (gB:=K55.n8) F hm sc (λ_ _ _ _ _ _ us hl=>match us,hl with | [_,_],_=>rfl) (λcdv A outer s H E J T hr=>
 (au (kj (aa 0) (dw (bh (aE 2 sc.nd) (bh (aE 3 sc.nd) (bh (aE 4 sc.nd) cU)))))
 (au (b9 (ki hr.units (fJ (ff (ak (aa 3) aq) m.len) (ff (ak (aa 4) aq) m.len)) av) (aG (aV (aa 0))) bS)
 (au (aM 5 sc.nd (bY (aa 1) (fJ (ff (ak (aa 3) aq) m.len) (ff (ak (aa 4) aq) m.len))))
 (au (aM 6 sc.nd (bY (cZ (aa 1) av) (aa 2)))
 (au (aM 7 sc.nd (aa 3))
 (au (b9 (gR Mv (gx λ_ _ _=>.bl _) (aa 5) (ff (ak (aa 3) aq) m.len)) (au (aM 5 sc.nd (I_ (aa 5) (ff (ak (aa 3) aq) m.len)))
 (au (aM 6 sc.nd (bq (az (aa 6) (az (bY (cZ (aa 1) av) (aa 2)) aP))))
 (aG (aM 7 sc.nd (aa 4))))) bS)
 (au (kj (aJ (aa 7) (aa 5)) (dw (bh (aE 8 sc.nd) (bh (aE 9 sc.nd) cU))))
 (au (aM 10 sc.nd (bZ (ak (o8 hr.units (ak (fJ (aa 9) (bq (az (aa 6) aP))) aq) m.sorted m.set) aq) m.tuple))
 (au (b9 (Ls hr.units (aa 6) (aa 9)) (aG (aM 10 sc.nd (bZ (ak (bL ["_law_one"] [6] (cI (aa 9)) (λ_ _ _ _ _ hc=>⟨(aE 0 (bR rfl)),(dZ (D7 hr.units (aa 0) (aa 1))),(aa 0)⟩)) aq) m.tuple))) bS)
 (au (aM 7 sc.nd (fJ (fJ (uE (aa 7) o9 (o_ (aa 5))) (bq (az (bq (az (aa 8) (az (aa 10) aP))) aP))) (uE (aa 7) (o_ (fJ (aa 5) av)) o9)))
 (au (b9 (fc (iT kit_tuple zq m.tuple (aa 6) m.isinstance)) (aG (aV (bq (az (aa 2) (az (aa 3) (az (aa 7) aP)))))) bS)
 (aG (aV (bq (az (aa 2) (az (aa 7) (az (aa 4) aP)))))))))))))))))) (λas r _ h=>h)
noncomputable abbrev pB:T9:=top 43
theorem B6:bf ["_law_script","_law_sizes","_law_first","_law_second","_law_marks","_law_names_here","_law_one","_law_way","_law_other"] ["_law_script","_law_sizes"] (ay pB):=⟨rfl,rfl,rfl,by decide +kernel,rfl,by decide +kernel,by decide +kernel⟩
theorem zw (m:dh w K mg) (h_law_cell:bC P w K mg base 1 2 "_law_cell" K51.bQ) (h_law_names:bC P w K mg base 1 2 "_law_names" K51.gp) (h_law_world:bC P w K mg base 2 3 "_law_world" K51.fF) (h_law_order:bC P w K mg base 1 2 "_law_order" K55.dz) (h_law_turned:bC P w K mg base 1 2 "_law_turned" K55.iI) (h_law_flipped:bC P w K mg base 1 2 "_law_flipped" K55.eZ) (F:cK K "_law_two" "_law_two" pB f fd) (hm:mg "_law_two"=some (.ref f)):bC P w K mg base 3 2 "_law_two" K55.jr:=
 have sc:=B6
 bF (k:=2) (gB:=K55.uZ) F hm sc (λ_ _ _ _ _ _ us hl=>match us,hl with | [_,_],_=>rfl) (λcdv A outer s H E J T hr=>
 (au (aM 2 sc.nd (aO h_law_cell hr (ak (aa 0) (ak av aq))))
 (au (aM 3 sc.nd (aO h_law_cell hr (ak (aa 0) (ak av aq))))
 (au (aM 4 sc.nd (aO h_law_names hr (ak (cZ (aa 3) av) (ak (aJ (eE (az av (az av (az av (az av aP))))) (bY (aa 3) av)) aq))))
 (au (nM 4 (aM 5 sc.nd (bq (az (aa 4) (az (aO h_law_names hr (ak (aO h_law_cell hr (ak (aa 0) (ak av aq))) (ak (aJ (eE (az av (az av (az av (az av (az av aP)))))) (bY (cZ (aa 3) av) av)) aq))) aP)))))
 (au (aM 6 sc.nd (aO h_law_world hr (ak (aa 5) (ak (aJ (aa 1) (bY (aa 2) av)) (ak (bL ["_law_k"] [0] (dR (bB (ak av aq) m.range)) (λ_ _ _ _ _ hc=>⟨(aE 0 (bR rfl)),bz,(aO h_law_cell hr (ak (aa 1) (ak (eO av (aa 0)) aq)))⟩)) aq)))))
 (au (aM 7 sc.nd (bY (cZ (aa 2) av) av))
 (au (b9 (ki hr.units (aa 7) av) (aG (aV (bq (az (aa 6) (az (aO h_law_world hr (ak (aa 5) (ak (aJ (aa 1) (bY (cZ (aa 2) av) av)) (ak (bL ["_law_k"] [0] (dR (bB (ak av aq) m.range)) (λ_ _ _ _ _ hc=>⟨(aE 0 (bR rfl)),bz,(aO h_law_cell hr (ak (aa 1) (ak (eO av (aa 0)) aq)))⟩)) aq)))) aP))))) bS)
 (au (aM 8 sc.nd (aO h_law_turned hr (ak (aa 6) (ak (aO h_law_order hr (ak (aO h_law_cell hr (ak (aa 0) (ak av aq))) (ak (aJ (aa 6) av) aq))) aq))))
 (au (b9 (gR p7 (gx λ_ _ _=>.bl _) (aa 7) av) (aG (aM 8 sc.nd (aO h_law_flipped hr (ak (aa 8) (ak (aO h_law_cell hr (ak (aa 0) (ak av aq))) aq))))) bS)
 (au (b9 (ki hr.units (aa 7) av) (aG (aM 8 sc.nd (aO h_law_flipped hr (ak (aa 8) (ak (aO h_law_cell hr (ak (aa 0) (ak av aq))) aq))))) bS)
 (aG (aV (bq (az (aa 6) (az (aa 8) aP)))))))))))))))) (λas r _ h=>h)
noncomputable abbrev lU:T9:=top 44
theorem yM:bf ["_law_script","_law_one","_law_other","_law_first","_law_order_here","_law_found","_law_k","_law_cell_here","_law_a","_law_b"] ["_law_script","_law_one","_law_other"] (ay lU):=⟨rfl,rfl,rfl,by decide +kernel,rfl,by decide +kernel,by decide +kernel⟩
theorem vQ (m:dh w K mg) (h_law_cell:bC P w K mg base 1 2 "_law_cell" K51.bQ) (h_law_order:bC P w K mg base 1 2 "_law_order" K55.dz) (F:cK K "_law_pairs" "_law_pairs" lU f fd) (hm:mg "_law_pairs"=some (.ref f)):bC P w K mg base 2 3 "_law_pairs" K32.g7:=
 have sc:=yM
 bF (k:=1) (gB:=K32.qA) F hm sc (λ_ _ _ _ _ _ us hl=>match us,hl with | [_,_,_],_=>rfl) (λcdv A outer s H E J T hr=>
 (au (aM 3 sc.nd (aO h_law_cell hr (ak (aa 0) (ak av aq))))
 (au (aM 4 sc.nd (aO h_law_order hr (ak (aO h_law_cell hr (ak (aa 0) (ak av aq))) (ak (aJ (aa 1) av) aq))))
 (au (aM 5 sc.nd (eE aP))
 (au (eN (bB (ak (bY (aa 3) av) aq) m.range) (aE 6 sc.nd) (au (aM 7 sc.nd (aO h_law_cell hr (ak (aa 0) (ak (eO av (aa 6)) aq))))
 (au (aM 8 sc.nd (bY (aa 7) (aJ (aa 1) av)))
 (au (aM 9 sc.nd (bY (cZ (aa 7) av) (aJ (aa 2) av)))
 (au (b9 (mV (qc (ki hr.units (bY (cZ (aa 3) av) av) av) (qc (gR BP (gx λ_ _ _=>.bl _) (aJ (aa 4) (aa 8)) (aJ (aa 2) av)) (qV (gR p7 (gx λ_ _ _=>.bl _) (bY (cZ (aa 7) av) av) av))))) (aG (aM 9 sc.nd (aJ (aa 4) (aa 8)))) bS)
 (aG (g_ 5 (bq (az (aa 8) (az (aa 9) aP))))))))))
 (aG (aV (bZ (ak (aa 5) aq) m.tuple)))))))) (λas r _ h=>h)
noncomputable abbrev pA:T9:=top 45
theorem B5:bf ["_law_told","_law_pairs_here","_law_key","_law_depth"] ["_law_told","_law_pairs_here"] (ay pA):=⟨rfl,rfl,rfl,by decide +kernel,rfl,by decide +kernel,by decide +kernel⟩
theorem zu (m:dh w K mg) (F:cK K "_law_due" "_law_due" pA f fd) (hm:mg "_law_due"=some (.ref f)):bC P w K mg base 1 2 "_law_due" K32.fj:=
 have sc:=B5
 bF (k:=0) (gB:=K32.uY) F hm sc (λ_ _ _ _ _ _ us hl=>match us,hl with | [_,_],_=>rfl) (λcdv A outer s H E J T hr=>
 (au (aM 2 sc.nd (bZ (ak (o8 hr.units (ak (aa 1) aq) m.sorted m.set) aq) m.tuple))
 (au (eN (bB (ak (ff (ak (aa 0) aq) m.len) aq) m.range) (aE 3 sc.nd) (aG (b9 (D8 hr.units (aa 2) (aJ (aa 0) (aa 3))) (aG (aV (aa 3))) bS)))
 (aG (aV gS))))) (λas r _ h=>h)
noncomputable abbrev qX:T9:=top 46
theorem Ed:bf ["_law_found","_law_due_here"] ["_law_found","_law_due_here"] (ay qX):=⟨rfl,rfl,rfl,by decide +kernel,rfl,by decide +kernel,by decide +kernel⟩
theorem Bk (m:dh w K mg) (F:cK K "_law_is" "_law_is" qX f fd) (hm:mg "_law_is"=some (.ref f)):bC P w K mg base 1 2 "_law_is" K32.fW:=
 have sc:=Ed
 bF (k:=0) (gB:=K32.yb) F hm sc (λ_ _ _ _ _ _ us hl=>match us,hl with | [_,_],_=>rfl) (λcdv A outer s H E J T hr=>
 (au (b9 (yx (aa 1) gS) (aG (aV (yD (aa 0) gS))) bS)
 (aG (aV (qe (iT Au uS m.int (aa 0) m.isinstance) (qe (AI (iT yh rW m.bool (aa 0) m.isinstance)) (nO (tw hr.units (aa 0) (aa 1))))))))) (λas r _ h=>h)
noncomputable abbrev nV:T9:=top 47
theorem MJ:bf ["_law_script","_law_one","_law_other","_law_told","_law_pairs_here","_law_way","_law_some"] ["_law_script"] (ay nV):=⟨rfl,rfl,rfl,by decide +kernel,rfl,by decide +kernel,by decide +kernel⟩
theorem Mu (m:dh w K mg) (h_law_two:bC P w K mg base 3 2 "_law_two" K55.jr) (OU:bC P w K mg base 7 3 "layers" K33.pR) (h_law_pairs:bC P w K mg base 2 3 "_law_pairs" K32.g7) (h_law_cell:bC P w K mg base 1 2 "_law_cell" K51.bQ) (h_law_due:bC P w K mg base 1 2 "_law_due" K32.fj) (OD:Ex P w K mg base 7 3 "parted" K32.eu) (h_law_is:bC P w K mg base 1 2 "_law_is" K32.fW) (OM:Ew P w K mg base 7 2 "parted" K32.eu) (F:cK K "law" "law" nV f fd):fG P w K mg base n5 8 f fd ["_law_script"] (pK K 1 K32.tX):=
 have sc:=MJ
 IQ (k:=7) (gB:=K32.Kg) F sc (λcdv A outer s H E J T hr=>
 (au (kj (aO h_law_two hr (ak (aa 0) (ak (eE (az av (az av (az av (az av (az av (az av (az av (az av aP))))))))) aq))) (dw (bh (aE 1 sc.nd) (bh (aE 2 sc.nd) cU))))
 (au (aM 3 sc.nd (aO OU hr (ak (aa 1) (ak (aa 2) (ak (IX (ak (aJ (aa 1) av) (ak (aJ (aa 2) av) aq)) m.max) aq)))))
 (au (aM 4 sc.nd (aO h_law_pairs hr (ak (aa 0) (ak (aa 1) (ak (aa 2) aq)))))
 (au (aM 5 sc.nd (aO h_law_cell hr (ak (aa 0) (ak av aq))))
 (au (aM 4 sc.nd (aJ (eE (az (aa 4) (az (I0 (aa 4) Mz) (az (fJ (aa 4) (uE (aa 4) o9 (o_ av))) aP)))) (bY (aa 5) av)))
 (au (b9 (ji (fc (aO h_law_is hr (ak (qW OD hr (ak (aa 1) (ak (aa 2) (ak (aa 4) aq)))) (ak (aO h_law_due hr (ak (aa 3) (ak (aa 4) aq))) aq))))) (aG (aV kq)) bS)
 (au (b9 (gR p7 (gx λ_ _ _=>.bl _) (fJ (aJ (aa 1) av) (aJ (aa 2) av)) av) (aG (aV kq)) bS)
 (au (aM 6 sc.nd (aJ (aJ (aa 3) av) (bY (aO h_law_cell hr (ak (aa 0) (ak av aq))) (ff (ak (aJ (aa 3) av) aq) m.len))))
 (au (b9 (ji (fc (aO h_law_is hr (ak (qW OD hr (ak (aa 1) (ak (aa 2) (ak (aa 6) aq)))) (ak (aO h_law_due hr (ak (aa 3) (ak (aa 6) aq))) aq))))) (aG (aV kq)) bS)
 (au (b9 (ki hr.units (bY (cZ (aa 5) av) av) av) (aG (aV (aO h_law_is hr (ak (qW OD hr (ak (aa 1) (ak (aa 2) (ak gS aq)))) (ak (aO h_law_due hr (ak (aa 3) (ak (bq aP) aq))) aq))))) bS)
 (aG (aV (aO h_law_is hr (ak (F_ OM hr (ak (aa 1) (ak (aa 2) aq))) (ak (aO h_law_due hr (ak (aa 3) (ak (bq aP) aq))) aq)))))))))))))))) (λas r _ h=>h)
end
end K32
namespace K32
open PySem DL K01 WP K51 K52 K55 K23 K22 K33
noncomputable abbrev eQ (ns:List Int) (v w:Wd) (os:List Nat) (ps:Ps) (a b c d:Option S):Ev:=[some (.bor (ns.map D.int)),some (.d v.d),some (.d w.d),some (.d (.int (K51.bW ns 16))),some (.d (.tup (os.map dN))),some (.own (ps.map dP)),a,b,c,d]
theorem Ac {env:Ev}{a b:G Bool}{x:Bool}(h:a env=.ok x) (h2:∃y,b env=.ok y):∃y,jf a b env=.ok y:=by
 obtain ⟨y,h2⟩:=h2
 cases x with
 | true=>exact ⟨y,t_ h h2⟩
 | false=>exact ⟨false,xo h⟩
theorem Fw {x y:R}{b:Bool}(h:gT false x y=.ok (.d (.bl b))):gT true x y=.ok (.d (.bl (!b))):=by
 unfold gT at h ⊢
 cases q:g8 y with
 | bad=>rw [q] at h;cases h
 | exc z=>rw [q] at h;cases h
 | ok ys=>
  rw [q,aN] at h
  rw [aN]
  split at h
  ·rename_i c
   rw [if_pos c]
   have:inD x.dat ys=b:=by simpa using h
   rw [this];rfl
  ·cases h
theorem Ez (ns:List Int){v w:Wd}(t:Pr v w):∃ps:Ps,g7 [.bor (ns.map D.int),.d v.d,.d w.d]=.ok (.d (aS ps))/\ps.length<=5:=by
 have vlo:=t.vo.lo
 have wlo:=t.wo.lo
 have key:Wp (g7 [.bor (ns.map D.int),.d v.d,.d w.d]) λr=>∃ps:Ps,r=.d (aS ps)/\ps.length<=5:=by
  obtain ⟨os,ho,lo,_⟩:=Hj (K51.bW ns 15) v.m t.vo.hi
  refine jQ (br (c2 rfl rfl (K51.d_ ns _ 16 rfl)) rfl (br (c2 (c2 rfl rfl (K51.d_ ns _ 15 rfl)) (two rfl rfl (gy _ _)) ho) rfl (br rfl rfl ?_)))
  obtain ⟨n,hn,Qx⟩:=mR (K51.bW ns 16) 6 (by decide)
  refine jq (nP (n:=n) (cS ((two rfl rfl (dO _ 6 (by decide))).trans (by rw [<-hn];rfl))) (by omega)) ?_
  refine lJ (λk env=>∃(ps:Ps) (a b c d:Option S),env=eQ ns v w os ps a b c d/\ps.length=k) ⟨[],none,none,none,none,rfl,rfl⟩ ?_ ?_
  ·rintro k hk _ ⟨ps,a,b,c,d,rfl,hl⟩
   have ck:=K51.jc ns (17 + k)
   obtain ⟨x,hx,OG⟩:=mR (K51.bW ns (17 + k)) v.m (by omega)
   obtain ⟨y,hy,_⟩:=mR (K51.bW ns (17 + k) / 8) w.m (by omega)
   refine ⟨_,rfl,br (c2 rfl (two rfl rfl (tN _ _)) (K51.d_ ns _ (17 + k) (by simp))) rfl (br (two rfl (two rfl rfl (gy _ _)) (dO _ _ (by omega))) rfl (br (two (two rfl rfl (iZ _ 8 (by decide) (by decide))) (two rfl rfl (gy _ _)) (dO _ _ (by omega))) rfl ?_))⟩
   rw [hx,hy]
   have hix:=BE (ps:=os) (p:=x) (by omega)
   have app:∀z:Nat,Wp (j_ 5 (bJ (aA (af 8) (aA (af 9) aX))) (eQ ns v w os ps (some (.d (.int k))) (some (.d (.int (K51.bW ns (17 + k))))) (some (.d (.int x))) (some (.d (.int z)))))
     (λo=>∃e,o=.nx e/\∃(ps:Ps) (a b c d:Option S),e=eQ ns v w os ps a b c d/\ps.length=k + 1):=λz=>
    pW rfl (bD (aI rfl rfl (aI rfl rfl bx)) t2) rfl (by rw [QO];omega) ⟨_,rfl,ps++[(x,z)],_,_,_,_,by show _=eQ ns v w os (ps++[(x,z)]) _ _ _ _;unfold eQ;rw [Ro];rfl,by rw [Rm,hl];rfl⟩
   have ht:∃b,jf (bO (g2 (fN false) (g2 cW (g2 fM (af 3) (gC (.int 6))) (gC (.int 2))) (gC (.int 1)))) (jf (bO (g2 (i8 λi j=>.bl (decide (i < j))) (g2 bg (af 4) (af 8)) (g2 bg (af 2) (gC (.int 0))))) (bO (g2 (i8 λi j=>.bl (decide (j < i))) (g2 cW (g2 fM (af 7) (gC (.int 64))) (gC (.int 5))) (gC (.int 0))))) (eQ ns v w os ps (some (.d (.int k))) (some (.d (.int (K51.bW ns (17 + k))))) (some (.d (.int x))) (some (.d (.int y))))=.ok b:=by
    refine Ac (eT (two (two rfl rfl (iZ _ 6 (by decide) (by decide))) rfl (dO _ 2 (by decide))) rfl (K01.eq_int ..)) (Ac (eT (two rfl rfl hix) (two rfl rfl (gy _ _)) rfl) ⟨_,eT (two (two rfl rfl (iZ _ 64 (by decide) (by decide))) rfl (dO _ 5 (by decide))) rfl rfl⟩)
   obtain ⟨bb,hb⟩:=ht
   exact cC (BH hb (λ_=>f_ (two rfl rfl hix) rfl (app _)) λ_=>lQ (app y))
  ·rintro _ ⟨ps,a,b,c,d,rfl,hl⟩
   exact bN rfl rfl ⟨_,rfl,ps,rfl,by omega⟩
 obtain ⟨_,h,ps,rfl,hk⟩:=key
 exact ⟨ps,h,hk⟩
section
variable {v w:Wd}
noncomputable def pv (v w:Wd) (n:Nat) (B:Ps):Option Nat:=(QU (n + 1)).find? λj=>!(decide (B∈T4 v w) && La v w j B)
theorem EB (t:Pr v w) (n:Nat) (hv:v.m<=n) (hw:w.m<=n) (d:D) (B:Ps) (hr:gM [.d d]=.ok (.d (aS B))) (hB:B.length<=100):eu [.d v.d,.d w.d,.d d]=.ok (.d (dV (pv v w n B))):=by
 obtain ⟨f,h1,h2⟩:=Jx (B:=B) t hB
 refine cA (jU (c2 rfl rfl (tW t)) (br (c1 rfl hr) rfl (bN (r:=.d (dV (pv v w n B))) ?_ rfl rfl)))
 unfold E1
 rw [c3 rfl rfl rfl h1,aN]
 show (if dg (aS B)=true then M.ok (R.d ((gm ((kn v w B).map aS) ((kn v w B).map λk=>dV (f k)) (aS B)).getD (.int 0))) else .bad)=_
 rw [if_pos (gG B),mO h_]
 have hk:B∈kn v w B↔B∈T4 v w:=by rw [kg];exact ⟨λh=>h.1,λh=>⟨h,λ_ h=>h⟩⟩
 congr 3
 by_cases hB:B∈T4 v w
 ·rw [if_pos (hk.mpr hB)]
  have h3:=λj=>h2 j B (hk.mpr hB)
  show dV (f B)=_
  congr 1
  unfold pv
  cases q:f B with
  | none=>
   refine (Wq.mpr λj _=>?_).symm
   rw [decide_eq_true hB,<-h3 j,q]
   show ¬(!(true && true))=true
   decide
  | some e=>
   rw [q] at h3
   have he:e<=n:=Zr λc=>by
    have:=JD t ((sU t).mp hB) hv hw ((h3 n).symm.trans (decide_eq_true c)) e
    rw [<-h3 e] at this
    exact absurd (of_decide_eq_true this) (SJ _)
   refine (U9.mpr ⟨?_,Ri.mpr (by omega),λj hj=>?_⟩).symm
   ·rw [<-h3 e,decide_eq_true hB]
    show (!(true && decide (e < e)))=true
    simp
   ·rw [<-h3 j,decide_eq_true hB]
    show (!(!(true && decide (j < e))))=true
    rw [decide_eq_true hj];rfl
 ·rw [if_neg λz=>hB (hk.mp z)]
  unfold pv
  rw [decide_eq_false hB]
  have:(QU (n + 1)).find? (λj=>!(false && La v w j B))=some 0:=U9.mpr ⟨rfl,Ri.mpr (by omega),λj hj=>absurd hj (RZ _)⟩
  rw [this];rfl
theorem L6 (n:Nat) (hn:n<=100) (ps:Ps) (hl:ps.length < 64):fj [.bor ((QU (n + 1)).map (iu v w)),.d (aS ps)]=.ok (.d (dV (pv v w n (iY ps)))):=by
 refine cA (br (n1 (n1 (x:=.d (aS ps)) rfl (Gp ps hl)) rfl) rfl ?_)
 rw [<-pN]
 obtain ⟨B,hB⟩:∃B,B=iY ps:=⟨_,rfl⟩
 rw [<-hB]
 refine jq (ds:=(QU (n + 1)).map dN) (iB (cS (n1 rfl (by show M.ok (R.d (.int (((QU (n + 1)).map (iu v w)).length:Int)))=_;rw [QO,SD]))) (by omega)) ?_
 have key:∀(js:List Nat) (z:Option S),(∀j∈js,j<=n)->Wp (gf (aD 3) (b8 (bO (g2 (gT true) (af 2) (g2 bg (af 0) (af 3)))) (bH (af 3)) dS) (js.map dN) [some (.bor ((QU (n + 1)).map (iu v w))),some (.d (aS ps)),some (.d (aS B)),z])
   λo=>match js.find? (λj=>!(decide (B∈T4 v w) && La v w j B)) with
    | some j=>o=.rt (.d (.int j))
    | none=>∃e,o=.nx e:=by
  intro js
  induction js with
  | nil=>exact λz _=>⟨_,rfl,_,rfl⟩
  | cons j js ih=>
   intro z hj
   have ht:bO (g2 (gT true) (af 2) (g2 bg (af 0) (af 3))) [some (.bor ((QU (n + 1)).map (iu v w))),some (.d (aS ps)),some (.d (aS B)),some (.d (dN j))]=.ok (!(decide (B∈T4 v w) && La v w j B)):=by
    refine eT rfl (two rfl rfl (jn (m:=.bor) (by rw [Rj,Ui (by have:=hj j QW;omega)];rfl))) ?_
    have h:=Kn (m:=.own) B ((T4 v w).filter (La v w j)) (.d (iu v w j)) rfl
    have e:decide (B∈(T4 v w).filter (La v w j))=(decide (B∈T4 v w) && La v w j B):=by rw [R5,decide_eq_true_eq,RI,QX,decide_eq_true_eq]
    rw [e] at h
    exact Fw h
   rw [Ra]
   show Wp (aD 3 (dN j) _ >>= _) _
   rw [show aD 3 (dN j) [some (.bor ((QU (n + 1)).map (iu v w))),some (.d (aS ps)),some (.d (aS B)),z]=.ok [some (.bor ((QU (n + 1)).map (iu v w))),some (.d (aS ps)),some (.d (aS B)),some (.d (dN j))] from rfl,aN,List.find?_cons]
   cases q:(decide (B∈T4 v w) && La v w j B) with
   | false=>
    rw [q] at ht
    rw [uw ht]
    exact ⟨_,rfl,rfl⟩
   | true=>
    rw [q] at ht
    rw [sL ht]
    exact ih _ λi hi=>hj i (QS _ hi)
 refine (key (QU (n + 1)) none λj hj=>by have:=Ri.mp hj;omega).mono λo h=>?_
 unfold pv
 cases q:(QU (n + 1)).find? (λj=>!(decide (B∈T4 v w) && La v w j B)) with
 | some j=>rw [q] at h;rw [h];rfl
 | none=>
  rw [q] at h
  obtain ⟨e,rfl⟩:=h
  exact bN rfl rfl rfl
theorem Nd (o:Option Nat):fW [.d (dV o),.d (dV o)]=.ok (.d (.bl true)):=by
 cases o with
 | none=>rfl
 | some e=>exact cA (dW rfl (bN (r:=.d (.bl true)) (by
   show fN false (.d (.int (e:Int))) (.d (.int (e:Int)))=_
   rw [K01.eq_int];simp) rfl rfl))
theorem AW (t:Pr v w) (n:Nat) (n4:n<=100) (hv:v.m<=n) (hw:w.m<=n) (d:D) (ps:Ps) (hl:ps.length < 64) (hr:gM [.d d]=.ok (.d (aS (iY ps)))){env:Ev}{g1 g2':G R}(h1:g1 env=.ok (j6 (.d (dV (pv v w n (iY ps)))))) (h2:g2' env=.ok (.l .own ((QU (n + 1)).map (iu v w)))){g3:G R}(h3:g3 env=.ok (.d (aS ps))):
  gN (aK 2 K32.fW) (ao g1 (ao (gN (aK 2 K32.fj) (ao g2' (ao g3 aC))) aC)) env=.ok (.d (.bl true)):=c2 h1 (c2 h2 h3 (L6 n n4 ps hl)) (Nd _)
end
theorem Jo (ps:Ps):(iY ps).length<=ps.length:=by
 have:=(lF (fD pF) (tQ ps)).1
 rw [<-pN] at this
 simpa using this
theorem Il (ns:List Int) (h:ns.length<=63):tX [.bor (ns.map .int)]=.ok (.d (.bl true)):=by
 obtain ⟨v,w,hw,t,_⟩:=Jz ns [2,3,1,3,2,3,2,4] rfl (by decide)
 have v4:=t.v4
 have w4:=t.w4
 obtain ⟨n,hn⟩:∃n,n=max v.m w.m:=⟨_,rfl⟩
 have Px:xW [.d (.int v.m),.d (.int w.m)]=.ok (.d (.int (n:Int))):=by
  show M.ok (R.d (.int (if (w.m:Int) > v.m then (w.m:Int) else v.m)))=_
  congr 3
  rw [hn]
  split <;> omega
 obtain ⟨ps0,hp0,l0⟩:=Ez ns t
 have par:∀(d:D) (ps:Ps),ps.length < 64->gM [.d d]=.ok (.d (aS (iY ps)))->eu [.d v.d,.d w.d,.d d]=.ok (.d (dV (pv v w n (iY ps)))):=λd ps hl hr=>EB t n (by omega) (by omega) d (iY ps) hr (by have:=Jo ps;omega)
 refine cA (tG (c2 rfl (mP rfl (by show 8<=1000;decide)) hw) rfl rfl (br (c3 rfl rfl (w:=.d (.int (n:Int))) ?_ (Ey t n (by omega))) rfl (br (c3 rfl rfl rfl hp0) rfl (br (c2 rfl rfl (K51.d_ ns _ 22 rfl)) rfl ?_))))
 ·show (ao _ _ _ >>= xW)=_
  unfold ao aC
  rw [two rfl rfl (gy _ _),two rfl rfl (gy _ _)]
  exact Px
 obtain ⟨i,hi,Qh⟩:=mR (K51.bW ns 22) 3 (by decide)
 obtain ⟨ps,lp,hp⟩:∃ps:Ps,ps.length<=6/\g2 bg (fZ (aA (af 4) (aA (Bx (af 4)) (aA (g2 cY (af 4) (sD lN (af 4) uW (uX (gC (.int 1))))) aX)))) (g2 cW (af 5) (gC (.int 3))) [some (.bor (ns.map D.int)),some (.d v.d),some (.d w.d),some (.own ((QU (n + 1)).map (iu v w))),some (.d (aS ps0)),some (.d (.int (K51.bW ns 22))),none]=.ok (.d (aS ps)):=by
  have hc:lN (.d (aS ps0)) none (some 1)=.ok (.d (aS (ps0.take 1))):=by
   show M.ok (R.d (.tup (cutD (ps0.map dP) none (some 1))))=_
   rw [aS,UK]
   cases ps0 <;> rfl
  have ha:cY (.d (aS ps0)) (.d (aS (ps0.take 1)))=.ok (.d (aS (ps0++ps0.take 1))):=by
   rw [aS,aS,qh _ _ (by simp;omega),aS,Ro]
  have hm:=(two (env:=[some (.bor (ns.map D.int)),some (.d v.d),some (.d w.d),some (.own ((QU (n + 1)).map (iu v w))),some (.d (aS ps0)),some (.d (.int (K51.bW ns 22))),none]) (g:=af 5) (h:=gC (.int 3)) rfl rfl (dO _ 3 (by decide))).trans (show _=M.ok (R.d (.int (i:Int))) by rw [<-hi];rfl)
  have hL:=mP (env:=[some (.bor (ns.map D.int)),some (.d v.d),some (.d w.d),some (.own ((QU (n + 1)).map (iu v w))),some (.d (aS ps0)),some (.d (.int (K51.bW ns 22))),none]) (aI (g:=af 4) rfl rfl (aI (g:=Bx (af 4)) (r:=.d (aS ps0.reverse)) (by show M.ok (R.d (.tup (ps0.map dP).reverse))=M.ok (R.d (.tup (ps0.reverse.map dP)));rw [List.map_reverse]) rfl (aI (two (g:=af 4) rfl (show sD lN (af 4) uW (uX (gC (.int 1))) _=_ from hc) ha) rfl bx))) (by show 3<=1000;decide)
  match i,Qh with
  | 0,_=>exact ⟨ps0,by omega,two hL hm (jn (k:=0) rfl)⟩
  | 1,_=>exact ⟨ps0.reverse,by simp;omega,two hL hm (jn (k:=1) rfl)⟩
  | 2,_=>exact ⟨ps0++ps0.take 1,by simp;omega,two hL hm (jn (k:=2) rfl)⟩
 refine br hp rfl ?_
 refine dW (p5 (b:=true) (uL (AW t n (by omega) (by omega) (by omega) (aS ps) ps (by omega) (rD ps (by omega)) (c3 rfl rfl rfl (par _ ps (by omega) (rD ps (by omega)))) rfl rfl))) ?_
 cases q:decide ((7:Int) < v.m + w.m) with
 | true=>exact cC (ia ((eT (two (two rfl rfl (gy _ _)) (two rfl rfl (gy _ _)) rfl) rfl rfl).trans (by rw [<-q])) (bN rfl rfl rfl))
 | false=>
  refine dW ((eT (two (two rfl rfl (gy _ _)) (two rfl rfl (gy _ _)) rfl) rfl rfl).trans (by rw [<-q])) ?_
  obtain ⟨L,hL⟩:∃L,L=(T4 v w).filter (La v w 0):=⟨_,rfl⟩
  have L0:0 < L.length:=List.length_pos_of_mem (a:=[]) (by rw [hL];exact RI.mpr ⟨(sU t).mpr ⟨SX,(λ_ h=>nomatch h),(λ_ h=>nomatch h)⟩,rfl⟩)
  obtain ⟨j,hj,hjl⟩:=mR (K51.bW ns 23) L.length L0
  have hx:∀env:Ev,af 3 env=.ok (.l .own ((QU (n + 1)).map (iu v w)))->g2 bg (af 3) (gC (.int 0)) env=.ok (.d (.lst (L.map aS))):=λenv he=>by
   rw [hL]
   exact two he rfl (jn (m:=.own) (k:=0) (by rw [Rj,Ui (by omega)];rfl))
  have Qw:L[j].length<=4:=M4 t (RI.mp (show L[j]∈(T4 v w).filter (La v w 0) by rw [<-hL];exact Si hjl)).1
  refine br (r:=.d (aS L[j])) (WP.two (y:=.d (.int (j:Int))) (hx _ rfl) ((two (c2 rfl rfl (K51.d_ ns _ 23 rfl)) (n1 (hx _ rfl) (by show M.ok (R.d (.int ((L.map aS).length:Int)))=_;rw [QO])) (dO _ _ (by omega))).trans (by rw [hj])) (show bg (.d (.lst (L.map aS))) (.d (.int (j:Int)))=.ok (.d (aS L[j])) from jn (m:=.own) (by rw [Rj,Q5 hjl];rfl))) rfl ?_
  refine dW (p5 (b:=true) (uL (AW t n (by omega) (by omega) (by omega) (aS L[j]) L[j] (by omega) (rD _ (by omega)) (c3 rfl rfl rfl (par _ L[j] (by omega) (rD _ (by omega)))) rfl rfl))) ?_
  have hn0:=par .non [] (by decide) (by rw [Eh SX];rfl)
  have fin:∀{env:Ev}{g1:G R},g1 env=.ok (j6 (.d (dV (pv v w n (iY [])))))->af 3 env=.ok (.l .own ((QU (n + 1)).map (iu v w)))->gN (aK 2 K32.fW) (ao g1 (ao (gN (aK 2 K32.fj) (ao (af 3) (ao (bJ aX) aC))) aC)) env=.ok (.d (.bl true)):=λh1 h3=>AW t n (by omega) (by omega) (by omega) .non [] (by decide) (by rw [Eh SX];rfl) h1 h3 (bD bx (by decide))
  refine cC (BH (c:=decide (K51.bW ns 22 / 3 % 2=1)) (eT (two (two rfl rfl (iZ _ 3 (by decide) (by decide))) rfl (dO _ 2 (by decide))) rfl ((K01.eq_int ..).trans rfl)) (λ_=>bN (fin (c3 rfl rfl rfl hn0) rfl) rfl rfl) λ_=>lQ (bN (fin (c2 rfl rfl hn0) rfl) rfl rfl))
end K32
namespace K32
open PySem PySem.Spec PyProof.Rows L2 DL DX
theorem all_mk {l:Xy}{w:RD}{K:QK}{h:Sn}{mg:Str->Option QM}{fa:Q4}(X:K.In h) (G:h.Ns Rt mg) (Qd:mg "law"=some (.ref fa))
  {f23 f35:Q4}{o23 n23 o35 n35:Option Q4}{s23 s35:Array (Option QM)}{u23 v23 d23 p23 q23 r23 u35 v35 d35 p35 q35 r35:QM}
  {T23:Q4}{oT23:QM}{dT23:Option Q4}{nT23:Nat}{sT23:Array (Option QM)}
  {t1:Tok}
  {t2:Tok}
  (e0:FA K "is_whole" pD)
  (e1:FA K "tongue_of" nZ)
  (e2:FA K "need_tongue" kG)
  (e3:FA K "need_few_points" iC)
  (e4:FA K "need_small" lY)
  (e5:FA K "need_count" lW)
  (e6:FA K "rising" uJ)
  (e7:FA K "view" Ci)
  (e8:FA K "views" yY)
  (e9:FA K "agree" yJ)
  (e10:FA K "goes_behind" kE)
  (e11:FA K "pairings" pL)
  (e12:FA K "added" yI)
  (e13:FA K "pairs_with" lZ)
  (e14:FA K "picks_of" pM)
  (e15:FA K "outcomes" pJ)
  (e16:FA K "answered_still" iV)
  (e17:FA K "peeled" uI)
  (e18:FA K "pairings_with" jk)
  (e19:FA K "parting_depths" iX)
  (e20:FA K "in_layer" pC)
  (e21:FA K "layers_of" nW)
  (e22:FA K "layers" uH)
  (a23:RK K Rt "parted"=some (some (.ref f23)))
  (l23:K.lookup f23=some ⟨u23,o23,.func (Q6 "parted" "parted" (aU iG) (aQ iG) (ay iG) (.ref T23) v23 d23 p23 n23 q23 r23),s23⟩)
  (c23:T3 K q23 "parted"=true)
  (k23:R7 K (.ref f23)=true)
  (lT23:K.lookup T23=some ⟨oT23,dT23,.seq #[.none] nT23,sT23⟩)
  (e24:FA K "_law_cell" nR)
  (e25:FA K "_law_names" lR)
  (e26:FA K "_law_bits" nQ)
  (e27:FA K "_law_world" lV)
  (e28:FA K "_law_order" lS)
  (e29:FA K "_law_turned" kD)
  (e30:FA K "_law_flipped" jF)
  (e31:FA K "_law_two" pB)
  (e32:FA K "_law_pairs" lU)
  (e33:FA K "_law_due" pA)
  (e34:FA K "_law_is" qX)
  (a35:RK K Rt "law"=some (some (.ref f35)))
  (l35:K.lookup f35=some ⟨u35,o35,.func (Q6 "law" "law" (aU nV) (aQ nV) (ay nV) .none v35 d35 p35 n35 q35 r35),s35⟩)
  (c35:T3 K q35 "law"=true)
  (k35:R7 K (.ref f35)=true)
  (z0:RK K Rt "all"=some none)
  (z1:RK K Rt "any"=some none)
  (z2:RK K Rt "bool"=some none)
  (z3:RK K Rt "int"=some none)
  (z4:RK K Rt "isinstance"=some none)
  (z5:RK K Rt "len"=some none)
  (z6:RK K Rt "list"=some none)
  (z7:RK K Rt "max"=some none)
  (z8:RK K Rt "range"=some none)
  (z9:RK K Rt "set"=some none)
  (z10:RK K Rt "sorted"=some none)
  (z11:RK K Rt "tuple"=some none)
  (gMOST_DEPTH:RK K Rt "MOST_DEPTH"=some (some (.int 6 t1)))
  (gMOST_SMALL:RK K Rt "MOST_SMALL"=some (some (.int 4 t2))):
  ∃fd:Rq,(∀(s:QN) (v:QM),ZE s fd ⟨[v],[]⟩ [("_law_script",v)])/\∀base:Sn,K.In base->base.Ns Rt mg->fG l.prog w K mg base n5 8 fa fd ["_law_script"] (pK K 1 K32.tX):=by
 have e:=Qd.symm.trans (Rh X G a35)
 cases e
 obtain ⟨f0,d0,a0,F0⟩:=e0
 obtain ⟨f1,d1,a1,F1⟩:=e1
 obtain ⟨f2,d2,a2,F2⟩:=e2
 obtain ⟨f3,d3,a3,F3⟩:=e3
 obtain ⟨f4,d4,a4,F4⟩:=e4
 obtain ⟨f5,d5,a5,F5⟩:=e5
 obtain ⟨f6,d6,a6,F6⟩:=e6
 obtain ⟨f7,d7,a7,F7⟩:=e7
 obtain ⟨f8,d8,a8,F8⟩:=e8
 obtain ⟨f9,d9,a9,F9⟩:=e9
 obtain ⟨f10,d10,a10,F10⟩:=e10
 obtain ⟨f11,d11,a11,F11⟩:=e11
 obtain ⟨f12,d12,a12,F12⟩:=e12
 obtain ⟨f13,d13,a13,F13⟩:=e13
 obtain ⟨f14,d14,a14,F14⟩:=e14
 obtain ⟨f15,d15,a15,F15⟩:=e15
 obtain ⟨f16,d16,a16,F16⟩:=e16
 obtain ⟨f17,d17,a17,F17⟩:=e17
 obtain ⟨f18,d18,a18,F18⟩:=e18
 obtain ⟨f19,d19,a19,F19⟩:=e19
 obtain ⟨f20,d20,a20,F20⟩:=e20
 obtain ⟨f21,d21,a21,F21⟩:=e21
 obtain ⟨f22,d22,a22,F22⟩:=e22
 have F23:=HU (st:=iG) l23 c23 k23 lT23
 obtain ⟨f24,d24,a24,F24⟩:=e24
 obtain ⟨f25,d25,a25,F25⟩:=e25
 obtain ⟨f26,d26,a26,F26⟩:=e26
 obtain ⟨f27,d27,a27,F27⟩:=e27
 obtain ⟨f28,d28,a28,F28⟩:=e28
 obtain ⟨f29,d29,a29,F29⟩:=e29
 obtain ⟨f30,d30,a30,F30⟩:=e30
 obtain ⟨f31,d31,a31,F31⟩:=e31
 obtain ⟨f32,d32,a32,F32⟩:=e32
 obtain ⟨f33,d33,a33,F33⟩:=e33
 obtain ⟨f34,d34,a34,F34⟩:=e34
 have F35:=Dn (st:=nV) l35 c35 k35
 have m:dh w K mg:=⟨RQ X G z0,
   RQ X G z1,
   RQ X G z2,
   RQ X G z3,
   RQ X G z4,
   RQ X G z5,
   RQ X G z6,
   RQ X G z7,
   RQ X G z8,
   RQ X G z9,
   RQ X G z10,
   RQ X G z11,
   ⟨_,(.int 6),Rh X G gMOST_DEPTH,⟨_,rfl⟩,λ_=>(.int _)⟩,
   ⟨_,(.int 4),Rh X G gMOST_SMALL,⟨_,rfl⟩,λ_=>(.int _)⟩,
   ⟨_,a16,Rh X G a16⟩⟩
 refine ⟨Q6 "law" "law" (aU nV) (aQ nV) (ay nV) .none v35 d35 p35 n35 q35 r35,λs v=>.of_eq rfl,λbase _ _=>?_⟩
 have C0:=zy (P:=l.prog) (base:=base) m F0 (Rh X G a0)
 have C1:=xK (P:=l.prog) (base:=base) m F1 (Rh X G a1)
 have C2:=ug (P:=l.prog) (base:=base) m C1 F2 (Rh X G a2)
 have C3:=oH (P:=l.prog) (base:=base) m F3 (Rh X G a3)
 have C4:=vW (P:=l.prog) (base:=base) m C2 C3 F4 (Rh X G a4)
 have C5:=vV (P:=l.prog) (base:=base) m C0 F5 (Rh X G a5)
 have C6:=CV (P:=l.prog) (base:=base) m F6 (Rh X G a6)
 have C7:=HB (P:=l.prog) (base:=base) m F7 (Rh X G a7)
 have C8:=EN (P:=l.prog) (base:=base) m C7 F8 (Rh X G a8)
 have C9:=EL (P:=l.prog) (base:=base) m F9 (Rh X G a9)
 have C10:=uf (P:=l.prog) (base:=base) m C9 F10 (Rh X G a10)
 have C11:=zD (P:=l.prog) (base:=base) m C4 C5 C8 C9 C10 F11 (Rh X G a11)
 have C12:=EK (P:=l.prog) (base:=base) m C6 F12 (Rh X G a12)
 have C13:=vX (P:=l.prog) (base:=base) m F13 (Rh X G a13)
 have C14:=zE (P:=l.prog) (base:=base) m F14 (Rh X G a14)
 have C15:=zC (P:=l.prog) (base:=base) m C13 C12 C14 F15 (Rh X G a15)
 have C16:=qi (P:=l.prog) (base:=base) m F16 (Rh X G a16)
 have C17:=CU (P:=l.prog) (base:=base) m C16 F17 (Rh X G a17)
 have C18:=qM (P:=l.prog) (base:=base) m C11 F18 (Rh X G a18)
 have C19:=ql (P:=l.prog) (base:=base) m C18 C15 C17 F19 (Rh X G a19)
 have C20:=zx (P:=l.prog) (base:=base) m F20 (Rh X G a20)
 have C21:=xJ (P:=l.prog) (base:=base) m C20 F21 (Rh X G a21)
 have C22:=CS (P:=l.prog) (base:=base) m C4 C5 C19 C21 F22 (Rh X G a22)
 have O_parted:=Dl (P:=l.prog) (w:=w) (base:=base) m C4 C6 C19 F23
 have C23:=CT O_parted F23 (Rh X G a23)
 have D_parted:=Bl O_parted F23 (Rh X G a23)
 have C24:=xB (P:=l.prog) (base:=base) m F24 (Rh X G a24)
 have C25:=vO (P:=l.prog) (base:=base) m F25 (Rh X G a25)
 have C26:=xA (P:=l.prog) (base:=base) m F26 (Rh X G a26)
 have C27:=vR (P:=l.prog) (base:=base) m C26 F27 (Rh X G a27)
 have C28:=vP (P:=l.prog) (base:=base) m F28 (Rh X G a28)
 have C29:=ue (P:=l.prog) (base:=base) m F29 (Rh X G a29)
 have C30:=rX (P:=l.prog) (base:=base) m F30 (Rh X G a30)
 have C31:=zw (P:=l.prog) (base:=base) m C24 C25 C27 C28 C29 C30 F31 (Rh X G a31)
 have C32:=vQ (P:=l.prog) (base:=base) m C24 C28 F32 (Rh X G a32)
 have C33:=zu (P:=l.prog) (base:=base) m F33 (Rh X G a33)
 have C34:=Bk (P:=l.prog) (base:=base) m F34 (Rh X G a34)
 exact Mu m C31 C22 C32 C24 C33 C23 C34 D_parted F35
theorem Jm (K:QK) (H:Hp) (a:Q4) (ns:List Int) (hl:ns.length<=63) (hO:A4 H) (hS:cG K H a (ns.map V.int)):pK K 1 K32.tX [.ref a] H (λv _=>v=.bl true) λ_ _ _=>False:=by
 refine ⟨λ_=>none,[.bor (ns.map D.int)],λ_ _ z=>(by cases z),rfl,⟨_,[],rfl,⟨a,_,rfl,hS,?_⟩,rfl⟩,?_⟩
 ·exact K01.vA ns
 ·rw [Il ns hl]
  intro v J H2 _ r
  cases r
  rfl
theorem walk {l:Xy}{q:Rb}{loose:List Str}{XP:(Str->Option QM)->Sn->Prop}{YP:RD->Sn->Prop}{d:DefRec}{K:aa0->QK}(hn:l.most=some 63) (hdf:d.params.defaults=[])
  (hY:∀(w:RD) (h:Sn),YP w h->(K w.params).In h)
  (F:∀(w:RD) (mg:Str->Option QM) (fa:Q4) (h:Sn),(K w.params).In h->h.Ns Rt mg->mg d.name=some (.ref fa)->
   ∃fd:Rq,(∀(s:QN) (u:QM),ZE s fd ⟨[u],[]⟩ [("_law_script",u)])/\∀base:Sn,(K w.params).In base->base.Ns Rt mg->fG l.prog w (K w.params) mg base n5 8 fa fd ["_law_script"] (pK (K w.params) 1 K32.tX)):
  aaF q loose XP YP l.row.toRowW d [] (λf vs=>aao f vs):=
 L2.Jw (n:=63) (k:=8) (x:="_law_script") (CX:=λ_=>n5) (sp:=λw=>pK (K w.params) 1 K32.tX) hn (by decide) hdf ⟨rfl,by decide,by decide⟩ hY F (λw H a ns hl hO hS=>Jm _ H a ns hl hO hS) λ_ _ _ _ _ z=>z
end K32
open PySem PySem.W PyProof.Rows
set_option maxRecDepth 100000 in
set_option maxHeartbeats 0 in
theorem PySem.Challenge.cw_pickalike_k32_where_parted_holds : PySem.Challenge.rw_pickalike_k32_where_parted.Holds := by
 refine holds_law K32.look λsaid=>?_
 refine holds_open (q:=K32.VW) (XP:=XL K32.VW []) (YP:=Hook.says K32.HK) K32.left (Hook.of K32.HK) (Hook.keeps K32.HK) (λs e=>xl_of s (X8.mp e).1) XL.keeps (by rfl) (by rfl) (by rfl) (λs e=>recFacts_of (X8.mp e).2) (by rfl) said (by decide +kernel) ⟨rfl,rfl,rfl,rfl,rfl,by decide +kernel⟩ ?hw ?hc
 (case hw=>w_witness2)
 delta K32.HK
 k_fill
 refine K32.walk (l:=PySem.Challenge.rw_pickalike_k32_where_parted) rfl rfl (K:=K32.KF) (λw h Y=>PySem.W.kIn_of Y) ?F
 case F=>
  intro w mg fa h KX G hmg
  refine' K32.all_mk KX G hmg (DL.bX ?a0 ?l0 ?c0 ?k0) (DL.bX ?a1 ?l1 ?c1 ?k1) (DL.bX ?a2 ?l2 ?c2 ?k2) (DL.bX ?a3 ?l3 ?c3 ?k3) (DL.bX ?a4 ?l4 ?c4 ?k4) (DL.bX ?a5 ?l5 ?c5 ?k5) (DL.bX ?a6 ?l6 ?c6 ?k6) (DL.bX ?a7 ?l7 ?c7 ?k7) (DL.bX ?a8 ?l8 ?c8 ?k8) (DL.bX ?a9 ?l9 ?c9 ?k9) (DL.bX ?a10 ?l10 ?c10 ?k10) (DL.bX ?a11 ?l11 ?c11 ?k11) (DL.bX ?a12 ?l12 ?c12 ?k12) (DL.bX ?a13 ?l13 ?c13 ?k13) (DL.bX ?a14 ?l14 ?c14 ?k14) (DL.bX ?a15 ?l15 ?c15 ?k15) (DL.bX ?a16 ?l16 ?c16 ?k16) (DL.bX ?a17 ?l17 ?c17 ?k17) (DL.bX ?a18 ?l18 ?c18 ?k18) (DL.bX ?a19 ?l19 ?c19 ?k19) (DL.bX ?a20 ?l20 ?c20 ?k20) (DL.bX ?a21 ?l21 ?c21 ?k21) (DL.bX ?a22 ?l22 ?c22 ?k22) ?a23 ?l23 ?c23 ?k23 ?lT23 (DL.bX ?a24 ?l24 ?c24 ?k24) (DL.bX ?a25 ?l25 ?c25 ?k25) (DL.bX ?a26 ?l26 ?c26 ?k26) (DL.bX ?a27 ?l27 ?c27 ?k27) (DL.bX ?a28 ?l28 ?c28 ?k28) (DL.bX ?a29 ?l29 ?c29 ?k29) (DL.bX ?a30 ?l30 ?c30 ?k30) (DL.bX ?a31 ?l31 ?c31 ?k31) (DL.bX ?a32 ?l32 ?c32 ?k32) (DL.bX ?a33 ?l33 ?c33 ?k33) (DL.bX ?a34 ?l34 ?c34 ?k34) ?a35 ?l35 ?c35 ?k35 ?z0 ?z1 ?z2 ?z3 ?z4 ?z5 ?z6 ?z7 ?z8 ?z9 ?z10 ?z11 ?gMOST_DEPTH ?gMOST_SMALL
  case a0 | l0 | c0 | k0 | a1 | l1 | c1 | k1 | a2 | l2 | c2 | k2 | a3 | l3 | c3 | k3 | a4 | l4 | c4 | k4 | a5 | l5 | c5 | k5 | a6 | l6 | c6 | k6 | a7 | l7 | c7 | k7 | a8 | l8 | c8 | k8 | a9 | l9 | c9 | k9 | a10 | l10 | c10 | k10 | a11 | l11 | c11 | k11 | a12 | l12 | c12 | k12 | a13 | l13 | c13 | k13 | a14 | l14 | c14 | k14 | a15 | l15 | c15 | k15 | a16 | l16 | c16 | k16 | a17 | l17 | c17 | k17 | a18 | l18 | c18 | k18 | a19 | l19 | c19 | k19 | a20 | l20 | c20 | k20 | a21 | l21 | c21 | k21 | a22 | l22 | c22 | k22 | a23 | l23 | c23 | k23 | lT23 | a24 | l24 | c24 | k24 | a25 | l25 | c25 | k25 | a26 | l26 | c26 | k26 | a27 | l27 | c27 | k27 | a28 | l28 | c28 | k28 | a29 | l29 | c29 | k29 | a30 | l30 | c30 | k30 | a31 | l31 | c31 | k31 | a32 | l32 | c32 | k32 | a33 | l33 | c33 | k33 | a34 | l34 | c34 | k34 | a35 | l35 | c35 | k35 | z0 | z1 | z2 | z3 | z4 | z5 | z6 | z7 | z8 | z9 | z10 | z11 | gMOST_DEPTH | gMOST_SMALL=>k_is
