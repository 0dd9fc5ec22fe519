import PyProof.Rows.All
import Wide.All
import OpenK.AllK
import Wide.FinOn
import Lean
import PyProof.EqAt
import PyProof.EqKinds
import PyProof.TupleCall
import KE.KIsAll
import PyProof.ExcAttrAll.ValueError
import PyProof.NeKinds
import PyProof.InstStoreFacts
import KE.KUnpackStar
import KE.KSortTup
import PyProof.TupleOfSeq
import PyProof.Rows.SortWalk
import PyProof.EnumFor
import PyProof.EnumStmt
import PyProof.ListRange
import PyProof.TupleKey
import PyProof.SetKind
import PyProof.Rows.SetFrom
import PyProof.SetRoads
import PyProof.CollectWalk
import PyProof.WalksMore
import PyProof.DictKinds
import PyProof.DictCompW
import PyProof.DictRoadsH
import PyProof.DictWalks
import PyProof.StrBlock
import PyProof.StrBlockI
import PyProof.StrLawsIdx
import PySem.Challenge.RW_pickalike_k72_maps_told
noncomputable section
open And renaming intro->ZG
open Array renaming length_toList->S4,getElem?_eq_some_iff->Us,getElem?_toList->UC,getD->Ve,getElem?_eq_getElem->VX,forIn_toList->Xo,getD_eq_getD_getElem?->Yl,toList->Zq,append_empty->aav,size_append->aaP,toList_push->aaZ
open Array.Perm renaming mem_iff->YA,refl->adN
open Bool renaming and_eq_true->SN,false_eq_true->Tf,false_ne_true->Tv,eq_iff_iff->Uq,not_true->Vy,or_eq_true->V6,true_and->Wi,and_false->Wq,not_false->XN,and_eq_true_iff->ZX,or_false->acs,and_self->acw,false_or->acC
open Classical renaming byContradiction->US,propDecidable->acJ
open False renaming elim->WC
open ForInStep renaming yield->VE
open Function renaming comp_def->YU
open Int renaming toNat_natCast->UJ,emod_lt_of_pos->Xm,emod_nonneg->Xp,fdiv_eq_ediv_of_nonneg->Yu,ediv_nonneg->ZN
open List renaming length_map->SK,range->SM,mem_cons_of_mem->SS,mem_cons_self->SV,size_toArray->S0,mem_map->S3,getElem?_eq_getElem->S5,mem_singleton->S6,mem_cons->S7,map_cons->Td,length_append->Te,map_append->Th,mem_range->Tj,getElem?_map->Tq,getElem?_eq_some_iff->Tt,all_eq_true->Tu,mem_append->TF,pairwise_map->TX,getElem_mem->T3,getElem?_set_ne->T6,mem_append_right->T8,map_map->T9,mem_filter->Ud,pairwise_iff_getElem->Ug,mem_of_getElem?->Ui,mem_iff_getElem->Uj,not_mem_nil->Uk,idxOf_lt_length_of_mem->Uo,length_cons->Uv,length_filter_le->UD,length_take->UE,getElem_map->UG,getElem?_append_right->UM,pairwise_append->UN,getElem?_set_self->UO,replicate->UQ,lookup_cons->UU,length->UX,map_congr_left->UY,eq_nil_or_concat->U3,concat_eq_append->U4,nodup_cons->U7,pairwise_singleton->U9,nodup_range->Vc,length_range->Vf,getElem?_append_left->Vh,length_replicate->Vk,length_drop->Vs,ext_getElem->Vt,nodup_nil->VA,append_assoc->VB,range_succ->VG,any_eq_true->VJ,take_length->VM,all_cons->VP,pairwise_cons->VQ,mem_append_left->VY,append_nil->V3,nodup_append->V8,getElem?_range->Wf,length_eq_zero_iff->Wj,pairwise_lt_range->Ws,getElem_idxOf->Wu,length_singleton->Ww,take_sublist->WD,getD_eq_getElem?_getD->WL,perm_ext_iff_of_nodup->WM,getLast?_concat->WO,drop_eq_getElem_cons->WT,getD->WX,getElem?_zip_eq_some->WY,take_succ->WZ,mem_filterMap->W9,getElem?_replicate->Xa,map_take->Xh,zip_cons_cons->Xi,filter_cons_of_pos->Xk,filter_cons_of_neg->Xl,eraseIdx_eq_take_drop_succ->XG,filter_congr->XI,eq_nil_of_length_eq_zero->XZ,mem_flatMap->X5,map_flatMap->X6,flatMap_def->X8,map_drop->Yb,filterMap_cons->Yd,filter_eq_self->Yk,length_nil->Yq,flatMap_append->Yr,map_nil->Yx,all_map->Yy,getLast?_eq_none_iff->YF,getElem_append_left->YL,pairwise_filterMap->Y6,getElem_inj->Y_,range_succ_eq_map->Zf,drop_eq_nil_of_le->Zh,flatMap_singleton->Zn,of_mem_zip->Zs,foldl_cons->Zw,take_append_drop->ZA,mem_iff_getElem?->ZC,pairwise_flatMap->ZI,length_eraseIdx->ZW,replicate_succ->Z8,filter_flatMap->aac,filterMap_map->aal,contains_cons->aap,any_cons->aar,getElem_range->aau,find?_eq_none->aax,filter_append->aaC,eraseIdx_nil->aaS,drop_sublist->aaU,getElem_drop->aaX,idxOf_append->aaY,any_map->aba,le_antisymm->abf,perm_middle->abh,map_fst_zip->abi,filter_map->abO,length_zip->abP,drop_zero->abX,filterMap->ab1,lookup->adh,map->adx
open List.Nodup renaming length_le_of_subset->TH
open List.Pairwise renaming and_mem->VS,nil->V5,imp->YR,of_map->acY,and->adE,map->adF
open List.Perm renaming append_left->acT,of_eq->adQ
open List.cons renaming inj->acD,injEq->adR
open Nat renaming le_refl->SW,lt_of_lt_of_le->To,zero_le->Tp,ne_of_lt->Tr,le_trans->Tz,not_lt_zero->Uw,lt_succ_self->UW,lt_irrefl->Vg,ne_of_gt->Vj,pow_le_pow_right->Vv,mul_le_mul_right->Vw,le_succ->VD,le_of_succ_le->V7,lt_trans->Wa,mul_le_mul->Wr,lt_trichotomy->WH,le_add_right->W0,le_of_lt_succ->XC,lt_succ_of_lt->XH,le_of_lt->XS,lt_of_le_of_lt->YB,div_div_eq_div_mul->Zk,mod_lt->ZP,lt_or_eq_of_le->aaw,le_of_eq->aa4,succ_mul->aa5,pow_succ->aa8,zero_add->aa9,add_mul->abL,add_assoc->acF
open Ne renaming symm->Vi
open Option renaming isSome_iff_exists->Ub,bind_some->Zc,getD_none->abd,map_some->abv,none->adg
open Option.some renaming inj->Ul,injEq->Vd
open Or renaming inr->Wm,inl->XW
open Prod renaming fst->TZ,snd->ZQ,ext->adT
open PyProof.Rows renaming slot_tuple_getitem->Um,callWith_type1->Wv,seqObj->Wx,IntsAre->W3,subscriptTail_builtinR->Xs,envOfC->YI,listUpdate_at->Y4,AllBare->Zo,entry_tuple_getitem->Z6,seqEpoch_at->aaa,args_tuple_getitem->aam,callWith_builtin1->aa2,get?_update_seq->abz,list_sort_plain->abA,entry_list_sort->abB,slicePart_none->abU,slot_list_sort->abY,args_list_sort->abZ,sortedHeap->ach,tupleItemsOf_->acp,subscriptTail->acr,sortedHeap_at->acB,IsTup->acZ,lt_int->adj,lt_str->adk,le_int->adn,keyKind'->adw
open PyProof.Rows.F renaming plain_set_update_loop->TJ,entry_set_update_loop->UT
open PyProof.Rows.IsTup renaming new->acN
open PySem renaming wpAny_bind->SE,wpAny_pure->SH,Value->SI,Shared->SJ,starEach->SX,wpAny->S8,Program->S_,foldedSetIterable->Tc,Addr->Tg,model->Ti,mainGlobals->Tw,World->TL,FuncData->TM,wpAny_newObj_type->TN,wpAny_holding->TQ,Around->TR,Expr->TV,wpAny_call_entry->TY,wpAny_callSpecial?_slot->T7,wpAny_mono->Uc,bootBuiltins->Ue,cellsFrom->Uh,Heap->Uz,sizeLine_eq->UB,behindInMarks->UH,wpAny_truthy_bool->UI,SetTable->UK,cLine->UL,compareOp->UP,wpAny_setState_of->U0,wpAny_standAt->U6,codeAny_builtin->U8,wpAny_setField_rec->U_,backTo->Vb,codeAny->Vq,wpAny_field->Vr,wpAny_typeNameOfWhole_keyiter->Vu,NameKind->Vx,letOwnedTupleGo->VC,wpAny_loadPart'->VF,wpAny_forIn_list->VI,wpAny_askSetting->VL,Scope->VN,Stmt->V0,assignEach->V1,wpAny_passesOwn->V2,codeAny_mono->V_,standAt->Wb,mem_of_lookup->Wc,wpAny_attempt->We,plainId_quiet->Wh,wpAny_getItem_str_slice->Wk,swapsWith->Wl,sysModules->Wn,binaryOp->Wt,wpAny_of_eq->Wy,pyNext->WJ,hashInt->WN,firstArgMember->WS,isSubtype_type->WV,wpAny_isInstance->W2,swapsWithSole->W8,wpAny_Call_Name_kw->W_,attributeBase->Xc,Builtin->Xd,mem_of_lookup->Xj,wpAny_specialOf->Xn,typeIs_str->Xv,sliceBounds->Xw,wpAny_pyIter_list->Xx,wpAny_rule->Xy,wpAny_storeSet_of->XD,wpAny_seqItems->XM,compTurn->XR,wpAny_typeOf->XU,builtinLookup_eq_fast->XX,wpAny_execs_nil->Ye,wpAny_updateSeq->Yj,wpAny_setEntries_of->Ym,codeAny_of_tree->Yp,post_val_or_str->Ys,pyIter->Yw,wpAny_pyIter_tuple->Yz,wpAny_setField->YD,wpAny_fieldsOf->YE,Paired->YG,searchCouldBeSeen->YM,wpAny_pyIter_slot->YO,arm_evalThenUse_ListComp->YS,wpAny_dictEntries->YV,keywordEach->YX,Keyword->YY,wpAny_pyHash_int->Y9,noFill_tuple_add->Za,checkBuiltinCall->Zb,richCompare_meets_room->Zi,codeAny_compStart_list->Zl,codeAny_compStart_dict->Zm,wpAny_isTrue_Compare1->Zp,inplaceOp->Zr,DictEntry->Zu,setAddHashed->ZD,typeLookup_type->ZE,isSubtype->ZF,arm_exec_Assign->ZH,wpAny_dictEpoch->ZK,wpAny_isOneOf_keyiter->ZL,wpAny_loadName_local->ZR,codeAny_call_builtin->ZU,isTrue->ZY,rawInt->ZZ,wpAny_newTuple->Z1,wpAny_runValue->Z2,isSubtype_stop->Z3,wpAny_bindName->Z4,wpAny_loadName_cell->Z5,swappedStores->aaf,bindArgs->aag,seq_tuple_add->aaj,IsPart->aak,seqIndex?->aan,wpAny_handled->aas,wpAny_newList->aat,Comprehension->aaz,compPost->aaA,slot_dict_contains->aaB,intKind->aaF,wpAny_call->aaG,getItem->aaH,wpAny_sequenceKey->aaI,slot_list_getitem->aaJ,call_meets->aaL,callerA->aaM,wpAny_pyIter_enum->aaW,ofAClassStatement->aa0,Result->aa1,concat_meets->aa3,IsEnum->aa7,wpAny_execs_cons->abb,GenState->abk,backToKw->abm,PassesOwn->abq,BindsTo->abr,wpAny_throw->abw,pushCells->abC,pushCells_keeps->abD,IsEnumOut->abE,pickOrder->abG,noteFrame->abJ,theTreesLotGoes->abK,compStart->abM,theWindowsPlace->abN,recursionLimit->abT,newFunctionEnv->ab0,setAddHashedIn->ab3,entryFor_alias->ab4,entryOfKey->ab6,builtinsNs->ab7,wpAny_Name->ab8,wpAny_load->ab9,call->ab_,isInstance->ace,reduceHash->acf,setsByText->aci,intKind_is->ack,rangeSize_one->acn,intBits_le_64->aco,evalPart_none->acq,call_list_seq->acu,newTuple->acy,setField->acE,setSearchFrom->acG,wpAny_notedAt->acH,eval_ListComp->acI,atKey->acK,storeName->acM,seqItems?->acQ,WalksS->acS,bindL->ac2,bindC->ac3,newList->adl,CellsOk->adm,Operator->ado,Params->ads,newExc->adu,raiseNew->adv,entryFor->ady,bindName->adz,Model->adA,Fin->adO
open PySem.Around renaming under_plainId->Uy
open PySem.AutoSeq1 renaming sub_tuple_tuple->W7
open PySem.Builtin.Dict renaming showsAll->ZJ,dictSlotNone->ab5
open PySem.Builtin.Dict_items renaming ownsTuple->Yc
open PySem.Builtin.Frozenset renaming sizeOf->YQ,updateFrom->abn,newClass->abR
open PySem.Builtin.List renaming listTooLong->Vp,listLengthHint->Yn,listExtendWith->Yo,listSameRef->acj
open PySem.Builtin.Range renaming rangeSize->YW
open PySem.Builtin.Slice renaming slicePlaces->VT,sliceAdjust->WQ,sliceApplied->Yv,slicePartIndex->abl,sliceFields->abV
open PySem.Builtin.SmallTypes renaming nextOf->UR,ownedTupleHandOut->WU,ownedTupleIsFree->W4
open PySem.Builtin.Str renaming occurrences->Y0,tooLong->Z9
open PySem.Builtin.Tuple renaming tupleHashOf->Ux,tupleExact->V4,tupleItemsOf->WK,tupleCompareSizes->Xz,tupleIsExact->abQ
open PySem.Calls renaming Name_function_global->Yt
open PySem.CmpOp renaming NotIn->ac0,In->adS
open PySem.Data renaming fields->ac1,cell->adL
open PySem.Env renaming kindOf->adC
open PySem.Expr renaming Call->adP
open PySem.F renaming slot_dict_keyiterator_next->U5,slot_tuple_iterator_next->VH,slot_str_getitem->V9,plainAttrs_list->Wg,slot_enumerate_next->Wz,called_set->WA,slot_tuple_hash->WI,args_tuple_add_2->W6,entry_tuple_add->Xb,slot_tuple_add->Xr,plain_list_iadd->XA,args_dict_keyiterator_next_1->XY,entry_dict_keyiterator_next->X7,args_tuple_iterator_next_1->X_,attrBase_ValueError->Yh,entry_tuple_iterator_next->Yi,slot_list_append->YJ,type_list_append->YK,args_enumerate_next_1->Y5,entry_enumerate_next->Zj,entry_proto_collect->Zy,plain_proto_collect->Zz,slot_str_find->ZM,args_list_extend_2->ZS,entry_list_extend->Z7,slot_list_extend->aao,entry_list_iadd->aaV,slot_dict_iter->abj,slot_set_iter->abH,plain_set_new->abI
open PySem.Heap renaming get?_push_of_some->SO,get?_push_size->SY,lt_size->S9,SameBut->TU,get?_update_self->Ur,size_push->VV,get?_update_other->Xu,ExtBut->Y3,get?_update_ne->Z_,size_update->abg
open PySem.Heap.IsList renaming push->adJ
open PySem.Heap.IsSliceOf renaming new->adp
open PySem.Heap.SameBut renaming update->Uu,refl->YT
open PySem.IsL renaming update->adG
open PySem.Moved renaming trans->aab
open PySem.NameKind renaming free->UA,cell->Xf
open PySem.Obj renaming mapSeq->Vo,data_mapFields->Xg,putSet->YN,isFreed_of_fields->Zx,cls_mapFields->aaR,mapFields->acL
open PySem.Paired renaming length->acm
open PySem.PassesOwn renaming leaving->aaT,never->abx
open PySem.SeqAt renaming EqAt->Vn,ne_of_list_tuple->Zg
open PySem.SeqAt.EqAt renaming same->Zt,int_str->aad,str_int->aae,int_int->aai,of_refs->aaq,tuple_list->acO,list_tuple->acP,none_bool->acU,bool_none->acV,bool_bool->acW,none_int->ac4,none_str->ac5,bool_int->ac6,bool_str->ac_,int_none->ada,int_bool->adb,str_none->ade,str_bool->adf,str_str->adq
open PySem.SeqAt.RcAt renaming tuples->aaO,lists->abe,lists_lengths->acg
open PySem.SeqAt.RcNeAt renaming tuples->adi,lists->adt
open PySem.SetTable renaming insertAt->U1,sizeAbove->Va,below->WW,grown->XQ,tooFull->X4,advance->Zd,fill->aay,runEnd->abF,turns->ab2
open PySem.Shared renaming TypeIs->Y7
open PySem.Str renaming ofString->VO,length->aaK
open PySem.StrLaws renaming sliceText_from->abo,sliceText_to->abS
open PySem.Txt renaming slice->Vm,slice_le->YC
open PySem.Value renaming none->T_,ref->VZ,bool->WB,type->W5,builtin->YZ,notImplemented->ZV,int->abp,str->adK
open PySem.Value.ref renaming inj->adU
open PySem.W renaming Frag->SG,nsIn->T5,mg_none_of->Ua,fnOf->UZ,kia_one->Vl,kas_desc->Vz,kas_place->VR,findIn->VU,keepIn->Wo,mroIn->WE,kas_sort->WG,InstAt->WR,clsIn->Xe,mg_of->Xq,codeIn->XJ,kas_rev->X0,kas_asc->X3,findObj->Yg,methodObj->YH,cellsFrom_some->Ze,OpenLaw->Zv,looks_findIn->ZT,kitOne->Z0,callWith_K->aah,specialIn->aaN,kitx_dict->aaQ,kas_descPart->aa6,takesIn->abt,kitMeta->abu,kas_count->aby,notCls->abW,WalkO->acv,kas_bin->acz,kat_cons->acA,kas_tail3->acR
open PySem.W.Hook renaming obs->adH,val->adI
open PySem.W.OpenLaw renaming wellSaid->acd
open PySem.W.RowW renaming records->acX
open PySem.W.WData renaming int->adM
open PySem.W.WShape renaming has->adB
open PySem.Walks renaming list->adD
open PySem.pickOrder renaming go->aa_
open Subtype renaming ext->Y8
open Sum renaming inl->aaD,inr->aaE
open True renaming intro->ZO
set_option Elab.async false
set_option linter.all false
set_option autoImplicit true
set_option relaxedAutoImplicit true
set_option maxRecDepth 100000
namespace L2
open PySem PySem.Spec PyProof.Rows
abbrev Key:=Sum Int Str
noncomputable def IC:Key->SI->Bool
 | .inl k,v=>Value.isInt k v
 | .inr x,v=>Value.isStrOf x v
noncomputable def Pf (w:TL):Key->Int
 | .inl k=>WN k
 | .inr x=>hashStr w x
theorem dU:∀{k:Key}{v:SI},IC k v=true->(∃i t,k=aaD i/\v=abp i t)\/(∃x t,k=aaE x/\v=adK x t)
 | .inl i,v,h=>by
  obtain ⟨t,e⟩:=Value.isInt_shape (k:=i) (v:=v) h
  exact .inl ⟨i,t,rfl,e⟩
 | .inr x,v,h=>by
  obtain ⟨t,e⟩:=Value.isStrOf_shape (x:=x) (v:=v) h
  exact .inr ⟨x,t,rfl,e⟩
theorem Mg (a b:Int):decide ((aaD a:Key)=aaD b)=(a == b):=by
 by_cases e:a=b
 ·subst e;simp
 ·have h:¬(aaD a:Key)=aaD b:=λq=>e (Sum.inl.inj q)
  rw [decide_eq_false h]
  exact (beq_eq_false_iff_ne.mpr e).symm
theorem Mj (a b:Str):decide ((aaE a:Key)=aaE b)=decide (a=b):=by
 by_cases e:a=b
 ·subst e;simp
 ·have h:¬(aaE a:Key)=aaE b:=λq=>e (Sum.inr.inj q)
  rw [decide_eq_false h,decide_eq_false e]
theorem Mh (a:Int) (b:Str):decide ((aaD a:Key)=aaE b)=false:=decide_eq_false (λq=>nomatch q)
theorem Mi (a:Str) (b:Int):decide ((aaE a:Key)=aaD b)=false:=decide_eq_false (λq=>nomatch q)
noncomputable def wD (prog:S_) (w:TL):PySem.KeyKind prog w Key where
 is:=IC
 hash:=Pf w
 inj:=λv a b ha hb=>by
  rcases dU ha with ⟨i,t,rfl,rfl⟩ | ⟨x,t,rfl,rfl⟩
  ·rcases dU hb with ⟨j,u,rfl,e⟩ | ⟨y,u,rfl,e⟩
   ·injection e with e1 _;rw [e1]
   ·exact nomatch e
  ·rcases dU hb with ⟨j,u,rfl,e⟩ | ⟨y,u,rfl,e⟩
   ·exact nomatch e
   ·injection e with e1 _;rw [e1]
 byValue:=λk v h=>by
  rcases dU h with ⟨i,t,rfl,rfl⟩ | ⟨x,t,rfl,rfl⟩ <;> rfl
 pyHash:=λhv h=>by
  rcases dU hv with ⟨i,t,rfl,rfl⟩ | ⟨x,t,rfl,rfl⟩
  ·exact Y9 h
  ·exact wpAny_pyHash_str h
 eqBool:=λhu hv h=>by
  rcases dU hu with ⟨i,t,rfl,rfl⟩ | ⟨x,t,rfl,rfl⟩
  ·rcases dU hv with ⟨j,u,rfl,rfl⟩ | ⟨y,u,rfl,rfl⟩
   ·rw [Mg] at h;exact wpAny_eqBool_int h
   ·rw [Mh] at h;exact aad i t y u _ _ _ _ h
  ·rcases dU hv with ⟨j,u,rfl,rfl⟩ | ⟨y,u,rfl,rfl⟩
   ·rw [Mi] at h;exact aae x t j u _ _ _ _ h
   ·rw [Mj] at h;exact wpAny_eqBool_str h
 «strs»:=λk x t v h=>by
  rcases dU h with ⟨i,u,rfl,e⟩ | ⟨y,u,rfl,e⟩
  ·exact nomatch e
  ·injection e with e1 _
   subst e1
   cases v <;> rfl
inductive V where
 | non | bl (b:Bool) | int (i:Int) | str (x:Str) | byt (b:Array UInt8) | flt (b:UInt64) | ref (a:Tg) | ty (n:String)
 deriving DecidableEq
noncomputable def RelV:V->SI->Prop
 | .non,u=>u=T_
 | .bl b,u=>u=WB b
 | .int i,u=>∃t,u=abp i t
 | .str x,u=>∃t,u=adK x t
 | .byt b,u=>∃t,u=Value.bytes b t
 | .flt b,u=>∃t,u=Value.float b t
 | .ref a,u=>u=VZ a
 | .ty n,u=>u=W5 n
abbrev Vals:List V->List SI->Prop:=YG RelV
theorem Vals.length {xs:List V}{us:List SI}(r:Vals xs us):xs.length=us.length:=acm r
theorem Vals.get:∀{xs:List V}{us:List SI}{i:Nat}{x:V},Vals xs us->xs[i]?=some x->∃u,us[i]?=some u/\RelV x u
 | _,_,_,_,.nil,e=>by simp at e
 | _,_,0,_,.cons r _,e=>by simp at e;subst e;exact ⟨_,rfl,r⟩
 | _,_,i + 1,x,.cons _ t,e=>by
  obtain ⟨u,h1,h2⟩:=Vals.get (i:=i) (x:=x) t (by simpa using e)
  exact ⟨u,by simpa using h1,h2⟩
theorem Vals.set {x:V}{u:SI}(r:RelV x u):∀{xs:List V}{us:List SI}(i:Nat),Vals xs us->Vals (xs.set i x) (us.set i u)
 | _,_,_,.nil=>.nil
 | _,_,0,.cons _ t=>.cons r t
 | _,_,i + 1,.cons q t=>.cons q (Vals.set r i t)
theorem Vals.append:∀{xs ys:List V}{us ws:List SI},Vals xs us->Vals ys ws->Vals (xs++ys) (us++ws)
 | _,_,_,_,.nil,s=>s
 | _,_,_,_,.cons r t,s=>.cons r (Vals.append t s)
theorem Vals.take:∀{xs:List V}{us:List SI}(n:Nat),Vals xs us->Vals (xs.take n) (us.take n)
 | _,_,0,_=>.nil
 | _,_,_ + 1,.nil=>.nil
 | _,_,n + 1,.cons r t=>.cons r (Vals.take n t)
theorem Vals.drop:∀{xs:List V}{us:List SI}(n:Nat),Vals xs us->Vals (xs.drop n) (us.drop n)
 | _,_,0,r=>r
 | _,_,_ + 1,.nil=>.nil
 | _,_,n + 1,.cons _ t=>Vals.drop n t
noncomputable def Lp:Option V->Option SI->Prop
 | some v,some u=>RelV v u
 | none,none=>True
 | _,_=>False
def KV {κ:Type}:List (κ×V)->List (κ×SI)->Prop:=YG λ(p:κ×V) (q:κ×SI)=>p.1=q.1/\RelV p.2 q.2
noncomputable def kV:Key->V
 | .inl i=>.int i
 | .inr x=>.str x
inductive HO where
  | lst (xs:List V)
  | tup (xs:List V)
  | dK (SA:List (Key×V)) | dT (SA:List (List Key×V))
  | set (S:Int->Bool) (n:Nat)
  | ins (C dx:Tg) (fs:List (Str×V))
  | own (x:Tg)
  | xd (fs:List (Str×V))
  | met (f x:Tg)
  | rng (lo hi:Int)
  | frz (o:Obj) (u:HO)
  | tbl (ps:Array SI)
  | ext (φ:Uz->Prop)
abbrev Hp:=Tg->Option HO
def upd (H:Hp) (a:Tg) (o:HO):Hp:=λb=>if b=a then some o else H b
theorem bR {H:Hp}:upd H a o a=some o:=by unfold upd;rw [if_pos rfl]
theorem bu {H:Hp}(h:b≠a):upd H a o b=H b:=by unfold upd;rw [if_neg h]
theorem eN {H:Hp}(h:H a=some o) (h':H b=none):a≠b:=by
 intro e;subst e;rw [h] at h';cases h'
section
variable (P:S_) (w:TL)
noncomputable def cG (H:Hp) (h:Uz) (a:Tg):HO->Prop
 | .lst xs=>xs.length<=sizeLine/\∃(Su:List SI) (n:Nat),Vals xs Su/\h.get? a=some {cls:=.type "list",data:=.seq Su.toArray n}
 | .tup xs=>xs.length<=sizeLine/\∃Su:List SI,Vals xs Su/\acZ h a Su.toArray
 | .dK SA=>SA.length<=sizeLine/\(a == Wn)=false/\∃vs,KV SA vs/\h.DictOf (wD P w) a vs
 | .dT SA=>SA.length<=sizeLine/\(a == Wn)=false/\∃xs:List (List Key×Tg×SI),
   YG (λ(p:List Key×V) (q:List Key×Tg×SI)=>p.1=q.1/\H q.2.1=some (.tup (p.1.map kV))/\RelV p.2 q.2.2) SA xs/\
   ∃o es ep,h.get? a=some o/\o.ExactDict/\o.data=.dict es ep/\es.toList=xs.map (ab6 (tupleKind (wD P w)))/\(xs.map (·.1)).Nodup
 | .set S n=>h.SetOf (aaF P w) a S n
 | .ins C dx fs=>H dx=some (.own a)/\fs.length<=1000/\dx≠a/\h.get? a=some (W.instObj C dx)/\
   ∃mA,h.Ns1 dx mA/\(∀f,Lp (fs.lookup f) (mA f))/\PySem.Within mA (fs.map (·.1))
 | .own _=>∃o,h.get? a=some o
 | .xd fs=>∃mA,h.Ns1 a mA/\∀f,Lp (fs.lookup f) (mA f)
 | .rng lo hi=>∃t u v,h.get? a=some {cls:=.type "range",data:=.fields #[.int lo t,.int hi u,.int 1 v]}
 | .frz o u=>h.get? a=some o/\cG H h a u
 | .tbl ps=>h.get? a=some {cls:=.none,data:=.fields ps}
 | .met f x=>h.get? a=some (YH (.ref f) (.ref x))
 | .ext φ=>φ h/\(∃o,h.get? a=some o)/\∀h1 h2:Uz,φ h1->(∀o,h1.get? a=some o->h2.get? a=some o)->φ h2
def gu (H:Hp) (h:Uz):Prop:=∀a o,H a=some o->cG P w H h a o
end
section
variable {P:S_}{w:TL}{H H':Hp}{h h':Uz}{a:Tg}{o:HO}
theorem cG.lt (x:cG P w H h a o):a < h.objs.size:=by
 cases o with
 | lst xs=>obtain ⟨_,_,_,_,e⟩:=x;exact S9 e
 | tup xs=>obtain ⟨_,_,_,p⟩:=x;exact p.lt
 | dK SA=>obtain ⟨_,_,_,_,o,_,_,e,_⟩:=x;exact S9 e
 | dT SA=>obtain ⟨_,_,_,_,o,_,_,e,_⟩:=x;exact S9 e
 | set S n=>obtain ⟨o,_,_,_,e,_⟩:=x;exact S9 e
 | ins C dx fs=>obtain ⟨_,_,_,e,_⟩:=x;exact S9 e
 | own y=>obtain ⟨_,e⟩:=x;exact S9 e
 | xd fs=>obtain ⟨_,⟨_,_,_,e,_⟩,_⟩:=x;exact S9 e
 | rng lo hi=>obtain ⟨_,_,_,e⟩:=x;exact S9 e
 | frz ob u=>obtain ⟨e,_⟩:=x;exact S9 e
 | tbl ps=>exact S9 (show h.get? a=some _ from x)
 | met f y=>exact S9 (show h.get? a=some _ from x)
 | ext φ=>obtain ⟨_,⟨_,e⟩,_⟩:=x;exact S9 e
theorem YG.mapP {α β:Type}{F G:α->β->Prop}:∀{l₁:List α}{l₂:List β},YG F l₁ l₂->(∀a b,F a b->G a b)->YG G l₁ l₂
 | _,_,.nil,_=>.nil
 | _,_,.cons r t,f=>.cons (f _ _ r) (YG.mapP t f)
theorem cG.stay (x:cG P w H h a o) (k:∀b u,(b=a\/H b=some (.own a))->h.get? b=some u->h'.get? b=some u)
  (ho:∀b,H b=some (.own a)->H' b=some (.own a)) (ht:∀b xs,H b=some (.tup xs)->H' b=some (.tup xs)):cG P w H' h' a o:=by
 induction o with
 | lst xs=>obtain ⟨z,Su,n,r,e⟩:=x;exact ⟨z,Su,n,r,k _ _ (.inl rfl) e⟩
 | tup xs=>obtain ⟨z,Su,r,ob,e,c⟩:=x;exact ⟨z,Su,r,ob,k _ _ (.inl rfl) e,c⟩
 | dK SA=>obtain ⟨z,y,vs,r,ob,es,ep,e,c⟩:=x;exact ⟨z,y,vs,r,ob,es,ep,k _ _ (.inl rfl) e,c⟩
 | dT SA=>
  obtain ⟨z,y,xs,r,ob,es,ep,e,c⟩:=x
  exact ⟨z,y,xs,YG.mapP r λp q z=>⟨z.1,ht _ _ z.2.1,z.2.2⟩,ob,es,ep,k _ _ (.inl rfl) e,c⟩
 | set S n=>obtain ⟨ob,es,ep,t,e,c⟩:=x;exact ⟨ob,es,ep,t,k _ _ (.inl rfl) e,c⟩
 | ins C dx fs=>
  obtain ⟨d,z,ne,e,mA,⟨od,es,ep,e2,c⟩,r⟩:=x
  exact ⟨ho _ d,z,ne,k _ _ (.inl rfl) e,mA,⟨od,es,ep,k _ _ (.inr d) e2,c⟩,r⟩
 | own y=>obtain ⟨ob,e⟩:=x;exact ⟨ob,k _ _ (.inl rfl) e⟩
 | xd fs=>obtain ⟨mA,⟨od,es,ep,e,c⟩,r⟩:=x;exact ⟨mA,⟨od,es,ep,k _ _ (.inl rfl) e,c⟩,r⟩
 | rng lo hi=>obtain ⟨t,u,v,e⟩:=x;exact ⟨t,u,v,k _ _ (.inl rfl) e⟩
 | frz ob u ih=>obtain ⟨e,q⟩:=x;exact ⟨k _ _ (.inl rfl) e,ih q⟩
 | tbl ps=>
  have e:h.get? a=some {cls:=.none,data:=.fields ps}:=x
  show h'.get? a=some {cls:=.none,data:=.fields ps}
  exact k a _ (.inl rfl) e
 | met f y=>
  have e:h.get? a=some (YH (.ref f) (.ref y)):=x
  show h'.get? a=some (YH (.ref f) (.ref y))
  exact k a _ (.inl rfl) e
 | ext φ=>obtain ⟨p,⟨o,e⟩,st⟩:=x;exact ⟨st _ _ p λo q=>k _ _ (.inl rfl) q,⟨o,k _ _ (.inl rfl) e⟩,st⟩
theorem gu.lt (x:gu P w H h) (e:H a=some o):a < h.objs.size:=(x a o e).lt
theorem gu.fresh (x:gu P w H h) (e:h.objs.size<=a):H a=none:=by
 cases q:H a with
 | none=>rfl
 | some u=>exact absurd (To (x.lt q) e) (Vg _)
theorem gu.kept (x:gu P w H h) (k:∀b u,h.get? b=some u->h'.get? b=some u):gu P w H h':=λa o e=>
 (x a o e).stay (λb u _ q=>k b u q) (λ_ q=>q) λ_ _ q=>q
theorem gu.laid (x:gu P w H h) (k:∀b u,h.get? b=some u->h'.get? b=some u) (hp:h.objs.size<=a) (new:cG P w (upd H a o) h' a o):gu P w (upd H a o) h':=λb u e=>by
 have hn:=x.fresh hp
 by_cases hb:b=a
 ·subst hb;rw [bR] at e;cases e;exact new
 ·rw [bu hb] at e
  exact (x b u e).stay (λc v _ q=>k c v q) (λc q=>by rw [bu (eN q hn)];exact q) λc xs q=>by rw [bu (eN q hn)];exact q
end
def Rd (H:Hp) (a:Tg) (u:HO):Prop:=H a=some u\/∃o,H a=some (.frz o u)
theorem Rd.ok {H:Hp}(r:Rd H a u) (x:gu P w H h):cG P w H h a u:=by
 rcases r with r | ⟨o,r⟩
 ·exact x a u r
 ·obtain ⟨_,q⟩:=x a _ r
  exact q
noncomputable def Ig:Option HO->Prop
 | some (.lst _)=>True
 | some (.dK _)=>True
 | some (.dT _)=>True
 | some (.set _ _)=>True
 | some (.ins _ _ _)=>True
 | some (.ext _)=>True
 | _=>False
section
variable {P:S_}{w:TL}{H:Hp}{h h':Uz}{x e:Tg}{o':HO}
theorem gu.write (ok:gu P w H h) (mu:Ig (H x)) (he:e=x\/H e=some (.own x)) (k:∀b u,b≠e->h.get? b=some u->h'.get? b=some u) (QZ:∃u,h'.get? e=some u)
  (new:cG P w (upd H x o') h' x o'):gu P w (upd H x o') h':=λb u q=>by
 have nown:∀c y,H c=some (.own y)->c≠x:=λc y r z=>by subst z;rw [r] at mu;exact mu
 have ntup:∀c xs,H c=some (.tup xs)->c≠x:=λc xs r z=>by subst z;rw [r] at mu;exact mu
 by_cases hb:b=x
 ·subst hb;rw [bR] at q;cases q;exact new
 ·rw [bu hb] at q
  by_cases QO:b=e
  ·have q':H b=some (.own x):=by
    rcases he with z | z
    ·exact absurd (QO.trans z) hb
    ·rw [QO];exact z
   rw [q] at q';cases q'
   obtain ⟨v,hv⟩:=QZ
   exact ⟨v,by rw [QO];exact hv⟩
  ·refine (ok b u q).stay (λc v hc r=>k c v ?_ r) (λc r=>by rw [bu (nown c b r)];exact r) λc xs r=>by rw [bu (ntup c xs r)];exact r
   rcases hc with rfl | hc
   ·exact QO
   ·rintro rfl
    rcases he with z | z
    ·exact nown c b hc z
    ·rw [hc] at z;cases z;exact hb rfl
end
structure Un (fs ex:List Tg) (H H':Hp) (h h':Uz):Prop where
 keep:∀b o,h.get? b=some o->H b=none->b∉fs->b∉ex->h'.get? b=some o
 slot:∀b o,h.get? b=some o->H b=none->b∈fs->b∉ex->∃sl,h'.get? b=some {o with slots:=sl}
 free:∀b o,h.get? b=some o->H b=none->b∉ex->H' b=none
 there:∀b o,h.get? b=some o->b∉ex->∃o',h'.get? b=some o'
 tups:∀b xs,H b=some (.tup xs)->H' b=some (.tup xs)
 frzs:∀b o u,H b=some (.frz o u)->H' b=some (.frz o u)
 tbls:∀b ps,H b=some (.tbl ps)->∃more,H' b=some (.tbl (ps++more))
section
variable {fs fs' ex ex':List Tg}{H H1 H2:Hp}{h h1 h2 h':Uz}{a x e:Tg}{o:HO}
theorem Un.any (u:Un fs ex H H1 h h1) (q:h.get? b=some ob) (n:H b=none) (hx:b∉ex):∃sl,h1.get? b=some {ob with slots:=sl}:=by
 by_cases hb:b∈fs
 ·exact u.slot b ob q n hb hx
 ·exact ⟨ob.slots,u.keep b ob q n hb hx⟩
theorem Un.kept (k:∀b u,h.get? b=some u->h'.get? b=some u):Un fs ex H H h h':=
 ⟨λb ob q _ _ _=>k b ob q,λb ob q _ _ _=>⟨ob.slots,k b ob q⟩,λ_ _ _ n _=>n,λb ob q _=>⟨ob,k b ob q⟩,λ_ _ q=>q,λ_ _ _ q=>q,λ_ ps q=>⟨#[],by rw [q];simp⟩⟩
theorem Un.refl:Un fs ex H H h h:=Un.kept λ_ _ q=>q
theorem Un.laid (k:∀b u,h.get? b=some u->h'.get? b=some u) (hp:h.objs.size<=a) (hn:H a=none):Un fs ex H (upd H a o) h h' where
 keep:=λb u q _ _ _=>k b u q
 slot:=λb u q _ _ _=>⟨u.slots,k b u q⟩
 free:=λb u q n _=>by rw [bu (Tr (To (S9 q) hp))];exact n
 there:=λb u q _=>⟨u,k b u q⟩
 tups:=λb xs q=>by rw [bu (eN q hn)];exact q
 frzs:=λb u xs q=>by rw [bu (eN q hn)];exact q
 tbls:=λb ps q=>⟨#[],by rw [bu (eN q hn),q];simp⟩
theorem Un.write (mu:Ig (H x)) (he:e=x\/H e=some (.own x)) (k:∀b u,b≠e->h.get? b=some u->h'.get? b=some u) (QZ:∃u,h'.get? e=some u):Un fs ex H (upd H x o) h h':=by
 have hx:∀b,H b=none->b≠x:=λb n z=>by subst z;rw [n] at mu;exact mu
 have hb:∀b,H b=none->b≠e:=λb n z=>by
  subst z
  rcases he with r | r
  ·exact hx b n r
  ·rw [n] at r;cases r
 have hm:∀b u,H b=some u->¬Ig (some u)->b≠x:=λb u q nm z=>by subst z;rw [q] at mu;exact nm mu
 refine ⟨λb u q n _ _=>k b u (hb b n) q,λb u q n _ _=>⟨u.slots,k b u (hb b n) q⟩,λb u q n _=>by rw [bu (hx b n)];exact n,λb u q _=>?_,
  λb xs q=>by rw [bu (hm b _ q λz=>z)];exact q,λb u xs q=>by rw [bu (hm b _ q λz=>z)];exact q,λb ps q=>⟨#[],by rw [bu (hm b _ q λz=>z),q];simp⟩⟩
 by_cases QO:b=e
 ·subst QO;exact QZ
 ·exact ⟨u,k b u QO q⟩
end
def IZ (h:Uz) (H:Hp):List Tg:=(SM h.objs.size).filter λa=>(H a).isSome
def oR (h:Uz) (H:Hp):Uz:=W.hideAll h (IZ h H)
theorem EG (h:Uz) (H:Hp):(oR h H).objs.size=h.objs.size:=W.hideAll_size _ _
theorem Gx {h:Uz}{H:Hp}(e:h.get? b=some o) (n:H b=none):(oR h H).get? b=some o:=
 W.hideAll_get _ e λhm=>by
  have q:(H b).isSome=true:=(Ud.mp hm).2
  rw [n] at q;simp at q
theorem JY {h:Uz}{H:Hp}(e:(oR h H).get? b=some o):h.get? b=some o/\H b=none:=by
 have e':h.get? b=some o:=W.of_hideAll (IZ h H) e
 refine ⟨e',?_⟩
 cases q:H b with
 | none=>rfl
 | some x=>
  have hm:b∈IZ h H:=Ud.mpr ⟨Tj.mpr (S9 e'),by simp [q]⟩
  have z:(oR h H).get? b=none:=W.hideAll_none (IZ h H) hm
  rw [z] at e;cases e
def Ji (g h:Uz) (L:Tg):List (Tg×Obj):=(SM h.objs.size).filterMap λa=>if a=L\/(g.get? a).isSome=true then none else (h.get? a).map λo=>(a,o)
def rest (g h:Uz) (L d:Tg):List (Tg×Obj):=(Ji g h L).filter λp=>decide (p.1≠d)
structure Mod (K:SG) (mg:Str->Option SI) (base:Uz):Prop where
 kin:K.In base
 glob:base.Ns Tw mg
 blt:∃mb,base.Ns ab7 mb/\∀x:Str,x≠"__name__"->mb x=Ue x
 nolimit:base.NoLimit
structure Cx where
 prog:S_
 w:TL
 K:SG
 mg:Str->Option SI
 base:Uz
 A:TR
 N:List Str
 s₀:SJ
 H₀:Hp
 env:Env
 outer:List Env
 stack:List Env
 ex:List Tg
 fn:Str->Bool
 calm:Bool
 pn:List (Tg×Obj)
 xe:SI->SJ->Prop
def frs (l:List Env):List Tg:=l.filterMap (·.frame)
abbrev Cx.fs (X:Cx):List Tg:=frs X.outer
def sD (sc:VN) (x:Str):Prop:=sc.names.lookup x=some .local\/sc.names.lookup x=some .cell\/sc.names.lookup x=some .free
def Loc (sc:VN) (x:Str):Prop:=sc.names.lookup x=some .local\/sc.names.lookup x=some .cell
noncomputable def Look (env:Env) (h:Uz) (m:Str->Option SI) (x:Str) (u:SI):Prop:=
 (env.kindOf x=some .local/\m x=some u)\/((env.kindOf x=some .cell\/env.kindOf x=some .free)/\∃c,env.cells.lookup x=some c/\h.IsCell c (some u))
structure Cx.Ok (X:Cx):Prop where
 mod:Mod X.K X.mg X.base
 kind:X.env.scope.kind=.function
 glob:X.env.globals=Tw
 blt:X.env.builtins=ab7
 above:X.s₀.heap.objs.size<=X.env.locals
 inj:∀x y c,X.env.cells.lookup x=some c->X.env.cells.lookup y=some c->x=y
 has:∀x,(X.env.kindOf x=some .cell\/X.env.kindOf x=some .free)->∃c,X.env.cells.lookup x=some c
 cab:∀x c,X.fn x=true->X.env.cells.lookup x=some c->X.s₀.heap.objs.size<=c
 hd:X.calm=true->X.A.handled=none
 frames:X.A.frames=some X.stack
 stk:X.stack=X.outer\/(X.stack=X.env::X.outer/\X.env.frame=some X.env.locals)
 exf:∀b∈X.ex,b≠X.env.locals/\∀x c,X.env.cells.lookup x=some c->c≠b
 bs:∀b o,X.base.get? b=some o->X.s₀.heap.get? b=some o/\X.H₀ b=none
 bsz:X.base.objs.size<=X.s₀.heap.objs.size
 noex:∀b o,X.base.get? b=some o->b∉X.ex
 exfs:∀b∈X.ex,b∉X.fs
 funs:X.s₀.heap.FunFrames X.base X.outer
 frf:∀b∈X.fs,X.H₀ b=none
structure Inv (X:Cx) (Sq:List (Tg×Obj)) (σ:List (Option V)) (H:Hp) (s:SJ):Prop where
 ok:X.Ok
 os:s.os=X.s₀.os
 bare:Zo s.gens
 base:Un X.fs X.ex X.H₀ H X.s₀.heap s.heap
 loc:∃m,s.heap.Ns X.env.locals m/\∀(i:Nat) (x:Str) (v:V),X.N[i]?=some x->σ[i]?=some (some v)->sD X.env.scope x->∃u,RelV v u/\Look X.env s.heap m x u
 cell:∀x c,X.env.cells.lookup x=some c->∃v,s.heap.IsCell c v
 free:H X.env.locals=none
 freeC:∀x c,X.env.cells.lookup x=some c->H c=none
 pin:∀p∈X.pn++Sq,s.heap.get? p.1=some p.2/\H p.1=none/\p.1≠X.env.locals/\p.1∉X.fs/\∀v,p.2.data≠.cell v
 hok:gu X.prog X.w H s.heap
 len:σ.length=X.N.length
section
variable {X:Cx}{Sq:List (Tg×Obj)}{σ:List (Option V)}{H H':Hp}{s:SJ}{h':Uz}
theorem Cx.Ok.nofr (ok:X.Ok) (e:X.base.get? b=some o):b∉X.fs:=λhb=>by
 have:=(ok.funs.mem hb).1
 rw [e] at this;cases this
theorem Inv.bs (I:Inv X Sq σ H s):∀b o,X.base.get? b=some o->s.heap.get? b=some o/\H b=none:=λb o e=>
 ⟨I.base.keep b o (I.ok.bs b o e).1 (I.ok.bs b o e).2 (I.ok.nofr e) (I.ok.noex b o e),I.base.free b o (I.ok.bs b o e).1 (I.ok.bs b o e).2 (I.ok.noex b o e)⟩
theorem Inv.bk (I:Inv X Sq σ H s):∀b o,X.base.get? b=some o->s.heap.get? b=some o:=λb o e=>(I.bs b o e).1
theorem Inv.mod (I:Inv X Sq σ H s):Mod X.K X.mg X.base:=I.ok.mod
theorem Inv.kIn (I:Inv X Sq σ H s):X.K.In s.heap:=I.ok.mod.kin.keeps I.bk
theorem Inv.lt (I:Inv X Sq σ H s):X.env.locals < s.heap.objs.size:=let ⟨_,hn,_⟩:=I.loc;hn.lt
theorem Inv.sz (I:Inv X Sq σ H s):X.s₀.heap.objs.size<=s.heap.objs.size:=Tz I.ok.above (XS I.lt)
theorem Inv.nofs (I:Inv X Sq σ H s) (h:s.heap.objs.size<=a):a∉X.fs:=λhb=>by
 obtain ⟨_,o,ho,_⟩:=I.ok.funs.mem hb
 exact absurd (To (S9 ho) (Tz I.sz h)) (Vg _)
theorem Inv.cne (I:Inv X Sq σ H s):∀x c,X.env.cells.lookup x=some c->c≠X.env.locals:=λx c e z=>by
 obtain ⟨v,o,ho,hd⟩:=I.cell x c e
 obtain ⟨m,⟨o',es,ep,ho',hd',_⟩,_⟩:=I.loc
 rw [z,ho'] at ho;cases ho;rw [hd'] at hd;cases hd
theorem Inv.funs (I:Inv X Sq σ H s):s.heap.FunFrames X.base X.outer:=by
 have all:∀(l:List Env),(∀b∈frs l,b∈X.fs)->X.s₀.heap.FunFrames X.base l->s.heap.FunFrames X.base l:=by
  intro l
  induction l with
  | nil=>intro _ _;trivial
  | cons env r ih=>
   intro hs hl
   obtain ⟨hk,⟨L,o,hf,hn,ho,hd⟩,hr⟩:=hl
   have hL:L∈X.fs:=hs L (by unfold frs;rw [Yd,hf];exact SV)
   obtain ⟨sl,e⟩:=I.base.slot L o ho (I.ok.frf L hL) hL λz=>I.ok.exfs L z hL
   exact ⟨hk,⟨L,_,hf,hn,e,hd⟩,ih (λb hb=>hs b (by unfold frs;rw [Yd,hf];exact SS _ hb)) hr⟩
 exact all X.outer (λ_ hb=>hb) I.ok.funs
theorem Inv.stack (I:Inv X Sq σ H s):s.heap.FunFrames X.base X.stack:=by
 rcases I.ok.stk with e | ⟨e,hf⟩
 ·rw [e];exact I.funs
 ·rw [e]
  obtain ⟨m,hn,_⟩:=I.loc
  refine .cons (by rw [I.ok.kind];decide) hf hn ?_ I.funs
  exact Heap.get?_none_of_le (Tz I.ok.bsz I.ok.above)
theorem Inv.stkSub (I:Inv X Sq σ H s):∀b∈frs X.stack,b∈X.env.locals::X.fs:=λb hb=>by
 rcases I.ok.stk with e | ⟨e,hf⟩
 ·rw [e] at hb;exact SS _ hb
 ·rw [e] at hb
  unfold frs at hb
  rw [Yd,hf] at hb
  exact hb
theorem Inv.stkFree (I:Inv X Sq σ H s):∀b∈frs X.stack,H b=none:=λb hb=>by
 rcases S7.mp (I.stkSub b hb) with e | hb
 ·rw [e];exact I.free
 ·obtain ⟨_,o,ho,_⟩:=I.ok.funs.mem hb
  exact I.base.free b o ho (I.ok.frf b hb) λz=>I.ok.exfs b z hb
theorem Inv.step {g':Array abk}{t':Nat}{d':Drawn}{ch:List Tg}(I:Inv X Sq σ H s)
  (hch:∀b∈ch,(b∈X.ex\/X.s₀.heap.objs.size<=b)/\b≠X.env.locals/\(∀x c,X.env.cells.lookup x=some c->c≠b)/\∀p∈X.pn++Sq,p.1≠b)
  (keep:∀b o,b≠X.env.locals->b∉X.fs->b∉ch->s.heap.get? b=some o->H b=none->h'.get? b=some o)
  (slot:∀b o,b≠X.env.locals->b∈X.fs->b∉ch->s.heap.get? b=some o->H b=none->∃sl,h'.get? b=some {o with slots:=sl}) (free:∀b o,b∉ch->s.heap.get? b=some o->H b=none->H' b=none)
  (there:∀b o,b∉ch->s.heap.get? b=some o->∃o',h'.get? b=some o')
  (tups:∀b xs,H b=some (.tup xs)->H' b=some (.tup xs)) (frzs:∀b o u,H b=some (.frz o u)->H' b=some (.frz o u)) (tbls:∀b ps,H b=some (.tbl ps)->∃more,H' b=some (.tbl (ps++more)))
  (ns:∀m,s.heap.Ns X.env.locals m->h'.Ns X.env.locals m) (hok:gu X.prog X.w H' h') (hg:Zo g'):
  Inv X Sq σ H' {s with heap:=h',gens:=g',drawn:=d',toks:=t'}:=by
 have neL:∀b o,X.s₀.heap.get? b=some o->b≠X.env.locals:=λb o e=>Tr (To (S9 e) I.ok.above)
 have neC:∀b o,X.s₀.heap.get? b=some o->b∉X.ex->b∉ch:=λb o e hx hb=>by
  rcases (hch b hb).1 with z | z
  ·exact hx z
  ·exact absurd (To (S9 e) z) (Vg _)
 have cellK:∀x c,X.env.cells.lookup x=some c->∀v,s.heap.IsCell c v->h'.IsCell c v:=λx c e v ⟨o,ho,hd⟩=>by
  have nch:c∉ch:=λz=>(hch c z).2.2.1 x c e rfl
  by_cases hc:c∈X.fs
  ·obtain ⟨sl,q⟩:=slot c o (I.cne x c e) hc nch ho (I.freeC x c e)
   exact ⟨_,q,hd⟩
  ·exact ⟨o,keep c o (I.cne x c e) hc nch ho (I.freeC x c e),hd⟩
 refine ⟨I.ok,I.os,hg,⟨λb o e n hb hx=>?_,λb o e n hb hx=>?_,λb o e n hx=>?_,λb o e hx=>?_,λb xs e=>tups b xs (I.base.tups b xs e),λb o xs e=>frzs b o xs (I.base.frzs b o xs e),λb ps e=>?_⟩,?_,λx c e=>?_,?_,λx c e=>?_,λp hp=>?_,hok,I.len⟩
 ·exact keep b o (neL b o e) hb (neC b o e hx) (I.base.keep b o e n hb hx) (I.base.free b o e n hx)
 ·obtain ⟨sl,e1⟩:=I.base.slot b o e n hb hx
  obtain ⟨sl',e2⟩:=slot b _ (neL b o e) hb (neC b o e hx) e1 (I.base.free b o e n hx)
  exact ⟨sl',e2⟩
 ·obtain ⟨o',e1⟩:=I.base.there b o e hx
  exact free b o' (neC b o e hx) e1 (I.base.free b o e n hx)
 ·obtain ⟨o',e1⟩:=I.base.there b o e hx
  exact there b o' (neC b o e hx) e1
 ·obtain ⟨m1,e1⟩:=I.base.tbls b ps e
  obtain ⟨m2,e2⟩:=tbls b _ e1
  exact ⟨m1++m2,by rw [e2,Array.append_assoc]⟩
 ·obtain ⟨m,hn,hl⟩:=I.loc
  refine ⟨m,ns m hn,λi x v e1 e2 e3=>?_⟩
  obtain ⟨u,r,l⟩:=hl i x v e1 e2 e3
  refine ⟨u,r,?_⟩
  rcases l with l | ⟨k,c,e,z⟩
  ·exact .inl l
  ·exact .inr ⟨k,c,e,cellK x c e _ z⟩
 ·obtain ⟨v,z⟩:=I.cell x c e
  exact ⟨v,cellK x c e v z⟩
 ·obtain ⟨m,⟨o,_,_,ho,_⟩,_⟩:=I.loc
  exact free _ o (λz=>(hch _ z).2.1 rfl) ho I.free
 ·obtain ⟨v,o,ho,hd⟩:=I.cell x c e
  exact free c o (λz=>(hch c z).2.2.1 x c e rfl) ho (I.freeC x c e)
 ·obtain ⟨e,n,ne,nf,d⟩:=I.pin p hp
  have nch:p.1∉ch:=λz=>(hch p.1 z).2.2.2 p hp rfl
  exact ⟨keep p.1 p.2 ne nf nch e n,free p.1 p.2 nch e n,ne,nf,d⟩
theorem Inv.un (I:Inv X Sq σ H s) (u:Un X.fs [] H H' s.heap h') (hok:gu X.prog X.w H' h'):Inv X Sq σ H' {s with heap:=h',toks:=t'}:=by
 obtain ⟨m,⟨o,es,ep,ho,r⟩,_⟩:=id I.loc
 obtain ⟨sl,hL⟩:=u.any ho I.free (by simp)
 exact I.step (g':=s.gens) (d':=s.drawn) (ch:=[]) (λ_ z=>nomatch z) (λb o _ hb _ e n=>u.keep b o e n hb (by simp)) (λb o _ hb _ e n=>u.slot b o e n hb (by simp)) (λb o _ e n=>u.free b o e n (by simp)) (λb o _ e=>u.there b o e (by simp)) u.tups u.frzs u.tbls (λm' hm=>by
  obtain ⟨o',es',ep',ho',r'⟩:=hm
  rw [ho] at ho';cases ho'
  exact ⟨_,es',ep',hL,r'⟩) hok I.bare
theorem Inv.call (I:Inv X Sq σ H s) (u:Un (frs X.stack) ch H H' s.heap h') (hok:gu X.prog X.w H' h') (hg:Zo g')
 (hch:∀b∈ch,(b∈X.ex\/X.s₀.heap.objs.size<=b)/\b≠X.env.locals/\(∀x c,X.env.cells.lookup x=some c->c≠b)/\∀p∈X.pn++Sq,p.1≠b):
  Inv X Sq σ H' {s with heap:=h',gens:=g',drawn:=d',toks:=t'}:=by
 obtain ⟨m,⟨o,es,ep,ho,r⟩,_⟩:=id I.loc
 obtain ⟨sl,hL⟩:=u.any ho I.free λz=>(hch _ z).2.1 rfl
 exact I.step (ch:=ch) hch (λb o hL hb hc e n=>u.keep b o e n (λz=>(S7.mp (I.stkSub b z)).elim hL hb) hc) (λb o _ _ hc e n=>u.any e n hc) (λb o hc e n=>u.free b o e n hc) (λb o hc e=>u.there b o e hc) u.tups u.frzs u.tbls (λm' hm=>by
  obtain ⟨o',es',ep',ho',r'⟩:=hm
  rw [ho] at ho';cases ho'
  exact ⟨_,es',ep',hL,r'⟩) hok hg
theorem Inv.turned {t':Nat}{it:Tg}(I:Inv X Sq σ H s) (k:∀b o,b≠it->s.heap.get? b=some o->h'.get? b=some o) (hn:H it=none) (hL:it≠X.env.locals)
  (h1:it∈X.ex\/X.s₀.heap.objs.size<=it) (h2:∀x c,X.env.cells.lookup x=some c->c≠it) (h3:∀p∈X.pn++Sq,p.1≠it):Inv X Sq σ H {s with heap:=h',toks:=t'}:=by
 have nit:∀b u,H b=some u->b≠it:=λb u e z=>by rw [z,hn] at e;cases e
 refine I.step (g':=s.gens) (d':=s.drawn) (ch:=[it]) (λb hb=>?_) (λb o _ _ hc e _=>k b o (λz=>hc (by simp [z])) e) (λb o _ _ hc e _=>⟨o.slots,k b o (λz=>hc (by simp [z])) e⟩) (λ_ _ _ _ n=>n)
  (λb o hc e=>⟨o,k b o (λz=>hc (by simp [z])) e⟩) (λ_ _ e=>e) (λ_ _ _ e=>e) (λb ps e=>⟨#[],by rw [e];simp⟩) (λm hm=>?_) (λb u e=>?_) I.bare
 ·have e:b=it:=by simpa using hb
  subst e
  exact ⟨h1,hL,h2,h3⟩
 ·obtain ⟨o,es,ep,ho,r⟩:=hm
  exact ⟨o,es,ep,k _ o (Vi hL) ho,r⟩
 ·refine (I.hok b u e).stay (λc v hc q=>k c v ?_ q) (λ_ q=>q) λ_ _ q=>q
  rcases hc with z | z
  ·rw [z];exact nit b u e
  ·exact nit c _ z
theorem Inv.tok (I:Inv X Sq σ H s) (t:Nat):Inv X Sq σ H {s with toks:=t}:=I.un (h':=s.heap) (t':=t) Un.refl I.hok
theorem Inv.kept (I:Inv X Sq σ H s) (k:∀b u,s.heap.get? b=some u->h'.get? b=some u):Inv X Sq σ H {s with heap:=h',toks:=t'}:=I.un (Un.kept k) (I.hok.kept k)
theorem Inv.laid (I:Inv X Sq σ H s) (k:∀b u,s.heap.get? b=some u->h'.get? b=some u) (hp:s.heap.objs.size<=a) (new:cG X.prog X.w (upd H a o) h' a o):
  Inv X Sq σ (upd H a o) {s with heap:=h',toks:=t'}:=I.un (Un.laid k hp (I.hok.fresh hp)) (I.hok.laid k hp new)
theorem Inv.write (I:Inv X Sq σ H s) (mu:Ig (H x)) (he:e=x\/H e=some (.own x)) (k:∀b u,b≠e->s.heap.get? b=some u->h'.get? b=some u) (QZ:∃u,h'.get? e=some u)
 (new:cG X.prog X.w (upd H x o) h' x o):Inv X Sq σ (upd H x o) {s with heap:=h',toks:=t'}:=I.un (Un.write mu he k QZ) (I.hok.write mu he k QZ new)
theorem Inv.pins_of (I:Inv X Sq σ H s) (h:∀p∈pins',s.heap.get? p.1=some p.2/\H p.1=none/\p.1≠X.env.locals/\p.1∉X.fs/\∀v,p.2.data≠.cell v):Inv X pins' σ H s:=
 ⟨I.ok,I.os,I.bare,I.base,I.loc,I.cell,I.free,I.freeC,λp hp=>(TF.mp hp).elim (λz=>I.pin p (VY _ z)) (h p),I.hok,I.len⟩
theorem Ae {N:List Str}(hN:N.Nodup){i j:Nat}{x:Str}(a:N[i]?=some x) (b:N[j]?=some x):i=j:=by
 obtain ⟨h1,e1⟩:=Tt.mp a
 obtain ⟨h2,e2⟩:=Tt.mp b
 exact (Y_ hN).mp (e1.trans e2.symm)
theorem mZ {M:adA}{E:SI->SJ->Prop}{Q:Unit->SJ->Prop}(I:Inv X Sq σ H s) (hN:X.N.Nodup) (hi:X.N[i]?=some x) (hx:Loc X.env.scope x) (r:RelV v u)
 (h:∀s',Inv X Sq (σ.set i (some v)) H s'->(∃a,TU a s.heap s'.heap/\(a=X.env.locals\/X.env.cells.lookup x=some a))->Q () s') (hf:X.fn x=true\/X.env.scope.names.lookup x=some .local:=by first | exact .inl rfl | exact .inr rfl | assumption):S8 M A (acM X.env x u) Q E s:=by
 obtain ⟨m,hn,hl⟩:=id I.loc
 have hcls:(X.env.scope.kind == .class || (X.env.scope.kind == .module && X.env.locals != X.env.globals))=false:=by rw [I.ok.kind];rfl
 have hiσ:i < σ.length:=by rw [I.len];exact (Tt.mp hi).1
 have cne:=I.cne
 have tracked:∀{a:Tg}{h':Uz},(∃o,s.heap.get? a=some o/\H a=none)->TU a s.heap h'->gu X.prog X.w H h':=fun {a h'} ha hs b ob e=>by
  obtain ⟨_,_,hfree⟩:=ha
  refine (I.hok b ob e).stay (λc w' hc q=>(hs.2 c ?_).trans q) (λ_ q=>q) λ_ _ q=>q
  rintro rfl
  rcases hc with rfl | hc
  ·rw [hfree] at e;cases e
  ·rw [hfree] at hc;cases hc
 rcases hx with hk | hk
 ·refine wpAny_storeName_local hk hn (λh' hn' hs=>?_) hcls
  obtain ⟨oL,_,_,R8,_⟩:=id hn
  refine h _ ⟨I.ok,I.os,I.bare,⟨λb o e n hb hx=>?_,λb o e n hb hx=>?_,I.base.free,λb o e hx=>?_,I.base.tups,I.base.frzs,I.base.tbls⟩,⟨_,hn',λj y v' e1 e2 e3=>?_⟩,λy c e=>?_,I.free,I.freeC,λp hp=>?_,tracked ⟨oL,R8,I.free⟩ hs,by simpa using I.len⟩ ⟨_,hs,.inl rfl⟩
  ·exact (hs.2 b (Tr (To (S9 e) I.ok.above))).trans (I.base.keep b o e n hb hx)
  ·obtain ⟨sl,e1⟩:=I.base.slot b o e n hb hx
   exact ⟨sl,(hs.2 b (Tr (To (S9 e) I.ok.above))).trans e1⟩
  ·obtain ⟨o',e1⟩:=I.base.there b o e hx
   exact ⟨o',(hs.2 b (Tr (To (S9 e) I.ok.above))).trans e1⟩
  ·by_cases hj:j=i
   ·subst hj
    rw [hi] at e1;cases e1
    rw [UO hiσ] at e2
    cases e2
    exact ⟨u,r,.inl ⟨hk,by simp⟩⟩
   ·rw [T6 (Vi hj)] at e2
    obtain ⟨u',r',q⟩:=hl j y v' e1 e2 e3
    refine ⟨u',r',?_⟩
    rcases q with ⟨k,e⟩ | ⟨k,c,e,z⟩
    ·refine .inl ⟨k,?_⟩
     have:y≠x:=λe=>hj (Ae hN e1 (e▸hi))
     simp [this,e]
    ·exact .inr ⟨k,c,e,z.sameBut hs (cne y c e)⟩
  ·obtain ⟨w',z⟩:=I.cell y c e
   exact ⟨w',z.sameBut hs (cne y c e)⟩
  ·obtain ⟨e,n,ne,nf,d⟩:=I.pin p hp
   exact ⟨(hs.2 p.1 ne).trans e,n,ne,nf,d⟩
 ·have hfn:X.fn x=true:=by
   rcases hf with z | z
   ·exact z
   ·rw [z] at hk;cases hk
  obtain ⟨c,hc⟩:=I.ok.has x (.inl hk)
  obtain ⟨w',z⟩:=I.cell x c hc
  refine wpAny_storeName_cell I.ok.kind hk hc z (λh' hc' hs=>?_)
  obtain ⟨oc,hoc,Rt⟩:=id z
  refine h {s with heap:=h'} ⟨I.ok,I.os,I.bare,⟨λb o e n hb hx=>?_,λb o e n hb hx=>?_,I.base.free,λb o e hx=>?_,I.base.tups,I.base.frzs,I.base.tbls⟩,⟨m,hn.sameBut hs (Vi (cne x c hc)),λj y v' e1 e2 e3=>?_⟩,λy c' e=>?_,I.free,I.freeC,λp hp=>?_,tracked ⟨oc,hoc,I.freeC x c hc⟩ hs,by simpa using I.len⟩ ⟨c,hs,.inr hc⟩
  ·exact (hs.2 b (Tr (To (S9 e) (I.ok.cab x c hfn hc)))).trans (I.base.keep b o e n hb hx)
  ·obtain ⟨sl,e1⟩:=I.base.slot b o e n hb hx
   exact ⟨sl,(hs.2 b (Tr (To (S9 e) (I.ok.cab x c hfn hc)))).trans e1⟩
  ·obtain ⟨o',e1⟩:=I.base.there b o e hx
   exact ⟨o',(hs.2 b (Tr (To (S9 e) (I.ok.cab x c hfn hc)))).trans e1⟩
  ·by_cases hj:j=i
   ·subst hj
    rw [hi] at e1;cases e1
    rw [UO hiσ] at e2
    cases e2
    exact ⟨u,r,.inr ⟨.inl hk,c,hc,hc'⟩⟩
   ·rw [T6 (Vi hj)] at e2
    obtain ⟨u',r',q⟩:=hl j y v' e1 e2 e3
    refine ⟨u',r',?_⟩
    rcases q with q | ⟨k,c',e,z'⟩
    ·exact .inl q
    ·refine .inr ⟨k,c',e,z'.sameBut hs ?_⟩
     rintro rfl
     exact hj (Ae hN e1 (I.ok.inj _ _ _ e hc▸hi))
  ·by_cases hcc:c'=c
   ·subst hcc;exact ⟨_,hc'⟩
   ·obtain ⟨w2,z2⟩:=I.cell y c' e
    exact ⟨w2,z2.sameBut hs hcc⟩
  ·obtain ⟨e,n,ne,nf,d⟩:=I.pin p hp
   refine ⟨(hs.2 p.1 ?_).trans e,n,ne,nf,d⟩
   intro q
   rw [q,hoc] at e
   have q':oc=p.2:=Ul e
   exact d w' (by rw [<-q'];exact Rt)
theorem uf {M:adA}{E:SI->SJ->Prop}{Q:Unit->SJ->Prop}(I:Inv X Sq σ H s) (hN:X.N.Nodup) (hi:X.N[i]?=some x) (hx:Loc X.env.scope x) (r:RelV v u)
 (h:∀s',Inv X Sq (σ.set i (some v)) H s'->Q () s') (hf:X.fn x=true\/X.env.scope.names.lookup x=some .local:=by first | exact .inl rfl | exact .inr rfl | assumption):S8 M A (acM X.env x u) Q E s:=
 mZ I hN hi hx r (λs' I' _=>h s' I') hf
theorem Inv.call' {s':SJ}(I:Inv X Sq σ H s) (ho:s'.os=s.os) (u:Un (frs X.stack) ch H H' s.heap s'.heap) (hok:gu X.prog X.w H' s'.heap) (hg:Zo s'.gens)
 (hch:∀b∈ch,(b∈X.ex\/X.s₀.heap.objs.size<=b)/\b≠X.env.locals/\(∀x c,X.env.cells.lookup x=some c->c≠b)/\∀p∈X.pn++Sq,p.1≠b):Inv X Sq σ H' s':=by
 obtain ⟨h',g',d',t',o'⟩:=s'
 have e:o'=s.os:=ho
 subst e
 exact I.call (g':=g') (t':=t') (d':=d') u hok hg hch
end
abbrev XK:=SI->Option Tg->Hp->Prop
abbrev St:=List (Option V)
abbrev VK:=V->Hp->Prop
abbrev TE:=St->Hp->VK->Prop
abbrev TT:=St->Hp->(Bool->Hp->Prop)->Prop
abbrev TA:=St->Hp->(List V->Hp->Prop)->Prop
structure Ends where
 nx:St->Hp->Prop
 rt:VK
 bk:St->Hp->Prop:=λ_ _=>False
 ct:St->Hp->Prop:=λ_ _=>False
abbrev TS:=Ends->St->Hp->Prop
def EP (X:Cx) (Sq:List (Tg×Obj)) (σ:St) (Q:VK) (u:SI) (s':SJ):Prop:=∃v H',Inv X Sq σ H' s'/\RelV v u/\Q v H'
def TP (X:Cx) (Sq:List (Tg×Obj)) (σ:St) (Q:Bool->Hp->Prop) (b:Bool) (s':SJ):Prop:=∃H',Inv X Sq σ H' s'/\Q b H'
def AP (X:Cx) (Sq:List (Tg×Obj)) (σ:St) (Q:List V->Hp->Prop) (us:List SI) (s':SJ):Prop:=∃vs H',Inv X Sq σ H' s'/\Vals vs us/\Q vs H'
noncomputable def SP (X:Cx) (Sq:List (Tg×Obj)) (D:Ends) (f:Flow) (s':SJ):Prop:=
 match f with
 | .next=>∃σ' H',Inv X Sq σ' H' s'/\D.nx σ' H'
 | .brk=>∃σ' H',Inv X Sq σ' H' s'/\D.bk σ' H'
 | .cont=>∃σ' H',Inv X Sq σ' H' s'/\D.ct σ' H'
 | .ret u=>∃v σ' H',Inv X Sq σ' H' s'/\RelV v u/\D.rt v H'
noncomputable def PE (X:Cx) (e:TV) (t:TE):Prop:=
 ∀(Sq:List (Tg×Obj)) (s:SJ) (σ:St) (H:Hp) (Q:VK),Inv X Sq σ H s->t σ H Q->S8 (Ti X.prog X.w) X.A (eval e X.env) (EP X Sq σ Q) X.xe s
noncomputable def PT (X:Cx) (e:TV) (t:TT):Prop:=
 ∀(Sq:List (Tg×Obj)) (s:SJ) (σ:St) (H:Hp) (Q:Bool->Hp->Prop),Inv X Sq σ H s->t σ H Q->S8 (Ti X.prog X.w) X.A (ZY e X.env (eval e X.env)) (TP X Sq σ Q) X.xe s
noncomputable def PW (X:Cx) (e:TV) (t:TT):Prop:=
 ∀(whole:Sem SI) (Sq:List (Tg×Obj)) (s:SJ) (σ:St) (H:Hp) (Q:Bool->Hp->Prop),Inv X Sq σ H s->t σ H Q->S8 (Ti X.prog X.w) X.A (ZY e X.env whole) (TP X Sq σ Q) X.xe s
theorem PW.pt (h:PW X e t):PT X e t:=h _
noncomputable def PA (X:Cx) (es:List TV) (t:TA):Prop:=
 ∀(pos:Pos) (Sq:List (Tg×Obj)) (s:SJ) (σ:St) (H:Hp) (Q:List V->Hp->Prop),Inv X Sq σ H s->t σ H Q->S8 (Ti X.prog X.w) X.A (spliced (Vb pos (SX es X.env))) (AP X Sq σ Q) X.xe s
noncomputable def PS (X:Cx) (st:V0) (t:TS):Prop:=
 ∀(Sq:List (Tg×Obj)) (s:SJ) (σ:St) (H:Hp) (D:Ends),Inv X Sq σ H s->t D σ H->S8 (Ti X.prog X.w) X.A (exec st X.env) (SP X Sq D) X.xe s
noncomputable def kC (X:Cx) (st:List V0) (t:TS):Prop:=
 ∀(Sq:List (Tg×Obj)) (s:SJ) (σ:St) (H:Hp) (D:Ends),Inv X Sq σ H s->t D σ H->S8 (Ti X.prog X.w) X.A (execs st X.env) (SP X Sq D) X.xe s
theorem bO {α:Type}{t:Sem α}{Q Q':α->SJ->Prop}{M:adA}{A:TR}{E:SI->SJ->Prop}{s:SJ}(h:S8 M A t Q E s) (hQ:∀a s,Q a s->Q' a s):S8 M A t Q' E s:=Uc h hQ λ_ _ x=>x
section
variable {X:Cx}
theorem bin {a b:TV}{ta tb:TE}(ha:PE X a ta) (hb:PE X b tb){Sq:List (Tg×Obj)}{s:SJ}{σ:St}{H:Hp}{R:V->V->Hp->Prop}(I:Inv X Sq σ H s) (h:ta σ H λx H1=>tb σ H1 λy H2=>R x y H2)
  {α:Type}{Q:α->SJ->Prop}{f:SI->SI->Sem α}
  (hf:∀v u s2 x y H2,Inv X Sq σ H2 s2->RelV x v->RelV y u->R x y H2->S8 (Ti X.prog X.w) X.A (f v u) Q X.xe s2):
  S8 (Ti X.prog X.w) X.A (eval a X.env) (λv s₁=>S8 (Ti X.prog X.w) X.A (eval b X.env) (λu s₂=>S8 (Ti X.prog X.w) X.A (f v u) Q X.xe s₂) X.xe s₁) X.xe s:=by
 refine bO (ha Sq s σ H _ I h) λv s1 ⟨x,H1,I1,r1,q1⟩=>?_
 refine bO (hb Sq s1 σ H1 _ I1 q1) λu s2 ⟨y,H2,I2,r2,q2⟩=>?_
 exact hf v u s2 x y H2 I2 r1 r2 q2
def NC (i:Nat):TE:=λσ H Q=>∃v,σ[i]?=some (some v)/\Q v H
def tC (v:V):TE:=λ_ H Q=>Q v H
theorem lO {pos:Pos}(hN:X.N[i]?=some x) (hv:sD X.env.scope x) (hd:(x == ("__debug__":Str))=false:=by decide) (hcd:(x == ("__classdict__":Str))=false:=by decide):PE X (.Name x pos) (NC i):=by
 intro Sq s σ H Q I h
 obtain ⟨v,e,h⟩:=h
 obtain ⟨m,hn,hl⟩:=I.loc
 obtain ⟨u,r,l⟩:=hl i x v hN e hv
 have fin:EP X Sq σ Q u s:=⟨v,H,I,r,h⟩
 rcases l with ⟨hk,hm⟩ | ⟨hk,c,hc,hcell⟩
 ·exact ab8 (ZR I.ok.kind hk hn hm fin) hd
 ·rcases hk with hk | hk
  ·exact ab8 (Z5 I.ok.kind hk hc hcell fin) hd
  ·exact ab8 (wpAny_loadName_free I.ok.kind hk hc hcell fin hcd) hd
theorem MP {i j pos}:PE X (.Constant (.int i) j pos) (tC (.int i)):=λ_ _ _ H _ I h=>wpAny_Constant_int ⟨.int i,H,I.tok _,⟨_,rfl⟩,h⟩
theorem Oc {b j pos}:PE X (.Constant (.bool b) j pos) (tC (.bl b)):=λ_ _ _ H _ I h=>Constant_bool ⟨.bl b,H,I,rfl,h⟩
theorem MR {j pos}:PE X (.Constant .none j pos) (tC .non):=λ_ _ _ H _ I h=>Constant_none ⟨.non,H,I,rfl,h⟩
theorem MU {x j pos}:PE X (.Constant (.str x) j pos) (tC (.str x)):=λ_ _ _ H _ I h=>Calls.Constant_str ⟨.str x,H,I.tok _,⟨_,rfl⟩,h⟩
def Gl (X:Cx) (x:Str):Prop:=X.env.kindOf x=some .globalImplicit
theorem BG {E:SI->SJ->Prop}{H:Hp}{pos:Pos}{Q:SI->SJ->Prop}(I:Inv X Sq σ H s) (hg:Gl X x) (hm:X.mg x=some u) (h:Q u s)
 (hd:(x == ("__debug__":Str))=false:=by decide):S8 (Ti X.prog X.w) X.A (eval (.Name x pos) X.env) Q E s:=
 Yt I.ok.kind hg (Calls.loadGlobal_global (by rw [I.ok.glob];exact I.mod.glob.keeps I.bk) hm h) hd
theorem qG {E:SI->SJ->Prop}{H:Hp}{pos:Pos}{Q:SI->SJ->Prop}(I:Inv X Sq σ H s) (hg:Gl X x) (hm:X.mg x=none) (hv:Ue x=some u) (h:Q u s)
 (hn:x≠"__name__":=by decide) (hd:(x == ("__debug__":Str))=false:=by decide):S8 (Ti X.prog X.w) X.A (eval (.Name x pos) X.env) Q E s:=by
 obtain ⟨mb,h1,h2⟩:=I.mod.blt
 exact Yt I.ok.kind hg (Calls.loadGlobal_builtin (by rw [I.ok.glob];exact I.mod.glob.keeps I.bk) hm (by rw [I.ok.blt];exact h1.keeps I.bk) ((h2 x hn).trans hv) h) hd
theorem BP {pos:Pos}(hg:Gl X x) (hm:X.mg x=some u) (r:RelV v u) (hd:(x == ("__debug__":Str))=false:=by decide):PE X (.Name x pos) (tC v):=
 λ_ _ _ H _ I h=>BG I hg hm ⟨v,H,I,r,h⟩ hd
theorem Kl {pos:Pos}(hg:Gl X x) (hm:X.mg x=none) (hv:Ue x=some u) (r:RelV v u) (hn:x≠"__name__":=by decide) (hd:(x == ("__debug__":Str))=false:=by decide):PE X (.Name x pos) (tC v):=
 λ_ _ _ H _ I h=>qG I hg hm hv ⟨v,H,I,r,h⟩ hn hd
variable {a b:TV}{ta tb:TE}{pos:Pos}
noncomputable def PC (X:Cx) (op:CmpOp) (a b:TV) (t:TE):Prop:=
 ∀(Sq:List (Tg×Obj)) (s:SJ) (σ:St) (H:Hp) (Q:VK),Inv X Sq σ H s->t σ H Q->
  S8 (Ti X.prog X.w) X.A (eval a X.env) (λv s₁=>S8 (Ti X.prog X.w) X.A (eval b X.env) (λu s₂=>S8 (Ti X.prog X.w) X.A (UP op v u) (EP X Sq σ Q) X.xe s₂) X.xe s₁) X.xe s
theorem GU (b:TV) (h:op≠.In) (h2:op≠.NotIn):UH op b=false:=by
 have e1:(op == adS)=false:=by cases op <;> first | rfl | exact absurd rfl h
 have e2:(op == ac0)=false:=by cases op <;> first | rfl | exact absurd rfl h2
 cases b <;> simp [UH,e1,e2]
def tB (t:TE):TT:=λσ H Q=>t σ H λx H1=>∃c,x=.bl c/\Q c H1
theorem P7 {op:CmpOp}{t:TE}(h:PC X op a b t) (h1:UH op b=false:=by first | exact GU _ (by decide) (by decide) | rfl):PT X (.Compare a [op] [b] pos) (tB t):=by
 intro Sq s σ H Q I hw
 refine Zp (bO (h Sq s σ H _ I hw) λv s1 h1=>bO h1 λu s2 h2=>bO h2 λc s3 ⟨x,H1,I1,r1,q1⟩=>?_) h1
 obtain ⟨d,rfl,q⟩:=q1
 cases r1
 exact UI ⟨H1,I1,q⟩
theorem M7 {e:TV}{t:TE}(h:PE X e t) (he:∀whole,ZY e X.env whole=(do let v <-whole;Wb e.pos;holding [v] (truthy v)):=by intro _;rfl):PT X e (tB t):=by
 intro Sq s σ H Q I hw
 refine isTrue_plain (bO (h Sq s σ H _ I hw) λv s1 ⟨x,H1,I1,r1,q1⟩=>?_) (he _)
 obtain ⟨d,rfl,q⟩:=q1
 cases r1
 exact UI ⟨H1,I1,q⟩
variable {tA tB':TT}{rest:List TV}
def Pz (t u:TT):TT:=λσ H Q=>t σ H λc H1=>if c=true then u σ H1 Q else Q false H1
def Qc (t u:TT):TT:=λσ H Q=>t σ H λc H1=>if c=true then Q true H1 else u σ H1 Q
def PM (t:TT):TT:=λσ H Q=>t σ H λc H1=>Q (!c) H1
theorem Ky (ha:PT X a tA):PW X (.BoolOp .And [a] pos) tA:=by
 intro wh Sq s σ H Q I h
 refine isTrue_and (bO (ha Sq s σ H Q I h) λc s1 e=>?_)
 cases c with
 | true=>exact isTrue_and_nil e
 | false=>exact e
theorem M9 (ha:PT X a tA):PW X (.BoolOp .Or [a] pos) tA:=by
 intro wh Sq s σ H Q I h
 refine isTrue_or (bO (ha Sq s σ H Q I h) λc s1 e=>?_)
 cases c with
 | false=>exact isTrue_or_nil e
 | true=>exact e
theorem M8 (ha:PT X a tA) (hb:PW X (.BoolOp .And (b::rest) pos) tB'):PW X (.BoolOp .And (a::b::rest) pos) (Pz tA tB'):=by
 intro wh Sq s σ H Q I h
 refine isTrue_and (bO (ha Sq s σ H _ I h) λc s1 ⟨H1,I1,q1⟩=>?_)
 cases c with
 | true=>exact hb wh Sq s1 σ H1 Q I1 q1
 | false=>exact ⟨H1,I1,q1⟩
theorem Oi (ha:PT X a tA) (hb:PW X (.BoolOp .Or (b::rest) pos) tB'):PW X (.BoolOp .Or (a::b::rest) pos) (Qc tA tB'):=by
 intro wh Sq s σ H Q I h
 refine isTrue_or (bO (ha Sq s σ H _ I h) λc s1 ⟨H1,I1,q1⟩=>?_)
 cases c with
 | true=>exact ⟨H1,I1,q1⟩
 | false=>exact hb wh Sq s1 σ H1 Q I1 q1
theorem M6 (ha:PT X a tA):PT X (.UnaryOp .Not a pos) (PM tA):=by
 intro Sq s σ H Q I h
 exact isTrue_not (ha Sq s σ H (λc H1=>Q (!c) H1) I h)
def Ox (ta tb:TE):TE:=λσ H Q=>ta σ H λx H1=>∃c,x=.bl c/\if c=true then tb σ H1 Q else Q (.bl false) H1
def PN (ta tb:TE):TE:=λσ H Q=>ta σ H λx H1=>∃c,x=.bl c/\if c=true then Q (.bl true) H1 else tb σ H1 Q
def OC (ta:TE):TE:=λσ H Q=>ta σ H λx H1=>∃c,x=.bl c/\Q (.bl (!c)) H1
theorem MT {op}{t:TE}(h:PE X a t):PE X (.BoolOp op [a] pos) t:=λSq s σ H Q I hw=>BoolOp_one (h Sq s σ H Q I hw)
theorem MO (ha:PE X a ta) (hb:PE X (.BoolOp .And (b::rest) pos) tb):PE X (.BoolOp .And (a::b::rest) pos) (Ox ta tb):=by
 intro Sq s σ H Q I h
 refine BoolOp_and (bO (ha Sq s σ H _ I h) λv s1 ⟨x,H1,I1,r1,q1⟩=>?_)
 obtain ⟨c,rfl,q1⟩:=q1
 cases r1
 refine UI ?_
 cases c with
 | true=>exact hb Sq s1 σ H1 Q I1 q1
 | false=>exact ⟨.bl false,H1,I1,rfl,q1⟩
theorem Of (ha:PE X a ta) (hb:PE X (.BoolOp .Or (b::rest) pos) tb):PE X (.BoolOp .Or (a::b::rest) pos) (PN ta tb):=by
 intro Sq s σ H Q I h
 refine BoolOp_or (bO (ha Sq s σ H _ I h) λv s1 ⟨x,H1,I1,r1,q1⟩=>?_)
 obtain ⟨c,rfl,q1⟩:=q1
 cases r1
 refine UI ?_
 cases c with
 | false=>exact hb Sq s1 σ H1 Q I1 q1
 | true=>exact ⟨.bl true,H1,I1,rfl,q1⟩
theorem MS (ha:PE X a ta):PE X (.UnaryOp .Not a pos) (OC ta):=by
 intro Sq s σ H Q I h
 refine UnaryOp_ (bO (ha Sq s σ H _ I h) λv s1 ⟨x,H1,I1,r1,q1⟩=>?_)
 obtain ⟨c,rfl,q1⟩:=q1
 cases r1
 exact not_of (UI ⟨.bl (!c),H1,I1,rfl,q1⟩)
end
noncomputable def cB (K:SG) (H:Hp) (a:Tg) (xs:List V):Prop:=
 Rd H a (.lst xs)\/
  ∃(o:Obj) (Su:Array SI) (n:Nat),K.lookup a=some o/\o.cls=.type "list"/\o.dict=none/\o.data=.seq Su n/\Su.size<=sizeLine/\Vals xs Su.toList
noncomputable def cL (K:SG) (H:Hp) (a:Tg) (xs:List V):Prop:=
 Rd H a (.tup xs)\/
  ∃(o:Obj) (Su:Array SI) (n:Nat),K.lookup a=some o/\o.cls=.type "tuple"/\o.data=.seq Su n/\Su.size<=sizeLine/\Vals xs Su.toList
noncomputable def O7:SI->Option V
 | .none=>some .non
 | .bool b=>some (.bl b)
 | .int i _=>some (.int i)
 | .str x _=>some (.str x)
 | .bytes b _=>some (.byt b)
 | .float b _=>some (.flt b)
 | .ref a=>some (.ref a)
 | .type n=>some (.ty n)
 | _=>none
theorem RelV.abs (r:RelV x u):O7 u=some x:=by
 cases x with
 | non=>cases r;rfl
 | bl _=>cases r;rfl
 | int _=>obtain ⟨t,rfl⟩:=r;rfl
 | str _=>obtain ⟨t,rfl⟩:=r;rfl
 | byt _=>obtain ⟨t,rfl⟩:=r;rfl
 | flt _=>obtain ⟨t,rfl⟩:=r;rfl
 | ref _=>cases r;rfl
 | ty _=>cases r;rfl
theorem RelV.inj (r:RelV x u) (q:RelV y u):x=y:=Ul (r.abs.symm.trans q.abs)
theorem Vals.inj:∀{xs ys:List V}{us:List SI},Vals xs us->Vals ys us->xs=ys
 | _,_,_,.nil,.nil=>rfl
 | _,_,_,.cons r t,.cons r' t'=>by rw [r.inj r',Vals.inj t t']
section
variable {X:Cx}{Sq:List (Tg×Obj)}{σ:St}{H:Hp}{s:SJ}{a:Tg}{xs ys:List V}
theorem cB.of {K:SG}(h:H a=some (.lst xs)):cB K H a xs:=.inl (.inl h)
theorem Inv.list (I:Inv X Sq σ H s) (h:cB X.K H a xs):∃Su:List SI,Vals xs Su/\PlainL s.heap a Su.toArray/\xs.length<=sizeLine:=by
 rcases h with h | ⟨o,Su,n,hk,hc,hd,hs,hz,r⟩
 ·obtain ⟨z,Su,n,r,e⟩:=h.ok I.hok
  exact ⟨Su,r,⟨_,n,e,rfl,rfl,rfl⟩,z⟩
 ·refine ⟨Su.toList,r,⟨o,n,I.kIn a o hk,hc,hd,by simpa using hs⟩,?_⟩
  have e:=r.length
  simp only [S4] at e
  omega
theorem Inv.tuple (I:Inv X Sq σ H s) (h:cL X.K H a xs):∃Su:List SI,Vals xs Su/\acZ s.heap a Su.toArray/\xs.length<=sizeLine:=by
 rcases h with h | ⟨o,Su,n,hk,hc,hs,hz,r⟩
 ·obtain ⟨z,Su,r,p⟩:=h.ok I.hok
  exact ⟨Su,r,p,z⟩
 ·refine ⟨Su.toList,r,⟨o,I.kIn a o hk,hc,n,by simpa using hs⟩,?_⟩
  have e:=r.length
  simp only [S4] at e
  omega
theorem Inv.list_inj (I:Inv X Sq σ H s) (h:cB X.K H a xs) (h':cB X.K H a ys):xs=ys:=by
 obtain ⟨Su,r,⟨o,n,e,_,_,d⟩,_⟩:=I.list h
 obtain ⟨its',r',⟨o',n',e',_,_,d'⟩,_⟩:=I.list h'
 rw [e] at e';cases e'
 rw [d] at d'
 injection d' with d1 _
 have:Su=its':=by simpa using congrArg Zq d1
 subst this
 exact r.inj r'
theorem Inv.tuple_inj (I:Inv X Sq σ H s) (h:cL X.K H a xs) (h':cL X.K H a ys):xs=ys:=by
 obtain ⟨Su,r,⟨o,e,_,n,d⟩,_⟩:=I.tuple h
 obtain ⟨its',r',⟨o',e',_,n',d'⟩,_⟩:=I.tuple h'
 rw [e] at e';cases e'
 rw [d] at d'
 injection d' with d1 _
 have:Su=its':=by simpa using congrArg Zq d1
 subst this
 exact r.inj r'
end
abbrev Cx.wish (X:Cx) (E:SI->SJ->Prop):Cx:={X with xe:=E}
abbrev Cx.nox (X:Cx):Cx:=X.wish λ_ _=>False
theorem Cx.Ok.wish {X:Cx}(ok:X.Ok) (E:SI->SJ->Prop):(X.wish E).Ok:=
 ⟨ok.mod,ok.kind,ok.glob,ok.blt,ok.above,ok.inj,ok.has,ok.cab,ok.hd,ok.frames,ok.stk,ok.exf,ok.bs,ok.bsz,ok.noex,ok.exfs,ok.funs,ok.frf⟩
theorem Cx.Ok.unwish {X:Cx}{E:SI->SJ->Prop}(ok:(X.wish E).Ok):X.Ok:=
 ⟨ok.mod,ok.kind,ok.glob,ok.blt,ok.above,ok.inj,ok.has,ok.cab,ok.hd,ok.frames,ok.stk,ok.exf,ok.bs,ok.bsz,ok.noex,ok.exfs,ok.funs,ok.frf⟩
section
variable {X:Cx}{Sq:List (Tg×Obj)}{σ:St}{H:Hp}{s:SJ}{E:SI->SJ->Prop}
theorem Inv.wish (I:Inv X Sq σ H s) (E:SI->SJ->Prop):Inv (X.wish E) Sq σ H s:=⟨I.ok.wish E,I.os,I.bare,I.base,I.loc,I.cell,I.free,I.freeC,I.pin,I.hok,I.len⟩
theorem Inv.unwish (I:Inv (X.wish E) Sq σ H s):Inv X Sq σ H s:=⟨I.ok.unwish,I.os,I.bare,I.base,I.loc,I.cell,I.free,I.freeC,I.pin,I.hok,I.len⟩
theorem SP.unwish {D:Ends}(h:SP (X.wish E) Sq D f s'):SP X Sq D f s':=by
 cases f with
 | next=>obtain ⟨σ',H',I,q⟩:=h;exact ⟨σ',H',I.unwish,q⟩
 | brk=>obtain ⟨σ',H',I,q⟩:=h;exact ⟨σ',H',I.unwish,q⟩
 | cont=>obtain ⟨σ',H',I,q⟩:=h;exact ⟨σ',H',I.unwish,q⟩
 | ret u=>obtain ⟨v,σ',H',I,r,q⟩:=h;exact ⟨v,σ',H',I.unwish,r,q⟩
theorem kC.nox {st:List V0}{t:TS}(h:kC X.nox st t):kC X st t:=λSq s σ H D I hw=>
 Uc (h Sq s σ H D (I.wish _) hw) (λ_ _ q=>q.unwish) λ_ _ z=>WC z
end
section
variable {X:Cx}{st:V0}{rest:List V0}{t u:TS}{e:TV}{te:TE}{pos:Pos}
def OB:TS:=λD σ H=>D.nx σ H
def PU (t u:TS):TS:=λD σ H=>t {D with nx:=u D} σ H
theorem Ku:kC X [] OB:=λ_ _ σ H _ I h=>Ye ⟨σ,H,I,h⟩
theorem Hi (h1:PS X st t) (h2:kC X rest u):kC X (st::rest) (PU t u):=by
 intro Sq s σ H D I h
 refine abb (bO (h1 Sq s σ H {D with nx:=u D} I h) λf s1 q=>?_)
 cases f with
 | next=>
  obtain ⟨σ',H',I',q⟩:=q
  exact h2 Sq s1 σ' H' D I' q
 | ret v=>exact q
 | brk=>exact q
 | cont=>exact q
theorem Kv (h1:PS X st t):kC X [st] t:=by
 intro Sq s σ H D I h
 refine abb (bO (h1 Sq s σ H D I h) λf s1 q=>?_)
 cases f with
 | next=>exact Ye q
 | ret v=>exact q
 | brk=>exact q
 | cont=>exact q
theorem Inv.quiet {H:Hp}(I:Inv X Sq σ H s):interactive X.env=false:=by simp [interactive,I.ok.kind]
def OA (te:TE):TS:=λD σ H=>te σ H λ_ H1=>D.nx σ H1
theorem rP (he:PE X e te) (hs:Wl e none pos.line X.env=pure false:=by rfl):PS X (.Expr e pos) (OA te):=by
 intro Sq s σ H D I h
 exact wpAny_Expr_any (bO (he Sq s σ H _ I h) λv s1 ⟨x,H1,I1,r1,q1⟩=>⟨σ,H1,I1,q1⟩) I.quiet hs
def PR (te:TE):TS:=λD σ H=>te σ H D.rt
theorem M4 (he:PE X e te):PS X (.Return (some e) pos) (PR te):=by
 intro Sq s σ H D I h
 exact wpAny_Return_some (bO (he Sq s σ H _ I h) λv s1 ⟨x,H1,I1,r1,q1⟩=>⟨x,σ,H1,I1,r1,q1⟩)
def PK (c:TT) (t u:TS):TS:=λD σ H=>c σ H λb H1=>if b=true then t D σ H1 else u D σ H1
theorem Oh {c:TV}{a b:List V0}{tc:TT}(hc:PT X c tc) (ha:kC X a t) (hb:kC X b u):PS X (.If c a b pos) (PK tc t u):=by
 intro Sq s σ H D I h
 refine wpAny_If (bO (hc Sq s σ H _ I h) λd s1 ⟨H1,I1,q1⟩=>?_)
 cases d with
 | true=>exact ha Sq s1 σ H1 D I1 q1
 | false=>exact hb Sq s1 σ H1 D I1 q1
end
abbrev TG:=V->St->Hp->(St->Hp->Prop)->Prop
abbrev wU:=List V->St->Hp->(St->Hp->Prop)->Prop
noncomputable def PG (X:Cx) (Sv:TV) (t:TG):Prop:=
 ∀(Sq:List (Tg×Obj)) (s:SJ) (σ:St) (H:Hp) (v:V) (u:SI) (Q:St->Hp->Prop),Inv X Sq σ H s->RelV v u->t v σ H Q->
  S8 (Ti X.prog X.w) X.A (assign Sv X.env u) (λ_ s'=>∃σ' H',Inv X Sq σ' H' s'/\Q σ' H') X.xe s
noncomputable def y_ (X:Cx) (ts:List TV) (t:wU):Prop:=
 ∀(Sq:List (Tg×Obj)) (s:SJ) (σ:St) (H:Hp) (vs:List V) (us:List SI) (Q:St->Hp->Prop),Inv X Sq σ H s->Vals vs us->t vs σ H Q->
  S8 (Ti X.prog X.w) X.A (assignInOrder ((V1 ts X.env).map (·.2)) us) (λ_ s'=>∃σ' H',Inv X Sq σ' H' s'/\Q σ' H') X.xe s
abbrev Cm:=V->V->V->Hp->(Hp->Prop)->Prop
noncomputable def Lo (X:Cx) (t:Cm):Prop:=
 ∀(Sq:List (Tg×Obj)) (s:SJ) (σ:St) (H:Hp) (o i v:V) (ov iv u:SI) (Q:Hp->Prop),Inv X Sq σ H s->RelV o ov->RelV i iv->RelV v u->t o i v H Q->
  S8 (Ti X.prog X.w) X.A (setItem ov iv u) (λ_ s'=>∃H',Inv X Sq σ H' s'/\Q H') X.xe s
abbrev Lq:=V->V->Hp->VK->Prop
noncomputable def P4 (X:Cx) (op:ado) (t:Lq):Prop:=
 ∀(Sq:List (Tg×Obj)) (s:SJ) (σ:St) (H:Hp) (x y:V) (v u:SI) (Q:VK),Inv X Sq σ H s->RelV x v->RelV y u->t x y H Q->
  S8 (Ti X.prog X.w) X.A (Zr op v u) (EP X Sq σ Q) X.xe s
section
variable {X:Cx}{pos:Pos}
def Iv (i:Nat):TG:=λv σ H Q=>Q (σ.set i (some v)) H
theorem Kn (hN:X.N.Nodup) (hi:X.N[i]?=some x) (hx:Loc X.env.scope x) (hf:X.fn x=true\/X.env.scope.names.lookup x=some .local:=by first | exact .inl rfl | exact .inr rfl | assumption):PG X (.Name x pos) (Iv i):=by
 intro Sq s σ H v u Q I r h
 exact wpAny_assign_Name (uf I hN hi hx r (λs' I'=>⟨_,H,I',h⟩) hf)
def aD:wU:=λvs σ H Q=>vs=[]/\Q σ H
def ao (t:TG) (u:wU):wU:=λvs σ H Q=>∃v r,vs=v::r/\t v σ H λσ' H'=>u r σ' H' Q
theorem Ko:y_ X [] aD:=by
 intro Sq s σ H vs us Q I r h
 obtain ⟨e,h⟩:=h
 subst e
 cases r
 exact assignInOrder_nil ⟨σ,H,I,h⟩
theorem Hf {e:TV}{es:List TV}{t:TG}{u:wU}(h1:PG X e t) (h2:y_ X es u)
  (hs:(V1 (e::es) X.env).map (·.2)=assign e X.env::(V1 es X.env).map (·.2):=by rfl):y_ X (e::es) (ao t u):=by
 intro Sq s σ H vs us Q I r h
 obtain ⟨v,vr,e1,h⟩:=h
 subst e1
 cases r with
 | cons r rr=>
  rw [hs]
  refine assignInOrder_cons (bO (h1 Sq s σ H _ _ _ I r h) λ_ s1 ⟨σ1,H1,I1,q1⟩=>?_)
  exact h2 Sq s1 σ1 H1 _ _ Q I1 rr q1
def bz (K:SG) (n:Nat) (t:wU):TG:=λv σ H Q=>∃a xs,v=.ref a/\cL K H a xs/\xs.length=n/\t xs σ H Q
theorem MX (hc:X.calm=true) (h:y_ X es t)
 (hn:(V1 es X.env).length=n:=by rfl) (hst:(V1 es X.env).findIdx? (·.1)=none:=by rfl):PG X (.Tuple es k pos) (bz X.K n t):=by
 intro Sq s σ H v u Q I r hw
 obtain ⟨a,xs,e1,hq,hl,hw⟩:=hw
 subst e1
 cases r
 obtain ⟨Su,rv,ht,hz⟩:=I.tuple hq
 refine assign_Tuple_tuple (I.ok.hd hc) ht (by simp [hn,<-hl,rv.length]) hst λh' hx=>?_
 have I1:Inv X Sq σ H {s with heap:=h'}:=I.kept (t':=s.toks) λb o e=>hx b o (Tr (S9 e)) e
 exact h Sq _ σ H xs _ Q I1 (by simpa using rv) hw
def Pb (to ti:TE) (t:Cm):TG:=λv σ H Q=>to σ H λo H1=>ti σ H1 λi H2=>t o i v H2 λH3=>Q σ H3
theorem MW {o i:TV}{to ti:TE}{t:Cm}(ho:PE X o to) (hi:PE X i ti) (hs:Lo X t)
  (ha:∀v,assign (.Subscript o i pos) X.env v=(do
   let ov <-holding [v] (eval o X.env)
   let iv <-holding [v,ov] (eval i X.env)
   Wb pos
   holding [v,ov,iv] (setItem ov iv v)
   release [v,ov,iv] []):=by intro _;rfl):PG X (.Subscript o i pos) (Pb to ti t):=by
 intro Sq s σ H v u Q I r h
 rw [ha]
 refine SE (TQ (bO (ho Sq s σ H _ I h) λov s1 ⟨x,H1,I1,r1,q1⟩=>?_))
 refine SE (TQ (bO (hi Sq s1 σ H1 _ I1 q1) λiv s2 ⟨y,H2,I2,r2,q2⟩=>?_))
 refine SE (U6 (SE (TQ (bO (hs Sq s2 σ H2 x y v ov iv u _ I2 r1 r2 r q2) λ_ s3 ⟨H3,I3,q3⟩=>?_))))
 exact wpAny_release ⟨σ,H3,I3,q3⟩
def HN (te:TE) (g:TG):TS:=λD σ H=>te σ H λx H1=>g x σ H1 D.nx
theorem Fl {tg e:TV}{te:TE}{g:TG}(he:PE X e te) (hg:PG X tg g) (hs:W8 [tg] e pos.line X.env=pure false:=by rfl) (hw:aaf [tg] e X.env=pure none:=by rfl)
  (h1:(V1 [tg] X.env).map (·.2)=[assign tg X.env]:=by rfl):PS X (.Assign [tg] e pos) (HN te g):=by
 intro Sq s σ H D I h
 refine wpAny_Assign_stores (bO (he Sq s σ H _ I h) λv s1 ⟨x,H1,I1,r1,q1⟩=>?_) hs hw
 rw [h1]
 exact bO (hg Sq s1 σ H1 x v _ I1 r1 q1) λ_ s2 q=>q
theorem M5 {i:Nat}{x:Str}{e:TV}{te:TE}{pos':Pos}(hN:X.N.Nodup) (hi:X.N[i]?=some x) (hx:Loc X.env.scope x) (he:PE X e te) (hs:Wl e (some (.Name x pos')) pos.line X.env=pure false:=by rfl) (hf:X.fn x=true\/X.env.scope.names.lookup x=some .local:=by first | exact .inl rfl | exact .inr rfl | assumption):
  PS X (.Assign [.Name x pos'] e pos) (HN te (Iv i)):=by
 intro Sq s σ H D I h
 refine wpAny_Assign_Name (bO (he Sq s σ H _ I h) λv s1 ⟨y,H1,I1,r1,q1⟩=>?_) hs
 exact uf I1 hN hi hx r1 (λs2 I2=>⟨_,H1,I2,q1⟩) hf
def PF (i:Nat) (te:TE) (ti:Lq):TS:=λD σ H=>∃x,σ[i]?=some (some x)/\te σ H λy H1=>ti x y H1 λz H2=>D.nx (σ.set i (some z)) H2
theorem MZ {i:Nat}{x:Str}{e:TV}{te:TE}{op:ado}{ti:Lq}{pos':Pos}(hN:X.N.Nodup) (hi:X.N[i]?=some x) (hx:Loc X.env.scope x) (he:PE X e te) (ho:P4 X op ti) (hf:X.fn x=true\/X.env.scope.names.lookup x=some .local:=by first | exact .inl rfl | exact .inr rfl | assumption):
  PS X (.AugAssign (.Name x pos') op e pos) (PF i te ti):=by
 intro Sq s σ H D I h
 obtain ⟨v,e1,h⟩:=h
 obtain ⟨m,hn,hl⟩:=I.loc
 have vis:sD X.env.scope x:=by rcases hx with k | k;exact .inl k;exact .inr (.inl k)
 obtain ⟨u,r,l⟩:=hl i x v hi e1 vis
 refine wpAny_AugAssign_Name ?_
 have go:S8 (Ti X.prog X.w) X.A (eval e X.env) (λw s₂=>S8 (Ti X.prog X.w) X.A (Zr op u w) (λr s₃=>S8 (Ti X.prog X.w) X.A (acM X.env x r) (λ_=>SP X Sq D .next) X.xe s₃) X.xe s₂) X.xe s:=by
  refine bO (he Sq s σ H _ I h) λw s1 ⟨y,H1,I1,r1,q1⟩=>?_
  refine bO (ho Sq s1 σ H1 v y u w _ I1 r r1 q1) λz s2 ⟨zv,H2,I2,r2,q2⟩=>?_
  exact uf I2 hN hi hx r2 (λs3 I3=>⟨_,H2,I3,q2⟩) hf
 rcases l with ⟨hk,hm⟩ | ⟨hk,c,hc,hcell⟩
 ·exact ZR I.ok.kind hk hn hm go
 ·rcases hk with hk | hk
  ·exact Z5 I.ok.kind hk hc hcell go
  ·rcases hx with k | k
   ·have:X.env.scope.names.lookup x=some .free:=hk
    rw [k] at this;cases this
   ·have:X.env.scope.names.lookup x=some .free:=hk
    rw [k] at this;cases this
noncomputable def ND (c:TT) (tb:TS):TS:=λD σ H=>∃W:Nat->St->Hp->Prop,(∃m,W m σ H)/\∀m σ H,W m σ H->
 c σ H λb H1=>if b=true then ∃N:St->Hp->Prop,(∀σ' H',N σ' H'->∃m',m' < m/\W m' σ' H')/\tb {D with nx:=N,ct:=N,bk:=D.nx} σ H1 else D.nx σ H1
theorem Hh {c:TV}{body:List V0}{tc:TT}{tb:TS}(hp:abq (Ti X.prog X.w) X.A X.env X.xe) (hc:PT X c tc) (hb:kC X body tb):PS X (.While c body [] pos) (ND tc tb):=by
 intro Sq s σ H D I h
 obtain ⟨W,⟨m0,w0⟩,turn⟩:=h
 refine wpAny_While (codeAny_whileLoop (λn s'=>∃σ' H',Inv X Sq σ' H' s'/\W n σ' H') ?_ m0 ⟨σ,H,I,w0⟩)
 rintro n s1 ⟨σ1,H1,I1,w1⟩
 refine V2 hp (bO (hc Sq s1 σ1 H1 _ I1 (turn n σ1 H1 w1)) λb s2 ⟨H2,I2,q2⟩=>?_)
 cases b with
 | true=>
  obtain ⟨N,hN,q2⟩:=q2
  rw [if_pos rfl]
  refine V2 hp (bO (hb Sq s2 σ1 H2 _ I2 q2) λf s3 q3=>?_)
  cases f with
  | next=>
   obtain ⟨σ3,H3,I3,n3⟩:=q3
   obtain ⟨m',hm,w3⟩:=hN σ3 H3 n3
   exact ⟨m',hm,σ3,H3,I3,w3⟩
  | cont=>
   obtain ⟨σ3,H3,I3,n3⟩:=q3
   obtain ⟨m',hm,w3⟩:=hN σ3 H3 n3
   exact ⟨m',hm,σ3,H3,I3,w3⟩
  | brk=>exact q3
  | ret v=>exact q3
 | false=>
  rw [if_neg Tv]
  exact Ye ⟨σ1,H2,I2,q2⟩
end
structure It where
 go:Nat->Hp->Prop
 yld:Nat->Hp->V->Hp->Prop
 stop:Nat->Hp->Prop
noncomputable def jI (X:Cx) (Sq:List (Tg×Obj)) (H:Hp) (b:Tg):Prop:=
 H b=none/\b≠X.env.locals/\b∉X.fs/\(b∈X.ex\/X.s₀.heap.objs.size<=b)/\(∀x c,X.env.cells.lookup x=some c->c≠b)/\∀p∈X.pn++Sq,p.1≠b
theorem Inv.fpOk {H H':Hp}{s:SJ}(I:Inv X Sq σ H s) (hb:s.heap.objs.size<=b) (hn:H' b=none):jI X Sq H' b:=by
 refine ⟨hn,Vj (To I.lt hb),I.nofs hb,.inr (Tz I.sz hb),λx c e z=>?_,λp hp z=>?_⟩
 ·obtain ⟨v,q⟩:=I.cell x c e
  exact absurd (To q.lt (by rw [z];exact hb)) (Vg _)
 ·exact absurd (To (S9 (I.pin p hp).1) (by rw [z];exact hb)) (Vg _)
structure Turn (P:S_) (w:TL) (K:SG) (tg:TV) (J:It) (fp:List Tg) (it:Tg) (tn:Nat->Uz->Prop):Prop where
 mem:it∈fp
 obj:∀i h,tn i h->∀b∈fp,∃o,h.get? b=some o/\∀v,o.data≠.cell v
 keep:∀i h h',tn i h->(∀b∈fp,∀o,h.get? b=some o->h'.get? b=some o)->tn i h'
 item:∀(X:Cx),X.prog=P->X.w=w->X.K=K->X.calm=true->∀(i:Nat) (Sq:List (Tg×Obj)) (s:SJ) (σ:St) (H:Hp) (E:SI->SJ->Prop),Inv X Sq σ H s->(∀b∈fp,jI X Sq H b)->tn i s.heap->J.go i H->
  S8 (Ti P w) X.A (WJ (.ref it)) (λr s1=>∃u,r=some u/\
   S8 (Ti P w) X.A (VC tg (.ref it) u) (λ_ s2=>∃x H',Inv X Sq σ H' s2/\RelV x u/\J.yld i H x H'/\tn (i + 1) s2.heap/\∀b∈fp,H' b=none) E s1) E s
 done:∀(X:Cx),X.prog=P->X.w=w->X.K=K->X.calm=true->∀(i:Nat) (Sq:List (Tg×Obj)) (s:SJ) (σ:St) (H:Hp) (E:SI->SJ->Prop),Inv X Sq σ H s->(∀b∈fp,jI X Sq H b)->tn i s.heap->J.stop i H->
  S8 (Ti P w) X.A (WJ (.ref it)) (λr s1=>r=none/\Inv X Sq σ H s1) E s
 self:∀(A:TR) (i:Nat) (s:SJ) (Q:SI->SJ->Prop) (E:SI->SJ->Prop),tn i s.heap->Q (.ref it) s->S8 (Ti P w) A (Yw (.ref it)) Q E s
abbrev TI:=St->Hp->(It->Hp->Prop)->Prop
noncomputable def OP (X:Cx) (Sq:List (Tg×Obj)) (σ:St) (tg:TV) (R:It->Hp->Prop) (itv:SI) (s2:SJ):Prop:=
 ∃(it:Tg) (fp:List Tg) (tn:Nat->Uz->Prop) (J:It) (H':Hp),itv=.ref it/\Inv X Sq σ H' s2/\Turn X.prog X.w X.K tg J fp it tn/\tn 0 s2.heap/\(∀b∈fp,jI X Sq H' b)/\R J H'
noncomputable def PI (X:Cx) (tg Sw:TV) (wi:TI):Prop:=
 ∀(Sq:List (Tg×Obj)) (s:SJ) (σ:St) (H:Hp) (R:It->Hp->Prop),Inv X Sq σ H s->wi σ H R->
  S8 (Ti X.prog X.w) X.A (eval Sw X.env) (λv s1=>S8 (Ti X.prog X.w) X.A (Yw v) (OP X Sq σ tg R) X.xe s1) X.xe s
theorem yE {M:adA}{E:SI->SJ->Prop}{s:SJ}{o:Obj}{Q:Unit->SJ->Prop}(ho:s.heap.get? it=some o) (hc:o.cls=.type n) (hd:o.data=.fields vs)
 (hn:["enumerate","zip","dict_itemiterator","dict_reverseitemiterator","odict_iterator","itertools.zip_longest","itertools.pairwise"].contains n=false) (hQ:Q () s):S8 M A (VC tg (.ref it) u) Q E s:=by
 unfold VC
 cases tg <;> first
  | exact SH hQ
  | (cases u <;> first
    | exact SH hQ
    | (refine SE (ab9 ho ?_);rw [hc,hd];show S8 M A (if (["enumerate","zip","dict_itemiterator","dict_reverseitemiterator","odict_iterator","itertools.zip_longest","itertools.pairwise"].contains n && vs[0]? == some (ZZ _))=true then _ else _) Q E s;rw [if_neg (by intro h;rw [hn,Bool.false_and] at h;cases h)];exact SH hQ))
noncomputable def HZ (K:SG) (a:Tg):It:=
 ⟨λi H=>∃xs x,cB K H a xs/\xs[i]?=some x,λi H x H'=>H'=H/\∀xs,cB K H a xs->xs[i]?=some x,λi H=>∃xs,cB K H a xs/\xs.length<=i⟩
noncomputable def Ia (K:SG) (a:Tg):It:=
 ⟨λi H=>∃xs x,cL K H a xs/\xs[i]?=some x,λi H x H'=>H'=H/\∀xs,cL K H a xs->xs[i]?=some x,λi H=>∃xs,cL K H a xs/\xs.length<=i⟩
def H_ (lo:Int) (n:Nat):It:=⟨λi _=>i < n,λi H x H'=>H'=H/\x=.int (lo + i),λi _=>n<=i⟩
theorem F0 {P:S_}{w:TL}{K:SG}{tg:TV}(a it:Tg):Turn P w K tg (HZ K a) [it] it (λi h=>h.IsListIter it a i) where
 mem:=by simp
 obj:=λi h st b hb=>by
  have e:b=it:=by simpa using hb
  subst e
  obtain ⟨o,e,c,d⟩:=st
  exact ⟨o,e,λv z=>by rw [d] at z;cases z⟩
 keep:=λi h h' st k=>st.at λo e=>k it (by simp) o e
 item:=by
  intro X hP hw hK hc i Sq s σ H E I hf st hg
  subst hP hw hK
  obtain ⟨xs,x,hq,hx⟩:=hg
  obtain ⟨Su,rv,p,hz⟩:=I.list hq
  obtain ⟨u,hu,ru⟩:=rv.get hx
  obtain ⟨f0,f1,f2,f3,f4,f5⟩:=hf it (by simp)
  refine wpAny_pyNext_list_item st p.isList (x:=u) (by simpa using hu) λh' st' sb=>?_
  have I1:Inv X Sq σ H {s with heap:=h'}:=I.turned (t':=s.toks) (λb o hb e=>(sb.2 b hb).trans e) f0 f1 f3 f4 f5
  obtain ⟨o,e,c,d⟩:=id st'
  exact ⟨u,rfl,yE (s:={s with heap:=h'}) e c d (by decide) ⟨x,H,I1,ru,⟨rfl,λys hy=>by rw [I.list_inj hy hq];exact hx⟩,st',λb hb=>(hf b hb).1⟩⟩
 done:=by
  intro X hP hw hK hc i Sq s σ H E I hf st hg
  subst hP hw hK
  obtain ⟨xs,hq,hx⟩:=hg
  obtain ⟨Su,rv,p,hz⟩:=I.list hq
  obtain ⟨f0,f1,f2,f3,f4,f5⟩:=hf it (by simp)
  have hl:=rv.length
  exact wpAny_pyNext_list_end (I.ok.hd hc) st p.isList (by simp;omega) λh' eb=>⟨rfl,I.turned (t':=s.toks) (λb o hb e=>eb b o hb e) f0 f1 f3 f4 f5⟩
 self:=λ_ _ _ _ _ st h=>wpAny_pyIter_listiter st h
theorem DF {P:S_}{w:TL}{K:SG}{tg:TV}(a it:Tg):Turn P w K tg (Ia K a) [it] it (λi h=>h.IsTupleIter it a i) where
 mem:=by simp
 obj:=λi h st b hb=>by
  have e:b=it:=by simpa using hb
  subst e
  obtain ⟨o,e,c,d⟩:=st
  exact ⟨o,e,λv z=>by rw [d] at z;cases z⟩
 keep:=λi h h' st k=>st.at λo e=>k it (by simp) o e
 item:=by
  intro X hP hw hK hc i Sq s σ H E I hf st hg
  subst hP hw hK
  obtain ⟨xs,x,hq,hx⟩:=hg
  obtain ⟨Su,rv,p,hz⟩:=I.tuple hq
  obtain ⟨u,hu,ru⟩:=rv.get hx
  obtain ⟨f0,f1,f2,f3,f4,f5⟩:=hf it (by simp)
  refine wpAny_pyNext_tuple_item st (show s.heap.IsTuple a Su.toArray from p) (x:=u) (by simpa using hu) λh' st' sb=>?_
  have I1:Inv X Sq σ H {s with heap:=h'}:=I.turned (t':=s.toks) (λb o hb e=>(sb.2 b hb).trans e) f0 f1 f3 f4 f5
  obtain ⟨o,e,c,d⟩:=id st'
  exact ⟨u,rfl,yE (s:={s with heap:=h'}) e c d (by decide) ⟨x,H,I1,ru,⟨rfl,λys hy=>by rw [I.tuple_inj hy hq];exact hx⟩,st',λb hb=>(hf b hb).1⟩⟩
 done:=by
  intro X hP hw hK hc i Sq s σ H E I hf st hg
  subst hP hw hK
  obtain ⟨xs,hq,hx⟩:=hg
  obtain ⟨Su,rv,p,hz⟩:=I.tuple hq
  obtain ⟨f0,f1,f2,f3,f4,f5⟩:=hf it (by simp)
  have hl:=rv.length
  exact wpAny_pyNext_tuple_end (I.ok.hd hc) st (show s.heap.IsTuple a Su.toArray from p) (by simp;omega) λh' eb=>⟨rfl,I.turned (t':=s.toks) (λb o hb e=>eb b o hb e) f0 f1 f3 f4 f5⟩
 self:=λ_ _ _ _ _ st h=>wpAny_pyIter_tupleiter st h
theorem DE {P:S_}{w:TL}{K:SG}{tg:TV}(it:Tg) (lo:Int) (n:Nat):Turn P w K tg (H_ lo n) [it] it (λi h=>IsRangeIter h it (lo + (i:Nat) * 1) ((n:Int) - (i:Nat)) 1) where
 mem:=by simp
 obj:=λi h st b hb=>by
  have e:b=it:=by simpa using hb
  subst e
  exact ⟨_,st,λv z=>by
   have z':ac1 _=adL v:=z
   cases z'⟩
 keep:=λi h h' st k=>k it (by simp) _ st
 item:=by
  intro X hP hw hK hc i Sq s σ H E I hf st hg
  subst hP hw hK
  obtain ⟨f0,f1,f2,f3,f4,f5⟩:=hf it (by simp)
  have W:=Walks.range (prog:=X.prog) (w:=X.w) (I.ok.hd hc) it lo 1 n
  refine W.item i s _ _ hg st λv h' tk hv st' kk=>?_
  obtain ⟨t,rfl⟩:=hv
  have I1:Inv X Sq σ H {s with heap:=h',toks:=tk}:=I.turned (λb o hb e=>kk b o (by simpa using hb) e) f0 f1 f3 f4 f5
  refine ⟨_,rfl,yE (s:={s with heap:=h',toks:=tk}) (n:="range_iterator") st' rfl rfl (by decide) ⟨.int (lo + i),H,I1,⟨t,?_⟩,⟨rfl,rfl⟩,st',λb hb=>(hf b hb).1⟩⟩
  rw [Int.mul_one]
 done:=by
  intro X hP hw hK hc i Sq s σ H E I hf st hg
  subst hP hw hK
  obtain ⟨f0,f1,f2,f3,f4,f5⟩:=hf it (by simp)
  exact wpAny_pyNext_range_end (I.ok.hd hc) st (by have:n<=i:=hg;omega) λh' eb=>⟨rfl,I.turned (t':=s.toks) (λb o hb e=>eb b o hb e) f0 f1 f3 f4 f5⟩
 self:=λ_ _ _ _ _ st h=>wpAny_pyIter_rangeiter st h
section
variable {X:Cx}{tg:TV}
theorem HA {Sq:List (Tg×Obj)}{σ:St}{H:Hp}{s:SJ}{R:It->Hp->Prop}{E:SI->SJ->Prop}{lo hi:Int}{t u v:Tok}{tk:Nat}(I:Inv X Sq σ H s) (h1:-(2 ^ 62)<=lo) (h2:lo < 2 ^ 62) (h3:-(2 ^ 62)<=hi) (h4:hi < 2 ^ 62)
  (q:R (H_ lo (hi - lo).toNat) H):S8 (Ti X.prog X.w) X.A (Yw (.ref s.heap.objs.size)) (OP X Sq σ tg R) E {s with heap:=s.heap.push {cls:=.type "range",data:=.fields #[.int lo t,.int hi u,.int 1 v]},toks:=tk}:=by
 refine wpAny_pyIter_range (IsRange.new ..) (small_one h1 h2 h3 h4) ?_
 have I1:Inv X Sq σ H {s with heap:=s.heap.push {cls:=.type "range",data:=.fields #[.int lo t,.int hi u,.int 1 v]},toks:=tk}:=I.kept λb o e=>SO _ e
 refine ⟨(s.heap.push {cls:=.type "range",data:=.fields #[.int lo t,.int hi u,.int 1 v]}).objs.size,[(s.heap.push {cls:=.type "range",data:=.fields #[.int lo t,.int hi u,.int 1 v]}).objs.size],_,_,H,rfl,
  I1.kept (t':=tk) λb o e=>SO _ e,DE _ lo (hi - lo).toNat,?_,λb hb=>?_,q⟩
 ·have e1:lo + ((0:Nat):Int) * 1=lo:=by simp
  have e2:(((hi - lo).toNat:Nat):Int) - ((0:Nat):Int)=YW lo hi 1:=by rw [acn];split <;> omega
  show IsRangeIter _ _ (lo + ((0:Nat):Int) * 1) ((((hi - lo).toNat:Nat):Int) - ((0:Nat):Int)) 1
  rw [e1,e2]
  exact SY _ rfl
 ·have e:b=(s.heap.push {cls:=.type "range",data:=.fields #[.int lo t,.int hi u,.int 1 v]}).objs.size:=by simpa using hb
  subst e
  exact I1.fpOk (SW _) (I1.hok.fresh (SW _))
def N4 (ta:TA):TI:=λσ H R=>ta σ H λvs H1=>∃j:Int,vs=[.int j]/\-(2 ^ 62)<=j/\j < 2 ^ 62/\R (H_ 0 j.toNat) H1
theorem Ff {a:TV}{ta:TA}{p pos:Pos}(hg:Gl X "range") (hm:X.mg "range"=none) (ha:PA X [a] ta) (hs:SX [a] X.env=[(false,eval a X.env)]:=by rfl):PI X tg (.Call (.Name "range" p) [a] [] pos) (N4 ta):=by
 intro Sq s σ H R I h
 refine Call_ (qG I hg hm boot_range (Wv (bO (ha pos Sq s σ H _ I h) λus s1 ⟨vs,H1,I1,r1,q1⟩=>?_) hs rfl))
 obtain ⟨j,e,q1,q2,q⟩:=q1
 subst e
 cases r1 with
 | cons r rr=>
  cases rr
  obtain ⟨t,rfl⟩:=r
  exact call_range_1 (HA I1 (by omega) (by omega) q1 q2 (by simpa using q))
noncomputable def PJ (wi:TI) (g:TG) (tb:TS):TS:=λD σ H=>wi σ H λJ H1=>∃W:Nat->Nat->St->Hp->Prop,(∃m,W 0 m σ H1)/\∀i m σ H,W i m σ H->
 (J.stop i H/\D.nx σ H)\/(J.go i H/\∃N:St->Hp->Prop,(∀σ' H',N σ' H'->∃m',m' < m/\W (i + 1) m' σ' H')/\∀x H',J.yld i H x H'->g x σ H' λσ2 H2=>tb {D with nx:=N,ct:=N,bk:=D.nx} σ2 H2)
def qM (fp:List Tg) (h:Uz):List (Tg×Obj):=fp.filterMap λb=>(h.get? b).map λo=>(b,o)
theorem kP {h:Uz}(hb:b∈fp) (e:h.get? b=some o):(b,o)∈qM fp h:=W9.mpr ⟨b,hb,by rw [e];rfl⟩
theorem E1 {h:Uz}{p:Tg×Obj}(hp:p∈qM fp h):p.1∈fp/\h.get? p.1=some p.2:=by
 obtain ⟨b,hb,e⟩:=W9.mp hp
 cases q:h.get? b with
 | none=>rw [q] at e;cases e
 | some o=>
  rw [q] at e
  have e':(b,o)=p:=Ul e
  subst e'
  exact ⟨hb,q⟩
theorem Inv.pinned {H:Hp}{s:SJ}(I:Inv X Sq σ H s) (hf:∀b∈fp,jI X Sq H b) (ho:∀b∈fp,∃o,s.heap.get? b=some o/\∀v,o.data≠.cell v):Inv X (Sq++qM fp s.heap) σ H s:=
 I.pins_of λp hp=>(TF.mp hp).elim (λz=>I.pin p (T8 _ z)) λz=>by
  obtain ⟨hb,e⟩:=E1 z
  obtain ⟨f0,f1,f2,_⟩:=hf p.1 hb
  obtain ⟨o,e',d⟩:=ho p.1 hb
  rw [e] at e';cases e'
  exact ⟨e,f0,f1,f2,d⟩
theorem Inv.unpinned {H:Hp}(I:Inv X (Sq++pl) σ H s):Inv X Sq σ H s:=I.pins_of λp hp=>I.pin p (T8 _ (VY _ hp))
theorem M3 {Sw:TV}{body:List V0}{wi:TI}{g:TG}{tb:TS}{pos:Pos}(hp:abq (Ti X.prog X.w) X.A X.env X.xe) (hc:X.calm=true) (hi:PI X tg Sw wi) (hg:PG X tg g) (hb:kC X body tb)
  (hs:∀x,Tc Sw X.env x=pure x:=by intro _;rfl):PS X (.For tg Sw body [] pos) (PJ wi g tb):=by
 intro Sq s σ H D I h
 refine wpAny_For (bO (hi Sq s σ H _ I h) λv s1 h1=>bO h1 λitv s2 h2=>?_) hs
 obtain ⟨it,fp,tn,J,H2,e,I2,T,st2,f2,W,⟨m0,w0⟩,turn⟩:=h2
 subst e
 have stat:∀{H':Hp},(∀b∈fp,H' b=none)->∀b∈fp,jI X Sq H' b:=λhn b hb=>⟨hn b hb,(f2 b hb).2⟩
 refine codeAny_forLoop_any (λn s'=>∃i σ' H',Inv X Sq σ' H' s'/\tn i s'.heap/\(∀b∈fp,H' b=none)/\W i n σ' H') ?_ m0 ⟨0,σ,H2,I2,st2,λb hb=>(f2 b hb).1,w0⟩
 rintro n s3 ⟨i,σ3,H3,I3,st3,fr3,w3⟩
 rcases turn i n σ3 H3 w3 with ⟨stop,qn⟩ | ⟨go,N,hN,step⟩
 ·refine V2 hp (bO (T.done X rfl rfl rfl hc i Sq s3 σ3 H3 X.xe I3 (stat fr3) st3 stop) λr s4 ⟨hr,I4⟩=>?_)
  subst hr
  exact Ye ⟨σ3,H3,I4,qn⟩
 ·refine V2 hp (bO (T.item X rfl rfl rfl hc i Sq s3 σ3 H3 X.xe I3 (stat fr3) st3 go) λr s4 ⟨u,hr,h4⟩=>?_)
  subst hr
  refine V2 hp (bO h4 λ_ s5 ⟨x,H5,I5,r5,y5,st5,fr5⟩=>?_)
  have I5':=I5.pinned (stat fr5) (T.obj _ _ st5)
  refine V2 hp (bO (hg _ s5 σ3 H5 x u _ I5' r5 (step x H5 y5)) λ_ s6 ⟨σ6,H6,I6,q6⟩=>?_)
  refine V2 hp (bO (hb _ s6 σ6 H6 _ I6 q6) λf s7 q7=>?_)
  have again:∀{σ7:St}{H7:Hp},Inv X (Sq++qM fp s5.heap) σ7 H7 s7->N σ7 H7->∃m,m < n/\∃i σ' H',Inv X Sq σ' H' s7/\tn i s7.heap/\(∀b∈fp,H' b=none)/\W i m σ' H':=fun {σ7 H7} I7 n7=>by
   obtain ⟨m',hm,w7⟩:=hN σ7 H7 n7
   refine ⟨m',hm,i + 1,σ7,H7,I7.unpinned,T.keep _ _ _ st5 λb hb o e=>(I7.pin (b,o) (T8 _ (T8 _ (kP hb e)))).1,λb hb=>?_,w7⟩
   obtain ⟨o,e,d⟩:=T.obj _ _ st5 b hb
   exact (I7.pin (b,o) (T8 _ (T8 _ (kP hb e)))).2.1
  cases f with
  | next=>obtain ⟨σ7,H7,I7,n7⟩:=q7;exact again I7 n7
  | cont=>obtain ⟨σ7,H7,I7,n7⟩:=q7;exact again I7 n7
  | brk=>obtain ⟨σ7,H7,I7,q7⟩:=q7;exact ⟨σ7,H7,I7.unpinned,q7⟩
  | ret v=>obtain ⟨x7,σ7,H7,I7,r7,q7⟩:=q7;exact ⟨x7,σ7,H7,I7.unpinned,r7,q7⟩
end
abbrev R2:=V->V->Hp->VK->Prop
noncomputable def c_ (X:Cx) (f:SI->SI->Sem SI) (r:R2):Prop:=
 ∀(Sq:List (Tg×Obj)) (s:SJ) (σ:St) (H:Hp) (x y:V) (v u:SI) (Q:VK),Inv X Sq σ H s->RelV x v->RelV y u->r x y H Q->
  S8 (Ti X.prog X.w) X.A (f v u) (EP X Sq σ Q) X.xe s
noncomputable def Lr (X:Cx) (f:SI->Sem SI) (r:V->Hp->VK->Prop):Prop:=
 ∀(Sq:List (Tg×Obj)) (s:SJ) (σ:St) (H:Hp) (x:V) (v:SI) (Q:VK),Inv X Sq σ H s->RelV x v->r x H Q->
  S8 (Ti X.prog X.w) X.A (f v) (EP X Sq σ Q) X.xe s
noncomputable def bP (X:Cx) (f:SI) (r:List V->Hp->VK->Prop):Prop:=
 ∀(Sq:List (Tg×Obj)) (s:SJ) (σ:St) (H:Hp) (xs:List V) (us:List SI) (Q:VK),Inv X Sq σ H s->Vals xs us->r xs H Q->
  S8 (Ti X.prog X.w) X.A (call f us) (EP X Sq σ Q) X.xe s
noncomputable def O6 (X:Cx) (r:V->Hp->(Bool->Hp->Prop)->Prop):Prop:=
 ∀(Sq:List (Tg×Obj)) (s:SJ) (σ:St) (H:Hp) (x:V) (v:SI) (Q:Bool->Hp->Prop),Inv X Sq σ H s->RelV x v->r x H Q->
  S8 (Ti X.prog X.w) X.A (truthy v) (TP X Sq σ Q) X.xe s
def FU (r:R2) (ta tb:TE):TE:=λσ H Q=>ta σ H λx H1=>tb σ H1 λy H2=>r x y H2 Q
def Qg (r:V->Hp->VK->Prop) (ta:TE):TE:=λσ H Q=>ta σ H λx H1=>r x H1 Q
def rI (C:Int->Int->Prop) (g:Int->Int->V):R2:=λx y H Q=>∃i j,x=.int i/\y=.int j/\C i j/\Q (g i j) H
def sS (g:Int->Int->V):R2:=λx y H Q=>∃i j,x=.int i/\y=.int j/\Q (g i j) H
def rU (g:Int->V):V->Hp->VK->Prop:=λx H Q=>∃i,x=.int i/\Q (g i) H
section
variable {X:Cx}{a b c:TV}{ta tb tc:TE}{pos:Pos}
theorem Gb (ha:PE X a ta) (hb:PE X b tb){Sq:List (Tg×Obj)}{s:SJ}{σ:St}{H:Hp}{R:V->V->Hp->Prop}(I:Inv X Sq σ H s)
  (h:ta σ H λx H1=>tb σ H1 λy H2=>R x y H2){Q:SI->SJ->Prop}{f:SI->SI->Sem SI}
  (hf:∀v u s2 x y H2,Inv X Sq σ H2 s2->RelV x v->RelV y u->R x y H2->S8 (Ti X.prog X.w) X.A (f v u) Q X.xe s2):
  S8 (Ti X.prog X.w) X.A (eval a X.env) (λv s₁=>S8 (Ti X.prog X.w) X.A (eval b X.env) (λu s₂=>S8 (Ti X.prog X.w) X.A (f v u) Q X.xe s₂) X.xe s₁) X.xe s:=by
 refine bO (ha Sq s σ H _ I h) λv s1 ⟨x,H1,I1,r1,q1⟩=>?_
 refine bO (hb Sq s1 σ H1 _ I1 q1) λu s2 ⟨y,H2,I2,r2,q2⟩=>?_
 exact hf v u s2 x y H2 I2 r1 r2 q2
theorem Oe (ho:c_ X (Wt op) r) (ha:PE X a ta) (hb:PE X b tb):PE X (.BinOp a op b pos) (FU r ta tb):=by
 intro Sq s σ H Q I h
 exact wpAny_BinOp (Gb ha hb I h λv u s2 x y H2 I2 rx ry q=>ho Sq s2 σ H2 x y v u Q I2 rx ry q)
theorem Og {r:V->Hp->VK->Prop}(ho:Lr X (unaryOp op) r) (ha:PE X a ta):PE X (.UnaryOp op a pos) (Qg r ta):=by
 intro Sq s σ H Q I h
 exact UnaryOp_ (bO (ha Sq s σ H _ I h) λv s1 ⟨x,H1,I1,r1,q1⟩=>ho Sq s1 σ H1 x v Q I1 r1 q1)
theorem O8 (ho:c_ X (Zr op) r){H:Hp}{Q:VK}(I:Inv X Sq σ H s)
 (rx:RelV x v) (ry:RelV y u) (q:r x y H Q):S8 (Ti X.prog X.w) X.A (Zr op v u) (EP X Sq σ Q) X.xe s:=ho Sq s σ H x y v u Q I rx ry q
theorem E2 {f:SI->SI->Sem SI}{C:Int->Int->Prop}{g:Int->Int->Int}
  (rule:∀(i j:Int) (t u:Tok) (s:SJ) (Q:SI->SJ->Prop) (E:SI->SJ->Prop),C i j->Q (.int (g i j) s.toks) {s with toks:=s.toks + 1}->S8 (Ti X.prog X.w) X.A (f (.int i t) (.int j u)) Q E s):
  c_ X f (rI C λi j=>.int (g i j)):=by
 intro Sq s σ H x y v u Q I rx ry h
 obtain ⟨i,j,rfl,rfl,hc,q⟩:=h
 obtain ⟨t,rfl⟩:=rx
 obtain ⟨t',rfl⟩:=ry
 exact rule i j t t' s _ _ hc ⟨.int (g i j),H,I.tok _,⟨_,rfl⟩,q⟩
theorem G3 {f:SI->SI->Sem SI}{g:Int->Int->Int}
  (rule:∀(i j:Int) (t u:Tok) (s:SJ) (Q:SI->SJ->Prop) (E:SI->SJ->Prop),Q (.int (g i j) s.toks) {s with toks:=s.toks + 1}->S8 (Ti X.prog X.w) X.A (f (.int i t) (.int j u)) Q E s):
  c_ X f (sS λi j=>.int (g i j)):=by
 intro Sq s σ H x y v u Q I rx ry h
 obtain ⟨i,j,rfl,rfl,q⟩:=h
 obtain ⟨t,rfl⟩:=rx
 obtain ⟨t',rfl⟩:=ry
 exact rule i j t t' s _ _ ⟨.int (g i j),H,I.tok _,⟨_,rfl⟩,q⟩
theorem MB {f:SI->SI->Sem SI}{g:Int->Int->Bool}
  (rule:∀(i j:Int) (t u:Tok) (s:SJ) (Q:SI->SJ->Prop) (E:SI->SJ->Prop),Q (.bool (g i j)) s->S8 (Ti X.prog X.w) X.A (f (.int i t) (.int j u)) Q E s):
  c_ X f (sS λi j=>.bl (g i j)):=by
 intro Sq s σ H x y v u Q I rx ry h
 obtain ⟨i,j,rfl,rfl,q⟩:=h
 obtain ⟨t,rfl⟩:=rx
 obtain ⟨t',rfl⟩:=ry
 exact rule i j t t' s _ _ ⟨.bl (g i j),H,I,rfl,q⟩
def OZ (i j:Int):Prop:=0 < j/\j < 1073741824
def O0 (i j:Int):Prop:=0<=j/\j<=1000000/\i.natAbs < 2 ^ 64
def Cd (i j:Int):Prop:=(-(2 ^ 64) < i/\i < 2 ^ 64)\/(-(2 ^ 64) < j/\j < 2 ^ 64)
theorem Cd.ok (h:Cd i j):IntMulOk i j:=by
 rcases h with ⟨h1,h2⟩ | ⟨h1,h2⟩
 ·exact .of_left (aco h1 h2)
 ·exact .of_right (aco h1 h2)
theorem E3:c_ X (Wt .Add) (sS λi j=>.int (i + j)):=G3 λ_ _ _ _ _ _ _ q=>add_int q
theorem MJ:c_ X (Wt .Sub) (sS λi j=>.int (i - j)):=G3 λ_ _ _ _ _ _ _ q=>sub_int q
theorem MG:c_ X (Wt .Mult) (rI Cd λi j=>.int (i * j)):=E2 λ_ _ _ _ _ _ _ hc q=>mul_int q hc.ok
theorem J6:c_ X (Wt .FloorDiv) (rI OZ λi j=>.int (i / j)):=E2 λi j _ _ _ _ _ hc q=>by
 have h1:(0:Int) < j:=hc.1
 have h2:j < 1073741824:=hc.2
 exact floordiv_int (by omega) (by rw [Yu i (by omega)];exact q) (.inl (PyProof.noPylong_small (by omega)))
theorem MF:c_ X (Wt .Mod) (rI (λ_ j=>0 < j) λi j=>.int (i % j)):=E2 λi j _ _ _ _ _ hc q=>by
 have h1:(0:Int) < j:=hc
 exact mod_int' (by omega) (by rw [Int.fmod_eq_emod_of_nonneg i (by omega)];exact q)
theorem MI:c_ X (Wt .Pow) (rI O0 λi j=>.int (i ^ j.toNat)):=E2 λ_ _ _ _ _ _ _ hc q=>pow_int_small hc.1 hc.2.1 hc.2.2 q
theorem JH:c_ X (Zr .Add) (sS λi j=>.int (i + j)):=G3 λ_ _ _ _ _ _ _ q=>iadd_int q
theorem B9 {f:SI->Sem SI}{g:Int->Int}
  (rule:∀(i:Int) (t:Tok) (s:SJ) (Q:SI->SJ->Prop) (E:SI->SJ->Prop),Q (.int (g i) s.toks) {s with toks:=s.toks + 1}->S8 (Ti X.prog X.w) X.A (f (.int i t)) Q E s):
  Lr X f (rU λi=>.int (g i)):=by
 intro Sq s σ H x v Q I rx h
 obtain ⟨i,rfl,q⟩:=h
 obtain ⟨t,rfl⟩:=rx
 exact rule i t s _ _ ⟨.int (g i),H,I.tok _,⟨_,rfl⟩,q⟩
theorem NN:Lr X (unaryOp .USub) (rU λi=>.int (-i)):=B9 λ_ _ _ _ _ q=>neg_int q
theorem II:c_ X (UP .Lt) (sS λi j=>.bl (decide (i < j))):=MB λ_ _ _ _ _ _ _ q=>lt_int q
theorem Df:c_ X (UP .Gt) (sS λi j=>.bl (decide (j < i))):=MB λ_ _ _ _ _ _ _ q=>gt_int q
theorem c_.or {f:SI->SI->Sem SI}{r r':R2}(h:c_ X f r) (h':c_ X f r'):c_ X f (λx y H Q=>r x y H Q\/r' x y H Q):=by
 intro Sq s σ H x y v u Q I rx ry q
 rcases q with q | q
 ·exact h Sq s σ H x y v u Q I rx ry q
 ·exact h' Sq s σ H x y v u Q I rx ry q
theorem Af (b:TV) (h:op≠.In:=by decide) (h2:op≠.NotIn:=by decide):UH op b=false:=by
 have e1:(op == adS)=false:=by cases op <;> first | rfl | exact absurd rfl h
 have e2:(op == ac0)=false:=by cases op <;> first | rfl | exact absurd rfl h2
 cases b <;> simp [UH,e1,e2]
theorem Km (ho:c_ X (UP op) r) (ha:PE X a ta) (hb:PE X b tb) (hm:UH op b=false):PE X (.Compare a [op] [b] pos) (FU r ta tb):=by
 intro Sq s σ H Q I h
 exact wpAny_Compare1 (Gb ha hb I h λv u s2 x y H2 I2 rx ry q=>ho Sq s2 σ H2 x y v u Q I2 rx ry q) hm
def OE (t:TE):TT:=λσ H Q=>t σ H λx H'=>∃k,x=.bl k/\Q k H'
theorem Kw {op:CmpOp}{r:R2}(ho:c_ X (UP op) r) (ha:PE X a ta) (hb:PE X b tb) (hm:UH op b=false):PT X (.Compare a [op] [b] pos) (OE (FU r ta tb)):=by
 intro Sq s σ H Q I h
 refine Zp (bO (ha Sq s σ H _ I h) λv s1 ⟨x,H1,I1,r1,q1⟩=>bO (hb Sq s1 σ H1 _ I1 q1) λu s2 ⟨y,H2,I2,r2,q2⟩=>
  bO (ho Sq s2 σ H2 x y v u _ I2 r1 r2 q2) λc s3 ⟨z,H3,I3,r3,k,e,q3⟩=>?_) hm
 subst e
 cases r3
 exact UI ⟨H3,I3,q3⟩
noncomputable def F_ (K:SG) (x:V) (H:Hp) (k:Bool):Prop:=
 match x with
 | .non=>k=false
 | .bl b=>k=b
 | .int i=>k=(i != 0)
 | .str y=>y.length<=sizeLine/\k=((y.length:Int) != 0)
 | .byt y=>y.size<=sizeLine/\k=((y.size:Int) != 0)
 | .ref p=>(∃xs,cB K H p xs/\k=!xs.isEmpty)\/(∃xs,cL K H p xs/\k=!xs.isEmpty)\/∃SA,H p=some (.dK SA)/\k=!SA.isEmpty
 | _=>False
theorem CM {κ:Type}{SA:List (κ×V)}{vs:List (κ×SI)}(r:KV SA vs):(!vs.isEmpty)=!SA.isEmpty:=by
 cases r <;> rfl
theorem u5 {xs:List V}{Su:List SI}(r:Vals xs Su):(!Su.toArray.isEmpty)=!xs.isEmpty:=by
 cases r <;> simp
theorem nO:(sizeLine:Nat) < 2 ^ 63:=by rw [UB];decide
theorem NF:O6 X (λx H Q=>∃k,F_ X.K x H k/\Q k H):=by
 intro Sq s σ H x v Q I rx h
 obtain ⟨k,e,q⟩:=h
 have hl:=nO
 have hs:sizeLine=16777216:=UB
 cases x with
 | non=>
  cases rx
  have e':k=false:=e
  subst e'
  exact truthy_none ⟨H,I,q⟩
 | bl b=>
  cases rx
  have e':k=b:=e
  subst e'
  exact UI ⟨H,I,q⟩
 | int i=>
  obtain ⟨t,rfl⟩:=rx
  have e':k=(i != 0):=e
  subst e'
  exact PySem.P.truthy_int ⟨H,I,q⟩
 | str y=>
  obtain ⟨t,rfl⟩:=rx
  obtain ⟨hy,e'⟩:y.length<=sizeLine/\k=((y.length:Int) != 0):=e
  subst e'
  exact PySem.P.truthy_str (by omega) ⟨H,I.tok _,q⟩
 | byt y=>
  obtain ⟨t,rfl⟩:=rx
  obtain ⟨hy,e'⟩:y.size<=sizeLine/\k=((y.size:Int) != 0):=e
  subst e'
  exact W.truthy_bytes (by omega) ⟨H,I.tok _,q⟩
 | ref p=>
  cases rx
  have e':(∃xs,cB X.K H p xs/\k=!xs.isEmpty)\/(∃xs,cL X.K H p xs/\k=!xs.isEmpty)\/∃SA,H p=some (.dK SA)/\k=!SA.isEmpty:=e
  rcases e' with ⟨xs,hx,e'⟩ | ⟨xs,hx,e'⟩ | ⟨SA,hx,e'⟩
  ·subst e'
   obtain ⟨Su,r,pl,hz⟩:=I.list hx
   have hlen:=r.length
   exact wpAny_truthy_list pl.isList (by simp only [S0];omega) ⟨H,I.tok _,by rw [u5 r];exact q⟩
  ·subst e'
   obtain ⟨Su,r,pl,hz⟩:=I.tuple hx
   have hlen:=r.length
   exact truthy_tuple pl (by simp only [S0];omega) ⟨H,I.tok _,by rw [u5 r];exact q⟩
  ·subst e'
   obtain ⟨hz,hS,vs,r,m⟩:SA.length<=sizeLine/\(p == Wn)=false/\∃vs,KV SA vs/\s.heap.DictOf (wD X.prog X.w) p vs:=I.hok p _ hx
   have hlen:SA.length=vs.length:=acm r
   exact wpAny_truthy_dict hS m (by omega) ⟨H,I.tok _,by rw [CM r];exact q⟩
 | _=>exact (show False from e).elim
theorem Hj (ha:PE X a ta) (he:∀whole,ZY a X.env whole=(do let v <-whole;Wb a.pos;holding [v] (truthy v))):
  PT X a (λσ H Q=>ta σ H λx H'=>∃k,F_ X.K x H' k/\Q k H'):=by
 intro Sq s σ H Q I h
 exact isTrue_plain (bO (ha Sq s σ H _ I h) λv s1 ⟨x,H1,I1,r1,q1⟩=>NF Sq s1 σ H1 x v Q I1 r1 q1) (he _)
theorem vd:c_ X (Wt .Add) (λx y H Q=>∃i j,x=.str i/\y=.str j/\i.length + j.length<=sizeLine/\Q (.str (i++j)) H):=by
 intro Sq s σ H x y v u Q I rx ry h
 obtain ⟨i,j,rfl,rfl,hz,q⟩:=h
 obtain ⟨t,rfl⟩:=rx
 obtain ⟨t',rfl⟩:=ry
 exact add_str (λt' tk=>⟨.str (i++j),H,I.tok _,⟨_,rfl⟩,q⟩) hz
theorem vals1 (r:Vals [x] us):∃u,us=[u]/\RelV x u:=by
 cases r with
 | cons r1 r2=>cases r2;exact ⟨_,rfl,r1⟩
theorem vals2 (r:Vals [x,y] us):∃u w',us=[u,w']/\RelV x u/\RelV y w':=by
 cases r with
 | cons r1 r2=>
  cases r2 with
  | cons r3 r4=>cases r4;exact ⟨_,_,rfl,r1,r3⟩
theorem D_ (hc:X.calm=true):bP X (.builtin "max") (λxs H Q=>∃i j,xs=[.int i,.int j]/\Q (.int (if j > i then j else i)) H):=by
 intro Sq s σ H xs us Q I r h
 obtain ⟨i,j,rfl,q⟩:=h
 obtain ⟨u,w',rfl,⟨t,rfl⟩,⟨t',rfl⟩⟩:=vals2 r
 refine max_two_ints (I.ok.hd hc) λh' tk k=>⟨_,H,I.kept k,?_,q⟩
 by_cases hj:j > i
 ·rw [if_pos hj,if_pos hj];exact ⟨_,rfl⟩
 ·rw [if_neg hj,if_neg hj];exact ⟨_,rfl⟩
theorem D9:bP X (.type "int") (λxs H Q=>(∃i,xs=[.int i]/\Q (.int i) H)\/∃k,xs=[.bl k]/\Q (.int (if k then 1 else 0)) H):=by
 intro Sq s σ H xs us Q I r h
 rcases h with ⟨i,rfl,q⟩ | ⟨k,rfl,q⟩
 ·obtain ⟨u,rfl,t,rfl⟩:=vals1 r
  exact call_int_int ⟨.int i,H,I,⟨_,rfl⟩,q⟩
 ·obtain ⟨u,rfl,r1⟩:=vals1 r
  cases r1
  exact call_int_bool ⟨.int (if k then 1 else 0),H,I.tok _,⟨_,rfl⟩,q⟩
end
structure dW (k:Nat) (A:TR):Prop where
 hd:A.handled=none
 dp:A.depth + 3 * k + 5 < abT
 un:A.units + 16 * k + 200 < UL
theorem dW.mono (r:dW k A) (h:j<=k):dW j A:=⟨r.hd,by have:=r.dp;omega,by have:=r.un;omega⟩
theorem dW.deeper {A:TR}(r:dW (k + 1) A) (env:Env):dW k (A.deeper env):=
 ⟨r.hd,by have:=r.dp;show A.depth + 1 + 3 * k + 5 < _;omega,by have:=r.un;show A.units + 3 + 16 * k + 200 < _;omega⟩
theorem dW.depth {A:TR}(r:dW k A):A.depth < abT:=by have:=r.dp;omega
theorem dW.units {A:TR}(r:dW k A):A.units + 64 < UL:=by have:=r.un;omega
def AA:TA:=λ_ H Q=>Q [] H
def Oz (ta:TE) (tr:TA):TA:=λσ H Q=>ta σ H λx H1=>tr σ H1 λxs H2=>Q (x::xs) H2
section
variable {X:Cx}{e:TV}{es:List TV}{te:TE}{t:TA}{pos:Pos}
theorem gX:PA X [] AA:=λ_ _ _ _ H Q I h=>Calls.spliced_nil ⟨[],H,I,.nil,h⟩
theorem eY (ha:PE X e te) (hr:PA X es t) (hs:SX (e::es) X.env=(false,eval e X.env)::SX es X.env:=by rfl):PA X (e::es) (Oz te t):=by
 intro pos Sq s σ H Q I h
 rw [hs]
 show S8 _ _ (spliced ((false,eval e X.env)::Vb pos (SX es X.env))) _ _ s
 refine Calls.spliced_cons (bO (ha Sq s σ H _ I h) λu s1 ⟨x,H1,I1,r1,q1⟩=>?_)
 exact bO (hr pos Sq s1 σ H1 _ I1 q1) λus s2 ⟨xs,H2,I2,r2,q2⟩=>⟨x::xs,H2,I2,.cons r1 r2,q2⟩
def PV (t:TA):TE:=λσ H Q=>t σ H λxs H1=>xs.length<=sizeLine/\∀p,H1 p=none->Q (.ref p) (upd H1 p (.tup xs))
def PL (t:TA):TE:=λσ H Q=>t σ H λxs H1=>xs.length<=sizeLine/\∀p,H1 p=none->Q (.ref p) (upd H1 p (.lst xs))
theorem MV {x1}(h:PA X es t):PE X (.Tuple es x1 pos) (PV t):=by
 intro Sq s σ H Q I hq
 refine wpAny_Tuple_spliced (bO (h pos Sq s σ H _ I hq) λus s1 ⟨xs,H1,I1,r,z,q⟩=>⟨by rw [<-r.length];exact z,?_⟩)
 have hf:H1 s1.heap.objs.size=none:=I1.hok.fresh (SW _)
 refine ⟨.ref s1.heap.objs.size,upd H1 s1.heap.objs.size (.tup xs),I1.laid (t':=s1.toks) (λb u e=>SO _ e) (SW _) ?_,rfl,q _ hf⟩
 exact ⟨z,us,r,⟨_,SY _ rfl,rfl,_,rfl⟩⟩
theorem MQ (h:PA X es t):PE X (.List es pos) (PL t):=by
 intro Sq s σ H Q I hq
 refine wpAny_List_spliced (bO (h pos Sq s σ H _ I hq) λus s1 ⟨xs,H1,I1,r,z,q⟩=>⟨by rw [<-r.length];exact z,?_⟩)
 have hf:H1 s1.heap.objs.size=none:=I1.hok.fresh (SW _)
 refine ⟨.ref s1.heap.objs.size,upd H1 s1.heap.objs.size (.lst xs),I1.laid (t':=s1.toks) (λb u e=>SO _ e) (SW _) ?_,rfl,q _ hf⟩
 exact ⟨z,us,0,r,SY _ rfl⟩
end
abbrev Sp:=List V->Hp->VK->XK->Prop
abbrev wL:=List Env->Hp->SJ->XK->SI->SJ->Prop
structure Cg (P:S_) (w:TL) (K:SG) (mg:Str->Option SI) (base:Uz) (A:TR) (outer:List Env) (s:SJ) (H:Hp):Prop where
 frames:A.frames=some outer
 mod:Mod K mg base
 bs:∀b o,base.get? b=some o->s.heap.get? b=some o/\H b=none
 bsz:base.objs.size<=s.heap.objs.size
 funs:s.heap.FunFrames base outer
 frf:∀b∈frs outer,H b=none
 hok:gu P w H s.heap
 bare:Zo s.gens
noncomputable def CE (outer:List Env) (P:S_) (w:TL) (H:Hp) (s:SJ) (Q:VK) (u:SI) (s':SJ):Prop:=
 ∃v H',s'.os=s.os/\Zo s'.gens/\Un (frs outer) [] H H' s.heap s'.heap/\gu P w H' s'.heap/\RelV v u/\Q v H'
noncomputable def CR (CX:wL) (outer:List Env) (P:S_) (w:TL) (H:Hp) (s:SJ) (Q:VK) (E:XK) (r:aa1) (s':SJ):Prop:=
 match r with
 | .ok (.ret u)=>CE outer P w H s Q u s'
 | .ok _=>False
 | .error e=>CX outer H s E e s'
structure jH (P:S_) (w:TL) (K:SG) (mg:Str->Option SI) (base:Uz) (CX:wL) (k:Nat) (f:Tg) (fd:TM) (ps:List Str) (sp:Sp):Prop where
 len:∀vs H Q E,sp vs H Q E->vs.length=ps.length
 run:∀(A:TR) (outer:List Env) (s:SJ) (H:Hp) (args:Args) (us:List SI) (vs:List V) (Q:VK) (E:XK),dW k A->Cg P w K mg base A outer s H->abr s fd args (ps.zip us)->Vals vs us->sp vs H Q E->
  Vq (Ti P w) A (.call (.ref f) args) (CR CX outer P w H s Q E) s
section
variable {X:Cx}{Sq:List (Tg×Obj)}{σ:St}{H:Hp}{s s':SJ}
theorem Inv.env0 (I:Inv X Sq σ H s):Cg X.prog X.w X.K X.mg X.base X.A X.stack s H:=
 ⟨I.ok.frames,I.ok.mod,I.bs,Tz I.ok.bsz I.sz,I.stack,I.stkFree,I.hok,I.bare⟩
theorem Inv.after {Q:VK}(I:Inv X Sq σ H s) (h:CE X.stack X.prog X.w H s Q u s'):EP X Sq σ Q u s':=by
 obtain ⟨v,H',os,bare,un,hok,r,q⟩:=h
 obtain ⟨hh,g,d,t,os'⟩:=s'
 obtain rfl:os'=s.os:=os
 exact ⟨v,H',I.call (h':=hh) (g':=g) (d':=d) (t':=t) (ch:=[]) un hok bare (λb z=>absurd z (by simp)),r,q⟩
end
def IY (sp:Sp) (dvs:List V) (E:XK) (t:TA):TE:=λσ H Q=>t σ H λvs H1=>sp (vs++dvs) H1 Q E
noncomputable def Binds (K:SG) (fd:TM) (ps:List Str) (ds:List SI):Prop:=
 ∀(s:SJ) (us:List SI),K.In s.heap->(us++ds).length=ps.length->abr s fd ⟨us,[]⟩ (ps.zip (us++ds))
theorem Binds.all {K:SG}{fd:TM}{ps:List Str}(h:∀us:List SI,us.length=ps.length->aag fd ⟨us,[]⟩=pure (ps.zip us)):Binds K fd ps []:=λs us _ hl=>by
 rw [V3] at hl ⊢
 exact .of_eq (h us hl)
def Passes (CX:wL) (X:Cx) (E:XK):Prop:=∀(Sq:List (Tg×Obj)) (σ:St) (H:Hp) (s:SJ) (e:SI) (s':SJ),Inv X Sq σ H s->CX X.stack H s E e s'->X.xe e s'
section
variable {X:Cx}{CX:wL}{k:Nat}{f C:Tg}{fd:TM}{ps:List Str}{sp:Sp}{dvs:List V}{ds:List SI}{E:XK}{x m:Str}{p pos apos:Pos}{e o:TV}{es:List TV}{ta:TE}{t:TA}
theorem FF {H:Hp}{Q:VK}(F:jH X.prog X.w X.K X.mg X.base CX k f fd ps sp) (hr:dW k X.A) (hb:Binds X.K fd ps ds) (hd:Vals dvs ds) (hx:Passes CX X E)
 (I:Inv X Sq σ H s) (r:Vals vs us) (h:sp (vs++dvs) H Q E):S8 (Ti X.prog X.w) X.A (call (.ref f) us) (EP X Sq σ Q) X.xe s:=by
 have r2:Vals (vs++dvs) (us++ds):=r.append hd
 have hl:(us++ds).length=ps.length:=by rw [<-r2.length];exact F.len _ _ _ _ h
 refine aaG (V_ (F.run X.A X.stack s H ⟨us,[]⟩ (us++ds) (vs++dvs) Q E hr I.env0 (hb s us I.kIn hl) r2 h) λr s' hq=>?_)
 cases r with
 | error e=>exact hx Sq σ H s e s' I hq
 | ok fl=>
  cases fl with
  | ret u=>exact I.after hq
  | next=>exact WC hq
  | brk=>exact WC hq
  | cont=>exact WC hq
theorem BO (F:jH X.prog X.w X.K X.mg X.base CX k f fd ps sp) (hr:dW k X.A) (hg:Gl X x) (hm:X.mg x=some (.ref f)) (hk:Wo X.K (.ref f)=true) (hb:Binds X.K fd ps ds) (hd:Vals dvs ds) (hx:Passes CX X E)
  (ha:PA X (e::es) t) (hdb:(x == ("__debug__":Str))=false:=by decide) (he:SX (e::es) X.env=(false,eval e X.env)::SX es X.env:=by rfl) (hpl:(Vb pos (SX es X.env)).any (·.1)=false:=by rfl):
  PE X (.Call (.Name x p) (e::es) [] pos) (IY sp dvs E t):=by
 intro Sq s σ H Q I h
 refine W_ (BG I hg hm ?_ hdb)
 refine aah (h₀:=X.base) I.ok.mod.kin hk (bO (ha pos Sq s σ H _ I h) λus s1 ⟨vs,H1,I1,r,q⟩=>⟨I1.kIn,?_⟩) he hpl
 exact FF F hr hb hd hx I1 r q
end
structure gF (N P:List Str) (sc:VN):Prop where
 kind:sc.kind=.function
 co:sc.isCoroutine=false
 gen:sc.isGenerator=false
 nd:N.Nodup
 pre:N.take P.length=P
 par:∀x∈P,sc.names.lookup x=some .local\/sc.names.lookup x=some .cell
 nofree:∀y∈sc.names,y.2≠.free
theorem wZ {kindOf:Str->Option Vx}:∀{binds:List (Str×SI)}{m:Str->Option SI},(∀v,(x,v)∉binds)->ac2 kindOf binds m x=m x
 | [],_,_=>rfl
 | (n,v)::r,m,h=>by
  unfold ac2
  rw [wZ λw hw=>h w (SS _ hw)]
  split
  ·have:x≠n:=by rintro rfl;exact h v SV
   simp [this]
  ·rfl
theorem wX {kindOf:Str->Option Vx}:∀{binds:List (Str×SI)}{m:Str->Option SI},(∀v,(x,v)∉binds)->ac3 kindOf binds m x=m x
 | [],_,_=>rfl
 | (n,v)::r,m,h=>by
  unfold ac3
  rw [wX λw hw=>h w (SS _ hw)]
  split
  ·rfl
  ·have:x≠n:=by rintro rfl;exact h v SV
   simp [this]
theorem wY {kindOf:Str->Option Vx}{x:Str}{v:SI}:∀{P:List Str}{vs:List SI}{i:Nat}{m:Str->Option SI},P.Nodup->P[i]?=some x->vs[i]?=some v->kindOf x=some .local->
  ac2 kindOf (P.zip vs) m x=some v
 | [],_,_,_,_,h,_,_=>by simp at h
 | _::_,[],_,_,_,_,h,_=>by simp at h
 | p::P,w::vs,0,m,nd,h1,h2,hk=>by
  simp at h1 h2;subst h1;subst h2
  show ac2 kindOf ((p,w)::P.zip vs) m p=_
  unfold ac2
  rw [wZ λv hv=>(U7.mp nd).1 (Zs hv).1,if_pos hk]
  simp
 | p::P,w::vs,i + 1,m,nd,h1,h2,hk=>by
  show ac2 kindOf ((p,w)::P.zip vs) m x=_
  unfold ac2
  exact wY (i:=i) (U7.mp nd).2 (by simpa using h1) (by simpa using h2) hk
theorem wW {kindOf:Str->Option Vx}{x:Str}{v:SI}:∀{P:List Str}{vs:List SI}{i:Nat}{m:Str->Option SI},P.Nodup->P[i]?=some x->vs[i]?=some v->kindOf x≠some .local->
  ac3 kindOf (P.zip vs) m x=some v
 | [],_,_,_,_,h,_,_=>by simp at h
 | _::_,[],_,_,_,_,h,_=>by simp at h
 | p::P,w::vs,0,m,nd,h1,h2,hk=>by
  simp at h1 h2;subst h1;subst h2
  show ac3 kindOf ((p,w)::P.zip vs) m p=_
  unfold ac3
  rw [wX λv hv=>(U7.mp nd).1 (Zs hv).1,if_neg hk]
  simp
 | p::P,w::vs,i + 1,m,nd,h1,h2,hk=>by
  show ac3 kindOf ((p,w)::P.zip vs) m x=_
  unfold ac3
  exact wW (i:=i) (U7.mp nd).2 (by simpa using h1) (by simpa using h2) hk
def start (N:List Str) (vs:List V):St:=vs.map some++UQ (N.length - vs.length) none
noncomputable def tH (CX:wL) (P:S_) (w:TL) (K:SG) (mg:Str->Option SI) (base:Uz) (N:List Str) (Sx:Str) (So:VN) (f:Tg) (cd:SI) (A:TR) (outer:List Env) (s:SJ) (H:Hp) (E:XK):Cx where
 prog:=P
 w:=w
 K:=K
 mg:=mg
 base:=base
 A:=A.deeper (YI Sx So s.heap.objs.size f cd)
 N:=N
 s₀:=s
 H₀:=H
 env:=YI Sx So s.heap.objs.size f cd
 outer:=outer
 stack:=YI Sx So s.heap.objs.size f cd::outer
 ex:=[]
 calm:=true
 fn:=λ_=>true
 pn:=[]
 xe:=λe s'=>S8 (Ti P w) (A.deeper (YI Sx So s.heap.objs.size f cd)) (leaving (YI Sx So s.heap.objs.size f cd) e) (λ_ s''=>CX outer H s E e s'') (λe' s''=>CX outer H s E e' s'') s'
theorem zC {sc:VN}(h:sc.names.lookup x=some .cell):∃c,(Uh n sc.names []).lookup x=some c:=by
 have q:=Ze sc.names n [] (.inl h)
 exact Ub.mp q
theorem EK {CX:wL}{P:S_}{w:TL}{K:SG}{mg:Str->Option SI}{base:Uz}{N ps:List Str}{Sx:Str}{So:VN}{f:Tg}{cd:SI}{A:TR}{outer:List Env}{s s1:SJ}{H:Hp}{E:XK}{us:List SI}{vs:List V}
  (S:gF N ps So) (hd:A.handled=none) (e0:Cg P w K mg base A outer s H) (hl:vs.length=ps.length) (r:Vals vs us)
  (x:InCallC s s.heap.objs.size (ac2 (YI Sx So s.heap.objs.size f cd).kindOf (ps.zip us) λ_=>none) (Uh (s.heap.objs.size + 1) So.names []) (ac3 (YI Sx So s.heap.objs.size f cd).kindOf (ps.zip us) λ_=>none) s1):
  Inv (tH CX P w K mg base N Sx So f cd A outer s H E) [] (start N vs) H s1:=by
 have hpl:ps.length<=N.length:=by have:=congrArg UX S.pre;rw [UE] at this;omega
 obtain ⟨h1,tk,rfl,hk⟩:=x.done
 have noA:∀b:Tg,b∉(tH CX P w K mg base N Sx So f cd A outer s H E).ex:=λb z=>absurd (show b∈([]:List Tg) from z) (by simp)
 refine ⟨⟨e0.mod,S.kind,rfl,rfl,SW _,λy z c h1 h2=>?_,λy hy=>?_,λy c _ h=>?_,λ_=>hd,Around.frames_deeper e0.frames,.inr ⟨rfl,rfl⟩,λb z=>absurd z (noA b),e0.bs,e0.bsz,λb _ _=>noA b,λb z=>absurd z (noA b),e0.funs,e0.frf⟩,
  rfl,e0.bare,Un.kept hk,⟨_,x.toInCall.ns,λi y v h1 h2 h3=>?_⟩,λy c h=>⟨_,x.cell y c h⟩,e0.hok.fresh (SW _),λy c h=>?_,λp hp=>absurd (show p∈([]:List (Tg×Obj)) from hp) (by simp),e0.hok.kept hk,?_⟩
 ·exact name_of_addr x.apart (Wc h1) (Wc h2)
 ·have hy:So.names.lookup y=some .cell\/So.names.lookup y=some .free:=hy
  rcases hy with hy | hy
  ·exact zC hy
  ·exact absurd rfl (S.nofree _ (Wc hy))
 ·exact XS (x.above y c (Wc h))
 ·have hi:i < vs.length:=by
   unfold start at h2
   by_cases hi:i < vs.length
   ·exact hi
   ·rw [UM (by simpa using hi)] at h2
    rw [Xa] at h2
    split at h2 <;> cases h2
  have ha:vs[i]?=some v:=by
   unfold start at h2
   rw [Vh (by simpa using hi),Tq] at h2
   cases e:vs[i]? with
   | none=>rw [e] at h2;cases h2
   | some a=>rw [e] at h2;cases h2;rfl
  obtain ⟨u,hu,rv⟩:=r.get ha
  have hp:ps[i]?=some y:=by
   rw [<-S.pre,List.getElem?_take_of_lt (by omega)];exact h1
  have ndP:ps.Nodup:=by rw [<-S.pre];exact S.nd.sublist (WD _ _)
  refine ⟨u,rv,?_⟩
  rcases S.par y (Ui hp) with k | k
  ·exact .inl ⟨k,wY ndP hp hu k⟩
  ·obtain ⟨c,e⟩:=zC (n:=s.heap.objs.size + 1) k
   refine .inr ⟨.inl k,c,e,?_⟩
   have q:=x.cell y c e
   rw [wW ndP hp hu (by show So.names.lookup y≠_;rw [k];decide)] at q
   exact q
 ·exact e0.hok.fresh (XS (x.above y c (Wc h)))
 ·unfold start
  show _=N.length
  rw [Te,SK,Vk]
  omega
theorem N2 {K:SG}{mg:Str->Option SI}{dV kV doc pm cdv ct oc:SI}
 {N ps:List Str}{sp:Sp}(lk:K.lookup f=some ⟨oc,od,.func (UZ name Sx params body So dV kV doc pm an cdv ct),osl⟩) (hcd:XJ K cdv Sx=true) (S:gF N ps So)
 (len:∀vs H Q E,sp vs H Q E->vs.length=ps.length)
 (hbody:∀(A:TR) (outer:List Env) (s:SJ) (H:Hp) (vs:List V) (Q:VK) (E:XK),dW k (A.deeper (YI Sx So s.heap.objs.size f cdv))->sp vs H Q E->
 ∃t,kC (tH CX P w K mg base N Sx So f cdv A outer s H E) body t/\t {nx:=λ_ H'=>Q .non H',rt:=Q} (start N vs) H):
  jH P w K mg base CX (k + 1) f (UZ name Sx params body So dV kV doc pm an cdv ct) ps sp:=by
 refine ⟨len,λA outer s H args us vs Q E hr e0 hb r QH=>?_⟩
 have hl:=len _ _ _ _ QH
 have KX:K.In s.heap:=e0.mod.kin.keeps λb o e=>(e0.bs b o e).1
 have lim:s.heap.NoLimit:=e0.mod.nolimit.keeps λb o e=>(e0.bs b o e).1
 have hkind:∀y∈ps.zip us,So.names.lookup y.1=some .local\/(So.names.lookup y.1=some .cell/\((Uh (s.heap.objs.size + 1) So.names []).lookup y.1).isSome=true):=λ⟨n,v⟩ hy=>by
  rcases S.par n (Zs hy).1 with q | q
  ·exact .inl q
  ·exact .inr ⟨q,Ze _ _ _ (.inl q)⟩
 refine codeAny_call_function hr.depth (KX _ _ lk) rfl S.co S.gen rfl (W.codeRec_of KX hcd) (hb _ _ _ _ ?_)
 refine wpAny_newFunctionEnv_cells S.kind hkind λenv he s1 x=>?_
 subst he
 refine ⟨lim.keeps x.toInCall.keep,codeAny_func ?_⟩
 obtain ⟨t,ht,hq⟩:=hbody A outer s H vs Q E (hr.deeper _) QH
 have I:Inv (tH CX P w K mg base N Sx So f cdv A outer s H E) [] (start N vs) H s1:=EK S hr.hd e0 hl r x
 refine Uc (ht [] s1 (start N vs) H _ I hq) (λfl s' hs=>?_) λe s' hs=>hs
 have fin:∀{σ':St}{H':Hp}{v:V}{u:SI},Inv (tH CX P w K mg base N Sx So f cdv A outer s H E) [] σ' H' s'->RelV v u->Q v H'->CE outer P w H s Q u s':=
  fun {σ' H' v u} J rv q=>⟨v,H',J.os,J.bare,J.base,J.hok,rv,q⟩
 cases fl with
 | ret u=>
  obtain ⟨v,σ',H',J,rv,q⟩:=hs
  exact fin J rv q
 | next=>
  obtain ⟨σ',H',J,q⟩:=hs
  exact fin (v:=V.non) (u:=T_) J rfl q
 | brk=>
  obtain ⟨_,_,_,q⟩:=hs
  exact WC q
 | cont=>
  obtain ⟨_,_,_,q⟩:=hs
  exact WC q
section
variable {X:Cx}{x:Str}{p pos:Pos}{e:TV}{es:List TV}{t:TA}{id T:String}{r:List V->Hp->VK->Prop}
def OW (r:List V->Hp->VK->Prop) (t:TA):TE:=λσ H Q=>t σ H λvs H1=>r vs H1 Q
theorem o6 (hc:bP X (.builtin id) r) (hg:Gl X x) (hm:X.mg x=none) (hv:Ue x=some (.builtin id)) (ha:PA X (e::es) t) (hn:x≠"__name__":=by decide) (hdb:(x == ("__debug__":Str))=false:=by decide)
  (he:SX (e::es) X.env=(false,eval e X.env)::SX es X.env:=by rfl) (hpl:(Vb pos (SX es X.env)).any (·.1)=false:=by rfl):PE X (.Call (.Name x p) (e::es) [] pos) (OW r t):=by
 intro Sq s σ H Q I h
 refine W_ (qG I hg hm hv ?_ hn hdb)
 exact aa2 (bO (ha pos Sq s σ H _ I h) λus s1 ⟨vs,H1,I1,r1,q1⟩=>hc Sq s1 σ H1 vs us Q I1 r1 q1) he hpl
theorem kc (hc:bP X (.type T) r) (hg:Gl X x) (hm:X.mg x=none) (hv:Ue x=some (.type T)) (ha:PA X (e::es) t) (hn:x≠"__name__":=by decide) (hdb:(x == ("__debug__":Str))=false:=by decide)
  (he:SX (e::es) X.env=(false,eval e X.env)::SX es X.env:=by rfl) (hpl:(Vb pos (SX es X.env)).any (·.1)=false:=by rfl):PE X (.Call (.Name x p) (e::es) [] pos) (OW r t):=by
 intro Sq s σ H Q I h
 refine W_ (qG I hg hm hv ?_ hn hdb)
 exact Wv (bO (ha pos Sq s σ H _ I h) λus s1 ⟨vs,H1,I1,r1,q1⟩=>hc Sq s1 σ H1 vs us Q I1 r1 q1) he hpl
end
end L2
namespace HT
open PySem PyProof.Rows
theorem Gp (A:TR) (s:SJ) (a:Int) (t:Tok) (c:Int) (u:Tok):∃e,Vn A s (.int a t) (.int c u) e/\(e=true↔a=c):=
 ⟨(a == c),aai a t c u,by simp⟩
section
open PySem.SeqAt
open PySem.AutoSeq1 (wpAny_loadPart')
open PySem.MeetsSeq PySem.MeetsSeq2 PySem.MeetsSeq3
end
section
variable {prog:S_}{w:TL}{A:TR}{E:SI->SJ->Prop}{s:SJ}
theorem Jp {vs ws:List SI}{Q:SI->SJ->Prop}(ht:acZ s.heap t vs.toArray) (hb:acZ s.heap b ws.toArray) (hv:vs≠[])
 (h1:ws=[]->Q (.ref t) s) (h2:ws≠[]->Q (.ref s.heap.objs.size) {s with heap:=s.heap.push {cls:=.type "tuple",data:=.seq (vs++ws).toArray}})
 (hsz:vs.length + ws.length<=sizeLine):S8 (Ti prog w) A (Wt .Add (.ref t) (.ref b)) Q E s:=by
 obtain ⟨⟨cls,dd,data,sl⟩,ho,hc,n,hd⟩:=id ht
 obtain ⟨⟨cls2,dd2,data2,sl2⟩,ho2,hc2,n2,hd2⟩:=id hb
 simp only at hc hd hc2 hd2
 subst hc hd hc2 hd2
 have e:vs.toArray++ws.toArray=(vs++ws).toArray:=by simp
 by_cases hw:ws=[]
 ·exact aa3 ⟨_,ho,rfl⟩ ⟨_,ho2,rfl⟩ Za aaj Xr Xb (W6 _ _)
   (tuple_addW1 t b vs.toArray ws.toArray n n2 dd dd2 sl sl2 (by simpa using hv) (by simp [hw])) ⟨ho,ho2,h1 hw⟩
 ·refine aa3 ⟨_,ho,rfl⟩ ⟨_,ho2,rfl⟩ Za aaj Xr Xb (W6 _ _)
   (tuple_addW2 t b vs.toArray ws.toArray n n2 dd dd2 sl sl2 (by simpa using hv) (by simpa using hw) (by rw [S0,S0];exact hsz)) ⟨ho,ho2,?_⟩
  rw [e]
  exact h2 hw
noncomputable def bL (n d:Nat):Option Int->Nat
 | none=>d
 | some v=>if v < 0 then (v + (n:Int)).toNat else min v.toNat n
theorem HG (n d:Nat):bL n d none=d:=rfl
theorem KR (n d k:Nat):bL n d (some (k:Int))=min k n:=by
 show (if (k:Int) < 0 then ((k:Int) + (n:Int)).toNat else min (k:Int).toNat n)=min k n
 rw [if_neg (by omega),UJ]
theorem Nq (n d:Nat) (hd:d<=n) (o:Option Int):bL n d o<=n:=by
 cases o with
 | none=>exact hd
 | some v=>
  show (if v < 0 then (v + (n:Int)).toNat else min v.toNat n)<=n
  by_cases hv:v < 0
  ·rw [if_pos hv];omega
  ·rw [if_neg hv];exact Nat.min_le_right _ _
theorem Bm (v:Int) (n d:Nat):(if v < 0 then max (v + (n:Int)) 0 else min v (n:Int))=((bL n d (some v):Nat):Int):=by
 show (if v < 0 then max (v + (n:Int)) 0 else min v (n:Int))=(((if v < 0 then (v + (n:Int)).toNat else min v.toNat n):Nat):Int)
 by_cases hv:v < 0
 ·simp only [if_pos hv];omega
 ·simp only [if_neg hv];omega
theorem Cr (lo hi:Option Int) (n:Nat):WQ lo hi 1 (n:Int)=(((bL n 0 lo:Nat):Int),((bL n n hi:Nat):Int)):=by
 have h1:¬((1:Int) < 0):=by omega
 unfold WQ
 simp only [h1,if_false]
 refine adT ?_ ?_
 ·cases lo with
  | none=>rfl
  | some v=>exact Bm v n 0
 ·cases hi with
  | none=>rfl
  | some v=>exact Bm v n n
theorem Dj (i j:Nat):VT (i:Int) (j:Int) 1=j - i:=by
 unfold VT
 have h1:(1:Int) > 0:=by omega
 simp only [h1,if_true,Int.ediv_one]
 split <;> omega
theorem vA {Q:Option Int->SJ->Prop}(p:aak v o) (h:Q o s):S8 (Ti prog w) A (abl v) Q E s:=by
 cases p with
 | none=>exact abU h
 | int i t=>exact slicePart_int h
theorem lS {sl:Tg}{vl vu:SI}{lo hi:Option Int}{n:Nat}{Q:Int×Int×Nat->SJ->Prop}(hs:s.heap.IsSliceOf sl vl vu .none) (pl:aak vl lo) (pu:aak vu hi)
  (h:Q (((bL n 0 lo:Nat):Int),1,bL n n hi - bL n 0 lo) s):S8 (Ti prog w) A (Yv (.ref sl) (pure (n:Int))) Q E s:=by
 obtain ⟨os,hos,hcs,hds⟩:=id hs
 unfold Yv abV
 refine SE (SE (Vr hos hds (x:=vl) rfl (SE (Vr hos hds (x:=vu) rfl (SE (Vr hos hds (x:=.none) rfl (SH ?_)))))))
 refine SE (abU ?_)
 show S8 _ _ (if ((1:Int) == 0)=true then _ else _) _ _ s
 rw [if_neg (by decide)]
 refine SE (vA pl (SE (vA pu (SE (SH ?_)))))
 show S8 _ _ (match WQ lo hi 1 (n:Int) with | (lo,hi)=>pure (lo,(1:Int),VT lo hi 1)) _ _ s
 rw [Cr lo hi n]
 show S8 _ _ (pure (((bL n 0 lo:Nat):Int),(1:Int),VT ((bL n 0 lo:Nat):Int) ((bL n n hi:Nat):Int) 1)) _ _ s
 rw [Dj]
 exact SH h
theorem Hg (xs:Array SI) (i k:Nat):((SM k).filterMap λ(m:Nat)=>xs[((i:Int) + (m:Int) * 1).toNat]?).toArray=((xs.toList.drop i).take k).toArray:=by
 have e:(λ(m:Nat)=>xs[((i:Int) + (m:Int) * 1).toNat]?)=λm=>xs[i + m]?:=by
  funext m
  have:((i:Int) + (m:Int) * 1).toNat=i + m:=by omega
  rw [this]
 rw [e]
 have:=pick_run xs i k
 rw [aal] at this
 have e2:((λx=>xs[x]?) ∘ λx=>i + x)=λm=>xs[i + m]?:=rfl
 rw [e2] at this
 rw [this]
theorem rY {t sl:Tg}{Ss:Array SI}{vl vu:SI}{lo hi:Option Int}{Q:SI->SJ->Prop}(ht:acZ s.heap t Ss) (hs:s.heap.IsSliceOf sl vl vu .none) (pl:aak vl lo) (pu:aak vu hi)
  (hw:¬(bL Ss.size 0 lo=0/\bL Ss.size Ss.size hi=Ss.size))
  (h:Q (.ref s.heap.objs.size) {s with heap:=s.heap.push {cls:=.type "tuple",data:=.seq ((Ss.toList.drop (bL Ss.size 0 lo)).take (bL Ss.size Ss.size hi - bL Ss.size 0 lo)).toArray}})
  (hsz:Ss.size<=sizeLine):S8 (Ti prog w) A (aaH (.ref t) (.ref sl)) Q E s:=by
 have Qw:sizeOk (.seq ((Ss.toList.drop (bL Ss.size 0 lo)).take (bL Ss.size Ss.size hi - bL Ss.size 0 lo)).toArray):=by
  show ((Ss.toList.drop (bL Ss.size 0 lo)).take (bL Ss.size Ss.size hi - bL Ss.size 0 lo)).toArray.size<=sizeLine
  rw [S0,UE,Vs,S4]
  omega
 have hj:bL Ss.size Ss.size hi<=Ss.size:=Nq _ _ (SW _) hi
 obtain ⟨os,hos,hcs,hds⟩:=id hs
 have Rg:s.TypeIs (.ref sl) "slice":=⟨os,hos,hcs⟩
 unfold aaH
 try with_reducible refine TQ ?_
 first | refine SE (SH ?_) | skip
 refine SE (aaI ht.typeIs (by decide) ?_)
 refine SE (T7 (name:=VO "__getitem__") ht.typeIs Um
  (TY Um ht.typeIs Z6 ?_ (aam _ _)))
 show S8 _ _ (WK (.ref t) >>= _) _ _ s
 refine SE (acp ht ?_)
 refine SE (XU Rg ?_)
 rw [if_pos (by decide)]
 refine SE (lS hs pl pu ?_)
 have hno:¬((((bL Ss.size 0 lo:Nat):Int) == 0 && (1:Int) == 1 && (bL Ss.size Ss.size hi - bL Ss.size 0 lo) == Ss.size)=true):=by
  intro q
  rw [SN,SN] at q
  have q1:((bL Ss.size 0 lo:Nat):Int)=0:=eq_of_beq q.1.1
  have q2:bL Ss.size Ss.size hi - bL Ss.size 0 lo=Ss.size:=eq_of_beq q.2
  exact hw ⟨by omega,by omega⟩
 show S8 _ _ (if (((bL Ss.size 0 lo:Nat):Int) == 0 && (1:Int) == 1 && (bL Ss.size Ss.size hi - bL Ss.size 0 lo) == Ss.size)=true then _ else _) _ _ s
 rw [if_neg hno,Hg]
 first
  | exact SE (m:=V4 _) (TN (SH ⟨_,rfl,SH h⟩) Qw)
  | exact SE (m:=V4 _) (TN (SE (SH (SH ⟨_,rfl,SH h⟩))) Qw)
  | exact SE (SE (m:=V4 _) (TN (SH (SH ⟨_,rfl,SH h⟩)) Qw))
  | exact SE (SE (m:=V4 _) (TN (SH ⟨_,rfl,SH h⟩) Qw))
end
end HT
namespace L2
open PySem PySem.Spec PyProof.Rows
abbrev TO:=St->Hp->(Option Int->Hp->Prop)->Prop
noncomputable def PO (X:Cx) (e:Option TV) (t:TO):Prop:=
 ∀(Sq:List (Tg×Obj)) (s:SJ) (σ:St) (H:Hp) (Q:Option Int->Hp->Prop),Inv X Sq σ H s->t σ H Q->
  S8 (Ti X.prog X.w) X.A (evalPart e X.env) (λu s'=>∃o H',Inv X Sq σ H' s'/\aak u o/\Q o H') X.xe s
def K5:TO:=λ_ H Q=>Q none H
def OD (t:TE):TO:=λσ H Q=>t σ H λx H1=>∃i,x=.int i/\Q (some i) H1
theorem intsAre_of {ns:List Int}:∀{us:List SI},Vals (ns.map V.int) us->W3 us ns:=by
 induction ns with
 | nil=>intro us r;rw [Yx] at r;cases r;exact .nil
 | cons n ns ih=>
  intro us r
  rw [Td] at r
  cases r with
  | cons r1 r2=>
   obtain ⟨t,e⟩:=r1
   subst e
   exact .cons n t (ih r2)
section
variable {X:Cx}{e:TV}{te:TE}{lo hi:Option TV}{tl th:TO}{pos p2:Pos}
theorem Kr:PO X none K5:=by
 intro Sq s σ H Q I h
 rw [acq]
 exact SH ⟨none,H,I,.none,h⟩
theorem Ks (h:PE X e te):PO X (some e) (OD te):=by
 intro Sq s σ H Q I hw
 rw [evalPart_some]
 refine bO (h Sq s σ H _ I hw) λu s1 ⟨x,H1,I1,r1,q1⟩=>?_
 obtain ⟨i,rfl,q⟩:=q1
 obtain ⟨t,rfl⟩:=r1
 exact ⟨some i,H1,I1,.int i t,q⟩
noncomputable def sC (X:Cx) (r:V->Option Int->Option Int->Hp->VK->Prop):Prop:=
 ∀(Sq:List (Tg×Obj)) (s:SJ) (σ:St) (H:Hp) (x:V) (v vl vu:SI) (lo hi:Option Int) (sl:Tg) (Q:VK),Inv X Sq σ H s->RelV x v->s.heap.IsSliceOf sl vl vu .none->aak vl lo->aak vu hi->r x lo hi H Q->
  ∃T id,typeLookup (.type T) "__getitem__"=pure (some (.builtin id))/\s.TypeIs v T/\S8 (Ti X.prog X.w) X.A (aaH v (.ref sl)) (EP X Sq σ Q) X.xe s
theorem sC.or {r r':V->Option Int->Option Int->Hp->VK->Prop}(h:sC X r) (h':sC X r'):sC X (λx lo hi H Q=>r x lo hi H Q\/r' x lo hi H Q):=by
 intro Sq s σ H x v vl vu lo hi sl Q I rx hs pl pu q
 rcases q with q | q
 ·exact h Sq s σ H x v vl vu lo hi sl Q I rx hs pl pu q
 ·exact h' Sq s σ H x v vl vu lo hi sl Q I rx hs pl pu q
def Qd (r:V->Option Int->Option Int->Hp->VK->Prop) (te:TE) (tl th:TO):TE:=λσ H Q=>te σ H λx H1=>tl σ H1 λl H2=>th σ H2 λu H3=>r x l u H3 Q
theorem G_ {r:V->Option Int->Option Int->Hp->VK->Prop}(hr:sC X r) (he:PE X e te) (hl:PO X lo tl) (hu:PO X hi th):PE X (.Subscript e (.Slice lo hi none p2) pos) (Qd r te tl th):=by
 intro Sq s σ H Q I h
 refine Subscript_ (bO (he Sq s σ H _ I h) λv s1 ⟨x,H1,I1,r1,q1⟩=>?_)
 refine wpAny_Slice (bO (hl Sq s1 σ H1 _ I1 q1) λvl s2 ⟨l,H2,I2,pl,q2⟩=>bO (hu Sq s2 σ H2 _ I2 q2) λvu s3 ⟨u,H3,I3,pu,q3⟩=>?_)
 rw [acq]
 refine SH ?_
 have I4:Inv X Sq σ H3 {s3 with heap:=s3.heap.push {cls:=.type "slice",data:=.fields #[vl,vu,.none]}}:=I3.kept (t':=s3.toks) λb ob q=>SO _ q
 obtain ⟨T,id,hT,ht,hg⟩:=hr Sq {s3 with heap:=s3.heap.push {cls:=.type "slice",data:=.fields #[vl,vu,.none]}} σ H3 x v vl vu l u s3.heap.objs.size Q I4 r1 (adp ..) pl pu q3
 show S8 (Ti X.prog X.w) X.A (acr e (.Slice lo hi none p2) v (.ref s3.heap.objs.size)) (EP X Sq σ Q) X.xe {s3 with heap:=s3.heap.push {cls:=.type "slice",data:=.fields #[vl,vu,.none]}}
 exact tail_any (ops:=[.ref s3.heap.objs.size,v]) ht hT hg (by with_unfolding_all rfl)
def nh (xs:List V) (lo hi:Option Int):List V:=(xs.drop (HT.bL xs.length 0 lo)).take (HT.bL xs.length xs.length hi - HT.bL xs.length 0 lo)
theorem sH (xs:List V) (lo hi:Option Int):(nh xs lo hi).length<=xs.length:=by
 unfold nh
 rw [UE,Vs]
 omega
noncomputable def Po (K:SG):V->Option Int->Option Int->Hp->VK->Prop:=λx lo hi H Q=>∃a xs,x=.ref a/\cL K H a xs/\
 ¬(HT.bL xs.length 0 lo=0/\HT.bL xs.length xs.length hi=xs.length)/\∀p,H p=none->Q (.ref p) (upd H p (.tup (nh xs lo hi)))
theorem Nu:sC X (Po X.K):=by
 intro Sq s σ H x v vl vu lo hi sl Q I rx hs pl pu h
 obtain ⟨a,xs,rfl,hx,hw,q⟩:=h
 cases rx
 obtain ⟨Su,r,ht,hz⟩:=I.tuple hx
 have hlen:Su.toArray.size=xs.length:=by rw [S0];exact r.length.symm
 refine ⟨"tuple",_,Um.lookup,ht.typeIs,?_⟩
 refine HT.rY ht hs pl pu (by rw [hlen];exact hw) ?_ (by rw [hlen];exact hz)
 rw [hlen]
 refine ⟨.ref s.heap.objs.size,_,I.laid (t':=s.toks) (o:=.tup (nh xs lo hi)) (λb ob q=>SO _ q) (SW _) ?_,rfl,q _ (I.hok.fresh (SW _))⟩
 exact ⟨Tz (sH xs lo hi) hz,_,(r.drop (HT.bL xs.length 0 lo)).take (HT.bL xs.length xs.length hi - HT.bL xs.length 0 lo),acN _ _⟩
noncomputable def Oj (K:SG):R2:=λx y H Q=>∃a b xs ys,x=.ref a/\y=.ref b/\cL K H a xs/\cL K H b ys/\xs≠[]/\xs.length + ys.length<=sizeLine/\
 (ys=[]->Q (.ref a) H)/\(ys≠[]->∀p,H p=none->Q (.ref p) (upd H p (.tup (xs++ys))))
theorem Vals.nil_iff (r:Vals xs us):us=[]↔xs=[]:=by
 cases r with
 | nil=>simp
 | cons _ _=>simp
theorem JZ:c_ X (Wt .Add) (Oj X.K):=by
 intro Sq s σ H x y v u Q I rx ry h
 obtain ⟨a,b,xs,ys,rfl,rfl,ha,hb,hx,hz,q1,q2⟩:=h
 cases rx
 cases ry
 obtain ⟨Su,r1,p1,_⟩:=I.tuple ha
 obtain ⟨its2,r2,p2,_⟩:=I.tuple hb
 refine HT.Jp p1 p2 (λz=>hx (r1.nil_iff.mp z)) (λz=>⟨.ref a,H,I,rfl,q1 (r2.nil_iff.mp z)⟩) (λz=>?_) (by rw [<-r1.length,<-r2.length];exact hz)
 refine ⟨.ref s.heap.objs.size,_,I.laid (t':=s.toks) (o:=.tup (xs++ys)) (λb ob q=>SO _ q) (SW _) ?_,rfl,q2 (λw=>z (r2.nil_iff.mpr w)) _ (I.hok.fresh (SW _))⟩
 exact ⟨by rw [Te];exact hz,_,r1.append r2,acN _ _⟩
end
def zV (n:Nat) (i:Int):Option Nat:=if 0<=i then (if i < n then some i.toNat else none) else if -(n:Int)<=i then some (i + n).toNat else none
def mC {α:Type}(xs:List α) (i:Int):Option α:=(zV xs.length i).bind λj=>xs[j]?
theorem JJ (h:zV n i=some j):aan i n=some j/\j < n/\-(n:Int)<=i/\i < n:=by
 unfold zV at h
 by_cases h0:0<=i
 ·rw [if_pos h0] at h
  by_cases h1:i < n
  ·rw [if_pos h1] at h
   have e:i.toNat=j:=Ul h
   exact ⟨by rw [seqIndex_of h0 h1,e],by omega,by omega,h1⟩
  ·rw [if_neg h1] at h;cases h
 ·rw [if_neg h0] at h
  by_cases h1:-(n:Int)<=i
  ·rw [if_pos h1] at h
   have e:(i + n).toNat=j:=Ul h
   exact ⟨by rw [seqIndex_neg (by omega) h1,e],by omega,h1,by omega⟩
  ·rw [if_neg h1] at h;cases h
theorem vO {α:Type}{xs:List α}{i:Int}{v:α}(h:mC xs i=some v):∃j,aan i xs.length=some j/\xs[j]?=some v/\j < xs.length/\-(xs.length:Int)<=i/\i < xs.length:=by
 unfold mC at h
 cases e:zV xs.length i with
 | none=>rw [e] at h;cases h
 | some j=>
  rw [e] at h
  obtain ⟨h1,h2,h3,h4⟩:=JJ e
  exact ⟨j,h1,h,h2,h3,h4⟩
def rC (b:TV):Prop:=∀o i,subscripted b false o i=operate [o,i] (aaH o i)
noncomputable def p7 (X:Cx) (r:R2):Prop:=
 ∀(value slice:TV) (Sq:List (Tg×Obj)) (s:SJ) (σ:St) (H:Hp) (x y:V) (v u:SI) (Q:VK),Inv X Sq σ H s->RelV x v->RelV y u->r x y H Q->
  subscripted slice false v u=operate [v,u] (aaH v u)->S8 (Ti X.prog X.w) X.A (acr value slice v u) (EP X Sq σ Q) X.xe s
noncomputable def PZ (X:Cx) (id:String) (r:V->List V->Hp->VK->Prop):Prop:=
 ∀(Sq:List (Tg×Obj)) (s:SJ) (σ:St) (H:Hp) (x:V) (xs:List V) (v:SI) (us:List SI) (Q:VK),Inv X Sq σ H s->RelV x v->Vals xs us->r x xs H Q->
  S8 (Ti X.prog X.w) X.A (call (.builtin id) (v::us)) (EP X Sq σ Q) X.xe s
section
variable {X:Cx}{a b:TV}{ta tb:TE}{pos:Pos}
theorem p7.or {r r':R2}(h:p7 X r) (h':p7 X r'):p7 X (λx y H Q=>r x y H Q\/r' x y H Q):=by
 intro value slice Sq s σ H x y v u Q I rx ry q hs
 rcases q with q | q
 ·exact h value slice Sq s σ H x y v u Q I rx ry q hs
 ·exact h' value slice Sq s σ H x y v u Q I rx ry q hs
theorem Od (hr:p7 X r) (ha:PE X a ta) (hb:PE X b tb) (hs:rC b):PE X (.Subscript a b pos) (FU r ta tb):=by
 intro Sq s σ H Q I h
 exact Subscript_ (Gb ha hb I h λv u s2 x y H2 I2 rx ry q=>hr a b Sq s2 σ H2 x y v u Q I2 rx ry q (hs _ _))
def Nd (K:SG):R2:=λx y H Q=>∃p xs i v,x=.ref p/\y=.int i/\cB K H p xs/\mC xs i=some v/\Q v H
def Ng (K:SG):R2:=λx y H Q=>∃p xs i v,x=.ref p/\y=.int i/\cL K H p xs/\mC xs i=some v/\Q v H
def Nf:R2:=λx y H Q=>∃z i c,x=.str z/\y=.int i/\z.length<=sizeLine/\mC z.cps.toList i=some c/\Q (.str ⟨#[c]⟩) H
theorem JK:p7 X (Nd X.K):=by
 intro value slice Sq s σ H x y v u Q I rx ry h hs
 obtain ⟨p,xs,i,z,rfl,rfl,hq,he,q⟩:=h
 cases rx
 obtain ⟨t,rfl⟩:=ry
 obtain ⟨Su,r,pl,hz⟩:=I.list hq
 obtain ⟨j,h1,h2,h3,h4,h5⟩:=vO he
 obtain ⟨w,ew,rw'⟩:=r.get h2
 have hl:=r.length
 have hn:=nO
 have fin:EP X Sq σ Q w s:=⟨z,H,I,rw',q⟩
 by_cases h0:0<=i
 ·have hj:i.toNat=j:=by
   rw [seqIndex_of h0 h5] at h1
   exact Ul h1
  exact item_listR pl.isList h0 (by omega) (by rw [hj];simpa using ew) fin hs
 ·have hj:(i + (Su.toArray.size:Int)).toNat=j:=by
   rw [seqIndex_neg (by omega) h4] at h1
   rw [S0,<-hl]
   exact Ul h1
  exact Xs (x:=w) pl.isList.typeIs aaJ.lookup
   (wpAny_getItem_list_neg (Q:=λr s'=>r=w/\EP X Sq σ Q r s') pl.isList (by omega) (by rw [S0] <;> omega) (by omega) (by rw [hj];simpa using ew) ⟨rfl,fin⟩) hs
theorem Me:p7 X (Ng X.K):=by
 intro value slice Sq s σ H x y v u Q I rx ry h hs
 obtain ⟨p,xs,i,z,rfl,rfl,hq,he,q⟩:=h
 cases rx
 obtain ⟨t,rfl⟩:=ry
 obtain ⟨Su,r,pl,hz⟩:=I.tuple hq
 obtain ⟨j,h1,h2,h3,h4,h5⟩:=vO he
 obtain ⟨w,ew,rw'⟩:=r.get h2
 have hl:=r.length
 have hn:=nO
 have fin:EP X Sq σ Q w s:=⟨z,H,I,rw',q⟩
 exact Xs (x:=w) pl.typeIs slot_tuple_getitem.lookup
  (getItem_tuple (j:=j) (Q:=λr s'=>r=w/\EP X Sq σ Q r s') pl (by omega) (by omega) (by rw [S0,<-hl];exact h1) (by simpa using ew) ⟨rfl,fin⟩) hs
theorem Mc:p7 X Nf:=by
 intro value slice Sq s σ H x y v u Q I rx ry h hs
 obtain ⟨z,i,c,rfl,rfl,hz,he,q⟩:=h
 obtain ⟨t,rfl⟩:=rx
 obtain ⟨t',rfl⟩:=ry
 obtain ⟨j,h1,h2,h3,h4,h5⟩:=vO he
 have hl:z.cps.toList.length=z.length:=by simp [aaK]
 rw [hl] at h1 h4 h5
 have hn:=nO
 exact tail_any (Xv s z t) slot_str_getitem.lookup (getItem_str (c:=c) (by
  have e1:decide (i < -(2 ^ 63:Int))=false:=decide_eq_false (by omega)
  have e2:decide (i ≥ 2 ^ 63)=false:=decide_eq_false (by omega)
  rw [e1,e2,acs]) (by rw [h1];simpa using h2) ⟨.str ⟨#[c]⟩,H,I.tok _,⟨_,rfl⟩,q⟩) hs
def P8 (K:SG):R2:=λx y H Q=>Nd K x y H Q\/Ng K x y H Q\/Nf x y H Q
theorem Mb:p7 X (P8 X.K):=JK.or (Me.or Mc)
theorem Inv.lst {H:Hp}{s:SJ}{xs:List V}(I:Inv X Sq σ H s) (h:H p=some (.lst xs)):
  ∃(Su:List SI) (n:Nat),Vals xs Su/\s.heap.get? p=some {cls:=.type "list",data:=.seq Su.toArray n}/\xs.length<=sizeLine:=by
 obtain ⟨z,Su,n,r,e⟩:=I.hok p _ h
 exact ⟨Su,n,r,e,z⟩
theorem Av (lo hi:Option Int) (n:Nat):(Xw lo hi none n).1=((HT.bL n 0 lo:Nat):Int)/\(Xw lo hi none n).2.1=((HT.bL n n hi:Nat):Int)/\(Xw lo hi none n).2.2=1:=by
 refine ⟨?_,?_,rfl⟩
 ·cases lo with
  | none=>simp [Xw,HT.bL]
  | some i=>
   simp only [Xw,HT.bL,abd,show (1:Int) > 0 by decide,if_true]
   by_cases h:i < 0
   ·simp only [h,if_true] <;> omega
   ·simp only [h,if_false] <;> omega
 ·cases hi with
  | none=>simp [Xw,HT.bL]
  | some i=>
   simp only [Xw,HT.bL,abd,show (1:Int) > 0 by decide,if_true]
   by_cases h:i < 0
   ·simp only [h,if_true] <;> omega
   ·simp only [h,if_false] <;> omega
theorem yr (Su:List SI) (lo hi:Option Int):slicePick Su.toArray lo hi none=((Su.drop (HT.bL Su.length 0 lo)).take (HT.bL Su.length Su.length hi - HT.bL Su.length 0 lo)).toArray:=by
 obtain ⟨h1,h2,h3⟩:=Av lo hi Su.toArray.size
 unfold slicePick
 rw [h1,h2,h3]
 simp only [sliceRange_one,pick_run,S0] <;> rfl
noncomputable def Pk (K:SG):V->Option Int->Option Int->Hp->VK->Prop:=λx lo hi H Q=>∃a xs,x=.ref a/\cB K H a xs/\∀p,H p=none->Q (.ref p) (upd H p (.lst (nh xs lo hi)))
theorem KW:sC X (Pk X.K):=by
 intro Sq s σ H x v vl vu lo hi sl Q I rx hs pl pu h
 obtain ⟨a,xs,rfl,hx,q⟩:=h
 cases rx
 obtain ⟨Su,r,ht,hz⟩:=I.list hx
 have hlen:=r.length
 refine ⟨"list",_,aaJ.lookup,ht.isList.typeIs,?_⟩
 refine wpAny_getItem_list_slice ht.isList hs pl pu .none (by simp) ?_ (by rw [S0] <;> omega)
 rw [yr,<-hlen]
 refine ⟨.ref s.heap.objs.size,_,I.laid (t':=s.toks) (o:=.lst (nh xs lo hi)) (λb ob q=>SO _ q) (SW _) ?_,rfl,q _ (I.hok.fresh (SW _))⟩
 exact ⟨Tz (sH xs lo hi) hz,_,0,(r.drop (HT.bL xs.length 0 lo)).take (HT.bL xs.length xs.length hi - HT.bL xs.length 0 lo),SY _ rfl⟩
noncomputable def uP:V->Bool
 | .non=>true
 | .bl _=>true
 | .int _=>true
 | .str _=>true
 | _=>false
noncomputable def LO:V->V->Bool
 | .non,.non=>true
 | .bl a,.bl b=>a == b
 | .bl a,.int b=>(if a then 1 else 0) == b
 | .int a,.bl b=>a == (if b then 1 else 0)
 | .int a,.int b=>a == b
 | .str a,.str b=>a == b
 | _,_=>false
theorem LN (ry:RelV y u) (rx:RelV x v) (fy:uP y=true) (fx:uP x=true):Vn A s u v (LO y x):=by
 cases y with
 | non=>
  cases ry
  cases x with
  | non=>cases rx;exact Zt _
  | bl b=>cases rx;exact acU b
  | int b=>obtain ⟨t,rfl⟩:=rx;exact ac4 b t
  | str b=>obtain ⟨t,rfl⟩:=rx;exact ac5 b t
  | _=>exact absurd (show false=true from fx) Tv
 | bl a=>
  cases ry
  cases x with
  | non=>cases rx;exact acV a
  | bl b=>cases rx;exact acW a b
  | int b=>obtain ⟨t,rfl⟩:=rx;exact ac6 a b t
  | str b=>obtain ⟨t,rfl⟩:=rx;exact ac_ a b t
  | _=>exact absurd (show false=true from fx) Tv
 | int a=>
  obtain ⟨t',rfl⟩:=ry
  cases x with
  | non=>cases rx;exact ada a t'
  | bl b=>cases rx;exact adb a t' b
  | int b=>obtain ⟨t,rfl⟩:=rx;exact aai a t' b t
  | str b=>obtain ⟨t,rfl⟩:=rx;exact aad a t' b t
  | _=>exact absurd (show false=true from fx) Tv
 | str a=>
  obtain ⟨t',rfl⟩:=ry
  cases x with
  | non=>cases rx;exact ade a t'
  | bl b=>cases rx;exact adf a t' b
  | int b=>obtain ⟨t,rfl⟩:=rx;exact aae a t' b t
  | str b=>obtain ⟨t,rfl⟩:=rx;exact adq a t' b t
  | _=>exact absurd (show false=true from fx) Tv
 | _=>exact absurd (show false=true from fy) Tv
theorem zo:bP X (.builtin "len") (λxs H Q=>∃p ys,xs=[.ref p]/\(cB X.K H p ys\/cL X.K H p ys)/\Q (.int ys.length) H):=by
 intro Sq s σ H xs us Q I r h
 obtain ⟨p,ys,rfl,hq,q⟩:=h
 obtain ⟨u,rfl,rx⟩:=vals1 r
 cases rx
 have hn:=nO
 rcases hq with hq | hq
 ·obtain ⟨Su,r',pl,hz⟩:=I.list hq
  have hlen:=r'.length
  exact Calls.call_len_list pl.isList (by simp only [S0] <;> omega) ⟨.int ys.length,H,I.tok _,⟨s.toks + 1,by rw [S0,hlen]⟩,q⟩
 ·obtain ⟨Su,r',pl,hz⟩:=I.tuple hq
  have hlen:=r'.length
  exact len_tuple pl (by simp only [S0] <;> omega) ⟨.int ys.length,H,I.tok _,⟨s.toks + 1,by rw [S0,hlen]⟩,q⟩
theorem zq:bP X (.builtin "len") (λxs H Q=>∃z,xs=[.str z]/\z.length<=sizeLine/\Q (.int z.length) H):=by
 intro Sq s σ H xs us Q I r h
 obtain ⟨z,rfl,hz,q⟩:=h
 obtain ⟨u,rfl,t,rfl⟩:=vals1 r
 have hn:=nO
 exact len_str (by omega) ⟨.int z.length,H,I.tok _,⟨_,rfl⟩,q⟩
theorem bP.or {r r':List V->Hp->VK->Prop}(h:bP X f r) (h':bP X f r'):bP X f (λxs H Q=>r xs H Q\/r' xs H Q):=by
 intro Sq s σ H xs us Q I rs q
 rcases q with q | q
 ·exact h Sq s σ H xs us Q I rs q
 ·exact h' Sq s σ H xs us Q I rs q
theorem zu:bP X (.type "list") (λxs H Q=>∃p ys,xs=[.ref p]/\(cB X.K H p ys\/cL X.K H p ys)/\∀l,H l=none->Q (.ref l) (upd H l (.lst ys))):=by
 intro Sq s σ H xs us Q I r h
 obtain ⟨p,ys,rfl,hq,q⟩:=h
 obtain ⟨u,rfl,rx⟩:=vals1 r
 cases rx
 have fin:∀(Su:List SI),Vals ys Su->ys.length<=sizeLine->∀(h':Uz) (c':Nat),(∀b o',s.heap.get? b=some o'->h'.get? b=some o')->
   h'.get? s.heap.objs.size=some {cls:=.type "list",dict:=none,data:=.seq Su.toArray c',slots:=#[]}->EP X Sq σ Q (.ref s.heap.objs.size) {s with heap:=h'}:=λSu r' hz h' c' kp e=>
  ⟨.ref s.heap.objs.size,_,I.laid (t':=s.toks) kp (SW _) (show cG X.prog X.w _ h' _ (.lst ys) from ⟨hz,Su,c',r',e⟩),rfl,q _ (I.hok.fresh (SW _))⟩
 rcases hq with hq | hq
 ·obtain ⟨Su,r',pl,hz⟩:=I.list hq
  have hlen:=r'.length
  obtain ⟨o,ho,hc,n,hd⟩:=pl.isList
  exact acu p (.inl rfl) ho hc hd (λh' c' kp e=>fin Su r' hz h' c' kp e) (by simp only [S0] <;> omega)
 ·obtain ⟨Su,r',pl,hz⟩:=I.tuple hq
  have hlen:=r'.length
  obtain ⟨o,ho,hc,n,hd⟩:=pl
  exact acu p (.inr rfl) ho hc hd (λh' c' kp e=>fin Su r' hz h' c' kp e) (by simp only [S0] <;> omega)
theorem yj:bP X (.type "tuple") (λxs H Q=>∃p ys,xs=[.ref p]/\((cB X.K H p ys/\∀l,H l=none->Q (.ref l) (upd H l (.tup ys)))\/(cL X.K H p ys/\Q (.ref p) H))):=by
 intro Sq s σ H xs us Q I r h
 obtain ⟨p,ys,rfl,h⟩:=h
 obtain ⟨u,rfl,rx⟩:=vals1 r
 cases rx
 rcases h with ⟨hq,q⟩ | ⟨hq,q⟩
 ·obtain ⟨Su,r',pl,hz⟩:=I.list hq
  have hlen:=r'.length
  refine call_tuple_list pl.isList (λh' kp=>?_) (by simp only [S0] <;> omega)
  have I1:Inv X Sq σ H {s with heap:=h'}:=I.kept (t':=s.toks) kp
  have I2:Inv X Sq σ (upd H h'.objs.size (.tup ys)) {s with heap:=h'.push {cls:=.type "tuple",data:=.seq Su.toArray}}:=
   I1.laid (t':=s.toks) (λb o e=>SO _ e) (SW _) (show cG X.prog X.w _ _ _ (.tup ys) from ⟨hz,Su,r',acN _ _⟩)
  exact ⟨.ref h'.objs.size,_,I2,rfl,q _ (I1.hok.fresh (SW _))⟩
 ·obtain ⟨Su,r',pl,hz⟩:=I.tuple hq
  exact call_tuple_same pl ⟨.ref p,H,I,rfl,q⟩
noncomputable def OY (K:SG) (T:String) (x:V) (H:Hp):Prop:=match x with
 | .str _=>T="str"
 | .int _=>T="int"
 | .ref p=>(T="list"/\∃xs,cB K H p xs)\/(T="tuple"/\∃o,K.lookup p=some o/\o.cls=.type "tuple"/\o.dict=none)\/
   (T="dict"/\((∃SA,H p=some (.dK SA))\/∃SA,H p=some (.dT SA)))\/(T="set"/\∃S n,H p=some (.set S n))
 | _=>False
theorem NK {H:Hp}{s:SJ}(I:Inv X Sq σ H s) (r:RelV x v) (ty:OY X.K T x H):
  s.TypeIs v T/\∀a,v=.ref a->∃ob,s.heap.get? a=some ob/\ob.dict=none:=by
 cases x with
 | str z=>
  obtain ⟨t,rfl⟩:=r
  cases (show T="str" from ty)
  exact ⟨Xv s z t,λ_ e=>nomatch e⟩
 | int i=>
  obtain ⟨t,rfl⟩:=r
  cases (show T="int" from ty)
  exact ⟨typeIs_int s i t,λ_ e=>nomatch e⟩
 | ref p=>
  cases r
  rcases ty with ⟨rfl,xs,hq⟩ | ⟨rfl,o,hk,hc,hd⟩ | ⟨rfl,hk⟩ | ⟨rfl,S,n,hk⟩
  ·obtain ⟨Su,_,pl,_⟩:=I.list hq
   refine ⟨pl.isList.typeIs,λa e=>?_⟩
   cases e
   obtain ⟨o,n,e,c,hd,_⟩:=pl
   exact ⟨o,e,hd⟩
  ·refine ⟨⟨o,I.kIn p o hk,hc⟩,λa e=>?_⟩
   cases e
   exact ⟨o,I.kIn _ o hk,hd⟩
  ·have z:∃o,s.heap.get? p=some o/\o.ExactDict:=by
    rcases hk with ⟨SA,hk⟩ | ⟨SA,hk⟩
    ·obtain ⟨_,_,_,_,o,_,_,e,ex,_⟩:=I.hok p _ hk
     exact ⟨o,e,ex⟩
    ·obtain ⟨_,_,_,_,o,_,_,e,ex,_⟩:=I.hok p _ hk
     exact ⟨o,e,ex⟩
   obtain ⟨o,e,ex⟩:=z
   refine ⟨⟨o,e,ex.1⟩,λa e2=>?_⟩
   cases e2
   exact ⟨o,e,ex.2.1⟩
  ·obtain ⟨o,_,_,_,e,ex,_⟩:=I.hok p _ hk
   refine ⟨⟨o,e,ex.1⟩,λa e2=>?_⟩
   cases e2
   exact ⟨o,e,ex.2.1⟩
 | _=>exact WC ty
def P_ (K:SG) (T:String) (r:V->List V->Hp->VK->Prop) (to:TE) (t:TA):TE:=λσ H Q=>to σ H λx H1=>OY K T x H1/\t σ H1 λxs H2=>r x xs H2 Q
variable {o e:TV}{es:List TV}{to:TE}{t:TA}{name:Str}{apos cpos:Pos}{T id:String}{r:V->List V->Hp->VK->Prop}
theorem yH (pa:PlainAttrs T) (slot:Slot T name id) (hty:typeOf (.builtin id)=pure (.type "method_descriptor")) (hm:PZ X id r) (ho:PE X o to) (ha:PA X (e::es) t)
  (hbase:Xc o name X.env (eval o X.env)=eval o X.env:=by rfl)
  (hfew:((Vb cpos (SX (e::es) X.env)).all (λx=>!x.1) && (abm cpos (YX [] X.env)).all (λx=>x.1.isSome)
   && decide ((e::es).length + ([]:List YY).length + (if ([]:List YY).isEmpty then 0 else 1) < 30))=true:=by rfl)
  (hline:(apos.endLine == cpos.line)=true:=by rfl) (hs:SX (e::es) X.env=(false,eval e X.env)::SX es X.env:=by rfl) (hplain:(Vb cpos (SX es X.env)).any (·.1)=false:=by rfl):
  PE X (.Call (.Attribute o name apos) (e::es) [] cpos) (P_ X.K T r to t):=by
 intro Sq s σ H Q I h
 refine wpAny_Call_method_late hbase hfew hline rfl (bO (ho Sq s σ H _ I h) λv s1 ⟨x,H1,I1,r1,ty,q1⟩=>?_)
 obtain ⟨h1,h2⟩:=NK I1 r1 ty
 refine ⟨T,id,pa,slot,hty,h1,h2,?_⟩
 have hA:=ha cpos Sq s1 σ H1 _ I1 q1
 rw [hs] at hA ⊢
 refine Calls.callWith_builtin (by show (false || (Vb cpos (SX es X.env)).any (·.1))=false;rw [hplain] <;> rfl) (Calls.evalArgs_plain ?_)
 exact bO hA λus s2 ⟨vs,H2,I2,r2,q2⟩=>hm Sq s2 σ H2 x vs v us Q I2 r1 r2 q2
end
noncomputable def Ie (X:Cx) (id:String) (r:V->List V->Hp->VK->Prop):Prop:=
 ∀(Sq:List (Tg×Obj)) (s:SJ) (σ:St) (H:Hp) (x:V) (xs:List V) (v:SI) (us:List SI) (Q:VK),Inv X Sq σ H s->RelV x v->Vals xs us->r x xs H Q->
  S8 (Ti X.prog X.w) X.A (call (.builtin id) (v::us)) (EP X Sq σ Q) X.xe s
theorem Vals.one:∀{x:V}{us:List SI},Vals [x] us->∃u,us=[u]/\RelV x u
 | _,_,.cons r .nil=>⟨_,rfl,r⟩
theorem Vals.eraseIdx:∀{xs:List V}{us:List SI}(i:Nat),Vals xs us->Vals (xs.eraseIdx i) (us.eraseIdx i)
 | _,_,_,.nil=>.nil
 | _,_,0,.cons _ t=>t
 | _,_,i + 1,.cons r t=>.cons r (Vals.eraseIdx i t)
theorem xB {α:Type}:∀(l:List α) (i:Nat),(l.eraseIdx i).length<=l.length
 | [],_=>SW _
 | _::_,0=>VD _
 | _::r,i + 1=>Nat.succ_le_succ (xB r i)
section
variable {X:Cx}{Sq:List (Tg×Obj)}{σ:St}{H:Hp}{s:SJ}{l b:Tg}{xs ys zs:List V}
theorem Inv.lset {Su its':List SI}{f:Array SI->Array SI}(I:Inv X Sq σ H s) (hH:H l=some (.lst xs))
 (e:s.heap.get? l=some {cls:=.type "list",data:=.seq Su.toArray n}) (hf:f Su.toArray=its'.toArray) (hv:Vals ys its') (hz:ys.length<=sizeLine):
  Inv X Sq σ (upd H l (.lst ys)) {s with heap:=s.heap.update l (Vo f),toks:=t'}:=by
 have q:=adG e f
 rw [hf] at q
 refine I.write (x:=l) (e:=l) (by rw [hH];exact trivial) (.inl rfl) (λb' u hb hu=>(Xu s.heap (Vo f) (Vi hb)).trans hu) ⟨_,q⟩ ?_
 exact ⟨hz,its',_,hv,q⟩
theorem Inv.lnew {Su:List SI}(I:Inv X Sq σ H s) (hv:Vals ys Su) (hz:ys.length<=sizeLine):
  Inv X Sq σ (upd H s.heap.objs.size (.lst ys)) {s with heap:=s.heap.push {cls:=.type "list",data:=.seq Su.toArray},toks:=t'}:=
 I.laid (λ_ _ q=>SO _ q) (SW _) ⟨hz,Su,0,hv,SY _ rfl⟩
theorem Inv.fresh (I:Inv X Sq σ H s):H s.heap.objs.size=none:=I.hok.fresh (SW _)
theorem Inv.lstM (I:Inv X Sq σ H s) (hH:H l=some (.lst xs)):xs.length<=sizeLine/\∃(Su:List SI) (n:Nat),Vals xs Su/\xs.length=Su.length/\s.heap.get? l=some {cls:=.type "list",data:=.seq Su.toArray n}:=by
 obtain ⟨z,Su,n,r,e⟩:=I.hok l _ hH
 exact ⟨z,Su,n,r,r.length,e⟩
theorem Ag (h:n<=sizeLine):Vp n=false:=by
 unfold Vp
 exact decide_eq_false (by omega)
end
section
variable {X:Cx}
noncomputable def KL:V->List V->Hp->VK->Prop:=λx vs H Q=>∃l xs y,x=.ref l/\vs=[y]/\H l=some (.lst xs)/\xs.length < sizeLine/\Q .non (upd H l (.lst (xs++[y])))
theorem qI:Ie X "list.append" KL:=by
 intro Sq s σ H x vs v us Q I rx rv h
 obtain ⟨l,xs,y,rfl,rfl,hH,hz,q⟩:=h
 cases rx
 obtain ⟨u,rfl,ru⟩:=rv.one
 obtain ⟨z,Su,n,r,hl,e⟩:=I.lstM hH
 refine aaL F.slot_list_append ⟨_,e,rfl⟩ F.entry_list_append (F.args_list_append_2 _ _) (PySem.list_append l Su.toArray n u (by rw [S0];omega)) ⟨e,?_⟩
 refine ⟨.non,_,I.lset (its':=Su++[u]) hH e (by simp) (r.append (.cons ru .nil)) ?_,rfl,q⟩
 rw [Te,Ww]
 omega
noncomputable def KN:V->List V->Hp->VK->Prop:=λx vs H Q=>∃l b xs zs,x=.ref l/\vs=[.ref b]/\H l=some (.lst xs)/\H b=some (.lst zs)/\xs.length + zs.length<=sizeLine/\Q .non (upd H l (.lst (xs++zs)))
theorem OU:Ie X "list.extend" KN:=by
 intro Sq s σ H x vs v us Q I rx rv h
 obtain ⟨l,b,xs,zs,rfl,rfl,hH,hB,hz,q⟩:=h
 cases rx
 obtain ⟨u,rfl,ru⟩:=rv.one
 cases ru
 obtain ⟨z,Su,n,r,hl,e⟩:=I.lstM hH
 obtain ⟨z2,its2,n2,r2,hl2,e2⟩:=I.lstM hB
 have hsz:Su.toArray.size + its2.toArray.size<=sizeLine:=by rw [S0,S0];omega
 have QC:¬(!Su.toArray.isEmpty && Vp (Su.toArray.size + its2.toArray.size))=true:=by
  rw [Ag hsz,Wq]
  exact Tv
 refine aaL aao ⟨_,e,rfl⟩ Z7 (ZS _ _)
  (AutoSeq1.list_extend_list_list_0 l Su.toArray n b its2.toArray n2 QC (by rw [S0];omega) (by omega)) ⟨e,e2,?_⟩
 refine ⟨.non,_,I.lset (its':=Su++its2) hH e (by simp) (r.append r2) ?_,rfl,q⟩
 rw [Te]
 omega
noncomputable def Nh:V->List V->Hp->VK->Prop:=λx vs H Q=>∃l xs i k y,x=.ref l/\vs=[.int i]/\H l=some (.lst xs)/\-(2 ^ 63)<=i/\i < 2 ^ 63/\aan i xs.length=some k/\xs[k]?=some y/\Q y (upd H l (.lst (xs.eraseIdx k)))
theorem GQ:Ie X "list.pop" Nh:=by
 intro Sq s σ H x vs v us Q I rx rv h
 obtain ⟨l,xs,i,k,y,rfl,rfl,hH,h1,h2,hk,hy,q⟩:=h
 cases rx
 obtain ⟨u,rfl,ru⟩:=rv.one
 obtain ⟨t,rfl⟩:=ru
 obtain ⟨z,Su,n,r,hl,e⟩:=I.lstM hH
 obtain ⟨w,hw,rw'⟩:=r.get hy
 refine aaL F.slot_list_pop ⟨_,e,rfl⟩ F.entry_list_pop (F.args_list_pop_2 _ _)
  (MeetsSeq.list_pop_at l Su.toArray n i t k w (fitsIndex_both h1 h2) (by rw [S0,<-hl];exact hk) (by rw [<-UC];exact hw) (by rw [S0];omega)) ⟨e,?_⟩
 refine ⟨y,_,I.lset (its':=Su.eraseIdx k) hH e ?_ (r.eraseIdx k) ?_,rw',q⟩
 ·show Su.toArray.eraseIdxIfInBounds k=(Su.eraseIdx k).toArray
  rw [List.eraseIdxIfInBounds_toArray]
 ·have:=xB xs k
  omega
noncomputable def Ph:R2:=λx y H Q=>∃l b xs zs,x=.ref l/\y=.ref b/\H l=some (.lst xs)/\H b=some (.lst zs)/\xs.length + zs.length<=sizeLine/\∀p,H p=none->Q (.ref p) (upd H p (.lst (xs++zs)))
theorem E4:c_ X (Wt .Add) Ph:=by
 intro Sq s σ H x y v u Q I rx ry h
 obtain ⟨l,b,xs,zs,rfl,rfl,hH,hB,hz,q⟩:=h
 cases rx
 cases ry
 obtain ⟨z,Su,n,r,hl,e⟩:=I.lstM hH
 obtain ⟨z2,its2,n2,r2,hl2,e2⟩:=I.lstM hB
 refine PySem.P.add_list e e2 ?_ (by rw [S0,S0];omega)
 have ea:Su.toArray++its2.toArray=(Su++its2).toArray:=by simp
 rw [ea]
 exact ⟨.ref _,_,I.lnew (t':=s.toks) (r.append r2) (by rw [Te];omega),rfl,q _ I.fresh⟩
end
end L2
namespace Att
open PySem PySem.W PySem.Calls PyProof.Rows
theorem uZ:∀(ns:List Int) (vs:List SI),WellAll P h vs (ns.map adM)->W3 vs ns:=by
 intro ns
 induction ns with
 | nil=>
  intro vs w
  rw [Yx] at w
  cases w
  exact .nil
 | cons n ns ih=>
  intro vs w
  rw [Td] at w
  cases w with
  | cons a b=>
   cases a
   exact .cons _ _ (ih _ b)
theorem FI {l:OpenLaw}(hn:l.most=some n){h:Uz}
 (hpre:l.row.toRowW.claim.pre args=true) (hwl:WellAll P h vals args):
  ∃a vs ns,vals=[VZ a]/\args=[WData.list (ns.map adM)]/\h.get? a=some {cls:=.type "list",data:=.seq vs.toArray}/\W3 vs ns/\ns.length<=n:=by
 have hsh:WShape.hasAll [] args [.list .int]=true:=(pre_splitW hpre).1
 have hc:l.pre.holds [] {args:=args}=true:=(pre_splitW hpre).2
 obtain ⟨d,r,rfl,h1,h2⟩:=hasAllW_cons hsh
 obtain rfl:=hasAllW_nil h2
 obtain ⟨xs,rfl,h3⟩:=hasW_list h1
 obtain ⟨ns,rfl⟩:=items_int h3
 have hlen:ns.length<=n:=by
  unfold OpenLaw.pre at hc
  have h4:(WTm.not (.lt (.lit (.int (n:Int))) (.len (.arg 0)))).holds [] {args:=[.list (ns.map .int)]}=true:=by
   have h4:=(holds_andW hc).1
   rw [hn] at h4
   exact h4
  have h5:=condW_of h4 (w_not (w_lt w_lit (w_len_list (w_arg rfl))))
  rw [SK] at h5
  refine Nat.le_of_not_lt λq=>?_
  have q':(n:Int) < ((ns.length:Nat):Int):=by omega
  first
   | (rw [decide_eq_true q'] at h5;exact absurd h5 (by decide))
   | (simp at h5;omega)
 cases hwl with
 | cons w1 w2=>
  cases w2
  cases w1 with
  | list ho hall=>exact ⟨_,_,ns,rfl,rfl,ho,uZ ns _ hall,hlen⟩
theorem Fi (l:OpenLaw) (args:List WData):l.row.toRowW.claim.post args (.bool true) args=true:=
 postW_of (r:=l.row.toRowW) (X:=(true == true))
  (show adB [] (.bool true) .bool=true by first | rfl | decide | simp [adB,WShape.arms,WShape.armsAll])
  (show (WTm.eq .res (.lit (.bool true))).value [] {args:=args,res:=some (.bool true),after:=args}=some (.bool (true == true)) from w_eq_bool (w_res rfl) w_lit) rfl
theorem AK {l:OpenLaw}{XP:(Str->Option SI)->Uz->Prop}{YP:TL->Uz->Prop}{d:DefRec}
 (hn:l.most=some n) (hdf:d.params.defaults=[])
 (call:∀(w:TL) (s₀ s₁:SJ) (mg mb:Str->Option SI) (fa:Tg) (o:Obj) (pm cd doc:SI) (a:Tg) (vs:List SI) (ns:List Int),
 Ground q loose [] XP w s₀ mg mb s₁.heap->YP w s₁.heap->
 s₁.heap.get? fa=some o->o.data=.func (docDef d.name d.params d.body d.scope pm cd doc)->s₁.heap.CodeRec cd d.name->mg d.name=some (.ref fa)->
 s₁.heap.get? a=some {cls:=.type "list",data:=.seq vs.toArray}->W3 vs ns->ns.length<=n->s₁.gens=#[]->
 Vq (Ti l.prog w) aaM (.call (.ref fa) ⟨[.ref a],[]⟩) (λr s'=>r=.ok (.ret (.bool true))/\OldK s₁.heap s'.heap/\s'.os=s₁.os/\Zo s'.gens) s₁):
  WalkO q loose XP YP l.row.toRowW d [] (λf vs=>ab_ f vs):=by
 intro w s₀ s₁ mg mb G Y fa o pm cd doc dV kV ho hd hcd hD hmg hg args vals as hpre hlay hrd hwl hlo
 obtain rfl:dV=.none:=Dflts.none hD hdf
 obtain rfl:kV=.none:=Dflts.noKw hD
 obtain ⟨a,vs,ns,rfl,rfl,hobj,hints,hlen⟩:=FI hn hpre hwl
 refine enter_call (V_ (call w s₀ s₁ mg mb fa o pm cd doc a vs ns G Y ho (fd_plain hd) hcd hmg hobj hints hlen hg) λr s' hq=>?_)
 obtain ⟨rfl,h2,h3,h4⟩:=hq
 exact ⟨.inl ⟨.bool true,.bool true,[],rfl,λ_=>rfl,.bool true,Fi l _,λ_=>⟨V5,λ_ hm=>(nomatch hm)⟩⟩,h2,h3,h4⟩
end Att
namespace L2
open PySem PySem.Spec PyProof.Rows
theorem yb:∀{vs:List SI}{ns:List Int},W3 vs ns->Vals (ns.map V.int) vs
 | _,_,.nil=>.nil
 | _,_,.cons n t h=>.cons ⟨t,rfl⟩ (yb h)
def Cj (H:Hp):Prop:=∀b,H b=none\/∃o xs,H b=some (.frz o (.lst xs))
theorem GI {K:SG}{mg mb:Str->Option SI}{sp:Sp}{s₁:SJ}{vs:List SI}{ns:List Int}
 (KX:K.In s₁.heap) (hns:s₁.heap.Ns Tw mg) (hb:s₁.heap.Ns ab7 mb) (RS:∀x:Str,x≠"__name__"->mb x=Ue x) (hlim:s₁.heap.NoLimit) (hg:s₁.gens=#[])
 (ha:s₁.heap.get? a=some {cls:=.type "list",data:=.seq vs.toArray}) (hi:W3 vs ns) (hl:ns.length<=sizeLine) (hr:dW k aaM)
 (F:∀base:Uz,K.In base->base.Ns Tw mg->jH P w K mg base CX k fa fd [x] sp) (hbind:∀(s:SJ) (u:SI),abr s fd ⟨[u],[]⟩ [(x,u)])
 (QH:∀H:Hp,Cj H->cB K H a (ns.map V.int)->sp [.ref a] H (λv _=>v=.bl true) λ_ _ _=>False)
 (Ra:∀H e s',CX [] H s₁ (λ_ _ _=>False) e s'->False):
  Vq (Ti P w) aaM (.call (.ref fa) ⟨[.ref a],[]⟩) (λr s'=>r=.ok (.ret (.bool true))/\OldK s₁.heap s'.heap/\s'.os=s₁.os/\Zo s'.gens) s₁:=by
 have rv:=yb hi
 have lenV:=hi.length
 have core:∀H:Hp,Cj H->cB K H a (ns.map V.int)->gu P w H s₁.heap->(∀b,H b≠none->b=a)->(H a≠none->K.lookup a=none)->
   Vq (Ti P w) aaM (.call (.ref fa) ⟨[.ref a],[]⟩) (λr s'=>r=.ok (.ret (.bool true))/\OldK s₁.heap s'.heap/\s'.os=s₁.os/\Zo s'.gens) s₁:=by
  intro H hO hS hok hA hK
  have base_of:∀{b:Tg}{o:Obj},s₁.heap.get? b=some o->H b=none->(oR s₁.heap H).get? b=some o:=λe n=>Gx e n
  have noA:∀{b:Tg}{o:Obj}{es:Array Zu}{ep:Nat},s₁.heap.get? b=some o->o.data=.dict es ep->H b=none:=fun {b o es ep} e d=>by
   cases q:H b with
   | none=>rfl
   | some u=>
    have e':b=a:=hA b (by rw [q];simp)
    subst e'
    rw [ha] at e;cases e
    have d':Data.seq vs.toArray _=Data.dict es ep:=d
    cases d'
  have nsK:∀{b:Tg}{m:Str->Option SI},s₁.heap.Ns b m->(oR s₁.heap H).Ns b m:=fun {b m} ⟨o,es,ep,e,d,r⟩=>⟨o,es,ep,base_of e (noA e d),d,r⟩
  have RC:K.In (oR s₁.heap H):=λb o e=>base_of (KX b o e) (by
   cases q:H b with
   | none=>rfl
   | some u=>
    have e':b=a:=hA b (by rw [q];simp)
    subst e'
    rw [hK (by rw [q];simp)] at e;cases e)
  have hM:Mod K mg (oR s₁.heap H):=⟨RC,nsK hns,⟨mb,nsK hb,RS⟩,let ⟨mc,h1,h2⟩:=hlim;⟨mc,nsK h1,h2⟩⟩
  have e0:Cg P w K mg (oR s₁.heap H) aaM [] s₁ H:=⟨rfl,hM,λb o e=>JY e,aa4 (EG _ _),trivial,λb hb=>absurd (show b∈([]:List Tg) from hb) (by simp),hok,.of_eq hg⟩
  refine V_ ((F _ RC (nsK hns)).run aaM [] s₁ H ⟨[.ref a],[]⟩ [.ref a] [.ref a] _ _ hr e0 (hbind s₁ (.ref a)) (.cons rfl .nil) (QH H hO hS)) λr s' h=>?_
  cases r with
  | error e=>exact (Ra H e s' h).elim
  | ok fl=>
   cases fl with
   | next=>exact WC h
   | brk=>exact WC h
   | cont=>exact WC h
   | ret u=>
    obtain ⟨v,H',os,bare,un,Ru,r',q⟩:=h
    have q':v=.bl true:=q
    subst q'
    obtain rfl:u=WB true:=r'
    refine ⟨rfl,OldK.of_keep λb o e=>?_,os,bare⟩
    cases q:H b with
    | none=>exact un.keep b o e q (by intro z;exact absurd (show b∈([]:List Tg) from z) (by simp)) (by simp)
    | some u=>
     rcases hO b with z | ⟨ob,xs,z⟩
     ·rw [q] at z;cases z
     ·have z2:=un.frzs b ob _ z
      obtain ⟨e1,_⟩:=hok b _ z
      obtain ⟨e2,_⟩:=Ru b _ z2
      rw [e] at e1;cases e1
      exact e2
 cases hk:K.lookup a with
 | some o=>
  have e:=KX a o hk
  rw [ha] at e
  cases e
  refine core (λ_=>none) (λ_=>.inl rfl) (.inr ⟨_,vs.toArray,_,hk,rfl,rfl,rfl,by rw [S0,lenV];exact hl,by simpa using rv⟩) (λb u z=>by have z':(none:Option HO)=some u:=z;cases z') (λb z=>absurd rfl z) λz=>absurd rfl z
 | none=>
  refine core (λb=>if b=a then some (.frz {cls:=.type "list",data:=.seq vs.toArray} (.lst (ns.map V.int))) else none) (λb=>?_) (.inl (.inr ⟨{cls:=.type "list",data:=.seq vs.toArray},if_pos rfl⟩)) (λb u z=>?_) (λb z=>?_) λ_=>hk
  ·by_cases hb:b=a
   ·exact .inr ⟨_,_,if_pos hb⟩
   ·exact .inl (if_neg hb)
  ·by_cases hb:b=a
   ·have z':=(if_pos hb).symm.trans z
    cases z'
    subst hb
    exact ⟨ha,by rw [SK];exact hl,vs,_,rv,ha⟩
   ·have z':=(if_neg hb).symm.trans z
    cases z'
  ·by_cases hb:b=a
   ·exact hb
   ·exact absurd (if_neg hb) z
abbrev Qm {K:SG}{h:Uz}(_:K.In h):SG:=K
theorem K_ {l:Zv}{XP:(Str->Option SI)->Uz->Prop}{YP:TL->Uz->Prop}{d:DefRec}{K:ads->SG}{CX:TL->wL}{sp:TL->Sp}
 (hn:l.most=some n) (hn2:n<=sizeLine) (hdf:d.params.defaults=[]) (hr:dW k aaM)
 (hY:∀(w:TL) (h:Uz),YP w h->(K w.params).In h)
 (F:∀(w:TL) (mg:Str->Option SI) (fa:Tg) (h:Uz),(K w.params).In h->h.Ns Tw mg->mg d.name=some (.ref fa)->
 ∃fd:TM,(∀(s:SJ) (u:SI),abr s fd ⟨[u],[]⟩ [(x,u)])/\
 ∀base:Uz,(K w.params).In base->base.Ns Tw mg->jH l.prog w (K w.params) mg base (CX w) k fa fd [x] (sp w))
 (QH:∀(w:TL) (H:Hp) (a:Tg) (ns:List Int),ns.length<=n->Cj H->cB (K w.params) H a (ns.map V.int)->sp w [.ref a] H (λv _=>v=.bl true) λ_ _ _=>False)
 (Ra:∀(w:TL) (H:Hp) (s:SJ) (e:SI) (s':SJ),CX w [] H s (λ_ _ _=>False) e s'->False):
  acv q loose XP YP l.row.toRowW d [] (λf vs=>ab_ f vs):=by
 refine Att.AK hn hdf λw s₀ s₁ mg mb fa o pm cd doc a vs ns G Y ho hd hcd hmg hobj hints hlen hg=>?_
 have KX:=hY w _ Y
 obtain ⟨fd,hb,hF⟩:=F w mg fa _ KX G.T.g hmg
 exact GI KX G.T.g G.T.b G.T.builtins G.T.nolimit hg hobj hints (Tz hlen hn2) hr hF hb (λH hO hS=>QH w H a ns hlen hO hS) λH e s'=>Ra w H s₁ e s'
noncomputable def fq (s:V0):Arguments:=match s with
 | .FunctionDef _ a _ _ _ _ _ _ _ _=>a
 | _=>{posonlyargs:=[],args:=[],vararg:=none,kwonlyargs:=[],kw_defaults:=[],kwarg:=none,defaults:=[]}
noncomputable def cV (s:V0):List V0:=match s with
 | .FunctionDef _ _ b _ _ _ _ _ _ _=>b
 | _=>[]
noncomputable def bA (s:V0):VN:=match s with
 | .FunctionDef _ _ _ _ _ _ sc _ _ _=>sc
 | _=>{kind:=.function,names:=[],isGenerator:=false,isCoroutine:=false}
abbrev pH:wL:=λ_ _ _ _ _ _=>False
abbrev E0:XK:=λ_ _ _=>False
theorem Dh:Passes pH X E0:=λ_ _ _ _ _ _ _ h=>h.elim
structure l_ (K:SG) (x Sx:Str) (st:V0) (f:Tg) (fd:TM):Prop where
 ex:∃(oc:SI) (od:Option Tg) (kV doc pm:SI) (an:Option Tg) (cdv ct:SI) (osl:Array (Option SI)),
  fd=UZ x Sx (fq st) (cV st) (bA st) .none kV doc pm an cdv ct/\K.lookup f=some ⟨oc,od,.func fd,osl⟩/\XJ K cdv Sx=true
 kp:Wo K (.ref f)=true
section
variable {P:S_}{w:TL}{K:SG}{mg:Str->Option SI}{base:Uz}
theorem l_.ok {st:V0}{N ps:List Str}{sp:Sp}(F:l_ K x Sx st f fd) (S:gF N ps (bA st)) (len:∀vs H Q E,sp vs H Q E->vs.length=ps.length)
 (hbody:∀(cdv:SI) (A:TR) (outer:List Env) (s:SJ) (H:Hp) (vs:List V) (Q:VK) (E:XK),dW k (A.deeper (YI Sx (bA st) s.heap.objs.size f cdv))->sp vs H Q E->
 ∃t,kC (tH pH P w K mg base N Sx (bA st) f cdv A outer s H E).nox (cV st) t/\t {nx:=λ_ H'=>Q .non H',rt:=Q} (start N vs) H):jH P w K mg base pH (k + 1) f fd ps sp:=by
 obtain ⟨oc,od,kV,doc,pm,an,cdv,ct,osl,rfl,lk,hcd⟩:=F.ex
 refine N2 lk hcd S len λA outer s H vs Q E hr QH=>?_
 obtain ⟨t,h,q⟩:=hbody cdv A outer s H vs Q E hr QH
 exact ⟨t,h.nox,q⟩
theorem l_.binds {st:V0}{ps:List Str}(F:l_ K x Sx st f fd)
 (h:∀(kV doc pm:SI) (an:Option Tg) (cdv ct:SI) (us:List SI),us.length=ps.length->aag (UZ x Sx (fq st) (cV st) (bA st) .none kV doc pm an cdv ct) ⟨us,[]⟩=pure (ps.zip us)):Binds K fd ps []:=by
 obtain ⟨oc,od,kV,doc,pm,an,cdv,ct,osl,rfl,lk,hcd⟩:=F.ex
 exact .all (h kV doc pm an cdv ct)
theorem Ez {st:V0}{kV doc pm cdv ct:SI}(l:K.lookup f=some ⟨oc,od,.func (UZ x Sx (fq st) (cV st) (bA st) .none kV doc pm an cdv ct),osl⟩)
 (c:XJ K cdv Sx=true) (k:Wo K (.ref f)=true):l_ K x Sx st f (UZ x Sx (fq st) (cV st) (bA st) .none kV doc pm an cdv ct):=⟨⟨oc,od,kV,doc,pm,an,cdv,ct,osl,rfl,l,c⟩,k⟩
end
theorem L7 {A B:Prop}(h:B):if false=true then A else B:=by
 rw [if_neg Tv]
 exact h
theorem L8 {A B:Prop}(h:A):if true=true then A else B:=by
 rw [if_pos rfl]
 exact h
def aU (H H':Hp):Prop:=∀b o,H b=some o->H' b=some o
theorem aU.refl (H:Hp):aU H H:=λ_ _ h=>h
theorem aU.trans {H H1 H2:Hp}(a:aU H H1) (b:aU H1 H2):aU H H2:=λc o h=>b c o (a c o h)
theorem aU.free {H H':Hp}(e:aU H H') (h:H' l=adg):H l=adg:=by
 cases q:H l with
 | none=>rfl
 | some o=>
  rw [e l o q] at h
  cases h
theorem aU.seq {K:SG}{H H':Hp}{a:Tg}{xs:List V}(e:aU H H') (h:cB K H a xs):cB K H' a xs:=by
 rcases h with (h | ⟨o,h⟩) | h
 ·exact .inl (.inl (e _ _ h))
 ·exact .inl (.inr ⟨o,e _ _ h⟩)
 ·exact .inr h
end L2
set_option maxHeartbeats 4000000
namespace K72
open PySem
def top (i:Nat):V0:=PySem.Challenge.pw_pickalike_k72_maps_told.main.body.getD i (.Pass ⟨0,0,0,0⟩)
end K72
namespace K72
open PySem PySem.Spec PyProof.Rows L2
abbrev E (P:ads) (k:Str) (t:Nat) (v:SI):Zu:=⟨PyData.keyHash P k,.str k t,v⟩
abbrev cT (P:ads) (k:Str) (t r:Nat):Zu:=E P k t (.ref r)
noncomputable def OT (n:Str) (t l k a:Nat) (v w:SI) (r u:Nat):Obj:=⟨.type "code",none,.fields #[.str n t,.str n (t + 1),.str "/claim/cut.py" (t + 2),.int l 0,.int k 0,.int 0 0,.int 0 0,.int 3 0,.ref a,.bool true,.int 181 0,.ref (a + 1),.none,v,w,.ref r,.int u 0,.int l 0,.str "/claim/cut.py" (u + 1)],#[]⟩
def gz (n:Str) (t l k a u:Nat):Obj:=OT n t l k a (.ref (a + 2)) (.ref (a + 3)) (a + 4) u
def nL (n:Str) (t l k a u:Nat):Obj:=OT n t l k a .none .none (a + 2) u
noncomputable def dH (n:Str) (k:Nat) (m:SI) (c:Nat):Obj:=⟨.type "function",none,.func (UZ n n (fq (top k)) (cV (top k)) (bA (top k)) .none .none .none m none (.ref c) .none),#[]⟩
def Gv:SI:=.str "pickalike.worlds" 273
def Gw:SI:=.str "pickalike.checks" 296
def wm:SI:=.str "pickalike.pairings" 325
def zS:SI:=.str "pickalike.layers" 373
def t6:SI:=.str "pickalike.counted" 412
def jw:SI:=.str "law_pickalike_k72_maps_told" 471
def KF (P:ads):SG:=
(nat_lit 2,⟨.none,none,(.dict #[] 0),#[]⟩)::
(nat_lit 3,⟨(.type "dict"),none,(.dict #[E P "__name__" 165 (.str "law_pickalike_k72_maps_told" 471),E P "__doc__" 166 .none,E P "__package__" 167 .none,E P "__loader__" 168 (.builtin "__main__.__loader__#opaque"),E P "__spec__" 169 .none,cT P "__annotations__" 170 6,cT P "__builtins__" 171 4,E P "__file__" 173 (.str "/claim/cut.py" 172),E P "__cached__" 174 .none,cT P "PickError" 206 24,cT P "NoTongue" 222 37,cT P "TooMany" 247 56,cT P "NoCount" 272 75,cT P "is_whole" 281 84,cT P "tongue_of" 287 89,cT P "need_tongue" 295 96,E P "MOST_SMALL" 299 (.int 4 298),cT P "need_few_points" 307 103,cT P "need_small" 315 110,cT P "need_count" 324 117,cT P "rising" 333 124,cT P "view" 339 129,cT P "views" 345 134,cT P "agree" 355 141,cT P "goes_behind" 366 148,cT P "pairings" 372 153,E P "MOST_DEPTH" 376 (.int 6 375),cT P "added" 384 160,cT P "peeled" 390 165,cT P "pairings_with" 396 170,cT P "in_layer" 405 177,cT P "layers_of" 411 182,cT P "grid_of" 419 187,cT P "map_behind" 429 194,cT P "choices_in" 435 199,cT P "mapped_still" 443 206,cT P "counted_depths" 449 211,cT P "counted_layers" 458 218,cT P "counted_map" 470 225,cT P "_law_cell_at" 480 232,cT P "_law_more" 491 239,cT P "_law_freed" 499 246,cT P "_law_names" 505 251,cT P "_law_world" 523 258,cT P "_law_flipped" 533 265,cT P "_law_turned" 539 270,cT P "_law_two" 556 277,cT P "_law_at" 567 284,cT P "_law_fit" 583 291,cT P "_law_with" 591 298,cT P "_law_pairings" 607 305,cT P "_law_is_map" 613 310,cT P "law" 630 317] 53),#[]⟩)::
(nat_lit 83,gz "is_whole" 275 17 1 78 279)::
(nat_lit 84,dH "is_whole" 6 Gv 83)::
(nat_lit 88,nL "tongue_of" 282 19 1 85 285)::
(nat_lit 89,dH "tongue_of" 7 Gv 88)::
(nat_lit 95,gz "need_tongue" 288 22 2 90 293)::
(nat_lit 96,dH "need_tongue" 8 Gv 95)::
(nat_lit 102,gz "need_few_points" 300 27 1 97 305)::
(nat_lit 103,dH "need_few_points" 11 Gw 102)::
(nat_lit 109,gz "need_small" 308 31 2 104 313)::
(nat_lit 110,dH "need_small" 12 Gw 109)::
(nat_lit 116,gz "need_count" 316 34 3 111 322)::
(nat_lit 117,dH "need_count" 13 Gw 116)::
(nat_lit 123,gz "rising" 327 38 1 118 331)::
(nat_lit 124,dH "rising" 15 wm 123)::
(nat_lit 128,nL "view" 334 42 3 125 337)::
(nat_lit 129,dH "view" 16 wm 128)::
(nat_lit 133,nL "views" 340 47 1 130 343)::
(nat_lit 134,dH "views" 17 wm 133)::
(nat_lit 140,gz "agree" 346 49 4 135 353)::
(nat_lit 141,dH "agree" 18 wm 140)::
(nat_lit 147,gz "goes_behind" 356 51 4 142 364)::
(nat_lit 148,dH "goes_behind" 19 wm 147)::
(nat_lit 152,nL "pairings" 367 58 3 149 370)::
(nat_lit 153,dH "pairings" 20 wm 152)::
(nat_lit 159,gz "added" 377 72 2 154 382)::
(nat_lit 160,dH "added" 23 zS 159)::
(nat_lit 164,nL "peeled" 385 74 2 161 388)::
(nat_lit 165,dH "peeled" 24 zS 164)::
(nat_lit 169,nL "pairings_with" 391 84 3 166 394)::
(nat_lit 170,dH "pairings_with" 25 zS 169)::
(nat_lit 176,gz "in_layer" 397 86 3 171 403)::
(nat_lit 177,dH "in_layer" 26 zS 176)::
(nat_lit 181,nL "layers_of" 406 88 2 178 409)::
(nat_lit 182,dH "layers_of" 27 zS 181)::
(nat_lit 186,nL "grid_of" 414 91 3 183 417)::
(nat_lit 187,dH "grid_of" 29 t6 186)::
(nat_lit 193,gz "map_behind" 420 95 2 188 427)::
(nat_lit 194,dH "map_behind" 30 t6 193)::
(nat_lit 198,nL "choices_in" 430 104 3 195 433)::
(nat_lit 199,dH "choices_in" 31 t6 198)::
(nat_lit 205,gz "mapped_still" 436 106 2 200 441)::
(nat_lit 206,dH "mapped_still" 32 t6 205)::
(nat_lit 210,nL "counted_depths" 444 108 3 207 447)::
(nat_lit 211,dH "counted_depths" 33 t6 210)::
(nat_lit 217,gz "counted_layers" 450 111 3 212 456)::
(nat_lit 218,dH "counted_layers" 34 t6 217)::
(nat_lit 224,gz "counted_map" 459 115 4 219 468)::
(nat_lit 225,dH "counted_map" 35 t6 224)::
(nat_lit 231,gz "_law_cell_at" 473 122 2 226 478)::
(nat_lit 232,dH "_law_cell_at" 37 jw 231)::
(nat_lit 238,gz "_law_more" 481 126 2 233 489)::
(nat_lit 239,dH "_law_more" 38 jw 238)::
(nat_lit 245,gz "_law_freed" 492 139 2 240 497)::
(nat_lit 246,dH "_law_freed" 39 jw 245)::
(nat_lit 250,nL "_law_names" 500 145 2 247 503)::
(nat_lit 251,dH "_law_names" 40 jw 250)::
(nat_lit 257,gz "_law_world" 506 160 4 252 521)::
(nat_lit 258,dH "_law_world" 41 jw 257)::
(nat_lit 264,gz "_law_flipped" 524 179 2 259 531)::
(nat_lit 265,dH "_law_flipped" 42 jw 264)::
(nat_lit 269,nL "_law_turned" 534 186 2 266 537)::
(nat_lit 270,dH "_law_turned" 43 jw 269)::
(nat_lit 276,gz "_law_two" 540 199 2 271 554)::
(nat_lit 277,dH "_law_two" 44 jw 276)::
(nat_lit 283,gz "_law_at" 557 217 3 278 565)::
(nat_lit 284,dH "_law_at" 45 jw 283)::
(nat_lit 290,gz "_law_fit" 568 222 3 285 581)::
(nat_lit 291,dH "_law_fit" 46 jw 290)::
(nat_lit 297,gz "_law_with" 584 234 2 292 589)::
(nat_lit 298,dH "_law_with" 47 jw 297)::
(nat_lit 304,gz "_law_pairings" 592 236 3 299 605)::
(nat_lit 305,dH "_law_pairings" 48 jw 304)::
(nat_lit 309,nL "_law_is_map" 608 249 5 306 611)::
(nat_lit 310,dH "_law_is_map" 49 jw 309)::
(nat_lit 316,gz "law" 614 258 1 311 628)::
(nat_lit 317,dH "law" 50 jw 316)::[]
noncomputable def VW:S_:={PySem.Challenge.pw_pickalike_k72_maps_told with main:={PySem.Challenge.pw_pickalike_k72_maps_told.main with body:=[top 1,top 2,top 3,top 4,top 6,top 7,top 8,top 10,top 11,top 12,top 13,top 15,top 16,top 17,top 18,top 19,top 20,top 22,top 23,top 24,top 25,top 26,top 27,top 29,top 30,top 31,top 32,top 33,top 34,top 35,top 37,top 38,top 39,top 40,top 41,top 42,top 43,top 44,top 45,top 46,top 47,top 48,top 49,top 50]}}
noncomputable def HK:W.Hook:=W.kHook KF [2,3,83,84,88,89,95,96,102,103,109,110,116,117,123,124,128,129,133,134,140,141,147,148,152,153,159,160,164,165,169,170,176,177,181,182,186,187,193,194,198,199,205,206,210,211,217,218,224,225,231,232,238,239,245,246,250,251,257,258,264,265,269,270,276,277,283,284,290,291,297,298,304,305,309,310,316,317] (λ_=>by kernel_rfl)
def XT:SJ->Bool:=λs=>W.xlAt VW [] s && W.recOk (acX PySem.Challenge.rw_pickalike_k72_maps_told.row.toRowW) s
theorem look:acd PySem.Challenge.rw_pickalike_k72_maps_told=true:=by decide +kernel
theorem left:W.LeftO PySem.Challenge.rw_pickalike_k72_maps_told.row.prog VW [] XT (adH HK) (adI HK) 4370:=λw=>by kernel_rfl
end K72
namespace DX
open PySem PySem.Spec
open Sem (wp)
end DX
namespace DX
open PySem PySem.Spec
end DX
namespace DX
open PySem PySem.Spec PyProof.Rows L2
def NV (a C:Tg) (dx:Option Tg):Uz->Prop:=λh=>∃oe vs,h.get? a=some oe/\oe.cls=.ref C/\oe.dict=dx/\oe.data=.fields vs
abbrev XO (a C:Tg) (dx:Option Tg):HO:=.ext (NV a C dx)
end DX
namespace DX
open PySem PySem.Spec PyProof.Rows
open Sem (wp)
section
variable {prog:S_}{w:TL}{A:TR}{E:SI->SJ->Prop}{s:SJ}{K:SG}{x C:Tg}{ox:Obj}{od:Option Obj}{name:Str}
theorem Gh {M:adA}{Q:Unit->SJ->Prop}(X:K.In s.heap) (I:WR s.heap x ox C od) (hm:WE K C (.type "BaseException")=some true) (hq:Q () s):S8 M A (Zb "BaseException.__getattribute__" ⟨[.ref x,nameV],[]⟩) Q E s:=by
 have hk:builtinKind "BaseException.__getattribute__"=some .slot:=by decide +kernel
 have QH:splitId "BaseException.__getattribute__"=some ("BaseException","__getattribute__"):=by decide +kernel
 have ha:=F.args_bexc_ga (.ref x) nameV
 have L1:=I.type (M:=M)
 have L2:=W.looks_mroIn (M:=M) X hm
 simp only [Zb,hk,QH]
 have L:W.Looks M s.heap (ace (.ref x) (.type "BaseException")) true:=L1.andThen L2
 refine SE (L.here ?_)
 obtain ⟨h,g,d,t,os⟩:=s
 repeat (any_goals (first | assumption | wp_step))
theorem entry_class {Q:Fin->SJ->Prop}(X:K.In s.heap) (I:WR s.heap x ox C od) (hf:Yg K C od "__class__"=some (.bind (.builtin "getset_descriptor.__get__") (.builtin "object.__class__"))) (hm:WE K C (.type "object")=some true) (h:Q (.done (.ret (.ref C))) s):
  S8 (Ti prog w) A (Xd.«object.__getattribute__» ⟨[.ref x,.str "__class__" tk],[]⟩) Q E s:=by
 obtain ⟨hh,g,d,t,os⟩:=s
 have L0:=I.type (M:=Ti prog w)
 have L1:=W.looks_find (M:=Ti prog w) X I hf
 refine SE (SH (SE (SH (SE (L0.at (SE (L1.at ?_)))))))
 show S8 _ _ (holding [_] (call _ [_,.ref x,.ref C]) >>= ret) _ _ _
 exact SE (TQ (aaG (W.class_get (ox:=ox) (od:=od) X I hm (SH h))))
theorem LU {tk:Tok}{fill expr:Bool}{Q:SI->SJ->Prop}(X:K.In s.heap) (I:WR s.heap x ox C od) (hga:VU K (.ref C) "__getattribute__"=some (some (.builtin "BaseException.__getattribute__"))) (hgt:VU K (.ref C) "__getattr__"=some none)
  (h:Vq (Ti prog w) A (.call (.builtin "BaseException.__getattribute__") ⟨[.ref x,.str name tk],[]⟩) (λr s'=>match r with | .ok (.ret v)=>S8 (Ti prog w) A (handedOut v) Q E s' | _=>False) s):S8 (Ti prog w) A (getAttrBy (.ref x) (.str name tk) fill expr) Q E s:=by
 obtain ⟨hh,g,d,t,os⟩:=s
 have L0:=I.type (M:=Ti prog w)
 have L1:=ZT (M:=Ti prog w) X hga
 have L2:=ZT (M:=Ti prog w) X hgt
 have Sg:(YZ "BaseException.__getattribute__" == YZ "object.__getattribute__")=false:=by decide +kernel
 unfold getAttrBy
 refine TQ (SE (L0.at (SE (L1.at ?_))))
 dsimp only
 rw [Sg,Wq,if_neg (by decide)]
 unfold getAttrByItsOwn
 refine SE (L2.at ?_)
 have h0:(expr && onTheHeap (YZ "BaseException.__getattribute__"))=false:=by cases expr <;> rfl
 refine SE (We (TQ ?_))
 unfold callGetattribute
 rw [h0,if_neg (by decide)]
 unfold boundAndCalled
 rw [Yh.ga.bind (.ref x)]
 refine SE (SH (aaG (V_ h λr s' q=>?_)))
 match r,q with
 | .ok (.ret v),q=>exact q
theorem get_class {Q:Option SI->SJ->Prop}(X:K.In s.heap) (I:WR s.heap x ox C od) (hga:VU K (.ref C) "__getattribute__"=some (some (.builtin "BaseException.__getattribute__"))) (hgt:VU K (.ref C) "__getattr__"=some none)
  (hm:WE K C (.type "BaseException")=some true) (hf:Yg K C od "__class__"=some (.bind (.builtin "getset_descriptor.__get__") (.builtin "object.__class__"))) (ho:WE K C (.type "object")=some true) (h:Q (some (.ref C)) {s with toks:=s.toks + 1}):
  S8 (Ti prog w) A (getAttr? (.ref x) "__class__") Q E s:=by
 obtain ⟨hp,g,d,t,os⟩:=s
 unfold getAttr? getAttrBy?
 refine SE (wpAny_mkText (SE (We (LU (s:=⟨hp,g,d,t + 1,os⟩) X I hga hgt ?_))))
 refine ZU Yh.ga.plain F.entry_bexc_ga (Gh (s:=⟨hp,g,d,t + 1,os⟩) X I hm (entry_class (s:=⟨hp,g,d,t + 1,os⟩) X I hf ho ?_))
 exact SH (SH h)
end
end DX
namespace DX
open PySem PySem.Spec PyProof.Rows L2
abbrev AH:List SI:=[.type "ValueError",.type "Exception",.type "BaseException",.type "object"]
def quiet:List Str:=["__init__","__setattr__","name","letter","many","told","point","row"]
structure GX (K:SG) (P:Tg):Prop where
 gt:aaN K (.builtin "object.__class__") "__get__"=some (some (.builtin "getset_descriptor.__get__"))
 tk:abt K (.builtin "object.__class__")=some true
 lk:∃nm q N bs sn sub ab col dd k0 k1 k2 k3 k5,K.lookup P=some (excClassObj nm q P N bs AH true sn sub ab col dd k0 k1 k2 k3 k5 "ValueError.__new__")/\∀h,K.In h->∃m,h.Ns N m/\∀n∈quiet,m n=none
structure XE (K:SG) (P C:Tg):Prop where
 lk:∃nm q N bs sn sub ab col dd k0 k1 k2 k3 k5,K.lookup C=some (excClassObj nm q C N bs (.ref P::AH) true sn sub ab col dd k0 k1 k2 k3 k5 "ValueError.__new__")
 ga:VU K (.ref C) "__getattribute__"=some (some (.builtin "BaseException.__getattribute__"))
 gt:VU K (.ref C) "__getattr__"=some none
 cl:VU K (.ref C) "__class__"=some (some (.builtin "object.__class__"))
section
variable {K:SG}{P C:Tg}
theorem Ej (X:XE K P C):∃cd,Xe K C=some cd/\cd.mro=.ref C::.ref P::AH/\cd.hasDict=true/\W.typeIn K (.ref C)=some (.type "type"):=by
 obtain ⟨nm,q,N,bs,sn,sub,ab,col,dd,k0,k1,k2,k3,k5,l⟩:=X.lk
 have h1:Xe K C=some {name:=nm,bases:=bs,mro:=.ref C::.ref P::AH,ns:=N,qualname:=q,hasDict:=true,slotNames:=sn,subclasses:=sub,abstract:=ab,collection:=col,hasDel:=false}:=by
  unfold Xe
  rw [l]
 refine ⟨_,h1,rfl,rfl,?_⟩
 show (K.lookup C).map (·.cls)=_
 rw [l]
 rfl
theorem Ad (X:XE K P C) (b:SI):WE K C b=some ((VZ C::.ref P::AH).contains b):=by
 obtain ⟨cd,h1,h2,_⟩:=Ej X
 unfold WE
 rw [h1,Zc,h2]
 rfl
end
theorem Mk {K:SG}{P C:Tg}(X:XE K P C){T:String}(h1:abu T=true) (h2:AH.contains (.type T)=false):Z0 K (.ref C) (.type T)=some false:=by
 unfold Z0 W.kitCls
 rw [if_neg (by simp)]
 simp only [h1,if_true]
 show WE K C _=_
 rw [Ad X,aap,aap,h2]
 rfl
theorem JC {K:SG}{C:Tg}{od:Option Obj}{name:Str}{a g:SI}(hc:(Xe K C).isSome=true) (ha:VU K (.ref C) name=some (some a)) (hg:aaN K a "__get__"=some (some g)) (ht:abt K a=some true):Yg K C od name=some (.bind g a):=by
 obtain ⟨cd,hc⟩:=Ub.mp hc
 unfold Yg
 rw [hc,Zc,ha,Zc]
 simp [hg,ht]
theorem GF {K:SG}{e P C:Tg}(G:GX K P) (E:XE K P C):W.KitX K (.ref e) (.ref C) (λh=>∃ox od,WR h e ox C od):=by
 obtain ⟨cd,hc,hm,hd,ht⟩:=Ej E
 refine ⟨λM h _ ⟨ox,od,I⟩=>I.type,λM h X _=>?_,λh tp dd Su n sl X htp=>?_,λX ⟨ox,od,I⟩ k=>?_⟩
 ·unfold Xe at hc
  split at hc
  ·rename_i ho
   intro A' Q' E' s' k q
   unfold isType loadHead
   exact SE (wpAny_loadPart (k _ _ (X _ _ ho)) (SH q))
  ·cases hc
 ·refine Bool.eq_false_iff.mpr λq=>?_
  obtain rfl:C=tp:=adU (beq_iff_eq.mp q)
  unfold Xe at hc
  split at hc
  ·rename_i ho
   have z:=(X _ _ ho).symm.trans htp
   cases z
  ·cases hc
 ·exact get_class X I E.ga E.gt (by rw [Ad E];simp) (JC (by rw [hc];rfl) E.cl G.gt G.tk) (by rw [Ad E];simp) k
end DX
namespace DL
open PySem PySem.Spec PyProof.Rows L2
inductive D where
 | non | bl (b:Bool) | int (i:Int) | str (x:Str) | tup (xs:List D) | lst (xs:List D) | emp
 | exn (cls:Str) (ns:List Str) (ds:List D)
  | dct (ks vs:List D)
mutual
noncomputable def isKey:D->Bool
 | .int _=>true
 | .tup xs=>areKeys xs
 | _=>false
noncomputable def areKeys:List D->Bool
 | []=>true
 | x::xs=>isKey x && areKeys xs
end
mutual
noncomputable def bV:D->Int
 | .int i=>WN i
 | .tup xs=>acf (Ux (cH xs))
 | _=>0
noncomputable def cH:List D->List Int
 | []=>[]
 | x::xs=>bV x::cH xs
end
mutual
noncomputable def dep:D->Nat
 | .tup xs=>deps xs + 1
 | .lst xs=>deps xs + 1
 | .emp=>5000
 | .exn _ _ _=>5000
 | .dct _ _=>5000
 | _=>0
noncomputable def deps:List D->Nat
 | []=>0
 | x::xs=>max (dep x) (deps xs)
end
structure Lk (ks:List D):Prop where
 key:areKeys ks=true
 nd:ks.Nodup
 dp:deps ks<=8
 tp:∀k∈ks,∃xs,k=.tup xs
def yS (p:Int×V×V) (e:Zu):Prop:=e.hash=p.1/\RelV p.2.1 e.key/\RelV p.2.2 e.val
abbrev lJ (a:Tg) (ep:Nat) (SA:List (Int×V×V)):HO:=.ext λh=>∃o es,h.get? a=some o/\o.ExactDict/\o.data=.dict es ep/\YG yS SA es.toList
noncomputable def XF (J:Hp) (dx:Option Tg) (ns:List Str) (vs:List V):Prop:=(dx=none/\ns=[]/\vs=[])\/∃d,dx=some d/\ns.length=vs.length/\J d=some (.xd (ns.zip vs))
theorem XF.mono {J J':Hp}(e:aU J J') (h:XF J dx ns vs):XF J' dx ns vs:=by
 rcases h with h | ⟨d,h1,h2,h3⟩
 ·exact .inl h
 ·exact .inr ⟨d,h1,h2,e _ _ h3⟩
mutual
inductive Rep (K:SG) (J:Hp):D->V->Prop
 | non:Rep K J .non .non
 | bl (b:Bool):Rep K J (.bl b) (.bl b)
 | int (i:Int):Rep K J (.int i) (.int i)
 | str (x:Str):Rep K J (.str x) (.str x)
 | emp {a:Tg}:J a=some (.dK [])->Rep K J .emp (.ref a)
 | tup {a:Tg}{vs:List V}{ds:List D}:cL K J a vs->aH K J ds vs->Rep K J (.tup ds) (.ref a)
 | lst {a:Tg}{vs:List V}{ds:List D}:cB K J a vs->aH K J ds vs->Rep K J (.lst ds) (.ref a)
 | exn {a C:Tg}{dx:Option Tg}{cls:Str}{ns:List Str}{vs:List V}{ds:List D}:J a=some (DX.XO a C dx)->T5 K Tw cls=some (some (.ref C))->XF J dx ns vs->aH K J ds vs->(∃P,DX.GX K P/\DX.XE K P C)->Rep K J (.exn cls ns ds) (.ref a)
 | dct {a:Tg}{ep:Nat}{ks vs:List D}{us ws:List V}:J a=some (lJ a ep ((cH ks).zip (us.zip ws)))->aH K J ks us->aH K J vs ws->Lk ks->(a == Wn)=false/\ks.length=vs.length->Rep K J (.dct ks vs) (.ref a)
inductive aH (K:SG) (J:Hp):List D->List V->Prop
 | nil:aH K J [] []
 | cons {d:D}{v:V}{ds:List D}{vs:List V}:Rep K J d v->aH K J ds vs->aH K J (d::ds) (v::vs)
end
theorem eO {K:SG}{H H':Hp}{a:Tg}{xs:List V}(e:aU H H') (h:cL K H a xs):cL K H' a xs:=by
 rcases h with (h | ⟨o,h⟩) | h
 ·exact .inl (.inl (e _ _ h))
 ·exact .inl (.inr ⟨o,e _ _ h⟩)
 ·exact .inr h
mutual
theorem Rep.mono {K:SG}{J J':Hp}(e:aU J J'):∀{d:D}{v:V},Rep K J d v->Rep K J' d v
 | _,_,.non=>.non
 | _,_,.bl b=>.bl b
 | _,_,.int i=>.int i
 | _,_,.str x=>.str x
 | _,_,.emp h=>.emp (e _ _ h)
 | _,_,.tup h hs=>.tup (eO e h) (aH.mono e hs)
 | _,_,.lst h hs=>.lst (e.seq h) (aH.mono e hs)
 | _,_,.exn h1 h2 h3 hs hx=>.exn (e _ _ h1) h2 (h3.mono e) (aH.mono e hs) hx
 | _,_,.dct h h1 h2 h3 h4=>.dct (e _ _ h) (aH.mono e h1) (aH.mono e h2) h3 h4
theorem aH.mono {K:SG}{J J':Hp}(e:aU J J'):∀{ds:List D}{vs:List V},aH K J ds vs->aH K J' ds vs
 | _,_,.nil=>.nil
 | _,_,.cons h hs=>.cons (Rep.mono e h) (aH.mono e hs)
end
section
variable {K:SG}{J:Hp}
theorem aH.length:∀{ds:List D}{vs:List V},aH K J ds vs->ds.length=vs.length
 | _,_,.nil=>rfl
 | _,_,.cons _ hs=>congrArg (· + 1) (aH.length hs)
theorem aH.get:∀{ds:List D}{vs:List V}{i:Nat}{d:D},aH K J ds vs->ds[i]?=some d->∃v,vs[i]?=some v/\Rep K J d v
 | _,_,_,_,.nil,e=>by simp at e
 | _,_,0,_,.cons r _,e=>by simp at e;subst e;exact ⟨_,rfl,r⟩
 | _,_,i + 1,d,.cons _ t,e=>by
  obtain ⟨v,h1,h2⟩:=aH.get (i:=i) (d:=d) t (by simpa using e)
  exact ⟨v,by simpa using h1,h2⟩
theorem aH.append:∀{ds es:List D}{vs us:List V},aH K J ds vs->aH K J es us->aH K J (ds++es) (vs++us)
 | _,_,_,_,.nil,s=>s
 | _,_,_,_,.cons r t,s=>.cons r (aH.append t s)
theorem aH.take:∀{ds:List D}{vs:List V}(n:Nat),aH K J ds vs->aH K J (ds.take n) (vs.take n)
 | _,_,0,_=>.nil
 | _,_,_ + 1,.nil=>.nil
 | _,_,n + 1,.cons r t=>.cons r (aH.take n t)
theorem aH.drop:∀{ds:List D}{vs:List V}(n:Nat),aH K J ds vs->aH K J (ds.drop n) (vs.drop n)
 | _,_,0,r=>r
 | _,_,_ + 1,.nil=>.nil
 | _,_,n + 1,.cons _ t=>aH.drop n t
end
noncomputable def eu (K:SG) (J H:Hp) (a:Tg) (ks vs:List D):Prop:=∃us ws ep,H a=some (lJ a ep ((cH ks).zip (us.zip ws)))/\aH K J ks us/\aH K J vs ws/\Lk ks/\(a == Wn)=false/\ks.length=vs.length
theorem eu.mono {K:SG}{J J' H H':Hp}{a:Tg}{ks vs:List D}(e:aU J J') (e':aU H H'):eu K J H a ks vs->eu K J' H' a ks vs
 | ⟨us,ws,ep,h1,h2,h3,h4⟩=>⟨us,ws,ep,e' _ _ h1,h2.mono e,h3.mono e,h4⟩
theorem eu.ne {K:SG}{J H:Hp}{a:Tg}{ks vs:List D}:eu K J H a ks vs->H a≠none
 | ⟨us,ws,ep,h1,_⟩=>by rw [h1];intro z;cases z
theorem eu.rep {K:SG}{J H:Hp}{a:Tg}{ks vs:List D}(e:aU J H):eu K J H a ks vs->Rep K H (.dct ks vs) (.ref a)
 | ⟨us,ws,ep,h1,h2,h3,h4,h5⟩=>.dct h1 (h2.mono e) (h3.mono e) h4 h5
structure Exc where
 cls:Str
 ns:List Str
 ds:List D
inductive M (α:Type) where
 | bad | ok (a:α) | exc (x:Exc)
noncomputable def M.bind {α β:Type}:M α->(α->M β)->M β
 | .bad,_=>.bad
 | .ok a,f=>f a
 | .exc x,_=>.exc x
instance:Monad M where
 pure:=M.ok
 bind:=M.bind
@[simp] theorem aO {α β:Type}(a:α) (f:α->M β):(M.ok a >>= f)=f a:=rfl
noncomputable def cI {α:Type}(m:M α) (Q:α->Prop) (T:Exc->Prop):Prop:=match m with
 | .bad=>False
 | .ok a=>Q a
 | .exc x=>T x
theorem aL {α β:Type}{m:M α}{f:α->M β}{Q:β->Prop}{T:Exc->Prop}(h:cI (m >>= f) Q T):cI m (λa=>cI (f a) Q T) T:=by
 cases m with
 | bad=>exact h
 | ok a=>exact h
 | exc x=>exact h
theorem aF {α:Type}{m:M α}{Q Q':α->Prop}{T:Exc->Prop}(h:cI m Q T) (k:∀a,Q a->Q' a):cI m Q' T:=by
 cases m with
 | bad=>exact h
 | ok a=>exact k a h
 | exc x=>exact h
inductive Md where
 | fresh | own | bor
inductive R where
 | d (x:D) | l (m:Md) (xs:List D)
  | mo (ks vs:List D) | mb (ks vs:List D) | mf (ks vs:List D)
inductive S where
 | d (x:D) | own (xs:List D) | bor (xs:List D) | dk (ks vs:List D) | db (ks vs:List D)
  | fn (x:Str)
abbrev Ev:=List (Option S)
abbrev Mn:=List D ⊕ (List D×List D)
noncomputable def mS:Mn->S
 | .inl xs=>.own xs
 | .inr p=>.dk p.1 p.2
structure C where
 K:SG
 H0:Hp
 J0:Hp
 T:Exc->Prop
structure HI (c:C) (J H:Hp):Prop where
 sub:aU J H
 ent:aU c.H0 H
 entJ:aU c.J0 J
 frz:∀a,c.H0 a≠none->c.J0 a=none->J a=none
structure Ext (J H J' H':Hp):Prop where
 h:aU H H'
 j:aU J J'
 sub:aU J' H'
 frz:∀a,H a≠none->J a=none->J' a=none
theorem aU.ne {H H':Hp}(e:aU H H') (h:H a≠none):H' a≠none:=by
 cases q:H a with
 | none=>exact absurd q h
 | some o=>rw [e a o q];intro z;cases z
theorem Ext.refl {J H:Hp}(h:aU J H):Ext J H J H:=⟨aU.refl H,aU.refl J,h,λ_ _ q=>q⟩
theorem Ext.trans {J H J1 H1 J2 H2:Hp}(a:Ext J H J1 H1) (b:Ext J1 H1 J2 H2):Ext J H J2 H2:=
 ⟨a.h.trans b.h,a.j.trans b.j,b.sub,λp h q=>b.frz p (aU.ne a.h h) (a.frz p h q)⟩
theorem HI.ext {J H J' H':Hp}(h:HI c J H) (e:Ext J H J' H'):HI c J' H':=
 ⟨e.sub,h.ent.trans e.h,h.entJ.trans e.j,λa h0 j0=>e.frz a (aU.ne h.ent h0) (h.frz a h0 j0)⟩
theorem cK {H:Hp}(h:H p=none) (o:HO):aU H (upd H p o):=λb u q=>by rw [bu (eN q h)];exact q
theorem Ext.new {J H:Hp}(h:aU J H) (e:H p=none) (o:HO):Ext J H J (upd H p o):=
 ⟨cK e o,aU.refl J,λb u q=>cK e o b u (h b u q),λ_ _ q=>q⟩
theorem Ext.newJ {J H:Hp}(h:aU J H) (e:H p=none) (o:HO):Ext J H (upd J p o) (upd H p o):=
 ⟨cK e o,cK (h.free e) o,λb u q=>by
  by_cases hb:b=p
  ·subst hb;rw [bR] at q ⊢;exact q
  ·rw [bu hb] at q ⊢;exact h b u q,λa ha q=>by
  have:a≠p:=λz=>ha (z▸e)
  rw [bu this];exact q⟩
noncomputable def s_ (c:C) (J H:Hp):S->V->Prop
 | .d x,v=>Rep c.K J x v
 | .own xs,v=>∃a vs,v=.ref a/\H a=some (.lst vs)/\J a=none/\c.H0 a=none/\aH c.K J xs vs
 | .bor xs,v=>∃a vs,v=.ref a/\cB c.K c.H0 a vs/\aH c.K J xs vs
 | .dk ks vs,v=>∃a,v=.ref a/\eu c.K J H a ks vs/\J a=none/\c.H0 a=none
 | .db ks vs,v=>∃a,v=.ref a/\eu c.K J c.H0 a ks vs
 | .fn x,v=>∃f,v=.ref f/\T5 c.K Tw x=some (some (.ref f))
theorem s_.ext {c:C}{J H J' H':Hp}(e:Ext J H J' H'):∀{x:S}{v:V},s_ c J H x v->s_ c J' H' x v
 | .d x,v,h=>Rep.mono e.j h
 | .own xs,v,⟨a,vs,h1,h2,h3,h4,h5⟩=>⟨a,vs,h1,e.h _ _ h2,e.frz a (by rw [h2];intro z;cases z) h3,h4,aH.mono e.j h5⟩
 | .bor xs,v,⟨a,vs,h1,h2,h3⟩=>⟨a,vs,h1,h2,aH.mono e.j h3⟩
 | .dk _ _,v,⟨a,h1,h2,h3,h4⟩=>⟨a,h1,h2.mono e.j e.h,e.frz a h2.ne h3,h4⟩
 | .db _ _,v,⟨a,h1,h2⟩=>⟨a,h1,h2.mono e.j (aU.refl _)⟩
 | .fn _,v,h=>h
structure SR (c:C) (J H:Hp) (σ:L2.St) (env:Ev):Prop where
 hp:HI c J H
 len:env.length=σ.length
 at_:∀(i:Nat) (x:S),env[i]?=some (some x)->∃v,σ[i]?=some (some v)/\s_ c J H x v
 sep:∀(i j:Nat) (xs ys:Mn) (v:V),i≠j->env[i]?=some (some (mS xs))->env[j]?=some (some (mS ys))->σ[i]?=some (some v)->σ[j]?≠some (some v)
theorem SR.ext {J H J' H':Hp}(h:SR c J H σ env) (e:Ext J H J' H'):SR c J' H' σ env:=
 ⟨h.hp.ext e,h.len,λi x q=>let ⟨v,q1,q2⟩:=h.at_ i x q;⟨v,q1,q2.ext e⟩,h.sep⟩
theorem SR.mine {c:C}{J H:Hp}{σ:L2.St}{env:Ev}(sr:SR c J H σ env){i:Nat}:∀{x:Mn},env[i]?=some (some (mS x))->∃p,σ[i]?=some (some (.ref p))/\H p≠none/\J p=none/\c.H0 p=none
 | .inl xs,h=>let ⟨_,k1,p,vs,e,k2,k3,k4,_⟩:=sr.at_ i (.own xs) h;⟨p,e▸k1,by rw [k2];exact λz=>(by cases z),k3,k4⟩
 | .inr q,h=>let ⟨_,k1,p,e,k2,k3,k4⟩:=sr.at_ i (.dk q.1 q.2) h;⟨p,e▸k1,k2.ne,k3,k4⟩
noncomputable def RR (c:C) (He J H:Hp):R->V->Prop
 | .d x,v=>Rep c.K J x v
 | .l .fresh xs,v=>∃a vs,v=.ref a/\H a=some (.lst vs)/\J a=none/\He a=none/\aH c.K J xs vs
 | .l .own xs,v=>∃a vs,v=.ref a/\H a=some (.lst vs)/\J a=none/\c.H0 a=none/\aH c.K J xs vs
 | .l .bor xs,v=>∃a vs,v=.ref a/\cB c.K c.H0 a vs/\aH c.K J xs vs
 | .mo ks vs,v=>∃a,v=.ref a/\eu c.K J H a ks vs/\J a=none/\c.H0 a=none
 | .mb ks vs,v=>∃a,v=.ref a/\eu c.K J c.H0 a ks vs
 | .mf ks vs,v=>∃a,v=.ref a/\eu c.K J H a ks vs/\J a=none/\He a=none
theorem RR.ext {c:C}{He J H J' H':Hp}(e:Ext J H J' H'):∀{x:R}{v:V},RR c He J H x v->RR c He J' H' x v
 | .d x,v,h=>Rep.mono e.j h
 | .l .fresh xs,v,⟨a,vs,h1,h2,h3,h4,h5⟩=>⟨a,vs,h1,e.h _ _ h2,e.frz a (by rw [h2];intro z;cases z) h3,h4,aH.mono e.j h5⟩
 | .l .own xs,v,⟨a,vs,h1,h2,h3,h4,h5⟩=>⟨a,vs,h1,e.h _ _ h2,e.frz a (by rw [h2];intro z;cases z) h3,h4,aH.mono e.j h5⟩
 | .l .bor xs,v,⟨a,vs,h1,h2,h3⟩=>⟨a,vs,h1,h2,aH.mono e.j h3⟩
 | .mo _ _,v,⟨a,h1,h2,h3,h4⟩=>⟨a,h1,h2.mono e.j e.h,e.frz a h2.ne h3,h4⟩
 | .mb _ _,v,⟨a,h1,h2⟩=>⟨a,h1,h2.mono e.j (aU.refl _)⟩
 | .mf _ _,v,⟨a,h1,h2,h3,h4⟩=>⟨a,h1,h2.mono e.j e.h,e.frz a h2.ne h3,h4⟩
theorem RR.from {c:C}{He He' J H:Hp}(e:aU He He'):∀{x:R}{v:V},RR c He' J H x v->RR c He J H x v
 | .d x,v,h=>h
 | .l .fresh xs,v,⟨a,vs,h1,h2,h3,h4,h5⟩=>⟨a,vs,h1,h2,h3,e.free h4,h5⟩
 | .l .own xs,v,h=>h
 | .l .bor xs,v,h=>h
 | .mo _ _,v,h=>h
 | .mb _ _,v,h=>h
 | .mf _ _,v,⟨a,h1,h2,h3,h4⟩=>⟨a,h1,h2,h3,e.free h4⟩
noncomputable def mz:R->M (List D)
 | .d (.lst xs)=>.ok xs
 | .l _ xs=>.ok xs
 | _=>.bad
noncomputable def toD:R->M D
 | .d x=>.ok x
 | .l .fresh xs=>.ok (.lst xs)
 | .mf ks vs=>.ok (.dct ks vs)
 | _=>.bad
theorem RR.list {c:C}{He J H:Hp}(hp:HI c J H):∀{r:R}{v:V}{xs:List D},RR c He J H r v->mz r=.ok xs->∃a vs,v=.ref a/\cB c.K H a vs/\aH c.K J xs vs
 | .d (.lst ys),v,xs,h,e=>by
  cases e
  cases h with
  | lst h hs=>exact ⟨_,_,rfl,hp.sub.seq h,hs⟩
 | .l .fresh ys,v,xs,⟨a,vs,h1,h2,h3,h4,h5⟩,e=>by cases e;exact ⟨a,vs,h1,cB.of h2,h5⟩
 | .l .own ys,v,xs,⟨a,vs,h1,h2,h3,h4,h5⟩,e=>by cases e;exact ⟨a,vs,h1,cB.of h2,h5⟩
 | .l .bor ys,v,xs,⟨a,vs,h1,h2,h3⟩,e=>by cases e;exact ⟨a,vs,h1,hp.ent.seq h2,h3⟩
 | .d .non,_,_,_,e=>nomatch e
 | .d (.bl _),_,_,_,e=>nomatch e
 | .d (.int _),_,_,_,e=>nomatch e
 | .d (.str _),_,_,_,e=>nomatch e
 | .d (.tup _),_,_,_,e=>nomatch e
 | .d .emp,_,_,_,e=>nomatch e
 | .d (.dct _ _),_,_,_,e=>nomatch e
 | .mo _ _,_,_,_,e=>nomatch e
 | .mb _ _,_,_,_,e=>nomatch e
 | .mf _ _,_,_,_,e=>nomatch e
theorem Bx {Je He J H:Hp}(x:Ext Je He J H) (h2:H a=some o) (h3:J a=none) (h4:He a=none):Ext Je He (upd J a o) H:=by
 refine ⟨x.h,x.j.trans (cK h3 _),λb u q=>?_,λb hb q=>?_⟩
 ·by_cases hb:b=a
  ·subst hb;rw [bR] at q;cases q;exact h2
  ·rw [bu hb] at q;exact x.sub b u q
 ·have:b≠a:=λz=>hb (z▸h4)
  rw [bu this];exact x.frz b hb q
theorem freeze {c:C}{Je He J H:Hp}(x:Ext Je He J H):∀{r:R}{v:V}{d:D},RR c He J H r v->toD r=.ok d->∃J',Ext Je He J' H/\aU J J'/\Rep c.K J' d v
 | .d y,v,d,h,e=>by cases e;exact ⟨J,x,aU.refl J,h⟩
 | .l .fresh ys,v,d,⟨a,vs,h1,h2,h3,h4,h5⟩,e=>by
  cases e
  subst h1
  exact ⟨_,Bx x h2 h3 h4,cK h3 _,.lst (.inl (.inl bR)) (aH.mono (cK h3 _) h5)⟩
 | .mf ks vs,v,d,⟨a,h1,⟨us,ws,ep,h2,m1,m2,m3⟩,h3,h4⟩,e=>by
  cases e
  subst h1
  exact ⟨_,Bx x h2 h3 h4,cK h3 _,.dct bR (m1.mono (cK h3 _)) (m2.mono (cK h3 _)) m3.1 m3.2⟩
 | .l .own _,_,_,_,e=>nomatch e
 | .l .bor _,_,_,_,e=>nomatch e
 | .mo _ _,_,_,_,e=>nomatch e
 | .mb _ _,_,_,_,e=>nomatch e
abbrev G (α:Type):=Ev->M α
def tD (c:C) (g:G R):TE:=λσ H Q=>∃J env,SR c J H σ env/\cI (g env) (λr=>∀v J' H',Ext J H J' H'->RR c H J' H' r v->Q v H') c.T
def PD (X:Cx) (c:C) (e:TV) (g:G R):Prop:=PE X e (tD c g)
def tB (c:C) (g:G Bool):TT:=λσ H Q=>∃J env,SR c J H σ env/\cI (g env) (λb=>∀J' H',Ext J H J' H'->Q b H') c.T
def PB (X:Cx) (c:C) (e:TV) (g:G Bool):Prop:=PT X e (tB c g)
noncomputable def kD (c:C) (He J H:Hp):List R->List V->Prop
 | [],vs=>vs=[]
 | r::rs,vs=>∃v us,vs=v::us/\RR c He J H r v/\kD c He J H rs us
def tA (c:C) (g:G (List R)):TA:=λσ H Q=>∃J env,SR c J H σ env/\cI (g env) (λrs=>∀vs J' H',Ext J H J' H'->kD c H J' H' rs vs->Q vs H') c.T
def Ii (X:Cx) (c:C) (es:List TV) (g:G (List R)):Prop:=PA X es (tA c g)
def P9 (c:C) (g:G (List D)):TA:=λσ H Q=>∃J env,SR c J H σ env/\cI (g env) (λds=>∀vs J' H',Ext J H J' H'->aH c.K J' ds vs->Q vs H') c.T
def P0 (X:Cx) (c:C) (es:List TV) (g:G (List D)):Prop:=PA X es (P9 c g)
inductive O where
 | nx (e:Ev) | rt (r:R) | bk (e:Ev) | ct (e:Ev)
noncomputable def RF (c:C) (J H:Hp):R->V->Prop
 | .d x,v=>Rep c.K J x v
 | .l _ xs,v=>∃a vs,v=.ref a/\H a=some (.lst vs)/\J a=none/\c.H0 a=none/\aH c.K J xs vs
 | .mf ks vs,v=>∃a,v=.ref a/\eu c.K J H a ks vs/\J a=none/\c.H0 a=none
 | _,_=>False
noncomputable def oP (c:C) (J:Hp) (E:Ends):O->Prop
 | .nx e=>∀σ' J' H',aU J J'->SR c J' H' σ' e->E.nx σ' H'
 | .rt r=>∀v J' H',aU J J'->HI c J' H'->RF c J' H' r v->E.rt v H'
 | .bk e=>∀σ' J' H',aU J J'->SR c J' H' σ' e->E.bk σ' H'
 | .ct e=>∀σ' J' H',aU J J'->SR c J' H' σ' e->E.ct σ' H'
def tS (c:C) (g:G O):TS:=λE σ H=>∃J env,SR c J H σ env/\cI (g env) (oP c J E) c.T
def A7 (X:Cx) (c:C) (st:V0) (g:G O):Prop:=PS X st (tS c g)
def Lm (X:Cx) (c:C) (st:List V0) (g:G O):Prop:=kC X st (tS c g)
theorem oP.mono {c:C}{J J1:Hp}{E:Ends}(e:aU J J1):∀{o:O},oP c J E o->oP c J1 E o
 | .nx _,h=>λσ' J' H' q r=>h σ' J' H' (e.trans q) r
 | .rt _,h=>λσ' J' H' q r=>h σ' J' H' (e.trans q) r
 | .bk _,h=>λσ' J' H' q r=>h σ' J' H' (e.trans q) r
 | .ct _,h=>λσ' J' H' q r=>h σ' J' H' (e.trans q) r
theorem gj {t t':TE}(h:PE X e t) (k:∀σ H Q,t' σ H Q->t σ H Q):PE X e t':=λSq s σ H Q I q=>h Sq s σ H Q I (k σ H Q q)
theorem yJ (h:PT X e t) (k:∀σ H Q,t' σ H Q->t σ H Q):PT X e t':=λSq s σ H Q I q=>h Sq s σ H Q I (k σ H Q q)
theorem yG (h:PA X es t) (k:∀σ H Q,t' σ H Q->t σ H Q):PA X es t':=λpos Sq s σ H Q I q=>h pos Sq s σ H Q I (k σ H Q q)
theorem iK {st:V0}{t t':TS}(h:PS X st t) (k:∀D σ H,t' D σ H->t D σ H):PS X st t':=λSq s σ H D I q=>h Sq s σ H D I (k D σ H q)
theorem Fo {st:List V0}{t t':TS}(h:kC X st t) (k:∀D σ H,t' D σ H->t D σ H):kC X st t':=λSq s σ H D I q=>h Sq s σ H D I (k D σ H q)
section
variable {X:Cx}{c:C}{e a b:TV}{ga gb:G R}{pos:Pos}
noncomputable def S.rd:S->M R
 | .d x=>.ok (.d x)
 | .own xs=>.ok (.l .own xs)
 | .bor xs=>.ok (.l .bor xs)
 | .dk ks vs=>.ok (.mo ks vs)
 | .db ks vs=>.ok (.mb ks vs)
 | .fn _=>.bad
noncomputable def af (i:Nat):G R:=λenv=>match env[i]? with
 | some (some x)=>x.rd
 | _=>.bad
theorem Kh (h:PE X (.Name x pos) (NC i)):PD X c (.Name x pos) (af i):=gj h λσ H Q ⟨J,env,sr,w⟩=>by
 unfold af at w
 cases q:env[i]? with
 | none=>rw [q] at w;exact w.elim
 | some o=>
  cases o with
  | none=>rw [q] at w;exact w.elim
  | some x=>
   rw [q] at w
   obtain ⟨v,h1,h2⟩:=sr.at_ i x q
   refine ⟨v,h1,?_⟩
   cases x with
   | fn _=>exact w.elim
   | _=>exact w v J H (Ext.refl sr.hp.sub) h2
def gC (d:D):G R:=λ_=>.ok (.d d)
theorem vf (hr:∀J,Rep c.K J d v) (h:PE X e (tC v)):PD X c e (gC d):=gj h λσ H Q ⟨J,env,sr,w⟩=>w v J H (Ext.refl sr.hp.sub) (hr J)
noncomputable def BD (c:C) (r:R2) (f:R->R->M R):Prop:=∀(He He' J H:Hp) (x y:R) (u v:V) (Q:VK),HI c J H->RR c He J H x u->RR c He' J H y v->
 cI (f x y) (λz=>∀w J' H',Ext J H J' H'->RR c H J' H' z w->Q w H') c.T->r u v H Q
def g2 (f:R->R->M R) (ga gb:G R):G R:=λenv=>ga env >>= λx=>gb env >>= λy=>f x y
theorem two {P:R->R->M R}{σ:L2.St}{H:Hp}{k:V->V->Hp->Prop}{Q:VK}{J:Hp}{env:Ev}(sr:SR c J H σ env)
  (w:cI (g2 P ga gb env) (λr=>∀v J' H',Ext J H J' H'->RR c H J' H' r v->Q v H') c.T)
  (hk:∀x y u v J2 H2,SR c J2 H2 σ env->Ext J H J2 H2->RR c H J2 H2 x u->RR c H J2 H2 y v->cI (P x y) (λz=>∀w J' H',Ext J2 H2 J' H'->RR c H2 J' H' z w->Q w H') c.T->k u v H2):
  tD c ga σ H λu H1=>tD c gb σ H1 λv H2=>k u v H2:=by
 refine ⟨J,env,sr,aF (aL w) λx wx u J1 H1 e1 r1=>?_⟩
 have sr1:=sr.ext e1
 refine ⟨J1,env,sr1,aF (aL wx) λy wy v J2 H2 e2 r2=>?_⟩
 exact hk x y u v J2 H2 (sr1.ext e2) (e1.trans e2) (r1.ext e2) (RR.from e1.h r2) (aF wy λz q w J' H' e3 r3=>q w J' H' ((e1.trans e2).trans e3) (RR.from (e1.h.trans e2.h) r3))
theorem G8 {t:TE}{f:R->R->M R}(ht:PE X e t) (heq:t=FU r (tD c ga) (tD c gb)) (hf:BD c r f):PD X c e (g2 f ga gb):=by
 subst heq
 exact gj ht λσ H Q ⟨J,env,sr,w⟩=>two (k:=λu v H2=>r u v H2 Q) sr w λx y u v J2 H2 sr2 e2 r1 r2 q=>hf H H J2 H2 x y u v Q sr2.hp r1 r2 q
theorem mR {f:R->R->M R}(ho:c_ X (Wt op) r) (hf:BD c r f) (ha:PD X c a ga) (hb:PD X c b gb):PD X c (.BinOp a op b pos) (g2 f ga gb):=G8 (Oe ho ha hb) rfl hf
theorem nT {f:R->R->M R}(ho:c_ X (UP op) r) (hf:BD c r f) (ha:PD X c a ga) (hb:PD X c b gb) (hm:UH op b=false:=by first | exact Af _ | rfl):PD X c (.Compare a [op] [b] pos) (g2 f ga gb):=G8 (Km ho ha hb hm) rfl hf
theorem IJ {f:R->R->M R}(ho:p7 X r) (hf:BD c r f) (ha:PD X c a ga) (hb:PD X c b gb) (hs:rC b:=by exact λ_ _=>rfl):PD X c (.Subscript a b pos) (g2 f ga gb):=G8 (Od ho ha hb hs) rfl hf
theorem BD.or {r r':R2}{f f':R->R->M R}(p:R->R->Bool) (h:BD c r f) (h':BD c r' f'):BD c (λx y H Q=>r x y H Q\/r' x y H Q) (λx y=>if p x y then f x y else f' x y):=by
 intro He He' J H x y u v Q hp rx ry w
 simp only at w
 cases q:p x y with
 | true=>rw [q] at w;exact .inl (h He He' J H x y u v Q hp rx ry w)
 | false=>rw [q] at w;exact .inr (h' He He' J H x y u v Q hp rx ry w)
noncomputable def fI (C:Int->Int->Bool) (f:Int->Int->D):R->R->M R
 | .d (.int i),.d (.int j)=>if C i j then .ok (.d (f i j)) else .bad
 | _,_=>.bad
noncomputable def qq (f:Int->Int->D):R->R->M R
 | .d (.int i),.d (.int j)=>.ok (.d (f i j))
 | _,_=>.bad
theorem zh {P:Int->Int->Prop}{Cb:Int->Int->Bool}{g:Int->Int->V}{f:Int->Int->D}(hC:∀i j,Cb i j=true->P i j) (hr:∀i j J,Rep c.K J (f i j) (g i j)):BD c (rI P g) (fI Cb f):=by
 intro He He' J H x y u v Q hp rx ry w
 unfold fI at w
 split at w
 ·cases rx;cases ry
  rename_i i j
  cases q:Cb i j with
  | true=>rw [q] at w;exact ⟨i,j,rfl,rfl,hC i j q,w _ J H (Ext.refl hp.sub) (hr i j J)⟩
  | false=>rw [q] at w;exact w.elim
 ·exact w.elim
theorem kI {g:Int->Int->V}{f:Int->Int->D}(hr:∀i j J,Rep c.K J (f i j) (g i j)):BD c (sS g) (qq f):=by
 intro He He' J H x y u v Q hp rx ry w
 unfold qq at w
 split at w
 ·cases rx;cases ry
  rename_i i j
  exact ⟨i,j,rfl,rfl,w _ J H (Ext.refl hp.sub) (hr i j J)⟩
 ·exact w.elim
def below (n:Nat) (j:Int):Bool:=Nat.blt j.natAbs n
theorem cW:below n j=true↔-(n:Int) < j/\j < n:=by
 unfold below
 rw [Nat.blt_eq]
 omega
def CP (_ j:Int):Bool:=decide (0 < j) && below 1073741824 j
def Mf (_ j:Int):Bool:=decide (0 < j)
def zW (i j:Int):Bool:=below 18446744073709551616 i || below 18446744073709551616 j
theorem JM (h:zW i j=true):(-(2 ^ 64) < i/\i < 2 ^ 64)\/(-(2 ^ 64) < j/\j < 2 ^ 64):=by
 unfold zW at h
 rw [V6] at h
 exact h.imp cW.mp cW.mp
theorem JL (h:CP i j=true):0 < j/\j < 1073741824:=by
 unfold CP at h
 rw [SN] at h
 exact ⟨of_decide_eq_true h.1,(cW.mp h.2).2⟩
def GD (i j:Int):Bool:=decide (0<=j) && below 1000001 j && below 18446744073709551616 i
theorem JN {i j:Int}(h:GD i j=true):0<=j/\j<=1000000/\i.natAbs < 2 ^ 64:=by
 unfold GD at h
 rw [SN,SN] at h
 have h2:=cW.mp h.1.2
 have h3:=cW.mp h.2
 exact ⟨of_decide_eq_true h.1.1,by omega,by omega⟩
abbrev vY:R->R->M R:=qq λi j=>.int (i + j)
abbrev oN:R->R->M R:=qq λi j=>.int (i - j)
abbrev LR:R->R->M R:=fI zW λi j=>.int (i * j)
abbrev gf:R->R->M R:=fI CP λi j=>.int (i / j)
abbrev dB:R->R->M R:=fI Mf λi j=>.int (i % j)
abbrev oH:R->R->M R:=fI GD λi j=>.int (i ^ j.toNat)
noncomputable def uL:R->R->M R
 | .d (.str i),.d (.str j)=>if i.length + j.length<=sizeLine then .ok (.d (.str (i++j))) else .bad
 | _,_=>.bad
theorem KQ {K:SG}{J:Hp}{ds:List D}{vs:List V}{i:Int}{d:D}(h:aH K J ds vs) (e:mC ds i=some d):∃v,mC vs i=some v/\Rep K J d v:=by
 unfold mC at e ⊢
 rw [h.length] at e
 cases q:zV vs.length i with
 | none=>rw [q] at e;cases e
 | some j=>rw [q] at e;exact h.get e
theorem wJ {f:List D->M R}{Q:R->Prop}{T:Exc->Prop}(w:cI (mz x >>= f) Q T):∃xs,mz x=.ok xs/\cI (f xs) Q T:=by
 cases q:mz x with
 | bad=>rw [q] at w;exact w.elim
 | ok xs=>rw [q] at w;exact ⟨xs,rfl,w⟩
 | exc z=>unfold mz at q;split at q <;> cases q
noncomputable def zT:R->Bool
 | .l .fresh _=>true
 | .l .own _=>true
 | _=>false
noncomputable def uM (x y:R):M R:=if zT x && zT y then mz x >>= λxs=>mz y >>= λys=>if xs.length + ys.length<=sizeLine then .ok (.l .fresh (xs++ys)) else .bad else .bad
theorem RR.made {He J H:Hp}:∀{r:R}{v:V},zT r=true->RR c He J H r v->∃a vs xs,mz r=.ok xs/\v=.ref a/\H a=some (.lst vs)/\aH c.K J xs vs
 | .l .fresh xs,v,_,⟨a,vs,h1,h2,h3,h4,h5⟩=>⟨a,vs,xs,rfl,h1,h2,h5⟩
 | .l .own xs,v,_,⟨a,vs,h1,h2,h3,h4,h5⟩=>⟨a,vs,xs,rfl,h1,h2,h5⟩
 | .l .bor _,_,e,_=>nomatch e
 | .mo _ _,_,e,_=>nomatch e
 | .mb _ _,_,e,_=>nomatch e
 | .mf _ _,_,e,_=>nomatch e
 | .d _,_,e,_=>nomatch e
theorem g_ {J H:Hp}(hp:HI c J H) (e:H p=none) (h:aH c.K J xs vs):RR c H J (upd H p (.lst vs)) (.l .fresh xs) (.ref p):=
 ⟨p,vs,rfl,bR,hp.sub.free e,e,h⟩
noncomputable def CD (c:C) (r:List V->Hp->VK->Prop) (f:List R->M R):Prop:=∀(He J H:Hp) (xs:List R) (vs:List V) (Q:VK),HI c J H->kD c He J H xs vs->
 cI (f xs) (λz=>∀w J' H',Ext J H J' H'->RR c H J' H' z w->Q w H') c.T->r vs H Q
def gN (f:List R->M R) (gs:G (List R)):G R:=λenv=>gs env >>= f
theorem Di {t:TE}{ta:TA}{r:List V->Hp->VK->Prop}{f:List R->M R}{gs:G (List R)}(ht:PE X e t) (heq:t=λσ H Q=>tA c gs σ H λvs H1=>r vs H1 Q) (hf:CD c r f):PD X c e (gN f gs):=by
 subst heq
 refine gj ht λσ H Q ⟨J,env,sr,w⟩=>⟨J,env,sr,aF (aL w) λrs w vs J1 H1 e1 r1=>?_⟩
 exact hf H J1 H1 rs vs Q (sr.hp.ext e1) r1 (aF w λz q v J' H' e2 r2=>q v J' H' (e1.trans e2) (RR.from e1.h r2))
def aD:G (List R):=λ_=>.ok []
def ao (g:G R) (gs:G (List R)):G (List R):=λenv=>g env >>= λx=>gs env >>= λxs=>.ok (x::xs)
theorem kD.from {He He' J H:Hp}(e:aU He He'):∀{xs:List R}{vs:List V},kD c He' J H xs vs->kD c He J H xs vs
 | [],_,h=>h
 | _::_,_,⟨v,us,h1,h2,h3⟩=>⟨v,us,h1,RR.from e h2,kD.from e h3⟩
theorem jQ {id:String}{x:Str}{p:Pos}{es:List TV}{r:List V->Hp->VK->Prop}{f:List R->M R}{gs:G (List R)}(hc:bP X (.builtin id) r) (hf:CD c r f) (hv:Ue x=some (.builtin id)) (hm:X.mg x=none) (ha:Ii X c (e::es) gs)
  (hg:Gl X x:=by rfl) (hn:x≠"__name__":=by decide) (hdb:(x == ("__debug__":Str))=false:=by decide)
  (he:SX (e::es) X.env=(false,eval e X.env)::SX es X.env:=by rfl) (hpl:(Vb pos (SX es X.env)).any (·.1)=false:=by rfl):PD X c (.Call (.Name x p) (e::es) [] pos) (gN f gs):=
 Di (ta:=AA) (o6 hc hg hm hv ha hn hdb he hpl) rfl hf
theorem qL {r:List V->Hp->VK->Prop}{f:List R->M R}{gs:G (List R)}(hc:bP X (.type T) r) (hf:CD c r f) (hv:Ue x=some (.type T)) (hm:X.mg x=none) (ha:Ii X c (e::es) gs)
 (hg:Gl X x:=by rfl) (hn:x≠"__name__":=by decide) (hdb:(x == ("__debug__":Str))=false:=by decide)
 (he:SX (e::es) X.env=(false,eval e X.env)::SX es X.env:=by rfl) (hpl:(Vb pos (SX es X.env)).any (·.1)=false:=by rfl):PD X c (.Call (.Name x p) (e::es) [] pos) (gN f gs):=
 Di (ta:=AA) (kc hc hg hm hv ha hn hdb he hpl) rfl hf
end
section
variable {X:Cx}{c:C}{e a b:TV}{es:List TV}{ga gb g:G R}{pos:Pos}
def aQ:G (List D):=λ_=>.ok []
def az (g:G R) (gs:G (List D)):G (List D):=λenv=>g env >>= λx=>toD x >>= λd=>gs env >>= λds=>.ok (d::ds)
theorem jd {α:Type}{f:D->M α}{Q:α->Prop}{T:Exc->Prop}(w:cI (toD x >>= f) Q T):∃d,toD x=.ok d/\cI (f d) Q T:=by
 cases q:toD x with
 | bad=>rw [q] at w;exact w.elim
 | ok xs=>rw [q] at w;exact ⟨xs,rfl,w⟩
 | exc z=>unfold toD at q;split at q <;> cases q
def bz (gs:G (List D)):G R:=λenv=>gs env >>= λds=>if ds.length<=sizeLine then .ok (.d (.tup ds)) else .bad
def dJ (gs:G (List D)):G R:=λenv=>gs env >>= λds=>if ds.length<=sizeLine then .ok (.l .fresh ds) else .bad
theorem qR {J H:Hp}(hp:HI c J H) (e:H p=none) (h:aH c.K J xs vs):Rep c.K (upd J p (.tup vs)) (.tup xs) (.ref p):=
 .tup (.inl (.inl bR)) (h.mono (cK (hp.sub.free e) _))
noncomputable def iy:R->M (List D)
 | .d (.tup xs)=>.ok xs
 | .d (.lst xs)=>.ok xs
 | .l _ xs=>.ok xs
 | _=>.bad
theorem kW {He J H:Hp}(hp:HI c J H):∀{r:R}{v:V}{xs:List D},RR c He J H r v->iy r=.ok xs->∃a vs,v=.ref a/\(cB c.K H a vs\/cL c.K H a vs)/\aH c.K J xs vs
 | .d (.tup ys),v,xs,h,e=>by
  cases e
  cases h with
  | tup h hs=>exact ⟨_,_,rfl,.inr (eO hp.sub h),hs⟩
 | .d (.lst ys),v,xs,h,e=>let ⟨a,vs,h1,h2,h3⟩:=RR.list hp h e;⟨a,vs,h1,.inl h2,h3⟩
 | .l m ys,v,xs,h,e=>let ⟨a,vs,h1,h2,h3⟩:=RR.list hp h e;⟨a,vs,h1,.inl h2,h3⟩
 | .d .non,_,_,_,e=>nomatch e
 | .d (.bl _),_,_,_,e=>nomatch e
 | .d (.int _),_,_,_,e=>nomatch e
 | .d (.str _),_,_,_,e=>nomatch e
 | .d .emp,_,_,_,e=>nomatch e
 | .d (.dct _ _),_,_,_,e=>nomatch e
theorem jc {α:Type}{f:List D->M α}{Q:α->Prop}{T:Exc->Prop}(w:cI (iy x >>= f) Q T):∃xs,iy x=.ok xs/\cI (f xs) Q T:=by
 cases q:iy x with
 | bad=>rw [q] at w;exact w.elim
 | ok xs=>rw [q] at w;exact ⟨xs,rfl,w⟩
 | exc z=>unfold iy at q;split at q <;> cases q
noncomputable def e_:List R->M R
 | [.d (.str z)]=>if z.length<=sizeLine then .ok (.d (.int z.length)) else .bad
 | [r]=>iy r >>= λxs=>.ok (.d (.int xs.length))
 | _=>.bad
theorem kD.one {He J H:Hp}(h:kD c He J H [r] vs):∃v,vs=[v]/\RR c He J H r v:=by
 obtain ⟨v,us,rfl,h1,h2⟩:=h
 cases h2
 exact ⟨v,rfl,h1⟩
theorem kD.two {He J H:Hp}{r r':R}{vs:List V}(h:kD c He J H [r,r'] vs):∃v v',vs=[v,v']/\RR c He J H r v/\RR c He J H r' v':=by
 obtain ⟨v,us,rfl,h1,v2,us2,rfl,h2,h3⟩:=h
 cases h3
 exact ⟨v,v2,rfl,h1,h2⟩
noncomputable def eF:List R->M R
 | [r]=>iy r >>= λxs=>.ok (.d (.tup xs))
 | _=>.bad
theorem AL:Ue "tuple"=some (.type "tuple"):=by decide +kernel
theorem uA:Ue "list"=some (.type "list"):=by decide +kernel
noncomputable def CI:List R->M R
 | [r]=>iy r >>= λxs=>.ok (.l .fresh xs)
 | _=>.bad
noncomputable def br (g:G R):G Bool:=λenv=>g env >>= λr=>match r with
 | .d (.bl k)=>.ok k
 | _=>.bad
theorem jz {f:R->R->M R}(ho:c_ X (UP op) r) (hf:BD c r f) (ha:PD X c a ga) (hb:PD X c b gb) (hm:UH op b=false:=by first | exact Af _ | rfl):PB X c (.Compare a [op] [b] pos) (br (g2 f ga gb)):=
 yJ (Kw ho ha hb hm) λσ H Q ⟨J,env,sr,w⟩=>by
  have w2:=aL w
  refine two (k:=λu v H2=>r u v H2 λz H3=>∃k,z=.bl k/\Q k H3) (Q:=λz H3=>∃k,z=.bl k/\Q k H3) sr (aF w2 λr0 wr v J1 H1 e1 r1=>?_)
   λx y u v J2 H2 sr2 e2 r1 r2 q=>hf H H J2 H2 x y u v _ sr2.hp r1 r2 q
  split at wr
  ·cases r1;exact ⟨_,rfl,wr J1 H1 e1⟩
  ·exact wr.elim
def jq (g h:G Bool):G Bool:=λenv=>g env >>= λk=>if k=true then h env else .ok false
def ju (g h:G Bool):G Bool:=λenv=>g env >>= λk=>if k=true then .ok true else h env
def gg (g:G Bool):G Bool:=λenv=>g env >>= λk=>.ok (!k)
def P1 (X:Cx) (c:C) (e:TV) (g:G Bool):Prop:=PW X e (tB c g)
variable {t u:G Bool}{rest:List TV}
theorem IP {X:Cx}{e:TV}{t t':TT}(h:PW X e t) (k:∀σ H Q,t' σ H Q->t σ H Q):PW X e t':=λwh Sq s σ H Q I q=>h wh Sq s σ H Q I (k σ H Q q)
noncomputable def yz (g h:G R):G R:=λenv=>g env >>= λr=>match r with
 | .d (.bl true)=>h env
 | .d (.bl false)=>.ok (.d (.bl false))
 | _=>.bad
noncomputable def tX (g h:G R):G R:=λenv=>g env >>= λr=>match r with
 | .d (.bl false)=>h env
 | .d (.bl true)=>.ok (.d (.bl true))
 | _=>.bad
noncomputable def Iw (g:G R):G R:=λenv=>g env >>= λr=>match r with
 | .d (.bl k)=>.ok (.d (.bl (!k)))
 | _=>.bad
end
section
variable {X:Cx}{c:C}{e a b tg:TV}{es:List TV}{ga gb g:G R}{pos:Pos}{st:V0}{rest:List V0}{t u:G O}{tb:G Bool}
def cS:G O:=λenv=>.ok (.nx env)
noncomputable def aI (t u:G O):G O:=λenv=>t env >>= λo=>match o with
 | .nx e=>u e
 | o=>.ok o
def jt (g:G R):G O:=λenv=>g env >>= λ_=>.ok (.nx env)
noncomputable def rF:R->M R
 | .d x=>.ok (.d x)
 | .l .fresh xs=>.ok (.l .fresh xs)
 | .l .own xs=>.ok (.l .fresh xs)
 | .l .bor _=>.bad
 | .mo ks vs=>.ok (.mf ks vs)
 | .mf ks vs=>.ok (.mf ks vs)
 | .mb _ _=>.bad
def bq (g:G R):G O:=λenv=>g env >>= λr=>rF r >>= λr=>.ok (.rt r)
theorem RR.rf {J H J1 H1:Hp}(hp:HI c J H):∀{r r':R}{v:V},RR c H J1 H1 r v->rF r=.ok r'->RF c J1 H1 r' v
 | .d x,r',v,h,e=>by cases e;exact h
 | .l .fresh xs,r',v,⟨a,vs,h1,h2,h3,h4,h5⟩,e=>by cases e;exact ⟨a,vs,h1,h2,h3,hp.ent.free h4,h5⟩
 | .l .own xs,r',v,⟨a,vs,h1,h2,h3,h4,h5⟩,e=>by cases e;exact ⟨a,vs,h1,h2,h3,h4,h5⟩
 | .l .bor _,_,_,_,e=>nomatch e
 | .mo _ _,_,v,⟨a,h1,h2,h3,h4⟩,e=>by cases e;exact ⟨a,h1,h2,h3,h4⟩
 | .mb _ _,_,_,_,e=>nomatch e
 | .mf _ _,_,v,⟨a,h1,h2,h3,h4⟩,e=>by cases e;exact ⟨a,h1,h2,h3,hp.ent.free h4⟩
def bK (b:G Bool) (t u:G O):G O:=λenv=>b env >>= λk=>if k=true then t env else u env
noncomputable def toS:R->M S
 | .d x=>.ok (.d x)
 | .l .fresh xs=>.ok (.own xs)
 | .l .bor xs=>.ok (.bor xs)
 | .l .own _=>.bad
 | .mb ks vs=>.ok (.db ks vs)
 | .mf ks vs=>.ok (.dk ks vs)
 | .mo _ _=>.bad
theorem gA {α:Type}{l:List (Option α)}{i j:Nat}{x y:α}(h:(l.set i (some x))[j]?=some (some y)):(j=i/\i < l.length/\y=x)\/(j≠i/\l[j]?=some (some y)):=by
 by_cases e:j=i
 ·subst e
  have hj:j < l.length:=by
   have:=(Tt.mp h).1
   simpa using this
  rw [UO hj] at h
  cases h
  exact .inl ⟨rfl,hj,rfl⟩
 ·rw [T6 (Vi e)] at h
  exact .inr ⟨e,h⟩
theorem SR.setD {J H:Hp}{σ:L2.St}{env:Ev}(sr:SR c J H σ env){i:Nat}{x:S}{v:V}(h:s_ c J H x v) (hx:∀xs,x≠mS xs):SR c J H (σ.set i (some v)) (env.set i (some x)):=by
 refine ⟨sr.hp,by simpa using sr.len,λj y q=>?_,λj k xs ys w hjk q1 q2 q3 q4=>?_⟩
 ·rcases gA q with ⟨rfl,hl,rfl⟩ | ⟨hj,q⟩
  ·exact ⟨v,by rw [UO (by rw [<-sr.len];exact hl)],h⟩
  ·obtain ⟨w,h1,h2⟩:=sr.at_ j y q
   exact ⟨w,by rw [T6 (Vi hj)];exact h1,h2⟩
 ·rcases gA q1 with ⟨rfl,hl,e⟩ | ⟨hj,q1⟩
  ·exact hx xs e.symm
  ·rcases gA q2 with ⟨rfl,hl,e⟩ | ⟨hk,q2⟩
   ·exact hx ys e.symm
   ·rw [T6 (Vi hj)] at q3
    rw [T6 (Vi hk)] at q4
    exact sr.sep j k xs ys w hjk q1 q2 q3 q4
theorem SR.setM {J He:Hp}{σ:L2.St}{env:Ev}(sr:SR c J He σ env){J1 H1:Hp}(e1:Ext J He J1 H1){i:Nat}{y:Mn}{p:Tg}(h3:He p=none) (h:s_ c J1 H1 (mS y) (.ref p)):SR c J1 H1 (σ.set i (some (.ref p))) (env.set i (some (mS y))):=by
 have sr1:=sr.ext e1
 have old:∀(j:Nat) (ys:Mn),env[j]?=some (some (mS ys))->σ[j]?≠some (some (.ref p)):=λj ys qj z=>by
  obtain ⟨a,k1,k2,_⟩:=sr.mine qj
  rw [z] at k1
  cases k1
  exact k2 h3
 refine ⟨sr1.hp,by simpa using sr.len,λj y q=>?_,λj k ys zs w hjk q1 q2 q3 q4=>?_⟩
 ·rcases gA q with ⟨rfl,hl,rfl⟩ | ⟨hj,q⟩
  ·exact ⟨.ref p,by rw [UO (by rw [<-sr.len];exact hl)],h⟩
  ·obtain ⟨w,k1,k2⟩:=sr1.at_ j y q
   exact ⟨w,by rw [T6 (Vi hj)];exact k1,k2⟩
 ·rcases gA q1 with ⟨rfl,hl,e⟩ | ⟨hj,q1'⟩
  ·rcases gA q2 with ⟨rfl,_,_⟩ | ⟨hk,q2⟩
   ·exact hjk rfl
   ·rw [UO (by rw [<-sr.len];exact hl)] at q3
    cases q3
    rw [T6 (Vi hk)] at q4
    exact old k zs q2 q4
  ·rw [T6 (Vi hj)] at q3
   rcases gA q2 with ⟨rfl,hl,e⟩ | ⟨hk,q2⟩
   ·rw [UO (by rw [<-sr.len];exact hl)] at q4
    cases q4
    exact old j ys q1' q3
   ·rw [T6 (Vi hk)] at q4
    exact sr.sep j k ys zs w hjk q1' q2 q3 q4
theorem SR.set {J He:Hp}{σ:L2.St}{env:Ev}(sr:SR c J He σ env){J1 H1:Hp}(e1:Ext J He J1 H1) (h:RR c He J1 H1 r v) (q:toS r=.ok x):SR c J1 H1 (σ.set i (some v)) (env.set i (some x)):=by
 have sr1:=sr.ext e1
 cases r with
 | d y=>cases q;exact sr1.setD h (λx z=>by cases x <;> cases z)
 | mb _ _=>cases q;exact sr1.setD h (λx z=>by cases x <;> cases z)
 | mf ks vs=>cases q;obtain ⟨p,rfl,h1,h2,h3⟩:=h;exact sr.setM (y:=.inr (ks,vs)) e1 h3 ⟨p,rfl,h1,h2,sr.hp.ent.free h3⟩
 | mo _ _=>cases q
 | l m xs=>
  cases m with
  | own=>cases q
  | bor=>cases q;exact sr1.setD h (λx z=>by cases x <;> cases z)
  | fresh=>
   cases q
   obtain ⟨p,vs,rfl,h1,h2,h3,h4⟩:=h
   exact sr.setM (y:=.inl xs) e1 h3 ⟨p,vs,rfl,h1,h2,sr.hp.ent.free h3,h4⟩
theorem oh {α:Type}{f:S->M α}{Q:α->Prop}{T:Exc->Prop}(w:cI (toS x >>= f) Q T):∃d,toS x=.ok d/\cI (f d) Q T:=by
 cases q:toS x with
 | bad=>rw [q] at w;exact w.elim
 | ok xs=>rw [q] at w;exact ⟨xs,rfl,w⟩
 | exc z=>unfold toS at q;split at q <;> cases q
def aZ (i:Nat) (g:G R):G O:=λenv=>g env >>= λr=>toS r >>= λx=>.ok (.nx (env.set i (some x)))
abbrev GT:=D->Ev->M Ev
def KO (env:Ev) (σ:L2.St) (e:Ev) (σ':L2.St):Prop:=∀(j:Nat) (xs:Mn),e[j]?=some (some (mS xs))->env[j]?=some (some (mS xs))/\σ'[j]?=σ[j]?
theorem KO.refl:KO env σ env σ:=λ_ _ h=>⟨h,rfl⟩
theorem KO.trans (a:KO env σ e1 s1) (b:KO e1 s1 e2 s2):KO env σ e2 s2:=λj xs h=>by
 obtain ⟨h1,h2⟩:=b j xs h
 obtain ⟨h3,h4⟩:=a j xs h1
 exact ⟨h3,h2.trans h4⟩
def tT (c:C) (g:GT):TG:=λv σ H Q=>∃J env d,SR c J H σ env/\Rep c.K J d v/\cI (g d env) (λe=>∀σ',SR c J H σ' e->KO env σ e σ'->Q σ' H) c.T
def ji (X:Cx) (c:C) (tg:TV) (g:GT):Prop:=PG X tg (tT c g)
abbrev uh:=List D->Ev->M Ev
def Qe (c:C) (g:uh):wU:=λvs σ H Q=>∃J env ds,SR c J H σ env/\aH c.K J ds vs/\cI (g ds env) (λe=>∀σ',SR c J H σ' e->KO env σ e σ'->Q σ' H) c.T
def O5 (X:Cx) (c:C) (tgs:List TV) (g:uh):Prop:=y_ X tgs (Qe c g)
theorem IL {t t':TG}(h:PG X e t) (k:∀v σ H Q,t' v σ H Q->t v σ H Q):PG X e t':=λSq s σ H v u Q I r q=>h Sq s σ H v u Q I r (k v σ H Q q)
theorem Fd {X:Cx}{e:List TV}{t t':wU}(h:y_ X e t) (k:∀v σ H Q,t' v σ H Q->t v σ H Q):y_ X e t':=λSq s σ H vs us Q I r q=>h Sq s σ H vs us Q I r (k vs σ H Q q)
def aC (i:Nat):GT:=λd env=>.ok (env.set i (some (.d d)))
noncomputable def dM:uh:=λds env=>match ds with
 | []=>.ok env
 | _=>.bad
noncomputable def bx (t:GT) (u:uh):uh:=λds env=>match ds with
 | d::r=>t d env >>= λe=>u r e
 | []=>.bad
noncomputable def dF (n:Nat) (u:uh):GT:=λd env=>match d with
 | .tup ds=>if ds.length=n then u ds env else .bad
 | _=>.bad
def tV (t:GT) (g:G R):G O:=λenv=>g env >>= λr=>toD r >>= λd=>t d env >>= λe=>.ok (.nx e)
theorem Kd {t:GT}(h:PD X c e g) (ht:ji X c tg t)
  (hq:PS X (.Assign [tg] e pos) (HN (tD c g) (tT c t))):A7 X c (.Assign [tg] e pos) (tV t g):=iK hq λE σ H ⟨J,env,sr,w⟩=>by
 refine ⟨J,env,sr,aF (aL w) λr wr v J1 H1 e1 r1=>?_⟩
 obtain ⟨d,q,wr⟩:=jd wr
 obtain ⟨J1',e1',s1,rd⟩:=freeze e1 r1 q
 refine ⟨J1',env,d,sr.ext e1',rd,aF (aL wr) λe2 w2 σ' sr' _=>?_⟩
 exact w2 σ' J1' H1 e1'.j sr'
noncomputable def Walk (c:C) (It:It) (ds:List D) (J1:Hp) (U:Hp->Hp->Prop):Prop:=∀(i:Nat) (J H:Hp),HI c J H->U J H->
 (ds.length<=i->It.stop i H)/\∀d,ds[i]?=some d->It.go i H/\∀x H2,It.yld i H x H2->∃J2,Ext J H J2 H2/\Rep c.K J2 d x
noncomputable def tI (c:C) (g:G (List D)):TI:=λσ H Q=>∃J env,SR c J H σ env/\cI (g env) (λds=>∀It J1 H1,Ext J H J1 H1->Walk c It ds J1 (λJ' _=>aU J1 J')->Q It H1) c.T
def za (X:Cx) (c:C) (tg Sw:TV) (g:G (List D)):Prop:=PI X tg Sw (tI c g)
theorem rO {X:Cx}{tg it:TV}{t t':TI}(h:PI X tg it t) (k:∀σ H Q,t' σ H Q->t σ H Q):PI X tg it t':=λSq s σ H Q I q=>h Sq s σ H Q I (k σ H Q q)
noncomputable def fh (t:GT) (u:G O):List D->Ev->M O
 | [],env=>.ok (.nx env)
 | d::ds,env=>t d env >>= λe=>u e >>= λo=>match o with
  | .nx e=>fh t u ds e
  | .ct e=>fh t u ds e
  | .bk e=>.ok (.nx e)
  | .rt r=>.ok (.rt r)
def b_ (g:G (List D)) (t:GT) (u:G O):G O:=λenv=>g env >>= λds=>fh t u ds env
noncomputable def Qk (g:G R):G (List D):=λenv=>g env >>= λr=>match r with
 | .d (.tup xs)=>.ok xs
 | _=>.bad
theorem rA {J1:Hp}{a:Tg}{vs:List V}{ds:List D}(h:cB c.K J1 a vs\/cB c.K c.H0 a vs) (hs:aH c.K J1 ds vs):Walk c (HZ c.K a) ds J1 (λJ' _=>aU J1 J'):=by
 intro i J H hp u
 have h':cB c.K H a vs:=h.elim (λh=>hp.sub.seq (u.seq h)) λh=>hp.ent.seq h
 refine ⟨λhl=>⟨vs,h',by rw [<-hs.length];exact hl⟩,λd hd=>?_⟩
 obtain ⟨v,h1,h2⟩:=hs.get hd
 refine ⟨⟨vs,v,h',h1⟩,λx H2 ⟨e,hy⟩=>?_⟩
 subst e
 have:=hy vs h'
 rw [h1] at this
 cases this
 exact ⟨J,Ext.refl hp.sub,h2.mono u⟩
def fW (lo:Int) (n:Nat):List D:=(SM n).map λ(k:Nat)=>.int (lo + (k:Int))
theorem DG {J1:Hp}{lo:Int}{n:Nat}{Ut:Hp->Hp->Prop}:Walk c (H_ lo n) (fW lo n) J1 Ut:=by
 intro i J H hp u
 refine ⟨λhl=>(show n<=i by simpa [fW] using hl),λd hd=>?_⟩
 have hi:i < n:=by
  have:=(Tt.mp hd).1
  simpa [fW] using this
 have hd':d=.int (lo + i):=by
  unfold fW at hd
  rw [Tq,Wf hi] at hd
  exact (Ul hd).symm
 subst hd'
 exact ⟨hi,λx H2 ⟨e,hx⟩=>by subst e hx;exact ⟨J,Ext.refl hp.sub,.int _⟩⟩
noncomputable def b9 (gs:G (List R)):G (List D):=λenv=>gs env >>= λrs=>match rs with
 | [.d (.int j)]=>if below 4611686018427387904 j then .ok (fW 0 j.toNat) else .bad
 | _=>.bad
noncomputable def Qa (c:C) (g:G (List D)):TI:=λσ H Q=>∃J env,SR c J H σ env/\cI (g env) (λds=>∀It J1 H1,Ext J H J1 H1->Walk c It ds J1 (λJ' H'=>aU J1 J'/\aU H1 H')->Q It H1) c.T
def qh (X:Cx) (c:C) (tg Sw:TV) (g:G (List D)):Prop:=PI X tg Sw (Qa c g)
end
section
variable {X:Cx}{c:C}{e a b tg:TV}{es:List TV}{ga gb g:G R}{pos:Pos}
theorem SR.updM {J H:Hp}{σ:L2.St}{env:Ev}(sr:SR c J H σ env){i:Nat}{x y:Mn}{p:Tg}{o:HO}(hi:env[i]?=some (some (mS x))) (hs:σ[i]?=some (some (.ref p))) (hJ:J p=none) (h0:c.H0 p=none)
  (h:s_ c J (L2.upd H p o) (mS y) (.ref p)):SR c J (L2.upd H p o) σ (env.set i (some (mS y))):=by
 refine ⟨⟨λb o q=>?_,λb o q=>?_,sr.hp.entJ,sr.hp.frz⟩,by simpa using sr.len,λj y q=>?_,λj k ys zs w hjk q1 q2 q3 q4=>?_⟩
 ·have:b≠p:=λz=>by rw [z,hJ] at q;cases q
  rw [bu this];exact sr.hp.sub b o q
 ·have:b≠p:=λz=>by rw [z,h0] at q;cases q
  rw [bu this];exact sr.hp.ent b o q
 ·rcases gA q with ⟨rfl,hl,rfl⟩ | ⟨hj,q⟩
  ·exact ⟨.ref p,hs,h⟩
  ·obtain ⟨w,k1,k2⟩:=sr.at_ j y q
   refine ⟨w,k1,?_⟩
   have hne:∀(z:Mn) p',y=mS z->w=.ref p'->p'≠p:=λz p' e ew ep=>sr.sep i j x z (.ref p) (Vi hj) hi (e▸q) hs (ep▸ew▸k1)
   cases y with
   | d x=>exact k2
   | bor zs=>exact k2
   | db _ _=>exact k2
   | fn _=>exact k2
   | dk ks zs=>
    obtain ⟨p',rfl,⟨us,ws,ep,m1,mr⟩,m2⟩:=k2
    exact ⟨p',rfl,⟨us,ws,ep,by rw [bu (hne (.inr (ks,zs)) p' rfl rfl)];exact m1,mr⟩,m2⟩
   | own zs=>
    obtain ⟨p',us,rfl,m1,m2,m3,m4⟩:=k2
    exact ⟨p',us,rfl,by rw [bu (hne (.inl zs) p' rfl rfl)];exact m1,m2,m3,m4⟩
 ·have f:∀(k:Nat) (ys:Mn),(env.set i (some (mS y)))[k]?=some (some (mS ys))->∃ys',env[k]?=some (some (mS ys')):=λk ys q=>by
   rcases gA q with ⟨rfl,_,_⟩ | ⟨_,q⟩
   ·exact ⟨x,hi⟩
   ·exact ⟨ys,q⟩
  obtain ⟨ys',r1⟩:=f j ys q1
  obtain ⟨zs',r2⟩:=f k zs q2
  exact sr.sep j k ys' zs' w hjk r1 r2 q3 q4
theorem SR.upd {J H:Hp}{env:Ev}(sr:SR c J H σ env) (hi:env[i]?=some (some (.own xs))) (hs:σ[i]?=some (some (.ref p))) (hH:H p=some (.lst vs)) (hJ:J p=none) (h0:c.H0 p=none)
 (h:aH c.K J xs' vs'):SR c J (L2.upd H p (.lst vs')) σ (env.set i (some (.own xs'))):=sr.updM (x:=.inl xs) (y:=.inl xs') hi hs hJ h0 ⟨p,vs',rfl,bR,hJ,h0,h⟩
noncomputable def gK (i:Nat) (g:G R):G O:=λenv=>match env[i]? with
 | some (some (.own xs))=>g env >>= λr=>toD r >>= λd=>if xs.length < sizeLine then .ok (.nx (env.set i (some (.own (xs++[d]))))) else .bad
 | _=>.bad
noncomputable def eK:R->S
 | .d x=>.d x
 | .l _ xs=>.bor xs
 | .mo ks vs=>.db ks vs
 | .mb ks vs=>.db ks vs
 | .mf ks vs=>.db ks vs
noncomputable def m_ (K:SG) (J H:Hp):List S->List V->Prop
 | [],vs=>vs=[]
 | s::ss,vs=>∃v us,vs=v::us/\(match s with
  | .d x=>Rep K J x v
  | .bor xs=>∃a ws,v=.ref a/\cB K H a ws/\aH K J xs ws
  | .db ks ws=>∃a,v=.ref a/\eu K J H a ks ws
  | .fn x=>∃f,v=.ref f/\T5 K Tw x=some (some (.ref f))
  | _=>False)/\m_ K J H ss us
theorem m_.length {K:SG}{J H:Hp}:∀{ss:List S}{vs:List V},m_ K J H ss vs->vs.length=ss.length
 | [],_,h=>by cases h;rfl
 | _::_,_,⟨_,_,h,_,h2⟩=>by subst h;exact congrArg (· + 1) h2.length
theorem m_.get {K:SG}{J H:Hp}:∀{ss:List S}{vs:List V}{i:Nat}{s:S},m_ K J H ss vs->ss[i]?=some s->∃v,vs[i]?=some v/\(match s with
  | .d x=>Rep K J x v
  | .bor xs=>∃a ws,v=.ref a/\cB K H a ws/\aH K J xs ws
  | .db ks ws=>∃a,v=.ref a/\eu K J H a ks ws
  | .fn x=>∃f,v=.ref f/\T5 K Tw x=some (some (.ref f))
  | _=>False)
 | [],_,_,_,_,e=>by simp at e
 | _::_,_,0,_,⟨v,us,h,h1,h2⟩,e=>by simp at e;subst e;subst h;exact ⟨v,rfl,h1⟩
 | _::_,_,i + 1,s,⟨v,us,h,h1,h2⟩,e=>by
  subst h
  obtain ⟨v,k1,k2⟩:=m_.get (i:=i) (s:=s) h2 (by simpa using e)
  exact ⟨v,by simpa using k1,k2⟩
noncomputable def FR (K:SG) (H J' H':Hp):R->V->Prop
 | .d x,v=>Rep K J' x v
 | .l _ xs,v=>∃a vs,v=.ref a/\H' a=some (.lst vs)/\J' a=none/\H a=none/\aH K J' xs vs
 | .mf ks vs,v=>∃a,v=.ref a/\eu K J' H' a ks vs/\J' a=none/\H a=none
 | _,_=>False
noncomputable def qZ (K:SG) (n:Nat) (F:List S->M R):Sp:=λvs H Q _=>∃J as,aU J H/\as.length=n/\m_ K J H as vs/\cI (F as) (λr=>∀v J' H',Ext J H J' H'->FR K H J' H' r v->Q v H') (λ_=>False)
noncomputable def fin:M O->M R
 | .ok (.rt r)=>.ok r
 | .ok (.nx _)=>.ok (.d .non)
 | .exc x=>.exc x
 | _=>.bad
def aY (N:List Str) (as:List S):Ev:=as.map some++UQ (N.length - as.length) none
theorem xZ {N:List Str}{as:List S}{i:Nat}{x:S}(h:(aY N as)[i]?=some (some x)):as[i]?=some x:=by
 unfold aY at h
 by_cases hi:i < as.length
 ·rw [Vh (by simpa using hi),Tq] at h
  cases q:as[i]? with
  | none=>rw [q] at h;cases h
  | some y=>rw [q] at h;cases h;rfl
 ·rw [UM (by simpa using hi),Xa] at h
  split at h <;> cases h
theorem HM {N:List Str}{vs:List V}{i:Nat}{v:V}(h:vs[i]?=some v):(L2.start N vs)[i]?=some (some v):=by
 unfold L2.start
 have hi:i < vs.length:=(Tt.mp h).1
 rw [Vh (by simpa using hi),Tq,h]
 rfl
theorem HL {K:SG}{J H:Hp}{T:Exc->Prop}{N:List Str}{as:List S}{vs:List V}(hs:aU J H) (h:m_ K J H as vs):SR ⟨K,H,J,T⟩ J H (L2.start N vs) (aY N as):=by
 have own:∀(i:Nat) (xs:Mn),(aY N as)[i]?≠some (some (mS xs)):=λi xs q=>by
  obtain ⟨v,_,k⟩:=h.get (xZ q)
  cases xs <;> exact k
 refine ⟨⟨hs,aU.refl H,aU.refl J,λ_ _ q=>q⟩,?_,λi x q=>?_,λi j xs ys v _ q=>absurd q (own i xs)⟩
 ·unfold aY L2.start
  rw [Te,Te,SK,SK,Vk,Vk,h.length]
 ·obtain ⟨v,k1,k2⟩:=h.get (xZ q)
  refine ⟨v,HM k1,?_⟩
  cases x with
  | d y=>exact k2
  | own y=>exact k2.elim
  | bor y=>exact k2
  | dk _ _=>exact k2.elim
  | db _ _=>exact k2
  | fn _=>exact k2
abbrev Ep (P:S_) (w:TL) (K:SG) (mg:Str->Option SI) (base:Uz) (N:List Str) (Sx:Str) (sc:VN) (f:Tg) (cd:SI) (A:TR) (outer:List Env) (s:SJ) (H:Hp) (E:XK):Cx:=(tH pH P w K mg base N Sx sc f cd A outer s H E).nox
theorem Ex {P:S_}{w:TL}{K:SG}{mg:Str->Option SI}{base:Uz}{x Sx:Str}{st:V0}{f:Tg}{fd:TM}{N ps:List Str}{k:Nat}{Fm:List S->M R}(F:l_ K x Sx st f fd) (Sc:gF N ps (bA st)){gB:G O}
  (hb:∀(cdv:SI) (A:TR) (outer:List Env) (s:SJ) (H:Hp) (E:XK) (J:Hp) (T:Exc->Prop),dW k (A.deeper (YI Sx (bA st) s.heap.objs.size f cdv))->
   Lm (Ep P w K mg base N Sx (bA st) f cdv A outer s H E) ⟨K,H,J,T⟩ (cV st) gB)
  (hF:∀as r,as.length=ps.length->Fm as=.ok r->fin (gB (aY N as))=.ok r):jH P w K mg base pH (k + 1) f fd ps (qZ K ps.length Fm):=by
 refine F.ok Sc (λvs H Q E h=>?_) (λcdv A outer s H vs Q E hr h=>?_)
 ·obtain ⟨J,as,h1,h2,h3,h4⟩:=h
  rw [h3.length,h2]
 ·obtain ⟨J,as,h1,h2,h3,h4⟩:=h
  refine ⟨_,hb cdv A outer s H E J (λ_=>False) hr,J,aY N as,HL h1 h3,?_⟩
  cases q:Fm as with
  | bad=>rw [q] at h4;exact h4.elim
  | exc x=>rw [q] at h4;exact h4.elim
  | ok r=>
   rw [q] at h4
   have z:=hF as r h2 q
   have ext:∀{J' H':Hp},HI ⟨K,H,J,λ_=>False⟩ J' H'->Ext J H J' H':=λhp=>⟨hp.ent,hp.entJ,hp.sub,hp.frz⟩
   cases qg:gB (aY N as) with
   | bad=>rw [qg] at z;cases z
   | exc x=>rw [qg] at z;cases z
   | ok o=>
    rw [qg] at z
    cases o with
    | bk _=>cases z
    | ct _=>cases z
    | nx env=>cases z;exact λσ' J' H' _ sr=>h4 .non J' H' (ext sr.hp) .non
    | rt r'=>
     cases z
     exact λv J' H' _ hp rf=>h4 v J' H' (ext hp) (by
      cases r with
      | d x=>exact rf
      | l m xs=>exact rf
      | mo _ _=>exact rf
      | mf _ _=>exact rf
      | mb _ _=>exact rf)
noncomputable def lK:R->R
 | .d x=>.d x
 | .l _ xs=>.l .fresh xs
 | .mo ks vs=>.mo ks vs
 | .mb ks vs=>.mb ks vs
 | .mf ks vs=>.mf ks vs
noncomputable def aS (n:Nat) (F:List S->M R):List R->M R:=λrs=>if rs.length=n then (match F (rs.map eK) with
 | .ok r=>.ok (lK r)
 | _=>.bad) else .bad
theorem kD.args {He J H:Hp}(hp:HI c J H):∀{rs:List R}{vs:List V},kD c He J H rs vs->m_ c.K J H (rs.map eK) vs
 | [],_,h=>h
 | r::rs,_,⟨v,us,h,h1,h2⟩=>by
  refine ⟨v,us,h,?_,kD.args hp h2⟩
  cases r with
  | d x=>exact h1
  | l m xs=>exact RR.list hp h1 rfl
  | mo _ _=>obtain ⟨a,h1,h2,_⟩:=h1;exact ⟨a,h1,h2⟩
  | mb _ _=>obtain ⟨a,h1,h2⟩:=h1;exact ⟨a,h1,h2.mono (aU.refl _) hp.ent⟩
  | mf _ _=>obtain ⟨a,h1,h2,_⟩:=h1;exact ⟨a,h1,h2⟩
theorem IV {F:List S->M R}{J H J1 H1:Hp}{Q:VK}{as:List S}{T:Exc->Prop}(hT:c.K=X.K) (e1:Ext J H J1 H1) (ar:m_ c.K J1 H1 as vs) (hl:as.length=n)
 (wr:cI (match F as with
 | .ok r=>.ok (lK r)
 | _=>.bad) (λr=>∀v J' H',Ext J H J' H'->RR c H J' H' r v->Q v H') T):qZ X.K n F (vs++[]) H1 Q E0:=by
 rw [hT] at ar
 refine ⟨J1,as,e1.sub,hl,by rw [V3];exact ar,?_⟩
 cases q:F as with
 | bad=>rw [q] at wr;exact wr
 | exc x=>rw [q] at wr;exact wr
 | ok r=>
  rw [q] at wr
  intro v J' H' e2 fr
  refine wr v J' H' (e1.trans e2) ?_
  cases r with
  | d y=>exact (show Rep c.K J' y v from hT▸fr)
  | mo _ _=>exact fr.elim
  | mb _ _=>exact fr.elim
  | mf _ _=>obtain ⟨a,h1,h2,h3,h4⟩:=fr;exact ⟨a,h1,hT▸h2,h3,e1.h.free h4⟩
  | l m ys=>
   obtain ⟨a,us,h1,h2,h3,h4,h5⟩:=fr
   exact ⟨a,us,h1,h2,h3,e1.h.free h4,hT▸h5⟩
theorem zm {n:Nat}{F:List S->M R}{gs:G (List R)}(hT:c.K=X.K):∀σ H Q,tD c (gN (aS n F) gs) σ H Q->IY (qZ X.K n F) [] E0 (tA c gs) σ H Q:=λσ H Q ⟨J,env,sr,w⟩=>by
 refine ⟨J,env,sr,aF (aL w) λrs wr vs J1 H1 e1 r1=>?_⟩
 unfold aS at wr
 split at wr
 ·rename_i hl
  exact IV hT e1 (r1.args (sr.hp.ext e1)) (by simpa using hl) wr
 ·exact wr.elim
theorem Kf {F:List S->M R}{gs:G (List R)}(G:jH X.prog X.w X.K X.mg X.base pH k f fd ps (qZ X.K n F)) (hr:dW k X.A) (hm:X.mg x=some (.ref f)) (hk:Wo X.K (.ref f)=true)
 (hb:Binds X.K fd ps []) (ha:Ii X c (e::es) gs) (hT:c.K=X.K:=by rfl) (hg:Gl X x:=by rfl) (hdb:(x == ("__debug__":Str))=false:=by decide) (he:SX (e::es) X.env=(false,eval e X.env)::SX es X.env:=by rfl)
 (hpl:(Vb pos (SX es X.env)).any (·.1)=false:=by rfl):PD X c (.Call (.Name x p) (e::es) [] pos) (gN (aS n F) gs):=
 gj (BO (E:=E0) G hr hg hm hk hb .nil Dh ha hdb he hpl) (zm hT)
end
noncomputable def bF (cells:List (Str×Tg)):List (Str×Vx)->List (Str×Tg)->Option (List (Str×Tg))
 | [],cs=>some cs
 | (n,k)::r,cs=>if k == .free then (match cells.lookup n with
  | some a=>bF cells r ((n,a)::cs)
  | none=>none) else bF cells r cs
theorem ng {env:Env}:∀(names:List (Str×Vx)) (cs cl:List (Str×Tg)),bF env.cells names cs=some cl->
  (forIn names cs λ(x:Str×Vx) (r:List (Str×Tg))=>(if (x.2 == .free)=true then do let a <-cellOf env x.1;pure (VE ((x.1,a)::r)) else pure (VE r):Sem (ForInStep (List (Str×Tg)))))=(pure cl:Sem (List (Str×Tg)))
 | [],cs,cl,h=>by cases h;rfl
 | (n,k)::r,cs,cl,h=>by
  unfold bF at h
  rw [List.forIn_cons]
  cases hk:(k == UA) with
  | true=>
   rw [hk,if_pos rfl] at h
   cases hc:env.cells.lookup n with
   | none=>rw [hc] at h;cases h
   | some a=>
    rw [hc] at h
    have e:cellOf env n=pure a:=by unfold cellOf;rw [hc]
    simp only [hk,if_true,e]
    exact ng r ((n,a)::cs) cl h
  | false=>
   rw [hk,if_neg (by decide)] at h
   simp only [hk]
   exact ng r cs cl h
theorem yo {So:VN}{env:Env}{cl:List (Str×Tg)}(h:bF env.cells So.names []=some cl):closureFor So env=pure cl:=by
 have q:=ng (env:=env) So.names [] cl h
 unfold closureFor
 show ((forIn So.names [] λ(x:Str×Vx) (r:List (Str×Tg))=>(if (x.2 == .free)=true then do let a <-cellOf env x.1;pure (VE ((x.1,a)::r)) else pure (VE r):Sem (ForInStep (List (Str×Tg))))) >>= λz=>pure z)=pure cl
 rw [q]
 rfl
theorem gU {cells:List (Str×Tg)}:∀(names:List (Str×Vx)) (cs cl:List (Str×Tg)),bF cells names cs=some cl->(∀x c,cs.lookup x=some c->cells.lookup x=some c)->
  (∀x c,cl.lookup x=some c->cells.lookup x=some c)/\(∀x,((cs.lookup x).isSome=true\/(x,UA)∈names)->(cl.lookup x).isSome=true)
 | [],cs,cl,h,k=>by
  cases h
  exact ⟨k,λx hx=>hx.elim id λz=>by cases z⟩
 | (n,kd)::r,cs,cl,h,k=>by
  unfold bF at h
  cases hk:(kd == UA) with
  | true=>
   rw [hk,if_pos rfl] at h
   cases hc:cells.lookup n with
   | none=>rw [hc] at h;cases h
   | some a=>
    rw [hc] at h
    obtain ⟨h1,h2⟩:=gU r ((n,a)::cs) cl h (λx c q=>by
     rw [UU] at q
     cases e:x == n with
     | true=>
      rw [e] at q
      cases q
      have:x=n:=by simpa using e
      rw [this];exact hc
     | false=>rw [e] at q;exact k x c q)
    refine ⟨h1,λx hx=>h2 x ?_⟩
    by_cases e:x=n
    ·left;subst e;rw [UU];simp
    ·have e':(x == n)=false:=by simpa using e
     rcases hx with hx | hx
     ·left;rw [UU,e'];exact hx
     ·right
      rcases S7.mp hx with z | z
      ·cases z;exact absurd rfl e
      ·exact z
  | false=>
   rw [hk,if_neg (by decide)] at h
   obtain ⟨h1,h2⟩:=gU r cs cl h k
   refine ⟨h1,λx hx=>h2 x ?_⟩
   rcases hx with hx | hx
   ·exact .inl hx
   ·rcases S7.mp hx with z | z
    ·cases z;simp at hk
    ·exact .inr z
section
variable {X:Cx}
def cN (X:Cx) (own:List Str) (cap:List Nat):List Str:=own++cap.map λ(j:Nat)=>(X.N[j]?).getD ("":Str)
noncomputable def LJ (X:Cx) (own:List Str) (cap:List Nat) (So:VN) (cl:List (Str×Tg)) (C:Tg) (s:SJ) (H:Hp) (fp:List Tg):Cx where
 prog:=X.prog
 w:=X.w
 K:=X.K
 mg:=X.mg
 base:=X.base
 A:=X.A
 N:=cN X own cap
 s₀:=s
 H₀:=H
 env:=compEnvC So cl C X.env
 outer:=X.stack
 stack:=X.stack
 ex:=fp
 fn:=λ_=>false
 calm:=X.calm
 pn:=[]
 xe:=λ_ _=>False
noncomputable def dS (X:Cx) (cap:List Nat):Bool:=cap.all λj=>match X.N[j]? with
 | some x=>(match X.env.scope.names.lookup x with
  | some .cell=>true
  | some .free=>true
  | _=>false)
 | none=>false
theorem Am {So:VN}(hc:∀y∈So.names,y.2≠.cell):∀{x:Str},((relabel So env).names.lookup x=some .cell\/(relabel So env).names.lookup x=some .free)->(x,UA)∈So.names:=by
 unfold relabel
 have main:∀(names:List (Str×Vx)),(∀y∈names,y.2≠.cell)->∀x,((names.map λ(n,k)=>if (k == UA && env.scope.kind == .function && env.kindOf n == some .cell) then (n,Xf) else (n,k)).lookup x=some .cell\/
   (names.map λ(n,k)=>if (k == UA && env.scope.kind == .function && env.kindOf n == some .cell) then (n,Xf) else (n,k)).lookup x=some .free)->(x,UA)∈names:=by
  intro names
  induction names with
  | nil=>intro _ x h;simp at h
  | cons p r ih=>
   obtain ⟨n,k⟩:=p
   intro hc x h
   rw [Td] at h
   simp only at h
   by_cases hx:x=n
   ·subst hx
    have hk:k≠.cell:=hc (x,k) SV
    have:k=.free:=by
     by_cases q:(k == UA && env.scope.kind == .function && env.kindOf x == some .cell)=true
     ·rw [SN,SN] at q
      simpa using q.1.1
     ·rw [if_neg q,UU] at h
      simp at h
      rcases h with h | h
      ·exact absurd h hk
      ·exact h
    subst this
    exact SV
   ·have hx':(x == n)=false:=by simpa using hx
    refine SS _ (ih (λy hy=>hc y (SS _ hy)) x ?_)
    have red:∀(q:Str×Vx) (l:List (Str×Vx)),q.1=n->adh x (q::l)=adh x l:=λq l hq=>by
     obtain ⟨q1,q2⟩:=q
     simp only at hq
     subst hq
     rw [UU,hx']
    have hq:(if (k == UA && env.scope.kind == .function && env.kindOf n == some .cell) then (n,Xf) else (n,k)).1=n:=by split <;> rfl
    rw [red _ _ hq] at h
    exact h
 intro x h
 exact main So.names hc x h
end
section
variable {X:Cx}{c:C}
noncomputable def gJ (X:Cx) (c:C) (ifs:List TV) (g:G Bool):Prop:=
 ∀(Sq:List (Tg×Obj)) (s:SJ) (σ:L2.St) (H:Hp) (Q:Bool->Hp->Prop),Inv X Sq σ H s->tB c g σ H Q->
  S8 (Ti X.prog X.w) X.A (forIn ifs true λc r=>if r=true then do let ok <-ZY c X.env (eval c X.env);pure (VE ok) else pure (VE r)) (TP X Sq σ Q) X.xe s
def dY:G Bool:=λ_=>.ok true
noncomputable def fL (gt:GT) (gts:G Bool) (ge:G R):List D->Ev->M (List D)
 | [],_=>.ok []
 | d::ds,env=>gt d env >>= λe=>gts e >>= λk=>if k=true then ge e >>= λr=>toD r >>= λy=>fL gt gts ge ds e >>= λys=>.ok (y::ys) else fL gt gts ge ds e
def cE (n:Nat) (cap:List Nat) (env:Ev):Ev:=UQ n none++cap.map λ(j:Nat)=>(env[j]?).getD none
noncomputable def bZ (n:Nat) (cap:List Nat) (gi:G (List D)) (gt:GT) (gts:G Bool) (ge:G R):G R:=λenv=>gi env >>= λds=>if ds.length<=sizeLine then fL gt gts ge ds (cE n cap env) >>= λys=>.ok (.l .fresh ys) else .bad
theorem kJ {α:Type}{n:Nat}{cap:List Nat}{env:List (Option α)}{i:Nat}{x:α}(h:(UQ n none++cap.map λ(j:Nat)=>(env[j]?).getD none)[i]?=some (some x)):∃j,n<=i/\cap[i - n]?=some j/\env[j]?=some (some x):=by
 by_cases hi:i < n
 ·rw [Vh (by simpa using hi),Xa] at h
  split at h <;> cases h
 ·rw [UM (by simpa using hi),Vk,Tq] at h
  cases q:cap[i - n]? with
  | none=>rw [q] at h;cases h
  | some j=>
   rw [q] at h
   refine ⟨j,by omega,rfl,?_⟩
   have h':(env[j]?).getD none=some x:=Ul h
   cases z:env[j]? with
   | none=>rw [z] at h';cases h'
   | some o=>rw [z] at h';exact congrArg some h'
theorem NZ {α:Type}{n:Nat}{cap:List Nat}{env:List (Option α)}{i j:Nat}{x:α}(h1:n<=i) (h2:cap[i - n]?=some j) (h3:env[j]?=some (some x)):(UQ n none++cap.map λ(j:Nat)=>(env[j]?).getD none)[i]?=some (some x):=by
 rw [UM (by simpa using h1),Vk,Tq,h2]
 simp [h3]
theorem SR.cap {J H:Hp}{σ:L2.St}{env:Ev}(sr:SR c J H σ env) (n:Nat) (cap:List Nat) (hnd:cap.Nodup):SR c J H (UQ n none++cap.map λ(j:Nat)=>(σ[j]?).getD none) (cE n cap env):=by
 refine ⟨sr.hp,by simp [cE],λi x q=>?_,λi j xs ys v hij q1 q2 q3 q4=>?_⟩
 ·obtain ⟨j,h1,h2,h3⟩:=kJ q
  obtain ⟨v,k1,k2⟩:=sr.at_ j x h3
  exact ⟨v,NZ h1 h2 k1,k2⟩
 ·obtain ⟨a,h1,h2,h3⟩:=kJ q1
  obtain ⟨b,h4,h5,h6⟩:=kJ q2
  obtain ⟨a',h7,h8,h9⟩:=kJ q3
  obtain ⟨b',Sh,h11,h12⟩:=kJ q4
  rw [h2] at h8;cases h8
  rw [h5] at h11;cases h11
  have hab:a≠b:=λz=>by
   subst z
   have e1:=(Tt.mp h2)
   have e2:=(Tt.mp h5)
   have:=(Y_ hnd).mp (e1.2.trans e2.2.symm)
   omega
  exact sr.sep a b xs ys v hab h3 h6 h9 h12
theorem SR.other {J H:Hp}(sr:SR c J H σ env) (hJ:J p=none) (h0:c.H0 p=none) (hn:∀(j:Nat) (xs:Mn),env[j]?=some (some (mS xs))->σ[j]?≠some (some (.ref p))):SR c J (L2.upd H p o) σ env:=by
 refine ⟨⟨λb u q=>?_,λb u q=>?_,sr.hp.entJ,sr.hp.frz⟩,sr.len,λj y q=>?_,sr.sep⟩
 ·have:b≠p:=λz=>by rw [z,hJ] at q;cases q
  rw [bu this];exact sr.hp.sub b u q
 ·have:b≠p:=λz=>by rw [z,h0] at q;cases q
  rw [bu this];exact sr.hp.ent b u q
 ·obtain ⟨w,k1,k2⟩:=sr.at_ j y q
  refine ⟨w,k1,?_⟩
  cases y with
  | d x=>exact k2
  | bor zs=>exact k2
  | db _ _=>exact k2
  | fn _=>exact k2
  | dk ks zs=>
   obtain ⟨p',rfl,⟨us,ws,ep,m1,mr⟩,m2⟩:=k2
   have hne:p'≠p:=λz=>hn j (.inr (ks,zs)) q (z▸k1)
   exact ⟨p',rfl,⟨us,ws,ep,by rw [bu hne];exact m1,mr⟩,m2⟩
  | own zs=>
   obtain ⟨p',us,rfl,m1,m2,m3,m4⟩:=k2
   have hne:p'≠p:=λz=>hn j (.inl zs) q (z▸k1)
   exact ⟨p',us,rfl,by rw [bu hne];exact m1,m2,m3,m4⟩
theorem Ext.other {J H J' H':Hp}(e:Ext J H J' H') (h:H p=none) (hJ:J' p=none):Ext J H J' (L2.upd H' p o):=
 ⟨λb u q=>by rw [bu (eN q h)];exact e.h b u q,e.j,λb u q=>by
  have:b≠p:=λz=>by rw [z,hJ] at q;cases q
  rw [bu this];exact e.sub b u q,e.frz⟩
theorem AY {H:Hp}(x:gu P w H h) (hn:H a=none) (sb:TU a h h'):gu P w H h':=λb u e=>by
 refine (x b u e).stay (λd v hd q=>(sb.2 d ?_).trans q) (λ_ q=>q) λ_ _ q=>q
 rintro rfl
 rcases hd with rfl | hd
 ·rw [hn] at e;cases e
 ·rw [hn] at hd;cases hd
theorem PX {Sq:List (Tg×Obj)}{σ:L2.St}{H:Hp}{s:SJ}{own:List Str}{cap:List Nat}{So:VN}{cl:List (Str×Tg)}{fp:List Tg}{h1:Uz}{m:Str->Option SI}{tk:Nat}(I:Inv X Sq σ H s) (ok:(LJ X own cap So cl s.heap.objs.size s H fp).Ok)
  (hcl:bF X.env.cells So.names []=some cl) (hcell:∀y∈So.names,y.2≠.cell) (hcap:dS X cap=true) (Qu:∀j∈cap,∀x,X.N[j]?=some x->(relabel So X.env).names.lookup x≠some .local)
  (hns:h1.Ns s.heap.objs.size m) (old:∀b o,s.heap.get? b=some o->h1.get? b=some o):
  Inv (LJ X own cap So cl s.heap.objs.size s H fp) [] (UQ own.length none++cap.map λ(j:Nat)=>(σ[j]?).getD none) H {s with heap:=h1,toks:=tk}:=by
 obtain ⟨m1,m2⟩:=gU So.names [] cl hcl (λx c h=>by simp at h)
 refine ⟨ok,rfl,I.bare,Un.kept old,⟨m,hns,λi x v q1 q2 q3=>?_⟩,λx d h=>?_,I.hok.fresh (SW _),λx d h=>I.freeC x d (m1 x d h),λp hp=>absurd (show p∈([]:List (Tg×Obj)) from hp) (by simp),I.hok.kept old,?_⟩
 ·obtain ⟨j,h2,h3,h4⟩:=kJ q2
  have q1':(own++cap.map λ(j:Nat)=>(X.N[j]?).getD ("":Str))[i]?=some x:=q1
  rw [UM (by exact h2),Tq,h3] at q1'
  have hj:j∈cap:=Ui h3
  have hc:(match X.N[j]? with
   | some x=>(match X.env.scope.names.lookup x with
    | some .cell=>true
    | some .free=>true
    | _=>false)
   | none=>false)=true:=by
   unfold dS at hcap
   exact Tu.mp hcap j hj
  cases hx:X.N[j]? with
  | none=>rw [hx] at hc;cases hc
  | some y=>
   rw [abv,hx] at q1'
   rw [hx] at hc
   have e:y=x:=by simpa using q1'
   subst e
   have kd:X.env.kindOf y=some .cell\/X.env.kindOf y=some .free:=by
    unfold adC
    simp only at hc
    split at hc
    ·rename_i z;exact .inl z
    ·rename_i z;exact .inr z
    ·cases hc
   obtain ⟨mX,nX,lX⟩:=I.loc
   obtain ⟨u,ru,lu⟩:=lX j y v hx h4 (kd.elim (λz=>.inr (.inl z)) λz=>.inr (.inr z))
   refine ⟨u,ru,.inr ?_⟩
   have kd':(relabel So X.env).names.lookup y=some .cell\/(relabel So X.env).names.lookup y=some .free:=by
    rcases q3 with z | z | z
    ·exact absurd z (Qu j hj y hx)
    ·exact .inl z
    ·exact .inr z
   refine ⟨kd',?_⟩
   obtain ⟨d,hd⟩:=Ub.mp (m2 y (.inr (Am hcell kd')))
   refine ⟨d,hd,?_⟩
   rcases lu with ⟨z,_⟩ | ⟨_,d',hd',z⟩
   ·rcases kd with k | k <;> (rw [k] at z;cases z)
   ·have:=m1 y d hd
    rw [hd'] at this
    cases this
    obtain ⟨o,ho,hod⟩:=z
    exact ⟨o,old _ _ ho,hod⟩
 ·obtain ⟨v,o,ho,hod⟩:=I.cell x d (m1 x d h)
  exact ⟨v,o,old _ _ ho,hod⟩
 ·show _=(own++cap.map λ(j:Nat)=>(X.N[j]?).getD ("":Str)).length
  simp
noncomputable def dX (X:Cx) (cap:List Nat) (So:VN):Bool:=cap.all λj=>match X.N[j]? with
 | some x=>!((relabel So X.env).names.lookup x == some .local)
 | none=>true
noncomputable def fU:List Nat->Bool
 | []=>true
 | x::r=>!(r.contains x) && fU r
theorem BL:∀{l:List Nat},fU l=true->l.Nodup
 | [],_=>VA
 | x::r,h=>by
  unfold fU at h
  rw [SN] at h
  refine U7.mpr ⟨λz=>?_,BL h.2⟩
  have:=h.1
  simp [z] at this
theorem Lv {X:Cx}{H:Hp}{s:SJ}(I:L2.Inv X Sq σ H s) (h:s.heap.objs.size<=T):(T∈X.ex\/X.s₀.heap.objs.size<=T)/\T≠X.env.locals/\(∀x c,X.env.cells.lookup x=some c->c≠T)/\∀p∈X.pn++Sq,p.1≠T:=by
 have ne:∀b,b < s.heap.objs.size->b≠T:=λb hb z=>absurd (To (z▸hb) h) (Vg _)
 refine ⟨.inr (Tz I.sz h),(ne _ I.lt).symm,λx c hc=>?_,λp hp=>ne _ (S9 (I.pin p hp).1)⟩
 obtain ⟨v,o,hv,_⟩:=I.cell x c hc
 exact ne _ (S9 hv)
theorem qJ {X:Cx}{H:Hp}{s:SJ}{C:Tg}{o0:Obj}(I:L2.Inv X Sq σ H s) (ap:(C∈X.ex\/X.s₀.heap.objs.size<=C)/\C≠X.env.locals/\(∀x c,X.env.cells.lookup x=some c->c≠C)/\∀p∈X.pn++Sq,p.1≠C) (hf:H C=none) (sb:TU C s.heap h'):L2.Inv X Sq σ H {s with heap:=h'}:=by
 refine I.call' (ch:=[C]) rfl ⟨λb o hb hn _ hx=>?_,λb o hb hn _ hx=>⟨o.slots,?_⟩,λ_ _ _ n _=>n,λb o hb hx=>⟨o,?_⟩,λ_ _ q=>q,λ_ _ _ q=>q,λ_ ps q=>⟨#[],by rw [q];simp⟩⟩ (λa o ha=>?_) I.bare (λb hb=>by rw [S6.mp hb];exact ap)
 ·exact (sb.2 b λz=>hx (by simp [z])).trans hb
 ·exact (sb.2 b λz=>hx (by simp [z])).trans hb
 ·exact (sb.2 b λz=>hx (by simp [z])).trans hb
 ·refine (I.hok a o ha).stay (λb u hb q=>(sb.2 b λz=>?_).trans q) (λ_ q=>q) λ_ _ q=>q
  rcases hb with rfl | hb
  ·rw [z,hf] at ha;cases ha
  ·rw [z,hf] at hb;cases hb
end
mutual
noncomputable def bg:D->D->Bool
 | .non,.non=>true
 | .bl p,.bl q=>p == q
 | .bl p,.int q=>(if p then 1 else 0) == q
 | .int p,.bl q=>p == (if q then 1 else 0)
 | .int p,.int q=>p == q
 | .str p,.str q=>p == q
 | .tup p,.tup q=>cD p q
 | .lst p,.lst q=>cD p q
 | .emp,.emp=>true
 | .exn _ _ _,.exn _ _ _=>true
 | .dct _ _,.dct _ _=>true
 | _,_=>false
noncomputable def cD:List D->List D->Bool
 | [],[]=>true
 | x::xs,y::ys=>bg x y && cD xs ys
 | _,_=>false
end
mutual
theorem f_:∀d:D,bg d d=true
 | .non=>by simp [bg]
 | .bl _=>by simp [bg]
 | .int _=>by simp [bg]
 | .str _=>by simp [bg]
 | .tup xs=>by simp only [bg];exact qp xs
 | .lst xs=>by simp only [bg];exact qp xs
 | .emp=>by simp [bg]
 | .exn _ _ _=>by simp [bg]
 | .dct _ _=>by simp [bg]
theorem qp:∀ds:List D,cD ds ds=true
 | []=>by simp [cD]
 | x::xs=>by simp only [cD,f_ x,qp xs,acw]
end
theorem oF:∀{xs ys:List D},xs.length≠ys.length->cD xs ys=false
 | [],[],h=>absurd rfl h
 | [],_::_,_=>by simp [cD]
 | _::_,[],_=>by simp [cD]
 | x::xs,y::ys,h=>by
  simp only [cD,oF (xs:=xs) (ys:=ys) (λz=>h (congrArg (· + 1) z)),Wq]
noncomputable def o5 (xs ys:List D) (j:Nat):Bool:=match xs[j]?,ys[j]? with
 | some x,some y=>bg x y
 | _,_=>false
theorem oG:∀{xs ys:List D},xs.length=ys.length->(SM xs.length).all (o5 xs ys)=cD xs ys
 | [],[],_=>by simp [cD]
 | x::xs,y::ys,h=>by
  have ih:=oG (xs:=xs) (ys:=ys) (by simpa using h)
  rw [Uv,Zf,VP,Yy]
  simp only [cD]
  rw [<-ih]
  rfl
theorem zK (xs ys:List D):((SM (min xs.length ys.length)).all (o5 xs ys) && xs.length == ys.length)=cD xs ys:=by
 by_cases h:xs.length=ys.length
 ·rw [<-h,Nat.min_self,oG h];simp
 ·rw [oF h,beq_eq_false_iff_ne.mpr h,Wq]
section
structure HF (K:SG) (J:Hp) (s:SJ):Prop where
 t:∀a xs,cL K J a xs->∃Su:List SI,Vals xs Su/\s.heap.IsTuple a Su.toArray
 l:∀a xs,cB K J a xs->∃Su:List SI,Vals xs Su/\s.heap.IsList a Su.toArray
 e:∀a,J a=some (.dK [])->∃o,s.heap.get? a=some o/\o.cls=.type "dict"
 d:∀a ep SA,J a=some (lJ a ep SA)->∃o es,s.heap.get? a=some o/\o.ExactDict/\o.data=.dict es ep/\YG yS SA es.toList
variable {K:SG}{J:Hp}{s:SJ}
theorem HF.of {X:Cx}{c:C}{H:Hp}(I:Inv X Sq σ H s) (hs:aU J H):HF X.K J s:=
 ⟨λa xs h=>let ⟨Su,r,p,_⟩:=I.tuple (eO hs h);⟨Su,r,p⟩,λa xs h=>let ⟨Su,r,p,_⟩:=I.list (hs.seq h);⟨Su,r,p.isList⟩,λa h=>by
  obtain ⟨_,_,vs,_,p⟩:=(show cG X.prog X.w H s.heap a (.dK []) from I.hok a _ (hs _ _ h))
  obtain ⟨o,es,ep,h1,h2,_⟩:=p
  exact ⟨o,h1,h2.1⟩,λa ep SA h=>(show cG X.prog X.w H s.heap a (lJ a ep SA) from I.hok a _ (hs _ _ h)).1⟩
theorem EM {xs ys:List SI}(h:s.heap.IsTuple a xs.toArray) (h':s.heap.IsTuple a ys.toArray):xs=ys:=by
 obtain ⟨o,ho,_,n,hd⟩:=h
 obtain ⟨o',ho',_,n',hd'⟩:=h'
 rw [ho] at ho';cases ho'
 rw [hd] at hd'
 injection hd' with h1 _
 simpa using congrArg Zq h1
theorem CN {xs ys:List SI}(h:s.heap.IsList a xs.toArray) (h':s.heap.IsList a ys.toArray):xs=ys:=by
 obtain ⟨o,ho,_,n,hd⟩:=h
 obtain ⟨o',ho',_,n',hd'⟩:=h'
 rw [ho] at ho';cases ho'
 rw [hd] at hd'
 injection hd' with h1 _
 simpa using congrArg Zq h1
mutual
theorem Rep.inj (F:HF K J s):∀{d e:D}{v:V},Rep K J d v->Rep K J e v->dep d<=1000->dep e<=1000->d=e
 | _,_,_,.emp _,_,h,_=>by unfold dep at h;omega
 | _,_,_,.exn _ _ _ _ _,_,h,_=>by unfold dep at h;omega
 | _,_,_,.dct _ _ _ _ _,_,h,_=>by unfold dep at h;omega
 | _,_,_,.non,.non,_,_=>rfl
 | _,_,_,.bl _,.bl _,_,_=>rfl
 | _,_,_,.int _,.int _,_,_=>rfl
 | _,_,_,.str _,.str _,_,_=>rfl
 | _,_,_,.tup _ _,.emp _,_,h=>by unfold dep at h;omega
 | _,_,_,.lst _ _,.emp _,_,h=>by unfold dep at h;omega
 | _,_,_,.tup _ _,.exn _ _ _ _ _,_,h=>by unfold dep at h;omega
 | _,_,_,.tup _ _,.dct _ _ _ _ _,_,h=>by unfold dep at h;omega
 | _,_,_,.lst _ _,.exn _ _ _ _ _,_,h=>by unfold dep at h;omega
 | _,_,_,.lst _ _,.dct _ _ _ _ _,_,h=>by unfold dep at h;omega
 | _,_,_,.tup h hs,.tup h' hs',k,k'=>by
  obtain ⟨Su,r,p⟩:=F.t _ _ h
  obtain ⟨its',r',p'⟩:=F.t _ _ h'
  have:=EM p p'
  subst this
  have:=r.inj r'
  subst this
  rw [aH.inj F hs hs' (by unfold dep at k;omega) (by unfold dep at k';omega)]
 | _,_,_,.lst h hs,.lst h' hs',k,k'=>by
  obtain ⟨Su,r,p⟩:=F.l _ _ h
  obtain ⟨its',r',p'⟩:=F.l _ _ h'
  have:=CN p p'
  subst this
  have:=r.inj r'
  subst this
  rw [aH.inj F hs hs' (by unfold dep at k;omega) (by unfold dep at k';omega)]
 | _,_,_,.tup h _,.lst h' _,_,_=>by
  obtain ⟨Su,r,p⟩:=F.t _ _ h
  obtain ⟨its',r',p'⟩:=F.l _ _ h'
  exact absurd rfl (Zg p' p)
 | _,_,_,.lst h _,.tup h' _,_,_=>by
  obtain ⟨Su,r,p⟩:=F.l _ _ h
  obtain ⟨its',r',p'⟩:=F.t _ _ h'
  exact absurd rfl (Zg p p')
theorem aH.inj (F:HF K J s):∀{ds es:List D}{vs:List V},aH K J ds vs->aH K J es vs->deps ds<=1000->deps es<=1000->ds=es
 | _,_,_,.nil,.nil,_,_=>rfl
 | _,_,_,.cons h hs,.cons h' hs',k,k'=>by rw [Rep.inj F h h' (by unfold deps at k;omega) (by unfold deps at k';omega),aH.inj F hs hs' (by unfold deps at k;omega) (by unfold deps at k';omega)]
end
theorem jD {A:TR}(h:s.heap.IsTuple a Su) (r:RelV v u) (f:uP v=true) (hu:A.units < UL):Vn A s (.ref a) u false/\Vn A s u (.ref a) false:=by
 cases v with
 | non=>cases r;exact ⟨.tuple_none h hu,.none_tuple h hu⟩
 | bl b=>cases r;exact ⟨.tuple_bool b h hu,.bool_tuple b h hu⟩
 | int i=>obtain ⟨t,rfl⟩:=r;exact ⟨.tuple_int i t h hu,.int_tuple i t h hu⟩
 | str x=>obtain ⟨t,rfl⟩:=r;exact ⟨.tuple_str x t h hu,.str_tuple x t h hu⟩
 | _=>exact absurd (show false=true from f) Tv
theorem j5 {A:TR}(h:s.heap.IsList a Su) (r:RelV v u) (f:uP v=true) (hu:A.units < UL):Vn A s (.ref a) u false/\Vn A s u (.ref a) false:=by
 cases v with
 | non=>cases r;exact ⟨.list_none h hu,.none_list h hu⟩
 | bl b=>cases r;exact ⟨.list_bool b h hu,.bool_list b h hu⟩
 | int i=>obtain ⟨t,rfl⟩:=r;exact ⟨.list_int i t h hu,.int_list i t h hu⟩
 | str x=>obtain ⟨t,rfl⟩:=r;exact ⟨.list_str x t h hu,.str_list x t h hu⟩
 | _=>exact absurd (show false=true from f) Tv
noncomputable def qE:D->Bool
 | .tup _=>false
 | .lst _=>false
 | .emp=>false
 | .exn _ _ _=>false
 | .dct _ _=>false
 | _=>true
theorem Rep.flat (h:Rep K J d v) (f:qE d=true):uP v=true:=by
 cases h <;> first | rfl | cases f
theorem Gq (h:Rep K J d v) (h':Rep K J e w) (f:qE d=true) (f':qE e=true):LO v w=bg d e:=by
 cases h <;> cases h' <;> first | rfl | cases f | cases f' | simp [LO,bg]
theorem in1_units (A:TR):A.in1.units=A.units + 1:=rfl
theorem uO (F:HF K J s) (A:TR) (hd:Rep K J d v) (he:Rep K J e w) (rv:RelV v u) (rw':RelV w u') (f:qE d=true) (hu:A.units < UL) (hu':dep e<=1000):Vn A s u u' (bg d e):=by
 cases q:qE e with
 | true=>rw [<-Gq hd he f q];exact LN rv rw' (hd.flat f) (he.flat q)
 | false=>
  cases he with
  | tup h' hs'=>
   cases rw'
   obtain ⟨its',r',p'⟩:=F.t _ _ h'
   have:=(jD p' rv (hd.flat f) hu).2
   cases hd <;> first | exact this | cases f
  | lst h' hs'=>
   cases rw'
   obtain ⟨its',r',p'⟩:=F.l _ _ h'
   have:=(j5 p' rv (hd.flat f) hu).2
   cases hd <;> first | exact this | cases f
  | emp _=>unfold dep at hu';omega
  | exn _ _ _ _ _=>unfold dep at hu';omega
  | dct _ _ _ _ _=>unfold dep at hu';omega
  | _=>cases q
mutual
theorem nE (F:HF K J s):∀{d e:D}{v w:V}{u u':SI}(A:TR),Rep K J d v->Rep K J e w->RelV v u->RelV w u'->A.units + dep d < UL->dep d<=1000->dep e<=1000->Vn A s u u' (bg d e)
 | .tup ds,e,_,w,u,u',A,.tup h hs,he,rv,rw',hu,hd1,hu'=>by
  cases rv
  obtain ⟨Su,r,p⟩:=F.t _ _ h
  have Qp:A.units < UL:=by unfold dep at hu;omega
  cases he with
  | tup h' hs'=>
   cases rw'
   obtain ⟨its',r',p'⟩:=F.t _ _ h'
   rename_i a vs b ws es
   by_cases q:a=b
   ·subst q
    have:=Rep.inj F (.tup h hs) (.tup h' hs') hd1 hu'
    rw [<-this,f_]
    exact Zt _
   ·have l1:Su.length=ds.length:=by rw [<-r.length,hs.length]
    have l2:its'.length=es.length:=by rw [<-r'.length,hs'.length]
    simp only [bg]
    rw [<-zK,<-l1,<-l2]
    refine aaq q ?_
    have:=aaO (e:=o5 ds es) p p' Qp λj j1 j2=>by
     have k1:j < ds.length:=by rw [<-l1];simpa using j1
     have k2:j < es.length:=by rw [<-l2];simpa using j2
     have:=nF F A.in1 hs hs' r r' (by rw [in1_units];unfold dep at hu;omega) (by unfold dep at hd1;omega) (by unfold dep at hu';omega) j k1 k2
     have m1:j < Su.length:=by simpa using j1
     have m2:j < its'.length:=by simpa using j2
     simpa [m1,m2] using this
    simpa using this
  | lst h' hs'=>
   cases rw'
   obtain ⟨its',r',p'⟩:=F.l _ _ h'
   exact acO p p' Qp
  | non=>exact (jD p rw' rfl Qp).1
  | bl _=>exact (jD p rw' rfl Qp).1
  | int _=>exact (jD p rw' rfl Qp).1
  | str _=>exact (jD p rw' rfl Qp).1
  | emp _=>unfold dep at hu';omega
  | exn _ _ _ _ _=>unfold dep at hu';omega
  | dct _ _ _ _ _=>unfold dep at hu';omega
 | .lst ds,e,_,w,u,u',A,.lst h hs,he,rv,rw',hu,hd1,hu'=>by
  cases rv
  obtain ⟨Su,r,p⟩:=F.l _ _ h
  have Qp:A.units < UL:=by unfold dep at hu;omega
  cases he with
  | lst h' hs'=>
   cases rw'
   obtain ⟨its',r',p'⟩:=F.l _ _ h'
   rename_i a vs b ws es
   by_cases q:a=b
   ·subst q
    have:=Rep.inj F (.lst h hs) (.lst h' hs') hd1 hu'
    rw [<-this,f_]
    exact Zt _
   ·have l1:Su.length=ds.length:=by rw [<-r.length,hs.length]
    have l2:its'.length=es.length:=by rw [<-r'.length,hs'.length]
    simp only [bg]
    refine aaq q ?_
    by_cases z:ds.length=es.length
    ·rw [<-oG z,<-l1]
     have:=abe (e:=o5 ds es) p p' (by simp;omega) Qp λj j1 j2=>by
      have k1:j < ds.length:=by rw [<-l1];simpa using j1
      have k2:j < es.length:=by rw [<-l2];simpa using j2
      have:=nF F A.in1 hs hs' r r' (by rw [in1_units];unfold dep at hu;omega) (by unfold dep at hd1;omega) (by unfold dep at hu';omega) j k1 k2
      have m1:j < Su.length:=by simpa using j1
      have m2:j < its'.length:=by simpa using j2
      simpa [m1,m2] using this
     simpa using this
    ·rw [oF z]
     exact acg p p' (by simp;omega) Qp
  | tup h' hs'=>
   cases rw'
   obtain ⟨its',r',p'⟩:=F.t _ _ h'
   exact acP p p' Qp
  | non=>exact (j5 p rw' rfl Qp).1
  | bl _=>exact (j5 p rw' rfl Qp).1
  | int _=>exact (j5 p rw' rfl Qp).1
  | str _=>exact (j5 p rw' rfl Qp).1
  | emp _=>unfold dep at hu';omega
  | exn _ _ _ _ _=>unfold dep at hu';omega
  | dct _ _ _ _ _=>unfold dep at hu';omega
 | .non,e,v,w,u,u',A,hd,he,rv,rw',hu,_,hu'=>uO F A hd he rv rw' rfl (by omega) hu'
 | .bl _,e,v,w,u,u',A,hd,he,rv,rw',hu,_,hu'=>uO F A hd he rv rw' rfl (by omega) hu'
 | .int _,e,v,w,u,u',A,hd,he,rv,rw',hu,_,hu'=>uO F A hd he rv rw' rfl (by omega) hu'
 | .emp,e,v,w,u,u',A,hd,he,rv,rw',hu,hd1,hu'=>by unfold dep at hd1;omega
 | .exn _ _ _,e,v,w,u,u',A,hd,he,rv,rw',hu,hd1,hu'=>by unfold dep at hd1;omega
 | .dct _ _,e,v,w,u,u',A,hd,he,rv,rw',hu,hd1,hu'=>by unfold dep at hd1;omega
 | .str _,e,v,w,u,u',A,hd,he,rv,rw',hu,_,hu'=>uO F A hd he rv rw' rfl (by omega) hu'
theorem nF (F:HF K J s):∀{ds es:List D}{vs ws:List V}{us us':List SI}(A:TR),aH K J ds vs->aH K J es ws->Vals vs us->Vals ws us'->A.units + deps ds < UL->deps ds<=1000->deps es<=1000->
  ∀(j:Nat) (h1:j < ds.length) (h2:j < es.length),Vn A s (us.getD j .none) (us'.getD j .none) (o5 ds es j)
 | _,_,_,_,_,_,A,.cons h hs,.cons h' hs',.cons r rs,.cons r' rs',hu,k1,k2,0,_,_=>nE F A h h' r r' (by unfold deps at hu;omega) (by unfold deps at k1;omega) (by unfold deps at k2;omega)
 | _,_,_,_,_,_,A,.cons h hs,.cons h' hs',.cons r rs,.cons r' rs',hu,k1,k2,j + 1,h1,h2=>nF F A hs hs' rs rs' (by unfold deps at hu;omega) (by unfold deps at k1;omega) (by unfold deps at k2;omega) j (by simpa using h1) (by simpa using h2)
end
end
section
variable {K:SG}{J:Hp}{s:SJ}
theorem Fz (F:HF K J s) (A:TR) (hd:Rep K J d v) (he:Rep K J e w) (rv:RelV v u) (rw':RelV w u') (hu:A.units + dep d < UL) (hd1:dep d<=1000) (hu':dep e<=1000):SeqAt.RcAt A s u u' (bg d e)/\SeqAt.RcNeAt A s u u' (!bg d e):=by
 have Qp:A.units < UL:=by omega
 cases hd with
 | non=>
  cases rv
  cases he with
  | non=>cases rw';exact ⟨.none_none,.none_none⟩
  | bl b=>cases rw';exact ⟨.none_bool b,.none_bool b⟩
  | int i=>obtain ⟨t,rfl⟩:=rw';exact ⟨.none_int i t,.none_int i t⟩
  | str x=>obtain ⟨t,rfl⟩:=rw';exact ⟨.none_str x t,.none_str x t⟩
  | tup h hs=>cases rw';obtain ⟨Su,r,p⟩:=F.t _ _ h;exact ⟨.none_tuple p Qp,.none_tuple p Qp⟩
  | lst h hs=>cases rw';obtain ⟨Su,r,p⟩:=F.l _ _ h;exact ⟨.none_list p Qp,.none_list p Qp⟩
  | emp _=>unfold dep at hu';omega
  | exn _ _ _ _ _=>unfold dep at hu';omega
  | dct _ _ _ _ _=>unfold dep at hu';omega
 | bl a=>
  cases rv
  cases he with
  | non=>cases rw';exact ⟨.bool_none a,.bool_none a⟩
  | bl b=>cases rw';exact ⟨.bool_bool a b,.bool_bool a b⟩
  | int i=>obtain ⟨t,rfl⟩:=rw';exact ⟨.bool_int a i t,.bool_int a i t⟩
  | str x=>obtain ⟨t,rfl⟩:=rw';exact ⟨.bool_str a x t,.bool_str a x t⟩
  | tup h hs=>cases rw';obtain ⟨Su,r,p⟩:=F.t _ _ h;exact ⟨.bool_tuple a p Qp,.bool_tuple a p Qp⟩
  | lst h hs=>cases rw';obtain ⟨Su,r,p⟩:=F.l _ _ h;exact ⟨.bool_list a p Qp,.bool_list a p Qp⟩
  | emp _=>unfold dep at hu';omega
  | exn _ _ _ _ _=>unfold dep at hu';omega
  | dct _ _ _ _ _=>unfold dep at hu';omega
 | int a=>
  obtain ⟨t0,rfl⟩:=rv
  cases he with
  | non=>cases rw';exact ⟨.int_none a t0,.int_none a t0⟩
  | bl b=>cases rw';exact ⟨.int_bool a t0 b,.int_bool a t0 b⟩
  | int i=>obtain ⟨t,rfl⟩:=rw';exact ⟨.int_int a t0 i t,.int_int a t0 i t⟩
  | str x=>obtain ⟨t,rfl⟩:=rw';exact ⟨.int_str a t0 x t,.int_str a t0 x t⟩
  | tup h hs=>cases rw';obtain ⟨Su,r,p⟩:=F.t _ _ h;exact ⟨.int_tuple a t0 p Qp,.int_tuple a t0 p Qp⟩
  | lst h hs=>cases rw';obtain ⟨Su,r,p⟩:=F.l _ _ h;exact ⟨.int_list a t0 p Qp,.int_list a t0 p Qp⟩
  | emp _=>unfold dep at hu';omega
  | exn _ _ _ _ _=>unfold dep at hu';omega
  | dct _ _ _ _ _=>unfold dep at hu';omega
 | str a=>
  obtain ⟨t0,rfl⟩:=rv
  cases he with
  | non=>cases rw';exact ⟨.str_none a t0,.str_none a t0⟩
  | bl b=>cases rw';exact ⟨.str_bool a t0 b,.str_bool a t0 b⟩
  | int i=>obtain ⟨t,rfl⟩:=rw';exact ⟨.str_int a t0 i t,.str_int a t0 i t⟩
  | str x=>obtain ⟨t,rfl⟩:=rw';exact ⟨.str_str a t0 x t,.str_str a t0 x t⟩
  | tup h hs=>cases rw';obtain ⟨Su,r,p⟩:=F.t _ _ h;exact ⟨.str_tuple a t0 p Qp,.str_tuple a t0 p Qp⟩
  | lst h hs=>cases rw';obtain ⟨Su,r,p⟩:=F.l _ _ h;exact ⟨.str_list a t0 p Qp,.str_list a t0 p Qp⟩
  | emp _=>unfold dep at hu';omega
  | exn _ _ _ _ _=>unfold dep at hu';omega
  | dct _ _ _ _ _=>unfold dep at hu';omega
 | tup h hs=>
  cases rv
  obtain ⟨Su,r,p⟩:=F.t _ _ h
  cases he with
  | non=>cases rw';exact ⟨.tuple_none p Qp,.tuple_none p Qp⟩
  | bl b=>cases rw';exact ⟨.tuple_bool b p Qp,.tuple_bool b p Qp⟩
  | int i=>obtain ⟨t,rfl⟩:=rw';exact ⟨.tuple_int i t p Qp,.tuple_int i t p Qp⟩
  | str x=>obtain ⟨t,rfl⟩:=rw';exact ⟨.tuple_str x t p Qp,.tuple_str x t p Qp⟩
  | lst h' hs'=>cases rw';obtain ⟨its',r',p'⟩:=F.l _ _ h';exact ⟨.tuple_list p p' Qp,.tuple_list p p' Qp⟩
  | emp _=>unfold dep at hu';omega
  | exn _ _ _ _ _=>unfold dep at hu';omega
  | dct _ _ _ _ _=>unfold dep at hu';omega
  | tup h' hs'=>
   cases rw'
   obtain ⟨its',r',p'⟩:=F.t _ _ h'
   rename_i a vs ds b ws es
   have l1:Su.length=ds.length:=by rw [<-r.length,hs.length]
   have l2:its'.length=es.length:=by rw [<-r'.length,hs'.length]
   have it:∀(j:Nat) (j1:j < Su.toArray.size) (j2:j < its'.toArray.size),Vn A.in1 s Su.toArray[j] its'.toArray[j] (o5 ds es j):=λj j1 j2=>by
    have k1:j < ds.length:=by rw [<-l1];simpa using j1
    have k2:j < es.length:=by rw [<-l2];simpa using j2
    have:=nF F A.in1 hs hs' r r' (by rw [in1_units];unfold dep at hu;omega) (by unfold dep at hd1;omega) (by unfold dep at hu';omega) j k1 k2
    have m1:j < Su.length:=by simpa using j1
    have m2:j < its'.length:=by simpa using j2
    simpa [m1,m2] using this
   simp only [bg]
   rw [<-zK,<-l1,<-l2]
   have q1:=aaO p p' Qp it
   have q2:=adi p p' Qp it
   exact ⟨by simpa using q1,by simpa using q2⟩
 | emp _=>unfold dep at hd1;omega
 | exn _ _ _ _ _=>unfold dep at hd1;omega
 | dct _ _ _ _ _=>unfold dep at hd1;omega
 | lst h hs=>
  cases rv
  obtain ⟨Su,r,p⟩:=F.l _ _ h
  cases he with
  | non=>cases rw';exact ⟨.list_none p Qp,.list_none p Qp⟩
  | bl b=>cases rw';exact ⟨.list_bool b p Qp,.list_bool b p Qp⟩
  | int i=>obtain ⟨t,rfl⟩:=rw';exact ⟨.list_int i t p Qp,.list_int i t p Qp⟩
  | str x=>obtain ⟨t,rfl⟩:=rw';exact ⟨.list_str x t p Qp,.list_str x t p Qp⟩
  | tup h' hs'=>cases rw';obtain ⟨its',r',p'⟩:=F.t _ _ h';exact ⟨.list_tuple p p' Qp,.list_tuple p p' Qp⟩
  | emp _=>unfold dep at hu';omega
  | exn _ _ _ _ _=>unfold dep at hu';omega
  | dct _ _ _ _ _=>unfold dep at hu';omega
  | lst h' hs'=>
   cases rw'
   obtain ⟨its',r',p'⟩:=F.l _ _ h'
   rename_i a vs ds b ws es
   have l1:Su.length=ds.length:=by rw [<-r.length,hs.length]
   have l2:its'.length=es.length:=by rw [<-r'.length,hs'.length]
   have it:∀(j:Nat) (j1:j < Su.toArray.size) (j2:j < its'.toArray.size),Vn A.in1 s Su.toArray[j] its'.toArray[j] (o5 ds es j):=λj j1 j2=>by
    have k1:j < ds.length:=by rw [<-l1];simpa using j1
    have k2:j < es.length:=by rw [<-l2];simpa using j2
    have:=nF F A.in1 hs hs' r r' (by rw [in1_units];unfold dep at hu;omega) (by unfold dep at hd1;omega) (by unfold dep at hu';omega) j k1 k2
    have m1:j < Su.length:=by simpa using j1
    have m2:j < its'.length:=by simpa using j2
    simpa [m1,m2] using this
   simp only [bg]
   by_cases z:ds.length=es.length
   ·rw [<-oG z,<-l1]
    have q1:=abe p p' (by simp;omega) Qp it
    have q2:=adt p p' (by simp;omega) Qp it
    exact ⟨by simpa using q1,by simpa using q2⟩
   ·rw [oF z]
    exact ⟨.lists_lengths p p' (by simp;omega) Qp,.lists_lengths p p' (by simp;omega) Qp⟩
end
section
variable {X:Cx}{c:C}{e a b tg:TV}{es:List TV}{ga gb g:G R}{pos:Pos}
theorem RR.rep {He J H:Hp}(hp:HI c J H):∀{r:R}{v:V}{d:D},RR c He J H r v->(∀xs,r=.l .fresh xs\/r=.l .own xs\/r=.l .bor xs->d=.lst xs)->(∀x,r=.d x->d=x)->(∀ks vs,r≠.mo ks vs/\r≠.mb ks vs/\r≠.mf ks vs)->Rep c.K H d v
 | .mo _ _,_,_,_,_,_,n=>((n _ _).1 rfl).elim
 | .mb _ _,_,_,_,_,_,n=>((n _ _).2.1 rfl).elim
 | .mf _ _,_,_,_,_,_,n=>((n _ _).2.2 rfl).elim
 | .d x,v,d,h,_,k,_=>by rw [k x rfl];exact Rep.mono hp.sub h
 | .l m xs,v,d,h,k,_,_=>by
  have e:d=.lst xs:=k xs (by cases m;exact .inl rfl;exact .inr (.inl rfl);exact .inr (.inr rfl))
  obtain ⟨a,vs,rfl,h1,h2⟩:=RR.list hp h rfl
  rw [e]
  exact .lst h1 (h2.mono hp.sub)
noncomputable def R.dat:R->D
 | .d x=>x
 | .l _ xs=>.lst xs
 | .mo ks vs=>.dct ks vs
 | .mb ks vs=>.dct ks vs
 | .mf ks vs=>.dct ks vs
theorem RR.dat {He J H:Hp}(hp:HI c J H){r:R}(h:RR c He J H r v):Rep c.K H r.dat v:=by
 by_cases hm:∃ks vs,r=.mo ks vs
 ·obtain ⟨ks,vs,rfl⟩:=hm;obtain ⟨a,rfl,h,_⟩:=h;exact h.rep hp.sub
 by_cases hb:∃ks vs,r=.mb ks vs
 ·obtain ⟨ks,vs,rfl⟩:=hb;obtain ⟨a,rfl,h⟩:=h;exact (h.mono (aU.refl _) hp.ent).rep hp.sub
 by_cases hf:∃ks vs,r=.mf ks vs
 ·obtain ⟨ks,vs,rfl⟩:=hf;obtain ⟨a,rfl,h,_⟩:=h;exact h.rep hp.sub
 refine h.rep hp (λxs q=>?_) (λx q=>by rw [q];rfl) λks vs=>⟨λz=>hm ⟨_,_,z⟩,λz=>hb ⟨_,_,z⟩,λz=>hf ⟨_,_,z⟩⟩
 rcases q with q | q | q <;> (rw [q];rfl)
def Ht (K:SG) (neg:Bool):R2:=λx y H Q=>∃d e,Rep K H d x/\Rep K H e y/\dep d<=60/\dep e<=60/\Q (.bl (if neg then !bg d e else bg d e)) H
theorem gH {H:Hp}(I:Inv X Sq σ H s):HF X.K H s:=HF.of (c:=⟨X.K,H,H,λ_=>True⟩) I (aU.refl H)
theorem E6 (hu:X.A.units + 64 < UL):c_ X (UP .Eq) (Ht X.K false):=by
 intro Sq s σ H x y v u Q I rx ry h
 obtain ⟨d,e,h1,h2,h3,h4,q⟩:=h
 exact (Fz (gH I) X.A h1 h2 rx ry (by omega) (by omega) (by omega)).1 X.prog X.w X.xe _ ⟨.bl _,H,I,rfl,q⟩
theorem MH (hu:X.A.units + 64 < UL):c_ X (UP .NotEq) (Ht X.K true):=by
 intro Sq s σ H x y v u Q I rx ry h
 obtain ⟨d,e,h1,h2,h3,h4,q⟩:=h
 exact (Fz (gH I) X.A h1 h2 rx ry (by omega) (by omega) (by omega)).2 X.prog X.w X.xe _ ⟨.bl _,H,I,rfl,q⟩
def cj (neg:Bool) (x y:R):M R:=if dep x.dat<=60/\dep y.dat<=60 then .ok (.d (.bl (if neg then !bg x.dat y.dat else bg x.dat y.dat))) else .bad
theorem Cu (neg:Bool) (hK:X.K=c.K):BD c (Ht X.K neg) (cj neg):=by
 intro He He' J H x y u v Q hp rx ry w
 unfold cj at w
 split at w
 ·rename_i hd
  exact ⟨x.dat,y.dat,by rw [hK];exact rx.dat hp,by rw [hK];exact ry.dat hp,hd.1,hd.2,w _ J H (Ext.refl hp.sub) (.bl _)⟩
 ·exact w.elim
def inD (d:D) (xs:List D):Bool:=xs.any λx=>bg x d
noncomputable def Hu (K:SG) (neg:Bool):R2:=λx y H Q=>∃d p vs ds,Rep K H d x/\dep d<=60/\y=.ref p/\(cB K H p vs\/cL K H p vs)/\aH K H ds vs/\deps ds<=60/\Q (.bl (if neg then !inD d ds else inD d ds)) H
theorem xN {K:SG}{H:Hp}{y:SI}:∀{ds:List D}{vs:List V}{us:List SI},aH K H ds vs->Vals vs us->deps ds<=60->y∈us->∃d' v',Rep K H d' v'/\RelV v' y/\dep d'<=60
 | _,_,_,.nil,.nil,_,hy=>nomatch hy
 | _,_,_,.cons r hs,.cons q rs,hd,hy=>by
  unfold deps at hd
  rcases S7.mp hy with rfl | hy
  ·exact ⟨_,_,r,q,by omega⟩
  ·exact xN hs rs (by omega) hy
open Classical in
noncomputable def Cs (K:SG) (H:Hp) (d:D) (y:SI):Bool:=decide (∃d' v',Rep K H d' v'/\RelV v' y/\dep d'<=1000/\bg d' d=true)
theorem Bj {K:SG}{H:Hp}{s:SJ}(F:HF K H s){d d':D}{v':V}{y:SI}(r':Rep K H d' v') (q':RelV v' y) (hd:dep d'<=1000):Cs K H d y=bg d' d:=by
 classical
 unfold Cs
 cases z:bg d' d with
 | true=>exact decide_eq_true ⟨d',v',r',q',hd,z⟩
 | false=>
  refine decide_eq_false ?_
  rintro ⟨d2,v2,r2,q2,hd2,z2⟩
  have:v2=v':=q2.inj q'
  subst this
  rw [Rep.inj F r2 r' hd2 hd] at z2
  rw [z] at z2
  cases z2
theorem zd {K:SG}{H:Hp}{s:SJ}(F:HF K H s){d:D}:∀{ds:List D}{vs:List V}{us:List SI},aH K H ds vs->Vals vs us->deps ds<=1000->us.any (Cs K H d)=inD d ds
 | _,_,_,.nil,.nil,_=>rfl
 | _,_,_,.cons r hs,.cons q rs,hd=>by
  unfold deps at hd
  unfold inD
  rw [aar,aar,zd F hs rs (by omega),Bj F r q (by omega)]
  rfl
theorem uw {A:TR}{s:SJ}{K:SG}{H:Hp}(F:HF K H s){d:D}{x:V}{u:SI}(h:Rep K H d x) (rx:RelV x u) (QA:dep d<=60) (hA:A.units + 60 < UL){ds:List D}{vs:List V}{us:List SI}(hs:aH K H ds vs) (rs:Vals vs us) (hd:deps ds<=60):
  ∃e:SI->Bool,(∀y∈us,Vn A s y u (e y))/\us.any e=inD d ds:=by
 refine ⟨Cs K H d,λy hy=>?_,zd F hs rs (by omega)⟩
 obtain ⟨d',v',r',q',hd'⟩:=xN hs rs hd hy
 rw [Bj F r' q' (by omega)]
 exact nE F A r' h q' rx (by omega) (by omega) (by omega)
theorem E7 (hu:X.A.units + 64 < UL):c_ X (UP .In) (Hu X.K false):=by
 intro Sq s σ H x y v u Q I rx ry h
 obtain ⟨d,p,vs,ds,h1,QA,rfl,h2,h3,h4,q⟩:=h
 cases ry
 have F:=gH I
 rcases h2 with h2 | h2
 ·obtain ⟨Su,r,pl⟩:=F.l _ _ h2
  obtain ⟨e,he,hany⟩:=uw (A:=X.A.in1) F h1 rx QA (by rw [in1_units];omega) h3 r h4
  exact SeqAt.in_listAt e pl (λz hz=>he z (by simpa using hz)) ⟨.bl _,H,I,rfl,by rw [show Su.toArray.any e=Su.any e by simp,hany];exact q⟩
 ·obtain ⟨Su,r,pl⟩:=F.t _ _ h2
  obtain ⟨e,he,hany⟩:=uw (A:=X.A.in1) F h1 rx QA (by rw [in1_units];omega) h3 r h4
  exact SeqAt.in_tupleAt e pl (λz hz=>he z (by simpa using hz)) ⟨.bl _,H,I,rfl,by rw [show Su.toArray.any e=Su.any e by simp,hany];exact q⟩
theorem E9 (hu:X.A.units + 64 < UL):c_ X (UP .NotIn) (Hu X.K true):=by
 intro Sq s σ H x y v u Q I rx ry h
 obtain ⟨d,p,vs,ds,h1,QA,rfl,h2,h3,h4,q⟩:=h
 cases ry
 have F:=gH I
 rcases h2 with h2 | h2
 ·obtain ⟨Su,r,pl⟩:=F.l _ _ h2
  obtain ⟨e,he,hany⟩:=uw (A:=X.A.in1) F h1 rx QA (by rw [in1_units];omega) h3 r h4
  exact SeqAt.notIn_listAt e pl (λz hz=>he z (by simpa using hz)) ⟨.bl _,H,I,rfl,by rw [show Su.toArray.any e=Su.any e by simp,hany];exact q⟩
 ·obtain ⟨Su,r,pl⟩:=F.t _ _ h2
  obtain ⟨e,he,hany⟩:=uw (A:=X.A.in1) F h1 rx QA (by rw [in1_units];omega) h3 r h4
  exact SeqAt.notIn_tupleAt e pl (λz hz=>he z (by simpa using hz)) ⟨.bl _,H,I,rfl,by rw [show Su.toArray.any e=Su.any e by simp,hany];exact q⟩
noncomputable def fk (neg:Bool) (x y:R):M R:=iy y >>= λys=>if deps ys<=60/\dep x.dat<=60 then .ok (.d (.bl (if neg then !inD x.dat ys else inD x.dat ys))) else .bad
theorem Cv (neg:Bool) (hK:X.K=c.K):BD c (Hu X.K neg) (fk neg):=by
 intro He He' J H x y u v Q hp rx ry w
 obtain ⟨ys,q,w⟩:=jc w
 obtain ⟨p,vs,rfl,h1,h2⟩:=kW hp ry q
 split at w
 ·rename_i hd
  exact ⟨x.dat,p,vs,ys,by rw [hK];exact rx.dat hp,hd.2,rfl,by rw [hK];exact h1,by rw [hK];exact h2.mono hp.sub,hd.1,w _ J H (Ext.refl hp.sub) (.bl _)⟩
 ·exact w.elim
abbrev GO:=G (Option Int)
def tO (c:C) (g:GO):TO:=λσ H Q=>∃J env,SR c J H σ env/\cI (g env) (λo=>∀J' H',Ext J H J' H'->Q o H') c.T
def Ln (X:Cx) (c:C) (e:Option TV) (g:GO):Prop:=PO X e (tO c g)
theorem IM {X:Cx}{e:Option TV}{t t':TO}(h:PO X e t) (k:∀σ H Q,t' σ H Q->t σ H Q):PO X e t':=λSq s σ H Q I q=>h Sq s σ H Q I (k σ H Q q)
def pN:GO:=λ_=>.ok none
noncomputable def mJ (g:G R):GO:=λenv=>g env >>= λr=>match r with
 | .d (.int i)=>.ok (some i)
 | _=>.bad
def cutD (xs:List D) (lo hi:Option Int):List D:=(xs.drop (HT.bL xs.length 0 lo)).take (HT.bL xs.length xs.length hi - HT.bL xs.length 0 lo)
theorem aH.cut {K:SG}{J:Hp}{xs:List D}{vs:List V}(h:aH K J xs vs) (lo hi:Option Int):aH K J (cutD xs lo hi) (nh vs lo hi):=by
 unfold cutD nh
 rw [h.length]
 exact (h.drop _).take _
def kF (f:R->Option Int->Option Int->M R) (g:G R) (lo hi:GO):G R:=λenv=>g env >>= λx=>lo env >>= λl=>hi env >>= λu=>f x l u
theorem IK {r:V->Option Int->Option Int->Hp->VK->Prop}{f:R->Option Int->Option Int->M R}{lo hi:Option TV}{gl gh:GO}{p2:Pos}(hr:sC X r) (hf:∀(He J H:Hp) (x:R) (v:V) (l u:Option Int) (Q:VK),HI c J H->RR c He J H x v->
   cI (f x l u) (λz=>∀w J' H',Ext J H J' H'->RR c H J' H' z w->Q w H') c.T->r v l u H Q) (h:PD X c e g) (hl:Ln X c lo gl) (hh:Ln X c hi gh):PD X c (.Subscript e (.Slice lo hi none p2) pos) (kF f g gl gh):=
 gj (G_ hr h hl hh) λσ H Q ⟨J,env,sr,w⟩=>by
  refine ⟨J,env,sr,aF (aL w) λx wx v J1 H1 e1 r1=>?_⟩
  refine ⟨J1,env,sr.ext e1,aF (aL wx) λl wl J2 H2 e2=>?_⟩
  refine ⟨J2,env,(sr.ext e1).ext e2,aF (aL wl) λu wu J3 H3 e3=>?_⟩
  have ee:=(e1.trans e2).trans e3
  exact hf H J3 H3 x v l u Q (sr.hp.ext ee) ((r1.ext e2).ext e3) (aF wu λz q w J' H' e4 r4=>q w J' H' (ee.trans e4) (RR.from ee.h r4))
def Pa (x:R) (l u:Option Int):M R:=mz x >>= λxs=>.ok (.l .fresh (cutD xs l u))
theorem DA {ss:List Str}:∀{us:List SI},Vals (ss.map V.str) us->StrsAre us ss:=by
 induction ss with
 | nil=>intro us h;cases h;exact .nil
 | cons x r ih=>
  intro us h
  cases h with
  | cons q rs=>
   obtain ⟨t,rfl⟩:=q
   exact .cons x t (ih rs)
theorem yc:∀{us:List SI}{ss:List Str},StrsAre us ss->Vals (ss.map V.str) us
 | _,_,.nil=>.nil
 | _,_,.cons y t h=>.cons ⟨t,rfl⟩ (yc h)
def j4 (x y:Str):Bool:=decide (x.cps.toList<=y.cps.toList)
def mW (ss:List Str):List Str:=ss.mergeSort j4
theorem xA (x y z:Str) (h1:j4 x y=true) (h2:j4 y z=true):j4 x z=true:=by
 unfold j4 at *
 exact decide_eq_true (List.le_trans (of_decide_eq_true h1) (of_decide_eq_true h2))
theorem EW (x y:Str):(j4 x y || j4 y x)=true:=by
 unfold j4
 rw [V6]
 rcases List.le_total x.cps.toList y.cps.toList with h | h
 ·exact .inl (decide_eq_true h)
 ·exact .inr (decide_eq_true h)
theorem GJ (h1:j4 x y=true) (h2:j4 y x=true):x=y:=by
 unfold j4 at *
 have:=abf (of_decide_eq_true h1) (of_decide_eq_true h2)
 obtain ⟨⟨cx⟩⟩:=x
 obtain ⟨⟨cy⟩⟩:=y
 simp only at this
 rw [this]
theorem Aw (ss:List Str):(mW ss).Pairwise λx y=>j4 x y=true:=List.pairwise_mergeSort xA EW ss
theorem pC (ss:List Str):(mW ss).Perm ss:=List.mergeSort_perm ss j4
theorem vn:∀(x:Str) (r:List Str),risingS x r=true->(x::r).Pairwise λx y=>j4 x y=true
 | x,[],_=>by simp
 | x,y::r,h=>by
  unfold risingS at h
  rw [SN] at h
  have hy:=vn y r h.2
  have hxy:j4 x y=true:=by
   have h1:=h.1
   rw [ltCps_eq] at h1
   unfold j4
   refine decide_eq_true ?_
   have:¬y.cps.toList < x.cps.toList:=by simpa using h1
   exact this
  refine VQ.mpr ⟨λz hz=>?_,hy⟩
  rcases S7.mp hz with rfl | hz
  ·exact hxy
  ·exact xA x y z hxy ((VQ.mp hy).1 z hz)
theorem Dy {ss ss':List Str}(hp:ss'.Perm ss) (hs:sortedS ss'=true):ss'=mW ss:=by
 have pw:ss'.Pairwise λx y=>j4 x y=true:=by
  cases ss' with
  | nil=>exact V5
  | cons x r=>exact vn x r hs
 exact (hp.trans (pC ss).symm).eq_of_pairwise (λx y _ _ h1 h2=>GJ h1 h2) pw (Aw ss)
theorem zw:bP X (.builtin "sorted") (λxs H Q=>∃p ss,xs=[.ref p]/\cB X.K H p (ss.map V.str)/\ss.length < 64/\∀ss',ss'.Perm ss->sortedS ss'=true->∀l,H l=none->Q (.ref l) (upd H l (.lst (ss'.map V.str)))):=by
 intro Sq s σ H xs us Q I r h
 obtain ⟨p,ss,rfl,hq,hl,q⟩:=h
 obtain ⟨u,rfl,rx⟩:=vals1 r
 cases rx
 obtain ⟨Su,r',pl,hz⟩:=I.list hq
 have hlen:=r'.length
 refine sorted_strs pl.isList (DA r') (by rw [<-hlen,SK];exact hl) λout ss' a1 a2 a3=>?_
 obtain ⟨n,hn⟩:=sortedAll_at s.heap Su out
 have kp:∀b o,s.heap.get? b=some o->(sortedAll s.heap Su out).get? b=some o:=λb o e=>sortedAll_old e
 have fr:H (s.heap.objs.size + 1)=none:=I.hok.fresh (VD _)
 have ll:(ss'.map V.str).length=(ss.map V.str).length:=by rw [SK,SK,a2.length_eq]
 refine ⟨.ref (s.heap.objs.size + 1),_,I.laid (t':=s.toks) kp (VD _) (show cG X.prog X.w _ _ _ (.lst (ss'.map V.str)) from ⟨by rw [ll];exact hz,out.toList,n,yc a1,by simpa [Wx] using hn⟩),rfl,q ss' a2 a3 _ fr⟩
noncomputable def strsOf:List D->Option (List Str)
 | []=>some []
 | .str x::r=>(strsOf r).map (x::·)
 | _::_=>none
theorem vE {K:SG}{J:Hp}:∀{ds:List D}{vs:List V}{ss:List Str},strsOf ds=some ss->aH K J ds vs->vs=ss.map V.str
 | [],_,_,h,.nil=>by cases h;rfl
 | .str x::r,_,ss,h,.cons q rs=>by
  unfold strsOf at h
  cases z:strsOf r with
  | none=>rw [z] at h;cases h
  | some ss'=>
   rw [z] at h
   cases h
   cases q
   rw [vE z rs]
   rfl
theorem xP {K:SG}{J:Hp}:∀(ss:List Str),aH K J (ss.map D.str) (ss.map V.str)
 | []=>.nil
 | x::r=>.cons (.str x) (xP r)
noncomputable def kY:List R->M R
 | [r]=>mz r >>= λxs=>match strsOf xs with
  | some ss=>if ss.length < 64 then .ok (.l .fresh ((mW ss).map .str)) else .bad
  | none=>.bad
 | _=>.bad
theorem jo:Ue "sorted"=some (.builtin "sorted"):=by decide +kernel
theorem foldl_size (c:Array Nat):∀(k:Nat) (acc:Array Nat),((UQ k c).foldl (·++·) acc).size=acc.size + k * c.size
 | 0,acc=>by simp
 | k + 1,acc=>by
  rw [Z8,Zw,foldl_size c k,aaP,aa5]
  omega
def uc (x:Str) (n:Nat):Str:=⟨(UQ n x.cps).foldl (·++·) #[]⟩
theorem AX (x:Str) (n:Nat):(uc x n).length=n * x.length:=by
 unfold uc aaK
 simp only
 rw [foldl_size]
 simp
theorem J_:c_ X (Wt .Mult) (λx y H Q=>∃z n,x=.str z/\y=.int n/\0<=n/\n<=1000/\z.length<=1000/\Q (.str (uc z n.toNat)) H):=by
 intro Sq s σ H x y v u Q I rx ry h
 obtain ⟨z,n,rfl,rfl,h0,h1,h2,q⟩:=h
 obtain ⟨t,rfl⟩:=rx
 obtain ⟨t',rfl⟩:=ry
 have hz:Z9 (z.length * n.toNat)=false:=by
  have:z.length * n.toNat<=1000 * 1000:=Wr h2 (by omega)
  unfold Z9
  exact decide_eq_false (by have:=UB;omega)
 refine PySem.P.mul_str (by
  rw [decide_eq_false (by omega:¬n < -(2 ^ 63:Int)),decide_eq_false (by omega:¬n ≥ 2 ^ 63)];rfl) (λhn _=>?_) (λ_ _=>hz) ?_
 ·have:(2 ^ 63 - 1:Int) / 1000<=(2 ^ 63 - 1) / n:=by
   refine (Int.le_ediv_iff_mul_le (by omega)).mpr ?_
   have:(2 ^ 63 - 1:Int) / 1000 * n<=(2 ^ 63 - 1:Int) / 1000 * 1000:=Int.mul_le_mul_of_nonneg_left h1 (by decide)
   exact Int.le_trans this (by decide)
  have e:(2 ^ 63 - 1:Int) / 1000=9223372036854775:=by decide
  omega
 ·split
  ·rename_i hn
   have e:n=0:=by omega
   subst e
   exact ⟨by decide,.str _,H,I.tok _,⟨_,rfl⟩,q⟩
  ·split
   ·rename_i hn hc
    have e:uc z n.toNat=z:=by
     unfold uc
     rw [V6] at hc
     rcases hc with hc | hc
     ·have e:n=1:=by simpa using hc
      subst e
      simp
     ·have e:z.length=0:=by simpa using hc
      have e2:z.cps=#[]:=by
       unfold aaK at e
       exact Array.eq_empty_of_size_eq_zero e
      obtain ⟨cz⟩:=z
      simp only at e2
      subst e2
      congr 1
      generalize n.toNat=k
      induction k with
      | zero=>rfl
      | succ k ih=>rw [Z8,Zw];exact ih
    rw [e] at q
    exact ⟨.str z,H,I,⟨_,rfl⟩,q⟩
   ·exact ⟨by
     have:=AX z n.toNat
     unfold uc at this
     rw [this,Nat.mul_comm]
     have:z.length * n.toNat<=1000 * 1000:=Wr h2 (by omega)
     rw [UB]
     omega,.str _,H,I.tok _,⟨_,rfl⟩,q⟩
noncomputable def CK:R->R->M R
 | .d (.str z),.d (.int n)=>if 0<=n/\n<=1000/\z.length<=1000 then .ok (.d (.str (uc z n.toNat))) else .bad
 | _,_=>.bad
noncomputable def pZ:D->String
 | .non=>"NoneType"
 | .bl _=>"bool"
 | .int _=>"int"
 | .str _=>"str"
 | .tup _=>"tuple"
 | .lst _=>"list"
 | .emp=>"dict"
 | .exn _ _ _=>"exc"
 | .dct _ _=>"dict"
def Az (t T:String):Bool:=t == T || (t == "bool" && T == "int")
noncomputable def EL:R->Bool
 | .d (.int _)=>true
 | _=>false
noncomputable def L5:R->Bool
 | .d (.str _)=>true
 | _=>false
def iJ (x y:R):M R:=if EL x then vY x y else if L5 x then uL x y else uM x y
def gy (x y:R):M R:=if EL x then LR x y else CK x y
noncomputable def aX (x y:R):M R:=match x,y with
 | .d (.str z),.d (.int i)=>if z.length<=sizeLine then (match mC z.cps.toList i with
  | some k=>.ok (.d (.str ⟨#[k]⟩))
  | none=>.bad) else .bad
 | x,.d (.int i)=>iy x >>= λxs=>(match mC xs i with
  | some d=>.ok (.d d)
  | none=>.bad)
 | _,_=>.bad
noncomputable def bw (P:S_) (w:TL) (K:SG) (mg:Str->Option SI) (base:Uz) (k n:Nat) (x:Str) (Fm:List S->M R):Prop:=
 ∃f fd ps,jH P w K mg base pH k f fd ps (qZ K n Fm)/\mg x=some (.ref f)/\Wo K (.ref f)=true/\Binds K fd ps []
theorem LB {P:S_}{w:TL}{K:SG}{mg:Str->Option SI}{base:Uz}{x Sx:Str}{st:V0}{f:Tg}{fd:TM}{N ps:List Str}{k:Nat}{Fm:List S->M R}(F:l_ K x Sx st f fd) (hm:mg x=some (.ref f)) (Sc:gF N ps (bA st))
  (hbi:∀(kV doc pm:SI) (an:Option Tg) (cdv ct:SI) (us:List SI),us.length=ps.length->aag (UZ x Sx (fq st) (cV st) (bA st) .none kV doc pm an cdv ct) ⟨us,[]⟩=pure (ps.zip us)){gB:G O}
  (hb:∀(cdv:SI) (A:TR) (outer:List Env) (s:SJ) (H:Hp) (E:XK) (J:Hp) (T:Exc->Prop),dW k (A.deeper (YI Sx (bA st) s.heap.objs.size f cdv))->
   Lm (Ep P w K mg base N Sx (bA st) f cdv A outer s H E) ⟨K,H,J,T⟩ (cV st) gB)
  (hF:∀as r,as.length=ps.length->Fm as=.ok r->fin (gB (aY N as))=.ok r):bw P w K mg base (k + 1) ps.length x Fm:=
 ⟨f,fd,ps,Ex F Sc hb hF,hm,F.kp,F.binds hbi⟩
noncomputable def GV:List Str->Bool
 | []=>true
 | x::r=>!(r.contains x) && GV r
theorem cP:∀{l:List Str},GV l=true->l.Nodup
 | [],_=>VA
 | x::r,h=>by
  unfold GV at h
  rw [SN] at h
  refine U7.mpr ⟨λz=>?_,cP h.2⟩
  have:=h.1
  simp [z] at this
theorem Gr {H:Hp}{s:SJ}{a C:Tg}{dx:Option Tg}(I:L2.Inv X Sq σ H s) (h:H a=some (DX.XO a C dx)) (xf:XF H dx ns vs):∃ox od,WR s.heap a ox C od/\od.isSome=dx.isSome/\(∀d,dx=some d->∃o,od=some o/\s.heap.get? d=some o):=by
 obtain ⟨⟨oe,fs,h1,h2,h3,h4⟩,_⟩:=I.hok a _ h
 have hn:abW oe=true:=by unfold abW;rw [h4]
 rcases xf with ⟨rfl,_⟩ | ⟨d,rfl,_,hd⟩
 ·exact ⟨oe,none,⟨h1,h2,hn,by rw [h3];exact ZO⟩,rfl,λd z=>by cases z⟩
 ·obtain ⟨m,⟨o,es,ep,k1,_⟩,_⟩:=I.hok d _ hd
  exact ⟨oe,some o,⟨h1,h2,hn,by rw [h3];exact k1⟩,rfl,λd' z=>by cases z;exact ⟨o,rfl,k1⟩⟩
noncomputable def DO (T:String):Prop:=(∀(K:SG) (t:String),t∈["NoneType","bool","int","str","tuple","list","dict"]->Z0 K (.type t) (.type T)=some (Az t T))/\abu T=true/\DX.AH.contains (.type T)=false/\Az "exc" T=false
theorem BF:DO "int":=⟨λK t h=>by
 simp only [S7,Uk,or_false] at h
 rcases h with rfl | rfl | rfl | rfl | rfl | rfl | rfl <;> rfl,by decide +kernel,by decide,by decide⟩
theorem zZ:DO "bool":=⟨λK t h=>by
 simp only [S7,Uk,or_false] at h
 rcases h with rfl | rfl | rfl | rfl | rfl | rfl | rfl <;> rfl,by decide +kernel,by decide,by decide⟩
theorem kit_tuple:DO "tuple":=⟨λK t h=>by
 simp only [S7,Uk,or_false] at h
 rcases h with rfl | rfl | rfl | rfl | rfl | rfl | rfl <;> rfl,by decide +kernel,by decide,by decide⟩
theorem AS {T:String}(kit:DO T):
  bP X (.builtin "isinstance") (λxs H Q=>∃d x,xs=[x,.ty T]/\Rep X.K H d x/\Q (.bl (Az (pZ d) T)) H):=by
 intro Sq s σ H xs us Q I r h
 obtain ⟨d,x,rfl,hd,q⟩:=h
 obtain ⟨u,w',rfl,rx,ry⟩:=vals2 r
 cases ry
 have fin:∀tk,EP X Sq σ Q (.bool (Az (pZ d) T)) {s with toks:=tk}:=λtk=>⟨.bl _,H,I.tok tk,rfl,q⟩
 have F:=gH I
 cases hd with
 | non=>cases rx;exact Vl W.kitx_none I.kIn ZO (kit.1 X.K _ (by simp [pZ])) (λz=>nomatch z) fin
 | bl y=>cases rx;exact Vl W.kitx_bool I.kIn ZO (kit.1 X.K _ (by simp [pZ])) (λz=>nomatch z) fin
 | int i=>obtain ⟨t,rfl⟩:=rx;exact Vl W.kitx_int I.kIn ZO (kit.1 X.K _ (by simp [pZ])) (λz=>nomatch z) fin
 | str y=>obtain ⟨t,rfl⟩:=rx;exact Vl W.kitx_str I.kIn ZO (kit.1 X.K _ (by simp [pZ])) (λz=>nomatch z) fin
 | tup h hs=>
  cases rx
  obtain ⟨Su,r,o,h1,h2,_⟩:=F.t _ _ h
  exact Vl W.kitx_tuple I.kIn ⟨o,h1,h2⟩ (kit.1 X.K _ (by simp [pZ])) (λz=>nomatch z) fin
 | lst h hs=>
  cases rx
  obtain ⟨Su,r,o,h1,h2,_⟩:=F.l _ _ h
  exact Vl W.kitx_list I.kIn ⟨o,h1,h2⟩ (kit.1 X.K _ (by simp [pZ])) (λz=>nomatch z) fin
 | emp h=>
  cases rx
  obtain ⟨o,h1,h2⟩:=F.e _ h
  exact Vl aaQ I.kIn ⟨o,h1,h2⟩ (kit.1 X.K _ (by simp [pZ])) (λz=>nomatch z) fin
 | dct h _ _ _ _=>
  cases rx
  obtain ⟨o,es,h1,h2,_⟩:=F.d _ _ _ h
  exact Vl aaQ I.kIn ⟨o,h1,h2.1⟩ (kit.1 X.K _ (by simp [pZ])) (λz=>nomatch z) fin
 | exn h1 h2 h3 hs hx=>
  cases rx
  obtain ⟨P,G,E⟩:=hx
  obtain ⟨ox,od,J,_⟩:=Gr I h1 h3
  simp only [pZ,kit.2.2.2] at fin
  exact Vl (DX.GF G E) I.kIn ⟨ox,od,J⟩ (DX.Mk E kit.2.1 kit.2.2.1) (λz=>nomatch z) fin
def By (T:String) (g:G R):G R:=λenv=>g env >>= λr=>.ok (.d (.bl (Az (pZ r.dat) T)))
noncomputable def oz:List D->Option (List Bool)
 | []=>some []
 | .bl k::r=>(oz r).map (k::·)
 | _::_=>none
theorem w5 {K:SG}{J:Hp}:∀{ds:List D}{vs:List V}{ks:List Bool},oz ds=some ks->aH K J ds vs->vs=ks.map V.bl
 | [],_,_,h,.nil=>by cases h;rfl
 | .bl x::r,_,ks,h,.cons q rs=>by
  unfold oz at h
  cases z:oz r with
  | none=>rw [z] at h;cases h
  | some ks'=>
   rw [z] at h
   cases h
   cases q
   rw [w5 z rs]
   rfl
theorem AG:∀{ks:List Bool}{us:List SI},Vals (ks.map V.bl) us->us=ks.map WB
 | [],_,.nil=>rfl
 | k::ks,_,.cons r rs=>by
  cases r
  rw [AG rs]
  rfl
theorem all_range (ks:List Bool):(SM ks.length).all (λi=>ks.getD i true)=ks.all id:=by
 induction ks with
 | nil=>rfl
 | cons k r ih=>
  rw [Uv,Zf,VP,Yy,VP]
  simp only [List.getD_cons_zero]
  rw [<-ih]
  rfl
theorem D8 (hc:X.calm=true):bP X (.builtin "all") (λxs H Q=>∃(p:Tg) (ks:List Bool),xs=[.ref p]/\cB X.K H p (ks.map V.bl)/\Q (.bl (ks.all id)) H):=by
 intro Sq s σ H xs us Q I r h
 obtain ⟨p,ks,rfl,hq,q⟩:=h
 obtain ⟨u,rfl,rx⟩:=vals1 r
 cases rx
 obtain ⟨Su,r',pl,hz⟩:=I.list hq
 have hi:=AG r'
 subst hi
 have R9:p≠s.heap.objs.size:=by
  obtain ⟨o,h1,_⟩:=pl.isList
  exact Tr (S9 h1)
 refine call_all_walk (Xx pl.isList ⟨s.heap.objs.size,_,_,_,_,_,(λi=>ks.getD i true),rfl,adD (A:=X.A.in1) (show X.A.in1.handled=none from I.ok.hd hc) s.heap.objs.size p R9 (ks.map WB).toArray,⟨⟨_,SY _ rfl,rfl,rfl⟩,adJ pl.isList _⟩,?_,λh' tk k=>?_⟩)
 ·intro i v s' Q' E' hP hQ
  have e:∃k,ks[i]?=some k/\v=.bool k:=by
   have hP':(ks.map WB)[i]?=some v:=by simpa using hP
   rw [Tq] at hP'
   cases z:ks[i]? with
   | none=>rw [z] at hP';cases hP'
   | some k=>rw [z] at hP';cases hP';exact ⟨k,rfl,rfl⟩
  obtain ⟨k,e1,rfl⟩:=e
  simp only at hQ
  rw [WL,e1] at hQ
  exact UI hQ
 ·have sz:(ks.map WB).toArray.size=ks.length:=by simp
  rw [sz,all_range]
  refine ⟨.bl (ks.all id),H,?_,rfl,q⟩
  refine I.kept λb o e=>k b o (λz=>?_) (SO _ e)
  have:b=s.heap.objs.size:=by simpa using z
  exact absurd (this▸S9 e) (Vg _)
noncomputable def tP:List R->M R
 | [r]=>mz r >>= λxs=>match oz xs with
  | some ks=>.ok (.d (.bl (ks.all id)))
  | none=>.bad
 | _=>.bad
theorem D0:Ue "all"=some (.builtin "all"):=by decide +kernel
noncomputable def Qi (neg:Bool):R->R->M R
 | .d (.str i),.d (.str j)=>.ok (.d (.bl (if neg then !(!(Y0 j i 0 j.length 1).isEmpty) else !(Y0 j i 0 j.length 1).isEmpty)))
 | _,_=>.bad
noncomputable def Qn (p q:Int->Int->Bool) (ga gb gc:G R):G R:=λenv=>ga env >>= λx=>gb env >>= λy=>match x,y with
 | .d (.int i),.d (.int j)=>if p i j then (gc env >>= λz=>match z with
  | .d (.int k)=>.ok (.d (.bl (q j k)))
  | _=>.bad) else .ok (.d (.bl false))
 | _,_=>.bad
noncomputable def CJ:List R->M R
 | [.d (.int i),.d (.int j)]=>.ok (.d (.int (if j > i then j else i)))
 | _=>.bad
theorem Kg (hm:X.mg x=some u) (r:RelV v u) (hr:∀J,Rep c.K J d v) (hg:Gl X x:=by rfl) (hd:(x == ("__debug__":Str))=false:=by decide):PD X c (.Name x pos) (gC d):=vf hr (BP hg hm r hd)
theorem Lz {H:Hp}{s:SJ}(I:Inv X Sq σ H s):Wn < s.heap.objs.size:=by
 have h:Tw < s.heap.objs.size:=(I.mod.glob.keeps I.bk).lt
 exact Wa (by decide) h
theorem E5:c_ X (Wt .Add) (λx y H Q=>∃a b xs ys,x=.ref a/\y=.ref b/\cL X.K H a xs/\cL X.K H b ys/\xs.length + ys.length<=sizeLine/\
  (xs=[]->Q (.ref b) H)/\(ys=[]->Q (.ref a) H)/\∀p,H p=none->Q (.ref p) (upd H p (.tup (xs++ys)))):=by
 intro Sq s σ H x y v u Q I rx ry h
 obtain ⟨a,b,xs,ys,rfl,rfl,ha,hb,hz,q0,q1,q2⟩:=h
 by_cases hx:xs=[]
 ·cases rx
  cases ry
  obtain ⟨Su,r1,p1,_⟩:=I.tuple ha
  obtain ⟨its2,r2,p2,_⟩:=I.tuple hb
  have he:Su=[]:=r1.nil_iff.mpr hx
  subst he
  obtain ⟨⟨cls,dd,data,sl⟩,ho,hc,n,hd⟩:=id p1
  obtain ⟨⟨cls2,dd2,data2,sl2⟩,ho2,hc2,n2,hd2⟩:=id p2
  simp only at hc hd hc2 hd2
  subst hc hd hc2 hd2
  exact aa3 ⟨_,ho,rfl⟩ ⟨_,ho2,rfl⟩ Za aaj Xr Xb (W6 _ _) (tuple_addW0 a b _ _ n n2 dd dd2 sl sl2 rfl) ⟨ho,ho2,⟨.ref b,H,I,rfl,q0 hx⟩⟩
 ·exact JZ Sq s σ H (.ref a) (.ref b) v u Q I rx ry ⟨a,b,xs,ys,rfl,rfl,ha,hb,hx,hz,q1,λ_=>q2⟩
noncomputable def CH:R->R->M R
 | .d (.tup xs),.d (.tup ys)=>if xs.length + ys.length<=sizeLine then .ok (.d (.tup (xs++ys))) else .bad
 | _,_=>.bad
theorem Jk (hK:X.K=c.K):BD c (λx y H Q=>∃a b xs ys,x=.ref a/\y=.ref b/\cL X.K H a xs/\cL X.K H b ys/\xs.length + ys.length<=sizeLine/\
  (xs=[]->Q (.ref b) H)/\(ys=[]->Q (.ref a) H)/\∀p,H p=none->Q (.ref p) (upd H p (.tup (xs++ys)))) CH:=by
 intro He He' J H x y u v Q hp rx ry w
 unfold CH at w
 split at w
 ·rename_i ds es
  cases rx with
  | tup h1 s1=>
   cases ry with
   | tup h2 s2=>
    split at w
    ·rename_i hz
     rw [s1.length,s2.length] at hz
     refine ⟨_,_,_,_,rfl,rfl,by rw [hK];exact eO hp.sub h1,by rw [hK];exact eO hp.sub h2,hz,λe=>?_,λe=>?_,λp hp'=>w _ _ _ (Ext.newJ hp.sub hp' _) (qR hp hp' (s1.append s2))⟩
     ·have e':ds=[]:=XZ (by rw [s1.length,e];rfl)
      subst e'
      exact w _ J H (Ext.refl hp.sub) (.tup h2 s2)
     ·have e':es=[]:=XZ (by rw [s2.length,e];rfl)
      subst e'
      rw [V3] at w
      exact w _ J H (Ext.refl hp.sub) (.tup h1 s1)
    ·exact w.elim
 ·exact w.elim
noncomputable def L6:R->Bool
 | .d (.tup _)=>true
 | _=>false
def cg (x y:R):M R:=if L6 x then CH x y else iJ x y
noncomputable def intsOf:List D->Option (List Int)
 | []=>some []
 | .int i::r=>(intsOf r).map (i::·)
 | _::_=>none
theorem oS {K:SG}{J:Hp}:∀{ds:List D}{vs:List V}{ns:List Int},intsOf ds=some ns->aH K J ds vs->vs=ns.map V.int
 | [],_,_,h,.nil=>by cases h;rfl
 | .int x::r,_,ks,h,.cons q rs=>by
  unfold intsOf at h
  cases z:intsOf r with
  | none=>rw [z] at h;cases h
  | some ks'=>
   rw [z] at h
   cases h
   cases q
   rw [oS z rs]
   rfl
def signs (x:Str):List D:=x.cps.toList.map λk=>.str ⟨#[k]⟩
noncomputable def Qj (g:G R):G (List D):=λenv=>g env >>= λr=>match r with
 | .d (.str x)=>.ok (signs x)
 | _=>.bad
theorem A1 {prog:S_}{w:TL}{A:TR}{E:SI->SJ->Prop}{s:SJ}{t sl:Tg}{Ss:Array SI}{vl vu:SI}{lo hi:Option Int}{Q:SI->SJ->Prop}(ht:acZ s.heap t Ss) (hs:s.heap.IsSliceOf sl vl vu .none) (pl:aak vl lo) (pu:aak vu hi)
  (hw:HT.bL Ss.size 0 lo=0/\HT.bL Ss.size Ss.size hi=Ss.size) (h:Q (.ref t) s):S8 (Ti prog w) A (aaH (.ref t) (.ref sl)) Q E s:=by
 obtain ⟨os,hos,hcs,hds⟩:=id hs
 have Rg:s.TypeIs (.ref sl) "slice":=⟨os,hos,hcs⟩
 unfold aaH
 try with_reducible refine TQ ?_
 first | refine SE (SH ?_) | skip
 refine SE (aaI ht.typeIs (by decide) ?_)
 refine SE (T7 (name:=VO "__getitem__") ht.typeIs Um
  (TY Um ht.typeIs Z6 ?_ (aam _ _)))
 show S8 _ _ (WK (.ref t) >>= _) _ _ s
 refine SE (acp ht ?_)
 refine SE (XU Rg ?_)
 rw [if_pos (by decide)]
 refine SE (HT.lS hs pl pu ?_)
 have hyes:(((HT.bL Ss.size 0 lo:Nat):Int) == 0 && (1:Int) == 1 && (HT.bL Ss.size Ss.size hi - HT.bL Ss.size 0 lo) == Ss.size)=true:=by
  rw [hw.1,hw.2]
  simp
 show S8 _ _ (if (((HT.bL Ss.size 0 lo:Nat):Int) == 0 && (1:Int) == 1 && (HT.bL Ss.size Ss.size hi - HT.bL Ss.size 0 lo) == Ss.size)=true then _ else _) _ _ s
 rw [if_pos hyes]
 unfold abQ
 refine SE (SE (XU ht.typeIs (SH ?_)))
 rw [if_pos (by decide)]
 exact SE (Xy (SH ⟨_,rfl,SH h⟩))
theorem FJ:sC X (λx lo hi H Q=>∃a xs,x=.ref a/\cL X.K H a xs/\((HT.bL xs.length 0 lo=0/\HT.bL xs.length xs.length hi=xs.length)->Q (.ref a) H)/\∀p,H p=none->Q (.ref p) (upd H p (.tup (nh xs lo hi)))):=by
 intro Sq s σ H x v vl vu lo hi sl Q I rx hs pl pu h
 obtain ⟨a,xs,rfl,hx,q0,q1⟩:=h
 by_cases hw:HT.bL xs.length 0 lo=0/\HT.bL xs.length xs.length hi=xs.length
 ·cases rx
  obtain ⟨Su,r,ht,hz⟩:=I.tuple hx
  have hlen:Su.toArray.size=xs.length:=by rw [S0];exact r.length.symm
  exact ⟨"tuple",_,Um.lookup,ht.typeIs,A1 ht hs pl pu (by rw [hlen];exact hw) ⟨.ref a,H,I,rfl,q0 hw⟩⟩
 ·exact Nu Sq s σ H (.ref a) v vl vu lo hi sl Q I rx hs pl pu ⟨a,xs,rfl,hx,hw,q1⟩
theorem CC {xs:List D}{lo hi:Option Int}(h:HT.bL xs.length 0 lo=0/\HT.bL xs.length xs.length hi=xs.length):cutD xs lo hi=xs:=by
 unfold cutD
 rw [h.1,h.2]
 simp
noncomputable def Gs:R->Option Int->Option Int->M R
 | .d (.tup xs),l,u=>.ok (.d (.tup (cutD xs l u)))
 | _,_,_=>.bad
theorem Py (hK:X.K=c.K) (He J H:Hp) (x:R) (v:V) (l u:Option Int) (Q:VK) (hp:HI c J H) (rx:RR c He J H x v) (w:cI (Gs x l u) (λz=>∀w J' H',Ext J H J' H'->RR c H J' H' z w->Q w H') c.T):
  ∃a xs,v=.ref a/\cL X.K H a xs/\((HT.bL xs.length 0 l=0/\HT.bL xs.length xs.length u=xs.length)->Q (.ref a) H)/\∀p,H p=none->Q (.ref p) (upd H p (.tup (nh xs l u))):=by
 unfold Gs at w
 split at w
 ·rename_i ds
  cases rx with
  | tup h1 s1=>
   refine ⟨_,_,rfl,by rw [hK];exact eO hp.sub h1,λhw=>?_,λp hp'=>w _ _ _ (Ext.newJ hp.sub hp' _) (qR hp hp' (s1.cut _ _))⟩
   rw [<-s1.length] at hw
   rw [CC hw] at w
   exact w _ J H (Ext.refl hp.sub) (.tup h1 s1)
 ·exact w.elim
def oJ (x:R) (l u:Option Int):M R:=if L6 x then Gs x l u else Pa x l u
end
structure vJ (prog:S_) (w:TL) (it src:Tg) (vals:Array SI) (St:Nat->Uz->Prop):Prop where
 keep:∀(k:Nat) (h h':Uz),St k h->(∀o,h.get? it=some o->h'.get? it=some o)->(∀o,h.get? src=some o->h'.get? src=some o)->St k h'
 there:∀(k:Nat) (h:Uz),St k h->∃o,h.get? it=some o/\∀v,o.data≠.cell v
 item:∀(A:TR) (s:SJ) (k:Nat) (x:SI) (Q:SI->SJ->Prop) (E:SI->SJ->Prop),St k s.heap->vals[k]?=some x->(∀h',St (k + 1) h'->TU it s.heap h'->Q x {s with heap:=h'})->
  S8 (Ti prog w) A (UR (.ref it)) Q E s
 fin:∀(A:TR) (s:SJ) (k:Nat) (Q:SI->SJ->Prop) (E:SI->SJ->Prop),A.handled=none->St k s.heap->vals[k]?=none->
  (∀h' e,Y3 it s.heap h'->(∃o,h'.get? e=some o/\o.cls=.type "StopIteration")->E (.ref e) {s with heap:=h'})->S8 (Ti prog w) A (UR (.ref it)) Q E s
theorem mH (prog:S_) (w:TL) (it l:Tg) (vals:Array SI) (hne:l≠it):vJ prog w it l vals (λk h=>h.IsListIter it l k/\h.IsList l vals) where
 keep:=λk h h' st k1 k2=>⟨st.1.at λo e=>k1 o e,st.2.at λo e=>k2 o e⟩
 there:=λk h st=>by
  obtain ⟨⟨o,e,_,d⟩,_⟩:=st
  exact ⟨o,e,λv z=>by rw [d] at z;cases z⟩
 item:=λA s k x Q E st hx hQ=>wpAny_nextOf_list_item st.1 st.2 hx λh' a1 a2=>hQ h' ⟨a1,st.2.extBut a2.extBut hne⟩ a2
 fin:=λA s k Q E hh st hx hE=>wpAny_nextOf_list_end hh st.1 st.2 hx hE
theorem next_tuple_item {prog:S_}{w:TL}{A:TR}{E:SI->SJ->Prop}{s:SJ}{it t:Tg}{k:Nat}{vals:Array SI}{x:SI}{Q:SI->SJ->Prop}(hit:s.heap.IsTupleIter it t k) (ht:s.heap.IsTuple t vals) (hx:vals[k]?=some x)
  (hQ:∀h',h'.IsTupleIter it t (k + 1)->TU it s.heap h'->Q x {s with heap:=h'}):S8 (Ti prog w) A (UR (.ref it)) Q E s:=by
 obtain ⟨oi,QL,RG,hdi⟩:=id hit
 obtain ⟨ot,Rw,_,nt,hdt⟩:=ht
 unfold UR
 refine SE (T7 (name:=VO "__next__") hit.typeIs VH (TY VH hit.typeIs Yi ?_ (X_ _)))
 show S8 _ _ (field (.ref it) 0 >>= _) _ _ s
 refine SE (Vr QL hdi (x:=.ref t) rfl ?_)
 show S8 _ _ (if (VZ t == T_)=true then _ else _) _ _ s
 rw [if_neg (show ¬(VZ t == T_)=true from λz=>Tv z)]
 show S8 _ _ (field (.ref it) 1 >>= _) _ _ s
 refine SE (Vr QL hdi (x:=.int k 0) rfl ?_)
 show S8 _ _ (acQ (.ref t) >>= _) _ _ s
 refine SE (XM Rw hdt ?_)
 simp only [UJ,hx]
 refine SE (YD QL hdi (by simp) (SH ⟨x,rfl,SH (hQ _ ?_ (Uu ..))⟩))
 exact ⟨_,Ur _ QL (Zx (Xg hdi _)),(aaR ..).trans RG,by rw [Xg hdi] <;> simp [ZZ]⟩
theorem next_tuple_end {prog:S_}{w:TL}{A:TR}{E:SI->SJ->Prop}{s:SJ}{it t:Tg}{k:Nat}{vals:Array SI}{Q:SI->SJ->Prop}(hh:A.handled=none) (hit:s.heap.IsTupleIter it t k) (ht:s.heap.IsTuple t vals) (hx:vals[k]?=none)
  (hE:∀h' e,Y3 it s.heap h'->(∃o,h'.get? e=some o/\o.cls=.type "StopIteration")->E (.ref e) {s with heap:=h'}):S8 (Ti prog w) A (UR (.ref it)) Q E s:=by
 obtain ⟨oi,QL,RG,hdi⟩:=id hit
 obtain ⟨ot,Rw,_,nt,hdt⟩:=ht
 unfold UR
 refine SE (T7 (name:=VO "__next__") hit.typeIs VH (TY VH hit.typeIs Yi ?_ (X_ _)))
 show S8 _ _ (field (.ref it) 0 >>= _) _ _ s
 refine SE (Vr QL hdi (x:=.ref t) rfl ?_)
 show S8 _ _ (if (VZ t == T_)=true then _ else _) _ _ s
 rw [if_neg (show ¬(VZ t == T_)=true from λz=>Tv z)]
 show S8 _ _ (field (.ref it) 1 >>= _) _ _ s
 refine SE (Vr QL hdi (x:=.int k 0) rfl ?_)
 show S8 _ _ (acQ (.ref t) >>= _) _ _ s
 refine SE (XM Rw hdt ?_)
 simp only [UJ,hx]
 refine SE (Xy (SE (YD QL hdi (by simp) ?_)))
 show S8 _ _ (adu (.type "StopIteration") [] >>= _) _ _ _
 refine SE ?_
 simp only [adu,acy]
 refine SE (TN ?_ (by size_fits))
 refine SE (m:=WS _ _) (Wy (a:=T_) (by first | rfl | (simp only [WS];rfl)) ?_)
 refine TN ?_ (by size_fits)
 simp only [adv]
 refine SE (aas ?_)
 first | rw [show A.in1.handled=none from hh] | rw [hh]
 refine SE (SH (abw ?_))
 exact hE _ _ (((Uu ..).extBut.push _).push _) ⟨_,SY _ rfl,rfl⟩
theorem kM (prog:S_) (w:TL) (it t:Tg) (vals:Array SI) (hne:t≠it):vJ prog w it t vals (λk h=>h.IsTupleIter it t k/\h.IsTuple t vals) where
 keep:=λk h h' st k1 k2=>by
  obtain ⟨⟨o,e,r⟩,⟨o2,e2,r2⟩⟩:=st
  exact ⟨⟨o,k1 o e,r⟩,⟨o2,k2 o2 e2,r2⟩⟩
 there:=λk h st=>by
  obtain ⟨⟨o,e,_,d⟩,_⟩:=st
  exact ⟨o,e,λv z=>by rw [d] at z;cases z⟩
 item:=λA s k x Q E st hx hQ=>next_tuple_item st.1 st.2 hx λh' a1 a2=>hQ h' ⟨a1,st.2.extBut a2.extBut hne⟩ a2
 fin:=λA s k Q E hh st hx hE=>next_tuple_end hh st.1 st.2 hx hE
def CO (k:String) (l:Tg):Obj:={cls:=.type k,data:=.fields #[.ref l,.int 0 0]}
def DN (k:String) (h:Uz) (l:Tg) (vals:Array SI):Prop:=(k="list_iterator"/\h.IsList l vals)\/(k="tuple_iterator"/\h.IsTuple l vals)
theorem o7 {prog:S_}{w:TL}{A:TR}{E:SI->SJ->Prop}{s:SJ}{k:String}{l:Tg}{vals:Array SI}{Q:SI->SJ->Prop}(x:DN k s.heap l vals) (h:Q (.ref s.heap.objs.size) {s with heap:=s.heap.push (CO k l)}):S8 (Ti prog w) A (Yw (.ref l)) Q E s:=by
 rcases x with ⟨rfl,x⟩ | ⟨rfl,x⟩
 ·exact Xx x h
 ·exact Yz x h
noncomputable def SQ (k:String) (it l:Tg) (vals:Array SI) (m:Nat) (h:Uz):Prop:=(k="list_iterator"/\h.IsListIter it l m/\h.IsList l vals)\/(k="tuple_iterator"/\h.IsTupleIter it l m/\h.IsTuple l vals)
def IQ (k:String) (it l:Tg) (m:Nat) (h:Uz):Prop:=(k="list_iterator"/\h.IsListIter it l m)\/(k="tuple_iterator"/\h.IsTupleIter it l m)
theorem SQ.iq {k:String}{it l:Tg}{vals:Array SI}{m:Nat}{h:Uz}(x:SQ k it l vals m h):IQ k it l m h:=x.elim (λx=>.inl ⟨x.1,x.2.1⟩) λx=>.inr ⟨x.1,x.2.1⟩
theorem Ew (prog:S_) (w:TL) (k:String) (it l:Tg) (vals:Array SI) (hne:l≠it):vJ prog w it l vals (SQ k it l vals) where
 keep:=λm h h' st k1 k2=>by
  rcases st with ⟨e,st⟩ | ⟨e,st⟩
  ·exact .inl ⟨e,(mH prog w it l vals hne).keep m h h' st k1 k2⟩
  ·exact .inr ⟨e,(kM prog w it l vals hne).keep m h h' st k1 k2⟩
 there:=λm h st=>by
  rcases st with ⟨e,st⟩ | ⟨e,st⟩
  ·exact (mH prog w it l vals hne).there m h st
  ·exact (kM prog w it l vals hne).there m h st
 item:=λA s m x Q E st hx hQ=>by
  rcases st with ⟨e,st⟩ | ⟨e,st⟩
  ·exact (mH prog w it l vals hne).item A s m x Q E st hx λh' a1 a2=>hQ h' (.inl ⟨e,a1⟩) a2
  ·exact (kM prog w it l vals hne).item A s m x Q E st hx λh' a1 a2=>hQ h' (.inr ⟨e,a1⟩) a2
 fin:=λA s m Q E hh st hx hE=>by
  rcases st with ⟨e,st⟩ | ⟨e,st⟩
  ·exact (mH prog w it l vals hne).fin A s m Q E hh st hx hE
  ·exact (kM prog w it l vals hne).fin A s m Q E hh st hx hE
def kE (k:String) (K:SG) (H:Hp) (l:Tg) (xs:List V):Prop:=(k="list_iterator"/\cB K H l xs)\/(k="tuple_iterator"/\cL K H l xs)
section
variable {X:Cx}{Sq:List (Tg×Obj)}{σ:L2.St}{H:Hp}{s:SJ}
theorem kE.get {k:String}{l:Tg}{xs:List V}(I:Inv X Sq σ H s) (h:kE k X.K H l xs):∃Su:List SI,Vals xs Su/\DN k s.heap l Su.toArray:=by
 rcases h with ⟨e,h⟩ | ⟨e,h⟩
 ·obtain ⟨Su,r,p,_⟩:=I.list h
  exact ⟨Su,r,.inl ⟨e,p.isList⟩⟩
 ·obtain ⟨Su,r,p,_⟩:=I.tuple h
  exact ⟨Su,r,.inr ⟨e,p⟩⟩
theorem kE.inj {k:String}{l:Tg}{xs ys:List V}(I:Inv X Sq σ H s) (h:kE k X.K H l xs) (h':kE k X.K H l ys):xs=ys:=by
 rcases h with ⟨e,h⟩ | ⟨e,h⟩ <;> rcases h' with ⟨e',h'⟩ | ⟨e',h'⟩
 ·exact I.list_inj h h'
 ·rw [e] at e';exact absurd e' (by decide)
 ·rw [e] at e';exact absurd e' (by decide)
 ·exact I.tuple_inj h h'
theorem kE.ne {k:String}{l b:Tg}{xs:List V}(I:Inv X Sq σ H s) (h:kE k X.K H l xs) (f:jI X Sq H b):l≠b:=by
 have t:(∃o,H l=some o)\/∃o,X.K.lookup l=some o:=by
  rcases h with ⟨_,h⟩ | ⟨_,h⟩ <;> rcases h with (h | ⟨o,h⟩) | ⟨o,_,_,h,_⟩
  ·exact .inl ⟨_,h⟩
  ·exact .inl ⟨_,h⟩
  ·exact .inr ⟨o,h⟩
  ·exact .inl ⟨_,h⟩
  ·exact .inl ⟨_,h⟩
  ·exact .inr ⟨o,h⟩
 rintro rfl
 rcases t with ⟨o,t⟩ | ⟨o,t⟩
 ·rw [f.1] at t;cases t
 ·have hb:X.base.get? l=some o:=I.ok.mod.kin l o t
  rcases f.2.2.2.1 with z | z
  ·exact I.ok.noex l o hb z
  ·exact absurd (To (S9 (I.ok.bs l o hb).1) z) (Vg _)
end
theorem IQ.keep {k:String}{it l:Tg}{m:Nat}{h h':Uz}(x:IQ k it l m h) (kp:∀o,h.get? it=some o->h'.get? it=some o):IQ k it l m h':=by
 rcases x with ⟨e,o,h1,r⟩ | ⟨e,o,h1,r⟩
 ·exact .inl ⟨e,o,kp o h1,r⟩
 ·exact .inr ⟨e,o,kp o h1,r⟩
theorem IQ.obj {k:String}{it l:Tg}{m:Nat}{h:Uz}(x:IQ k it l m h):∃o,h.get? it=some o/\∀v,o.data≠.cell v:=by
 rcases x with ⟨e,o,h1,_,d⟩ | ⟨e,o,h1,_,d⟩ <;> exact ⟨o,h1,λv z=>by rw [d] at z;cases z⟩
theorem IQ.sq {k:String}{it l:Tg}{m:Nat}{h:Uz}{vals:Array SI}(x:IQ k it l m h) (q:DN k h l vals):SQ k it l vals m h:=by
 rcases x with ⟨e,x⟩ | ⟨e,x⟩ <;> rcases q with ⟨e',q⟩ | ⟨e',q⟩
 ·exact .inl ⟨e,x,q⟩
 ·rw [e] at e';exact absurd e' (by decide)
 ·rw [e] at e';exact absurd e' (by decide)
 ·exact .inr ⟨e,x,q⟩
section
variable {X:Cx}{c:C}{e a b:TV}{es:List TV}{ga gb g:G R}{pos:Pos}{elts:List TV}{kk:Nat}{tp:Pos}
noncomputable def zf:R->M (List D)
 | .d (.tup xs)=>.ok xs
 | .d (.lst xs)=>.ok xs
 | .l _ xs=>.ok xs
 | _=>.bad
theorem kE.same {k:String}{K:SG}{H H':Hp}{l:Tg}{xs:List V}(e:aU H H') (h:kE k K H l xs):kE k K H' l xs:=h.elim (λh=>.inl ⟨h.1,e.seq h.2⟩) λh=>.inr ⟨h.1,eO e h.2⟩
theorem Nx {He J1 H1:Hp}{r:R}{v:V}{xs:List D}(hp:HI c J1 H1) (h:RR c He J1 H1 r v) (q:zf r=.ok xs):∃k l vs,v=.ref l/\aH c.K J1 xs vs/\kE k c.K H1 l vs:=by
 unfold zf at q
 split at q
 ·cases q
  cases h with
  | tup h1 h2=>exact ⟨"tuple_iterator",_,_,rfl,h2,.inr ⟨rfl,eO hp.sub h1⟩⟩
 ·cases q
  cases h with
  | lst h1 h2=>exact ⟨"list_iterator",_,_,rfl,h2,.inl ⟨rfl,hp.sub.seq h1⟩⟩
 ·cases q
  obtain ⟨a,vs,rfl,h1,h2⟩:=RR.list hp h rfl
  exact ⟨"list_iterator",_,_,rfl,h2,.inl ⟨rfl,h1⟩⟩
 ·cases q
theorem La {α:Type}{x:R}{f:List D->M α}{Q:α->Prop}{T:Exc->Prop}(w:cI (zf x >>= f) Q T):∃xs,zf x=.ok xs/\cI (f xs) Q T:=by
 cases q:zf x with
 | bad=>rw [q] at w;exact w.elim
 | ok xs=>rw [q] at w;exact ⟨xs,rfl,w⟩
 | exc z=>unfold zf at q;split at q <;> cases q
end
section
variable {X:Cx}{c:C}{e a b tg:TV}{es:List TV}{ga gb g:G R}{pos:Pos}
def Ci (K:SG) (mg:Str->Option SI) (x:Str) (d:D):Prop:=∃u v,mg x=some u/\RelV v u/\∀J,Rep K J d v
theorem w_:Ue "int"=some (.type "int"):=by decide +kernel
theorem uz:Ue "bool"=some (.type "bool"):=by decide +kernel
theorem AM:Ue "tuple"=some (.type "tuple"):=by decide +kernel
end
section
variable {X:Cx}{c:C}{e a b tg:TV}{es:List TV}{ga gb g:G R}{pos:Pos}{st:V0}{t u:G O}{tb:G Bool}
def yD:G O:=λ_=>.bad
noncomputable def v_ (g:G R):G R:=λenv=>g env >>= λr=>match r with
 | .d (.int i)=>.ok (.d (.int (-i)))
 | _=>.bad
noncomputable def HP:R->M Bool
 | .d .non=>.ok false
 | .d (.bl b)=>.ok b
 | .d (.int i)=>.ok (i != 0)
 | .d (.str y)=>if y.length<=sizeLine then .ok ((y.length:Int) != 0) else .bad
 | .d (.tup xs)=>.ok (!xs.isEmpty)
 | .d (.lst xs)=>.ok (!xs.isEmpty)
 | .d .emp=>.ok false
 | .d (.exn _ _ _)=>.bad
 | .d (.dct _ _)=>.bad
 | .l _ xs=>.ok (!xs.isEmpty)
 | _=>.bad
theorem L4 {K:SG}{J:Hp}{ds:List D}{vs:List V}(h:aH K J ds vs):ds.isEmpty=vs.isEmpty:=by
 cases h <;> rfl
theorem K7 {He J H:Hp}(hp:HI c J H){Q:Bool->Prop}{T:Exc->Prop}:∀{r:R}{v:V},RR c He J H r v->cI (HP r) Q T->∃k,F_ c.K v H k/\Q k
 | .d .non,_,h,w=>by cases h;exact ⟨_,rfl,w⟩
 | .d (.bl b),_,h,w=>by cases h;exact ⟨_,rfl,w⟩
 | .d (.int i),_,h,w=>by cases h;exact ⟨_,rfl,w⟩
 | .d (.str y),_,h,w=>by
  cases h
  unfold HP at w
  simp only at w
  split at w
  ·rename_i hz;exact ⟨_,⟨hz,rfl⟩,w⟩
  ·exact w.elim
 | .d (.tup xs),_,h,w=>by
  cases h with
  | tup h1 h2=>exact ⟨_,.inr (.inl ⟨_,eO hp.sub h1,rfl⟩),by rw [<-L4 h2];exact w⟩
 | .d (.lst xs),_,h,w=>by
  cases h with
  | lst h1 h2=>exact ⟨_,.inl ⟨_,hp.sub.seq h1,rfl⟩,by rw [<-L4 h2];exact w⟩
 | .d .emp,_,h,w=>by
  cases h with
  | emp h1=>exact ⟨_,.inr (.inr ⟨_,hp.sub _ _ h1,rfl⟩),w⟩
 | .d (.exn _ _ _),_,_,w=>w.elim
 | .d (.dct _ _),_,_,w=>w.elim
 | .mo _ _,_,_,w=>w.elim
 | .mb _ _,_,_,w=>w.elim
 | .mf _ _,_,_,w=>w.elim
 | .l m xs,_,h,w=>by
  obtain ⟨a,vs,rfl,h1,h2⟩:=RR.list hp h rfl
  exact ⟨_,.inl ⟨_,h1,rfl⟩,by rw [<-L4 h2];exact w⟩
def we (g:G R):G Bool:=λenv=>g env >>= HP
noncomputable def lW (tb:G Bool) (u:G O):Nat->Ev->M O
 | 0,_=>.bad
 | n + 1,env=>tb env >>= λk=>if k=true then u env >>= λo=>(match o with
  | .nx e=>lW tb u n e
  | .ct e=>lW tb u n e
  | .bk e=>.ok (.nx e)
  | .rt r=>.ok (.rt r)) else .ok (.nx env)
def uR (n:Nat) (tb:G Bool) (u:G O):G O:=λenv=>lW tb u n env
theorem aH.eraseIdx {K:SG}{J:Hp}:∀{ds:List D}{vs:List V}(k:Nat),aH K J ds vs->aH K J (ds.eraseIdx k) (vs.eraseIdx k)
 | _,_,_,.nil=>by rw [aaS,aaS];exact .nil
 | _,_,0,.cons _ t=>t
 | _,_,k + 1,.cons r t=>.cons r (aH.eraseIdx k t)
noncomputable def Ql (i j:Nat):G O:=λenv=>match env[j]? with
 | some (some (.own xs))=>(match xs[xs.length - 1]? with
  | some d=>.ok (.nx ((env.set j (some (.own xs.dropLast))).set i (some (.d d))))
  | none=>.bad)
 | _=>.bad
noncomputable def nI (i j:Nat) (g:G R):G O:=λenv=>match env[i]?,env[j]? with
 | some (some (.own zs)),some (some (.own xs))=>if i=j then .bad else g env >>= λr=>(match r with
  | .d (.int k)=>if 0<=k/\k.toNat < xs.length/\zs.length < sizeLine/\xs.length<=sizeLine then (match xs[k.toNat]? with
   | some d=>.ok (.nx ((env.set j (some (.own (xs.eraseIdx k.toNat)))).set i (some (.own (zs++[d])))))
   | none=>.bad) else .bad
  | _=>.bad)
 | _,_=>.bad
theorem Ov {k:Int}{n:Nat}(h0:0<=k) (h:k.toNat < n):aan k n=some k.toNat:=by
 unfold aan
 have h1:¬k < 0:=by omega
 have h2:k < n:=by omega
 simp [h1,h0,h2]
theorem MN {J H:Hp}{σ:L2.St}{env:Ev}(sr:SR c J H σ env){i j:Nat}{xs ys:List D}{p q:Tg}(hij:i≠j) (hi:env[i]?=some (some (.own xs))) (hj:env[j]?=some (some (.own ys))) (h1:σ[i]?=some (some (.ref p))) (h2:σ[j]?=some (some (.ref q))):p≠q:=λz=>
 sr.sep i j (.inl xs) (.inl ys) (.ref p) hij hi hj h1 (z▸h2)
end
open PySem.AutoSeq1 in
theorem Eu (T:String) (hT:T="tuple"\/T="list") (l b:Tg) (xs ys:Array SI) (n m:Nat) (dd:Option Tg) (sl:Array (Option SI)) (z0:¬(!xs.isEmpty && Vp (xs.size + ys.size))=true) (z1:xs.size<=sizeLine) (z2:xs.size + ys.size<=sizeLine + 1):
  Meets (Xd.«list.extend» ⟨[.ref l,.ref b],[]⟩) λ_ R s=>s.heap.get? l=some {cls:=.type "list",dict:=none,data:=.seq xs n,slots:=#[]}/\
   s.heap.get? b=some {cls:=.type T,dict:=dd,data:=.seq ys m,slots:=sl}/\R (.ok (.ret T_)) {s with heap:=s.heap.update l (Vo λx=>x++ys),toks:=s.toks}:=
 .of_wp λprog w A R s h=>by
  obtain ⟨hp,gs,dr,tk,os⟩:=s
  obtain ⟨h1,h2,h3⟩:=h
  have t1:=AutoSeq1.idx_int
  have t2:=W7
  have t3:=AutoSeq1.sub_list_list
  have t4:=AutoSeq1.sub_tuple_list
  have t5:=AutoSeq1.sub_list_tuple
  have z3:(xs++ys).size<=sizeLine + 1:=by
   rw [aaP]
   exact z2
  rcases hT with rfl | rfl
  ·wp_walk using (Yj h1 rfl (hz:=z1) (_hz':=z3)),VF h1,VF h2
   exact ⟨_,rfl,h3⟩
  ·wp_walk using (Yj h1 rfl (hz:=z1) (_hz':=z3)),VF h1,VF h2
   exact ⟨_,rfl,h3⟩
section
variable {X:Cx}{c:C}{e a b tg:TV}{es:List TV}{ga gb g:G R}{pos:Pos}
noncomputable def Pj (K:SG):V->List V->Hp->VK->Prop:=λx vs H Q=>∃l b xs zs,x=.ref l/\vs=[.ref b]/\H l=some (.lst xs)/\(cB K H b zs\/cL K H b zs)/\xs.length + zs.length<=sizeLine/\Q .non (upd H l (.lst (xs++zs)))
theorem My:Ie X "list.extend" (Pj X.K):=by
 intro Sq s σ H x vs v us Q I rx rv h
 obtain ⟨l,b,xs,zs,rfl,rfl,hH,hB,hz,q⟩:=h
 cases rx
 obtain ⟨u,rfl,ru⟩:=rv.one
 cases ru
 obtain ⟨z,Su,n,r,hl,e⟩:=I.lstM hH
 have obj:∃T its2,(T="tuple"\/T="list")/\Vals zs its2/\∃dd m sl,s.heap.get? b=some {cls:=.type T,dict:=dd,data:=.seq its2.toArray m,slots:=sl}:=by
  rcases hB with hB | hB
  ·obtain ⟨its2,r2,pl,_⟩:=I.list hB
   obtain ⟨⟨cls,dd,data,sl⟩,ho,hc,m,hd⟩:=pl.isList
   simp only at hc hd
   subst hc hd
   exact ⟨"list",its2,.inr rfl,r2,dd,m,sl,ho⟩
  ·obtain ⟨its2,r2,pl,_⟩:=I.tuple hB
   obtain ⟨⟨cls,dd,data,sl⟩,ho,hc,m,hd⟩:=pl
   simp only at hc hd
   subst hc hd
   exact ⟨"tuple",its2,.inl rfl,r2,dd,m,sl,ho⟩
 obtain ⟨T,its2,hT,r2,dd,m,sl,e2⟩:=obj
 have hl2:=r2.length
 have hsz:Su.toArray.size + its2.toArray.size<=sizeLine:=by rw [S0,S0];omega
 have QC:¬(!Su.toArray.isEmpty && Vp (Su.toArray.size + its2.toArray.size))=true:=by
  rw [Ag hsz,Wq]
  exact Tv
 refine aaL aao ⟨_,e,rfl⟩ Z7 (ZS _ _) (Eu T hT l b Su.toArray its2.toArray n m dd sl QC (by rw [S0];omega) (by omega)) ⟨e,e2,?_⟩
 refine ⟨.non,_,I.lset (its':=Su++its2) hH e (by simp) (r.append r2) ?_,rfl,q⟩
 rw [Te]
 omega
noncomputable def v7 (i:Nat) (g:G R):G O:=λenv=>match env[i]? with
 | some (some (.own xs))=>g env >>= λr=>iy r >>= λys=>if xs.length + ys.length<=sizeLine then .ok (.nx (env.set i (some (.own (xs++ys))))) else .bad
 | _=>.bad
noncomputable def t8:V->Option (Option Bool)
 | .non=>some none
 | .bl k=>some (some k)
 | _=>none
theorem Ao (rx:RelV x v) (ry:RelV y u) (h:t8 y=some o):isSame v u=pure (t8 x == some o):=by
 cases y with
 | non=>
  cases h
  cases ry
  cases x with
  | non=>cases rx;rfl
  | bl k=>cases rx;rfl
  | int i=>obtain ⟨t,rfl⟩:=rx;rfl
  | str z=>obtain ⟨t,rfl⟩:=rx;rfl
  | byt z=>obtain ⟨t,rfl⟩:=rx;rfl
  | flt z=>obtain ⟨t,rfl⟩:=rx;rfl
  | ref p=>cases rx;rfl
  | ty n=>cases rx;rfl
 | bl k'=>
  cases h
  cases ry
  cases x with
  | non=>cases rx;rfl
  | bl k=>cases rx;cases k <;> cases k' <;> rfl
  | int i=>obtain ⟨t,rfl⟩:=rx;rfl
  | str z=>obtain ⟨t,rfl⟩:=rx;rfl
  | byt z=>obtain ⟨t,rfl⟩:=rx;rfl
  | flt z=>obtain ⟨t,rfl⟩:=rx;rfl
  | ref p=>cases rx;rfl
  | ty n=>cases rx;rfl
 | _=>cases h
theorem E8:c_ X (UP .Is) (λx y H Q=>∃o,t8 y=some o/\Q (.bl (t8 x == some o)) H):=by
 intro Sq s σ H x y v u Q I rx ry h
 obtain ⟨o,ho,q⟩:=h
 show S8 _ _ (do return WB (<-isSame v u)) _ _ s
 rw [Ao rx ry ho]
 exact SE (SH (SH ⟨.bl _,H,I,rfl,q⟩))
theorem xD:c_ X (UP .IsNot) (λx y H Q=>∃o,t8 y=some o/\Q (.bl (!(t8 x == some o))) H):=by
 intro Sq s σ H x y v u Q I rx ry h
 obtain ⟨o,ho,q⟩:=h
 show S8 _ _ (do return WB (!(<-isSame v u))) _ _ s
 rw [Ao rx ry ho]
 exact SE (SH (SH ⟨.bl _,H,I,rfl,q⟩))
noncomputable def De:R->Option (Option Bool)
 | .d .non=>some none
 | .d (.bl k)=>some (some k)
 | _=>none
noncomputable def iI (neg:Bool) (x y:R):M R:=match De y with
 | some o=>.ok (.d (.bl (if neg then !(De x == some o) else De x == some o)))
 | none=>.bad
theorem i8 {He J H:Hp}:∀{r:R}{v:V},RR c He J H r v->t8 v=De r
 | .d .non,_,h=>by cases h;rfl
 | .d (.bl _),_,h=>by cases h;rfl
 | .d (.int _),_,h=>by cases h;rfl
 | .d (.str _),_,h=>by cases h;rfl
 | .d (.tup _),_,h=>by cases h;rfl
 | .d (.lst _),_,h=>by cases h;rfl
 | .d .emp,_,h=>by cases h;rfl
 | .d (.exn _ _ _),_,h=>by cases h;rfl
 | .d (.dct _ _),_,h=>by cases h;rfl
 | .l .fresh _,_,h=>by obtain ⟨_,_,rfl,_⟩:=h;rfl
 | .l .own _,_,h=>by obtain ⟨_,_,rfl,_⟩:=h;rfl
 | .l .bor _,_,h=>by obtain ⟨_,_,rfl,_⟩:=h;rfl
 | .mo _ _,_,h=>by obtain ⟨_,rfl,_⟩:=h;rfl
 | .mb _ _,_,h=>by obtain ⟨_,rfl,_⟩:=h;rfl
 | .mf _ _,_,h=>by obtain ⟨_,rfl,_⟩:=h;rfl
end
theorem Jm {P:S_}{w:TL}{K:SG}{mg:Str->Option SI}{base:Uz}{x Sx:Str}{st:V0}{f:Tg}{fd:TM}{ps:List Str}{k:Nat}{Fm:List S->M R}(F:l_ K x Sx st f fd) (hm:mg x=some (.ref f))
  (hbi:∀(kV doc pm:SI) (an:Option Tg) (cdv ct:SI) (us:List SI),us.length=ps.length->aag (UZ x Sx (fq st) (cV st) (bA st) .none kV doc pm an cdv ct) ⟨us,[]⟩=pure (ps.zip us))
  (hF:∀as,Fm as=.bad):bw P w K mg base k ps.length x Fm:=
 ⟨f,fd,ps,⟨λvs H Q E ⟨J,as,_,_,_,h⟩=>(by rw [hF as] at h;exact h.elim),λA outer s H args us vs Q E _ _ _ _ ⟨J,as,_,_,_,h⟩=>(by rw [hF as] at h;exact h.elim)⟩,hm,F.kp,F.binds hbi⟩
section
variable {X:Cx}{c:C}{e a b d tg:TV}{es:List TV}{ga gb g:G R}{pos:Pos}
def Pc (K:SG) (tl:TE):TI:=λσ H R=>tl σ H λx H1=>∃a,x=.ref a/\(((∃xs,cB K H1 a xs)/\R (HZ K a) H1)\/((∃xs,cL K H1 a xs)/\R (Ia K a) H1))
theorem Fe {tl:TE}(hl:PE X e tl):PI X tg e (Pc X.K tl):=λSq s σ H R I h=>bO (hl Sq s σ H _ I h) λv s1 ⟨x,H1,I1,r1,a,ex,q1⟩=>by
 subst ex
 cases r1
 have fp:∀b∈[s1.heap.objs.size],jI X Sq H1 b:=λb hb=>by
  rw [S6] at hb
  subst hb
  exact I1.fpOk (SW _) (I1.hok.fresh (SW _))
 rcases q1 with ⟨⟨xs,hq⟩,q⟩ | ⟨⟨xs,hq⟩,q⟩
 ·obtain ⟨Su,rv,p,hz⟩:=I1.list hq
  exact Xx p.isList ⟨s1.heap.objs.size,[s1.heap.objs.size],_,_,H1,rfl,I1.kept (t':=s1.toks) (λb o e=>SO _ e),F0 a _,⟨_,SY _ rfl,rfl,rfl⟩,fp,q⟩
 ·obtain ⟨Su,rv,p,hz⟩:=I1.tuple hq
  exact Yz (show s1.heap.IsTuple a Su.toArray from p) ⟨s1.heap.objs.size,[s1.heap.objs.size],_,_,H1,rfl,I1.kept (t':=s1.toks) (λb o e=>SO _ e),DF a _,⟨_,SY _ rfl,rfl,rfl⟩,fp,q⟩
theorem yd {J1:Hp}{a:Tg}{vs:List V}{ds:List D}{U:Hp->Hp->Prop}(hU:∀J H,U J H->aU J1 J) (h:cL c.K J1 a vs) (hs:aH c.K J1 ds vs):Walk c (Ia c.K a) ds J1 U:=by
 intro i J H hp u
 have h':=eO hp.sub (eO (hU J H u) h)
 refine ⟨λhl=>⟨vs,h',by rw [<-hs.length];exact hl⟩,λd hd=>?_⟩
 obtain ⟨v,k1,k2⟩:=hs.get hd
 refine ⟨⟨vs,v,h',k1⟩,λx H2 ⟨e,hy⟩=>?_⟩
 subst e
 have:=hy vs h'
 rw [k1] at this
 cases this
 exact ⟨J,Ext.refl hp.sub,k2.mono (hU J _ u)⟩
noncomputable def fm (g:G R):G (List D):=λenv=>g env >>= λr=>match r with
 | .d (.tup xs)=>.ok xs
 | .d (.lst xs)=>.ok xs
 | .l .fresh xs=>.ok xs
 | .l .bor xs=>.ok xs
 | _=>.bad
def kq (g:G R):G (List D):=λenv=>g env >>= iy
end
section
variable {X:Cx}{c:C}{st:V0}{g:G O}
theorem SR.frz {J H:Hp}{σ:L2.St}{env:Ev}(sr:SR c J H σ env){i:Nat}{x:Mn}{a:Tg}{o:HO}{d:D}(hi:env[i]?=some (some (mS x))) (h1:σ[i]?=some (some (.ref a))) (h2:H a=some o) (h3:J a=none) (h4:c.H0 a=none) (h5:Rep c.K (L2.upd J a o) d (.ref a)):∃J',aU J J'/\SR c J' H σ (env.set i (some (.d d))):=by
 have s1:aU J (L2.upd J a o):=cK h3 _
 refine ⟨L2.upd J a o,s1,⟨⟨λb o q=>?_,sr.hp.ent,sr.hp.entJ.trans s1,λb k1 k2=>?_⟩,by simpa using sr.len,λj y q=>?_,λj k ys zs w hjk q1 q2 q3 q4=>?_⟩⟩
 ·by_cases hb:b=a
  ·subst hb;rw [bR] at q;cases q;exact h2
  ·rw [bu hb] at q;exact sr.hp.sub b o q
 ·have:b≠a:=λz=>k1 (z▸h4)
  rw [bu this];exact sr.hp.frz b k1 k2
 ·rcases gA q with ⟨rfl,hl,rfl⟩ | ⟨hj,q⟩
  ·exact ⟨.ref a,h1,h5⟩
  ·obtain ⟨w,k1,k2⟩:=sr.at_ j y q
   refine ⟨w,k1,?_⟩
   have hne:∀(z:Mn) p',y=mS z->w=.ref p'->p'≠a:=λz p' e ew ep=>sr.sep i j x z (.ref a) (Vi hj) hi (e▸q) h1 (ep▸ew▸k1)
   cases y with
   | d x=>exact Rep.mono s1 k2
   | bor zs=>obtain ⟨p,us,m1,m2,m3⟩:=k2;exact ⟨p,us,m1,m2,m3.mono s1⟩
   | db _ _=>obtain ⟨p,m1,m2⟩:=k2;exact ⟨p,m1,m2.mono s1 (aU.refl _)⟩
   | fn _=>exact k2
   | dk ks zs=>
    obtain ⟨p,rfl,m1,m2,m3⟩:=k2
    exact ⟨p,rfl,m1.mono s1 (aU.refl _),by rw [bu (hne (.inr (ks,zs)) p rfl rfl)];exact m2,m3⟩
   | own zs=>
    obtain ⟨p,us,rfl,m1,m2,m3,m4⟩:=k2
    exact ⟨p,us,rfl,m1,by rw [bu (hne (.inl zs) p rfl rfl)];exact m2,m3,m4.mono s1⟩
 ·have f:∀(k:Nat) (ys:Mn),(env.set i (some (.d d)))[k]?=some (some (mS ys))->env[k]?=some (some (mS ys)):=λk ys q=>by
   rcases gA q with ⟨rfl,_,z⟩ | ⟨_,q⟩
   ·cases ys <;> cases z
   ·exact q
  exact sr.sep j k ys zs w hjk (f j ys q1) (f k zs q2) q3 q4
noncomputable def fJ (i:Nat) (g:G O):G O:=λenv=>match env[i]? with
 | some (some (.own xs))=>g (env.set i (some (.d (.lst xs))))
 | some (some (.dk ks vs))=>g (env.set i (some (.d (.dct ks vs))))
 | _=>g env
end
structure QD (X:Cx) (c:C) (x0:TV) (x1:G R):Prop where
 h:PD X c x0 x1
structure QB (X:Cx) (c:C) (x0:TV) (x1:G Bool):Prop where
 h:PB X c x0 x1
structure jj (X:Cx) (c:C) (x0:List TV) (x1:G (List R)):Prop where
 h:Ii X c x0 x1
structure DS (X:Cx) (c:C) (x0:List TV) (x1:G (List D)):Prop where
 h:P0 X c x0 x1
structure iX (X:Cx) (c:C) (x0:V0) (x1:G O):Prop where
 h:A7 X c x0 x1
structure qi (X:Cx) (c:C) (x0:List V0) (x1:G O):Prop where
 h:Lm X c x0 x1
structure zb (X:Cx) (c:C) (x0:TV) (x1:G Bool):Prop where
 h:P1 X c x0 x1
structure lG (X:Cx) (c:C) (x0:TV) (x1:GT):Prop where
 h:ji X c x0 x1
structure Ck (X:Cx) (c:C) (x0:List TV) (x1:uh):Prop where
 h:O5 X c x0 x1
structure zc (X:Cx) (c:C) (x0:TV) (x1:TV) (x2:G (List D)):Prop where
 h:za X c x0 x1 x2
structure ql (X:Cx) (c:C) (x0:TV) (x1:TV) (x2:G (List D)):Prop where
 h:qh X c x0 x1 x2
structure kj (X:Cx) (c:C) (x0:List TV) (x1:G Bool):Prop where
 h:gJ X c x0 x1
structure A8 (X:Cx) (c:C) (x0:Option TV) (x1:GO):Prop where
 h:Ln X c x0 x1
section
variable {X:Cx}{c:C}{e a b:TV}{ga gb:G R}{pos:Pos}
theorem aa (i:Nat) (hN:X.N[i]?=some x:=by rfl) (hv:sD X.env.scope x:=by first | exact XW rfl | exact Wm (XW rfl) | exact Wm (Wm rfl)) (hd:(x == ("__debug__":Str))=false:=by decide)
 (hcd:(x == ("__classdict__":Str))=false:=by decide):QD X c (.Name x pos) (af i):=⟨Kh (lO hN hv hd hcd)⟩
theorem aq:QD X c (.Constant (.int i) j pos) (gC (.int i)):=⟨vf (λ_=>.int i) MP⟩
theorem eH:QD X c (.Constant (.bool i) j pos) (gC (.bl i)):=⟨vf (λ_=>.bl i) Oc⟩
theorem ir:QD X c (.Constant .none j pos) (gC .non):=⟨vf (λ_=>.non) MR⟩
theorem fC:QD X c (.Constant (.str x) j pos) (gC (.str x)):=⟨vf (λ_=>.str x) MU⟩
theorem lq (ha:QD X c a ga) (hb:QD X c b gb):QD X c (.BinOp a .Sub b pos) (g2 oN ga gb):=have ha:=ha.h;have hb:=hb.h;⟨mR MJ (kI λ_ _ _=>.int _) ha hb⟩
theorem dQ (ha:QD X c a ga) (hb:QD X c b gb):QD X c (.BinOp a .FloorDiv b pos) (g2 gf ga gb):=have ha:=ha.h;have hb:=hb.h;⟨mR J6 (zh (λi j h=>JL h) λ_ _ _=>.int _) ha hb⟩
theorem bX (ha:QD X c a ga) (hb:QD X c b gb):QD X c (.BinOp a .Mod b pos) (g2 dB ga gb):=have ha:=ha.h;have hb:=hb.h;⟨mR MF (zh (λi j h=>by unfold Mf at h;exact of_decide_eq_true h) λ_ _ _=>.int _) ha hb⟩
theorem jb (ha:QD X c a ga) (hb:QD X c b gb):QD X c (.BinOp a .Pow b pos) (g2 oH ga gb):=have ha:=ha.h;have hb:=hb.h;⟨mR MI (zh (λi j h=>JN h) λ_ _ _=>.int _) ha hb⟩
theorem Na (ha:QD X c a ga) (hb:QD X c b gb):QD X c (.Compare a [.Gt] [b] pos) (g2 (qq λi j=>.bl (decide (j < i))) ga gb):=have ha:=ha.h;have hb:=hb.h;⟨nT Df (kI λ_ _ _=>.bl _) ha hb⟩
theorem au:jj X c [] aD:=⟨yG gX λσ H Q ⟨J,env,sr,w⟩=>w [] J H (Ext.refl sr.hp.sub) rfl⟩
theorem ak {es:List TV}{g:G R}{gs:G (List R)}(h:QD X c e g) (hs:jj X c es gs) (hst:SX (e::es) X.env=(false,eval e X.env)::SX es X.env:=by rfl):jj X c (e::es) (ao g gs):=have h:=h.h;have hs:=hs.h;⟨
 yG (eY h hs hst) λσ H Q ⟨J,env,sr,w⟩=>by
  refine ⟨J,env,sr,aF (aL w) λx wx u J1 H1 e1 r1=>?_⟩
  refine ⟨J1,env,sr.ext e1,aF (aL wx) λxs wy us J2 H2 e2 r2=>?_⟩
  exact wy (u::us) J2 H2 (e1.trans e2) ⟨u,us,rfl,r1.ext e2,kD.from e1.h r2⟩⟩
end
section
variable {X:Cx}{c:C}{e a b:TV}{es:List TV}{ga gb g:G R}{pos:Pos}
theorem aJ:DS X c [] aQ:=⟨yG gX λσ H Q ⟨J,env,sr,w⟩=>w [] J H (Ext.refl sr.hp.sub) .nil⟩
theorem ay {gs:G (List D)}(h:QD X c e g) (hs:DS X c es gs) (hst:SX (e::es) X.env=(false,eval e X.env)::SX es X.env:=by rfl):DS X c (e::es) (az g gs):=have h:=h.h;have hs:=hs.h;⟨
 yG (eY h hs hst) λσ H Q ⟨J,env,sr,w⟩=>by
  refine ⟨J,env,sr,aF (aL w) λx wx u J1 H1 e1 r1=>?_⟩
  obtain ⟨d,q,wx⟩:=jd wx
  obtain ⟨J1',e1',s1,rd⟩:=freeze e1 r1 q
  refine ⟨J1',env,sr.ext e1',aF (aL wx) λxs wy us J2 H2 e2 r2=>?_⟩
  exact wy (u::us) J2 H2 (e1'.trans e2) (.cons (rd.mono e2.j) r2)⟩
theorem a_ {k}{gs:G (List D)}(h:DS X c es gs):QD X c (.Tuple es k pos) (bz gs):=have h:=h.h;⟨gj (MV h) λσ H Q ⟨J,env,sr,w⟩=>by
 refine ⟨J,env,sr,aF (aL w) λds wd vs J1 H1 e1 r1=>?_⟩
 split at wd
 ·rename_i hz
  rw [r1.length] at hz
  exact ⟨hz,λp hp=>wd _ _ _ (e1.trans (Ext.newJ e1.sub hp _)) (qR (sr.hp.ext e1) hp r1)⟩
 ·exact wd.elim⟩
theorem bW {gs:G (List D)}(h:DS X c es gs):QD X c (.List es pos) (dJ gs):=have h:=h.h;⟨gj (MQ h) λσ H Q ⟨J,env,sr,w⟩=>by
 refine ⟨J,env,sr,aF (aL w) λds wd vs J1 H1 e1 r1=>?_⟩
 split at wd
 ·rename_i hz
  rw [r1.length] at hz
  exact ⟨hz,λp hp=>wd _ _ _ (e1.trans (Ext.new e1.sub hp _)) (RR.from e1.h (g_ (sr.hp.ext e1) hp r1))⟩
 ·exact wd.elim⟩
theorem fB {p:Pos}{gs:G (List R)}(ha:jj X c (e::es) gs) (hm:X.mg "len"=none) (hK:X.K=c.K:=by rfl) (hg:Gl X "len":=by rfl)
  (he:SX (e::es) X.env=(false,eval e X.env)::SX es X.env:=by rfl) (hpl:(Vb pos (SX es X.env)).any (·.1)=false:=by rfl):QD X c (.Call (.Name "len" p) (e::es) [] pos) (gN e_ gs):=have ha:=ha.h;⟨
 jQ (zq.or zo) (by
  intro He J H xs vs Q hp rs w
  unfold e_ at w
  split at w
  ·obtain ⟨v,rfl,r⟩:=rs.one
   cases r
   split at w
   ·rename_i hz;exact .inl ⟨_,rfl,hz,w _ J H (Ext.refl hp.sub) (.int _)⟩
   ·exact w.elim
  ·obtain ⟨v,rfl,r⟩:=rs.one
   obtain ⟨xs,q,w⟩:=jc w
   obtain ⟨p,vs,rfl,hq,hs⟩:=kW hp r q
   have w':=w (.int vs.length) J H (Ext.refl hp.sub) (by rw [hs.length];exact .int _)
   exact .inr ⟨p,vs,rfl,by rw [hK];exact hq,w'⟩
  ·exact w.elim) PySem.boot_len hm ha hg (by decide) (by decide) he hpl⟩
theorem cU {gs:G (List R)}(ha:jj X c (e::es) gs) (hm:X.mg "tuple"=none) (hK:X.K=c.K:=by rfl) (hg:Gl X "tuple":=by rfl)
 (he:SX (e::es) X.env=(false,eval e X.env)::SX es X.env:=by rfl) (hpl:(Vb pos (SX es X.env)).any (·.1)=false:=by rfl):QD X c (.Call (.Name "tuple" p) (e::es) [] pos) (gN eF gs):=have ha:=ha.h;⟨
 qL yj (by
  intro He J H xs vs Q hp rs w
  unfold eF at w
  split at w
  ·obtain ⟨v,rfl,r⟩:=rs.one
   rename_i r0
   obtain ⟨xs,q,w⟩:=jc w
   cases r0 with
   | d y=>
    cases y with
    | tup ys=>
     cases q
     cases r with
     | tup h hs=>exact ⟨_,_,rfl,.inr ⟨by rw [hK];exact eO hp.sub h,w _ J H (Ext.refl hp.sub) (.tup h hs)⟩⟩
    | lst ys=>
     cases q
     obtain ⟨p,vs,rfl,hq,hs⟩:=RR.list hp r rfl
     exact ⟨p,vs,rfl,.inl ⟨by rw [hK];exact hq,λl hl=>w _ _ _ (Ext.newJ hp.sub hl _) (qR hp hl hs)⟩⟩
    | _=>cases q
   | mo _ _=>cases q
   | mb _ _=>cases q
   | mf _ _=>cases q
   | l m ys=>
    cases q
    obtain ⟨p,vs,rfl,hq,hs⟩:=RR.list hp r rfl
    exact ⟨p,vs,rfl,.inl ⟨by rw [hK];exact hq,λl hl=>w _ _ _ (Ext.newJ hp.sub hl _) (qR hp hl hs)⟩⟩
  ·exact w.elim) AL hm ha hg (by decide) (by decide) he hpl⟩
theorem Hr {p:Pos}{gs:G (List R)}(ha:jj X c (e::es) gs) (hm:X.mg "list"=none) (hK:X.K=c.K:=by rfl) (hg:Gl X "list":=by rfl)
  (he:SX (e::es) X.env=(false,eval e X.env)::SX es X.env:=by rfl) (hpl:(Vb pos (SX es X.env)).any (·.1)=false:=by rfl):QD X c (.Call (.Name "list" p) (e::es) [] pos) (gN CI gs):=have ha:=ha.h;⟨
 qL zu (by
  intro He J H xs vs Q hp rs w
  unfold CI at w
  split at w
  ·obtain ⟨v,rfl,r⟩:=rs.one
   obtain ⟨xs,q,w⟩:=jc w
   obtain ⟨p,vs,rfl,hq,hs⟩:=kW hp r q
   exact ⟨p,vs,rfl,by rw [hK];exact hq,λl hl=>w _ _ _ (Ext.new hp.sub hl _) (g_ hp hl hs)⟩
  ·exact w.elim) uA hm ha hg (by decide) (by decide) he hpl⟩
theorem dO (h:QD X c e g) (he:∀whole,ZY e X.env whole=(do let v <-whole;Wb e.pos;holding [v] (truthy v)):=by intro _;rfl):QB X c e (br g):=have h:=h.h;⟨yJ (M7 h he) λσ H Q ⟨J,env,sr,w⟩=>by
 refine ⟨J,env,sr,aF (aL w) λr wr v J1 H1 e1 r1=>?_⟩
 split at wr
 ·cases r1;exact ⟨_,rfl,wr J1 H1 e1⟩
 ·exact wr.elim⟩
theorem rR {f:R->R->M R}(ho:c_ X (UP op) r) (hf:BD c r f) (ha:QD X c a ga) (hb:QD X c b gb) (hm:UH op b=false:=by first | exact Af _ | rfl):QB X c (.Compare a [op] [b] pos) (br (g2 f ga gb)):=⟨jz ho hf ha.h hb.h hm⟩
variable {t u:G Bool}{rest:List TV}
theorem ig (h:zb X c e t):QB X c e t:=have h:=h.h;⟨PW.pt h⟩
theorem o8 (h:QB X c a t):zb X c (.BoolOp .And [a] pos) t:=have h:=h.h;⟨Ky h⟩
theorem nU (h:QB X c a t):zb X c (.BoolOp .Or [a] pos) t:=have h:=h.h;⟨M9 h⟩
theorem rQ (h:QB X c a t) (h':zb X c (.BoolOp .And (b::rest) pos) u):zb X c (.BoolOp .And (a::b::rest) pos) (jq t u):=have h:=h.h;have h':=h'.h;⟨IP (M8 h h') λσ H Q ⟨J,env,sr,w⟩=>by
 refine ⟨J,env,sr,aF (aL w) λk wk J1 H1 e1=>?_⟩
 cases k with
 | true=>
  rw [if_pos rfl] at wk ⊢
  exact ⟨J1,env,sr.ext e1,aF wk λk q J2 H2 e2=>q J2 H2 (e1.trans e2)⟩
 | false=>
  rw [if_neg (by decide)] at wk ⊢
  exact wk J1 H1 e1⟩
theorem lP (h:QB X c a t) (h':zb X c (.BoolOp .Or (b::rest) pos) u):zb X c (.BoolOp .Or (a::b::rest) pos) (ju t u):=have h:=h.h;have h':=h'.h;⟨IP (Oi h h') λσ H Q ⟨J,env,sr,w⟩=>by
 refine ⟨J,env,sr,aF (aL w) λk wk J1 H1 e1=>?_⟩
 cases k with
 | true=>
  rw [if_pos rfl] at wk ⊢
  exact wk J1 H1 e1
 | false=>
  rw [if_neg (by decide)] at wk ⊢
  exact ⟨J1,env,sr.ext e1,aF wk λk q J2 H2 e2=>q J2 H2 (e1.trans e2)⟩⟩
theorem i9 (h:QB X c a t):QB X c (.UnaryOp .Not a pos) (gg t):=have h:=h.h;⟨yJ (M6 h) λσ H Q ⟨J,env,sr,w⟩=>⟨J,env,sr,aF (aL w) λk wk J1 H1 e1=>wk J1 H1 e1⟩⟩
theorem ua {op}(h:QD X c a ga):QD X c (.BoolOp op [a] pos) ga:=have h:=h.h;⟨MT h⟩
theorem BW (h:QD X c a ga) (h':QD X c (.BoolOp .And (b::rest) pos) gb):QD X c (.BoolOp .And (a::b::rest) pos) (yz ga gb):=have h:=h.h;have h':=h'.h;⟨gj (MO h h') λσ H Q ⟨J,env,sr,w⟩=>by
 refine ⟨J,env,sr,aF (aL w) λr wr v J1 H1 e1 r1=>?_⟩
 split at wr
 ·cases r1
  exact ⟨true,rfl,L8 ⟨J1,env,sr.ext e1,aF wr λz q v J2 H2 e2 r2=>q v J2 H2 (e1.trans e2) (RR.from e1.h r2)⟩⟩
 ·cases r1
  exact ⟨false,rfl,L7 (wr _ J1 H1 e1 (.bl _))⟩
 ·exact wr.elim⟩
theorem Nc (h:QD X c a ga) (h':QD X c (.BoolOp .Or (b::rest) pos) gb):QD X c (.BoolOp .Or (a::b::rest) pos) (tX ga gb):=have h:=h.h;have h':=h'.h;⟨gj (Of h h') λσ H Q ⟨J,env,sr,w⟩=>by
 refine ⟨J,env,sr,aF (aL w) λr wr v J1 H1 e1 r1=>?_⟩
 split at wr
 ·cases r1
  exact ⟨false,rfl,L7 ⟨J1,env,sr.ext e1,aF wr λz q v J2 H2 e2 r2=>q v J2 H2 (e1.trans e2) (RR.from e1.h r2)⟩⟩
 ·cases r1
  exact ⟨true,rfl,L8 (wr _ J1 H1 e1 (.bl _))⟩
 ·exact wr.elim⟩
theorem KJ (h:QD X c a ga):QD X c (.UnaryOp .Not a pos) (Iw ga):=have h:=h.h;⟨gj (MS h) λσ H Q ⟨J,env,sr,w⟩=>by
 refine ⟨J,env,sr,aF (aL w) λr wr v J1 H1 e1 r1=>?_⟩
 split at wr
 ·cases r1
  exact ⟨_,rfl,wr _ J1 H1 e1 (.bl _)⟩
 ·exact wr.elim⟩
end
section
variable {X:Cx}{c:C}{e a b tg:TV}{es:List TV}{ga gb g:G R}{pos:Pos}{st:V0}{rest:List V0}{t u:G O}{tb:G Bool}
theorem bB:qi X c [] cS:=⟨Fo Ku λE σ H ⟨J,env,sr,w⟩=>w σ J H (aU.refl J) sr⟩
theorem av (h:iX X c st t) (h':qi X c rest u):qi X c (st::rest) (aI t u):=have h:=h.h;have h':=h'.h;⟨Fo (Hi h h') λE σ H ⟨J,env,sr,w⟩=>by
 refine ⟨J,env,sr,aF (aL w) λo wo=>?_⟩
 cases o with
 | nx e=>exact λσ' J' H' s' sr'=>⟨J',e,sr',aF wo λo q=>q.mono s'⟩
 | rt r=>exact wo
 | bk e=>exact wo
 | ct e=>exact wo⟩
theorem aA (h:iX X c st t):qi X c [st] t:=have h:=h.h;⟨Kv h⟩
theorem f6 (h:QD X c e g) (hs:Wl e none pos.line X.env=pure false:=by rfl):iX X c (.Expr e pos) (jt g):=have h:=h.h;⟨iK (rP h hs) λE σ H ⟨J,env,sr,w⟩=>
 ⟨J,env,sr,aF (aL w) λr wr v J1 H1 e1 r1=>wr σ J1 H1 e1.j (sr.ext e1)⟩⟩
theorem aN (h:QD X c e g):iX X c (.Return (some e) pos) (bq g):=have h:=h.h;⟨iK (M4 h) λE σ H ⟨J,env,sr,w⟩=>by
 refine ⟨J,env,sr,aF (aL w) λr wr v J1 H1 e1 r1=>?_⟩
 cases q:rF r with
 | bad=>rw [q] at wr;exact wr.elim
 | exc x=>cases r with
  | d _=>cases q
  | l m _=>cases m <;> cases q
  | mo _ _=>cases q
  | mb _ _=>cases q
  | mf _ _=>cases q
 | ok r'=>rw [q] at wr;exact wr v J1 H1 e1.j (sr.hp.ext e1) (RR.rf sr.hp r1 q)⟩
theorem bJ {x:TV}{as bs:List V0}(hx:QB X c x tb) (h:qi X c as t) (h':qi X c bs u):iX X c (.If x as bs pos) (bK tb t u):=have hx:=hx.h;have h:=h.h;have h':=h'.h;⟨iK (Oh hx h h') λE σ H ⟨J,env,sr,w⟩=>by
 refine ⟨J,env,sr,aF (aL w) λk wk J1 H1 e1=>?_⟩
 cases k with
 | true=>
  rw [if_pos rfl] at wk ⊢
  exact ⟨J1,env,sr.ext e1,aF wk λo q=>q.mono e1.j⟩
 | false=>
  rw [if_neg (by decide)] at wk ⊢
  exact ⟨J1,env,sr.ext e1,aF wk λo q=>q.mono e1.j⟩⟩
theorem aM (i:Nat){x:Str}{pos':Pos}(hN:X.N.Nodup) (h:QD X c e g) (hi:X.N[i]?=some x:=by rfl) (hx:Loc X.env.scope x:=by first | exact XW rfl | exact Wm rfl) (hs:Wl e (some (.Name x pos')) pos.line X.env=pure false:=by rfl)
  (hf:X.fn x=true\/X.env.scope.names.lookup x=some .local:=by first | exact .inl rfl | exact .inr rfl):iX X c (.Assign [.Name x pos'] e pos) (aZ i g):=have h:=h.h;⟨iK (M5 hN hi hx h hs hf) λE σ H ⟨J,env,sr,w⟩=>by
 refine ⟨J,env,sr,aF (aL w) λr wr v J1 H1 e1 r1=>?_⟩
 obtain ⟨x,q,wr⟩:=oh wr
 exact wr (σ.set i (some v)) J1 H1 e1.j (sr.set e1 r1 q)⟩
theorem aE (i:Nat){x:Str}(hN:X.N.Nodup) (hi:X.N[i]?=some x:=by rfl) (hx:Loc X.env.scope x:=by first | exact XW rfl | exact Wm rfl) (hf:X.fn x=true\/X.env.scope.names.lookup x=some .local:=by first | exact .inl rfl | exact .inr rfl):lG X c (.Name x pos) (aC i):=⟨
 IL (Kn hN hi hx hf) λv σ H Q ⟨J,env,d,sr,rd,w⟩=>w _ (sr.setD (x:=.d d) rd λx z=>by cases x <;> cases z) λj xs q=>by
  rcases gA q with ⟨_,_,e⟩ | ⟨hj,q⟩
  ·cases xs <;> cases e
  ·exact ⟨q,T6 (Vi hj)⟩⟩
theorem cC:Ck X c [] dM:=⟨Fd Ko λvs σ H Q ⟨J,env,ds,sr,rd,w⟩=>by
 cases rd with
 | nil=>exact ⟨rfl,w σ sr KO.refl⟩
 | cons _ _=>exact w.elim⟩
theorem aW {t:GT}{u:uh}(h:lG X c e t) (h':Ck X c es u) (hs:(V1 (e::es) X.env).map (·.2)=assign e X.env::(V1 es X.env).map (·.2):=by rfl):Ck X c (e::es) (bx t u):=have h:=h.h;have h':=h'.h;⟨
 Fd (Hf h h' hs) λvs σ H Q ⟨J,env,ds,sr,rd,w⟩=>by
  cases rd with
  | nil=>exact w.elim
  | cons r rs=>
   refine ⟨_,_,rfl,J,env,_,sr,r,aF (aL w) λe1 w1 σ' sr' ko=>?_⟩
   exact ⟨J,e1,_,sr',rs,aF w1 λe2 q σ2 sr2 ko2=>q σ2 sr2 (ko.trans ko2)⟩⟩
theorem cQ {k:Nat}{u:uh}{n:Nat}(h:Ck X c es u) (hc:X.calm=true:=by rfl) (hK:X.K=c.K:=by rfl) (hn:(V1 es X.env).length=n:=by rfl) (hst:(V1 es X.env).findIdx? (·.1)=none:=by rfl):lG X c (.Tuple es k pos) (dF n u):=have h:=h.h;⟨
 IL (MX hc h hn hst) λv σ H Q ⟨J,env,d,sr,rd,w⟩=>by
  cases rd with
  | tup h1 h2=>
   unfold dF at w
   simp only at w
   split at w
   ·rename_i hl
    exact ⟨_,_,rfl,by rw [hK];exact eO sr.hp.sub h1,by rw [<-h2.length];exact hl,J,env,_,sr,h2,w⟩
   ·exact w.elim
  | _=>exact w.elim⟩
theorem bI {Sw:TV}{body:List V0}{gi:G (List D)}{t:GT}(hi:zc X c tg Sw gi) (ht:lG X c tg t) (hb:qi X c body u) (hp:abq (Ti X.prog X.w) X.A X.env X.xe:=by first | exact abx | exact aaT) (hc:X.calm=true:=by rfl)
  (hs:∀x,Tc Sw X.env x=pure x:=by intro _;rfl):iX X c (.For tg Sw body [] pos) (b_ gi t u):=have hi:=hi.h;have ht:=ht.h;have hb:=hb.h;⟨iK (M3 hp hc hi ht hb hs) λE σ H ⟨J,env,sr,w⟩=>by
 refine ⟨J,env,sr,aF (aL w) λds wd It J1 H1 e1 wk=>?_⟩
 refine ⟨λi m σ H=>m=ds.length - i/\∃J' env,aU J1 J'/\SR c J' H σ env/\cI (fh t u (ds.drop i) env) (oP c J' E) c.T,
  ⟨ds.length,by simp,J1,env,aU.refl J1,sr.ext e1,by rw [abX];exact aF wd λo q=>q.mono e1.j⟩,?_⟩
 rintro i m σ H ⟨rfl,J',env,s',sr',w'⟩
 obtain ⟨w1,w2⟩:=wk i J' H sr'.hp s'
 by_cases hlt:i < ds.length
 ·obtain ⟨g1,y1⟩:=w2 ds[i] (by simp [hlt])
  rw [WT hlt] at w'
  refine .inr ⟨g1,λσ2 H2=>∃J2 env2,aU J' J2/\SR c J2 H2 σ2 env2/\cI (fh t u (ds.drop (i + 1)) env2) (oP c J2 E) c.T,?_,?_⟩
  ·rintro σ2 H2 ⟨J2,env2,s2,sr2,w2⟩
   exact ⟨ds.length - (i + 1),by omega,rfl,J2,env2,s'.trans s2,sr2,w2⟩
  ·intro x H2 hy
   obtain ⟨J2,e2,rx⟩:=y1 x H2 hy
   refine ⟨J2,env,ds[i],sr'.ext e2,rx,aF (aL w') λenv3 w3 σ3 sr3 _=>?_⟩
   refine ⟨J2,env3,sr3,aF (aL w3) λo wo=>?_⟩
   cases o with
   | nx env4=>exact λσ4 J4 H4 s4 sr4=>⟨J4,env4,e2.j.trans s4,sr4,aF wo λo q=>q.mono (e2.j.trans s4)⟩
   | ct env4=>exact λσ4 J4 H4 s4 sr4=>⟨J4,env4,e2.j.trans s4,sr4,aF wo λo q=>q.mono (e2.j.trans s4)⟩
   | bk env4=>exact λσ4 J4 H4 s4 sr4=>wo σ4 J4 H4 (e2.j.trans s4) sr4
   | rt r=>exact λv J4 H4 s4 h4 r4=>wo v J4 H4 (e2.j.trans s4) h4 r4
 ·rw [Zh (by omega)] at w'
  exact .inl ⟨w1 (by omega),w' σ J' H (aU.refl J') sr'⟩⟩
theorem bC {p:Pos}{gs:G (List R)}(ha:jj X c [a] gs) (hm:X.mg "range"=none) (hg:Gl X "range":=by rfl) (hs:SX [a] X.env=[(false,eval a X.env)]:=by rfl):zc X c tg (.Call (.Name "range" p) [a] [] pos) (b9 gs):=have ha:=ha.h;⟨
 rO (Ff hg hm ha hs) λσ H Q ⟨J,env,sr,w⟩=>by
  refine ⟨J,env,sr,aF (aL w) λrs wr vs J1 H1 e1 r1=>?_⟩
  split at wr
  ·split at wr
   ·rename_i h
    obtain ⟨v,rfl,r⟩:=r1.one
    cases r
    have h:=cW.mp h
    exact ⟨_,rfl,Int.le_of_lt h.1,h.2,wr _ J1 H1 e1 DG⟩
   ·exact wr.elim
  ·exact wr.elim⟩
theorem gY {gi:G (List D)}(h:zc X c tg e gi):ql X c tg e gi:=have h:=h.h;⟨rO h λσ H Q ⟨J,env,sr,w⟩=>
 ⟨J,env,sr,aF w λds q It J1 H1 e1 wk=>q It J1 H1 e1 λi J' H' hp u=>wk i J' H' hp u.1⟩⟩
end
section
variable {X:Cx}{c:C}{e a b tg:TV}{es:List TV}{ga gb g:G R}{pos:Pos}
theorem dw (i:Nat){x:Str}{p1 p2 pos':Pos}(h:QD X c e g) (hN:X.N[i]?=some x:=by rfl) (hv:sD X.env.scope x:=by first | exact XW rfl | exact Wm (XW rfl) | exact Wm (Wm rfl)) (hd:(x == ("__debug__":Str))=false:=by decide)
  (hcd:(x == ("__classdict__":Str))=false:=by decide)
  (hbase:Xc (.Name x p1) "append" X.env (eval (.Name x p1) X.env)=eval (.Name x p1) X.env:=by rfl)
  (hfew:((Vb pos' (SX [e] X.env)).all (λx=>!x.1) && (abm pos' (YX [] X.env)).all (λx=>x.1.isSome)
   && decide (([e]:List TV).length + ([]:List YY).length + (if ([]:List YY).isEmpty then 0 else 1) < 30))=true:=by rfl)
  (hline:(p2.endLine == pos'.line)=true:=by rfl) (hst:SX [e] X.env=(false,eval e X.env)::SX [] X.env:=by rfl) (hplain:(Vb pos' (SX [] X.env)).any (·.1)=false:=by rfl)
  (hs:Wl (.Call (.Attribute (.Name x p1) "append" p2) [e] [] pos') none pos.line X.env=pure false:=by rfl):iX X c (.Expr (.Call (.Attribute (.Name x p1) "append" p2) [e] [] pos') pos) (gK i g):=have h:=h.h;⟨
 iK (rP (yH Wg YJ YK qI (lO hN hv hd hcd) (eY h gX hst) hbase hfew hline hst hplain) hs) λE σ H ⟨J,env,sr,w⟩=>by
  unfold gK at w
  split at w
  ·rename_i xs hi
   obtain ⟨v,h1,a,vs,rfl,h2,h3,h4,h5⟩:=sr.at_ i _ hi
   refine ⟨.ref a,h1,.inl ⟨rfl,vs,cB.of h2⟩,?_⟩
   refine ⟨J,env,sr,aF (aL w) λr wr y J1 H1 e1 r1=>?_⟩
   obtain ⟨d,q,wr⟩:=jd wr
   obtain ⟨J2,e2,s2,rd⟩:=freeze e1 r1 q
   split at wr
   ·rename_i hz
    refine ⟨a,vs,y,rfl,rfl,e2.h _ _ h2,by rw [<-h5.length];exact hz,?_⟩
    refine wr σ J2 _ e2.j ?_
    exact (sr.ext e2).upd hi h1 (e2.h _ _ h2) (e2.frz a (by rw [h2];intro z;cases z) h3) h4 ((h5.mono e2.j).append (.cons rd .nil))
   ·exact wr.elim
  ·exact w.elim⟩
end
section
variable {X:Cx}{c:C}
theorem bT:kj X c [] dY:=⟨λSq s σ H Q I ⟨J,env,sr,w⟩=>wpAny_tests_nil ⟨H,I,w J H (Ext.refl sr.hp.sub)⟩⟩
theorem g9 {g:G Bool}(h:QB X c x g):kj X c [x] g:=have h:=h.h;⟨λSq s σ H Q I q=>wpAny_tests_one (h Sq s σ H Q I q)⟩
end
section
variable {K:SG}{J:Hp}{s:SJ}
variable {X:Cx}{c:C}{e a b tg:TV}{es:List TV}{ga gb g:G R}{pos:Pos}
theorem qO (hu:X.A.units + 64 < UL) (ha:QD X c a ga) (hb:QD X c b gb) (hK:X.K=c.K:=by rfl):QD X c (.Compare a [.Eq] [b] pos) (g2 (cj false) ga gb):=have ha:=ha.h;have hb:=hb.h;⟨nT (E6 hu) (Cu false hK) ha hb⟩
theorem fV (hu:X.A.units + 64 < UL) (ha:QD X c a ga) (hb:QD X c b gb) (hK:X.K=c.K:=by rfl):QB X c (.Compare a [.Eq] [b] pos) (br (g2 (cj false) ga gb)):=have ha:=ha.h;have hb:=hb.h;⟨jz (E6 hu) (Cu false hK) ha hb⟩
theorem kg (hu:X.A.units + 64 < UL) (ha:QD X c a ga) (hb:QD X c b gb) (hK:X.K=c.K:=by rfl):QB X c (.Compare a [.NotEq] [b] pos) (br (g2 (cj true) ga gb)):=have ha:=ha.h;have hb:=hb.h;⟨jz (MH hu) (Cu true hK) ha hb⟩
theorem lQ (hu:X.A.units + 64 < UL) (ha:QD X c a ga) (hb:QD X c b gb) (hK:X.K=c.K:=by rfl) (hm:UH .In b=false:=by rfl):QD X c (.Compare a [.In] [b] pos) (g2 (fk false) ga gb):=have ha:=ha.h;have hb:=hb.h;⟨nT (E7 hu) (Cv false hK) ha hb hm⟩
theorem M_ (hu:X.A.units + 64 < UL) (ha:QD X c a ga) (hb:QD X c b gb) (hK:X.K=c.K:=by rfl) (hm:UH .In b=false:=by rfl):QB X c (.Compare a [.In] [b] pos) (br (g2 (fk false) ga gb)):=have ha:=ha.h;have hb:=hb.h;⟨jz (E7 hu) (Cv false hK) ha hb hm⟩
theorem xH (hu:X.A.units + 64 < UL) (ha:QD X c a ga) (hb:QD X c b gb) (hK:X.K=c.K:=by rfl) (hm:UH .NotIn b=false:=by rfl):QB X c (.Compare a [.NotIn] [b] pos) (br (g2 (fk true) ga gb)):=have ha:=ha.h;have hb:=hb.h;⟨jz (E9 hu) (Cv true hK) ha hb hm⟩
end
section
variable {X:Cx}{c:C}{e a b tg:TV}{es:List TV}{ga gb g:G R}{pos:Pos}
theorem eV:A8 X c none pN:=⟨IM Kr λσ H Q ⟨J,env,sr,w⟩=>w J H (Ext.refl sr.hp.sub)⟩
theorem eX (h:QD X c e g):A8 X c (some e) (mJ g):=have h:=h.h;⟨IM (Ks h) λσ H Q ⟨J,env,sr,w⟩=>by
 refine ⟨J,env,sr,aF (aL w) λr wr v J1 H1 e1 r1=>?_⟩
 split at wr
 ·cases r1;exact ⟨_,rfl,wr J1 H1 e1⟩
 ·exact wr.elim⟩
theorem vj {p:Pos}{gs:G (List R)}(ha:jj X c (e::es) gs) (hm:X.mg "sorted"=none) (hK:X.K=c.K:=by rfl) (hg:Gl X "sorted":=by rfl)
  (he:SX (e::es) X.env=(false,eval e X.env)::SX es X.env:=by rfl) (hpl:(Vb pos (SX es X.env)).any (·.1)=false:=by rfl):QD X c (.Call (.Name "sorted" p) (e::es) [] pos) (gN kY gs):=have ha:=ha.h;⟨
 jQ zw (by
  intro He J H xs vs Q hp rs w
  unfold kY at w
  split at w
  ·obtain ⟨v,rfl,r⟩:=rs.one
   obtain ⟨xs,q,w⟩:=wJ w
   obtain ⟨p,vs,rfl,h1,h2⟩:=RR.list hp r q
   split at w
   ·rename_i ss z
    split at w
    ·rename_i hl
     have:=vE z h2
     subst this
     refine ⟨p,ss,rfl,by rw [hK];exact h1,hl,λss' hp' hs' l hl'=>?_⟩
     rw [Dy hp' hs']
     exact w _ _ _ (Ext.new hp.sub hl' _) (g_ hp hl' (xP _))
    ·exact w.elim
   ·exact w.elim
  ·exact w.elim) jo hm ha hg (by decide) (by decide) he hpl⟩
theorem g8 (ha:QD X c a ga) (hb:QD X c b gb):QD X c (.BinOp a .Add b pos) (g2 iJ ga gb):=by
 have ha:=ha.h
 have hb:=hb.h
 refine ⟨?_⟩
 have h1:BD c (sS λi j=>.int (i + j)) vY:=kI λ_ _ _=>.int _
 have q:=mR (pos:=pos) (E3.or (vd.or E4)) (BD.or (c:=c) (λx _=>EL x) h1 (BD.or (c:=c) (λx _=>L5 x) (f:=uL) (f':=uM) (by
  intro He He' J H x y u v Q hp rx ry w
  unfold uL at w
  split at w
  ·cases rx;cases ry
   split at w
   ·rename_i h;exact ⟨_,_,rfl,rfl,h,w _ J H (Ext.refl hp.sub) (.str _)⟩
   ·exact w.elim
  ·exact w.elim) (by
  intro He He' J H x y u v Q hp rx ry w
  unfold uM at w
  split at w
  ·rename_i hm
   rw [SN] at hm
   obtain ⟨p,vs,xs,e1,rfl,h1,s1⟩:=rx.made hm.1
   obtain ⟨p2,vs2,ys,e2,rfl,h2,s2⟩:=ry.made hm.2
   rw [e1,e2] at w
   simp only [aO] at w
   split at w
   ·rename_i hz
    rw [s1.length,s2.length] at hz
    exact ⟨p,p2,vs,vs2,rfl,rfl,h1,h2,hz,λq hq=>w _ J _ (Ext.new hp.sub hq _) (g_ hp hq (s1.append s2))⟩
   ·exact w.elim
  ·exact w.elim))) ha hb
 exact q
theorem eU (ha:QD X c a ga) (hb:QD X c b gb):QD X c (.BinOp a .Mult b pos) (g2 gy ga gb):=by
 have ha:=ha.h
 have hb:=hb.h
 refine ⟨?_⟩
 have h1:BD c (rI Cd λi j=>.int (i * j)) LR:=zh (λi j h=>JM h) λ_ _ _=>.int _
 exact mR (pos:=pos) (MG.or J_) (BD.or (c:=c) (λx _=>EL x) h1 (f':=CK) (by
  intro He He' J H x y u v Q hp rx ry w
  unfold CK at w
  split at w
  ·cases rx;cases ry
   split at w
   ·rename_i h;exact ⟨_,_,rfl,rfl,h.1,h.2.1,h.2.2,w _ J H (Ext.refl hp.sub) (.str _)⟩
   ·exact w.elim
  ·exact w.elim)) ha hb
theorem aG (ha:QD X c a ga) (hb:QD X c b gb) (hK:X.K=c.K:=by rfl) (hs:rC b:=by exact λ_ _=>rfl):QD X c (.Subscript a b pos) (g2 aX ga gb):=have ha:=ha.h;have hb:=hb.h;⟨IJ Mb (by
 intro He He' J H x y u v Q hp rx ry w
 rw [hK]
 unfold aX at w
 split at w
 ·cases rx;cases ry
  split at w
  ·rename_i h
   split at w
   ·rename_i k hk;exact .inr (.inr ⟨_,_,k,rfl,rfl,h,hk,w _ J H (Ext.refl hp.sub) (.str _)⟩)
   ·exact w.elim
  ·exact w.elim
 ·cases ry
  obtain ⟨xs,q,w⟩:=jc w
  obtain ⟨p,vs,rfl,hl,hs⟩:=kW hp rx q
  split at w
  ·rename_i d hd
   obtain ⟨z,h1,h2⟩:=KQ hs hd
   have fin:=w z J H (Ext.refl hp.sub) h2
   rcases hl with hl | hl
   ·exact .inl ⟨p,vs,_,z,rfl,rfl,hl,h1,fin⟩
   ·exact .inr (.inl ⟨p,vs,_,z,rfl,rfl,hl,h1,fin⟩)
  ·exact w.elim
 ·exact w.elim) ha hb hs⟩
theorem aT {F:List S->M R}{gs:G (List R)}(G:bw X.prog X.w X.K X.mg X.base k n x F) (hr:dW k' X.A) (ha:jj X c (e::es) gs) (hk:k<=k':=by decide) (hT:c.K=X.K:=by rfl) (hg:Gl X x:=by rfl) (hdb:(x == ("__debug__":Str))=false:=by decide)
 (he:SX (e::es) X.env=(false,eval e X.env)::SX es X.env:=by rfl) (hpl:(Vb pos (SX es X.env)).any (·.1)=false:=by rfl):QD X c (.Call (.Name x p) (e::es) [] pos) (gN (aS n F) gs):=by
 have ha:=ha.h
 refine ⟨?_⟩
 obtain ⟨f,fd,ps,h1,h2,h3,h4⟩:=G
 exact Kf h1 (hr.mono hk) h2 h3 h4 ha hT hg hdb he hpl
theorem t_ (h:QD X c e g) (ht:lG X c tg t) (hs:W8 [tg] e pos.line X.env=pure false:=by rfl) (hw:aaf [tg] e X.env=pure none:=by rfl)
 (h1:(V1 [tg] X.env).map (·.2)=[assign tg X.env]:=by rfl):iX X c (.Assign [tg] e pos) (tV t g):=have h:=h.h;have ht:=ht.h;⟨Kd h ht (Fl h ht hs hw h1)⟩
theorem jA {T:String}{Ts:Str}{p p2:Pos}(kit:DO T) (hT:Ue Ts=some (.type T)) (mT:X.mg Ts=none)
  (h:QD X c a g) (hm:X.mg "isinstance"=none) (hK:X.K=c.K:=by rfl) (hg:Gl X "isinstance":=by rfl) (RZ:Gl X Ts:=by rfl) (hn:Ts≠"__name__":=by decide) (RW:(Ts == ("__debug__":Str))=false:=by decide)
  (he:SX [a,.Name Ts p2] X.env=(false,eval a X.env)::SX [.Name Ts p2] X.env:=by rfl) (QT:SX [.Name Ts p2] X.env=(false,eval (.Name Ts p2) X.env)::SX [] X.env:=by rfl)
  (hpl:(Vb pos (SX [.Name Ts p2] X.env)).any (·.1)=false:=by rfl):QD X c (.Call (.Name "isinstance" p) [a,.Name Ts p2] [] pos) (By T g):=have h:=h.h;⟨
 gj (o6 (AS kit) hg hm (by decide +kernel) (eY h (eY (Kl RZ mT hT (v:=.ty T) rfl hn RW) gX QT) he) (by decide) (by decide) he hpl) λσ H Q ⟨J,env,sr,w⟩=>by
  refine ⟨J,env,sr,aF (aL w) λr wr v J1 H1 e1 r1=>?_⟩
  exact ⟨r.dat,v,rfl,by rw [hK];exact r1.dat (sr.hp.ext e1),wr _ J1 H1 e1 (.bl _)⟩⟩
theorem BV {p:Pos}{gs:G (List R)}(ha:jj X c (e::es) gs) (hm:X.mg "all"=none) (hK:X.K=c.K:=by rfl) (hc:X.calm=true:=by rfl) (hg:Gl X "all":=by rfl)
  (he:SX (e::es) X.env=(false,eval e X.env)::SX es X.env:=by rfl) (hpl:(Vb pos (SX es X.env)).any (·.1)=false:=by rfl):QD X c (.Call (.Name "all" p) (e::es) [] pos) (gN tP gs):=have ha:=ha.h;⟨
 jQ (D8 hc) (by
  intro He J H xs vs Q hp rs w
  unfold tP at w
  split at w
  ·obtain ⟨v,rfl,r⟩:=rs.one
   obtain ⟨xs,q,w⟩:=wJ w
   obtain ⟨p,vs,rfl,h1,h2⟩:=RR.list hp r q
   split at w
   ·rename_i ks z
    have:=w5 z h2
    subst this
    exact ⟨p,ks,rfl,by rw [hK];exact h1,w _ J H (Ext.refl hp.sub) (.bl _)⟩
   ·exact w.elim
  ·exact w.elim) D0 hm ha hg (by decide) (by decide) he hpl⟩
theorem KI {p:Pos}{gs:G (List R)}(ha:jj X c (e::es) gs) (hm:X.mg "max"=none) (hc:X.calm=true:=by rfl) (hg:Gl X "max":=by rfl)
  (he:SX (e::es) X.env=(false,eval e X.env)::SX es X.env:=by rfl) (hpl:(Vb pos (SX es X.env)).any (·.1)=false:=by rfl):QD X c (.Call (.Name "max" p) (e::es) [] pos) (gN CJ gs):=have ha:=ha.h;⟨
 jQ (D_ hc) (by
  intro He J H xs vs Q hp rs w
  unfold CJ at w
  split at w
  ·obtain ⟨v,v',rfl,r,r'⟩:=rs.two
   cases r;cases r'
   exact ⟨_,_,rfl,w _ J H (Ext.refl hp.sub) (.int _)⟩
  ·exact w.elim) (by decide +kernel) hm ha hg (by decide) (by decide) he hpl⟩
theorem cF (ha:QD X c a ga) (hb:QD X c b gb) (hK:X.K=c.K:=by rfl):QD X c (.BinOp a .Add b pos) (g2 cg ga gb):=by
 have ha:=ha.h
 have hb:=hb.h
 refine ⟨?_⟩
 have h1:BD c (sS λi j=>.int (i + j)) vY:=kI λ_ _ _=>.int _
 exact mR (pos:=pos) (E5.or (E3.or (vd.or E4))) (BD.or (c:=c) (λx _=>L6 x) (Jk hK) (BD.or (c:=c) (λx _=>EL x) h1 (BD.or (c:=c) (λx _=>L5 x) (f:=uL) (f':=uM) (by
  intro He He' J H x y u v Q hp rx ry w
  unfold uL at w
  split at w
  ·cases rx;cases ry
   split at w
   ·rename_i h;exact ⟨_,_,rfl,rfl,h,w _ J H (Ext.refl hp.sub) (.str _)⟩
   ·exact w.elim
  ·exact w.elim) (by
  intro He He' J H x y u v Q hp rx ry w
  unfold uM at w
  split at w
  ·rename_i hm
   rw [SN] at hm
   obtain ⟨p,vs,xs,e1,rfl,h1,s1⟩:=rx.made hm.1
   obtain ⟨p2,vs2,ys,e2,rfl,h2,s2⟩:=ry.made hm.2
   rw [e1,e2] at w
   simp only [aO] at w
   split at w
   ·rename_i hz
    rw [s1.length,s2.length] at hz
    exact ⟨p,p2,vs,vs2,rfl,rfl,h1,h2,hz,λq hq=>w _ J _ (Ext.new hp.sub hq _) (g_ hp hq (s1.append s2))⟩
   ·exact w.elim
  ·exact w.elim)))) ha hb
theorem nV {lo hi:Option TV}{gl gh:GO}{p2:Pos}(h:QD X c e g) (hl:A8 X c lo gl) (hh:A8 X c hi gh) (hK:X.K=c.K:=by rfl):QD X c (.Subscript e (.Slice lo hi none p2) pos) (kF oJ g gl gh):=have h:=h.h;have hl:=hl.h;have hh:=hh.h;⟨IK (FJ.or KW) (by
 intro He J H x v l u Q hp rx w
 unfold oJ at w
 split at w
 ·exact .inl (Py hK He J H x v l u Q hp rx w)
 ·obtain ⟨xs,q,w⟩:=wJ w
  obtain ⟨p,vs,rfl,h1,h2⟩:=rx.list hp q
  exact .inr ⟨p,vs,rfl,by rw [hK];exact h1,λp' hp'=>w _ _ _ (Ext.new hp.sub hp' _) (g_ hp hp' (h2.cut l u))⟩) h hl hh⟩
theorem i_ (h:Ci X.K X.mg x d) (hK:X.K=c.K:=by rfl) (hg:Gl X x:=by rfl) (hd:(x == ("__debug__":Str))=false:=by decide):QD X c (.Name x pos) (gC d):=by
 refine ⟨?_⟩
 obtain ⟨u,v,h1,h2,h3⟩:=h
 exact Kg h1 h2 (λJ=>hK▸h3 J) hg hd
end
section
variable {X:Cx}{c:C}{e a b tg:TV}{es:List TV}{ga gb g:G R}{pos:Pos}{st:V0}{t u:G O}{tb:G Bool}
theorem o9:iX X c st yD:=⟨λSq s σ H D I ⟨J,env,sr,w⟩=>w.elim⟩
theorem BY (h:QD X c a g):QD X c (.UnaryOp .USub a pos) (v_ g):=have h:=h.h;⟨gj (Og NN h) λσ H Q ⟨J,env,sr,w⟩=>by
 refine ⟨J,env,sr,aF (aL w) λr wr v J1 H1 e1 r1=>?_⟩
 split at wr
 ·cases r1
  exact ⟨_,rfl,wr _ J1 H1 e1 (.int _)⟩
 ·exact wr.elim⟩
theorem wH (h:QD X c e g) (hK:X.K=c.K:=by rfl) (he:∀whole,ZY e X.env whole=(do let v <-whole;Wb e.pos;holding [v] (truthy v)):=by intro _;rfl):QB X c e (we g):=have h:=h.h;⟨yJ (Hj h he) λσ H Q ⟨J,env,sr,w⟩=>by
 refine ⟨J,env,sr,aF (aL w) λr wr v J1 H1 e1 r1=>?_⟩
 rw [hK]
 obtain ⟨k,k1,k2⟩:=K7 (sr.hp.ext e1) r1 wr
 exact ⟨k,k1,k2 J1 H1 e1⟩⟩
theorem Dn (n:Nat){body:List V0}(ht:QB X c e tb) (hb:qi X c body u) (hp:abq (Ti X.prog X.w) X.A X.env X.xe:=by first | exact abx | exact aaT):iX X c (.While e body [] pos) (uR n tb u):=have ht:=ht.h;have hb:=hb.h;⟨iK (Hh hp ht hb) λE σ H ⟨J,env,sr,w⟩=>by
 refine ⟨λm σ H=>∃J' env,aU J J'/\SR c J' H σ env/\cI (lW tb u m env) (oP c J' E) c.T,⟨n,J,env,aU.refl J,sr,w⟩,?_⟩
 rintro m σ H ⟨J',env,s',sr',w'⟩
 cases m with
 | zero=>exact w'.elim
 | succ m=>
  refine ⟨J',env,sr',aF (aL w') λk wk J1 H1 e1=>?_⟩
  cases k with
  | false=>
   rw [if_neg (by decide)] at wk ⊢
   exact wk σ J1 H1 e1.j (sr'.ext e1)
  | true=>
   rw [if_pos rfl] at wk ⊢
   refine ⟨λσ2 H2=>∃J2 env2,aU J1 J2/\SR c J2 H2 σ2 env2/\cI (lW tb u m env2) (oP c J2 E) c.T,?_,?_⟩
   ·rintro σ2 H2 ⟨J2,env2,s2,sr2,w2⟩
    exact ⟨m,UW m,J2,env2,(s'.trans e1.j).trans s2,sr2,w2⟩
   ·refine ⟨J1,env,sr'.ext e1,aF (aL wk) λo wo=>?_⟩
    cases o with
    | nx env4=>exact λσ4 J4 H4 s4 sr4=>⟨J4,env4,s4,sr4,aF wo λo q=>q.mono (e1.j.trans s4)⟩
    | ct env4=>exact λσ4 J4 H4 s4 sr4=>⟨J4,env4,s4,sr4,aF wo λo q=>q.mono (e1.j.trans s4)⟩
    | bk env4=>exact λσ4 J4 H4 s4 sr4=>wo σ4 J4 H4 (e1.j.trans s4) sr4
    | rt r=>exact λv J4 H4 s4 h4 r4=>wo v J4 H4 (e1.j.trans s4) h4 r4⟩
theorem AW (i j:Nat){x y:Str}{p1 p2 pos' q1 q2 q3:Pos}(h:QD X c e g) (hi:X.N[i]?=some x:=by rfl) (Se:sD X.env.scope x:=by first | exact XW rfl | exact Wm (XW rfl) | exact Wm (Wm rfl)) (hdx:(x == ("__debug__":Str))=false:=by decide) (RU:(x == ("__classdict__":Str))=false:=by decide)
  (hj:X.N[j]?=some y:=by rfl) (Sf:sD X.env.scope y:=by first | exact XW rfl | exact Wm (XW rfl) | exact Wm (Wm rfl)) (Rj:(y == ("__debug__":Str))=false:=by decide) (RV:(y == ("__classdict__":Str))=false:=by decide)
  (hbase:Xc (.Name x p1) "append" X.env (eval (.Name x p1) X.env)=eval (.Name x p1) X.env:=by rfl)
  (hfew:((Vb pos' (SX [.Call (.Attribute (.Name y q1) "pop" q2) [e] [] q3] X.env)).all (λx=>!x.1) && (abm pos' (YX [] X.env)).all (λx=>x.1.isSome)
   && decide (([.Call (.Attribute (.Name y q1) "pop" q2) [e] [] q3]:List TV).length + ([]:List YY).length + (if ([]:List YY).isEmpty then 0 else 1) < 30))=true:=by rfl)
  (hline:(p2.endLine == pos'.line)=true:=by rfl)
  (hst:SX [.Call (.Attribute (.Name y q1) "pop" q2) [e] [] q3] X.env=(false,eval (.Call (.Attribute (.Name y q1) "pop" q2) [e] [] q3) X.env)::SX [] X.env:=by rfl) (hplain:(Vb pos' (SX [] X.env)).any (·.1)=false:=by rfl)
  (QN:Xc (.Name y q1) "pop" X.env (eval (.Name y q1) X.env)=eval (.Name y q1) X.env:=by rfl)
  (Q5:((Vb q3 (SX [e] X.env)).all (λx=>!x.1) && (abm q3 (YX [] X.env)).all (λx=>x.1.isSome)
   && decide (([e]:List TV).length + ([]:List YY).length + (if ([]:List YY).isEmpty then 0 else 1) < 30))=true:=by rfl)
  (QV:(q2.endLine == q3.line)=true:=by rfl) (Q8:SX [e] X.env=(false,eval e X.env)::SX [] X.env:=by rfl) (QK:(Vb q3 (SX [] X.env)).any (·.1)=false:=by rfl)
  (hs:Wl (.Call (.Attribute (.Name x p1) "append" p2) [.Call (.Attribute (.Name y q1) "pop" q2) [e] [] q3] [] pos') none pos.line X.env=pure false:=by rfl):iX X c (.Expr (.Call (.Attribute (.Name x p1) "append" p2) [.Call (.Attribute (.Name y q1) "pop" q2) [e] [] q3] [] pos') pos) (nI i j g):=have h:=h.h;⟨
 iK (rP (yH Wg YJ YK qI (lO hi Se hdx RU) (eY (yH Wg PySem.F.slot_list_pop PySem.F.type_list_pop GQ (lO hj Sf Rj RV) (eY h gX Q8) QN Q5 QV Q8 QK) gX hst) hbase hfew hline hst hplain) hs) λE σ H ⟨J,env,sr,w⟩=>by
  unfold nI at w
  split at w
  ·rename_i zs xs Rl Ro
   split at w
   ·exact w.elim
   ·rename_i hij
    obtain ⟨_,k1,p,us,rfl,k2,k3,k4,k5⟩:=sr.at_ i _ Rl
    obtain ⟨_,l1,q,vs,rfl,l2,l3,l4,l5⟩:=sr.at_ j _ Ro
    refine ⟨.ref p,k1,.inl ⟨rfl,us,cB.of k2⟩,?_⟩
    refine ⟨.ref q,l1,.inl ⟨rfl,vs,cB.of l2⟩,?_⟩
    refine ⟨J,env,sr,aF (aL w) λr wr v J1 H1 e1 r1=>?_⟩
    split at wr
    ·rename_i k
     cases r1
     split at wr
     ·rename_i hk
      split at wr
      ·rename_i d hd
       obtain ⟨z,hz,rz⟩:=l5.get hd
       have m2:=e1.h _ _ l2
       have n2:=e1.h _ _ k2
       have hpq:q≠p:=λzz=>MN sr hij Rl Ro k1 l1 zz.symm
       refine ⟨q,vs,k,k.toNat,z,rfl,rfl,m2,by omega,?_,Ov hk.1 (by rw [<-l5.length];exact hk.2.1),hz,?_⟩
       ·have z1:=hk.2.1
        have z2:=hk.2.2.2
        have z3:sizeLine=16777216:=UB
        omega
       ·refine ⟨p,us,z,rfl,rfl,by rw [bu (Vi hpq)];exact n2,by rw [<-k5.length];exact hk.2.2.1,?_⟩
        have sr1:=sr.ext e1
        have J1p:J1 p=none:=e1.frz p (by rw [k2];intro z;cases z) k3
        have J1q:J1 q=none:=e1.frz q (by rw [l2];intro z;cases z) l3
        have sr2:=sr1.upd (xs':=xs.eraseIdx k.toNat) (vs':=vs.eraseIdx k.toNat) Ro l1 m2 J1q l4 ((l5.mono e1.j).eraseIdx _)
        have Rm:(env.set j (some (.own (xs.eraseIdx k.toNat))))[i]?=some (some (.own zs)):=by rw [T6 (Vi hij)];exact Rl
        have sr3:=sr2.upd (xs':=zs++[d]) (vs':=us++[z]) Rm k1 (by rw [bu (Vi hpq)];exact n2) J1p k4 ((k5.mono e1.j).append (.cons (rz.mono e1.j) .nil))
        exact wr σ J1 _ e1.j sr3
      ·exact wr.elim
     ·exact wr.elim
    ·exact wr.elim
  ·exact w.elim⟩
end
section
variable {X:Cx}{c:C}{e a b tg:TV}{es:List TV}{ga gb g:G R}{pos:Pos}
theorem sR (i:Nat){x:Str}{p1 p2 pos':Pos}(h:QD X c e g) (hN:X.N[i]?=some x:=by rfl) (hv:sD X.env.scope x:=by first | exact XW rfl | exact Wm (XW rfl) | exact Wm (Wm rfl)) (hd:(x == ("__debug__":Str))=false:=by decide)
  (hcd:(x == ("__classdict__":Str))=false:=by decide)
  (hbase:Xc (.Name x p1) "extend" X.env (eval (.Name x p1) X.env)=eval (.Name x p1) X.env:=by rfl)
  (hfew:((Vb pos' (SX [e] X.env)).all (λx=>!x.1) && (abm pos' (YX [] X.env)).all (λx=>x.1.isSome)
   && decide (([e]:List TV).length + ([]:List YY).length + (if ([]:List YY).isEmpty then 0 else 1) < 30))=true:=by rfl)
  (hline:(p2.endLine == pos'.line)=true:=by rfl) (hst:SX [e] X.env=(false,eval e X.env)::SX [] X.env:=by rfl) (hplain:(Vb pos' (SX [] X.env)).any (·.1)=false:=by rfl)
  (hs:Wl (.Call (.Attribute (.Name x p1) "extend" p2) [e] [] pos') none pos.line X.env=pure false:=by rfl) (hK:X.K=c.K:=by rfl):iX X c (.Expr (.Call (.Attribute (.Name x p1) "extend" p2) [e] [] pos') pos) (v7 i g):=have h:=h.h;⟨
 iK (rP (yH Wg PySem.F.slot_list_extend PySem.F.type_list_extend My (lO hN hv hd hcd) (eY h gX hst) hbase hfew hline hst hplain) hs) λE σ H ⟨J,env,sr,w⟩=>by
  unfold v7 at w
  split at w
  ·rename_i xs hi
   obtain ⟨v,h1,a,vs,rfl,h2,h3,h4,h5⟩:=sr.at_ i _ hi
   refine ⟨.ref a,h1,.inl ⟨rfl,vs,cB.of h2⟩,?_⟩
   refine ⟨J,env,sr,aF (aL w) λr wr y J1 H1 e1 r1=>?_⟩
   obtain ⟨ys,q,wr⟩:=jc wr
   split at wr
   ·rename_i hz
    obtain ⟨p,ws,rfl,hq,hs⟩:=kW (sr.hp.ext e1) r1 q
    refine ⟨a,p,vs,ws,rfl,rfl,e1.h _ _ h2,by rw [hK];exact hq,by rw [<-h5.length,<-hs.length];exact hz,?_⟩
    refine wr σ J1 _ e1.j ?_
    exact (sr.ext e1).upd hi h1 (e1.h _ _ h2) (e1.frz a (by rw [h2];intro z;cases z) h3) h4 ((h5.mono e1.j).append hs)
   ·exact wr.elim
  ·exact w.elim⟩
theorem Nb (ha:QD X c a ga) (hb:QD X c b gb):QD X c (.Compare a [.Is] [b] pos) (g2 (iI false) ga gb):=have ha:=ha.h;have hb:=hb.h;⟨nT E8 (by
 intro He He' J H x y u v Q hp rx ry w
 unfold iI at w
 split at w
 ·rename_i o ho
  refine ⟨o,by rw [i8 ry];exact ho,?_⟩
  rw [i8 rx]
  exact w _ J H (Ext.refl hp.sub) (.bl _)
 ·exact w.elim) ha hb⟩
theorem Ft (ha:QD X c a ga) (hb:QD X c b gb):QD X c (.Compare a [.IsNot] [b] pos) (g2 (iI true) ga gb):=have ha:=ha.h;have hb:=hb.h;⟨nT xD (by
 intro He He' J H x y u v Q hp rx ry w
 unfold iI at w
 split at w
 ·rename_i o ho
  refine ⟨o,by rw [i8 ry];exact ho,?_⟩
  rw [i8 rx]
  exact w _ J H (Ext.refl hp.sub) (.bl _)
 ·exact w.elim) ha hb⟩
theorem Fp (ha:QD X c a ga) (hb:QD X c b gb):QB X c (.Compare a [.Is] [b] pos) (br (g2 (iI false) ga gb)):=have ha:=ha.h;have hb:=hb.h;⟨jz E8 (by
 intro He He' J H x y u v Q hp rx ry w
 unfold iI at w
 split at w
 ·rename_i o ho
  refine ⟨o,by rw [i8 ry];exact ho,?_⟩
  rw [i8 rx]
  exact w _ J H (Ext.refl hp.sub) (.bl _)
 ·exact w.elim) ha hb⟩
theorem xG (ha:QD X c a ga) (hb:QD X c b gb):QB X c (.Compare a [.IsNot] [b] pos) (br (g2 (iI true) ga gb)):=have ha:=ha.h;have hb:=hb.h;⟨jz xD (by
 intro He He' J H x y u v Q hp rx ry w
 unfold iI at w
 split at w
 ·rename_i o ho
  refine ⟨o,by rw [i8 ry];exact ho,?_⟩
  rw [i8 rx]
  exact w _ J H (Ext.refl hp.sub) (.bl _)
 ·exact w.elim) ha hb⟩
end
section
variable {X:Cx}{c:C}{e a b d tg:TV}{es:List TV}{ga gb g:G R}{pos:Pos}
theorem cJ (h:QD X c e g) (hK:X.K=c.K:=by rfl):zc X c tg e (fm g):=have h:=h.h;⟨rO (Fe h) λσ H Q ⟨J,env,sr,w⟩=>by
 refine ⟨J,env,sr,aF (aL w) λr wr v J1 H1 e1 r1=>?_⟩
 rw [hK]
 split at wr
 ·cases r1 with
  | tup h1 h2=>exact ⟨_,rfl,.inr ⟨⟨_,eO e1.sub h1⟩,wr _ J1 H1 e1 (yd (λJ H u=>u) h1 h2)⟩⟩
 ·cases r1 with
  | lst h1 h2=>exact ⟨_,rfl,.inl ⟨⟨_,e1.sub.seq h1⟩,wr _ J1 H1 e1 (rA (.inl h1) h2)⟩⟩
 ·obtain ⟨J2,e2,s2,rd⟩:=freeze e1 r1 rfl
  cases rd with
  | lst h1 h2=>exact ⟨_,rfl,.inl ⟨⟨_,e2.sub.seq h1⟩,wr _ J2 H1 e2 (rA (.inl h1) h2)⟩⟩
 ·obtain ⟨a,vs,rfl,h1,h2⟩:=r1
  exact ⟨_,rfl,.inl ⟨⟨_,(sr.hp.ext e1).ent.seq h1⟩,wr _ J1 H1 e1 (rA (.inr h1) h2)⟩⟩
 ·exact wr.elim⟩
theorem ff (h:QD X c e g) (hK:X.K=c.K:=by rfl):ql X c tg e (kq g):=have h:=h.h;⟨rO (Fe h) λσ H Q ⟨J,env,sr,w⟩=>by
 refine ⟨J,env,sr,aF (aL w) λr wr v J1 H1 e1 r1=>?_⟩
 rw [hK]
 have lst:∀{xs:List D},mz r=.ok xs->(∀It J1' H1',Ext J H J1' H1'->Walk c It xs J1' (λJ' H'=>aU J1' J'/\aU H1' H')->Q It H1')->∃a,v=.ref a/\(((∃xs,cB c.K H1 a xs)/\Q (HZ c.K a) H1)\/((∃xs,cL c.K H1 a xs)/\Q (Ia c.K a) H1)):=fun {xs} q wr=>by
  obtain ⟨a,vs,rfl,h1,h2⟩:=RR.list (sr.hp.ext e1) r1 q
  refine ⟨a,rfl,.inl ⟨⟨_,h1⟩,wr _ J1 H1 e1 λi J' H' hp u=>?_⟩⟩
  have h':=u.2.seq h1
  refine ⟨λhl=>⟨vs,h',by rw [<-h2.length];exact hl⟩,λd hd=>?_⟩
  obtain ⟨v,k1,k2⟩:=h2.get hd
  refine ⟨⟨vs,v,h',k1⟩,λx H2 ⟨e,hy⟩=>?_⟩
  subst e
  have:=hy vs h'
  rw [k1] at this
  cases this
  exact ⟨J',Ext.refl hp.sub,k2.mono u.1⟩
 cases r with
 | d y=>
  cases y with
  | tup xs=>
   cases r1 with
   | tup h1 h2=>exact ⟨_,rfl,.inr ⟨⟨_,eO e1.sub h1⟩,wr _ J1 H1 e1 (yd (λJ H u=>u.1) h1 h2)⟩⟩
  | lst xs=>exact lst rfl wr
  | _=>exact wr.elim
 | l m xs=>exact lst rfl wr
 | mo _ _=>exact wr.elim
 | mb _ _=>exact wr.elim
 | mf _ _=>exact wr.elim⟩
end
section
variable {X:Cx}{c:C}{st:V0}{g:G O}
theorem gZ (i:Nat) (h:iX X c st g):iX X c st (fJ i g):=have h:=h.h;⟨λSq s σ H D I ⟨J,env,sr,w⟩=>by
 unfold fJ at w
 split at w
 ·rename_i xs hi
  obtain ⟨v,h1,a,vs,rfl,h2,h3,h4,h5⟩:=sr.at_ i _ hi
  obtain ⟨J',s1,sr'⟩:=sr.frz (x:=.inl xs) hi h1 h2 h3 h4 (.lst (.inl (.inl bR)) (h5.mono (cK h3 _)))
  exact h Sq s σ H D I ⟨J',_,sr',aF w λo q=>q.mono s1⟩
 ·rename_i ks vs hi
  obtain ⟨v,h1,a,rfl,⟨us,ws,ep,h2,m1,m2,m3,m4⟩,h3,h4⟩:=sr.at_ i _ hi
  obtain ⟨J',s1,sr'⟩:=sr.frz (x:=.inr (ks,vs)) hi h1 h2 h3 h4 (.dct bR (m1.mono (cK h3 _)) (m2.mono (cK h3 _)) m3 m4)
  exact h Sq s σ H D I ⟨J',_,sr',aF w λo q=>q.mono s1⟩
 ·exact h Sq s σ H D I ⟨J,env,sr,w⟩⟩
end
section
variable {X:Cx}{c:C}
theorem BU {P:S_}{w:TL}{K:SG}{mg:Str->Option SI}{base:Uz}{x Sx:Str}{st:V0}{f:Tg}{fd:TM}{N ps:List Str}{k:Nat}{Fm:List S->M R}(F:l_ K x Sx st f fd) (hm:mg x=some (.ref f)) (Sc:gF N ps (bA st))
  (hbi:∀(kV doc pm:SI) (an:Option Tg) (cdv ct:SI) (us:List SI),us.length=ps.length->aag (UZ x Sx (fq st) (cV st) (bA st) .none kV doc pm an cdv ct) ⟨us,[]⟩=pure (ps.zip us)){gB:G O}
  (hb:∀(cdv:SI) (A:TR) (outer:List Env) (s:SJ) (H:Hp) (E:XK) (J:Hp) (T:Exc->Prop),dW k (A.deeper (YI Sx (bA st) s.heap.objs.size f cdv))->
   qi (Ep P w K mg base N Sx (bA st) f cdv A outer s H E) ⟨K,H,J,T⟩ (cV st) gB)
  (hF:∀as r,as.length=ps.length->Fm as=.ok r->fin (gB (aY N as))=.ok r):bw P w K mg base (k + 1) ps.length x Fm:=
 LB F hm Sc hbi (λcdv A outer s H E J T hr=>(hb cdv A outer s H E J T hr).h) hF
theorem Kz {P:S_}{w:TL}{K:SG}{mg:Str->Option SI}{base:Uz}{x Sx:Str}{st:V0}{f:Tg}{fd:TM}{N ps:List Str}{k:Nat}{Fm:List S->M R}(F:l_ K x Sx st f fd) (Sc:gF N ps (bA st)){gB:G O}
  (hb:∀(cdv:SI) (A:TR) (outer:List Env) (s:SJ) (H:Hp) (E:XK) (J:Hp) (T:Exc->Prop),dW k (A.deeper (YI Sx (bA st) s.heap.objs.size f cdv))->
   qi (Ep P w K mg base N Sx (bA st) f cdv A outer s H E) ⟨K,H,J,T⟩ (cV st) gB)
  (hF:∀as r,as.length=ps.length->Fm as=.ok r->fin (gB (aY N as))=.ok r):jH P w K mg base pH (k + 1) f fd ps (qZ K ps.length Fm):=
 Ex F Sc (λcdv A outer s H E J T hr=>(hb cdv A outer s H E J T hr).h) hF
end
end DL
namespace K01
open PySem DL
def wQ:List Str:=["thing"]
def xu:G O:=(bq (yz (By "int" (af 0)) (Iw (By "bool" (af 0)))))
def p5 (as:List S):M R:=fin (xu (aY wQ as))
theorem fK (h:n<=1000):n<=sizeLine:=Tz h (by decide)
theorem Bl (f:D->Bool):∀(ds:List D),oz (ds.map λd=>.bl (f d))=some (ds.map f)
 | []=>rfl
 | d::r=>by
  simp only [Td,oz,Bl f r]
  rfl
theorem all_map (f:D->Bool) (ds:List D):tP [.l .fresh (ds.map λd=>.bl (f d))]=.ok (.d (.bl (ds.all f))):=by
 unfold tP
 simp only [mz,aO,Bl]
 congr 3
 simp [Yy]
theorem rD {α:Type}{xs:List α}{k:Nat}{x:α}(h:xs[k]?=some x):L2.mC xs (k:Int)=some x:=by
 have hk:k < xs.length:=(Tt.mp h).1
 unfold L2.mC L2.zV
 rw [if_pos (by omega),if_pos (by omega)]
 simpa using h
theorem nG {xs:List D}{k:Nat}{x:D}(h:xs[k]?=some x):aX (.d (.tup xs)) (.d (.int k))=.ok (.d x):=by
 unfold aX
 simp only [iy,aO,rD h]
theorem rG {m:Md}{xs:List D}{k:Nat}{x:D}(h:xs[k]?=some x):aX (.l m xs) (.d (.int k))=.ok (.d x):=by
 unfold aX
 simp only [iy,aO,rD h]
theorem Bu {z:Str}{k:Nat}{c:Nat}(hz:z.length<=1000) (h:z.cps.toList[k]?=some c):aX (.d (.str z)) (.d (.int k))=.ok (.d (.str ⟨#[c]⟩)):=by
 unfold aX
 simp only [fK hz,if_true,rD h]
theorem JS (xs:List D):e_ [.d (.tup xs)]=.ok (.d (.int xs.length)):=rfl
theorem eq_int (neg:Bool) (i j:Int):cj neg (.d (.int i)) (.d (.int j))=.ok (.d (.bl (if neg then !(i == j) else i == j))):=rfl
theorem gW (a:D) (r:List D):aX (.d (.tup (a::r))) (.d (.int 0))=.ok (.d a):=nG (k:=0) rfl
theorem EN (a b:D) (r:List D):aX (.d (.tup (a::b::r))) (.d (.int 1))=.ok (.d b):=nG (k:=1) rfl
theorem L_ (a b c:D) (r:List D):aX (.d (.tup (a::b::c::r))) (.d (.int 2))=.ok (.d c):=nG (k:=2) rfl
theorem Pp (n:Nat) (h:n<=1000):below 4611686018427387904 (n:Int)=true:=cW.mpr ⟨by omega,by omega⟩
def IS (j:Int):M (List D):=if below 4611686018427387904 j then .ok (fW 0 j.toNat) else .bad
theorem Nn (j:Int) (h:below 4611686018427387904 j=true):IS j=.ok (fW 0 j.toNat):=by unfold IS;exact if_pos h
theorem Nm {gs:G (List R)}(hg:gs env=.ok [.d (.int j)]):b9 gs env=IS j:=by
 unfold b9 IS
 rw [hg]
 rfl
theorem jB {gs:G (List R)}{env:Ev}{n:Nat}(hg:gs env=.ok [.d (.int (n:Int))]) (h:n<=1000):b9 gs env=.ok (fW 0 n):=by
 rw [Nm hg,Nn _ (Pp n h)]
 exact congrArg (λk=>M.ok (fW 0 k)) (UJ n)
theorem Nr {t u:G O}(h:t env=.ok (.nx e)):aI t u env=u e:=by
 unfold aI
 rw [h]
 rfl
theorem LS {g:G (List D)}{u:G O}(h:g env=.ok ds):b_ g t u env=fh t u ds env:=by
 unfold b_
 rw [h]
 rfl
theorem lU (i j:Int):iJ (.d (.int i)) (.d (.int j))=.ok (.d (.int (i + j))):=rfl
theorem yK (i j:Int):oN (.d (.int i)) (.d (.int j))=.ok (.d (.int (i - j))):=rfl
theorem yy {C:Int->Int->Bool}{f:Int->Int->D}(h:C i j=true):fI C f (.d (.int i)) (.d (.int j))=.ok (.d (f i j)):=by
 show (if C i j=true then M.ok (R.d (f i j)) else M.bad)=_
 rw [if_pos h]
theorem gI (i j:Int) (h1:-(2 ^ 64) < j) (h2:j < 2 ^ 64):gy (.d (.int i)) (.d (.int j))=.ok (.d (.int (i * j))):=yy (C:=zW) (f:=λi j=>.int (i * j)) (by unfold zW;rw [V6];exact Wm (cW.mpr ⟨h1,h2⟩))
theorem gn (i j:Int) (h1:0 < j) (h2:j < 1073741824):gf (.d (.int i)) (.d (.int j))=.ok (.d (.int (i / j))):=yy (by
 unfold CP
 rw [SN]
 exact ⟨decide_eq_true h1,cW.mpr ⟨by omega,h2⟩⟩)
theorem cZ (i j:Int) (h1:0 < j):dB (.d (.int i)) (.d (.int j))=.ok (.d (.int (i % j))):=yy (decide_eq_true h1)
theorem OF (x y:Str) (h:x.length + y.length<=1000):iJ (.d (.str x)) (.d (.str y))=.ok (.d (.str (x++y))):=by
 show (if x.length + y.length<=sizeLine then M.ok (R.d (D.str (x++y))) else M.bad)=_
 rw [if_pos (fK h)]
def Ls:Str:="abcdefghijklmnopqrstuvwxyz"
theorem Lu:∀k:Fin 26,Ls.cps.toList[k.val]?=some (97 + k.val):=by decide +kernel
theorem Jf:Ls.length<=1000:=by decide +kernel
theorem EO (i:Int) (h0:0<=i) (h:i < 26):aX (.d (.str "abcdefghijklmnopqrstuvwxyz")) (.d (.int i))=.ok (.d (.str ⟨#[97 + i.toNat]⟩)):=by
 have e:i=((i.toNat:Nat):Int):=by omega
 have:=Bu (z:=Ls) (k:=i.toNat) Jf (Lu ⟨i.toNat,by omega⟩)
 rw [e]
 exact this
theorem kX (x y:Str):(x++y).cps.toList=x.cps.toList++y.cps.toList:=by
 show (x.cps++y.cps).toList=_
 simp
theorem dG (x:Str):x.length=x.cps.toList.length:=by
 show x.cps.size=_
 simp
theorem strs_map:∀(ss:List Str),strsOf (ss.map .str)=some ss
 | []=>rfl
 | s::r=>by
  simp only [Td,strsOf,strs_map r]
  rfl
theorem sorted_strs (m:Md) (ss:List Str) (h:ss.length < 64):kY [.l m (ss.map .str)]=.ok (.l .fresh ((mW ss).map .str)):=by
 unfold kY
 simp only [mz,aO,strs_map,h,if_true]
theorem nM {b:G Bool}{t u:G O}(h:b env=.ok false):bK b t u env=u env:=by
 unfold bK
 rw [h]
 rfl
theorem kZ {b:G Bool}{t u:G O}(h:b env=.ok true):bK b t u env=t env:=by
 unfold bK
 rw [h]
 rfl
theorem N9 {g:G R}{f:List R->M R}(h:g env=.ok r) (hf:f [r]=.ok r'):gN f (ao g aD) env=.ok r':=by
 unfold gN ao
 rw [h]
 exact hf
theorem FE {g:G R}(h:g env=.ok r) (h2:rF r=.ok r'):bq g env=.ok (.rt r'):=by
 unfold bq
 rw [h,aO,h2]
 rfl
abbrev dN (k:Nat):D:=.int k
abbrev dP (p:Nat×Nat):D:=.tup [.int p.1,.int p.2]
def nS (p q:Nat×Nat):Prop:=p.1 < q.1\/(p.1=q.1/\p.2 < q.2)
structure Wd where
 m:Nat
 ms:List (Str×List Nat)
 ar:List (Str×List (Nat×Nat))
abbrev kB (r:Str×List Nat):D:=.tup [.str r.1,.tup (r.2.map dN)]
abbrev pg (r:Str×List (Nat×Nat)):D:=.tup [.str r.1,.tup (r.2.map dP)]
def Wd.d (w:Wd):D:=.tup [.int w.m,.tup (w.ms.map kB),.tup (w.ar.map pg)]
theorem Jr {α:Type}(f:α->D) (xs:List α) (l u:Option Int):∃ys:List α,cutD (xs.map f) l u=ys.map f/\ys=(xs.drop (HT.bL xs.length 0 l)).take (HT.bL xs.length xs.length u - HT.bL xs.length 0 l):=by
 refine ⟨_,?_,rfl⟩
 unfold cutD
 rw [SK,Xh,Yb]
theorem Js {α:Type}(xs:List α) (i j:Nat):((xs.drop i).take j).Sublist xs:=(WD _ _).trans (aaU _ _)
theorem xO {K:SG}{J:L2.Hp}:∀(ns:List Int),aH K J (ns.map D.int) (ns.map L2.V.int)
 | []=>.nil
 | n::r=>.cons (.int n) (xO r)
end K01
namespace DX
open PySem PySem.Spec
open Builtin Builtin.ObjectAttr
end DX
namespace DX
open PySem PySem.Spec
end DX
namespace DX
open PySem PySem.Spec PyProof.Rows L2
end DX
namespace DL
open PySem PySem.Spec PyProof.Rows L2 DX
end DL
namespace DX
open PySem PySem.Spec PyProof.Rows L2
end DX
namespace DL
open PySem PySem.Spec PyProof.Rows L2 DX
end DL
namespace DX
open PySem PySem.Spec PyProof.Rows L2
end DX
namespace DL
open PySem PySem.Spec PyProof.Rows L2 DX
end DL
namespace DX
open PySem PySem.Spec PyProof.Rows L2
open Sem (wp)
end DX
namespace DL
open PySem PySem.Spec PyProof.Rows L2 DX
end DL
namespace DL
open PySem PySem.Spec PyProof.Rows L2
noncomputable def vM (A:TR) (s:SJ) (y x:SI) (b:Bool):Prop:=
 ∀(prog:S_) (w:TL) (E:SI->SJ->Prop) (Q:SI->SJ->Prop),Q (.bool b) s->S8 (Ti prog w) A (richCompare .Lt y x) Q E s
inductive gG (A:TR) (s:SJ) (fin:Bool):List (SI×SI)->Bool->Prop
 | nil:gG A s fin [] fin
 | yes {x y:SI}{r:List (SI×SI)}{b:Bool}:Vn A s x y true->gG A s fin r b->gG A s fin ((x,y)::r) b
 | no {x y:SI}{r:List (SI×SI)}{b:Bool}:Vn A s x y false->vM A s x y b->gG A s fin ((x,y)::r) b
section
open PySem.SeqAt
open PySem.AutoSeq1 (wpAny_loadPart')
open PySem.MeetsSeq PySem.MeetsSeq2 PySem.MeetsSeq3
theorem FY (l b:Tg) (Ss Sy:Array SI) (n n2:Nat) (dd dd2:Option Tg) (sl sl2:Array (Option SI)) (ans:Bool):
  Meets (Xd.«tuple.__lt__» ⟨[.ref l,.ref b],[]⟩)
   (λA R s=>s.heap.get? l=some {cls:=.type "tuple",dict:=dd,data:=.seq Ss n,slots:=sl}/\s.heap.get? b=some {cls:=.type "tuple",dict:=dd2,data:=.seq Sy n2,slots:=sl2}/\
    gG A.in1 s (decide (Ss.size < Sy.size)) (Ss.toList.zip Sy.toList) ans/\R (.ok (.ret (.bool ans))) s):=
 .of_wp λprog w A R s h=>by
  obtain ⟨hp,g,d,tk,os⟩:=s;obtain ⟨hl,hb,hP,h⟩:=h
  have f2:=W7
  wp_walk using VF hl,VF hb,VI _ (λrest b s'=>b.1=none/\s'=⟨hp,g,d,tk,os⟩/\gG A.in1 ⟨hp,g,d,tk,os⟩ (decide (Ss.size < Sy.size)) rest ans) _
  case turn=>
   rintro ⟨y,x⟩ rest b s' ⟨hb',rfl,hq⟩
   cases hq with
   | yes he hr=>
    refine SE (he prog w _ _ ?_)
    wp_walk
    exact ⟨rfl,rfl,hr⟩
   | no he hlt=>
    refine SE (he prog w _ _ ?_)
    have Ry:=hlt prog w
    wp_walk using Ry
    exact ⟨_,rfl,by simpa using h⟩
  case fin=>
   rintro ⟨b1,b2⟩ s' ⟨hb',rfl,hq⟩
   simp only at hb'
   subst hb'
   cases hq
   wp_walk
   exact ⟨_,rfl,by simpa [Xz] using h⟩
  case h=>
   exact ⟨rfl,rfl,hP⟩
end
section
variable {K:SG}{J:Hp}{s:SJ}
theorem JV {A:TR}{Ss Sy:Array SI}(hl:s.heap.IsTuple l Ss) (hb:s.heap.IsTuple b Sy) (hP:gG A.in1 s (decide (Ss.size < Sy.size)) (Ss.toList.zip Sy.toList) ans)
 (hu:A.units < UL):vM A s (.ref l) (.ref b) ans:=λprog w E Q h=>by
 obtain ⟨⟨cls,dd,data,sl⟩,ho,hc,n,hd⟩:=id hl
 obtain ⟨⟨cls2,dd2,data2,sl2⟩,ho2,hc2,n2,hd2⟩:=id hb
 simp only at hc hd hc2 hd2
 subst hc hd hc2 hd2
 exact Zi (op:=.Lt) ⟨_,ho,rfl⟩ ⟨_,ho2,rfl⟩ PySem.F.slot_tuple_lt PySem.F.entry_tuple_lt (PySem.F.args_tuple_lt_2 _ _) (FY l b Ss Sy n n2 dd dd2 sl sl2 ans)
  ⟨ho,ho2,hP,show WB ans≠ZV/\Q (.bool ans) s from ⟨(λx=>nomatch x),h⟩⟩ hu
mutual
noncomputable def dI:D->D->Option Bool
 | .bl p,y=>match y with
  | .bl q=>some (!p && q)
  | _=>none
 | .int i,y=>match y with
  | .int j=>some (decide (i < j))
  | _=>none
 | .str x,y=>match y with
  | .str z=>some (decide (x.cps.toList < z.cps.toList))
  | _=>none
 | .tup xs,y=>match y with
  | .tup ys=>kr xs ys
  | _=>none
 | _,_=>none
noncomputable def kr:List D->List D->Option Bool
 | [],ys=>some (!ys.isEmpty)
 | x::xs,ys=>match ys with
  | []=>some false
  | y::ys=>if bg x y=true then kr xs ys else dI x y
end
theorem JU (A:TR) (h:dI (.bl p) e=some b) (re:Rep K J e w) (rw':RelV w u'):vM A s (.bool p) u' b:=by
 unfold dI at h
 cases e with
 | bl q=>
  cases re
  cases rw'
  simp only [Vd] at h
  subst h
  intro prog w E Q hq
  refine (lt_bool (p:=p) (q:=q) ?_:S8 (Ti prog w) A (UP .Lt (.bool p) (.bool q)) Q E s)
  cases p <;> cases q <;> exact hq
 | _=>cases h
theorem GL (A:TR) (h:dI (.int p) e=some b) (re:Rep K J e w) (rw':RelV w u'):vM A s (.int p t) u' b:=by
 unfold dI at h
 cases e with
 | int q=>
  cases re
  obtain ⟨t',rfl⟩:=rw'
  simp only [Vd] at h
  subst h
  intro prog w E Q hq
  exact (adj hq:S8 (Ti prog w) A (UP .Lt (.int p t) (.int q t')) Q E s)
 | _=>cases h
theorem GN (A:TR) (h:dI (.str p) e=some b) (re:Rep K J e w) (rw':RelV w u'):vM A s (.str p t) u' b:=by
 unfold dI at h
 cases e with
 | str q=>
  cases re
  obtain ⟨t',rfl⟩:=rw'
  simp only [Vd] at h
  subst h
  intro prog w E Q hq
  exact (adk hq:S8 (Ti prog w) A (UP .Lt (.str p t) (.str q t')) Q E s)
 | _=>cases h
noncomputable def F9 (K:SG) (J:Hp) (s:SJ) (d:D):Prop:=∀{e:D}{v w:V}{u u':SI}{b:Bool}(A:TR),dI d e=some b->Rep K J d v->Rep K J e w->RelV v u->RelV w u'->A.units + dep d < UL->dep d<=1000->dep e<=1000->vM A s u u' b
noncomputable def uo (K:SG) (J:Hp) (s:SJ) (ds:List D):Prop:=∀{es:List D}{vs ws:List V}{us us':List SI}{b:Bool}{n1 n2:Nat}(A:TR),kr ds es=some b->aH K J ds vs->aH K J es ws->Vals vs us->Vals ws us'->A.units + deps ds < UL->deps ds<=1000->deps es<=1000->
  us.length + n2=us'.length + n1->gG A s (decide (n1 < n2)) (us.zip us') b
theorem GP (F:HF K J s) (ih:uo K J s ds):F9 K J s (.tup ds):=by
 intro e v w u u' b A h rd re rv rw' hu k1 k2
 unfold dI at h
 cases e with
 | tup es=>
  simp only at h
  cases rd with
  | tup h1 hs=>
   cases re with
   | tup h2 hs'=>
    cases rv;cases rw'
    obtain ⟨Su,r,p⟩:=F.t _ _ h1
    obtain ⟨its',r',p'⟩:=F.t _ _ h2
    refine JV p p' ?_ (by unfold dep at hu;omega)
    have:=ih A.in1 (n1:=Su.length) (n2:=its'.length) h hs hs' r r' (by rw [in1_units];unfold dep at hu;omega) (by unfold dep at k1;omega) (by unfold dep at k2;omega) (by omega)
    simpa using this
 | _=>cases h
theorem EY:uo K J s []:=by
 intro es vs ws us us' b n1 n2 A h rd re rv rw' hu k1 k2 hl
 cases rd;cases rv
 cases re with
 | nil=>
  cases rw'
  simp only [kr,List.isEmpty_nil,Vy,Vd] at h
  subst h
  have:decide (n1 < n2)=false:=decide_eq_false (by simp at hl;omega)
  rw [this]
  exact .nil
 | cons _ _=>
  cases rw'
  simp only [kr,List.isEmpty_cons,XN,Vd] at h
  subst h
  have:decide (n1 < n2)=true:=decide_eq_true (by simp at hl;omega)
  rw [this]
  exact .nil
theorem CZ (F:HF K J s) (ix:F9 K J s x) (ih:uo K J s xs):uo K J s (x::xs):=by
 intro es vs ws us us' b n1 n2 A h rd re rv rw' hu k1 k2 hl
 cases rd with
 | cons q1 r1=>
  cases rv with
  | cons t1 u1=>
   cases re with
   | nil=>
    cases rw'
    simp only [kr,Vd] at h
    subst h
    have:decide (n1 < n2)=false:=decide_eq_false (by simp at hl;omega)
    rw [this]
    exact .nil
   | cons q2 r2=>
    cases rw' with
    | cons t2 u2=>
     unfold deps at hu k1 k2
     rename_i y v' ys ws' u0 us0
     have he:=nE F A q1 q2 t1 t2 (by omega) (by omega) (by omega)
     simp only [kr] at h
     cases z:bg x y with
     | true=>
      rw [z,if_pos rfl] at h
      rw [z] at he
      exact .yes he (ih A h r1 r2 u1 u2 (by omega) (by omega) (by omega) (by simp at hl;omega))
     | false=>
      rw [z,if_neg Tv] at h
      rw [z] at he
      exact .no he (ix A h q1 q2 t1 t2 (by omega) (by omega) (by omega))
mutual
theorem Mw (F:HF K J s):∀d:D,F9 K J s d
 | .bl p=>λA h rd re rv rw' _ _ _=>by cases rd;cases rv;exact JU A h re rw'
 | .int p=>λA h rd re rv rw' _ _ _=>by cases rd;obtain ⟨t,rfl⟩:=rv;exact GL A h re rw'
 | .str p=>λA h rd re rv rw' _ _ _=>by cases rd;obtain ⟨t,rfl⟩:=rv;exact GN A h re rw'
 | .tup ds=>GP F (yF F ds)
 | .non=>λA h _ _ _ _ _ _ _=>by unfold dI at h;cases h
 | .lst _=>λA h _ _ _ _ _ _ _=>by unfold dI at h;cases h
 | .emp=>λA h _ _ _ _ _ _ _=>by unfold dI at h;cases h
 | .exn _ _ _=>λA h _ _ _ _ _ _ _=>by unfold dI at h;cases h
 | .dct _ _=>λA h _ _ _ _ _ _ _=>by unfold dI at h;cases h
theorem yF (F:HF K J s):∀ds:List D,uo K J s ds
 | []=>EY
 | x::xs=>CZ F (Mw F x) (yF F xs)
end
end
end DL
namespace DL
open PySem PySem.Spec PyProof.Rows L2
open PySem.W (KasT kas_sort kas_asc kas_desc kas_rev kas_tail3 kas_descPart kas_count kas_place kas_bin)
noncomputable def bf {α:Type}(q:Nat->Nat->Bool):KasT α->α
 | .ret a=>a
 | .ask i j k=>bf q (k (q i j))
inductive fN (n:Nat){α:Type}(P:α->Prop):KasT α->Prop
 | ret {a:α}:P a->fN n P (.ret a)
 | ask {i j:Nat}{k:Bool->KasT α}:i < n->j < n->(∀b,fN n P (k b))->fN n P (.ask i j k)
theorem fN.bind {α β:Type}{P:α->Prop}{R:β->Prop}{f:α->KasT β}{t:KasT α}(h:fN n P t) (hf:∀a,P a->fN n R (f a)):fN n R (t.bind f):=by
 induction h with
 | ret p=>exact hf _ p
 | ask h1 h2 _ ih=>exact .ask h1 h2 ih
theorem fN.run {n:Nat}{α:Type}{P:α->Prop}{t:KasT α}(q:Nat->Nat->Bool) (h:fN n P t):P (bf q t):=by
 induction h with
 | ret p=>exact p
 | ask _ _ _ ih=>exact ih _
theorem fN.wp {α:Type}{P:α->Prop}{t:KasT α}{q:Nat->Nat->Bool}{cmp:Nat->Nat->(Bool->SJ->Prop)->SJ->Prop}{G:α->SJ->Prop}(h:fN n P t)
 (hc:∀i j C,i < n->j < n->C (q i j) s->cmp i j C s) (hG:G (bf q t) s):t.kasWp cmp G s:=by
 induction h with
 | ret p=>exact hG
 | ask h1 h2 _ ih=>exact hc _ _ _ h1 h2 (ih _ hG)
def gw (n:Nat) (p:Array Nat):Prop:=p.Perm (SM n).toArray
theorem gw.lt {p:Array Nat}(h:gw n p) (hn:0 < n) (k:Nat):p.getD k 0 < n:=by
 by_cases hk:k < p.size
 ·have e:p.getD k 0=p[k]:=by simp [Ve,hk]
  rw [e]
  have hm:p[k]∈p:=Array.getElem_mem hk
  have:=(YA h).mp hm
  simpa using this
 ·have e:p.getD k 0=0:=by simp [Ve,hk]
  rw [e];exact hn
theorem gw.rev (h:gw n p) (i j:Nat):gw n (X0 p i j):=(mirror_perm _ _ _ _).trans h
theorem gw.bub (h:gw n p) (i j:Nat):gw n (bubble p i j):=(bubble_perm _ _ _).trans h
variable {n:Nat}
theorem Ct {p:Array Nat}(hn:0 < n) (h:gw n p):∀f m,fN n (λ_:Nat=>True) (X3 p f m)
 | 0,m=>.ret trivial
 | f + 1,m=>.ask (h.lt hn _) (h.lt hn _) λb=>by cases b with
  | true=>exact .ret trivial
  | false=>exact Ct hn h f (m + 1)
theorem uy (hn:0 < n):∀f {p:Array Nat} m q,gw n p->fN n (λr:Array Nat×Nat×Nat=>gw n r.1) (Vz f p m q)
 | 0,p,m,q,h=>.ret h
 | f + 1,p,m,q,h=>.ask (h.lt hn _) (h.lt hn _) λb=>by
  cases b with
  | true=>
   simp only [if_true]
   by_cases hq:q > 0
   ·rw [if_pos hq];exact uy hn f _ _ (h.rev _ _)
   ·rw [if_neg hq];exact uy hn f _ _ h
  | false=>
   simp only [Tf,if_false]
   refine .ask (h.lt hn _) (h.lt hn _) λb=>?_
   cases b with
   | true=>exact .ret h
   | false=>exact uy hn f _ _ h
theorem DW (hn:0 < n) (h:gw n p) (m k:Nat):fN n (λr:Nat×Array Nat=>gw n r.2) (acR m k p):=(Ct hn (h.rev 0 m) _ _).bind λa _=>.ret (h.rev _ _)
theorem Bk (hn:0 < n) (h:gw n p) (m k:Nat):fN n (λr:Nat×Array Nat=>gw n r.2) (aa6 m k p):=(uy hn _ _ _ h).bind λr hr=>by
 split
 ·exact DW hn (hr.rev _ _) _ _
 ·exact DW hn hr _ _
theorem Jj (hn:0 < n) (h:gw n p) (k:Nat):fN n (λr:Nat×Array Nat=>gw n r.2) (aby k p):=(Ct hn h _ _).bind λm _=>by
 split
 ·exact .ret h
 ·split
  ·refine .ask (h.lt hn _) (h.lt hn _) λb=>?_
   cases b with
   | true=>exact .ret h
   | false=>exact Bk hn (h.rev _ _) _ _
  ·exact Bk hn h _ _
theorem vP (hn:0 < n){p:Array Nat}(h:gw n p) (k:Nat):∀f l r,fN n (λ_:Nat=>True) (VR p k f l r)
 | 0,l,r=>.ret trivial
 | f + 1,l,r=>by
  unfold VR
  split
  ·exact .ret trivial
  ·refine .ask (h.lt hn _) (h.lt hn _) λb=>?_
   cases b with
   | true=>exact vP hn h k f _ _
   | false=>exact vP hn h k f _ _
theorem Ik (hn:0 < n):∀f {p:Array Nat} k,gw n p->fN n (gw n) (acz f p k)
 | 0,p,k,h=>.ret h
 | f + 1,p,k,h=>(vP hn h k _ _ _).bind λl _=>Ik hn f _ (h.bub _ _)
theorem jn (hn:0 < n):fN n (gw n) (WG n):=(Jj hn (show gw n _ from adN _) n).bind λr hr=>by
 split
 ·exact Ik hn _ _ hr
 ·exact .ret hr
end DL
namespace DL
open PySem PySem.Spec PyProof.Rows L2
open PySem.W (KasT kas_sort kas_ask kas_item kat_run kat_snds KatLex kat_cons kat_yes kat_no kat_lt kat_one KatTups kat_kind Looks)
section
variable {prog:S_}{w:TL}{A:TR}{E:SI->SJ->Prop}{s:SJ}
def qK (q:Nat->Nat->Bool) (vs:List SI):List SI:=(bf q (WG vs.length)).toList.map λi=>vs.getD i T_
theorem G5 (q:Nat->Nat->Bool){vs:List SI}(h:0 < vs.length):(qK q vs).length=vs.length:=by
 unfold qK
 rw [SK,S4]
 have:=((jn h).run q:gw _ _).size_eq
 simpa using this
theorem CV {vs:List SI}{q:Nat->Nat->Bool}{P:adO->SJ->Prop}(ho:s.heap.get? a=some (Wx "list" vs.toArray n)) (h2:2<=vs.length) (h64:vs.length < 64)
 (hk:∀h' C,(∀b o,b≠a->s.heap.get? b=some o->h'.get? b=some o)->C κ {s with heap:=h'}->S8 (Ti prog w) A (adw vs.toArray) C (λ_ _=>False) {s with heap:=h'})
 (hc:∀h',(∀b o,b≠a->s.heap.get? b=some o->h'.get? b=some o)->∀i j C,i < vs.length->j < vs.length->C (q i j) {s with heap:=h'}->kas_ask prog w A κ vs i j C {s with heap:=h'})
 (h:P (.done (.ret .none)) {s with heap:=ach s.heap a vs (qK q vs).toArray}):S8 (Ti prog w) A (Xd.«list.sort» ⟨[.ref a],[]⟩) P E s:=by
 have la:a < s.heap.objs.size:=S9 ho
 have sl:vs.length<=sizeLine:=by rw [UB];omega
 obtain ⟨e1,g1⟩:∃e1,(s.heap.update a (Vo λ_=>(#[]:Array SI))).get? a=some (Wx "list" #[] e1):=⟨_,(abz ho λ_=>#[])⟩
 have z1:(s.heap.update a (Vo λ_=>(#[]:Array SI))).objs.size=s.heap.objs.size:=(abg _ _ _)
 have g3:(((s.heap.update a (Vo λ_=>(#[]:Array SI))).push (Wx "tuple" vs.toArray 0)).push (Wx "list" #[] 0)).get? a=some (Wx "list" #[] e1):=(SO _ ((SO _ g1)))
 have kp:∀b o,b≠a->s.heap.get? b=some o->(((s.heap.update a (Vo λ_=>(#[]:Array SI))).push (Wx "tuple" vs.toArray 0)).push (Wx "list" #[] 0)).get? b=some o:=λb o nb q=>
  SO _ (SO _ (by rw [Z_ _ _ _ _ nb];exact q))
 rw [abA]
 refine SE ((listItems_at ho rfl ?_))
 refine SE (Y4 ho rfl ?_ (by rw [S0];exact sl) (Tp _))
 refine SE ((aaa g1 rfl ?_))
 refine SE (Z1 ?_ (show vs.length<=_ from sl))
 refine SE ((aat ?_ (Tp _)))
 refine (TQ ?_)
 dsimp only
 have n2:¬vs.toArray.size < 2:=by (rw [S0]);omega
 rw [if_neg n2,if_neg n2]
 refine SE (Uc (hk _ (λk s'=>k=κ/\s'=_) kp ⟨rfl,rfl⟩) ?_ λ_ _ x=>x.elim)
 rintro _ _ ⟨rfl,rfl⟩
 refine SE (Uc (kat_run (E:=E) (Q:=λst' s'=>∃p:Array Nat,p.size=vs.length/\arrOf st'=p.map (kas_item (vs.toArray.zip vs.toArray))/\failedOf st'=none/\p=bf q (WG vs.length)/\s'=_)
  rfl h2 h64 (λp' st' s' a1 a2 a3 a4=>⟨p',a1,a2,a3,a4⟩) ((jn (by omega)).wp (q:=q) (hc _ kp) ⟨rfl,rfl⟩)) ?_ λ_ _ e=>e)
 rintro ⟨⟨⟩,st'⟩ s' ⟨p,hp,har,hf,rfl,rfl⟩
 dsimp only
 have ou:(arrOf st').map (·.2)=(qK q vs).toArray:=kat_snds rfl har
 rw [ou]
 refine SE ((aaa g3 rfl ?_))
 refine SE (Y4 g3 rfl ?_ (Tp _) (Tz (aa4 (S0.trans (G5 q (To Nat.zero_lt_two h2)))) (Nat.le_succ_of_le sl)))
 rw [hf]
 simp only [bne_self_eq_false,Tf,if_false]
 exact SH h
end
end DL
namespace DL
open PySem PySem.Spec PyProof.Rows L2
open PySem.W (KasT kas_sort kas_ask KatLex kat_nil kat_cons kat_yes kat_no kat_lt kat_one KatTups kat_kind Looks)
section
variable {prog:S_}{w:TL}{A:TR}{E:SI->SJ->Prop}{s:SJ}{K:SG}{J:Hp}
theorem xy {fin ans:Bool}{Q:Bool->SJ->Prop}(h:gG A s fin zs ans) (hq:Q ans s):∀{i:Nat},(b && i == 0)=false->KatLex prog w A b fin Q zs i s:=by
 induction h with
 | nil=>intro i _;exact kat_nil hq
 | yes he _ ih=>intro i _;exact acA (he prog w _ _ (kat_yes (ih hq (by cases b <;> rfl))))
 | no he hl=>
  intro i hb
  refine acA (he prog w _ _ (kat_no ?_))
  rw [hb]
  exact kat_one _ _ (hl prog w _ _ hq)
theorem JO {fin ans e:Bool}{Q:Bool->SJ->Prop}(he:Vn A s u u' e) (h1:e=true->gG A s fin zs ans)
 (h2:e=false->S8 (Ti prog w) A (oneLt' true u u') Q (λ_ _=>False) s) (hq:Q ans s):KatLex prog w A true fin Q ((u,u')::zs) 0 s:=by
 cases e with
 | true=>exact acA (he prog w _ _ (kat_yes (xy (h1 rfl) hq rfl)))
 | false=>exact acA (he prog w _ _ (kat_no (h2 rfl)))
inductive Hd where
 | t | i | x
noncomputable def gV:D->Option Hd
 | .tup (.tup _::_)=>some .t
 | .tup (.int _::_)=>some .i
 | .tup (.str _::_)=>some .x
 | _=>none
noncomputable def Hd.flag:Hd->Bool
 | .t=>false
 | _=>true
noncomputable def Hd.ty:Hd->SI
 | .t=>.type "tuple"
 | .i=>.type "int"
 | .x=>.type "str"
theorem G2 {k:Hd}{C:Bool->SJ->Prop}(hd:gV (.tup (x::xs))=some k) (he:gV (.tup (y::ys))=some k) (hf:k.flag=true) (h:dI x y=some b) (rd:Rep K J x v) (re:Rep K J y v') (rv:RelV v u) (rv':RelV v' u') (c:C b s):
  S8 (Ti prog w) A (oneLt' true u u') C E s:=by
 cases x with
 | int x=>
  cases hd
  cases y with
  | int y=>
   cases rd;cases re
   obtain ⟨tk,rfl⟩:=rv
   obtain ⟨tk',rfl⟩:=rv'
   unfold dI at h
   simp only [Vd] at h
   refine oneLt_int ?_
   rw [h];exact c
  | _=>cases he
 | str x=>
  cases hd
  cases y with
  | str y=>
   cases rd;cases re
   obtain ⟨tk,rfl⟩:=rv
   obtain ⟨tk',rfl⟩:=rv'
   unfold dI at h
   simp only [Vd] at h
   refine oneLt_str ?_
   rw [h];exact c
  | _=>cases he
 | tup _=>cases hd;cases hf
 | _=>cases hd
theorem JP (F:HF K J s){k:Hd}{C:Bool->SJ->Prop}(hd:gV d=some k) (he:gV e=some k) (h:dI d e=some b) (rd:Rep K J d v) (re:Rep K J e v') (rv:RelV v u) (rv':RelV v' u')
 (hu:A.units + dep d < UL) (k1:dep d<=1000) (k2:dep e<=1000) (c:C b s):S8 (Ti prog w) A (keyLt' (tuples' k.flag) u u') C E s:=by
 cases d with
 | tup ds=>
  cases e with
  | tup es=>
   unfold dI at h
   simp only at h
   cases rd with
   | tup h1 hs=>
    cases re with
    | tup h2 hs'=>
     cases rv;cases rv'
     obtain ⟨Su,r,p⟩:=F.t _ _ h1
     obtain ⟨its',r',p'⟩:=F.t _ _ h2
     obtain ⟨o,ho,hc,m,dm⟩:=id p
     obtain ⟨o',ho',hc',m',dm'⟩:=id p'
     refine kat_lt ho dm ho' dm' ?_
     simp only [S0]
     cases hf:k.flag with
     | false=>
      exact xy (yF F ds A (n1:=Su.length) (n2:=its'.length) h hs hs' r r' (by unfold dep at hu;omega) (by unfold dep at k1;omega) (by unfold dep at k2;omega) (by omega)) c rfl
     | true=>
      cases hs with
      | nil=>cases hd
      | cons q1 t1=>
       cases hs' with
       | nil=>cases he
       | cons q2 t2=>
        cases r with
        | cons a1 b1=>
         cases r' with
         | cons a2 b2=>
          unfold dep deps at hu k1 k2
          rw [Xi]
          unfold kr at h
          simp only at h
          refine JO (ans:=b) (nE F A q1 q2 a1 a2 (by omega) (by omega) (by omega)) (λz=>?_) (λz=>?_) c
          ·rw [z,if_pos rfl] at h
           exact yF F _ A h t1 t2 b1 b2 (by omega) (by omega) (by omega) (by simp;omega)
          ·rw [z,if_neg Tv] at h
           exact G2 hd he hf h q1 q2 a1 a2 c
  | _=>cases he
 | _=>cases hd
noncomputable def gO (k:Hd):List D->Bool
 | []=>true
 | d::r=>(match gV d,k with
  | some .t,.t=>true
  | some .i,.i=>true
  | some .x,.x=>true
  | _,_=>false) && gO k r
theorem mw {k:Hd}:∀{ds:List D},gO k ds=true->∀d∈ds,gV d=some k
 | [],_,_,hm=>nomatch hm
 | x::r,h,d,hm=>by
  unfold gO at h
  rw [SN] at h
  rcases S7.mp hm with rfl | hm
  ·cases q:gV d with
   | none=>rw [q] at h;cases h.1
   | some k'=>rw [q] at h;cases k' <;> cases k <;> first | rfl | cases h.1
  ·exact mw h.2 d hm
theorem EF (F:HF K J s){k:Hd}(hd:gV d=some k) (rd:Rep K J d v) (rv:RelV v u):∃a o xs n f,u=.ref a/\s.heap.get? a=some o/\o.cls=.type "tuple"/\o.data=.seq xs n/\xs[0]?=some f/\Looks (Ti prog w) s.heap (typeOf f) k.ty:=by
 cases d with
 | tup ds=>
  cases rd with
  | tup h1 hs=>
   cases rv
   obtain ⟨Su,r,p⟩:=F.t _ _ h1
   obtain ⟨o,ho,hc,m,dm⟩:=id p
   cases hs with
   | nil=>cases hd
   | cons q1 t1=>
    cases r with
    | cons a1 b1=>
     refine ⟨_,o,_,m,_,rfl,ho,hc,dm,rfl,?_⟩
     rename_i x v' ds' vs' u us
     cases x with
     | tup _=>
      cases hd
      cases q1 with
      | tup h2 _=>
       cases a1
       obtain ⟨its2,_,p2⟩:=F.t _ _ h2
       obtain ⟨o2,ho2,hc2,_,_⟩:=id p2
       have:=(Looks.ld (M:=Ti prog w) (part:=none) ho2).andThen (f:=λo=>pure o.cls) (b:=o2.cls) .now
       rw [hc2] at this
       exact this
     | int _=>
      cases hd
      cases q1
      obtain ⟨tk,rfl⟩:=a1
      exact .now
     | str _=>
      cases hd
      cases q1
      obtain ⟨tk,rfl⟩:=a1
      exact .now
     | _=>cases hd
 | _=>cases hd
theorem uX (F:HF K J s){k:Hd}:∀{ds:List D}{vs:List V}{us:List SI},gO k ds=true->aH K J ds vs->Vals vs us->∃fs,KatTups s.heap us fs/\fs.length=us.length/\∀v∈fs,Looks (Ti prog w) s.heap (typeOf v) k.ty
 | _,_,_,_,.nil,.nil=>⟨[],trivial,rfl,λ_ h=>nomatch h⟩
 | d::ds,_,_,h,.cons q rs,.cons a b=>by
  have hd:=mw h d (SV ..)
  unfold gO at h
  rw [SN] at h
  obtain ⟨fs,h1,h2,h3⟩:=uX F h.2 rs b
  obtain ⟨p,o,xs,n,f,rfl,e1,e2,e3,e4,e5⟩:=EF (prog:=prog) (w:=w) F hd q a
  refine ⟨f::fs,⟨⟨p,o,xs,n,rfl,e1,e2,e3,e4⟩,h1⟩,by simp [h2],λv hv=>?_⟩
  rcases S7.mp hv with rfl | hv
  ·exact e5
  ·exact h3 v hv
theorem JB (k:Hd):(k.ty != W5 "tuple")=k.flag:=by cases k <;> decide
theorem ER (F:HF K J s){k:Hd}{us:List SI}(h:gO k ds=true) (rs:aH K J ds vs) (rv:Vals vs us) (hl:0 < us.length){C:SortKind->SJ->Prop}(c:C (tuples' k.flag) s):S8 (Ti prog w) A (adw us.toArray) C E s:=by
 obtain ⟨fs,h1,h2,h3⟩:=uX (prog:=prog) (w:=w) F h rs rv
 refine kat_kind h1 (by omega) h3 (by cases k <;> decide) ?_
 rw [JB]
 exact c
end
end DL
namespace DL
open PySem PySem.Spec PyProof.Rows L2
open PySem.W (KasT kas_sort kas_ask)
section
variable {prog:S_}{w:TL}{A:TR}{E:SI->SJ->Prop}{s:SJ}
theorem CU {vs:List SI}{P:adO->SJ->Prop}(ho:s.heap.get? a=some (Wx "list" vs.toArray n)) (h2:vs.length < 2)
 (h:P (.done (.ret .none)) {s with heap:=ach s.heap a vs vs.toArray}):S8 (Ti prog w) A (Xd.«list.sort» ⟨[.ref a],[]⟩) P E s:=by
 have sl:vs.length<=sizeLine:=by rw [UB];omega
 obtain ⟨e1,g1⟩:∃e1,(s.heap.update a (Vo λ_=>(#[]:Array SI))).get? a=some (Wx "list" #[] e1):=⟨_,(abz ho λ_=>#[])⟩
 have g3:(((s.heap.update a (Vo λ_=>(#[]:Array SI))).push (Wx "tuple" vs.toArray 0)).push (Wx "list" #[] 0)).get? a=some (Wx "list" #[] e1):=(SO _ ((SO _ g1)))
 rw [abA]
 refine SE ((listItems_at ho rfl ?_))
 refine SE (Y4 ho rfl ?_ (by rw [S0];exact sl) (Tp _))
 refine SE ((aaa g1 rfl ?_))
 refine SE (Z1 ?_ (show vs.length<=_ from sl))
 refine SE ((aat ?_ (Tp _)))
 refine (TQ ?_)
 dsimp only
 have n2:vs.toArray.size < 2:=by (rw [S0]);omega
 rw [if_pos n2,if_pos n2]
 refine (SE (SH ?_))
 rw [StateT.run_pure]
 refine (SE (SH ?_))
 dsimp only
 have ou:(arrOf (SortSt.mk' general' (vs.toArray.zip vs.toArray) #[] 7 none)).map (·.2)=vs.toArray:=by
  show (vs.toArray.zip vs.toArray).map (·.2)=vs.toArray
  match vs,h2 with
  | [],_=>simp
  | [_],_=>simp
 rw [ou]
 refine SE ((aaa g3 rfl ?_))
 refine SE (Y4 g3 rfl ?_ (Tp _) (by rw [S0];omega))
 simp only [bne_self_eq_false,Tf,if_false]
 exact SH h
abbrev Kp (h h':Uz):Prop:=∀b o,h.get? b=some o->h'.get? b=some o
noncomputable def yN (prog:S_) (w:TL) (A:TR) (s:SJ) (vs:List SI) (q:Nat->Nat->Bool):Prop:=2<=vs.length->∃κ,∀h' tk,Kp s.heap h'->
 (∀C:SortKind->SJ->Prop,C κ {s with heap:=h',toks:=tk}->S8 (Ti prog w) A (adw vs.toArray) C (λ_ _=>False) {s with heap:=h',toks:=tk})/\
 ∀i j (C:Bool->SJ->Prop),i < vs.length->j < vs.length->C (q i j) {s with heap:=h',toks:=tk}->kas_ask prog w A κ vs i j C {s with heap:=h',toks:=tk}
noncomputable def Coll (prog:S_) (w:TL) (A:TR) (s:SJ) (x:SI) (vs:List SI):Prop:=∀(E:SI->SJ->Prop) (C:List SI->SJ->Prop),(∀h1 tk,Kp s.heap h1->s.heap.objs.size<=h1.objs.size->C vs {s with heap:=h1,toks:=tk})->S8 (Ti prog w) A (collect x) C E s
theorem Bo {o:Obj}{vs:List SI}(hT:T="list"\/T="tuple") (ho:s.heap.get? a=some o) (hc:o.cls=.type T) (hd:o.data=.seq vs.toArray n) (sl:vs.length<=sizeLine):Coll prog w A s (.ref a) vs:=by
 intro E C h
 generalize hh:(s.heap.push (Wx "list" #[] 0)).update s.heap.objs.size (Vo (·++vs.toArray))=h1
 have hS:(s.heap.push (Wx "list" #[] 0)).get? s.heap.objs.size=some (Wx "list" #[] 0):=SY _ rfl
 have QY:=Ur (Vo (·++vs.toArray)) hS rfl
 rw [hh] at QY
 have k1:Kp s.heap h1:=λb o e=>by
  rw [<-hh,Z_ _ _ _ _ (Tr (S9 e))]
  exact SO _ e
 have z1:s.heap.objs.size<=h1.objs.size:=by rw [<-hh,abg,size_push'];exact VD _
 have fin:=h h1 s.toks k1 z1
 unfold collect
 refine SE (Z2 (U8 Zy ?_))
 rw [Uy Zz _]
 show S8 _ A.in1 (adl [] >>= λl=>again (.builtin "list.__iadd__" ⟨[l,.ref a],[]⟩)) _ _ s
 refine SE (TN ?_)
 refine SH ⟨Wh XA _,U8 aaV ?_⟩
 rw [Uy XA _]
 have fin':S8 (Ti prog w) A (load s.heap.objs.size >>= λo=>match o.data with
   | .seq xs _=>pure xs.toList
   | _=>unsupported "internal:collect") C E {s with heap:=h1}:=by
  refine SE (ab9 QY (SH ?_))
  have e:((#[]:Array SI)++vs.toArray).toList=vs:=by simp
  show C ((#[]:Array SI)++vs.toArray).toList _
  rw [e]
  exact fin
 refine Uc (wpAny_extend_seq (hsz:=by rw [S0];exact sl) (A:=A) (R:=λr s'=>r=.ok (.ret (.ref s.heap.objs.size))/\s'={s with heap:=h1})
  (s:={s with heap:=s.heap.push (Wx "list" #[] 0)}) _ a _ 0 hT hS (SO _ ho) hc hd ⟨rfl,by rw [<-hh]⟩) (λf s' q=>?_) (λe s' q=>absurd q.1 (by simp))
 cases f with
 | done f=>
  obtain ⟨e,rfl⟩:=q
  cases e
  exact fin'
 | again c'=>exact ⟨q.1,V_ q.2 λr s'' hr=>by obtain ⟨rfl,rfl⟩:=hr;exact fin'⟩
theorem KZ {q:Nat->Nat->Bool}{Q:SI->SJ->Prop}{vs:List SI}(QS:Coll prog w A.in1 s x vs) (h64:vs.length < 64) (ha:yN prog w A.in1.in1 s vs q)
 (h:∀h' tk l n,Kp s.heap h'->s.heap.objs.size<=l->h'.get? l=some (Wx "list" (if vs.length < 2 then vs else qK q vs).toArray n)->Q (.ref l) {s with heap:=h',toks:=tk}):S8 (Ti prog w) A (call (.builtin "sorted") [x]) Q E s:=by
 have sl:vs.length<=sizeLine:=by rw [UB];omega
 refine (Calls.call_function_entry kind_sorted plain_sorted entry_sorted (args_sorted1 _) ?_)
 unfold Xd.«sorted»
 refine SE (m:=checkCount "sorted" 1 1 _) ((SH ?_))
 refine SE (QS _ _ λh1 tk1 k1 le1=>?_)
 refine SE (aat ?_ sl)
 have gL:(h1.push (Wx "list" vs.toArray 0)).get? h1.objs.size=some (Wx "list" vs.toArray 0):=SY _ rfl
 have kp:∀b o,s.heap.get? b=some o->b≠h1.objs.size/\(h1.push (Wx "list" vs.toArray 0)).get? b=some o:=λb o e=>by
  have e1:=k1 b o e
  exact ⟨Tr (S9 e1),SO _ e1⟩
 have kend:∀out,Kp s.heap (ach (h1.push (Wx "list" vs.toArray 0)) h1.objs.size vs out):=λout b o e=>by
  obtain ⟨g1,g2'⟩:=kp b o e
  rw [sortedHeap_old g1 (S9 g2')]
  exact g2'
 dsimp only
 by_cases h2:vs.length < 2
 ·refine SE (TQ (TY abY ⟨_,gL,rfl⟩ abB (CU gL h2 ⟨_,rfl,?_⟩) (abZ _)))
  obtain ⟨n,hn'⟩:=acB (out:=vs.toArray) gL
  rw [if_pos h2] at h
  exact SH ⟨_,rfl,h _ tk1 _ n (kend _) le1 hn'⟩
 ·obtain ⟨κ,ask⟩:=ha (by omega)
  refine SE (TQ (TY abY ⟨_,gL,rfl⟩ abB (CV (κ:=κ) (q:=q) gL (by omega) h64 (λh' C k c=>?_) (λh' k i j C hi hj c=>?_) ⟨_,rfl,?_⟩) (abZ _)))
  ·exact (ask h' tk1 λb o e=>k b o (kp b o e).1 (kp b o e).2).1 C c
  ·exact (ask h' tk1 λb o e=>k b o (kp b o e).1 (kp b o e).2).2 i j C hi hj c
  ·obtain ⟨n,hn'⟩:=acB (out:=(qK q vs).toArray) gL
   rw [if_neg h2] at h
   exact SH ⟨_,rfl,h _ tk1 _ n (kend _) le1 hn'⟩
end
def dc (ds:List D) (i:Nat):D:=ds.getD i .non
def ltB (ds:List D) (i j:Nat):Bool:=(dI (dc ds i) (dc ds j)).getD false
def bN (ds:List D):List D:=if ds.length < 2 then ds else (bf (ltB ds) (WG ds.length)).toList.map (dc ds)
def zD (ds:List D):Bool:=ds.all λx=>ds.all λy=>(dI x y).isSome
noncomputable def G0 (ds:List D):Bool:=match ds with
 | []=>false
 | d::_=>match gV d with
  | some k=>gO k ds
  | none=>false
def xC (ds:List D):Bool:=decide (ds.length < 2) || (decide (ds.length < 64) && (decide (deps ds<=60) && (G0 ds && zD ds)))
section
variable {K:SG}{J:Hp}
theorem iQ {ds:List D}{vs:List V}(h:aH K J ds vs):∀{i:Nat},i < ds.length->Rep K J (dc ds i) (vs.getD i V.non):=by
 induction ds generalizing vs with
 | nil=>intro i hi;exact absurd hi (Uw _)
 | cons x r ih=>
  intro i hi
  cases h with
  | cons q rs=>
   cases i with
   | zero=>simpa [dc] using q
   | succ i=>simpa [dc] using ih rs (i:=i) (by simpa using hi)
theorem iT {vs:List V}{us:List SI}(h:Vals vs us):∀{i:Nat},i < vs.length->RelV (vs.getD i V.non) (us.getD i T_):=by
 induction vs generalizing us with
 | nil=>intro i hi;exact absurd hi (Uw _)
 | cons x r ih=>
  intro i hi
  cases h with
  | cons q rs=>
   cases i with
   | zero=>simpa using q
   | succ i=>simpa using ih rs (i:=i) (by simpa using hi)
theorem BZ {ds:List D}{vs:List V}(h:aH K J ds vs):∀ix:List Nat,(∀i∈ix,i < ds.length)->aH K J (ix.map (dc ds)) (ix.map λi=>vs.getD i V.non)
 | [],_=>.nil
 | i::r,hi=>.cons (iQ h (hi i (SV ..))) (BZ h r λj hj=>hi j (SS _ hj))
theorem B_ {vs:List V}{us:List SI}(h:Vals vs us):∀ix:List Nat,(∀i∈ix,i < vs.length)->Vals (ix.map λi=>vs.getD i V.non) (ix.map λi=>us.getD i T_)
 | [],_=>.nil
 | i::r,hi=>.cons (iT h (hi i (SV ..))) (B_ h r λj hj=>hi j (SS _ hj))
theorem Jv {ds:List D}:∀{i:Nat},i < ds.length->dep (dc ds i)<=deps ds:=by
 induction ds with
 | nil=>intro i hi;exact absurd hi (Uw _)
 | cons x r ih=>
  intro i hi
  unfold deps
  cases i with
  | zero=>show dep x<=_;omega
  | succ i=>
   have:=ih (i:=i) (by simpa using hi)
   have e:dc (x::r) (i + 1)=dc r i:=rfl
   rw [e];omega
theorem ic {ds:List D}(hi:i < ds.length):dc ds i∈ds:=by
 have e:dc ds i=ds[i]:=by simp [dc,hi]
 rw [e];exact T3 hi
theorem HF.keep {s s':SJ}(F:HF K J s) (k:∀b o,s.heap.get? b=some o->s'.heap.get? b=some o):HF K J s':=
 ⟨λa xs h=>let ⟨Su,r,o,ho,p⟩:=F.t a xs h;⟨Su,r,o,k _ _ ho,p⟩,λa xs h=>let ⟨Su,r,o,ho,p⟩:=F.l a xs h;⟨Su,r,o,k _ _ ho,p⟩,λa h=>let ⟨o,ho,p⟩:=F.e a h;⟨o,k _ _ ho,p⟩,λa ep SA h=>let ⟨o,es,ho,p⟩:=F.d a ep SA h;⟨o,es,k _ _ ho,p⟩⟩
theorem DU {A:TR}(F:HF K J s) (rs:aH K J ds vs) (rv:Vals vs Su) (hk:∀d∈ds,gV d=some k/\dep d<=60) (hk':gO k ds=true) (hc:∀x∈ds,∀y∈ds,(dI x y).isSome=true) (hu:A.units + 62 < UL):yN prog w A s Su (ltB ds):=by
 intro h2
 have l1:vs.length=Su.length:=rv.length
 have l2:ds.length=vs.length:=rs.length
 refine ⟨tuples' k.flag,λh' tk kp=>⟨λC cc=>ER (F.keep kp) hk' rs rv (by omega) cc,λi j C hi hj cc=>?_⟩⟩
 have hi':i < ds.length:=by omega
 have hj':j < ds.length:=by omega
 obtain ⟨a1,d1⟩:=hk _ (ic hi')
 obtain ⟨a2,d2⟩:=hk _ (ic hj')
 have hb:dI (dc ds i) (dc ds j)=some (ltB ds i j):=by
  have:=hc _ (ic hi') _ (ic hj')
  unfold ltB
  cases z:dI (dc ds i) (dc ds j) with
  | none=>rw [z] at this;cases this
  | some b=>rfl
 exact JP (F.keep kp) a1 a2 hb (iQ rs hi') (iQ rs hj') (iT rv (by omega)) (iT rv (by omega)) (by omega) (by omega) (by omega) cc
end
noncomputable def isInt:D->Bool
 | .int _=>true
 | _=>false
def vc (ds:List D):Bool:=decide (ds.length < 64) && ds.all isInt
theorem BC {K:SG}{J:Hp}:∀{ds:List D}{vs:List V}{us:List SI},ds.all isInt=true->aH K J ds vs->Vals vs us->∃ns,W3 us ns
 | _,_,_,_,.nil,.nil=>⟨[],.nil⟩
 | d::ds,_,_,h,.cons r rs,.cons v vs=>by
  (rw [VP,SN] at h)
  obtain ⟨ns,hn⟩:=BC h.2 rs vs
  cases d with
  | int i=>
   cases r
   obtain ⟨t,rfl⟩:=v
   exact ⟨i::ns,.cons i t hn⟩
  | _=>cases h.1
theorem DT {K:SG}{J:Hp}{prog:S_}{w:TL}{A:TR}{s:SJ}{ds:List D}{vs:List V}{Su:List SI}(rs:aH K J ds vs) (rv:Vals vs Su) (hi:ds.all isInt=true):yN prog w A s Su (ltB ds):=by
 intro h2
 have l1:vs.length=Su.length:=rv.length
 have l2:ds.length=vs.length:=rs.length
 obtain ⟨ns,hI⟩:=BC hi rs rv
 refine ⟨oneType',λh' tk kp=>⟨λC cc=>?_,λi j C hi' hj' cc=>?_⟩⟩
 ·clear l1 rv
  match Su,hI,h2 with
  | v1::v2::r,hI,_=>rw [keyKind_ints hI];exact SH cc
 ·have ai:=Tu.mp hi _ (ic (i:=i) (by omega))
  have aj:=Tu.mp hi _ (ic (i:=j) (by omega))
  have r1:=iQ rs (i:=i) (by omega)
  have r2:=iQ rs (i:=j) (by omega)
  have v1:=iT rv (i:=i) (by omega)
  have v2:=iT rv (i:=j) (by omega)
  show S8 _ _ (keyLt' oneType' (Su.getD i T_) (Su.getD j T_)) _ _ _
  rw [keyLt'_oneType]
  have e:ltB ds i j=(dI (dc ds i) (dc ds j)).getD false:=rfl
  rw [e] at cc
  generalize dc ds i=di at ai r1 cc
  generalize dc ds j=dj at aj r2 cc
  generalize vs.getD i V.non=wi at r1 v1
  generalize vs.getD j V.non=wj at r2 v2
  cases di with
  | int a=>
   cases dj with
   | int b=>
    cases r1;cases r2
    obtain ⟨t1,q1⟩:=v1
    obtain ⟨t2,q2⟩:=v2
    rw [q1,q2]
    refine oneLt_int ?_
    unfold dI at cc
    exact cc
   | _=>cases aj
  | _=>cases ai
section
variable {X:Cx}{c:C}{e:TV}{es:List TV}{pos:Pos}
theorem mY {H:Hp}{Q:VK}{E:SI->SJ->Prop}{vs:List V}{ds:List D}(I:Inv X Sq σ H s) (QS:Coll X.prog X.w X.A.in1 s x Su) (rv:Vals vs Su) (l2:ds.length=vs.length) (l64:ds.length < 64)
 (ha:yN X.prog X.w X.A.in1.in1 s Su (ltB ds)) (q:∀l vs',H l=none->(∀J,aH X.K J ds vs->aH X.K J (bN ds) vs')->Q (.ref l) (upd H l (.lst vs'))):S8 (Ti X.prog X.w) X.A (call (.builtin "sorted") [x]) (EP X Sq σ Q) E s:=by
 have l1:vs.length=Su.length:=rv.length
 refine KZ QS (by omega) ha λh' tk l n kp hl hg=>?_
 have fin:∀(ot:List SI) (vs':List V),vs'.length=vs.length->Vals vs' ot->(∀J,aH X.K J ds vs->aH X.K J (bN ds) vs')->h'.get? l=some (Wx "list" ot.toArray n)->EP X Sq σ Q (.ref l) {s with heap:=h',toks:=tk}:=λot vs' lv rv' rr hg=>
  ⟨.ref l,_,I.laid (t':=tk) kp hl (show cG X.prog X.w _ _ _ (.lst vs') from ⟨by rw [lv,UB];omega,ot,n,rv',by simpa [Wx] using hg⟩),rfl,q l vs' (I.hok.fresh hl) rr⟩
 by_cases h2:Su.length < 2
 ·rw [if_pos h2] at hg
  refine fin Su vs rfl rv (λJ rj=>?_) hg
  unfold bN
  rw [if_pos (by omega)]
  exact rj
 ·rw [if_neg h2] at hg
  have ib:∀i∈(bf (ltB ds) (WG ds.length)).toList,i < ds.length:=λi hi=>by
   have:=((jn (n:=ds.length) (by omega)).run (ltB ds):gw _ _)
   have:=(YA this).mp (Array.mem_toList_iff.mp hi)
   simpa using this
  have e1:qK (ltB ds) Su=(bf (ltB ds) (WG ds.length)).toList.map λi=>Su.getD i T_:=by unfold qK;rw [l2,l1]
  rw [e1] at hg
  refine fin _ _ ?_ (B_ rv _ λi hi=>l2▸ib i hi) (λJ rj=>?_) hg
  ·rw [SK,<-l2]
   have:=((jn (n:=ds.length) (by omega)).run (ltB ds):gw _ _).size_eq
   simpa using this
  ·unfold bN
   rw [if_neg (by omega)]
   exact BZ rj _ ib
theorem Gz {H:Hp}(I:Inv X Sq σ H s) (h:cB X.K H p vs\/cL X.K H p vs):∃Su,Vals vs Su/\Coll X.prog X.w A s (.ref p) Su:=by
 rcases h with h | h
 ·obtain ⟨Su,r,⟨o,n,ho,hc,_,hd⟩,hz⟩:=I.list h
  exact ⟨Su,r,Bo (.inl rfl) ho hc hd (r.length▸hz)⟩
 ·obtain ⟨Su,r,pt,hz⟩:=I.tuple h
  obtain ⟨o,ho,hc,n,hd⟩:=pt
  exact ⟨Su,r,Bo (.inr rfl) ho hc hd (r.length▸hz)⟩
theorem G1 {H:Hp}{ds:List D}(hu:X.A.units + 64 < UL) (I:Inv X Sq σ H s) (rs:aH X.K H ds vs) (rv:Vals vs Su) (ok:xC ds=true):ds.length < 64/\yN X.prog X.w X.A.in1.in1 s Su (ltB ds):=by
 have l1:vs.length=Su.length:=rv.length
 have l2:ds.length=vs.length:=rs.length
 by_cases h2:ds.length < 2
 ·exact ⟨by omega,λh=>absurd h (by omega)⟩
 ·unfold xC at ok
  rw [decide_eq_false h2,acC,SN,SN,SN] at ok
  obtain ⟨o1,o2,o3,o4⟩:=ok
  have o2:=of_decide_eq_true o2
  obtain ⟨k,hk⟩:∃k,gO k ds=true:=by
   unfold G0 at o3
   cases ds with
   | nil=>cases o3
   | cons d r=>
    simp only at o3
    cases z:gV d with
    | none=>rw [z] at o3;cases o3
    | some k=>rw [z] at o3;exact ⟨k,o3⟩
  refine ⟨of_decide_eq_true o1,DU (gH I) rs rv (k:=k) (λd hd=>⟨mw hk d hd,?_⟩) hk (λx hx y hy=>Tu.mp (Tu.mp o4 _ hx) _ hy) hu⟩
  obtain ⟨i,hi,rfl⟩:=Uj.mp hd
  have:=Jv hi
  have e:dc ds i=ds[i]:=by simp [dc,hi]
  rw [e] at this
  omega
theorem zx (hu:X.A.units + 64 < UL):bP X (.builtin "sorted") (λxs H Q=>∃p vs ds,xs=[.ref p]/\(cB X.K H p vs\/cL X.K H p vs)/\aH X.K H ds vs/\(xC ds=true\/vc ds=true)/\∀l vs',H l=none->(∀J,aH X.K J ds vs->aH X.K J (bN ds) vs')->Q (.ref l) (upd H l (.lst vs'))):=by
 intro Sq s σ H xs us Q I r h
 obtain ⟨p,vs,ds,rfl,hq,rs,ok,q⟩:=h
 obtain ⟨u,rfl,rx⟩:=vals1 r
 cases rx
 obtain ⟨Su,rv,col⟩:=Gz I hq
 rcases ok with ok | ok
 ·obtain ⟨l64,ha⟩:=G1 hu I rs rv ok
  exact mY I col rv rs.length l64 ha q
 ·unfold vc at ok
  rw [SN] at ok
  exact mY I col rv rs.length (of_decide_eq_true ok.1) (DT rs rv ok.2) q
end
end DL
namespace DL
open PySem PySem.Spec PyProof.Rows L2
section
variable {X:Cx}{c:C}{e:TV}{g:G R}{pos:Pos}
noncomputable def tW (i:Nat) (f:R->R->M R) (g:G R):G O:=λenv=>match env[i]? with
 | some (some (.d d))=>g env >>= λy=>f (.d d) y >>= λz=>toS z >>= λx=>.ok (.nx (env.set i (some x)))
 | _=>.bad
theorem Ke (i:Nat){x:Str}{pos':Pos}{op:ado}{r:R2}{f:R->R->M R}(hN:X.N.Nodup) (ho:c_ X (Zr op) r) (hb:BD c r f) (h:PD X c e g) (hi:X.N[i]?=some x:=by rfl) (hx:Loc X.env.scope x:=by first | exact XW rfl | exact Wm rfl)
  (hf:X.fn x=true\/X.env.scope.names.lookup x=some .local:=by first | exact .inl rfl | exact .inr rfl):A7 X c (.AugAssign (.Name x pos') op e pos) (tW i f g):=
 iK (MZ hN hi hx h (λSq s σ H x y v u Q I rx ry q=>O8 ho I rx ry q) hf) λE σ H ⟨J,env,sr,w⟩=>by
 unfold tW at w
 split at w
 ·rename_i d hd
  obtain ⟨v,h1,h2⟩:=sr.at_ i _ hd
  refine ⟨v,h1,J,env,sr,aF (aL w) λy wr v' J1 H1 e1 r1=>?_⟩
  have sr1:=sr.ext e1
  refine hb H H J1 H1 (.d d) y v v' _ sr1.hp (Rep.mono e1.j h2) r1 (aF (aL wr) λz wz w' J2 H2 e2 r2=>?_)
  obtain ⟨x,q,wz⟩:=oh wz
  exact wz (σ.set i (some w')) J2 H2 (e1.j.trans e2.j) (sr1.set e2 r2 q)
 ·exact w.elim
end
section
variable {X:Cx}{c:C}{e:TV}{es:List TV}{pos:Pos}
noncomputable def vZ:List R->M R
 | [.d (.int i)]=>.ok (.d (.int i))
 | [.d (.bl k)]=>.ok (.d (.int (if k then 1 else 0)))
 | _=>.bad
theorem D4:Ue "int"=some (.type "int"):=by decide +kernel
end
end DL
namespace DL
open PySem PySem.Spec PyProof.Rows L2 DX
section
variable {M:adA}{A:TR}{E:SI->SJ->Prop}{s:SJ}
theorem Dd {So:VN}{globals:Tg}{closure:List (Str×Tg)}{Sx:Str}{func:Option Tg}{code:SI}{outer:Env}{builtins:Tg}{Q:Env->SJ->Prop}
  (hQ:Q (newEnv So s.heap.objs.size globals (Uh (s.heap.objs.size + 1) So.names closure) Sx func code (some outer) builtins) {s with heap:=abC (s.heap.push {cls:=.type "dict",data:=.dict #[]}) So.names}):
  S8 M A (ab0 So globals closure [] Sx func code (some outer) builtins) Q E s:=by
 simp only [ab0,Option.isSome_some,if_true]
 refine SE (wpAny_alloc ?_)
 refine SE (wpAny_layCells _ (λname kind cells=>by cases hkc:kind == Xf <;> simp [hkc]) _ _ _ _ ?_)
 rw [show ({s with heap:=s.heap.push {cls:=.type "dict",data:=.dict #[]}}:SJ).heap.objs.size=s.heap.objs.size + 1 from VV ..]
 simp only [List.forIn_nil]
 exact SE (SH (SH hQ))
theorem jK:∀(names:List (Str×Vx)) (n:Nat) (acc:List (Str×Tg)) (x:Str),(∀y∈names,y.2=.cell->y.1≠x)->(Uh n names acc).lookup x=acc.lookup x
 | [],_,_,_,_=>by unfold Uh;rfl
 | (y,k)::r,n,acc,x,h=>by
  have hr:∀z∈r,z.2=.cell->z.1≠x:=λz hz=>h z (SS _ hz)
  unfold Uh
  split
  ·rename_i hk
   rw [jK r _ _ x hr]
   have hy:y≠x:=h (y,k) (SV ..) (by simpa using hk)
   have:(x == y)=false:=by
    cases q:x == y with
    | false=>rfl
    | true=>exact absurd (eq_of_beq q).symm hy
   rw [UU,this]
  ·exact jK r _ _ x hr
end
theorem ym:∀(names:List (Str×Vx)) (n:Nat) (acc:List (Str×Tg)),Uh n names acc=Uh n names []++acc:=by
 intro names
 suffices ∀(n:Nat) (a b:List (Str×Tg)),Uh n names (a++b)=Uh n names a++b by
  intro n acc
  exact this n [] acc
 induction names with
 | nil=>intro n a b;unfold Uh;rfl
 | cons p r ih=>
  obtain ⟨y,k⟩:=p
  intro n a b
  unfold Uh
  split
  ·exact ih _ (_::a) b
  ·exact ih _ a b
def cY (names:List (Str×Vx)) (x:Str):Bool:=names.any λy=>y.1 == x && y.2 == .cell
theorem gx:∀(names:List (Str×Vx)) (n:Nat) (acc:List (Str×Tg)) (x:Str),((acc.lookup x).isSome=true\/cY names x=true)->((Uh n names acc).lookup x).isSome=true
 | [],_,_,_,h=>by
  unfold Uh
  rcases h with h | h
  ·exact h
  ·cases h
 | (y,k)::r,n,acc,x,h=>by
  unfold Uh
  have e:cY ((y,k)::r) x=((y == x && k == .cell) || cY r x):=rfl
  rw [e] at h
  split
  ·rename_i hk
   refine gx r _ _ x ?_
   by_cases hx:x=y
   ·left;subst hx;rw [UU];simp
   ·rcases h with h | h
    ·left
     rw [UU]
     cases q:x == y with
     | true=>exact absurd (eq_of_beq q) hx
     | false=>exact h
    ·rw [V6,SN] at h
     rcases h with h | h
     ·exact absurd (eq_of_beq h.1).symm hx
     ·exact .inr h
  ·rename_i hk
   refine gx r _ _ x ?_
   rcases h with h | h
   ·exact .inl h
   ·rw [V6,SN] at h
    rcases h with h | h
    ·exact absurd h.2 hk
    ·exact .inr h
theorem fZ {cl:List (Str×Tg)}(h:(Uh n names cl).lookup x=some d):
  (Uh n names []).lookup x=some d\/(cY names x=false/\cl.lookup x=some d):=by
 rw [ym,List.lookup_append] at h
 cases q:(Uh n names []).lookup x with
 | some e=>rw [q] at h;left;simpa using h
 | none=>
  rw [q] at h
  right
  refine ⟨?_,by simpa using h⟩
  cases z:cY names x with
  | false=>rfl
  | true=>
   have:=gx names n [] x (.inr z)
   rw [q] at this
   cases this
theorem pV {So:VN}(h:(relabel So env).names.lookup x=some .cell\/(relabel So env).names.lookup x=some .free):(x,UA)∈So.names\/cY So.names x=true:=by
 unfold relabel at h
 revert h
 generalize So.names=names
 induction names with
 | nil=>intro h;simp at h
 | cons p r ih=>
  obtain ⟨n,k⟩:=p
  intro h
  rw [Td] at h
  simp only at h
  by_cases hx:x=n
  ·subst hx
   cases k with
   | free=>exact .inl (SV ..)
   | cell=>right;unfold cY;simp
   | _=>simp [UU] at h
  ·have e:(x == n)=false:=by simpa using hx
   have h':(r.map λ(n,k)=>if (k == UA && env.scope.kind == .function && env.kindOf n == some .cell) then (n,Xf) else (n,k)).lookup x=some .cell\/(r.map λ(n,k)=>if (k == UA && env.scope.kind == .function && env.kindOf n == some .cell) then (n,Xf) else (n,k)).lookup x=some .free:=by
    split at h <;> simpa [UU,e] using h
   rcases ih h' with z | z
   ·exact .inl (SS _ z)
   ·right
    unfold cY at z ⊢
    rw [aar,z,Bool.or_true]
section
variable {X:Cx}
noncomputable def aV (X:Cx) (own:List Str) (cap:List Nat) (So:VN) (cl:List (Str×Tg)) (C:Tg) (s:SJ) (H:Hp) (fp:List Tg):Cx:=
 {LJ X own cap So (Uh (C + 1) So.names cl) C s H fp with fn:=cY So.names}
theorem Jt {H:Hp}{s:SJ}{So:VN}(I:Inv X Sq σ H s) (hk:So.kind=.function)
 (hcl:bF X.env.cells So.names []=some cl) (ck:adm h1 (s.heap.objs.size + 1) (Uh (s.heap.objs.size + 1) So.names [])) (hfp:∀b∈fp,jI X Sq H b) (hin:∀b∈fp,b < s.heap.objs.size):(aV X own cap So cl s.heap.objs.size s H fp).Ok:=by
 obtain ⟨m1,m2⟩:=gU So.names [] cl hcl (λx c h=>by simp at h)
 have lo:∀{x:Str}{d:Tg},(Uh (s.heap.objs.size + 1) So.names []).lookup x=some d->s.heap.objs.size + 1<=d:=fun {x d} h=>(ck.empty _ _ (Xj h)).2
 have old:∀{x:Str}{d:Tg},cl.lookup x=some d->d < s.heap.objs.size:=fun {x d} h=>by
  obtain ⟨v,z⟩:=I.cell x d (m1 x d h)
  exact z.lt
 refine ⟨I.ok.mod,hk,I.ok.glob,I.ok.blt,SW _,λx y d h1 h2=>?_,λx hx=>?_,λx d hf h=>?_,λhc=>I.ok.hd hc,I.ok.frames,.inl rfl,λb hb=>⟨Tr (hin b hb),λx d h=>?_⟩,
  I.bs,Tz I.ok.bsz I.sz,λb o h hb=>?_,λb hb hf=>?_,I.stack,I.stkFree⟩
 ·rcases fZ h1 with h1 | ⟨_,h1⟩
  ·rcases fZ h2 with h2 | ⟨_,h2⟩
   ·exact name_of_addr ck.apart (Xj h1) (Xj h2)
   ·exact absurd (To (old h2) (V7 (lo h1))) (Vg _)
  ·rcases fZ h2 with h2 | ⟨_,h2⟩
   ·exact absurd (To (old h1) (V7 (lo h2))) (Vg _)
   ·exact I.ok.inj x y d (m1 x d h1) (m1 y d h2)
 ·refine Ub.mp (gx _ _ _ x ?_)
  rcases pV hx with z | z
  ·exact .inl (m2 x (.inr z))
  ·exact .inr z
 ·rcases fZ h with h | ⟨z,h⟩
  ·exact V7 (lo h)
  ·have hf':cY So.names x=true:=hf
   rw [z] at hf'
   cases hf'
 ·rcases fZ h with h | ⟨_,h⟩
  ·exact Vj (To (hin b hb) (V7 (lo h)))
  ·exact (hfp b hb).2.2.2.2.1 x d (m1 x d h)
 ·rcases (hfp b hb).2.2.2.1 with z | z
  ·exact I.ok.noex b o h z
  ·exact absurd (To (S9 (I.ok.bs b o h).1) z) (Vg _)
 ·rcases S7.mp (I.stkSub b hf) with e | e
  ·exact (hfp b hb).2.1 e
  ·exact (hfp b hb).2.2.1 e
end
theorem Ab {cl:List (Str×Tg)}(h:cY names x=false):(Uh n names cl).lookup x=cl.lookup x:=
 jK names n cl x λy hy hk e=>by
  unfold cY at h
  have:=List.any_eq_false.mp h y hy
  simp [hk,e] at this
section
variable {X:Cx}
theorem Gk {Sq:List (Tg×Obj)}{σ:L2.St}{H:Hp}{s:SJ}{own:List Str}{cap:List Nat}{So:VN}{cl:List (Str×Tg)}{fp:List Tg}{h1:Uz}{m:Str->Option SI}{tk:Nat}(I:Inv X Sq σ H s) (ok:(aV X own cap So cl s.heap.objs.size s H fp).Ok)
  (hcl:bF X.env.cells So.names []=some cl) (ck:adm h1 (s.heap.objs.size + 1) (Uh (s.heap.objs.size + 1) So.names [])) (hcap:dS X cap=true) (Qu:∀j∈cap,∀x,X.N[j]?=some x->(relabel So X.env).names.lookup x≠some .local)
  (hno:∀j∈cap,∀x,X.N[j]?=some x->cY So.names x=false) (hns:h1.Ns s.heap.objs.size m) (old:∀b o,s.heap.get? b=some o->h1.get? b=some o):
  Inv (aV X own cap So cl s.heap.objs.size s H fp) [] (UQ own.length none++cap.map λ(j:Nat)=>(σ[j]?).getD none) H {s with heap:=h1,toks:=tk}:=by
 obtain ⟨m1,m2⟩:=gU So.names [] cl hcl (λx c h=>by simp at h)
 refine ⟨ok,rfl,I.bare,Un.kept old,⟨m,hns,λi x v q1 q2 q3=>?_⟩,λx d h=>?_,I.hok.fresh (SW _),λx d h=>?_,λp hp=>absurd (show p∈([]:List (Tg×Obj)) from hp) (by simp),I.hok.kept old,?_⟩
 ·obtain ⟨j,h2,h3,h4⟩:=kJ q2
  have q1':(own++cap.map λ(j:Nat)=>(X.N[j]?).getD ("":Str))[i]?=some x:=q1
  rw [UM (by exact h2),Tq,h3] at q1'
  have hj:j∈cap:=Ui h3
  have hc:(match X.N[j]? with
   | some x=>(match X.env.scope.names.lookup x with
    | some .cell=>true
    | some .free=>true
    | _=>false)
   | none=>false)=true:=by
   unfold dS at hcap
   exact Tu.mp hcap j hj
  cases hx:X.N[j]? with
  | none=>rw [hx] at hc;cases hc
  | some y=>
   rw [abv,hx] at q1'
   rw [hx] at hc
   have e:y=x:=by simpa using q1'
   subst e
   have kd:X.env.kindOf y=some .cell\/X.env.kindOf y=some .free:=by
    unfold adC
    simp only at hc
    split at hc
    ·rename_i z;exact .inl z
    ·rename_i z;exact .inr z
    ·cases hc
   obtain ⟨mX,nX,lX⟩:=I.loc
   obtain ⟨u,ru,lu⟩:=lX j y v hx h4 (kd.elim (λz=>.inr (.inl z)) λz=>.inr (.inr z))
   refine ⟨u,ru,.inr ?_⟩
   have kd':(relabel So X.env).names.lookup y=some .cell\/(relabel So X.env).names.lookup y=some .free:=by
    rcases q3 with z | z | z
    ·exact absurd z (Qu j hj y hx)
    ·exact .inl z
    ·exact .inr z
   refine ⟨kd',?_⟩
   have no:=hno j hj y hx
   have fr:(y,UA)∈So.names:=by
    rcases pV kd' with z | z
    ·exact z
    ·rw [no] at z;cases z
   obtain ⟨d,hd⟩:=Ub.mp (m2 y (.inr fr))
   refine ⟨d,(Ab no).trans hd,?_⟩
   rcases lu with ⟨z,_⟩ | ⟨_,d',hd',z⟩
   ·rcases kd with k | k <;> (rw [k] at z;cases z)
   ·have:=m1 y d hd
    rw [hd'] at this
    cases this
    obtain ⟨o,ho,hod⟩:=z
    exact ⟨o,old _ _ ho,hod⟩
 ·rcases fZ h with h | ⟨_,h⟩
  ·exact ⟨none,(ck.empty _ _ (Xj h)).1⟩
  ·obtain ⟨v,o,ho,hod⟩:=I.cell x d (m1 x d h)
   exact ⟨v,o,old _ _ ho,hod⟩
 ·rcases fZ h with h | ⟨_,h⟩
  ·exact I.hok.fresh (V7 (ck.empty _ _ (Xj h)).2)
  ·exact I.freeC x d (m1 x d h)
 ·show _=(own++cap.map λ(j:Nat)=>(X.N[j]?).getD ("":Str)).length
  simp
end
theorem MA (h:Uz) (names:List (Str×Vx)):(abC (h.push {cls:=.type "dict",data:=.dict #[]}) names).Ns h.objs.size (λ_=>none):=
 (Heap.Ns.new h (.type "dict")).keeps λb o e=>abD _ _ _ _ e
theorem Eg (h:Uz) (names:List (Str×Vx)):adm (abC (h.push {cls:=.type "dict",data:=.dict #[]}) names) (h.objs.size + 1) (Uh (h.objs.size + 1) names []):=by
 have:=cellsFrom_ok names (h.push {cls:=.type "dict",data:=.dict #[]}) (h.objs.size + 1) [] ⟨λ_ _ hm=>(nomatch hm),V5⟩ (by rw [VV];exact SW _)
 rw [VV] at this
 exact this
noncomputable def fF (X:Cx) (cap:List Nat) (So:VN):Bool:=cap.all λj=>match X.N[j]? with
 | some x=>!cY So.names x
 | none=>true
section
variable {X:Cx}{c:C}
theorem rE {names names2:List (Str×Vx)}(h:bF cells names []=some cl)
 (hn:(names2.all λy=>!(y.2 == .free) || ((names.any λz=>z.1 == y.1 && z.2 == .free) || cY names y.1))=true):(bF (Uh n names cl) names2 []).isSome=true:=by
 obtain ⟨_,m2⟩:=gU names [] cl h (λx c h=>by simp at h)
 have go:∀(l:List (Str×Vx)) (cs:List (Str×Tg)),(l.all λy=>!(y.2 == .free) || ((names.any λz=>z.1 == y.1 && z.2 == .free) || cY names y.1))=true->(bF (Uh n names cl) l cs).isSome=true:=by
  intro l
  induction l with
  | nil=>intro cs _;rfl
  | cons y r ih=>
   obtain ⟨y,k⟩:=y
   intro cs hl
   rw [VP,SN] at hl
   unfold bF
   split
   ·rename_i hk
    have h1:=hl.1
    simp only [hk,Vy,acC,V6] at h1
    have:((Uh n names cl).lookup y).isSome=true:=by
     refine gx names n cl y ?_
     rcases h1 with z | z
     ·obtain ⟨q,hq,e⟩:=VJ.mp z
      rw [SN] at e
      have e1:q=(y,UA):=by
       obtain ⟨q1,q2⟩:=q
       have a1:q1=y:=eq_of_beq e.1
       have a2:q2=UA:=by simpa using e.2
       rw [a1,a2]
      exact .inl (m2 y (.inr (e1▸hq)))
     ·exact .inr z
    obtain ⟨a,ha⟩:=Ub.mp this
    rw [ha]
    exact ih _ hl.2
   ·exact ih _ hl.2
 exact go names2 [] hn
end
section
variable {X:Cx}{c:C}{e:TV}{es:List TV}{g:G R}{pos:Pos}
theorem qQ {p:Pos}{gs:G (List R)}(ha:jj X c (e::es) gs) (hm:X.mg "int"=none) (hg:Gl X "int":=by rfl)
  (he:SX (e::es) X.env=(false,eval e X.env)::SX es X.env:=by rfl) (hpl:(Vb pos (SX es X.env)).any (·.1)=false:=by rfl):QD X c (.Call (.Name "int" p) (e::es) [] pos) (gN vZ gs):=have ha:=ha.h;⟨
 qL D9 (by
  intro He J H xs vs Q hp rs w
  unfold vZ at w
  split at w
  ·obtain ⟨v,rfl,r⟩:=rs.one
   cases r
   exact .inl ⟨_,rfl,w _ J H (Ext.refl hp.sub) (.int _)⟩
  ·obtain ⟨v,rfl,r⟩:=rs.one
   cases r
   exact .inr ⟨_,rfl,w _ J H (Ext.refl hp.sub) (.int _)⟩
  ·exact w.elim) D4 hm ha hg (by decide) (by decide) he hpl⟩
theorem Fq (i:Nat) (hN:X.N.Nodup) (h:QD X c e g) (hi:X.N[i]?=some x:=by rfl) (hx:Loc X.env.scope x:=by first | exact XW rfl | exact Wm rfl) (hf:X.fn x=true\/X.env.scope.names.lookup x=some .local:=by first | exact .inl rfl | exact .inr rfl):
  iX X c (.AugAssign (.Name x pos') .Add e pos) (tW i vY g):=have h:=h.h;⟨Ke i hN JH (kI λ_ _ _=>.int _) h hi hx hf⟩
end
end DL
namespace K51
open PySem DL
end K51
namespace WP
open PySem DL K01
def Wp {α:Type}(m:M α) (P:α->Prop):Prop:=∃a,m=.ok a/\P a
section
variable {α β:Type}{m:M α}{P P':α->Prop}{a:α}{env:Ev}{Q:O->Prop}{t u:G O}{g:G R}{r r':R}{i:Nat}{b:G Bool}
theorem Wp.mono (h:Wp m P) (k:∀a,P a->P' a):Wp m P':=let ⟨a,h1,h2⟩:=h;⟨a,h1,k a h2⟩
theorem Wp.eq (h:Wp m (·=a)):m=.ok a:=let ⟨_,h1,h2⟩:=h;h2▸h1
theorem pG {P:R->Prop}(h:Wp (t env) λo=>∃r,o=.rt r/\P r):Wp (fin (t env)) P:=by
 obtain ⟨_,h1,r,rfl,h2⟩:=h
 exact ⟨r,by rw [h1];rfl,h2⟩
theorem rq (h:Wp (t env) λo=>∃e,o=.nx e):fin (t env)=.ok (.d .non):=by
 obtain ⟨_,h1,r,rfl⟩:=h
 rw [h1];rfl
theorem b8 (h:Wp (t env) (·=.rt r)):fin (t env)=.ok r:=by
 rw [h.eq];rfl
theorem cu (h:Wp (t env) λo=>match o with
 | .nx e=>Wp (u e) Q
 | o=>Q o):Wp (aI t u env) Q:=by
 obtain ⟨o,h1,h2⟩:=h
 show Wp (t env >>= _) Q
 rw [h1]
 cases o with
 | nx e=>exact h2
 | rt r=>exact ⟨_,rfl,h2⟩
 | bk e=>exact ⟨_,rfl,h2⟩
 | ct e=>exact ⟨_,rfl,h2⟩
theorem fM (h:g env=.ok r) (h2:toS r=.ok x) (k:Q (.nx (env.set i (some x)))):Wp (aZ i g env) Q:=⟨_,by show (g env >>= _)=_;rw [h,aO,h2];rfl,k⟩
theorem bD (h:g env=.ok r) (h2:toS r=.ok x) (k:Wp (u (env.set i (some x))) Q):Wp (aI (aZ i g) u env) Q:=cu (fM h h2 k)
theorem bG (h:g env=.ok r) (h2:rF r=.ok r') (k:Q (.rt r')):Wp (bq g env) Q:=⟨_,FE h h2,k⟩
theorem Oq (h:g env=.ok r) (h2:rF r=.ok r') (k:Q (.rt r')):Wp (aI (bq g) u env) Q:=cu (bG h h2 k)
theorem fc (k:Q (.nx env)):Wp (cS env) Q:=⟨_,rfl,k⟩
theorem Px (k:Wp (u env) Q):Wp (aI cS u env) Q:=cu (fc k)
theorem u6 (h:b env=.ok true) (k:Wp (t env) Q):Wp (bK b t u env) Q:=by rw [kZ h];exact k
theorem oW (h:b env=.ok false) (k:Wp (u env) Q):Wp (bK b t u env) Q:=by rw [nM h];exact k
theorem iO (h:b env=.ok c) (k1:c=true->Wp (t env) Q) (k2:c=false->Wp (u env) Q):Wp (bK b t u env) Q:=by
 cases c with
 | true=>exact u6 h (k1 rfl)
 | false=>exact oW h (k2 rfl)
theorem Ot {v:G O}(h:b env=.ok true) (k:Wp (aI t v env) Q):Wp (aI (bK b t u) v env) Q:=by
 have:aI (bK b t u) v env=aI t v env:=by unfold aI;rw [kZ h]
 rw [this];exact k
theorem Pw {v:G O}(h:b env=.ok false) (k:Wp (aI u v env) Q):Wp (aI (bK b t u) v env) Q:=by
 have:aI (bK b t u) v env=aI u v env:=by unfold aI;rw [nM h]
 rw [this];exact k
theorem jC {v:G O}(h:b env=.ok false) (k:Wp (v env) Q):Wp (aI (bK b t cS) v env) Q:=Pw h (Px k)
theorem kN {xs:List D}(h0:env[i]?=some (some (.own xs))) (h:g env=.ok r) (h2:toD r=.ok d) (hl:xs.length<=1000) (k:Q (.nx (env.set i (some (.own (xs++[d])))))):Wp (gK i g env) Q:=by
 refine ⟨_,?_,k⟩
 unfold gK
 rw [h0]
 show (g env >>= _)=_
 rw [h,aO,h2,aO,if_pos (YB hl (by decide))]
theorem Oo {xs:List D}{d:D}(h0:env[i]?=some (some (.own xs))) (h:g env=.ok r) (h2:toD r=.ok d) (hl:xs.length<=1000) (k:Wp (u (env.set i (some (.own (xs++[d]))))) Q):Wp (aI (gK i g) u env) Q:=cu (kN h0 h h2 hl k)
theorem mP {gi:G (List D)}(h:gi env=.ok ds) (k:Wp (fh tg u ds env) Q):Wp (b_ gi tg u env) Q:=by rw [LS h];exact k
theorem d_ {gi:G (List D)}{v:G O}(h:gi env=.ok ds) (k:Wp (fh tg t ds env) λo=>match o with
 | .nx e=>Wp (v e) Q
 | o=>Q o):Wp (aI (b_ gi tg t) v env) Q:=cu (mP h k)
theorem kh {tg:GT}(I:Nat->Ev->Prop) (ds:List D) (h0:I 0 env) (step:∀(k:Nat) (hk:k < ds.length) (env:Ev),I k env->∃e,tg ds[k] env=.ok e/\Wp (u e) λo=>∃e,o=.nx e/\I (k + 1) e)
  (k:∀e,I ds.length e->Q (.nx e)):Wp (fh tg u ds env) Q:=by
 have key:∀(es:List D) (i:Nat) (env:Ev),ds.drop i=es->i<=ds.length->I i env->Wp (fh tg u es env) Q:=by
  intro es
  induction es with
  | nil=>
   intro i env hd hi hI
   have:i=ds.length:=by
    have:=congrArg UX hd
    rw [Vs] at this
    simp at this;omega
   subst this
   exact ⟨_,rfl,k _ hI⟩
  | cons d es ih=>
   intro i env hd hi hI
   have hlt:i < ds.length:=by
    have:=congrArg UX hd
    rw [Vs] at this
    simp at this;omega
   have e1:=WT hlt
   rw [hd] at e1
   obtain ⟨q1,q2⟩:=acD e1
   obtain ⟨e,h1,_,h2,e2,rfl,h3⟩:=step i hlt env hI
   unfold fh
   rw [q1,h1,aO,h2,aO]
   exact ih (i + 1) e2 q2.symm (by omega) h3
 exact key ds 0 env rfl (Tp _) h0
theorem iw {tg:GT}(I:Nat->Ev->Prop) (h0:I 0 env) (step:∀(k:Nat),k < n->∀env,I k env->∃e,tg (.int k) env=.ok e/\Wp (u e) λo=>∃e,o=.nx e/\I (k + 1) e)
 (k:∀e,I n e->Q (.nx e)):Wp (fh tg u (fW 0 n) env) Q:=by
 have hl:(fW 0 n).length=n:=by simp [fW]
 refine kh I (fW 0 n) h0 (λj hj env hI=>?_) (by rw [hl];exact k)
 obtain ⟨e,h1,h2⟩:=step j (by rw [hl] at hj;exact hj) env hI
 refine ⟨e,?_,h2⟩
 rw [<-h1]
 simp [fW]
theorem n1 {f:List R->M R}(hx:g env=.ok x) (hf:f [x]=.ok z):gN f (ao g aD) env=.ok z:=N9 hx hf
theorem two {f:R->R->M R}{h:G R}{x y z:R}(hx:g env=.ok x) (hy:h env=.ok y) (hf:f x y=.ok z):g2 f g h env=.ok z:=by
 show (g env >>= _)=_
 rw [hx,aO,hy,aO,hf]
theorem c1 {F:List S->M R}(hx:g env=.ok x) (hF:F [eK x]=.ok z):gN (aS 1 F) (ao g aD) env=.ok (lK z):=by
 show (ao g aD env >>= _)=_
 unfold ao aD
 rw [hx]
 show (match F [eK x] with | .ok r=>M.ok (lK r) | _=>M.bad)=_
 rw [hF]
theorem c2 {F:List S->M R}{h:G R}(hx:g env=.ok x) (hy:h env=.ok y) (hF:F [eK x,eK y]=.ok z):gN (aS 2 F) (ao g (ao h aD)) env=.ok (lK z):=by
 show (ao g (ao h aD) env >>= _)=_
 unfold ao aD
 rw [hx,hy]
 show (match F [eK x,eK y] with | .ok r=>M.ok (lK r) | _=>M.bad)=_
 rw [hF]
theorem c3 {F:List S->M R}{h k:G R}(hx:g env=.ok x) (hy:h env=.ok y) (hw:k env=.ok w) (hF:F [eK x,eK y,eK w]=.ok z):gN (aS 3 F) (ao g (ao h (ao k aD))) env=.ok (lK z):=by
 show (ao g (ao h (ao k aD)) env >>= _)=_
 unfold ao aD
 rw [hx,hy,hw]
 show (match F [eK x,eK y,eK w] with | .ok r=>M.ok (lK r) | _=>M.bad)=_
 rw [hF]
theorem c4 {F:List S->M R}{h k l:G R}(hx:g env=.ok x) (hy:h env=.ok y) (hw:k env=.ok w) (hv:l env=.ok v) (hF:F [eK x,eK y,eK w,eK v]=.ok z):gN (aS 4 F) (ao g (ao h (ao k (ao l aD)))) env=.ok (lK z):=by
 show (ao g (ao h (ao k (ao l aD))) env >>= _)=_
 unfold ao aD
 rw [hx,hy,hw,hv]
 show (match F [eK x,eK y,eK w,eK v] with | .ok r=>M.ok (lK r) | _=>M.bad)=_
 rw [hF]
theorem jM (h:g env=.ok r) (k:Wp (u env) Q):Wp (aI (jt g) u env) Q:=cu ⟨.nx env,by show (g env >>= _)=_;rw [h];rfl,k⟩
theorem LC {n:Nat}{cap:List Nat}{gi:G (List D)}{tg:GT}{ge:G R}{gts:G Bool}{α:Type}{xs:List α}{h:α->D}(o:α->Ev) (p:α->Bool) (f:α->D) (hi:gi env=.ok (xs.map h)) (hl:xs.length<=1000000)
  (ho:∀x,(o x).length=n) (ht:∀x (e:Ev),e.length=n->tg (h x) (e++cE 0 cap env)=.ok (o x++cE 0 cap env))
  (hb:∀x∈xs,gts (o x++cE 0 cap env)=.ok (p x)/\(p x=true->∃r,ge (o x++cE 0 cap env)=.ok r/\toD r=.ok (f x))):bZ n cap gi tg gts ge env=.ok (.l .fresh ((xs.filter p).map f)):=by
 have key:∀(es:List α) (x:Ev),x.length=n->(∀d∈es,d∈xs)->fL tg gts ge (es.map h) (x++cE 0 cap env)=.ok ((es.filter p).map f):=by
  intro es
  induction es with
  | nil=>exact λ_ _ _=>rfl
  | cons d es ih=>
   intro x hx hm
   obtain ⟨h0,h1⟩:=hb d (hm d SV)
   have ih:=ih (o d) (ho d) λe he=>hm e (SS _ he)
   rw [Td]
   unfold fL
   rw [ht d x hx,aO,h0,aO]
   cases q:p d with
   | true=>
    obtain ⟨r,h1,h2⟩:=h1 q
    rw [if_pos rfl,h1,aO,h2,aO,ih,Xk q]
    rfl
   | false=>
    rw [if_neg (by decide),Xl (by simp [q])]
    exact ih
 unfold bZ
 rw [hi,aO,if_pos (by rw [UB,SK];omega)]
 show (fL tg gts ge _ (UQ n none++cE 0 cap env) >>= _)=_
 rw [key xs _ Vk λ_ h=>h]
 rfl
theorem Ij {α:Type}(xs:List α):xs.filter (λ_=>true)=xs:=Yk.mpr λ_ _=>rfl
theorem uG {gi:G (List D)}{ge:G R}{gts:G Bool}{α:Type}{xs:List α}{h:α->D}(p:α->Bool) (f:α->D) (hi:gi env=.ok (xs.map h)) (hl:xs.length<=1000000)
 (hb:∀x∈xs,gts (some (.d (h x))::cE 0 cap env)=.ok (p x)/\(p x=true->∃r,ge (some (.d (h x))::cE 0 cap env)=.ok r/\toD r=.ok (f x))):bZ 1 cap gi (aC 0) gts ge env=.ok (.l .fresh ((xs.filter p).map f)):=
 LC (λx=>[some (.d (h x))]) p f hi hl (λ_=>rfl) (λ_ e he=>match e,he with | [_],_=>rfl) hb
theorem oA {gi:G (List D)}{ge:G R}{α:Type}{xs:List α}{h:α->D}(f:α->D) (hi:gi env=.ok (xs.map h)) (hl:xs.length<=1000000)
 (hb:∀x∈xs,∃r,ge (some (.d (h x))::cE 0 cap env)=.ok r/\toD r=.ok (f x)):bZ 1 cap gi (aC 0) dY ge env=.ok (.l .fresh (xs.map f)):=by
 have:=uG (gts:=dY) (λ_=>true) f hi hl λx hx=>⟨rfl,λ_=>hb x hx⟩
 rwa [Ij] at this
theorem zE {cap:List Nat}{gi:G (List D)}{ge:G R}{gts:G Bool}{α:Type}{xs:List α}(a b:α->D) (p:α->Bool) (f:α->D) (hi:gi env=.ok (xs.map λx=>.tup [a x,b x])) (hl:xs.length<=1000)
  (h:∀x∈xs,gts (some (.d (a x))::some (.d (b x))::cE 0 cap env)=.ok (p x)/\(p x=true->∃r,ge (some (.d (a x))::some (.d (b x))::cE 0 cap env)=.ok r/\toD r=.ok (f x))):bZ 2 cap gi (dF 2 (bx (aC 0) (bx (aC 1) dM))) gts ge env=.ok (.l .fresh ((xs.filter p).map f)):=
 LC (λx=>[some (.d (a x)),some (.d (b x))]) p f hi (by omega) (λ_=>rfl) (λ_ e he=>match e,he with | [_,_],_=>rfl) h
theorem uH {gi:G (List D)}{ge:G R}{α:Type}{xs:List α}(a b:α->D) (f:α->D) (hi:gi env=.ok (xs.map λx=>.tup [a x,b x])) (hl:xs.length<=1000)
 (h:∀x∈xs,∃r,ge (some (.d (a x))::some (.d (b x))::cE 0 cap env)=.ok r/\toD r=.ok (f x)):bZ 2 cap gi (dF 2 (bx (aC 0) (bx (aC 1) dM))) dY ge env=.ok (.l .fresh (xs.map f)):=by
 have:=zE (gts:=dY) a b (λ_=>true) f hi hl λx hx=>⟨rfl,λ_=>h x hx⟩
 rwa [Ij] at this
theorem Nl (n:Nat):fW 0 n=(SM n).map dN:=by simp [fW]
theorem pe {gs:G (List R)}{n:Nat}(hg:gs env=.ok [.d (.int (n:Int))]) (h:n<=1000):b9 gs env=.ok ((SM n).map dN):=by rw [jB hg h,Nl]
theorem cX (h:g env=.ok x):ao g aD env=.ok [x]:=by
 show (g env >>= _)=_
 rw [h]
 rfl
theorem bh:aQ env=.ok []:=rfl
theorem aK {gs:G (List D)}(h:g env=.ok r) (h2:toD r=.ok d) (k:gs env=.ok ds):az g gs env=.ok (d::ds):=by
 show (g env >>= _)=_
 rw [h,aO,h2,aO,k]
 rfl
theorem bE {gs:G (List D)}{ds:List D}(h:gs env=.ok ds) (hl:ds.length<=1000):bz gs env=.ok (.d (.tup ds)):=by
 show (gs env >>= _)=_
 rw [h,aO,if_pos (fK hl)]
theorem fR {gs:G (List D)}{ds:List D}(h:gs env=.ok ds) (hl:ds.length<=1000):dJ gs env=.ok (.l .fresh ds):=by
 show (gs env >>= _)=_
 rw [h,aO,if_pos (fK hl)]
theorem qF {α:Type}{xs:List α}{h:α->D}(f:R) (hf:iy f=.ok (xs.map h)) (i:Int) (h0:0<=i) (hi:i < xs.length):∃x∈xs,aX f (.d (.int i))=.ok (.d (h x)):=by
 obtain ⟨k,rfl⟩:=Int.eq_ofNat_of_zero_le h0
 have hk:k < xs.length:=by omega
 refine ⟨xs[k],T3 hk,?_⟩
 have h1:(xs.map h)[k]?=some (h xs[k]):=by rw [Tq,S5 hk];rfl
 cases f with
 | d x=>
  cases x with
  | tup ys=>cases hf;exact nG h1
  | lst ys=>cases hf;unfold aX;simp only [iy,aO,rD h1]
  | _=>cases hf
 | l m x=>cases hf;exact rG h1
 | mo _ _=>cases hf
 | mb _ _=>cases hf
 | mf _ _=>cases hf
theorem rV (h:env[i]?=some (some (.own xs))) (k:Wp (t (env.set i (some (.d (.lst xs))))) Q):Wp (fJ i t env) Q:=by
 have:fJ i t env=t (env.set i (some (.d (.lst xs)))):=by unfold fJ;rw [h]
 rw [this];exact k
theorem N5 (h:g env=.ok r) (h2:toD r=.ok d) (h3:tg d env=.ok e) (k:Q (.nx e)):Wp (tV tg g env) Q:=⟨_,by show (g env >>= _)=_;rw [h,aO,h2,aO,h3];rfl,k⟩
theorem Du (h:g env=.ok r) (h2:toD r=.ok d) (h3:tg d env=.ok e) (k:Wp (u e) Q):Wp (aI (tV tg g) u env) Q:=cu (N5 h h2 h3 k)
theorem Ga {α:Type}(xs:List α) (z:α):L2.mC (xs++[z]) (-1)=some z:=by
 unfold L2.mC L2.zV
 rw [if_neg (by decide),if_pos (by simp;omega)]
 rw [show ((-1:Int) + ((xs++[z]).length:Nat)).toNat=xs.length by simp;omega]
 simp
theorem BE (xs:List D) (z:D):aX (.d (.tup (xs++[z]))) (.d (.int (-1)))=.ok (.d z):=by
 unfold aX
 simp only [iy,aO,Ga]
theorem uY (neg:Bool) (x:D) (ys:List D) (h:deps ys<=60) (hx:dep x<=60):fk neg (.d x) (.d (.tup ys))=.ok (.d (.bl (if neg then !inD x ys else inD x ys))):=by
 show (if deps ys<=60/\dep x<=60 then M.ok (R.d (.bl (if neg then !inD x ys else inD x ys))) else M.bad)=_
 rw [if_pos ⟨h,hx⟩]
theorem mF (neg:Bool) (x y:R) (h:dep x.dat<=60) (hx:dep y.dat<=60):cj neg x y=.ok (.d (.bl (if neg then !bg x.dat y.dat else bg x.dat y.dat))):=by
 unfold cj
 rw [if_pos ⟨h,hx⟩]
theorem fQ:∀{xs:List D},(∀x∈xs,dep x<=n)->deps xs<=n
 | [],_=>Tp _
 | x::xs,h=>by
  have h1:=h x SV
  have h2:=fQ (xs:=xs) λy hy=>h y (SS _ hy)
  simp only [deps]
  omega
theorem zG (xs:List Nat):deps (xs.map dN)<=60:=fQ λx hx=>by
 obtain ⟨k,_,rfl⟩:=S3.mp hx
 exact Tp _
theorem zH (xs:List (Nat×Nat)):deps (xs.map dP)<=60:=fQ λx hx=>by
 obtain ⟨k,_,rfl⟩:=S3.mp hx
 exact (by decide:(1:Nat)<=60)
theorem Ca {tb:G Bool}(I:Nat->Ev->Prop) (step:∀d env,I d env->(tb env=.ok false/\Q (.nx env))\/(tb env=.ok true/\Wp (t env) λo=>match o with
  | .nx e=>∃d',d' < d/\I d' e
  | .rt r=>Q (.rt r)
  | _=>False)):∀(n d:Nat) (env:Ev),I d env->d < n->Wp (lW tb t n env) Q
 | 0,d,env,_,h=>absurd h (Uw _)
 | n + 1,d,env,hI,h=>by
  unfold lW
  rcases step d env hI with ⟨h1,h2⟩ | ⟨h1,o,h2,h3⟩
  ·rw [h1]
   exact ⟨_,rfl,h2⟩
  ·rw [h1,aO,if_pos rfl,h2,aO]
   cases o with
   | nx e=>
    obtain ⟨d',hd,hI'⟩:=h3
    exact Ca I step n d' e hI' (by omega)
   | rt r=>exact ⟨_,rfl,h3⟩
   | bk e=>exact h3.elim
   | ct e=>exact h3.elim
theorem KS {tb:G Bool}(I:Nat->Ev->Prop) (d:Nat) (hd:d < n) (h0:I d env) (step:∀d env,I d env->(tb env=.ok false/\Wp (u env) Q)\/(tb env=.ok true/\Wp (t env) λo=>match o with
 | .nx e=>∃d',d' < d/\I d' e
 | .rt r=>Q (.rt r)
 | _=>False)):Wp (aI (uR n tb t) u env) Q:=cu (Ca I (λd env h=>by
  rcases step d env h with h | ⟨h1,h2⟩
  ·exact .inl h
  ·refine .inr ⟨h1,h2.mono λo ho=>?_⟩
   cases o <;> exact ho) n d env h0 hd)
theorem N6 {f:R->R->M R}(h0:env[i]?=some (some (.d d))) (h:g env=.ok y) (hf:f (.d d) y=.ok z) (h2:toS z=.ok x) (k:Q (.nx (env.set i (some x)))):Wp (tW i f g env) Q:=by
 refine ⟨_,?_,k⟩
 unfold tW
 rw [h0]
 show (g env >>= _)=_
 rw [h,aO,hf,aO,h2]
 rfl
end
end WP
namespace K51
open PySem DL K01 WP
structure A9 (w:Wd):Prop where
 lo:1<=w.m
 hi:w.m<=8
 ml:w.ms.length<=3
 al:w.ar.length<=3
theorem DB (xs ys:List D) (h:xs.length + ys.length<=1000):cg (.d (.tup xs)) (.d (.tup ys))=.ok (.d (.tup (xs++ys))):=by
 show (if xs.length + ys.length<=sizeLine then M.ok (R.d (.tup (xs++ys))) else M.bad)=_
 rw [if_pos (fK h)]
theorem Pd (l:Nat) (xs:List Nat):fk false (.d (dN l)) (.d (.tup (xs.map dN)))=.ok (.d (.bl (inD (dN l) (xs.map dN)))):=uY false _ _ (zG xs) (Tp _)
theorem L3 (l:Nat×Nat) (xs:List (Nat×Nat)):fk false (.d (dP l)) (.d (.tup (xs.map dP)))=.ok (.d (.bl (inD (dP l) (xs.map dP)))):=uY false _ _ (zH xs) (by show (1:Nat)<=60;decide)
theorem t2:(2:Nat)<=1000:=by decide
end K51
namespace K51
open PySem DL K01 WP
open PySem.W (kas_sort)
theorem FL (ds:List D):(bN ds).length=ds.length:=by
 unfold bN
 by_cases h:ds.length < 2
 ·rw [if_pos h]
 ·rw [if_neg h,SK]
  have:=(jn (n:=ds.length) (by omega)).run (ltB ds)
  have:=this.size_eq
  simpa using this
theorem FN {ds:List D}{x:D}(hx:x∈bN ds):x∈ds:=by
 unfold bN at hx
 by_cases h:ds.length < 2
 ·rwa [if_pos h] at hx
 ·rw [if_neg h] at hx
  have hp:=(jn (n:=ds.length) (by omega)).run (ltB ds)
  obtain ⟨i,hi,rfl⟩:=S3.mp hx
  have hi:i∈bf (ltB ds) (WG ds.length):=by simpa using hi
  have:=(YA hp).mp hi
  exact ic (by simpa using this)
end K51
namespace K51
open PySem DL K01 WP
end K51
namespace DL
open PySem PySem.Spec PyProof.Rows L2
open PySem.W (KasT kas_sort kas_asc kas_desc kas_rev kas_tail3 kas_descPart kas_count kas_place kas_bin)
theorem run_bind {α β:Type}(q:Nat->Nat->Bool) (f:α->KasT β):∀t:KasT α,bf q (t.bind f)=bf q (f (bf q t))
 | .ret _=>rfl
 | .ask i j k=>run_bind q f (k (q i j))
theorem HE {n:Nat}{α:Type}{P:α->Prop}{t:KasT α}{q q':Nat->Nat->Bool}(h:fN n P t) (e:∀i j,i < n->j < n->q i j=q' i j):bf q t=bf q' t:=by
 induction h with
 | ret _=>rfl
 | @ask i j k h1 h2 _ ih=>
  show bf q (k (q i j))=bf q' (k (q' i j))
  rw [e _ _ h1 h2]
  exact ih _
structure Ord (q:Nat->Nat->Bool):Prop where
 asy:∀a b,q a b=true->q b a=false
 tra:∀a b c,q b a=false->q c b=false->q c a=false
section
variable {q:Nat->Nat->Bool}{n:Nat}
abbrev bH (p:Array Nat) (k:Nat):Nat:=p.getD k 0
def Up (q:Nat->Nat->Bool) (p:Array Nat) (k:Nat):Prop:=∀i j,i<=j->j < k->q (bH p j) (bH p i)=false
def Down (q:Nat->Nat->Bool) (p:Array Nat) (k:Nat):Prop:=∀i j,i<=j->j < k->q (bH p i) (bH p j)=false
theorem Ord.irr (O:Ord q) (a:Nat):q a a=false:=by
 cases h:q a a with
 | false=>rfl
 | true=>rw [<-h];exact (O.asy a a h)
theorem getD_eq (h:p[i]?=p'[j]?):bH p i=bH p' j:=by
 show p.getD i 0=p'.getD j 0
 rw [Yl,Yl,h]
theorem jm {p:Array Nat}(hj:j<=p.size) (k:Nat):bH (X0 p i j) k=if i<=k/\k < j then bH p (i + j - 1 - k) else bH p k:=by
 have e:=getElem?_mirror_all (xs:=p) (i:=i) hj k
 by_cases c:i<=k/\k < j
 ·rw [if_pos c] at e ⊢;exact getD_eq e
 ·rw [if_neg c] at e ⊢;exact getD_eq e
theorem DV {p:Array Nat}(hs:src < p.size) (hd:d<=src) (k:Nat):bH (bubble p src d) k=if k=src - d then bH p src else if src - d < k/\k<=src then bH p (k - 1) else bH p k:=by
 have e:=getElem?_bubble hs d hd k
 by_cases c:k=src - d
 ·rw [if_pos c] at e ⊢;exact getD_eq e
 ·rw [if_neg c] at e ⊢
  by_cases c':src - d < k/\k<=src
  ·rw [if_pos c'] at e ⊢;exact getD_eq e
  ·rw [if_neg c'] at e ⊢;exact getD_eq e
theorem iR (p:Array Nat) (i j:Nat):(X0 p i j).size=p.size:=mirror_size _ _ _ _
theorem Up.one (O:Ord q) (p:Array Nat):Up q p 1:=λi j h1 h2=>by
 have:i=j:=by omega
 rw [this];exact O.irr _
theorem Up.more (O:Ord q) (h:Up q p k) (h1:1<=k) (e:q (bH p k) (bH p (k - 1))=false):Up q p (k + 1):=λi j hi hj=>by
 by_cases c:j < k
 ·exact h i j hi c
 ·have:j=k:=by omega
  subst this
  by_cases c':i=j
  ·rw [c'];exact O.irr _
  ·exact O.tra _ _ _ (h i (j - 1) (by omega) (by omega)) e
theorem Down.more (O:Ord q) (h:Down q p k) (h1:1<=k) (e:q (bH p (k - 1)) (bH p k)=false):Down q p (k + 1):=λi j hi hj=>by
 by_cases c:j < k
 ·exact h i j hi c
 ·have:j=k:=by omega
  subst this
  by_cases c':i=j
  ·rw [c'];exact O.irr _
  ·exact O.tra _ _ _ e (h i (j - 1) (by omega) (by omega))
theorem zg (O:Ord q) (p:Array Nat):∀(f m:Nat),1<=m->Up q p m->m<=bf q (X3 p f m)/\bf q (X3 p f m)<=m + f/\Up q p (bf q (X3 p f m))/\(bf q (X3 p f m)=m + f\/q (bH p (bf q (X3 p f m))) (bH p (bf q (X3 p f m) - 1))=true)
 | 0,m,h1,h=>⟨SW _,SW _,h,.inl rfl⟩
 | f + 1,m,h1,h=>by
  have e:bf q (X3 p (f + 1) m)=if q (bH p m) (bH p (m - 1))=true then m else bf q (X3 p f (m + 1)):=by
   show bf q (if q (bH p m) (bH p (m - 1))=true then KasT.ret m else X3 p f (m + 1))=_
   by_cases c:q (bH p m) (bH p (m - 1))=true
   ·rw [if_pos c,if_pos c];rfl
   ·rw [if_neg c,if_neg c]
  rw [e]
  by_cases c:q (bH p m) (bH p (m - 1))=true
  ·rw [if_pos c]
   exact ⟨SW _,by omega,h,.inr c⟩
  ·rw [if_neg c]
   obtain ⟨a1,a2,a3,a4⟩:=zg O p f (m + 1) (by omega) (h.more O h1 (by simpa using c))
   refine ⟨by omega,by omega,a3,?_⟩
   rcases a4 with a4 | a4
   ·exact .inl (by omega)
   ·exact .inr a4
def Alike (q:Nat->Nat->Bool) (p:Array Nat) (i j:Nat):Prop:=∀a b,i<=a->a < j->i<=b->b < j->q (bH p a) (bH p b)=false
theorem xQ {p:Array Nat}{i j k:Nat}(hj:j<=p.size) (ha:Alike q p i j) (hd:Down q p j) (O:Ord q):Down q (X0 p i j) j:=λa b h1 h2=>by
 rw [jm hj,jm hj]
 by_cases c:i<=a/\a < j
 ·rw [if_pos c]
  by_cases c':i<=b/\b < j
  ·rw [if_pos c'];exact ha _ _ (by omega) (by omega) (by omega) (by omega)
  ·omega
 ·rw [if_neg c]
  by_cases c':i<=b/\b < j
  ·rw [if_pos c']
   exact hd _ _ (by omega) (by omega)
  ·rw [if_neg c'];exact hd _ _ h1 h2
theorem Nk {p:Array Nat}(hj:j<=p.size) (hd:Down q p j):Up q (X0 p 0 j) j:=λa b h1 h2=>by
 rw [jm hj,jm hj,if_pos (by omega),if_pos (by omega)]
 exact hd _ _ (by omega) (by omega)
theorem vm {p:Array Nat}(hj:j<=p.size) (h:j<=k):bH (X0 p i j) k=bH p k:=by
 rw [jm hj,if_neg (by omega)]
theorem mD (O:Ord q):∀(f:Nat) (p:Array Nat) (m e:Nat),1<=m->e + 1<=m->m + f<=p.size->Down q p m->Alike q p (m - (e + 1)) m->
  (bf q (Vz f p m e)).1.size=p.size/\m<=(bf q (Vz f p m e)).2.1/\(bf q (Vz f p m e)).2.1<=m + f/\(bf q (Vz f p m e)).2.2 + 1<=(bf q (Vz f p m e)).2.1/\
  Down q (bf q (Vz f p m e)).1 (bf q (Vz f p m e)).2.1/\Alike q (bf q (Vz f p m e)).1 ((bf q (Vz f p m e)).2.1 - ((bf q (Vz f p m e)).2.2 + 1)) (bf q (Vz f p m e)).2.1
 | 0,p,m,e,h1,h2,h3,h4,h5=>⟨rfl,SW _,SW _,h2,h4,h5⟩
 | f + 1,p,m,e,h1,h2,h3,h4,h5=>by
  have solo:∀(p:Array Nat) (m:Nat),Alike q p (m + 1 - (0 + 1)) (m + 1):=λp m a b c1 c2 c3 c4=>by
   have:a=b:=by omega
   rw [this];exact O.irr _
  cases c:q (bH p m) (bH p (m - 1)) with
  | true=>
   have c2:=O.asy _ _ c
   by_cases he:e > 0
   ·have er:bf q (Vz (f + 1) p m e)=bf q (Vz f (X0 p (m - (e + 1)) m) (m + 1) 0):=by
     show bf q (if q (bH p m) (bH p (m - 1))=true then _ else _)=_
     rw [if_pos c,if_pos he]
    rw [er]
    have hr:=xQ (k:=0) (i:=m - (e + 1)) (by omega:m<=p.size) h5 h4 O
    have hl:bH (X0 p (m - (e + 1)) m) (m - 1)=bH p (m - (e + 1)):=by
     rw [jm (by omega),if_pos (by omega)]
     congr 1;omega
    obtain ⟨a0,a1,a2,a3,a4,a5⟩:=mD O f (X0 p (m - (e + 1)) m) (m + 1) 0 (by omega) (by omega) (by rw [iR];omega)
     (hr.more O h1 (by
      rw [hl,vm (by omega) (SW _)]
      exact O.tra _ _ _ c2 (h5 _ _ (by omega) (by omega) (by omega) (by omega)))) (solo _ _)
    rw [iR] at a0
    exact ⟨a0,by omega,by omega,a3,a4,a5⟩
   ·have er:bf q (Vz (f + 1) p m e)=bf q (Vz f p (m + 1) 0):=by
     show bf q (if q (bH p m) (bH p (m - 1))=true then _ else _)=_
     rw [if_pos c,if_neg he]
    rw [er]
    obtain ⟨a0,a1,a2,a3,a4,a5⟩:=mD O f p (m + 1) 0 (by omega) (by omega) (by omega) (h4.more O h1 c2) (solo _ _)
    exact ⟨a0,by omega,by omega,a3,a4,a5⟩
  | false=>
   cases c2:q (bH p (m - 1)) (bH p m) with
   | true=>
    have er:bf q (Vz (f + 1) p m e)=(p,m,e):=by
     show bf q (if q (bH p m) (bH p (m - 1))=true then _ else _)=_
     rw [if_neg (by rw [c];decide)]
     show bf q (if q (bH p (m - 1)) (bH p m)=true then _ else _)=_
     rw [if_pos c2]
     rfl
    rw [er]
    exact ⟨rfl,SW _,W0 _ _,h2,h4,h5⟩
   | false=>
    have er:bf q (Vz (f + 1) p m e)=bf q (Vz f p (m + 1) (e + 1)):=by
     show bf q (if q (bH p m) (bH p (m - 1))=true then _ else _)=_
     rw [if_neg (by rw [c];decide)]
     show bf q (if q (bH p (m - 1)) (bH p m)=true then _ else _)=_
     rw [if_neg (by rw [c2];decide)]
    rw [er]
    have hal:Alike q p (m + 1 - (e + 1 + 1)) (m + 1):=λa b d1 d2 d3 d4=>by
     by_cases ea:a=m
     ·subst ea
      by_cases eb:b=a
      ·rw [eb];exact O.irr _
      ·exact O.tra _ _ _ (h5 (a - 1) b (by omega) (by omega) (by omega) (by omega)) c
     ·by_cases eb:b=m
      ·subst eb
       exact O.tra _ _ _ c2 (h5 a (b - 1) (by omega) (by omega) (by omega) (by omega))
      ·exact h5 a b (by omega) (by omega) (by omega) (by omega)
    obtain ⟨a0,a1,a2,a3,a4,a5⟩:=mD O f p (m + 1) (e + 1) (by omega) (by omega) (by omega) (h4.more O h1 c2) hal
    exact ⟨a0,by omega,by omega,a3,a4,a5⟩
def Got (q:Nat->Nat->Bool) (N s:Nat) (r:Nat×Array Nat):Prop:=r.2.size=s/\1<=r.1/\r.1<=N/\Up q r.2 r.1
theorem B5 (O:Ord q){p:Array Nat}(h1:1<=m) (hm:m<=N) (hN:N<=p.size) (hd:Down q p m):Got q N p.size (bf q (acR m N p)):=by
 unfold acR
 rw [run_bind]
 obtain ⟨a1,a2,a3,_⟩:=zg O (X0 p 0 m) (N - m) m h1 (Nk (by omega) hd)
 exact ⟨iR _ _ _,by show 1<=bf q (X3 _ _ _);omega,by show bf q (X3 _ _ _)<=N;omega,a3⟩
theorem BN (O:Ord q){p:Array Nat}(h1:1<=m) (hm:m + 1<=N) (hN:N<=p.size) (hd:Down q p (m + 1)):Got q N p.size (bf q (aa6 m N p)):=by
 unfold aa6
 rw [run_bind]
 obtain ⟨a0,a1,a2,a3,a4,a5⟩:=mD O (N - (m + 1)) p (m + 1) 0 (by omega) (by omega) (by omega) hd (λa b c1 c2 c3 c4=>by
  have:a=b:=by omega
  rw [this];exact O.irr _)
 generalize bf q (Vz (N - (m + 1)) p (m + 1) 0)=r at *
 obtain ⟨p',m',e'⟩:=r
 simp only at *
 by_cases c:e' > 0
 ·rw [if_pos c]
  have:=B5 (N:=N) O (p:=X0 p' (m' - (e' + 1)) m') (m:=m') (by omega) (by omega) (by rw [iR];omega) (xQ (k:=0) (by omega) a5 a4 O)
  rw [iR,a0] at this
  exact this
 ·rw [if_neg c]
  have:=B5 (N:=N) O (p:=p') (m:=m') (by omega) (by omega) (by omega) a4
  rw [a0] at this
  exact this
theorem Gj (O:Ord q){p:Array Nat}(h1:1<=N) (hN:N<=p.size):Got q N p.size (bf q (aby N p)):=by
 unfold aby
 rw [run_bind]
 obtain ⟨a1,a2,a3,a4⟩:=zg O p (N - 1) 1 (SW _) (Up.one O p)
 generalize bf q (X3 p (N - 1) 1)=m at *
 by_cases c:(m == N)=true
 ·rw [if_pos c]
  exact ⟨rfl,a1,by show m<=N;omega,a3⟩
 ·rw [if_neg c]
  have hm:m + 1<=N:=by
   have:m≠N:=by simpa using c
   omega
  have a4:q (bH p m) (bH p (m - 1))=true:=by
   rcases a4 with h | h
   ·omega
   ·exact h
  have a5:=O.asy _ _ a4
  by_cases c':m > 1
  ·rw [if_pos c']
   show Got q N p.size (bf q (if q (bH p 0) (bH p (m - 1))=true then _ else _))
   by_cases d:q (bH p 0) (bH p (m - 1))=true
   ·rw [if_pos d]
    exact ⟨rfl,a1,by show m<=N;omega,a3⟩
   ·rw [if_neg d]
    have d:q (bH p 0) (bH p (m - 1))=false:=by simpa using d
    have all:∀a b,a < m->b < m->q (bH p a) (bH p b)=false:=λa b ha hb=>O.tra _ _ _ (O.tra _ _ _ (a3 b (m - 1) (by omega) (by omega)) d) (a3 0 a (by omega) (by omega))
    have hd:Down q (X0 p 0 m) m:=λa b h1 h2=>by
     rw [jm (by omega),jm (by omega),if_pos (by omega),if_pos (by omega)]
     exact all _ _ (by omega) (by omega)
    have:=BN O (p:=X0 p 0 m) (m:=m) (N:=N) (by omega) hm (by rw [iR];exact hN) (hd.more O (by omega) (by
     rw [vm (by omega) (SW _),jm (by omega),if_pos (by omega),show 0 + m - 1 - (m - 1)=0 by omega]
     exact O.tra _ _ _ a5 d))
    rw [iR] at this
    exact this
  ·rw [if_neg c']
   have:m=1:=by omega
   subst this
   refine BN O (SW _) hm hN ?_
   exact Down.more O (λi j h1 h2=>by
    have:i=j:=by omega
    rw [this];exact O.irr _) (SW _) a5
theorem t9 (O:Ord q) (hs:Up q p k):∀(f l r:Nat),l<=r->r<=k->r - l<=f->(∀i,i < l->q (bH p k) (bH p i)=false)->(∀i,r<=i->i < k->q (bH p k) (bH p i)=true)->
  bf q (VR p k f l r)<=k/\(∀i,i < bf q (VR p k f l r)->q (bH p k) (bH p i)=false)/\∀i,bf q (VR p k f l r)<=i->i < k->q (bH p k) (bH p i)=true
 | 0,l,r,h1,h2,h3,h4,h5=>⟨by show l<=k;omega,h4,λi hi=>h5 i (by show r<=i;have:l<=i:=hi;omega)⟩
 | f + 1,l,r,h1,h2,h3,h4,h5=>by
  by_cases c:l ≥ r
  ·have e:bf q (VR p k (f + 1) l r)=l:=by
    unfold VR
    rw [if_pos c]
    rfl
   rw [e]
   exact ⟨by omega,h4,λi hi=>h5 i (by omega)⟩
  ·cases d:q (bH p k) (bH p ((l + r) / 2)) with
   | true=>
    have e:bf q (VR p k (f + 1) l r)=bf q (VR p k f l ((l + r) / 2)):=by
     rw [VR,if_neg c]
     show bf q (if q (bH p k) (bH p ((l + r) / 2))=true then _ else _)=_
     rw [if_pos d]
    rw [e]
    refine t9 O hs f l ((l + r) / 2) (by omega) (by omega) (by omega) h4 λi i1 i2=>?_
    by_cases ci:r<=i
    ·exact h5 i ci i2
    ·cases dd:q (bH p k) (bH p i) with
     | true=>rfl
     | false=>
      have:=O.tra _ _ _ (hs ((l + r) / 2) i i1 i2) dd
      rw [d] at this
      cases this
   | false=>
    have e:bf q (VR p k (f + 1) l r)=bf q (VR p k f ((l + r) / 2 + 1) r):=by
     rw [VR,if_neg c]
     show bf q (if q (bH p k) (bH p ((l + r) / 2))=true then _ else _)=_
     rw [if_neg (by rw [d];decide)]
    rw [e]
    refine t9 O hs f ((l + r) / 2 + 1) r (by omega) (by omega) (by omega) (λi hi=>?_) h5
    exact O.tra _ _ _ (hs i ((l + r) / 2) (by omega) (by omega)) d
theorem LA (O:Ord q){p:Array Nat}(hk:k < p.size) (hl:l<=k) (hs:Up q p k) (h1:∀i,i < l->q (bH p k) (bH p i)=false) (h2:∀i,l<=i->i < k->q (bH p k) (bH p i)=true):Up q (bubble p k (k - l)) (k + 1):=λi j hi hj=>by
 rw [DV hk (by omega),DV hk (by omega),show k - (k - l)=l by omega]
 by_cases a:i=l
 ·rw [if_pos a]
  by_cases b:j=l
  ·rw [if_pos b];exact O.irr _
  ·rw [if_neg b,if_pos (by omega)]
   exact O.asy _ _ (h2 (j - 1) (by omega) (by omega))
 ·rw [if_neg a]
  by_cases b:j=l
  ·rw [if_pos b,if_neg (by omega)]
   exact h1 i (by omega)
  ·rw [if_neg b]
   by_cases a':l < i/\i<=k
   ·rw [if_pos a',if_pos (by omega)]
    exact hs _ _ (by omega) (by omega)
   ·rw [if_neg a']
    by_cases b':l < j/\j<=k
    ·rw [if_pos b']
     exact hs _ _ (by omega) (by omega)
    ·rw [if_neg b']
     exact hs _ _ hi (by omega)
theorem DY (O:Ord q):∀(f:Nat) (p:Array Nat) (k:Nat),k + f<=p.size->Up q p k->Up q (bf q (acz f p k)) (k + f)
 | 0,p,k,_,h=>h
 | f + 1,p,k,hs,h=>by
  have e:bf q (acz (f + 1) p k)=bf q (acz f (bubble p k (k - bf q (VR p k k 0 k))) (k + 1)):=by
   rw [acz,run_bind]
  rw [e]
  obtain ⟨a1,a2,a3⟩:=t9 O h k 0 k (Tp _) (SW _) (by omega) (λi hi=>by omega) (λi h1 h2=>by omega)
  have:=DY O f (bubble p k (k - bf q (VR p k k 0 k))) (k + 1) (by rw [bubble_size];omega) (LA O (by omega) a1 h a2 a3)
  rw [show k + (f + 1)=k + 1 + f by omega]
  exact this
theorem KY (O:Ord q) (n:Nat) (hn:1<=n):Up q (bf q (WG n)) n:=by
 unfold WG
 rw [run_bind]
 obtain ⟨a0,a1,a2,a3⟩:=Gj O (p:=(SM n).toArray) (N:=n) hn (by simp)
 generalize bf q (aby n (SM n).toArray)=r at *
 have a0:r.2.size=n:=by simpa using a0
 by_cases c:r.1 < n
 ·rw [if_pos c]
  have:=DY O (n - max r.1 1) r.2 (max r.1 1) (by omega) (by rw [show max r.1 1=r.1 by omega];exact a3)
  rwa [show max r.1 1 + (n - max r.1 1)=n by omega] at this
 ·rw [if_neg c]
  have:r.1=n:=by omega
  rw [this] at a3
  exact a3
end
end DL
namespace DL
open PySem PySem.Spec PyProof.Rows L2
open PySem.W (kas_sort)
def d7 (x y:D):Bool:=(dI x y).getD false
structure f9 (P:D->Prop):Prop where
 eq:∀x y,P x->P y->(bg x y=true↔x=y)
 lt:∀x y,P x->P y->(dI x y).isSome=true
 asy:∀x y,P x->P y->d7 x y=true->d7 y x=false
 tri:∀x y,P x->P y->d7 x y=false->d7 y x=false->x=y
 tra:∀x y z,P x->P y->P z->d7 x y=true->d7 y z=true->d7 x z=true
def iF (xs ys:List D):Bool:=d7 (.tup xs) (.tup ys)
theorem jO (x y:D) (xs ys:List D):iF (x::xs) (y::ys)=if bg x y=true then iF xs ys else d7 x y:=by
 show (if bg x y=true then kr xs ys else dI x y).getD false=_
 by_cases h:bg x y=true
 ·rw [if_pos h,if_pos h];rfl
 ·rw [if_neg h,if_neg h];rfl
variable {P R:D->Prop}
theorem jN (xs ys:List D):bg (.tup xs) (.tup ys)=cD xs ys:=by rw [bg]
theorem ie (x y:D) (xs ys:List D):cD (x::xs) (y::ys)=(bg x y && cD xs ys):=by rw [cD]
structure lH (Q:List D->Prop):Prop where
 eq:∀x y,Q x->Q y->(cD x y=true↔x=y)
 lt:∀x y,Q x->Q y->(kr x y).isSome=true
 asy:∀x y,Q x->Q y->iF x y=true->iF y x=false
 tri:∀x y,Q x->Q y->iF x y=false->iF y x=false->x=y
 tra:∀x y z,Q x->Q y->Q z->iF x y=true->iF y z=true->iF x z=true
theorem lH.tot {Q:List D->Prop}(h:lH Q):f9 λd=>∃xs,d=.tup xs/\Q xs where
 eq:=by
  rintro _ _ ⟨x,rfl,hx⟩ ⟨y,rfl,hy⟩
  rw [jN,h.eq x y hx hy]
  exact ⟨λe=>e▸rfl,λe=>by cases e;rfl⟩
 lt:=by
  rintro _ _ ⟨x,rfl,hx⟩ ⟨y,rfl,hy⟩
  exact h.lt x y hx hy
 asy:=by
  rintro _ _ ⟨x,rfl,hx⟩ ⟨y,rfl,hy⟩
  exact h.asy x y hx hy
 tri:=by
  rintro _ _ ⟨x,rfl,hx⟩ ⟨y,rfl,hy⟩ h1 h2
  rw [h.tri x y hx hy h1 h2]
 tra:=by
  rintro _ _ _ ⟨x,rfl,hx⟩ ⟨y,rfl,hy⟩ ⟨z,rfl,hz⟩
  exact h.tra x y z hx hy hz
theorem BH (p:f9 P) (px:P x) (py:P y) (pz:P z) (h:iF r s=true->iF s t=true->iF r t=true) (h1:iF (x::r) (y::s)=true) (h2:iF (y::s) (z::t)=true):iF (x::r) (z::t)=true:=by
 rw [jO] at h1 h2 ⊢
 by_cases e:x=y
 ·subst e
  rw [if_pos ((p.eq x x px px).mpr rfl)] at h1
  by_cases f:x=z
  ·subst f
   rw [if_pos ((p.eq x x px px).mpr rfl)] at h2 ⊢
   exact h h1 h2
  ·rw [if_neg λq=>f ((p.eq x z px pz).mp q)] at h2 ⊢
   exact h2
 ·rw [if_neg λq=>e ((p.eq x y px py).mp q)] at h1
  by_cases f:y=z
  ·subst f
   rw [if_neg λq=>e ((p.eq x y px py).mp q)]
   exact h1
  ·rw [if_neg λq=>f ((p.eq y z py pz).mp q)] at h2
   have h3:=p.tra x y z px py pz h1 h2
   by_cases g:x=z
   ·subst g
    have:=p.asy x x px px h3
    rw [h3] at this
    cases this
   ·rw [if_neg λq=>g ((p.eq x z px pz).mp q)]
    exact h3
theorem lH.cons {Q:List D->Prop}(p:f9 P) (h:lH Q):lH λxs=>∃x r,xs=x::r/\P x/\Q r where
 eq:=by
  rintro _ _ ⟨x,r,rfl,px,qr⟩ ⟨y,s,rfl,py,qs⟩
  rw [ie,SN,p.eq x y px py,h.eq r s qr qs]
  exact ⟨λe=>by rw [e.1,e.2],λe=>by cases e;exact ⟨rfl,rfl⟩⟩
 lt:=by
  rintro _ _ ⟨x,r,rfl,px,qr⟩ ⟨y,s,rfl,py,qs⟩
  show (if bg x y=true then kr r s else dI x y).isSome=true
  split
  ·exact h.lt r s qr qs
  ·exact p.lt x y px py
 asy:=by
  rintro _ _ ⟨x,r,rfl,px,qr⟩ ⟨y,s,rfl,py,qs⟩ hl
  rw [jO] at hl ⊢
  by_cases e:x=y
  ·subst e
   rw [if_pos ((p.eq x x px px).mpr rfl)] at hl ⊢
   exact h.asy r s qr qs hl
  ·rw [if_neg λz=>e ((p.eq x y px py).mp z)] at hl
   rw [if_neg λz=>e ((p.eq y x py px).mp z).symm]
   exact p.asy x y px py hl
 tri:=by
  rintro _ _ ⟨x,r,rfl,px,qr⟩ ⟨y,s,rfl,py,qs⟩ h1 h2
  rw [jO] at h1 h2
  by_cases e:x=y
  ·subst e
   rw [if_pos ((p.eq x x px px).mpr rfl)] at h1 h2
   rw [h.tri r s qr qs h1 h2]
  ·rw [if_neg λz=>e ((p.eq x y px py).mp z)] at h1
   rw [if_neg λz=>e ((p.eq y x py px).mp z).symm] at h2
   exact absurd (p.tri x y px py h1 h2) e
 tra:=by
  rintro _ _ _ ⟨x,r,rfl,px,qr⟩ ⟨y,s,rfl,py,qs⟩ ⟨z,t,rfl,pz,qt⟩ h1 h2
  exact BH p px py pz (h.tra r s t qr qs qt) h1 h2
theorem lH.nil:lH λxs=>xs=[] where
 eq:=by rintro _ _ rfl rfl;simp [cD]
 lt:=by rintro _ _ rfl rfl;rfl
 asy:=by rintro _ _ rfl rfl h;cases h
 tri:=by rintro _ _ rfl rfl _ _;rfl
 tra:=by rintro _ _ _ rfl rfl rfl h;cases h
theorem f9.list (p:f9 P):lH λxs=>∀x∈xs,P x where
 eq:=by
  intro xs
  induction xs with
  | nil=>intro ys _ _;cases ys <;> simp [cD]
  | cons x xs ih=>
   intro ys hx hy
   cases ys with
   | nil=>simp [cD]
   | cons y ys=>
    rw [ie,SN,p.eq x y (hx x SV) (hy y SV),ih ys (λz hz=>hx z (SS _ hz)) λz hz=>hy z (SS _ hz)]
    exact ⟨λe=>by rw [e.1,e.2],λe=>by cases e;exact ⟨rfl,rfl⟩⟩
 lt:=by
  intro xs
  induction xs with
  | nil=>intro ys _ _;rfl
  | cons x xs ih=>
   intro ys hx hy
   cases ys with
   | nil=>rfl
   | cons y ys=>
    show (if bg x y=true then kr xs ys else dI x y).isSome=true
    split
    ·exact ih ys (λz hz=>hx z (SS _ hz)) λz hz=>hy z (SS _ hz)
    ·exact p.lt x y (hx x SV) (hy y SV)
 asy:=by
  intro xs
  induction xs with
  | nil=>
   intro ys _ _ h
   cases ys with
   | nil=>cases h
   | cons y ys=>rfl
  | cons x xs ih=>
   intro ys hx hy hl
   cases ys with
   | nil=>cases hl
   | cons y ys=>
    have px:=hx x SV
    have py:=hy y SV
    rw [jO] at hl ⊢
    by_cases e:x=y
    ·subst e
     rw [if_pos ((p.eq x x px px).mpr rfl)] at hl ⊢
     exact ih ys (λz hz=>hx z (SS _ hz)) (λz hz=>hy z (SS _ hz)) hl
    ·rw [if_neg λz=>e ((p.eq x y px py).mp z)] at hl
     rw [if_neg λz=>e ((p.eq y x py px).mp z).symm]
     exact p.asy x y px py hl
 tri:=by
  intro xs
  induction xs with
  | nil=>
   intro ys _ _ h1 h2
   cases ys with
   | nil=>rfl
   | cons y ys=>cases h1
  | cons x xs ih=>
   intro ys hx hy h1 h2
   cases ys with
   | nil=>cases h2
   | cons y ys=>
    have px:=hx x SV
    have py:=hy y SV
    rw [jO] at h1 h2
    by_cases e:x=y
    ·subst e
     rw [if_pos ((p.eq x x px px).mpr rfl)] at h1 h2
     rw [ih ys (λz hz=>hx z (SS _ hz)) (λz hz=>hy z (SS _ hz)) h1 h2]
    ·rw [if_neg λz=>e ((p.eq x y px py).mp z)] at h1
     rw [if_neg λz=>e ((p.eq y x py px).mp z).symm] at h2
     exact absurd (p.tri x y px py h1 h2) e
 tra:=by
  intro xs
  induction xs with
  | nil=>
   intro ys zs _ _ _ h1 h2
   cases ys with
   | nil=>cases h1
   | cons y ys=>
    cases zs with
    | nil=>cases h2
    | cons z zs=>rfl
  | cons x xs ih=>
   intro ys zs hx hy hz h1 h2
   cases ys with
   | nil=>cases h1
   | cons y ys=>
    cases zs with
    | nil=>cases h2
    | cons z zs=>
     have px:=hx x SV
     have py:=hy y SV
     have pz:=hz z SV
     exact BH p px py pz (ih ys zs (λz hz=>hx z (SS _ hz)) (λz hz=>hy z (SS _ hz)) λw hw=>hz w (SS _ hw)) h1 h2
theorem OG:f9 λd=>∃k,d=.bl k where
 eq:=by rintro _ _ ⟨x,rfl⟩ ⟨y,rfl⟩;simp [bg]
 lt:=by rintro _ _ ⟨x,rfl⟩ ⟨y,rfl⟩;rfl
 asy:=by rintro _ _ ⟨x,rfl⟩ ⟨y,rfl⟩;revert x y;decide
 tri:=by
  rintro _ _ ⟨x,rfl⟩ ⟨y,rfl⟩ h1 h2
  revert h1 h2
  cases x <;> cases y <;> intro h1 h2
  ·rfl
  ·exact absurd h1 (by decide)
  ·exact absurd h2 (by decide)
  ·rfl
 tra:=by rintro _ _ _ ⟨x,rfl⟩ ⟨y,rfl⟩ ⟨z,rfl⟩;revert x y z;decide
theorem nP (x y:Int):d7 (.int x) (.int y)=decide (x < y):=rfl
theorem OH:f9 λd=>∃k,d=.int k where
 eq:=by rintro _ _ ⟨x,rfl⟩ ⟨y,rfl⟩;simp [bg]
 lt:=by rintro _ _ ⟨x,rfl⟩ ⟨y,rfl⟩;rfl
 asy:=by
  rintro _ _ ⟨x,rfl⟩ ⟨y,rfl⟩ h
  rw [nP,decide_eq_true_eq] at h
  rw [nP,decide_eq_false_iff_not]
  omega
 tri:=by
  rintro _ _ ⟨x,rfl⟩ ⟨y,rfl⟩ h1 h2
  rw [nP,decide_eq_false_iff_not] at h1 h2
  rw [show x=y by omega]
 tra:=by
  rintro _ _ _ ⟨x,rfl⟩ ⟨y,rfl⟩ ⟨z,rfl⟩ h1 h2
  rw [nP,decide_eq_true_eq] at h1 h2 ⊢
  omega
theorem rL (x y:Str):d7 (.str x) (.str y)=decide (x.cps.toList < y.cps.toList):=rfl
theorem K4 {x y:Str}(h:x.cps.toList=y.cps.toList):x=y:=by
 obtain ⟨⟨cx⟩⟩:=x
 obtain ⟨⟨cy⟩⟩:=y
 simp only at h
 rw [h]
theorem OI:f9 λd=>∃k,d=.str k where
 eq:=by rintro _ _ ⟨x,rfl⟩ ⟨y,rfl⟩;simp [bg]
 lt:=by rintro _ _ ⟨x,rfl⟩ ⟨y,rfl⟩;rfl
 asy:=by
  rintro _ _ ⟨x,rfl⟩ ⟨y,rfl⟩ h
  rw [rL,decide_eq_true_eq] at h
  rw [rL,decide_eq_false_iff_not]
  exact List.lt_asymm h
 tri:=by
  rintro _ _ ⟨x,rfl⟩ ⟨y,rfl⟩ h1 h2
  rw [rL,decide_eq_false_iff_not] at h1 h2
  rw [K4 (abf h2 h1)]
 tra:=by
  rintro _ _ _ ⟨x,rfl⟩ ⟨y,rfl⟩ ⟨z,rfl⟩ h1 h2
  rw [rL,decide_eq_true_eq] at h1 h2 ⊢
  exact List.lt_trans h1 h2
inductive Fm where
 | b | i | s | hom (t:Fm) | tn | tc (x r:Fm)
noncomputable def ki:Fm->D->Prop
 | .b,d=>∃k,d=.bl k
 | .i,d=>∃k,d=.int k
 | .s,d=>∃k,d=.str k
 | .hom t,d=>∃xs,d=.tup xs/\∀x∈xs,ki t x
 | .tn,d=>∃xs,d=.tup xs/\xs=[]
 | .tc x r,d=>∃xs,d=.tup xs/\∃y ys,xs=y::ys/\ki x y/\ki r (.tup ys)
theorem f9.tail {Q:List D->Prop}(h:f9 R) (k:∀xs,Q xs->R (.tup xs)):lH Q where
 eq:=λx y hx hy=>by
  have:=h.eq _ _ (k x hx) (k y hy)
  rw [jN] at this
  rw [this]
  exact ⟨λe=>by cases e;rfl,λe=>e▸rfl⟩
 lt:=λx y hx hy=>h.lt _ _ (k x hx) (k y hy)
 asy:=λx y hx hy=>h.asy _ _ (k x hx) (k y hy)
 tri:=λx y hx hy h1 h2=>by
  have:=h.tri _ _ (k x hx) (k y hy) h1 h2
  cases this;rfl
 tra:=λx y z hx hy hz=>h.tra _ _ _ (k x hx) (k y hy) (k z hz)
theorem iu:∀t:Fm,f9 (ki t)
 | .b=>OG
 | .i=>OH
 | .s=>OI
 | .hom t=>(iu t).list.tot
 | .tn=>lH.nil.tot
 | .tc x r=>(lH.cons (iu x) (f9.tail (Q:=λys=>ki r (.tup ys)) (iu r) λ_ h=>h)).tot
theorem Ow (ds:List D):(bN ds).length=ds.length:=by
 unfold bN
 by_cases h:ds.length < 2
 ·rw [if_pos h]
 ·rw [if_neg h,SK]
  have:=((jn (n:=ds.length) (by omega)).run (ltB ds)).size_eq
  simpa using this
theorem JX (ds:List D):(SM ds.length).map (dc ds)=ds:=by
 refine Vt (by simp) λi h1 h2=>?_
 rw [UG,aau]
 unfold dc
 rw [WL,S5 h2]
 rfl
theorem gm (ds:List D):(bN ds).Perm ds:=by
 unfold bN
 by_cases h:ds.length < 2
 ·rw [if_pos h]
 ·rw [if_neg h]
  have hp:=(jn (n:=ds.length) (by omega)).run (ltB ds)
  have hq:(bf (ltB ds) (WG ds.length)).toList.Perm (SM ds.length):=by
   have:=Array.perm_iff_toList_perm.mp hp
   simpa using this
  have:=hq.map (dc ds)
  rwa [JX] at this
theorem HJ (p:f9 P) (ds:List D) (h:∀x∈ds,P x):(bN ds).Pairwise λx y=>d7 y x=false:=by
 unfold bN
 by_cases h2:ds.length < 2
 ·rw [if_pos h2]
  match ds,h2 with
  | [],_=>exact .nil
  | [x],_=>exact U9 _ _
 ·rw [if_neg h2]
  have hn:0 < ds.length:=by omega
  have hb:=jn (n:=ds.length) hn
  have at_P:∀i,i < ds.length->P (dc ds i):=λi hi=>h _ (ic hi)
  let q':Nat->Nat->Bool:=λi j=>if i < ds.length then (if j < ds.length then ltB ds i j else true) else false
  have hq:bf (ltB ds) (WG ds.length)=bf q' (WG ds.length):=HE hb λi j hi hj=>by simp [q',hi,hj]
  have O:Ord q':=by
   constructor
   ·intro a b hab
    by_cases ha:a < ds.length <;> by_cases hb:b < ds.length <;> simp [q',ha,hb] at hab ⊢
    exact p.asy _ _ (at_P a ha) (at_P b hb) hab
   ·intro a b c hab hbc
    by_cases ha:a < ds.length <;> by_cases hb:b < ds.length <;> by_cases hc:c < ds.length <;> simp [q',ha,hb,hc] at hab hbc ⊢
    have h1:d7 (dc ds b) (dc ds a)=false:=hab
    have h2:d7 (dc ds c) (dc ds b)=false:=hbc
    show d7 (dc ds c) (dc ds a)=false
    cases g:d7 (dc ds c) (dc ds a) with
    | false=>rfl
    | true=>
     have pa:=at_P a ha
     have pb:=at_P b hb
     have pc:=at_P c hc
     cases g2:d7 (dc ds a) (dc ds b) with
     | true=>
      have:=p.tra _ _ _ pc pa pb g g2
      rw [this] at h2;cases h2
     | false=>
      rw [<-p.tri _ _ pb pa h1 g2] at g
      rw [g] at h2;cases h2
  have up:=KY O ds.length (by omega)
  have hs:=(hb.run (ltB ds))
  rw [hq] at hs ⊢
  have hsz:(bf q' (WG ds.length)).size=ds.length:=by simpa using hs.size_eq
  generalize bf q' (WG ds.length)=A at *
  rw [TX,Ug]
  intro i j hi hj hij
  rw [S4] at hi hj
  have:=up i j (by omega) (by omega)
  have e:∀k (hk:k < A.size),bH A k=A.toList[k]'(by rw [S4];exact hk):=λk hk=>by
   show A.getD k 0=_
   simp [Ve,hk]
  rw [e i hi,e j hj] at this
  have l:∀k (hk:k < A.size),A.toList[k]'(by rw [S4];exact hk) < ds.length:=λk hk=>by
   rw [<-e k hk];exact hs.lt hn k
  have li:=l i hi
  have lj:=l j hj
  simp only [q',li,lj,if_true] at this
  exact this
end DL
namespace K52
open PySem DL
end K52
namespace K52
open PySem DL K01 WP K51
variable {P:D->Prop}
end K52
namespace DL
open PySem PySem.Spec PyProof.Rows L2
section
variable {w:TL}{prog:S_}{A:TR}{s:SJ}{E:SI->SJ->Prop}
theorem Jx {e it l:Tg}{k:Nat}{vals:Array SI}{x old:SI}{S:Nat->Uz->Prop}{Q:SI->SJ->Prop}(N:vJ prog w it l vals S) (he:aa7 s.heap e it k old) (st:S k s.heap) (hx:vals[k]?=some x) (hne:e≠it) (hle:l≠e)
  (hQ:∀h',abE h' e it ((k:Int) + 1) x s.heap.objs.size->S (k + 1) h'->h'.get? s.heap.objs.size=some {cls:=.type "tuple",data:=.seq #[.int k s.toks,x]}->
   (∀(b:Tg) o,b≠e->b≠it->s.heap.get? b=some o->h'.get? b=some o)->Q (.ref s.heap.objs.size) {s with heap:=h',toks:=s.toks + 1}):
  (S8 (Ti prog w) A (Xd.«enumerate.__next__» ⟨[.ref e],[]⟩) (λfin s'=>∃v,fin=.done (.ret v)/\Q v s') E s):=by
 have move:∀{m:Nat}{h h':Uz},S m h->TU e h h'->S m h':=λst sb=>N.keep _ _ _ st (λo z=>sb.extBut _ _ (Vi hne) z) λo z=>sb.extBut _ _ hle z
 (obtain ⟨hp,g,d,tk,os⟩:=s)
 (show S8 _ _ (field (.ref e) 2 >>= _) _ _ _)
 (refine SE (Vr he rfl (x:=.ref it) rfl ?_))
 refine SE (N.item _ _ k x _ _ st hx λg1 st1 b1=>?_)
 replace b1:TU it hp g1:=b1
 have e1:aa7 g1 e it k old:=(b1.2 e hne).trans he
 show S8 _ _ (field (.ref e) 3 >>= _) _ _ ⟨g1,g,d,tk,os⟩
 refine SE (Vr e1 rfl (x:=ZZ k) rfl ?_)
 show S8 _ _ (field (.ref e) 4 >>= _) _ _ ⟨g1,g,d,tk,os⟩
 refine SE (Vr e1 rfl (x:=.none) rfl ?_)
 show S8 _ _ (mkInt k >>= _) _ _ ⟨g1,g,d,tk,os⟩
 (refine SE (wpAny_mkInt ?_))
 show S8 _ _ (acE (.ref e) 3 (ZZ ((k:Int) + 1)) >>= _) _ _ ⟨g1,g,d,tk + 1,os⟩
 refine SE (U_ e1 (by simp) λg2 e2 b2=>?_)
 replace b2:TU e g1 g2:=b2
 replace e2:aa7 g2 e it ((k:Int) + 1) old:=e2
 show S8 _ _ (acE (.ref e) 4 .none >>= _) _ _ ⟨g2,g,d,tk + 1,os⟩
 refine SE (U_ e2 (by simp) λg3 e3 b3=>?_)
 replace b3:TU e g2 g3:=b3
 replace e3:aa7 g3 e it ((k:Int) + 1) old:=e3
 show S8 _ _ (acy [.int k tk,x] >>= _) _ _ ⟨g3,g,d,tk + 1,os⟩
 (refine SE (Z1 ?_))
 have e4:aa7 (g3.push {cls:=.type "tuple",data:=.seq #[.int k tk,x]}) e it ((k:Int) + 1) old:=SO _ e3
 have z3:g3.objs.size=hp.objs.size:=by rw [b3.1,b2.1,b1.1]
 (have hel:e < hp.objs.size:=S9 he)
 have t4:(g3.push {cls:=.type "tuple",data:=.seq #[.int k tk,x]}).get? hp.objs.size=some {cls:=.type "tuple",data:=.seq #[.int k tk,x]}:=by rw [<-z3];exact SY _ rfl
 have k4:∀b o,b≠e->b≠it->hp.get? b=some o->(g3.push {cls:=.type "tuple",data:=.seq #[.int k tk,x]}).get? b=some o:=λb o c1 c2 z=>SO _ (b3.extBut b o c1 (b2.extBut b o c1 (b1.extBut b o c2 z)))
 have st4:S (k + 1) (g3.push {cls:=.type "tuple",data:=.seq #[.int k tk,x]}):=N.keep _ _ _ (move (move st1 b2) b3) (λo z=>SO _ z) λo z=>SO _ z
 show S8 _ _ (W4 (.ref e) >>= _) _ _ ⟨g3.push {cls:=.type "tuple",data:=.seq #[.int k tk,x]},g,d,tk + 1,os⟩
 rw [z3]
 refine SE ?_
 (unfold W4)
 refine SE (Vr e4 rfl (x:=.none) rfl (SH ?_))
 simp only [if_true]
 (refine SE (Xy ?_))
 refine SE (Vr e4 rfl (x:=old) rfl ?_)
 refine SE (U_ e4 (by simp) λg5 e5 b5=>?_)
 replace b5:TU e _ g5:=b5
 replace e5:aa7 g5 e it ((k:Int) + 1) x:=e5
 show S8 _ _ (WU (.ref e) (.ref hp.objs.size) >>= _) _ _ ⟨g5,g,d,tk + 1,os⟩
 refine SE ?_
 (unfold WU)
 refine SE (U_ e5 (by simp) λg6 e6 b6=>?_)
 replace b6:TU e g5 g6:=b6
 replace e6:abE g6 e it ((k:Int) + 1) x hp.objs.size:=e6
 refine U_ e6 (by simp) λg7 e7 b7=>?_
 replace b7:TU e g6 g7:=b7
 replace e7:abE g7 e it ((k:Int) + 1) x hp.objs.size:=e7
 refine SE (wpAny_letGo (SH ⟨_,rfl,hQ g7 e7 (move (move (move st4 b5) b6) b7) ?_ ?_⟩))
 ·exact b7.extBut _ _ (Vj hel) (b6.extBut _ _ (Vj hel) (b5.extBut _ _ (Vj hel) t4))
 ·exact λb o c1 c2 z=>b7.extBut b o c1 (b6.extBut b o c1 (b5.extBut b o c1 (k4 b o c1 c2 z)))
theorem Jy {e it l:Tg}{k:Nat}{vals:Array SI}{x old:SI}{S:Nat->Uz->Prop}{Q:Option SI->SJ->Prop}(N:vJ prog w it l vals S) (he:aa7 s.heap e it k old) (st:S k s.heap) (hx:vals[k]?=some x) (hne:e≠it) (hle:l≠e)
  (hQ:∀h',abE h' e it ((k:Int) + 1) x s.heap.objs.size->S (k + 1) h'->h'.get? s.heap.objs.size=some {cls:=.type "tuple",data:=.seq #[.int k s.toks,x]}->
   (∀b o,b≠e->b≠it->s.heap.get? b=some o->h'.get? b=some o)->Q (some (.ref s.heap.objs.size)) {s with heap:=h',toks:=s.toks + 1}):S8 (Ti prog w) A (WJ (.ref e)) Q E s:=by
 have zt:s.TypeIs (.ref e) "enumerate":=⟨_,he,rfl⟩
 unfold WJ
 exact SE (We (T7 (name:=VO "__next__") zt Wz (TY Wz zt Zj
  (Jx N he st hx hne hle λh' a1 a2 a3 a4=>SH (hQ h' a1 a2 a3 a4)) (Y5 _))))
theorem Jw {e it l:Tg}{k:Nat}{vals:Array SI}{old:SI}{S:Nat->Uz->Prop}{Q:Option SI->SJ->Prop}(hh:A.handled=none) (N:vJ prog w it l vals S) (he:aa7 s.heap e it k old) (st:S k s.heap) (hx:vals[k]?=none)
  (hQ:∀h',Y3 it s.heap h'->Q none {s with heap:=h'}):(S8 (Ti prog w) A (WJ (.ref e)) Q E s):=by
 have zt:s.TypeIs (.ref e) "enumerate":=⟨_,he,rfl⟩
 unfold WJ
 refine SE (We (T7 (name:=VO "__next__") zt Wz (TY Wz zt Zj ?_ (Y5 _))))
 (show S8 _ _ (field (.ref e) 2 >>= _) _ _ _)
 (refine SE (Vr he rfl (x:=.ref it) rfl ?_))
 refine SE (N.fin _ _ k _ _ hh st hx λh' x he' ⟨o,ho,hc⟩=>?_)
 exact SE (W2 (T:="StopIteration") (b:=true) ⟨o,ho,hc⟩ Z3 (SH (hQ _ he')))
end
abbrev Ip (h:Uz) (k:String) (l:Tg):Uz:=h.push (CO k l)
abbrev LL (h:Uz) (k:String) (l:Tg):Uz:=(Ip h k l).push {cls:=.type "enumerate",data:=.fields #[.none,.bool false,.ref h.objs.size,ZZ 0,.none,.none]}
theorem LM (k:String) (l:Tg) (xs:Array SI):
  Meets (Xd.«enumerate.__new__» ⟨[.type "enumerate",.ref l],[]⟩) (λ_ R s=>DN k s.heap l xs/\R (.ok (.ret (.ref (Ip s.heap k l).objs.size))) {s with heap:=LL s.heap k l}):=
 .of_wp λprog w A (R:aa1->SJ->Prop) s h=>by
  obtain ⟨hp,g,d,tk,os⟩:=s;obtain ⟨q1,h⟩:=h
  have hsub:=sub_enumerate
  have L1:DN k (Shared.heap ⟨hp,g,d,tk,os⟩) l xs:=q1
  wp_walk using o7 L1
  (refine wpAny_stack_any λst=>SH ?_)
  split
  ·rename_i c _ _ _ _ _
   (cases (c == W5 "enumerate"))
   ·wp_walk using o7 L1
    exact ⟨_,rfl,h⟩
   ·wp_walk using o7 L1
    exact ⟨_,rfl,h⟩
  ·wp_walk using o7 L1
   exact ⟨_,rfl,h⟩
noncomputable def ON (K:SG) (k:String) (l:Tg):It:=
 ⟨λi H=>∃xs x,kE k K H l xs/\xs[i]?=some x,
  λi H v H'=>∃p,H p=none/\v=.ref p/\∀xs x,kE k K H l xs->xs[i]?=some x->H'=upd H p (.tup [.int i,x]),
  λi H=>∃xs,kE k K H l xs/\xs.length<=i⟩
def OX (k:String) (l e it:Tg) (i:Nat) (h:Uz):Prop:=(∃old,aa7 h e it i old)/\IQ k it l i h
theorem FZ {P:S_}{w:TL}{K:SG}{elts:List TV}{kk:Nat}{tp:Pos}(k:String) (l e it:Tg) (n1:e≠it):
  Turn P w K (.Tuple elts kk tp) (ON K k l) [e,it] e (OX k l e it) where
 mem:=by simp
 obj:=λi h st b hb=>by
  obtain ⟨⟨old,he⟩,q1⟩:=st
  (simp only [S7,Uk,or_false] at hb)
  rcases hb with rfl | rfl
  ·exact ⟨_,he,λv q=>by cases (show ac1 _=adL v from q)⟩
  ·exact q1.obj
 keep:=λi h h' st kp=>by
  obtain ⟨⟨old,he⟩,q1⟩:=st
  exact ⟨⟨old,kp e (by simp) _ he⟩,q1.keep λo z=>kp it (by simp) o z⟩
 item:=by
  intro X hP hw hK hc i Sq s σ H E I hf st hg
  subst hP hw hK
  obtain ⟨⟨old,he⟩,q1⟩:=st
  obtain ⟨xs,x,s1,hx⟩:=hg
  obtain ⟨Su,r1,p1⟩:=s1.get I
  obtain ⟨u,hu,ru⟩:=r1.get hx
  have ne1:∀b∈[e,it],l≠b:=λb hb=>s1.ne I (hf b hb)
  refine Jy (Ew X.prog X.w k it l Su.toArray (ne1 it (by simp))) he (q1.sq p1) (by simpa using hu) n1 (ne1 e (by simp)) λh' a1 a3 a5 hk=>?_
  refine ⟨_,rfl,wpAny_letOwnedTupleGo_enum (s:={s with heap:=h',toks:=s.toks + 1}) a1 λh'' z'' sb=>?_⟩
  have fT:H s.heap.objs.size=none:=I.hok.fresh (SW _)
  have old':∀{b:Tg}{o:Obj},s.heap.get? b=some o->b≠s.heap.objs.size:=λe=>Tr (S9 e)
  have eT:e≠s.heap.objs.size:=old' he
  have kk':∀b o,b∉[e,it]->s.heap.get? b=some o->h''.get? b=some o:=λb o hb z=>by
   simp only [S7,Uk,or_false,not_or] at hb
   exact sb.extBut _ _ hb.1 (hk b o hb.1 hb.2 z)
  have Tn:∀b∈[e,it],b≠s.heap.objs.size:=λb hb=>by
   (simp only [S7,Uk,or_false] at hb)
   rcases hb with rfl | rfl
   ·exact old' he
   ·exact old' q1.obj.choose_spec.1
  have up':∀{b:Tg}{o:HO},H b=some o->upd H s.heap.objs.size (.tup [.int i,x]) b=some o:=λz=>by rw [bu (eN z fT)];exact z
  have I2:Inv X Sq σ (upd H s.heap.objs.size (.tup [.int i,x])) {s with heap:=h'',gens:=s.gens,drawn:=s.drawn,toks:=s.toks + 1}:=by
   refine I.step (ch:=[e,it]) (λb hb=>⟨(hf b hb).2.2.2.1,(hf b hb).2.1,(hf b hb).2.2.2.2.1,(hf b hb).2.2.2.2.2⟩) (λb o _ _ hb z _=>kk' b o hb z) (λb o _ _ hb z _=>⟨o.slots,kk' b o hb z⟩) (λb o hb z n=>by rw [bu (old' z)];exact n)
    (λb o hb z=>⟨o,kk' b o hb z⟩) (λb xs z=>up' z) (λb o q z=>up' z) (λb ps z=>⟨#[],by rw [aav];exact up' z⟩) (λm hm=>?_) (λb q z=>?_) I.bare
   ·obtain ⟨o,es,ep,ho,r⟩:=hm
    exact ⟨o,es,ep,kk' _ o (λhb=>(hf _ hb).2.1 rfl) ho,r⟩
   ·by_cases hb:b=s.heap.objs.size
    ·subst hb
     rw [bR] at z
     cases z
     refine ⟨(by show 2<=sizeLine;decide),[.int i s.toks,u],.cons ⟨_,rfl⟩ (.cons ru .nil),⟨_,sb.extBut _ _ (Vi eT) a5,rfl,0,rfl⟩⟩
    ·rw [bu hb] at z
     have nch:∀d,(d=b\/H d=some (.own b))->d∉[e,it]:=λd hd hm=>by
      have:=(hf d hm).1
      rcases hd with rfl | hd
      ·rw [this] at z;cases z
      ·rw [this] at hd;cases hd
     exact (I.hok b q z).stay (λd o hd ho=>kk' d o (nch d hd) ho) (λ_ h=>up' h) λ_ _ h=>up' h
  refine ⟨.ref s.heap.objs.size,_,I2,rfl,⟨s.heap.objs.size,fT,rfl,λxs' x' c1 c3=>?_⟩,⟨⟨_,by simpa using z''⟩,a3.iq.keep λo z=>sb.extBut _ _ (Vi n1) z⟩,λb hb=>by rw [bu (Tn b hb)];exact (hf b hb).1⟩
  have e1:=kE.inj I c1 s1
  subst e1
  rw [hx] at c3
  cases c3
  rfl
 done:=by
  intro X hP hw hK hc i Sq s σ H E I hf st hg
  subst hP hw hK
  obtain ⟨⟨old,he⟩,q1⟩:=st
  obtain ⟨xs,s1,hend⟩:=hg
  obtain ⟨Su,r1,p1⟩:=s1.get I
  have ne1:∀b∈[e,it],l≠b:=λb hb=>s1.ne I (hf b hb)
  have Q4:Su.toArray[i]?=none:=by
   have e1:=r1.length
   simp;omega
  refine Jw (I.ok.hd hc) (Ew X.prog X.w k it l Su.toArray (ne1 it (by simp))) he (q1.sq p1) Q4 λh' hk=>⟨rfl,?_⟩
  have kk':∀b o,b∉[e,it]->s.heap.get? b=some o->h'.get? b=some o:=λb o hb z=>by
   simp only [S7,Uk,or_false,not_or] at hb
   exact hk b o hb.2 z
  refine I.step (ch:=[e,it]) (g':=s.gens) (d':=s.drawn) (t':=s.toks) (λb hb=>⟨(hf b hb).2.2.2.1,(hf b hb).2.1,(hf b hb).2.2.2.2.1,(hf b hb).2.2.2.2.2⟩) (λb o _ _ hb z _=>kk' b o hb z) (λb o _ _ hb z _=>⟨o.slots,kk' b o hb z⟩) (λb o hb z n=>n)
    (λb o hb z=>⟨o,kk' b o hb z⟩) (λb xs z=>z) (λb o q z=>z) (λb ps z=>⟨#[],by rw [aav];exact z⟩) (λm hm=>?_) (λb q z=>?_) I.bare
  ·obtain ⟨o,es,ep,ho,r⟩:=hm
   exact ⟨o,es,ep,kk' _ o (λhb=>(hf _ hb).2.1 rfl) ho,r⟩
  ·have nch:∀d,(d=b\/H d=some (.own b))->d∉[e,it]:=λd hd hm=>by
    have:=(hf d hm).1
    rcases hd with rfl | hd
    ·rw [this] at z;cases z
    ·rw [this] at hd;cases hd
   exact (I.hok b q z).stay (λd o hd ho=>kk' d o (nch d hd) ho) (λ_ h=>h) λ_ _ h=>h
 self:=λA i s Q E st h=>by
  obtain ⟨⟨old,he⟩,_⟩:=st
  exact aaW he h
section
variable {X:Cx}{c:C}{a:TV}{pos:Pos}{elts:List TV}{kk:Nat}{tp:Pos}
theorem D3:Ue "enumerate"=some (.type "enumerate"):=by decide +kernel
def N3 (K:SG) (ta:TA):TI:=λσ H Q=>ta σ H λvs H1=>∃k l xs,vs=[.ref l]/\kE k K H1 l xs/\Q (ON K k l) H1
theorem Kq {ta:TA}{p:Pos}(hg:Gl X "enumerate") (hm:X.mg "enumerate"=none) (ha:PA X [a] ta) (hs:SX [a] X.env=[(false,eval a X.env)]:=by rfl) (hs2:SX [] X.env=[]:=by rfl):
  PI X (.Tuple elts kk tp) (.Call (.Name "enumerate" p) [a] [] pos) (N3 X.K ta):=by
 intro Sq s σ H R I h
 refine Call_ (qG I hg hm D3 (Wv (bO (ha pos Sq s σ H _ I h) λus s1 ⟨vs,H1,I1,r1,q1⟩=>?_) (by rw [hs,hs2]) (by rw [hs2];rfl)))
 obtain ⟨k,l,xs,e,s1',q⟩:=q1
 subst e
 obtain ⟨Su,v1,p1⟩:=s1'.get I1
 cases r1 with
 | cons r rr=>
  cases rr
  cases r
  refine callType_new F.called_enumerate (by decide) (F.typeCall_enumerate_1 _) (F.newCall_enumerate_1 _) (λ_=>by first | exact F.args_object_init _ | rfl | decide) F.entry_enumerate_new (LM k l Su.toArray) ?_
  refine ⟨p1,?_⟩
  have gp:∀{h:Uz}{q:Tg}{u:Obj}(o:Obj),h.get? q=some u->(h.push o).get? q=some u:=λo e=>SO _ e
  refine ⟨⟨_,SY _ rfl,rfl⟩,aaW (old:=.none) (i:=0) (SY _ rfl) ?_⟩
  have e1:(Ip s1.heap k l).objs.size=s1.heap.objs.size + 1:=VV ..
  have I5:Inv X Sq σ H1 {s1 with heap:=LL s1.heap k l}:=I1.kept (t':=s1.toks) λb o h=>gp _ (gp _ h)
  refine ⟨_,[(Ip s1.heap k l).objs.size,s1.heap.objs.size],OX k l _ _,_,H1,rfl,I5,FZ k l _ _ (by rw [e1];exact Vj (UW _)),?_,?_,q⟩
  ·refine ⟨⟨.none,SY _ rfl⟩,?_⟩
   have h1:(LL s1.heap k l).get? s1.heap.objs.size=some (CO k l):=gp _ (SY _ rfl)
   rcases p1 with ⟨rfl,_⟩ | ⟨rfl,_⟩
   ·exact .inl ⟨rfl,_,h1,rfl,rfl⟩
   ·exact .inr ⟨rfl,_,h1,rfl,rfl⟩
  ·intro b hb
   have hle:s1.heap.objs.size<=b:=by
    (simp only [S7,Uk,or_false] at hb)
    rcases hb with rfl | rfl
    ·rw [e1];exact VD _
    ·exact SW _
   exact I1.fpOk hle (I1.hok.fresh hle)
end
section
variable {X:Cx}{c:C}{e a b:TV}{es elts:List TV}{pos tp:Pos}{kk:Nat}
noncomputable def Lw:R->M (List D)
 | .d (.tup xs)=>.ok xs
 | .d (.lst xs)=>.ok xs
 | _=>.bad
noncomputable def Qh (gs:G (List R)):G (List D):=λenv=>gs env >>= λrs=>match rs with
 | [x,y]=>Lw x >>= λxs=>Lw y >>= λys=>.ok (List.zipWith (λa b=>.tup [a,b]) xs ys)
 | _=>.bad
theorem Gf:bP X (.type "range") (λxs H Q=>∃j:Int,xs=[.int j]/\∀p,H p=none->Q (.ref p) (upd H p (.rng 0 j))):=by
 intro Sq s σ H xs us Q I r h
 obtain ⟨j,rfl,q⟩:=h
 obtain ⟨u,rfl,t,rfl⟩:=vals1 r
 refine call_range_1 ⟨.ref s.heap.objs.size,_,I.laid (λb o e=>SO _ e) (SW _) (show cG X.prog X.w _ _ _ (.rng 0 j) from ⟨_,_,_,SY _ rfl⟩),rfl,q _ (I.hok.fresh (SW _))⟩
def mO (n:Nat):List V:=(SM n).map λ(k:Nat)=>V.int k
theorem HV {acc:Array SI}(h:ItemsOf (λi v=>∃t,v=.int (0 + (i:Int) * 1) t) acc n):Vals (mO n) acc.toList:=by
 have key:∀(us:List SI) (i:Nat),(∀j v,us[j]?=some v->∃t:Tok,v=abp ((i + j:Nat):Int) t)->Vals ((List.range' i us.length).map λ(k:Nat)=>V.int k) us:=by
  intro us
  induction us with
  | nil=>exact λi _=>.nil
  | cons u us ih=>
   intro i hj
   obtain ⟨t,e⟩:=hj 0 u rfl
   rw [Uv,List.range'_succ,Td]
   refine .cons ⟨t,by rw [e];rfl⟩ (ih (i + 1) λj v hv=>?_)
   obtain ⟨t,e⟩:=hj (j + 1) v (by simpa using hv)
   exact ⟨t,by rw [e];congr 2;omega⟩
 have e:acc.toList.length=n:=by rw [S4];exact h.1
 unfold mO
 rw [List.range_eq_range',<-e]
 refine key acc.toList 0 λj v hv=>?_
 obtain ⟨t,q⟩:=h.2 j v (by simpa using hv)
 exact ⟨t,by rw [q];congr 1;omega⟩
theorem yi (hc:X.calm=true):bP X (.type "list") (λxs H Q=>∃(p:Tg) (j:Int),xs=[.ref p]/\H p=some (.rng 0 j)/\-(2 ^ 24)<=j/\j<=2 ^ 24/\∀l,H l=none->Q (.ref l) (upd H l (.lst (mO j.toNat)))):=by
 intro Sq s σ H xs us Q I r h
 obtain ⟨p,j,rfl,hp,h0,h1,q⟩:=h
 obtain ⟨u,rfl,rx⟩:=vals1 r
 cases rx
 obtain ⟨t,u,v,ho⟩:=I.hok p _ hp
 have hn:YW 0 j 1=(j.toNat:Int):=by rw [acn];split <;> omega
 refine call_list_range (I.ok.hd hc) ho (small_one (by decide) (by decide) (by omega) (by omega)) hn (by omega) λh' tk acc' c' kp e hi=>?_
 have hv:=HV hi
 refine ⟨.ref s.heap.objs.size,_,I.laid kp (SW _) (show cG X.prog X.w _ h' _ (.lst (mO j.toNat)) from ⟨?_,acc'.toList,c',hv,e⟩),rfl,q _ (I.hok.fresh (SW _))⟩
 unfold mO
 rw [SK,Vf]
 show j.toNat<=2 ^ 24
 omega
noncomputable def uQ (gs:G (List R)):G R:=λenv=>gs env >>= λrs=>match rs with
 | [.d (.int j)]=>if below 16777216 j then .ok (.l .fresh (fW 0 j.toNat)) else .bad
 | _=>.bad
theorem HD {K:SG}{J:Hp}(n:Nat):aH K J (fW 0 n) (mO n):=by
 unfold fW mO
 generalize SM n=ks
 induction ks with
 | nil=>exact .nil
 | cons k ks ih=>
  rw [Td,Td,Int.zero_add]
  exact .cons (.int _) ih
end
end DL
namespace DL
open PySem PySem.Spec PyProof.Rows L2 DX
section
variable {X:Cx}{c:C}{e a:TV}{es:List TV}{ga g:G R}{pos:Pos}{L:List Str}{T:Str->Bool}
theorem vh {p p2 pos2:Pos}{gs:G (List R)}(ha:jj X c [a] gs) (hm:X.mg "range"=none) (hm2:X.mg "list"=none) (hc:X.calm=true:=by rfl) (hK:X.K=c.K:=by rfl) (hg:Gl X "range":=by rfl) (QU:Gl X "list":=by rfl)
  (hs:SX [a] X.env=(false,eval a X.env)::SX [] X.env:=by rfl) (hs0:(Vb pos (SX [] X.env)).any (·.1)=false:=by rfl) (hs2:SX [adP (.Name "range" p) [a] [] pos] X.env=(false,eval (adP (.Name "range" p) [a] [] pos) X.env)::SX [] X.env:=by rfl) (Sa:(Vb pos2 (SX [] X.env)).any (·.1)=false:=by rfl):
  QD X c (.Call (.Name "list" p2) [.Call (.Name "range" p) [a] [] pos] [] pos2) (uQ gs):=by
 have ha:=ha.h
 refine ⟨?_⟩
 have h1:=kc (p:=p) (pos:=pos) Gf hg hm boot_range ha (by decide) (by decide) hs hs0
 have h2:=kc (p:=p2) (pos:=pos2) (yi hc) QU hm2 uA (eY h1 gX hs2) (by decide) (by decide) hs2 Sa
 refine gj h2 λσ H Q ⟨J,env,sr,w⟩=>?_
 refine ⟨J,env,sr,aF (aL w) λrs wr vs J1 H1 e1 r1=>?_⟩
 split at wr
 ·rename_i j
  obtain ⟨v,rfl,r⟩:=r1.one
  cases r
  split at wr
  ·rename_i hb
   obtain ⟨b1,b2⟩:=cW.mp hb
   refine ⟨j,rfl,λq hq=>?_⟩
   refine ⟨q,j,rfl,bR,by omega,by omega,λl hl=>?_⟩
   have hp1:=sr.hp.ext e1
   have e2:=Ext.new hp1.sub hq (.rng 0 j)
   have hp2:=hp1.ext e2
   have hr:RR c H1 J1 (upd (upd H1 q (.rng 0 j)) l (.lst (mO j.toNat))) (.l .fresh (fW 0 j.toNat)) (.ref l):=by
    obtain ⟨a,us,x1,x2,x3,x4,x5⟩:=g_ (c:=c) hp2 hl (HD j.toNat)
    exact ⟨a,us,x1,x2,x3,e2.h.free x4,x5⟩
   exact wr _ _ _ ((e1.trans e2).trans (Ext.new hp2.sub hl _)) (by
    obtain ⟨a,us,x1,x2,x3,x4,x5⟩:=hr
    exact ⟨a,us,x1,x2,x3,e1.h.free x4,x5⟩)
  ·exact wr.elim
 ·exact wr.elim
end
end DL
namespace DL
open PySem PySem.Spec PyProof.Rows L2
section
variable {X:Cx}{c:C}{a:TV}{pos:Pos}{elts:List TV}{kk:Nat}{tp:Pos}
def mE (xs:List D):List D:=xs.zipIdx.map λp=>.tup [.int p.2,p.1]
theorem Gn {xs:List D}{i:Nat}{d:D}(h:(mE xs)[i]?=some d):∃x,xs[i]?=some x/\d=.tup [.int i,x]:=by
 unfold mE at h
 rw [Tq,List.getElem?_zipIdx] at h
 cases q:xs[i]? with
 | none=>rw [q] at h;simp at h
 | some x=>rw [q] at h;simp at h;exact ⟨x,rfl,h.symm⟩
theorem Et (xs:List D):(mE xs).length=xs.length:=by unfold mE;simp
noncomputable def Iu (gs:G (List R)):G (List D):=λenv=>gs env >>= λrs=>match rs with
 | [x]=>zf x >>= λxs=>.ok (mE xs)
 | _=>.bad
end
end DL
namespace DL
open PySem PySem.Spec PyProof.Rows L2 DX
open PySem.W (KasT kas_sort kas_ask)
section
variable {X:Cx}{c:C}{e:TV}{es:List TV}{pos:Pos}
noncomputable def jX:List R->M R
 | [r]=>iy r >>= λxs=>if xC xs=true then .ok (.l .fresh (bN xs)) else if vc xs=true then .ok (.l .fresh (bN xs)) else .bad
 | _=>.bad
theorem bP.or {r1 r2:List V->Hp->VK->Prop}(h1:bP X f r1) (h2:bP X f r2):bP X f (λxs H Q=>r1 xs H Q\/r2 xs H Q):=λSq s σ H xs us Q I rv h=>h.elim (h1 Sq s σ H xs us Q I rv) (h2 Sq s σ H xs us Q I rv)
theorem qP {p:Pos}{gs:G (List R)}(hu:X.A.units + 64 < UL) (ha:jj X c (e::es) gs) (hm:X.mg "sorted"=none) (hK:X.K=c.K:=by rfl) (hg:Gl X "sorted":=by rfl)
  (he:SX (e::es) X.env=(false,eval e X.env)::SX es X.env:=by rfl) (hpl:(Vb pos (SX es X.env)).any (·.1)=false:=by rfl):QD X c (.Call (.Name "sorted" p) (e::es) [] pos) (gN jX gs):=have ha:=ha.h;⟨
 jQ (zx hu) (by
  intro He J H xs vs Q hp rs w
  unfold jX at w
  split at w
  ·obtain ⟨v,rfl,r⟩:=rs.one
   obtain ⟨xs,q,w⟩:=jc w
   obtain ⟨p,vs,rfl,h1,h2⟩:=kW hp r q
   rw [hK]
   split at w
   ·rename_i ok
    exact ⟨p,vs,xs,rfl,h1,h2.mono hp.sub,.inl ok,λl vs' hl rr=>w _ _ _ (Ext.new hp.sub hl _) (g_ hp hl (rr _ h2))⟩
   ·split at w
    ·rename_i ok
     exact ⟨p,vs,xs,rfl,h1,h2.mono hp.sub,.inr ok,λl vs' hl rr=>w _ _ _ (Ext.new hp.sub hl _) (g_ hp hl (rr _ h2))⟩
    ·exact w.elim
  ·exact w.elim) jo hm ha hg (by decide) (by decide) he hpl⟩
end
end DL
namespace DL
open PySem PySem.Spec PyProof.Rows L2 DX
end DL
namespace ST
open PySem PySem.SetTable
theorem wg (xs:Array Nat) (j:Nat) (hs:xs.toList.Pairwise (· < ·)):∀(f lo hi:Nat),hi<=xs.size->lo<=hi->hi - lo<=f->(∀i,i < lo->xs.getD i 0 < j)->(∀i,hi<=i->i < xs.size->j<=xs.getD i 0)->
  below.go xs j f lo hi<=xs.size/\(∀i,i < below.go xs j f lo hi->xs.getD i 0 < j)/\∀i,below.go xs j f lo hi<=i->i < xs.size->j<=xs.getD i 0
 | 0,lo,hi,h1,h2,h3,h4,h5=>by
  have:lo=hi:=by omega
  subst this
  exact ⟨h1,h4,h5⟩
 | f + 1,lo,hi,h1,h2,h3,h4,h5=>by
  have mono:∀a b,a<=b->b < xs.size->xs.getD a 0<=xs.getD b 0:=λa b hab hb=>by
   rcases aaw hab with h | h
   ·have:=Ug.mp hs a b (by simpa using Wa h hb) (by simpa using hb) h
    simp [Ve,Wa h hb,hb] at this ⊢
    omega
   ·rw [h];exact SW _
  unfold below.go
  by_cases c:lo < hi
  ·rw [if_pos c]
   have hm:(lo + hi) / 2 < xs.size:=by omega
   have e:xs.getD ((lo + hi) / 2) j=xs.getD ((lo + hi) / 2) 0:=by simp [Ve,hm]
   by_cases d:xs.getD ((lo + hi) / 2) j < j
   ·simp only [d,if_true]
    rw [e] at d
    exact wg xs j hs f _ hi h1 (by omega) (by omega) (λi hi'=>YB (mono i ((lo + hi) / 2) (by omega) hm) d) h5
   ·simp only [d,if_false]
    rw [e] at d
    exact wg xs j hs f lo _ (by omega) (by omega) (by omega) h4 (λi hi' hs'=>Tz (by omega) (mono ((lo + hi) / 2) i hi' hs'))
  ·rw [if_neg c]
   have:lo=hi:=by omega
   subst this
   exact ⟨h1,h4,h5⟩
theorem ow (xs:Array Nat) (j:Nat) (hs:xs.toList.Pairwise (· < ·)):below xs j<=xs.size/\(∀i,i < below xs j->xs.getD i 0 < j)/\∀i,below xs j<=i->i < xs.size->j<=xs.getD i 0:=
 wg xs j hs xs.size 0 xs.size (SW _) (Tp _) (by omega) (λi h=>absurd h (Uw _)) (λi h1 h2=>by omega)
theorem below_at {xs:Array Nat}(hs:xs.toList.Pairwise (· < ·)) (h:xs[i]?=some j):below xs j=i:=by
 obtain ⟨hi,e⟩:=Us.mp h
 obtain ⟨b1,b2,b3⟩:=ow xs j hs
 have g:xs.getD i 0=j:=by simp [Ve,hi,e]
 rcases WH (below xs j) i with c | c | c
 ·have h1:=b3 (below xs j) (SW _) (by omega)
  have:=Ug.mp hs (below xs j) i (by simpa using Wa c hi) (by simpa using hi) c
  simp [Ve,Wa c hi] at h1
  simp at this
  omega
 ·exact c
 ·have:=b2 i c
  omega
theorem qW {t:UK}(hs:t.place.toList.Pairwise (· < ·)) (h:t.place[i]?=some j):t.slot j=.live i:=by
 unfold slot
 rw [below_at hs h]
 show (if (t.place[i]? == some j)=true then Slot.live i else _)=_
 rw [h]
 simp
theorem vB {t:UK}(hd:t.dummies=#[]) (h:j∉t.place.toList):t.slot j=.empty:=by
 unfold slot
 have h1:(t.place[below t.place j]? == some j)=false:=by
  rw [beq_eq_false_iff_ne]
  intro z
  exact h (by
   obtain ⟨hi,e⟩:=Us.mp z
   rw [<-e]
   simp)
 have h2:has t.dummies j=false:=by rw [hd];rfl
 simp only [h1,h2,Tf,if_false]
noncomputable def st (mask:Nat) (h:Int):Nat->Probe
 | 0=>({mask:=mask,place:=#[],dummies:=#[],finger:=0,led:=true,moves:=0,plain:=true}:UK).probeStart h
 | n + 1=>({mask:=mask,place:=#[],dummies:=#[],finger:=0,led:=true,moves:=0,plain:=true}:UK).advance (st mask h n)
abbrev pos (mask:Nat) (h:Int) (n:Nat):Nat:=(st mask h n).j
theorem pD (mask:Nat) (h:Int):∀n,(st mask h n).dummy=none
 | 0=>rfl
 | n + 1=>by
  unfold st advance
  split
  ·exact pD mask h n
  ·exact pD mask h n
noncomputable def tn (mask:Nat) (h:Int):Nat->Nat×Nat
 | 0=>(bits h % (mask + 1),bits h)
 | k + 1=>leap mask (tn mask h k).1 (tn mask h k).2
theorem xR (mask:Nat) (h:Int):∀(m n:Nat) (i p j:Nat),st mask h n={j:=j,more:=m,i:=i,perturb:=p,dummy:=none}->st mask h (n + m)={j:=j + m,more:=0,i:=i,perturb:=p,dummy:=none}
 | 0,n,i,p,j,e=>e
 | m + 1,n,i,p,j,e=>by
  have e1:st mask h (n + 1)={j:=j + 1,more:=m,i:=i,perturb:=p,dummy:=none}:=by
   show advance _ (st mask h n)=_
   rw [e]
   unfold advance
   simp
  have:=xR mask h m (n + 1) i p (j + 1) e1
  rw [show n + (m + 1)=n + 1 + m by omega,this]
  congr 1;omega
theorem B8 (mask:Nat) (h:Int):∀k,∃n,n<=10 * k/\st mask h n={j:=(tn mask h k).1,more:=runEnd mask (tn mask h k).1 - (tn mask h k).1,i:=(tn mask h k).1,perturb:=(tn mask h k).2,dummy:=none}
 | 0=>⟨0,SW _,rfl⟩
 | k + 1=>by
  obtain ⟨n,hn,e⟩:=B8 mask h k
  have hm:runEnd mask (tn mask h k).1 - (tn mask h k).1<=9:=by unfold runEnd;split <;> omega
  have:=xR mask h _ n _ _ _ e
  refine ⟨n + (runEnd mask (tn mask h k).1 - (tn mask h k).1) + 1,by omega,?_⟩
  show advance _ (st mask h (n + (runEnd mask (tn mask h k).1 - (tn mask h k).1)))=_
  rw [this]
  unfold advance
  simp
  exact ⟨rfl,rfl,rfl,rfl⟩
theorem vF (mask:Nat) (h:Int):∀k,(tn mask h k).2=bits h / 32 ^ k
 | 0=>by simp [tn]
 | k + 1=>by
  show (tn mask h k).2 / 32=_
  rw [vF mask h k,Zk,aa8]
theorem Jl (h:Int):bits h < 2 ^ 64:=by
 unfold bits
 have:=Xm h (b:=2 ^ 64) (by decide)
 omega
def EV (mask i:Nat):Nat:=(i * 5 + 1) % (mask + 1)
noncomputable def iE (mask:Nat):Nat->Nat->Nat
 | 0,i=>i
 | r + 1,i=>EV mask (iE mask r i)
theorem AB (mask:Nat) (h:Int):∀r,(tn mask h (12 + r)).1=iE mask r (tn mask h 12).1
 | 0=>rfl
 | r + 1=>by
  show (leap mask (tn mask h (12 + r)).1 (tn mask h (12 + r)).2).1=EV mask (iE mask r (tn mask h 12).1)
  rw [<-AB mask h r,vF]
  unfold leap EV
  have:bits h / 32 ^ (12 + r) / 32=0:=by
   rw [Zk,<-aa8]
   refine Nat.div_eq_of_lt (To (Jl h) ?_)
   refine Tz (show 2 ^ 64<=32 ^ 13 by decide) (Vv (by decide) (by omega))
  rw [this]
theorem O9:∀i:Fin 8,∀j:Fin 8,(SM 8).any (λr=>iE 7 r i.val == j.val)=true:=by decide +kernel
theorem N1:∀i:Fin 32,∀j:Fin 32,(SM 32).any (λr=>iE 31 r i.val == j.val)=true:=by decide +kernel
def LK:List Nat:=(SM 128).map λr=>iE 127 r 0
theorem Bp:∀j:Fin 128,LK.contains j.val=true:=by decide +kernel
theorem Jq:iE 127 128 0=0:=by decide +kernel
theorem oX (mask:Nat):∀a b i,iE mask (a + b) i=iE mask a (iE mask b i)
 | 0,b,i=>by rw [aa9];rfl
 | a + 1,b,i=>by
  rw [show a + 1 + b=(a + b) + 1 by omega]
  show EV mask (iE mask (a + b) i)=EV mask (iE mask a (iE mask b i))
  rw [oX mask a b i]
def mh (mask:Nat):Prop:=mask=7\/mask=31\/mask=127
theorem Eo {mask:Nat}(hm:mh mask) (i j:Nat) (hi:i<=mask) (hj:j<=mask):∃r,r<=mask/\iE mask r i=j:=by
 rcases hm with rfl | rfl | rfl
 ·have:=O9 ⟨i,by omega⟩ ⟨j,by omega⟩
  rw [VJ] at this
  obtain ⟨r,h1,h2⟩:=this
  exact ⟨r,by have:=Tj.mp h1;omega,by simpa using h2⟩
 ·have:=N1 ⟨i,by omega⟩ ⟨j,by omega⟩
  rw [VJ] at this
  obtain ⟨r,h1,h2⟩:=this
  exact ⟨r,by have:=Tj.mp h1;omega,by simpa using h2⟩
 ·have hi':=Bp ⟨i,by omega⟩
  have hj':=Bp ⟨j,by omega⟩
  rw [List.contains_iff_mem] at hi' hj'
  obtain ⟨a,ha,ea⟩:=S3.mp hi'
  obtain ⟨b,hb,eb⟩:=S3.mp hj'
  have ha:=Tj.mp ha
  have hb:=Tj.mp hb
  have ea:iE 127 a 0=i:=ea
  have eb:iE 127 b 0=j:=eb
  by_cases c:a<=b
  ·refine ⟨b - a,by omega,?_⟩
   rw [<-ea,<-oX,show b - a + a=b by omega]
   exact eb
  ·refine ⟨128 + b - a,by omega,?_⟩
   rw [<-ea,<-oX,show 128 + b - a + a=b + 128 by omega,oX,Jq]
   exact eb
theorem DC (mask:Nat) (h:Int) (k:Nat):(tn mask h k).1<=mask:=by
 cases k with
 | zero=>exact XC (ZP _ (by omega))
 | succ k=>exact XC (ZP _ (by omega))
theorem visits {mask:Nat}(hm:mh mask) (h:Int) (j:Nat) (hj:j<=mask):∃n,n<=10 * (mask + 12)/\pos mask h n=j:=by
 obtain ⟨r,hr,e⟩:=Eo hm (tn mask h 12).1 j (DC mask h 12) hj
 obtain ⟨n,hn,q⟩:=B8 mask h (12 + r)
 refine ⟨n,by omega,?_⟩
 show (st mask h n).j=j
 rw [q]
 show (tn mask h (12 + r)).1=j
 rw [AB,e]
theorem uN {mask:Nat}(hm:mh mask) (h:Int) (P:List Nat) (hP:P.length<=mask):∃n,n<=10 * (mask + 12)/\pos mask h n∉P/\∀m,m < n->pos mask h m∈P:=by
 have ex:∃j,j<=mask/\j∉P:=by
  by_cases c:∀j,j<=mask->j∈P
  ·exfalso
   have:(SM (mask + 1)).length<=P.length:=TH Vc λj hj=>c j (by have:=Tj.mp hj;omega)
   rw [Vf] at this
   omega
  ·exact US λz=>c λj hj=>US λy=>z ⟨j,hj,y⟩
 obtain ⟨j,hj,hn⟩:=ex
 obtain ⟨n,hn1,hn2⟩:=visits hm h j hj
 have key:∀k,k<=n->(∃m,m<=k/\pos mask h m∉P/\∀m',m' < m->pos mask h m'∈P)\/∀m,m<=k->pos mask h m∈P:=by
  intro k
  induction k with
  | zero=>
   intro _
   by_cases c:pos mask h 0∈P
   ·exact .inr λm hm=>by rw [show m=0 by omega];exact c
   ·exact .inl ⟨0,SW _,c,λm' h'=>absurd h' (Uw _)⟩
  | succ k ih=>
   intro hk
   rcases ih (by omega) with ⟨m,h1,h2⟩ | h1
   ·exact .inl ⟨m,by omega,h2⟩
   ·by_cases c:pos mask h (k + 1)∈P
    ·exact .inr λm hm=>by
      by_cases d:m<=k
      ·exact h1 m d
      ·rw [show m=k + 1 by omega];exact c
    ·exact .inl ⟨k + 1,SW _,c,λm' h'=>h1 m' (by omega)⟩
 rcases key n (SW _) with ⟨m,h1,h2,h3⟩ | h1
 ·exact ⟨m,by omega,h2,h3⟩
 ·exact absurd (h1 n (SW _)) (by rw [hn2];exact hn)
def Reach (mask:Nat) (P:List Nat) (h:Int) (j:Nat):Prop:=∃n,pos mask h n=j/\∀m,m < n->pos mask h m∈P
theorem Reach.mono {mask:Nat}{P P':List Nat}{h:Int}{j:Nat}(r:Reach mask P h j) (s:∀x∈P,x∈P'):Reach mask P' h j:=
 let ⟨n,h1,h2⟩:=r;⟨n,h1,λm hm=>s _ (h2 m hm)⟩
structure Tab (t:UK) (es:Array (Int×SI)) (L:List (Nat×Int×SI)):Prop where
 dm:t.dummies=#[]
 pl:t.place.toList=L.map (·.1)
 en:es.toList=L.map (·.2)
 so:(L.map (·.1)).Pairwise (· < ·)
 bd:∀e∈L,e.1<=t.mask
 mo:mh t.mask
 fl:L.length<=t.mask
 pr:∀e∈L,Reach t.mask (L.map (·.1)) e.2.1 e.1
section
variable {t:UK}{es:Array (Int×SI)}{L:List (Nat×Int×SI)}
theorem Tab.at_ (T:Tab t es L){i:Nat}{e:Nat×Int×SI}(h:L[i]?=some e):t.place[i]?=some e.1/\es[i]?=some e.2:=by
 constructor
 ·rw [<-UC,T.pl,Tq,h];rfl
 ·rw [<-UC,T.en,Tq,h];rfl
theorem Tab.sop (T:Tab t es L):t.place.toList.Pairwise (· < ·):=by rw [T.pl];exact T.so
theorem Ai (T:Tab t es L) (hashAt:Nat->Int) (hA:∀i e,es[i]?=some e->hashAt i=e.1) (h:Int) (n0:Nat) (hf:pos t.mask h n0∉L.map (·.1)) (hb:∀m,m < n0->pos t.mask h m∈L.map (·.1)):
  ∀(d n F:Nat),n0 - n=d->n<=n0->d < F->∃m,n<=m/\m<=n0/\(∀k,n<=k->k < m->∀e∈L,e.1=pos t.mask h k->e.2.1≠h)/\
   ((m=n0/\probe.go t hashAt h F (st t.mask h n)=some (.empty (pos t.mask h n0) none))\/(m < n0/\∃i e,L[i]?=some e/\e.1=pos t.mask h m/\e.2.1=h/\probe.go t hashAt h F (st t.mask h n)=some (.candidate (pos t.mask h m) i (st t.mask h (m + 1)))))
 | d,n,0,_,_,h=>absurd h (Uw _)
 | d,n,F + 1,hd,hn,hF=>by
  by_cases c:n=n0
  ·subst c
   refine ⟨n,SW _,SW _,λk h1 h2=>by omega,.inl ⟨rfl,?_⟩⟩
   unfold probe.go
   rw [vB T.dm (by rw [T.pl];exact hf)]
   show some (Met.empty _ (st t.mask h n).dummy)=_
   rw [pD]
  ·obtain ⟨e,he,ej⟩:=S3.mp (hb n (by omega))
   obtain ⟨i,hi,rfl⟩:=Uj.mp he
   have hL:L[i]?=some L[i]:=S5 hi
   obtain ⟨p1,p2⟩:=T.at_ hL
   have hs:t.slot (pos t.mask h n)=.live i:=qW T.sop (by rw [p1,ej])
   have hh:=hA i _ p2
   have uniq:∀e∈L,e.1=pos t.mask h n->e=L[i]:=λe he q=>by
    obtain ⟨k,hk,rfl⟩:=Uj.mp he
    have:k=i:=by
     have sw:=Ug.mp T.so
     rcases WH k i with c | c | c
     ·have:=sw k i (by simpa using hk) (by simpa using hi) c
      simp at this
      omega
     ·exact c
     ·have:=sw i k (by simpa using hi) (by simpa using hk) c
      simp at this
      omega
    subst this;rfl
   by_cases q:L[i].2.1=h
   ·refine ⟨n,SW _,by omega,λk h1 h2=>by omega,.inr ⟨by omega,i,L[i],hL,ej,q,?_⟩⟩
    unfold probe.go
    rw [hs]
    show (if (hashAt i == h)=true then _ else _)=_
    rw [hh,q,if_pos (by simp)]
    rfl
   ·obtain ⟨m,m1,m2,m3,m4⟩:=Ai T hashAt hA h n0 hf hb (n0 - (n + 1)) (n + 1) F rfl (by omega) (by omega)
    have eg:probe.go t hashAt h (F + 1) (st t.mask h n)=probe.go t hashAt h F (st t.mask h (n + 1)):=by
     rw [probe.go,hs]
     show (if (hashAt i == h)=true then _ else _)=_
     rw [hh,if_neg (by simpa using q)]
     rfl
    rw [eg]
    refine ⟨m,by omega,m2,λk h1 h2 e he' ek=>?_,m4⟩
    by_cases z:k=n
    ·subst z
     rw [uniq e he' ek];exact q
    ·exact m3 k (by omega) h2 e he' ek
theorem pS {α:Type}(xs:Array α) (p:Nat) (x:α) (hp:p<=xs.size):(insertAt xs p x).toList=xs.toList.take p++x::xs.toList.drop p:=by
 unfold insertAt
 simp
 (exact List.take_of_length_le (by simp))
theorem Tab.put (T:Tab t es L) (h:Int) (x:SI) (n0:Nat) (hf:pos t.mask h n0∉L.map (·.1)) (hb:∀m,m < n0->pos t.mask h m∈L.map (·.1)) (hj:pos t.mask h n0<=t.mask) (hl:L.length + 1<=t.mask):
  ∃L',Tab (t.put (pos t.mask h n0)).1 (insertAt es (t.put (pos t.mask h n0)).2 (h,x)) L'/\L'.Perm ((pos t.mask h n0,h,x)::L):=by
 obtain ⟨b1,b2,b3⟩:=ow t.place (pos t.mask h n0) T.sop
 generalize hp:below t.place (pos t.mask h n0)=p at b1 b2 b3
 have hsz:t.place.size=L.length:=by rw [<-S4,T.pl,SK]
 have hes:es.size=L.length:=by rw [<-S4,T.en,SK]
 have perm:(L.take p++(pos t.mask h n0,h,x)::L.drop p).Perm ((pos t.mask h n0,h,x)::L):=by
  have:=abh (a:=(pos t.mask h n0,h,x)) (l₁:=L.take p) (l₂:=L.drop p)
  rwa [ZA] at this
 have e1:(t.put (pos t.mask h n0))=({t with place:=insertAt t.place p (pos t.mask h n0),dummies:=#[]},p):=by
  unfold SetTable.put
  rw [hp,T.dm]
  rfl
 rw [e1]
 have getP:∀i (hi:i < L.length),t.place.getD i 0=L[i].1:=λi hi=>by
  have:=(T.at_ (S5 hi)).1
  have hi':i < t.place.size:=by omega
  simp [Ve,hi']
  rw [VX hi'] at this
  exact Ul this
 refine ⟨L.take p++(pos t.mask h n0,h,x)::L.drop p,⟨rfl,?_,?_,?_,λe he=>?_,T.mo,?_,λe he=>?_⟩,perm⟩
 ·show (insertAt t.place p (pos t.mask h n0)).toList=_
  rw [pS _ _ _ b1,T.pl]
  simp [Xh,Yb]
 ·show (insertAt es p (h,x)).toList=_
  rw [pS _ _ _ (by omega),T.en]
  simp [Xh,Yb]
 ·rw [Th,Td,UN]
  refine ⟨?_,?_,?_⟩
  ·rw [Xh]
   exact T.so.sublist (WD _ _)
  ·rw [VQ]
   refine ⟨λa ha=>?_,?_⟩
   ·obtain ⟨e,he,rfl⟩:=S3.mp ha
    obtain ⟨i,hi,rfl⟩:=Uj.mp he
    rw [aaX]
    rw [Vs] at hi
    have:=b3 (p + i) (by omega) (by omega)
    rw [getP _ (by omega)] at this
    rcases aaw this with c | c
    ·exact c
    ·exact absurd (S3.mpr ⟨L[p + i],T3 _,c.symm⟩) hf
   ·rw [Yb]
    exact T.so.sublist (aaU _ _)
  ·intro a ha b hb
   obtain ⟨e,he,rfl⟩:=S3.mp ha
   obtain ⟨i,hi,rfl⟩:=Uj.mp he
   rw [List.getElem_take]
   rw [UE] at hi
   have h1:=b2 i (by omega)
   rw [getP _ (by omega)] at h1
   (rcases S7.mp hb with rfl | hb)
   ·exact h1
   ·obtain ⟨e,he,rfl⟩:=S3.mp hb
    obtain ⟨k,hk,rfl⟩:=Uj.mp he
    rw [aaX]
    rw [Vs] at hk
    have:=b3 (p + k) (by omega) (by omega)
    rw [getP _ (by omega)] at this
    omega
 ·rcases S7.mp (perm.mem_iff.mp he) with rfl | he
  ·exact hj
  ·exact T.bd e he
 ·rw [perm.length_eq];exact hl
 ·have sub:∀y∈L.map (·.1),y∈(L.take p++(pos t.mask h n0,h,x)::L.drop p).map (·.1):=λy hy=>by
   obtain ⟨e,he,rfl⟩:=S3.mp hy
   exact S3.mpr ⟨e,perm.mem_iff.mpr (SS _ he),rfl⟩
  rcases S7.mp (perm.mem_iff.mp he) with rfl | he
  ·exact ⟨n0,rfl,λm hm=>sub _ (hb m hm)⟩
  ·exact (T.pr e he).mono sub
end
theorem nZ (mask:Nat) (h:Int) (n i p m:Nat) (e:st mask h n={j:=i,more:=m,i:=i,perturb:=p,dummy:=none}):∀r,r<=m->st mask h (n + r)={j:=i + r,more:=m - r,i:=i,perturb:=p,dummy:=none}
 | 0,_=>e
 | r + 1,hr=>by
  show advance _ (st mask h (n + r))=_
  rw [nZ mask h n i p m e r (by omega)]
  unfold advance
  rw [if_pos (by show m - r > 0;omega)]
  show Probe.mk _ _ _ _ _=_
  congr 1
theorem F1 (mask:Nat) (h:Int) (k n:Nat) (e:st mask h n={j:=(tn mask h k).1,more:=runEnd mask (tn mask h k).1 - (tn mask h k).1,i:=(tn mask h k).1,perturb:=(tn mask h k).2,dummy:=none}):
  st mask h (n + (runEnd mask (tn mask h k).1 - (tn mask h k).1) + 1)={j:=(tn mask h (k + 1)).1,more:=runEnd mask (tn mask h (k + 1)).1 - (tn mask h (k + 1)).1,i:=(tn mask h (k + 1)).1,perturb:=(tn mask h (k + 1)).2,dummy:=none}:=by
 show advance _ (st mask h (n + (runEnd mask (tn mask h k).1 - (tn mask h k).1)))=_
 rw [nZ mask h n _ _ _ e _ (SW _)]
 unfold advance
 simp
 exact ⟨rfl,rfl,rfl,rfl⟩
theorem xm (mask:Nat) (h:Int) (owner:Array (Option Nat)) (G:List Nat) (ho:∀j,j<=mask->((owner.getD j (some 0)).isNone=true↔j∉G)):
  ∀(f k n:Nat),st mask h n={j:=(tn mask h k).1,more:=runEnd mask (tn mask h k).1 - (tn mask h k).1,i:=(tn mask h k).1,perturb:=(tn mask h k).2,dummy:=none}->(∀m,m < n->pos mask h m∈G)->
   (∃n',layClean.free mask owner f (tn mask h k).1 (tn mask h k).2=some (pos mask h n')/\pos mask h n'<=mask/\pos mask h n'∉G/\∀m,m < n'->pos mask h m∈G)\/(layClean.free mask owner f (tn mask h k).1 (tn mask h k).2=none/\∀r,r < f->(tn mask h (k + r)).1∈G)
 | 0,k,n,e,hb=>.inr ⟨rfl,λr hr=>absurd hr (Uw _)⟩
 | f + 1,k,n,e,hb=>by
  have hi:=DC mask h k
  have re:runEnd mask (tn mask h k).1<=mask/\(tn mask h k).1<=runEnd mask (tn mask h k).1:=by unfold runEnd;split <;> omega
  unfold layClean.free
  cases q:(SM (runEnd mask (tn mask h k).1 + 1 - (tn mask h k).1)).find? λr=>(owner.getD ((tn mask h k).1 + r) (some 0)).isNone with
  | some r=>
   have h1:=List.find?_some q
   have h2:=Tj.mp (List.mem_of_find?_eq_some q)
   have h3:pos mask h (n + r)=(tn mask h k).1 + r:=by
    show (st mask h (n + r)).j=_
    rw [nZ mask h n _ _ _ e r (by omega)]
   refine .inl ⟨n + r,?_,?_,?_,?_⟩
   ·show some _=_
    rw [h3]
   ·rw [h3];omega
   ·rw [h3];exact (ho _ (by omega)).mp h1
   ·intro m hm
    by_cases c:m < n
    ·exact hb m c
    ·obtain ⟨s,rfl⟩:∃s,m=n + s:=⟨m - n,by omega⟩
     have h4:pos mask h (n + s)=(tn mask h k).1 + s:=by
      show (st mask h (n + s)).j=_
      rw [nZ mask h n _ _ _ e s (by omega)]
     rw [h4]
     refine US λz=>?_
     have z':=(ho ((tn mask h k).1 + s) (by omega)).mpr z
     rw [List.find?_eq_some_iff_append] at q
     obtain ⟨_,as,bs,eq,hall⟩:=q
     have hs:s∈as:=by
      have hlen:as.length=r:=by
       have hl:as.length < (SM (runEnd mask (tn mask h k).1 + 1 - (tn mask h k).1)).length:=by rw [eq];simp
       have e3:(SM (runEnd mask (tn mask h k).1 + 1 - (tn mask h k).1))[as.length]?=some r:=by rw [eq];simp
       rw [Vf] at hl
       rw [Wf hl] at e3
       exact Ul e3
      have e4:(SM (runEnd mask (tn mask h k).1 + 1 - (tn mask h k).1))[s]?=some s:=Wf (by omega)
      rw [eq,Vh (by omega)] at e4
      exact Ui e4
     have:=hall s hs
     rw [z'] at this
     exact absurd this (by decide)
  | none=>
   have hall:=aax.mp q
   have occ:∀s,s<=runEnd mask (tn mask h k).1 - (tn mask h k).1->(tn mask h k).1 + s∈G:=λs hs=>US λz=>by
    have z':=(ho ((tn mask h k).1 + s) (by omega)).mpr z
    exact hall s (Tj.mpr (by omega)) z'
   have nb:∀m,m < n + (runEnd mask (tn mask h k).1 - (tn mask h k).1) + 1->pos mask h m∈G:=λm hm=>by
    by_cases c:m < n
    ·exact hb m c
    ·obtain ⟨s,rfl⟩:∃s,m=n + s:=⟨m - n,by omega⟩
     have h4:pos mask h (n + s)=(tn mask h k).1 + s:=by
      show (st mask h (n + s)).j=_
      rw [nZ mask h n _ _ _ e s (by omega)]
     rw [h4]
     exact occ s (by omega)
   rcases xm mask h owner G ho f (k + 1) _ (F1 mask h k n e) nb with ⟨n',g1,g2',g3⟩ | ⟨g1,g2'⟩
   ·exact .inl ⟨n',g1,g2',g3⟩
   ·refine .inr ⟨g1,λr hr=>?_⟩
    cases r with
    | zero=>have:=occ 0 (Tp _);exact this
    | succ r=>have:=g2' r (by omega);rwa [show k + (r + 1)=k + 1 + r by omega]
theorem JD {mask:Nat}(hm:mh mask) (h:Int) (owner:Array (Option Nat)) (G:List Nat) (hG:G.length<=mask) (ho:∀j,j<=mask->((owner.getD j (some 0)).isNone=true↔j∉G)):
  ∃n',layClean.free mask owner (turns mask) (bits h % (mask + 1)) (bits h)=some (pos mask h n')/\pos mask h n'<=mask/\pos mask h n'∉G/\∀m,m < n'->pos mask h m∈G:=by
 rcases xm mask h owner G ho (turns mask) 0 0 rfl (λm hm=>absurd hm (Uw _)) with a | ⟨_,b⟩
 ·exact a
 ·exfalso
  have all:∀j,j<=mask->j∈G:=λj hj=>by
   obtain ⟨r,hr,e⟩:=Eo hm (tn mask h 12).1 j (DC mask h 12) hj
   have:=b (12 + r) (by unfold turns;omega)
   rw [aa9,AB,e] at this
   exact this
  have:(SM (mask + 1)).length<=G.length:=TH Vc λj hj=>all j (by have:=Tj.mp hj;omega)
  rw [Vf] at this
  omega
structure Own (mask:Nat) (owner:Array (Option Nat)) (G:List Nat) (hs:List Int):Prop where
 sz:owner.size=mask + 1
 ln:G.length=hs.length
 nd:G.Nodup
 bd:∀j∈G,j<=mask
 at_:∀j,j<=mask->owner.getD j none=if j∈G then some (G.idxOf j) else none
 pr:∀k (h1:k < G.length) (h2:k < hs.length),Reach mask G hs[k] G[k]
theorem Own.occ {mask:Nat}{owner:Array (Option Nat)}{G:List Nat}{hs:List Int}(O:Own mask owner G hs):∀j,j<=mask->((owner.getD j (some 0)).isNone=true↔j∉G):=λj hj=>by
 have e:owner.getD j (some 0)=owner.getD j none:=by
  have:j < owner.size:=by rw [O.sz];omega
  simp [Ve,this]
 rw [e,O.at_ j hj]
 split <;> simp_all
theorem Own.step {mask:Nat}{owner:Array (Option Nat)}{G:List Nat}{hs:List Int}(O:Own mask owner G hs) (hm:mh mask) (hl:hs.length<=mask) (h:Int):
  ∃j,layClean.free mask owner (turns mask) (bits h % (mask + 1)) (bits h)=some j/\Own mask (owner.setIfInBounds j (some hs.length)) (G++[j]) (hs++[h]):=by
 obtain ⟨n',e,b,f,r⟩:=JD hm h owner G (by rw [O.ln];exact hl) O.occ
 refine ⟨_,e,⟨by rw [Array.size_setIfInBounds,O.sz],by simp [O.ln],?_,λj hj=>?_,λj hj=>?_,λk h1 h2=>?_⟩⟩
 ·rw [V8]
  refine ⟨O.nd,by simp,λa ha b hb=>?_⟩
  rw [S6] at hb
  subst hb
  intro z;subst z;exact f ha
 ·rcases TF.mp hj with h1 | h1
  ·exact O.bd j h1
  ·rw [S6.mp h1];exact b
 ·have hsz:j < owner.size:=by rw [O.sz];omega
  by_cases c:j=pos mask h n'
  ·subst c
   rw [if_pos (by simp)]
   simp [Ve,hsz]
   rw [aaY,if_neg f]
   simp [O.ln]
  ·have e1:(owner.setIfInBounds (pos mask h n') (some hs.length)).getD j none=owner.getD j none:=by
    simp [Ve,hsz]
    rw [Array.getElem_setIfInBounds_ne]
    exact λz=>c z.symm
   rw [e1,O.at_ j hj]
   by_cases d:j∈G
   ·rw [if_pos d,if_pos (VY _ d),aaY,if_pos d]
   ·rw [if_neg d,if_neg (by simp [d,c])]
 ·have sub:∀x∈G,x∈G++[pos mask h n']:=λx hx=>VY _ hx
  by_cases c:k < G.length
  ·have:=(O.pr k c (by rw [<-O.ln];exact c)).mono sub
   rw [YL c,YL (by rw [<-O.ln];exact c)]
   exact this
  ·have hk:k=G.length:=by simp at h1;omega
   subst hk
   have e1:(G++[pos mask h n'])[G.length]=pos mask h n':=by simp
   have e2:(hs++[h])[G.length]=h:=by simp [O.ln]
   rw [e1,e2]
   exact ⟨n',rfl,λm hm=>sub _ (r m hm)⟩
theorem Aa {mask:Nat}(hm:mh mask):∀(rest hs:List Int) (owner:Array (Option Nat)) (G:List Nat),Own mask owner G hs->(hs++rest).length<=mask->∃owner' G',rest.foldl (λacc h=>do
  let (owner,k) <-acc
  let j <-layClean.free mask owner (turns mask) (bits h % (mask + 1)) (bits h)
  pure (owner.setIfInBounds j (some k),k + 1)) (some (owner,hs.length))=some (owner',(hs++rest).length)/\Own mask owner' G' (hs++rest)
 | [],hs,owner,G,O,_=>⟨owner,G,by simp,by simpa using O⟩
 | h::rest,hs,owner,G,O,hl=>by
  obtain ⟨j,e,O'⟩:=O.step hm (by simp at hl;omega) h
  obtain ⟨owner',G',e2,O2⟩:=Aa hm rest (hs++[h]) _ _ O' (by simpa using hl)
  refine ⟨owner',G',?_,by simpa using O2⟩
  rw [Zw]
  have e3:(do
   let (owner,k) <-some (owner,hs.length)
   let j <-layClean.free mask owner (turns mask) (bits h % (mask + 1)) (bits h)
   pure (owner.setIfInBounds j (some k),k + 1):Option (Array (Option Nat)×Nat))=some (owner.setIfInBounds j (some hs.length),(hs++[h]).length):=by
   show Option.bind (layClean.free mask owner (turns mask) (bits h % (mask + 1)) (bits h)) _=_
   rw [e]
   simp
  rw [e3]
  simpa using e2
theorem Kc (mask:Nat):Own mask (Array.replicate (mask + 1) none) [] []:=
 ⟨by simp,rfl,VA,λj h=>absurd h (by simp),λj hj=>by simp [Ve],λk h1=>absurd h1 (by simp)⟩
theorem EU {mask:Nat}(hm:mh mask) (hs:Array Int) (hl:hs.size<=mask):∃owner G,layClean mask hs=some owner/\Own mask owner G hs.toList:=by
 obtain ⟨owner,G,e,O⟩:=Aa hm hs.toList [] _ [] (Kc mask) (by simpa using hl)
 refine ⟨owner,G,?_,by simpa using O⟩
 unfold layClean
 rw [<-Array.foldl_toList]
 have e':=congrArg (Option.map (·.1)) e
 exact e'
theorem JQ {t:UK}{es:Array (Int×SI)}{mask:Nat}(hm:mh mask) (finger moves:Nat) (led plain:Bool) (hl:es.size<=mask):
  ∃t' SD L',laid mask finger moves led plain (es.map (·.1))=some (t',SD)/\t'.mask=mask/\t'.led=led/\t'.plain=plain/\Tab t' (SD.filterMap (es[·]?)) L'/\(SD.filterMap (es[·]?)).toList.Perm es.toList:=by
 obtain ⟨owner,G,e,O⟩:=EU hm (es.map (·.1)) (by simpa using hl)
 have hlen:G.length=es.size:=by rw [O.ln];simp
 (let live:=(SM (mask + 1)).filterMap λj=>(owner.getD j none).map (j,·))
 have lv:∀p,p∈live↔p.1∈G/\p.2=G.idxOf p.1:=λp=>by
  show p∈(SM (mask + 1)).filterMap _↔_
  rw [W9]
  constructor
  ·rintro ⟨j,hj,q⟩
   have hj':j<=mask:=by have:=Tj.mp hj;omega
   rw [O.at_ j hj'] at q
   by_cases c:j∈G
   ·rw [if_pos c] at q
    have q:(j,G.idxOf j)=p:=by simpa using q
    subst q
    exact ⟨c,rfl⟩
   ·rw [if_neg c] at q;exact absurd q (by simp)
  ·rintro ⟨h1,h2⟩
   refine ⟨p.1,Tj.mpr (by have:=O.bd _ h1;omega),?_⟩
   rw [O.at_ _ (O.bd _ h1),if_pos h1]
   show some (p.1,G.idxOf p.1)=some p
   rw [<-h2]
 have so1:live.Pairwise λa b=>a.1 < b.1:=by
  show ((SM (mask + 1)).filterMap _).Pairwise _
  rw [Y6]
  refine Ws.imp ?_
  intro a b hab x hx y hy
  cases q1:owner.getD a none with
  | none=>rw [q1] at hx;exact absurd hx (by simp)
  | some k1=>cases q2:owner.getD b none with
   | none=>rw [q2] at hy;exact absurd hy (by simp)
   | some k2=>
    rw [q1] at hx;rw [q2] at hy
    have hx:(a,k1)=x:=by simpa using hx
    have hy:(b,k2)=y:=by simpa using hy
    subst hx;subst hy;exact hab
 have ord:(live.map (·.2)).Perm (SM es.size):=by
  rw [WM _ Vc]
  ·intro k
   rw [S3,Tj]
   constructor
   ·rintro ⟨p,hp,rfl⟩
    obtain ⟨h1,h2⟩:=(lv p).mp hp
    rw [h2,<-hlen]
    exact Uo h1
   ·intro hk
    rw [<-hlen] at hk
    exact ⟨(G[k],k),(lv _).mpr ⟨T3 _,(O.nd.idxOf_getElem k hk).symm⟩,rfl⟩
  ·show (live.map (·.2)).Pairwise _
   rw [TX]
   refine (VS.mp so1).imp ?_
   rintro a b ⟨ha,hb,hab⟩ z
   obtain ⟨a1,a2⟩:=(lv a).mp ha
   obtain ⟨b1,b2⟩:=(lv b).mp hb
   rw [a2,b2] at z
   have ga:=Wu (Uo a1)
   have gb:=Wu (Uo b1)
   have:a.1=b.1:=by
    rw [<-ga,<-gb]
    congr 1
   omega
 have inR:∀p∈live,∃h:p.2 < es.size,True:=λp hp=>by
  have:p.2∈live.map (·.2):=S3.mpr ⟨p,hp,rfl⟩
  exact ⟨Tj.mp (ord.mem_iff.mp this),trivial⟩
 let L':=live.map λp=>(p.1,es.getD p.2 default)
 have eL:(live.map (·.2)).toArray.filterMap (es[·]?)=(L'.map (·.2)).toArray:=by
  rw [List.filterMap_toArray]
  congr 1
  show ab1 _ (live.map _)=(live.map _).map _
  rw [aal,T9]
  have:∀(l:List (Nat×Nat)),(∀p∈l,p∈live)->ab1 ((λx=>es[x]?) ∘ λx=>x.snd) l=adx ((λx=>x.snd) ∘ λp=>(p.fst,es.getD p.snd default)) l:=by
   intro l
   induction l with
   | nil=>intro _;rfl
   | cons p l ih=>
    intro hl
    obtain ⟨hp,_⟩:=inR p (hl p (by simp))
    rw [List.filterMap_cons_some (b:=es.getD p.2 default)]
    ·rw [Td,ih λq hq=>hl q (by simp [hq])]
     rfl
    ·show es[p.2]?=_
     simp [Ve,hp]
  exact this live λp hp=>hp
 have eP:L'.map (·.1)=live.map (·.1):=by
  show (live.map _).map _=_
  rw [T9];rfl
 have memP:∀j,j∈live.map (·.1)↔j∈G:=λj=>by
  rw [S3]
  constructor
  ·rintro ⟨p,hp,rfl⟩;exact ((lv p).mp hp).1
  ·intro h;exact ⟨(j,G.idxOf j),(lv _).mpr ⟨h,rfl⟩,rfl⟩
 have lenL:L'.length=es.size:=by
  have:=ord.length_eq
  rw [SK,Vf] at this
  show (live.map _).length=_
  rw [SK,this]
 refine ⟨{mask,place:=(live.map (·.1)).toArray,dummies:=#[],finger,led,moves,plain},(live.map (·.2)).toArray,L',?_,rfl,rfl,rfl,⟨rfl,?_,?_,?_,λx hx=>?_,hm,?_,λx hx=>?_⟩,?_⟩
 ·unfold laid
  rw [e]
  rfl
 ·show (live.map (·.1)).toArray.toList=_
  rw [eP]
 ·rw [eL]
 ·rw [eP,TX];exact so1
 ·obtain ⟨p,hp,rfl⟩:=S3.mp hx
  exact O.bd _ ((lv p).mp hp).1
 ·show L'.length<=mask
  rw [lenL];exact hl
 ·obtain ⟨p,hp,rfl⟩:=S3.mp hx
  obtain ⟨h1,h2⟩:=(lv p).mp hp
  obtain ⟨hs,_⟩:=inR p hp
  have r:=O.pr p.2 (by omega) (by simpa using hs)
  have e1:G[p.2]'(by omega)=p.1:=by
   have:=Wu (Uo h1)
   rw [<-this]
   congr 1
  have e2:((es.map (·.1)).toList[p.2]'(by simpa using hs))=(es.getD p.2 default).1:=by
   simp [Ve,hs]
  rw [e1,e2] at r
  show Reach mask (L'.map (·.1)) (es.getD p.2 default).1 p.1
  refine r.mono λy hy=>?_
  rw [eP]
  exact (memP y).mpr hy
 ·rw [eL]
  show (L'.map (·.2)).Perm es.toList
  have e1:(live.map (·.2)).map (λk=>es.getD k default)=L'.map (·.2):=by
   show _=(live.map _).map _
   rw [T9,T9];rfl
  rw [<-e1]
  refine (ord.map _).trans ?_
  have:(SM es.size).map (λk=>es.getD k default)=es.toList:=by
   refine Vt (by simp) λi h1 h2=>?_
   simp at h1
   simp [Ve,h1]
  rw [this]
theorem xM {t:UK}{es:Array (Int×SI)}(hm:mh (sizeAbove w - 1)) (hl:es.size<=sizeAbove w - 1):
  ∃t' SD L',t.relaid (es.map (·.1)) w=some (t',SD)/\t'.mask=sizeAbove w - 1/\t'.led=t.led/\t'.plain=t.plain/\Tab t' (SD.filterMap (es[·]?)) L'/\(SD.filterMap (es[·]?)).toList.Perm es.toList:=
 JQ (t:=t) hm t.finger (t.movedTo (sizeAbove w - 1)) t.led t.plain hl
end ST
namespace DL
open PySem PySem.Spec PyProof.Rows L2
mutual
noncomputable def kK:D->Nat
 | .int _=>1
 | .tup xs=>fG xs + 1
 | _=>0
noncomputable def fG:List D->Nat
 | []=>0
 | x::xs=>kK x + fG xs
end
theorem sF:∀{ds:List D},areKeys ds=true->∀d∈ds,isKey d=true
 | [],_,_,h=>nomatch h
 | x::xs,h,d,hm=>by
  unfold areKeys at h
  rw [SN] at h
  (rcases S7.mp hm with rfl | hm)
  ·exact h.1
  ·exact sF h.2 d hm
mutual
theorem zY:∀{d e:D},isKey d=true->isKey e=true->bg d e=true->d=e
 | .int i,.int j,_,_,h=>by simp [bg] at h;rw [h]
 | .tup xs,.tup ys,hd,he,h=>by
  unfold isKey at hd he
  simp only [bg] at h
  rw [keys_eq hd he h]
 | .int _,.tup _,_,_,h=>by simp [bg] at h
 | .tup _,.int _,_,_,h=>by simp [bg] at h
theorem keys_eq:∀{ds es:List D},areKeys ds=true->areKeys es=true->cD ds es=true->ds=es
 | [],[],_,_,_=>rfl
 | x::xs,y::ys,hd,he,h=>by
  unfold areKeys at hd he
  rw [SN] at hd he
  simp only [cD,SN] at h
  rw [zY hd.1 he.1 h.1,keys_eq hd.2 he.2 h.2]
 | [],_::_,_,_,h=>by simp [cD] at h
 | _::_,[],_,_,h=>by simp [cD] at h
end
theorem wA (hd:isKey d=true) (he:isKey e=true):bg d e=true↔d=e:=⟨zY hd he,λh=>by rw [h];exact f_ _⟩
section
variable {prog:S_}{w:TL}{E:SI->SJ->Prop}{K:SG}{J:Hp}
noncomputable def DK (prog:S_) (w:TL) (A:TR) (K:SG) (J:Hp) (d:D) (u:SI):Prop:=
 ∀(E:SI->SJ->Prop) (s:SJ) (Q:Int->SJ->Prop),HF K J s->Q (bV d) {s with toks:=s.toks + kK d}->S8 (Ti prog w) A (pyHash u) Q E s
inductive kU (prog:S_) (w:TL) (A:TR) (K:SG) (J:Hp):List D->List SI->Prop
 | nil:kU prog w A K J [] []
 | cons {d:D}{u:SI}{ds:List D}{us:List SI}:DK prog w A K J d u->kU prog w A K J ds us->kU prog w A K J (d::ds) (u::us)
theorem uW:∀(a b:List D),cH (a++b)=cH a++cH b
 | [],b=>rfl
 | x::a,b=>by show bV x::cH (a++b)=_;rw [uW a b];rfl
theorem uI:∀(a b:List D),fG (a++b)=fG a + fG b
 | [],b=>by show fG b=0 + _;omega
 | x::a,b=>by show kK x + fG (a++b)=kK x + fG a + fG b;rw [uI a b];omega
theorem Gu {A:TR}{s:SJ}{o:Obj}{Su:List SI}{Q:Int->SJ->Prop}(N:HF K J s) (ho:s.heap.get? a=some o) (hc:o.cls=.type "tuple") (hd:o.data=.seq Su.toArray n) (hu:A.units < UL)
 (hl:kU prog w A.in1 K J ds Su) (h:Q (acf (Ux (cH ds))) {s with toks:=s.toks + (fG ds + 1)}):S8 (Ti prog w) A (pyHash (.ref a)) Q E s:=by
 have hT:s.TypeIs (.ref a) "tuple":=⟨o,ho,hc⟩
 unfold pyHash
 (first | unfold pyHashByItsType | skip)
 (first | refine SE (wpAny_cRoomFor_or (.inr hu) ?_) | skip)
 (refine SE (Xn hT WI.lookup ?_))
 (show S8 _ _ (if (some (YZ "tuple.__hash__") == some T_)=true then _ else _) Q E s)
 (rw [if_neg (by rw [beq_builtin_none];exact Tv)])
 (refine SE (Xn hT WI.lookup ?_))
 (show S8 _ _ (callSpecialIfBoundUnlessNone? (.ref a) "__hash__" _ >>= _) Q E s)
 (refine SE (wpAny_callSpecialIfBoundUnlessNone?_slot hT WI (TY WI hT F.entry_tuple_hash ?_ (F.args_tuple_hash_1 _))))
 (show S8 _ _ (WK (.ref a) >>= _) _ _ s)
 (refine SE (wpAny_tupleItemsOf ho hd ?_))
 refine SE ?_
 rw [<-Xo]
 refine VI _
  (λrest (b:Array Int) s'=>∃done left,ds=done++left/\kU prog w A.in1 K J left rest/\b.toList=cH done/\s'={s with toks:=s.toks + fG done})
  _ ?_ ?_ _ _ ⟨[],ds,rfl,hl,rfl,rfl⟩
 ·(rintro x rest b s' ⟨done,left,rfl,hl,hb,rfl⟩)
  cases hl with
  | @cons k _ ks' _ h1 hl'=>
   refine SE (h1 _ _ _ ⟨N.t,N.l,N.e,N.d⟩ ?_)
   have e1:(b.push (bV k)).toList=cH (done++[k]):=by rw [aaZ,uW,hb];rfl
   have e2:s.toks + fG done + kK k=s.toks + fG (done++[k]):=by rw [uI];show _=s.toks + (fG done + (kK k + 0));omega
   first
    | exact SH ⟨done++[k],ks',by simp,hl',e1,by rw [e2]⟩
    | exact SE (SH (SH ⟨done++[k],ks',by simp,hl',e1,by rw [e2]⟩))
 ·(rintro b s' ⟨done,left,rfl,hl,hb,rfl⟩)
  cases hl
  rw [V3] at h
  (show S8 _ _ (retInt (Ux b.toList)) _ _ _)
  rw [hb]
  refine wpAny_ret_mkInt ?_
  show S8 _ _ (if (decide (-(2:Int) ^ 63<=Ux (cH done)) && decide (Ux (cH done) < 2 ^ 63))=true then _ else _) Q E _
  unfold acf at h
  by_cases hr:(decide (-(2:Int) ^ 63<=Ux (cH done)) && decide (Ux (cH done) < 2 ^ 63))=true
  ·rw [if_pos hr]
   rw [if_pos hr] at h
   (exact SH (by simpa [acF] using h))
  ·rw [if_neg hr]
   rw [if_neg hr] at h
   (exact SE (Xy (SH (by simpa [acF] using h))))
mutual
theorem wK:∀(d:D) (v:V) (u:SI) (A:TR) (s:SJ),HF K J s->isKey d=true->Rep K J d v->RelV v u->A.units + dep d < UL->DK prog w A K J d u
 | .int i,v,u,A,s,N,hk,hr,rv,hu=>λE s' Q N' h=>by
  cases hr
  obtain ⟨t,rfl⟩:=rv
  exact Y9 h
 | .tup ds,v,u,A,s,N,hk,hr,rv,hu=>λE s' Q N' h=>by
  cases hr with
  | tup h1 hs=>
   cases rv
   obtain ⟨Su,r,o,ho,hc,n,hd⟩:=N'.t _ _ h1
   exact Gu N' ho hc hd (by unfold dep at hu;omega) (AJ ds _ _ A.in1 s N hk hs r (by rw [in1_units];unfold dep at hu;omega)) h
 | .non,v,u,A,s,N,hk,hr,rv,hu=>nomatch hk
 | .bl _,v,u,A,s,N,hk,hr,rv,hu=>nomatch hk
 | .str _,v,u,A,s,N,hk,hr,rv,hu=>nomatch hk
 | .lst _,v,u,A,s,N,hk,hr,rv,hu=>nomatch hk
 | .emp,v,u,A,s,N,hk,hr,rv,hu=>nomatch hk
 | .exn _ _ _,v,u,A,s,N,hk,hr,rv,hu=>nomatch hk
 | .dct _ _,v,u,A,s,N,hk,hr,rv,hu=>nomatch hk
theorem AJ:∀(ds:List D) (vs:List V) (us:List SI) (A:TR) (s:SJ),HF K J s->areKeys ds=true->aH K J ds vs->Vals vs us->A.units + deps ds < UL->kU prog w A K J ds us
 | [],vs,us,A,s,N,hk,hr,rv,hu=>by
  cases hr;cases rv;exact .nil
 | d::ds,vs,us,A,s,N,hk,hr,rv,hu=>by
  unfold areKeys at hk
  rw [SN] at hk
  unfold deps at hu
  cases hr with
  | cons a b=>
   cases rv with
   | cons c e=>exact .cons (wK d _ _ A s N hk.1 a c (by omega)) (AJ ds _ _ A s N hk.2 b e (by omega))
end
end
def iM (K:SG) (J:Hp) (n:Nat) (u:SI):Prop:=∃d v,isKey d=true/\dep d<=n/\Rep K J d v/\RelV v u
section
variable {prog:S_}{w:TL}{E:SI->SJ->Prop}{K:SG}{J:Hp}{A:TR}{s:SJ}
theorem zX {n:Nat}:∀{ds:List D}{vs:List V}{us:List SI},areKeys ds=true->deps ds<=n->aH K J ds vs->Vals vs us->∀u∈us,iM K J n u
 | _,_,_,_,_,.nil,.nil=>λu h=>nomatch h
 | d::ds,_,_,hk,hn,.cons a b,.cons c e=>λu h=>by
  unfold areKeys at hk
  rw [SN] at hk
  unfold deps at hn
  (rcases S7.mp h with rfl | h)
  ·exact ⟨d,_,hk.1,by omega,a,c⟩
  ·exact zX hk.2 (by omega) b e u h
theorem iM.cases' (N:HF K J s) (h:iM K J n u):(∃i t,u=.int i t)\/∃a o Su m k,u=.ref a/\s.heap.get? a=some o/\o.cls=.type "tuple"/\o.data=.seq Su m/\n=k + 1/\∀y∈Su.toList,iM K J k y:=by
 obtain ⟨d,v,hk,hn,hr,rv⟩:=h
 cases d with
 | int i=>
  cases hr
  obtain ⟨t,rfl⟩:=rv
  exact .inl ⟨_,_,rfl⟩
 | tup ds=>
  cases hr with
  | tup h1 hs=>
   cases rv
   obtain ⟨Su,r,o,ho,hc,m,hd⟩:=N.t _ _ h1
   unfold dep at hn
   obtain ⟨k,rfl⟩:∃k,n=k + 1:=⟨n - 1,by omega⟩
   exact .inr ⟨_,o,_,m,k,rfl,ho,hc,hd,rfl,zX hk (by omega) hs r⟩
 | _=>cases hk
theorem nY:∀(n:Nat){u:SI}{Q:Bool->SJ->Prop},HF K J s->iM K J n u->Q true s->S8 (Ti prog w) A (eqIsQuiet n u) Q E s
 | n,u,Q,N,hk,h=>by
  rcases hk.cases' N with ⟨i,t,rfl⟩ | ⟨a,o,Su,m,k,rfl,ho,hc,hd,rfl,hi⟩
  ·rw [eqIsQuiet_byValue _ rfl]
   exact SH h
  ·have hT:s.TypeIs (.ref a) "tuple":=⟨o,ho,hc⟩
   unfold eqIsQuiet
   (refine SE (Xn hT F.slot_tuple_eq.lookup ?_))
   (show S8 _ _ (ace (.ref a) (.type "tuple") >>= _) _ _ s)
   (refine SE (W2 hT isSubtype_tuple_tuple ?_))
   (simp only [Vy,Tf,if_false])
   (refine SE (XM ho hd ?_))
   refine SE ?_
   show S8 _ _ (forIn Su _ _) _ _ s
   rw [<-Xo]
   refine VI _ (λrest r s'=>r.1=none/\s=s'/\∀v∈rest,iM K J k v) _ ?_ ?_ _ _ ⟨rfl,rfl,hi⟩
   ·(rintro v rest r s' ⟨hr,rfl,hall⟩)
    refine SE (nY k N (hall v SV) ?_)
    (simp only [Vy,Tf,if_false])
    (exact SH ⟨rfl,rfl,λu hu'=>hall u (SS _ hu')⟩)
   ·(rintro ⟨r1,r2⟩ s' ⟨hr,rfl,_⟩)
    simp only at hr
    subst hr
    exact SH h
theorem Fg:∀(n:Nat){u:SI}{Q:Bool->SJ->Prop},HF K J s->iM K J n u->Q true s->S8 (Ti prog w) A (hashByValue n u) Q E s
 | n,u,Q,N,hk,h=>by
  rcases hk.cases' N with ⟨i,t,rfl⟩ | ⟨a,o,Su,m,k,rfl,ho,hc,hd,rfl,hi⟩
  ·cases n <;> exact SH h
  ·have hT:s.TypeIs (.ref a) "tuple":=⟨o,ho,hc⟩
   unfold hashByValue
   (refine SE (Xn hT WI.lookup ?_))
   show S8 _ _ (acQ (.ref a) >>= _) _ _ s
   (refine SE (XM ho hd ?_))
   refine SE ?_
   show S8 _ _ (forIn Su _ _) _ _ s
   rw [<-Xo]
   refine VI _ (λrest r s'=>r.1=none/\s=s'/\∀v∈rest,iM K J k v) _ ?_ ?_ _ _ ⟨rfl,rfl,hi⟩
   ·(rintro v rest r s' ⟨hr,rfl,hall⟩)
    refine SE (Fg k N (hall v SV) ?_)
    (simp only [Vy,Tf,if_false])
    (exact SH ⟨rfl,rfl,λu hu'=>hall u (SS _ hu')⟩)
   ·(rintro ⟨r1,r2⟩ s' ⟨hr,rfl,_⟩)
    simp only at hr
    subst hr
    exact SH h
theorem nR:∀(n:Nat){u:SI}{Q:Bool->SJ->Prop},HF K J s->iM K J n u->Q false s->S8 (Ti prog w) A (aa0 n u) Q E s
 | n,u,Q,N,hk,h=>by
  rcases hk.cases' N with ⟨i,t,rfl⟩ | ⟨a,o,Su,m,k,rfl,ho,hc,hd,rfl,hi⟩
  ·cases n <;> exact SH h
  ·have hT:s.TypeIs (.ref a) "tuple":=⟨o,ho,hc⟩
   unfold aa0
   (refine SE (XU hT ?_))
   dsimp only
   (refine SE (SH ?_))
   (simp only [Vy,Tf,if_false])
   (refine SE (XM ho hd ?_))
   dsimp only
   refine SE ?_
   show S8 _ _ (forIn Su _ _) _ _ s
   rw [<-Xo]
   refine VI _ (λrest r s'=>r.1=none/\s=s'/\∀v∈rest,iM K J k v) _ ?_ ?_ _ _ ⟨rfl,rfl,hi⟩
   ·(rintro v rest r s' ⟨hr,rfl,hall⟩)
    refine SE (nR k N (hall v SV) ?_)
    (simp only [Tf,if_false])
    (exact SH ⟨rfl,rfl,λu hu'=>hall u (SS _ hu')⟩)
   ·(rintro ⟨r1,r2⟩ s' ⟨hr,rfl,_⟩)
    simp only at hr
    subst hr
    exact SH h
theorem NO {Q:Bool->SJ->Prop}(N:HF K J s) (hx:iM K J 8 x) (hy:∀y∈ys,iM K J 8 y) (h:Q false s):S8 (Ti prog w) A (YM x ys) Q E s:=by
 unfold YM
 refine SE ?_
 refine VI _ (λrest r s'=>r.1=none/\s=s'/\∀v∈rest,iM K J 8 v) _ ?_ ?_ _ _ ⟨rfl,rfl,hy⟩
 ·(rintro v rest r s' ⟨hr,rfl,hall⟩)
  have nx:∀u∈rest,iM K J 8 u:=λu hu'=>hall u (SS _ hu')
  dsimp only
  have hv:=hall v SV
  split
  ·split
   ·exact SH ⟨rfl,rfl,nx⟩
   ·refine SE (nY 8 N hx ?_)
    (simp only [Vy,Tf,if_false])
    refine SE (nY 8 N hv ?_)
    (simp only [Vy,Tf,if_false])
    refine SE (nR 8 N hx ?_)
    (simp only [Tf,if_false])
    refine SE (nR 8 N hv ?_)
    (simp only [Tf,if_false])
    exact SH ⟨rfl,rfl,nx⟩
  ·split
   ·exact SH ⟨rfl,rfl,nx⟩
   ·refine SE (nY 8 N hx ?_)
    (simp only [Vy,Tf,if_false])
    refine SE (nY 8 N hv ?_)
    (simp only [Vy,Tf,if_false])
    refine SE (nR 8 N hx ?_)
    (simp only [Tf,if_false])
    refine SE (nR 8 N hv ?_)
    (simp only [Tf,if_false])
    exact SH ⟨rfl,rfl,nx⟩
 ·(rintro ⟨r1,r2⟩ s' ⟨hr,rfl,_⟩)
  simp only at hr
  subst hr
  exact SH h
end
end DL
namespace DL
open PySem PySem.Spec PyProof.Rows L2 ST
def KV (K:SG) (J:Hp) (u:SI) (d:D):Prop:=(∃a,u=.ref a)/\isKey d=true/\dep d<=8/\∃v,Rep K J d v/\RelV v u
theorem KV.key {K:SG}{J:Hp}{u:SI}{d:D}(h:KV K J u d):iM K J 8 u:=let ⟨_,a,b,v,c,e⟩:=h;⟨d,v,a,b,c,e⟩
inductive fH (K:SG) (J:Hp):List (Int×SI)->List D->Prop
 | nil:fH K J [] []
 | cons {h:Int}{x:SI}{d:D}{es:List (Int×SI)}{ks:List D}:h=bV d->KV K J x d->fH K J es ks->fH K J ((h,x)::es) (d::ks)
section
variable {K:SG}{J:Hp}
theorem fH.length {es:List (Int×SI)}{ks:List D}(h:fH K J es ks):es.length=ks.length:=by
 induction h with
 | nil=>rfl
 | cons _ _ _ ih=>simp [ih]
theorem fH.at_ (h:fH K J es ks):∀{i:Nat}{e:Int×SI},es[i]?=some e->∃d,ks[i]?=some d/\KV K J e.2 d/\e.1=bV d:=by
 induction h with
 | nil=>intro i e q;simp at q
 | @cons hh x d es ks h1 h2 _ ih=>
  intro i e q
  cases i with
  | zero=>simp at q;subst q;exact ⟨d,rfl,h2,h1⟩
  | succ i=>simp at q;obtain ⟨d',a,b⟩:=ih q;exact ⟨d',by simpa using a,b⟩
theorem fH.mem (h:fH K J es ks):∀e∈es,∃d∈ks,KV K J e.2 d/\e.1=bV d:=λe he=>by
 obtain ⟨i,hi⟩:=ZC.mp he
 obtain ⟨d,h1,h2⟩:=h.at_ hi
 exact ⟨d,Ui h1,h2⟩
theorem fH.back {es:List (Int×SI)}{ks:List D}(h:fH K J es ks){i:Nat}{d:D}(q:ks[i]?=some d):∃e,es[i]?=some e/\KV K J e.2 d/\e.1=bV d:=by
 have hi:i < es.length:=by rw [h.length];exact (Tt.mp q).1
 obtain ⟨d',h1,h2⟩:=h.at_ (S5 hi)
 rw [q] at h1;cases h1
 exact ⟨_,S5 hi,h2⟩
theorem fH.perm {es es':List (Int×SI)}(p:es.Perm es'):∀{ks:List D},fH K J es ks->∃ks',ks.Perm ks'/\fH K J es' ks':=by
 induction p with
 | nil=>intro ks h;exact ⟨ks,.refl _,h⟩
 | cons x _ ih=>
  intro ks h
  cases h with
  | cons h1 h2 h3=>obtain ⟨ks',a,b⟩:=ih h3;exact ⟨_,a.cons _,.cons h1 h2 b⟩
 | swap x y l=>
  intro ks h
  cases h with
  | cons h1 h2 h3=>cases h3 with
   | cons h4 h5 h6=>exact ⟨_,.swap _ _ _,.cons h4 h5 (.cons h1 h2 h6)⟩
 | trans _ _ ih1 ih2=>
  intro ks h
  obtain ⟨k1,a,b⟩:=ih1 h
  obtain ⟨k2,c,d⟩:=ih2 b
  exact ⟨k2,a.trans c,d⟩
end
theorem cR {t:UK}{es:Array (Int×SI)}(T:Tab t es L):t.fits es.size=true:=by
 have h1:t.place.size=L.length:=by rw [<-S4,T.pl,SK]
 have h2:es.size=L.length:=by rw [<-S4,T.en,SK]
 have h3:t.fill=L.length:=by unfold aay;rw [T.dm,h1];rfl
 unfold SetTable.fits
 rw [h1,h2,h3]
 simp [T.fl]
theorem K6 {t:UK}(T:Tab t es L):t.gaveWay=false:=by
 unfold SetTable.gaveWay
 rcases T.mo with h | h | h <;> rw [h] <;> rfl
section
variable {prog:S_}{w:TL}{E:SI->SJ->Prop}{K:SG}{J:Hp}{A:TR}{s:SJ}
theorem search {a:Tg}{o:Obj}{es:Array (Int×SI)}{ep:Nat}{t:UK}{L:List (Nat×Int×SI)}{ks:List D}{x:SI}{d:D}{Q:SetFound->SJ->Prop}(N:HF K J s) (ho:s.heap.get? a=some o) (hd:o.data=.set es ep t) (T:Tab t es L) (en:fH K J es.toList ks)
  (hx:KV K J x d) (hu:A.units + 8 < UL) (n0:Nat) (hf:pos t.mask (bV d) n0∉L.map (·.1)) (hb:∀m,m < n0->pos t.mask (bV d) m∈L.map (·.1)) (hn0:n0<=10 * (t.mask + 12))
  (q1:d∈ks->Q (.there none) s) (q2:d∉ks->Q (.free (pos t.mask (bV d) n0) false) s):
  ∀(fuel n:Nat) (stand:Option SetTable.Probe),n<=n0->n0 - n < fuel->stand.getD (t.probeStart (bV d))=st t.mask (bV d) n->(∀k,k < n->∀(i:Nat) (e:Nat×Int×SI),L[i]?=some e->e.1=pos t.mask (bV d) k->ks[i]?≠some d)->
   S8 (Ti prog w) A (acG a x (bV d) true fuel stand) Q E s
 | 0,n,stand,h1,h2,h3,h4=>absurd h2 (Uw _)
 | fuel + 1,n,stand,h1,h2,h3,h4=>by
  have esL:∀i,es[i]?=(L[i]?).map (λe:Nat×Int×SI=>e.2):=λi=>by rw [<-UC,T.en,Tq]
  unfold acG
  refine SE (U0 ho hd (cR T) ?_)
  dsimp only
  rw [K6 T]
  (simp only [Tf,if_false])
  rw [h3]
  obtain ⟨m,m1,m2,m3,m4⟩:=Ai T (λi=>(es[i]?.map (·.1)).getD 0) (λi e q=>by rw [q];rfl) (bV d) n0 hf hb (n0 - n) n (10 * ab2 t.mask) rfl h1 (by unfold ab2;omega)
  generalize hP:SetTable.probe t _ (bV d) (st t.mask (bV d) n)=r
  rcases m4 with ⟨rfl,m4⟩ | ⟨m5,i,e,m6,m7,m8,m4⟩
  ·have:r=_:=hP.symm.trans m4
   subst this
   dsimp only
   refine SH (q2 λhm=>?_)
   obtain ⟨i,hi⟩:=ZC.mp hm
   obtain ⟨e,e1,e2,e3⟩:=en.back hi
   rw [UC,esL] at e1
   obtain ⟨e',e4,rfl⟩:=Option.map_eq_some_iff.mp e1
   have hm':=Ui e4
   obtain ⟨k,k1,k2⟩:=T.pr _ hm'
   rw [e3] at k1 k2
   have kl:k < m:=by
    rcases WH k m with c | c | c
    ·exact c
    ·subst c;rw [k1] at hf;exact absurd (S3.mpr ⟨_,hm',rfl⟩) hf
    ·exact absurd (k2 m c) hf
   by_cases c:k < n
   ·exact h4 k c i e' e4 k1.symm hi
   ·exact m3 k (by omega) kl e' hm' k1.symm e3
  ·have:r=_:=hP.symm.trans m4
   subst this
   dsimp only
   have hei:es[i]?=some e.2:=by rw [esL,m6];rfl
   obtain ⟨d',f1,f2,f3⟩:=en.at_ (by rw [UC];exact hei)
   obtain ⟨⟨ya,g0⟩,g1,g2',v',g3,g4⟩:=id f2
   obtain ⟨_,x1,x2,v,x3,x4⟩:=id hx
   obtain ⟨j,hh,y⟩:=e
   dsimp only at g0 g4 m7 m8 hei
   subst g0
   have cmp:=nE N A g3 x3 g4 x4 (by omega) (by omega) (by omega)
   have pass:∀(k:Sem SetFound),S8 (Ti prog w) A k Q E s->S8 (Ti prog w) A (if (!t.led)=true then do
     let c <-YM x (adx (λx=>x.snd) (Array.filter (λx=>x.fst == bV d) es).toList)
     if c=true then do unsupported "set:the-search-would-show-the-table";k else k
     else k) Q E s:=λk hk=>by
    split
    ·refine SE (NO N hx.key (λy hy=>?_) ?_)
     ·obtain ⟨e',he',rfl⟩:=S3.mp hy
      have:e'∈es.toList:=by
       rw [Array.toList_filter] at he'
       exact (Ud.mp he').1
      obtain ⟨d2,_,h2,_⟩:=en.mem e' this
      exact h2.key
     ·(simp only [Tf,if_false])
      exact hk
    ·exact hk
   refine pass _ ?_
   rw [hei]
   dsimp only
   refine SE (TQ (cmp _ _ _ _ ?_))
   refine SE (U0 ho hd (cR T) ?_)
   dsimp only
   by_cases c:bg d' d=true
   ·rw [c]
    (simp only [acw,if_true])
    refine SH (q1 ?_)
    rw [<-zY g1 x1 c]
    exact Ui f1
   ·rw [Bool.not_eq_true] at c
    rw [c]
    have sm:t.sameMemory t.moves t.mask=some true:=by unfold SetTable.sameMemory;simp
    have sl:t.slot (pos t.mask (bV d) m)=.live i:=qW T.sop (by rw [<-m7];exact (T.at_ m6).1)
    rw [sm]
    simp only [Wq,Tf,if_false,if_true]
    rw [sl]
    dsimp only
    rw [hei]
    dsimp only
    refine SE (wpAny_isSame_ref_self ?_)
    simp only [if_true]
    (refine SE (SH ?_))
    dsimp only
    refine search N ho hd T en hx hu n0 hf hb hn0 q1 q2 fuel (m + 1) _ (by omega) (by omega) rfl λk hk i2 e2 z1 z2 z3=>?_
    by_cases c1:k < n
    ·exact h4 k c1 i2 e2 z1 z2 z3
    ·by_cases c2:k < m
     ·obtain ⟨dd,w1,_,w3⟩:=en.at_ (i:=i2) (e:=e2.2) (by rw [UC,esL,z1];rfl)
      rw [z3] at w1;cases w1
      exact m3 k (by omega) c2 e2 (Ui z1) z2 w3
     ·obtain rfl:k=m:=by omega
      have hi2:i2=i:=by
       obtain ⟨p1,p2⟩:=Tt.mp z1
       obtain ⟨p3,p4⟩:=Tt.mp m6
       have sw:=Ug.mp T.so
       rcases WH i2 i with c | c | c
       ·have:=sw i2 i (by simpa using p1) (by simpa using p3) c
        simp [p2,p4] at this
        omega
       ·exact c
       ·have:=sw i i2 (by simpa using p3) (by simpa using p1) c
        simp [p2,p4] at this
        omega
      subst hi2
      rw [f1] at z3
      cases z3
      rw [f_] at c
      exact absurd c (by decide)
end
structure gR (K:SG) (J:Hp) (h:Uz) (a:Tg) (led:Bool) (ks:List D) (es:Array (Int×SI)) (ep:Nat) (t:UK):Prop where
 at_:h.get? a=some {cls:=.type "set",dict:=none,data:=.set es ep t}
 tab:∃L,Tab t es L
 pl:t.plain=true
 ld:t.led=led
 rm:ks.length * 5 < t.mask * 3
 en:fH K J es.toList ks
 nd:ks.Nodup
theorem Es (mask i:Nat) (h:i<=mask):i + (abF mask i - i)<=mask:=by unfold abF;split <;> omega
theorem IW (mask:Nat) (h:Int):∀n,(ST.st mask h n).j + (ST.st mask h n).more<=mask
 | 0=>Es mask _ (XC (ZP _ (by omega)))
 | n + 1=>by
  have ih:=IW mask h n
  show (Zd _ (ST.st mask h n)).j + (Zd _ (ST.st mask h n)).more<=mask
  unfold Zd
  split
  ·dsimp only;omega
  ·exact Es mask _ (XC (ZP _ (by omega)))
theorem Ah (mask:Nat) (h:Int) (n:Nat):ST.pos mask h n<=mask:=by have:=IW mask h n;show (ST.st mask h n).j<=mask;omega
theorem A_:Va 20=32:=by decide +kernel
theorem Ba:Va 76=128:=by decide +kernel
theorem n_ {es:Array (Int×SI)}{L:List (Nat×Int×SI)}(T:Tab t es L):L.length=es.size:=by rw [<-S4,T.en,SK]
section
variable {prog:S_}{w:TL}{E:SI->SJ->Prop}{K:SG}{J:Hp}{A:TR}{s:SJ}
theorem Om {es:Array (Int×SI)}{t:UK}{ks:List D}{Q:Unit->SJ->Prop}(ho:s.heap.get? a=some {cls:=.type "set",dict:=none,data:=.set es ep t}) (T:Tab t es L) (hp:t.plain=true) (hl:t.led=led)
 (en:fH K J es.toList ks) (nd:ks.Nodup) (W:Nat) (hW:(Va W=32/\ks.length=5)\/(Va W=128/\ks.length=19))
 (h:∀(h':Uz) ks' es' ep' t',TU a s.heap h'->ks.Perm ks'->gR K J h' a led ks' es' ep' t'->Q () {s with heap:=h'}):S8 (Ti prog w) A (setRelay a W) Q E s:=by
 have hsz:es.size=ks.length:=by rw [<-S4,en.length]
 have hm:mh (Va W - 1):=by rcases hW with ⟨h,_⟩ | ⟨h,_⟩ <;> rw [h];exact .inr (.inl rfl);exact .inr (.inr rfl)
 obtain ⟨t',SD,L',e1,e2,e3,e4,e5,e6⟩:=xM (t:=t) (es:=es) hm (by rcases hW with ⟨h,_⟩ | ⟨h,_⟩ <;> rw [h] <;> omega)
 unfold setRelay
 refine SE (U0 ho rfl (cR T) ?_)
 dsimp only
 rw [if_neg (by rw [UB];rcases hW with ⟨h,_⟩ | ⟨h,_⟩ <;> rw [h] <;> omega)]
 have sz':(SD.filterMap (es[·]?)).size=es.size:=by
  rw [<-S4,e6.length_eq,S4]
 rw [e1]
 have lI:((SD.filterMap (es[·]?)).size != es.size)=false:=by rw [sz'];simp
 refine SE (Wy (a:=(SD.filterMap (es[·]?),t')) ?_ ?_)
 ·show (if ((SD.filterMap (es[·]?)).size != es.size)=true then _ else pure (SD.filterMap (es[·]?),t'))=_
  rw [lI]
  rfl
 ·dsimp only
  obtain ⟨ks',p1,p2⟩:=en.perm e6.symm
  refine XD ho rfl ?_ (by rw [sz',UB];rcases hW with ⟨_,h⟩ | ⟨_,h⟩ <;> omega)
  have hg:=Ur (YN (SD.filterMap (es[·]?)) t') ho rfl
  refine h _ ks' _ _ _ (Uu _ _ _) p1 ⟨hg,⟨L',e5⟩,e4.trans hp,e3.trans hl,?_,p2,p1.nodup_iff.mp nd⟩
  rw [<-p1.length_eq,e2]
  rcases hW with ⟨h,h'⟩ | ⟨h,h'⟩ <;> rw [h,h'] <;> omega
theorem Jg {a:Tg}{es:Array (Int×SI)}{ep:Nat}{t:UK}{led:Bool}{ks:List D}{x:SI}{d:D}{Q:Bool->SJ->Prop}(N:HF K J s) (S:gR K J s.heap a led ks es ep t) (hx:KV K J x d) (hu:A.units + 8 < UL) (hl:ks.length < 76)
  (q1:d∈ks->Q false s) (q2:d∉ks->∀(h':Uz) ks' es' ep' t',TU a s.heap h'->(d::ks).Perm ks'->gR K J h' a led ks' es' ep' t'->Q true {s with heap:=h'}):
  S8 (Ti prog w) A (ZD a x (bV d)) Q E s:=by
 obtain ⟨L,T⟩:=S.tab
 have lenL:L.length=ks.length:=by rw [n_ T,<-S4,S.en.length]
 obtain ⟨n0,b1,b2,b3⟩:=uN T.mo (bV d) (L.map (·.1)) (by rw [SK];exact T.fl)
 have hj:pos t.mask (bV d) n0<=t.mask:=Ah _ _ _
 (unfold ZD ab3)
 refine TQ (SE (U0 S.at_ rfl (cR T) ?_))
 dsimp only
 have ns:byScan x es=false:=by
  obtain ⟨⟨xa,rfl⟩,_⟩:=hx
  rfl
 rw [ns]
 (simp only [Tf,if_false])
 unfold setSearch
 refine SE (search N S.at_ rfl T S.en hx hu n0 b2 b3 b1 (λhm=>?_) (λhm=>?_) 100000 0 none (Tp _) (by rcases T.mo with h | h | h <;> rw [h] at b1 <;> omega) rfl (λk hk=>absurd hk (Uw _)))
 ·exact SH (q1 hm)
 ·dsimp only
  refine SE (U0 S.at_ rfl (cR T) ?_)
  dsimp only
  obtain ⟨L',T',pm⟩:=T.put (bV d) x n0 b2 b3 hj (by have:=S.rm;rcases T.mo with h | h | h <;> rw [h] at this <;> omega)
  have fl:(t.put (pos t.mask (bV d) n0)).1.mask=t.mask/\(t.put (pos t.mask (bV d) n0)).1.plain=t.plain/\(t.put (pos t.mask (bV d) n0)).1.led=t.led:=⟨rfl,rfl,rfl⟩
  generalize t.put (pos t.mask (bV d) n0)=tp at T' fl ⊢
  obtain ⟨t',p⟩:=tp
  dsimp only at T' fl ⊢
  obtain ⟨f1,f2,f3⟩:=fl
  have en':∃ks',(d::ks).Perm ks'/\fH K J (U1 es p (bV d,x)).toList ks':=by
   refine fH.perm (es:=(bV d,x)::es.toList) ?_ (.cons rfl hx S.en)
   rw [T'.en,T.en]
   have:=pm.map (·.2)
   exact this.symm
  obtain ⟨ks',p1,p2⟩:=en'
  have nd':ks'.Nodup:=p1.nodup_iff.mp (U7.mpr ⟨hm,S.nd⟩)
  have lk:ks'.length=ks.length + 1:=by rw [<-p1.length_eq];rfl
  rw [f2,S.pl]
  simp only [if_true]
  refine SE (Fg 8 N hx.key ?_)
  simp only [if_true]
  have esz:(U1 es p (bV d,x)).size=ks'.length:=by rw [<-S4,p2.length]
  refine SE (XD S.at_ rfl ?_ (by rw [esz,UB];omega))
  have hg:=Ur (YN (U1 es p (bV d,x)) t') S.at_ rfl
  have hfill:t'.fill=ks'.length:=by
   unfold aay
   rw [T'.dm,<-S4,T'.pl,SK,n_ T',esz]
   rfl
  have hes:es.size=ks.length:=by rw [<-S4,S.en.length]
  split
  ·rename_i c
   simp only [XN,Wi] at c
   unfold X4 at c
   rw [hfill,f1,decide_eq_true_eq] at c
   have rm:=S.rm
   refine SE (Om (s:={s with heap:=s.heap.update a (YN (U1 es p (bV d,x)) t')}) hg T' (f2.trans S.pl) (f3.trans S.ld) p2 nd' _ ?_ λh' ks2 es2 ep2 t2 g1 g2' g3=>?_)
   ·rw [hes]
    unfold XQ
    rw [if_neg (by omega)]
    rcases T.mo with h | h | h
    ·rw [h] at c rm
     have:ks.length + 1=5:=by omega
     rw [this]
     exact .inl ⟨A_,by omega⟩
    ·rw [h] at c rm
     have:ks.length + 1=19:=by omega
     rw [this]
     exact .inr ⟨Ba,by omega⟩
    ·rw [h] at c;omega
   ·exact SH (q2 hm h' ks2 es2 ep2 t2 ((Uu _ _ _).trans g1) (p1.trans g2') g3)
  ·rename_i c
   simp only [XN,Wi] at c
   unfold X4 at c
   rw [hfill,f1,decide_eq_true_eq] at c
   exact SH (q2 hm _ ks' _ _ _ (Uu _ _ _) p1 ⟨hg,⟨L',T'⟩,f2.trans S.pl,f3.trans S.ld,by rw [f1];omega,p2,nd'⟩)
end
theorem gR.keep {K:SG}{J:Hp}{h h':Uz}{a:Tg}{led:Bool}{ks:List D}{es:Array (Int×SI)}{ep:Nat}{t:UK}(S:gR K J h a led ks es ep t) (e:∀o,h.get? a=some o->h'.get? a=some o):gR K J h' a led ks es ep t:=
 ⟨e _ S.at_,S.tab,S.pl,S.ld,S.rm,S.en,S.nd⟩
section
variable {prog:S_}{w:TL}{A:TR}{R:aa1->SJ->Prop}{I:Tg}{fp wr:List Tg}{G:Array abk->Array abk->Prop}{n:Nat}{P:Nat->SI->Prop}{St:Nat->SJ->Prop}{K:SG}{J:Hp}
theorem HU (W:acS prog w A.in1 I fp wr G n P St) (S:Tg) (hSf:S∉fp) (val:Nat->D) (hval:∀i v,P i v->KV K J v (val i)){s0:SJ}(N0:HF K J s0) (hnew:∀b∈S::wr,s0.heap.get? b=none) (hu:A.in1.units + 8 < UL) (hn:n<=76){led:Bool}:
  ∀(k i:Nat) (s:SJ) (ks:List D) (es:Array (Int×SI)) (ep:Nat) (t:UK),n - i=k->i<=n->St i s->(∀b o,s0.heap.get? b=some o->s.heap.get? b=some o)->gR K J s.heap S led ks es ep t->(∀d,d∈ks↔d∈(SM i).map val)->
   (∀s' ks' es' ep' t',Moved (S::wr) G s s'->gR K J s'.heap S led ks' es' ep' t'->(∀d,d∈ks'↔d∈(SM n).map val)->R (.ok (.ret .none)) s')->
   (Vq (Ti prog w) A (.builtin "set.update.loop" ⟨[.ref S,.ref I],[]⟩) R s):=by
 (have Q3:S∉wr:=λh=>hSf (W.sub _ h))
 (have hsub:∀b∈wr,b∈S::wr:=λb hb=>SS _ hb)
 have old:∀b o,s0.heap.get? b=some o->b∉S::wr:=λb o e hm=>by rw [hnew b hm] at e;cases e
 intro k
 induction k with
 | zero=>
  intro i s ks es ep t hk hi hst hb hS hm hR
  have hin:i=n:=by omega
  subst hin
  refine U8 UT ?_
  rw [Uy TJ _]
  (show S8 _ A.in1 (WJ (.ref I) >>= _) _ _ s)
  refine SE (W.done s _ _ hst λs' Qv=>?_)
  (show S8 _ A.in1 (ret T_) _ _ s')
  exact SH (hR s' ks es ep t (Qv.mono hsub) (hS.keep λo e=>Qv.heap S o Q3 e) hm)
 | succ k ih=>
  intro i s ks es ep t hk hi hst hb hS hm hR
  have hlt:i < n:=by omega
  have hlen:ks.length<=i:=by
   have:=TH hS.nd (λd hd=>(hm d).mp hd)
   simpa using this
  refine U8 UT ?_
  rw [Uy TJ _]
  (show S8 _ A.in1 (WJ (.ref I) >>= _) _ _ s)
  refine SE (W.item i s _ _ hlt hst λv s' hP QE Qv=>?_)
  have hx:=hval i v hP
  obtain ⟨_,x1,x2,vv,x3,x4⟩:=id hx
  have hS':=hS.keep (h':=s'.heap) λo e=>Qv.heap S o Q3 e
  have hb':∀b o,s0.heap.get? b=some o->s'.heap.get? b=some o:=λb o e=>Qv.heap b o (λhm=>old b o e (hsub b hm)) (hb b o e)
  have N':HF K J s':=N0.keep hb'
  have mem':∀(ks':List D),(∀d,d∈ks'↔d=val i\/d∈ks)->∀d,d∈ks'↔d∈(SM (i + 1)).map val:=λks' h d=>by
   rw [h d,hm d,VG,Th,TF]
   simp only [Td,Yx,S6]
   exact Or.comm
  show S8 _ A.in1 (holding [v] (setAdd S v) >>= _) _ _ s'
  (refine SE (TQ ?_))
  unfold setAdd
  refine TQ ?_
  refine SE (wK (val i) vv v A.in1 s' N' x1 x3 x4 (by omega) _ _ _ N' ?_)
  refine Jg (s:={s' with toks:=s'.toks + kK (val i)}) (⟨N'.t,N'.l,N'.e,N'.d⟩:HF K J {s' with toks:=s'.toks + kK (val i)}) hS' hx hu (by omega) (λhin=>?_) (λhin h' ks' es' ep' t' Q2 Rx QY=>?_)
  ·refine SH ⟨Wh TJ _,ih (i + 1) _ ks es ep t (by omega) hlt (W.frame _ s' _ _ QE (W0 _ _) λb hb o e=>e) hb' hS' (mem' ks λd=>⟨.inr,λh=>h.elim (λh=>h▸hin) id⟩) λs'' ks'' es'' ep'' t'' hm'' hS'' QG=>?_⟩
   exact hR s'' ks'' es'' ep'' t'' (aab W.gtrans ((Qv.mono hsub).then_heap (W0 _ _) λb o hb e=>e) hm'') hS'' QG
  ·refine SH ⟨Wh TJ _,ih (i + 1) _ ks' es' ep' t' (by omega) hlt (W.frame _ s' _ _ QE (W0 _ _) λb hb o e=>?_) (λb o e=>?_) QY (mem' ks' λd=>?_) λs'' ks'' es'' ep'' t'' hm'' hS'' QG=>?_⟩
   ·(rw [Q2.2 b (λh:b=S=>hSf (by rw [<-h];exact hb))];exact e)
   ·show h'.get? b=some o
    rw [Q2.2 b (λh:b=S=>old b o e (by rw [h];exact SV))]
    exact hb' b o e
   ·rw [<-Rx.mem_iff,S7]
   ·refine hR s'' ks'' es'' ep'' t'' (aab W.gtrans ((Qv.mono hsub).then_heap (W0 _ _) λb o hb e=>?_) hm'') hS'' QG
    (rw [Q2.2 b (λh:b=S=>hb (by rw [h];exact SV))];exact e)
end
theorem Dv {K:SG}{J:Hp}{h:Uz}{a:Tg}{led:Bool}(e:h.get? a=some {cls:=.type "set",dict:=none,data:=.set #[] 0 (.fresh 0 0 led)}):gR K J h a led [] #[] 0 (.fresh 0 0 led):=
 ⟨e,⟨[],⟨rfl,rfl,rfl,V5,(λ_ h=>nomatch h),.inl rfl,Tp _,(λ_ h=>nomatch h)⟩⟩,rfl,rfl,(show 0 * 5 < 7 * 3 by decide),.nil,VA⟩
end DL
namespace ST
open PySem PySem.SetTable
theorem zj {xs:Array Nat}(hs:xs.toList.Pairwise (· < ·)) (hi:i<=xs.size) (h1:∀k,k < i->xs.getD k 0 < j) (h2:∀k,i<=k->k < xs.size->j<=xs.getD k 0):below xs j=i:=by
 obtain ⟨b1,b2,b3⟩:=ow xs j hs
 rcases WH (below xs j) i with c | c | c
 ·have:=h1 _ c
  have:=b3 _ (SW _) (by omega)
  omega
 ·exact c
 ·have:=b2 _ c
  have:=h2 i (SW _) (by omega)
  omega
theorem Cy {xs:Array Nat}(hs:xs.toList.Pairwise (· < ·)):below xs 0=0:=zj hs (Tp _) (λk h=>absurd h (Uw _)) λk _ _=>Tp _
theorem Cw {xs:Array Nat}(hs:xs.toList.Pairwise (· < ·)) (h:xs[i]?=some j):below xs (j + 1)=i + 1:=by
 obtain ⟨hi,e⟩:=Us.mp h
 have sw:=Ug.mp hs
 have gd:∀k (hk:k < xs.size),xs.getD k 0=xs[k]:=λk hk=>by simp [Ve,hk]
 refine zj hs (by omega) (λk hk=>?_) (λk h1 h2=>?_)
 ·rw [gd k (by omega)]
  by_cases c:k=i
  ·subst c;omega
  ·have:=sw k i (by simp;omega) (by simpa using hi) (by omega)
   simp at this
   omega
 ·rw [gd k h2]
  have:=sw i k (by simpa using hi) (by simpa using h2) (by omega)
  simp at this
  omega
theorem xF {α:Type}(next:Nat->Nat):∀(f k:Nat) (left:List α) (out:Array α),f=left.length->(aa_ next f k left out).toList.Perm (out.toList++left)
 | 0,k,left,out,h=>by
  have:left=[]:=Wj.mp h.symm
  subst this
  unfold aa_
  simp
 | f + 1,k,left,out,h=>by
  have hl:next k % left.length < left.length:=ZP _ (by omega)
  unfold aa_
  rw [S5 hl]
  dsimp only
  refine (xF next f (k + 1) _ _ (by rw [ZW];simp [hl];omega)).trans ?_
  rw [aaZ,VB]
  (refine acT _ ?_)
  have e1:left.eraseIdx (next k % left.length)=left.take (next k % left.length)++left.drop (next k % left.length + 1):=XG _ _
  have e2:left=left.take (next k % left.length)++left[next k % left.length]::left.drop (next k % left.length + 1):=by
   rw [List.getElem_cons_drop,ZA]
  rw [e1,List.singleton_append]
  exact (abh.symm).trans (adQ e2.symm)
theorem Dg {α:Type}(next:Nat->Nat) (xs:Array α):(abG next xs).toList.Perm xs.toList:=by
 have h:=xF next xs.size 0 xs.toList #[] (by simp)
 rw [show (#[]:Array α).toList++xs.toList=xs.toList from rfl] at h
 exact h
end ST
namespace DL
open PySem PySem.Spec PyProof.Rows L2 ST
structure jJ (h:Uz) (a:Tg) (led:Bool) (es:Array (Int×SI)) (ep:Nat) (t:UK):Prop where
 at_:h.get? a=some {cls:=.type "set",dict:=none,data:=.set es ep t}
 tab:∃L,Tab t es L
 pl:t.plain=true
 ld:t.led=led
theorem jJ.keep {h h':Uz}(S:jJ h a led es ep t) (e:∀o,h.get? a=some o->h'.get? a=some o):jJ h' a led es ep t:=⟨e _ S.at_,S.tab,S.pl,S.ld⟩
theorem gR.wk {K:SG}{J:Hp}{h:Uz}{a:Tg}{led:Bool}{ks:List D}{es:Array (Int×SI)}{ep:Nat}{t:UK}(S:gR K J h a led ks es ep t):jJ h a led es ep t:=⟨S.at_,S.tab,S.pl,S.ld⟩
abbrev oY (w:TL):Bool:=!w.params.followText "set-order"
noncomputable def fY (w:TL) (a ep:Nat) (es:Array (Int×SI)):Array (Int×SI):=if w.params.followText "set-order"=true then abG (w.params.setOrder a ep) es else es
theorem nj (w:TL) (a ep:Nat) (es:Array (Int×SI)):(fY w a ep es).toList.Perm es.toList:=by
 unfold fY
 split
 ·exact Dg _ _
 ·exact .refl _
theorem nk (w:TL) (a ep:Nat) (es:Array (Int×SI)):(fY w a ep es).size=es.size:=by
 rw [<-S4,(nj w a ep es).length_eq,S4]
abbrev pT (a:Tg) (slot i n ep:Nat):Obj:={cls:=.type "set_iterator",data:=.fields #[.int slot 0,.int i 0,.ref a,.int n 0,.int ep 0]}
theorem uJ:ady table "set.__iter__"=some Xd.«frozenset.__iter__»:=
 (ab4 (id':="frozenset.__iter__") (by kernel_rfl) rfl (by decide +kernel) (by kernel_rfl))
theorem fX:Slot "set_iterator" "__next__" "set_iterator.__next__":=
 (.of (owner:="set_iterator") (n:="__next__") (by rw [ZE,XX];kernel_rfl) (by decide +kernel) (by decide +kernel) (by decide +kernel)
  (by first | exact .inl (by decide +kernel) | exact .inr (by decide +kernel)) (by rw [WV];kernel_rfl))
theorem pM:ady table "set_iterator.__next__"=some Xd.«set_iterator.__next__»:=(entryFor_of_tree (by kernel_rfl))
theorem qm (a:SI):argsOk "set_iterator.__next__" ⟨[a],[]⟩:=by unfold argsOk;kernel_rfl
section
variable {prog:S_}{w:TL}{A:TR}{E:SI->SJ->Prop}{s:SJ}
theorem GB {es:Array (Int×SI)}{Q:SI->SJ->Prop}(S:jJ s.heap a led es ep t)
 (hQ:Q (.ref s.heap.objs.size) {s with heap:=s.heap.push (pT a 0 0 es.size ep)}):S8 (Ti prog w) A (Yw (.ref a)) Q E s:=by
 obtain ⟨L,T⟩:=S.tab
 have hT:s.TypeIs (.ref a) "set":=⟨_,S.at_,rfl⟩
 refine YO hT abH (TY abH hT uJ ?_ (F.args_set_iter_1 _))
 show S8 _ _ (YQ a >>= _) _ _ s
 unfold YQ
 refine SE (SE (Ym S.at_ rfl (cR T) (SH ?_)))
 unfold setDrawn aci
 refine SE (SE (U0 S.at_ rfl (cR T) (SE (SE (VL (SH (SH ?_)))))))
 dsimp only
 split
 ·rename_i c
  have c:(!w.params.followText "set-order" && (!t.plain && decide (es.size > 1)))=true:=c
  rw [S.pl] at c
  simp at c
 ·(refine SE (SH ?_))
  refine SE (wpAny_setEpoch_of S.at_ rfl (cR T) ?_)
  (refine SE (TN ?_))
  exact SH ⟨_,rfl,"set_iterator",_,⟨_,SY _ rfl,rfl⟩,fX.lookup,hQ⟩
theorem Ar {t:UK}{Q:Option (SI×Nat)->SJ->Prop}(S:jJ s.heap a (oY w) es ep t) (hb:w.params.followText "set-order"=false->WW t.place slot=i)
 (q1:∀e slot',(fY w a ep es)[i]?=some e->(w.params.followText "set-order"=false->WW t.place slot'=i + 1)->Q (some (e.2,slot')) s) (q2:(fY w a ep es)[i]?=none->Q none s):
  S8 (Ti prog w) A (setNext a slot i ep) Q E s:=by
 obtain ⟨L,T⟩:=S.tab
 unfold setNext aci
 refine SE (U0 S.at_ rfl (cR T) ?_)
 dsimp only
 (refine SE (SE (VL (SH ?_))))
 dsimp only
 cases bt:w.params.followText "set-order" with
 | true=>
  rw [show (Ti prog w).w.params.followText "set-order"=true from bt]
  simp only [if_true,bne_self_eq_false,Tf,if_false]
  unfold setWalk aci
  refine SE (SE (U0 S.at_ rfl (cR T) ?_))
  dsimp only
  (refine SE (SE (VL (SH ?_))))
  dsimp only
  rw [show (Ti prog w).w.params.followText "set-order"=true from bt]
  simp only [if_true]
  refine SE (VL (SH ?_))
  dsimp only
  have ew:fY w a ep es=abG ((Ti prog w).w.params.setOrder a ep) es:=by unfold fY;rw [if_pos bt];rfl
  rw [ew] at q1 q2
  cases q:(abG ((Ti prog w).w.params.setOrder a ep) es)[i]? with
  | none=>exact SH (q2 q)
  | some e=>exact SH (q1 e slot q λz=>absurd (bt.symm.trans z) (by decide))
 | false=>
  rw [show (Ti prog w).w.params.followText "set-order"=false from bt]
  (simp only [Tf,if_false])
  have ew:fY w a ep es=es:=by unfold fY;rw [if_neg (by rw [bt];decide)]
  rw [ew] at q1 q2
  have Rq:t.led=true:=by rw [S.ld];show (!w.params.followText "set-order")=true;rw [bt];rfl
  split
  ·rename_i c
   have c:(!t.plain && decide (es.size > 1))=true:=c
   rw [S.pl] at c
   simp at c
  ·refine SE (Wy (a:=()) ?_ ?_)
   ·show (if (!t.led && !es.isEmpty)=true then _ else pure ())=pure ()
    rw [Rq]
    rfl
   ·rw [hb bt]
    cases q:es[i]? with
    | none=>exact SH (q2 q)
    | some e=>
     have hlen:i < t.place.size:=by
      have h1:=(Us.mp q).1
      have h2:t.place.size=es.size:=by rw [<-S4,T.pl,SK,n_ T]
      omega
     have ep':t.place[i]?=some t.place[i]:=VX hlen
     rw [ep']
     exact SH (q1 e _ q λ_=>Cw T.sop ep')
theorem GS {es:Array (Int×SI)}{t:UK}{Q:Option SI->SJ->Prop}(hne:a≠I) (S:jJ s.heap a (oY w) es ep t) (hI:s.heap.get? I=some (pT a slot i es.size ep)) (hb:w.params.followText "set-order"=false->WW t.place slot=i) (hi:i < es.size)
 (hQ:∀h' slot' e,(fY w a ep es)[i]?=some e->h'.get? I=some (pT a slot' (i + 1) es.size ep)->(w.params.followText "set-order"=false->WW t.place slot'=i + 1)->TU I s.heap h'->Q (some e.2) {s with heap:=h'}):
  S8 (Ti prog w) A (WJ (.ref I)) Q E s:=by
 obtain ⟨L,T⟩:=S.tab
 have hT:s.TypeIs (.ref I) "set_iterator":=⟨_,hI,rfl⟩
 unfold WJ
 refine SE (We (T7 (name:=VO "__next__") hT fX (TY fX hT pM ?_ (qm _))))
 show S8 _ _ (fieldsOf (.ref I) >>= _) _ _ s
 refine SE (YE hI rfl ?_)
 dsimp only
 refine SE (Ym S.at_ rfl (cR T) ?_)
 simp only [bne_self_eq_false,Tf,if_false,UJ]
 refine SE (Ar S hb (λe slot' q1 q2=>?_) λq=>?_)
 ·dsimp only
  refine SE (U_ hI (by simp) λh1 g1 b1=>?_)
  refine SE (U_ (s:={s with heap:=h1}) g1 (by simp) λh2 g2' b2=>?_)
  exact SH ⟨_,rfl,SH (hQ h2 slot' e q1 (g2'.trans (by simp [ZZ])) q2 (b1.trans b2))⟩
 ·exfalso
  have:=(Array.getElem?_eq_none_iff.mp q)
  rw [nk] at this
  omega
theorem JA {es:Array (Int×SI)}{t:UK}{Q:Option SI->SJ->Prop}(hh:A.handled=none) (S:jJ s.heap a (oY w) es ep t) (hI:s.heap.get? I=some (pT a slot es.size es.size ep)) (hb:w.params.followText "set-order"=false->WW t.place slot=es.size)
 (hQ:∀h',Y3 I s.heap h'->Q none {s with heap:=h'}):S8 (Ti prog w) A (WJ (.ref I)) Q E s:=by
 obtain ⟨L,T⟩:=S.tab
 have hT:s.TypeIs (.ref I) "set_iterator":=⟨_,hI,rfl⟩
 unfold WJ
 refine SE (We (T7 (name:=VO "__next__") hT fX (TY fX hT pM ?_ (qm _))))
 show S8 _ _ (fieldsOf (.ref I) >>= _) _ _ s
 refine SE (YE hI rfl ?_)
 dsimp only
 refine SE (Ym S.at_ rfl (cR T) ?_)
 simp only [bne_self_eq_false,Tf,if_false,UJ]
 refine SE (Ar S hb (λe slot' q1 q2=>?_) λq=>?_)
 ·exfalso
  have:=(Us.mp q1).1
  rw [nk] at this
  omega
 ·dsimp only
  refine SE (U_ hI (by simp) λh1 g1 b1=>?_)
  refine SE ?_
  simp only [adu,acy]
  (refine SE (TN ?_ (by size_fits)))
  (refine SE (m:=WS _ _) (Wy (a:=T_) (by first | rfl | (simp only [WS];rfl)) ?_))
  (refine TN ?_ (by size_fits))
  simp only [adv]
  (refine SE (aas ?_))
  (first | rw [show A.in1.handled=none from hh] | rw [hh])
  (refine SE (SH (abw ?_)))
  (refine SE (W2 (T:="StopIteration") (b:=true) ⟨_,SY _ rfl,rfl⟩ Z3 ?_))
  exact SH (hQ _ ((b1.extBut.push _).push _))
end
theorem yt:typeLookup (.type "set") "__len__"=pure (some (.builtin "set.__len__")):=by rw [ZE,XX];kernel_rfl
theorem F6 {M:adA}{A:TR}{E:SI->SJ->Prop}{s:SJ}{α:Type}{c:Prop} [Decidable c] {m1 m2:Sem α}{Q:α->SJ->Prop}(hc:c) (h:S8 M A m1 Q E s):S8 M A (if c then m1 else m2) Q E s:=by rw [if_pos hc];exact h
theorem Gy {prog:S_}{w:TL}{A:TR}{E:SI->SJ->Prop}{s:SJ}{a:Tg}{Q:Bool->SJ->Prop}(hT:s.TypeIs (.ref a) "set") (hQ:Q false s):S8 (Ti prog w) A (Yn (.ref a)) Q E s:=by
 have sp:splitId "set.__len__"=some ("set","__len__"):=by decide +kernel
 (unfold Yn)
 refine SE (Xn hT yt ?_)
 dsimp -zeta only
 rw [sp]
 dsimp -zeta only
 refine SE (m:=ace (.ref a) (.type "set")) (W2 hT sub_set_self ?_)
 (show S8 _ _ (if (!true)=true then _ else _) _ _ _)
 rw [if_neg (by decide)]
 refine F6 (by decide +kernel) ?_
 (refine SE (XU hT ?_))
 exact SH hQ
theorem qX:Slot "set_iterator" "__iter__" "set_iterator.__iter__":=
 ((.of (owner:="set_iterator") (n:="__iter__") (by rw [ZE,XX];kernel_rfl) (by decide +kernel) (by decide +kernel) (by decide +kernel)
  ((by first | exact .inl (by decide +kernel) | exact .inr (by decide +kernel))) (by rw [WV];kernel_rfl)))
theorem yp:ady table "set_iterator.__iter__"=some Xd.«dict_keyiterator.__iter__»:=
 (ab4 (id':="dict_keyiterator.__iter__") (by kernel_rfl) rfl (by decide +kernel) (by kernel_rfl))
theorem ze (a:SI):argsOk "set_iterator.__iter__" ⟨[a],[]⟩:=by unfold argsOk;kernel_rfl
section
variable {prog:S_}{w:TL}{A:TR}{E:SI->SJ->Prop}{s:SJ}
def jE (w:TL) (a ep:Nat) (es:Array (Int×SI)):List SI:=(fY w a ep es).toList.map (·.2)
theorem F5 (hh:A.handled=none) (I a:Tg) (hne:a≠I){es:Array (Int×SI)}{t:UK}:
  Walks prog w A I [I,a] [I] es.size (λi v=>(jE w a ep es)[i]?=some v) (λi h=>∃slot,h.get? I=some (pT a slot i es.size ep)/\jJ h a (oY w) es ep t/\(w.params.followText "set-order"=false->WW t.place slot=i)) where
 sub:=λ_ hb=>by simp at hb;simp [hb]
 frame:=λ_ _ _ ⟨slot,h1,h2,h3⟩ hk=>⟨slot,hk I (by simp) _ h1,h2.keep λo e=>hk a (by simp) o e,h3⟩
 item:=λi s Q E hi ⟨slot,h1,h2,h3⟩ hQ=>by
  refine GS hne h2 h1 h3 hi λh' slot' e q1 q2 q3 q4=>?_
  refine hQ e.2 h' s.toks ?_ ⟨slot',q2,h2.keep λo e=>?_,q3⟩ λb o hb e=>?_
  ·unfold jE;rw [Tq,UC,q1];rfl
  ·rw [q4.2 a hne];exact e
  ·exact q4.extBut b o (λh=>hb (by simp [h])) e
 done:=λs Q E ⟨slot,h1,h2,h3⟩ hQ=>JA hh h2 h1 h3 λh' he=>hQ h' s.toks λb o hb e=>he b o (λh=>hb (by simp [h])) e
 self:=λi s Q E ⟨slot,h1,h2,h3⟩ hQ=>by
  have hT:s.TypeIs (.ref I) "set_iterator":=⟨_,h1,rfl⟩
  refine YO hT qX (TY qX hT yp ?_ (ze _))
  show S8 _ _ (ret (.ref I)) _ _ s
  exact SH ⟨_,rfl,"set_iterator",_,hT,fX.lookup,hQ⟩
theorem sG {a:Tg}{es:Array (Int×SI)}{ep:Nat}{t:UK}{Q:List SI->SJ->Prop}(hh:A.handled=none) (S:jJ s.heap a (oY w) es ep t) (hn:es.size<=76)
  (hQ:∀(h':Uz) (tk:Nat),(∀b o,s.heap.get? b=some o->h'.get? b=some o)->s.heap.objs.size < h'.objs.size->Q (jE w a ep es) {s with heap:=h',toks:=tk}):S8 (Ti prog w) A (collect (.ref a)) Q E s:=by
 have ha:a < s.heap.objs.size:=S9 S.at_
 have hT:s.TypeIs (.ref a) "set":=⟨_,S.at_,rfl⟩
 unfold collect
 (refine SE (Z2 (U8 Zy ?_)))
 (rw [Uy Zz _])
 show S8 _ A.in1 (adl [] >>= λl=>again (.builtin "list.__iadd__" ⟨[l,.ref a],[]⟩)) _ _ s
 (refine SE (TN ?_))
 (refine SH ⟨Wh XA _,U8 aaV ?_⟩)
 (rw [Uy XA _])
 generalize R5:({cls:=.type "list",data:=.seq ([]:List SI).toArray}:Obj)=l0
 have S1:jJ (s.heap.push l0) a (oY w) es ep t:=S.keep λo e=>SO _ e
 have hT1:Y7 {s with heap:=s.heap.push l0} (.ref a) "set":=⟨_,S1.at_,rfl⟩
 show S8 _ A.in1 (Yo (.ref s.heap.objs.size) (.ref a) (.ref s.heap.objs.size)) _ _ _
 (unfold Yo)
 refine SE (XU hT1 ?_)
 have h1:acj (.ref s.heap.objs.size) (.ref a)=false:=by
  show (s.heap.objs.size == a)=false
  exact beq_eq_false_iff_ne.mpr (Vj ha)
 have h2:(W5 "set" == W5 "list")=false:=by decide
 have h3:(W5 "set" == W5 "tuple")=false:=by decide
 (simp only [h1,h2,h3,acs,Tf,if_false])
 refine SE (GB S1 ?_)
 (refine SE (TQ ?_))
 have z1:(s.heap.push l0).objs.size=s.heap.objs.size + 1:=VV _ _
 rw [z1]
 have S2:jJ ((s.heap.push l0).push (pT a 0 0 es.size ep)) a (oY w) es ep t:=S1.keep λo e=>SO _ e
 have hT2:Y7 {s with heap:=(s.heap.push l0).push (pT a 0 0 es.size ep)} (.ref a) "set":=⟨_,S2.at_,rfl⟩
 refine Gy hT2 ?_
 refine F6 (by decide +kernel) ?_
 (refine SE (Xy ?_))
 subst R5
 have hI:((s.heap.push {cls:=.type "list",data:=.seq ([]:List SI).toArray}).push (pT a 0 0 es.size ep)).get? (s.heap.objs.size + 1)=some (pT a 0 0 es.size ep):=by rw [<-z1];exact SY _ rfl
 have hS₁:((s.heap.push {cls:=.type "list",data:=.seq ([]:List SI).toArray}).push (pT a 0 0 es.size ep)).get? s.heap.objs.size=some {cls:=.type "list",data:=.seq ([]:List SI).toArray}:=SO _ (SY _ rfl)
 refine SE ?_
 (show S8 _ A.in1 (updateSeq s.heap.objs.size (·.push .none) >>= λ_=>updateSeq s.heap.objs.size (·.pop)) _ _ _)
 (refine SE (Yj hS₁ rfl ?_))
 (have hS₂:=Ur (Vo (·.push T_)) hS₁ rfl)
 (refine Yj hS₂ rfl ?_)
 (have hS₃:=Ur (Vo (·.pop)) hS₂ rfl)
 have oth:∀b o,b≠s.heap.objs.size->((s.heap.push {cls:=.type "list",data:=.seq ([]:List SI).toArray}).push (pT a 0 0 es.size ep)).get? b=some o->
   ((((s.heap.push {cls:=.type "list",data:=.seq ([]:List SI).toArray}).push (pT a 0 0 es.size ep)).update s.heap.objs.size (Vo (·.push T_))).update s.heap.objs.size (Vo (·.pop))).get? b=some o:=
  (λb o hb e=>(Xu _ _ (Vi hb)).trans ((Xu _ _ (Vi hb)).trans e))
 have hne:a≠s.heap.objs.size + 1:=Tr (XH ha)
 have hSf:s.heap.objs.size∉[s.heap.objs.size + 1,a]:=by
  simp only [S7,Uk,or_false,not_or]
  exact ⟨Tr (UW _),Vj ha⟩
 obtain ⟨L,T⟩:=S.tab
 refine SH ⟨Wh F.plain_extend_loop _,codeAny_extend_loopS ((F5 (A:=A.in1) (prog:=prog) (w:=w) (es:=es) (ep:=ep) (t:=t) hh (s.heap.objs.size + 1) a hne).toS) (by rw [UB];omega) _ hSf _ es.size 0 _ _ _ rfl (Tp _)
  ⟨0,oth _ _ (Vj (UW _)) hI,S2.keep λo e=>oth _ _ (Tr ha) e,λ_=>Cy T.sop⟩ hS₃ (ItemsOf.nil _) λs' acc' c' hm hS' hacc=>?_⟩
 (show S8 _ A (load s.heap.objs.size >>= _) _ _ s')
 (refine SE (ab9 hS' ?_))
 have eacc:acc'.toList=jE w a ep es:=by
  obtain ⟨z,q⟩:=hacc
  have lw:(jE w a ep es).length=es.size:=by unfold jE;rw [SK,S4,nk]
  refine Vt (by rw [S4,z,lw]) λi x1 x2=>?_
  have this:(jE w a ep es)[i]?=some (acc'[i]'(by simpa using x1)):=q i _ (VX (by simpa using x1))
  rw [S5 x2] at this
  (exact (Ul this).symm)
 refine SH ?_
 rw [eacc]
 (obtain ⟨h',g',d',tk',os'⟩:=s')
 (have eg:g'=s.gens:=hm.gens)
 (have ed:d'=s.drawn:=hm.drawn)
 have eo:os'=s.os:=hm.os
 subst eg;subst ed;subst eo
 refine hQ h' tk' (λb o e=>?_) (S9 hS')
 have lb:=S9 e
 refine hm.heap b o ?_ (oth b o (Tr lb) (SO _ (SO _ e)))
 simp only [S7,Uk,or_false,not_or]
 exact ⟨Tr lb,Tr (XH lb)⟩
end
theorem x_:ZF (.type "tuple") (.type "set")=pure false:=by rw [WV];kernel_rfl
theorem x6:ZF (.type "tuple") (.type "frozenset")=pure false:=by rw [WV];kernel_rfl
theorem ET:ZF (.type "list") (.type "set")=pure false:=by rw [WV];kernel_rfl
theorem ES:ZF (.type "list") (.type "frozenset")=pure false:=by rw [WV];kernel_rfl
abbrev fS (led:Bool):Obj:={cls:=.type "set",dict:=none,data:=.set #[] 0 (.fresh 0 0 led)}
abbrev cO (w:TL):Bool:=!w.params.followText "set-order"
section
variable {prog:S_}{w:TL}{A:TR}{E:SI->SJ->Prop}{s:SJ}{K:SG}{J:Hp}
theorem HH (a:SI){Q₁:SI->SJ->Prop}(h:Q₁ (.ref s.heap.objs.size) {s with heap:=s.heap.push (fS (cO w))}):
  (Vq (Ti prog w) A (.call (.builtin "set.__new__") ⟨[.type "set",a],[]⟩) (wants Q₁ E) s):=by
 refine (Yp ?_)
 (show S8 _ A.in1 (do Zb "set.__new__" ⟨[.type "set",a],[]⟩;again (.builtin "set.__new__" ⟨[.type "set",a],[]⟩)) _ _ s)
 refine SE (Wy (PySem.F.newCall_set_1 a) (SH ⟨Wh abI _,U8 F.entry_set_new ?_⟩))
 (rw [Uy abI _])
 (unfold Xd.«set.__new__» abR)
 have hsub:=sub_set_self
 (obtain ⟨hp,g,d,tk,os⟩:=s)
 dsimp only
 wp_walk
 (refine VL (SH ?_))
 dsimp only
 simp only [newObj]
 (refine SE (wpAny_alloc (SH ?_)))
 exact SH h
noncomputable def F8 (prog:S_) (w:TL) (A:TR) (E:SI->SJ->Prop) (s:SJ) (l:Tg) (Ss:Array SI):Prop:=
 ∃(I:Tg) (fp:List Tg) (St:Nat->SJ->Prop) (h2:Uz),acS prog w A.in1.in1.in1 I fp [I] (λa b=>b=a) Ss.size (λi v=>Ss[i]?=some v) St/\s.heap.objs.size∉fp/\s.heap.objs.size < I/\St 0 {s with heap:=h2}/\(∀b o,(s.heap.push (fS (cO w))).get? b=some o->h2.get? b=some o)/\
  ∀R:SI->SJ->Prop,R (.ref I) {s with heap:=h2}->S8 (Ti prog w) A.in1.in1 (Yw (.ref l)) R E {s with heap:=s.heap.push (fS (cO w))}
theorem ud {ol:Obj}{Q:SI->SJ->Prop}{Ss:Array SI}(P:Uz->Prop) (Qy:s.heap.get? l=some ol) (hcl:ol.cls=.type T) (Sd:ZF (.type T) (.type "set")=pure false) (Sb:ZF (.type T) (.type "frozenset")=pure false) (hne:(W5 T == W5 "dict")=false)
 (it:F8 prog w A E s l Ss)
 (loop:∀{I:Tg}{fp:List Tg}{St:Nat->SJ->Prop}{h2:Uz}{R:_->SJ->Prop},acS prog w A.in1.in1.in1 I fp [I] (λa b=>b=a) Ss.size (λi v=>Ss[i]?=some v) St->s.heap.objs.size∉fp->s.heap.objs.size < I->St 0 {s with heap:=h2}->(∀b o,(s.heap.push (fS (cO w))).get? b=some o->h2.get? b=some o)->
 (∀s',Moved [s.heap.objs.size,I] (λa b=>b=a) {s with heap:=h2} s'->P s'.heap->R (.ok (.ret .none)) s')->Vq (Ti prog w) A.in1.in1 (.builtin "set.update.loop" ⟨[.ref s.heap.objs.size,.ref I],[]⟩) R {s with heap:=h2})
 (h:∀(h':Uz) (tk:Nat),P h'->(∀b o,b < s.heap.objs.size->s.heap.get? b=some o->h'.get? b=some o)->Q (.ref s.heap.objs.size) {s with heap:=h',toks:=tk}):
  (S8 (Ti prog w) A (call (.type "set") [.ref l]) Q E s):=by
 (obtain ⟨c,tl,R7⟩:=WA.mro)
 (have hmade:=WA.made)
 have hsub:=WA.sub
 (refine aaG (Yp ?_))
 (show S8 _ _ (callAny (.type "set") _) _ _ _)
 (refine SH ⟨Code.quiet_builtin _ (by decide +kernel),U8 F.entry_type_call ?_⟩)
 (rw [Around.under_plain (weight_type_call_type "set" [.ref l] []) rfl])
 (have h1:=WA.notType)
 (have h2:=WA.canCreate)
 have hct:=PySem.F.typeCall_set_1 (.ref l)
 (repeat (any_goals (first | assumption | wp_step)))
 refine V_ (HH (.ref l) (E:=E) (Q₁:=λobj s₁=>obj=.ref s.heap.objs.size/\s₁={s with heap:=s.heap.push (fS (cO w))}) ⟨rfl,rfl⟩) λr s₁ hr=>?_
 cases r with
 | error e=>exact hr
 | ok fl=>
  cases fl with
  | ret obj=>
   obtain ⟨rfl,rfl⟩:=hr
   have hS:(s.heap.push (fS (cO w))).get? s.heap.objs.size=some (fS (cO w)):=SY _ rfl
   have hT:Y7 {s with heap:=s.heap.push (fS (cO w))} (.ref s.heap.objs.size) "set":=⟨_,hS,rfl⟩
   (have hli:=WA.init.lookup)
   (have hbi:=WA.init.bind (.ref s.heap.objs.size))
   (repeat (any_goals (first | assumption | wp_step)))
   refine V_ (ZU (R:=wants (λr s₂=>r=.none/\∃h' tk,s₂={s with heap:=h',toks:=tk}/\P h'/\
     (∀b o,b < s.heap.objs.size->s.heap.get? b=some o->h'.get? b=some o)) E) WA.init.plain F.entry_set_init ((check_set_init_1 hT ?_))) λr₂ s₂ hr₂=>?_
   ·have Rv:(s.heap.push (fS (cO w))).get? l=some ol:=SO _ Qy
    have Si:Y7 {s with heap:=s.heap.push (fS (cO w))} (.ref l) T:=⟨_,Rv,hcl⟩
    (unfold Xd.«set.__init__» noKeywords abn)
    generalize RO:Yw=PI
    wp_walk
    subst RO
    obtain ⟨I,fp,St,h2,W,hSf,hSI,st,hk,hit⟩:=it
    refine hit _ (SE (Z2 (loop W hSf hSI st hk λs' hm hp=>?_)))
    (obtain ⟨h',g',d',tk',os'⟩:=s')
    (have eg:g'=s.gens:=hm.gens)
    (have ed:d'=s.drawn:=hm.drawn)
    have eo:os'=s.os:=hm.os
    subst eg;subst ed;subst eo
    show S8 _ _ _ _ _ _
    refine SH ?_
    (show S8 _ _ (ret T_) _ _ _)
    refine SH ⟨rfl,h',tk',rfl,hp,λb o hb e=>hm.heap b o ?_ (hk b o (SO _ e))⟩
    simp only [S7,Uk,or_false,not_or]
    exact ⟨Tr hb,Tr (Wa hb hSI)⟩
   ·cases r₂ with
    | error e=>exact hr₂
    | ok fl₂=>
     cases fl₂ with
     | ret r=>
      obtain ⟨rfl,h',tk,rfl,hp,hk'⟩:=hr₂
      (repeat (any_goals (first | assumption | wp_step)))
      exact h _ _ hp hk'
     | _=>exact hr₂.elim
  | _=>exact hr.elim
theorem zU (hh:A.handled=none) (hl:s.heap.IsTuple l Ss):F8 prog w A E s l Ss:=by
 obtain ⟨ol,Qy,hcl,nl,hdl⟩:=id hl
 have hl1:(s.heap.push (fS (cO w))).IsTuple l Ss:=⟨_,SO _ Qy,hcl,nl,hdl⟩
 have hlS:l < s.heap.objs.size:=S9 Qy
 have z1:(s.heap.push (fS (cO w))).objs.size=s.heap.objs.size + 1:=VV _ _
 have QW:l≠(s.heap.push (fS (cO w))).objs.size:=by rw [z1];exact Tr (XH hlS)
 refine ⟨_,_,_,_,(Walks.tuple (A:=A.in1.in1.in1) (by simp [hh]) (s.heap.push (fS (cO w))).objs.size l QW Ss).toS,?_,?_,⟨⟨_,SY _ rfl,rfl,rfl⟩,hl1.push _⟩,λb o e=>SO _ e,λR q=>Yz hl1 q⟩
 ·rw [z1]
  simp only [S7,Uk,or_false,not_or]
  exact ⟨Tr (UW _),Vj hlS⟩
 ·rw [z1];exact UW _
theorem JI {l:Tg}{Ss:Array SI}(hh:A.handled=none) (hl:s.heap.IsList l Ss):F8 prog w A E s l Ss:=by
 obtain ⟨ol,Qy,hcl,nl,hdl⟩:=id hl
 have hl1:(s.heap.push (fS (cO w))).IsList l Ss:=⟨_,SO _ Qy,hcl,nl,hdl⟩
 have hlS:l < s.heap.objs.size:=S9 Qy
 have z1:(s.heap.push (fS (cO w))).objs.size=s.heap.objs.size + 1:=VV _ _
 have QW:l≠(s.heap.push (fS (cO w))).objs.size:=by rw [z1];exact Tr (XH hlS)
 refine ⟨_,_,_,_,(adD (A:=A.in1.in1.in1) (by simp [hh]) (s.heap.push (fS (cO w))).objs.size l QW Ss).toS,?_,?_,⟨⟨_,SY _ rfl,rfl,rfl⟩,hl1.push _⟩,λb o e=>SO _ e,λR q=>Xx hl1 q⟩
 ·rw [z1]
  simp only [S7,Uk,or_false,not_or]
  exact ⟨Tr (UW _),Vj hlS⟩
 ·rw [z1];exact UW _
theorem EX {Ss:Array SI}{ds:List D}(N:HF K J s) (hz:Ss.size=ds.length) (hi:∀i v,Ss[i]?=some v->KV K J v (ds.getD i .non)) (hn:ds.length<=76) (hu:A.units + 16 < UL){St:Nat->SJ->Prop}{h2:Uz}{R:_->SJ->Prop}(W:acS prog w A.in1.in1.in1 I fp [I] (λa b=>b=a) Ss.size (λi v=>Ss[i]?=some v) St) (hSf:s.heap.objs.size∉fp) (hSI:s.heap.objs.size < I) (st:St 0 {s with heap:=h2})
 (hk:∀b o,(s.heap.push (fS (cO w))).get? b=some o->h2.get? b=some o) (hR:∀s',Moved [s.heap.objs.size,I] (λa b=>b=a) {s with heap:=h2} s'->(∃ks es ep t,gR K J s'.heap s.heap.objs.size (cO w) ks es ep t/\∀d,d∈ks↔d∈ds)->R (.ok (.ret .none)) s'):Vq (Ti prog w) A.in1.in1 (.builtin "set.update.loop" ⟨[.ref s.heap.objs.size,.ref I],[]⟩) R {s with heap:=h2}:=by
 have all:(SM Ss.size).map (λi=>ds.getD i .non)=ds:=by
  refine Vt (by simp [hz]) λi a b=>?_
  simp [b]
 have hno:∀b,s.heap.objs.size<=b->s.heap.get? b=none:=λb hb=>by
  cases q:s.heap.get? b with
  | none=>rfl
  | some o=>exact absurd (S9 q) (Nat.not_lt.mpr hb)
 refine HU (A:=A.in1.in1) (K:=K) (J:=J) (s0:=s) (led:=cO w) W s.heap.objs.size hSf (λi=>ds.getD i .non) hi N (λb hb=>hno b ?_) (by simp only [in1_units];omega) (by omega) Ss.size 0 _ [] #[] 0 (.fresh 0 0 (cO w)) (by omega) (Tp _) st (λb o e=>hk b o (SO _ e)) (Dv (hk _ _ (SY _ rfl))) (λd=>by simp) λs' ks es ep t hm hS' hmem=>hR s' hm ⟨ks,es,ep,t,hS',by rw [all] at hmem;exact hmem⟩
 rcases S7.mp hb with rfl | hb
 ·exact SW _
 ·rw [S6.mp hb];exact XS hSI
theorem As {Ss:Array SI}{ds:List D}{Q:SI->SJ->Prop}(N:HF K J s) (hh:A.handled=none) (hl:s.heap.IsTuple l Ss) (hz:Ss.size=ds.length) (hi:∀i v,Ss[i]?=some v->KV K J v (ds.getD i .non)) (hn:ds.length<=76) (hu:A.units + 16 < UL)
 (h:∀(h':Uz) (tk:Nat) ks es ep t,gR K J h' s.heap.objs.size (cO w) ks es ep t->(∀d,d∈ks↔d∈ds)->(∀b o,b < s.heap.objs.size->s.heap.get? b=some o->h'.get? b=some o)->Q (.ref s.heap.objs.size) {s with heap:=h',toks:=tk}):
  (S8 (Ti prog w) A (call (.type "set") [.ref l]) Q E s):=by
 obtain ⟨ol,Qy,hcl,_⟩:=id hl
 exact ud (λh'=>∃ks es ep t,gR K J h' s.heap.objs.size (cO w) ks es ep t/\∀d,d∈ks↔d∈ds) Qy hcl x_ x6 (by decide) (zU hh hl) (λW a b c d e=>EX N hz hi hn hu W a b c d e) λh' tk ⟨ks,es,ep,t,a,b⟩=>h h' tk ks es ep t a b
theorem AZ {l:Tg}{Ss:Array SI}{ds:List D}{Q:SI->SJ->Prop}(N:HF K J s) (hh:A.handled=none) (hl:s.heap.IsList l Ss) (hz:Ss.size=ds.length) (hi:∀i v,Ss[i]?=some v->KV K J v (ds.getD i .non)) (hn:ds.length<=76) (hu:A.units + 16 < UL)
  (h:∀(h':Uz) (tk:Nat) ks es ep t,gR K J h' s.heap.objs.size (cO w) ks es ep t->(∀d,d∈ks↔d∈ds)->(∀b o,b < s.heap.objs.size->s.heap.get? b=some o->h'.get? b=some o)->Q (.ref s.heap.objs.size) {s with heap:=h',toks:=tk}):
  (S8 (Ti prog w) A (call (.type "set") [.ref l]) Q E s):=by
 obtain ⟨ol,Qy,hcl,_⟩:=id hl
 exact ud (λh'=>∃ks es ep t,gR K J h' s.heap.objs.size (cO w) ks es ep t/\∀d,d∈ks↔d∈ds) Qy hcl ET ES (by decide) (JI hh hl) (λW a b c d e=>EX N hz hi hn hu W a b c d e) λh' tk ⟨ks,es,ep,t,a,b⟩=>h h' tk ks es ep t a b
end
end DL
namespace DL
open PySem PySem.Spec PyProof.Rows L2 ST
open PySem.W (KasT kas_sort kas_ask)
mutual
noncomputable def formOf:D->Fm
 | .int _=>.i
 | .tup xs=>Bw xs
 | _=>.b
noncomputable def Bw:List D->Fm
 | []=>.tn
 | x::xs=>.tc (formOf x) (Bw xs)
end
noncomputable def rJ:Fm->D->Bool
 | .i,.int _=>true
 | .tn,.tup xs=>xs.isEmpty
 | .tc x r,.tup (y::ys)=>rJ x y && rJ r (.tup ys)
 | _,_=>false
theorem tZ:∀(f:Fm) (d:D),rJ f d=true->ki f d
 | .i,.int k,_=>⟨k,rfl⟩
 | .tn,.tup [],_=>⟨[],rfl,rfl⟩
 | .tc x r,.tup (y::ys),h=>by
  unfold rJ at h
  rw [SN] at h
  exact ⟨_,rfl,y,ys,rfl,tZ x y h.1,tZ r (.tup ys) h.2⟩
noncomputable def IF:List D->Bool
 | []=>true
 | d::r=>(match gV d with
  | some k=>gO k (d::r)
  | none=>false) && (d::r).all (rJ (formOf d))
def j_ (ds:List D):Bool:=decide (ds.length < 64) && (areKeys ds && (decide (deps ds<=8) && IF ds))
theorem GZ (h:IF ds=true):∃k f,∀d∈ds,gV d=some k/\ki f d:=by
 cases ds with
 | nil=>exact ⟨.i,.i,λ_ h=>nomatch h⟩
 | cons d r=>
  unfold IF at h
  rw [SN] at h
  cases q:gV d with
  | none=>rw [q] at h;cases h.1
  | some k=>
   rw [q] at h
   exact ⟨k,formOf d,λx hx=>⟨mw h.1 x hx,tZ _ _ (Tu.mp h.2 x hx)⟩⟩
theorem tM {n:Nat}:∀{ds:List D},deps ds<=n->∀d∈ds,dep d<=n
 | [],_,_,h=>nomatch h
 | x::r,hn,d,h=>by
  unfold deps at hn
  (rcases S7.mp h with rfl | h)
  ·omega
  ·exact tM (ds:=r) (by omega) d h
theorem oq {k:Hd}:∀{ds:List D},(∀d∈ds,gV d=some k)->gO k ds=true
 | [],_=>rfl
 | x::r,h=>by
  unfold gO
  rw [h x (SV ..),oq λd hd=>h d (SS _ hd)]
  cases k <;> rfl
structure OO (ds:List D) (k:Hd) (f:Fm):Prop where
 ln:ds.length < 64
 ky:areKeys ds=true
 dp:deps ds<=8
 al:∀d∈ds,gV d=some k/\ki f d
theorem t7 (h:j_ ds=true):∃k f,OO ds k f:=by
 unfold j_ at h
 rw [SN,SN,SN] at h
 obtain ⟨h1,h2,h3,h4⟩:=h
 obtain ⟨k,f,h5⟩:=GZ h4
 exact ⟨k,f,of_decide_eq_true h1,h2,of_decide_eq_true h3,h5⟩
abbrev iL (X:Cx) (H0:Hp) (a:Tg) (ds:List D):HO:=.ext λh=>∃ks es ep t,gR X.K H0 h a (cO X.w) ks es ep t/\∀d,d∈ks↔d∈ds
section
variable {X:Cx}
theorem ID {K:SG}{J:Hp}{k:Hd}{f:Fm}{ds:List D}{vs:List V}{us:List SI}(o:OO ds k f) (rs:aH K J ds vs) (rv:Vals vs us):∀i v,us.toArray[i]?=some v->KV K J v (ds.getD i .non):=λi v q=>by
 have l1:vs.length=us.length:=rv.length
 have l2:ds.length=vs.length:=rs.length
 have hi:i < us.length:=by
  have:=(Us.mp q).1
  simpa using this
 have e:us.getD i T_=v:=by
  simp at q
  simp [WX,q]
 have r1:=iQ rs (i:=i) (by omega)
 have r2:=iT rv (i:=i) (by omega)
 rw [e] at r2
 have m:=ic (ds:=ds) (i:=i) (by omega)
 refine ⟨?_,sF o.ky _ m,tM o.dp _ m,_,r1,r2⟩
 have hh:=(o.al _ m).1
 generalize dc ds i=d at r1 hh
 generalize vs.getD i V.non=vv at r1 r2
 cases d with
 | tup xs=>cases r1 with
  | tup _ _=>cases r2;exact ⟨_,rfl⟩
 | _=>cases hh
theorem xg (hu:X.A.units + 64 < UL) (hc:X.calm=true):bP X (.type "set") (λxs H Q=>∃p vs ds J0,xs=[.ref p]/\cL X.K H p vs/\aU J0 H/\aH X.K J0 ds vs/\j_ ds=true/\∀l,H l=none->Q (.ref l) (upd H l (iL X J0 l ds))):=by
 intro Sq s σ H xs us Q I r h
 obtain ⟨p,vs,ds,J0,rfl,hq,sm,rs,oks,q⟩:=h
 obtain ⟨u,rfl,rx⟩:=vals1 r
 cases rx
 obtain ⟨k,f,o⟩:=t7 oks
 have N:HF X.K J0 s:=HF.of (c:=⟨X.K,H,H,λ_=>True⟩) I sm
 obtain ⟨Su,r',pt,hz⟩:=I.tuple hq
 refine As N (I.ok.hd hc) pt (by simp [<-r'.length,rs.length]) (ID o rs r') (by have:=o.ln;omega) (by omega) λh' tk ks es ep t S hm kp=>?_
 exact ⟨.ref s.heap.objs.size,_,I.laid (t':=tk) (λb o e=>kp b o (S9 e) e) (SW _) (show cG X.prog X.w _ _ _ (iL X J0 s.heap.objs.size ds) from ⟨⟨ks,es,ep,t,S,hm⟩,⟨_,S.at_⟩,λh1 h2 ⟨ks,es,ep,t,S,hm⟩ e=>⟨ks,es,ep,t,S.keep e,hm⟩⟩),rfl,q _ (I.hok.fresh (SW _))⟩
theorem Ec (hu:X.A.units + 64 < UL) (hc:X.calm=true):bP X (.type "set") (λxs H Q=>∃p vs ds J0,xs=[.ref p]/\cB X.K H p vs/\aU J0 H/\aH X.K J0 ds vs/\j_ ds=true/\∀l,H l=none->Q (.ref l) (upd H l (iL X J0 l ds))):=by
 intro Sq s σ H xs us Q I r h
 obtain ⟨p,vs,ds,J0,rfl,hq,sm,rs,oks,q⟩:=h
 obtain ⟨u,rfl,rx⟩:=vals1 r
 cases rx
 obtain ⟨k,f,o⟩:=t7 oks
 have N:HF X.K J0 s:=HF.of (c:=⟨X.K,H,H,λ_=>True⟩) I sm
 obtain ⟨Su,r',pl,hz⟩:=I.list hq
 refine AZ N (I.ok.hd hc) pl.isList (by simp [<-r'.length,rs.length]) (ID o rs r') (by have:=o.ln;omega) (by omega) λh' tk ks es ep t S hm kp=>?_
 exact ⟨.ref s.heap.objs.size,_,I.laid (t':=tk) (λb o e=>kp b o (S9 e) e) (SW _) (show cG X.prog X.w _ _ _ (iL X J0 s.heap.objs.size ds) from ⟨⟨ks,es,ep,t,S,hm⟩,⟨_,S.at_⟩,λh1 h2 ⟨ks,es,ep,t,S,hm⟩ e=>⟨ks,es,ep,t,S.keep e,hm⟩⟩),rfl,q _ (I.hok.fresh (SW _))⟩
theorem Ea (hu:X.A.units + 64 < UL) (hc:X.calm=true):bP X (.type "set") (λxs H Q=>∃p vs ds J0,xs=[.ref p]/\(cL X.K H p vs\/cB X.K H p vs)/\aU J0 H/\aH X.K J0 ds vs/\j_ ds=true/\∀l,H l=none->Q (.ref l) (upd H l (iL X J0 l ds))):=λSq s σ H xs us Q I r ⟨p,vs,ds,J0,h1,h2,h3⟩=>
 h2.elim (λh2=>xg hu hc Sq s σ H xs us Q I r ⟨p,vs,ds,J0,h1,h2,h3⟩) λh2=>Ec hu hc Sq s σ H xs us Q I r ⟨p,vs,ds,J0,h1,h2,h3⟩
end
noncomputable def dd:List D->List D
 | []=>[]
 | x::xs=>if (dd xs).any (bg x)=true then dd xs else x::dd xs
def dD (ds:List D):List D:=bN (dd ds)
section
variable {P:D->Prop}
theorem yx (p:f9 P):∀(ds:List D),(∀x∈ds,P x)->(dd ds).Nodup/\∀y,y∈dd ds↔y∈ds
 | [],_=>⟨VA,λ_=>.rfl⟩
 | x::xs,h=>by
  obtain ⟨h1,h2⟩:=yx p xs λy hy=>h y (SS _ hy)
  have px:=h x (SV ..)
  have eqv:(dd xs).any (bg x)=true↔x∈xs:=by
   rw [VJ]
   constructor
   ·rintro ⟨z,hz,e⟩
    have hz':=(h2 z).mp hz
    rw [(p.eq x z px (h z (SS _ hz'))).mp e]
    exact hz'
   ·intro hx
    exact ⟨x,(h2 x).mpr hx,(p.eq x x px px).mpr rfl⟩
  unfold dd
  by_cases c:(dd xs).any (bg x)=true
  ·rw [if_pos c]
   refine ⟨h1,λy=>?_⟩
   rw [h2 y,S7]
   exact ⟨.inr,λz=>z.elim (λe=>e▸eqv.mp c) id⟩
  ·rw [if_neg c]
   refine ⟨U7.mpr ⟨λz=>c (eqv.mpr ((h2 x).mp z)),h1⟩,λy=>?_⟩
   rw [S7,S7,h2 y]
theorem vH (p:f9 P):∀{A B:List D},(∀x∈A,P x)->A.Pairwise (λa b=>d7 a b=true)->B.Pairwise (λa b=>d7 a b=true)->(∀y,y∈A↔y∈B)->A=B
 | [],[],_,_,_,_=>rfl
 | [],b::B,_,_,_,h=>by cases (h b).mpr SV
 | a::A,[],_,_,_,h=>by cases (h a).mp SV
 | a::A,b::B,hp,hA,hB,h=>by
  obtain ⟨a1,a2⟩:=VQ.mp hA
  obtain ⟨b1,b2⟩:=VQ.mp hB
  have pa:=hp a SV
  have pb:=hp b ((h b).mpr SV)
  have no:∀z,P z->d7 z z=true->False:=λz pz q=>by
   have:=p.asy z z pz pz q
   rw [q] at this;cases this
  have e:a=b:=by
   rcases S7.mp ((h a).mp SV) with e | e
   ·exact e
   ·rcases S7.mp ((h b).mpr SV) with f | f
    ·exact f.symm
    ·exact (no a pa (p.tra _ _ _ pa pb pa (a1 b f) (b1 a e))).elim
  subst e
  have:A=B:=by
   refine vH p (λx hx=>hp x (SS _ hx)) a2 b2 λy=>⟨λhy=>?_,λhy=>?_⟩
   ·rcases S7.mp ((h y).mp (SS _ hy)) with e | e
    ·subst e;exact (no y pa (a1 y hy)).elim
    ·exact e
   ·rcases S7.mp ((h y).mpr (SS _ hy)) with e | e
    ·subst e;exact (no y pa (b1 y hy)).elim
    ·exact e
  rw [this]
theorem rS (p:f9 P){ds:List D}(h:∀x∈ds,P x) (nd:ds.Nodup):(bN ds).Pairwise λa b=>d7 a b=true:=by
 have up:=HJ p ds h
 have pm:=gm ds
 have nd':(bN ds).Nodup:=pm.nodup_iff.mpr nd
 have both:=adE up nd'
 refine (VS.mp both).imp ?_
 rintro a b ⟨ha,hb,h1,h2⟩
 cases q:d7 a b with
 | true=>rfl
 | false=>exact absurd (p.tri a b (h a (pm.mem_iff.mp ha)) (h b (pm.mem_iff.mp hb)) q h1) h2
theorem Ax (p:f9 P){ds ks:List D}(h:∀x∈ds,P x) (nd:ks.Nodup) (hm:∀d,d∈ks↔d∈ds):bN ks=dD ds:=by
 obtain ⟨h1,h2⟩:=yx p ds h
 have hk:∀x∈ks,P x:=λx hx=>h x ((hm x).mp hx)
 have hd:∀x∈dd ds,P x:=λx hx=>h x ((h2 x).mp hx)
 exact vH p (λx hx=>hk x ((gm ks).mem_iff.mp hx)) (rS p hk nd) (rS p hd h1) λy=>by
  rw [(gm ks).mem_iff,hm y]
  show _↔y∈bN (dd ds)
  rw [(gm (dd ds)).mem_iff,h2 y]
theorem ue (p:f9 P) (h:∀x∈ds,P x):(dD ds).Pairwise (λa b=>d7 a b=true)/\∀d,d∈dD ds↔d∈ds:=by
 obtain ⟨h1,h2⟩:=yx p ds h
 exact ⟨rS p (λx hx=>h x ((h2 x).mp hx)) h1,λd=>by show d∈bN (dd ds)↔_;rw [(gm (dd ds)).mem_iff,h2 d]⟩
end
theorem fH.reps {K:SG}{J:Hp}{es:List (Int×SI)}{ks:List D}(h:fH K J es ks):∃vs,aH K J ks vs/\Vals vs (es.map (·.2)):=by
 induction h with
 | nil=>exact ⟨_,.nil,.nil⟩
 | cons _ hk _ ih=>
  obtain ⟨vs,h1,h2⟩:=ih
  obtain ⟨_,_,_,v,r,rv⟩:=hk
  exact ⟨v::vs,.cons r h1,.cons rv h2⟩
section
variable {X:Cx}
theorem uD (hu:X.A.units + 64 < UL) (hc:X.calm=true):bP X (.builtin "sorted") (λxs H Q=>∃p ds J0,xs=[.ref p]/\H p=some (iL X J0 p ds)/\aU J0 H/\j_ ds=true/\∀l vs',H l=none->aH X.K J0 (dD ds) vs'->Q (.ref l) (upd H l (.lst vs'))):=by
 intro Sq s σ H xs us Q I r h
 obtain ⟨p,ds,J0,rfl,hp,sm,oks,q⟩:=h
 obtain ⟨u,rfl,rx⟩:=vals1 r
 cases rx
 obtain ⟨k,f,o⟩:=t7 oks
 have hh:X.A.handled=none:=I.ok.hd hc
 have N:HF X.K J0 s:=HF.of (c:=⟨X.K,H,H,λ_=>True⟩) I sm
 obtain ⟨⟨ks,es,ep,t,S,hm⟩,_⟩:=(show cG X.prog X.w H s.heap p (iL X J0 p ds) from I.hok p _ hp)
 obtain ⟨ks',pm,en'⟩:=S.en.perm (nj X.w p ep es).symm
 have nd':ks'.Nodup:=pm.nodup_iff.mp S.nd
 have hm':∀d,d∈ks'↔d∈ds:=λd=>by rw [<-pm.mem_iff,hm d]
 obtain ⟨vs,rs,rv⟩:=en'.reps
 have hv:jE X.w p ep es=(fY X.w p ep es).toList.map (·.2):=rfl
 rw [<-hv] at rv
 generalize hits:jE X.w p ep es=Su at rv
 have l1:vs.length=Su.length:=rv.length
 have l2:ks'.length=vs.length:=rs.length
 have len:ks'.length<=ds.length:=TH nd' λd hd=>(hm' d).mp hd
 have l64:=o.ln
 have les:es.size=ks'.length:=by rw [<-S4,S.en.length,pm.length_eq]
 have out:=Ax (iu f) (λx hx=>(o.al x hx).2) nd' hm'
 refine mY I (λE C h=>sG hh S.wk (by omega) λh1 tk k1 le=>hits▸h h1 tk k1 (XS le)) rv l2 (by omega) (DU (N.keep λ_ _ e=>e) rs rv (k:=k) (λd hd=>⟨(o.al d ((hm' d).mp hd)).1,Tz (tM o.dp d ((hm' d).mp hd)) (by decide)⟩) (oq λd hd=>(o.al d ((hm' d).mp hd)).1) (λx hx y hy=>(iu f).lt _ _ (o.al _ ((hm' x).mp hx)).2 (o.al _ ((hm' y).mp hy)).2) hu) λl vs' hl rr=>q l vs' hl (out▸rr _ rs)
end
end DL
namespace DL
open PySem PySem.Spec PyProof.Rows L2 ST
section
variable {X:Cx}{c:C}{e:TV}{pos pos2:Pos}
theorem D5:Ue "set"=some (.type "set"):=by decide +kernel
noncomputable def qu:List R->M R
 | [r]=>iy r >>= λxs=>if j_ xs=true then .ok (.l .fresh (dD xs)) else .bad
 | _=>.bad
noncomputable def Hw (X:Cx):List V->Hp->VK->Prop:=λxs H Q=>∃p vs ds J0,xs=[.ref p]/\(cL X.K H p vs\/cB X.K H p vs)/\aU J0 H/\aH X.K J0 ds vs/\j_ ds=true/\∀l,H l=none->Q (.ref l) (upd H l (iL X J0 l ds))
noncomputable def Hz (X:Cx):List V->Hp->VK->Prop:=λxs H Q=>∃p ds J0,xs=[.ref p]/\H p=some (iL X J0 p ds)/\aU J0 H/\j_ ds=true/\∀l vs',H l=none->aH X.K J0 (dD ds) vs'->Q (.ref l) (upd H l (.lst vs'))
theorem wI {J H:Hp}{p:Tg}{vs:List V}{ds:List D}{Q:VK}(hq:cL X.K H p vs\/cB X.K H p vs) (sm:aU J H) (rs:aH X.K J ds vs) (ok:j_ ds=true) (q:∀l o l2 vs',H l=none->upd H l o l2=none->aH X.K J (dD ds) vs'->Q (.ref l2) (upd (upd H l o) l2 (.lst vs'))):
  Hw X [.ref p] H λv H2=>Hz X [v] H2 Q:=
 ⟨p,vs,ds,J,rfl,hq,sm,rs,ok,λl hl=>⟨l,ds,J,rfl,bR,(Ext.new sm hl _).sub,ok,λl2 vs' h2 rr=>q l _ l2 vs' hl h2 rr⟩⟩
end
end DL
namespace DL
open PySem PySem.Spec PyProof.Rows L2 DX
section
variable {X:Cx}{c:C}{e:TV}{pos pos2:Pos}
theorem Fv {p p2:Pos}{gs:G (List R)}(hu:X.A.units + 64 < UL) (ha:jj X c [e] gs) (hm:X.mg "sorted"=none) (hm2:X.mg "set"=none) (hK:X.K=c.K:=by rfl) (hc:X.calm=true:=by rfl) (hg:Gl X "sorted":=by rfl) (QU:Gl X "set":=by rfl)
  (he:SX [.Call (.Name "set" p2) [e] [] pos2] X.env=(false,eval (.Call (.Name "set" p2) [e] [] pos2) X.env)::SX [] X.env:=by rfl) (hpl:(Vb pos (SX [] X.env)).any (·.1)=false:=by rfl)
  (QT:SX [e] X.env=(false,eval e X.env)::SX [] X.env:=by rfl) (QX:(Vb pos2 (SX [] X.env)).any (·.1)=false:=by rfl):
  QD X c (.Call (.Name "sorted" p) [.Call (.Name "set" p2) [e] [] pos2] [] pos) (gN qu gs):=by
 have ha:=ha.h
 refine ⟨?_⟩
 have h1:=kc (p:=p2) (pos:=pos2) (show bP X (.type "set") (Hw X) from Ea hu hc) QU hm2 D5 ha (by decide) (by decide) QT QX
 have h2:=o6 (p:=p) (pos:=pos) (show bP X (.builtin "sorted") (Hz X) from uD hu hc) hg hm jo (eY h1 gX he) (by decide) (by decide) he hpl
 refine Di (ta:=AA) (f:=qu) (r:=λvs H1 Q=>Hw X vs H1 λv H2=>Hz X [v] H2 Q) h2 rfl ?_
 intro He J H xs vs Q hp rs w
 unfold qu at w
 split at w
 ·obtain ⟨v,rfl,r⟩:=rs.one
  rename_i r0
  obtain ⟨xs,q,w⟩:=jc w
  split at w
  ·rename_i ok
   have fin:∀(vs:List V),aH c.K J xs vs->∀l o l2 vs',H l=none->upd H l o l2=none->aH X.K J (dD xs) vs'->Q (.ref l2) (upd (upd H l o) l2 (.lst vs')):=λvs _ l o l2 vs' hl h2 rr=>by
    rw [hK] at rr
    have e1:=Ext.new hp.sub hl o
    have e2:=Ext.new e1.sub h2 (.lst vs')
    exact w _ _ _ (e1.trans e2) (RR.from e1.h (g_ (hp.ext e1) h2 rr))
   cases r0 with
   | d y=>
    cases y with
    | tup ys=>
     cases q
     cases r with
     | tup h hs=>exact wI (.inl (by rw [hK];exact eO hp.sub h)) hp.sub (by rw [hK];exact hs) ok (fin _ hs)
    | lst ys=>
     cases q
     obtain ⟨p,vs,rfl,hq,hs⟩:=RR.list hp r rfl
     exact wI (.inr (by rw [hK];exact hq)) hp.sub (by rw [hK];exact hs) ok (fin _ hs)
    | _=>cases q
   | mo _ _=>cases q
   | mb _ _=>cases q
   | mf _ _=>cases q
   | l m ys=>
    cases q
    obtain ⟨p,vs,rfl,hq,hs⟩:=RR.list hp r rfl
    exact wI (.inr (by rw [hK];exact hq)) hp.sub (by rw [hK];exact hs) ok (fin _ hs)
  ·exact w.elim
 ·exact w.elim
end
section
variable {X:Cx}{c:C}{a e ke:TV}{g gk:G R}{pos:Pos}{elts:List TV}{kk:Nat}{tp:Pos}
theorem Fx {p:Pos}{gs:G (List R)}(ha:jj X c [a] gs) (hm:X.mg "enumerate"=none) (hK:X.K=c.K:=by rfl) (hg:Gl X "enumerate":=by rfl) (hs:SX [a] X.env=[(false,eval a X.env)]:=by rfl) (hs2:SX [] X.env=[]:=by rfl):
  ql X c (.Tuple elts kk tp) (.Call (.Name "enumerate" p) [a] [] pos) (Iu gs):=have ha:=ha.h;⟨
 rO (Kq hg hm ha hs hs2) λσ H Q ⟨J,env,sr,w⟩=>by
  refine ⟨J,env,sr,aF (aL w) λrs wr vs J1 H1 e1 r1=>?_⟩
  split at wr
  ·obtain ⟨v,rfl,r⟩:=r1.one
   obtain ⟨xs,q1,wr⟩:=La wr
   have hp1:=sr.hp.ext e1
   obtain ⟨k1,l1,us1,rfl,a1,s1⟩:=Nx hp1 r q1
   refine ⟨k1,l1,us1,rfl,by rw [hK];exact s1,?_⟩
   rw [hK]
   refine wr _ J1 H1 e1 λi J' H' hp u=>?_
   have t1:=s1.same u.2
   refine ⟨λhl=>⟨us1,t1,?_⟩,λd hd=>?_⟩
   ·rw [Et,a1.length] at hl
    exact hl
   ·obtain ⟨x,b0,rfl⟩:=Gn hd
    obtain ⟨ux,b1,c1⟩:=a1.get b0
    refine ⟨⟨us1,ux,t1,b1⟩,λz H2 ⟨q,hq,e,hy⟩=>?_⟩
    have:=hy us1 ux t1 b1
    subst this e
    have s':aU J' (upd J' q (.tup [.int i,ux])):=cK (hp.sub.free hq) _
    exact ⟨_,Ext.newJ hp.sub hq _,.tup (.inl (.inl bR)) (.cons (.int _) (.cons ((c1.mono u.1).mono s') .nil))⟩
  ·exact wr.elim⟩
end
end DL
namespace DL
open PySem PySem.Spec PyProof.Rows L2 ST PySem.SetTable
section
variable {t:UK}{es:Array (Int×SI)}{L:List (Nat×Int×SI)}
theorem vg (T:Tab t es L) (h:Int) (n0:Nat) (hf:pos t.mask h n0∉L.map (·.1)) (hb:∀m,m < n0->pos t.mask h m∈L.map (·.1)):
  ∀(d n F:Nat),n0 - n=d->n<=n0->d < F->probe.go t (λ_=>h + 1) h F (st t.mask h n)=some (.empty (pos t.mask h n0) none)
 | d,n,0,_,_,h=>absurd h (Uw _)
 | d,n,F + 1,hd,hn,hF=>by
  by_cases c:n=n0
  ·subst c
   unfold probe.go
   rw [vB T.dm (by rw [T.pl];exact hf)]
   show some (Met.empty _ (st t.mask h n).dummy)=_
   rw [pD]
  ·obtain ⟨e,he,ej⟩:=S3.mp (hb n (by omega))
   obtain ⟨i,hi,rfl⟩:=Uj.mp he
   have hs:t.slot (pos t.mask h n)=.live i:=qW T.sop (by rw [(T.at_ (S5 hi)).1,ej])
   have eg:probe.go t (λ_=>h + 1) h (F + 1) (st t.mask h n)=probe.go t (λ_=>h + 1) h F (st t.mask h (n + 1)):=by
    rw [probe.go,hs]
    show (if (h + 1 == h)=true then _ else _)=_
    rw [if_neg (by rw [beq_iff_eq];omega)]
    rfl
   rw [eg]
   exact vg T h n0 hf hb (n0 - (n + 1)) (n + 1) F rfl (by omega) (by omega)
theorem Ey (T:Tab t es L) (h:Int) (n0:Nat) (hf:pos t.mask h n0∉L.map (·.1)) (hb:∀m,m < n0->pos t.mask h m∈L.map (·.1)) (hn0:n0<=10 * (t.mask + 12)):t.freeSlot h=some (pos t.mask h n0,false):=by
 have e:t.probe (λ_=>h + 1) h (t.probeStart h)=some (.empty (pos t.mask h n0) none):=vg T h n0 hf hb n0 0 (10 * turns t.mask) rfl (Tp _) (by unfold turns;omega)
 unfold SetTable.freeSlot
 rw [e]
 rfl
theorem JR (T:Tab t es L) (h:Int) (x:SI) (n0:Nat) (hf:pos t.mask h n0∉L.map (·.1)) (hb:∀m,m < n0->pos t.mask h m∈L.map (·.1)) (hn0:n0<=10 * (t.mask + 12)) (hl:L.length + 1<=t.mask):
  layNew t es h x=(insertAt es (t.put (pos t.mask h n0)).2 (h,x),(t.put (pos t.mask h n0)).1,false,false):=by
 obtain ⟨L',T',_⟩:=T.put h x n0 hf hb (Ah _ _ _) hl
 have fit:=cR T'
 unfold layNew
 rw [Ey T h n0 hf hb hn0]
 dsimp only
 unfold SetTable.orStandIn
 rw [fit]
 rfl
theorem GH {mask finger moves:Nat}{led plain:Bool}{t':UK}{SD:Array Nat}(hm:mh mask) (hl:es.size<=mask) (e:laid mask finger moves led plain (es.map (·.1))=some (t',SD)):SD.toList.Perm (SM es.size):=by
 obtain ⟨owner,G,e0,O⟩:=EU hm (es.map (·.1)) (by simpa using hl)
 have hlen:G.length=es.size:=by rw [O.ln];simp
 (let live:=(SM (mask + 1)).filterMap λj=>(owner.getD j none).map (j,·))
 have lv:∀p,p∈live↔p.1∈G/\p.2=G.idxOf p.1:=λp=>by
  show p∈(SM (mask + 1)).filterMap _↔_
  rw [W9]
  constructor
  ·rintro ⟨j,hj,q⟩
   have hj':j<=mask:=by have:=Tj.mp hj;omega
   rw [O.at_ j hj'] at q
   by_cases c:j∈G
   ·rw [if_pos c] at q
    have q:(j,G.idxOf j)=p:=by simpa using q
    subst q
    exact ⟨c,rfl⟩
   ·rw [if_neg c] at q;exact absurd q (by simp)
  ·rintro ⟨h1,h2⟩
   refine ⟨p.1,Tj.mpr (by have:=O.bd _ h1;omega),?_⟩
   rw [O.at_ _ (O.bd _ h1),if_pos h1]
   show some (p.1,G.idxOf p.1)=some p
   rw [<-h2]
 have so1:live.Pairwise λa b=>a.1 < b.1:=by
  show ((SM (mask + 1)).filterMap _).Pairwise _
  rw [Y6]
  refine Ws.imp ?_
  intro a b hab x hx y hy
  cases q1:owner.getD a none with
  | none=>rw [q1] at hx;exact absurd hx (by simp)
  | some k1=>cases q2:owner.getD b none with
   | none=>rw [q2] at hy;exact absurd hy (by simp)
   | some k2=>
    rw [q1] at hx;rw [q2] at hy
    have hx:(a,k1)=x:=by simpa using hx
    have hy:(b,k2)=y:=by simpa using hy
    subst hx;subst hy;exact hab
 have ord:(live.map (·.2)).Perm (SM es.size):=by
  rw [WM _ Vc]
  ·intro k
   rw [S3,Tj]
   constructor
   ·rintro ⟨p,hp,rfl⟩
    obtain ⟨h1,h2⟩:=(lv p).mp hp
    rw [h2,<-hlen]
    exact Uo h1
   ·intro hk
    rw [<-hlen] at hk
    exact ⟨(G[k],k),(lv _).mpr ⟨T3 _,(O.nd.idxOf_getElem k hk).symm⟩,rfl⟩
  ·show (live.map (·.2)).Pairwise _
   rw [TX]
   refine (VS.mp so1).imp ?_
   rintro a b ⟨ha,hb,hab⟩ z
   obtain ⟨a1,a2⟩:=(lv a).mp ha
   obtain ⟨b1,b2⟩:=(lv b).mp hb
   rw [a2,b2] at z
   have ga:=Wu (Uo a1)
   have gb:=Wu (Uo b1)
   have:a.1=b.1:=by
    rw [<-ga,<-gb]
    congr 1
   omega
 unfold laid at e
 rw [e0] at e
 have e1:(live.map (·.2)).toArray=SD:=by
  have:=Ul e
  exact congrArg ZQ this
 rw [<-e1]
 exact ord
theorem FD (hm:mh (sizeAbove w - 1)) (hl:es.size<=sizeAbove w - 1):∃t' es' L',relayAll t es w=(es',t',false)/\t'.mask=sizeAbove w - 1/\t'.led=t.led/\t'.plain=t.plain/\Tab t' es' L'/\es'.toList.Perm es.toList:=by
 obtain ⟨t',SD,L',e1,e2,e3,e4,e5,e6⟩:=xM (t:=t) (es:=es) hm hl
 have od:SD.toList.Perm (SM es.size):=GH hm hl e1
 refine ⟨t',SD.filterMap (es[·]?),L',?_,e2,e3,e4,e5,e6⟩
 unfold relayAll
 rw [e1]
 dsimp only
 have c1:coversAll SD es.size=true:=by unfold coversAll;exact List.isPerm_iff.mpr od
 rw [c1,cR e5]
 rfl
end
end DL
namespace DL
open PySem PySem.Spec PyProof.Rows L2 ST
inductive fD:List (Int×SI)->List Int->Prop
 | nil:fD [] []
 | cons {i:Int}{k:Tok}{es:List (Int×SI)}{ns:List Int}:fD es ns->fD ((WN i,.int i k)::es) (i::ns)
theorem fD.perm {es es':List (Int×SI)}(p:es.Perm es'):∀{ns:List Int},fD es ns->∃ns',ns.Perm ns'/\fD es' ns':=by
 induction p with
 | nil=>intro ns h;exact ⟨ns,.refl _,h⟩
 | cons x _ ih=>
  intro ns h
  cases h with
  | cons h3=>obtain ⟨ns',a,b⟩:=ih h3;exact ⟨_,a.cons _,.cons b⟩
 | swap x y l=>
  intro ns h
  cases h with
  | cons h3=>cases h3 with
   | cons h6=>exact ⟨_,.swap _ _ _,.cons (.cons h6)⟩
 | trans _ _ ih1 ih2=>
  intro ns h
  obtain ⟨k1,a,b⟩:=ih1 h
  obtain ⟨k2,c,d⟩:=ih2 b
  exact ⟨k2,a.trans c,d⟩
theorem fD.length {es:List (Int×SI)}{ns:List Int}(h:fD es ns):es.length=ns.length:=by
 induction h with
 | nil=>rfl
 | cons _ ih=>simp [ih]
structure jk (h:Uz) (a:Tg) (led:Bool) (ns:List Int) (es:Array (Int×SI)) (ep:Nat) (t:UK):Prop where
 at_:h.get? a=some {cls:=.type "set",dict:=none,data:=.set es ep t}
 tab:∃L,Tab t es L
 pl:t.plain=true
 ld:t.led=led
 rm:ns.length * 5 < t.mask * 3
 en:fD es.toList ns
 nd:ns.Nodup
section
variable {w:TL}{prog:S_}{E:SI->SJ->Prop}{A:TR}{s:SJ}
theorem fD.elems (h:fD es ns):ElemsOf (aaF prog w) es:=by
 induction h with
 | nil=>exact λe he=>nomatch he
 | @cons i k es ns _ ih=>
  intro e he
  (rcases S7.mp he with rfl | he)
  ·exact ⟨⟨i,ack _ _ _ _,rfl⟩,rfl⟩
  ·exact ih e he
theorem fD.find {es:List (Int×SI)}(h:fD es ns) (i:Int):(es.findIdx? λe=>(aaF prog w).is i e.2)=none↔i∉ns:=by
 rw [List.findIdx?_eq_none_iff]
 induction h with
 | nil=>simp
 | @cons j k es ns _ ih=>
  rw [S7,not_or,<-ih]
  have e:(aaF prog w).is i (.int j k)=decide (i=j):=KeyKind.is_eq_decide (ack prog w j k) i
  constructor
  ·intro h
   refine ⟨λz=>?_,λx hx=>h x (SS _ hx)⟩
   have:=h _ SV
   rw [e,z] at this
   simp at this
  ·rintro ⟨h1,h2⟩ x hx
   (rcases S7.mp hx with rfl | hx)
   ·rw [e];simpa using h1
   ·exact h2 x hx
theorem add_int {a:Tg}{es:Array (Int×SI)}{ep:Nat}{t:UK}{led:Bool}{ns:List Int}{i:Int}{k:Tok}{Q:Bool->SJ->Prop}(S:jk s.heap a led ns es ep t) (hl:ns.length < 76)
  (q1:i∈ns->Q false s) (q2:i∉ns->∀(h':Uz) ns' es' ep' t',TU a s.heap h'->(i::ns).Perm ns'->jk h' a led ns' es' ep' t'->Q true {s with heap:=h'}):
  S8 (Ti prog w) A (ZD a (.int i k) (WN i)) Q E s:=by
 obtain ⟨L,T⟩:=S.tab
 have lenL:L.length=ns.length:=by rw [n_ T,<-S4,S.en.length]
 have hes:es.size=ns.length:=by rw [<-S4,S.en.length]
 obtain ⟨n0,b1,b2,b3⟩:=uN T.mo (WN i) (L.map (·.1)) (by rw [SK];exact T.fl)
 (unfold ZD ab3)
 refine TQ (SE (U0 S.at_ rfl (cR T) ?_))
 dsimp only
 have sc:byScan (.int i k) es=true:=byScan_of (prog:=prog) (w:=w) (knd:=aaF prog w) rfl (by unfold scanBound;omega) S.en.elems
 rw [sc]
 simp only [if_true]
 unfold setAddByScan
 refine SE ?_
 (refine SE (Xy ?_))
 refine SE (wpAny_setScan_of (knd:=aaF prog w) (k:=i) (ack _ _ _ _) S.at_ rfl (cR T) S.en.elems ?_)
 cases hr:List.findIdx? (λe=>(aaF prog w).is i e.2) es.toList with
 | some j=>
  dsimp only
  have hin:i∈ns:=US λz=>by
   have:=(S.en.find (prog:=prog) (w:=w) i).mpr z
   rw [hr] at this;cases this
  exact SH (SH (q1 hin))
 | none=>
  dsimp only
  have hm:i∉ns:=(S.en.find i).mp hr
  have rm:=S.rm
  have ln:=JR T (WN i) (.int i k) n0 b2 b3 b1 (by rcases T.mo with h | h | h <;> rw [h] at rm ⊢ <;> omega)
  rw [ln]
  dsimp only
  (refine SE (Wy (a:=()) rfl ?_))
  obtain ⟨L',T',pm⟩:=T.put (WN i) (.int i k) n0 b2 b3 (Ah _ _ _) (by rcases T.mo with h | h | h <;> rw [h] at rm ⊢ <;> omega)
  have fl:(t.put (pos t.mask (WN i) n0)).1.mask=t.mask/\(t.put (pos t.mask (WN i) n0)).1.plain=t.plain/\(t.put (pos t.mask (WN i) n0)).1.led=t.led:=⟨rfl,rfl,rfl⟩
  generalize t.put (pos t.mask (WN i) n0)=tp at T' fl ⊢
  obtain ⟨t',p⟩:=tp
  dsimp only at T' fl ⊢
  obtain ⟨f1,f2,f3⟩:=fl
  obtain ⟨ns',p1,p2⟩:∃ns',(i::ns).Perm ns'/\fD (U1 es p (WN i,.int i k)).toList ns':=by
   refine fD.perm (es:=(WN i,.int i k)::es.toList) ?_ (.cons S.en)
   rw [T'.en,T.en]
   exact (pm.map (·.2)).symm
  have nd':ns'.Nodup:=p1.nodup_iff.mp (U7.mpr ⟨hm,S.nd⟩)
  have lk:ns'.length=ns.length + 1:=by rw [<-p1.length_eq];rfl
  rw [f2,S.pl]
  simp only [if_true]
  (refine SE (Wy (a:=true) rfl ?_))
  simp only [if_true]
  have esz:(U1 es p (WN i,abp i k)).size=ns'.length:=by rw [<-S4,p2.length]
  refine SE (XD S.at_ rfl ?_ (by rw [esz,UB];omega))
  have hg:=Ur (YN (U1 es p (WN i,.int i k)) t') S.at_ rfl
  have hfill:t'.fill=ns'.length:=by
   unfold aay
   rw [T'.dm,<-S4,T'.pl,SK,n_ T',esz]
   rfl
  split
  ·rename_i c
   simp only [XN,Wi] at c
   unfold X4 at c
   rw [hfill,f1,decide_eq_true_eq] at c
   have hW:(Va (XQ ns'.length)=32/\ns'.length=5)\/(Va (XQ ns'.length)=128/\ns'.length=19):=by
    unfold XQ
    rw [if_neg (by omega)]
    rcases T.mo with h | h | h
    ·rw [h] at c rm
     have:ns'.length=5:=by omega
     rw [this]
     exact .inl ⟨A_,rfl⟩
    ·rw [h] at c rm
     have:ns'.length=19:=by omega
     rw [this]
     exact .inr ⟨Ba,rfl⟩
    ·rw [h] at c;omega
   have hmo:mh (Va (XQ ns'.length) - 1):=by rcases hW with ⟨h,_⟩ | ⟨h,_⟩ <;> rw [h];exact .inr (.inl rfl);exact .inr (.inr rfl)
   rw [esz]
   obtain ⟨t2,es2,L2,g1,g2',g3,g4,g5,g6⟩:=FD (t:=t') (es:=U1 es p (WN i,.int i k)) hmo (by rw [esz];rcases hW with ⟨h,h'⟩ | ⟨h,h'⟩ <;> rw [h] <;> omega)
   rw [g1]
   dsimp only
   (refine SE (Wy (a:=()) rfl ?_))
   obtain ⟨ns2,r1,r2⟩:=p2.perm g6.symm
   have es2z:es2.size=ns'.length:=by rw [<-S4,r2.length,r1.length_eq]
   refine SE (XD (s:={s with heap:=s.heap.update a (YN (U1 es p (WN i,.int i k)) t')}) hg rfl ?_ (by rw [es2z,UB];omega))
   have QU:=Ur (YN es2 t2) hg rfl
   refine SH (SH (q2 hm _ ns2 _ _ _ ((Uu _ _ _).trans (Uu _ _ _)) (p1.trans r1) ⟨QU,⟨L2,g5⟩,g4.trans (f2.trans S.pl),g3.trans (f3.trans S.ld),?_,r2,r1.nodup_iff.mp nd'⟩))
   rw [<-r1.length_eq,g2']
   rcases hW with ⟨h,h'⟩ | ⟨h,h'⟩ <;> rw [h,h'] <;> omega
  ·rename_i c
   simp only [XN,Wi] at c
   unfold X4 at c
   rw [hfill,f1,decide_eq_true_eq] at c
   exact SH (SH (q2 hm _ ns' _ _ _ (Uu _ _ _) p1 ⟨hg,⟨L',T'⟩,f2.trans S.pl,f3.trans S.ld,by rw [f1];omega,p2,nd'⟩))
end
theorem jk.keep {h h':Uz}(S:jk h a led ns es ep t) (e:∀o,h.get? a=some o->h'.get? a=some o):jk h' a led ns es ep t:=
 ⟨e _ S.at_,S.tab,S.pl,S.ld,S.rm,S.en,S.nd⟩
section
variable {w:TL}{prog:S_}{R:aa1->SJ->Prop}{A:TR}{I:Tg}{fp wr:List Tg}{G:Array abk->Array abk->Prop}{n:Nat}{P:Nat->SI->Prop}{St:Nat->SJ->Prop}
theorem F2 (W:acS prog w A.in1 I fp wr G n P St) (S:Tg) (hSf:S∉fp) (val:Nat->Int) (hval:∀i v,P i v->∃t,v=.int (val i) t) (hn:n<=76):
  ∀(k i:Nat) (s:SJ) (ns:List Int) (es:Array (Int×SI)) (ep:Nat) (t:UK),n - i=k->i<=n->St i s->jk s.heap S led ns es ep t->(∀d,d∈ns↔d∈(SM i).map val)->
   (∀s' ns' es' ep' t',Moved (S::wr) G s s'->jk s'.heap S led ns' es' ep' t'->(∀d,d∈ns'↔d∈(SM n).map val)->R (.ok (.ret .none)) s')->
   (Vq (Ti prog w) A (.builtin "set.update.loop" ⟨[.ref S,.ref I],[]⟩) R s):=by
 (have Q3:S∉wr:=λh=>hSf (W.sub _ h))
 (have hsub:∀b∈wr,b∈S::wr:=λb hb=>SS _ hb)
 intro k
 induction k with
 | zero=>
  intro i s ns es ep t hk hi hst hS hm hR
  have hin:i=n:=by omega
  subst hin
  refine U8 UT ?_
  rw [Uy TJ _]
  (show S8 _ A.in1 (WJ (.ref I) >>= _) _ _ s)
  refine SE (W.done s _ _ hst λs' Qv=>?_)
  (show S8 _ A.in1 (ret T_) _ _ s')
  exact SH (hR s' ns es ep t (Qv.mono hsub) (hS.keep λo e=>Qv.heap S o Q3 e) hm)
 | succ k ih=>
  intro i s ns es ep t hk hi hst hS hm hR
  have hlt:i < n:=by omega
  have hlen:ns.length<=i:=by
   have:=TH hS.nd (λd hd=>(hm d).mp hd)
   simpa using this
  refine U8 UT ?_
  rw [Uy TJ _]
  (show S8 _ A.in1 (WJ (.ref I) >>= _) _ _ s)
  refine SE (W.item i s _ _ hlt hst λv s' hP QE Qv=>?_)
  obtain ⟨tk,rfl⟩:=hval i v hP
  have hS':=hS.keep (h':=s'.heap) λo e=>Qv.heap S o Q3 e
  have mem':∀(ns':List Int),(∀d,d∈ns'↔d=val i\/d∈ns)->∀d,d∈ns'↔d∈(SM (i + 1)).map val:=λns' h d=>by
   rw [h d,hm d,VG,Th,TF]
   simp only [Td,Yx,S6]
   exact Or.comm
  show S8 _ A.in1 (holding [.int (val i) tk] (setAdd S (.int (val i) tk)) >>= _) _ _ s'
  (refine SE (TQ ?_))
  unfold setAdd
  refine TQ ?_
  (refine SE (Y9 ?_))
  refine add_int (s:={s' with toks:=s'.toks + 1}) hS' (by omega) (λhin=>?_) (λhin h' ns' es' ep' t' Q2 Rx QY=>?_)
  ·refine SH ⟨Wh TJ _,ih (i + 1) _ ns es ep t (by omega) hlt (W.frame _ s' _ _ QE (VD _) λb hb o e=>e) hS' (mem' ns λd=>⟨.inr,λh=>h.elim (λh=>h▸hin) id⟩) λs'' ns'' es'' ep'' t'' hm'' hS'' QG=>?_⟩
   exact hR s'' ns'' es'' ep'' t'' (aab W.gtrans ((Qv.mono hsub).then_heap (VD _) λb o hb e=>e) hm'') hS'' QG
  ·refine SH ⟨Wh TJ _,ih (i + 1) _ ns' es' ep' t' (by omega) hlt (W.frame _ s' _ _ QE (VD _) λb hb o e=>?_) QY (mem' ns' λd=>?_) λs'' ns'' es'' ep'' t'' hm'' hS'' QG=>?_⟩
   ·(rw [Q2.2 b (λh:b=S=>hSf (by rw [<-h];exact hb))];exact e)
   ·rw [<-Rx.mem_iff,S7]
   ·refine hR s'' ns'' es'' ep'' t'' (aab W.gtrans ((Qv.mono hsub).then_heap (VD _) λb o hb e=>?_) hm'') hS'' QG
    (rw [Q2.2 b (λh:b=S=>hb (by rw [h];exact SV))];exact e)
end
theorem Dw {h:Uz}(e:h.get? a=some {cls:=.type "set",dict:=none,data:=.set #[] 0 (.fresh 0 0 led)}):jk h a led [] #[] 0 (.fresh 0 0 led):=
 ⟨e,⟨[],⟨rfl,rfl,rfl,V5,(λ_ h=>nomatch h),.inl rfl,Tp _,(λ_ h=>nomatch h)⟩⟩,rfl,rfl,(show 0 * 5 < 7 * 3 by decide),.nil,VA⟩
section
variable {w:TL}{prog:S_}{A:TR}{s:SJ}{E:SI->SJ->Prop}{l:Tg}{Ss:Array SI}{ds:List Int}
theorem Mt (hz:Ss.size=ds.length) (hi:∀(i:Nat) (v:SI),Ss[i]?=some v->∃t,v=.int (ds.getD i 0) t) (hn:ds.length<=76){St:Nat->SJ->Prop}{h2:Uz}{R:_->SJ->Prop}(W:acS prog w A.in1.in1.in1 I fp [I] (λa b=>b=a) Ss.size (λi v=>Ss[i]?=some v) St) (hSf:s.heap.objs.size∉fp) (st:St 0 {s with heap:=h2})
 (hk:∀b o,(s.heap.push (fS (cO w))).get? b=some o->h2.get? b=some o) (hR:∀s',Moved [s.heap.objs.size,I] (λa b=>b=a) {s with heap:=h2} s'->(∃ks es ep t,jk s'.heap s.heap.objs.size (cO w) ks es ep t/\∀d,d∈ks↔d∈ds)->R (.ok (.ret .none)) s'):Vq (Ti prog w) A.in1.in1 (.builtin "set.update.loop" ⟨[.ref s.heap.objs.size,.ref I],[]⟩) R {s with heap:=h2}:=by
 have all:(SM Ss.size).map (λi=>ds.getD i 0)=ds:=by
  refine Vt (by simp [hz]) λi a b=>?_
  simp [b]
 exact F2 (A:=A.in1.in1) (led:=cO w) W s.heap.objs.size hSf (λi=>ds.getD i 0) hi (by omega) Ss.size 0 _ [] #[] 0 (.fresh 0 0 (cO w)) (by omega) (Tp _) st (Dw (hk _ _ (SY _ rfl))) (λd=>by simp) λs' ks es ep t hm hS' hmem=>hR s' hm ⟨ks,es,ep,t,hS',by rw [all] at hmem;exact hmem⟩
abbrev PY (Q:SI->SJ->Prop) (w:TL) (s:SJ) (ds:List Int):Prop:=∀(h':Uz) (tk:Nat) ks es ep t,jk h' s.heap.objs.size (cO w) ks es ep t->(∀d,d∈ks↔d∈ds)->(∀b o,b < s.heap.objs.size->s.heap.get? b=some o->h'.get? b=some o)->Q (.ref s.heap.objs.size) {s with heap:=h',toks:=tk}
theorem yq {Q:SI->SJ->Prop}(hh:A.handled=none) (hl:s.heap.IsTuple l Ss) (hz:Ss.size=ds.length) (hi:∀(i:Nat) (v:SI),Ss[i]?=some v->∃t,v=.int (ds.getD i 0) t) (hn:ds.length<=76) (h:PY Q w s ds):(S8 (Ti prog w) A (call (.type "set") [.ref l]) Q E s):=by
 obtain ⟨ol,Qy,hcl,_⟩:=id hl
 exact ud (λh'=>∃ks es ep t,jk h' s.heap.objs.size (cO w) ks es ep t/\∀d,d∈ks↔d∈ds) Qy hcl x_ x6 (by decide) (zU hh hl) (λW a _ c d e=>Mt hz hi hn W a c d e) λh' tk ⟨ks,es,ep,t,a,b⟩=>h h' tk ks es ep t a b
end
end DL
namespace DL
open PySem PySem.Spec PyProof.Rows L2 ST DX
open PySem.W (KasT kas_sort kas_ask)
theorem jk.wk (S:jk h a led ns es ep t):jJ h a led es ep t:=⟨S.at_,S.tab,S.pl,S.ld⟩
noncomputable def B9:D->Int
 | .int i=>i
 | _=>0
theorem NL {ds:List D}(h:ds.all isInt=true):ds=(ds.map B9).map .int:=by
 induction ds with
 | nil=>rfl
 | cons d r ih=>
  rw [VP,SN] at h
  cases d with
  | int i=>rw [Td,Td,<-ih h.2];rfl
  | _=>cases h.1
abbrev pA (X:Cx) (a:Tg) (ms:List Int):HO:=.ext λh=>∃ns es ep t,jk h a (cO X.w) ns es ep t/\∀d,d∈ns↔d∈ms
theorem int_at {K:SG}{J:Hp}{ms:List Int}{vs:List V}{us:List SI}(rs:aH K J (ms.map .int) vs) (rv:Vals vs us):∀(i:Nat) (v:SI),us.toArray[i]?=some v->∃t,v=.int (ms.getD i 0) t:=λi v q=>by
 have l1:vs.length=us.length:=rv.length
 have l2:(ms.map D.int).length=vs.length:=rs.length
 have hi:i < us.length:=by
  have:=(Us.mp q).1
  simpa using this
 have e:us.getD i T_=v:=by
  simp at q
  simp [WX,q]
 have r1:=iQ rs (i:=i) (by omega)
 have r2:=iT rv (i:=i) (by omega)
 rw [e] at r2
 have lm:i < ms.length:=by rw [SK] at l2;omega
 have e2:dc (ms.map D.int) i=.int (ms.getD i 0):=by
  unfold dc
  simp [WX,lm]
 rw [e2] at r1
 generalize vs.getD i V.non=vv at r1 r2
 cases r1
 exact r2
section
variable {X:Cx}
theorem Eb (hc:X.calm=true):bP X (.type "set") (λxs H Q=>∃p vs ms J0,xs=[.ref p]/\cL X.K H p vs/\aH X.K J0 (ms.map .int) vs/\ms.length < 64/\∀l,H l=none->Q (.ref l) (upd H l (pA X l ms))):=by
 intro Sq s σ H xs us Q I r h
 obtain ⟨p,vs,ms,J0,rfl,hq,rs,l64,q⟩:=h
 obtain ⟨u,rfl,rx⟩:=vals1 r
 cases rx
 have hh:X.A.handled=none:=I.ok.hd hc
 have fr:H s.heap.objs.size=none:=I.hok.fresh (SW _)
 obtain ⟨Su,r',pt,hz⟩:=I.tuple hq
 have lm:(ms.map D.int).length=vs.length:=rs.length
 rw [SK] at lm
 refine yq hh pt (by simp [<-r'.length,lm]) (int_at rs r') (by omega) λh' tk ks es ep t S hm kp=>?_
 exact ⟨.ref s.heap.objs.size,_,I.laid (t':=tk) (λb o e=>kp b o (S9 e) e) (SW _) (show cG X.prog X.w _ _ _ (pA X s.heap.objs.size ms) from ⟨⟨ks,es,ep,t,S,hm⟩,⟨_,S.at_⟩,λh1 h2 ⟨ks,es,ep,t,S,hm⟩ e=>⟨ks,es,ep,t,S.keep e,hm⟩⟩),rfl,q _ fr⟩
theorem fD.reps {es:List (Int×SI)}{ns:List Int}(h:fD es ns):∃vs,(∀(K:SG) (J:Hp),aH K J (ns.map .int) vs)/\Vals vs (es.map (·.2))/\W3 (es.map (·.2)) ns:=by
 induction h with
 | nil=>exact ⟨[],λK J=>.nil,.nil,.nil⟩
 | @cons i k es ns _ ih=>
  obtain ⟨vs,h1,h2,h3⟩:=ih
  exact ⟨.int i::vs,λK J=>.cons (.int _) (h1 K J),.cons ⟨k,rfl⟩ h2,.cons i k h3⟩
theorem AU (hc:X.calm=true):bP X (.builtin "sorted") (λxs H Q=>∃p ms,xs=[.ref p]/\H p=some (pA X p ms)/\ms.length < 64/\∀l vs',H l=none->(∀J0,aH X.K J0 (dD (ms.map .int)) vs')->Q (.ref l) (upd H l (.lst vs'))):=by
 intro Sq s σ H xs us Q I r h
 obtain ⟨p,ms,rfl,hp,l64,q⟩:=h
 obtain ⟨u,rfl,rx⟩:=vals1 r
 cases rx
 have hh:X.A.handled=none:=I.ok.hd hc
 obtain ⟨⟨ns,es,ep,t,S,hm⟩,_⟩:=(show cG X.prog X.w H s.heap p (pA X p ms) from I.hok p _ hp)
 obtain ⟨ns',pm,en'⟩:=S.en.perm (nj X.w p ep es).symm
 have nd':ns'.Nodup:=pm.nodup_iff.mp S.nd
 have hm':∀d,d∈ns'↔d∈ms:=λd=>by rw [<-pm.mem_iff,hm d]
 obtain ⟨vs,rs,rv,hI⟩:=en'.reps
 have hv:jE X.w p ep es=(fY X.w p ep es).toList.map (·.2):=rfl
 rw [<-hv] at rv hI
 generalize hits:jE X.w p ep es=Su at rv hI
 have l1:vs.length=Su.length:=rv.length
 have l2:(ns'.map D.int).length=vs.length:=(rs X.K H).length
 have len:ns'.length<=ms.length:=TH nd' λd hd=>(hm' d).mp hd
 have les:es.size=ns'.length:=by rw [<-S4,S.en.length,pm.length_eq]
 have ndD:(ns'.map D.int).Nodup:=TX.mpr (YR (λh e=>h (by cases e;rfl)) nd')
 have RJ:∀d,d∈ns'.map D.int↔d∈ms.map D.int:=λd=>by simp only [S3,hm']
 have allI:∀d∈ms.map D.int,ki .i d:=λd hd=>by obtain ⟨i,_,rfl⟩:=S3.mp hd;exact ⟨i,rfl⟩
 have out:=Ax (iu .i) allI ndD RJ
 have lm:(ns'.map D.int).length=ns'.length:=SK _
 generalize hk:ns'.map D.int=ks' at *
 have ai:ks'.all isInt=true:=Tu.mpr λd hd=>by
  obtain ⟨i,e⟩:=allI d ((RJ d).mp hd)
  rw [e];rfl
 exact mY I (λE C h=>sG hh S.wk (by omega) λh1 tk k1 le=>hits▸h h1 tk k1 (XS le)) rv l2 (by omega) (DT (rs X.K H) rv ai) λl vs' hl rr=>q l vs' hl λJ0=>out▸rr _ (rs _ J0)
end
end DL
namespace DL
open PySem PySem.Spec PyProof.Rows L2 ST DX
theorem D6:Ue "set"=some (.type "set"):=by decide +kernel
section
variable {X:Cx}{c:C}{e:TV}{pos pos2:Pos}
noncomputable def qv:List R->M R
 | [.d (.tup ys)]=>if j_ ys=true then .ok (.l .fresh (dD ys)) else if vc ys=true then .ok (.l .fresh (dD ys)) else .bad
 | _=>.bad
noncomputable def Ni (X:Cx):List V->Hp->VK->Prop:=λxs H Q=>∃p vs ms J0,xs=[.ref p]/\cL X.K H p vs/\aH X.K J0 (ms.map .int) vs/\ms.length < 64/\∀l,H l=none->Q (.ref l) (upd H l (pA X l ms))
noncomputable def Nj (X:Cx):List V->Hp->VK->Prop:=λxs H Q=>∃p vs ds J0,xs=[.ref p]/\cL X.K H p vs/\aU J0 H/\aH X.K J0 ds vs/\j_ ds=true/\∀l,H l=none->Q (.ref l) (upd H l (iL X J0 l ds))
noncomputable def Hx (X:Cx):List V->Hp->VK->Prop:=λxs H Q=>∃p ms,xs=[.ref p]/\H p=some (pA X p ms)/\ms.length < 64/\∀l vs',H l=none->(∀J0,aH X.K J0 (dD (ms.map .int)) vs')->Q (.ref l) (upd H l (.lst vs'))
noncomputable def Hy (X:Cx):List V->Hp->VK->Prop:=λxs H Q=>∃p ds J0,xs=[.ref p]/\H p=some (iL X J0 p ds)/\aU J0 H/\j_ ds=true/\∀l vs',H l=none->aH X.K J0 (dD ds) vs'->Q (.ref l) (upd H l (.lst vs'))
theorem Fw {gs:G (List R)}(hu:X.A.units + 64 < UL) (ha:jj X c [e] gs) (hm:X.mg "sorted"=none) (hm2:X.mg "set"=none) (hK:X.K=c.K:=by rfl) (hc:X.calm=true:=by rfl) (hg:Gl X "sorted":=by rfl) (QU:Gl X "set":=by rfl)
 (he:SX [.Call (.Name "set" p2) [e] [] pos2] X.env=(false,eval (.Call (.Name "set" p2) [e] [] pos2) X.env)::SX [] X.env:=by rfl) (hpl:(Vb pos (SX [] X.env)).any (·.1)=false:=by rfl)
 (QT:SX [e] X.env=(false,eval e X.env)::SX [] X.env:=by rfl) (QX:(Vb pos2 (SX [] X.env)).any (·.1)=false:=by rfl):
  QD X c (.Call (.Name "sorted" p) [.Call (.Name "set" p2) [e] [] pos2] [] pos) (gN qv gs):=by
 have ha:=ha.h
 refine ⟨?_⟩
 have h1:=kc (p:=p2) (pos:=pos2) (bP.or (show bP X (.type "set") (Nj X) from xg hu hc) (show bP X (.type "set") (Ni X) from Eb hc)) QU hm2 D6 ha (by decide) (by decide) QT QX
 have h2:=o6 (p:=p) (pos:=pos) (bP.or (show bP X (.builtin "sorted") (Hy X) from uD hu hc) (show bP X (.builtin "sorted") (Hx X) from AU hc)) hg hm jo (eY h1 gX he) (by decide) (by decide) he hpl
 refine Di (ta:=AA) (f:=qv) (r:=λvs H1 Q=>(Nj X vs H1 λv H2=>Hy X [v] H2 Q\/Hx X [v] H2 Q)\/(Ni X vs H1 λv H2=>Hy X [v] H2 Q\/Hx X [v] H2 Q)) h2 rfl ?_
 intro He J H xs vs Q hp rs w
 unfold qv at w
 split at w
 ·rename_i ys
  obtain ⟨v,rfl,r⟩:=rs.one
  cases r with
  | tup h hs=>
   have hT:∀{p:Tg}{us:List V},cL c.K J p us->cL X.K H p us:=λh=>by rw [hK];exact eO hp.sub h
   have fin:∀(o:Tg->HO) (w:∀w J' H',Ext J H J' H'->RR c H J' H' (.l .fresh (dD ys)) w->Q w H') (l l2:Tg) (vs':List V),H l=none->upd H l (o l) l2=none->aH X.K J (dD ys) vs'->Q (.ref l2) (upd (upd H l (o l)) l2 (.lst vs')):=λo w l l2 vs' hl h2 rr=>by
    rw [hK] at rr
    have e1:=Ext.new hp.sub hl (o l)
    have e2:=Ext.new e1.sub h2 (.lst vs')
    exact w _ _ _ (e1.trans e2) (RR.from e1.h (g_ (hp.ext e1) h2 rr))
   split at w
   ·rename_i ok
    exact .inl ⟨_,_,ys,J,rfl,hT h,hp.sub,by rw [hK];exact hs,ok,λl hl=>.inl ⟨l,ys,J,rfl,bR,(Ext.new hp.sub hl _).sub,ok,λl2 vs' h2 rr=>fin (λl=>iL X J l ys) w l l2 vs' hl h2 rr⟩⟩
   ·split at w
    ·rename_i ok
     unfold vc at ok
     rw [SN] at ok
     have o1:=of_decide_eq_true ok.1
     have ey:=NL ok.2
     refine .inr ⟨_,_,ys.map B9,J,rfl,hT h,by rw [hK,<-ey];exact hs,by rw [SK];exact o1,λl hl=>.inr ⟨l,ys.map B9,rfl,bR,by rw [SK];exact o1,λl2 vs' h2 rr=>?_⟩⟩
     rw [<-ey] at rr
     exact fin (λl=>pA X l (ys.map B9)) w l l2 vs' hl h2 (rr _)
    ·exact w.elim
 ·exact w.elim
end
end DL
namespace DL
open PySem PySem.Spec PyProof.Rows L2 DX
end DL
namespace K55
open PySem DL
def su:List Str:=["told","least","most"]
noncomputable def sO:G O:=(bK (ju (gg (br (gN (aS 1 K01.p5) (ao (af 0) aD)))) (ju (br (g2 (qq λi j=>.bl (decide (i < j))) (af 0) (af 1))) (br (g2 (qq λi j=>.bl (decide (j < i))) (af 0) (af 2))))) yD cS)
def dh (as:List S):M R:=fin (sO (aY su as))
end K55
namespace K55
open PySem DL K01 WP K51 K52
theorem uK (a b:Nat):bg (dN a) (dN b)=(a == b):=by
 show ((a:Int) == (b:Int))=_
 by_cases h:a=b
 ·subst h;simp
 ·rw [beq_eq_false_iff_ne.mpr h,beq_eq_false_iff_ne.mpr (by omega)]
structure DM (n:Nat) (w:Wd):Prop where
 mp:∀r∈w.ms,r.2.length<=n/\∀p∈r.2,p < w.m
 ap:∀r∈w.ar,r.2.length<=n/\∀p∈r.2,p.1 < w.m/\p.2 < w.m
def em (m:Nat) (x:Nat×Nat):Nat:=if x.1=0 then x.2 else x.2 + m
theorem inN (l:Nat) (xs:List Nat):inD (dN l) (xs.map dN)=decide (l∈xs):=by
 unfold inD
 rw [aba,Uq,VJ,decide_eq_true_eq]
 constructor
 ·rintro ⟨x,hx,e⟩
  have e:bg (dN x) (dN l)=true:=e
  rw [uK] at e
  rw [<-eq_of_beq e];exact hx
 ·intro h
  exact ⟨l,h,by show bg (dN l) (dN l)=true;rw [uK];simp⟩
theorem Bt (a b:Nat×Nat):bg (dP a) (dP b)=decide (a=b):=by
 have:bg (dP a) (dP b)=(bg (dN a.1) (dN b.1) && (bg (dN a.2) (dN b.2) && true)):=by
  show bg (.tup [dN a.1,dN a.2]) (.tup [dN b.1,dN b.2])=_
  rw [jN,ie,ie,cD]
 rw [this,uK,uK,Uq]
 obtain ⟨a1,a2⟩:=a
 obtain ⟨b1,b2⟩:=b
 simp
theorem LY (l:Nat×Nat) (xs:List (Nat×Nat)):inD (dP l) (xs.map dP)=decide (l∈xs):=by
 unfold inD
 rw [aba,Uq,VJ,decide_eq_true_eq]
 constructor
 ·rintro ⟨x,hx,e⟩
  have e:bg (dP x) (dP l)=true:=e
  rw [Bt,decide_eq_true_eq] at e
  rw [<-e];exact hx
 ·intro h
  exact ⟨l,h,by show bg (dP l) (dP l)=true;rw [Bt];simp⟩
theorem GG {env:Ev}{Q:O->Prop}{g:G R}{i j k:Nat}{xs zs:List D}(h1:env[i]?=some (some (.own zs))) (h2:env[j]?=some (some (.own xs))) (hij:i≠j) (h:g env=.ok (.d (.int k))) (hk:k < xs.length) (lz:zs.length < 1000) (lx:xs.length<=1000)
  (c:Q (.nx ((env.set j (some (.own (xs.eraseIdx k)))).set i (some (.own (zs++[xs[k]])))))):Wp (nI i j g env) Q:=by
 refine ⟨_,?_,c⟩
 unfold nI
 rw [h1,h2]
 show (if i=j then M.bad else (g env >>= _))=_
 rw [if_neg hij,h,aO]
 show (if 0<=(k:Int)/\(k:Int).toNat < xs.length/\zs.length < sizeLine/\xs.length<=sizeLine then _ else _)=_
 rw [if_pos ⟨by omega,by simpa using hk,To lz (fK (SW _)),fK lx⟩]
 rw [UJ,S5 hk]
noncomputable def AE:D->Nat
 | .int i=>i.toNat
 | _=>0
noncomputable def AF:D->Nat×Nat
 | .tup [x,y]=>(AE x,AE y)
 | _=>(0,0)
theorem OL (n:Nat):AE (dN n)=n:=rfl
theorem vG (n:Nat×Nat):AF (dP n)=n:=rfl
theorem back {α:Type}(h:α->D) (u:D->α) (hu:∀x,u (h x)=x){l:List D}(hl:∀d∈l,∃x,d=h x):(l.map u).map h=l:=by
 rw [T9]
 refine (UY (g:=id) λd hd=>?_).trans (List.map_id _)
 obtain ⟨x,rfl⟩:=hl d hd
 show h (u (h x))=h x
 rw [hu]
theorem xW {α:Type}(h:α->D) (u:D->α) (hu:∀x,u (h x)=x) (xs:List α):((bN (xs.map h)).map u).map h=bN (xs.map h):=back h u hu λd hd=>by
 obtain ⟨x,_,rfl⟩:=S3.mp (FN hd)
 exact ⟨x,rfl⟩
def pF:Fm:=.tc .i (.tc .i .tn)
theorem zR (p:Nat×Nat):ki pF (dP p):=⟨_,rfl,_,_,rfl,⟨_,rfl⟩,_,rfl,_,_,rfl,⟨_,rfl⟩,[],rfl,rfl⟩
theorem N_ (xs:List Nat) (hl:xs.length < 64):vc (xs.map dN)=true:=by
 unfold vc
 rw [SK,decide_eq_true hl,Wi,Tu]
 intro d hd
 obtain ⟨x,_,rfl⟩:=S3.mp hd
 rfl
theorem LW (xs:List (Nat×Nat)):∀d∈xs.map dP,gV d=some .i:=λd hd=>by
 obtain ⟨x,_,rfl⟩:=S3.mp hd
 rfl
theorem Oa (xs:List (Nat×Nat)) (hl:xs.length < 64):xC (xs.map dP)=true:=by
 have RX:=zH xs
 have hc:zD (xs.map dP)=true:=by
  unfold zD
  rw [Tu]
  intro x hx
  rw [Tu]
  intro y hy
  obtain ⟨a,_,rfl⟩:=S3.mp hx
  obtain ⟨b,_,rfl⟩:=S3.mp hy
  exact (iu pF).lt _ _ (zR a) (zR b)
 unfold xC
 rw [hc,decide_eq_true RX,SK,decide_eq_true hl]
 cases xs with
 | nil=>rfl
 | cons x xs=>
  have hh:G0 ((x::xs).map dP)=true:=by
   show gO .i ((x::xs).map dP)=true
   exact oq (LW (x::xs))
  rw [hh]
  simp
theorem Np (xs:List Nat) (hl:xs.length < 64):jX [.l .fresh (xs.map dN)]=.ok (.l .fresh (bN (xs.map dN))):=by
 show (if xC (xs.map dN)=true then M.ok (R.l .fresh (bN (xs.map dN))) else if vc (xs.map dN)=true then M.ok (R.l .fresh (bN (xs.map dN))) else .bad)=_
 rw [if_pos (N_ xs hl)]
 split <;> rfl
theorem Pq (xs:List (Nat×Nat)) (hl:xs.length < 64):jX [.l .fresh (xs.map dP)]=.ok (.l .fresh (bN (xs.map dP))):=by
 show (if xC (xs.map dP)=true then M.ok (R.l .fresh (bN (xs.map dP))) else if vc (xs.map dP)=true then M.ok (R.l .fresh (bN (xs.map dP))) else .bad)=_
 rw [if_pos (Oa xs hl)]
theorem Pe {ps:List Nat}(hp:p < ps.length):aX (.d (.tup (ps.map dN))) (.d (dN p))=.ok (.d (dN (ps.getD p 0))):=by
 have h1:(ps.map dN)[p]?=some (dN (ps.getD p 0)):=by rw [Tq,S5 hp];simp [WX,hp]
 exact nG h1
noncomputable def iB (w:Wd) (ps:List Nat):Wd:=⟨w.m,w.ms.map λr=>(r.1,(bN ((r.2.map λp=>ps.getD p 0).map dN)).map AE),w.ar.map λr=>(r.1,(bN ((r.2.map λp=>(ps.getD p.1 0,ps.getD p.2 0)).map dP)).map AF)⟩
theorem IG (xs:List (Nat×Nat)) (hl:xs.length < 64):j_ (xs.map dP)=true:=by
 have h1:areKeys (xs.map dP)=true:=by
  induction xs with
  | nil=>rfl
  | cons x xs ih=>
   rw [Td]
   show (isKey (dP x) && areKeys (xs.map dP))=true
   rw [ih (by simp at hl;omega)]
   rfl
 have h2:deps (xs.map dP)<=8:=fQ λd hd=>by
  obtain ⟨x,_,rfl⟩:=S3.mp hd
  exact (by decide:(1:Nat)<=8)
 have h3:IF (xs.map dP)=true:=by
  cases xs with
  | nil=>rfl
  | cons x xs=>
   show (gO .i ((x::xs).map dP) && ((x::xs).map dP).all (rJ pF))=true
   rw [oq (LW (x::xs)),Wi,Tu]
   intro d hd
   obtain ⟨y,_,rfl⟩:=S3.mp hd
   rfl
 unfold j_
 rw [h1,h3,decide_eq_true h2,SK,decide_eq_true hl]
 rfl
theorem Pu (xs:List (Nat×Nat)) (hl:xs.length < 64):qv [.d (.tup (xs.map dP))]=.ok (.l .fresh (dD (xs.map dP))):=by
 show (if j_ (xs.map dP)=true then M.ok (R.l .fresh (dD (xs.map dP))) else _)=_
 rw [if_pos (IG xs hl)]
theorem FO {P:D->Prop}(p:f9 P){ds:List D}(h:∀x∈ds,P x):(dD ds).length<=ds.length/\∀d∈dD ds,d∈ds:=by
 obtain ⟨h1,h2⟩:=yx p ds h
 refine ⟨?_,λd hd=>((ue p h).2 d).mp hd⟩
 show (bN (dd ds)).length<=_
 rw [FL]
 exact TH h1 λd hd=>(h2 d).mp hd
theorem LI (xs:List D) (k:Nat) (hk:k<=xs.length):cutD xs none (some (k:Int))=xs.take k:=by
 unfold cutD
 rw [HT.HG,HT.KR,Nat.min_eq_left hk]
 simp
theorem Mz {i:Int}(h:0<=i):∃k:Nat,i=k:=⟨i.toNat,by omega⟩
end K55
namespace DL
open PySem PySem.Spec PyProof.Rows L2 DX
noncomputable def bY (gt:GT) (gts:G Bool) (act:Ev->M (List D×Ev)):List D->Ev->M (List D×Ev)
 | [],env=>.ok ([],env)
 | d::ds,env=>gt d env >>= λe=>gts e >>= λk=>if k=true then act e >>= λr=>bY gt gts act ds r.2 >>= λz=>.ok (r.1++z.1,z.2) else bY gt gts act ds e
def y9 (env:Ev) (σ:L2.St) (p:Tg):Prop:=∀(j:Nat) (xs:Mn),env[j]?=some (some (mS xs))->σ[j]?≠some (some (.ref p))
structure yM (Acc:Hp->Hp->List D->Prop):Prop where
 ext:∀{J H J' H':Hp}{ys:List D},Acc J H ys->Ext J H J' H'->Acc J' H' ys
noncomputable def vN (X:Cx) (c:C) (p:Tg) (Acc:Hp->Hp->List D->Prop) (J2 H2:Hp) (N:Nat) (m:Sem Unit) (act:Ev->M (List D×Ev)):Prop:=
 ∀(Sq:List (Tg×Obj)) (s:SJ) (σ:L2.St) (H J:Hp) (env:Ev) (ys:List D) (Qf:List D×Ev->Prop),Inv X Sq σ H s->Ext J2 H2 J H->SR c J H σ env->y9 env σ p->Acc J H ys->ys.length + N<=sizeLine->cI (act env) Qf c.T->
  S8 (Ti X.prog X.w) X.A m (λ_ s'=>∃σ' H' J' r,Inv X Sq σ' H' s'/\Ext J2 H2 J' H'/\aU J J'/\SR c J' H' σ' r.2/\y9 r.2 σ' p/\Acc J' H' (ys++r.1)/\r.1.length<=N/\Qf r) (λ_ _=>False) s
abbrev FW (ifs:List TV) (env:Env):Sem Bool:=forIn ifs true λc r=>if r=true then do let ok <-ZY c env (eval c env);pure (VE ok) else pure (VE r)
abbrev m9 (Sv Sw:TV) (ifs:List TV) (it:SI) (env:Env) (act:Sem Unit) (again':Sem Fin):Sem Fin:=do
 Wb Sw.pos
 match <-WJ it with
 | none=>pure (.done .next)
 | some v=>
  VC Sv it v
  assign Sv env v
  let mut ok:=true
  for c in ifs do
   if ok then ok <-ZY c env (eval c env)
  if ok then
   act
  again'
noncomputable def um (prog:S_) (w:TL) (A:TR) (e:TV) (depth:Nat) (it acc:SI) (env:Env) (Sv:TV) (ifs:List TV) (m:Sem Unit):Prop:=
 ∀(R:aa1->SJ->Prop) (I:Nat->SJ->Prop),(∀n s,I n s->S8 (Ti prog w) A (WJ it) (λr s₁=>match r with
   | none=>R (.ok .next) s₁
   | some v=>S8 (Ti prog w) A (VC Sv it v) (λ_ s₁=>S8 (Ti prog w) A (assign Sv env v) (λ_ s₂=>
     S8 (Ti prog w) A (FW ifs env) (λok s₃=>if ok=true then S8 (Ti prog w) A m (λ_ s₅=>∃m,m < n/\I m s₅) (λ_ _=>False) s₃ else ∃m,m < n/\I m s₃) (λ_ _=>False) s₂) (λ_ _=>False) s₁) (λ_ _=>False) s₁) (λ_ _=>False) s)->
  ∀(n:Nat) (s:SJ),I n s->Vq (Ti prog w) A (.compLoop e depth it acc env) R s
section
variable {prog:S_}{w:TL}{A:TR}{Sv Sw:TV}{ifs:List TV}{So:VN}{pos:Pos}{it acc:SI}{env:Env}{depth:Nat}{gens:List aaz}{act:Sem Unit}
theorem AD {R:aa1->SJ->Prop}{I:Nat->SJ->Prop}{E:SI->SJ->Prop}{code:Code}{n:Nat}{s:SJ}{Q:Fin->SJ->Prop}
  (RP:∀s,R (.ok .next) s->Q (.done .next) s) (RD:∀s,(∃m,m < n/\I m s)->S8 (Ti prog w) A (again code) Q E s)
  (t:S8 (Ti prog w) A (WJ it) (λr s₁=>match r with
   | none=>R (.ok .next) s₁
   | some v=>S8 (Ti prog w) A (VC Sv it v) (λ_ s₁=>S8 (Ti prog w) A (assign Sv env v) (λ_ s₂=>
     S8 (Ti prog w) A (FW ifs env) (λok s₃=>if ok=true then S8 (Ti prog w) A act (λ_ s₅=>∃m,m < n/\I m s₅) (λ_ _=>False) s₃ else ∃m,m < n/\I m s₃) (λ_ _=>False) s₂) (λ_ _=>False) s₁) (λ_ _=>False) s₁) (λ_ _=>False) s):
  S8 (Ti prog w) A (m9 Sv Sw ifs it env act (again code)) Q E s:=by
 refine SE (U6 (SE (Uc t (λr s₁ h₁=>?_) λ_ _ f=>f.elim)))
 cases r with
 | none=>exact SH (RP _ h₁)
 | some v=>
  refine SE (Uc h₁ (λ_ s₁' h₁'=>?_) λ_ _ f=>f.elim)
  refine SE (Uc h₁' (λ_ s₂ h₂=>SE (Uc h₂ (λok s₃ h₃=>?_) λ_ _ f=>f.elim)) λ_ _ f=>f.elim)
  cases ok with
  | false=>exact RD _ h₃
  | true=>exact SE (Uc h₃ (λ_ s₅ h₅=>RD _ h₅) λ_ _ f=>f.elim)
theorem CY {elt:TV}(ht:XR (.ListComp elt gens So pos) depth it acc env=m9 Sv Sw ifs it env act (again (.compLoop (.ListComp elt gens So pos) depth it acc env))):um prog w A (.ListComp elt gens So pos) depth it acc env Sv ifs act:=by
 intro R I turn n s h
 refine codeAny_loop rfl I (λn s hI=>?_) n h
 show S8 _ A ((XR (.ListComp elt gens So pos) depth it acc env).onRaise (λx=>do abJ x env;abK x)) _ _ s
 refine wpAny_noted ?_
 rw [ht]
 exact AD (λ_ h=>h) (λ_ h=>SH ⟨rfl,h⟩) (turn n s hI)
theorem CW {kx vx:TV}(ht:XR (.DictComp kx vx gens So pos) depth it acc env=m9 Sv Sw ifs it env act (again (.compLoop (.DictComp kx vx gens So pos) depth it acc env))):um prog w A (.DictComp kx vx gens So pos) depth it acc env Sv ifs act:=by
 intro R I turn n s h
 refine codeAny_loop rfl I (λn s hI=>?_) n h
 show S8 _ A ((XR (.DictComp kx vx gens So pos) depth it acc env).onRaise (λx=>do abJ x env;abK x)) _ _ s
 refine wpAny_noted ?_
 rw [ht]
 exact AD (λ_ h=>h) (λ_ h=>SH ⟨rfl,h⟩) (turn n s hI)
end
section
variable {X:Cx}{c:C}{p:Tg}{Acc:Hp->Hp->List D->Prop}{J2 H2:Hp}{N:Nat}{m:Sem Unit}{act:Ev->M (List D×Ev)}{Sv:TV}{ifs:List TV}{gt:GT}{gts:G Bool}{e:TV}{depth:Nat}{acc:SI}{it:Tg}{fp:List Tg}{tn:Nat->Uz->Prop}{It:It}{ds:List D}{J1:Hp}
theorem Ac (aR:yM Acc) (hc:X.calm=true) (hx:∀v s,X.xe v s->False) (LP:um X.prog X.w X.A e depth (.ref it) acc X.env Sv ifs m) (hT:ji X c Sv gt) (hIf:gJ X c ifs gts) (hA:vN X c p Acc J2 H2 N m act) (T:Turn X.prog X.w X.K Sv It fp it tn)
 (U:Hp->Hp->Prop) (wk:Walk c It ds J1 U){s:SJ}{H J:Hp}{ys:List D}{Qf:List D×Ev->Prop}(hU:∀J' H',Ext J2 H2 J' H'->aU J J'->U J' H') (I:Inv X Sq σ H s) (st:tn 0 s.heap) (fr:∀b∈fp,jI X Sq H b) (e2:Ext J2 H2 J H) (sr:SR c J H σ env) (no:y9 env σ p) (ac:Acc J H ys)
 (hl:ys.length + ds.length * N<=sizeLine) (w:cI (bY gt gts act ds env) Qf c.T):
  Vq (Ti X.prog X.w) X.A (.compLoop e depth (.ref it) acc X.env) (λr s'=>r=.ok .next/\∃σ' H' J' r',Inv X Sq σ' H' s'/\Ext J2 H2 J' H'/\aU J J'/\SR c J' H' σ' r'.2/\y9 r'.2 σ' p/\Acc J' H' (ys++r'.1)/\r'.1.length<=ds.length * N/\Qf r') s:=by
 refine LP _ (λn s'=>∃(i:Nat) (σ':L2.St) (H' J':Hp) (env':Ev) (zs:List D),n=ds.length - i/\i<=ds.length/\Inv X Sq σ' H' s'/\tn i s'.heap/\(∀b∈fp,H' b=none)/\Ext J2 H2 J' H'/\aU J J'/\SR c J' H' σ' env'/\y9 env' σ' p/\Acc J' H' (ys++zs)/\zs.length<=i * N/\
  cI (bY gt gts act (ds.drop i) env') (λr=>Qf (zs++r.1,r.2)) c.T) ?_ ds.length s ⟨0,σ,H,J,env,[],rfl,Tp _,I,st,λb hb=>(fr b hb).1,e2,aU.refl J,sr,no,by rw [V3];exact ac,by simp,by rw [abX];exact w⟩
 rintro n s' ⟨i,σ',H',J',env',zs,rfl,hi,I',st',fr',e',sj,sr',no',ac',hz,w'⟩
 have stat:∀{H':Hp},(∀b∈fp,H' b=none)->∀b∈fp,jI X Sq H' b:=λhn b hb=>⟨hn b hb,(fr b hb).2⟩
 obtain ⟨wk1,wk2⟩:=wk i J' H' sr'.hp (hU J' H' e' sj)
 by_cases hlt:i < ds.length
 ·obtain ⟨g1,y1⟩:=wk2 ds[i] (by simp [hlt])
  rw [WT hlt] at w'
  refine Uc (T.item X rfl rfl rfl hc i Sq s' σ' H' (λ_ _=>False) I' (stat fr') st' g1) (λr s4 ⟨u,hr,h4⟩=>?_) λ_ _ f=>f.elim
  subst hr
  refine Uc h4 (λ_ s5 ⟨x,H5,I5,r5,y5,st5,fr5⟩=>?_) λ_ _ f=>f.elim
  obtain ⟨J5,e5,rx⟩:=y1 x H5 y5
  have I5':=I5.pinned (stat fr5) (T.obj _ _ st5)
  have again:∀{σ7:L2.St}{H7:Hp}{s7:SJ},Inv X (Sq++qM fp s5.heap) σ7 H7 s7->Inv X Sq σ7 H7 s7/\tn (i + 1) s7.heap/\(∀b∈fp,H7 b=none):=fun {σ7 H7 s7} I7=>by
   refine ⟨I7.unpinned,T.keep _ _ _ st5 λb hb o e=>(I7.pin (b,o) (T8 _ (T8 _ (kP hb e)))).1,λb hb=>?_⟩
   obtain ⟨o,e,d⟩:=T.obj _ _ st5 b hb
   exact (I7.pin (b,o) (T8 _ (T8 _ (kP hb e)))).2.1
  refine Uc (hT _ s5 σ' H5 x u (λσ6 H6=>∃e6,H6=H5/\SR c J5 H5 σ6 e6/\KO env' σ' e6 σ6/\cI (gts e6 >>= λk=>if k=true then act e6 >>= λr=>bY gt gts act (ds.drop (i + 1)) r.2 >>= λz=>.ok (r.1++z.1,z.2) else bY gt gts act (ds.drop (i + 1)) e6)
   (λr=>Qf (zs++r.1,r.2)) c.T) I5' r5 ⟨J5,env',ds[i],sr'.ext e5,rx,aF (aL w') λe6 w6 σ6 sr6 ko=>⟨e6,rfl,sr6,ko,w6⟩⟩) (λ_ s6 ⟨σ6,H6,I6,e6,RN,sr6,ko,w6⟩=>?_) λ_ _ f=>(hx _ _ f).elim
  subst RN
  have no6:y9 e6 σ6 p:=λj xs q z=>by
   obtain ⟨k1,k2⟩:=ko j xs q
   exact no' j xs k1 (k2▸z)
  refine Uc (hIf _ s6 σ6 H6 (λk H7=>∃J7,Ext J5 H6 J7 H7/\cI (if k=true then act e6 >>= λr=>bY gt gts act (ds.drop (i + 1)) r.2 >>= λz=>.ok (r.1++z.1,z.2) else bY gt gts act (ds.drop (i + 1)) e6)
   (λr=>Qf (zs++r.1,r.2)) c.T) I6 ⟨J5,e6,sr6,aF (aL w6) λk wk J7 H7 e7=>⟨J7,e7,wk⟩⟩) (λk s7 ⟨H7,I7,J7,e7,w7⟩=>?_) λ_ _ f=>(hx _ _ f).elim
  have sr7:=sr6.ext e7
  have ac7:=aR.ext (aR.ext ac' e5) e7
  have x7:=(e'.trans e5).trans e7
  have j7:=(sj.trans e5.j).trans e7.j
  have hm:(i + 1) * N=i * N + N:=by rw [abL,Nat.one_mul]
  cases k with
  | false=>
   rw [if_neg (by decide)] at w7 ⊢
   obtain ⟨a1,a2,a3⟩:=again I7
   exact ⟨ds.length - (i + 1),by omega,i + 1,σ6,H7,J7,e6,zs,rfl,hlt,a1,a2,a3,x7,j7,sr7,no6,ac7,by omega,w7⟩
  | true=>
   rw [if_pos rfl] at w7 ⊢
   have hN:(i + 1) * N<=ds.length * N:=Vw N hlt
   refine Uc (hA _ s7 σ6 H7 J7 e6 (ys++zs) _ I7 x7 sr7 no6 ac7 (by rw [Te];omega) (aL w7)) (λ_ s8 ⟨σ8,H8,J8,r,I8,x8,j8,sr8,no8,ac8,l8,w8⟩=>?_) λ_ _ f=>f.elim
   obtain ⟨a1,a2,a3⟩:=again I8
   refine ⟨ds.length - (i + 1),by omega,i + 1,σ8,H8,J8,r.2,zs++r.1,rfl,hlt,a1,a2,a3,x8,j7.trans j8,sr8,no8,by rw [<-VB];exact ac8,by rw [Te];omega,?_⟩
   refine aF (aL w8) λz q=>?_
   rw [VB]
   exact q
 ·have R4:i=ds.length:=by omega
  subst R4
  rw [Zh (SW _)] at w'
  refine Uc (T.done X rfl rfl rfl hc _ Sq s' σ' H' (λ_ _=>False) I' (stat fr') st' (wk1 (SW _))) (λr s4 ⟨hr,I9⟩=>?_) λ_ _ f=>f.elim
  subst hr
  have w9:Qf (zs++[],env'):=w'
  rw [V3] at w9
  exact ⟨rfl,σ',H',J',(zs,env'),I9,e',sj,sr',no',ac',hz,w9⟩
end
section
variable {prog:S_}{w:TL}{A:TR}{R:aa1->SJ->Prop}{s:SJ}{it acc:SI}{env:Env}{So:VN}{pos:Pos}{g0:aaz}{Sv Sw:TV}{ifs:List TV}{rest:List aaz}
theorem NB (h0:Vq (Ti prog w) A (.compLoop (.ListComp elt (g0::⟨Sv,Sw,ifs,0⟩::rest) So pos) 1 it acc env) R s)
 (h:S8 (Ti prog w) A (Yw it) (λit' s'=>Vq (Ti prog w) A (.compLoop (.ListComp elt (g0::⟨Sv,Sw,ifs,0⟩::rest) So pos) 1 it' acc env) R s') (λ_ _=>False) s):
  Vq (Ti prog w) A (.compStart (.ListComp elt (g0::⟨Sv,Sw,ifs,0⟩::rest) So pos) 1 it acc env) R s:=by
 refine Yp ?_
 show S8 _ _ ((abM (.ListComp elt (g0::⟨Sv,Sw,ifs,0⟩::rest) So pos) 1 it acc env).onRaise (λx=>do abJ x env;Wb abN)) _ _ s
 refine acH ?_
 unfold abM
 show S8 _ _ (ask >>= _) _ _ s
 refine SE (VL (wpAny_ite ?_))
 split
 ·first
   | exact SE (SH (SH (ZG rfl h0)))
   | exact SH (ZG rfl h0)
 ·refine SE (Xy ?_)
  show S8 _ _ (Wb Sw.pos >>= _) _ _ s
  exact SE (U6 (SE (Uc h (λit' s' h'=>SH (ZG rfl h')) λ_ _ x=>x.elim)))
theorem Nz (h0:Vq (Ti prog w) A (.compLoop (.DictComp kx vx (g0::⟨Sv,Sw,ifs,0⟩::rest) So pos) 1 it acc env) R s)
 (h:S8 (Ti prog w) A (Yw it) (λit' s'=>Vq (Ti prog w) A (.compLoop (.DictComp kx vx (g0::⟨Sv,Sw,ifs,0⟩::rest) So pos) 1 it' acc env) R s') (λ_ _=>False) s):
  Vq (Ti prog w) A (.compStart (.DictComp kx vx (g0::⟨Sv,Sw,ifs,0⟩::rest) So pos) 1 it acc env) R s:=by
 refine Yp ?_
 show S8 _ _ ((abM (.DictComp kx vx (g0::⟨Sv,Sw,ifs,0⟩::rest) So pos) 1 it acc env).onRaise (λx=>do abJ x env;Wb abN)) _ _ s
 refine acH ?_
 unfold abM
 show S8 _ _ (ask >>= _) _ _ s
 refine SE (VL (wpAny_ite ?_))
 split
 ·first
   | exact SE (SH (SH (ZG rfl h0)))
   | exact SH (ZG rfl h0)
 ·refine SE (Xy ?_)
  show S8 _ _ (Wb Sw.pos >>= _) _ _ s
  exact SE (U6 (SE (Uc h (λit' s' h'=>SH (ZG rfl h')) λ_ _ x=>x.elim)))
end
noncomputable def jl (gi:G (List D)) (gt:GT) (gts:G Bool) (act:Ev->M (List D×Ev)):Ev->M (List D×Ev):=λenv=>gi env >>= λds=>if ds.length<=1000 then bY gt gts act ds env else .bad
abbrev tU (e Sw:TV) (acc:SI) (env:Env):Sem Unit:=do
 let x <-eval Sw env
 Wb Sw.pos
 let x <-Tc Sw env x
 let _ <-runOwn (.compStart e 1 (<-holding [x] (Yw x)) acc env) env
section
variable {X:Cx}{c:C}{p:Tg}{Acc:Hp->Hp->List D->Prop}{J2 H2:Hp}{N:Nat}{m:Sem Unit}{act:Ev->M (List D×Ev)}{Sv Sw:TV}{ifs:List TV}{gi:G (List D)}{gt:GT}{gts:G Bool}{e:TV}{acc:SI}
theorem Be (aR:yM Acc) (hc:X.calm=true) (hx:∀v s,X.xe v s->False) (hs:∀x,Tc Sw X.env x=pure x)
  (start:∀(it:Tg) (R:aa1->SJ->Prop) (s:SJ),Vq (Ti X.prog X.w) X.A (.compLoop e 1 (.ref it) acc X.env) R s->S8 (Ti X.prog X.w) X.A (Yw (.ref it)) (λit' s'=>Vq (Ti X.prog X.w) X.A (.compLoop e 1 it' acc X.env) R s') (λ_ _=>False) s->Vq (Ti X.prog X.w) X.A (.compStart e 1 (.ref it) acc X.env) R s)
  (LP:∀it:Tg,um X.prog X.w X.A e 1 (.ref it) acc X.env Sv ifs m) (hi:za X c Sv Sw gi) (hT:ji X c Sv gt) (hIf:gJ X c ifs gts) (hA:vN X c p Acc J2 H2 N m act):
  vN X c p Acc J2 H2 (1000 * N) (tU e Sw acc X.env) (jl gi gt gts act):=by
 intro Sq s σ H J env ys Qf I x2 sr no ac hl w
 refine SE (Uc (hi Sq s σ H (λIt H1=>∃ds J1,Ext J H J1 H1/\Walk c It ds J1 (λJ' _=>aU J1 J')/\cI (if ds.length<=1000 then bY gt gts act ds env else .bad) Qf c.T) I ⟨J,env,sr,aF (aL w) λds wd It J1 H1 e1 wk=>⟨ds,J1,e1,wk,wd⟩⟩) (λxv s1 h1=>?_) λv s f=>(hx v s f).elim)
 refine SE (U6 ?_)
 rw [hs xv]
 refine SE (SH (SE (TQ (Uc h1 (λitv s2 h2=>?_) λv s f=>(hx v s f).elim))))
 obtain ⟨it,fp,tn,It,H1,rfl,I1,T,st1,f1,ds,J1,e1,wk,w1⟩:=h2
 have hsz:ds.length<=1000:=by
  by_cases z:ds.length<=1000
  ·exact z
  ·rw [if_neg z] at w1;exact w1.elim
 rw [if_pos hsz] at w1
 have hm:ds.length * N<=1000 * N:=Vw N hsz
 have hb:ys.length + ds.length * N<=sizeLine:=Tz (Nat.add_le_add_left hm _) hl
 have run:=Ac aR hc hx (LP it) hT hIf hA T (λJ' _=>aU J1 J') wk (λ_ _ _ h=>h) I1 st1 f1 (x2.trans e1) (sr.ext e1) no (aR.ext ac e1) hb w1
 have run':Vq (Ti X.prog X.w) X.A (.compLoop e 1 (.ref it) acc X.env) (λr s'=>match r with | .ok f=>S8 (Ti X.prog X.w) X.A (pure ()) (λ_ s'=>∃σ' H' J' r,Inv X Sq σ' H' s'/\Ext J2 H2 J' H'/\aU J J'/\SR c J' H' σ' r.2/\y9 r.2 σ' p/\Acc J' H' (ys++r.1)/\r.1.length<=1000 * N/\Qf r) (λ_ _=>False) s' | .error e=>cameBackBy (Ti X.prog X.w) X.A X.env (λ_ _=>False) e s') s2:=V_ run λr s' ⟨hr,σ',H',J',r',q1,q2,q3,q4,q5,q6,q7,q8⟩=>by
  subst hr
  exact SH ⟨σ',H',J',r',q1,q2,e1.j.trans q3,q4,q5,q6,Tz q7 hm,q8⟩
 exact SE (wpAny_runOwn (h:=none) (start it _ _ run' (T.self _ 0 _ _ _ st1 run')))
end
def gS (ge:G R):Ev->M (List D×Ev):=λe=>ge e >>= λr=>toD r >>= λy=>.ok ([y],e)
def Cp (c:C) (p:Tg):Hp->Hp->List D->Prop:=λJ H ys=>∃us,H p=some (.lst us)/\J p=none/\aH c.K J ys us
theorem tw:yM (Cp c p):=⟨fun {J H J' H' ys} ⟨us,h1,h2,h3⟩ e=>⟨us,e.h _ _ h1,e.frz _ (by rw [h1];intro z;cases z) h2,h3.mono e.j⟩⟩
section
variable {X:Cx}{c:C}{p:Tg}{J2 H2:Hp}{elt:TV}{ge:G R}
theorem Bd (hx:∀v s,X.xe v s->False) (hp2:H2 p=none) (hp0:c.H0 p=none) (hE:PD X c elt ge):vN X c p (Cp c p) J2 H2 1 (do let _ <-call (.builtin "list.append") [.ref p,<-eval elt X.env]) (gS ge):=by
 intro Sq s σ H J env ys Qf I x2 sr no ⟨us,h1,h2,h3⟩ hl w
 have hlen:ys.length=us.length:=h3.length
 refine SE (Uc (hE _ s σ H (λv H8=>∃J8 y,Ext J H J8 H8/\Rep c.K J8 y v/\Qf ([y],env)) I ⟨J,env,sr,aF (aL w) λr wr v J8 H8 e8 r8=>?_⟩) (λu8 s8 ⟨v8,H8,I8,r8,J8,y,e8,ry,w8⟩=>?_) λv s f=>(hx v s f).elim)
 ·obtain ⟨y,q,wr⟩:=jd wr
  obtain ⟨J9,e9,_,ry⟩:=freeze e8 r8 q
  exact ⟨J9,y,e9,ry,wr⟩
 have p8:H8 p=some (.lst us):=e8.h _ _ h1
 have J8p:J8 p=none:=e8.frz _ (by rw [h1];intro z;cases z) h2
 refine SE (Uc (qI (X:=X) _ s8 σ H8 (.ref p) [v8] (.ref p) [u8] (λ_ H9=>H9=L2.upd H8 p (.lst (us++[v8]))) I8 rfl (.cons r8 .nil) ⟨_,us,v8,rfl,rfl,p8,by omega,rfl⟩) (λ_ s9 ⟨_,H9,I9,_,h9⟩=>?_) λv s f=>(hx v s f).elim)
 subst h9
 exact SH ⟨σ,_,J8,([y],env),I9,(x2.trans e8).other hp2 J8p,e8.j,(sr.ext e8).other J8p hp0 no,no,⟨us++[v8],bR,J8p,(h3.mono e8.j).append (.cons ry .nil)⟩,SW _,w8⟩
end
noncomputable def jr (lim n:Nat) (cap:List Nat) (gi:G (List D)) (gt:GT) (gts:G Bool) (act:Ev->M (List D×Ev)) (fin:List D->M R):G R:=λenv=>gi env >>= λds=>if ds.length<=lim then bY gt gts act ds (cE n cap env) >>= λr=>fin r.1 else .bad
section
variable {X:Cx}{c:C}
theorem oB (own:List Str) (cap:List Nat){So:VN}{gi:G (List D)}{gts:G Bool}{act:Ev->M (List D×Ev)}{fin:List D->M R}{o0:Tg->HO}{Acc:Tg->Hp->Hp->List D->Prop}{m:Tg->Env->Sem Unit}
 (hcls:clausesOf e=⟨Sv,Sw,ifs,0⟩::gs) (hi:qh X c Sv Sw gi)
 (hnew:∀(s:SJ) (Q:SI->SJ->Prop) (E:SI->SJ->Prop),Q (.ref s.heap.objs.size) {s with heap:=s.heap.push ob}->S8 (Ti X.prog X.w) X.A newAcc Q E s)
 (hob:∀(h:Uz) (H:Hp),cG X.prog X.w H (h.push ob) h.objs.size (o0 h.objs.size))
 (aR:∀p,yM (Acc p)) (a0:∀(p:Tg) (J H:Hp),Wn < p->H p=some (o0 p)->J p=none->Acc p J H [])
 (hN:lim * N<=sizeLine) (LP:∀(it p:Tg) (env:Env),um X.prog X.w X.A e 0 (.ref it) (.ref p) env Sv ifs (m p env))
 (start:∀(it:Tg) (acc:SI) (env:Env) (R:aa1->SJ->Prop) (s:SJ),Vq (Ti X.prog X.w) X.A (.compLoop e 0 (.ref it) acc env) R s->S8 (Ti X.prog X.w) X.A (Yw (.ref it)) (λit' s'=>Vq (Ti X.prog X.w) X.A (.compLoop e 0 it' acc env) R s') (notedBy (Ti X.prog X.w) X.A env λx s'=>R (.error x) s') s->Vq (Ti X.prog X.w) X.A (.compStart e 0 (.ref it) acc env) R s)
 (nofin:∀ys z,fin ys≠.exc z) (hend:∀{p:Tg}{J H J' H':Hp}{ys:List D}{r:R},H p=none->Ext J H J' H'->Acc p J' H' ys->fin ys=.ok r->∃J'',Ext J H J'' H'/\RR c H J'' H' r (.ref p))
 (hbody:∀(cl:List (Str×Tg)) (C:Tg) (s:SJ) (H:Hp) (fp:List Tg),bF X.env.cells So.names []=some cl->ji (aV X own cap So cl C s H fp) c Sv gt/\gJ (aV X own cap So cl C s H fp) c ifs gts/\∀(p:Tg) (J2 H2:Hp),H2 p=none->c.H0 p=none->vN (aV X own cap So cl C s H fp) c p (Acc p) J2 H2 N (m p (aV X own cap So cl C s H fp).env) act)
 (hk:So.kind=.function) (hno:fF X cap So=true) (hnames:(So.names.all λx=>!(x.2 == .local) || (So.names.lookup x.1 == some .local))=true)
 (hcl:(bF X.env.cells So.names []).isSome=true) (hcap:dS X cap=true) (hloc:dX X cap So=true) (hnd:fU cap=true) (Qo:X.calm=true)
 (hs:∀x,Tc Sw X.env x=pure x)
 {s:SJ}{H:Hp}{Q:VK}{use:Option (SI->Sem Unit)}{Q0:SI->SJ->Prop}(I:Inv X Sq σ H s) (h:tD c (jr lim own.length cap gi gt gts act fin) σ H Q)
 (Qs:∀(acc C:Tg) (m:Str->Option SI) (s':SJ) (H':Hp) (fl:Flow),s'.heap.Ns C m->((C∈X.ex\/X.s₀.heap.objs.size<=C)/\C≠X.env.locals/\(∀x c,X.env.cells.lookup x=some c->c≠C)/\∀p∈X.pn++Sq,p.1≠C)->H' C=none->(∀h'',TU C s'.heap h''->Inv X Sq σ H' {s' with heap:=h''})->Q (.ref acc) H'->aaA (Ti X.prog X.w) X.A X.xe use Q0 (.ref acc) C (.ok fl) s'):
  S8 (Ti X.prog X.w) X.A (comprehension e So X.env pos' newAcc false (eval Sw X.env) use) Q0 X.xe s:=by
 obtain ⟨J,env,sr,w⟩:=h
 obtain ⟨cl,hcl⟩:=Ub.mp hcl
 have Rr:∀j∈cap,∀x,X.N[j]?=some x->cY So.names x=false:=λj hj x hx=>by
  have:=Tu.mp hno j hj
  rw [hx] at this
  simpa using this
 have QI:∀x∈So.names,x.2=.local->So.names.lookup x.1=some .local:=λy hy z=>by
  have:=Tu.mp hnames y hy
  rw [z] at this
  simpa using this
 have Q7:∀j∈cap,∀x,X.N[j]?=some x->(relabel So X.env).names.lookup x≠some .local:=λj hj x hx z=>by
  have:=Tu.mp hloc j hj
  rw [hx] at this
  simp only at this
  rw [z] at this
  cases this
 refine wpAny_comprehension_free (use:=use) hcls hs (yo hcl) hk QI ?_
 refine bO (hi Sq s σ H (λIt H1=>∃ds J1,Ext J H J1 H1/\Walk c It ds J1 (λJ' H'=>aU J1 J'/\aU H1 H')/\
  cI (if ds.length<=lim then bY gt gts act ds (cE own.length cap env) >>= λr=>fin r.1 else .bad) (λr=>∀v J' H',Ext J H J' H'->RR c H J' H' r v->Q v H') c.T) I ⟨J,env,sr,aF (aL w) λds wd It J1 H1 e1 wk=>⟨ds,J1,e1,wk,wd⟩⟩) λxv s1 h1=>bO h1 λitv s2 h2=>?_
 obtain ⟨it,fp,tn,It,H2,rfl,I2,T,st2,f2,ds,J2,e2,wk,w2⟩:=h2
 have hsz:ds.length<=lim:=by
  by_cases z:ds.length<=lim
  ·exact z
  ·rw [if_neg z] at w2;exact w2.elim
 rw [if_pos hsz] at w2
 have w3:=aL w2
 refine hnew s2 _ _ (Dd ?_)
 dsimp only
 generalize Rb:s2.heap.push ob=Hs
 have hC:Hs.objs.size=s2.heap.objs.size + 1:=by rw [<-Rb,VV]
 have hp2:H2 s2.heap.objs.size=none:=I2.hok.fresh (SW _)
 have kHs:∀b o,s2.heap.get? b=some o->Hs.get? b=some o:=λb o e=>by rw [<-Rb];exact SO _ e
 have I3:Inv X Sq σ (L2.upd H2 s2.heap.objs.size (o0 s2.heap.objs.size)) {s2 with heap:=Hs,toks:=s2.toks}:=I2.laid (t':=s2.toks) kHs (SW _) (by rw [<-Rb];exact hob _ _)
 have f3:∀b∈fp,jI X Sq (L2.upd H2 s2.heap.objs.size (o0 s2.heap.objs.size)) b:=λb hb=>by
  obtain ⟨o,ho,_⟩:=T.obj _ _ st2 b hb
  exact ⟨by rw [bu (Tr (S9 ho))];exact (f2 b hb).1,(f2 b hb).2⟩
 have hin:∀b∈fp,b < Hs.objs.size:=λb hb=>by
  obtain ⟨o,ho,_⟩:=T.obj _ _ st2 b hb
  exact Wa (S9 ho) (by rw [hC];exact UW _)
 obtain ⟨h₁,eh₁⟩:∃h₁,h₁=abC (Hs.push {cls:=.type "dict",data:=.dict #[]}) So.names:=⟨_,rfl⟩
 rw [<-eh₁]
 have hns₁:h₁.Ns Hs.objs.size (λ_=>none):=by rw [eh₁];exact MA Hs So.names
 have ck:adm h₁ (Hs.objs.size + 1) (Uh (Hs.objs.size + 1) So.names []):=by rw [eh₁];exact Eg Hs So.names
 have okC:=Jt (own:=own) (cap:=cap) I3 hk hcl ck f3 hin
 have old1:∀b o,Hs.get? b=some o->h₁.get? b=some o:=λb o e=>by rw [eh₁];exact abD _ _ _ _ (SO _ e)
 have I4:=Gk (tk:=s2.toks) I3 okC hcl ck hcap Q7 Rr hns₁ old1
 have sr2:=sr.ext e2
 have srA:SR c J2 (L2.upd H2 s2.heap.objs.size (o0 s2.heap.objs.size)) σ env:=sr2.ext (Ext.new e2.sub hp2 _)
 have J2p:J2 s2.heap.objs.size=none:=e2.sub.free hp2
 have H0p:c.H0 s2.heap.objs.size=none:=sr2.hp.ent.free hp2
 have nown:∀(j:Nat) (xs:Mn),(cE own.length cap env)[j]?=some (some (mS xs))->(UQ own.length none++cap.map λ(j:Nat)=>(σ[j]?).getD none)[j]?≠some (some (.ref s2.heap.objs.size)):=λj xs q z=>by
  obtain ⟨a,h1,h2,h3⟩:=kJ q
  obtain ⟨a',h4,h5,h6⟩:=kJ z
  rw [h2] at h5;cases h5
  obtain ⟨p,k1,k2,_⟩:=sr2.mine h3
  rw [h6] at k1
  cases k1
  exact k2 hp2
 obtain ⟨hT,hIf,hE⟩:=hbody cl Hs.objs.size {s2 with heap:=Hs,toks:=s2.toks} (L2.upd H2 s2.heap.objs.size (o0 s2.heap.objs.size)) fp hcl
 have fpC:∀{H':Hp},(∀b∈fp,H' b=none)->∀b∈fp,jI (aV X own cap So cl Hs.objs.size {s2 with heap:=Hs,toks:=s2.toks} (L2.upd H2 s2.heap.objs.size (o0 s2.heap.objs.size)) fp) [] H' b:=fun {H'} hn b hb=>by
  obtain ⟨m1,_⟩:=gU So.names [] cl hcl (λx c h=>by simp at h)
  refine ⟨hn b hb,Tr (hin b hb),λz=>?_,.inl hb,λx d h=>(fZ h).elim (λh=>Vj (To (hin b hb) (V7 (ck.empty _ _ (Xj h)).2))) (λh=>(f2 b hb).2.2.2.2.1 x d (m1 x d h.2)),λp hp=>absurd (show p∈([]:List (Tg×Obj)) from hp) (by simp)⟩
  rcases S7.mp (I2.stkSub b z) with e | e
  ·exact (f2 b hb).2.1 e
  ·exact (f2 b hb).2.2.1 e
 have back:∀{pi:List (Tg×Obj)}{σ':L2.St}{H':Hp}{s':SJ}{h'':Uz},Inv (aV X own cap So cl Hs.objs.size {s2 with heap:=Hs,toks:=s2.toks} (L2.upd H2 s2.heap.objs.size (o0 s2.heap.objs.size)) fp) pi σ' H' s'->TU Hs.objs.size s'.heap h''->Inv X Sq σ H' {s' with heap:=h''}:=fun {pi σ' H' s' h''} I' sb=>by
  have B:Un (frs X.stack) fp (L2.upd H2 s2.heap.objs.size (o0 s2.heap.objs.size)) H' Hs s'.heap:=I'.base
  have ne2:∀{b:Tg}{o:Obj},s2.heap.get? b=some o->b≠s2.heap.objs.size/\b≠Hs.objs.size:=fun {b o} e=>
   ⟨Tr (S9 e),Tr (Wa (S9 e) (by rw [hC];exact UW _))⟩
  have nH:∀{b:Tg}{o:HO},H2 b=some o->L2.upd H2 s2.heap.objs.size (o0 s2.heap.objs.size) b=some o:=fun {b o} e=>by rw [bu (eN e hp2)];exact e
  refine Inv.call' (ch:=fp) (s':={s' with heap:=h''}) I2 I'.os ⟨λb o e n hf hx=>?_,λb o e n hf hx=>?_,λb o e n hx=>?_,λb o e hx=>?_,λb xs e=>B.tups b xs (nH e),λb o u e=>B.frzs b o u (nH e),λb ps e=>B.tbls b ps (nH e)⟩ (AY I'.hok I'.free sb) I'.bare λb hb=>⟨(f2 b hb).2.2.2.1,(f2 b hb).2.1,(f2 b hb).2.2.2.2.1,(f2 b hb).2.2.2.2.2⟩
  ·exact (sb.2 b (ne2 e).2).trans (B.keep b o (kHs b o e) (by rw [bu (ne2 e).1];exact n) hf hx)
  ·obtain ⟨sl,z⟩:=B.slot b o (kHs b o e) (by rw [bu (ne2 e).1];exact n) hf hx
   exact ⟨sl,(sb.2 b (ne2 e).2).trans z⟩
  ·exact B.free b o (kHs b o e) (by rw [bu (ne2 e).1];exact n) hx
  ·obtain ⟨o',z⟩:=B.there b o (kHs b o e) hx
   exact ⟨o',(sb.2 b (ne2 e).2).trans z⟩
 have run:=λ(s4:SJ) (I4:Inv (aV X own cap So cl Hs.objs.size {s2 with heap:=Hs,toks:=s2.toks} (L2.upd H2 s2.heap.objs.size (o0 s2.heap.objs.size)) fp) [] _ _ s4) (st4:tn 0 s4.heap)=>Ac (X:=aV X own cap So cl Hs.objs.size {s2 with heap:=Hs,toks:=s2.toks} (L2.upd H2 s2.heap.objs.size (o0 s2.heap.objs.size)) fp) (e:=e) (depth:=0) (acc:=.ref s2.heap.objs.size) (aR _) Qo (λ_ _ f=>f) (LP it _ _) hT hIf (hE s2.heap.objs.size J2 H2 hp2 H0p) T (λJ' H'=>aU J2 J'/\aU H2 H') wk (λJ' H' x _=>⟨x.j,x.h⟩) I4 st4 (fpC λb hb=>(f3 b hb).1) (Ext.new e2.sub hp2 _) (srA.cap own.length cap (BL hnd)) nown (a0 _ _ _ (Lz I2) bR J2p) (Tz (by rw [Yq,aa9];exact Vw N hsz) hN) w3
 have st4:=T.keep _ _ _ st2 (λb hb o e=>old1 b o (kHs b o e))
 have go:=V_ (run _ I4 st4) (R':=aaA (Ti X.prog X.w) X.A X.xe use Q0 (.ref s2.heap.objs.size) Hs.objs.size) λr s' ⟨hr,σ',H',J',r',I9,x9,j9,sr9,no9,ac9,l9,w9⟩=>by
  subst hr
  obtain ⟨mm,hm,_⟩:=I9.loc
  refine Qs s2.heap.objs.size Hs.objs.size mm _ H' _ hm (Lv I2 (by rw [hC];exact VD _)) I9.free (λh'' sb=>back I9 sb) ?_
  cases q:fin r'.1 with
  | bad=>rw [q] at w9;exact w9.elim
  | exc z=>rw [q] at w9;exact (nofin _ z q).elim
  | ok z=>
   rw [q] at w9
   obtain ⟨J9,x10,rr⟩:=hend (e2.h.free hp2) (e2.trans x9) ac9 q
   exact w9 _ J9 H' x10 rr
 exact start it _ _ _ _ go (T.self _ 0 _ _ _ st4 go)
end
noncomputable def jZ (n:Nat) (cap:List Nat) (gi0:G (List D)) (gt0:GT) (gts0:G Bool) (gi1:G (List D)) (gt1:GT) (gts1:G Bool) (ge:G R):G R:=jr 10000 n cap gi0 gt0 gts0 (jl gi1 gt1 gts1 (gS ge)) (λys=>.ok (.l .fresh ys))
theorem K9 (elt t0 i0 t1 i1:TV) (f0 f1:List TV) (So:VN) (pos:Pos) (it acc:SI) (env:Env):
  XR (.ListComp elt [⟨t0,i0,f0,0⟩,⟨t1,i1,f1,0⟩] So pos) 0 it acc env=(do
   Wb i0.pos
   match <-WJ it with
   | none=>pure (.done .next)
   | some v=>
    VC t0 it v
    assign t0 env v
    let mut ok:=true
    for c in f0 do
     if ok then ok <-ZY c env (eval c env)
    if ok then
     let x <-eval i1 env
     Wb i1.pos
     let x <-Tc i1 env x
     let _ <-runOwn (.compStart (.ListComp elt [⟨t0,i0,f0,0⟩,⟨t1,i1,f1,0⟩] So pos) 1 (<-holding [x] (Yw x)) acc env) env
    again (.compLoop (.ListComp elt [⟨t0,i0,f0,0⟩,⟨t1,i1,f1,0⟩] So pos) 0 it acc env)):=by rfl
theorem NI (elt t0 i0 t1 i1:TV) (f0 f1:List TV) (So:VN) (pos:Pos) (it acc:SI) (env:Env):
  XR (.ListComp elt [⟨t0,i0,f0,0⟩,⟨t1,i1,f1,0⟩] So pos) 0 it acc env=m9 t0 i0 f0 it env (tU (.ListComp elt [⟨t0,i0,f0,0⟩,⟨t1,i1,f1,0⟩] So pos) i1 acc env) (again (.compLoop (.ListComp elt [⟨t0,i0,f0,0⟩,⟨t1,i1,f1,0⟩] So pos) 0 it acc env)):=by
 rw [K9]
 refine bind_congr λ_=>bind_congr λr=>?_
 cases r with
 | none=>rfl
 | some v=>
  refine bind_congr λ_=>bind_congr λ_=>bind_congr λok=>?_
  cases ok with
  | false=>rfl
  | true=>simp only [tU,bind_assoc,pure_bind,if_true]
theorem NJ (elt t0 i0 t1 i1:TV) (f0 f1:List TV) (So:VN) (pos:Pos) (it acc:SI) (env:Env):
  XR (.ListComp elt [⟨t0,i0,f0,0⟩,⟨t1,i1,f1,0⟩] So pos) 1 it acc env=m9 t1 i1 f1 it env (do let _ <-call (.builtin "list.append") [acc,<-eval elt env]) (again (.compLoop (.ListComp elt [⟨t0,i0,f0,0⟩,⟨t1,i1,f1,0⟩] So pos) 1 it acc env)):=by rfl
section
variable {X:Cx}{c:C}
theorem Em (own:List Str) (cap:List Nat){So:VN}{pos:Pos}{gi0 gi1:G (List D)}{gts0 gts1:G Bool}{ge:G R}(hi:qh X c t0 i0 gi0)
 (hbody:∀(cl:List (Str×Tg)) (C:Tg) (s:SJ) (H:Hp) (fp:List Tg),bF X.env.cells So.names []=some cl->ji (aV X own cap So cl C s H fp) c t0 gt0/\gJ (aV X own cap So cl C s H fp) c f0 gts0/\za (aV X own cap So cl C s H fp) c t1 i1 gi1/\ji (aV X own cap So cl C s H fp) c t1 gt1/\gJ (aV X own cap So cl C s H fp) c f1 gts1/\PD (aV X own cap So cl C s H fp) c elt ge)
 (hk:So.kind=.function:=by rfl) (hno:fF X cap So=true:=by rfl) (hnames:(So.names.all λx=>!(x.2 == .local) || (So.names.lookup x.1 == some .local))=true:=by rfl)
 (hcl:(bF X.env.cells So.names []).isSome=true:=by rfl) (hcap:dS X cap=true:=by rfl) (hloc:dX X cap So=true:=by rfl) (hnd:fU cap=true:=by rfl) (Qo:X.calm=true:=by rfl)
 (hs:∀x,Tc i0 X.env x=pure x:=by intro _;rfl) (hs1:∀(en:Env) x,Tc i1 en x=pure x:=by intro _ _;rfl)
 {H:Hp}{Q:VK}{use:Option (SI->Sem Unit)}{Q0:SI->SJ->Prop}(I:Inv X Sq σ H s) (h:tD c (jZ own.length cap gi0 gt0 gts0 gi1 gt1 gts1 ge) σ H Q)
 (Qs:∀(acc C:Tg) (m:Str->Option SI) (s':SJ) (H':Hp) (fl:Flow),s'.heap.Ns C m->((C∈X.ex\/X.s₀.heap.objs.size<=C)/\C≠X.env.locals/\(∀x c,X.env.cells.lookup x=some c->c≠C)/\∀p∈X.pn++Sq,p.1≠C)->H' C=none->(∀h'',TU C s'.heap h''->Inv X Sq σ H' {s' with heap:=h''})->Q (.ref acc) H'->aaA (Ti X.prog X.w) X.A X.xe use Q0 (.ref acc) C (.ok fl) s'):
  S8 (Ti X.prog X.w) X.A (comprehension (.ListComp elt [⟨t0,i0,f0,0⟩,⟨t1,i1,f1,0⟩] So pos) So X.env pos' (adl []) false (eval i0 X.env) use) Q0 X.xe s:=by
 refine oB (e:=.ListComp elt [⟨t0,i0,f0,0⟩,⟨t1,i1,f1,0⟩] So pos) (ob:={cls:=.type "list",dict:=none,data:=.seq ([]:List SI).toArray}) (o0:=λ_=>.lst []) (Acc:=Cp c) (N:=1000 * 1) (lim:=10000) (m:=λp env=>tU (.ListComp elt [⟨t0,i0,f0,0⟩,⟨t1,i1,f1,0⟩] So pos) i1 (.ref p) env) own cap rfl hi
  (λs Q E q=>TN q) (λh H=>⟨Tp _,[],0,.nil,SY _ rfl⟩) (λp=>tw) (λp J H _ h1 h2=>⟨[],h1,h2,.nil⟩) (by decide) (λit p env=>CY (NI ..)) (λit acc env R s h0 h=>Zl h0 h) (λys z q=>by cases q)
  (fun {p J H J' H' ys r} hp e ⟨us,h1,h2,h3⟩ q=>by cases q;exact ⟨J',e,⟨p,us,rfl,h1,h2,hp,h3⟩⟩) (λcl C s H fp hcc=>?_) hk hno hnames hcl hcap hloc hnd Qo hs I h Qs
 obtain ⟨b1,b2,b3,b4,b5,b6⟩:=hbody cl C s H fp hcc
 refine ⟨b1,b2,λp J2 H2 hp2 hp0=>?_⟩
 exact Be tw Qo (λ_ _ f=>f) (λx=>hs1 _ x) (λit R s h0 h=>NB h0 h) (λit=>CY (NJ ..)) b3 b4 b5 (Bd (λ_ _ f=>f) hp2 hp0 b6)
theorem Fc (own:List Str) (cap:List Nat){So:VN}{pos:Pos}{gi0 gi1:G (List D)}{gts0 gts1:G Bool}{ge:G R}(hi:qh X c t0 i0 gi0)
 (hbody:∀(cl:List (Str×Tg)) (C:Tg) (s:SJ) (H:Hp) (fp:List Tg),bF X.env.cells So.names []=some cl->ji (aV X own cap So cl C s H fp) c t0 gt0/\gJ (aV X own cap So cl C s H fp) c f0 gts0/\za (aV X own cap So cl C s H fp) c t1 i1 gi1/\ji (aV X own cap So cl C s H fp) c t1 gt1/\gJ (aV X own cap So cl C s H fp) c f1 gts1/\PD (aV X own cap So cl C s H fp) c elt ge)
 (hk:So.kind=.function:=by rfl) (hno:fF X cap So=true:=by rfl) (hnames:(So.names.all λx=>!(x.2 == .local) || (So.names.lookup x.1 == some .local))=true:=by rfl)
 (hcl:(bF X.env.cells So.names []).isSome=true:=by rfl) (hcap:dS X cap=true:=by rfl) (hloc:dX X cap So=true:=by rfl) (hnd:fU cap=true:=by rfl) (Qo:X.calm=true:=by rfl)
 (hs:∀x,Tc i0 X.env x=pure x:=by intro _;rfl) (hs1:∀(en:Env) x,Tc i1 en x=pure x:=by intro _ _;rfl):PD X c (.ListComp elt [⟨t0,i0,f0,0⟩,⟨t1,i1,f1,0⟩] So pos) (jZ own.length cap gi0 gt0 gts0 gi1 gt1 gts1 ge):=by
 intro Sq s σ H Q I h
 rw [acI]
 exact Em own cap hi hbody hk hno hnames hcl hcap hloc hnd Qo hs hs1 I h λacc C m s' H' fl hm hz hf hb q=>⟨m,hm,λh'' sb=>⟨.ref acc,H',hb h'' sb,rfl,q⟩⟩
theorem E_ (i:Nat) (own:List Str) (cap:List Nat){elt t0 i0 t1 i1:TV}{f0 f1:List TV}{So:VN}{pos:Pos}{gi0 gi1:G (List D)}{gt0 gt1:GT}{gts0 gts1:G Bool}{ge:G R}{pos' pos2:Pos}{x:Str}(hN:X.N.Nodup) (hi:qh X c t0 i0 gi0)
  (hbody:∀(cl:List (Str×Tg)) (C:Tg) (s:SJ) (H:Hp) (fp:List Tg),bF X.env.cells So.names []=some cl->ji (aV X own cap So cl C s H fp) c t0 gt0/\gJ (aV X own cap So cl C s H fp) c f0 gts0/\za (aV X own cap So cl C s H fp) c t1 i1 gi1/\ji (aV X own cap So cl C s H fp) c t1 gt1/\gJ (aV X own cap So cl C s H fp) c f1 gts1/\PD (aV X own cap So cl C s H fp) c elt ge)
  (hk:So.kind=.function:=by rfl) (hno:fF X cap So=true:=by rfl) (hnames:(So.names.all λx=>!(x.2 == .local) || (So.names.lookup x.1 == some .local))=true:=by rfl)
  (hcl:(bF X.env.cells So.names []).isSome=true:=by rfl) (hcap:dS X cap=true:=by rfl) (hloc:dX X cap So=true:=by rfl) (hnd:fU cap=true:=by rfl) (Qo:X.calm=true:=by rfl)
  (hs:∀x,Tc i0 X.env x=pure x:=by intro _;rfl) (hs1:∀(en:Env) x,Tc i1 en x=pure x:=by intro _ _;rfl) (hx:X.N[i]?=some x:=by rfl) (Qx:X.env.scope.names.lookup x=some .local:=by rfl)
  (hsw:Wl (.ListComp elt [⟨t0,i0,f0,0⟩,⟨t1,i1,f1,0⟩] So pos) (some (.Name x pos')) pos2.line X.env=pure true:=by rfl):A7 X c (.Assign [.Name x pos'] (.ListComp elt [⟨t0,i0,f0,0⟩,⟨t1,i1,f1,0⟩] So pos) pos2) (aZ i (jZ own.length cap gi0 gt0 gts0 gi1 gt1 gts1 ge)):=by
 intro Sq s σ H D I ⟨J,env,sr,w⟩
 rw [ZH]
 refine SE (U6 ?_)
 rw [show W8 [.Name x pos'] (.ListComp elt [⟨t0,i0,f0,0⟩,⟨t1,i1,f1,0⟩] So pos) pos2.line X.env=pure true from hsw]
 refine SE (SH ?_)
 rw [if_pos rfl,YS]
 refine SE (SE (Em own cap hi hbody hk hno hnames hcl hcap hloc hnd Qo hs hs1 (Q:=λv H1=>∃J1 r xx,Ext J H J1 H1/\RR c H J1 H1 r v/\toS r=.ok xx/\oP c J D (.nx (env.set i (some xx)))) I ⟨J,env,sr,aF (aL w) λr wr v J1 H1 e1 r1=>?_⟩ λacc C m s' H' fl hm ap hf hb ⟨J1,r,xx,e1,r1,q1,w1⟩=>?_))
 ·obtain ⟨xx,q,wr⟩:=oh wr
  exact ⟨J1,r,xx,e1,r1,q,wr⟩
 ·have I1:L2.Inv X Sq σ H' s':=hb s'.heap (YT ..)
  show S8 _ _ (do Wb pos';adz X.env x (.ref acc)) _ _ _
  refine SE (U6 (Z4 ?_))
  refine mZ I1 hN hx (.inl Qx) (v:=.ref acc) (u:=.ref acc) rfl (λs2 I2 ⟨a,sb,ha⟩=>?_) (.inr Qx)
  have hac:C≠a:=λz=>by
   rcases ha with e | e
   ·exact ap.2.1 (z.trans e)
   ·exact ap.2.2.1 _ _ e z.symm
  refine ⟨m,hm.sameBut sb hac,λh2 sb2=>?_⟩
  refine SH (SH ⟨σ.set i (some (.ref acc)),H',qJ I2 ap hf sb2 (o0:=default),?_⟩)
  exact w1 _ J1 H' e1.j (sr.set e1 r1 q1)
theorem Dr (own:List Str) (cap:List Nat){So:VN}{pos:Pos}{gi0 gi1:G (List D)}{gts0 gts1:G Bool}{ge:G R}(hi:ql X c t0 i0 gi0)
 (hbody:∀(cl:List (Str×Tg)) (C:Tg) (s:SJ) (H:Hp) (fp:List Tg),bF X.env.cells So.names []=some cl->lG (aV X own cap So cl C s H fp) c t0 gt0/\kj (aV X own cap So cl C s H fp) c f0 gts0/\zc (aV X own cap So cl C s H fp) c t1 i1 gi1/\lG (aV X own cap So cl C s H fp) c t1 gt1/\kj (aV X own cap So cl C s H fp) c f1 gts1/\QD (aV X own cap So cl C s H fp) c elt ge)
 (hk:So.kind=.function:=by rfl) (hno:fF X cap So=true:=by rfl) (hnames:(So.names.all λx=>!(x.2 == .local) || (So.names.lookup x.1 == some .local))=true:=by rfl)
 (hcl:(bF X.env.cells So.names []).isSome=true:=by rfl) (hcap:dS X cap=true:=by rfl) (hloc:dX X cap So=true:=by rfl) (hnd:fU cap=true:=by rfl) (Qo:X.calm=true:=by rfl)
 (hs:∀x,Tc i0 X.env x=pure x:=by intro _;rfl) (hs1:∀(en:Env) x,Tc i1 en x=pure x:=by intro _ _;rfl):QD X c (.ListComp elt [⟨t0,i0,f0,0⟩,⟨t1,i1,f1,0⟩] So pos) (jZ own.length cap gi0 gt0 gts0 gi1 gt1 gts1 ge):=
 ⟨Fc own cap hi.h (λcl C s H fp hc=>let ⟨a,b,d,e,f,g⟩:=hbody cl C s H fp hc;⟨a.h,b.h,d.h,e.h,f.h,g.h⟩) hk hno hnames hcl hcap hloc hnd Qo hs hs1⟩
theorem Dm (i:Nat) (own:List Str) (cap:List Nat){So:VN}{pos:Pos}{gi0 gi1:G (List D)}{gts0 gts1:G Bool}{ge:G R}{pos' pos2:Pos}{x:Str}(hN:X.N.Nodup) (hi:ql X c t0 i0 gi0)
 (hbody:∀(cl:List (Str×Tg)) (C:Tg) (s:SJ) (H:Hp) (fp:List Tg),bF X.env.cells So.names []=some cl->lG (aV X own cap So cl C s H fp) c t0 gt0/\kj (aV X own cap So cl C s H fp) c f0 gts0/\zc (aV X own cap So cl C s H fp) c t1 i1 gi1/\lG (aV X own cap So cl C s H fp) c t1 gt1/\kj (aV X own cap So cl C s H fp) c f1 gts1/\QD (aV X own cap So cl C s H fp) c elt ge)
 (hk:So.kind=.function:=by rfl) (hno:fF X cap So=true:=by rfl) (hnames:(So.names.all λx=>!(x.2 == .local) || (So.names.lookup x.1 == some .local))=true:=by rfl)
 (hcl:(bF X.env.cells So.names []).isSome=true:=by rfl) (hcap:dS X cap=true:=by rfl) (hloc:dX X cap So=true:=by rfl) (hnd:fU cap=true:=by rfl) (Qo:X.calm=true:=by rfl)
 (hs:∀x,Tc i0 X.env x=pure x:=by intro _;rfl) (hs1:∀(en:Env) x,Tc i1 en x=pure x:=by intro _ _;rfl) (hx:X.N[i]?=some x:=by rfl) (Qx:X.env.scope.names.lookup x=some .local:=by rfl)
 (hsw:Wl (.ListComp elt [⟨t0,i0,f0,0⟩,⟨t1,i1,f1,0⟩] So pos) (some (.Name x pos')) pos2.line X.env=pure true:=by rfl):iX X c (.Assign [.Name x pos'] (.ListComp elt [⟨t0,i0,f0,0⟩,⟨t1,i1,f1,0⟩] So pos) pos2) (aZ i (jZ own.length cap gi0 gt0 gts0 gi1 gt1 gts1 ge)):=
 ⟨E_ i own cap hN hi.h (λcl C s H fp hc=>let ⟨a,b,d,e,f,g⟩:=hbody cl C s H fp hc;⟨a.h,b.h,d.h,e.h,f.h,g.h⟩) hk hno hnames hcl hcap hloc hnd Qo hs hs1 hx Qx hsw⟩
end
noncomputable def Ds:SI->Option V
 | .int i _=>some (.int i)
 | .ref a=>some (.ref a)
 | _=>none
noncomputable def kR:List SI->Option (List V)
 | []=>some []
 | u::us=>match Ds u,kR us with
  | some v,some vs=>some (v::vs)
  | _,_=>none
open Classical in
noncomputable def lR (h:Uz):Hp:=λa=>match h.get? a with
 | some o=>if o.cls=.type "tuple" then (match o.data with
  | .seq Su _=>(kR Su.toList).map .tup
  | _=>none) else none
 | none=>none
theorem HB (h:Ds u=some v):RelV v u:=by
 cases u with
 | int i t=>cases h;exact ⟨t,rfl⟩
 | ref a=>cases h;exact rfl
 | _=>cases h
theorem xK:∀{us:List SI}{vs:List V},kR us=some vs->Vals vs us
 | [],vs,h=>by cases h;exact .nil
 | u::us,vs,h=>by
  unfold kR at h
  cases q:Ds u with
  | none=>rw [q] at h;cases h
  | some v=>
   cases q2:kR us with
   | none=>rw [q,q2] at h;cases h
   | some ws=>rw [q,q2] at h;cases h;exact .cons (HB q) (xK q2)
theorem iP {h:Uz}(q:lR h a=some o):∃vs ob Su n,o=.tup vs/\h.get? a=some ob/\ob.cls=.type "tuple"/\ob.data=.seq Su n/\Vals vs Su.toList:=by
 unfold lR at q
 split at q
 ·rename_i ob hob
  split at q
  ·rename_i hc
   split at q
   ·rename_i Su n hd
    cases z:kR Su.toList with
    | none=>rw [z] at q;cases q
    | some vs=>rw [z] at q;cases q;exact ⟨vs,ob,Su,n,rfl,hob,hc,hd,xK z⟩
   ·cases q
  ·cases q
 ·cases q
theorem KP {h:Uz}{Su:List SI}(p:h.IsTuple a Su.toArray) (q:kR Su=some vs):lR h a=some (.tup vs):=by
 obtain ⟨o,ho,hc,n,hd⟩:=p
 unfold lR
 rw [ho]
 simp only [hc,if_true,hd]
 rw [q];rfl
theorem qD {s:SJ}:HF [] (lR s.heap) s:=by
 refine ⟨λa xs h=>?_,λa xs h=>?_,λa h=>?_,λa ep SA h=>?_⟩
 ·rcases h with (h | ⟨o,h⟩) | ⟨o,Su,n,h,_⟩
  ·obtain ⟨vs,ob,Su,n,e,h1,h2,h3,h4⟩:=iP h
   cases e
   exact ⟨Su.toList,h4,ob,h1,h2,n,by rw [h3]⟩
  ·obtain ⟨vs,ob,Su,n,e,_⟩:=iP h;cases e
  ·cases h
 ·rcases h with (h | ⟨o,h⟩) | ⟨o,Su,n,h,_⟩
  ·obtain ⟨vs,ob,Su,n,e,_⟩:=iP h;cases e
  ·obtain ⟨vs,ob,Su,n,e,_⟩:=iP h;cases e
  ·cases h
 ·obtain ⟨vs,ob,Su,n,e,_⟩:=iP h;cases e
 ·obtain ⟨vs,ob,Su,n,e,_⟩:=iP h;cases e
theorem Ak {K:SG}{J:Hp}:∀{ds:List D}{vs:List V}{us:List SI},areKeys ds=true->aH K J ds vs->Vals vs us->kR us=some vs
 | _,_,_,_,.nil,.nil=>rfl
 | d::ds,v::vs,u::us,h,.cons r rs,.cons q qs=>by
  unfold areKeys at h
  rw [SN] at h
  have ih:=Ak h.2 rs qs
  have e:Ds u=some v:=by
   cases d with
   | int i=>cases r;obtain ⟨t,rfl⟩:=q;rfl
   | tup xs=>cases r;cases q;rfl
   | _=>cases h.1
  unfold kR
  rw [e,ih]
mutual
theorem ly {K:SG}{J:Hp}{s:SJ}(F:HF K J s):∀{d:D}{v:V},isKey d=true->Rep K J d v->Rep [] (lR s.heap) d v
 | .int i,_,_,.int _=>.int i
 | .tup ds,_,hk,.tup (a:=a) (vs:=vs) h hs=>by
  obtain ⟨Su,r,p⟩:=F.t _ _ h
  exact .tup (.inl (.inl (KP p (Ak hk hs r)))) (Al F hk hs)
 | .non,_,hk,_=>nomatch hk
 | .bl _,_,hk,_=>nomatch hk
 | .str _,_,hk,_=>nomatch hk
 | .lst _,_,hk,_=>nomatch hk
 | .emp,_,hk,_=>nomatch hk
 | .exn _ _ _,_,hk,_=>nomatch hk
 | .dct _ _,_,hk,_=>nomatch hk
theorem Al {K:SG}{J:Hp}{s:SJ}(F:HF K J s):∀{ds:List D}{vs:List V},areKeys ds=true->aH K J ds vs->aH [] (lR s.heap) ds vs
 | [],_,_,.nil=>.nil
 | d::ds,_,h,.cons r rs=>by
  unfold areKeys at h
  rw [SN] at h
  exact .cons (ly F h.1 r) (Al F h.2 rs)
end
theorem Fy {h h':Uz}{o:Obj} {es ep}(ho:h.get? d=some o) (hd:o.data=.dict es ep) (sb:TU d h h'):aU (lR h) (lR h'):=λa x q=>by
 obtain ⟨vs,ob,Su,n,rfl,h1,h2,h3,h4⟩:=iP q
 have hne:a≠d:=by
  rintro rfl
  rw [ho] at h1;cases h1
  rw [hd] at h3;cases h3
 unfold lR at q ⊢
 rw [sb.2 a hne]
 exact q
def KD:Type:={d:D // isKey d=true/\dep d<=8}
noncomputable instance:DecidableEq KD:=λa b=>acJ (a=b)
def Dt (A:TR):Prop:=A.units + 16 < UL
noncomputable def oV (prog:S_) (w:TL):HeapKind prog w KD where
 is:=λh k a=>Rep [] (lR h) k.1 (.ref a)
 hash:=λk=>bV k.1
 draws:=λk=>kK k.1
 room:=Dt
 inj:=fun {h a x y} hx hy=>Y8 (Rep.inj (s:=({heap:=h}:SJ)) qD hx hy (by have:=x.2.2;omega) (by have:=y.2.2;omega))
 keeps:=λhx ho hd sb=>Rep.mono (Fy ho hd sb) hx
 pyHash:=fun {A E s k a Q} hu hx q=>wK k.1 (.ref a) (.ref a) A s qD k.2.1 hx rfl (by have:=k.2.2;unfold Dt at hu;omega) E s Q qD q
 eqBool:=fun {A E s x y a b Q} hu hx hy q=>by
  have h:=nE (s:=s) qD A hx hy rfl rfl (u:=.ref a) (u':=.ref b) (by have:=x.2.2;unfold Dt at hu;omega) (by have:=x.2.2;omega) (by have:=y.2.2;omega)
  refine h _ _ _ _ ?_
  have e:bg x.1 y.1=decide (x=y):=by
   rw [Uq,wA x.2.1 y.2.1,decide_eq_true_eq]
   exact ⟨λz=>Y8 z,λz=>congrArg Subtype.val z⟩
  rw [e];exact q
 quiet:=fun {A E s k a Q} hx q=>nY 8 qD ⟨k.1,.ref a,k.2.1,k.2.2,hx,rfl⟩ q
noncomputable def iz:List D->List D->D->Option D
 | k::ks,v::vs,x=>if bg k x=true then some v else iz ks vs x
 | _,_,_=>none
section
variable {K:SG}{J:Hp}{s:SJ}{P:S_}{w:TL}
theorem Bs (F:HF K J s):∀{ks:List D}{us ws:List V}{es:List Zu},areKeys ks=true->(∀k∈ks,∃xs,k=.tup xs)->deps ks<=8->aH K J ks us->ws.length=us.length->YG yS ((cH ks).zip (us.zip ws)) es->
  ∃xs:List (KD×Tg×SI),es=xs.map (ab6 (oV P w))/\xs.map (λx=>x.1.1)=ks/\(∀x∈xs,(oV P w).is s.heap x.1 x.2.1)/\Vals ws (xs.map λx=>x.2.2)/\Vals us (xs.map λx=>VZ x.2.1)
 | _,_,[],_,_,_,_,.nil,_,h=>by
  cases h
  exact ⟨[],rfl,rfl,λ_ h=>(nomatch h),.nil,.nil⟩
 | k::ks,u::us,v::ws,es,hk,ht,hd,.cons r rs,hl,h=>by
  unfold areKeys at hk
  rw [SN] at hk
  unfold deps at hd
  have h:YG yS ((bV k,u,v)::(cH ks).zip (us.zip ws)) es:=h
  cases h with
  | @cons _ e _ es' h1 h2=>
   obtain ⟨xs,e1,e2,e3,e4,e5⟩:=Bs F hk.2 (λk hk=>ht k (SS _ hk)) (by omega) rs (by simpa using hl) h2
   obtain ⟨xs',rfl⟩:=ht k SV
   obtain ⟨q1,q2,q3⟩:=h1
   obtain ⟨eh,ek,ev⟩:=e
   cases r with
   | tup t1 t2=>
    rename_i a vs
    have q2:ek=.ref a:=q2
    have q1:eh=bV (.tup xs'):=q1
    subst q2;subst q1
    refine ⟨(⟨.tup xs',hk.1,by omega⟩,a,ev)::xs,by rw [e1];rfl,by rw [Td,e2],λx hx=>?_,.cons q3 e4,.cons rfl e5⟩
    (rcases S7.mp hx with rfl | hx)
    ·exact ly F hk.1 (.tup t1 t2)
    ·exact e3 x hx
 | [],us,v::ws,_,_,_,_,rs,hl,_=>by cases rs;cases hl
 | k::ks,us,[],_,_,_,_,rs,hl,_=>by cases rs;cases hl
theorem GW {xs:List (KD×Tg×SI)}{ks:List D}(e:xs.map (λx=>x.1.1)=ks) (nd:ks.Nodup):(xs.map (·.1)).Nodup:=by
 rw [<-e] at nd
 have this:((xs.map (·.1)).map (λk:KD=>k.1)).Nodup:=by rw [T9];exact nd
 exact acY (λk:KD=>k.1) (λa b h e=>h (congrArg (λk:KD=>k.1) e)) this
theorem yw:∀{xs:List (KD×Tg×SI)}{ks vs:List D}{ws:List V}(k:KD),xs.map (λx=>x.1.1)=ks->aH K J vs ws->Vals ws (xs.map λx=>x.2.2)->
  (∀d,iz ks vs k.1=some d->∃p v,acK xs k=some p/\RelV v p.2/\Rep K J d v)/\(iz ks vs k.1=none->acK xs k=none)
 | [],_,vs,ws,k,e,rs,rv=>by
  subst e
  exact ⟨λd h=>(nomatch h),λ_=>rfl⟩
 | x::xs,_,_,_,k,e,.cons r rs,.cons q rv=>by
  subst e
  obtain ⟨i1,i2⟩:=yw (xs:=xs) k rfl rs rv
  rw [Td]
  unfold iz
  by_cases c:x.1=k
  ·have:bg x.1.1 k.1=true:=by rw [c];exact f_ _
   rw [if_pos this]
   have ek:acK (x::xs) k=some x.2:=by unfold acK;rw [List.find?_cons_of_pos (by simpa using c)];rfl
   exact ⟨λd h=>by cases h;exact ⟨x.2,_,ek,q,r⟩,λh=>nomatch h⟩
  ·have:¬bg x.1.1 k.1=true:=λh=>c (Y8 ((wA x.1.2.1 k.2.1).mp h))
   rw [if_neg this]
   have ek:acK (x::xs) k=acK xs k:=by unfold acK;rw [List.find?_cons_of_neg (by simpa using c)]
   rw [ek]
   exact ⟨i1,i2⟩
theorem tK {H:Hp}(F:HF K J s) (F':HF K H s) (h:eu K J H a ks vs):∃(xs:List (KD×Tg×SI)) (us ws:List V),s.heap.DictOfH (oV P w) a xs/\xs.map (λx=>x.1.1)=ks/\aH K J ks us/\aH K J vs ws/\Vals ws (xs.map λx=>x.2.2)/\Vals us (xs.map λx=>VZ x.2.1)/\(a == Wn)=false:=by
 obtain ⟨us,ws,ep,h,hk,hv,ok,hs⟩:=h
 obtain ⟨o,es,h1,h2,h3,h4⟩:=F'.d _ _ _ h
 obtain ⟨xs,e1,e2,e3,e4,e5⟩:=Bs (P:=P) (w:=w) F ok.key ok.tp ok.dp hk (by rw [<-hv.length,<-hk.length,hs.2]) h4
 exact ⟨xs,us,ws,⟨o,es,ep,h1,h2,h3,e1,e3,GW e2 ok.nd⟩,e2,hk,hv,e4,e5,hs.1⟩
end
noncomputable def d9:D->Bool
 | .tup xs=>areKeys xs && decide (deps xs + 1<=8)
 | _=>false
theorem jy (h:d9 k=true):∃xs,k=.tup xs/\isKey k=true/\dep k<=8:=by
 cases k with
 | tup xs=>
  unfold d9 at h
  rw [SN] at h
  exact ⟨xs,rfl,h.1,of_decide_eq_true h.2⟩
 | _=>cases h
noncomputable def wV:R->Option (List D×List D)
 | .d (.dct ks vs)=>some (ks,vs)
 | .mo ks vs=>some (ks,vs)
 | .mb ks vs=>some (ks,vs)
 | .mf ks vs=>some (ks,vs)
 | _=>none
noncomputable def iN (x y:R):M R:=match wV x,y with
 | some z,.d k=>if d9 k=true then (match iz z.1 z.2 k with
  | some d=>.ok (.d d)
  | none=>.bad) else .bad
 | _,_=>.bad
section
variable {X:Cx}{c:C}{a b:TV}{ga gb:G R}{pos:Pos}
theorem RR.dk {He J H:Hp}(hp:HI c J H):∀{r:R}{v:V}{z:List D×List D},RR c He J H r v->wV r=some z->∃a,v=.ref a/\eu c.K J H a z.1 z.2
 | .d (.dct ks vs),v,z,h,e=>by
  cases e
  cases h with
  | dct h1 h2 h3 h4 h5=>exact ⟨_,rfl,_,_,_,hp.sub _ _ h1,h2,h3,h4,h5⟩
 | .mo ks vs,v,z,⟨a,h1,h2,_⟩,e=>by cases e;exact ⟨a,h1,h2⟩
 | .mf ks vs,v,z,⟨a,h1,h2,_⟩,e=>by cases e;exact ⟨a,h1,h2⟩
 | .mb ks vs,v,z,⟨a,h1,h2⟩,e=>by cases e;exact ⟨a,h1,h2.mono (aU.refl _) hp.ent⟩
 | .d .non,_,_,_,e=>nomatch e
 | .d (.bl _),_,_,_,e=>nomatch e
 | .d (.int _),_,_,_,e=>nomatch e
 | .d (.str _),_,_,_,e=>nomatch e
 | .d (.tup _),_,_,_,e=>nomatch e
 | .d (.lst _),_,_,_,e=>nomatch e
 | .d .emp,_,_,_,e=>nomatch e
 | .d (.exn _ _ _),_,_,_,e=>nomatch e
 | .l _ _,_,_,_,e=>nomatch e
theorem Ma (hu:X.A.units + 64 < UL):p7 X (λx y H Q=>∃J p ks vs k d,aU J H/\x=.ref p/\eu X.K J H p ks vs/\Rep X.K J k y/\d9 k=true/\iz ks vs k=some d/\∀v,Rep X.K J d v->Q v H):=by
 intro value slice Sq s σ H x y v u Q I rx ry h hs
 obtain ⟨J,p,ks,vs,k,d,sm,rfl,hd,hk,ok,lk,q⟩:=h
 have F:HF X.K J s:=HF.of (c:=⟨X.K,H,H,λ_=>True⟩) I sm
 obtain ⟨kx,rfl,k1,k2⟩:=jy ok
 obtain ⟨r,rfl⟩:∃r,y=.ref r:=by cases hk;exact ⟨_,rfl⟩
 cases rx
 cases ry
 obtain ⟨xs,us,ws,hm,e2,_,hv,e4,_,hsm⟩:=tK (P:=X.prog) (w:=X.w) F (gH I) hd
 obtain ⟨pp,v,ea,rv,rd⟩:=(yw ⟨.tup kx,k1,k2⟩ e2 hv e4).1 d lk
 have room:(oV X.prog X.w).room X.A.in1:=by show X.A.units + 1 + 16 < UL;omega
 exact Xs (x:=pp.2) hm.typeIs slot_dict_getitem.lookup (wpAny_getItem_heap (Q:=λr s'=>r=pp.2/\EP X Sq σ Q r s') room (ly F k1 hk) hm ea ⟨rfl,v,H,I.tok _,rv,q v rd⟩) hs
theorem jS (hu:X.A.units + 64 < UL) (ha:QD X c a ga) (hb:QD X c b gb) (hK:X.K=c.K:=by rfl) (hs:rC b:=by exact λ_ _=>rfl):QD X c (.Subscript a b pos) (g2 iN ga gb):=have ha:=ha.h;have hb:=hb.h;⟨IJ (Ma hu) (by
 intro He He' J H x y u v Q hp rx ry w
 unfold iN at w
 split at w
 ·rename_i hz
  obtain ⟨p,rfl,hd⟩:=rx.dk hp hz
  split at w
  ·rename_i ok
   split at w
   ·rename_i d hl
    exact ⟨J,p,_,_,_,d,hp.sub,rfl,by rw [hK];exact hd,by rw [hK];exact ry,ok,hl,λv rd=>w v J H (Ext.refl hp.sub) (by rw [hK] at rd;exact rd)⟩
   ·exact w.elim
  ·exact w.elim
 ·exact w.elim) ha hb hs⟩
end
noncomputable def wG:List D->List D->D->D->List D
 | k::ks,v::vs,x,d=>(if bg k x=true then d else v)::wG ks vs x d
 | _,vs,_,_=>vs
def dput (z:List D×List D) (k d:D):List D×List D:=if (iz z.1 z.2 k).isSome=true then (z.1,wG z.1 z.2 k d) else (z.1++[k],z.2++[d])
noncomputable def jF (ys:List D):List D×List D:=ys.foldl (λz y=>match y with
 | .tup [k,d]=>dput z k d
 | _=>z) ([],[])
theorem oE (ys:List D) (k d:D):jF (ys++[.tup [k,d]])=dput (jF ys) k d:=by unfold jF;rw [List.foldl_append];rfl
inductive cM (K:SG) (J:Hp):List (KD×Tg×SI)->List D->List V->List D->List V->Prop
 | nil:cM K J [] [] [] [] []
 | cons {x:KD×Tg×SI}{xs:List (KD×Tg×SI)}{ks vs:List D}{us ws:List V}{d:D}{v:V}:RelV v x.2.2->Rep K J d v->cM K J xs ks us vs ws->cM K J (x::xs) (x.1.1::ks) (.ref x.2.1::us) (d::vs) (v::ws)
section
variable {K:SG}{J:Hp}{P:S_}{w:TL}
theorem cM.of:∀{xs:List (KD×Tg×SI)}{us:List V}{vs:List D}{ws:List V},aH K J vs ws->Vals ws (xs.map λx=>x.2.2)->Vals us (xs.map λx=>VZ x.2.1)->cM K J xs (xs.map λx=>x.1.1) us vs ws
 | [],_,_,_,.nil,.nil,.nil=>.nil
 | x::xs,u::us,_,_,.cons r rs,.cons q qs,.cons p ps=>by
  have:u=.ref x.2.1:=by
   cases u with
   | ref a=>cases p;rfl
   | int i=>obtain ⟨t,h⟩:=p;cases h
   | str i=>obtain ⟨t,h⟩:=p;cases h
   | byt i=>obtain ⟨t,h⟩:=p;cases h
   | flt i=>obtain ⟨t,h⟩:=p;cases h
   | non=>cases p
   | bl b=>cases p
   | ty n=>cases p
  subst this
  exact .cons q r (cM.of rs qs ps)
theorem cM.put {k:KD}(rv:RelV v u) (rd:Rep K J d v):∀{xs:List (KD×Tg×SI)}{ks vs:List D}{us ws:List V},cM K J xs ks us vs ws->∃ws',cM K J (xs.map (putAt k u)) ks us (wG ks vs k.1 d) ws'
 | _,_,_,_,_,.nil=>⟨[],.nil⟩
 | x::xs,_,_,_,_,.cons q r t=>by
  obtain ⟨ws',ih⟩:=cM.put rv rd t
  rw [Td]
  unfold wG
  by_cases c:x.1=k
  ·have:bg x.1.1 k.1=true:=by rw [c];exact f_ _
   rw [if_pos this]
   have e:putAt k u x=(x.1,x.2.1,u):=by unfold putAt;rw [if_pos c]
   rw [e]
   exact ⟨v::ws',.cons (x:=(x.1,x.2.1,u)) rv rd ih⟩
  ·have:¬bg x.1.1 k.1=true:=λh=>c (Y8 ((wA x.1.2.1 k.2.1).mp h))
   rw [if_neg this]
   have e:putAt k u x=x:=by unfold putAt;rw [if_neg c]
   rw [e]
   exact ⟨_,.cons q r ih⟩
theorem cM.snoc {k:KD}{a:Tg}{u:SI}{d:D}{v:V}(rv:RelV v u) (rd:Rep K J d v):∀{xs:List (KD×Tg×SI)}{ks vs:List D}{us ws:List V},cM K J xs ks us vs ws->cM K J (xs++[(k,a,u)]) (ks++[k.1]) (us++[.ref a]) (vs++[d]) (ws++[v])
 | _,_,_,_,_,.nil=>.cons (x:=(k,a,u)) rv rd .nil
 | _,_,_,_,_,.cons q r t=>.cons q r (cM.snoc rv rd t)
theorem cM.ents:∀{xs:List (KD×Tg×SI)}{ks vs:List D}{us ws:List V},cM K J xs ks us vs ws->YG yS ((cH ks).zip (us.zip ws)) (xs.map (ab6 (oV P w)))
 | _,_,_,_,_,.nil=>.nil
 | _,_,_,_,_,.cons q r t=>.cons ⟨rfl,rfl,q⟩ t.ents
theorem cM.reps:∀{xs:List (KD×Tg×SI)}{ks vs:List D}{us ws:List V},cM K J xs ks us vs ws->aH K J vs ws
 | _,_,_,_,_,.nil=>.nil
 | _,_,_,_,_,.cons q r t=>.cons r t.reps
theorem cM.keys:∀{xs:List (KD×Tg×SI)}{ks vs:List D}{us ws:List V},cM K J xs ks us vs ws->xs.map (λx=>x.1.1)=ks
 | _,_,_,_,_,.nil=>rfl
 | _,_,_,_,_,.cons q r t=>by rw [Td,t.keys]
theorem cM.len:∀{xs:List (KD×Tg×SI)}{ks vs:List D}{us ws:List V},cM K J xs ks us vs ws->ks.length=vs.length
 | _,_,_,_,_,.nil=>rfl
 | _,_,_,_,_,.cons q r t=>by rw [Uv,Uv,t.len]
theorem sE:∀{xs ys:List D},areKeys (xs++ys)=(areKeys xs && areKeys ys)
 | [],_=>rfl
 | x::xs,ys=>by
  show (isKey x && areKeys (xs++ys))=((isKey x && areKeys xs) && areKeys ys)
  rw [sE,Bool.and_assoc]
theorem zI:∀{xs ys:List D}{n:Nat},deps xs<=n->deps ys<=n->deps (xs++ys)<=n
 | [],_,_,_,h=>h
 | x::xs,ys,n,h1,h2=>by
  unfold deps at h1
  have:=zI (xs:=xs) (ys:=ys) (n:=n) (by omega) h2
  show max (dep x) (deps (xs++ys))<=n
  omega
theorem aH.snoc (h:aH K J ds vs) (r:Rep K J d v):aH K J (ds++[d]) (vs++[v]):=h.append (.cons r .nil)
end
section
variable {X:Cx}
theorem BR {s:SJ}{H J:Hp}(I:Inv X Sq σ H s) (sub:aU J H){ks vs:List D}(h:eu X.K J H p ks vs):
  ∃xs:List (KD×Tg×SI),s.heap.DictOfH (oV X.prog X.w) p xs/\xs.length=ks.length/\∀{kxs:List D}{a:Tg}{d:D}{v:V}{u:SI}(k1:isKey (.tup kxs)=true) (k2:dep (.tup kxs)<=8),Rep X.K J (.tup kxs) (.ref a)->Rep X.K J d v->RelV v u->
   ∀(h':Uz) (tk:Nat),h'.DictOfH (oV X.prog X.w) p (storedH xs ⟨.tup kxs,k1,k2⟩ a u)->TU p s.heap h'->
    ∃o,Inv X Sq σ (upd H p o) {s with heap:=h',toks:=tk}/\eu X.K J (upd H p o) p (dput (ks,vs) (.tup kxs) d).1 (dput (ks,vs) (.tup kxs) d).2/\(dput (ks,vs) (.tup kxs) d).1.length<=ks.length + 1:=by
 have F:HF X.K J s:=HF.of (c:=⟨X.K,H,H,λ_=>True⟩) I sub
 obtain ⟨xs,us,ws,hm,q2,h3,h4,q4,q5,h7⟩:=tK (P:=X.prog) (w:=X.w) F (gH I) h
 obtain ⟨_,_,_,p9,_,_,h5,_⟩:=h
 have Sz:cM X.K J xs ks us vs ws:=by
  have:=cM.of h4 q4 q5
  rw [q2] at this
  exact this
 refine ⟨xs,hm,by rw [<-q2,SK],fun {kxs a d v u} k1 k2 rk rd r9 h' tk hm' sb=>?_⟩
 obtain ⟨o',es',ep',g1',g2'',g3',g4',g5',g6'⟩:=hm'
 obtain ⟨l1,l2⟩:=yw (K:=X.K) (J:=J) ⟨.tup kxs,k1,k2⟩ q2 h4 q4
 have key:∃us' ws',cM X.K J (storedH xs ⟨.tup kxs,k1,k2⟩ a u) (dput (ks,vs) (.tup kxs) d).1 us' (dput (ks,vs) (.tup kxs) d).2 ws'/\aH X.K J (dput (ks,vs) (.tup kxs) d).1 us'/\areKeys (dput (ks,vs) (.tup kxs) d).1=true/\deps (dput (ks,vs) (.tup kxs) d).1<=8/\(∀k∈(dput (ks,vs) (.tup kxs) d).1,∃xs,k=.tup xs)/\(dput (ks,vs) (.tup kxs) d).1.length<=ks.length + 1:=by
  unfold dput
  cases lk:iz ks vs (.tup kxs) with
  | some z=>
   obtain ⟨pp,v,ea,_,_⟩:=l1 z lk
   rw [storedH_old ea]
   obtain ⟨ws',t⟩:=cM.put (k:=⟨.tup kxs,k1,k2⟩) r9 rd Sz
   exact ⟨us,ws',t,h3,h5.key,h5.dp,h5.tp,VD _⟩
  | none=>
   rw [storedH_new (l2 lk)]
   refine ⟨us++[.ref a],ws++[v],cM.snoc (k:=⟨.tup kxs,k1,k2⟩) r9 rd Sz,h3.snoc rk,?_,zI h5.dp (by show max (dep (.tup kxs)) 0<=8;omega),λk hk=>?_,by simp⟩
   ·show areKeys (ks++[.tup kxs])=true
    rw [sE,h5.key]
    show (true && (isKey (.tup kxs) && true))=true
    rw [k1];rfl
   ·rcases TF.mp hk with h | h
    ·exact h5.tp k h
    ·exact ⟨kxs,S6.mp h⟩
 obtain ⟨us',ws',t,tk',kk,kd,kt,kl⟩:=key
 have nd':(dput (ks,vs) (.tup kxs) d).1.Nodup:=by
  rw [<-t.keys]
  have:((storedH xs ⟨.tup kxs,k1,k2⟩ a u).map (·.1)).Nodup:=g6'
  have h:=adF (S:=(·≠·)) (λk:KD=>k.1) (λa b (h:a≠b) e=>h (Y8 e)) this
  rw [T9] at h
  exact h
 refine ⟨lJ p ep' ((cH (dput (ks,vs) (.tup kxs) d).1).zip (us'.zip ws')),I.write (e:=p) (by rw [p9];trivial) (.inl rfl) (λb u hb q=>by rw [sb.2 b hb];exact q) ⟨_,g1'⟩ ⟨⟨o',es',g1',g2'',g3',by rw [g4'];exact t.ents⟩,⟨_,g1'⟩,?_⟩,⟨us',ws',ep',bR,tk',t.reps,⟨kk,nd',kd,kt⟩,h7,t.len⟩,kl⟩
 rintro h1 h2 ⟨o,es,a1,a2⟩ e
 exact ⟨o,es,e o a1,a2⟩
end
def Co (c:C) (p:Tg):Hp->Hp->List D->Prop:=λJ H ys=>eu c.K J H p (jF ys).1 (jF ys).2/\J p=none/\(jF ys).1.length<=ys.length
theorem tu:yM (Co c p):=⟨fun {J H J' H' ys} ⟨h1,h2,h3⟩ e=>⟨h1.mono e.j e.h,e.frz _ h1.ne h2,h3⟩⟩
noncomputable def tE (gk gv:G R):Ev->M (List D×Ev):=λe=>gk e >>= λr=>toD r >>= λk=>gv e >>= λr2=>toD r2 >>= λd=>if d9 k=true then .ok ([.tup [k,d]],e) else .bad
abbrev Dk (kx vx:TV) (p:Tg) (env:Env):Sem Unit:=do
 let kv <-eval kx env
 let vv <-holding [kv] (eval vx env)
 Wb {kx.pos with endLine:=vx.pos.endLine,endCol:=vx.pos.endCol}
 holding [kv,vv] (dictSet p kv vv)
section
variable {X:Cx}{c:C}{p:Tg}{J2 H2:Hp}{kx vx:TV}{gk gv:G R}
theorem Bf (hu:X.A.units + 64 < UL) (hK:X.K=c.K) (hx:∀v s,X.xe v s->False) (hp2:H2 p=none) (hp0:c.H0 p=none) (hk:PD X c kx gk) (hv:PD X c vx gv):vN X c p (Co c p) J2 H2 1 (Dk kx vx p X.env) (tE gk gv):=by
 intro Sq s σ H J env ys Qf I x2 sr no ⟨h1,h2,h8⟩ hl w
 refine SE (Uc (hk _ s σ H (λv H8=>∃J8 k,Ext J H J8 H8/\Rep c.K J8 k v/\cI (gv env >>= λr2=>toD r2 >>= λd=>if d9 k=true then M.ok ([.tup [k,d]],env) else .bad) Qf c.T) I ⟨J,env,sr,aF (aL w) λr wr v J8 H8 e8 r8=>?_⟩) (λu8 s8 ⟨v8,H8,I8,r8,J8,k,e8,rk,w8⟩=>?_) λv s f=>(hx v s f).elim)
 ·obtain ⟨y,q,wr⟩:=jd wr
  obtain ⟨J9,e9,_,ry⟩:=freeze e8 r8 q
  exact ⟨J9,y,e9,ry,wr⟩
 refine SE (TQ (Uc (hv _ s8 σ H8 (λv H9=>∃J9 d,Ext J8 H8 J9 H9/\Rep c.K J9 d v/\cI (if d9 k=true then M.ok ([.tup [k,d]],env) else .bad) Qf c.T) I8 ⟨J8,env,sr.ext e8,aF (aL w8) λr wr v J9 H9 e9 r9=>?_⟩) (λu9 s9 ⟨v9,H9,I9,r9,J9,d,e9,rd,w9⟩=>?_) λv s f=>(hx v s f).elim))
 ·obtain ⟨y,q,wr⟩:=jd wr
  obtain ⟨J9',e9',_,ry⟩:=freeze e9 r9 q
  exact ⟨J9',y,e9',ry,wr⟩
 refine SE (U6 (TQ ?_))
 by_cases ok:d9 k=true
 case neg=>rw [if_neg ok] at w9;exact w9.elim
 rw [if_pos ok] at w9
 have w9:Qf ([.tup [k,d]],env):=w9
 obtain ⟨kxs,rfl,k1,k2⟩:=jy ok
 have ee:=e8.trans e9
 have rk9:=rk.mono e9.j
 obtain ⟨a,rfl⟩:∃a,v8=.ref a:=by cases rk;exact ⟨_,rfl⟩
 cases r8
 have J9p:J9 p=none:=ee.frz _ h1.ne h2
 rw [<-hK] at rk9 rd
 have h9:=h1.mono ee.j ee.h
 rw [<-hK] at h9
 obtain ⟨xs,hm,lx,put⟩:=BR I9 ee.sub h9
 refine wpAny_dictSet_heap (knd:=oV X.prog X.w) (k:=⟨.tup kxs,k1,k2⟩) (show X.A.units + 16 < UL by omega) (ly (HF.of (c:=⟨X.K,H9,H9,λ_=>True⟩) I9 ee.sub) k1 rk9) hm (λh' hm' sb=>?_) (by rw [lx];omega)
 obtain ⟨o,W,hd,kl⟩:=put k1 k2 rk9 rd r9 h' _ hm' sb
 refine ⟨σ,_,J9,([.tup [.tup kxs,d]],env),W,(x2.trans ee).other hp2 J9p,ee.j,(sr.ext ee).other J9p hp0 no,no,⟨by rw [oE,<-hK];exact hd,J9p,?_⟩,SW _,w9⟩
 rw [oE,Te];exact Tz kl (Nat.add_le_add_right h8 1)
end
noncomputable def rH (n:Nat) (cap:List Nat) (gi0:G (List D)) (gt0:GT) (gts0:G Bool) (gi1:G (List D)) (gt1:GT) (gts1:G Bool) (gk gv:G R):G R:=jr 10000 n cap gi0 gt0 gts0 (jl gi1 gt1 gts1 (tE gk gv)) (λys=>.ok (.d (.dct (jF ys).1 (jF ys).2)))
theorem K8 (kx vx t0 i0 t1 i1:TV) (f0 f1:List TV) (So:VN) (pos:Pos) (it acc:SI) (env:Env):
  XR (.DictComp kx vx [⟨t0,i0,f0,0⟩,⟨t1,i1,f1,0⟩] So pos) 0 it acc env=(do
   Wb i0.pos
   match <-WJ it with
   | none=>pure (.done .next)
   | some v=>
    VC t0 it v
    assign t0 env v
    let mut ok:=true
    for c in f0 do
     if ok then ok <-ZY c env (eval c env)
    if ok then
     let x <-eval i1 env
     Wb i1.pos
     let x <-Tc i1 env x
     let _ <-runOwn (.compStart (.DictComp kx vx [⟨t0,i0,f0,0⟩,⟨t1,i1,f1,0⟩] So pos) 1 (<-holding [x] (Yw x)) acc env) env
    again (.compLoop (.DictComp kx vx [⟨t0,i0,f0,0⟩,⟨t1,i1,f1,0⟩] So pos) 0 it acc env)):=by rfl
theorem NG (kx vx t0 i0 t1 i1:TV) (f0 f1:List TV) (So:VN) (pos:Pos) (it acc:SI) (env:Env):
  XR (.DictComp kx vx [⟨t0,i0,f0,0⟩,⟨t1,i1,f1,0⟩] So pos) 0 it acc env=m9 t0 i0 f0 it env (tU (.DictComp kx vx [⟨t0,i0,f0,0⟩,⟨t1,i1,f1,0⟩] So pos) i1 acc env) (again (.compLoop (.DictComp kx vx [⟨t0,i0,f0,0⟩,⟨t1,i1,f1,0⟩] So pos) 0 it acc env)):=by
 rw [K8]
 refine bind_congr λ_=>bind_congr λr=>?_
 cases r with
 | none=>rfl
 | some v=>
  refine bind_congr λ_=>bind_congr λ_=>bind_congr λok=>?_
  cases ok with
  | false=>rfl
  | true=>simp only [tU,bind_assoc,pure_bind,if_true]
theorem NH (kx vx t0 i0 t1 i1:TV) (f0 f1:List TV) (So:VN) (pos:Pos) (it:SI) (p:Tg) (env:Env):
  XR (.DictComp kx vx [⟨t0,i0,f0,0⟩,⟨t1,i1,f1,0⟩] So pos) 1 it (.ref p) env=m9 t1 i1 f1 it env (Dk kx vx p env) (again (.compLoop (.DictComp kx vx [⟨t0,i0,f0,0⟩,⟨t1,i1,f1,0⟩] So pos) 1 it (.ref p) env)):=by rfl
section
variable {X:Cx}{c:C}
theorem LH (hu:X.A.units + 64 < UL) (hK:X.K=c.K) (own:List Str) (cap:List Nat){So:VN}{pos:Pos}{gi0 gi1:G (List D)}{gts0 gts1:G Bool}{gk gv:G R}(hi:qh X c t0 i0 gi0)
 (hbody:∀(cl:List (Str×Tg)) (C:Tg) (s:SJ) (H:Hp) (fp:List Tg),bF X.env.cells So.names []=some cl->ji (aV X own cap So cl C s H fp) c t0 gt0/\gJ (aV X own cap So cl C s H fp) c f0 gts0/\za (aV X own cap So cl C s H fp) c t1 i1 gi1/\ji (aV X own cap So cl C s H fp) c t1 gt1/\gJ (aV X own cap So cl C s H fp) c f1 gts1/\PD (aV X own cap So cl C s H fp) c kx gk/\PD (aV X own cap So cl C s H fp) c vx gv)
 (hk:So.kind=.function:=by rfl) (hno:fF X cap So=true:=by rfl) (hnames:(So.names.all λx=>!(x.2 == .local) || (So.names.lookup x.1 == some .local))=true:=by rfl)
 (hcl:(bF X.env.cells So.names []).isSome=true:=by rfl) (hcap:dS X cap=true:=by rfl) (hloc:dX X cap So=true:=by rfl) (hnd:fU cap=true:=by rfl) (Qo:X.calm=true:=by rfl)
 (hs:∀x,Tc i0 X.env x=pure x:=by intro _;rfl) (hs1:∀(en:Env) x,Tc i1 en x=pure x:=by intro _ _;rfl)
 {H:Hp}{Q:VK}{use:Option (SI->Sem Unit)}{Q0:SI->SJ->Prop}(I:Inv X Sq σ H s) (h:tD c (rH own.length cap gi0 gt0 gts0 gi1 gt1 gts1 gk gv) σ H Q)
 (Qs:∀(acc C:Tg) (m:Str->Option SI) (s':SJ) (H':Hp) (fl:Flow),s'.heap.Ns C m->((C∈X.ex\/X.s₀.heap.objs.size<=C)/\C≠X.env.locals/\(∀x c,X.env.cells.lookup x=some c->c≠C)/\∀p∈X.pn++Sq,p.1≠C)->H' C=none->(∀h'',TU C s'.heap h''->Inv X Sq σ H' {s' with heap:=h''})->Q (.ref acc) H'->aaA (Ti X.prog X.w) X.A X.xe use Q0 (.ref acc) C (.ok fl) s'):
  S8 (Ti X.prog X.w) X.A (comprehension (.DictComp kx vx [⟨t0,i0,f0,0⟩,⟨t1,i1,f1,0⟩] So pos) So X.env pos' newDict false (eval i0 X.env) use) Q0 X.xe s:=by
 refine oB (e:=.DictComp kx vx [⟨t0,i0,f0,0⟩,⟨t1,i1,f1,0⟩] So pos) (ob:={cls:=.type "dict",data:=.dict #[]}) (o0:=λa=>lJ a 0 []) (Acc:=Co c) (N:=1000 * 1) (lim:=10000) (m:=λp env=>tU (.DictComp kx vx [⟨t0,i0,f0,0⟩,⟨t1,i1,f1,0⟩] So pos) i1 (.ref p) env) own cap rfl hi
  (λs Q E q=>TN q) (λh H=>⟨⟨_,#[],SY _ rfl,⟨rfl,rfl,rfl⟩,rfl,.nil⟩,⟨_,SY _ rfl⟩,λh1 h2 ⟨o,es,a1,a2⟩ e=>⟨o,es,e o a1,a2⟩⟩) (λp=>tu) (λp J H hsm h1 h2=>⟨⟨[],[],0,h1,.nil,.nil,⟨rfl,VA,Tp _,λ_ h=>(nomatch h)⟩,beq_eq_false_iff_ne.mpr (Vi (Tr hsm)),rfl⟩,h2,SW _⟩) (by decide) (λit p env=>CW (NG ..)) (λit acc env R s h0 h=>Zm h0 h) (λys z q=>by cases q)
  (fun {p J H J' H' ys r} hp e ⟨⟨us,ws,ep,h1,h3,h4,h5,h7⟩,h2,h8⟩ q=>by
   cases q
   have s1:aU J' (upd J' p (lJ p ep ((cH (jF ys).1).zip (us.zip ws)))):=cK h2 _
   refine ⟨upd J' p (lJ p ep ((cH (jF ys).1).zip (us.zip ws))),⟨e.h,e.j.trans s1,λa o q=>?_,λa ha ja=>?_⟩,.dct bR (h3.mono s1) (h4.mono s1) h5 h7⟩
   ·by_cases z:a=p
    ·subst z;rw [bR] at q;cases q;exact h1
    ·rw [bu z] at q;exact e.sub _ _ q
   ·have:a≠p:=λz=>ha (z▸hp)
    rw [bu this];exact e.frz a ha ja) (λcl C s H fp hcc=>?_) hk hno hnames hcl hcap hloc hnd Qo hs I h Qs
 obtain ⟨b1,b2,b3,b4,b5,b6,b7⟩:=hbody cl C s H fp hcc
 refine ⟨b1,b2,λp J2 H2 hp2 hp0=>?_⟩
 exact Be tu Qo (λ_ _ f=>f) (λx=>hs1 _ x) (λit R s h0 h=>Nz h0 h) (λit=>CW (NH ..)) b3 b4 b5 (Bf hu hK (λ_ _ f=>f) hp2 hp0 b6 b7)
theorem Fb (hu:X.A.units + 64 < UL) (own:List Str) (cap:List Nat){So:VN}{pos:Pos}{gi0 gi1:G (List D)}{gts0 gts1:G Bool}{gk gv:G R}(hi:qh X c t0 i0 gi0)
 (hbody:∀(cl:List (Str×Tg)) (C:Tg) (s:SJ) (H:Hp) (fp:List Tg),bF X.env.cells So.names []=some cl->ji (aV X own cap So cl C s H fp) c t0 gt0/\gJ (aV X own cap So cl C s H fp) c f0 gts0/\za (aV X own cap So cl C s H fp) c t1 i1 gi1/\ji (aV X own cap So cl C s H fp) c t1 gt1/\gJ (aV X own cap So cl C s H fp) c f1 gts1/\PD (aV X own cap So cl C s H fp) c kx gk/\PD (aV X own cap So cl C s H fp) c vx gv)
 (hk:So.kind=.function:=by rfl) (hno:fF X cap So=true:=by rfl) (hnames:(So.names.all λx=>!(x.2 == .local) || (So.names.lookup x.1 == some .local))=true:=by rfl)
 (hcl:(bF X.env.cells So.names []).isSome=true:=by rfl) (hcap:dS X cap=true:=by rfl) (hloc:dX X cap So=true:=by rfl) (hnd:fU cap=true:=by rfl) (Qo:X.calm=true:=by rfl)
 (hs:∀x,Tc i0 X.env x=pure x:=by intro _;rfl) (hs1:∀(en:Env) x,Tc i1 en x=pure x:=by intro _ _;rfl) (hK:X.K=c.K:=by rfl):PD X c (.DictComp kx vx [⟨t0,i0,f0,0⟩,⟨t1,i1,f1,0⟩] So pos) (rH own.length cap gi0 gt0 gts0 gi1 gt1 gts1 gk gv):=by
 intro Sq s σ H Q I h
 rw [arm_eval_DictComp]
 exact LH hu hK own cap hi hbody hk hno hnames hcl hcap hloc hnd Qo hs hs1 I h λacc C m s' H' fl hm hz hf hb q=>⟨m,hm,λh'' sb=>⟨.ref acc,H',hb h'' sb,rfl,q⟩⟩
theorem Dq (hu:X.A.units + 64 < UL) (own:List Str) (cap:List Nat){So:VN}{pos:Pos}{gi0 gi1:G (List D)}{gts0 gts1:G Bool}{gk gv:G R}(hi:ql X c t0 i0 gi0)
 (hbody:∀(cl:List (Str×Tg)) (C:Tg) (s:SJ) (H:Hp) (fp:List Tg),bF X.env.cells So.names []=some cl->lG (aV X own cap So cl C s H fp) c t0 gt0/\kj (aV X own cap So cl C s H fp) c f0 gts0/\zc (aV X own cap So cl C s H fp) c t1 i1 gi1/\lG (aV X own cap So cl C s H fp) c t1 gt1/\kj (aV X own cap So cl C s H fp) c f1 gts1/\QD (aV X own cap So cl C s H fp) c kx gk/\QD (aV X own cap So cl C s H fp) c vx gv)
 (hk:So.kind=.function:=by rfl) (hno:fF X cap So=true:=by rfl) (hnames:(So.names.all λx=>!(x.2 == .local) || (So.names.lookup x.1 == some .local))=true:=by rfl)
 (hcl:(bF X.env.cells So.names []).isSome=true:=by rfl) (hcap:dS X cap=true:=by rfl) (hloc:dX X cap So=true:=by rfl) (hnd:fU cap=true:=by rfl) (Qo:X.calm=true:=by rfl)
 (hs:∀x,Tc i0 X.env x=pure x:=by intro _;rfl) (hs1:∀(en:Env) x,Tc i1 en x=pure x:=by intro _ _;rfl) (hK:X.K=c.K:=by rfl):QD X c (.DictComp kx vx [⟨t0,i0,f0,0⟩,⟨t1,i1,f1,0⟩] So pos) (rH own.length cap gi0 gt0 gts0 gi1 gt1 gts1 gk gv):=
 ⟨Fb hu own cap hi.h (λcl C s H fp hc=>let ⟨a,b,d,e,f,g,h⟩:=hbody cl C s H fp hc;⟨a.h,b.h,d.h,e.h,f.h,g.h,h.h⟩) hk hno hnames hcl hcap hloc hnd Qo hs hs1 hK⟩
end
noncomputable def lexLe:List Int->List Int->Bool
 | [],_=>true
 | _::_,[]=>false
 | x::xs,y::ys=>if x=y then lexLe xs ys else decide (x<=y)
theorem kO (x y:Int) (xs ys:List Int):lexLe (x::xs) (y::ys)=if x=y then lexLe xs ys else decide (x<=y):=rfl
theorem pU:lexLe [] []=true:=rfl
theorem wC (y:Int) (ys:List Int):lexLe [] (y::ys)=true:=rfl
theorem wB (x:Int) (xs:List Int):lexLe (x::xs) []=false:=rfl
theorem HC (A:TR) (s:SJ) (a:Int) (t:Tok) (c:Int) (u:Tok) (prog:S_) (w:TL) (E:SI->SJ->Prop) (Q:SI->SJ->Prop) (h:Q (.bool (decide (a<=c))) s):
  S8 (Ti prog w) A (richCompare .LtE (.int a t) (.int c u)) Q E s:=
 (adn h:S8 (Ti prog w) A (UP .LtE (.int a t) (.int c u)) Q E s)
section
open PySem.SeqAt
open PySem.AutoSeq1 (wpAny_loadPart')
open PySem.MeetsSeq PySem.MeetsSeq2 PySem.MeetsSeq3
theorem yu (l b:Tg) (Ss Sy:Array SI) (n n2:Nat) (dd dd2:Option Tg) (sl sl2:Array (Option SI)) (ns ms:List Int) (hi:W3 Ss.toList ns) (hj:W3 Sy.toList ms):
  Meets (Xd.«tuple.__le__» ⟨[.ref l,.ref b],[]⟩)
   (λ_ R s=>s.heap.get? l=some {cls:=.type "tuple",dict:=dd,data:=.seq Ss n,slots:=sl}/\s.heap.get? b=some {cls:=.type "tuple",dict:=dd2,data:=.seq Sy n2,slots:=sl2}/\
    R (.ok (.ret (.bool (lexLe ns ms)))) s):=
 .of_wp λprog w A R s h=>by
  obtain ⟨hp,g,d,tk,os⟩:=s;obtain ⟨hl,hb,h⟩:=h
  have f2:=W7
  have z1:Ss.size=ns.length:=by rw [<-hi.length];simp
  have z2:Sy.size=ms.length:=by rw [<-hj.length];simp
  wp_walk using VF hl,VF hb,VI _ (λrest b s'=>b.1=none/\s'=⟨hp,g,d,tk,os⟩/\∃(vs ws:List SI) (ns' ms':List Int),rest=vs.zip ws/\
   W3 vs ns'/\W3 ws ms'/\ns'.length + Sy.size=ms'.length + Ss.size/\R (.ok (.ret (.bool (lexLe ns' ms')))) ⟨hp,g,d,tk,os⟩) _
  case turn=>
   rintro ⟨y,x⟩ rest b s' ⟨hb',rfl,vs,ws,ns',ms',hz,Rz,hwi,hlen,hR⟩
   cases Rz with
   | nil=>rw [List.zip_nil_left] at hz;cases hz
   | cons a t RA=>
    cases hwi with
    | nil=>rw [List.zip_nil_right] at hz;cases hz
    | cons c u RB=>
     rw [Xi] at hz
     injection hz with hyx hrest
     injection hyx with hy hx
     subst hy hx
     rw [kO] at hR
     simp only [Uv] at hlen
     obtain ⟨e,he,hiff⟩:=HT.Gp A.in1 ⟨hp,g,d,tk,os⟩ a t c u
     refine SE (he prog w _ _ ?_)
     cases e with
     | true=>
      rw [if_pos (hiff.mp rfl)] at hR
      wp_walk
      exact ⟨rfl,rfl,_,_,_,_,hrest,RA,RB,by omega,hR⟩
     | false=>
      rw [if_neg (λq=>absurd (hiff.mpr q) Tv)] at hR
      have Ry:=HC A.in1 ⟨hp,g,d,tk,os⟩ a t c u prog w
      wp_walk using Ry
      exact ⟨_,rfl,by simpa using hR⟩
  case fin=>
   rintro ⟨b1,b2⟩ s' ⟨hb',rfl,vs,ws,ns',ms',hz,Rz,hwi,hlen,hR⟩
   simp only at hb'
   subst hb'
   have hv:lexLe ns' ms'=decide (Ss.size<=Sy.size):=by
    cases Rz with
    | nil=>
     cases hwi with
     | nil=>
      simp only [Yq] at hlen
      rw [pU]
      exact (decide_eq_true (by omega)).symm
     | cons c u hw=>
      simp only [Yq,Uv] at hlen
      rw [wC]
      exact (decide_eq_true (by omega)).symm
    | cons a t hv=>
     cases hwi with
     | nil=>
      simp only [Yq,Uv] at hlen
      rw [wB]
      exact (decide_eq_false (by omega)).symm
     | cons c u hw=>
      rw [Xi] at hz
      cases hz
   rw [hv] at hR
   wp_walk
   exact ⟨_,rfl,by simpa [Xz] using hR⟩
  case h=>
   exact ⟨rfl,rfl,Ss.toList,Sy.toList,ns,ms,rfl,hi,hj,by omega,h⟩
end
section
variable {prog:S_}{w:TL}{A:TR}{E:SI->SJ->Prop}{s:SJ}
theorem CT {Ss Sy:Array SI}{Q:SI->SJ->Prop}(hl:acZ s.heap l Ss) (hb:acZ s.heap b Sy) (hi:W3 Ss.toList ns) (hj:W3 Sy.toList ms)
 (hu:A.units < UL) (h:Q (.bool (lexLe ns ms)) s):S8 (Ti prog w) A (UP .LtE (.ref l) (.ref b)) Q E s:=by
 obtain ⟨⟨cls,dd,data,sl⟩,ho,hc,n,hd⟩:=id hl
 obtain ⟨⟨cls2,dd2,data2,sl2⟩,ho2,hc2,n2,hd2⟩:=id hb
 simp only at hc hd hc2 hd2
 subst hc hd hc2 hd2
 exact Zi (op:=.LtE) ⟨_,ho,rfl⟩ ⟨_,ho2,rfl⟩ PySem.F.slot_tuple_le PySem.F.entry_tuple_le (PySem.F.args_tuple_le_2 _ _) (yu l b Ss Sy n n2 dd dd2 sl sl2 ns ms hi hj)
  ⟨ho,ho2,show WB (lexLe ns ms)≠ZV/\Q (.bool (lexLe ns ms)) s from ⟨(λx=>nomatch x),h⟩⟩ hu
end
section
variable {X:Cx}{c:C}{a b e:TV}{ga gb:G R}{pos pos2:Pos}
theorem MD (hu:X.A.units < UL):c_ X (UP .LtE) (λx y H Q=>∃a b ns ms,x=.ref a/\y=.ref b/\cL X.K H a (ns.map V.int)/\cL X.K H b (ms.map V.int)/\Q (.bl (lexLe ns ms)) H):=by
 intro Sq s σ H x y v u Q I rx ry h
 obtain ⟨a,b,ns,ms,rfl,rfl,ha,hb,q⟩:=h
 cases rx
 cases ry
 obtain ⟨Su,r1,p1,_⟩:=I.tuple ha
 obtain ⟨its2,r2,p2,_⟩:=I.tuple hb
 exact CT p1 p2 (L2.intsAre_of r1:W3 Su.toArray.toList ns) (L2.intsAre_of r2:W3 its2.toArray.toList ms) hu ⟨.bl (lexLe ns ms),H,I,rfl,q⟩
noncomputable def zM:R->R->M R
 | .d (.tup xs),.d (.tup ys)=>match intsOf xs,intsOf ys with
  | some ns,some ms=>.ok (.d (.bl (lexLe ns ms)))
  | _,_=>.bad
 | _,_=>.bad
theorem KA (hu:X.A.units + 64 < UL) (ha:QD X c a ga) (hb:QD X c b gb) (hK:X.K=c.K:=by rfl):QB X c (.Compare a [.LtE] [b] pos) (br (g2 zM ga gb)):=have ha:=ha.h;have hb:=hb.h;⟨jz (MD (by omega)) (by
 intro He He' J H x y u v Q hp rx ry w
 unfold zM at w
 split at w
 ·cases rx with
  | tup h1 s1=>
   cases ry with
   | tup h2 s2=>
    split at w
    ·rename_i ns ms z1 z2
     have e1:=oS z1 s1
     have e2:=oS z2 s2
     subst e1 e2
     exact ⟨_,_,ns,ms,rfl,rfl,by rw [hK];exact eO hp.sub h1,by rw [hK];exact eO hp.sub h2,w _ J H (Ext.refl hp.sub) (.bl _)⟩
    ·exact w.elim
 ·exact w.elim) ha hb⟩
end
theorem vW (gt:GT) (gts:G Bool) (ge:G R):∀(ds:List D) (env:Ev) (k:List D->M R),(bY gt gts (gS ge) ds env >>= λr=>k r.1)=(fL gt gts ge ds env >>= k)
 | [],env,k=>rfl
 | d::ds,env,k=>by
  unfold bY fL
  cases gt d env with
  | bad=>rfl
  | exc z=>rfl
  | ok e=>
   show ((gts e >>= λk=>if k=true then gS ge e >>= λr=>bY gt gts (gS ge) ds r.2 >>= λz=>.ok (r.1++z.1,z.2) else bY gt gts (gS ge) ds e) >>= _)=((gts e >>= λk=>if k=true then ge e >>= λr=>toD r >>= λy=>fL gt gts ge ds e >>= λys=>.ok (y::ys) else fL gt gts ge ds e) >>= _)
   cases gts e with
   | bad=>rfl
   | exc z=>rfl
   | ok b=>
    cases b with
    | false=>exact vW gt gts ge ds e k
    | true=>
     show ((gS ge e >>= λr=>bY gt gts (gS ge) ds r.2 >>= λz=>.ok (r.1++z.1,z.2)) >>= _)=((ge e >>= λr=>toD r >>= λy=>fL gt gts ge ds e >>= λys=>.ok (y::ys)) >>= _)
     unfold gS
     cases ge e with
     | bad=>rfl
     | exc z=>rfl
     | ok r=>
      show (((toD r >>= λy=>M.ok ([y],e)) >>= λr=>bY gt gts (gS ge) ds r.2 >>= λz=>.ok (r.1++z.1,z.2)) >>= _)=((toD r >>= λy=>fL gt gts ge ds e >>= λys=>.ok (y::ys)) >>= _)
      cases toD r with
      | bad=>rfl
      | exc z=>rfl
      | ok y=>
       have ih:=vW gt gts ge ds e λys=>k (y::ys)
       show ((bY gt gts (gS ge) ds e >>= λz=>.ok ([y]++z.1,z.2)) >>= λr=>k r.1)=((fL gt gts ge ds e >>= λys=>M.ok (y::ys)) >>= k)
       have e1:((bY gt gts (gS ge) ds e >>= λz=>M.ok ([y]++z.1,z.2)) >>= λr=>k r.1)=(bY gt gts (gS ge) ds e >>= λr=>k (y::r.1)):=by cases bY gt gts (gS ge) ds e <;> rfl
       have e2:((fL gt gts ge ds e >>= λys=>M.ok (y::ys)) >>= k)=(fL gt gts ge ds e >>= λys=>k (y::ys)):=by cases fL gt gts ge ds e <;> rfl
       rw [e1,e2,ih]
theorem JE (n:Nat) (cap:List Nat) (gi:G (List D)) (gt:GT) (gts:G Bool) (ge:G R):bZ n cap gi gt gts ge=jr sizeLine n cap gi gt gts (gS ge) (λys=>.ok (.l .fresh ys)):=by
 funext env
 unfold bZ jr
 cases gi env with
 | bad=>rfl
 | exc z=>rfl
 | ok ds=>
  show (if ds.length<=sizeLine then _ else _)=(if ds.length<=sizeLine then _ else _)
  by_cases c:ds.length<=sizeLine
  ·rw [if_pos c,if_pos c]
   exact (vW gt gts ge ds _ λys=>.ok (.l .fresh ys)).symm
  ·rw [if_neg c,if_neg c]
section
variable {X:Cx}{c:C}
theorem El (own:List Str) (cap:List Nat){So:VN}{pos:Pos}{gi:G (List D)}{gts:G Bool}{ge:G R}(hi:qh X c Sv Sw gi)
 (hbody:∀(cl:List (Str×Tg)) (C:Tg) (s:SJ) (H:Hp) (fp:List Tg),bF X.env.cells So.names []=some cl->ji (aV X own cap So cl C s H fp) c Sv gt/\gJ (aV X own cap So cl C s H fp) c ifs gts/\PD (aV X own cap So cl C s H fp) c elt ge)
 (hk:So.kind=.function:=by rfl) (hno:fF X cap So=true:=by rfl) (hnames:(So.names.all λx=>!(x.2 == .local) || (So.names.lookup x.1 == some .local))=true:=by rfl)
 (hcl:(bF X.env.cells So.names []).isSome=true:=by rfl) (hcap:dS X cap=true:=by rfl) (hloc:dX X cap So=true:=by rfl) (hnd:fU cap=true:=by rfl) (Qo:X.calm=true:=by rfl)
 (hs:∀x,Tc Sw X.env x=pure x:=by intro _;rfl)
 {H:Hp}{Q:VK}{use:Option (SI->Sem Unit)}{Q0:SI->SJ->Prop}(I:Inv X Sq σ H s) (h:tD c (bZ own.length cap gi gt gts ge) σ H Q)
 (Qs:∀(acc C:Tg) (m:Str->Option SI) (s':SJ) (H':Hp) (fl:Flow),s'.heap.Ns C m->((C∈X.ex\/X.s₀.heap.objs.size<=C)/\C≠X.env.locals/\(∀x c,X.env.cells.lookup x=some c->c≠C)/\∀p∈X.pn++Sq,p.1≠C)->H' C=none->(∀h'',TU C s'.heap h''->Inv X Sq σ H' {s' with heap:=h''})->Q (.ref acc) H'->aaA (Ti X.prog X.w) X.A X.xe use Q0 (.ref acc) C (.ok fl) s'):
  S8 (Ti X.prog X.w) X.A (comprehension (.ListComp elt [⟨Sv,Sw,ifs,0⟩] So pos) So X.env pos' (adl []) false (eval Sw X.env) use) Q0 X.xe s:=by
 rw [JE] at h
 refine oB (e:=.ListComp elt [⟨Sv,Sw,ifs,0⟩] So pos) (ob:={cls:=.type "list",dict:=none,data:=.seq ([]:List SI).toArray}) (o0:=λ_=>.lst []) (Acc:=Cp c) (N:=1) (lim:=sizeLine) (m:=λp env=>do let _ <-call (.builtin "list.append") [.ref p,<-eval elt env]) own cap rfl hi
  (λs Q E q=>TN q) (λh H=>⟨Tp _,[],0,.nil,SY _ rfl⟩) (λp=>tw) (λp J H _ h1 h2=>⟨[],h1,h2,.nil⟩) (by rw [Nat.mul_one];exact SW _) (λit p env=>CY (compTurn_list ..)) (λit acc env R s h0 h=>Zl h0 h) (λys z q=>by cases q)
  (fun {p J H J' H' ys r} hp e ⟨us,h1,h2,h3⟩ q=>by cases q;exact ⟨J',e,⟨p,us,rfl,h1,h2,hp,h3⟩⟩) (λcl C s H fp hcc=>?_) hk hno hnames hcl hcap hloc hnd Qo hs I h Qs
 obtain ⟨b1,b2,b3⟩:=hbody cl C s H fp hcc
 exact ⟨b1,b2,λp J2 H2 hp2 hp0=>Bd (λ_ _ f=>f) hp2 hp0 b3⟩
theorem G9 (own:List Str) (cap:List Nat){So:VN}{pos:Pos}{gi:G (List D)}{gts:G Bool}{ge:G R}(hi:qh X c Sv Sw gi)
 (hbody:∀(cl:List (Str×Tg)) (C:Tg) (s:SJ) (H:Hp) (fp:List Tg),bF X.env.cells So.names []=some cl->ji (aV X own cap So cl C s H fp) c Sv gt/\gJ (aV X own cap So cl C s H fp) c ifs gts/\PD (aV X own cap So cl C s H fp) c elt ge)
 (hk:So.kind=.function:=by rfl) (hno:fF X cap So=true:=by rfl) (hnames:(So.names.all λx=>!(x.2 == .local) || (So.names.lookup x.1 == some .local))=true:=by rfl)
 (hcl:(bF X.env.cells So.names []).isSome=true:=by rfl) (hcap:dS X cap=true:=by rfl) (hloc:dX X cap So=true:=by rfl) (hnd:fU cap=true:=by rfl) (Qo:X.calm=true:=by rfl)
 (hs:∀x,Tc Sw X.env x=pure x:=by intro _;rfl):PD X c (.ListComp elt [⟨Sv,Sw,ifs,0⟩] So pos) (bZ own.length cap gi gt gts ge):=by
 intro Sq s σ H Q I h
 rw [acI]
 exact El own cap hi hbody hk hno hnames hcl hcap hloc hnd Qo hs I h λacc C m s' H' fl hm hz hf hb q=>⟨m,hm,λh'' sb=>⟨.ref acc,H',hb h'' sb,rfl,q⟩⟩
theorem G6 (i:Nat) (own:List Str) (cap:List Nat){elt Sv Sw:TV}{ifs:List TV}{So:VN}{pos pos' pos2:Pos}{x:Str}{gi:G (List D)}{gt:GT}{gts:G Bool}{ge:G R}(hN:X.N.Nodup) (hi:qh X c Sv Sw gi)
  (hbody:∀(cl:List (Str×Tg)) (C:Tg) (s:SJ) (H:Hp) (fp:List Tg),bF X.env.cells So.names []=some cl->ji (aV X own cap So cl C s H fp) c Sv gt/\gJ (aV X own cap So cl C s H fp) c ifs gts/\PD (aV X own cap So cl C s H fp) c elt ge)
  (hk:So.kind=.function:=by rfl) (hno:fF X cap So=true:=by rfl) (hnames:(So.names.all λx=>!(x.2 == .local) || (So.names.lookup x.1 == some .local))=true:=by rfl)
  (hcl:(bF X.env.cells So.names []).isSome=true:=by rfl) (hcap:dS X cap=true:=by rfl) (hloc:dX X cap So=true:=by rfl) (hnd:fU cap=true:=by rfl) (Qo:X.calm=true:=by rfl)
  (hs:∀x,Tc Sw X.env x=pure x:=by intro _;rfl) (hx:X.N[i]?=some x:=by rfl) (Qx:X.env.scope.names.lookup x=some .local:=by rfl)
  (hsw:Wl (.ListComp elt [⟨Sv,Sw,ifs,0⟩] So pos) (some (.Name x pos')) pos2.line X.env=pure true:=by rfl):A7 X c (.Assign [.Name x pos'] (.ListComp elt [⟨Sv,Sw,ifs,0⟩] So pos) pos2) (aZ i (bZ own.length cap gi gt gts ge)):=by
 intro Sq s σ H D I ⟨J,env,sr,w⟩
 rw [ZH]
 refine SE (U6 ?_)
 rw [show W8 [.Name x pos'] (.ListComp elt [⟨Sv,Sw,ifs,0⟩] So pos) pos2.line X.env=pure true from hsw]
 refine SE (SH ?_)
 rw [if_pos rfl,YS]
 refine SE (SE (El own cap hi hbody hk hno hnames hcl hcap hloc hnd Qo hs (Q:=λv H1=>∃J1 r xx,Ext J H J1 H1/\RR c H J1 H1 r v/\toS r=.ok xx/\oP c J D (.nx (env.set i (some xx)))) I ⟨J,env,sr,aF (aL w) λr wr v J1 H1 e1 r1=>?_⟩ λacc C m s' H' fl hm ap hf hb ⟨J1,r,xx,e1,r1,q1,w1⟩=>?_))
 ·obtain ⟨xx,q,wr⟩:=oh wr
  exact ⟨J1,r,xx,e1,r1,q,wr⟩
 ·have I1:L2.Inv X Sq σ H' s':=hb s'.heap (YT ..)
  show S8 _ _ (do Wb pos';adz X.env x (.ref acc)) _ _ _
  refine SE (U6 (Z4 ?_))
  refine mZ I1 hN hx (.inl Qx) (v:=.ref acc) (u:=.ref acc) rfl (λs2 I2 ⟨a,sb,ha⟩=>?_) (.inr Qx)
  have hac:C≠a:=λz=>by
   rcases ha with e | e
   ·exact ap.2.1 (z.trans e)
   ·exact ap.2.2.1 _ _ e z.symm
  refine ⟨m,hm.sameBut sb hac,λh2 sb2=>?_⟩
  refine SH (SH ⟨σ.set i (some (.ref acc)),H',qJ I2 ap hf sb2 (o0:=default),?_⟩)
  exact w1 _ J1 H' e1.j (sr.set e1 r1 q1)
theorem cA (own:List Str) (cap:List Nat){So:VN}{pos:Pos}{gi:G (List D)}{gts:G Bool}{ge:G R}(hi:ql X c Sv Sw gi)
 (hbody:∀(cl:List (Str×Tg)) (C:Tg) (s:SJ) (H:Hp) (fp:List Tg),bF X.env.cells So.names []=some cl->lG (aV X own cap So cl C s H fp) c Sv gt/\kj (aV X own cap So cl C s H fp) c ifs gts/\QD (aV X own cap So cl C s H fp) c elt ge)
 (hk:So.kind=.function:=by rfl) (hno:fF X cap So=true:=by rfl) (hnames:(So.names.all λx=>!(x.2 == .local) || (So.names.lookup x.1 == some .local))=true:=by rfl)
 (hcl:(bF X.env.cells So.names []).isSome=true:=by rfl) (hcap:dS X cap=true:=by rfl) (hloc:dX X cap So=true:=by rfl) (hnd:fU cap=true:=by rfl) (Qo:X.calm=true:=by rfl)
 (hs:∀x,Tc Sw X.env x=pure x:=by intro _;rfl):QD X c (.ListComp elt [⟨Sv,Sw,ifs,0⟩] So pos) (bZ own.length cap gi gt gts ge):=
 ⟨G9 own cap hi.h (λcl C s H fp hc=>let ⟨a,b,d⟩:=hbody cl C s H fp hc;⟨a.h,b.h,d.h⟩) hk hno hnames hcl hcap hloc hnd Qo hs⟩
theorem xJ (i:Nat) (own:List Str) (cap:List Nat){So:VN}{pos pos' pos2:Pos}{x:Str}{gi:G (List D)}{gts:G Bool}{ge:G R}(hN:X.N.Nodup) (hi:ql X c Sv Sw gi)
 (hbody:∀(cl:List (Str×Tg)) (C:Tg) (s:SJ) (H:Hp) (fp:List Tg),bF X.env.cells So.names []=some cl->lG (aV X own cap So cl C s H fp) c Sv gt/\kj (aV X own cap So cl C s H fp) c ifs gts/\QD (aV X own cap So cl C s H fp) c elt ge)
 (hk:So.kind=.function:=by rfl) (hno:fF X cap So=true:=by rfl) (hnames:(So.names.all λx=>!(x.2 == .local) || (So.names.lookup x.1 == some .local))=true:=by rfl)
 (hcl:(bF X.env.cells So.names []).isSome=true:=by rfl) (hcap:dS X cap=true:=by rfl) (hloc:dX X cap So=true:=by rfl) (hnd:fU cap=true:=by rfl) (Qo:X.calm=true:=by rfl)
 (hs:∀x,Tc Sw X.env x=pure x:=by intro _;rfl) (hx:X.N[i]?=some x:=by rfl) (Qx:X.env.scope.names.lookup x=some .local:=by rfl)
 (hsw:Wl (.ListComp elt [⟨Sv,Sw,ifs,0⟩] So pos) (some (.Name x pos')) pos2.line X.env=pure true:=by rfl):iX X c (.Assign [.Name x pos'] (.ListComp elt [⟨Sv,Sw,ifs,0⟩] So pos) pos2) (aZ i (bZ own.length cap gi gt gts ge)):=
 ⟨G6 i own cap hN hi.h (λcl C s H fp hc=>let ⟨a,b,d⟩:=hbody cl C s H fp hc;⟨a.h,b.h,d.h⟩) hk hno hnames hcl hcap hloc hnd Qo hs hx Qx hsw⟩
end
end DL
namespace K23
open PySem DL
def uv:List Str:=["world","many","marks","arrows"]
noncomputable def uV:G O:=(aI (tV (dF 3 (bx (aC 1) (bx (aC 2) (bx (aC 3) dM)))) (af 0))
 (bq (bz (az (gN eF (ao (bZ 2 [] (kq (af 2)) (dF 2 (bx (aC 0) (bx (aC 1) dM))) dY (af 0)) aD)) (az (gN eF (ao (bZ 2 [] (kq (af 3)) (dF 2 (bx (aC 0) (bx (aC 1) dM))) dY (af 0)) aD)) aQ)))))
def jh (as:List S):M R:=fin (uV (aY uv as))
def qf:List Str:=["one","other"]
def qC:G O:=(bK (br (g2 (cj true) (gN (aS 1 K23.jh) (ao (af 0) aD)) (gN (aS 1 K23.jh) (ao (af 1) aD)))) yD cS)
def jg (as:List S):M R:=fin (qC (aY qf as))
def lF:List Str:=["worlds","world"]
def lM:G O:=(b_ (fm (af 0)) (aC 1) (bK (br (g2 (qq λi j=>.bl (decide (j < i))) (g2 aX (af 1) (gC (.int 0))) (gC (.int 4)))) yD cS))
def f7 (as:List S):M R:=fin (lM (aY lF as))
def sy:List Str:=["one","other"]
noncomputable def sP:G O:=(aI (jt (gN (aS 2 K23.jg) (ao (af 0) (ao (af 1) aD))))
 (jt (gN (aS 1 K23.f7) (ao (bz (az (af 0) (az (af 1) aQ))) aD))))
def eS (as:List S):M R:=fin (sP (aY sy as))
def A6:List Str:=["pairs"]
noncomputable def BB:G O:=(aI (bK (br (g2 (iI false) (af 0) (gC .non))) (bq (bz aQ)) cS)
 (bq (gN eF (ao (gN qv (ao (af 0) aD)) aD))))
def fO (as:List S):M R:=fin (BB (aY A6 as))
def Ih:List Str:=["world","one","other","many","marks","arrows","bearing","leading"]
noncomputable def IA:G O:=(aI (tV (dF 3 (bx (aC 3) (bx (aC 4) (bx (aC 5) dM)))) (af 0))
 (aI (aZ 6 (gN eF (ao (bZ 2 [1] (kq (af 4)) (dF 2 (bx (aC 0) (bx (aC 1) dM))) dY (g2 (fk false) (af 2) (af 1))) aD)))
 (aI (aZ 7 (gN eF (ao (bZ 2 [1,2] (kq (af 5)) (dF 2 (bx (aC 0) (bx (aC 1) dM))) dY (g2 (fk false) (bz (az (af 2) (az (af 3) aQ))) (af 1))) aD)))
 (bq (bz (az (g2 (cj false) (af 1) (af 2)) (az (af 6) (az (af 7) aQ))))))))
def yv (as:List S):M R:=fin (IA (aY Ih as))
def DR:List Str:=["world"]
noncomputable def EE:G O:=(bq (rH 2 [0] (b9 (ao (g2 aX (af 0) (gC (.int 0))) aD)) (aC 0) dY (b9 (ao (g2 aX (af 2) (gC (.int 0))) aD)) (aC 1) dY (bz (az (af 0) (az (af 1) aQ))) (gN (aS 3 K23.yv) (ao (af 2) (ao (af 0) (ao (af 1) aD))))))
def p6 (as:List S):M R:=fin (EE (aY DR as))
def DQ:List Str:=["first","second","pair","again"]
noncomputable def EC:G O:=(bq (g2 (cj false) (g2 iN (af 0) (bz (az (g2 aX (af 2) (gC (.int 0))) (az (g2 aX (af 3) (gC (.int 0))) aQ)))) (g2 iN (af 1) (bz (az (g2 aX (af 2) (gC (.int 1))) (az (g2 aX (af 3) (gC (.int 1))) aQ))))))
def fE (as:List S):M R:=fin (EC (aY DQ as))
def qd:List Str:=["first","second","pairing","pair","again"]
noncomputable def qB:G O:=(aI (bK (jq (we (af 2)) (br (g2 zM (af 3) (g2 aX (af 2) (v_ (gC (.int 1))))))) (bq (gC (.bl false))) cS)
 (aI (b_ (fm (af 2)) (aC 4) (bK (ju (gg (br (gN (aS 4 K23.fE) (ao (af 0) (ao (af 1) (ao (af 3) (ao (af 4) aD))))))) (gg (br (gN (aS 4 K23.fE) (ao (af 0) (ao (af 1) (ao (af 4) (ao (af 3) aD)))))))) (bq (gC (.bl false))) cS))
 (bq (gC (.bl true)))))
def jf (as:List S):M R:=fin (qB (aY qd as))
def wR:List Str:=["one","other","most","first","second","pairs","longest","told","step"]
noncomputable def xw:G O:=(aI (jt (gN (aS 2 K23.eS) (ao (af 0) (ao (af 1) aD))))
 (aI (jt (gN (aS 3 K55.dh) (ao (af 2) (ao (gC (.int 0)) (ao (gC (.int 4)) aD)))))
 (aI (aZ 3 (gN (aS 1 K23.p6) (ao (af 0) aD)))
 (aI (aZ 4 (gN (aS 1 K23.p6) (ao (af 1) aD)))
 (aI (aZ 5 (jZ 2 [1,3,4] (b9 (ao (g2 aX (af 0) (gC (.int 0))) aD)) (aC 0) dY (b9 (ao (g2 aX (af 2) (gC (.int 0))) aD)) (aC 1) (br (gN (aS 4 K23.fE) (ao (af 3) (ao (af 4) (ao (bz (az (af 0) (az (af 1) aQ))) (ao (bz (az (af 0) (az (af 1) aQ))) aD)))))) (bz (az (af 0) (az (af 1) aQ)))))
 (aI (fJ 5 (aZ 6 (dJ (az (bz aQ) aQ))))
 (aI (aZ 7 (dJ (az (bz aQ) aQ)))
 (aI (b_ (b9 (ao (af 2) aD)) (aC 8) (aI (fJ 5 (aZ 6 (jZ 2 [5,3,4] (kq (af 6)) (aC 0) dY (fm (af 2)) (aC 1) (br (gN (aS 4 K23.jf) (ao (af 3) (ao (af 4) (ao (af 0) (ao (af 1) aD)))))) (g2 cg (af 0) (bz (az (af 1) aQ))))))
 (v7 7 (af 6))))
 (bq (af 7))))))))))
def lZ (as:List S):M R:=fin (xw (aY wR as))
end K23
namespace K23
open PySem DL K01 WP K51 K52 K55
section
variable {α β:Type}
theorem Im {gts:G Bool}{act:Ev->M (List D×Ev)}{h':β->D}{rest:Ev}(p:β->Bool) (f:β->D):∀(ys:List β),(∀y∈ys,gts (a0::some (.d (h' y))::rest)=.ok (p y)/\(p y=true->act (a0::some (.d (h' y))::rest)=.ok ([f y],a0::some (.d (h' y))::rest)))->
  ∀z:Option S,∃z',bY (aC 1) gts act (ys.map h') (a0::z::rest)=.ok ((ys.filter p).map f,a0::z'::rest)
 | [],_,z=>⟨z,rfl⟩
 | y::ys,H,z=>by
  obtain ⟨h1,h2⟩:=H y SV
  obtain ⟨z',ih⟩:=Im p f ys (λy hy=>H y (SS _ hy)) (some (.d (h' y)))
  refine ⟨z',?_⟩
  rw [Td]
  unfold bY
  show (gts (a0::some (.d (h' y))::rest) >>= λk=>if k=true then act (a0::some (.d (h' y))::rest) >>= λr=>bY (aC 1) gts act (ys.map h') r.2 >>= λz=>.ok (r.1++z.1,z.2) else bY (aC 1) gts act (ys.map h') (a0::some (.d (h' y))::rest))=_
  rw [h1,aO]
  cases q:p y with
  | true=>
   rw [if_pos rfl,h2 q,aO]
   show (bY (aC 1) gts act (ys.map h') (a0::some (.d (h' y))::rest) >>= _)=_
   rw [ih,aO,Xk q]
   rfl
  | false=>
   rw [if_neg (by decide),ih,Xl (by simp [q])]
theorem Ei {gi1:G (List D)}{gts:G Bool}{act:Ev->M (List D×Ev)}{h:α->D}{h':β->D}{rest:Ev}(ys:α->List β) (p:α->β->Bool) (f:α->β->D):∀(xs:List α),(∀x∈xs,(ys x).length<=1000/\(∀z:Option S,gi1 (some (.d (h x))::z::rest)=.ok ((ys x).map h'))/\∀y∈ys x,gts (some (.d (h x))::some (.d (h' y))::rest)=.ok (p x y)/\(p x y=true->act (some (.d (h x))::some (.d (h' y))::rest)=.ok ([f x y],some (.d (h x))::some (.d (h' y))::rest)))->
  ∀z0 z:Option S,∃z0' z',bY (aC 0) dY (jl gi1 (aC 1) gts act) (xs.map h) (z0::z::rest)=.ok (xs.flatMap λx=>((ys x).filter (p x)).map (f x),z0'::z'::rest)
 | [],_,z0,z=>⟨z0,z,rfl⟩
 | x::xs,H,z0,z=>by
  obtain ⟨h1,h2,h3⟩:=H x SV
  obtain ⟨z1,e1⟩:=Im (a0:=some (.d (h x))) (p x) (f x) (ys x) h3 z
  obtain ⟨z0',z',ih⟩:=Ei ys p f xs (λy hy=>H y (SS _ hy)) (some (.d (h x))) z1
  refine ⟨z0',z',?_⟩
  rw [Td]
  unfold bY
  show (jl gi1 (aC 1) gts act (some (.d (h x))::z::rest) >>= _)=_
  unfold jl
  rw [h2 z,aO,if_pos (by rw [SK];exact h1),e1,aO]
  show (bY (aC 0) dY (jl gi1 (aC 1) gts act) (xs.map h) (some (.d (h x))::z1::rest) >>= _)=_
  rw [ih]
  rfl
theorem CB {gi0 gi1:G (List D)}{gts:G Bool}{act:Ev->M (List D×Ev)}{fin:List D->M R}{h:α->D}{h':β->D}{xs:List α}(ys:α->List β) (p:α->β->Bool) (f:α->β->D) (hi:gi0 env=.ok (xs.map h)) (hl:xs.length<=10000)
 (H:∀x∈xs,(ys x).length<=1000/\(∀z:Option S,gi1 (some (.d (h x))::z::cE 0 cap env)=.ok ((ys x).map h'))/\∀y∈ys x,gts (some (.d (h x))::some (.d (h' y))::cE 0 cap env)=.ok (p x y)/\(p x y=true->act (some (.d (h x))::some (.d (h' y))::cE 0 cap env)=.ok ([f x y],some (.d (h x))::some (.d (h' y))::cE 0 cap env))):
  jr 10000 2 cap gi0 (aC 0) dY (jl gi1 (aC 1) gts act) fin env=fin (xs.flatMap λx=>((ys x).filter (p x)).map (f x)):=by
 unfold jr
 rw [hi,aO,if_pos (by rw [SK];exact hl)]
 obtain ⟨z0',z',e⟩:=Ei ys p f xs H none none
 show (bY (aC 0) dY (jl gi1 (aC 1) gts act) (xs.map h) (none::none::cE 0 cap env) >>= _)=_
 rw [e]
 rfl
theorem Bb {ge:G R}(h:ge env=.ok r) (h2:toD r=.ok d):gS ge env=.ok ([d],env):=by
 unfold gS
 rw [h,aO,h2]
 rfl
theorem Bc {gk gv:G R}(h:gk env=.ok r) (h2:toD r=.ok k) (h3:gv env=.ok r2) (h4:toD r2=.ok d) (ok:d9 k=true):tE gk gv env=.ok ([.tup [k,d]],env):=by
 unfold tE
 rw [h,aO,h2,aO,h3,aO,h4,aO,if_pos ok]
end
noncomputable def fj (u:Wd) (a c:Nat):D:=.tup [.bl (bg (dN a) (dN c)),.tup (u.ms.map λr=>.bl (inD (dN a) (r.2.map dN))),.tup (u.ar.map λr=>.bl (inD (dP (a,c)) (r.2.map dP)))]
theorem Li (u:Wd) (hu:A9 u) (a c:Nat):yv [.d u.d,.d (dN a),.d (dN c)]=.ok (.d (fj u a c)):=by
 have ml:=hu.ml
 have al:=hu.al
 refine b8 (Du rfl rfl rfl ?_)
 refine bD (n1 (uH (xs:=u.ms) (λr=>.str r.1) (λr=>.tup (r.2.map dN)) (λr=>.bl (inD (dN a) (r.2.map dN))) rfl (by omega) λr _=>⟨_,two rfl rfl (Pd a r.2),rfl⟩) rfl) rfl ?_
 refine bD (n1 (uH (xs:=u.ar) (λr=>.str r.1) (λr=>.tup (r.2.map dP)) (λr=>.bl (inD (dP (a,c)) (r.2.map dP))) rfl (by omega) λr _=>⟨_,two (bE (aK rfl rfl (aK rfl rfl bh)) t2) rfl (L3 (a,c) r.2),rfl⟩) rfl) rfl ?_
 exact bG (bE (aK rfl rfl (aK rfl rfl (aK rfl rfl bh))) (by show 3<=1000;decide)) rfl rfl
def fP (m n:Nat):List (Nat×Nat):=(SM m).flatMap λa=>(SM n).map λb=>(a,b)
theorem oZ {p:Nat×Nat}:p∈fP m n↔p.1 < m/\p.2 < n:=by
 unfold fP
 simp only [X5,Tj,S3]
 constructor
 ·rintro ⟨a,ha,b,hb,rfl⟩;exact ⟨ha,hb⟩
 ·rintro ⟨h1,h2⟩;exact ⟨p.1,h1,p.2,h2,rfl⟩
theorem u_ (m n:Nat):(fP m n).Nodup:=by
 unfold fP
 refine ZI.mpr ⟨λa _=>TX.mpr (YR (λh e=>h (by cases e;rfl)) (Vc (n:=n))),?_⟩
 refine YR ?_ (Vc (n:=m))
 intro a b hab p h1 q h2 e
 subst e
 obtain ⟨x,_,rfl⟩:=S3.mp h1
 obtain ⟨y,_,e⟩:=S3.mp h2
 cases e
 exact hab rfl
theorem GK (m n:Nat):(fP m n).length=m * n:=by
 induction m with
 | zero=>simp [fP]
 | succ m ih=>
  unfold fP at ih ⊢
  rw [VG,Yr,Te,ih,abL]
  simp
theorem JT (h:∀x∈ks,bg x k=false):iz ks vs k=none:=by
 induction ks generalizing vs with
 | nil=>cases vs <;> rfl
 | cons x ks ih=>
  cases vs with
  | nil=>rfl
  | cons v vs=>
   unfold iz
   rw [h x SV,if_neg (by decide)]
   exact ih λy hy=>h y (SS _ hy)
theorem xj (f:Nat×Nat->D):∀(n:Nat) (ps:List (Nat×Nat)),ps.length=n->ps.Nodup->jF (ps.map λp=>D.tup [dP p,f p])=(ps.map dP,ps.map f)
 | 0,ps,h,_=>by
  have:=Wj.mp h
  subst this
  rfl
 | n + 1,ps,h,nd=>by
  rcases U3 ps with rfl | ⟨qs,p,rfl⟩
  ·cases h
  ·rw [U4] at h nd ⊢
   have nd':=V8.mp nd
   have ih:=xj f n qs (by simpa using h) nd'.1
   have hn:iz (qs.map dP) (qs.map f) (dP p)=none:=JT λx hx=>by
    obtain ⟨q,hq,rfl⟩:=S3.mp hx
    rw [Bt,decide_eq_false_iff_not]
    rintro rfl
    exact nd'.2.2 q hq q SV rfl
   rw [Th,List.map_singleton,oE,ih]
   unfold dput
   rw [hn]
   simp
abbrev iC (u:Wd):List D:=(fP u.m u.m).map dP
abbrev iD (u:Wd):List D:=(fP u.m u.m).map λp=>fj u p.1 p.2
theorem A4 (u:Wd) (hu:A9 u):p6 [.d u.d]=.ok (.d (.dct (iC u) (iD u))):=by
 have hi:=hu.hi
 refine b8 (bG (r:=.d (.dct (iC u) (iD u))) ?_ rfl rfl)
 refine (CB (xs:=SM u.m) (h:=dN) (h':=dN) (λ_=>SM u.m) (λ_ _=>true) (λa b=>.tup [dP (a,b),fj u a b]) ?_ (by simp;omega) λa _=>⟨by simp;omega,λz=>?_,λb _=>⟨rfl,λ_=>Bc (bE (aK rfl rfl (aK rfl rfl bh)) t2) rfl (c3 rfl rfl rfl (Li u hu a b)) rfl rfl⟩⟩).trans ?_
 ·exact pe (cX (two rfl rfl (gW _ _))) (by omega)
 ·exact pe (cX (two rfl rfl (gW _ _))) (by omega)
 ·have ef:(SM u.m).filter (λ_=>true)=SM u.m:=Yk.mpr λ_ _=>rfl
  have e:((SM u.m).flatMap λa=>((SM u.m).filter λ_=>true).map λb=>D.tup [dP (a,b),fj u a b])=(fP u.m u.m).map λp=>D.tup [dP p,fj u p.1 p.2]:=by
   rw [ef]
   unfold fP
   rw [X6]
   simp [T9,YU]
  rw [e]
  have h:=xj (λp=>fj u p.1 p.2) _ (fP u.m u.m) rfl (u_ _ _)
  show M.ok (R.d (.dct (jF ((fP u.m u.m).map λp=>D.tup [dP p,fj u p.1 p.2])).1 (jF ((fP u.m u.m).map λp=>D.tup [dP p,fj u p.1 p.2])).2))=_
  rw [h]
theorem BI (u:Wd):∀(ps:List (Nat×Nat)) (p:Nat×Nat),p∈ps->iz (ps.map dP) (ps.map λp=>fj u p.1 p.2) (dP p)=some (fj u p.1 p.2)
 | q::ps,p,h=>by
  rw [Td,Td]
  unfold iz
  by_cases c:q=p
  ·subst c
   rw [if_pos (by rw [Bt];simp)]
  ·rw [if_neg (by rw [Bt];simpa using c)]
   rcases S7.mp h with e | e
   ·exact absurd e.symm c
   ·exact BI u ps p e
theorem zJ (u:Wd) (a c:Nat) (ha:a < u.m) (hc:c < u.m):iN (.d (.dct (iC u) (iD u))) (.d (dP (a,c)))=.ok (.d (fj u a c)):=by
 show (if d9 (dP (a,c))=true then (match iz (iC u) (iD u) (dP (a,c)) with
  | some d=>M.ok (R.d d)
  | none=>.bad) else .bad)=_
 rw [if_pos (show d9 (dP (a,c))=true from rfl),BI u (fP u.m u.m) (a,c) (oZ.mpr ⟨ha,hc⟩)]
theorem AI (u:Wd) (a c:Nat):dep (fj u a c)<=60:=by
 have h1:deps (u.ms.map λr=>D.bl (inD (dN a) (r.2.map dN)))<=0:=fQ λx hx=>by obtain ⟨r,_,rfl⟩:=S3.mp hx;exact Tp _
 have h2:deps (u.ar.map λr=>D.bl (inD (dP (a,c)) (r.2.map dP)))<=0:=fQ λx hx=>by obtain ⟨r,_,rfl⟩:=S3.mp hx;exact Tp _
 unfold fj
 simp only [dep,deps]
 omega
def iY (v w:Wd) (p q:Nat×Nat):Bool:=bg (fj v p.1 q.1) (fj w p.2 q.2)
def lD (v w:Wd) (p:Nat×Nat):Prop:=p.1 < v.m/\p.2 < w.m
theorem vI (v w:Wd) (p q:Nat×Nat) (hp:lD v w p) (hq:lD v w q):fE [.d (.dct (iC v) (iD v)),.d (.dct (iC w) (iD w)),.d (dP p),.d (dP q)]=.ok (.d (.bl (iY v w p q))):=by
 refine b8 (bG (two (x:=.d (fj v p.1 q.1)) (y:=.d (fj w p.2 q.2)) (two rfl (bE (aK (two rfl rfl (gW _ _)) rfl (aK (two rfl rfl (gW _ _)) rfl bh)) t2) (zJ v p.1 q.1 hp.1 hq.1)) (two rfl (bE (aK (two rfl rfl (EN _ _ _)) rfl (aK (two rfl rfl (EN _ _ _)) rfl bh)) t2) (zJ w p.2 q.2 hp.2 hq.2)) (mF _ _ _ (AI v p.1 q.1) (AI w p.2 q.2))) rfl rfl)
def sQ (p q:Nat×Nat):Bool:=lexLe [p.1,p.2] [q.1,q.2]
theorem P5 (p q:Nat×Nat):zM (.d (dP p)) (.d (dP q))=.ok (.d (.bl (sQ p q))):=rfl
noncomputable def gb (v w:Wd) (ps:List (Nat×Nat)) (q:Nat×Nat):Bool:=(match ps.getLast? with
 | some l=>!sQ q l
 | none=>true) && ps.all λr=>iY v w q r && iY v w r q
theorem jU {g:G R}(h:g env=.ok (.d (.bl b))):br g env=.ok b:=by
 show (g env >>= _)=_
 rw [h]
 rfl
theorem iS {g:G R}(h:g env=.ok (lK (.d (.bl b)))):br g env=.ok b:=jU h
theorem bM {f:R->R->M R}{g h:G R}(hx:g env=.ok x) (hy:h env=.ok y) (hf:f x y=.ok (.d (.bl b))):br (g2 f g h) env=.ok b:=jU (two hx hy hf)
theorem jx {g:G Bool}(h:g env=.ok b):gg g env=.ok (!b):=by
 show (g env >>= _)=_
 rw [h]
 rfl
theorem jW {a b:G Bool}(h:a env=.ok false):jq a b env=.ok false:=by
 unfold jq
 rw [h]
 rfl
theorem i6 {a b:G Bool}(h:a env=.ok true) (h2:b env=.ok k):jq a b env=.ok k:=by
 unfold jq
 rw [h]
 exact h2
theorem ML {a b:G Bool}(h:a env=.ok (!x)) (h2:b env=.ok (!y)):ju a b env=.ok (!(x && y)):=by
 unfold ju
 rw [h]
 cases x with
 | true=>exact h2
 | false=>rfl
theorem O3 (v w:Wd) (ps:List (Nat×Nat)) (q:Nat×Nat) (hp:∀p∈ps,lD v w p) (hq:lD v w q):jf [.d (.dct (iC v) (iD v)),.d (.dct (iC w) (iD w)),.d (.tup (ps.map dP)),.d (dP q)]=.ok (.d (.bl (gb v w ps q))):=by
 have loop:(match ps.getLast? with
   | some l=>!sQ q l
   | none=>true)=true->Wp (aI (b_ (fm (af 2)) (aC 4) (bK (ju (gg (br (gN (aS 4 K23.fE) (ao (af 0) (ao (af 1) (ao (af 3) (ao (af 4) aD))))))) (gg (br (gN (aS 4 K23.fE) (ao (af 0) (ao (af 1) (ao (af 4) (ao (af 3) aD)))))))) (bq (gC (.bl false))) cS))
 (bq (gC (.bl true))) [some (.d (.dct (iC v) (iD v))),some (.d (.dct (iC w) (iD w))),some (.d (.tup (ps.map dP))),some (.d (dP q)),none]) (·=.rt (.d (.bl (gb v w ps q)))):=by
  intro hl
  refine d_ (ds:=ps.map dP) rfl ?_
  have key:∀(rs:List (Nat×Nat)),(∀p∈rs,lD v w p)->∀x:Option S,Wp (fh (aC 4) (bK (ju (gg (br (gN (aS 4 K23.fE) (ao (af 0) (ao (af 1) (ao (af 3) (ao (af 4) aD))))))) (gg (br (gN (aS 4 K23.fE) (ao (af 0) (ao (af 1) (ao (af 4) (ao (af 3) aD)))))))) (bq (gC (.bl false))) cS) (rs.map dP) [some (.d (.dct (iC v) (iD v))),some (.d (.dct (iC w) (iD w))),some (.d (.tup (ps.map dP))),some (.d (dP q)),x])
    (λo=>((∃e,o=.nx e)/\(rs.all λr=>iY v w q r && iY v w r q)=true)\/(o=.rt (.d (.bl false))/\(rs.all λr=>iY v w q r && iY v w r q)=false)):=by
   intro rs
   induction rs with
   | nil=>intro _ x;exact ⟨_,rfl,.inl ⟨⟨_,rfl⟩,rfl⟩⟩
   | cons r rs ih=>
    intro hr x
    have h1:=vI v w q r hq (hr r SV)
    have h2:=vI v w r q (hr r SV) hq
    have ht:(ju (gg (br (gN (aS 4 K23.fE) (ao (af 0) (ao (af 1) (ao (af 3) (ao (af 4) aD))))))) (gg (br (gN (aS 4 K23.fE) (ao (af 0) (ao (af 1) (ao (af 4) (ao (af 3) aD)))))))) [some (.d (.dct (iC v) (iD v))),some (.d (.dct (iC w) (iD w))),some (.d (.tup (ps.map dP))),some (.d (dP q)),some (.d (dP r))]=.ok (!(iY v w q r && iY v w r q)):=ML (jx (iS (c4 rfl rfl rfl rfl h1))) (jx (iS (c4 rfl rfl rfl rfl h2)))
    rw [Td,VP]
    unfold fh
    show Wp ((bK _ _ _ [some (.d (.dct (iC v) (iD v))),some (.d (.dct (iC w) (iD w))),some (.d (.tup (ps.map dP))),some (.d (dP q)),some (.d (dP r))]) >>= _) _
    cases hc:(iY v w q r && iY v w r q) with
    | true=>
     rw [hc] at ht
     rw [nM ht]
     exact ih (λp hp=>hr p (SS _ hp)) _
    | false=>
     rw [hc] at ht
     rw [kZ ht]
     exact ⟨_,rfl,.inr ⟨rfl,rfl⟩⟩
  refine (key ps hp none).mono ?_
  rintro o (⟨⟨e,rfl⟩,h⟩ | ⟨rfl,h⟩)
  ·refine bG rfl rfl ?_
   unfold gb
   rw [hl,h]
   rfl
  ·show O.rt _=_
   unfold gb
   rw [h,Wq]
 refine b8 ?_
 cases q':ps.getLast? with
 | none=>
  have:ps=[]:=YF.mp q'
  subst this
  exact jC (jW rfl) (loop rfl)
 | some l=>
  obtain ⟨rs,rfl⟩:∃rs,ps=rs++[l]:=by
   rcases U3 ps with rfl | ⟨ys,y,rfl⟩
   ·cases q'
   ·rw [U4] at q' ⊢
    rw [WO] at q'
    cases q'
    exact ⟨ys,rfl⟩
  have hix:aX (.d (.tup ((rs++[l]).map dP))) (.d (.int (-1)))=.ok (.d (dP l)):=by rw [Th];exact BE _ _
  have ht:jq (we (af 2)) (br (g2 zM (af 3) (g2 aX (af 2) (v_ (gC (.int 1)))))) [some (.d (.dct (iC v) (iD v))),some (.d (.dct (iC w) (iD w))),some (.d (.tup ((rs++[l]).map dP))),some (.d (dP q)),none]=.ok (sQ q l):=by
   refine i6 ?_ (jU (two rfl (two rfl rfl hix) (P5 q l)))
   show M.ok (!((rs++[l]).map dP).isEmpty)=_
   simp
  cases hc:sQ q l with
  | true=>
   rw [hc] at ht
   refine cu (u6 ht (bG rfl rfl ?_))
   show O.rt _=_
   unfold gb
   rw [q']
   simp [hc]
  | false=>
   rw [hc] at ht
   exact jC ht (loop (by rw [q'];simp [hc]))
section
variable {env:Ev}{Q:O->Prop}{g:G R}{t:G O}{r:R}{i:Nat}
theorem CS {xs ys:List D}(h0:env[i]?=some (some (.own xs))) (h:g env=.ok r) (h2:iy r=.ok ys) (hl:xs.length + ys.length<=16777216) (k:Q (.nx (env.set i (some (.own (xs++ys)))))):Wp (v7 i g env) Q:=by
 refine ⟨_,?_,k⟩
 unfold v7
 rw [h0]
 show (g env >>= _)=_
 rw [h,aO,h2,aO,if_pos (by rw [UB];exact hl)]
theorem Mq (h:g env=.ok r) (k:Q (.nx env)):Wp (jt g env) Q:=⟨.nx env,by show (g env >>= _)=_;rw [h];rfl,k⟩
theorem F4 (h:env[i]?=some (some (.d d))) (k:Wp (t env) Q):Wp (fJ i t env) Q:=by
 have:fJ i t env=t env:=by unfold fJ;rw [h]
 rw [this];exact k
theorem NP (h:env[i]?=some none) (k:Wp (t env) Q):Wp (fJ i t env) Q:=by
 have:fJ i t env=t env:=by unfold fJ;rw [h]
 rw [this];exact k
end
structure Pr (v w:Wd):Prop where
 vo:A9 v
 wo:A9 w
 v4:v.m<=4
 w4:w.m<=4
 mn:v.ms.map TZ=w.ms.map TZ
 an:v.ar.map TZ=w.ar.map TZ
def jT (u:Wd):D:=.tup [.tup ((u.ms.map TZ).map .str),.tup ((u.ar.map TZ).map .str)]
theorem yR (u:Wd) (hu:A9 u):jh [.d u.d]=.ok (.d (jT u)):=by
 have ml:=hu.ml
 have al:=hu.al
 refine b8 (Du rfl rfl rfl (bG (bE (aK (n1 (uH (xs:=u.ms) (λr=>.str r.1) (λr=>.tup (r.2.map dN)) (λr=>.str r.1) rfl (by omega) λr _=>⟨_,rfl,rfl⟩) rfl) rfl (aK (n1 (uH (xs:=u.ar) (λr=>.str r.1) (λr=>.tup (r.2.map dP)) (λr=>.str r.1) rfl (by omega) λr _=>⟨_,rfl,rfl⟩) rfl) rfl bh)) t2) rfl ?_))
 unfold jT
 rw [T9,T9]
 rfl
theorem B6 (u:Wd):dep (jT u)<=60:=by
 have h:∀ss:List Str,deps (ss.map D.str)<=0:=λss=>fQ λx hx=>by obtain ⟨r,_,rfl⟩:=S3.mp hx;exact Tp _
 have h1:=h (u.ms.map TZ)
 have h2:=h (u.ar.map TZ)
 unfold jT
 simp only [dep,deps]
 omega
theorem nq {v w:Wd}(t:Pr v w):eS [.d v.d,.d w.d]=.ok (.d .non):=by
 have ht:jg [.d v.d,.d w.d]=.ok (.d .non):=by
  refine rq (oW (bM (b:=false) (c1 rfl (yR v t.vo)) (c1 rfl (yR w t.wo)) ?_) (fc ⟨_,rfl⟩))
  show cj true (.d (jT v)) (.d (jT w))=_
  rw [mF true (.d (jT v)) (.d (jT w)) (B6 v) (B6 w)]
  have e:jT v=jT w:=by unfold jT;rw [t.mn,t.an]
  show M.ok (R.d (.bl (!bg (jT v) (jT w))))=_
  rw [e,f_]
  rfl
 have hf:f7 [.d (.tup [v.d,w.d])]=.ok (.d .non):=by
  have v4:=t.v4
  have w4:=t.w4
  have one:∀(u:Wd),u.m<=4->br (g2 (qq λi j=>.bl (decide (j < i))) (g2 aX (af 1) (gC (.int 0))) (gC (.int 4))) [some (.d (.tup [v.d,w.d])),some (.d u.d)]=.ok false:=λu hu=>by
   refine bM (two rfl rfl (gW _ _)) rfl ?_
   show M.ok (R.d (.bl (decide ((4:Int) < (u.m:Int)))))=_
   rw [decide_eq_false (by omega)]
  refine rq (mP (ds:=[v.d,w.d]) rfl (kh (λk env=>∃x,env=[some (.d (.tup [v.d,w.d])),x]) [v.d,w.d] ⟨none,rfl⟩ ?_ λe _=>⟨e,rfl⟩))
  rintro k hk _ ⟨x,rfl⟩
  match k,hk with
  | 0,_=>exact ⟨_,rfl,oW (one v v4) (fc ⟨_,rfl,_,rfl⟩)⟩
  | 1,_=>exact ⟨_,rfl,oW (one w w4) (fc ⟨_,rfl,_,rfl⟩)⟩
 refine rq (jM (c2 rfl rfl ht) ?_)
 exact Mq (c1 (bE (aK rfl rfl (aK rfl rfl bh)) t2) hf) ⟨_,rfl⟩
theorem NR (d:Nat) (hd:d<=4):K55.dh [.d (.int d),.d (.int 0),.d (.int 4)]=.ok (.d .non):=by
 refine rq (oW ?_ (fc ⟨_,rfl⟩))
 show (if decide ((d:Int) < 0)=true then M.ok true else M.ok (decide ((4:Int) < d)))=M.ok false
 rw [decide_eq_false (show ¬(d:Int) < 0 by omega),decide_eq_false (show ¬(4:Int) < d by omega)]
 rfl
def prs (v w:Wd):List (Nat×Nat):=(fP v.m w.m).filter λp=>iY v w p p
noncomputable def LG (v w:Wd):Nat->List (List (Nat×Nat))
 | 0=>[[]]
 | j + 1=>(LG v w j).flatMap λah=>((prs v w).filter (gb v w ah)).map λq=>ah++[q]
noncomputable def told (v w:Wd):Nat->List (List (Nat×Nat))
 | 0=>[[]]
 | j + 1=>told v w j++LG v w (j + 1)
abbrev aP (ps:List (Nat×Nat)):D:=.tup (ps.map dP)
theorem Fj (h:p∈prs v w):lD v w p:=oZ.mp (Ud.mp h).1
theorem BQ (t:Pr v w):(prs v w).length<=16:=by
 have h1:=UD (λp=>iY v w p p) (fP v.m w.m)
 rw [GK] at h1
 have h2:=Wr t.v4 t.w4
 unfold prs
 omega
theorem om:∀(j:Nat){ps:List (Nat×Nat)},ps∈LG v w j->ps.length=j/\∀p∈ps,lD v w p
 | 0,ps,h=>by
  rw [show ps=[] from S6.mp h]
  exact ⟨rfl,λ_ h=>by cases h⟩
 | j + 1,ps,h=>by
  obtain ⟨ah,h1,h2⟩:=X5.mp h
  obtain ⟨q,h3,rfl⟩:=S3.mp h2
  obtain ⟨l,k⟩:=om j h1
  refine ⟨by rw [Te,l];rfl,λp hp=>?_⟩
  rcases TF.mp hp with h | h
  ·exact k p h
  ·rw [S6.mp h];exact Fj (Ud.mp h3).1
theorem oO {α β:Type}(f:α->List β) (n:Nat):∀(xs:List α),(∀x∈xs,(f x).length<=n)->(xs.flatMap f).length<=xs.length * n
 | [],_=>by simp
 | x::xs,h=>by
  have h1:=h x SV
  have h2:=oO f n xs λy hy=>h y (SS _ hy)
  rw [List.flatMap_cons,Te,Uv,abL]
  omega
theorem lE (t:Pr v w):∀j,(LG v w j).length<=16 ^ j
 | 0=>SW _
 | j + 1=>by
  have h:=oO (λah=>((prs v w).filter (gb v w ah)).map λq=>ah++[q]) 16 (LG v w j) λah _=>by
   rw [SK]
   exact Tz (UD _ _) (BQ t)
  have h2:=Vw 16 (lE t j)
  rw [aa8]
  exact Tz h h2
theorem lV (t:Pr v w):∀j,j<=4->(told v w j).length<=(j + 1) * 65536
 | 0,_=>by show 1<=_;omega
 | j + 1,h=>by
  have h1:=lV t j (by omega)
  have h2:=lE t (j + 1)
  have h3:(16:Nat) ^ (j + 1)<=16 ^ 4:=Vv (by decide) h
  have h4:(16:Nat) ^ 4=65536:=by decide
  show (told v w j++LG v w (j + 1)).length<=_
  rw [Te]
  omega
theorem rT:∀(n:Nat){ps:List (Nat×Nat)},ps∈told v w n↔∃j,j<=n/\ps∈LG v w j
 | 0,ps=>by
  constructor
  ·exact λh=>⟨0,SW _,h⟩
  ·rintro ⟨j,hj,h⟩
   have:j=0:=by omega
   subst this
   exact h
 | n + 1,ps=>by
  show ps∈told v w n++LG v w (n + 1)↔_
  rw [TF,rT n]
  constructor
  ·rintro (⟨j,hj,h⟩ | h)
   ·exact ⟨j,by omega,h⟩
   ·exact ⟨n + 1,SW _,h⟩
  ·rintro ⟨j,hj,h⟩
   by_cases c:j=n + 1
   ·subst c;exact .inr h
   ·exact .inl ⟨j,by omega,h⟩
theorem Cf {v w:Wd}(t:Pr v w) (n:Nat) (hn:n<=4):lZ [.d v.d,.d w.d,.d (.int n)]=.ok (.l .fresh ((told v w n).map aP)):=by
 have v4:=t.v4
 have w4:=t.w4
 refine b8 (jM (c2 rfl rfl (nq t)) (jM (c3 rfl rfl rfl (NR n hn)) (bD (c1 rfl (A4 v t.vo)) rfl (bD (c1 rfl (A4 w t.wo)) rfl ?_))))
 have hp:jZ 2 [1,3,4] (b9 (ao (g2 aX (af 0) (gC (.int 0))) aD)) (aC 0) dY (b9 (ao (g2 aX (af 2) (gC (.int 0))) aD)) (aC 1) (br (gN (aS 4 K23.fE) (ao (af 3) (ao (af 4) (ao (bz (az (af 0) (az (af 1) aQ))) (ao (bz (az (af 0) (az (af 1) aQ))) aD)))))) (bz (az (af 0) (az (af 1) aQ)))
   [some (.d v.d),some (.d w.d),some (.d (.int n)),some (.d (.dct (iC v) (iD v))),some (.d (.dct (iC w) (iD w))),none,none,none,none]=.ok (.l .fresh ((prs v w).map dP)):=by
  refine (CB (xs:=SM v.m) (h:=dN) (h':=dN) (λ_=>SM w.m) (λa b=>iY v w (a,b) (a,b)) (λa b=>dP (a,b)) (pe (cX (two rfl rfl (gW _ _))) (by omega)) (by simp;omega) λa ha=>⟨by simp;omega,λz=>pe (cX (two rfl rfl (gW _ _))) (by omega),λb hb=>⟨?_,λ_=>Bb (bE (aK rfl rfl (aK rfl rfl bh)) t2) rfl⟩⟩).trans ?_
  ·have ha:a < v.m:=by simpa using ha
   have hb:b < w.m:=by simpa using hb
   exact iS (c4 rfl rfl (bE (aK rfl rfl (aK rfl rfl bh)) t2) (bE (aK rfl rfl (aK rfl rfl bh)) t2) (vI v w (a,b) (a,b) ⟨ha,hb⟩ ⟨ha,hb⟩))
  ·have e:((SM v.m).flatMap λa=>((SM w.m).filter λb=>iY v w (a,b) (a,b)).map λb=>dP (a,b))=(prs v w).map dP:=by
    unfold prs fP
    rw [aac,X6]
    congr 1
    funext a
    rw [abO,T9]
    rfl
   rw [e]
 refine bD hp rfl ?_
 refine cu (rV rfl (fM (fR (aK (bE bh (by decide)) rfl bh) (by show 1<=1000;decide)) rfl ?_))
 refine bD (fR (aK (bE bh (by decide)) rfl bh) (by show 1<=1000;decide)) rfl ?_
 refine d_ (jB (n:=n) rfl (by omega)) ?_
 refine iw (λk env=>∃x:Option S,env=[some (.d v.d),some (.d w.d),some (.d (.int n)),some (.d (.dct (iC v) (iD v))),some (.d (.dct (iC w) (iD w))),some (.d (.lst ((prs v w).map dP))),some (.own ((LG v w k).map aP)),some (.own ((told v w k).map aP)),x]) ⟨none,rfl⟩ ?_ ?_
 ·rintro k hk _ ⟨x,rfl⟩
  have l1:=lE t k
  have l2:=lE t (k + 1)
  have l3:=lV t k (by omega)
  have p1:(16:Nat) ^ k<=16 ^ 3:=Vv (by decide) (by omega)
  have p2:(16:Nat) ^ (k + 1)<=16 ^ 4:=Vv (by decide) (by omega)
  have p3:(16:Nat) ^ 3=4096:=by decide
  have p4:(16:Nat) ^ 4=65536:=by decide
  refine ⟨_,rfl,cu (F4 rfl (fM (r:=.l .fresh ((LG v w (k + 1)).map aP)) ?_ rfl (CS rfl rfl rfl (by simp only [SK];omega) ⟨_,rfl,some (.d (.int k)),?_⟩)))⟩
  ·refine (CB (xs:=LG v w k) (h:=aP) (h':=dP) (λ_=>prs v w) (λah q=>gb v w ah q) (λah q=>aP (ah++[q])) rfl (by omega) λah RE=>⟨by have:=BQ t;omega,λz=>rfl,λq hq=>⟨?_,λ_=>Bb (two rfl (bE (aK rfl rfl bh) (by show 1<=1000;decide)) (DB _ _ ?_)) ?_⟩⟩).trans ?_
   ·exact iS (c4 rfl rfl rfl rfl (O3 v w ah q (om k RE).2 (Fj hq)))
   ·have:=(om k RE).1
    simp;omega
   ·show M.ok (D.tup (ah.map dP++[dP q]))=M.ok (D.tup ((ah++[q]).map dP))
    rw [Th]
    rfl
   ·show M.ok (R.l .fresh _)=_
    show _=M.ok (R.l .fresh (((LG v w k).flatMap λah=>((prs v w).filter (gb v w ah)).map λq=>ah++[q]).map aP))
    rw [X6]
    simp only [T9]
    rfl
  ·show _=[_,_,_,_,_,_,_,some (S.own ((told v w k++LG v w (k + 1)).map aP)),_]
   rw [Th]
   rfl
 ·rintro _ ⟨x,rfl⟩
  exact bG rfl rfl rfl
theorem allM {α:Type}(f:α->Bool) (xs:List α):tP [.l .fresh (xs.map λx=>.bl (f x))]=.ok (.d (.bl (xs.all f))):=by
 have:=all_map (λd=>match d with
  | .bl b=>b
  | _=>false) (xs.map λx=>.bl (f x))
 rw [T9,Yy] at this
 exact this
theorem lY:fO [.d .non]=.ok (.d (aP [])):=rfl
theorem zL:∀{xs ys:List Bool},cD (xs.map D.bl) (ys.map D.bl)=true↔xs=ys
 | [],[]=>by simp [cD]
 | [],_::_=>by simp [cD]
 | _::_,[]=>by simp [cD]
 | x::xs,y::ys=>by
  rw [Td,Td,ie,SN,zL]
  simp [bg]
structure rZ (v w:Wd) (p q:Nat×Nat):Prop where
 eq:p.1=q.1↔p.2=q.2
 ms:v.ms.map (λr=>decide (p.1∈r.2))=w.ms.map λr=>decide (p.2∈r.2)
 ar:v.ar.map (λr=>decide ((p.1,q.1)∈r.2))=w.ar.map λr=>decide ((p.2,q.2)∈r.2)
theorem iZ (v w:Wd) (p q:Nat×Nat):iY v w p q=true↔rZ v w p q:=by
 have e:iY v w p q=((p.1 == q.1) == (p.2 == q.2) && (cD ((v.ms.map λr=>decide (p.1∈r.2)).map D.bl) ((w.ms.map λr=>decide (p.2∈r.2)).map D.bl) && (cD ((v.ar.map λr=>decide ((p.1,q.1)∈r.2)).map D.bl) ((w.ar.map λr=>decide ((p.2,q.2)∈r.2)).map D.bl) && true))):=by
  unfold iY fj
  rw [jN,ie,ie,ie,jN,jN,cD]
  simp only [K55.inN,K55.LY,T9,K55.uK]
  rfl
 rw [e,SN,SN,SN,zL,zL]
 have e1:((p.1 == q.1) == (p.2 == q.2))=true↔(p.1=q.1↔p.2=q.2):=by
  rw [beq_iff_eq,Uq,beq_iff_eq,beq_iff_eq]
 rw [e1]
 exact ⟨λ⟨a,b,c,_⟩=>⟨a,b,c⟩,λ⟨a,b,c⟩=>⟨a,b,c,rfl⟩⟩
theorem Ms {p q:Nat×Nat}(h:sQ p q=false):q.1 < p.1\/(q.1=p.1/\q.2 < p.2):=by
 unfold sQ at h
 rw [kO] at h
 by_cases c:(p.1:Int)=q.1
 ·rw [if_pos c,kO] at h
  by_cases c2:(p.2:Int)=q.2
  ·rw [if_pos c2,pU] at h;cases h
  ·rw [if_neg c2,decide_eq_false_iff_not] at h
   exact .inr ⟨by omega,by omega⟩
 ·rw [if_neg c,decide_eq_false_iff_not] at h
  exact .inl (by omega)
theorem Mr {p q:Nat×Nat}(h:q.1 < p.1):sQ p q=false:=by
 unfold sQ
 rw [kO,if_neg (by omega),decide_eq_false_iff_not]
 omega
structure Good (v w:Wd) (ps:List (Nat×Nat)):Prop where
 up:ps.Pairwise λp q=>p.1 < q.1
 ag:∀p∈ps,∀q∈ps,rZ v w p q
 rg:∀p∈ps,lD v w p
theorem rK {α:Type}{ps:List α}{l:α}(h:ps.getLast?=some l):∃rs,ps=rs++[l]:=by
 rcases U3 ps with rfl | ⟨ys,y,rfl⟩
 ·cases h
 ·rw [U4] at h ⊢
  rw [WO] at h
  cases h
  exact ⟨ys,rfl⟩
theorem k_:p∈prs v w↔lD v w p/\rZ v w p p:=by
 unfold prs
 rw [Ud,oZ,iZ]
 exact Iff.rfl
theorem qz {v w:Wd}{ps:List (Nat×Nat)}(g:Good v w ps){q:Nat×Nat}(hq:q∈prs v w):gb v w ps q=true↔Good v w (ps++[q]):=by
 obtain ⟨h1,h2⟩:=k_.mp hq
 unfold gb
 rw [SN,Tu]
 constructor
 ·rintro ⟨a,b⟩
  have ag:∀r∈ps,rZ v w q r/\rZ v w r q:=λr hr=>by
   have:=b r hr
   rw [SN,iZ,iZ] at this
   exact this
  have lt:∀r∈ps,r.1 < q.1:=by
   cases e:ps.getLast? with
   | none=>rw [YF.mp e];exact λ_ h=>by cases h
   | some l=>
    rw [e] at a
    have hl:l.1 < q.1:=by
     obtain ⟨rs,rfl⟩:=rK e
     rcases Ms (by simpa using a) with h | ⟨h,h'⟩
     ·exact h
     ·have:=(ag l (by simp)).1.eq
      omega
    obtain ⟨rs,rfl⟩:=rK e
    intro r hr
    rcases TF.mp hr with h | h
    ·have:=(UN.mp g.up).2.2 r h l (by simp)
     omega
    ·rw [S6.mp h];exact hl
  refine ⟨UN.mpr ⟨g.up,U9 _ _,λr hr x hx=>by rw [S6.mp hx];exact lt r hr⟩,λr hr x hx=>?_,λr hr=>?_⟩
  ·rcases TF.mp hr with hr | hr <;> rcases TF.mp hx with hx | hx
   ·exact g.ag r hr x hx
   ·rw [S6.mp hx];exact (ag r hr).2
   ·rw [S6.mp hr];exact (ag x hx).1
   ·rw [S6.mp hr,S6.mp hx];exact h2
  ·rcases TF.mp hr with hr | hr
   ·exact g.rg r hr
   ·rw [S6.mp hr];exact h1
 ·intro h
  refine ⟨?_,λr hr=>?_⟩
  ·cases e:ps.getLast? with
   | none=>rfl
   | some l=>
    have hl:l∈ps:=by obtain ⟨rs,rfl⟩:=rK e;simp
    have:=(UN.mp h.up).2.2 l hl q (by simp)
    show (!sQ q l)=true
    rw [Mr this]
    rfl
  ·rw [SN,iZ,iZ]
   exact ⟨h.ag q (by simp) r (by simp [hr]),h.ag r (by simp [hr]) q (by simp)⟩
theorem j6:∀(j:Nat){ps:List (Nat×Nat)},ps∈LG v w j↔ps.length=j/\Good v w ps
 | 0,ps=>by
  constructor
  ·intro h
   rw [show ps=[] from S6.mp h]
   exact ⟨rfl,.nil,(λ_ h=>nomatch h),(λ_ h=>nomatch h)⟩
  ·rintro ⟨h,_⟩
   rw [Wj.mp h]
   exact S6.mpr rfl
 | j + 1,ps=>by
  constructor
  ·intro h
   obtain ⟨ah,h1,h2⟩:=X5.mp h
   obtain ⟨q,h3,rfl⟩:=S3.mp h2
   obtain ⟨l,g⟩:=(j6 j).mp h1
   obtain ⟨h4,h5⟩:=Ud.mp h3
   exact ⟨by rw [Te,l];rfl,(qz g h4).mp h5⟩
  ·rintro ⟨h,g⟩
   rcases U3 ps with rfl | ⟨ah,q,rfl⟩
   ·cases h
   ·rw [U4] at h g ⊢
    have ga:Good v w ah:=⟨(UN.mp g.up).1,λp hp x hx=>g.ag p (by simp [hp]) x (by simp [hx]),λp hp=>g.rg p (by simp [hp])⟩
    have hq:q∈prs v w:=k_.mpr ⟨g.rg q (by simp),g.ag q (by simp) q (by simp)⟩
    exact X5.mpr ⟨ah,(j6 j).mpr ⟨by simpa using h,ga⟩,S3.mpr ⟨q,Ud.mpr ⟨hq,(qz ga hq).mpr g⟩,rfl⟩⟩
theorem HS {l:List Nat}(hu:l.Pairwise (· < ·)) (hl:l.length=m) (hm:∀x∈l,x < m):l=SM m:=by
 have st:=Ug.mp hu
 have lo:∀k (hk:k < l.length),k<=l[k]:=by
  intro k
  induction k with
  | zero=>intro _;exact Tp _
  | succ k ih=>
   intro hk
   have:=st k (k + 1) (by omega) hk (by omega)
   have:=ih (by omega)
   omega
 have hi:∀d k (hk:k < l.length),l.length - 1 - k=d->l[k]<=k:=by
  intro d
  induction d with
  | zero=>
   intro k hk e
   have:=hm l[k] (T3 hk)
   omega
  | succ d ih=>
   intro k hk e
   have h1:=ih (k + 1) (by omega) (by omega)
   have h2:=st k (k + 1) hk (by omega) (by omega)
   omega
 refine Vt (by simp [hl]) λk h1 h2=>?_
 rw [aau]
 exact Nat.le_antisymm (hi _ k h1 rfl) (lo k h1)
structure HY (v w:Wd) (σ:List Nat):Prop where
 len:σ.length=v.m
 rg:∀y∈σ,y < v.m
 nd:σ.Nodup
 ms:∀k (hk:k < σ.length),v.ms.map (λr=>decide (k∈r.2))=w.ms.map λr=>decide (σ[k]∈r.2)
 ar:∀j k (hj:j < σ.length) (hk:k < σ.length),v.ar.map (λr=>decide ((j,k)∈r.2))=w.ar.map λr=>decide ((σ[j],σ[k])∈r.2)
def iG (σ:List Nat):List (Nat×Nat):=(SM σ.length).zip σ
theorem Cc {σ:List Nat}(hk:k < σ.length):(iG σ)[k]?=some (k,σ[k]):=by
 unfold iG
 rw [WY]
 exact ⟨by simp [hk],by simp [hk]⟩
theorem iU {σ:List Nat}{p:Nat×Nat}:p∈iG σ↔∃hk:p.1 < σ.length,σ[p.1]=p.2:=by
 constructor
 ·intro h
  obtain ⟨k,hk,e⟩:=Uj.mp h
  have hk':k < σ.length:=by simpa [iG] using hk
  have:=Cc hk'
  rw [S5 hk,e] at this
  cases this
  exact ⟨hk',rfl⟩
 ·rintro ⟨hk,e⟩
  have:=Cc hk
  rw [e] at this
  exact Ui this
theorem oU {v w:Wd}(hm:w.m=v.m) (i:HY v w σ):Good v w (iG σ):=by
 refine ⟨?_,λp hp q hq=>?_,λp hp=>?_⟩
 ·have h:((iG σ).map TZ).Pairwise (· < ·):=by
   unfold iG
   rw [abi (by simp)]
   exact Ws
  exact TX.mp h
 ·obtain ⟨h1,e1⟩:=iU.mp hp
  obtain ⟨h2,e2⟩:=iU.mp hq
  refine ⟨⟨λe=>?_,λe=>?_⟩,?_,?_⟩
  ·rw [<-e1,<-e2];simp only [e]
  ·rw [<-e1,<-e2] at e
   exact (Y_ i.nd).mp e
  ·rw [<-e1];exact i.ms p.1 h1
  ·rw [<-e1,<-e2];exact i.ar p.1 q.1 h1 h2
 ·obtain ⟨h1,e1⟩:=iU.mp hp
  refine ⟨by rw [<-i.len];exact h1,?_⟩
  rw [hm,<-e1]
  exact i.rg _ (T3 h1)
theorem oQ {v w:Wd}(hm:w.m=v.m){ps:List (Nat×Nat)}(g:Good v w ps) (hl:ps.length=v.m):ps=iG (ps.map ZQ)/\HY v w (ps.map ZQ):=by
 have f:ps.map TZ=SM v.m:=HS (TX.mpr g.up) (by rw [SK,hl]) λx hx=>by
  obtain ⟨p,hp,rfl⟩:=S3.mp hx
  exact (g.rg p hp).1
 have at_:∀k (hk:k < ps.length),ps[k]=(k,(ps.map ZQ)[k]'(by rw [SK];exact hk)):=λk hk=>by
  have h1:(ps.map TZ)[k]?=some ps[k].1:=by rw [Tq,S5 hk];rfl
  rw [f,Wf (by omega)] at h1
  rw [UG]
  exact adT (Ul h1).symm rfl
 refine ⟨?_,⟨by rw [SK,hl],λy hy=>?_,?_,λk hk=>?_,λj k hj hk=>?_⟩⟩
 ·unfold iG
  rw [SK,hl,<-f]
  refine Vt (by simp) λk h1 h2=>?_
  simp
 ·obtain ⟨p,hp,rfl⟩:=S3.mp hy
  rw [<-hm]
  exact (g.rg p hp).2
 ·refine TX.mpr ((VS.mp g.up).imp ?_)
  rintro p q ⟨hp,hq,h⟩ e
  have:=(g.ag p hp q hq).eq
  omega
 ·have hk':k < ps.length:=by rw [SK] at hk;exact hk
  have h:=(g.ag ps[k] (T3 hk') ps[k] (T3 hk')).ms
  have e1:=congrArg TZ (at_ k hk')
  have e2:=congrArg ZQ (at_ k hk')
  rw [e1,e2] at h
  exact h
 ·have hk':k < ps.length:=by rw [SK] at hk;exact hk
  have hj':j < ps.length:=by rw [SK] at hj;exact hj
  have h:=(g.ag ps[j] (T3 hj') ps[k] (T3 hk')).ar
  have e1:=congrArg TZ (at_ k hk')
  have e2:=congrArg ZQ (at_ k hk')
  have e3:=congrArg TZ (at_ j hj')
  have e4:=congrArg ZQ (at_ j hj')
  rw [e1,e2,e3,e4] at h
  exact h
theorem C_ (a b:Nat):d7 (dN a) (dN b)=true↔a < b:=by
 rw [nP,decide_eq_true_eq]
 omega
theorem u7 (a b:Nat×Nat):d7 (dP a) (dP b)=true↔nS a b:=by
 have e:d7 (dP a) (dP b)=iF [dN a.1,dN a.2] [dN b.1,dN b.2]:=rfl
 rw [e,jO,K55.uK]
 unfold nS
 by_cases c:a.1=b.1
 ·rw [if_pos (by simpa using c),jO,K55.uK]
  by_cases c2:a.2=b.2
  ·rw [if_pos (by simpa using c2)]
   constructor
   ·intro h;cases h
   ·intro h;omega
  ·rw [if_neg (by simpa using c2)]
   rw [show d7 (D.int a.2) (D.int b.2)=d7 (dN a.2) (dN b.2) from rfl,C_]
   omega
 ·rw [if_neg (by simpa using c)]
  rw [show d7 (D.int a.1) (D.int b.1)=d7 (dN a.1) (dN b.1) from rfl,C_]
  omega
theorem Mx {α β:Type}{f:α->β}{xs:List α}(nd:xs.Nodup) (inj:∀a∈xs,∀b∈xs,f a=f b->a=b):(xs.map f).Nodup:=by
 refine TX.mpr ((VS.mp nd).imp ?_)
 rintro a b ⟨ha,hb,h⟩ e
 exact h (inj a ha b hb e)
end K23
namespace DL
open PySem PySem.Spec PyProof.Rows L2 DX
section
variable {X:Cx}{c:C}{e ke a b:TV}{g gk ga gb:G R}{pos:Pos}
noncomputable def Ol (K:SG):Cm:=λo i v H Q=>∃J p ks vs kxs d,aU J H/\o=.ref p/\eu K J H p ks vs/\d9 (.tup kxs)=true/\Rep K J (.tup kxs) i/\Rep K J d v/\ks.length<=sizeLine/\∀o,eu K J (upd H p o) p (dput (ks,vs) (.tup kxs) d).1 (dput (ks,vs) (.tup kxs) d).2->Q (upd H p o)
theorem set_dict (hu:X.A.units + 64 < UL):Lo X (Ol X.K):=by
 intro Sq s σ H o i v ov iv u Q I ro ri rv h
 obtain ⟨J,p,ks,vs,kxs,d,sm,rfl,hd,ok,rk,rd,hl,q⟩:=h
 obtain ⟨_,_,k1,k2⟩:=jy ok
 obtain ⟨r,rfl⟩:∃r,i=.ref r:=by cases rk;exact ⟨_,rfl⟩
 cases ro
 cases ri
 obtain ⟨xs,hm,lx,put⟩:=BR I sm hd
 refine wpAny_setItem_heap (knd:=oV X.prog X.w) (k:=⟨.tup kxs,k1,k2⟩) (show X.A.units + 1 + 16 < UL by omega) (ly (HF.of (c:=⟨X.K,H,H,λ_=>True⟩) I sm) k1 rk) hm (λh' hm' sb=>?_) (by rw [lx];exact hl)
 obtain ⟨o,W,hd,_⟩:=put k1 k2 rk rd rv h' _ hm' sb
 exact ⟨_,W,q o hd⟩
noncomputable def wc (i:Nat) (gk g:G R):G O:=λenv=>match env[i]? with
 | some (some (.dk ks vs))=>g env >>= λr=>toD r >>= λd=>gk env >>= λr2=>toD r2 >>= λk=>if d9 k=true/\ks.length<=1000000 then .ok (.nx (env.set i (some (.dk (dput (ks,vs) k d).1 (dput (ks,vs) k d).2)))) else .bad
 | _=>.bad
theorem En {prog:S_}{w:TL}{K:Type} [DecidableEq K] {knd:HeapKind prog w K}{A:TR}{E:SI->SJ->Prop}{s:SJ}{d a:Tg}{k:K}{xs:List (K×Tg×SI)}{Q:Bool->SJ->Prop}(hu:knd.room A.in1) (hkey:knd.is s.heap k a) (hd:(d == Wn)=false)
  (hm:s.heap.DictOfH knd d xs) (h:Q (acK xs k).isSome {s with toks:=s.toks + knd.draws k}):S8 (Ti prog w) A (contains (.ref d) (.ref a)) Q E s:=by
 refine wpAny_contains_slot hm.typeIs aaB (TY aaB hm.typeIs entry_dict_contains ?_ (args_dict_contains _ _))
 show S8 _ _ (dictGet d (.ref a) >>= λ_=>_) _ _ s
 refine SE (wpAny_dictGet_heap hu hkey hm ?_)
 cases q:acK xs k with
 | some p=>rw [q] at h;exact SH ⟨_,rfl,UI h⟩
 | none=>rw [q] at h;exact SE (wpAny_pendingKey_other hd (SH ⟨_,rfl,UI h⟩))
noncomputable def Hv (K:SG) (neg:Bool):R2:=λx y H Q=>∃J p ks vs k,aU J H/\y=.ref p/\eu K J H p ks vs/\Rep K J k x/\d9 k=true/\Q (.bl (if neg then !(iz ks vs k).isSome else (iz ks vs k).isSome)) H
theorem Gi (hu:X.A.units + 64 < UL){Sq:List (Tg×Obj)}{s:SJ}{σ:L2.St}{H:Hp}{x y:V}{v u:SI}{Q:VK}{neg:Bool}(I:Inv X Sq σ H s) (rx:RelV x v) (ry:RelV y u) (h:Hv X.K neg x y H Q):S8 (Ti X.prog X.w) X.A (contains u v) (λr s'=>EP X Sq σ Q (.bool (if neg then !r else r)) s') X.xe s:=by
 obtain ⟨J,p,ks,vs,k,sm,rfl,hd,hk,ok,q⟩:=h
 have F:HF X.K J s:=HF.of (c:=⟨X.K,H,H,λ_=>True⟩) I sm
 obtain ⟨kx,rfl,k1,k2⟩:=jy ok
 obtain ⟨r,rfl⟩:∃r,x=.ref r:=by cases hk;exact ⟨_,rfl⟩
 cases rx
 cases ry
 obtain ⟨xs,us,ws,hm,e2,_,hv,e4,_,hsm⟩:=tK (P:=X.prog) (w:=X.w) F (gH I) hd
 have e:(acK xs ⟨.tup kx,k1,k2⟩).isSome=(iz ks vs (.tup kx)).isSome:=by
  obtain ⟨l1,l2⟩:=yw (K:=X.K) (J:=J) ⟨.tup kx,k1,k2⟩ e2 hv e4
  cases z:iz ks vs (.tup kx) with
  | some d=>obtain ⟨p,_,e,_⟩:=l1 d z;rw [e];rfl
  | none=>rw [l2 z];rfl
 exact En (k:=⟨.tup kx,k1,k2⟩) (show X.A.units + 1 + 16 < UL by omega) (ly F k1 hk) hsm hm ⟨.bl _,H,I.tok _,by rw [e];rfl,q⟩
theorem MC (hu:X.A.units + 64 < UL):c_ X (UP .In) (Hv X.K false):=λSq s σ H x y v u Q I rx ry h=>SE (Uc (Gi hu I rx ry h) (λ_ _ h=>SH h) λ_ _ f=>f)
noncomputable def tQ (neg:Bool) (x y:R):M R:=match wV y,x with
 | some z,.d k=>if d9 k=true then .ok (.d (.bl (if neg then !(iz z.1 z.2 k).isSome else (iz z.1 z.2 k).isSome))) else .bad
 | _,_=>.bad
theorem Lx (neg:Bool) (hK:X.K=c.K):BD c (Hv X.K neg) (tQ neg):=by
 intro He He' J H x y u v Q hp rx ry w
 unfold tQ at w
 split at w
 ·rename_i hz
  obtain ⟨p,rfl,hd⟩:=ry.dk hp hz
  split at w
  ·rename_i ok
   exact ⟨J,p,_,_,_,hp.sub,rfl,by rw [hK];exact hd,by rw [hK];exact rx,ok,w _ J H (Ext.refl hp.sub) (.bl _)⟩
  ·exact w.elim
 ·exact w.elim
theorem Hl (i:Nat){x:Str}{p1 p2:Pos}(hu:X.A.units + 64 < UL) (h:QD X c e g) (hk:QD X c ke gk) (hN:X.N[i]?=some x:=by rfl) (hv:sD X.env.scope x:=by first | exact XW rfl | exact Wm (XW rfl) | exact Wm (Wm rfl)) (hd:(x == ("__debug__":Str))=false:=by decide)
  (hcd:(x == ("__classdict__":Str))=false:=by decide)
  (ha:∀v,assign (.Subscript (.Name x p1) ke p2) X.env v=(do
   let ov <-holding [v] (eval (.Name x p1) X.env)
   let iv <-holding [v,ov] (eval ke X.env)
   Wb p2
   (holding [v,ov,iv] (setItem ov iv v))
   release [v,ov,iv] []):=by intro _;rfl)
  (hs:W8 [.Subscript (.Name x p1) ke p2] e pos.line X.env=pure false:=by rfl) (hw:aaf [.Subscript (.Name x p1) ke p2] e X.env=pure none:=by rfl)
  (h1:(V1 [.Subscript (.Name x p1) ke p2] X.env).map (·.2)=[assign (.Subscript (.Name x p1) ke p2) X.env]:=by rfl) (hK:X.K=c.K:=by rfl):
  iX X c (.Assign [.Subscript (.Name x p1) ke p2] e pos) (wc i gk g):=have h:=h.h;have hk:=hk.h;⟨
 iK (Fl h (MW (lO hN hv hd hcd) hk (set_dict hu) ha) hs hw h1) λE σ H ⟨J,env,sr,w⟩=>by
  unfold wc at w
  split at w
  ·rename_i ks vs hi
   obtain ⟨v,q1,p,rfl,h2,h3,h4⟩:=sr.at_ i _ hi
   refine ⟨J,env,sr,aF (aL w) λr wr y J1 H1 e1 r1=>?_⟩
   obtain ⟨d,q,wr⟩:=jd wr
   obtain ⟨J2,e2,s2,rd⟩:=freeze e1 r1 q
   refine ⟨.ref p,q1,?_⟩
   refine ⟨J2,env,sr.ext e2,aF (aL wr) λrk wk vk J3 H3 e3 r3=>?_⟩
   obtain ⟨k,qk,wk⟩:=jd wk
   obtain ⟨J4,e4,s4,rk⟩:=freeze e3 r3 qk
   have e5:=e2.trans e4
   split at wk
   ·rename_i ok
    obtain ⟨kxs,rfl,_⟩:=jy ok.1
    have h2':=h2.mono e5.j e5.h
    have h3':=e5.frz p h2.ne h3
    refine ⟨J4,p,ks,vs,kxs,d,e5.sub,rfl,by rw [hK];exact h2',ok.1,by rw [hK];exact rk,by rw [hK];exact rd.mono e4.j,Tz ok.2 (by decide),λo ho=>?_⟩
    rw [hK] at ho
    exact wk σ J4 _ e5.j ((sr.ext e5).updM (x:=.inr (ks,vs)) (y:=.inr (dput (ks,vs) (.tup kxs) d)) hi q1 h3' h4 ⟨p,rfl,ho,h3',h4⟩)
   ·exact wk.elim
  ·exact w.elim⟩
theorem KH (hu:X.A.units + 64 < UL) (ha:QD X c a ga) (hb:QD X c b gb) (hK:X.K=c.K:=by rfl) (hm:UH .In b=false:=by rfl):QD X c (.Compare a [.In] [b] pos) (g2 (tQ false) ga gb):=⟨nT (MC hu) (Lx false hK) ha.h hb.h hm⟩
noncomputable def tR (x y:R):M R:=match x,y with
 | .d d,.d e=>if dep d<=60/\dep e<=60 then (match dI d e with
  | some b=>.ok (.d (.bl b))
  | none=>.bad) else .bad
 | _,_=>.bad
theorem ME (hu:X.A.units + 64 < UL):c_ X (UP .Lt) (λx y H Q=>∃d e b,Rep X.K H d x/\Rep X.K H e y/\dep d<=60/\dep e<=60/\dI d e=some b/\Q (.bl b) H):=λSq s σ H x y v u Q I rx ry ⟨d,e,b,h1,h2,h3,h4,h5,q⟩=>
 Mw (gH I) d X.A h5 h1 h2 rx ry (by omega) (by omega) (by omega) X.prog X.w X.xe _ ⟨.bl b,H,I,rfl,q⟩
theorem Ly (hK:X.K=c.K):BD c (λx y H Q=>∃d e b,Rep X.K H d x/\Rep X.K H e y/\dep d<=60/\dep e<=60/\dI d e=some b/\Q (.bl b) H) tR:=by
 intro He He' J H x y u v Q hp rx ry w
 unfold tR at w
 split at w
 ·split at w
  ·rename_i hd
   split at w
   ·rename_i b hb
    exact ⟨_,_,b,by rw [hK];exact Rep.mono hp.sub rx,by rw [hK];exact Rep.mono hp.sub ry,hd.1,hd.2,hb,w _ J H (Ext.refl hp.sub) (.bl _)⟩
   ·exact w.elim
  ·exact w.elim
 ·exact w.elim
theorem KC (hu:X.A.units + 64 < UL) (ha:QD X c a ga) (hb:QD X c b gb) (hK:X.K=c.K:=by rfl):QB X c (.Compare a [.Lt] [b] pos) (br (g2 tR ga gb)):=⟨jz (ME hu) (Ly hK) ha.h hb.h⟩
end
end DL
namespace K22
open PySem DL
end K22
namespace K22
open PySem DL K01 WP K51 K52 K55 K23
section
variable {env:Ev}{tg:GT}{u t:G O}{α:Type}{h:α->D}{Q:O->Prop}{gi:G (List D)}
theorem w_all (I:Ev->Prop) (f:α->Bool):∀(xs:List α) (env:Ev),I env->(∀x∈xs,∀env,I env->∃e,tg (h x) env=.ok e/\Wp (u e) λo=>(f x=true/\∃e',o=.nx e'/\I e')\/(f x=false/\o=.rt (.d (.bl false))))->
  Wp (fh tg u (xs.map h) env) λo=>(xs.all f=true/\∃e',o=.nx e'/\I e')\/(xs.all f=false/\o=.rt (.d (.bl false)))
 | [],env,hI,_=>⟨.nx env,rfl,.inl ⟨rfl,env,rfl,hI⟩⟩
 | x::xs,env,hI,step=>by
  obtain ⟨e,h1,o,ho,hP⟩:=step x SV env hI
  rw [Td,VP]
  show Wp (tg (h x) env >>= _) _
  rw [h1,aO,ho,aO]
  rcases hP with ⟨hf,e',rfl,hI'⟩ | ⟨hf,rfl⟩
  ·rw [hf,Wi]
   exact w_all I f xs e' hI' λx hx=>step x (SS _ hx)
  ·rw [hf]
   exact ⟨_,rfl,.inr ⟨rfl,rfl⟩⟩
theorem F3 (I:Ev->Prop) (xs:List α) (h0:I env) (step:∀x∈xs,∀e,I e->∃e',tg (h x) e=.ok e'/\Wp (u e') λo=>∃e,o=.nx e/\I e) (k:∀e,I e->Q (.nx e)):Wp (fh tg u (xs.map h) env) Q:=by
 refine (w_all I (λ_=>true) xs env h0 λx hx e he=>?_).mono ?_
 ·obtain ⟨e',a,b⟩:=step x hx e he
  exact ⟨e',a,b.mono λo ⟨e,h1,h2⟩=>.inl ⟨rfl,e,h1,h2⟩⟩
 ·rintro o (⟨_,e,rfl,hI⟩ | ⟨z,_⟩)
  ·exact k e hI
  ·simp at z
theorem IT (I:Ev->Prop) (f:α->Bool) (xs:List α) (hg:gi env=.ok (xs.map h)) (h0:I env) (step:∀x∈xs,∀env,I env->∃e,tg (h x) env=.ok e/\Wp (u e) λo=>(f x=true/\∃e',o=.nx e'/\I e')\/(f x=false/\o=.rt (.d (.bl false))))
  (k1:xs.all f=true->∀e,I e->Wp (t e) Q) (k2:xs.all f=false->Q (.rt (.d (.bl false)))):Wp (aI (b_ gi tg u) t env) Q:=by
 refine d_ hg ((w_all I f xs env h0 step).mono ?_)
 rintro o (⟨z,e,rfl,hI⟩ | ⟨z,rfl⟩)
 ·exact k1 z e hI
 ·exact k2 z
theorem IE (I:Ev->Prop) (f:α->Bool) (xs:List α) (hg:gi env=.ok (xs.map h)) (h0:I env) (step:∀x∈xs,∀env,I env->∃e,tg (h x) env=.ok e/\Wp (u e) λo=>(f x=true/\∃e',o=.nx e'/\I e')\/(f x=false/\o=.rt (.d (.bl false)))):
  Wp (b_ gi tg u env) λo=>(xs.all f=true/\∃e',o=.nx e'/\I e')\/(xs.all f=false/\o=.rt (.d (.bl false))):=mP hg (w_all I f xs env h0 step)
end
theorem CF (neg a b:Bool):cj neg (.d (.bl a)) (.d (.bl b))=.ok (.d (.bl (if neg then !(a == b) else a == b))):=by
 cases neg <;> cases a <;> cases b <;> rfl
def mB (v w:Wd) (p:Nat×Nat):Bool:=(v.ms.zip w.ms).all λr=>decide (p.1∈r.1.2) == decide (p.2∈r.2.2)
def aB (v w:Wd) (p q:Nat×Nat):Bool:=(v.ar.zip w.ar).all λr=>decide ((p.1,q.1)∈r.1.2) == decide ((p.2,q.2)∈r.2.2)
def eB (p q:Nat×Nat):Bool:=(p.1 == q.1) == (p.2 == q.2)
def v5 (v w:Wd) (ps:List (Nat×Nat)):Bool:=ps.all λp=>mB v w p && ps.all λq=>eB p q && aB v w p q
theorem oj {α β:Type}(f:α->Bool) (g:β->Bool):∀{xs:List α}{ys:List β},xs.length=ys.length->(((xs.zip ys).all λr=>f r.1 == g r.2)=true↔xs.map f=ys.map g)
 | [],[],_=>by simp
 | x::xs,y::ys,h=>by
  have ih:=oj f g (xs:=xs) (ys:=ys) (by simpa using h)
  rw [Xi,VP,SN,ih,Td,Td,adR,beq_iff_eq]
theorem Bv {v w:Wd}(t:Pr v w) (ps:List (Nat×Nat)):v5 v w ps=true↔∀p∈ps,∀q∈ps,rZ v w p q:=by
 have l1:v.ms.length=w.ms.length:=by have:=congrArg UX t.mn;simpa using this
 have l2:v.ar.length=w.ar.length:=by have:=congrArg UX t.an;simpa using this
 have e1:∀p q:Nat×Nat,eB p q=true↔(p.1=q.1↔p.2=q.2):=λp q=>by
  unfold eB
  rw [beq_iff_eq,Uq,beq_iff_eq,beq_iff_eq]
 unfold v5
 rw [Tu]
 constructor
 ·intro h p hp q hq
  have h1:=h p hp
  rw [SN,Tu] at h1
  have h2:=h1.2 q hq
  rw [SN] at h2
  exact ⟨(e1 p q).mp h2.1,(oj (λr:Str×List Nat=>decide (p.1∈r.2)) (λr:Str×List Nat=>decide (p.2∈r.2)) l1).mp h1.1,(oj (λr:Str×List (Nat×Nat)=>decide ((p.1,q.1)∈r.2)) (λr:Str×List (Nat×Nat)=>decide ((p.2,q.2)∈r.2)) l2).mp h2.2⟩
 ·intro h p hp
  rw [SN,Tu]
  refine ⟨(oj (λr:Str×List Nat=>decide (p.1∈r.2)) (λr:Str×List Nat=>decide (p.2∈r.2)) l1).mpr (h p hp p hp).ms,λq hq=>?_⟩
  rw [SN]
  exact ⟨(e1 p q).mpr (h p hp q hq).eq,(oj (λr:Str×List (Nat×Nat)=>decide ((p.1,q.1)∈r.2)) (λr:Str×List (Nat×Nat)=>decide ((p.2,q.2)∈r.2)) l2).mpr (h p hp q hq).ar⟩
theorem Mv (p q:Nat×Nat):dI (dP p) (dP q)=some (d7 (dP p) (dP q)):=by
 have h:(dI (dP p) (dP q)).isSome=true:=by
  show (if bg (.int (p.1:Int)) (.int (q.1:Int))=true then (if bg (.int (p.2:Int)) (.int (q.2:Int))=true then some false else some (decide ((p.2:Int) < q.2))) else some (decide ((p.1:Int) < q.1))).isSome=true
  split
  ·split <;> rfl
  ·rfl
 unfold d7
 cases z:dI (dP p) (dP q) with
 | some b=>rfl
 | none=>rw [z] at h;cases h
theorem ED {v w:Wd}{ps:List (Nat×Nat)}(g:Good v w ps){q:Nat×Nat}(hq:lD v w q) (ab:∀rs l,ps=rs++[l]->nS l q) (ag:∀x∈ps++[q],∀y∈ps++[q],rZ v w x y):Good v w (ps++[q]):=by
 refine ⟨?_,ag,λp hp=>?_⟩
 ·rw [UN]
  refine ⟨g.up,U9 _ _,λp hp r hr=>?_⟩
  rw [S6.mp hr]
  rcases U3 ps with rfl | ⟨rs,l,rfl⟩
  ·cases hp
  ·rw [U4] at *
   have h1:=ab rs l rfl
   have h2:=(ag l (by simp) q (by simp)).eq
   have h3:l.1 < q.1:=by
    rcases h1 with h | ⟨h,h'⟩
    ·exact h
    ·have:=h2.mp h;omega
   rcases TF.mp hp with h | h
   ·have:=(UN.mp g.up).2.2 p h l (by simp)
    omega
   ·rw [S6.mp h];exact h3
 ·rcases TF.mp hp with h | h
  ·exact g.rg p h
  ·rw [S6.mp h];exact hq
theorem lN (ps:List (Nat×Nat)):d9 (aP ps)=true:=by
 have h1:∀qs:List (Nat×Nat),areKeys (qs.map dP)=true:=λqs=>by
  induction qs with
  | nil=>rfl
  | cons q qs ih=>rw [Td];unfold areKeys;rw [ih];rfl
 have h2:deps (ps.map dP)<=1:=fQ λx hx=>by obtain ⟨q,_,rfl⟩:=S3.mp hx;exact SW _
 show (areKeys (ps.map dP) && decide (deps (ps.map dP) + 1<=8))=true
 rw [h1,decide_eq_true (by omega)]
 rfl
section
variable {env:Ev}{g gk:G R}{r r2:R}{u:G O}{Q:O->Prop}{i:Nat}
theorem N7 {ks vs:List D}(h0:env[i]?=some (some (.dk ks vs))) (h:g env=.ok r) (h2:toD r=.ok d) (h3:gk env=.ok r2) (h4:toD r2=.ok k) (ok:d9 k=true) (hl:ks.length<=1000000) (q:Q (.nx (env.set i (some (.dk (dput (ks,vs) k d).1 (dput (ks,vs) k d).2))))):Wp (wc i gk g env) Q:=by
 refine ⟨_,?_,q⟩
 unfold wc
 rw [h0]
 simp only
 rw [h,aO,h2,aO,h3,aO,h4,aO,if_pos ⟨ok,hl⟩]
theorem Ka {a b:G R}(h:a env=.ok (.d (.bl true))):tX a b env=.ok (.d (.bl true)):=by
 unfold tX;rw [h];rfl
theorem MK {a b:G R}(h:a env=.ok (.d (.bl false))) (h2:b env=.ok r):tX a b env=.ok r:=by
 unfold tX;rw [h];exact h2
theorem ve {a b:G Bool}(h1:a env=.ok false) (h2:b env=.ok k):ju a b env=.ok k:=by
 unfold ju;rw [h1];exact h2
end
theorem N8 (p q:Nat×Nat):tR (.d (dP p)) (.d (dP q))=.ok (.d (.bl (d7 (dP p) (dP q)))):=by
 show (if dep (dP p)<=60/\dep (dP q)<=60 then (match dI (dP p) (dP q) with
  | some b=>M.ok (R.d (.bl b))
  | none=>.bad) else .bad)=_
 rw [if_pos ⟨by show 1<=60;decide,by show 1<=60;decide⟩,Mv]
theorem qN (ps:List (Nat×Nat)):dep (aP ps)<=60:=by
 have h2:deps (ps.map dP)<=1:=fQ λx hx=>by obtain ⟨q,_,rfl⟩:=S3.mp hx;exact SW _
 show deps (ps.map dP) + 1<=60
 omega
end K22
namespace DL
open PySem PySem.Spec PyProof.Rows L2 DX
section
variable {X:Cx}{c:C}
noncomputable def yO (X:Cx) (c:C) (cm:Option (SI->Sem Unit)->Sem SI) (g:G R):Prop:=
 ∀{Sq:List (Tg×Obj)}{s:SJ}{σ:L2.St}{H:Hp}{Q:VK}{use:Option (SI->Sem Unit)}{Q0:SI->SJ->Prop},Inv X Sq σ H s->tD c g σ H Q->
  (∀(acc C:Tg) (m:Str->Option SI) (s':SJ) (H':Hp) (fl:Flow),s'.heap.Ns C m->((C∈X.ex\/X.s₀.heap.objs.size<=C)/\C≠X.env.locals/\(∀x c,X.env.cells.lookup x=some c->c≠C)/\∀p∈X.pn++Sq,p.1≠C)->H' C=none->(∀h'',TU C s'.heap h''->Inv X Sq σ H' {s' with heap:=h''})->Q (.ref acc) H'->aaA (Ti X.prog X.w) X.A X.xe use Q0 (.ref acc) C (.ok fl) s')->
  S8 (Ti X.prog X.w) X.A (cm use) Q0 X.xe s
theorem Pg {cm:Option (SI->Sem Unit)->Sem SI}{g:G R}(core:yO X c cm g) (hev:eval e X.env=cm none):PD X c e g:=by
 intro Sq s σ H Q I h
 rw [hev]
 exact core I h λacc C m s' H' fl hm hz hf hb q=>⟨m,hm,λh'' sb=>⟨.ref acc,H',hb h'' sb,rfl,q⟩⟩
theorem G7 (i:Nat){e:TV}{cm:Option (SI->Sem Unit)->Sem SI}{g:G R}{x:Str}{pos' pos2:Pos}(hN:X.N.Nodup) (core:yO X c cm g) (hev:∀use,evalThenUse e X.env use=(do let _ <-cm (some use))) (hx:X.N[i]?=some x) (Qx:X.env.scope.names.lookup x=some .local)
  (hsw:Wl e (some (.Name x pos')) pos2.line X.env=pure true):A7 X c (.Assign [.Name x pos'] e pos2) (aZ i g):=by
 intro Sq s σ H D I ⟨J,env,sr,w⟩
 rw [ZH]
 refine SE (U6 ?_)
 rw [show W8 [.Name x pos'] e pos2.line X.env=pure true from hsw]
 refine SE (SH ?_)
 rw [if_pos rfl,hev]
 refine SE (SE (core (Q:=λv H1=>∃J1 r xx,Ext J H J1 H1/\RR c H J1 H1 r v/\toS r=.ok xx/\oP c J D (.nx (env.set i (some xx)))) I ⟨J,env,sr,aF (aL w) λr wr v J1 H1 e1 r1=>?_⟩ λacc C m s' H' fl hm ap hf hb ⟨J1,r,xx,e1,r1,q1,w1⟩=>?_))
 ·obtain ⟨xx,q,wr⟩:=oh wr
  exact ⟨J1,r,xx,e1,r1,q,wr⟩
 ·have I1:L2.Inv X Sq σ H' s':=hb s'.heap (YT ..)
  show S8 _ _ (do Wb pos';adz X.env x (.ref acc)) _ _ _
  refine SE (U6 (Z4 ?_))
  refine mZ I1 hN hx (.inl Qx) (v:=.ref acc) (u:=.ref acc) rfl (λs2 I2 ⟨a,sb,ha⟩=>?_) (.inr Qx)
  have hac:C≠a:=λz=>by
   rcases ha with e | e
   ·exact ap.2.1 (z.trans e)
   ·exact ap.2.2.1 _ _ e z.symm
  refine ⟨m,hm.sameBut sb hac,λh2 sb2=>?_⟩
  refine SH (SH ⟨σ.set i (some (.ref acc)),H',qJ I2 ap hf sb2 (o0:=default),?_⟩)
  exact w1 _ J1 H' e1.j (sr.set e1 r1 q1)
noncomputable def i7 (n:Nat) (cap:List Nat) (gi:G (List D)) (gt:GT) (gts:G Bool) (gk gv:G R):G R:=jr 1000000 n cap gi gt gts (tE gk gv) (λys=>.ok (.mf (jF ys).1 (jF ys).2))
theorem OJ (kx vx t0 i0:TV) (f0:List TV) (So:VN) (pos:Pos) (it:SI) (p:Tg) (env:Env):
  XR (.DictComp kx vx [⟨t0,i0,f0,0⟩] So pos) 0 it (.ref p) env=m9 t0 i0 f0 it env (Dk kx vx p env) (again (.compLoop (.DictComp kx vx [⟨t0,i0,f0,0⟩] So pos) 0 it (.ref p) env)):=by rfl
theorem Ek (hu:X.A.units + 64 < UL) (hK:X.K=c.K) (own:List Str) (cap:List Nat){So:VN}{pos pos':Pos}{gi0:G (List D)}{gts0:G Bool}{gk gv:G R}(hi:qh X c t0 i0 gi0)
 (hbody:∀(cl:List (Str×Tg)) (C:Tg) (s:SJ) (H:Hp) (fp:List Tg),bF X.env.cells So.names []=some cl->ji (aV X own cap So cl C s H fp) c t0 gt0/\gJ (aV X own cap So cl C s H fp) c f0 gts0/\PD (aV X own cap So cl C s H fp) c kx gk/\PD (aV X own cap So cl C s H fp) c vx gv)
 (hk:So.kind=.function) (hno:fF X cap So=true) (hnames:(So.names.all λx=>!(x.2 == .local) || (So.names.lookup x.1 == some .local))=true)
 (hcl:(bF X.env.cells So.names []).isSome=true) (hcap:dS X cap=true) (hloc:dX X cap So=true) (hnd:fU cap=true) (Qo:X.calm=true) (hs:∀x,Tc i0 X.env x=pure x):
  yO X c (λuse=>comprehension (.DictComp kx vx [⟨t0,i0,f0,0⟩] So pos) So X.env pos' newDict false (eval i0 X.env) use) (i7 own.length cap gi0 gt0 gts0 gk gv):=by
 intro Sq s σ H Q use Q0 I h Qs
 refine oB (e:=.DictComp kx vx [⟨t0,i0,f0,0⟩] So pos) (ob:={cls:=.type "dict",data:=.dict #[]}) (o0:=λa=>lJ a 0 []) (Acc:=Co c) (N:=1) (lim:=1000000) (m:=λp env=>Dk kx vx p env) own cap rfl hi
  (λs Q E q=>TN q) (λh H=>⟨⟨_,#[],SY _ rfl,⟨rfl,rfl,rfl⟩,rfl,.nil⟩,⟨_,SY _ rfl⟩,λh1 h2 ⟨o,es,a1,a2⟩ e=>⟨o,es,e o a1,a2⟩⟩) (λp=>tu) (λp J H hsm h1 h2=>⟨⟨[],[],0,h1,.nil,.nil,⟨rfl,VA,Tp _,λ_ h=>(nomatch h)⟩,beq_eq_false_iff_ne.mpr (Vi (Tr hsm)),rfl⟩,h2,SW _⟩) (by decide) (λit p env=>CW (OJ ..)) (λit acc env R s h0 h=>Zm h0 h) (λys z q=>by cases q)
  (fun {p J H J' H' ys r} hp e ⟨h1,h2,h8⟩ q=>by cases q;exact ⟨J',e,⟨p,rfl,h1,h2,hp⟩⟩) (λcl C s H fp hcc=>?_) hk hno hnames hcl hcap hloc hnd Qo hs I h Qs
 obtain ⟨b1,b2,b3,b4⟩:=hbody cl C s H fp hcc
 exact ⟨b1,b2,λp J2 H2 hp2 hp0=>Bf hu hK (λ_ _ f=>f) hp2 hp0 b3 b4⟩
theorem Dp (hu:X.A.units + 64 < UL) (own:List Str) (cap:List Nat){So:VN}{pos:Pos}{gi0:G (List D)}{gts0:G Bool}{gk gv:G R}(hi:ql X c t0 i0 gi0)
 (hbody:∀(cl:List (Str×Tg)) (C:Tg) (s:SJ) (H:Hp) (fp:List Tg),bF X.env.cells So.names []=some cl->lG (aV X own cap So cl C s H fp) c t0 gt0/\kj (aV X own cap So cl C s H fp) c f0 gts0/\QD (aV X own cap So cl C s H fp) c kx gk/\QD (aV X own cap So cl C s H fp) c vx gv)
 (hk:So.kind=.function:=by rfl) (hno:fF X cap So=true:=by rfl) (hnames:(So.names.all λx=>!(x.2 == .local) || (So.names.lookup x.1 == some .local))=true:=by rfl)
 (hcl:(bF X.env.cells So.names []).isSome=true:=by rfl) (hcap:dS X cap=true:=by rfl) (hloc:dX X cap So=true:=by rfl) (hnd:fU cap=true:=by rfl) (Qo:X.calm=true:=by rfl)
 (hs:∀x,Tc i0 X.env x=pure x:=by intro _;rfl) (hK:X.K=c.K:=by rfl):QD X c (.DictComp kx vx [⟨t0,i0,f0,0⟩] So pos) (i7 own.length cap gi0 gt0 gts0 gk gv):=
 ⟨Pg (Ek hu hK own cap hi.h (λcl C s H fp hc=>let ⟨a,b,d,e⟩:=hbody cl C s H fp hc;⟨a.h,b.h,d.h,e.h⟩) hk hno hnames hcl hcap hloc hnd Qo hs) rfl⟩
theorem Dl (i:Nat) (hu:X.A.units + 64 < UL) (own:List Str) (cap:List Nat){So:VN}{pos pos' pos2:Pos}{x:Str}{gi0:G (List D)}{gts0:G Bool}{gk gv:G R}(hN:X.N.Nodup) (hi:ql X c t0 i0 gi0)
 (hbody:∀(cl:List (Str×Tg)) (C:Tg) (s:SJ) (H:Hp) (fp:List Tg),bF X.env.cells So.names []=some cl->lG (aV X own cap So cl C s H fp) c t0 gt0/\kj (aV X own cap So cl C s H fp) c f0 gts0/\QD (aV X own cap So cl C s H fp) c kx gk/\QD (aV X own cap So cl C s H fp) c vx gv)
 (hk:So.kind=.function:=by rfl) (hno:fF X cap So=true:=by rfl) (hnames:(So.names.all λx=>!(x.2 == .local) || (So.names.lookup x.1 == some .local))=true:=by rfl)
 (hcl:(bF X.env.cells So.names []).isSome=true:=by rfl) (hcap:dS X cap=true:=by rfl) (hloc:dX X cap So=true:=by rfl) (hnd:fU cap=true:=by rfl) (Qo:X.calm=true:=by rfl)
 (hs:∀x,Tc i0 X.env x=pure x:=by intro _;rfl) (hx:X.N[i]?=some x:=by rfl) (Qx:X.env.scope.names.lookup x=some .local:=by rfl)
 (hsw:Wl (.DictComp kx vx [⟨t0,i0,f0,0⟩] So pos) (some (.Name x pos')) pos2.line X.env=pure true:=by rfl) (hK:X.K=c.K:=by rfl):iX X c (.Assign [.Name x pos'] (.DictComp kx vx [⟨t0,i0,f0,0⟩] So pos) pos2) (aZ i (i7 own.length cap gi0 gt0 gts0 gk gv)):=
 ⟨G7 i hN (Ek hu hK own cap hi.h (λcl C s H fp hc=>let ⟨a,b,d,e⟩:=hbody cl C s H fp hc;⟨a.h,b.h,d.h,e.h⟩) hk hno hnames hcl hcap hloc hnd Qo hs) (λ_=>rfl) hx Qx hsw⟩
end
end DL
namespace DL
open PySem PySem.Spec PyProof.Rows L2 DX
open Sem (wp)
section
variable {prog:S_}{w:TL}{A:TR}{E:SI->SJ->Prop}{s:SJ}{d it:Tg}{o:Obj}{es:Array Zu}{ep i:Nat}
theorem GA {Q:SI->SJ->Prop}(hd:(d == Wn)=false) (ho:s.heap.get? d=some o) (hc:o.ExactDict) (hdat:o.data=.dict es ep)
  (hQ:Q (.ref s.heap.objs.size) {s with heap:=s.heap.push {cls:=.type "dict_keyiterator",data:=.fields #[.ref d,.int 0 0,.int es.size 0,.int ep 0]}}):S8 (Ti prog w) A (Yw (.ref d)) Q E s:=by
 have hT:s.TypeIs (.ref d) "dict":=⟨o,ho,hc.1⟩
 refine YO hT abj (TY abj hT F.entry_dict_iter ?_ (F.args_dict_iter_1 _));unfold Xd.«dict.__iter__»;refine SE ?_
 unfold ab5;refine SE (wpAny_notOrdered_dict hT (SH ?_))
 show S8 _ _ (Bind.bind (ZJ d) _) _ _ s
 unfold ZJ;rw [if_neg (by rw [hd];decide)]
 refine SE (SH (SE (YV ho hdat (SE (ZK ho hdat ?_)))))
 exact SE (TN (SH ⟨_,rfl,"dict_keyiterator",_,⟨_,SY _ rfl,rfl⟩,U5.lookup,by simpa [ZZ] using hQ⟩))
theorem GR {Q:Option SI->SJ->Prop}(hit:s.heap.IsKeyIter it d i es.size ep) (hod:s.heap.get? d=some o) (QA:o.data=.dict es ep) (hi:i < es.size)
  (hQ:∀h',h'.IsKeyIter it d (i + 1) es.size ep->TU it s.heap h'->Q (some es[i].key) {s with heap:=h'}):S8 (Ti prog w) A (WJ (.ref it)) Q E s:=by
 obtain ⟨oi,ho,hc,hd⟩:=id hit
 unfold WJ
 refine SE (We (T7 (name:=VO "__next__") hit.typeIs U5 (TY U5 hit.typeIs X7 ?_ (XY _))))
 refine SE (SH (SE (SE ?_)))
 refine SE (Vu hit.typeIs (SH (SE (YE ho hd ?_))))
 have hown:Yc "dict_keyiterator"=false:=by decide
 simp only [hown,Tf,if_false]
 show S8 _ _ (ite ((VZ d == T_)=true) _ _) _ _ s
 rw [if_neg (show ¬((VZ d == T_)=true) from Tv)];refine SE (SH (SE (YV hod QA ?_)))
 rw [if_neg (by simp)];refine SE (SH (SE (ZK hod QA ?_)))
 rw [if_neg (by simp)];refine SH ?_
 simp only [show ¬((i:Int) < 0) from by omega,if_false,UJ,VX hi]
 refine SE (SE (Vu hit.typeIs (SH ?_)))
 refine SE (ZL hit.typeIs ?_)
 refine SE (m:=acE (.ref it) 1 (ZZ ((i:Int) + 1))) (YD ho hd (by simp) ?_)
 have Q6:(s.heap.update it (acL (·.setIfInBounds 1 (ZZ ((i:Int) + 1))))).IsKeyIter it d (i + 1) es.size ep:=⟨_,Ur _ ho (Zx (Xg hd _)),(aaR ..).trans hc,by rw [Xg hd];simp [ZZ]⟩
 refine SE (TQ (SE (ZL (s:={s with heap:=s.heap.update it (acL (·.setIfInBounds 1 (ZZ ((i:Int) + 1))))}) Q6.typeIs ?_)))
 exact SH (SH ⟨_,rfl,SH (hQ _ Q6 (Uu ..))⟩)
theorem Jz {Q:Option SI->SJ->Prop}(hh:A.handled=none) (hit:s.heap.IsKeyIter it d i es.size ep) (hod:s.heap.get? d=some o) (QA:o.data=.dict es ep) (hi:es.size<=i)
  (hQ:∀h',Y3 it s.heap h'->Q none {s with heap:=h'}):S8 (Ti prog w) A (WJ (.ref it)) Q E s:=by
 obtain ⟨oi,ho,hc,hd⟩:=id hit
 unfold WJ
 refine SE (We (T7 (name:=VO "__next__") hit.typeIs U5 (TY U5 hit.typeIs X7 ?_ (XY _))))
 refine SE (SH (SE (SE ?_)))
 refine SE (Vu hit.typeIs (SH (SE (YE ho hd ?_))))
 have hown:Yc "dict_keyiterator"=false:=by decide
 simp only [hown,Tf,if_false]
 show S8 _ _ (ite ((VZ d == T_)=true) _ _) _ _ s
 rw [if_neg (show ¬((VZ d == T_)=true) from Tv)];refine SE (SH (SE (YV hod QA ?_)))
 rw [if_neg (by simp)];refine SE (SH (SE (ZK hod QA ?_)))
 rw [if_neg (by simp)];refine SH ?_
 simp only [show ¬((i:Int) < 0) from by omega,if_false,UJ,Array.getElem?_eq_none hi]
 refine SE (SE (Vu hit.typeIs (SH ?_)))
 refine SE (m:=acE (.ref it) 0 .none) (YD ho hd (by simp) ?_)
 refine SE (m:=adu (.type "StopIteration") []) ?_
 simp only [adu,acy];refine SE (TN ?_ (by size_fits))
 refine SE (m:=WS _ _) (Wy (a:=T_) (by first | rfl | (simp only [WS];rfl)) (TN ?_ (by size_fits)))
 simp only [adv];refine SE (aas ?_)
 rw [show A.in1.handled=none from hh];refine SE (SH (abw ?_))
 exact SE (W2 (T:="StopIteration") (b:=true) ⟨_,SY _ rfl,rfl⟩ Z3 (SH (hQ _ (((Uu ..).extBut.push _).push _))))
end
end DL
namespace DL
open PySem PySem.Spec PyProof.Rows L2 DX
noncomputable def OM (a:Tg) (ep:Nat) (SA:List (Int×V×V)):It:=⟨λi H=>H a=some (lJ a ep SA)/\i < SA.length,λi H x H'=>H'=H/\∃p,SA[i]?=some p/\x=p.2.1,λi H=>H a=some (lJ a ep SA)/\SA.length<=i⟩
theorem xE {α β:Type}{F:α->β->Prop}:∀{xs:List α}{ys:List β}{i:Nat}(hi:i < ys.length),YG F xs ys->∃p,xs[i]?=some p/\F p ys[i]
 | _,_,0,_,.cons h _=>⟨_,rfl,h⟩
 | _,_,i + 1,hi,.cons _ t=>xE (i:=i) (by simpa using hi) t
theorem HR {P:S_}{w:TL}{K:SG}{tg:TV}(a it:Tg) (ep:Nat) (SA:List (Int×V×V)):Turn P w K tg (OM a ep SA) [it] it (λi h=>h.IsKeyIter it a i SA.length ep) where
 mem:=by simp
 obj:=λi h st b hb=>by
  cases S6.mp hb
  obtain ⟨o,e,c,d⟩:=st
  exact ⟨o,e,λv z=>by rw [d] at z;cases z⟩
 keep:=λi h h' st k=>st.at λo e=>k it (by simp) o e
 item:=by
  rintro X rfl rfl rfl hc i Sq s σ H E I hf st ⟨hq,hi⟩
  obtain ⟨o,es,h1,h2,h3,h4⟩:=(show cG X.prog X.w H s.heap a (lJ a ep SA) from I.hok a _ hq).1
  have hl:SA.length=es.size:=by have:=h4.length;simpa using this
  obtain ⟨p,hp,er⟩:=xE (i:=i) (by simp;omega) h4
  obtain ⟨f0,f1,f2,f3,f4,f5⟩:=hf it (by simp)
  refine GR (es:=es) (ep:=ep) (hl▸st) h1 h3 (by omega) λh' st' sb=>?_
  have I1:Inv X Sq σ H {s with heap:=h'}:=I.turned (t':=s.toks) (λb o hb e=>(sb.2 b hb).trans e) f0 f1 f3 f4 f5
  obtain ⟨oi,e,c,d⟩:=id st'
  exact ⟨_,rfl,yE (s:={s with heap:=h'}) e c d (by decide) ⟨p.2.1,H,I1,by simpa using er.2.1,⟨rfl,p,hp,rfl⟩,by rw [hl];exact st',λb hb=>(hf b hb).1⟩⟩
 done:=by
  rintro X rfl rfl rfl hc i Sq s σ H E I hf st ⟨hq,hi⟩
  obtain ⟨o,es,h1,h2,h3,h4⟩:=(show cG X.prog X.w H s.heap a (lJ a ep SA) from I.hok a _ hq).1
  have hl:SA.length=es.size:=by have:=h4.length;simpa using this
  obtain ⟨f0,f1,f2,f3,f4,f5⟩:=hf it (by simp)
  exact Jz (es:=es) (ep:=ep) (I.ok.hd hc) (hl▸st) h1 h3 (by omega) λh' eb=>⟨rfl,I.turned (t':=s.toks) (λb o hb e=>eb b o hb e) f0 f1 f3 f4 f5⟩
 self:=λ_ _ _ _ _ st h=>wpAny_pyIter_keyiter st h
section
variable {X:Cx}{c:C}{e tg:TV}{g:G R}
noncomputable def qw (g:G R):G (List D):=λenv=>g env >>= λr=>match wV r with
 | some z=>.ok z.1
 | none=>.bad
theorem MY {tl:TE}(hl:PE X e tl):PI X tg e (λσ H Q=>tl σ H λx H1=>∃a ep SA,x=.ref a/\(a == Wn)=false/\H1 a=some (lJ a ep SA)/\Q (OM a ep SA) H1):=λSq s σ H R I h=>bO (hl Sq s σ H _ I h) λv s1 ⟨x,H1,I1,r1,a,ep,SA,ex,hsm,hq,q⟩=>by
 subst ex
 cases r1
 obtain ⟨o,es,h1,h2,h3,h4⟩:=(show cG X.prog X.w H1 s1.heap a (lJ a ep SA) from I1.hok a _ hq).1
 have hl:SA.length=es.size:=by have:=h4.length;simpa using this
 refine GA hsm h1 h2 h3 ⟨s1.heap.objs.size,[s1.heap.objs.size],_,_,H1,rfl,I1.kept (t':=s1.toks) (λb o e=>SO _ e),HR a _ ep SA,⟨_,SY _ rfl,rfl,by rw [hl];rfl⟩,λb hb=>?_,q⟩
 cases S6.mp hb
 exact I1.fpOk (SW _) (I1.hok.fresh (SW _))
theorem o_ (h:QD X c e g) (hK:X.K=c.K:=by rfl):ql X c tg e (qw g):=have h:=h.h;⟨rO (MY h) λσ H Q ⟨J,env,sr,w⟩=>by
 refine ⟨J,env,sr,aF (aL w) λr wr v J1 H1 e1 r1=>?_⟩
 cases hz:wV r with
 | none=>rw [hz] at wr;exact wr.elim
 | some z=>
  rw [hz] at wr
  obtain ⟨a,rfl,us,ws,ep,h1,h2,h3,h4,h5,h6⟩:=r1.dk (sr.hp.ext e1) hz
  have hh:∀ds:List D,(cH ds).length=ds.length:=λds=>by induction ds with
   | nil=>rfl
   | cons d ds ih=>show (cH ds).length + 1=_;rw [ih];rfl
  have lk:((cH z.1).zip (us.zip ws)).length=z.1.length:=by
   rw [abP,abP,hh,<-h2.length,<-h3.length,<-h6];omega
  refine ⟨a,ep,_,rfl,h5,h1,wr _ J1 H1 e1 λi J' H' hp u=>⟨λhl=>⟨u.2 _ _ h1,by omega⟩,λd hd=>?_⟩⟩
  have hi:i < z.1.length:=(Tt.mp hd).1
  obtain ⟨x,k1,k2⟩:=h2.get hd
  refine ⟨⟨u.2 _ _ h1,by omega⟩,λy H2 ⟨e,p,hp',hy⟩=>⟨J',by subst e;exact Ext.refl hp.sub,?_⟩⟩
  have:p.2.1=x:=by
   rw [WY,] at hp'
   have:=(WY.mp hp'.2).1
   rw [k1] at this
   cases this;rfl
  rw [hy,this]
  exact k2.mono u.1⟩
end
end DL
namespace DL
open PySem PySem.Spec PyProof.Rows L2
section
variable {X:Cx}{c:C}{e:TV}{es:List TV}{g:G R}{pos p:Pos}{x y:Str}
def F7 (K:SG) (mg:Str->Option SI) (x:Str):Prop:=∃f,T5 K Tw x=some (some (.ref f))/\mg x=some (.ref f)
noncomputable def EA (y:Str) (F:List S->M R) (g:G R):G R:=λenv=>g env >>= λr=>match F [eK r,.fn y] with
 | .ok r=>.ok (lK r)
 | _=>.bad
theorem Ho {k k':Nat}{F:List S->M R}{q:Pos}(G:bw X.prog X.w X.K X.mg X.base k 2 x F) (hv:F7 X.K X.mg y) (hr:dW k' X.A) (ha:QD X c e g) (hk:k<=k':=by decide) (hT:c.K=X.K:=by rfl) (hg:Gl X x:=by rfl) (R1:Gl X y:=by rfl)
  (hdb:(x == ("__debug__":Str))=false:=by decide) (Rj:(y == ("__debug__":Str))=false:=by decide) (he:SX [e,.Name y q] X.env=(false,eval e X.env)::SX [.Name y q] X.env:=by rfl) (QT:SX [.Name y q] X.env=(false,eval (.Name y q) X.env)::SX [] X.env:=by rfl)
  (hpl:(Vb pos (SX [.Name y q] X.env)).any (·.1)=false:=by rfl):QD X c (.Call (.Name x p) [e,.Name y q] [] pos) (EA y F g):=by
 obtain ⟨f,fd,ps,h1,h2,h3,h4⟩:=G
 obtain ⟨f',h5,h6⟩:=hv
 refine ⟨gj (BO (E:=E0) h1 (hr.mono hk) hg h2 h3 h4 .nil Dh (eY ha.h (eY (BP (v:=.ref f') R1 h6 rfl Rj) gX QT) he) hdb he hpl) λσ H Q ⟨J,env,sr,w⟩=>?_⟩
 refine ⟨J,env,sr,aF (aL w) λr wr v J1 H1 e1 r1=>IV hT e1 ?_ rfl wr⟩
 obtain ⟨_,_,e,a1,_⟩:=kD.args (rs:=[r]) (vs:=[v]) (sr.hp.ext e1) ⟨v,[],rfl,r1,rfl⟩
 cases e
 exact ⟨v,_,rfl,a1,_,_,rfl,⟨f',rfl,hT▸h5⟩,rfl⟩
noncomputable def zN (i:Nat) (x:Str) (g g':G R):G R:=λenv=>match env[i]? with
 | some (some (.fn z))=>if z=x then g env else g' env
 | _=>.bad
def yC:G R:=λ_=>.bad
theorem BX:QD X c e yC:=⟨λ_ _ _ _ _ _ ⟨_,_,_,w⟩=>w.elim⟩
theorem Aj (i:Nat){F:List S->M R}{gs:G (List R)}(G:bw X.prog X.w X.K X.mg X.base k n x F) (hv:F7 X.K X.mg x) (hr:dW k' X.A) (ha:jj X c (e::es) gs) (rest:QD X c (.Call (.Name y p) (e::es) [] pos) g) (hk:k<=k':=by decide) (hT:c.K=X.K:=by rfl)
 (hN:X.N[i]?=some y:=by rfl) (hvs:sD X.env.scope y:=by first | exact XW rfl | exact Wm (XW rfl) | exact Wm (Wm rfl)) (hd:(y == ("__debug__":Str))=false:=by decide) (hcd:(y == ("__classdict__":Str))=false:=by decide)
 (he:SX (e::es) X.env=(false,eval e X.env)::SX es X.env:=by rfl) (hpl:(Vb pos (SX es X.env)).any (·.1)=false:=by rfl):QD X c (.Call (.Name y p) (e::es) [] pos) (zN i x (gN (aS n F) gs) g):=by
 refine ⟨λSq s σ H Q I ⟨J,env,sr,w⟩=>?_⟩
 obtain ⟨f,fd,ps,h1,h2,h3,h4⟩:=G
 obtain ⟨f',h5,h6⟩:=hv
 have ef:f'=f:=by rw [h2] at h6;cases h6;rfl
 subst ef
 unfold zN at w
 split at w
 ·rename_i z hz
  split at w
  ·rename_i ez
   subst ez
   obtain ⟨_,hv,_,rfl,q⟩:=sr.at_ i _ hz
   rw [hT,h5] at q
   cases q
   refine W_ (bO (lO hN hvs hd hcd Sq s σ H (λv H1=>v=.ref f'/\H1=H) I ⟨_,hv,rfl,rfl⟩) λu s1 ⟨x',H1,I1,rx,ev,eh⟩=>?_)
   subst ev eh
   cases rx
   refine aah (h₀:=X.base) I1.ok.mod.kin h3 (bO (ha.h pos Sq s1 σ H1 _ I1 (zm hT σ H1 Q ⟨J,env,sr,w⟩)) λus s2 ⟨vs,H2,I2,r,q⟩=>⟨I2.kIn,?_⟩) he hpl
   exact FF h1 (hr.mono hk) h4 .nil Dh I2 r q
  ·exact rest.h Sq s σ H Q I ⟨J,env,sr,w⟩
 ·exact w.elim
end
end DL
namespace K33
open PySem DL
def DP:List Str:=["pairing","pair"]
def EB:G O:=(bq (gN (aS 1 K23.fO) (ao (g2 cg (af 0) (bz (az (af 1) aQ))) aD)))
def ug (as:List S):M R:=fin (EB (aY DP as))
def nC:List Str:=["rows","stays","depths","depth","gone","pairing"]
def ny:List Str:=["one","other","base"]
noncomputable def nK:G O:=(bq (bZ 1 [2] (kq (gN (aS 3 K23.lZ) (ao (af 0) (ao (af 1) (ao (gC (.int 4)) aD))))) (aC 0) (br (gN tP (ao (bZ 1 [0] (kq (af 1)) (aC 0) dY (g2 (fk false) (af 0) (af 1))) aD))) (af 0)))
def ia (as:List S):M R:=fin (nK (aY ny as))
def qe:List Str:=["depths","pairing","depth"]
noncomputable def xr:G O:=(bq (yz (g2 (tQ false) (af 1) (af 0)) (tX (g2 (iI false) (g2 iN (af 0) (af 1)) (gC .non)) (g2 (qq λi j=>.bl (decide (j < i))) (g2 iN (af 0) (af 1)) (af 2)))))
def iW (as:List S):M R:=fin (xr (aY qe as))
def uu:List Str:=["depths","depth"]
noncomputable def uU:G O:=(bq (bZ 1 [0] (b9 (ao (g2 iJ (af 1) (gC (.int 1))) aD)) (aC 0) dY (bZ 1 [1,0] (qw (af 1)) (aC 0) (br (gN (aS 3 K33.iW) (ao (af 1) (ao (af 0) (ao (af 2) aD))))) (af 0))))
def kH (as:List S):M R:=fin (uU (aY uu as))
end K33
namespace K33
open PySem DL K01 WP K51 K52 K55 K23
abbrev Ps:=List (Nat×Nat)
section
variable {κ:Type}{Sz:κ->List (List κ)}{st:(κ->Bool)->κ->Bool}{i j d e:Nat}{k:κ}{ks:List κ}
noncomputable def LZ (st:(κ->Bool)->κ->Bool):Nat->κ->Bool
 | 0,_=>true
 | j + 1,k=>LZ st j k && st (LZ st j) k
theorem yU:LZ st (j + 1) k=true↔LZ st j k=true/\st (LZ st j) k=true:=by
 show (LZ st j k && _)=true↔_
 rw [SN]
theorem rB (h:i<=j) (q:LZ st j k=true):LZ st i k=true:=by
 induction h with
 | refl=>exact q
 | step _ ih=>exact ih (yU.mp q).1
def dZ (st:(κ->Bool)->κ->Bool) (d:Nat) (k:κ):Option Nat:=(SM (d + 1)).find? λj=>!LZ st j k
theorem jL:dZ st d k=none↔LZ st d k=true:=by
 unfold dZ
 rw [aax]
 constructor
 ·intro h;simpa using h d (by simp)
 ·intro h j hj
  rw [rB (by have:=Tj.mp hj;omega) h]
  decide
theorem Bq (h:dZ st d k=some e):LZ st e k=false/\e<=d/\∀i,i < e->LZ st i k=true:=by
 obtain ⟨h1,h3,h2⟩:=List.find?_range_eq_some.mp h
 exact ⟨by simpa using h1,by have:=Tj.mp h3;omega,λi hi=>by simpa using h2 i hi⟩
theorem Ju:dZ st (d + 1) k=if (LZ st d k && !LZ st (d + 1) k)=true then some (d + 1) else dZ st d k:=by
 have e:dZ st (d + 1) k=(dZ st d k).or ([d + 1].find? λj=>!LZ st j k):=by
  show (SM (d + 1 + 1)).find? _=_
  rw [VG,List.find?_append];rfl
 rw [e]
 cases q:dZ st d k with
 | none=>
  rw [jL.mp q]
  cases z:LZ st (d + 1) k <;> simp [List.find?,z]
 | some e=>
  have:LZ st d k=false:=by
   cases z:LZ st d k with
   | false=>rfl
   | true=>rw [jL.mpr z] at q;cases q
  rw [this];rfl
theorem Dz (hm:∀(L L':κ->Bool),∀k∈ks,(∀x∈ks,L x=true->L' x=true)->st L k=true->st L' k=true) (h:∀k∈ks,LZ st d k=true->LZ st (d + 1) k=true):∀j,∀k∈ks,LZ st d k=true->LZ st j k=true
 | 0,_,_,_=>rfl
 | j + 1,k,hk,q=>yU.mpr ⟨Dz hm h j k hk q,hm _ _ k hk (Dz hm h j) (yU.mp (h k hk q)).2⟩
noncomputable def nN (o:Option Nat) (j:Nat):Bool:=match o with
 | none=>true
 | some e=>decide (j < e)
theorem LX (hs:∀j,LZ st d k=true->LZ st j k=true):nN (dZ st d k) j=LZ st j k:=by
 cases q:dZ st d k with
 | none=>exact (hs j (jL.mp q)).symm
 | some e=>
  obtain ⟨h1,_,h2⟩:=Bq q
  show decide (j < e)=_
  by_cases c:j < e
  ·rw [h2 j c,decide_eq_true c]
  ·cases z:LZ st j k with
   | false=>exact decide_eq_false c
   | true=>rw [rB (by omega) z] at h1;cases h1
end
def xY (ps:Ps):Ps:=(dD (ps.map dP)).map AF
theorem yL (ps:Ps):∀d∈ps.map dP,ki pF d:=λd hd=>by obtain ⟨x,_,rfl⟩:=S3.mp hd;exact zR x
theorem vC (ps:Ps):(xY ps).map dP=dD (ps.map dP):=back dP AF vG λd hd=>by
 obtain ⟨x,_,rfl⟩:=S3.mp ((FO (iu pF) (yL ps)).2 d hd);exact ⟨x,rfl⟩
theorem Io {ps:Ps}:dP p∈ps.map dP↔p∈ps:=by
 rw [S3]
 exact ⟨λ⟨q,h,e⟩=>by rw [<-vG p,<-e,vG];exact h,λh=>⟨p,h,rfl⟩⟩
theorem rM:q∈xY ps↔q∈ps:=by
 rw [<-Io,vC,(ue (iu pF) (yL ps)).2,Io]
theorem FP (ps:Ps):(xY ps).Pairwise nS:=by
 have:=(ue (iu pF) (yL ps)).1
 rw [<-vC,TX] at this
 exact this.imp fun {a b} h=>(u7 a b).mp h
theorem NW {A B:Ps}(hA:A.Pairwise nS) (hB:B.Pairwise nS) (h:∀y,y∈A↔y∈B):A=B:=by
 have up:∀{C:Ps},C.Pairwise nS->(C.map dP).Pairwise λa b=>d7 a b=true:=fun {C} hC=>TX.mpr (hC.imp fun {a b} h=>(u7 a b).mpr h)
 have e:=vH (iu pF) (yL A) (up hA) (up hB) λy=>by
  rw [S3,S3]
  exact ⟨λ⟨q,a,b⟩=>⟨q,(h q).mp a,b⟩,λ⟨q,a,b⟩=>⟨q,(h q).mpr a,b⟩⟩
 have:=congrArg (adx AF) e
 simpa only [T9,YU,vG,List.map_id'] using this
section
variable {v w:Wd}{ps qs S:Ps}{p:Nat×Nat}{n j:Nat}
structure yT (v w:Wd) (S:Ps):Prop where
 ag:∀p∈S,∀q∈S,rZ v w p q
 rg:∀p∈S,lD v w p
theorem yT.sub (h:yT v w S) (hs:∀p∈ps,p∈S):yT v w ps:=⟨λp hp q hq=>h.ag p (hs p hp) q (hs q hq),λp hp=>h.rg p (hs p hp)⟩
theorem JF (g:Good v w ps):ps.Pairwise nS:=g.up.imp λh=>.inl h
theorem zQ (hu:ps.Pairwise nS):Good v w ps↔yT v w ps:=⟨λg=>⟨g.ag,g.rg⟩,λf=>⟨hu.imp_of_mem fun {a b} ha hb h=>by
 have:=(f.ag a ha b hb).eq
 unfold nS at h
 omega,f.ag,f.rg⟩⟩
theorem tY (g:Good v w ps):ps.length<=v.m:=by
 have h:=TH (l₁:=ps.map TZ) (l₂:=SM v.m) (TX.mpr (g.up.imp λh=>by omega)) λx hx=>by
  obtain ⟨p,hp,rfl⟩:=S3.mp hx
  exact Tj.mpr (g.rg p hp).1
 simpa using h
abbrev T4 (v w:Wd):List Ps:=told v w 4
theorem mQ (t:Pr v w):ps∈T4 v w↔Good v w ps:=by
 rw [rT]
 constructor
 ·rintro ⟨j,_,h⟩;exact ((j6 j).mp h).2
 ·intro g;exact ⟨ps.length,Tz (tY g) t.v4,(j6 _).mpr ⟨rfl,g⟩⟩
theorem Ib (v w:Wd):∀j,(LG v w j).Nodup
 | 0=>U9 _ _
 | j + 1=>by
  refine ZI.mpr ⟨λah _=>TX.mpr ?_,(Ib v w j).imp_of_mem fun {a b} _ _ hab x hx y hy e=>?_⟩
  ·exact (((u_ v.m w.m).filter _).filter _).imp λh e=>h (by simpa using e)
  ·obtain ⟨p,_,rfl⟩:=S3.mp hx
   obtain ⟨q,_,rfl⟩:=S3.mp hy
   exact hab (List.append_inj' e rfl).1
theorem B7 (v w:Wd):∀j,(told v w j).Nodup
 | 0=>U9 _ _
 | j + 1=>V8.mpr ⟨B7 v w j,Ib v w (j + 1),λa ha b hb e=>by
  obtain ⟨i,hi,h⟩:=(rT j).mp ha
  have h1:=(om i h).1
  have h2:=(om (j + 1) hb).1
  rw [e] at h1
  omega⟩
def bQ (ps:Ps) (p:Nat×Nat):Ps:=xY (ps++[p])
theorem jP:q∈bQ ps p↔q∈ps\/q=p:=by unfold bQ;rw [rM];simp
theorem Cq (t:Pr v w):bQ ps p∈T4 v w↔yT v w (ps++[p]):=by
 rw [mQ t,bQ,zQ (FP _)]
 exact ⟨λh=>h.sub λq hq=>rM.mpr hq,λh=>h.sub λq hq=>rM.mp hq⟩
def kn (v w:Wd) (B:Ps):List Ps:=(T4 v w).filter λps=>B.all λq=>decide (q∈ps)
theorem nQ:ps∈kn v w B↔ps∈T4 v w/\∀q∈B,q∈ps:=by
 unfold kn
 rw [Ud,Tu]
 simp
end
end K33
namespace K33
open PySem DL K01 WP K51 K52 K55 K23 K22
section
variable {α:Type} [DecidableEq α] {e:α->D}{f:α->D}{ks:List α}{k:α}{d:D}
theorem qH (he:∀a b,bg (e a) (e b)=decide (a=b)) (f:α->D):∀(ks:List α) (k:α),iz (ks.map e) (ks.map f) (e k)=if k∈ks then some (f k) else none
 | [],_=>rfl
 | a::ks,k=>by
  rw [Td,Td,iz,he,qH he f ks k]
  by_cases h:a=k
  ·subst h;simp
  ·rw [if_neg (by simpa using h)]
   simp [Vi h]
theorem BS (he:∀a b,bg (e a) (e b)=decide (a=b)) (f:α->D) (k:α) (d:D):∀ks:List α,wG (ks.map e) (ks.map f) (e k) d=ks.map λx=>if x=k then d else f x
 | []=>rfl
 | a::ks=>by
  rw [Td,Td,wG,he,BS he f k d ks,Td]
  simp only [decide_eq_true_eq]
theorem Gm (he:∀a b,bg (e a) (e b)=decide (a=b)) (hk:k∈ks):dput (ks.map e,ks.map f) (e k) d=(ks.map e,ks.map λx=>if x=k then d else f x):=by
 unfold dput
 simp only
 rw [qH he,if_pos hk,BS he]
 rfl
theorem Br (he:∀a b,bg (e a) (e b)=decide (a=b)) (f:α->D):∀(n:Nat) (ks:List α),ks.length=n->ks.Nodup->jF (ks.map λk=>D.tup [e k,f k])=(ks.map e,ks.map f)
 | 0,ks,h,_=>by rw [Wj.mp h];rfl
 | n + 1,ks,h,nd=>by
  rcases U3 ks with rfl | ⟨qs,p,rfl⟩
  ·cases h
  ·rw [U4] at h nd ⊢
   have nd':=V8.mp nd
   have hp:p∉qs:=λhq=>nd'.2.2 p hq p (by simp) rfl
   rw [Th,Th,Th,Td,Yx,oE,Br he f n qs (by simpa using h) nd'.1]
   unfold dput
   simp only
   rw [qH he,if_neg hp]
   rfl
end
theorem kL (a b:Ps):bg (aP a) (aP b)=decide (a=b):=by
 show cD (a.map dP) (b.map dP)=_
 induction a generalizing b with
 | nil=>cases b <;> simp [cD]
 | cons x a ih=>
  cases b with
  | nil=>simp [cD]
  | cons y b=>rw [Td,Td,ie,ih,K55.Bt,Uq];simp
theorem EJ {m:Md}(p:Ps) (L:List Ps) (x:R) (hx:iy x=.ok (L.map aP)):fk false (.d (aP p)) x=.ok (.d (.bl (decide (p∈L)))):=by
 have h1:∀q:Ps,dep (aP q)<=60:=qN
 unfold fk
 rw [hx,aO,if_pos ⟨fQ λd hd=>by obtain ⟨q,_,rfl⟩:=S3.mp hd;exact h1 q,h1 p⟩]
 have:inD (aP p) (L.map aP)=decide (p∈L):=by
  unfold inD
  rw [aba,Uq,VJ,decide_eq_true_eq]
  simp only [YU,kL,decide_eq_true_eq]
  exact ⟨λ⟨x,h,e⟩=>e▸h,λh=>⟨p,h,rfl⟩⟩
 show M.ok (R.d (.bl (inD (aP p) (L.map aP))))=_
 rw [this]
theorem HX (ps:Ps) (hl:ps.length < 64):fO [.d (aP ps)]=.ok (.d (aP (xY ps))):=by
 refine b8 (jC (bM (b:=false) rfl rfl rfl) (bG (n1 (n1 (x:=.d (aP ps)) (z:=.l .fresh (dD (ps.map dP))) rfl (Pu ps hl)) rfl) rfl ?_))
 rw [<-vC]
theorem Ny {ps:Ps}(h:ps.Pairwise nS):xY ps=ps:=NW (FP ps) h λ_=>rM
theorem zB (ps:Ps) (p:Nat×Nat) (hl:ps.length < 63):cg (.d (aP ps)) (.d (.tup [dP p]))=.ok (.d (aP (ps++[p]))):=by
 rw [aP,DB _ _ (by simp;omega),aP,Th];rfl
theorem I_ (ps:Ps) (p:Nat×Nat) (hl:ps.length < 63):ug [.d (aP ps),.d (dP p)]=.ok (.d (aP (bQ ps p))):=
 b8 (bG (c1 (two rfl (bE (aK rfl rfl bh) (by show 1<=1000;decide)) (zB ps p hl)) (HX _ (by simp;omega))) rfl rfl)
section
variable {α:Type} [DecidableEq α] {e f:α->D}{ks:List α}{k:α}{env:Ev}
theorem OS {act:Ev->M (List D×Ev)}{h f:α->D}{rest:Ev}:∀(ys:List α),(∀y∈ys,act (some (.d (h y))::rest)=.ok ([f y],some (.d (h y))::rest))->∀z:Option S,∃z',bY (aC 0) dY act (ys.map h) (z::rest)=.ok (ys.map f,z'::rest)
 | [],_,z=>⟨z,rfl⟩
 | y::ys,H,z=>by
  obtain ⟨z',ih⟩:=OS ys (λy hy=>H y (SS _ hy)) (some (.d (h y)))
  refine ⟨z',?_⟩
  rw [Td]
  unfold bY
  show (act (some (.d (h y))::rest) >>= _)=_
  rw [H y SV,aO]
  show (bY (aC 0) dY act (ys.map h) (some (.d (h y))::rest) >>= _)=_
  rw [ih]
  rfl
theorem Er {gi:G (List D)}{gk gv:G R}(he:∀a b,bg (e a) (e b)=decide (a=b)) (nd:ks.Nodup) (hi:gi env=.ok (ks.map e)) (hl:ks.length<=1000000)
 (hb:∀k∈ks,d9 (e k)=true/\gk (some (.d (e k))::cE 0 cap env)=.ok (.d (e k))/\∃r,gv (some (.d (e k))::cE 0 cap env)=.ok r/\toD r=.ok (f k)):i7 1 cap gi (aC 0) dY gk gv env=.ok (.mf (ks.map e) (ks.map f)):=by
 obtain ⟨z,h⟩:=OS (act:=tE gk gv) (h:=e) (f:=λk=>.tup [e k,f k]) (rest:=cE 0 cap env) ks (λk hk=>by
  obtain ⟨h1,h2,r,h3,h4⟩:=hb k hk
  exact Bc h2 rfl h3 h4 h1) none
 unfold i7 jr
 rw [hi,aO,if_pos (by rw [SK];exact hl)]
 show (bY (aC 0) dY (tE gk gv) (ks.map e) (none::cE 0 cap env) >>= _)=_
 rw [h]
 show M.ok (R.mf (jF _).1 (jF _).2)=_
 rw [Br he f _ ks rfl nd]
theorem vX (he:∀a b,bg (e a) (e b)=decide (a=b)) (hx:wV x=some (ks.map e,ks.map f)) (ok:d9 (e k)=true) (hk:k∈ks):iN x (.d (e k))=.ok (.d (f k)):=by
 unfold iN
 rw [hx]
 simp only
 rw [if_pos ok,qH he,if_pos hk]
theorem JG (he:∀a b,bg (e a) (e b)=decide (a=b)) (hx:wV x=some (ks.map e,ks.map f)) (ok:d9 (e k)=true):tQ false (.d (e k)) x=.ok (.d (.bl (@decide (k∈ks) q))):=by
 unfold tQ
 rw [hx]
 simp only
 rw [if_pos ok,qH he]
 by_cases h:k∈ks <;> simp [h]
end
section
variable {v w:Wd}
abbrev pq (r:List Ps):D:=.lst (r.map aP)
end
noncomputable def dV:Option Nat->D
 | none=>.non
 | some e=>.int e
theorem IB (o:Option Nat):iI false (.d (dV o)) (.d .non)=.ok (.d (.bl o.isNone)):=by cases o <;> rfl
theorem part {κ:Type}{p q:κ->Bool}(h:∀k,q k=true->p k=true):∀l:List κ,(l.filter p).length=(l.filter q).length + (l.filter λk=>p k && !q k).length
 | []=>rfl
 | a::l=>by
  have ih:=part h l
  cases hq:q a with
  | true=>simp [h a hq,hq];omega
  | false=>cases hp:p a <;> simp [hp,hq] <;> omega
abbrev eP (x:Str) (ks:List Ps) (val:Ps->D) (f:Ps->Option Nat) (d:Nat) (g z:Option S):Ev:=[some (.db (ks.map aP) (ks.map val)),some (.fn x),some (.dk (ks.map aP) (ks.map λk=>dV (f k))),some (.d (.int d)),g,z]
noncomputable def Iz (c1 c2:G R):G O:=(aI (aZ 2 (i7 1 [] (qw (af 0)) (aC 0) dY (af 0) (gC .non)))
 (aI (aZ 3 (gC (.int 1)))
 (aI (aZ 4 (bZ 1 [1,0,2] (qw (af 0)) (aC 0) (gg (br c1)) (af 0)))
 (aI (uR 400000 (we (af 4)) (aI (fJ 4 (b_ (fm (af 4)) (aC 5) (wc 2 (af 5) (af 3))))
 (aI (tW 3 vY (gC (.int 1)))
 (aZ 4 (bZ 1 [2,1,0] (qw (af 0)) (aC 0) (jq (br (g2 (iI false) (g2 iN (af 1) (af 0)) (gC .non))) (gg (br c2))) (af 0))))))
 (bq (af 2))))))
abbrev OV (i r d:Nat) (x:Str) (F:List S->M R):G R:=zN i x (gN (aS 2 F) (ao (g2 iN (af r) (af 0)) (ao (af d) aD))) yC
section
variable {ks:List Ps}{Sz:Ps->List (List Ps)}{st:(Ps->Bool)->Ps->Bool}{val:Ps->D}{c1 c2:G R}{x:Str}
theorem Lg (ok:Nat->Prop) (o0:ok 0) (os:∀d,ok d->∀k∈ks,LZ st d k=true->LZ st (d + 1) k=false->ok (d + 1)) (nd:ks.Nodup) (hl:ks.length<=390000)
  (h1:∀k∈ks,∀d,ok d->c1 [some (.d (aP k)),some (.fn x),some (.db (ks.map aP) (ks.map val)),some (.dk (ks.map aP) (ks.map λk=>dV (dZ st d k)))]=.ok (.d (.bl (st (LZ st d) k))))
  (h2:∀k∈ks,∀d,ok d->c2 [some (.d (aP k)),some (.dk (ks.map aP) (ks.map λk=>dV (dZ st d k))),some (.fn x),some (.db (ks.map aP) (ks.map val))]=.ok (.d (.bl (st (LZ st d) k)))):
  ∃d,ok d/\fin (Iz c1 c2 (aY nC [.db (ks.map aP) (ks.map val),.fn x]))=.ok (.mf (ks.map aP) (ks.map λk=>dV (dZ st d k)))/\∀k∈ks,LZ st d k=true->LZ st (d + 1) k=true:=by
 have key:Wp (Iz c1 c2 (aY nC [.db (ks.map aP) (ks.map val),.fn x])) λo=>∃r,o=.rt r/\∃d,ok d/\r=.mf (ks.map aP) (ks.map λk=>dV (dZ st d k))/\∀k∈ks,LZ st d k=true->LZ st (d + 1) k=true:=by
  refine bD (Er (e:=aP) (f:=λk=>dV (dZ st 0 k)) (ks:=ks) kL nd rfl (by omega) λk hk=>⟨lN k,rfl,_,rfl,by rw [jL.mpr rfl];rfl⟩) rfl (bD rfl rfl (bD (uG (xs:=ks) (h:=aP) (λk=>LZ st 0 k && !LZ st 1 k) aP rfl (by omega) λk hk=>⟨?_,λ_=>⟨_,rfl,rfl⟩⟩) rfl ?_))
  ·exact jx (b:=LZ st 1 k) (jU (h1 k hk 0 o0))
  ·refine KS (λn env=>∃d z,ok d/\env=eP x ks val (dZ st d) (d + 1) (some (.own ((ks.filter λk=>LZ st d k && !LZ st (d + 1) k).map aP))) z/\n=(ks.filter (LZ st d)).length) (ks.filter (LZ st 0)).length (by have:=UD (LZ st 0) ks;omega) ⟨0,none,o0,rfl,rfl⟩ ?_
   rintro n _ ⟨d,z,od,rfl,rfl⟩
   obtain ⟨g,hg⟩:∃g,g=ks.filter λk=>LZ st d k && !LZ st (d + 1) k:=⟨_,rfl⟩
   rw [<-hg]
   have hm:∀k,k∈g↔k∈ks/\LZ st d k=true/\LZ st (d + 1) k=false:=λk=>by rw [hg,Ud];simp
   by_cases h0:g=[]
   ·refine .inl ⟨by rw [h0];rfl,bG rfl rfl ⟨_,rfl,d,od,rfl,λk hk q=>?_⟩⟩
    cases z:LZ st (d + 1) k with
    | true=>rfl
    | false=>have:=(hm k).mpr ⟨hk,q,z⟩;rw [h0] at this;cases this
   ·have od1:ok (d + 1):=by
     obtain ⟨y,hy⟩:=List.exists_mem_of_ne_nil g h0
     obtain ⟨a,b,c⟩:=(hm y).mp hy
     exact os d od y a b c
    refine .inr ⟨?_,?_⟩
    ·show M.ok (!(g.map aP).isEmpty)=_
     cases g with
     | nil=>exact absurd rfl h0
     | cons _ _=>rfl
    have R_:=part (p:=LZ st d) (q:=LZ st (d + 1)) (λk h=>rB (VD d) h) ks
    rw [<-hg] at R_
    have g0:0 < g.length:=List.length_pos_iff.mpr h0
    refine cu (rV rfl (mP (ds:=g.map aP) rfl (kh (λi env=>∃z,env=eP x ks val (λk=>if k∈g.take i then some (d + 1) else dZ st d k) (d + 1) (some (.d (.lst (g.map aP)))) z) (g.map aP) ⟨z,by simp⟩ ?_ ?_)))
    ·rintro i hi _ ⟨z,rfl⟩
     have hi':i < g.length:=by simpa using hi
     have e:(g.map aP)[i]=aP g[i]:=UG ..
     have hk:g[i]∈ks:=((hm _).mp (T3 hi')).1
     rw [e]
     have ev:dput (ks.map aP,ks.map λk=>dV (if k∈g.take i then some (d + 1) else dZ st d k)) (aP g[i]) (.int ((d + 1:Nat):Int))=(ks.map aP,ks.map λk=>dV (if k∈g.take (i + 1) then some (d + 1) else dZ st d k)):=by
      rw [Gm kL hk,WZ,S5 hi']
      congr 1
      refine UY λk _=>?_
      simp only [TF,Option.toList_some,S6]
      by_cases c:k=g[i]
      ·rw [if_pos c,if_pos (.inr c)];rfl
      ·simp only [c,if_false,or_false]
     exact ⟨_,rfl,N7 (ks:=ks.map aP) (vs:=ks.map λk=>dV (if k∈g.take i then some (d + 1) else dZ st d k)) rfl rfl rfl rfl rfl (lN g[i]) (by rw [SK];omega) ⟨_,rfl,some (.d (aP g[i])),by rw [ev];rfl⟩⟩
    ·rintro _ ⟨z,rfl⟩
     have ev:(ks.map λk=>dV (if k∈g.take (g.map aP).length then some (d + 1) else dZ st d k))=ks.map λk=>dV (dZ st (d + 1) k):=UY λk hk=>by
      rw [SK,VM,Ju]
      congr 1
      by_cases c:k∈g
      ·rw [if_pos c,if_pos (by obtain ⟨_,a,b⟩:=(hm k).mp c;rw [a,b];rfl)]
      ·rw [if_neg c,if_neg λz=>c ((hm k).mpr ⟨hk,by simpa using z⟩)]
     show Wp _ _
     unfold eP
     rw [ev]
     refine cu (N6 rfl rfl rfl rfl (fM (uG (xs:=ks) (h:=aP) (λk=>LZ st (d + 1) k && !LZ st (d + 1 + 1) k) aP rfl (by omega) λk hk=>⟨?_,λ_=>⟨_,rfl,rfl⟩⟩) rfl ⟨(ks.filter (LZ st (d + 1))).length,by omega,d + 1,z,od1,rfl,rfl⟩))
     have q1:=vX (f:=λk=>dV (dZ st (d + 1) k)) (ks:=ks) (k:=k) (e:=aP) kL (x:=.mo (ks.map aP) (ks.map λk=>dV (dZ st (d + 1) k))) rfl (lN k) hk
     cases c:LZ st (d + 1) k with
     | false=>
      refine jW (bM (two rfl rfl q1) rfl ((IB _).trans ?_))
      cases z:dZ st (d + 1) k with
      | none=>rw [jL.mp z] at c;cases c
      | some _=>rfl
     | true=>
      rw [jL.mpr c] at q1
      refine i6 (bM (two rfl rfl q1) rfl (IB none)) (jx (b:=LZ st (d + 1 + 1) k) (jU ((h2 k hk (d + 1) od1).trans ?_)))
      show M.ok (R.d (.bl _))=M.ok (R.d (.bl (LZ st (d + 1) k && _)))
      rw [c];rfl
 obtain ⟨r,h,d,od,rfl,hs⟩:=pG key
 exact ⟨d,od,h,hs⟩
end
section
variable {v w:Wd}{B:Ps}
theorem Cn (t:Pr v w):(T4 v w).length<=327680:=lV t 4 (SW _)
theorem OQ (t:Pr v w){ps:Ps}(h:ps∈T4 v w):ps.length<=4:=Tz (tY ((mQ t).mp h)) t.v4
theorem Jc (t:Pr v w) (hB:B.length<=100):ia [.d v.d,.d w.d,.d (aP B)]=.ok (.l .fresh ((kn v w B).map aP)):=by
 have tl:=Cn t
 refine b8 (bG (uG (xs:=T4 v w) (h:=aP) (λps=>B.all λq=>decide (q∈ps)) aP ?_ (by omega) λps _=>⟨?_,λ_=>⟨_,rfl,rfl⟩⟩) rfl rfl)
 ·show (gN _ _ _ >>= _)=_
  rw [c3 rfl rfl rfl (Cf t 4 (SW _))]
  rfl
 ·refine jU (n1 (oA (xs:=B) (h:=dP) (λq=>.bl (decide (q∈ps))) rfl (by omega) λq _=>⟨_,two rfl rfl (L3 q ps),by rw [K55.LY];rfl⟩) (allM _ B))
theorem HW (ks:List Ps) (f:Ps->Option Nat) (p:Ps) (j:Nat):iW [.db (ks.map aP) (ks.map λk=>dV (f k)),.d (aP p),.d (.int j)]=.ok (.d (.bl (decide (p∈ks) && nN (f p) j))):=by
 have hi:=JG (ks:=ks) (f:=λk=>dV (f k)) kL (x:=.mb (ks.map aP) (ks.map λk=>dV (f k))) rfl (lN p) (q:=inferInstance)
 refine b8 (bG (r:=.d (.bl (decide (p∈ks) && nN (f p) j))) ?_ rfl rfl)
 unfold yz
 rw [show g2 (tQ false) (af 1) (af 0) (aY qe [.db (ks.map aP) (ks.map λk=>dV (f k)),.d (aP p),.d (.int j)])=_ from two rfl rfl hi,aO]
 by_cases h:p∈ks
 ·rw [decide_eq_true h]
  have hd:=vX (ks:=ks) (f:=λk=>dV (f k)) kL (x:=.mb (ks.map aP) (ks.map λk=>dV (f k))) rfl (lN p) h
  show tX _ _ _=M.ok (R.d (.bl (nN (f p) j)))
  cases q:f p with
  | none=>rw [q] at hd;exact Ka (two (two rfl rfl hd) rfl rfl)
  | some e=>
   rw [q] at hd
   refine MK (two (two rfl rfl hd) rfl rfl) (two (two rfl rfl hd) rfl ?_)
   show M.ok (R.d (.bl (decide ((j:Int) < (e:Int)))))=M.ok (R.d (.bl (decide (j < e))))
   rw [show decide ((j:Int) < (e:Int))=decide (j < e) by rw [Uq];simp]
 ·rw [decide_eq_false h];rfl
theorem NT (ks:List Ps) (f:Ps->Option Nat) (n:Nat) (hn:n<=100) (hl:ks.length<=1000000):kH [.db (ks.map aP) (ks.map λk=>dV (f k)),.d (.int n)]=.ok (.l .fresh ((SM (n + 1)).map λj=>pq (ks.filter λk=>nN (f k) j))):=by
 refine b8 (bG (oA (xs:=SM (n + 1)) (h:=dN) (λj=>pq (ks.filter λk=>nN (f k) j)) (pe (n:=n + 1) (cX (two rfl rfl rfl)) (by omega)) (by simp;omega) λj _=>⟨_,uG (xs:=ks) (h:=aP) (λk=>nN (f k) j) aP rfl hl λk hk=>⟨iS ((c3 rfl rfl rfl (HW ks f k j)).trans ?_),λ_=>⟨_,rfl,rfl⟩⟩,rfl⟩) rfl rfl)
 rw [decide_eq_true hk,Wi]
theorem O1 (d m:Nat) (hd:d<=m):K55.dh [.d (.int d),.d (.int 0),.d (.int m)]=.ok (.d .non):=by
 refine rq (oW ?_ (fc ⟨_,rfl⟩))
 show (if decide ((d:Int) < 0)=true then M.ok true else M.ok (decide ((m:Int) < d)))=M.ok false
 rw [decide_eq_false (show ¬(d:Int) < 0 by omega),decide_eq_false (show ¬(m:Int) < d by omega)]
 rfl
theorem Ml:kn v w []=T4 v w:=Yk.mpr λ_ _=>rfl
end
end K33
namespace K33
open PySem DL K01 WP K51 K52 K55 K23
section
variable {v w:Wd}{ps qs:Ps}{n j:Nat}
def sd (s:Nat) (p:Nat×Nat):Nat:=if s=0 then p.1 else p.2
theorem many (h:∀x,x < m->∃p∈qs,sd s p=x):m<=qs.length:=by
 have:=TH (l₁:=SM m) (l₂:=qs.map (sd s)) Vc λx hx=>by
  obtain ⟨p,hp,e⟩:=h x (Tj.mp hx)
  exact S3.mpr ⟨p,hp,e⟩
 simpa using this
end
end K33
namespace K33
open PySem DL K01 WP K51 K52 K55 K23 K22
theorem rN (i:Int) (m:Nat) (h:0 < m):∃k:Nat,i % (m:Int)=k/\k < m:=by
 obtain ⟨k,hk⟩:=Mz (Xp i (b:=m) (by omega))
 have:=Xm i (b:=m) (by omega)
 exact ⟨k,hk,by omega⟩
end K33
namespace DL
open PySem PySem.Spec PyProof.Rows L2
def FA (K:SG) (x:Str) (st:V0):Prop:=∃f fd,T5 K Tw x=some (some (.ref f))/\l_ K x x st f fd
theorem bS {K:SG}{st:V0}(a:T5 K Tw x=some (some (.ref f)))
 (l:K.lookup f=some ⟨u,o,.func (UZ x x (fq st) (cV st) (bA st) .none v d p n q r),s⟩) (c:XJ K q x=true) (k:Wo K (.ref f)=true):FA K x st:=⟨f,_,a,Ez l c k⟩
def FB (K:SG) (mg:Str->Option SI) (x:Str) (st:V0):Prop:=∃f fd,mg x=some (.ref f)/\l_ K x x st f fd
theorem bU {K:SG}{h:Uz}{mg:Str->Option SI}(X:K.In h) (G:h.Ns Tw mg){x:Str}{st:V0}(e:FA K x st):FB K mg x st:=let ⟨f,fd,a,F⟩:=e;⟨f,fd,Xq X G a,F⟩
theorem qc {P:S_}{w:TL}{K:SG}{mg:Str->Option SI}{base:Uz}{x:Str}{st:V0}{k:Nat}{Fm:List S->M R}(gB:G O) (N:List Str) (n:Nat) (e:FB K mg x st)
  (hb:N.Nodup->∀(f:Tg) (cdv:SI) (A:TR) (outer:List Env) (s:SJ) (H:Hp) (E:XK) (J:Hp) (T:Exc->Prop),dW k (A.deeper (YI x (bA st) s.heap.objs.size f cdv))->
   qi (Ep P w K mg base N x (bA st) f cdv A outer s H E) ⟨K,H,J,T⟩ (cV st) gB)
  (Sc:gF N (N.take n) (bA st):=by exact ⟨rfl,rfl,rfl,by decide +kernel,rfl,by decide +kernel,by decide +kernel⟩)
  (hbi:∀(kV doc pm:SI) (an:Option Tg) (cdv ct:SI) (us:List SI),us.length=(N.take n).length->aag (UZ x x (fq st) (cV st) (bA st) .none kV doc pm an cdv ct) ⟨us,[]⟩=pure ((N.take n).zip us):=by
   intro _ _ _ _ _ _ us hl;rcases us with _ | ⟨_,_ | ⟨_,_ | ⟨_,_ | ⟨_,_ | ⟨_,_ | ⟨_,_ | ⟨_,_⟩⟩⟩⟩⟩⟩⟩ <;> first | exact rfl | (cases hl;done) | exact nomatch hl)
  (hF:∀as r,as.length=(N.take n).length->Fm as=.ok r->fin (gB (aY N as))=.ok r:=by intro _ _ _ h;exact h):bw P w K mg base (k + 1) (N.take n).length x Fm:=
 let ⟨f,_,hm,F⟩:=e;BU F hm Sc hbi (hb Sc.nd f) hF
end DL
namespace K32
open PySem DL
end K32
namespace K32
open PySem DL K01 WP K51 K52 K55 K23 K22 K33
theorem GY {x y:R}{b:Bool}(h:fk false x y=.ok (.d (.bl b))):fk true x y=.ok (.d (.bl (!b))):=by
 unfold fk at h ⊢
 cases q:iy y with
 | bad=>rw [q] at h;cases h
 | exc z=>rw [q] at h;cases h
 | ok ys=>
  rw [q,aO] at h
  rw [aO]
  split at h
  ·rename_i c
   rw [if_pos c]
   have:inD x.dat ys=b:=by simpa using h
   rw [this];rfl
  ·cases h
end K32
namespace K23
open PySem DL K01 WP K51 K52 K55
def O_ (m:Nat) (o:List Nat):List (List Nat):=((SM m).filter λp=>!inD (dN p) (o.map dN)).map λp=>o++[p]
noncomputable def OR (m:Nat):Nat->List (List Nat)
 | 0=>[[]]
 | k + 1=>(OR m k).flatMap (O_ m)
noncomputable def fs (k:Nat) (L:List D):S:=match k with
 | 0=>.own L
 | _ + 1=>.d (.lst L)
theorem ne_int (a b:Nat):cj true (.d (.int a)) (.d (.int b))=.ok (.d (.bl (!(a == b)))):=by
 show M.ok (R.d (.bl (!((a:Int) == (b:Int)))))=_
 rw [show ((a:Int) == (b:Int))=(a == b) by rw [Uq,beq_iff_eq,beq_iff_eq];omega]
theorem wF {σ:List Nat}(nd:σ.Nodup) (l:σ.length=m) (rg:∀p∈σ,p < m):σ.Perm (SM m):=
 (WM nd Vc).mpr λy=>⟨λh=>Tj.mpr (rg y h),λhy=>US λhn=>by
  have:=TH (U7.mpr ⟨hn,nd⟩) (l₂:=SM m) λz hz=>by
   rcases S7.mp hz with rfl | hz
   ·exact hy
   ·exact Tj.mpr (rg z hz)
  rw [Uv,Vf] at this
  omega⟩
end K23
namespace K22
open PySem DL K01 WP K51 K52 K55 K23
end K22
namespace K35
open PySem DL
end K35
namespace K35
open PySem DL K01 WP K51 K52 K55 K22 K33 K32
open K23 (Pr iG iU told rT j6 aP OR oQ oU wF iS bM jU jx Good rZ lD jW i6 lY fO)
section
variable {v w:Wd}{B C:Ps}{n j:Nat}
theorem MM {env:Ev}{a b:G Bool}(h:a env=.ok true):ju a b env=.ok true:=by
 unfold ju
 rw [h];rfl
end
end K35
namespace DL
open PySem PySem.Spec PyProof.Rows L2
end DL
namespace K81
open PySem DL
end K81
namespace K81
open PySem DL K01 WP K51 K52 K55 K23 K33
end K81
namespace K81
open PySem DL K01 WP K51 K52 K55 K23 K22 K33
abbrev tN (xs:List Nat):D:=.tup (xs.map dN)
theorem FT (xs:List Nat):dep (tN xs)<=60:=by
 have:deps (xs.map dN)<=0:=fQ λx hx=>by obtain ⟨q,_,rfl⟩:=S3.mp hx;exact SW _
 show deps (xs.map dN) + 1<=60
 omega
theorem Mu {gs:G (List R)}{env:Ev}{n:Nat}(hg:gs env=.ok [.d (.int (n:Int))]) (h:n<=1000):uQ gs env=.ok (.l .fresh ((SM n).map dN)):=by
 unfold uQ
 rw [hg,aO]
 simp only
 rw [if_pos (cW.mpr ⟨by omega,by omega⟩),UJ,Nl]
theorem Nv {ps qs:List Nat}(nd:ps.Nodup) (up:qs.Pairwise (· < ·)) (h:∀x,x∈ps↔x∈qs):bN (ps.map dN)=qs.map dN:=by
 have tp:∀d∈ps.map dN,ki .i d:=λd hd=>by obtain ⟨x,_,rfl⟩:=S3.mp hd;exact ⟨_,rfl⟩
 have inj:∀a b:Nat,dN a=dN b->a=b:=λa b e=>by have:=congrArg AE e;exact this
 refine vH (iu .i) (λx hx=>tp x ((gm _).mem_iff.mp hx)) (rS (iu .i) tp (TX.mpr (nd.imp λh e=>h (inj _ _ e)))) (TX.mpr (up.imp fun {a b} h=>(C_ a b).mpr h)) λy=>?_
 rw [(gm _).mem_iff,S3,S3]
 exact ⟨λ⟨q,a,b⟩=>⟨q,(h q).mp a,b⟩,λ⟨q,a,b⟩=>⟨q,(h q).mpr a,b⟩⟩
end K81
namespace DL
open PySem PySem.Spec PyProof.Rows L2
section
variable {X:Cx}{c:C}{o a e:TV}{es:List TV}{go ga:G R}{apos cpos pos:Pos}
theorem D7:bP X (.builtin "abs") (λxs H Q=>∃i:Int,xs=[.int i]/\Q (.int (if i < 0 then -i else i)) H):=by
 intro Sq s σ H xs us Q I r h
 obtain ⟨i,rfl,q⟩:=h
 obtain ⟨u,rfl,t,rfl⟩:=vals1 r
 exact call_abs_int λu tk=>⟨.int _,H,I.tok _,⟨_,rfl⟩,q⟩
noncomputable def CG:List R->M R
 | [.d (.int i)]=>.ok (.d (.int (if i < 0 then -i else i)))
 | _=>.bad
theorem KG {p:Pos}{gs:G (List R)}(ha:jj X c (e::es) gs) (hm:X.mg "abs"=none) (hg:Gl X "abs":=by rfl)
  (he:SX (e::es) X.env=(false,eval e X.env)::SX es X.env:=by rfl) (hpl:(Vb pos (SX es X.env)).any (·.1)=false:=by rfl):QD X c (.Call (.Name "abs" p) (e::es) [] pos) (gN CG gs):=
 ⟨jQ D7 (by
  intro He J H xs vs Q hp rs w
  unfold CG at w
  split at w
  ·obtain ⟨v,rfl,r⟩:=rs.one
   cases r
   exact ⟨_,rfl,w _ J H (Ext.refl hp.sub) (.int _)⟩
  ·exact w.elim) (by decide +kernel) hm ha.h hg (by decide) (by decide) he hpl⟩
def NQ (_ j:Int):Prop:=0 < j/\j < 2 ^ 200
theorem G4:c_ X (Wt .FloorDiv) (rI NQ λi j=>.int (i / j)):=E2 λi j _ _ _ _ _ hc q=>by
 have h1:(0:Int) < j:=hc.1
 have h2:j.natAbs < 2 ^ 200:=by have:=hc.2;omega
 exact floordiv_int (by omega) (by rw [Yu i (by omega)];exact q) (.inl (PyProof.noPylong_of_log2 (Wa ((Nat.log2_lt (by omega)).mpr h2) (by decide))))
def CQ (_ j:Int):Bool:=decide (0 < j) && below 1606938044258990275541962092341162602522202993782792835301376 j
abbrev mG:R->R->M R:=fI CQ λi j=>.int (i / j)
theorem jR (ha:QD X c a ga) (hb:QD X c o go):QD X c (.BinOp a .FloorDiv o pos) (g2 mG ga go):=⟨mR G4 (zh (λi j h=>by
 unfold CQ at h
 rw [SN] at h
 exact ⟨of_decide_eq_true h.1,(cW.mp h.2).2⟩) λ_ _ _=>.int _) ha.h hb.h⟩
theorem Nt:sC X (λx lo hi H Q=>∃z:Str,x=.str z/\z.length<=sizeLine/\Q (.str (Vm z lo hi)) H):=by
 intro Sq s σ H x v vl vu lo hi sl Q I rx hs pl pu h
 obtain ⟨z,rfl,hz,q⟩:=h
 obtain ⟨t,rfl⟩:=rx
 have fin:∀t' k,EP X Sq σ Q (.str (Vm z lo hi) t') {s with toks:=k}:=λt' k=>⟨.str _,H,I.tok _,⟨_,rfl⟩,q⟩
 cases pl <;> cases pu
 ·exact ⟨"str",_,V9.lookup,Xv _ _ _,Wk (l:=none) (u:=none) (st:=none) hs rfl (Ys ⟨Tz (YC z _ _) hz,fin⟩)⟩
 ·exact ⟨"str",_,V9.lookup,Xv _ _ _,Wk (l:=none) (u:=some (_,_)) (st:=none) hs rfl (Ys ⟨Tz (YC z _ _) hz,fin⟩)⟩
 ·exact ⟨"str",_,V9.lookup,Xv _ _ _,Wk (l:=some (_,_)) (u:=none) (st:=none) hs rfl (Ys ⟨Tz (YC z _ _) hz,fin⟩)⟩
 ·exact ⟨"str",_,V9.lookup,Xv _ _ _,Wk (l:=some (_,_)) (u:=some (_,_)) (st:=none) hs rfl (Ys ⟨Tz (YC z _ _) hz,fin⟩)⟩
noncomputable def oK:R->Option Int->Option Int->M R
 | .d (.str z),l,u=>if z.length<=sizeLine then .ok (.d (.str (Vm z l u))) else .bad
 | _,_,_=>.bad
theorem nW {lo hi:Option TV}{gl gh:GO}{p2:Pos}(h:QD X c o go) (hl:A8 X c lo gl) (hh:A8 X c hi gh):QD X c (.Subscript o (.Slice lo hi none p2) pos) (kF oK go gl gh):=⟨IK Nt (by
 intro He J H x v l u Q hp rx w
 unfold oK at w
 split at w
 ·cases rx
  split at w
  ·rename_i hz;exact ⟨_,rfl,hz,w _ J H (Ext.refl hp.sub) (.str _)⟩
  ·exact w.elim
 ·exact w.elim) h.h hl.h hh.h⟩
noncomputable def CL (go ga:G R):G R:=λenv=>go env >>= λr=>match r with
 | .d (.str x)=>ga env >>= λk=>(match k with
  | .d (.str y)=>.ok (.d (.int (Txt.find x y)))
  | _=>.bad)
 | _=>.bad
theorem Hq (ho:QD X c o go) (ha:QD X c a ga) (hbase:Xc o "find" X.env (eval o X.env)=eval o X.env:=by rfl) (hline:(apos.endLine == cpos.line)=true:=by rfl)
  (htr:Vb cpos (SX [a] X.env)=[(false,eval a X.env)]:=by rfl):QD X c (.Call (.Attribute o "find" apos) [a] [] cpos) (CL go ga):=by
 refine ⟨λSq s σ H Q I ⟨J,env,sr,w⟩=>?_⟩
 refine wpAny_Call_method1_late hbase hline htr (bO (ho.h Sq s σ H (λx H1=>∃J1 r,Ext J H J1 H1/\RR c H J1 H1 r x/\cI _ _ _) I ⟨J,env,sr,aF (aL w) λr wr v J1 H1 e1 r1=>⟨J1,r,e1,r1,wr⟩⟩) λov s1 ⟨x,H1,I1,rx,J1,r,e1,r1,wr⟩=>?_)
 split at wr
 ·rename_i x
  cases r1
  obtain ⟨t,rfl⟩:=rx
  refine ⟨"str","str.find",PySem.F.plainAttrs_str,ZM,PySem.F.type_str_find,Xv _ _ _,(λ_ e=>nomatch e),?_⟩
  refine method1_gives ZM PySem.F.entry_str_find (bO (ha.h Sq s1 σ H1 (λx H2=>∃J2 r,Ext J1 H1 J2 H2/\RR c H1 J2 H2 r x/\cI _ _ _) I1 ⟨J1,env,sr.ext e1,aF (aL wr) λr wr v J2 H2 e2 r2=>⟨J2,r,e2,r2,wr⟩⟩) λkv s2 ⟨y,H2,I2,ry,J2,r',e2,r2,wr⟩=>?_)
  split at wr
  ·rename_i y
   cases r2
   obtain ⟨t',rfl⟩:=ry
   exact ⟨Xv _ _ _,PySem.F.args_str_find_2 _ _,_,gives_str_find x y t t',.int _,H2,I2.tok _,⟨_,rfl⟩,wr _ J2 H2 (e1.trans e2) (.int _)⟩
  ·exact wr.elim
 ·exact wr.elim
end
end DL
namespace K72
open PySem DL
def nc:List Str:=["choices","ahead","point","found"]
noncomputable def sN (Fr:List S->M R):G O:=(aI (bK (br (g2 (cj false) (gN e_ (ao (af 1) aD)) (gN e_ (ao (af 0) aD)))) (bq (af 1)) cS)
 (aI (b_ (fm (g2 aX (af 0) (gN e_ (ao (af 1) aD)))) (aC 2) (bK (br (g2 (fk true) (af 2) (af 1))) (aI (aZ 3 (gN (aS 2 Fr) (ao (af 0) (ao (g2 cg (af 1) (bz (az (af 2) aQ))) aD))))
 (bK (br (g2 (iI true) (af 3) (gC .non))) (bq (af 3)) cS)) cS))
 (bq (gC .non))))
noncomputable def dg:Nat->List S->M R
 | 0,_=>.bad
 | k + 1,as=>fin (sN (dg k) (aY nc as))
def sf:List Str:=["grid","depths","depth"]
noncomputable def sM:G O:=(bq (bZ 1 [1,2] (kq (af 0)) (aC 0) dY (bZ 2 [1,2] (Iu (ao (af 0) aD)) (dF 2 (bx (aC 0) (bx (aC 1) dM))) (br (gN (aS 3 K33.iW) (ao (af 2) (ao (af 1) (ao (af 3) aD))))) (af 0))))
def gE (as:List S):M R:=fin (sM (aY sf as))
def pK:List Str:=["grid","depths"]
noncomputable def pQ:G O:=(bq (g2 (iI true) (gN (aS 2 (K72.dg 6)) (ao (gN (aS 3 K72.gE) (ao (af 0) (ao (af 1) (ao (gC (.int 6)) aD)))) (ao (bz aQ) aD))) (gC .non)))
def eE (as:List S):M R:=fin (pQ (aY pK as))
def nC:List Str:=["rows","stays","depths","depth","gone","pairing"]
noncomputable def BA:G O:=(aI (aZ 2 (i7 1 [] (qw (af 0)) (aC 0) dY (af 0) (gC .non)))
 (aI (aZ 3 (gC (.int 1)))
 (aI (aZ 4 (bZ 1 [1,0,2] (qw (af 0)) (aC 0) (gg (br (zN 1 "mapped_still" (gN (aS 2 K72.eE) (ao (g2 iN (af 2) (af 0)) (ao (af 3) aD))) yC))) (af 0)))
 (aI (uR 400000 (we (af 4)) (aI (fJ 4 (b_ (fm (af 4)) (aC 5) (wc 2 (af 5) (af 3))))
 (aI (tW 3 vY (gC (.int 1)))
 (aZ 4 (bZ 1 [2,1,0] (qw (af 0)) (aC 0) (jq (br (g2 (iI false) (g2 iN (af 1) (af 0)) (gC .non))) (gg (br (zN 2 "mapped_still" (gN (aS 2 K72.eE) (ao (g2 iN (af 3) (af 0)) (ao (af 1) aD))) yC)))) (af 0))))))
 (bq (af 2))))))
def nu (as:List S):M R:=fin (BA (aY nC as))
def yZ:List Str:=["one","other","pairing"]
noncomputable def zP:G O:=(aI (bK (br (g2 (cj true) (g2 aX (af 0) (gC (.int 0))) (g2 aX (af 1) (gC (.int 0))))) (bq (bZ 1 [] (b9 (ao (g2 aX (af 0) (gC (.int 0))) aD)) (aC 0) dY (dJ aQ))) cS)
 (bq (bZ 1 [1,2] (b9 (ao (g2 aX (af 0) (gC (.int 0))) aD)) (aC 0) dY (bZ 1 [2,0] (b9 (ao (g2 aX (af 1) (gC (.int 0))) aD)) (aC 0) dY (gN (aS 2 K33.ug) (ao (af 1) (ao (bz (az (af 2) (az (af 0) aQ))) aD)))))))
def jG (as:List S):M R:=fin (zP (aY yZ as))
def mj:List Str:=["one","other","base","grids"]
noncomputable def mK:G O:=(aI (aZ 3 (i7 1 [0,1] (kq (gN (aS 3 K33.ia) (ao (af 0) (ao (af 1) (ao (af 2) aD))))) (aC 0) dY (af 0) (gN (aS 3 K72.jG) (ao (af 1) (ao (af 2) (ao (af 0) aD))))))
 (bq (EA "mapped_still" K72.nu (af 3))))
def d8 (as:List S):M R:=fin (mK (aY mj as))
def mq:List Str:=["one","other","depth"]
noncomputable def mL:G O:=(aI (jt (gN (aS 2 K23.eS) (ao (af 0) (ao (af 1) aD))))
 (aI (jt (gN (aS 3 K55.dh) (ao (af 2) (ao (gC (.int 0)) (ao (gC (.int 6)) aD)))))
 (bq (gN (aS 2 K33.kH) (ao (gN (aS 3 K72.d8) (ao (af 0) (ao (af 1) (ao (bz aQ) aD)))) (ao (af 2) aD))))))
def gM (as:List S):M R:=fin (mL (aY mq as))
def qb:List Str:=["one","other","depth","pairs","base","depths"]
noncomputable def qA:G O:=(aI (jt (gN (aS 2 K23.eS) (ao (af 0) (ao (af 1) aD))))
 (aI (jt (gN (aS 3 K55.dh) (ao (af 2) (ao (gC (.int 1)) (ao (gC (.int 6)) aD)))))
 (aI (aZ 4 (gN (aS 1 K23.fO) (ao (af 3) aD)))
 (aI (aZ 5 (gN (aS 3 K72.d8) (ao (af 0) (ao (af 1) (ao (af 4) aD)))))
 (bq (gN (aS 2 (K72.dg 6)) (ao (gN (aS 3 K72.gE) (ao (gN (aS 3 K72.jG) (ao (af 0) (ao (af 1) (ao (af 4) aD)))) (ao (af 5) (ao (g2 oN (af 2) (gC (.int 1))) aD)))) (ao (bz aQ) aD))))))))
def gQ (as:List S):M R:=fin (qA (aY qb as))
def pI:List Str:=["_law_script","_law_k"]
noncomputable def pO:G O:=(aI (bK (br (g2 (qq λi j=>.bl (decide (i < j))) (af 1) (gN e_ (ao (af 0) aD)))) (bq (g2 aX (af 0) (af 1))) cS)
 (bq (gC (.int 0))))
def gq (as:List S):M R:=fin (pO (aY pI as))
def uq:List Str:=["_law_cell","_law_count","_law_found","_law_number","_law_k"]
noncomputable def uS:G O:=(aI (aZ 2 (dJ aQ))
 (aI (aZ 3 (gN CG (ao (g2 mG (af 0) (gC (.int 2))) aD)))
 (aI (bK (br (g2 (cj false) (g2 dB (af 0) (gC (.int 2))) (gC (.int 1)))) (aI (b_ (b9 (ao (af 1) aD)) (aC 4) (aI (gK 2 (g2 dB (af 3) (g2 oH (gC (.int 10)) (gC (.int 20)))))
 (aZ 3 (g2 mG (af 3) (g2 oH (gC (.int 10)) (gC (.int 20)))))))
 (bq (af 2))) cS)
 (aI (aZ 3 (g2 iJ (g2 dB (af 3) (g2 oH (gC (.int 10)) (gC (.int 50)))) (gC (.int 1234577))))
 (aI (b_ (b9 (ao (af 1) aD)) (aC 4) (aI (aZ 3 (g2 dB (g2 iJ (g2 iJ (g2 gy (af 3) (gC (.int 30013))) (g2 mG (af 3) (g2 oH (gC (.int 10)) (gC (.int 30))))) (g2 gy (gC (.int 77)) (af 4))) (g2 iJ (g2 oH (gC (.int 10)) (gC (.int 50))) (gC (.int 151)))))
 (gK 2 (g2 mG (g2 gy (af 3) (g2 iJ (g2 mG (af 3) (g2 oH (gC (.int 10)) (gC (.int 40)))) (gC (.int 3)))) (g2 oH (gC (.int 10)) (gC (.int 9)))))))
 (bq (af 2)))))))
def je (as:List S):M R:=fin (uS (aY uq as))
def r6:List Str:=["_law_name","_law_ahead"]
noncomputable def sI:G O:=(aI (bK (br (g2 (fk false) (af 0) (dJ (az (gC (.str "and")) (az (gC (.str "or")) (az (gC (.str "not")) (az (gC (.str "some")) (az (gC (.str "every")) (az (gC (.str "least")) (az (gC (.str "true")) (az (gC (.str "false")) aQ))))))))))) (aI (bK (we (af 1)) (bq (g2 cg (gC (.str "q")) (kF oK (af 0) (mJ (gC (.int 1))) pN))) cS)
 (bq (g2 cg (af 0) (gC (.str "q"))))) cS)
 (bq (af 0)))
def iH (as:List S):M R:=fin (sI (aY r6 as))
def r_:List Str:=["_law_number","_law_many","_law_letters","_law_stem","_law_k","_law_at_here","_law_found","_law_sign"]
noncomputable def sJ:G O:=(aI (aZ 2 (gC (.str "abcdefghijklmnopqrstuvwxyz")))
 (aI (aZ 3 (gC (.str "")))
 (aI (b_ (b9 (ao (gC (.int 7)) aD)) (aC 4) (aI (aZ 3 (g2 cg (af 3) (g2 aX (af 2) (g2 dB (af 0) (gC (.int 26))))))
 (aZ 0 (g2 gf (af 0) (gC (.int 26))))))
 (aI (bK (br (g2 (cj false) (g2 dB (af 0) (gC (.int 2))) (gC (.int 0)))) (bq (gN kY (ao (bZ 1 [3] (b9 (ao (af 1) aD)) (aC 0) dY (gN (aS 2 K72.iH) (ao (kF oK (af 1) pN (mJ (g2 cg (gC (.int 2)) (af 0)))) (ao (gC (.bl true)) aD)))) aD))) cS)
 (aI (aZ 3 (kF oK (af 3) pN (mJ (g2 cg (gC (.int 2)) (g2 dB (g2 gf (af 0) (gC (.int 2))) (gC (.int 6)))))))
 (aI (aZ 5 (g2 dB (g2 gf (af 0) (gC (.int 12))) (gN e_ (ao (af 3) aD))))
 (aI (aZ 6 (dJ aQ))
 (aI (b_ (b9 (ao (af 1) aD)) (aC 4) (aI (aZ 7 (g2 aX (af 2) (g2 dB (g2 cg (CL (af 2) (g2 aX (af 3) (af 5))) (g2 gy (gC (.int 5)) (af 4))) (gC (.int 26)))))
 (gK 6 (gN (aS 2 K72.iH) (ao (g2 cg (g2 cg (kF oK (af 3) pN (mJ (af 5))) (af 7)) (kF oK (af 3) (mJ (g2 cg (af 5) (gC (.int 1)))) pN)) (ao (gC (.bl false)) aD))))))
 (bq (gN kY (ao (af 6) aD)))))))))))
def gD (as:List S):M R:=fin (sJ (aY r_ as))
noncomputable def se:List Str:=["_law_many","_law_marks","_law_arrows","_law_number","_law_parts","_law_name","_law_points","_law_point","_law_more_here","_law_pairs","_law_one","_law_other"]
noncomputable def sL:G O:=(aI (aZ 4 (dJ aQ))
 (aI (b_ (fm (af 1)) (aC 5) (aI (aZ 6 (dJ aQ))
 (aI (b_ (b9 (ao (af 0) aD)) (aC 7) (aI (bK (br (g2 (cj false) (g2 dB (af 3) (gC (.int 2))) (gC (.int 1)))) (gK 6 (af 7)) cS)
 (aZ 3 (g2 gf (af 3) (gC (.int 2))))))
 (gK 4 (bz (az (af 5) (az (gN eF (ao (af 6) aD)) aQ)))))))
 (aI (aZ 8 (dJ aQ))
 (aI (b_ (fm (af 2)) (aC 5) (aI (aZ 9 (dJ aQ))
 (aI (b_ (b9 (ao (af 0) aD)) (aC 10) (b_ (b9 (ao (af 0) aD)) (aC 11) (aI (bK (br (g2 (cj false) (g2 dB (af 3) (gC (.int 2))) (gC (.int 1)))) (gK 9 (bz (az (af 10) (az (af 11) aQ)))) cS)
 (aZ 3 (g2 gf (af 3) (gC (.int 2)))))))
 (gK 8 (bz (az (af 5) (az (gN eF (ao (af 9) aD)) aQ)))))))
 (bq (bz (az (af 0) (az (gN eF (ao (af 4) aD)) (az (gN eF (ao (af 8) aD)) aQ)))))))))
def dR (as:List S):M R:=fin (sL (aY se as))
def pJ:List Str:=["_law_number","_law_at_here","_law_low","_law_k"]
noncomputable def pP:G O:=(aI (aZ 2 (gC (.int 1)))
 (aI (b_ (b9 (ao (af 1) aD)) (aC 3) (aZ 2 (g2 gy (af 2) (gC (.int 2)))))
 (aI (bK (br (g2 (cj false) (g2 dB (g2 mG (af 0) (af 2)) (gC (.int 2))) (gC (.int 1)))) (bq (g2 oN (af 0) (af 2))) cS)
 (bq (g2 iJ (af 0) (af 2))))))
def gr (as:List S):M R:=fin (pP (aY pJ as))
noncomputable def qa:List Str:=["_law_world_here","_law_number","_law_left","_law_order","_law_k","_law_marks","_law_name","_law_points","_law_arrows","_law_pairs"]
noncomputable def qy:G O:=(aI (aZ 2 (uQ (ao (g2 aX (af 0) (gC (.int 0))) aD)))
 (aI (aZ 3 (dJ aQ))
 (aI (b_ (b9 (ao (g2 aX (af 0) (gC (.int 0))) aD)) (aC 4) (aI (nI 3 2 (g2 dB (af 1) (gN e_ (ao (af 2) aD))))
 (aZ 1 (g2 gf (af 1) (gC (.int 5))))))
 (aI (aZ 5 (dJ aQ))
 (aI (b_ (fm (g2 aX (af 0) (gC (.int 1)))) (dF 2 (bx (aC 6) (bx (aC 7) dM))) (gK 5 (bz (az (af 6) (az (gN eF (ao (gN jX (ao (bZ 1 [3] (kq (af 7)) (aC 0) dY (g2 aX (af 1) (af 0))) aD)) aD)) aQ)))))
 (aI (aZ 8 (dJ aQ))
 (aI (b_ (fm (g2 aX (af 0) (gC (.int 2)))) (dF 2 (bx (aC 6) (bx (aC 9) dM))) (gK 8 (bz (az (af 6) (az (gN eF (ao (gN jX (ao (bZ 2 [3] (kq (af 9)) (dF 2 (bx (aC 0) (bx (aC 1) dM))) dY (bz (az (g2 aX (af 2) (af 0)) (az (g2 aX (af 2) (af 1)) aQ)))) aD)) aD)) aQ)))))
 (bq (bz (az (g2 aX (af 0) (gC (.int 0))) (az (gN eF (ao (af 5) aD)) (az (gN eF (ao (af 8) aD)) aQ))))))))))))
def eZ (as:List S):M R:=fin (qy (aY qa as))
noncomputable def wO:List Str:=["_law_cell","_law_sizes","_law_xs","_law_marks","_law_arrows","_law_many","_law_fill","_law_one","_law_way","_law_bits","_law_other"]
noncomputable def xq:G O:=(aI (aZ 2 (gN (aS 2 K72.je) (ao (af 0) (ao (gC (.int 7)) aD))))
 (aI (aZ 3 (kF oJ (gN (aS 2 K72.gD) (ao (g2 aX (af 2) (gC (.int 0))) (ao (gC (.int 3)) aD))) pN (mJ (g2 aX (dJ (az (gC (.int 0)) (az (gC (.int 1)) (az (gC (.int 1)) (az (gC (.int 2)) (az (gC (.int 1)) (az (gC (.int 3)) aQ))))))) (g2 dB (g2 aX (af 2) (gC (.int 1))) (gC (.int 6)))))))
 (aI (aZ 4 (kF oJ (gN (aS 2 K72.gD) (ao (g2 aX (dJ (az (g2 aX (af 2) (gC (.int 2))) (az (g2 aX (af 2) (gC (.int 0))) aQ))) (g2 gf (g2 dB (g2 gf (g2 aX (af 2) (gC (.int 1))) (gC (.int 6))) (gC (.int 4))) (gC (.int 3)))) (ao (gC (.int 3)) aD))) pN (mJ (g2 aX (dJ (az (gC (.int 1)) (az (gC (.int 1)) (az (gC (.int 2)) (az (gC (.int 0)) (az (gC (.int 1)) (az (gC (.int 3)) aQ))))))) (g2 dB (g2 gf (g2 aX (af 2) (gC (.int 1))) (gC (.int 24))) (gC (.int 6)))))))
 (aI (aZ 5 (g2 aX (af 1) (g2 dB (g2 gf (g2 aX (af 2) (gC (.int 1))) (gC (.int 144))) (gN e_ (ao (af 1) aD)))))
 (aI (aZ 6 (g2 aX (dJ (az (gC (.int 0)) (az (g2 oN (g2 oH (gC (.int 2)) (gC (.int 60))) (gC (.int 1))) (az (g2 aX (af 2) (gC (.int 3))) (az (g2 aX (af 2) (gC (.int 3))) (az (g2 aX (af 2) (gC (.int 3))) (az (g2 aX (af 2) (gC (.int 3))) aQ))))))) (g2 dB (g2 gf (g2 aX (af 2) (gC (.int 1))) (gC (.int 10000))) (gC (.int 6)))))
 (aI (fJ 4 (fJ 3 (aZ 7 (gN (aS 4 K72.dR) (ao (af 5) (ao (af 3) (ao (af 4) (ao (af 6) aD))))))))
 (aI (aZ 8 (g2 dB (g2 aX (af 2) (gC (.int 4))) (gC (.int 5))))
 (aI (bK (br (g2 (cj false) (af 8) (gC (.int 0)))) (bq (bz (az (af 7) (az (gN (aS 2 K72.eZ) (ao (af 7) (ao (g2 aX (af 2) (gC (.int 5))) aD))) aQ)))) cS)
 (aI (bK (br (g2 (cj false) (af 8) (gC (.int 1)))) (aI (aZ 9 (gN CJ (ao (gC (.int 1)) (ao (g2 iJ (g2 gy (af 5) (gN e_ (ao (af 3) aD))) (g2 gy (g2 gy (af 5) (af 5)) (gN e_ (ao (af 4) aD)))) aD))))
 (aI (aZ 10 (gN (aS 4 K72.dR) (ao (af 5) (ao (af 3) (ao (af 4) (ao (gN (aS 2 K72.gr) (ao (af 6) (ao (g2 dB (g2 gf (g2 aX (af 2) (gC (.int 4))) (gC (.int 5))) (af 9)) aD))) aD))))))
 (bq (bz (az (af 7) (az (gN (aS 2 K72.eZ) (ao (af 10) (ao (g2 aX (af 2) (gC (.int 5))) aD))) aQ)))))) cS)
 (aI (aZ 5 (g2 aX (af 1) (g2 dB (g2 aX (af 2) (gC (.int 6))) (gN e_ (ao (af 1) aD)))))
 (aI (bK (br (g2 (cj false) (af 8) (gC (.int 2)))) (bq (bz (az (af 7) (az (gN (aS 4 K72.dR) (ao (af 5) (ao (af 3) (ao (af 4) (ao (af 6) aD))))) aQ)))) cS)
 (bq (bz (az (af 7) (az (gN (aS 4 K72.dR) (ao (af 5) (ao (af 3) (ao (af 4) (ao (g2 aX (af 2) (gC (.int 5))) aD))))) aQ)))))))))))))))
def jV (as:List S):M R:=fin (xq (aY wO as))
def yY:List Str:=["_law_some","_law_name","_law_thing","_law_other","_law_things"]
noncomputable def zO:G O:=(aI (b_ (fm (af 0)) (dF 2 (bx (aC 3) (bx (aC 4) dM))) (bK (br (g2 (cj false) (af 3) (af 1))) (bq (g2 (fk false) (af 2) (af 4))) cS))
 (bq (gC (.bl false))))
def lC (as:List S):M R:=fin (zO (aY yY as))
def wN:List Str:=["_law_one","_law_other","_law_pairs","_law_a","_law_b","_law_name","_law_points","_law_c","_law_d","_law_arrows"]
noncomputable def xo:G O:=(aI (b_ (fm (af 2)) (dF 2 (bx (aC 3) (bx (aC 4) dM))) (aI (b_ (fm (g2 aX (af 0) (gC (.int 1)))) (dF 2 (bx (aC 5) (bx (aC 6) dM))) (bK (br (g2 (cj true) (g2 (fk false) (af 3) (af 6)) (gN (aS 3 K72.lC) (ao (g2 aX (af 1) (gC (.int 1))) (ao (af 5) (ao (af 4) aD)))))) (bq (gC (.bl false))) cS))
 (b_ (fm (af 2)) (dF 2 (bx (aC 7) (bx (aC 8) dM))) (aI (bK (br (g2 (cj true) (g2 (cj false) (af 3) (af 7)) (g2 (cj false) (af 4) (af 8)))) (bq (gC (.bl false))) cS)
 (b_ (fm (g2 aX (af 0) (gC (.int 2)))) (dF 2 (bx (aC 5) (bx (aC 9) dM))) (bK (br (g2 (cj true) (g2 (fk false) (bz (az (af 3) (az (af 7) aQ))) (af 9)) (gN (aS 3 K72.lC) (ao (g2 aX (af 1) (gC (.int 2))) (ao (af 5) (ao (bz (az (af 4) (az (af 8) aQ))) aD)))))) (bq (gC (.bl false))) cS))))))
 (bq (gC (.bl true))))
def iV (as:List S):M R:=fin (xo (aY wN as))
def ur:List Str:=["_law_pairs","_law_pair"]
def uT:G O:=(bq (gN eF (ao (gN qu (ao (g2 cg (gN CI (ao (af 0) aD)) (dJ (az (af 1) aQ))) aD)) aD)))
def kG (as:List S):M R:=fin (uT (aY ur as))
noncomputable def nv:List Str:=["_law_one","_law_other","_law_most_pairs","_law_found","_law_last","_law_size","_law_more_here","_law_pairs","_law_a","_law_b"]
noncomputable def nJ:G O:=(aI (aZ 3 (dJ (az (bz aQ) aQ)))
 (aI (fJ 6 (aZ 4 (dJ (az (bz aQ) aQ))))
 (aI (b_ (b9 (ao (af 2) aD)) (aC 5) (aI (aZ 6 (dJ aQ))
 (aI (fJ 4 (b_ (fm (af 4)) (aC 7) (b_ (b9 (ao (g2 aX (af 0) (gC (.int 0))) aD)) (aC 8) (b_ (b9 (ao (g2 aX (af 1) (gC (.int 0))) aD)) (aC 9) (bK (jq (ju (br (g2 (cj false) (af 7) (bz aQ))) (br (g2 tR (g2 aX (af 7) (v_ (gC (.int 1)))) (bz (az (af 8) (az (af 9) aQ)))))) (br (gN (aS 3 K72.iV) (ao (af 0) (ao (af 1) (ao (g2 cg (af 7) (bz (az (bz (az (af 8) (az (af 9) aQ))) aQ))) aD)))))) (gK 6 (g2 cg (af 7) (bz (az (bz (az (af 8) (az (af 9) aQ))) aQ)))) cS)))))
 (aI (fJ 6 (aZ 4 (af 6)))
 (v7 3 (af 6))))))
 (bq (af 3)))))
def h_ (as:List S):M R:=fin (nJ (aY nv as))
def p_:List Str:=["_law_found","_law_pairs","_law_one","_law_other","_law_below","_law_point"]
noncomputable def qx:G O:=(aI (bK (ju (gg (br (By "tuple" (af 0)))) (ju (br (g2 (cj true) (gN e_ (ao (af 0) aD)) (g2 aX (af 2) (gC (.int 0))))) (br (g2 (cj true) (g2 aX (af 2) (gC (.int 0))) (g2 aX (af 3) (gC (.int 0))))))) (bq (gC (.bl false))) cS)
 (aI (b_ (fm (af 0)) (aC 5) (bK (ju (gg (br (By "int" (af 5)))) (br (By "bool" (af 5)))) (bq (gC (.bl false))) cS))
 (aI (bK (br (g2 (cj true) (gN jX (ao (af 0) aD)) (uQ (ao (g2 aX (af 3) (gC (.int 0))) aD)))) (bq (gC (.bl false))) cS)
 (bq (gN tP (ao (bZ 1 [1,0,4] (b9 (ao (g2 aX (af 2) (gC (.int 0))) aD)) (aC 0) dY (g2 (fk false) (gN (aS 2 K72.kG) (ao (af 1) (ao (bz (az (af 0) (az (g2 aX (af 2) (af 0)) aQ))) aD))) (af 3))) aD))))))
def gP (as:List S):M R:=fin (qx (aY p_ as))
noncomputable def O4:List Str:=["_law_script","_law_cell","_law_large","_law_one","_law_other","_law_depth","_law_told","_law_some","_law_start","_law_pairs","_law_found"]
noncomputable def LV:G O:=(aI (aZ 1 (gN (aS 2 K72.gq) (ao (af 0) (ao (gC (.int 0)) aD))))
 (aI (aZ 2 (g2 (cj false) (g2 dB (af 1) (gC (.int 8))) (gC (.int 1))))
 (aI (tV (dF 2 (bx (aC 3) (bx (aC 4) dM))) (gN (aS 2 K72.jV) (ao (gN (aS 2 K72.gq) (ao (af 0) (ao (gC (.int 1)) aD))) (ao (g2 aX (dJ (az (dJ (az (gC (.int 1)) (az (gC (.int 2)) (az (gC (.int 3)) (az (gC (.int 3)) (az (gC (.int 2)) aQ)))))) (az (dJ (az (gC (.int 4)) (az (gC (.int 3)) (az (gC (.int 4)) (az (gC (.int 2)) (az (gC (.int 1)) aQ)))))) aQ))) (gN vZ (ao (af 2) aD))) aD))))
 (aI (aZ 5 (g2 cg (gC (.int 1)) (g2 dB (g2 gf (af 1) (gC (.int 8))) (g2 oN (gC (.int 6)) (g2 gy (gC (.int 4)) (gN vZ (ao (af 2) aD)))))))
 (aI (aZ 6 (gN (aS 3 K72.gM) (ao (af 3) (ao (af 4) (ao (af 5) aD)))))
 (aI (aZ 7 (gN (aS 3 K72.h_) (ao (af 3) (ao (af 4) (ao (gC (.int 4)) aD)))))
 (aI (aZ 8 (g2 dB (g2 gf (af 1) (gC (.int 200))) (gN e_ (ao (af 7) aD))))
 (aI (aZ 7 (g2 cg (kF oJ (af 7) (mJ (af 8)) pN) (kF oJ (af 7) pN (mJ (af 8)))))
 (aI (b_ (fm (g2 cg (dJ (az (bz aQ) aQ)) (kF oJ (af 7) pN (mJ (g2 oN (gC (.int 4)) (g2 gy (gC (.int 2)) (gN vZ (ao (af 2) aD)))))))) (aC 9) (aI (aZ 10 (gN (aS 4 K72.gQ) (ao (af 3) (ao (af 4) (ao (af 5) (ao (af 9) aD))))))
 (aI (bK (jq (br (g2 (cj false) (af 9) (bz aQ))) (br (g2 (cj false) (g2 dB (g2 gf (af 1) (gC (.int 7000))) (gC (.int 2))) (gC (.int 1))))) (aZ 10 (gN (aS 4 K72.gQ) (ao (af 3) (ao (af 4) (ao (af 5) (ao (gC .non) aD)))))) cS)
 (bK (br (g2 (fk true) (af 9) (g2 aX (af 6) (af 5)))) (bK (br (g2 (iI true) (af 10) (gC .non))) (bq (gC (.bl false))) cS) (bK (gg (br (gN (aS 5 K72.gP) (ao (af 10) (ao (af 9) (ao (af 3) (ao (af 4) (ao (g2 aX (af 6) (g2 oN (af 5) (gC (.int 1)))) aD)))))))) (bq (gC (.bl false))) cS)))))
 (bq (gC (.bl true))))))))))))
def vK (as:List S):M R:=fin (LV (aY O4 as))
end K72
namespace K72
open PySem PySem.Spec PyProof.Rows L2 DL DX
structure dz (w:TL) (K:SG) (mg:Str->Option SI):Prop where
 abs:mg "abs"=none
 all:mg "all"=none
 bool:mg "bool"=none
 enumerate:mg "enumerate"=none
 int:mg "int"=none
 isinstance:mg "isinstance"=none
 len:mg "len"=none
 list:mg "list"=none
 max:mg "max"=none
 range:mg "range"=none
 set:mg "set"=none
 sorted:mg "sorted"=none
 tuple:mg "tuple"=none
 MOST_DEPTH:Ci K mg "MOST_DEPTH" (.int 6)
 MOST_SMALL:Ci K mg "MOST_SMALL" (.int 4)
 fv_mapped_still:F7 K mg "mapped_still"
section
variable {P:S_}{w:TL}{K:SG}{mg:Str->Option SI}{base:Uz}{f:Tg}{fd:TM}
abbrev xV:V0:=top 6
theorem AR (m:dz w K mg) (e:FB K mg "is_whole" xV):bw P w K mg base 1 1 "is_whole" K01.p5:=
 qc K01.xu K01.wQ 1 e (λnd _ cdv A outer s H E J T hr=>
 (aA (aN (BW (jA BF w_ m.int (aa 0) m.isinstance) (ua (KJ (jA zZ uz m.bool (aa 0) m.isinstance)))))))
abbrev vD:V0:=top 7
theorem zA (m:dz w K mg) (e:FB K mg "tongue_of" vD):bw P w K mg base 1 1 "tongue_of" K23.jh:=
 qc K23.uV K23.uv 1 e (λnd _ cdv A outer s H E J T hr=>
 (av (t_ (aa 0) (cQ (aW (aE 1 nd) (aW (aE 2 nd) (aW (aE 3 nd) cC)))))
 (aA (aN (a_ (ay (cU (ak (cA ["name","points"] [] (ff (aa 2)) (λ_ _ _ _ _ hc=>⟨(cQ (aW (aE 0 (cP rfl)) (aW (aE 1 (cP rfl)) cC))),bT,(aa 0)⟩)) au) m.tuple) (ay (cU (ak (cA ["name","pairs"] [] (ff (aa 3)) (λ_ _ _ _ _ hc=>⟨(cQ (aW (aE 0 (cP rfl)) (aW (aE 1 (cP rfl)) cC))),bT,(aa 0)⟩)) au) m.tuple) aJ)))))))
abbrev qY:V0:=top 8
theorem vV (m:dz w K mg) (htongue_of:bw P w K mg base 1 1 "tongue_of" K23.jh) (e:FB K mg "need_tongue" qY):bw P w K mg base 2 2 "need_tongue" K23.jg:=
 qc K23.qC K23.qf 2 e (λnd _ cdv A outer s H E J T hr=>
 (aA (bJ (kg hr.units (aT htongue_of hr (ak (aa 0) au)) (aT htongue_of hr (ak (aa 1) au))) (aA o9) bB)))
abbrev lT:V0:=top 11
theorem qo (m:dz w K mg) (e:FB K mg "need_few_points" lT):bw P w K mg base 1 1 "need_few_points" K23.f7:=
 qc K23.lM K23.lF 1 e (λnd _ cdv A outer s H E J T hr=>
 (aA (bI (cJ (aa 0)) (aE 1 nd) (aA (bJ (rR Df (kI λ_ _ _=>.bl _) (aG (aa 1) aq) (i_ m.MOST_SMALL)) (aA o9) bB)))))
abbrev sZ:V0:=top 12
theorem yl (m:dz w K mg) (hneed_tongue:bw P w K mg base 2 2 "need_tongue" K23.jg) (hneed_few_points:bw P w K mg base 1 1 "need_few_points" K23.f7) (e:FB K mg "need_small" sZ):bw P w K mg base 3 2 "need_small" K23.eS:=
 qc K23.sP K23.sy 2 e (λnd _ cdv A outer s H E J T hr=>
 (av (f6 (aT hneed_tongue hr (ak (aa 0) (ak (aa 1) au))))
 (aA (f6 (aT hneed_few_points hr (ak (a_ (ay (aa 0) (ay (aa 1) aJ))) au))))))
abbrev sY:V0:=top 13
theorem yk (m:dz w K mg) (his_whole:bw P w K mg base 1 1 "is_whole" K01.p5) (e:FB K mg "need_count" sY):bw P w K mg base 2 3 "need_count" K55.dh:=
 qc K55.sO K55.su 3 e (λnd _ cdv A outer s H E J T hr=>
 (aA (bJ (ig (lP (i9 (dO (aT his_whole hr (ak (aa 0) au)))) (lP (rR II (kI λ_ _ _=>.bl _) (aa 0) (aa 1)) (nU (rR Df (kI λ_ _ _=>.bl _) (aa 0) (aa 2)))))) (aA o9) bB)))
abbrev B4:V0:=top 15
theorem Ef (m:dz w K mg) (e:FB K mg "rising" B4):bw P w K mg base 1 1 "rising" K23.fO:=
 qc K23.BB K23.A6 1 e (λnd _ cdv A outer s H E J T hr=>
 (av (bJ (Fp (aa 0) ir) (aA (aN (a_ aJ))) bB)
 (aA (aN (cU (ak (Fw hr.units (ak (aa 0) au) m.sorted m.set) au) m.tuple)))))
abbrev IX:V0:=top 16
theorem Jo (m:dz w K mg) (e:FB K mg "view" IX):bw P w K mg base 1 3 "view" K23.yv:=
 qc K23.IA K23.Ih 3 e (λnd _ cdv A outer s H E J T hr=>
 (av (t_ (aa 0) (cQ (aW (aE 3 nd) (aW (aE 4 nd) (aW (aE 5 nd) cC)))))
 (av (aM 6 nd (cU (ak (cA ["name","points"] [1] (ff (aa 4)) (λ_ _ _ _ _ hc=>⟨(cQ (aW (aE 0 (cP rfl)) (aW (aE 1 (cP rfl)) cC))),bT,(lQ hr.units (aa 2) (aa 1))⟩)) au) m.tuple))
 (av (aM 7 nd (cU (ak (cA ["name","pairs"] [1,2] (ff (aa 5)) (λ_ _ _ _ _ hc=>⟨(cQ (aW (aE 0 (cP rfl)) (aW (aE 1 (cP rfl)) cC))),bT,(lQ hr.units (a_ (ay (aa 2) (ay (aa 3) aJ))) (aa 1))⟩)) au) m.tuple))
 (aA (aN (a_ (ay (qO hr.units (aa 1) (aa 2)) (ay (aa 6) (ay (aa 7) aJ))))))))))
abbrev FQ:V0:=top 17
theorem Gg (m:dz w K mg) (Q9:bw P w K mg base 1 3 "view" K23.yv) (e:FB K mg "views" FQ):bw P w K mg base 2 1 "views" K23.p6:=
 qc K23.EE K23.DR 1 e (λnd _ cdv A outer s H E J T hr=>
 (aA (aN (Dq hr.units ["one","other"] [0] (gY (bC (ak (aG (aa 0) aq) au) m.range)) (λ_ _ _ _ _ hc=>⟨(aE 0 (cP rfl)),bT,(bC (ak (aG (aa 2) aq) au) m.range),(aE 1 (cP rfl)),bT,(a_ (ay (aa 0) (ay (aa 1) aJ))),(aT Q9 hr (ak (aa 2) (ak (aa 0) (ak (aa 1) au))))⟩)))))
abbrev FH:V0:=top 18
theorem Ge (m:dz w K mg) (e:FB K mg "agree" FH):bw P w K mg base 1 4 "agree" K23.fE:=
 qc K23.EC K23.DQ 4 e (λnd _ cdv A outer s H E J T hr=>
 (aA (aN (qO hr.units (jS hr.units (aa 0) (a_ (ay (aG (aa 2) aq) (ay (aG (aa 3) aq) aJ)))) (jS hr.units (aa 1) (a_ (ay (aG (aa 2) aq) (ay (aG (aa 3) aq) aJ))))))))
abbrev qV:V0:=top 19
theorem vU (m:dz w K mg) (Qq:bw P w K mg base 1 4 "agree" K23.fE) (e:FB K mg "goes_behind" qV):bw P w K mg base 2 4 "goes_behind" K23.jf:=
 qc K23.qB K23.qd 4 e (λnd _ cdv A outer s H E J T hr=>
 (av (bJ (ig (rQ (wH (aa 2)) (o8 (KA hr.units (aa 3) (aG (aa 2) (BY aq)))))) (aA (aN eH)) bB)
 (av (bI (cJ (aa 2)) (aE 4 nd) (aA (bJ (ig (lP (i9 (dO (aT Qq hr (ak (aa 0) (ak (aa 1) (ak (aa 3) (ak (aa 4) au))))))) (nU (i9 (dO (aT Qq hr (ak (aa 0) (ak (aa 1) (ak (aa 4) (ak (aa 3) au)))))))))) (aA (aN eH)) bB)))
 (aA (aN eH)))))
abbrev xX:V0:=top 20
theorem AV (m:dz w K mg) (hneed_small:bw P w K mg base 3 2 "need_small" K23.eS) (hneed_count:bw P w K mg base 2 3 "need_count" K55.dh) (QF:bw P w K mg base 2 1 "views" K23.p6) (Qq:bw P w K mg base 1 4 "agree" K23.fE) (hgoes_behind:bw P w K mg base 2 4 "goes_behind" K23.jf) (e:FB K mg "pairings" xX):bw P w K mg base 4 3 "pairings" K23.lZ:=
 qc K23.xw K23.wR 3 e (λnd _ cdv A outer s H E J T hr=>
 (av (f6 (aT hneed_small hr (ak (aa 0) (ak (aa 1) au))))
 (av (f6 (aT hneed_count hr (ak (aa 2) (ak aq (ak (i_ m.MOST_SMALL) au)))))
 (av (aM 3 nd (aT QF hr (ak (aa 0) au)))
 (av (aM 4 nd (aT QF hr (ak (aa 1) au)))
 (av (aM 5 nd (Dr ["a","b"] [1,3,4] (gY (bC (ak (aG (aa 0) aq) au) m.range)) (λ_ _ _ _ _ hc=>⟨(aE 0 (cP rfl)),bT,(bC (ak (aG (aa 2) aq) au) m.range),(aE 1 (cP rfl)),(g9 (dO (aT Qq hr (ak (aa 3) (ak (aa 4) (ak (a_ (ay (aa 0) (ay (aa 1) aJ))) (ak (a_ (ay (aa 0) (ay (aa 1) aJ))) au))))))),(a_ (ay (aa 0) (ay (aa 1) aJ)))⟩)))
 (av (gZ 5 (aM 6 nd (bW (ay (a_ aJ) aJ))))
 (av (aM 7 nd (bW (ay (a_ aJ) aJ)))
 (av (bI (bC (ak (aa 2) au) m.range) (aE 8 nd) (av (gZ 5 (Dm 6 ["ahead","pair"] [5,3,4] nd (ff (aa 6)) (λ_ _ _ _ _ hc=>⟨(aE 0 (cP rfl)),bT,(cJ (aa 2)),(aE 1 (cP rfl)),(g9 (dO (aT hgoes_behind hr (ak (aa 3) (ak (aa 4) (ak (aa 0) (ak (aa 1) au))))))),(cF (aa 0) (a_ (ay (aa 1) aJ)))⟩)))
 (aA (sR 7 (aa 6)))))
 (aA (aN (aa 7))))))))))))
abbrev FG:V0:=top 23
theorem Gd (m:dz w K mg) (Qt:bw P w K mg base 1 1 "rising" K23.fO) (e:FB K mg "added" FG):bw P w K mg base 2 2 "added" K33.ug:=
 qc K33.EB K33.DP 2 e (λnd _ cdv A outer s H E J T hr=>
 (aA (aN (aT Qt hr (ak (cF (aa 0) (a_ (ay (aa 1) aJ))) au)))))
abbrev ni:V0:=top 30
theorem Aq:gF ["choices","ahead","point","found"] ["choices","ahead"] (bA ni):=⟨rfl,rfl,rfl,by decide +kernel,rfl,by decide +kernel,by decide +kernel⟩
theorem pL (m:dz w K mg) (F:l_ K "map_behind" "map_behind" ni f fd) (hm:mg "map_behind"=some (.ref f)):∀fu:Nat,bw P w K mg base (0 + fu) 2 "map_behind" (K72.dg fu)
 | 0=>Jm (ps:=["choices","ahead"]) F hm (λ_ _ _ _ _ _ us hl=>match us,hl with | [_,_],_=>rfl) (λ_=>rfl)
 | fu + 1=>
  have sc:=Aq
  have hself:=pL m F hm fu
  BU (k:=0 + fu) (gB:=K72.sN (K72.dg fu)) F hm sc (λ_ _ _ _ _ _ us hl=>match us,hl with | [_,_],_=>rfl) (λcdv A outer s H E J T hr=>
 (av (bJ (fV hr.units (fB (ak (aa 1) au) m.len) (fB (ak (aa 0) au) m.len)) (aA (aN (aa 1))) bB)
 (av (bI (cJ (aG (aa 0) (fB (ak (aa 1) au) m.len))) (aE 2 sc.nd) (aA (bJ (xH hr.units (aa 2) (aa 1)) (av (aM 3 sc.nd (aT hself hr (ak (aa 0) (ak (cF (aa 1) (a_ (ay (aa 2) aJ))) au)) (by omega)))
 (aA (bJ (xG (aa 3) ir) (aA (aN (aa 3))) bB))) bB)))
 (aA (aN ir))))) (λas r _ h=>h)
abbrev xU:V0:=top 26
theorem AQ (m:dz w K mg) (e:FB K mg "in_layer" xU):bw P w K mg base 1 3 "in_layer" K33.iW:=
 qc K33.xr K33.qe 3 e (λnd _ cdv A outer s H E J T hr=>
 (aA (aN (BW (KH hr.units (aa 1) (aa 0)) (ua (Nc (Nb (jS hr.units (aa 0) (aa 1)) ir) (ua (Na (jS hr.units (aa 0) (aa 1)) (aa 2)))))))))
abbrev sX:V0:=top 31
theorem yh (m:dz w K mg) (hin_layer:bw P w K mg base 1 3 "in_layer" K33.iW) (e:FB K mg "choices_in" sX):bw P w K mg base 2 3 "choices_in" K72.gE:=
 qc K72.sM K72.sf 3 e (λnd _ cdv A outer s H E J T hr=>
 (aA (aN (cA ["row"] [1,2] (ff (aa 0)) (λ_ _ _ _ _ hc=>⟨(aE 0 (cP rfl)),bT,(cA ["b","pairing"] [1,2] (Fx (ak (aa 0) au) m.enumerate) (λ_ _ _ _ _ hc=>⟨(cQ (aW (aE 0 (cP rfl)) (aW (aE 1 (cP rfl)) cC))),(g9 (dO (aT hin_layer hr (ak (aa 2) (ak (aa 1) (ak (aa 3) au)))))),(aa 0)⟩) (hcl:=rE hc rfl))⟩)))))
abbrev pY:V0:=top 32
theorem uE (m:dz w K mg) (hchoices_in:bw P w K mg base 2 3 "choices_in" K72.gE) (hmap_behind:bw P w K mg base 6 2 "map_behind" (K72.dg 6)) (e:FB K mg "mapped_still" pY):bw P w K mg base 7 2 "mapped_still" K72.eE:=
 qc K72.pQ K72.pK 2 e (λnd _ cdv A outer s H E J T hr=>
 (aA (aN (Ft (aT hmap_behind hr (ak (aT hchoices_in hr (ak (aa 0) (ak (aa 1) (ak (i_ m.MOST_DEPTH) au)))) (ak (a_ aJ) au))) ir))))
abbrev B3:V0:=top 24
theorem Ed (m:dz w K mg) (hmapped_still:bw P w K mg base 7 2 "mapped_still" K72.eE) (e:FB K mg "peeled" B3):bw P w K mg base 8 2 "peeled" K72.nu:=
 qc K72.BA K72.nC 2 e (λnd _ cdv A outer s H E J T hr=>
 (av (aM 2 nd (Dp hr.units ["pairing"] [] (o_ (aa 0)) (λ_ _ _ _ _ hc=>⟨(aE 0 (cP rfl)),bT,(aa 0),ir⟩)))
 (av (aM 3 nd aq)
 (av (xJ 4 ["pairing"] [1,0,2] nd (o_ (aa 0)) (λ_ _ _ _ _ hc=>⟨(aE 0 (cP rfl)),(g9 (i9 (dO (Aj 1 hmapped_still m.fv_mapped_still hr (ak (jS hr.units (aa 2) (aa 0)) (ak (aa 3) au)) BX)))),(aa 0)⟩))
 (av (Dn 400000 (wH (aa 4)) (av (gZ 4 (bI (cJ (aa 4)) (aE 5 nd) (aA (Hl 2 hr.units (aa 3) (aa 5)))))
 (av (Fq 3 nd aq)
 (aA (xJ 4 ["pairing"] [2,1,0] nd (o_ (aa 0)) (λ_ _ _ _ _ hc=>⟨(aE 0 (cP rfl)),(g9 (ig (rQ (Fp (jS hr.units (aa 1) (aa 0)) ir) (o8 (i9 (dO (Aj 2 hmapped_still m.fv_mapped_still hr (ak (jS hr.units (aa 3) (aa 0)) (ak (aa 1) au)) BX))))))),(aa 0)⟩))))))
 (aA (aN (aa 2))))))))
abbrev n8:V0:=top 25
theorem tG (m:dz w K mg) (Qz:bw P w K mg base 4 3 "pairings" K23.lZ) (e:FB K mg "pairings_with" n8):bw P w K mg base 5 3 "pairings_with" K33.ia:=
 qc K33.nK K33.ny 3 e (λnd _ cdv A outer s H E J T hr=>
 (aA (aN (cA ["pairing"] [2] (ff (aT Qz hr (ak (aa 0) (ak (aa 1) (ak (i_ m.MOST_SMALL) au))))) (λ_ _ _ _ _ hc=>⟨(aE 0 (cP rfl)),(g9 (dO (BV (ak (cA ["pair"] [0] (ff (aa 1)) (λ_ _ _ _ _ hc=>⟨(aE 0 (cP rfl)),bT,(lQ hr.units (aa 0) (aa 1))⟩) (hcl:=rE hc rfl)) au) m.all))),(aa 0)⟩)))))
abbrev vz:V0:=top 27
theorem zy (m:dz w K mg) (hin_layer:bw P w K mg base 1 3 "in_layer" K33.iW) (e:FB K mg "layers_of" vz):bw P w K mg base 2 2 "layers_of" K33.kH:=
 qc K33.uU K33.uu 2 e (λnd _ cdv A outer s H E J T hr=>
 (aA (aN (cA ["step"] [0] (gY (bC (ak (g8 (aa 1) aq) au) m.range)) (λ_ _ _ _ _ hc=>⟨(aE 0 (cP rfl)),bT,(cA ["pairing"] [1,0] (o_ (aa 1)) (λ_ _ _ _ _ hc=>⟨(aE 0 (cP rfl)),(g9 (dO (aT hin_layer hr (ak (aa 1) (ak (aa 0) (ak (aa 2) au)))))),(aa 0)⟩) (hcl:=rE hc rfl))⟩)))))
abbrev Au:V0:=top 29
theorem CA (m:dz w K mg) (QM:bw P w K mg base 2 2 "added" K33.ug) (e:FB K mg "grid_of" Au):bw P w K mg base 3 3 "grid_of" K72.jG:=
 qc K72.zP K72.yZ 3 e (λnd _ cdv A outer s H E J T hr=>
 (av (bJ (kg hr.units (aG (aa 0) aq) (aG (aa 1) aq)) (aA (aN (cA ["a"] [] (gY (bC (ak (aG (aa 0) aq) au) m.range)) (λ_ _ _ _ _ hc=>⟨(aE 0 (cP rfl)),bT,(bW aJ)⟩)))) bB)
 (aA (aN (cA ["a"] [1,2] (gY (bC (ak (aG (aa 0) aq) au) m.range)) (λ_ _ _ _ _ hc=>⟨(aE 0 (cP rfl)),bT,(cA ["b"] [2,0] (gY (bC (ak (aG (aa 1) aq) au) m.range)) (λ_ _ _ _ _ hc=>⟨(aE 0 (cP rfl)),bT,(aT QM hr (ak (aa 1) (ak (a_ (ay (aa 2) (ay (aa 0) aJ))) au)))⟩) (hcl:=rE hc rfl))⟩))))))
abbrev mU:V0:=top 33
theorem rW (m:dz w K mg) (hpairings_with:bw P w K mg base 5 3 "pairings_with" K33.ia) (hgrid_of:bw P w K mg base 3 3 "grid_of" K72.jG) (QJ:bw P w K mg base 8 2 "peeled" K72.nu) (e:FB K mg "counted_depths" mU):bw P w K mg base 9 3 "counted_depths" K72.d8:=
 qc K72.mK K72.mj 3 e (λnd _ cdv A outer s H E J T hr=>
 (av (Dl 3 hr.units ["pairing"] [0,1] nd (ff (aT hpairings_with hr (ak (aa 0) (ak (aa 1) (ak (aa 2) au))))) (λ_ _ _ _ _ hc=>⟨(aE 0 (cP rfl)),bT,(aa 0),(aT hgrid_of hr (ak (aa 1) (ak (aa 2) (ak (aa 0) au))))⟩))
 (aA (aN (Ho QJ m.fv_mapped_still hr (aa 3))))))
abbrev mV:V0:=top 34
theorem rX (m:dz w K mg) (hneed_small:bw P w K mg base 3 2 "need_small" K23.eS) (hneed_count:bw P w K mg base 2 3 "need_count" K55.dh) (hcounted_depths:bw P w K mg base 9 3 "counted_depths" K72.d8) (hlayers_of:bw P w K mg base 2 2 "layers_of" K33.kH) (e:FB K mg "counted_layers" mV):bw P w K mg base 10 3 "counted_layers" K72.gM:=
 qc K72.mL K72.mq 3 e (λnd _ cdv A outer s H E J T hr=>
 (av (f6 (aT hneed_small hr (ak (aa 0) (ak (aa 1) au))))
 (av (f6 (aT hneed_count hr (ak (aa 2) (ak aq (ak (i_ m.MOST_DEPTH) au)))))
 (aA (aN (aT hlayers_of hr (ak (aT hcounted_depths hr (ak (aa 0) (ak (aa 1) (ak (a_ aJ) au)))) (ak (aa 2) au))))))))
abbrev qU:V0:=top 35
theorem vS (m:dz w K mg) (hneed_small:bw P w K mg base 3 2 "need_small" K23.eS) (hneed_count:bw P w K mg base 2 3 "need_count" K55.dh) (Qt:bw P w K mg base 1 1 "rising" K23.fO) (hcounted_depths:bw P w K mg base 9 3 "counted_depths" K72.d8) (hgrid_of:bw P w K mg base 3 3 "grid_of" K72.jG) (hchoices_in:bw P w K mg base 2 3 "choices_in" K72.gE) (hmap_behind:bw P w K mg base 6 2 "map_behind" (K72.dg 6)) (e:FB K mg "counted_map" qU):bw P w K mg base 10 4 "counted_map" K72.gQ:=
 qc K72.qA K72.qb 4 e (λnd _ cdv A outer s H E J T hr=>
 (av (f6 (aT hneed_small hr (ak (aa 0) (ak (aa 1) au))))
 (av (f6 (aT hneed_count hr (ak (aa 2) (ak aq (ak (i_ m.MOST_DEPTH) au)))))
 (av (aM 4 nd (aT Qt hr (ak (aa 3) au)))
 (av (aM 5 nd (aT hcounted_depths hr (ak (aa 0) (ak (aa 1) (ak (aa 4) au)))))
 (aA (aN (aT hmap_behind hr (ak (aT hchoices_in hr (ak (aT hgrid_of hr (ak (aa 0) (ak (aa 1) (ak (aa 4) au)))) (ak (aa 5) (ak (lq (aa 2) aq) au)))) (ak (a_ aJ) au))))))))))
abbrev pW:V0:=top 37
theorem uB (m:dz w K mg) (e:FB K mg "_law_cell_at" pW):bw P w K mg base 1 2 "_law_cell_at" K72.gq:=
 qc K72.pO K72.pI 2 e (λnd _ cdv A outer s H E J T hr=>
 (av (bJ (rR II (kI λ_ _ _=>.bl _) (aa 1) (fB (ak (aa 0) au) m.len)) (aA (aN (aG (aa 0) (aa 1)))) bB)
 (aA (aN aq))))
abbrev vp:V0:=top 38
theorem zk (m:dz w K mg) (e:FB K mg "_law_more" vp):bw P w K mg base 1 2 "_law_more" K72.je:=
 qc K72.uS K72.uq 2 e (λnd _ cdv A outer s H E J T hr=>
 (av (aM 2 nd (bW aJ))
 (av (aM 3 nd (KG (ak (jR (aa 0) aq) au) m.abs))
 (av (bJ (fV hr.units (bX (aa 0) aq) aq) (av (bI (bC (ak (aa 1) au) m.range) (aE 4 nd) (av (dw 2 (bX (aa 3) (jb aq aq)))
 (aA (aM 3 nd (jR (aa 3) (jb aq aq))))))
 (aA (aN (aa 2)))) bB)
 (av (aM 3 nd (g8 (bX (aa 3) (jb aq aq)) aq))
 (av (bI (bC (ak (aa 1) au) m.range) (aE 4 nd) (av (aM 3 nd (bX (g8 (g8 (eU (aa 3) aq) (jR (aa 3) (jb aq aq))) (eU aq (aa 4))) (g8 (jb aq aq) aq)))
 (aA (dw 2 (jR (eU (aa 3) (g8 (jR (aa 3) (jb aq aq)) aq)) (jb aq aq))))))
 (aA (aN (aa 2)))))))))
abbrev sU:V0:=top 39
theorem ye (m:dz w K mg) (e:FB K mg "_law_freed" sU):bw P w K mg base 1 2 "_law_freed" K72.iH:=
 qc K72.sI K72.r6 2 e (λnd _ cdv A outer s H E J T hr=>
 (av (bJ (M_ hr.units (aa 0) (bW (ay fC (ay fC (ay fC (ay fC (ay fC (ay fC (ay fC (ay fC aJ)))))))))) (av (bJ (wH (aa 1)) (aA (aN (cF fC (nW (aa 0) (eX aq) eV)))) bB)
 (aA (aN (cF (aa 0) fC)))) bB)
 (aA (aN (aa 0)))))
abbrev sV:V0:=top 40
theorem yf (m:dz w K mg) (h_law_freed:bw P w K mg base 1 2 "_law_freed" K72.iH) (e:FB K mg "_law_names" sV):bw P w K mg base 2 2 "_law_names" K72.gD:=
 qc K72.sJ K72.r_ 2 e (λnd _ cdv A outer s H E J T hr=>
 (av (aM 2 nd fC)
 (av (aM 3 nd fC)
 (av (bI (bC (ak aq au) m.range) (aE 4 nd) (av (aM 3 nd (cF (aa 3) (aG (aa 2) (bX (aa 0) aq))))
 (aA (aM 0 nd (dQ (aa 0) aq)))))
 (av (bJ (fV hr.units (bX (aa 0) aq) aq) (aA (aN (vj (ak (cA ["_law_k"] [3] (gY (bC (ak (aa 1) au) m.range)) (λ_ _ _ _ _ hc=>⟨(aE 0 (cP rfl)),bT,(aT h_law_freed hr (ak (nW (aa 1) eV (eX (cF aq (aa 0)))) (ak eH au)))⟩)) au) m.sorted))) bB)
 (av (aM 3 nd (nW (aa 3) eV (eX (cF aq (bX (dQ (aa 0) aq) aq)))))
 (av (aM 5 nd (bX (dQ (aa 0) aq) (fB (ak (aa 3) au) m.len)))
 (av (aM 6 nd (bW aJ))
 (av (bI (bC (ak (aa 1) au) m.range) (aE 4 nd) (av (aM 7 nd (aG (aa 2) (bX (cF (Hq (aa 2) (aG (aa 3) (aa 5))) (eU aq (aa 4))) aq)))
 (aA (dw 6 (aT h_law_freed hr (ak (cF (cF (nW (aa 3) eV (eX (aa 5))) (aa 7)) (nW (aa 3) (eX (cF (aa 5) aq)) eV)) (ak eH au)))))))
 (aA (aN (vj (ak (aa 6) au) m.sorted))))))))))))
abbrev sW:V0:=top 41
theorem yg (m:dz w K mg) (e:FB K mg "_law_world" sW):bw P w K mg base 1 4 "_law_world" K72.dR:=
 qc K72.sL K72.se 4 e (λnd _ cdv A outer s H E J T hr=>
 (av (aM 4 nd (bW aJ))
 (av (bI (cJ (aa 1)) (aE 5 nd) (av (aM 6 nd (bW aJ))
 (av (bI (bC (ak (aa 0) au) m.range) (aE 7 nd) (av (bJ (fV hr.units (bX (aa 3) aq) aq) (aA (dw 6 (aa 7))) bB)
 (aA (aM 3 nd (dQ (aa 3) aq)))))
 (aA (dw 4 (a_ (ay (aa 5) (ay (cU (ak (aa 6) au) m.tuple) aJ))))))))
 (av (aM 8 nd (bW aJ))
 (av (bI (cJ (aa 2)) (aE 5 nd) (av (aM 9 nd (bW aJ))
 (av (bI (bC (ak (aa 0) au) m.range) (aE 10 nd) (aA (bI (bC (ak (aa 0) au) m.range) (aE 11 nd) (av (bJ (fV hr.units (bX (aa 3) aq) aq) (aA (dw 9 (a_ (ay (aa 10) (ay (aa 11) aJ))))) bB)
 (aA (aM 3 nd (dQ (aa 3) aq)))))))
 (aA (dw 8 (a_ (ay (aa 5) (ay (cU (ak (aa 9) au) m.tuple) aJ))))))))
 (aA (aN (a_ (ay (aa 0) (ay (cU (ak (aa 4) au) m.tuple) (ay (cU (ak (aa 8) au) m.tuple) aJ)))))))))))
abbrev pX:V0:=top 42
theorem uC (m:dz w K mg) (e:FB K mg "_law_flipped" pX):bw P w K mg base 1 2 "_law_flipped" K72.gr:=
 qc K72.pP K72.pJ 2 e (λnd _ cdv A outer s H E J T hr=>
 (av (aM 2 nd aq)
 (av (bI (bC (ak (aa 1) au) m.range) (aE 3 nd) (aA (aM 2 nd (eU (aa 2) aq))))
 (av (bJ (fV hr.units (bX (jR (aa 0) (aa 2)) aq) aq) (aA (aN (lq (aa 0) (aa 2)))) bB)
 (aA (aN (g8 (aa 0) (aa 2))))))))
abbrev qT:V0:=top 43
theorem vR (m:dz w K mg) (e:FB K mg "_law_turned" qT):bw P w K mg base 1 2 "_law_turned" K72.eZ:=
 qc K72.qy K72.qa 2 e (λnd _ cdv A outer s H E J T hr=>
 (av (aM 2 nd (vh (ak (aG (aa 0) aq) au) m.range m.list))
 (av (aM 3 nd (bW aJ))
 (av (bI (bC (ak (aG (aa 0) aq) au) m.range) (aE 4 nd) (av (AW 3 2 (bX (aa 1) (fB (ak (aa 2) au) m.len)))
 (aA (aM 1 nd (dQ (aa 1) aq)))))
 (av (aM 5 nd (bW aJ))
 (av (bI (cJ (aG (aa 0) aq)) (cQ (aW (aE 6 nd) (aW (aE 7 nd) cC))) (aA (dw 5 (a_ (ay (aa 6) (ay (cU (ak (qP hr.units (ak (cA ["_law_point"] [3] (ff (aa 7)) (λ_ _ _ _ _ hc=>⟨(aE 0 (cP rfl)),bT,(aG (aa 1) (aa 0))⟩)) au) m.sorted) au) m.tuple) aJ))))))
 (av (aM 8 nd (bW aJ))
 (av (bI (cJ (aG (aa 0) aq)) (cQ (aW (aE 6 nd) (aW (aE 9 nd) cC))) (aA (dw 8 (a_ (ay (aa 6) (ay (cU (ak (qP hr.units (ak (cA ["_law_a","_law_b"] [3] (ff (aa 9)) (λ_ _ _ _ _ hc=>⟨(cQ (aW (aE 0 (cP rfl)) (aW (aE 1 (cP rfl)) cC))),bT,(a_ (ay (aG (aa 2) (aa 0)) (ay (aG (aa 2) (aa 1)) aJ)))⟩)) au) m.sorted) au) m.tuple) aJ))))))
 (aA (aN (a_ (ay (aG (aa 0) aq) (ay (cU (ak (aa 5) au) m.tuple) (ay (cU (ak (aa 8) au) m.tuple) aJ))))))))))))))
abbrev xT:V0:=top 44
theorem AO (m:dz w K mg) (h_law_more:bw P w K mg base 1 2 "_law_more" K72.je) (h_law_names:bw P w K mg base 2 2 "_law_names" K72.gD) (h_law_world:bw P w K mg base 1 4 "_law_world" K72.dR) (h_law_turned:bw P w K mg base 1 2 "_law_turned" K72.eZ) (h_law_flipped:bw P w K mg base 1 2 "_law_flipped" K72.gr) (e:FB K mg "_law_two" xT):bw P w K mg base 3 2 "_law_two" K72.jV:=
 qc K72.xq K72.wO 2 e (λnd _ cdv A outer s H E J T hr=>
 (av (aM 2 nd (aT h_law_more hr (ak (aa 0) (ak aq au))))
 (av (aM 3 nd (nV (aT h_law_names hr (ak (aG (aa 2) aq) (ak aq au))) eV (eX (aG (bW (ay aq (ay aq (ay aq (ay aq (ay aq (ay aq aJ))))))) (bX (aG (aa 2) aq) aq)))))
 (av (aM 4 nd (nV (aT h_law_names hr (ak (aG (bW (ay (aG (aa 2) aq) (ay (aG (aa 2) aq) aJ))) (dQ (bX (dQ (aG (aa 2) aq) aq) aq) aq)) (ak aq au))) eV (eX (aG (bW (ay aq (ay aq (ay aq (ay aq (ay aq (ay aq aJ))))))) (bX (dQ (aG (aa 2) aq) aq) aq)))))
 (av (aM 5 nd (aG (aa 1) (bX (dQ (aG (aa 2) aq) aq) (fB (ak (aa 1) au) m.len))))
 (av (aM 6 nd (aG (bW (ay aq (ay (lq (jb aq aq) aq) (ay (aG (aa 2) aq) (ay (aG (aa 2) aq) (ay (aG (aa 2) aq) (ay (aG (aa 2) aq) aJ))))))) (bX (dQ (aG (aa 2) aq) aq) aq)))
 (av (gZ 4 (gZ 3 (aM 7 nd (aT h_law_world hr (ak (aa 5) (ak (aa 3) (ak (aa 4) (ak (aa 6) au))))))))
 (av (aM 8 nd (bX (aG (aa 2) aq) aq))
 (av (bJ (fV hr.units (aa 8) aq) (aA (aN (a_ (ay (aa 7) (ay (aT h_law_turned hr (ak (aa 7) (ak (aG (aa 2) aq) au))) aJ))))) bB)
 (av (bJ (fV hr.units (aa 8) aq) (av (aM 9 nd (KI (ak aq (ak (g8 (eU (aa 5) (fB (ak (aa 3) au) m.len)) (eU (eU (aa 5) (aa 5)) (fB (ak (aa 4) au) m.len))) au)) m.max))
 (av (aM 10 nd (aT h_law_world hr (ak (aa 5) (ak (aa 3) (ak (aa 4) (ak (aT h_law_flipped hr (ak (aa 6) (ak (bX (dQ (aG (aa 2) aq) aq) (aa 9)) au))) au))))))
 (aA (aN (a_ (ay (aa 7) (ay (aT h_law_turned hr (ak (aa 10) (ak (aG (aa 2) aq) au))) aJ))))))) bB)
 (av (aM 5 nd (aG (aa 1) (bX (aG (aa 2) aq) (fB (ak (aa 1) au) m.len))))
 (av (bJ (fV hr.units (aa 8) aq) (aA (aN (a_ (ay (aa 7) (ay (aT h_law_world hr (ak (aa 5) (ak (aa 3) (ak (aa 4) (ak (aa 6) au))))) aJ))))) bB)
 (aA (aN (a_ (ay (aa 7) (ay (aT h_law_world hr (ak (aa 5) (ak (aa 3) (ak (aa 4) (ak (aG (aa 2) aq) au))))) aJ)))))))))))))))))
abbrev An:V0:=top 45
theorem Cz (m:dz w K mg) (e:FB K mg "_law_at" An):bw P w K mg base 1 3 "_law_at" K72.lC:=
 qc K72.zO K72.yY 3 e (λnd _ cdv A outer s H E J T hr=>
 (av (bI (cJ (aa 0)) (cQ (aW (aE 3 nd) (aW (aE 4 nd) cC))) (aA (bJ (fV hr.units (aa 3) (aa 1)) (aA (aN (lQ hr.units (aa 2) (aa 4)))) bB)))
 (aA (aN eH))))
abbrev xS:V0:=top 46
theorem AN (m:dz w K mg) (h_law_at:bw P w K mg base 1 3 "_law_at" K72.lC) (e:FB K mg "_law_fit" xS):bw P w K mg base 2 3 "_law_fit" K72.iV:=
 qc K72.xo K72.wN 3 e (λnd _ cdv A outer s H E J T hr=>
 (av (bI (cJ (aa 2)) (cQ (aW (aE 3 nd) (aW (aE 4 nd) cC))) (av (bI (cJ (aG (aa 0) aq)) (cQ (aW (aE 5 nd) (aW (aE 6 nd) cC))) (aA (bJ (kg hr.units (lQ hr.units (aa 3) (aa 6)) (aT h_law_at hr (ak (aG (aa 1) aq) (ak (aa 5) (ak (aa 4) au))))) (aA (aN eH)) bB)))
 (aA (bI (cJ (aa 2)) (cQ (aW (aE 7 nd) (aW (aE 8 nd) cC))) (av (bJ (kg hr.units (qO hr.units (aa 3) (aa 7)) (qO hr.units (aa 4) (aa 8))) (aA (aN eH)) bB)
 (aA (bI (cJ (aG (aa 0) aq)) (cQ (aW (aE 5 nd) (aW (aE 9 nd) cC))) (aA (bJ (kg hr.units (lQ hr.units (a_ (ay (aa 3) (ay (aa 7) aJ))) (aa 9)) (aT h_law_at hr (ak (aG (aa 1) aq) (ak (aa 5) (ak (a_ (ay (aa 4) (ay (aa 8) aJ))) au))))) (aA (aN eH)) bB)))))))))
 (aA (aN eH))))
abbrev vq:V0:=top 47
theorem zl (m:dz w K mg) (e:FB K mg "_law_with" vq):bw P w K mg base 1 2 "_law_with" K72.kG:=
 qc K72.uT K72.ur 2 e (λnd _ cdv A outer s H E J T hr=>
 (aA (aN (cU (ak (Fv hr.units (ak (cF (Hr (ak (aa 0) au) m.list) (bW (ay (aa 1) aJ))) au) m.sorted m.set) au) m.tuple))))
abbrev n5:V0:=top 48
theorem tF (m:dz w K mg) (h_law_fit:bw P w K mg base 2 3 "_law_fit" K72.iV) (e:FB K mg "_law_pairings" n5):bw P w K mg base 3 3 "_law_pairings" K72.h_:=
 qc K72.nJ K72.nv 3 e (λnd _ cdv A outer s H E J T hr=>
 (av (aM 3 nd (bW (ay (a_ aJ) aJ)))
 (av (gZ 6 (aM 4 nd (bW (ay (a_ aJ) aJ))))
 (av (bI (bC (ak (aa 2) au) m.range) (aE 5 nd) (av (aM 6 nd (bW aJ))
 (av (gZ 4 (bI (cJ (aa 4)) (aE 7 nd) (aA (bI (bC (ak (aG (aa 0) aq) au) m.range) (aE 8 nd) (aA (bI (bC (ak (aG (aa 1) aq) au) m.range) (aE 9 nd) (aA (bJ (ig (rQ (ig (lP (fV hr.units (aa 7) (a_ aJ)) (nU (KC hr.units (aG (aa 7) (BY aq)) (a_ (ay (aa 8) (ay (aa 9) aJ))))))) (o8 (dO (aT h_law_fit hr (ak (aa 0) (ak (aa 1) (ak (cF (aa 7) (a_ (ay (a_ (ay (aa 8) (ay (aa 9) aJ))) aJ))) au)))))))) (aA (dw 6 (cF (aa 7) (a_ (ay (a_ (ay (aa 8) (ay (aa 9) aJ))) aJ))))) bB))))))))
 (av (gZ 6 (aM 4 nd (aa 6)))
 (aA (sR 3 (aa 6)))))))
 (aA (aN (aa 3)))))))
abbrev qS:V0:=top 49
theorem vQ (m:dz w K mg) (h_law_with:bw P w K mg base 1 2 "_law_with" K72.kG) (e:FB K mg "_law_is_map" qS):bw P w K mg base 2 5 "_law_is_map" K72.gP:=
 qc K72.qx K72.p_ 5 e (λnd _ cdv A outer s H E J T hr=>
 (av (bJ (ig (lP (i9 (dO (jA kit_tuple AM m.tuple (aa 0) m.isinstance))) (lP (kg hr.units (fB (ak (aa 0) au) m.len) (aG (aa 2) aq)) (nU (kg hr.units (aG (aa 2) aq) (aG (aa 3) aq)))))) (aA (aN eH)) bB)
 (av (bI (cJ (aa 0)) (aE 5 nd) (aA (bJ (ig (lP (i9 (dO (jA BF w_ m.int (aa 5) m.isinstance))) (nU (dO (jA zZ uz m.bool (aa 5) m.isinstance))))) (aA (aN eH)) bB)))
 (av (bJ (kg hr.units (qP hr.units (ak (aa 0) au) m.sorted) (vh (ak (aG (aa 3) aq) au) m.range m.list)) (aA (aN eH)) bB)
 (aA (aN (BV (ak (cA ["_law_a"] [1,0,4] (gY (bC (ak (aG (aa 2) aq) au) m.range)) (λ_ _ _ _ _ hc=>⟨(aE 0 (cP rfl)),bT,(lQ hr.units (aT h_law_with hr (ak (aa 1) (ak (a_ (ay (aa 0) (ay (aG (aa 2) (aa 0)) aJ))) au))) (aa 3))⟩)) au) m.all)))))))
abbrev pB:V0:=top 50
theorem Ou:gF ["_law_script","_law_cell","_law_large","_law_one","_law_other","_law_depth","_law_told","_law_some","_law_start","_law_pairs","_law_found"] ["_law_script"] (bA pB):=⟨rfl,rfl,rfl,by decide +kernel,rfl,by decide +kernel,by decide +kernel⟩
theorem Ob (m:dz w K mg) (h_law_cell_at:bw P w K mg base 1 2 "_law_cell_at" K72.gq) (h_law_two:bw P w K mg base 3 2 "_law_two" K72.jV) (hcounted_layers:bw P w K mg base 10 3 "counted_layers" K72.gM) (h_law_pairings:bw P w K mg base 3 3 "_law_pairings" K72.h_) (hcounted_map:bw P w K mg base 10 4 "counted_map" K72.gQ) (h_law_is_map:bw P w K mg base 2 5 "_law_is_map" K72.gP) (F:l_ K "law" "law" pB f fd):jH P w K mg base pH 11 f fd ["_law_script"] (qZ K 1 K72.vK):=
 have sc:=Ou
 Kz (k:=10) (gB:=K72.LV) F sc (λcdv A outer s H E J T hr=>
 (av (aM 1 sc.nd (aT h_law_cell_at hr (ak (aa 0) (ak aq au))))
 (av (aM 2 sc.nd (qO hr.units (bX (aa 1) aq) aq))
 (av (t_ (aT h_law_two hr (ak (aT h_law_cell_at hr (ak (aa 0) (ak aq au))) (ak (aG (bW (ay (bW (ay aq (ay aq (ay aq (ay aq (ay aq aJ)))))) (ay (bW (ay aq (ay aq (ay aq (ay aq (ay aq aJ)))))) aJ))) (qQ (ak (aa 2) au) m.int)) au))) (cQ (aW (aE 3 sc.nd) (aW (aE 4 sc.nd) cC))))
 (av (aM 5 sc.nd (cF aq (bX (dQ (aa 1) aq) (lq aq (eU aq (qQ (ak (aa 2) au) m.int))))))
 (av (aM 6 sc.nd (aT hcounted_layers hr (ak (aa 3) (ak (aa 4) (ak (aa 5) au)))))
 (av (aM 7 sc.nd (aT h_law_pairings hr (ak (aa 3) (ak (aa 4) (ak aq au)))))
 (av (aM 8 sc.nd (bX (dQ (aa 1) aq) (fB (ak (aa 7) au) m.len)))
 (av (aM 7 sc.nd (cF (nV (aa 7) (eX (aa 8)) eV) (nV (aa 7) eV (eX (aa 8)))))
 (av (bI (cJ (cF (bW (ay (a_ aJ) aJ)) (nV (aa 7) eV (eX (lq aq (eU aq (qQ (ak (aa 2) au) m.int))))))) (aE 9 sc.nd) (av (aM 10 sc.nd (aT hcounted_map hr (ak (aa 3) (ak (aa 4) (ak (aa 5) (ak (aa 9) au))))))
 (av (bJ (ig (rQ (fV hr.units (aa 9) (a_ aJ)) (o8 (fV hr.units (bX (dQ (aa 1) aq) aq) aq)))) (aA (aM 10 sc.nd (aT hcounted_map hr (ak (aa 3) (ak (aa 4) (ak (aa 5) (ak ir au))))))) bB)
 (aA (bJ (xH hr.units (aa 9) (aG (aa 6) (aa 5))) (aA (bJ (xG (aa 10) ir) (aA (aN eH)) bB)) (aA (bJ (i9 (dO (aT h_law_is_map hr (ak (aa 10) (ak (aa 9) (ak (aa 3) (ak (aa 4) (ak (aG (aa 6) (lq (aa 5) aq)) au)))))))) (aA (aN eH)) bB)))))))
 (aA (aN eH)))))))))))) (λas r _ h=>h)
end
end K72
namespace K72
open PySem DL K01 WP K51 K52 K55
open K23 (jU iS bM)
theorem yP (ns:List Int) (k:Nat):gq [.bor (ns.map D.int),.d (.int k)]=.ok (.d (.int (ns.getD k 0))):=by
 refine b8 (cu (iO (c:=decide ((k:Int) < ((ns.map D.int).length:Nat))) rfl (λh=>?_) λh=>?_))
 ·have h:k < ns.length:=by simpa using h
  have e:(ns.map D.int)[k]?=some (.int ns[k]):=by rw [Tq,S5 h];rfl
  exact bG (two rfl rfl (rG e)) rfl (by simp [WX,h])
 ·have h:ns.length<=k:=by simpa using h
  exact fc (bG rfl rfl (by simp [WX,h]))
theorem q9 (i j:Int) (h1:0 < j) (h2:j < 2 ^ 200):mG (.d (.int i)) (.d (.int j))=.ok (.d (.int (i / j))):=yy (by
 unfold CQ
 rw [SN]
 exact ⟨decide_eq_true h1,cW.mpr ⟨by omega,h2⟩⟩)
theorem Lf (c:Int):∃xs:List Int,je [.d (.int c),.d (.int 7)]=.ok (.l .fresh (xs.map .int))/\xs.length=7/\∀x∈xs,0<=x:=by
 have key:Wp (je [.d (.int c),.d (.int 7)]) λr=>∃xs:List Int,r=.l .fresh (xs.map .int)/\xs.length=7/\∀x∈xs,0<=x:=by
  obtain ⟨n,hn,hn0⟩:∃n:Int,CG [.d (.int (c / 2))]=.ok (.d (.int n))/\0<=n:=⟨if c / 2 < 0 then -(c / 2) else c / 2,rfl,by split <;> omega⟩
  have app:∀{xs:List Int}{y:Int},(∀x∈xs,0<=x)->0<=y->∀x∈xs++[y],0<=x:=λh hy x hx=>by
   rcases TF.mp hx with q | q
   ·exact h x q
   ·rw [S6.mp q];exact hy
  refine pG (bD rfl rfl (bD (n1 (two rfl rfl (gn c 2 (by decide) (by decide))) hn) rfl (cu (iO (c:=bg (.int (c % 2)) (.int 1)) (bM (two rfl rfl (cZ c 2 (by decide))) rfl rfl) (λ_=>?_) λ_=>fc ?_))))
  ·refine d_ (jB (n:=7) rfl (by decide)) ?_
   refine iw (n:=7) (λk env=>∃(xs:List Int) (n:Int) (x:Option S),env=[some (.d (.int c)),some (.d (.int 7)),some (.own (xs.map .int)),some (.d (.int n)),x]/\xs.length=k/\0<=n/\∀x∈xs,0<=x) ⟨[],n,none,rfl,rfl,hn0,λ_ h=>nomatch h⟩ ?_ ?_
   ·rintro k hk _ ⟨xs,n,x,rfl,hl,h0,hx⟩
    refine ⟨_,rfl,Oo rfl (two rfl rfl (cZ n (10 ^ 20) (by decide))) rfl (by rw [SK];omega) (fM (two rfl rfl (q9 n (10 ^ 20) (by decide) (by decide))) rfl ⟨_,rfl,xs++[n % 10 ^ 20],n / 10 ^ 20,_,by rw [Th];rfl,by simp [hl],ZN h0 (by decide),app hx (Xp _ (by decide))⟩)⟩
   ·rintro _ ⟨xs,n,x,rfl,hl,h0,hx⟩
    exact bG rfl rfl ⟨_,rfl,xs,rfl,hl,hx⟩
  ·refine bD (two (two rfl rfl (cZ n (10 ^ 50) (by decide))) rfl (lU _ _)) rfl (d_ (jB (n:=7) rfl (by decide)) ?_)
   have hm:=Xp n (b:=10 ^ 50) (by decide)
   refine iw (n:=7) (λk env=>∃(xs:List Int) (n:Int) (x:Option S),env=[some (.d (.int c)),some (.d (.int 7)),some (.own (xs.map .int)),some (.d (.int n)),x]/\xs.length=k/\0<=n/\∀x∈xs,0<=x) ⟨[],n % 10 ^ 50 + 1234577,none,rfl,rfl,by omega,λ_ h=>nomatch h⟩ ?_ ?_
   ·rintro k hk _ ⟨xs,n,x,rfl,hl,h0,hx⟩
    obtain ⟨n',hn'⟩:∃n',n'=(n * 30013 + n / 10 ^ 30 + 77 * k) % (10 ^ 50 + 151):=⟨_,rfl⟩
    have p1:0<=n':=hn'▸Xp _ (by decide)
    have p2:n' < 10 ^ 50 + 151:=hn'▸Xm _ (by decide)
    have p3:0<=n' / 10 ^ 40:=ZN p1 (by decide)
    have p4:n' / 10 ^ 40 < 10 ^ 11:=Int.ediv_lt_of_lt_mul (by decide) (Int.lt_trans p2 (by decide))
    refine ⟨_,rfl,bD (r:=.d (.int n')) ((two (two (two (two rfl rfl (gI n 30013 (by decide) (by decide))) (two rfl rfl (q9 n (10 ^ 30) (by decide) (by decide))) (lU _ _)) (two rfl rfl (gI 77 k (by omega) (by omega))) (lU _ _)) (two rfl rfl (lU (10 ^ 50) 151)) (cZ _ _ (by decide))).trans (by rw [hn'])) rfl ?_⟩
    refine kN rfl (two (two rfl (two (two rfl rfl (q9 n' (10 ^ 40) (by decide) (by decide))) rfl (lU _ 3)) (gI _ _ (by omega) (by omega))) rfl (q9 _ (10 ^ 9) (by decide) (by decide))) rfl (by rw [SK];omega) ⟨_,rfl,xs++[n' * (n' / 10 ^ 40 + 3) / 10 ^ 9],n',_,by rw [Th];rfl,by simp [hl],p1,app hx (ZN (Int.mul_nonneg p1 (by omega)) (by decide))⟩
   ·rintro _ ⟨xs,n,x,rfl,hl,h0,hx⟩
    exact bG rfl rfl ⟨_,rfl,xs,rfl,hl,hx⟩
 obtain ⟨_,h,xs,rfl,hl⟩:=key
 exact ⟨xs,h,hl⟩
theorem IU (z:Str) (j:Nat) (h:j<=z.length):(Vm z none (some (j:Int))).cps.toList=z.cps.toList.take j:=by
 rw [dG] at h
 rw [show Vm z none (some (j:Int))=_ from abS (x:=z) (j:=j) ⟨by omega,by omega⟩]
 simp
theorem KU (z:Str) (i:Nat) (h:i<=z.length):(Vm z (some (i:Int)) none).cps.toList=z.cps.toList.drop i:=by
 rw [dG] at h
 rw [show Vm z (some (i:Int)) none=_ from abo (x:=z) (i:=i) ⟨by omega,by omega⟩]
 rw [show ((z.cps.toList.length:Int) - (i:Int)).toNat=(z.cps.toList.drop i).length by rw [Vs];omega]
 show ((z.cps.toList.drop i).take (z.cps.toList.drop i).length).toArray.toList=_
 rw [VM]
def I0:List D:=[.str "and",.str "or",.str "not",.str "some",.str "every",.str "least",.str "true",.str "false"]
def jY (s:Str) (b:Bool):Str:=if inD (.str s) I0=true then (if b=true then ("q":Str)++Vm s (some 1) none else s++"q") else s
theorem q_ (x y:Str) (h:x.length + y.length<=1000):cg (.d (.str x)) (.d (.str y))=.ok (.d (.str (x++y))):=OF x y h
theorem vt (s:Str) (l u:Option Int) (h:s.length<=900):oK (.d (.str s)) l u=.ok (.d (.str (Vm s l u)))/\(Vm s l u).length<=s.length:=by
 refine ⟨?_,YC s l u⟩
 show (if s.length<=sizeLine then _ else _)=_
 rw [if_pos (fK (by omega))]
theorem A2 (s:Str) (b:Bool) (h:s.length<=900):iH [.d (.str s),.d (.bl b)]=.ok (.d (.str (jY s b))):=by
 obtain ⟨h1,h2⟩:=vt s (some 1) none h
 refine b8 (cu (iO (c:=inD (.str s) I0) ?_ (λe=>?_) λe=>fc (bG rfl rfl ?_)))
 ·refine bM rfl rfl ?_
  show (if deps I0<=60/\dep (.str s)<=60 then M.ok (R.d (.bl (inD (.str s) I0))) else .bad)=_
  rw [if_pos ⟨by decide,by show (0:Nat)<=60;decide⟩]
 ·cases b with
  | true=>
   refine cu (u6 rfl (bG (two rfl (show kF oK (af 0) (mJ (gC (.int 1))) pN _=_ from h1) (q_ _ _ (by show 1 + _<=1000;omega))) rfl ?_))
   unfold jY
   rw [if_pos e];rfl
  | false=>
   refine jC rfl (bG (two rfl rfl (q_ _ _ (by show _ + 1<=1000;omega))) rfl ?_)
   unfold jY
   rw [if_pos e];rfl
 ·unfold jY
  rw [if_neg (by rw [e];decide)]
theorem EZ {α β:Type}{f:α->β}:∀{xs:List α},(∀a∈xs,∀b∈xs,f a=f b->a=b)->xs.Nodup->(xs.map f).Nodup:=λh nd=>K23.Mx nd h
theorem Ir (s:Str) (h1:1<=s.length):(jY s true).length=s.length:=by
 unfold jY
 split
 ·have h2:=dG s
  have h3:("q":Str).cps.toList.length=1:=rfl
  rw [if_pos rfl,dG,kX,Te,show (1:Int)=((1:Nat):Int) from rfl,KU s 1 h1,Vs]
  omega
 ·rfl
theorem n9 (i j:Int):cg (.d (.int i)) (.d (.int j))=.ok (.d (.int (i + j))):=rfl
theorem kT {env:Ev}{f:R->Option Int->Option Int->M R}{g:G R}{lo hi:GO}{x z:R}{l u:Option Int}(h:g env=.ok x) (h2:lo env=.ok l) (h3:hi env=.ok u) (hf:f x l u=.ok z):kF f g lo hi env=.ok z:=by
 unfold kF
 rw [h,aO,h2,aO,h3]
 exact hf
theorem kQ {env:Ev}{g:G R}{i:Int}(h:g env=.ok (.d (.int i))):mJ g env=.ok (some i):=by
 unfold mJ
 rw [h];rfl
theorem len_str (s:Str) (h:s.length<=1000):e_ [.d (.str s)]=.ok (.d (.int (s.length:Nat))):=by
 show (if s.length<=sizeLine then _ else _)=_
 rw [if_pos (fK h)]
theorem Iq (s:Str):(jY s false).cps.toList=s.cps.toList\/(jY s false).cps.toList=s.cps.toList++[113]:=by
 unfold jY
 split
 ·rw [if_neg (by decide),kX];exact .inr rfl
 ·exact .inl rfl
theorem A3 (c:Int) (hc:0<=c):∃ss:List Str,gD [.d (.int c),.d (.int 3)]=.ok (.l .fresh (ss.map .str))/\ss.length=3/\ss.Nodup:=by
 have fin3:∀(f:Nat->Str),(∀a,a < 3->∀b,b < 3->f a=f b->a=b)->(mW ((SM 3).map f)).length=3/\(mW ((SM 3).map f)).Nodup:=λf h=>
  ⟨by rw [(pC _).length_eq];simp,(pC _).symm.nodup (EZ (λa ha b hb=>h a (Tj.mp ha) b (Tj.mp hb)) Vc)⟩
 have key:Wp (gD [.d (.int c),.d (.int 3)]) λr=>∃ss:List Str,r=.l .fresh (ss.map .str)/\ss.length=3/\ss.Nodup:=by
  refine pG (bD rfl rfl (bD rfl rfl (d_ (jB (n:=7) rfl (by decide)) ?_)))
  refine iw (n:=7) (λk env=>∃(n:Int) (st:Str) (x:Option S),env=[some (.d (.int n)),some (.d (.int 3)),some (.d (.str "abcdefghijklmnopqrstuvwxyz")),some (.d (.str st)),x,none,none,none]/\0<=n/\st.length=k) ⟨c,"",none,rfl,hc,rfl⟩ ?_ ?_
  ·rintro k hk _ ⟨n,st,x,rfl,hn,hl⟩
   refine ⟨_,rfl,bD (two rfl (two rfl (two rfl rfl (cZ n 26 (by decide))) (EO _ (by omega) (by omega))) (q_ st _ (by show st.length + 1<=1000;omega))) rfl (fM (two rfl rfl (gn n 26 (by decide) (by decide))) rfl ⟨_,rfl,n / 26,_,_,rfl,by omega,?_⟩)⟩
   rw [dG,kX,Te,<-dG,hl];rfl
  ·rintro _ ⟨n,st,x,rfl,hn,hl⟩
   refine cu (iO (c:=bg (.int (n % 2)) (.int 0)) (bM (two rfl rfl (cZ n 2 (by decide))) rfl rfl) (λ_=>?_) λ_=>fc ?_)
   ·have hs:∀k,k < 3->(Vm st none (some ((2 + k:Nat):Int))).length=2 + k:=λk hk=>by
     rw [dG,IU _ _ (by omega),UE,<-dG];omega
    obtain ⟨h1,h2⟩:=fin3 (λk=>jY (Vm st none (some ((2 + k:Nat):Int))) true) λa ha b hb e=>by
     have:=congrArg aaK e
     rw [Ir _ (by rw [hs a ha];omega),Ir _ (by rw [hs b hb];omega),hs a ha,hs b hb] at this
     omega
    refine bG (n1 (z:=.l .fresh ((mW ((SM 3).map λk=>jY (Vm st none (some ((2 + k:Nat):Int))) true)).map .str)) (oA (xs:=SM 3) (h:=dN) (λk=>.str (jY (Vm st none (some ((2 + k:Nat):Int))) true)) (pe (n:=3) rfl (by decide)) (by decide) λk hk=>?_) ?_) rfl ⟨_,rfl,_,rfl,h1,h2⟩
    ·obtain ⟨a,b⟩:=vt st none (some ((2 + k:Nat):Int)) (by omega)
     exact ⟨_,c2 (kT rfl rfl (kQ ((two rfl rfl (n9 2 k)).trans (by rw [show (2:Int) + (k:Int)=((2 + k:Nat):Int) by omega]))) a) rfl (A2 _ true (by omega)),rfl⟩
    ·have:=sorted_strs .fresh ((SM 3).map λk=>jY (Vm st none (some ((2 + k:Nat):Int))) true) (by simp)
     rw [T9] at this
     exact this
   ·obtain ⟨q,hq,Sn⟩:=K33.rN (n / 2) 6 (by decide)
    have hq:n / 2 % 6=(q:Int):=hq
    obtain ⟨a,b⟩:=vt st none (some ((2 + q:Nat):Int)) (by omega)
    obtain ⟨s2,hs2⟩:∃s2,s2=Vm st none (some ((2 + q:Nat):Int)):=⟨_,rfl⟩
    have l2:s2.length=2 + q:=by rw [hs2,dG,IU _ _ (by omega),UE,<-dG];omega
    obtain ⟨at_,hat,Rh⟩:=K33.rN (n / 12) s2.length (by omega)
    obtain ⟨ch,hch⟩:∃ch,s2.cps.toList[at_]?=some ch:=⟨_,S5 (by rw [<-dG];exact Rh)⟩
    have hix:=Bu (z:=s2) (k:=at_) (by omega) hch
    obtain ⟨A,hA⟩:∃A,A=Vm s2 none (some (at_:Int)):=⟨_,rfl⟩
    obtain ⟨B,hB⟩:∃B,B=Vm s2 (some ((at_ + 1:Nat):Int)) none:=⟨_,rfl⟩
    obtain ⟨eA,lA⟩:=vt s2 none (some (at_:Int)) (by omega)
    obtain ⟨eB,lB⟩:=vt s2 (some ((at_ + 1:Nat):Int)) none (by omega)
    rw [<-hA] at eA lA
    rw [<-hB] at eB lB
    obtain ⟨F,hF⟩:∃F:Int,F=Txt.find "abcdefghijklmnopqrstuvwxyz" ⟨#[ch]⟩:=⟨_,rfl⟩
    obtain ⟨sg,hsg⟩:∃sg:Nat->Nat,∀k:Nat,sg k=97 + ((F + 5 * (k:Int)) % 26).toNat:=⟨_,λ_=>rfl⟩
    obtain ⟨nm,hnm⟩:∃nm:Nat->Str,∀k:Nat,nm k=A++⟨#[sg k]⟩++B:=⟨_,λ_=>rfl⟩
    have cn:∀k,(nm k).cps.toList=A.cps.toList++sg k::B.cps.toList:=λk=>by
     rw [hnm,kX,kX,VB];rfl
    have lnm:∀k,(nm k).length<=30:=λk=>by
     rw [dG,cn,Te,Uv,<-dG,<-dG];omega
    obtain ⟨h1,h2⟩:=fin3 (λk=>jY (nm k) false) λi hi j hj e=>by
     have e:=congrArg (λs:Str=>s.cps.toList) e
     have e:(jY (nm i) false).cps.toList=(jY (nm j) false).cps.toList:=e
     have ln:∀k,(nm k).cps.toList.length=A.cps.toList.length + (B.cps.toList.length + 1):=λk=>by rw [cn,Te,Uv]
     have li:=ln i
     have lj:=ln j
     have:(nm i).cps.toList=(nm j).cps.toList:=by
      rcases Iq (nm i) with p | p <;> rcases Iq (nm j) with q | q <;> rw [p,q] at e
      ·exact e
      ·have:=congrArg UX e;simp only [Te,Ww] at this;omega
      ·have:=congrArg UX e;simp only [Te,Ww] at this;omega
      ·exact List.append_cancel_right e
     rw [cn,cn] at this
     have:=List.append_cancel_left this
     have:=(acD this).1
     rw [hsg,hsg] at this
     omega
    rw [<-hs2] at a
    refine bD (kT rfl rfl (kQ ((two rfl (two (two rfl rfl (gn n 2 (by decide) (by decide))) rfl (cZ _ 6 (by decide))) (n9 2 _)).trans (by rw [hq,show (2:Int) + (q:Int)=((2 + q:Nat):Int) by omega]))) a) rfl ?_
    refine bD (r:=.d (.int (at_:Int))) ((two (two rfl rfl (gn n 12 (by decide) (by decide))) (n1 rfl (len_str s2 (by omega))) (cZ _ _ (by omega))).trans (by rw [hat])) rfl ?_
    refine bD rfl rfl (d_ (jB (n:=3) rfl (by decide)) ?_)
    refine iw (n:=3) (λk env=>∃(x y:Option S),env=[some (.d (.int n)),some (.d (.int 3)),some (.d (.str "abcdefghijklmnopqrstuvwxyz")),some (.d (.str s2)),x,some (.d (.int (at_:Int))),some (.own (((SM k).map λk=>jY (nm k) false).map .str)),y]) ⟨_,_,rfl⟩ ?_ ?_
    ·rintro k hk _ ⟨x,y,rfl⟩
     have RK:=EO ((F + 5 * (k:Int)) % 26) (by omega) (by omega)
     rw [<-hsg] at RK
     refine ⟨_,rfl,bD (two rfl (two (two (show CL (af 2) (g2 aX (af 3) (af 5)) _=.ok (.d (.int F)) from ?_) (two rfl rfl (gI 5 k (by omega) (by omega))) (n9 F _)) rfl (cZ _ 26 (by decide))) RK) rfl ?_⟩
     ·show (g2 aX (af 3) (af 5) _ >>= _)=_
      rw [two (x:=.d (.str s2)) (y:=.d (.int (at_:Int))) rfl rfl hix,aO,hF]
     ·have e1:=q_ A ⟨#[sg k]⟩ (by show A.length + 1<=1000;omega)
      have e2:=q_ (A++⟨#[sg k]⟩) B (by
       rw [dG,kX,Te,<-dG]
       show A.length + 1 + B.length<=1000
       omega)
      have e3:=A2 (nm k) false (by have:=lnm k;omega)
      rw [<-hnm] at e2
      refine kN rfl (c2 (two (two (kT rfl rfl (kQ rfl) eA) rfl e1) (kT rfl (kQ (i:=((at_ + 1:Nat):Int)) ((two rfl rfl (n9 _ 1)).trans (by rw [show ((at_:Int) + 1)=((at_ + 1:Nat):Int) by omega]))) rfl eB) e2) rfl e3) rfl (by simp;omega) ⟨_,rfl,some (.d (.int k)),some (.d (.str ⟨#[sg k]⟩)),?_⟩
      rw [VG,Th,Th];rfl
    ·rintro _ ⟨x,y,rfl⟩
     exact bG (n1 rfl (sorted_strs _ _ (by simp))) rfl ⟨_,rfl,_,rfl,h1,h2⟩
 obtain ⟨_,h,ss,rfl,hl⟩:=key
 exact ⟨ss,h,hl⟩
abbrev eW (m:Nat) (A B:List Str) (n:Int) (r:List (Option S)):Ev:=some (.d (.int m))::some (.d (.lst (A.map .str)))::some (.d (.lst (B.map .str)))::some (.d (.int n))::r
theorem DZ {env:Ev}{n:Int}(h:af 3 env=.ok (.d (.int n))):br (g2 (cj false) (g2 dB (af 3) (gC (.int 2))) (gC (.int 1))) env=.ok (bg (.int (n % 2)) (.int 1)):=bM (two h rfl (cZ n 2 (by decide))) rfl rfl
theorem half {env:Ev}{n:Int}(h:af 3 env=.ok (.d (.int n))):g2 gf (af 3) (gC (.int 2)) env=.ok (.d (.int (n / 2))):=two h rfl (gn n 2 (by decide) (by decide))
theorem A5 (m:Nat) (hm:m<=4) (A B:List Str) (hA:A.length<=3) (hB:B.length<=3) (n:Int):
  ∃ms rs,dR [.d (.int m),.d (.lst (A.map .str)),.d (.lst (B.map .str)),.d (.int n)]=.ok (.d (Wd.d ⟨m,ms,rs⟩))/\ms.map TZ=A/\rs.map TZ=B/\DM 16 ⟨m,ms,rs⟩:=by
 have QG:m * m<=16:=Wr hm hm
 have key:Wp (dR [.d (.int m),.d (.lst (A.map .str)),.d (.lst (B.map .str)),.d (.int n)]) λr=>∃ms rs,r=.d (Wd.d ⟨m,ms,rs⟩)/\ms.map TZ=A/\rs.map TZ=B/\DM 16 ⟨m,ms,rs⟩:=by
  refine pG (bD rfl rfl (d_ (ds:=A.map .str) rfl ?_))
  refine kh (λk env=>∃(n:Int) (ms:List (Str×List Nat)) (x y z:Option S),env=eW m A B n [some (.own (ms.map kB)),x,y,z,none,none,none,none]/\ms.map TZ=A.take k/\∀r∈ms,r.2.length<=16/\∀p∈r.2,p < m) _ ⟨n,[],none,none,none,rfl,rfl,λ_ h=>nomatch h⟩ ?_ ?_
  ·rintro k hk _ ⟨n,ms,x,y,z,rfl,hf,hp⟩
   rw [SK] at hk
   have lm:ms.length<=3:=by
    have:=congrArg UX hf
    rw [SK,UE] at this
    omega
   rw [UG]
   refine ⟨_,rfl,bD rfl rfl (d_ (jB (n:=m) rfl (by omega)) ?_)⟩
   refine iw (n:=m) (λj env=>∃(n:Int) (xs:List Nat) (z:Option S),env=eW m A B n [some (.own (ms.map kB)),some (.d (.str A[k])),some (.own (xs.map dN)),z,none,none,none,none]/\xs.length<=j/\∀x∈xs,x < m) ⟨n,[],z,rfl,SW _,λ_ h=>nomatch h⟩ ?_ ?_
   ·rintro j hj _ ⟨n,xs,z,rfl,hl,hx⟩
    refine ⟨_,rfl,cu (iO (DZ (n:=n) rfl) (λ_=>kN rfl rfl rfl (by simp;omega) ?_) λ_=>fc ?_)⟩
    ·refine fM (half (n:=n) rfl) rfl ⟨_,rfl,n / 2,xs++[j],some (.d (.int j)),by rw [Th];rfl,by simp;omega,λx hx'=>?_⟩
     rcases TF.mp hx' with h | h
     ·exact hx x h
     ·rw [S6.mp h];exact hj
    ·exact fM (half (n:=n) rfl) rfl ⟨_,rfl,n / 2,xs,some (.d (.int j)),rfl,by omega,hx⟩
   ·rintro _ ⟨n,xs,z,rfl,hl,hx⟩
    refine kN rfl (bE (aK rfl rfl (aK (n1 rfl rfl) rfl bh)) t2) rfl (by simp;omega) ⟨_,rfl,n,ms++[(A[k],xs)],_,_,_,by rw [Th];rfl,?_,λr hr=>?_⟩
    ·rw [Th,hf,WZ,S5 hk];rfl
    ·rcases TF.mp hr with h | h
     ·exact hp r h
     ·rw [S6.mp h];exact ⟨by show xs.length<=16;omega,hx⟩
  rintro _ ⟨n,ms,x,y,z,rfl,hf,hp⟩
  rw [SK,VM] at hf
  refine bD rfl rfl (d_ (ds:=B.map .str) rfl ?_)
  refine kh (λk env=>∃(n:Int) (rs:List (Str×List (Nat×Nat))) (x a b c:Option S),env=eW m A B n [some (.own (ms.map kB)),x,y,z,some (.own (rs.map pg)),a,b,c]/\rs.map TZ=B.take k/\∀r∈rs,r.2.length<=16/\∀p∈r.2,p.1 < m/\p.2 < m) _ ⟨n,[],x,none,none,none,rfl,rfl,λ_ h=>nomatch h⟩ ?_ ?_
  ·rintro k hk _ ⟨n,rs,x,a,b,c,rfl,hf,hp⟩
   rw [SK] at hk
   have lm:rs.length<=3:=by
    have:=congrArg UX hf
    rw [SK,UE] at this
    omega
   rw [UG]
   refine ⟨_,rfl,bD rfl rfl (d_ (jB (n:=m) rfl (by omega)) ?_)⟩
   refine iw (n:=m) (λi env=>∃(n:Int) (ps:List (Nat×Nat)) (b c:Option S),env=eW m A B n [some (.own (ms.map kB)),some (.d (.str B[k])),y,z,some (.own (rs.map pg)),some (.own (ps.map dP)),b,c]/\ps.length<=i * m/\∀p∈ps,p.1 < m/\p.2 < m) ⟨n,[],b,c,rfl,by simp,λ_ h=>nomatch h⟩ ?_ ?_
   ·rintro i hi _ ⟨n,ps,b,c,rfl,hl,hx⟩
    have Sl:i * m + m<=m * m:=by rw [<-aa5];exact Vw m hi
    refine ⟨_,rfl,mP (jB (n:=m) rfl (by omega)) ?_⟩
    refine iw (n:=m) (λj env=>∃(n:Int) (ps:List (Nat×Nat)) (c:Option S),env=eW m A B n [some (.own (ms.map kB)),some (.d (.str B[k])),y,z,some (.own (rs.map pg)),some (.own (ps.map dP)),some (.d (.int i)),c]/\ps.length<=i * m + j/\∀p∈ps,p.1 < m/\p.2 < m) ⟨n,ps,c,rfl,hl,hx⟩ ?_ ?_
    ·rintro j hj _ ⟨n,ps,c,rfl,hl,hx⟩
     refine ⟨_,rfl,cu (iO (DZ (n:=n) rfl) (λ_=>kN rfl (bE (aK rfl rfl (aK rfl rfl bh)) t2) rfl (by simp;omega) ?_) λ_=>fc ?_)⟩
     ·refine fM (half (n:=n) rfl) rfl ⟨_,rfl,n / 2,ps++[(i,j)],some (.d (.int j)),by rw [Th];rfl,by simp;omega,λx hx'=>?_⟩
      rcases TF.mp hx' with h | h
      ·exact hx x h
      ·rw [S6.mp h];exact ⟨hi,hj⟩
     ·exact fM (half (n:=n) rfl) rfl ⟨_,rfl,n / 2,ps,some (.d (.int j)),rfl,by omega,hx⟩
    ·rintro _ ⟨n,ps,c,rfl,hl,hx⟩
     exact ⟨_,rfl,n,ps,_,c,rfl,by rw [aa5];exact hl,hx⟩
   ·rintro _ ⟨n,ps,b,c,rfl,hl,hx⟩
    refine kN rfl (bE (aK rfl rfl (aK (n1 rfl rfl) rfl bh)) t2) rfl (by simp;omega) ⟨_,rfl,n,rs++[(B[k],ps)],_,_,_,_,by rw [Th];rfl,?_,λr hr=>?_⟩
    ·rw [Th,hf,WZ,S5 hk];rfl
    ·rcases TF.mp hr with h | h
     ·exact hp r h
     ·rw [S6.mp h];exact ⟨by show ps.length<=16;omega,hx⟩
  rintro _ ⟨n,rs,x,a,b,c,rfl,hf2,hp2⟩
  rw [SK,VM] at hf2
  exact bG (bE (aK rfl rfl (aK (n1 rfl rfl) rfl (aK (n1 rfl rfl) rfl bh))) (by show 3<=1000;decide)) rfl ⟨_,rfl,ms,rs,rfl,hf,hf2,⟨hp,hp2⟩⟩
 obtain ⟨_,h,ms,rs,rfl,hk⟩:=key
 exact ⟨ms,rs,h,hk⟩
theorem Le (n:Int) (k:Nat) (hk:k<=60):∃n',gr [.d (.int n),.d (.int k)]=.ok (.d (.int n')):=by
 have key:Wp (gr [.d (.int n),.d (.int k)]) λr=>∃n':Int,r=.d (.int n'):=by
  refine pG (bD rfl rfl (d_ (jB (n:=k) rfl (by omega)) ?_))
  refine iw (n:=k) (λj env=>∃x:Option S,env=[some (.d (.int n)),some (.d (.int k)),some (.d (.int (2 ^ j))),x]) ⟨none,rfl⟩ ?_ ?_
  ·rintro j hj _ ⟨x,rfl⟩
   exact ⟨_,rfl,fM (two rfl rfl (gI _ 2 (by decide) (by decide))) rfl ⟨_,rfl,some (.d (.int j)),by rw [Int.pow_succ];rfl⟩⟩
  ·rintro _ ⟨x,rfl⟩
   have p0:(0:Int) < 2 ^ k:=Int.pow_pos (by decide)
   have p1:(2:Int) ^ k < 2 ^ 200:=by
    have:(2:Nat) ^ k < 2 ^ 200:=Nat.pow_lt_pow_right (by decide) (by omega)
    exact_mod_cast this
   exact cu (iO (c:=bg (.int (n / 2 ^ k % 2)) (.int 1)) (bM (two (two rfl rfl (q9 n _ p0 p1)) rfl (cZ _ 2 (by decide))) rfl rfl) (λ_=>bG (two rfl rfl (yK _ _)) rfl ⟨_,rfl,_,rfl⟩) λ_=>fc (bG (two rfl rfl (lU _ _)) rfl ⟨_,rfl,_,rfl⟩))
 obtain ⟨_,h,n',rfl⟩:=key
 exact ⟨n',h⟩
theorem GC {ps:List Nat}{p:Nat}(hp:p < ps.length):aX (.l .own (ps.map dN)) (.d (dN p))=.ok (.d (dN (ps.getD p 0))):=
 rG (by rw [Tq,S5 hp];simp [WX,hp])
theorem Lh (u:Wd) (hu:A9 u) (hb:DM 16 u) (h4:u.m<=4) (n:Int):∃ps:List Nat,eZ [.d u.d,.d (.int n)]=.ok (.d (iB u ps).d):=by
 have ml:=hu.ml
 have al:=hu.al
 have key:Wp (eZ [.d u.d,.d (.int n)]) λr=>∃ps:List Nat,r=.d (iB u ps).d:=by
  refine pG (bD (r:=.l .fresh ((SM u.m).map dN)) (K81.Mu (cX (two rfl rfl (gW _ _))) (by omega)) rfl (bD rfl rfl (d_ (jB (n:=u.m) (cX (two rfl rfl (gW _ _))) (by omega)) ?_)))
  refine iw (n:=u.m) (λk env=>∃(c:Int) (ls ps:List Nat) (x:Option S),env=[some (.d u.d),some (.d (.int c)),some (.own (ls.map dN)),some (.own (ps.map dN)),x,none,none,none,none,none]/\ls.length + k=u.m/\ps.length=k) ⟨n,SM u.m,[],none,rfl,by simp,rfl⟩ ?_ ?_
  ·rintro k hk _ ⟨c,ls,ps,x,rfl,l1,l2⟩
   have hlen:(0:Int) < ((ls.map dN).length:Nat):=by simp;omega
   obtain ⟨j,hj,hjl⟩:=K33.rN c (ls.map dN).length (by simp;omega)
   have Rp:j < ls.length:=by simpa using hjl
   refine ⟨_,rfl,cu (GG (k:=j) rfl rfl (by decide) ((two rfl (n1 rfl rfl) (cZ _ _ hlen)).trans (by rw [hj])) hjl (by simp;omega) (by simp;omega) ?_)⟩
   refine fM (two rfl rfl (gn _ 5 (by decide) (by decide))) rfl ⟨_,rfl,c / 5,ls.eraseIdx j,ps++[ls[j]],some (.d (.int k)),?_,?_,?_⟩
   ·rw [Th,UG,show (ls.eraseIdx j).map dN=(ls.map dN).eraseIdx j by simp [XG,Xh,Yb]]
    rfl
   ·rw [ZW,if_pos Rp];omega
   ·rw [Te];simp;omega
  rintro _ ⟨c,ls,ps,x,rfl,l1,l2⟩
  refine bD rfl rfl (d_ (ds:=u.ms.map kB) ?_ ?_)
  ·show (g2 aX (af 0) (gC (.int 1)) _ >>= _)=_
   rw [two (x:=.d u.d) rfl rfl (EN _ _ _)]
   rfl
  refine kh (λk env=>∃(y z:Option S),env=[some (.d u.d),some (.d (.int c)),some (.own (ls.map dN)),some (.own (ps.map dN)),x,some (.own ((((iB u ps).ms).take k).map kB)),y,z,none,none]) _ ⟨none,none,rfl⟩ ?_ ?_
  ·rintro k hk _ ⟨y,z,rfl⟩
   rw [SK] at hk
   rw [UG]
   obtain ⟨h1,h2⟩:=hb.mp u.ms[k] (T3 hk)
   refine ⟨_,rfl,kN rfl (bE (aK rfl rfl (aK (n1 (n1 (oA (xs:=u.ms[k].2) (h:=dN) (λp=>dN (ps.getD p 0)) rfl (by omega) λp hp=>⟨_,two rfl rfl (GC (by rw [l2];exact h2 p hp)),rfl⟩) (x:=.l .fresh (u.ms[k].2.map λp=>dN (ps.getD p 0))) (z:=.l .fresh (bN ((u.ms[k].2.map λp=>ps.getD p 0).map dN))) ?_) rfl) rfl bh)) t2) rfl (by simp;omega) ⟨_,rfl,some (.d (.str u.ms[k].1)),some (.d (.tup (u.ms[k].2.map dN))),?_⟩⟩
   ·have:=Np (u.ms[k].2.map λp=>ps.getD p 0) (by simp;omega)
    rw [T9] at this ⊢
    exact this
   ·have hk':k < (iB u ps).ms.length:=by unfold iB;simpa using hk
    rw [WZ,S5 hk',Th]
    have e:(iB u ps).ms[k]=(u.ms[k].1,(bN ((u.ms[k].2.map λp=>ps.getD p 0).map dN)).map AE):=by unfold iB;simp
    show _=[_,_,_,_,_,some (S.own (_++[kB (iB u ps).ms[k]])),_,_,_,_]
    rw [e]
    unfold kB
    rw [xW dN AE OL]
    rfl
  rintro _ ⟨y,z,rfl⟩
  rw [SK,show u.ms.length=(iB u ps).ms.length by unfold iB;simp,VM]
  refine bD rfl rfl (d_ (ds:=u.ar.map pg) ?_ ?_)
  ·show (g2 aX (af 0) (gC (.int 2)) _ >>= _)=_
   rw [two (x:=.d u.d) rfl rfl (L_ _ _ _ _)]
   rfl
  refine kh (λk env=>∃(y a:Option S),env=[some (.d u.d),some (.d (.int c)),some (.own (ls.map dN)),some (.own (ps.map dN)),x,some (.own ((iB u ps).ms.map kB)),y,z,some (.own ((((iB u ps).ar).take k).map pg)),a]) _ ⟨y,none,rfl⟩ ?_ ?_
  ·rintro k hk _ ⟨y,a,rfl⟩
   rw [SK] at hk
   rw [UG]
   obtain ⟨h1,h2⟩:=hb.ap u.ar[k] (T3 hk)
   refine ⟨_,rfl,kN rfl (bE (aK rfl rfl (aK (n1 (n1 (uH (xs:=u.ar[k].2) (λp=>dN p.1) (λp=>dN p.2) (λp=>dP (ps.getD p.1 0,ps.getD p.2 0)) rfl (by omega) λp hp=>⟨_,bE (aK (two rfl rfl (GC (by rw [l2];exact (h2 p hp).1))) rfl (aK (two rfl rfl (GC (by rw [l2];exact (h2 p hp).2))) rfl bh)) t2,rfl⟩) (x:=.l .fresh (u.ar[k].2.map λp=>dP (ps.getD p.1 0,ps.getD p.2 0))) (z:=.l .fresh (bN ((u.ar[k].2.map λp=>(ps.getD p.1 0,ps.getD p.2 0)).map dP))) ?_) rfl) rfl bh)) t2) rfl (by simp;omega) ⟨_,rfl,some (.d (.str u.ar[k].1)),some (.d (.tup (u.ar[k].2.map dP))),?_⟩⟩
   ·have:=Pq (u.ar[k].2.map λp=>(ps.getD p.1 0,ps.getD p.2 0)) (by simp;omega)
    rw [T9] at this ⊢
    exact this
   ·have hk':k < (iB u ps).ar.length:=by unfold iB;simpa using hk
    rw [WZ,S5 hk',Th]
    have e:(iB u ps).ar[k]=(u.ar[k].1,(bN ((u.ar[k].2.map λp=>(ps.getD p.1 0,ps.getD p.2 0)).map dP)).map AF):=by unfold iB;simp
    show _=[_,_,_,_,_,_,_,_,some (S.own (_++[pg (iB u ps).ar[k]])),_]
    rw [e]
    unfold pg
    rw [xW dP AF vG]
    rfl
  rintro _ ⟨y,a,rfl⟩
  rw [SK,show u.ar.length=(iB u ps).ar.length by unfold iB;simp,VM]
  exact bG (bE (aK (two rfl rfl (gW _ _)) rfl (aK (n1 rfl rfl) rfl (aK (n1 rfl rfl) rfl bh))) (by show 3<=1000;decide)) rfl ⟨_,rfl,ps,rfl⟩
 obtain ⟨_,h,ps,rfl⟩:=key
 exact ⟨ps,h⟩
end K72
namespace K72
open PySem DL K01 WP K51 K52 K55 K22 K33
open K23 (Pr iG iU aP oQ oU Good jU iS bM jW i6 nq jx)
noncomputable def mb (ch:List (List Nat)):Nat->List Nat->Option (List Nat)
 | 0,ah=>some ah
 | r + 1,ah=>(ch.getD ah.length []).findSome? λp=>if p∈ah then none else mb ch r (ah++[p])
theorem BK {ch:List (List Nat)}:∀{r:Nat}{ah σ:List Nat},ah.Nodup->mb ch r ah=some σ->σ.Nodup/\σ.length=ah.length + r/\ah <+:σ/\∀i (hi:i < σ.length),ah.length<=i->σ[i]∈ch.getD i []
 | 0,ah,σ,nd,h=>by
  cases h
  exact ⟨nd,rfl,List.prefix_refl _,λi h1 h2=>absurd h2 (by omega)⟩
 | r + 1,ah,σ,nd,h=>by
  obtain ⟨p,h1,h2⟩:=List.exists_of_findSome?_eq_some h
  split at h2
  ·cases h2
  rename_i hp
  have nd':(ah++[p]).Nodup:=V8.mpr ⟨nd,U9 _ _,λx hx y hy e=>hp (by rw [S6.mp hy] at e;exact e▸hx)⟩
  obtain ⟨a,b,c,d⟩:=BK nd' h2
  rw [Te,Ww] at b d
  refine ⟨a,by omega,(List.prefix_append _ _).trans c,λi hi hl=>?_⟩
  by_cases e:i=ah.length
  ·obtain ⟨t,rfl⟩:=c
   subst e
   simpa using h1
  ·exact d i hi (by omega)
theorem BJ {ch:List (List Nat)}:∀{r:Nat}{ah:List Nat},mb ch r ah=none->∀σ:List Nat,σ.Nodup->σ.length=ah.length + r->ah <+:σ->¬∀i (hi:i < σ.length),ah.length<=i->σ[i]∈ch.getD i []
 | 0,_,h,_,_,_,_,_=>by cases h
 | r + 1,ah,h,σ,nd,hl,hp,hc=>by
  obtain ⟨t,rfl⟩:=hp
  cases t with
  | nil=>simp at hl
  | cons p t=>
   have hm:p∈ch.getD ah.length []:=by
    have:=hc ah.length (by simp) (SW _)
    simpa using this
   have hn:p∉ah:=λz=>(V8.mp nd).2.2 p z p (by simp) rfl
   have:=List.findSome?_eq_none_iff.mp h p hm
   rw [if_neg hn] at this
   refine BJ this (ah++p::t) nd (by simp at hl ⊢;omega) ⟨t,by simp⟩ λi hi hl=>hc i hi (by simp at hl;omega)
abbrev tL (xs:List Nat):D:=.lst (xs.map dN)
noncomputable def oM:Option (List Nat)->D
 | none=>.non
 | some σ=>.tup (σ.map dN)
theorem Ce (ch:List (List Nat)) (hc:ch.length<=10) (hr:∀r∈ch,r.length<=10):∀(f r:Nat) (ah:List Nat),ah.length + r=ch.length->r < f->dg f [.bor (ch.map tL),.d (.tup (ah.map dN))]=.ok (.d (oM (mb ch r ah)))
 | 0,_,_,_,h=>absurd h (by omega)
 | f + 1,r,ah,hl,h=>by
  have eqi:∀a b:Nat,cj false (.d (.int (a:Int))) (.d (.int (b:Int)))=.ok (.d (.bl (decide (a=b)))):=λa b=>by
   rw [K01.eq_int]
   congr 3
   show ((a:Int) == (b:Int))=_
   rw [Uq,beq_iff_eq,decide_eq_true_eq]
   omega
  have ht:br (g2 (cj false) (gN e_ (ao (af 1) aD)) (gN e_ (ao (af 0) aD))) (aY nc [.bor (ch.map tL),.d (.tup (ah.map dN))])=.ok (decide (ah.length=ch.length)):=by
   refine bM (x:=.d (.int (ah.length:Nat))) (y:=.d (.int (ch.length:Nat))) (n1 rfl ?_) (n1 rfl ?_) (eqi _ _)
   ·show M.ok (R.d (.int ((ah.map dN).length:Nat)))=_;rw [SK]
   ·show M.ok (R.d (.int ((ch.map tL).length:Nat)))=_;rw [SK]
  cases r with
  | zero=>
   rw [decide_eq_true (by omega)] at ht
   exact b8 (cu (u6 ht (bG rfl rfl rfl)))
  | succ r=>
   rw [decide_eq_false (by omega)] at ht
   have hlt:ah.length < ch.length:=by omega
   have hg:ch.getD ah.length []=ch[ah.length]:=by simp [WX,hlt]
   refine b8 (jC ht ?_)
   have hit:fm (g2 aX (af 0) (gN e_ (ao (af 1) aD))) (aY nc [.bor (ch.map tL),.d (.tup (ah.map dN))])=.ok (ch[ah.length].map dN):=by
    show (g2 aX _ _ _ >>= _)=_
    rw [two (y:=.d (.int (ah.length:Nat))) (z:=.d (tL ch[ah.length])) rfl (n1 rfl (by show M.ok (R.d (.int ((ah.map dN).length:Nat)))=_;rw [SK])) (rG (m:=.bor) (by rw [Tq,S5 hlt];rfl))]
    rfl
   refine d_ hit ?_
   unfold mb
   rw [hg]
   have key:∀(xs:List Nat) (z y:Option S),Wp (fh (aC 2) (bK (br (g2 (fk true) (af 2) (af 1))) (aI (aZ 3 (gN (aS 2 (dg f)) (ao (af 0) (ao (g2 cg (af 1) (bz (az (af 2) aQ))) aD))))
     (bK (br (g2 (iI true) (af 3) (gC .non))) (bq (af 3)) cS)) cS) (xs.map dN) [some (.bor (ch.map tL)),some (.d (.tup (ah.map dN))),z,y]) λo=>match xs.findSome? λp=>if p∈ah then none else mb ch r (ah++[p]) with
      | some σ=>o=.rt (.d (oM (some σ)))
      | none=>∃e,o=.nx e:=by
    intro xs
    induction xs with
    | nil=>exact λz y=>⟨_,rfl,_,rfl⟩
    | cons p xs ih=>
     intro z y
     rw [Td,List.findSome?_cons]
     show Wp (aC 2 (dN p) _ >>= _) _
     rw [show aC 2 (dN p) [some (.bor (ch.map tL)),some (.d (.tup (ah.map dN))),z,y]=.ok [some (.bor (ch.map tL)),some (.d (.tup (ah.map dN))),some (.d (dN p)),y] from rfl,aO]
     have hin:br (g2 (fk true) (af 2) (af 1)) [some (.bor (ch.map tL)),some (.d (.tup (ah.map dN))),some (.d (dN p)),y]=.ok (!decide (p∈ah)):=by
      refine bM rfl rfl ((uY true (dN p) (ah.map dN) (zG ah) (by show (0:Nat)<=60;decide)).trans ?_)
      rw [K55.inN];rfl
     by_cases hp:p∈ah
     ·rw [decide_eq_true hp] at hin
      rw [nM hin,if_pos hp]
      exact ih _ _
     ·rw [decide_eq_false hp] at hin
      rw [kZ hin,if_neg hp]
      have Ri:cg (.d (.tup (ah.map dN))) (.d (.tup [dN p]))=.ok (.d (.tup ((ah++[p]).map dN))):=by rw [DB _ _ (by simp;omega),Th];rfl
      have hrec:=Ce ch hc hr f r (ah++[p]) (by simp;omega) (by omega)
      have hs:aZ 3 (gN (aS 2 (dg f)) (ao (af 0) (ao (g2 cg (af 1) (bz (az (af 2) aQ))) aD))) [some (.bor (ch.map tL)),some (.d (.tup (ah.map dN))),some (.d (dN p)),y]=.ok (.nx [some (.bor (ch.map tL)),some (.d (.tup (ah.map dN))),some (.d (dN p)),some (.d (oM (mb ch r (ah++[p]))))]):=by
       show (gN _ _ _ >>= _)=_
       rw [c2 rfl (two rfl (bE (aK rfl rfl bh) (by show 1<=1000;decide)) Ri) hrec]
       rfl
      rw [Nr hs]
      cases q:mb ch r (ah++[p]) with
      | none=>
       rw [nM (show br (g2 (iI true) (af 3) (gC .non)) _=.ok false from rfl)]
       exact ih _ _
      | some σ=>
       rw [kZ (show br (g2 (iI true) (af 3) (gC .non)) _=.ok true from rfl)]
       exact ⟨_,rfl,rfl⟩
   refine (key _ none none).mono λo ho=>?_
   cases q:ch[ah.length].findSome? λp=>if p∈ah then none else mb ch r (ah++[p]) with
   | some σ=>rw [q] at ho;rw [ho]
   | none=>
    rw [q] at ho
    obtain ⟨e,rfl⟩:=ho
    exact bG rfl rfl rfl
section
variable {v w:Wd}{B C k:Ps}{j n:Nat}{L L':Ps->Bool}
noncomputable def gT (v w:Wd) (L:Ps->Bool) (k:Ps):List (List Nat):=(SM v.m).map λa=>(SM w.m).filter λb=>decide (v.m=w.m) && (decide (bQ k (a,b)∈T4 v w) && L (bQ k (a,b)))
def iA (v w:Wd) (L:Ps->Bool) (k:Ps):Bool:=(mb (gT v w L k) v.m []).isSome
structure Mp (v w:Wd) (L:Ps->Bool) (k:Ps) (σ:List Nat):Prop where
 m:v.m=w.m
 nd:σ.Nodup
 len:σ.length=v.m
 at_:∀a (h:a < σ.length),σ[a] < w.m/\bQ k (a,σ[a])∈T4 v w/\L (bQ k (a,σ[a]))=true
theorem Eh {a:Nat}(ha:a < v.m):(gT v w L k).getD a []=(SM w.m).filter λb=>decide (v.m=w.m) && (decide (bQ k (a,b)∈T4 v w) && L (bQ k (a,b))):=by
 unfold gT
 simp [WX,ha]
theorem Dc (t:Pr v w){σ:List Nat}(h:mb (gT v w L k) v.m []=some σ):Mp v w L k σ:=by
 obtain ⟨a,b,_,d⟩:=BK VA h
 have b:σ.length=v.m:=by simpa using b
 have e:∀i (hi:i < σ.length),v.m=w.m/\σ[i] < w.m/\bQ k (i,σ[i])∈T4 v w/\L (bQ k (i,σ[i]))=true:=λi hi=>by
  have:=d i hi (Tp _)
  rw [Eh (by omega),Ud,SN,SN,decide_eq_true_eq,decide_eq_true_eq,Tj] at this
  exact ⟨this.2.1,this.1,this.2.2⟩
 have lo:=t.vo.lo
 exact ⟨(e 0 (by omega)).1,a,b,λi hi=>(e i hi).2⟩
theorem Ay (t:Pr v w):iA v w L k=true↔∃σ,Mp v w L k σ:=by
 unfold iA
 constructor
 ·intro h
  obtain ⟨σ,h⟩:=Ub.mp h
  exact ⟨σ,Dc t h⟩
 ·rintro ⟨σ,m⟩
  cases q:mb (gT v w L k) v.m [] with
  | some _=>rfl
  | none=>
   refine absurd (λi hi _=>?_) (BJ q σ m.nd (by simpa using m.len) (List.nil_prefix))
   rw [Eh (by have:=m.len;omega),Ud,SN,SN,decide_eq_true_eq,decide_eq_true_eq,Tj]
   obtain ⟨a,b⟩:=m.at_ i hi
   exact ⟨a,m.m,b⟩
def Lc (v w:Wd) (j:Nat) (ps:Ps):Bool:=LZ (iA v w) j ps
theorem vL (t:Pr v w):Lc v w (j + 1) k=true↔Lc v w j k=true/\∃σ,Mp v w (Lc v w j) k σ:=yU.trans (and_congr Iff.rfl (Ay t))
theorem Jh (hs:∀p∈B,p∈C) (x:Nat×Nat):∀q∈bQ B x,q∈bQ C x:=λq hq=>by
 rw [jP] at hq ⊢
 exact hq.imp_left (hs q)
theorem NX (t:Pr v w) (hs:∀p∈B,p∈C){x:Nat×Nat}(h:bQ C x∈T4 v w):bQ B x∈T4 v w:=
 (Cq t).mpr (((Cq t).mp h).sub λq hq=>by
  rcases TF.mp hq with h | h
  ·exact VY _ (hs q h)
  ·exact T8 _ h)
theorem yX (t:Pr v w):∀(j:Nat) (B C:Ps),(∀p∈B,p∈C)->Lc v w j C=true->Lc v w j B=true
 | 0,_,_,_,_=>rfl
 | j + 1,B,C,hs,h=>by
  obtain ⟨h1,σ,m⟩:=(vL t).mp h
  refine (vL t).mpr ⟨yX t j B C hs h1,σ,m.m,m.nd,m.len,λa ha=>?_⟩
  obtain ⟨a1,a2,a3⟩:=m.at_ a ha
  exact ⟨a1,NX t hs a2,yX t j _ _ (Jh hs _) a3⟩
theorem yW (t:Pr v w) (hm:w.m=v.m){σ:List Nat}(i:K23.HY v w σ):∀(j:Nat) (B:Ps),(∀p∈B,p∈iG σ)->Lc v w j B=true
 | 0,_,_=>rfl
 | j + 1,B,hs=>by
  have g:=oU hm i
  refine (vL t).mpr ⟨yW t hm i j B hs,σ,hm.symm,i.nd,i.len,λa ha=>?_⟩
  have hz:(a,σ[a])∈iG σ:=iU.mpr ⟨ha,rfl⟩
  have hs':∀p∈B++[(a,σ[a])],p∈iG σ:=λp hp=>by
   rcases TF.mp hp with h | h
   ·exact hs p h
   ·rw [S6.mp h];exact hz
  refine ⟨by rw [hm];exact i.rg _ (T3 ha),(Cq t).mpr (yT.sub ⟨g.ag,g.rg⟩ hs'),yW t hm i j _ λp hp=>?_⟩
  rw [jP] at hp
  rcases hp with h | h
  ·exact hs p h
  ·rw [h];exact hz
theorem yV (t:Pr v w):∀(xs:List Nat) (n:Nat) (ps:Ps),(∀x∈xs,x < v.m)->Good v w ps->xs.length<=n->Lc v w n ps=true->∃qs,Good v w qs/\(∀p∈ps,p∈qs)/\∀x∈xs,∃p∈qs,p.1=x
 | [],_,ps,_,g,_,_=>⟨ps,g,λ_ h=>h,λ_ h=>nomatch h⟩
 | x::xs,0,_,_,_,h,_=>absurd h (by simp)
 | x::xs,n + 1,ps,hx,g,hn,h=>by
  obtain ⟨_,σ,m⟩:=(vL t).mp h
  obtain ⟨a1,a2,a3⟩:=m.at_ x (by have:=m.len;have:=hx x (by simp);omega)
  obtain ⟨qs,g',h1,h2⟩:=yV t xs n (bQ ps (x,σ[x]'(by have:=m.len;have:=hx x (by simp);omega))) (λy hy=>hx y (by simp [hy])) ((mQ t).mp a2) (by simpa using hn) a3
  refine ⟨qs,g',λp hp=>h1 p (jP.mpr (.inl hp)),λy hy=>?_⟩
  rcases S7.mp hy with rfl | hy
  ·exact ⟨_,h1 _ (jP.mpr (.inr rfl)),rfl⟩
  ·exact h2 y hy
theorem Jd (t:Pr v w) (g:Good v w B) (hn:v.m<=n) (h:Lc v w n B=true):w.m=v.m/\∃σ,K23.HY v w σ/\∀p∈B,p∈iG σ:=by
 have lo:=t.vo.lo
 have hm:w.m=v.m:=by
  obtain ⟨n',rfl⟩:∃n',n=n' + 1:=⟨n - 1,by omega⟩
  obtain ⟨_,σ,m⟩:=(vL t).mp h
  exact m.m.symm
 obtain ⟨qs,g',h1,h2⟩:=yV t (SM v.m) n B (λx hx=>Tj.mp hx) g (by simpa using hn) h
 have l1:v.m<=qs.length:=many (s:=0) λx hx=>h2 x (Tj.mpr hx)
 have l2:qs.length<=v.m:=tY g'
 obtain ⟨z,j⟩:=oQ hm g' (by omega)
 exact ⟨hm,_,j,λp hp=>z▸h1 p hp⟩
theorem Ll (t:Pr v w) (g:Good v w B) (hn:v.m<=n) (h:Lc v w n B=true) (j:Nat):Lc v w j B=true:=by
 obtain ⟨hm,σ,i,hs⟩:=Jd t g hn h
 exact yW t hm i j B hs
end
end K72
namespace K72
open PySem DL K01 WP K51 K52 K55 K22 K33
open K23 (Pr iG iU aP oQ oU Good jU iS bM jW i6 nq jx ne_int lY fO)
section
variable {v w:Wd}{B k:Ps}
def jv (v w:Wd) (k:Ps) (a:Nat):List Ps:=if v.m=w.m then (SM w.m).map λb=>bQ k (a,b) else []
abbrev pR (v w:Wd) (k:Ps):List D:=(SM v.m).map λa=>pq (jv v w k a)
theorem DJ (t:Pr v w) (k:Ps) (hl:k.length < 63):jG [.d v.d,.d w.d,.d (aP k)]=.ok (.l .fresh (pR v w k)):=by
 have v4:=t.v4
 have w4:=t.w4
 have hr:∀env:Ev,af 0 env=.ok (.d v.d)->b9 (ao (g2 aX (af 0) (gC (.int 0))) aD) env=.ok ((SM v.m).map dN):=λenv he=>pe (cX (two he rfl (gW _ _))) (by omega)
 by_cases hm:v.m=w.m
 ·refine b8 (jC (bM (b:=false) (two rfl rfl (gW _ _)) (two rfl rfl (gW _ _)) ?_) (bG (oA (xs:=SM v.m) (h:=dN) (λa=>pq (jv v w k a)) (hr _ rfl) (by simp;omega) λa _=>⟨_,oA (xs:=SM w.m) (h:=dN) (λb=>aP (bQ k (a,b))) (pe (cX (two rfl rfl (gW _ _))) (by omega)) (by simp;omega) λb _=>⟨_,c2 rfl (bE (aK rfl rfl (aK rfl rfl bh)) t2) (I_ k (a,b) hl),rfl⟩,?_⟩) rfl rfl))
  ·show cj true (.d (.int (v.m:Nat))) (.d (.int (w.m:Nat)))=_
   rw [ne_int,hm];simp
  ·show M.ok (D.lst ((SM w.m).map λb=>aP (bQ k (a,b))))=M.ok (pq (jv v w k a))
   unfold jv
   rw [if_pos hm,pq,T9];rfl
 ·refine b8 (cu (u6 (bM (b:=true) (two rfl rfl (gW _ _)) (two rfl rfl (gW _ _)) ?_) (bG (oA (xs:=SM v.m) (h:=dN) (λa=>pq (jv v w k a)) (hr _ rfl) (by simp;omega) λa _=>⟨_,fR bh (by decide),?_⟩) rfl rfl)))
  ·show cj true (.d (.int (v.m:Nat))) (.d (.int (w.m:Nat)))=_
   rw [ne_int,beq_eq_false_iff_ne.mpr hm];rfl
  ·unfold jv
   rw [if_neg hm];rfl
theorem wM (t:Pr v w) (k:Ps) (ks:List Ps) (f:Ps->Option Nat) (j:Nat) (x:S) (hx:x=.d (.lst (pR v w k))\/x=.bor (pR v w k)):
  gE [x,.db (ks.map aP) (ks.map λk=>dV (f k)),.d (.int j)]=.ok (.l .fresh (((SM v.m).map λa=>(SM w.m).filter λb=>decide (v.m=w.m) && (decide (bQ k (a,b)∈ks) && nN (f (bQ k (a,b))) j)).map tL)):=by
 have v4:=t.v4
 have w4:=t.w4
 rw [T9]
 refine b8 (bG (oA (xs:=SM v.m) (h:=λa=>pq (jv v w k a)) (tL ∘ λa=>(SM w.m).filter λb=>decide (v.m=w.m) && (decide (bQ k (a,b)∈ks) && nN (f (bQ k (a,b))) j)) (by rcases hx with rfl | rfl <;> rfl) (by simp;omega) λa _=>?_) rfl rfl)
 by_cases hm:v.m=w.m
 ·refine ⟨_,zE (xs:=SM w.m) dN (λb=>aP (bQ k (a,b))) (λb=>decide (bQ k (a,b)∈ks) && nN (f (bQ k (a,b))) j) dN ?_ (by simp;omega) λb _=>⟨iS (c3 rfl rfl rfl (HW ks f (bQ k (a,b)) j)),λ_=>⟨_,rfl,rfl⟩⟩,?_⟩
  ·show M.ok (mE ((jv v w k a).map aP))=_
   unfold jv mE
   rw [if_pos hm]
   congr 1
   refine Vt (by simp) λi h1 h2=>?_
   simp
  ·show M.ok (D.lst _)=M.ok (D.lst _)
   congr 2
   show _=((SM w.m).filter _).map dN
   rw [decide_eq_true hm]
   congr 1
 ·refine ⟨.l .fresh [],?_,?_⟩
  ·refine (zE (xs:=([]:List Nat)) dN dN (λ_=>true) dN ?_ (by decide) λb hb=>nomatch hb).trans rfl
   show M.ok (mE ((jv v w k a).map aP))=_
   unfold jv
   rw [if_neg hm];rfl
  ·show M.ok (D.lst [])=M.ok (D.lst _)
   congr 2
   show []=((SM w.m).filter _).map dN
   rw [decide_eq_false hm]
   simp
theorem yQ (t:Pr v w) (k:Ps) (ks:List Ps) (d:Nat) (hd:d<=6) (hk:∀p,bQ k p∈ks↔bQ k p∈T4 v w):eE [.d (.lst (pR v w k)),.db (ks.map aP) (ks.map λk=>dV (dZ (iA v w) d k))]=.ok (.d (.bl (iA v w (LZ (iA v w) d) k))):=by
 have v4:=t.v4
 have w4:=t.w4
 have e:((SM v.m).map λa=>(SM w.m).filter λb=>decide (v.m=w.m) && (decide (bQ k (a,b)∈ks) && nN (dZ (iA v w) d (bQ k (a,b))) 6))=gT v w (LZ (iA v w) d) k:=by
  unfold gT
  refine UY λa _=>XI λb _=>?_
  rw [show decide (bQ k (a,b)∈ks)=decide (bQ k (a,b)∈T4 v w) from decide_eq_decide.mpr (hk _)]
  congr 2
  cases q:dZ (iA v w) d (bQ k (a,b)) with
  | none=>exact (jL.mp q).symm
  | some e=>
   obtain ⟨h1,h2,_⟩:=Bq q
   have h3:LZ (iA v w) d (bQ k (a,b))=false:=by
    cases z:LZ (iA v w) d (bQ k (a,b)) with
    | false=>rfl
    | true=>rw [rB h2 z] at h1;cases h1
   rw [h3]
   exact decide_eq_false (by omega)
 have hc:=wM t k ks (dZ (iA v w) d) 6 (.d (.lst (pR v w k))) (.inl rfl)
 rw [e] at hc
 have lc:(gT v w (LZ (iA v w) d) k).length=v.m:=by unfold gT;simp
 have hM:=Ce (gT v w (LZ (iA v w) d) k) (by omega) (λr hr=>by
  unfold gT at hr
  obtain ⟨a,_,rfl⟩:=S3.mp hr
  refine Tz (UD _ _) ?_
  simp;omega) 6 v.m [] (by simpa using lc.symm) (by omega)
 refine b8 (bG (r:=.d (.bl (iA v w (LZ (iA v w) d) k))) (two (c2 (c3 rfl rfl rfl hc) (bE bh (by decide)) hM) rfl ?_) rfl rfl)
 show iI true (.d (oM (mb (gT v w (LZ (iA v w) d) k) v.m []))) (.d .non)=.ok (.d (.bl (mb (gT v w (LZ (iA v w) d) k) v.m []).isSome))
 cases mb (gT v w (LZ (iA v w) d) k) v.m [] <;> rfl
theorem z_ (hk:k∈kn v w B) (p:Nat×Nat):bQ k p∈kn v w B↔bQ k p∈T4 v w:=by
 rw [nQ]
 exact ⟨λh=>h.1,λh=>⟨h,λq hq=>jP.mpr (.inl ((nQ.mp hk).2 q hq))⟩⟩
theorem Ld (t:Pr v w) (hB:B.length<=100):∃f:Ps->Option Nat,d8 [.d v.d,.d w.d,.d (aP B)]=.ok (.mf ((kn v w B).map aP) ((kn v w B).map λk=>dV (f k)))/\∀j,∀k∈kn v w B,nN (f k) j=Lc v w j k:=by
 have v4:=t.v4
 have tl:=Cn t
 have kl:(kn v w B).length<=(T4 v w).length:=UD _ _
 have nd:(kn v w B).Nodup:=(B7 v w 4).filter _
 have dx:∀k∈kn v w B,∀x:R,wV x=some ((kn v w B).map aP,(kn v w B).map λk=>D.lst (pR v w k))->iN x (.d (aP k))=.ok (.d (.lst (pR v w k))):=λk hk x hx=>vX kL hx (lN k) hk
 obtain ⟨d,_,h,hs⟩:=Lg (ks:=kn v w B) (val:=λk=>.lst (pR v w k)) (x:="mapped_still") (st:=iA v w) (c1:=OV 1 2 3 "mapped_still" eE) (c2:=OV 2 3 1 "mapped_still" eE) (λd=>d<=v.m) (Tp _) (λd hd k hk h1 h2=>Nat.lt_of_le_of_ne hd λe=>by
   have:=Ll t ((mQ t).mp (nQ.mp hk).1) (aa4 e.symm) h1 (d + 1)
   rw [show Lc v w (d + 1) k=false from h2] at this
   cases this) nd (by omega)
  (λk hk d hd=>(c2 (two rfl rfl (dx k hk _ rfl)) rfl (yQ t k _ d (by omega) (z_ hk))).trans rfl) (λk hk d hd=>(c2 (two rfl rfl (dx k hk _ rfl)) rfl (yQ t k _ d (by omega) (z_ hk))).trans rfl)
 refine ⟨dZ (iA v w) d,?_,λj k hk=>LX λj q=>Dz (λL L' k hk hx=>?_) hs j k hk q⟩
 ·refine b8 (bD (Er (e:=aP) (f:=λk=>D.lst (pR v w k)) (ks:=kn v w B) kL nd ?_ (by omega) λk hk=>⟨lN k,rfl,_,c3 rfl rfl rfl (DJ t k (by have:=OQ t (nQ.mp hk).1;omega)),rfl⟩) rfl (bG (r:=.mf ((kn v w B).map aP) ((kn v w B).map λk=>dV (dZ (iA v w) d k))) ?_ rfl rfl))
  ·show (gN _ _ _ >>= _)=_
   rw [c3 rfl rfl rfl (Jc t hB)]
   rfl
  ·show (match nu [.db ((kn v w B).map aP) ((kn v w B).map λk=>D.lst (pR v w k)),.fn "mapped_still"] with
    | .ok r=>M.ok (lK r)
    | _=>.bad)=_
   rw [show nu [.db ((kn v w B).map aP) ((kn v w B).map λk=>D.lst (pR v w k)),.fn "mapped_still"]=_ from h]
   rfl
 ·rw [Ay t,Ay t]
  rintro ⟨σ,m⟩
  exact ⟨σ,m.m,m.nd,m.len,λa ha=>let ⟨a1,a2,a3⟩:=m.at_ a ha;⟨a1,a2,hx _ ((z_ hk _).mpr a2) a3⟩⟩
def uF (v w:Wd) (j:Nat):D:=pq ((T4 v w).filter (Lc v w j))
theorem DH (t:Pr v w) (n:Nat) (hn:n<=6):gM [.d v.d,.d w.d,.d (.int n)]=.ok (.l .fresh ((SM (n + 1)).map (uF v w))):=by
 obtain ⟨f,h1,h2⟩:=Ld (B:=[]) t (by decide)
 rw [Ml] at h1 h2
 refine b8 (jM (c2 rfl rfl (nq t)) (jM (c3 rfl rfl rfl (O1 n 6 hn)) (bG (c2 (c3 rfl rfl (bE bh (by decide)) h1) rfl (NT (T4 v w) f n (by omega) (by have:=Cn t;omega))) rfl ?_)))
 show O.rt (.l .fresh _)=_
 congr 2
 refine UY λj _=>?_
 unfold uF
 rw [XI λk hk=>h2 j k hk]
theorem DI (t:Pr v w) (d:D) (B:Ps) (hr:fO [.d d]=.ok (.d (aP B))) (hB:B.length < 63) (n:Nat) (hn:n < 6):gQ [.d v.d,.d w.d,.d (.int ((n + 1:Nat):Int)),.d d]=.ok (.d (oM (mb (gT v w (Lc v w n) B) v.m []))):=by
 have v4:=t.v4
 have w4:=t.w4
 obtain ⟨f,h1,h2⟩:=Ld (B:=B) t (by omega)
 have e:((SM v.m).map λa=>(SM w.m).filter λb=>decide (v.m=w.m) && (decide (bQ B (a,b)∈kn v w B) && nN (f (bQ B (a,b))) n))=gT v w (Lc v w n) B:=by
  unfold gT
  refine UY λa _=>XI λb _=>?_
  by_cases c:bQ B (a,b)∈T4 v w
  ·have c':bQ B (a,b)∈kn v w B:=nQ.mpr ⟨c,λq hq=>jP.mpr (.inl hq)⟩
   rw [decide_eq_true c,decide_eq_true c',h2 n _ c']
  ·rw [decide_eq_false c,decide_eq_false λz=>c (nQ.mp z).1]
   rfl
 have hc:=wM t B (kn v w B) f n (.bor (pR v w B)) (.inr rfl)
 rw [e] at hc
 have lc:(gT v w (Lc v w n) B).length=v.m:=by unfold gT;simp
 have hM:=Ce (gT v w (Lc v w n) B) (by omega) (λr hr=>by
  unfold gT at hr
  obtain ⟨a,_,rfl⟩:=S3.mp hr
  refine Tz (UD _ _) ?_
  simp;omega) 6 v.m [] (by simpa using lc.symm) (by omega)
 have hn':K55.dh [.d (.int ((n + 1:Nat):Int)),.d (.int 1),.d (.int 6)]=.ok (.d .non):=by
  have:n=0\/n=1\/n=2\/n=3\/n=4\/n=5:=by omega
  rcases this with rfl | rfl | rfl | rfl | rfl | rfl <;> rfl
 refine b8 (jM (c2 rfl rfl (nq t)) (jM (c3 rfl rfl rfl hn') (bD (c1 rfl hr) rfl (bD (c3 rfl rfl rfl h1) rfl (bG (c2 (c3 (c3 rfl rfl rfl (DJ t B hB)) rfl (two (z:=.d (.int (n:Int))) rfl rfl ?_) hc) (bE bh (by decide)) hM) rfl rfl)))))
 show M.ok (R.d (.int (((n + 1:Nat):Int) - 1)))=_
 rw [show ((n + 1:Nat):Int) - 1=(n:Int) by omega]
end
end K72
namespace K72
open PySem DL K01 WP K51 K52 K55
open K23 (jU iS bM Pr)
structure Pn (v w:Wd):Prop where
 t:Pr v w
 mn:(v.ms.map TZ).Nodup
 an:(v.ar.map TZ).Nodup
theorem P6 {f:List R->M R}{env:Ev}{g h:G R}{x y z:R}(hx:g env=.ok x) (hy:h env=.ok y) (hf:f [x,y]=.ok z):gN f (ao g (ao h aD)) env=.ok z:=by
 show (ao g (ao h aD) env >>= f)=_
 unfold ao aD
 rw [hx,hy]
 exact hf
theorem xh (ss:List Str) (a:Nat) (h:a<=ss.length):oJ (.l .fresh (ss.map .str)) none (some (a:Int))=.ok (.l .fresh ((ss.take a).map .str)):=by
 show M.ok (R.l .fresh (cutD (ss.map D.str) none (some (a:Int))))=_
 rw [LI _ _ (by simpa using h),Xh]
theorem HQ (u:Wd) (ps:List Nat):(iB u ps).ms.map TZ=u.ms.map TZ/\(iB u ps).ar.map TZ=u.ar.map TZ:=by
 unfold iB
 simp only [T9]
 exact ⟨rfl,rfl⟩
theorem yI {m m':Nat}{ms ms':List (Str×List Nat)}{rs rs':List (Str×List (Nat×Nat))}{A B:List Str}(h1:1<=m) (h2:m<=4) (h3:1<=m') (h4:m'<=4) (e1:ms.map TZ=A) (e2:rs.map TZ=B) (e3:ms'.map TZ=A) (e4:rs'.map TZ=B) (lA:A.length<=3) (lB:B.length<=3) (nA:A.Nodup) (nB:B.Nodup):Pn ⟨m,ms,rs⟩ ⟨m',ms',rs'⟩:=by
 have q1:=congrArg UX e1
 have q2:=congrArg UX e2
 have q3:=congrArg UX e3
 have q4:=congrArg UX e4
 rw [SK] at q1 q2 q3 q4
 exact ⟨⟨⟨h1,by show m<=8;omega,by show ms.length<=3;omega,by show rs.length<=3;omega⟩,⟨h3,by show m'<=8;omega,by show ms'.length<=3;omega,by show rs'.length<=3;omega⟩,h2,h4,e1.trans e3.symm,e2.trans e4.symm⟩,e1.symm▸nA,e2.symm▸nB⟩
theorem NU (c:Int) (sz:List Nat) (hz:1<=sz.length) (hs:∀n∈sz,1<=n/\n<=4):∃v w:Wd,jV [.d (.int c),.d (.lst (sz.map dN))]=.ok (.d (.tup [v.d,w.d]))/\Pn v w:=by
 have key:Wp (jV [.d (.int c),.d (.lst (sz.map dN))]) λr=>∃v w:Wd,r=.d (.tup [v.d,w.d])/\Pn v w:=by
  obtain ⟨xs,hx,lx,px⟩:=Lf c
  obtain ⟨X,hX⟩:∃X:Nat->Int,∀i,X i=xs.getD i 0:=⟨_,λ_=>rfl⟩
  have xi:∀(i:Nat),i < 7->∀env:Ev,af 2 env=.ok (.l .own (xs.map .int))->g2 aX (af 2) (gC (.int i)) env=.ok (.d (.int (X i))):=λi hi env he=>two he rfl (rG (by rw [hX,Tq,S5 (by omega)];simp [WX,show i < xs.length by omega]))
  have xp:∀i,0<=X i:=λi=>by
   rw [hX,WL]
   cases q:xs[i]? with
   | none=>exact Int.le_refl _
   | some y=>exact px y (Ui q)
  have x0:=xp 0
  have x2:=xp 2
  refine pG (bD (c2 rfl rfl hx) rfl ?_)
  obtain ⟨a,ha,Rk⟩:=qF (xs:=[0,1,1,2,1,3]) (h:=dN) (.l .fresh (([0,1,1,2,1,3]:List Nat).map dN)) rfl (X 1 % 6) (by omega) (by show _ < (6:Int);omega)
  have Sj:a<=3:=by simp at ha;omega
  obtain ⟨A0,RL,lA0,nA0⟩:=A3 (X 0) x0
  refine bD (kT (c2 (xi 0 (by decide) _ rfl) rfl RL) rfl (kQ (two (fR rfl (by show 6<=1000;decide)) (two (xi 1 (by decide) _ rfl) rfl (cZ _ 6 (by decide))) Rk)) (xh A0 a (by omega))) rfl ?_
  obtain ⟨A,hA⟩:∃A,A=A0.take a:=⟨_,rfl⟩
  have lA:A.length<=3:=by rw [hA,UE];omega
  have nA:A.Nodup:=hA▸(WD a A0).nodup nA0
  rw [<-hA]
  obtain ⟨n2,_,hn2⟩:=qF (xs:=[X 2,X 0]) (h:=D.int) (.l .fresh [.int (X 2),.int (X 0)]) rfl (X 1 / 6 % 4 / 3) (by omega) (by show _ < (2:Int);omega)
  have n2p:0<=n2:=by
   rename_i h
   simp at h
   rcases h with rfl | rfl
   ·exact x2
   ·exact x0
  obtain ⟨b,hb,RY⟩:=qF (xs:=[1,1,2,0,1,3]) (h:=dN) (.l .fresh (([1,1,2,0,1,3]:List Nat).map dN)) rfl (X 1 / 24 % 6) (by omega) (by show _ < (6:Int);omega)
  have Sk:b<=3:=by simp at hb;omega
  obtain ⟨B0,RM,lB0,nB0⟩:=A3 n2 n2p
  refine bD (kT (c2 (two (fR (aK (xi 2 (by decide) _ rfl) rfl (aK (xi 0 (by decide) _ rfl) rfl bh)) (by show 2<=1000;decide)) (two (two (two (xi 1 (by decide) _ rfl) rfl (gn _ 6 (by decide) (by decide))) rfl (cZ _ 4 (by decide))) rfl (gn _ 3 (by decide) (by decide))) hn2) rfl RM) rfl (kQ (two (fR rfl (by show 6<=1000;decide)) (two (two (xi 1 (by decide) _ rfl) rfl (gn _ 24 (by decide) (by decide))) rfl (cZ _ 6 (by decide))) RY)) (xh B0 b (by omega))) rfl ?_
  obtain ⟨B,hB⟩:∃B,B=B0.take b:=⟨_,rfl⟩
  have lB:B.length<=3:=by rw [hB,UE];omega
  have nB:B.Nodup:=hB▸(WD b B0).nodup nB0
  rw [<-hB]
  have zp:(0:Int) < (sz.length:Nat):=by omega
  have len:∀env:Ev,af 1 env=.ok (.d (.lst (sz.map dN)))->gN e_ (ao (af 1) aD) env=.ok (.d (.int (sz.length:Nat))):=λenv he=>n1 he (by show M.ok (R.d (.int ((sz.map dN).length:Nat)))=_;rw [SK])
  have pick:∀i:Int,∃m,1<=m/\m<=4/\aX (.d (.lst (sz.map dN))) (.d (.int (i % (sz.length:Nat))))=.ok (.d (dN m)):=λi=>by
   obtain ⟨m,hm,e⟩:=qF (xs:=sz) (h:=dN) (.d (.lst (sz.map dN))) rfl (i % (sz.length:Nat)) (Xp _ (by omega)) (Xm _ zp)
   exact ⟨m,(hs m hm).1,(hs m hm).2,e⟩
  obtain ⟨m,m1,m4,hm⟩:=pick (X 1 / 144)
  refine bD (two rfl (two (two (xi 1 (by decide) _ rfl) rfl (gn _ 144 (by decide) (by decide))) (len _ rfl) (cZ _ _ zp)) hm) rfl ?_
  obtain ⟨f,_,hf⟩:=qF (xs:=[0,2 ^ 60 - 1,X 3,X 3,X 3,X 3]) (h:=D.int) (.l .fresh (([0,2 ^ 60 - 1,X 3,X 3,X 3,X 3]:List Int).map D.int)) rfl (X 1 / 10000 % 6) (by omega) (by show _ < (6:Int);omega)
  refine bD (two (fR (aK rfl rfl (aK (two rfl rfl (yK (2 ^ 60) 1)) rfl (aK (xi 3 (by decide) _ rfl) rfl (aK (xi 3 (by decide) _ rfl) rfl (aK (xi 3 (by decide) _ rfl) rfl (aK (xi 3 (by decide) _ rfl) rfl bh)))))) (by show 6<=1000;decide)) (two (two (xi 1 (by decide) _ rfl) rfl (gn _ 10000 (by decide) (by decide))) rfl (cZ _ 6 (by decide))) hf) rfl ?_
  obtain ⟨ms,rs,hw,e1,e2,ib⟩:=A5 m m4 A B lA lB f
  have world:∀(m:Nat),1<=m->m<=4->∀n:Int,∃ms rs,dR [.d (.int m),.d (.lst (A.map .str)),.d (.lst (B.map .str)),.d (.int n)]=.ok (.d (Wd.d ⟨m,ms,rs⟩))/\ms.map TZ=A/\rs.map TZ=B/\DM 16 ⟨m,ms,rs⟩:=λm _ h n=>A5 m h A B lA lB n
  have turn:∀{ms rs},ms.map TZ=A->rs.map TZ=B->DM 16 ⟨m,ms,rs⟩->∃ms' rs',eZ [.d (Wd.d ⟨m,ms,rs⟩),.d (.int (X 5))]=.ok (.d (Wd.d ⟨m,ms',rs'⟩))/\ms'.map TZ=A/\rs'.map TZ=B:=fun {ms rs} h1 h2 h3=>by
   have q1:=congrArg UX h1
   have q2:=congrArg UX h2
   rw [SK] at q1 q2
   obtain ⟨ps,hp⟩:=Lh ⟨m,ms,rs⟩ ⟨m1,by show m<=8;omega,by show ms.length<=3;omega,by show rs.length<=3;omega⟩ h3 m4 (X 5)
   obtain ⟨t1,t2⟩:=HQ ⟨m,ms,rs⟩ ps
   exact ⟨_,_,hp,t1.trans h1,t2.trans h2⟩
  refine cu (rV rfl (rV rfl (fM (c4 rfl rfl rfl rfl hw) rfl (bD (two (xi 4 (by decide) _ rfl) rfl (cZ _ 5 (by decide))) rfl ?_))))
  refine cu (iO (c:=bg (.int (X 4 % 5)) (.int 0)) (bM rfl rfl rfl) (λ_=>?_) λ_=>fc ?_)
  ·obtain ⟨ms',rs',ht,t1,t2⟩:=turn e1 e2 ib
   exact bG (bE (aK rfl rfl (aK (c2 rfl (xi 5 (by decide) _ rfl) ht) rfl bh)) (by show 2<=1000;decide)) rfl ⟨_,rfl,_,_,rfl,yI m1 m4 m1 m4 e1 e2 t1 t2 lA lB nA nB⟩
  refine cu (iO (c:=bg (.int (X 4 % 5)) (.int 1)) (bM rfl rfl rfl) (λ_=>?_) λ_=>fc ?_)
  ·have QG:m * m<=16:=Wr m4 m4
   have q1:m * A.length<=12:=Wr m4 lA
   have q2:m * m * B.length<=48:=Wr QG lB
   obtain ⟨bt,RT,b1,b60⟩:∃bt:Nat,CJ [.d (.int 1),.d (.int ((m:Int) * (A.length:Nat) + (m:Int) * m * (B.length:Nat)))]=.ok (.d (.int (bt:Int)))/\1<=bt/\bt<=60:=by
    refine ⟨max 1 (m * A.length + m * m * B.length),?_,by omega,by omega⟩
    show M.ok (R.d (.int (if (m:Int) * (A.length:Nat) + (m:Int) * m * (B.length:Nat) > 1 then (m:Int) * (A.length:Nat) + (m:Int) * m * (B.length:Nat) else 1)))=_
    rw [show (m:Int) * (A.length:Nat) + (m:Int) * m * (B.length:Nat)=((m * A.length + m * m * B.length:Nat):Int) by simp]
    congr 3
    split <;> omega
   obtain ⟨k,hk,Sm⟩:=K33.rN (X 4 / 5) bt (by omega)
   have hix:∀env:Ev,af 2 env=.ok (.l .own (xs.map .int))->af 9 env=.ok (.d (.int (bt:Int)))->g2 dB (g2 gf (g2 aX (af 2) (gC (.int 4))) (gC (.int 5))) (af 9) env=.ok (.d (.int (k:Int))):=λenv h2 h9=>(two (two (xi 4 (by decide) env h2) rfl (gn _ 5 (by decide) (by decide))) h9 (cZ _ _ (by omega))).trans (by rw [hk])
   obtain ⟨f',hf'⟩:=Le f k (by omega)
   obtain ⟨ms2,rs2,Q_,g1,g2',ib2⟩:=world m m1 m4 f'
   obtain ⟨ms',rs',ht,t1,t2⟩:=turn g1 g2' ib2
   have lnA:∀env:Ev,af 3 env=.ok (.d (.lst (A.map .str)))->gN e_ (ao (af 3) aD) env=.ok (.d (.int (A.length:Nat))):=λenv he=>n1 he (by show M.ok (R.d (.int ((A.map D.str).length:Nat)))=_;rw [SK])
   have lnB:∀env:Ev,af 4 env=.ok (.d (.lst (B.map .str)))->gN e_ (ao (af 4) aD) env=.ok (.d (.int (B.length:Nat))):=λenv he=>n1 he (by show M.ok (R.d (.int ((B.map D.str).length:Nat)))=_;rw [SK])
   exact bD (P6 rfl (two (two rfl (lnA _ rfl) (gI _ _ (by omega) (by omega))) (two (two rfl rfl (gI _ _ (by omega) (by omega))) (lnB _ rfl) (gI _ _ (by omega) (by omega))) (lU _ _)) RT) rfl (bD (c4 rfl rfl rfl (c2 rfl (hix _ rfl rfl) hf') Q_) rfl (bG (bE (aK rfl rfl (aK (c2 rfl (xi 5 (by decide) _ rfl) ht) rfl bh)) (by show 2<=1000;decide)) rfl ⟨_,rfl,_,_,rfl,yI m1 m4 m1 m4 e1 e2 t1 t2 lA lB nA nB⟩))
  obtain ⟨m',m1',m4',hm'⟩:=pick (X 6)
  refine bD (two rfl (two (xi 6 (by decide) _ rfl) (len _ rfl) (cZ _ _ zp)) hm') rfl ?_
  refine cu (iO (c:=bg (.int (X 4 % 5)) (.int 2)) (bM rfl rfl rfl) (λ_=>?_) λ_=>fc ?_)
  ·obtain ⟨ms2,rs2,Q_,g1,g2',ib2⟩:=world m' m1' m4' f
   exact bG (bE (aK rfl rfl (aK (c4 rfl rfl rfl rfl Q_) rfl bh)) (by show 2<=1000;decide)) rfl ⟨_,rfl,_,_,rfl,yI m1 m4 m1' m4' e1 e2 g1 g2' lA lB nA nB⟩
  ·obtain ⟨ms2,rs2,Q_,g1,g2',ib2⟩:=world m' m1' m4' (X 5)
   exact bG (bE (aK rfl rfl (aK (c4 rfl rfl rfl (xi 5 (by decide) _ rfl) Q_) rfl bh)) (by show 2<=1000;decide)) rfl ⟨_,rfl,_,_,rfl,yI m1 m4 m1' m4' e1 e2 g1 g2' lA lB nA nB⟩
 obtain ⟨_,h,v,w,rfl,hk⟩:=key
 exact ⟨v,w,h,hk⟩
end K72
namespace K72
open PySem DL K01 WP K51 K52 K55 K22
open K23 (jU iS bM Pr aP jW i6 Good lD prs gb LG told fP j6 om lE qz k_ oZ rZ iY iZ u7 fs CS)
section
variable {α:Type} [BEq α] [LawfulBEq α] {h:α->D}
noncomputable def nD (Sz:List (Str×List α)) (nm:Str) (x:α):Bool:=match Sz.find? λr=>decide (r.1=nm) with
 | some r=>decide (x∈r.2)
 | none=>false
theorem eq_str (a b:Str):bg (.str a) (.str b)=decide (a=b):=by
 unfold bg
 rw [Uq,beq_iff_eq,decide_eq_true_eq]
theorem Lb (hin:∀(x:α) (xs:List α),fk false (.d (h x)) (.d (.tup (xs.map h)))=.ok (.d (.bl (decide (x∈xs))))) (Sz:List (Str×List α)) (nm:Str) (x:α):
  lC [.d (.tup (Sz.map λr=>.tup [.str r.1,.tup (r.2.map h)])),.d (.str nm),.d (h x)]=.ok (.d (.bl (nD Sz nm x))):=by
 refine b8 (d_ (ds:=Sz.map λr=>.tup [.str r.1,.tup (r.2.map h)]) rfl ?_)
 obtain ⟨R0,RQ⟩:∃R0:S,R0=.d (.tup (Sz.map λr=>.tup [.str r.1,.tup (r.2.map h)])):=⟨_,rfl⟩
 have key:∀(rs:List (Str×List α)) (a b:Option S),Wp (fh (dF 2 (bx (aC 3) (bx (aC 4) dM))) (bK (br (g2 (cj false) (af 3) (af 1))) (bq (g2 (fk false) (af 2) (af 4))) cS) (rs.map λr=>.tup [.str r.1,.tup (r.2.map h)]) [some R0,some (.d (.str nm)),some (.d (h x)),a,b]) λo=>match rs.find? (λr=>decide (r.1=nm)) with
   | some r=>o=.rt (.d (.bl (decide (x∈r.2))))
   | none=>∃e,o=.nx e:=by
  intro rs
  induction rs with
  | nil=>exact λa b=>⟨_,rfl,_,rfl⟩
  | cons r rs ih=>
   intro a b
   rw [Td,List.find?_cons]
   show Wp (dF 2 (bx (aC 3) (bx (aC 4) dM)) (.tup [.str r.1,.tup (r.2.map h)]) _ >>= _) _
   rw [show dF 2 (bx (aC 3) (bx (aC 4) dM)) (.tup [.str r.1,.tup (r.2.map h)]) [some R0,some (.d (.str nm)),some (.d (h x)),a,b]=.ok [some R0,some (.d (.str nm)),some (.d (h x)),some (.d (.str r.1)),some (.d (.tup (r.2.map h)))] from rfl,aO]
   have ht:br (g2 (cj false) (af 3) (af 1)) [some R0,some (.d (.str nm)),some (.d (h x)),some (.d (.str r.1)),some (.d (.tup (r.2.map h)))]=.ok (decide (r.1=nm)):=by
    refine bM rfl rfl ((mF false (.d (.str r.1)) (.d (.str nm)) (Tp _) (Tp _)).trans ?_)
    show M.ok (R.d (.bl (bg (.str r.1) (.str nm))))=_
    rw [eq_str]
   cases q:decide (r.1=nm) with
   | true=>
    rw [q] at ht
    rw [kZ ht,show bq (g2 (fk false) (af 2) (af 4)) [some R0,some (.d (.str nm)),some (.d (h x)),some (.d (.str r.1)),some (.d (.tup (r.2.map h)))]=.ok (.rt (.d (.bl (decide (x∈r.2))))) from FE (two rfl rfl (hin x r.2)) rfl]
    exact ⟨_,rfl,rfl⟩
   | false=>
    rw [q] at ht
    rw [nM ht]
    exact ih _ _
 have k0:=key Sz none none
 rw [RQ] at k0
 refine k0.mono λo ho=>?_
 unfold nD
 cases q:Sz.find? λr=>decide (r.1=nm) with
 | some r=>rw [q] at ho;rw [ho]
 | none=>
  rw [q] at ho
  obtain ⟨e,rfl⟩:=ho
  exact bG rfl rfl rfl
theorem NY {Sz:List (Str×List α)}(nd:(Sz.map TZ).Nodup){i:Nat}(hi:i < Sz.length) (x:α):nD Sz Sz[i].1 x=decide (x∈Sz[i].2):=by
 unfold nD
 have:Sz.find? (λr=>decide (r.1=Sz[i].1))=some Sz[i]:=by
  rw [List.find?_eq_some_iff_getElem]
  refine ⟨decide_eq_true rfl,i,hi,rfl,λj hj=>?_⟩
  have:=(Ug.mp nd) j i (by simp;omega) (by simpa using hi) hj
  rw [UG,UG] at this
  simpa using this
 rw [this]
theorem Bg {A B:List (Str×List α)}(he:A.map TZ=B.map TZ) (nd:(A.map TZ).Nodup) (x y:α):(A.all λr=>decide (x∈r.2) == nD B r.1 y)=(A.zip B).all λr=>decide (x∈r.1.2) == decide (y∈r.2.2):=by
 have hl:A.length=B.length:=by have:=congrArg UX he;simpa using this
 rw [show (A.all λr=>decide (x∈r.2) == nD B r.1 y)=((A.zip B).map TZ).all λr=>decide (x∈r.2) == nD B r.1 y by rw [abi (by omega)],Yy,Uq,Tu,Tu]
 have e:∀r∈A.zip B,nD B r.1.1 y=decide (y∈r.2.2):=λr hr=>by
  obtain ⟨i,hi,rfl⟩:=Uj.mp hr
  have R3:i < A.length:=by simp at hi;omega
  have RI:i < B.length:=by omega
  rw [List.getElem_zip]
  have:A[i].1=B[i].1:=by
   have:=congrArg (λl:List Str=>l[i]?) he
   simpa [R3,RI] using this
  show nD B A[i].1 y=_
  rw [this,NY (he▸nd) RI]
 exact ⟨λh r hr=>by have:=h r hr;rw [<-e r hr];exact this,λh r hr=>by have:=h r hr;rw [<-e r hr] at this;exact this⟩
end
variable {v w:Wd}
theorem EH (x:Nat) (xs:List Nat):fk false (.d (dN x)) (.d (.tup (xs.map dN)))=.ok (.d (.bl (decide (x∈xs)))):=(uY false (dN x) (xs.map dN) (zG _) (Tp _)).trans (by rw [K55.inN];rfl)
theorem EI (x:Nat×Nat) (xs:List (Nat×Nat)):fk false (.d (dP x)) (.d (.tup (xs.map dP)))=.ok (.d (.bl (decide (x∈xs)))):=(uY false (dP x) (xs.map dP) (zH _) (by show 1<=60;decide)).trans (by rw [K55.LY];rfl)
abbrev eT (v w:Wd) (ps:List (Nat×Nat)) (r:List (Option S)):Ev:=some (.d v.d)::some (.d w.d)::some (.d (aP ps))::r
theorem NS (t:Pn v w) (ps:List (Nat×Nat)):iV [.d v.d,.d w.d,.d (aP ps)]=.ok (.d (.bl (v5 v w ps))):=by
 refine b8 (IT (h:=dP) (λenv=>∃a b c d e f g:Option S,env=eT v w ps [a,b,c,d,e,f,g]) (λp=>mB v w p && ps.all λq=>eB p q && aB v w p q) ps rfl ⟨none,none,none,none,none,none,none,rfl⟩ ?_ (λz e _=>bG rfl rfl (by unfold v5;rw [z])) (λz=>by unfold v5;rw [z]))
 rintro p _ _ ⟨_,_,c0,d0,e0,f0,g0,rfl⟩
 refine ⟨eT v w ps [some (.d (dN p.1)),some (.d (dN p.2)),c0,d0,e0,f0,g0],rfl,?_⟩
 have em:=Bg t.t.mn t.mn p.1 p.2
 refine IT (h:=kB) (λenv=>∃c d e f g:Option S,env=eT v w ps [some (.d (dN p.1)),some (.d (dN p.2)),c,d,e,f,g]) (λr=>decide (p.1∈r.2) == nD w.ms r.1 p.2) v.ms ?_ ⟨c0,d0,e0,f0,g0,rfl⟩ ?_ (λz e he=>?_) (λz=>.inr ⟨by show (mB v w p && _)=false;unfold mB;rw [<-em,z];rfl,rfl⟩)
 ·show (g2 aX (af 0) (gC (.int 1)) _ >>= _)=_
  rw [two (x:=.d v.d) rfl rfl (EN _ _ _)]
  rfl
 ·rintro r _ _ ⟨_,_,e0,f0,g0,rfl⟩
  refine ⟨eT v w ps [some (.d (dN p.1)),some (.d (dN p.2)),some (.d (.str r.1)),some (.d (.tup (r.2.map dN))),e0,f0,g0],rfl,?_⟩
  refine iO (c:=!(decide (p.1∈r.2) == nD w.ms r.1 p.2)) (bM (two rfl rfl (EH _ _)) (c3 (two rfl rfl (EN _ _ _)) rfl rfl (Lb (h:=dN) EH w.ms r.1 p.2)) ((K22.CF ..).trans rfl)) (λz=>bG rfl rfl (.inr ⟨by simpa using z,rfl⟩)) (λz=>fc (.inl ⟨by simpa using z,_,rfl,_,_,_,_,_,rfl⟩))
 ·obtain ⟨c0,d0,e0,f0,g0,rfl⟩:=he
  have hm:mB v w p=true:=by unfold mB;rw [<-em];exact z
  refine (IE (h:=dP) (λenv=>∃c d e f g:Option S,env=eT v w ps [some (.d (dN p.1)),some (.d (dN p.2)),c,d,e,f,g]) (λq=>eB p q && aB v w p q) ps rfl ⟨c0,d0,e0,f0,g0,rfl⟩ ?_).mono ?_
  ·rintro q _ _ ⟨c0,d0,_,_,g0,rfl⟩
   refine ⟨eT v w ps [some (.d (dN p.1)),some (.d (dN p.2)),c0,d0,some (.d (dN q.1)),some (.d (dN q.2)),g0],rfl,?_⟩
   have he:br (g2 (cj true) (g2 (cj false) (af 3) (af 7)) (g2 (cj false) (af 4) (af 8))) (eT v w ps [some (.d (dN p.1)),some (.d (dN p.2)),c0,d0,some (.d (dN q.1)),some (.d (dN q.2)),g0])=.ok (!eB p q):=by
    refine bM (two rfl rfl (mF false (.d (dN p.1)) (.d (dN q.1)) (Tp _) (Tp _))) (two rfl rfl (mF false (.d (dN p.2)) (.d (dN q.2)) (Tp _) (Tp _))) ?_
    show cj true (.d (.bl (bg (dN p.1) (dN q.1)))) (.d (.bl (bg (dN p.2) (dN q.2))))=_
    rw [K55.uK,K55.uK,K22.CF]
    rfl
   cases hc:eB p q with
   | false=>
    rw [hc] at he
    exact Ot he (Oq rfl rfl (.inr ⟨rfl,rfl⟩))
   | true=>
    rw [hc] at he
    refine jC he ?_
    have ea:=Bg t.t.an t.an (p.1,q.1) (p.2,q.2)
    refine (IE (h:=pg) (λenv=>∃c d g:Option S,env=eT v w ps [some (.d (dN p.1)),some (.d (dN p.2)),c,d,some (.d (dN q.1)),some (.d (dN q.2)),g]) (λr=>decide ((p.1,q.1)∈r.2) == nD w.ar r.1 (p.2,q.2)) v.ar ?_ ⟨c0,d0,g0,rfl⟩ ?_).mono ?_
    ·show (g2 aX (af 0) (gC (.int 2)) _ >>= _)=_
     rw [two (x:=.d v.d) rfl rfl (L_ _ _ _ _)]
     rfl
    ·rintro r _ _ ⟨_,d0,_,rfl⟩
     refine ⟨eT v w ps [some (.d (dN p.1)),some (.d (dN p.2)),some (.d (.str r.1)),d0,some (.d (dN q.1)),some (.d (dN q.2)),some (.d (.tup (r.2.map dP)))],rfl,?_⟩
     refine iO (c:=!(decide ((p.1,q.1)∈r.2) == nD w.ar r.1 (p.2,q.2))) (bM (two (bE (aK rfl rfl (aK rfl rfl bh)) t2) rfl (EI (p.1,q.1) r.2)) (c3 (two rfl rfl (L_ _ _ _ _)) rfl (bE (aK rfl rfl (aK rfl rfl bh)) t2) (Lb (h:=dP) EI w.ar r.1 (p.2,q.2))) ((K22.CF ..).trans rfl)) (λz=>bG rfl rfl (.inr ⟨by simpa using z,rfl⟩)) (λz=>fc (.inl ⟨by simpa using z,_,rfl,_,_,_,rfl⟩))
    ·rintro o (⟨z,e,rfl,c1,d1,g1,rfl⟩ | ⟨z,rfl⟩)
     ·exact .inl ⟨by show (true && aB v w p q)=true;unfold aB;rw [<-ea,z];rfl,_,rfl,c1,d1,_,_,g1,rfl⟩
     ·exact .inr ⟨by show (true && aB v w p q)=false;unfold aB;rw [<-ea,z];rfl,rfl⟩
  ·rintro o (⟨z,e,rfl,c1,d1,e1,f1,g1,rfl⟩ | ⟨z,rfl⟩)
   ·exact .inl ⟨by rw [hm,z];rfl,_,rfl,_,_,_,_,_,_,_,rfl⟩
   ·exact .inr ⟨by rw [hm,z];rfl,rfl⟩
noncomputable def lI (v w:Wd) (ps:List (Nat×Nat)) (q:Nat×Nat):Bool:=(match ps.getLast? with
 | some l=>d7 (dP l) (dP q)
 | none=>true) && v5 v w (ps++[q])
theorem LD (t:Pr v w){ps:List (Nat×Nat)}(g:Good v w ps){q:Nat×Nat}(hq:lD v w q):lI v w ps q=(iY v w q q && gb v w ps q):=by
 rw [Uq,SN]
 constructor
 ·intro h
  unfold lI at h
  rw [SN,Bv t] at h
  have hp:q∈prs v w:=k_.mpr ⟨hq,h.2 q (by simp) q (by simp)⟩
  refine ⟨(iZ ..).mpr (k_.mp hp).2,(qz g hp).mpr (ED g hq (λrs l e=>?_) h.2)⟩
  subst e
  have:=h.1
  rw [WO] at this
  exact (u7 l q).mp this
 ·rintro ⟨h1,h2⟩
  have hp:q∈prs v w:=k_.mpr ⟨hq,(iZ ..).mp h1⟩
  have g':=(qz g hp).mp h2
  unfold lI
  rw [SN,Bv t]
  refine ⟨?_,g'.ag⟩
  cases e:ps.getLast? with
  | none=>rfl
  | some l=>
   obtain ⟨rs,rfl⟩:=K23.rK e
   refine (u7 l q).mpr (.inl ?_)
   have:=g'.up
   rw [VB] at this
   have:=(UN.mp this).2.1
   exact (VQ.mp this).1 q (by simp)
def ku (v w:Wd) (ps:List (Nat×Nat)) (a:Nat):List (List (Nat×Nat)):=((SM w.m).filter λb=>lI v w ps (a,b)).map λb=>ps++[(a,b)]
theorem LQ (t:Pr v w){ps:List (Nat×Nat)}(g:Good v w ps):(SM v.m).flatMap (ku v w ps)=((prs v w).filter (gb v w ps)).map λq=>ps++[q]:=by
 unfold prs fP
 rw [List.filter_filter,aac,X6]
 rw [X8,X8]
 congr 1
 refine UY λa ha=>?_
 unfold ku
 rw [abO,T9]
 congr 1
 refine XI λb hb=>?_
 rw [LD t g ⟨Tj.mp ha,Tj.mp hb⟩,Bool.and_comm]
 rfl
theorem Mm {env:Ev}{i:Nat}{g:G R}{r:R}{Q:O->Prop}{xs:List D}{d:D}(h0:env[i]?=some (some (.own xs))) (h:g env=.ok r) (h2:toD r=.ok d) (hl:xs.length<=1000000) (k:Q (.nx (env.set i (some (.own (xs++[d])))))):Wp (gK i g env) Q:=by
 refine ⟨_,?_,k⟩
 unfold gK
 rw [h0]
 show (g env >>= _)=_
 rw [h,aO,h2,aO,if_pos (YB hl (by decide))]
theorem Bh {env:Ev}{a b:G Bool}{x y:Bool}(h:a env=.ok x) (h2:b env=.ok y):jq a b env=.ok (x && y):=by
 cases x with
 | true=>exact i6 h h2
 | false=>exact jW h
abbrev eG (v w:Wd) (n:Nat) (F:List (List (Nat×Nat))) (r:List (Option S)):Ev:=some (.d v.d)::some (.d w.d)::some (.d (.int n))::some (.own (F.map aP))::r
theorem LF (t:Pn v w) (ps:List (Nat×Nat)) (hl:ps.length < 63) (a b:Nat){env:Ev}(h0:af 0 env=.ok (.d v.d)) (h1:af 1 env=.ok (.d w.d)) (h7:af 7 env=.ok (.d (aP ps))) (h8:af 8 env=.ok (.d (dN a))) (h9:af 9 env=.ok (.d (dN b))):
  jq (ju (br (g2 (cj false) (af 7) (bz aQ))) (br (g2 tR (g2 aX (af 7) (v_ (gC (.int 1)))) (bz (az (af 8) (az (af 9) aQ)))))) (br (gN (aS 3 K72.iV) (ao (af 0) (ao (af 1) (ao (g2 cg (af 7) (bz (az (bz (az (af 8) (az (af 9) aQ))) aQ))) aD))))) env=.ok (lI v w ps (a,b)):=by
 have ht:bz (az (af 8) (az (af 9) aQ)) env=.ok (.d (dP (a,b))):=bE (aK h8 rfl (aK h9 rfl bh)) t2
 refine Bh ?_ (iS (c3 h0 h1 (two h7 (bE (aK ht rfl bh) (by show 1<=1000;decide)) (K33.zB ps (a,b) hl)) (NS t _)))
 have he:=bM (f:=cj false) h7 (bE (env:=env) bh (by decide)) (mF false (.d (aP ps)) (.d (aP [])) (qN _) (qN _))
 rcases U3 ps with rfl | ⟨rs,l,rfl⟩
 ·exact K35.MM he
 ·rw [U4] at h7 he ⊢
  rw [show bg (R.dat (.d (aP (rs++[l])))) (R.dat (.d (aP [])))=false by
   show bg (.tup _) (.tup _)=false
   rw [jN,Th]
   cases rs <;> rfl] at he
  rw [WO]
  refine ve he (bM (two h7 rfl ?_) ht (N8 l (a,b)))
  show aX (.d (.tup ((rs++[l]).map dP))) (.d (.int (-1)))=_
  rw [Th]
  exact BE _ _
theorem Jb (t:Pn v w) (n:Nat) (hn:n<=4):h_ [.d v.d,.d w.d,.d (.int n)]=.ok (.l .fresh ((told v w n).map aP)):=by
 have v4:=t.t.v4
 have w4:=t.t.w4
 have one:dJ (az (bz aQ) aQ)=λ_=>.ok (.l .fresh [.tup []]):=by
  funext env
  exact fR (aK (bE bh (by decide)) rfl bh) (by show 1<=1000;decide)
 refine b8 (bD (r:=.l .fresh ([[]].map aP)) (by rw [one];rfl) rfl (cu (K23.NP rfl (fM (r:=.l .fresh ([[]].map aP)) (by rw [one];rfl) rfl (d_ (jB (n:=n) rfl (by omega)) ?_)))))
 refine iw (n:=n) (λk env=>∃x y a b c:Option S,env=eG v w n (told v w k) [some (fs k ((LG v w k).map aP)),x,y,a,b,c]) ⟨none,none,none,none,none,rfl⟩ ?_ ?_
 ·rintro k hk _ ⟨x,y,a,b,c,rfl⟩
  refine ⟨_,rfl,bD rfl rfl ?_⟩
  have l0:=lE t.t k
  have l1:=lE t.t (k + 1)
  have p0:(16:Nat) ^ k<=16 ^ 3:=Vv (by decide) (by omega)
  have p1:(16:Nat) ^ (k + 1)<=16 ^ 4:=Vv (by decide) (by omega)
  have p2:(16:Nat) ^ 3=4096:=by decide
  have p3:(16:Nat) ^ 4=65536:=by decide
  have le:∀(ps:List (Nat×Nat)) (a:Nat),(ku v w ps a).length<=4:=λps a=>by
   unfold ku
   rw [SK]
   refine Tz (UD _ _) (by simpa using w4)
  have lf:∀(ps:List (Nat×Nat)) (i:Nat),i<=4->((SM i).flatMap (ku v w ps)).length<=16:=λps i hi=>by
   have:=K23.oO (ku v w ps) 4 (SM i) λa _=>le ps a
   rw [Vf] at this
   omega
  have loop:Wp (b_ (fm (af 4)) (aC 7) (b_ (b9 (ao (g2 aX (af 0) (gC (.int 0))) aD)) (aC 8) (b_ (b9 (ao (g2 aX (af 1) (gC (.int 0))) aD)) (aC 9) (bK (jq (ju (br (g2 (cj false) (af 7) (bz aQ))) (br (g2 tR (g2 aX (af 7) (v_ (gC (.int 1)))) (bz (az (af 8) (az (af 9) aQ)))))) (br (gN (aS 3 K72.iV) (ao (af 0) (ao (af 1) (ao (g2 cg (af 7) (bz (az (bz (az (af 8) (az (af 9) aQ))) aQ))) aD)))))) (gK 6 (g2 cg (af 7) (bz (az (bz (az (af 8) (az (af 9) aQ))) aQ)))) cS))) (eG v w n (told v w k) [some (.d (.lst ((LG v w k).map aP))),some (.d (.int k)),some (.own []),a,b,c]))
    (λo=>∃e,o=.nx e/\∃a b c:Option S,e=eG v w n (told v w k) [some (.d (.lst ((LG v w k).map aP))),some (.d (.int k)),some (.own ((LG v w (k + 1)).map aP)),a,b,c]):=by
   refine mP (ds:=(LG v w k).map aP) rfl ?_
   refine kh (λj env=>∃a b c:Option S,env=eG v w n (told v w k) [some (.d (.lst ((LG v w k).map aP))),some (.d (.int k)),some (.own ((((LG v w k).take j).flatMap λps=>(SM v.m).flatMap (ku v w ps)).map aP)),a,b,c]) _ ⟨a,b,c,rfl⟩ ?_ ?_
   ·rintro j hj _ ⟨a,b,c,rfl⟩
    rw [SK] at hj
    rw [UG]
    obtain ⟨ps,hps⟩:∃ps,ps=(LG v w k)[j]:=⟨_,rfl⟩
    have lps:ps.length=k:=(om k (hps▸T3 hj)).1
    rw [<-hps]
    obtain ⟨M0,Rc⟩:∃M0,M0=((LG v w k).take j).flatMap λps=>(SM v.m).flatMap (ku v w ps):=⟨_,rfl⟩
    have lM0:M0.length<=65536:=by
     have:=K23.oO (λps=>(SM v.m).flatMap (ku v w ps)) 16 ((LG v w k).take j) λps _=>lf ps v.m v4
     rw [<-Rc,UE] at this
     omega
    rw [<-Rc]
    refine ⟨_,rfl,mP (jB (n:=v.m) (cX (two rfl rfl (gW _ _))) (by omega)) ?_⟩
    refine iw (n:=v.m) (λi env=>∃b c:Option S,env=eG v w n (told v w k) [some (.d (.lst ((LG v w k).map aP))),some (.d (.int k)),some (.own ((M0++(SM i).flatMap (ku v w ps)).map aP)),some (.d (aP ps)),b,c]) ⟨b,c,by simp⟩ ?_ ?_
    ·rintro i hi _ ⟨b,c,rfl⟩
     obtain ⟨M1,Rf⟩:∃M1,M1=M0++(SM i).flatMap (ku v w ps):=⟨_,rfl⟩
     have lM1:M1.length<=65552:=by rw [Rf,Te];have:=lf ps i (by omega);omega
     rw [<-Rf]
     refine ⟨_,rfl,mP (jB (n:=w.m) (cX (two rfl rfl (gW _ _))) (by omega)) ?_⟩
     refine iw (n:=w.m) (λx env=>∃c:Option S,env=eG v w n (told v w k) [some (.d (.lst ((LG v w k).map aP))),some (.d (.int k)),some (.own ((M1++((SM x).filter λb=>lI v w ps (i,b)).map λb=>ps++[(i,b)]).map aP)),some (.d (aP ps)),some (.d (.int i)),c]) ⟨c,by simp⟩ ?_ ?_
     ·rintro x hx _ ⟨c,rfl⟩
      refine ⟨_,rfl,iO (LF t ps (by omega) i x rfl rfl rfl rfl rfl) (λz=>?_) λz=>?_⟩
      ·refine Mm rfl (two rfl (bE (aK (bE (aK rfl rfl (aK rfl rfl bh)) t2) rfl bh) (by show 1<=1000;decide)) (K33.zB ps (i,x) (by omega))) rfl ?_ ⟨_,rfl,some (.d (.int x)),?_⟩
       ·have:=UD (λb=>lI v w ps (i,b)) (SM x)
        rw [Vf] at this
        rw [SK,Te,SK]
        omega
       ·have e:((SM (x + 1)).filter λb=>lI v w ps (i,b)).map (λb=>ps++[(i,b)])=((SM x).filter λb=>lI v w ps (i,b)).map (λb=>ps++[(i,b)])++[ps++[(i,x)]]:=by
         rw [VG,aaC,Xk (p:=λb=>lI v w ps (i,b)) z,Th];rfl
        rw [e,<-VB,Th (l₂:=[ps++[(i,x)]])]
        rfl
      ·refine fc ⟨_,rfl,some (.d (.int x)),?_⟩
       have e:((SM (x + 1)).filter λb=>lI v w ps (i,b))=(SM x).filter λb=>lI v w ps (i,b):=by
        rw [VG,aaC,Xl (p:=λb=>lI v w ps (i,b)) (by rw [z];decide),List.filter_nil,V3]
       rw [e]
       rfl
     ·rintro _ ⟨c,rfl⟩
      refine ⟨_,rfl,some (.d (.int i)),c,?_⟩
      rw [VG,Yr,Zn,<-VB,<-Rf]
      rfl
    ·rintro _ ⟨b,c,rfl⟩
     refine ⟨_,rfl,some (.d (aP ps)),b,c,?_⟩
     rw [WZ,S5 hj,<-hps,Yr,<-Rc]
     show _=eG v w n (told v w k) [_,_,some (.own ((M0++[ps].flatMap _).map aP)),_,_,_]
     rw [Zn]
   ·rintro _ ⟨a,b,c,rfl⟩
    rw [SK,VM]
    refine ⟨_,rfl,a,b,c,?_⟩
    have:((LG v w k).flatMap λps=>(SM v.m).flatMap (ku v w ps))=LG v w (k + 1):=by
     show _=(LG v w k).flatMap _
     rw [X8,X8]
     congr 1
     exact UY λps hps=>LQ t.t ((j6 k).mp hps).2
    rw [this]
  have fz:∀{g:G O}{Q:O->Prop},Wp (g (eG v w n (told v w k) [some (.d (.lst ((LG v w k).map aP))),some (.d (.int k)),some (.own []),a,b,c])) Q->Wp (fJ 4 g (eG v w n (told v w k) [some (fs k ((LG v w k).map aP)),some (.d (.int k)),some (.own []),a,b,c])) Q:=fun {g Q} h=>by
   cases k with
   | zero=>exact rV rfl h
   | succ k=>exact K23.F4 rfl h
  refine cu (fz (loop.mono ?_))
  rintro o ⟨e,rfl,a',b',c',rfl⟩
  have tl:=K23.lV t.t k (by omega)
  refine cu (rV rfl (fM rfl rfl (CS (ys:=(LG v w (k + 1)).map aP) rfl rfl rfl ?_ ⟨_,rfl,some (.d (.int k)),some (.d (.lst ((LG v w (k + 1)).map aP))),a',b',c',?_⟩)))
  ·have:(k + 1) * 65536<=4 * 65536:=Vw _ (by omega)
   rw [SK,SK]
   omega
  ·show _=eG v w n (told v w k++LG v w (k + 1)) _
   unfold eG
   rw [Th]
   rfl
 ·rintro _ ⟨x,y,a,b,c,rfl⟩
  exact bG rfl rfl rfl
end K72
namespace K72
open PySem DL K01 WP K51 K52 K55 K22 K33
open K23 (jU iS bM Pr aP jW i6 Good lD LG told j6 jx allM wF ne_int lY fO)
section
variable {v w:Wd}{B:Ps}{n:Nat}{σ:List Nat}
theorem Lj (ps:Ps) (p:Nat×Nat) (hl:ps.length < 63):K72.kG [.d (aP ps),.d (dP p)]=.ok (.d (aP (bQ ps p))):=by
 have hc:cg (.l .fresh (ps.map dP)) (.l .fresh [dP p])=.ok (.l .fresh ((ps++[p]).map dP)):=by
  show (if (ps.map dP).length + [dP p].length<=sizeLine then M.ok (R.l .fresh (ps.map dP++[dP p])) else .bad)=_
  rw [if_pos (fK (by simp;omega)),Th];rfl
 have hs:qu [.l .fresh ((ps++[p]).map dP)]=.ok (.l .fresh (dD ((ps++[p]).map dP))):=by
  show (if j_ ((ps++[p]).map dP)=true then _ else _)=_
  rw [if_pos (IG _ (by simp;omega))]
 refine b8 (bG (n1 (n1 (two (n1 rfl rfl) (fR (aK rfl rfl bh) (by show 1<=1000;decide)) hc) hs) rfl) rfl ?_)
 rw [<-vC];rfl
theorem Ic (t:Pr v w) (up:B.Pairwise nS):(B∈T4 v w/\Lc v w (n + 1) B=true)↔∃σ,mb (gT v w (Lc v w n) B) v.m []=some σ:=by
 constructor
 ·rintro ⟨_,h⟩
  exact Ub.mp (yU.mp h).2
 ·rintro ⟨σ,h⟩
  have m:=Dc t h
  have lo:=t.vo.lo
  obtain ⟨_,a2,a3⟩:=m.at_ 0 (by have:=m.len;omega)
  have hs:∀p∈B,p∈bQ B (0,σ[0]'(by have:=m.len;omega)):=λp hp=>jP.mpr (.inl hp)
  have g:=(mQ t).mp a2
  refine ⟨(mQ t).mpr ((zQ up).mpr (yT.sub ⟨g.ag,g.rg⟩ hs)),(vL t).mpr ⟨yX t n _ _ hs a3,σ,m⟩⟩
theorem Ja (t:Pr v w) (m:Mp v w (Lc v w n) B σ) (hB:B.length < 63):gP [.d (.tup (σ.map dN)),.d (aP B),.d v.d,.d w.d,.d (uF v w n)]=.ok (.d (.bl true)):=by
 have v4:=t.v4
 have ln:=m.len
 have pm:σ.Perm (SM v.m):=wF m.nd m.len λp hp=>by
  obtain ⟨i,hi,rfl⟩:=Uj.mp hp
  rw [m.m];exact (m.at_ i hi).1
 have xY:bN (σ.map dN)=(SM w.m).map dN:=K81.Nv m.nd Ws λx=>by rw [<-m.m];exact pm.mem_iff
 have sA:jX [.d (.tup (σ.map dN))]=.ok (.l .fresh (bN (σ.map dN))):=Np σ (by omega)
 refine b8 (jC (ve (jx (b:=true) rfl) (ve (bM (b:=false) (n1 rfl (JS _)) (two rfl rfl (gW _ _)) ?_) (bM (b:=false) (two rfl rfl (gW _ _)) (two rfl rfl (gW _ _)) ?_))) ?_)
 ·show cj true (.d (.int ((σ.map dN).length:Nat))) (.d (.int (v.m:Nat)))=_
  rw [ne_int,SK,ln];simp
 ·show cj true (.d (.int (v.m:Nat))) (.d (.int (w.m:Nat)))=_
  rw [ne_int,m.m];simp
 refine d_ (ds:=σ.map dN) rfl (F3 (h:=dN) (λe=>∃x:Option S,e=[some (.d (.tup (σ.map dN))),some (.d (aP B)),some (.d v.d),some (.d w.d),some (.d (uF v w n)),x]) σ ⟨none,rfl⟩ ?_ ?_)
 ·rintro y _ _ ⟨x,rfl⟩
  exact ⟨_,rfl,oW (ve (jx (b:=true) rfl) rfl) (fc ⟨_,rfl,some (.d (dN y)),rfl⟩)⟩
 rintro _ ⟨x,rfl⟩
 refine jC (bM (b:=false) (n1 rfl sA) (K81.Mu (cX (two rfl rfl (gW _ _))) (by have:=t.w4;omega)) ?_) (bG (r:=.d (.bl true)) ((n1 (oA (xs:=SM v.m) (h:=dN) (λ_=>.bl true) (pe (cX (two rfl rfl (gW _ _))) (by omega)) (by simp;omega) λa ha=>⟨_,two (c2 rfl (bE (aK rfl rfl (aK (two rfl rfl (Pe (by rw [ln];exact Tj.mp ha))) rfl bh)) t2) (Lj B (a,σ.getD a 0) hB)) rfl (EJ (m:=.own) (bQ B (a,σ.getD a 0)) ((T4 v w).filter (Lc v w n)) (.d (uF v w n)) rfl),?_⟩) (allM (λ_=>true) (SM v.m))).trans ?_) rfl rfl)
 ·rw [xY,mF true (.l .fresh ((SM w.m).map dN)) (.l .fresh ((SM w.m).map dN)) (K81.FT _) (K81.FT _),show bg (R.dat (.l .fresh ((SM w.m).map dN))) (R.dat (.l .fresh ((SM w.m).map dN)))=true from f_ _]
  rfl
 ·have ha':a < σ.length:=by rw [ln];exact Tj.mp ha
  rw [show σ.getD a 0=σ[a] by simp [WX,ha'],decide_eq_true (Ud.mpr ⟨(m.at_ a ha').2.1,(m.at_ a ha').2.2⟩)]
  rfl
 ·rw [show ((SM v.m).all λ_=>true)=true by simp]
end
theorem c5 {F:List S->M R}{g h k l m:G R}(hx:g env=.ok x) (hy:h env=.ok y) (hw:k env=.ok w) (hv:l env=.ok v) (hq:m env=.ok q) (hF:F [eK x,eK y,eK w,eK v,eK q]=.ok z):gN (aS 5 F) (ao g (ao h (ao k (ao l (ao m aD))))) env=.ok (lK z):=by
 show (ao g (ao h (ao k (ao l (ao m aD)))) env >>= _)=_
 unfold ao aD
 rw [hx,hy,hw,hv,hq]
 show (match F [eK x,eK y,eK w,eK v,eK q] with | .ok r=>M.ok (lK r) | _=>M.bad)=_
 rw [hF]
theorem zF (L:List Ps) (m:Md) (l u:Option Int):∃K:List Ps,oJ (.l m (L.map aP)) l u=.ok (.l .fresh (K.map aP))/\(∀p∈K,p∈L)/\K.length<=L.length:=by
 obtain ⟨ys,h1,h2⟩:=Jr aP L l u
 have sub:ys.Sublist L:=h2▸Js _ _ _
 exact ⟨ys,by show M.ok (R.l .fresh (cutD (L.map aP) l u))=_;rw [h1],λp hp=>sub.subset hp,sub.length_le⟩
theorem Il (K L:List Ps) (h:K.length + L.length<=1000000):cg (.l .fresh (K.map aP)) (.l .fresh (L.map aP))=.ok (.l .fresh ((K++L).map aP)):=by
 show (if (K.map aP).length + (L.map aP).length<=sizeLine then M.ok (R.l .fresh (K.map aP++L.map aP)) else .bad)=_
 rw [if_pos (by rw [SK,SK,UB];omega),Th]
abbrev eL (ns:List Int) (c:Int) (lg:Bool) (v w:Wd) (n:Nat) (L:List Ps) (st:Int) (a b:Option S):Ev:=[some (.bor (ns.map D.int)),some (.d (.int c)),some (.d (.bl lg)),some (.d v.d),some (.d w.d),some (.d (.int ((n + 1:Nat):Int))),some (.own ((SM (n + 2)).map (uF v w))),some (.own (L.map aP)),some (.d (.int st)),a,b]
theorem JW (ns:List Int) (h:ns.length<=63):vK [.bor (ns.map .int)]=.ok (.d (.bl true)):=by
 obtain ⟨c,hc⟩:∃c,c=ns.getD 0 0:=⟨_,rfl⟩
 obtain ⟨lg,R6⟩:∃lg:Bool,cj false (.d (.int (c % 8))) (.d (.int 1))=.ok (.d (.bl lg)):=⟨_,rfl⟩
 have cell:=yP ns 0
 rw [<-hc] at cell
 obtain ⟨sz,hsz,s1,s2⟩:∃sz:List Nat,aX (.l .fresh [.lst ([1,2,3,3,2].map dN),.lst ([4,3,4,2,1].map dN)]) (.d (.int (if lg then 1 else 0)))=.ok (.d (.lst (sz.map dN)))/\1<=sz.length/\∀n∈sz,1<=n/\n<=4:=by
  cases lg with
  | true=>exact ⟨[4,3,4,2,1],rfl,by decide,by decide⟩
  | false=>exact ⟨[1,2,3,3,2],rfl,by decide,by decide⟩
 obtain ⟨v,w,hw,t⟩:=NU (ns.getD 1 0) sz s1 s2
 have tt:=t.t
 obtain ⟨n,hn,n6⟩:∃n:Nat,c / 8 % (6 - 4 * (if lg then 1 else 0))=n/\n < 6:=by
  cases lg with
  | true=>exact ⟨(c / 8 % 2).toNat,by show c / 8 % 2=_;omega,by omega⟩
  | false=>exact ⟨(c / 8 % 6).toNat,by show c / 8 % 6=_;omega,by omega⟩
 have tl:=K23.lV tt 4 (SW _)
 have t0:[]∈told v w 4:=(mQ tt).mpr ⟨V5,(λ_ h=>nomatch h),(λ_ h=>nomatch h)⟩
 have tp:0 < (told v w 4).length:=List.length_pos_of_mem t0
 have four:∀p∈told v w 4,p.length<=4/\p.Pairwise nS:=λp hp=>⟨OQ tt hp,JF ((mQ tt).mp hp)⟩
 obtain ⟨K1,k1,k2,k3⟩:=zF (told v w 4) .own (some (c / 200 % ((told v w 4).length:Nat))) none
 obtain ⟨K2,j1,j2,j3⟩:=zF (told v w 4) .own none (some (c / 200 % ((told v w 4).length:Nat)))
 obtain ⟨K3,i1,i2,i3⟩:=zF (K1++K2) .own none (some (4 - 2 * (if lg then 1 else 0)))
 have k3':K3.length<=655360:=by rw [Te] at i3;omega
 have hK:∀p∈[]::K3,p∈told v w 4:=λp hp=>by
  rcases S7.mp hp with rfl | hp
  ·exact t0
  ·rcases TF.mp (i2 p hp) with q | q
   ·exact k2 p q
   ·exact j2 p q
 have hint:vZ [.d (.bl lg)]=.ok (.d (.int (if lg then 1 else 0))):=rfl
 have lz:((if lg then 1 else 0:Int))<=1/\0<=(if lg then 1 else 0:Int):=by cases lg <;> decide
 refine b8 (bD (c2 rfl rfl cell) rfl (bD (two (two rfl rfl (cZ c 8 (by decide))) rfl R6) rfl (Du (c2 (c2 rfl rfl (yP ns 1)) (two (fR (aK (fR rfl (by show 5<=1000;decide)) rfl (aK (fR rfl (by show 5<=1000;decide)) rfl bh)) (by show 2<=1000;decide)) (n1 rfl hint) hsz) hw) rfl rfl (bD (r:=.d (.int ((n + 1:Nat):Int))) ((two rfl (two (two rfl rfl (gn c 8 (by decide) (by decide))) (two rfl (two rfl (n1 rfl hint) (gI 4 _ (by omega) (by omega))) (yK 6 _)) (cZ _ _ (by omega))) (n9 1 _)).trans (by rw [hn,show (1:Int) + (n:Int)=((n + 1:Nat):Int) by omega])) rfl ?_))))
 refine bD (c3 rfl rfl rfl (DH tt (n + 1) (by omega))) rfl (bD (c3 rfl rfl rfl (Jb t 4 (SW _))) rfl (bD (two (two rfl rfl (gn c 200 (by decide) (by decide))) (n1 rfl (show e_ [.l .own ((told v w 4).map aP)]=.ok (.d (.int ((told v w 4).length:Nat))) by show M.ok (R.d (.int (((told v w 4).map aP).length:Nat)))=_;rw [SK])) (cZ _ _ (by omega))) rfl (bD (two (kT rfl (kQ rfl) rfl k1) (kT rfl rfl (kQ rfl) j1) (Il K1 K2 (by omega))) rfl ?_)))
 refine d_ (ds:=([]::K3).map aP) ?_ (F3 (h:=aP) (λe=>∃a b:Option S,e=eL ns c lg v w n (K1++K2) (c / 200 % ((told v w 4).length:Nat)) a b) ([]::K3) ⟨none,none,rfl⟩ ?_ ?_)
 ·show (g2 cg _ _ _ >>= _)=_
  rw [two (fR (aK (bE bh (by decide)) rfl bh) (by show 1<=1000;decide)) (kT rfl rfl (kQ (two rfl (two rfl (n1 rfl hint) (gI 2 _ (by omega) (by omega))) (yK 4 _))) i1) (Il [[]] K3 (by simp;omega))]
  rfl
 ·rintro ps hps _ ⟨a,b,rfl⟩
  obtain ⟨l4,up⟩:=four ps (hK ps hps)
  obtain ⟨Mo,hM⟩:∃Mo,Mo=mb (gT v w (Lc v w n) ps) v.m []:=⟨_,rfl⟩
  have RH:=DI tt (aP ps) ps (by rw [HX ps (by omega),Ny up]) (by omega) n n6
  rw [<-hM] at RH
  refine ⟨_,rfl,bD (c4 rfl rfl rfl rfl RH) rfl ?_⟩
  have hix:∀j,j < n + 2->aX (.l .own ((SM (n + 2)).map (uF v w))) (.d (.int ((j:Nat):Int)))=.ok (.d (uF v w j)):=λj hj=>rG (by rw [Tq,Wf hj];rfl)
  have rest:Wp (bK (br (g2 (fk true) (af 9) (g2 aX (af 6) (af 5)))) (bK (br (g2 (iI true) (af 10) (gC .non))) (bq (gC (.bl false))) cS) (bK (gg (br (gN (aS 5 K72.gP) (ao (af 10) (ao (af 9) (ao (af 3) (ao (af 4) (ao (g2 aX (af 6) (g2 oN (af 5) (gC (.int 1)))) aD)))))))) (bq (gC (.bl false))) cS) (eL ns c lg v w n (K1++K2) (c / 200 % ((told v w 4).length:Nat)) (some (.d (aP ps))) (some (.d (oM Mo))))) λo=>∃e,o=.nx e/\∃a b:Option S,e=eL ns c lg v w n (K1++K2) (c / 200 % ((told v w 4).length:Nat)) a b:=by
   have hin:=K32.GY (EJ (m:=.own) ps ((T4 v w).filter (Lc v w (n + 1))) (.d (uF v w (n + 1))) rfl)
   refine iO (bM rfl (two rfl rfl (hix (n + 1) (by omega))) hin) (λz=>?_) λz=>?_
   ·have hno:Mo=none:=by
     cases q:Mo with
     | none=>rfl
     | some σ=>
      have:=(Ic tt up).mpr ⟨σ,hM.symm.trans q⟩
      rw [decide_eq_true (Ud.mpr this)] at z
      cases z
    rw [hno]
    exact oW rfl (fc ⟨_,rfl,_,_,rfl⟩)
   ·have Rn:ps∈T4 v w/\Lc v w (n + 1) ps=true:=Ud.mp (by simpa using z)
    obtain ⟨σ,hσ⟩:=(Ic tt up).mp Rn
    rw [show Mo=some σ from hM.trans hσ]
    exact oW (jx (b:=true) (iS (c5 rfl rfl rfl rfl (two rfl (two (z:=.d (.int (n:Int))) rfl rfl (by
     show M.ok (R.d (.int (((n + 1:Nat):Int) - 1)))=_
     rw [show ((n + 1:Nat):Int) - 1=(n:Int) by omega])) (hix n (by omega))) (Ja tt (Dc tt hσ) (by omega))))) (fc ⟨_,rfl,_,_,rfl⟩)
  refine cu (iO (c:=decide (ps=[]) && bg (.int (c / 7000 % 2)) (.int 1)) (Bh (bM rfl (bE bh (by decide)) ((mF false (.d (aP ps)) (.d (aP [])) (qN _) (qN _)).trans ?_)) (bM (two (two rfl rfl (gn c 7000 (by decide) (by decide))) rfl (cZ _ 2 (by decide))) rfl rfl)) (λz=>?_) λ_=>fc rest)
  ·show M.ok (R.d (.bl (bg (aP ps) (aP []))))=_
   rw [kL]
  ·rw [SN,decide_eq_true_eq] at z
   have hcn:=DI tt .non [] lY (by decide) n n6
   rw [<-z.1,<-hM] at hcn
   exact fM (c4 rfl rfl rfl rfl hcn) rfl rest
 ·rintro _ ⟨a,b,rfl⟩
  exact bG rfl rfl rfl
end K72
namespace K72
open PySem PySem.Spec PyProof.Rows L2 DL DX
theorem all_mk {l:Zv}{w:TL}{K:SG}{h:Uz}{mg:Str->Option SI}{fa:Tg}(X:K.In h) (G:h.Ns Tw mg) (Rk:mg "law"=some (.ref fa))
  {f37:Tg}{o37 n37:Option Tg}{s37:Array (Option SI)}{u37 v37 d37 p37 q37 r37:SI}
  {t1:Tok}
  {t2:Tok}
  (e0:FA K "is_whole" xV)
  (e1:FA K "tongue_of" vD)
  (e2:FA K "need_tongue" qY)
  (e3:FA K "need_few_points" lT)
  (e4:FA K "need_small" sZ)
  (e5:FA K "need_count" sY)
  (e6:FA K "rising" B4)
  (e7:FA K "view" IX)
  (e8:FA K "views" FQ)
  (e9:FA K "agree" FH)
  (e10:FA K "goes_behind" qV)
  (e11:FA K "pairings" xX)
  (e12:FA K "added" FG)
  (e13:FA K "map_behind" ni)
  (e14:FA K "in_layer" xU)
  (e15:FA K "choices_in" sX)
  (e16:FA K "mapped_still" pY)
  (e17:FA K "peeled" B3)
  (e18:FA K "pairings_with" n8)
  (e19:FA K "layers_of" vz)
  (e20:FA K "grid_of" Au)
  (e21:FA K "counted_depths" mU)
  (e22:FA K "counted_layers" mV)
  (e23:FA K "counted_map" qU)
  (e24:FA K "_law_cell_at" pW)
  (e25:FA K "_law_more" vp)
  (e26:FA K "_law_freed" sU)
  (e27:FA K "_law_names" sV)
  (e28:FA K "_law_world" sW)
  (e29:FA K "_law_flipped" pX)
  (e30:FA K "_law_turned" qT)
  (e31:FA K "_law_two" xT)
  (e32:FA K "_law_at" An)
  (e33:FA K "_law_fit" xS)
  (e34:FA K "_law_with" vq)
  (e35:FA K "_law_pairings" n5)
  (e36:FA K "_law_is_map" qS)
  (a37:T5 K Tw "law"=some (some (.ref f37)))
  (l37:K.lookup f37=some ⟨u37,o37,.func (UZ "law" "law" (fq pB) (cV pB) (bA pB) .none v37 d37 p37 n37 q37 r37),s37⟩)
  (c37:XJ K q37 "law"=true)
  (k37:Wo K (.ref f37)=true)
  (z0:T5 K Tw "abs"=some none)
  (z1:T5 K Tw "all"=some none)
  (z2:T5 K Tw "bool"=some none)
  (z3:T5 K Tw "enumerate"=some none)
  (z4:T5 K Tw "int"=some none)
  (z5:T5 K Tw "isinstance"=some none)
  (z6:T5 K Tw "len"=some none)
  (z7:T5 K Tw "list"=some none)
  (z8:T5 K Tw "max"=some none)
  (z9:T5 K Tw "range"=some none)
  (z10:T5 K Tw "set"=some none)
  (z11:T5 K Tw "sorted"=some none)
  (z12:T5 K Tw "tuple"=some none)
  (gMOST_DEPTH:T5 K Tw "MOST_DEPTH"=some (some (.int 6 t1)))
  (gMOST_SMALL:T5 K Tw "MOST_SMALL"=some (some (.int 4 t2))):
  ∃fd:TM,(∀(s:SJ) (v:SI),abr s fd ⟨[v],[]⟩ [("_law_script",v)])/\∀base:Uz,K.In base->base.Ns Tw mg->jH l.prog w K mg base pH 11 fa fd ["_law_script"] (qZ K 1 K72.vK):=by
 have e:=Rk.symm.trans (Xq X G a37)
 cases e
 obtain ⟨f13,d13,a13,F13⟩:=e13
 obtain ⟨f16,d16,a16,F16⟩:=id e16
 have F37:=Ez (st:=pB) l37 c37 k37
 have m:dz w K mg:=⟨Ua X G z0,
   Ua X G z1,
   Ua X G z2,
   Ua X G z3,
   Ua X G z4,
   Ua X G z5,
   Ua X G z6,
   Ua X G z7,
   Ua X G z8,
   Ua X G z9,
   Ua X G z10,
   Ua X G z11,
   Ua X G z12,
   ⟨_,(.int 6),Xq X G gMOST_DEPTH,⟨_,rfl⟩,λ_=>(.int _)⟩,
   ⟨_,(.int 4),Xq X G gMOST_SMALL,⟨_,rfl⟩,λ_=>(.int _)⟩,
   ⟨_,a16,Xq X G a16⟩⟩
 refine ⟨UZ "law" "law" (fq pB) (cV pB) (bA pB) .none v37 d37 p37 n37 q37 r37,λs v=>.of_eq rfl,λbase _ _=>?_⟩
 have C0:=AR (P:=l.prog) (base:=base) m (bU X G e0)
 have C1:=zA (P:=l.prog) (base:=base) m (bU X G e1)
 have C2:=vV (P:=l.prog) (base:=base) m C1 (bU X G e2)
 have C3:=qo (P:=l.prog) (base:=base) m (bU X G e3)
 have C4:=yl (P:=l.prog) (base:=base) m C2 C3 (bU X G e4)
 have C5:=yk (P:=l.prog) (base:=base) m C0 (bU X G e5)
 have C6:=Ef (P:=l.prog) (base:=base) m (bU X G e6)
 have C7:=Jo (P:=l.prog) (base:=base) m (bU X G e7)
 have C8:=Gg (P:=l.prog) (base:=base) m C7 (bU X G e8)
 have C9:=Ge (P:=l.prog) (base:=base) m (bU X G e9)
 have C10:=vU (P:=l.prog) (base:=base) m C9 (bU X G e10)
 have C11:=AV (P:=l.prog) (base:=base) m C4 C5 C8 C9 C10 (bU X G e11)
 have C12:=Gd (P:=l.prog) (base:=base) m C6 (bU X G e12)
 have C13:=pL (P:=l.prog) (base:=base) m F13 (Xq X G a13) 6
 have C14:=AQ (P:=l.prog) (base:=base) m (bU X G e14)
 have C15:=yh (P:=l.prog) (base:=base) m C14 (bU X G e15)
 have C16:=uE (P:=l.prog) (base:=base) m C15 C13 (bU X G e16)
 have C17:=Ed (P:=l.prog) (base:=base) m C16 (bU X G e17)
 have C18:=tG (P:=l.prog) (base:=base) m C11 (bU X G e18)
 have C19:=zy (P:=l.prog) (base:=base) m C14 (bU X G e19)
 have C20:=CA (P:=l.prog) (base:=base) m C12 (bU X G e20)
 have C21:=rW (P:=l.prog) (base:=base) m C18 C20 C17 (bU X G e21)
 have C22:=rX (P:=l.prog) (base:=base) m C4 C5 C21 C19 (bU X G e22)
 have C23:=vS (P:=l.prog) (base:=base) m C4 C5 C6 C21 C20 C15 C13 (bU X G e23)
 have C24:=uB (P:=l.prog) (base:=base) m (bU X G e24)
 have C25:=zk (P:=l.prog) (base:=base) m (bU X G e25)
 have C26:=ye (P:=l.prog) (base:=base) m (bU X G e26)
 have C27:=yf (P:=l.prog) (base:=base) m C26 (bU X G e27)
 have C28:=yg (P:=l.prog) (base:=base) m (bU X G e28)
 have C29:=uC (P:=l.prog) (base:=base) m (bU X G e29)
 have C30:=vR (P:=l.prog) (base:=base) m (bU X G e30)
 have C31:=AO (P:=l.prog) (base:=base) m C25 C27 C28 C30 C29 (bU X G e31)
 have C32:=Cz (P:=l.prog) (base:=base) m (bU X G e32)
 have C33:=AN (P:=l.prog) (base:=base) m C32 (bU X G e33)
 have C34:=zl (P:=l.prog) (base:=base) m (bU X G e34)
 have C35:=tF (P:=l.prog) (base:=base) m C33 (bU X G e35)
 have C36:=vQ (P:=l.prog) (base:=base) m C34 (bU X G e36)
 exact Ob m C24 C31 C22 C35 C23 C36 F37
theorem K0 (K:SG) (H:Hp) (a:Tg) (ns:List Int) (hl:ns.length<=63) (hO:Cj H) (hS:cB K H a (ns.map V.int)):qZ K 1 K72.vK [.ref a] H (λv _=>v=.bl true) λ_ _ _=>False:=by
 refine ⟨λ_=>none,[.bor (ns.map D.int)],λ_ _ z=>(by cases z),rfl,⟨_,[],rfl,⟨a,_,rfl,hS,?_⟩,rfl⟩,?_⟩
 ·exact K01.xO ns
 ·rw [JW ns hl]
  intro v J H2 _ r
  cases r
  rfl
theorem walk {l:Zv}{q:S_}{loose:List Str}{XP:(Str->Option SI)->Uz->Prop}{YP:TL->Uz->Prop}{d:DefRec}{K:ads->SG}(hn:l.most=some 63) (hdf:d.params.defaults=[])
  (hY:∀(w:TL) (h:Uz),YP w h->(K w.params).In h)
  (F:∀(w:TL) (mg:Str->Option SI) (fa:Tg) (h:Uz),(K w.params).In h->h.Ns Tw mg->mg d.name=some (.ref fa)->
   ∃fd:TM,(∀(s:SJ) (u:SI),abr s fd ⟨[u],[]⟩ [("_law_script",u)])/\∀base:Uz,(K w.params).In base->base.Ns Tw mg->jH l.prog w (K w.params) mg base pH 11 fa fd ["_law_script"] (qZ (K w.params) 1 K72.vK)):
  acv q loose XP YP l.row.toRowW d [] (λf vs=>ab_ f vs):=
 L2.K_ (n:=63) (k:=11) (x:="_law_script") (CX:=λ_=>pH) (sp:=λw=>qZ (K w.params) 1 K72.vK) hn (by decide) hdf ⟨rfl,by decide,by decide⟩ hY F (λw H a ns hl hO hS=>K0 _ H a ns hl hO hS) λ_ _ _ _ _ z=>z
end K72
open PySem PySem.W PyProof.Rows
set_option maxRecDepth 100000 in
set_option maxHeartbeats 0 in
theorem PySem.Challenge.cw_pickalike_k72_maps_told_holds : PySem.Challenge.rw_pickalike_k72_maps_told.Holds := by
 refine holds_law K72.look λsaid=>?_
 refine holds_open (q:=K72.VW) (XP:=XL K72.VW []) (YP:=Hook.says K72.HK) K72.left (Hook.of K72.HK) (Hook.keeps K72.HK) (λs e=>xl_of s (ZX.mp e).1) XL.keeps (by rfl) (by rfl) (by rfl) (λs e=>recFacts_of (ZX.mp e).2) (by rfl) said (by decide +kernel) ⟨rfl,rfl,rfl,rfl,rfl,by decide +kernel⟩ ?hw ?hc
 (case hw=>w_witness2)
 delta K72.HK
 k_fill
 refine K72.walk (l:=PySem.Challenge.rw_pickalike_k72_maps_told) rfl rfl (K:=K72.KF) (λw h Y=>PySem.W.kIn_of Y) ?F
 case F=>
  intro w mg fa h KX G hmg
  refine' K72.all_mk KX G hmg (DL.bS ?a0 ?l0 ?c0 ?k0) (DL.bS ?a1 ?l1 ?c1 ?k1) (DL.bS ?a2 ?l2 ?c2 ?k2) (DL.bS ?a3 ?l3 ?c3 ?k3) (DL.bS ?a4 ?l4 ?c4 ?k4) (DL.bS ?a5 ?l5 ?c5 ?k5) (DL.bS ?a6 ?l6 ?c6 ?k6) (DL.bS ?a7 ?l7 ?c7 ?k7) (DL.bS ?a8 ?l8 ?c8 ?k8) (DL.bS ?a9 ?l9 ?c9 ?k9) (DL.bS ?a10 ?l10 ?c10 ?k10) (DL.bS ?a11 ?l11 ?c11 ?k11) (DL.bS ?a12 ?l12 ?c12 ?k12) (DL.bS ?a13 ?l13 ?c13 ?k13) (DL.bS ?a14 ?l14 ?c14 ?k14) (DL.bS ?a15 ?l15 ?c15 ?k15) (DL.bS ?a16 ?l16 ?c16 ?k16) (DL.bS ?a17 ?l17 ?c17 ?k17) (DL.bS ?a18 ?l18 ?c18 ?k18) (DL.bS ?a19 ?l19 ?c19 ?k19) (DL.bS ?a20 ?l20 ?c20 ?k20) (DL.bS ?a21 ?l21 ?c21 ?k21) (DL.bS ?a22 ?l22 ?c22 ?k22) (DL.bS ?a23 ?l23 ?c23 ?k23) (DL.bS ?a24 ?l24 ?c24 ?k24) (DL.bS ?a25 ?l25 ?c25 ?k25) (DL.bS ?a26 ?l26 ?c26 ?k26) (DL.bS ?a27 ?l27 ?c27 ?k27) (DL.bS ?a28 ?l28 ?c28 ?k28) (DL.bS ?a29 ?l29 ?c29 ?k29) (DL.bS ?a30 ?l30 ?c30 ?k30) (DL.bS ?a31 ?l31 ?c31 ?k31) (DL.bS ?a32 ?l32 ?c32 ?k32) (DL.bS ?a33 ?l33 ?c33 ?k33) (DL.bS ?a34 ?l34 ?c34 ?k34) (DL.bS ?a35 ?l35 ?c35 ?k35) (DL.bS ?a36 ?l36 ?c36 ?k36) ?a37 ?l37 ?c37 ?k37 ?z0 ?z1 ?z2 ?z3 ?z4 ?z5 ?z6 ?z7 ?z8 ?z9 ?z10 ?z11 ?z12 ?gMOST_DEPTH ?gMOST_SMALL
  case a0 | l0 | c0 | k0 | a1 | l1 | c1 | k1 | a2 | l2 | c2 | k2 | a3 | l3 | c3 | k3 | a4 | l4 | c4 | k4 | a5 | l5 | c5 | k5 | a6 | l6 | c6 | k6 | a7 | l7 | c7 | k7 | a8 | l8 | c8 | k8 | a9 | l9 | c9 | k9 | a10 | l10 | c10 | k10 | a11 | l11 | c11 | k11 | a12 | l12 | c12 | k12 | a13 | l13 | c13 | k13 | a14 | l14 | c14 | k14 | a15 | l15 | c15 | k15 | a16 | l16 | c16 | k16 | a17 | l17 | c17 | k17 | a18 | l18 | c18 | k18 | a19 | l19 | c19 | k19 | a20 | l20 | c20 | k20 | a21 | l21 | c21 | k21 | a22 | l22 | c22 | k22 | a23 | l23 | c23 | k23 | a24 | l24 | c24 | k24 | a25 | l25 | c25 | k25 | a26 | l26 | c26 | k26 | a27 | l27 | c27 | k27 | a28 | l28 | c28 | k28 | a29 | l29 | c29 | k29 | a30 | l30 | c30 | k30 | a31 | l31 | c31 | k31 | a32 | l32 | c32 | k32 | a33 | l33 | c33 | k33 | a34 | l34 | c34 | k34 | a35 | l35 | c35 | k35 | a36 | l36 | c36 | k36 | a37 | l37 | c37 | k37 | z0 | z1 | z2 | z3 | z4 | z5 | z6 | z7 | z8 | z9 | z10 | z11 | z12 | gMOST_DEPTH | gMOST_SMALL=>k_is
