import PyProof.Rows.All
import Wide.All
import OpenK.AllK
import Wide.FinOn
import Lean
import PyProof.EqAt
import PyProof.EqKinds
import PyProof.TupleCall
import KE.KIsAll
import PyProof.ExcAttrAll.ValueError
import PyProof.NeKinds
import PyProof.InstStoreFacts
import KE.KUnpackStar
import KE.KSortTup
import PyProof.TupleOfSeq
import PyProof.Rows.SortWalk
import PyProof.EnumFor
import PyProof.EnumStmt
import PyProof.ListRange
import PyProof.TupleKey
import PyProof.SetKind
import PyProof.Rows.SetFrom
import PyProof.SetRoads
import PyProof.CollectWalk
import PyProof.WalksMore
import PyProof.DictKinds
import PyProof.DictCompW
import PyProof.DictRoadsH
import PyProof.DictWalks
import PySem.Challenge.RW_pickalike_k35_whole_never_parted
noncomputable section
open And renaming intro->Zh
open Array renaming length_toList->Sq,getElem?_eq_some_iff->TZ,getElem?_toList->Uh,getD->UP,getElem?_eq_getElem->Vz,forIn_toList->WT,getD_eq_getD_getElem?->XJ,toList->YY,append_empty->aac,size_append->aay,toList_push->aaH
open Array.Perm renaming mem_iff->X4,refl->ady
open Bool renaming and_eq_true->Sf,false_eq_true->SD,false_ne_true->SX,eq_iff_iff->Ui,not_true->Va,true_and->Vs,and_false->Vx,or_eq_true->VJ,not_false->W9,or_false->Xs,and_eq_true_iff->Zz,false_and->ZC,false_or->aae,eq_false_iff->aaw,and_self->ach,or_true->acC
open Classical renaming byContradiction->Ua,propDecidable->acr
open False renaming elim->V_
open ForInStep renaming yield->Vg
open Function renaming comp_def->aaJ
open Iff renaming rfl->adB
open Int renaming toNat_natCast->Uk,emod_lt_of_pos->U4,emod_nonneg->VM,le_of_lt->aaN
open List renaming length_map->Sa,mem_map->Sb,mem_cons_of_mem->Sd,mem_cons_self->Se,range->Sh,getElem?_eq_getElem->Si,mem_cons->Sn,size_toArray->So,mem_singleton->Ss,getElem?_map->Sv,map_cons->Sw,mem_range->Sy,length_append->SI,getElem_mem->SK,map_append->SM,map_map->SN,getElem?_eq_some_iff->SV,all_eq_true->SW,mem_append->S0,pairwise_map->S9,mem_filter->Te,mem_append_right->Tg,getElem?_set_ne->Ti,length_filter_le->Tp,getD_eq_getElem?_getD->Tv,not_mem_nil->Tz,length_range->TF,mem_iff_getElem->TL,idxOf_lt_length_of_mem->TU,length_cons->T6,replicate->T8,pairwise_iff_getElem->T_,mem_of_getElem?->Ub,getElem?_append_right->Ul,getElem?_set_self->Uo,nodup_cons->Uq,lookup_cons->Uv,nodup_range->Uw,length_eq_zero_iff->UI,mem_append_left->UJ,ext_getElem->UN,getElem?_append_left->UR,append_nil->US,length_replicate->UT,eq_nil_or_concat->UX,concat_eq_append->UY,pairwise_cons->U3,any_eq_true->U7,getElem_map->U8,pairwise_singleton->Vc,nodup_nil->Vd,map_congr_left->Vi,pairwise_lt_range->Vj,length_take->Vm,all_cons->Vq,length->Vt,pairwise_append->VB,nodup_append->VN,eraseIdx_eq_take_drop_succ->VO,find?_range_eq_some->VP,replicate_succ->VV,length_drop->V0,mem_flatMap->V2,getElem_idxOf->V4,take_append_drop->V8,append_assoc->Wh,perm_ext_iff_of_nodup->Wk,drop_eq_getElem_cons->Wr,getElem?_zip_eq_some->Wt,getElem?_range->Wx,mem_filterMap->WC,getElem?_replicate->WE,any_cons->WK,zip_cons_cons->WN,length_nil->WQ,find?_eq_none->WR,range_succ_eq_map->WY,getElem_cons_drop->WZ,map_nil->Xe,singleton_append->Xg,getElem_inj->Xj,eq_nil_of_length_eq_zero->Xk,take_length->Xn,map_flatMap->Xp,map_take->Xv,map_drop->Xw,filterMap_cons->Xy,foldl_cons->XD,range_succ->XM,getElem_range->X5,take_succ->X7,getLast?_eq_none_iff->Yb,getElem_append_left->Yi,filter_cons_of_pos->YA,filter_cons_of_neg->YB,pairwise_filterMap->YC,perm_middle->YM,drop_eq_nil_of_le->YR,take_of_length_le->YU,of_mem_zip->Y3,forIn_cons->Y7,all_map->Y8,any_map->Zb,mem_iff_getElem?->Zd,getD->Zg,pairwise_flatMap->Zj,length_eraseIdx->Zv,getLast?_concat->Zw,mem_of_mem_take->Zx,mem_of_mem_drop->Zy,forIn_nil->ZE,getD_cons_zero->ZN,flatMap_append->ZS,filter_eq_self->ZT,filterMap_map->Z3,contains_cons->Z7,map_singleton->aag,take_sublist->aap,eraseIdx_nil->aaC,getElem_drop->aaF,idxOf_append->aaG,zipWith->aaM,le_antisymm->aaU,zipIdx_cons->aaV,map->aa2,zipIdx_nil->abd,filter_map->abA,length_zip->abB,drop_zero->abJ,filterMap->abN,lookup->acZ
open List.Nodup renaming length_le_of_subset->SH
open List.Pairwise renaming and_mem->UW,nil->VI,imp->W6,filter->Zu,of_map->acJ,and->adq,map->ads
open List.Perm renaming of_eq->abo,append_left->acE
open List.cons renaming injEq->XU,inj->acm
open Nat renaming le_refl->Sj,lt_of_lt_of_le->SG,zero_le->SJ,ne_of_lt->SY,le_trans->S7,not_lt_zero->TR,lt_irrefl->Us,pow_le_pow_right->UK,le_add_right->UM,lt_succ_self->U6,le_succ->Vw,mul_le_mul_right->VC,le_of_succ_le->VL,ne_of_gt->VQ,lt_trans->V6,lt_trichotomy->We,le_of_lt_succ->Wf,mul_le_mul->W8,le_of_lt->Xc,mod_lt->Yh,lt_succ_of_lt->Yn,le_of_not_lt->YI,div_div_eq_div_mul->YT,pow_succ->Zc,lt_of_le_of_lt->aaf,lt_or_eq_of_le->aah,zero_add->aaP,div_add_mod->abm,min_eq_left->abu,add_mul->abx,add_assoc->acn,le_of_eq->acy
open Ne renaming symm->U_
open Option renaming isSome_iff_exists->Ug,bind_some->YK,getD_none->aaS,map_some->aba,none->acY
open Option.some renaming inj->Tf,injEq->UO
open Or renaming inr->V1,inl->Xf
open Prod renaming fst->Tr,snd->Xa,ext->Yt
open PyProof.Rows renaming slot_tuple_getitem->TQ,callWith_type1->Vf,seqObj->V5,IntsAre->Wv,subscriptTail_builtinR->WW,envOfC->X0,AllBare->Yr,listUpdate_at->Yz,entry_tuple_getitem->ZK,seqEpoch_at->ZQ,args_tuple_getitem->Z4,callWith_builtin1->aaK,get?_update_seq->abh,list_sort_plain->abi,entry_list_sort->abj,slicePart_none->abG,slot_list_sort->abK,args_list_sort->abL,boot_range->abW,sortedHeap->ab4,tupleItemsOf_->acd,subscriptTail->acf,sortedHeap_at->ack,IsTup->acK,lt_int->ac2,lt_str->ac3,le_int->ac6,SortKind->adi,keyKind'->adj
open PyProof.Rows.F renaming plain_set_update_loop->S6,entry_set_update_loop->Ur
open PyProof.Rows.IsTup renaming new->acw
open PySem renaming wpAny_bind->R6,Value->R8,wpAny_pure->R9,Shared->R_,starEach->Sl,Addr->Sm,Program->Su,wpAny->Sx,foldedSetIterable->SA,model->SE,FuncData->SO,mainGlobals->SS,World->S3,Expr->S4,Around->S5,wpAny_newObj_type->S8,wpAny_holding->S_,wpAny_call_entry->Tc,wpAny_callSpecial?_slot->Tj,wpAny_mono->Tw,cellsFrom->TJ,Heap->TM,wpAny_truthy_bool->TN,SetTable->TV,bootBuiltins->TX,compareOp->T5,sizeLine_eq->Ud,behindInMarks->Uj,wpAny_setField_rec->Um,cLine->Uu,wpAny_setState_of->Uy,wpAny_seqItems->UB,wpAny_standAt->UD,wpAny_field->UE,codeAny_builtin->UG,backTo->UL,NameKind->UQ,codeAny->U5,wpAny_typeNameOfWhole_keyiter->U9,letOwnedTupleGo->Ve,wpAny_loadPart'->Vh,Scope->Vk,wpAny_forIn_list->Vn,wpAny_askSetting->Vo,Stmt->VA,assignEach->VF,wpAny_passesOwn->VG,codeAny_mono->VR,standAt->VS,mem_of_lookup->VT,wpAny_attempt->VU,plainId_quiet->VY,swapsWith->VZ,sysModules->V3,wpAny_of_eq->V7,binaryOp->Wa,pyNext->Wi,hashInt->Wl,firstArgMember->Wo,wpAny_isInstance->Wu,Builtin->Ww,wpAny_rule->Wz,swapsWithSole->WB,wpAny_Call_Name_kw->WD,attributeBase->WH,IsPair->WM,mem_of_lookup->WO,wpAny_specialOf->WS,sliceBounds->W2,wpAny_pyIter_list->W3,wpAny_storeSet_of->W7,compTurn->Xb,wpAny_typeOf->Xd,builtinLookup_eq_fast->Xh,wpAny_updateSeq_pair->Xr,wpAny_execs_nil->Xz,wpAny_updateSeq->XI,wpAny_setEntries_of->XN,codeAny_of_tree->XS,pyIter->XZ,wpAny_pyIter_tuple->X3,wpAny_setField->X6,isSubtype_type->X8,wpAny_fieldsOf->X_,Paired->Yc,searchCouldBeSeen->Yj,wpAny_pyIter_slot->Yl,arm_evalThenUse_ListComp->Yo,wpAny_dictEntries->Yq,keywordEach->Yu,Keyword->Yv,wpAny_onRaise->Yy,Comprehension->YE,wpAny_pyHash_int->YG,noFill_tuple_add->YH,checkBuiltinCall->YJ,richCompare_meets_room->YS,codeAny_compStart_list->YV,codeAny_compStart_dict->YW,wpAny_isTrue_Compare1->YX,inplaceOp->YZ,rawInt->Y0,DictEntry->Y5,setAddHashed->Ze,typeLookup_type->Zf,arm_exec_Assign->Zi,wpAny_dictEpoch->Zl,wpAny_isOneOf_keyiter->Zm,bindArgs->Zn,wpAny_loadName_local->Zp,codeAny_call_builtin->Zs,isTrue->ZA,wpAny_newTuple->ZF,isSubtype_stop->ZG,wpAny_runValue->ZH,wpAny_bindName->ZI,wpAny_loadName_cell->ZJ,GenState->ZW,Operator->ZX,swappedStores->ZY,seq_tuple_add->Z1,IsPart->Z2,seqIndex?->Z5,seqItems?->Z9,wpAny_handled->Z_,ZipApart->aaa,IsZip->aab,wpAny_newList->aad,compPost->aaj,slot_dict_contains->aak,intKind->aan,wpAny_call->aao,getItem->aaq,wpAny_sequenceKey->aar,slot_list_getitem->aas,call_meets->aat,callerA->aau,ofAClassStatement->aaI,concat_meets->aaL,wpAny_execs_cons->aaR,wpAny_pyIter_zip->aaX,backToKw->aa1,PassesOwn->aa5,Result->aa7,BindsTo->aa8,wpAny_throw->abb,wpAny_letGo->abe,pushCells->abk,pushCells_keeps->abl,pickOrder->abp,isSubtype->abr,noteFrame->abv,theTreesLotGoes->abw,compStart->aby,theWindowsPlace->abz,CmpOp->abE,recursionLimit->abF,newFunctionEnv->abM,setAddHashedIn->abP,entryFor_alias->abQ,entryOfKey->abS,builtinsNs->abT,wpAny_Name->abU,wpAny_load->abV,Params->abY,call->abZ,isInstance->ab1,reduceHash->ab2,setsByText->ab5,intKind_is->ab7,rangeSize_one->ab9,intBits_le_64->ab_,evalPart_none->ace,setSearchFrom->aco,wpAny_notedAt->acp,eval_ListComp->acq,atKey->acs,storeName->acv,WalksS->acD,Model->acL,bindL->acO,bindC->acP,newList->ac4,CellsOk->ac5,newExc->adf,newTuple->adg,raiseNew->adh,entryFor->adk,bindName->adl,Fin->adz
open PySem.Around renaming under_plainId->Uc
open PySem.AutoSeq1 renaming sub_tuple_tuple->WA
open PySem.Builtin.Dict renaming showsAll->Zk,dictSlotNone->abR
open PySem.Builtin.Dict_items renaming ownsTuple->Xx
open PySem.Builtin.Frozenset renaming sizeOf->Ym,updateFrom->aa3,newClass->abD
open PySem.Builtin.List renaming listTooLong->U1,listLengthHint->XQ,listExtendWith->XR,listSameRef->ab6
open PySem.Builtin.Range renaming rangeSize->Ys
open PySem.Builtin.Slice renaming slicePlaces->Vv,sliceAdjust->Wm,sliceApplied->XY,slicePartIndex->aa0,sliceFields->abH
open PySem.Builtin.SmallTypes renaming nextOf->Td,ownedTupleIsFree->Ux,ownedTupleHandOut->Wq
open PySem.Builtin.Str renaming occurrences->Yx,tooLong->ZM
open PySem.Builtin.Tuple renaming tupleHashOf->T9,tupleExact->VH,tupleItemsOf->Wj,tupleCompareSizes->W4,tupleIsExact->abC
open PySem.Calls renaming Name_function_global->XX
open PySem.CmpOp renaming NotIn->acM,In->adC
open PySem.Data renaming cell->aa6,fields->acN,seq->adb
open PySem.Env renaming kindOf->adn
open PySem.Expr renaming Call->adA
open PySem.F renaming slot_dict_keyiterator_next->UA,slot_tuple_iterator_next->Vl,plainAttrs_list->VX,called_set->V9,slot_tuple_hash->Wg,args_tuple_add_2->Wy,entry_tuple_add->WG,slot_tuple_add->WV,plain_list_iadd->W5,args_dict_keyiterator_next_1->Xi,entry_dict_keyiterator_next->Xq,args_tuple_iterator_next_1->Xu,attrBase_ValueError->XC,entry_tuple_iterator_next->XG,slot_zip_next->XH,slot_list_append->Ye,type_list_append->Yg,entry_proto_collect->Y_,plain_proto_collect->Za,args_list_extend_2->Zq,entry_list_extend->ZL,slot_list_extend->Z6,args_zip_next_1->aaB,entry_list_iadd->aaE,entry_zip_next->aaW,slot_dict_iter->aaZ,slot_set_iter->abq,plain_set_new->abt
open PySem.Heap renaming get?_push_of_some->Sg,get?_push_size->Sk,lt_size->Sz,SameBut->Tu,get?_update_self->TY,size_push->UC,get?_update_other->WX,ExtBut->ZO,get?_update_ne->ZP,size_update->aaY
open PySem.Heap.IsList renaming push->YL
open PySem.Heap.IsSliceOf renaming new->ac_
open PySem.Heap.IsTuple renaming push->adp
open PySem.Heap.SameBut renaming update->T3,refl->Yp
open PySem.IsL renaming update->adt
open PySem.Moved renaming trans->ZR
open PySem.NameKind renaming free->Ue,cell->WJ
open PySem.Obj renaming mapSeq->U0,data_mapFields->WL,putSet->Yk,isFreed_of_fields->Y9,cls_mapFields->aaA,mapFields->acu
open PySem.Paired renaming length->ab8
open PySem.PassesOwn renaming leaving->aaD,never->abf
open PySem.SeqAt renaming EqAt->UZ,ne_of_list_tuple->YQ
open PySem.SeqAt.EqAt renaming same->Y4,int_str->ZU,str_int->ZV,int_int->Z0,of_refs->Z8,tuple_list->acz,list_tuple->acA,none_bool->acF,bool_none->acG,bool_bool->acH,none_int->acQ,none_str->acR,bool_int->acS,bool_str->acT,int_none->acU,int_bool->acV,str_none->acW,str_bool->acX,str_str->ada
open PySem.SeqAt.RcAt renaming tuples->aax,lists->aaT,lists_lengths->ab3
open PySem.SeqAt.RcNeAt renaming tuples->ac0,lists->ade
open PySem.SetTable renaming insertAt->Uz,sizeAbove->UH,below->Ws,grown->W_,tooFull->Xo,advance->YN,fill->aai,runEnd->abn,turns->abO
open PySem.Shared renaming TypeIs->YD,heap->ac1
open PySem.Str renaming ofString->Vp,length->abX
open PySem.Value renaming none->Tq,bool->VD,ref->VE,type->W0,builtin->Yw,notImplemented->Zt,int->aa4,str->adw
open PySem.Value.ref renaming inj->adD
open PySem.W renaming Frag->R7,nsIn->Th,mg_none_of->Tt,fnOf->TH,keepIn->T7,kia_one->UU,kas_desc->Vb,kas_place->Vr,codeIn->Vu,findIn->Vy,mroIn->Wb,kas_sort->Wc,InstAt->Wn,clsIn->WI,mg_of->WU,kas_rev->Xl,kas_asc->Xm,findObj->XA,methodObj->Yd,cellsFrom_some->YO,OpenLaw->Y6,looks_findIn->Zr,kitOne->ZD,callWith_K->ZZ,specialIn->aav,kitx_dict->aaz,kas_descPart->aaO,takesIn->aa9,kitMeta->aa_,kas_count->abg,notCls->abI,WalkO->acg,kas_bin->aci,kat_cons->acj,kas_tail3->acB
open PySem.W.Hook renaming obs->adu,val->adv
open PySem.W.OpenLaw renaming wellSaid->ab0
open PySem.W.RowW renaming records->acI
open PySem.W.WData renaming int->adx
open PySem.W.WShape renaming has->adm
open PySem.Walks renaming list->ado
open PySem.pickOrder renaming go->aaQ
open Subtype renaming ext->YF
open Sum renaming inl->aal,inr->aam
open True renaming intro->Zo
set_option Elab.async false
set_option linter.all false
set_option maxRecDepth 100000
namespace L2
open PySem PySem.Spec PyProof.Rows
abbrev Key:=Sum Int Str
noncomputable def Ik:Key->R8->Bool
 | .inl k,v=>Value.isInt k v
 | .inr x,v=>Value.isStrOf x v
noncomputable def OJ (w:S3):Key->Int
 | .inl k=>Wl k
 | .inr x=>hashStr w x
theorem dR:∀{k:Key}{v:R8},Ik k v=true->(∃i t,k=aal i/\v=aa4 i t)\/(∃x t,k=aam x/\v=adw x t)
 | .inl i,v,h=>by
  obtain ⟨t,e⟩:=Value.isInt_shape (k:=i) (v:=v) h
  exact .inl ⟨i,t,rfl,e⟩
 | .inr x,v,h=>by
  obtain ⟨t,e⟩:=Value.isStrOf_shape (x:=x) (v:=v) h
  exact .inr ⟨x,t,rfl,e⟩
theorem LQ (a b:Int):decide ((aal a:Key)=aal b)=(a == b):=by
 by_cases e:a=b
 ·subst e;simp
 ·have h:¬(aal a:Key)=aal b:=λq=>e (Sum.inl.inj q)
  rw [decide_eq_false h]
  exact (beq_eq_false_iff_ne.mpr e).symm
theorem LU (a b:Str):decide ((aam a:Key)=aam b)=decide (a=b):=by
 by_cases e:a=b
 ·subst e;simp
 ·have h:¬(aam a:Key)=aam b:=λq=>e (Sum.inr.inj q)
  rw [decide_eq_false h,decide_eq_false e]
theorem LR (a:Int) (b:Str):decide ((aal a:Key)=aam b)=false:=decide_eq_false (λq=>nomatch q)
theorem LS (a:Str) (b:Int):decide ((aam a:Key)=aal b)=false:=decide_eq_false (λq=>nomatch q)
noncomputable def wA (prog:Su) (w:S3):PySem.KeyKind prog w Key where
 is:=Ik
 hash:=OJ w
 inj:=λv a b ha hb=>by
  rcases dR ha with ⟨i,t,rfl,rfl⟩ | ⟨x,t,rfl,rfl⟩
  ·rcases dR hb with ⟨j,u,rfl,e⟩ | ⟨y,u,rfl,e⟩
   ·injection e with e1 _;rw [e1]
   ·exact nomatch e
  ·rcases dR hb with ⟨j,u,rfl,e⟩ | ⟨y,u,rfl,e⟩
   ·exact nomatch e
   ·injection e with e1 _;rw [e1]
 byValue:=λk v h=>by
  rcases dR h with ⟨i,t,rfl,rfl⟩ | ⟨x,t,rfl,rfl⟩ <;> rfl
 pyHash:=λhv h=>by
  rcases dR hv with ⟨i,t,rfl,rfl⟩ | ⟨x,t,rfl,rfl⟩
  ·exact YG h
  ·exact wpAny_pyHash_str h
 eqBool:=λhu hv h=>by
  rcases dR hu with ⟨i,t,rfl,rfl⟩ | ⟨x,t,rfl,rfl⟩
  ·rcases dR hv with ⟨j,u,rfl,rfl⟩ | ⟨y,u,rfl,rfl⟩
   ·rw [LQ] at h;exact wpAny_eqBool_int h
   ·rw [LR] at h;exact ZU i t y u _ _ _ _ h
  ·rcases dR hv with ⟨j,u,rfl,rfl⟩ | ⟨y,u,rfl,rfl⟩
   ·rw [LS] at h;exact ZV x t j u _ _ _ _ h
   ·rw [LU] at h;exact wpAny_eqBool_str h
 «strs»:=λk x t v h=>by
  rcases dR h with ⟨i,u,rfl,e⟩ | ⟨y,u,rfl,e⟩
  ·exact nomatch e
  ·injection e with e1 _
   subst e1
   cases v <;> rfl
inductive V where
 | non | bl (b:Bool) | int (i:Int) | str (x:Str) | byt (b:Array UInt8) | flt (b:UInt64) | ref (a:Sm) | ty (n:String)
 deriving DecidableEq
noncomputable def RelV:V->R8->Prop
 | .non,u=>u=Tq
 | .bl b,u=>u=VD b
 | .int i,u=>∃t,u=aa4 i t
 | .str x,u=>∃t,u=adw x t
 | .byt b,u=>∃t,u=Value.bytes b t
 | .flt b,u=>∃t,u=Value.float b t
 | .ref a,u=>u=VE a
 | .ty n,u=>u=W0 n
abbrev Vals:List V->List R8->Prop:=Yc RelV
theorem Vals.length {xs:List V}{us:List R8}(r:Vals xs us):xs.length=us.length:=ab8 r
theorem Vals.get:∀{xs:List V}{us:List R8}{i:Nat}{x:V},Vals xs us->xs[i]?=some x->∃u,us[i]?=some u/\RelV x u
 | _,_,_,_,.nil,e=>by simp at e
 | _,_,0,_,.cons r _,e=>by simp at e;subst e;exact ⟨_,rfl,r⟩
 | _,_,i + 1,x,.cons _ t,e=>by
  obtain ⟨u,h1,h2⟩:=Vals.get (i:=i) (x:=x) t (by simpa using e)
  exact ⟨u,by simpa using h1,h2⟩
theorem Vals.set {x:V}{u:R8}(r:RelV x u):∀{xs:List V}{us:List R8}(i:Nat),Vals xs us->Vals (xs.set i x) (us.set i u)
 | _,_,_,.nil=>.nil
 | _,_,0,.cons _ t=>.cons r t
 | _,_,i + 1,.cons q t=>.cons q (Vals.set r i t)
theorem Vals.append:∀{xs ys:List V}{us ws:List R8},Vals xs us->Vals ys ws->Vals (xs++ys) (us++ws)
 | _,_,_,_,.nil,s=>s
 | _,_,_,_,.cons r t,s=>.cons r (Vals.append t s)
theorem Vals.take:∀{xs:List V}{us:List R8}(n:Nat),Vals xs us->Vals (xs.take n) (us.take n)
 | _,_,0,_=>.nil
 | _,_,_ + 1,.nil=>.nil
 | _,_,n + 1,.cons r t=>.cons r (Vals.take n t)
theorem Vals.drop:∀{xs:List V}{us:List R8}(n:Nat),Vals xs us->Vals (xs.drop n) (us.drop n)
 | _,_,0,r=>r
 | _,_,_ + 1,.nil=>.nil
 | _,_,n + 1,.cons _ t=>Vals.drop n t
noncomputable def Lc:Option V->Option R8->Prop
 | some v,some u=>RelV v u
 | none,none=>True
 | _,_=>False
def KV {κ:Type}:List (κ×V)->List (κ×R8)->Prop:=Yc λ(p:κ×V) (q:κ×R8)=>p.1=q.1/\RelV p.2 q.2
noncomputable def kV:Key->V
 | .inl i=>.int i
 | .inr x=>.str x
inductive HO where
  | lst (xs:List V)
  | tup (xs:List V)
  | dK (R4:List (Key×V)) | dT (R4:List (List Key×V))
  | set (S:Int->Bool) (n:Nat)
  | ins (C dx:Sm) (fs:List (Str×V))
  | own (x:Sm)
  | xd (fs:List (Str×V))
  | met (f x:Sm)
  | rng (lo hi:Int)
  | frz (o:Obj) (u:HO)
  | tbl (ps:Array R8)
  | ext (φ:TM->Prop)
abbrev Hp:=Sm->Option HO
def upd (H:Hp) (a:Sm) (o:HO):Hp:=λb=>if b=a then some o else H b
theorem bU {H:Hp}{a:Sm}{o:HO}:upd H a o a=some o:=by unfold upd;rw [if_pos rfl]
theorem bz {H:Hp}{a b:Sm}{o:HO}(h:b≠a):upd H a o b=H b:=by unfold upd;rw [if_neg h]
theorem eu {H:Hp}{a b:Sm}{o:HO}(h:H a=some o) (h':H b=none):a≠b:=by
 intro e;subst e;rw [h] at h';cases h'
section
variable (P:Su) (w:S3)
noncomputable def cP (H:Hp) (h:TM) (a:Sm):HO->Prop
 | .lst xs=>xs.length<=sizeLine/\∃(RY:List R8) (n:Nat),Vals xs RY/\h.get? a=some {cls:=.type "list",data:=.seq RY.toArray n}
 | .tup xs=>xs.length<=sizeLine/\∃RY:List R8,Vals xs RY/\acK h a RY.toArray
 | .dK R4=>R4.length<=sizeLine/\(a == V3)=false/\∃vs,KV R4 vs/\h.DictOf (wA P w) a vs
 | .dT R4=>R4.length<=sizeLine/\(a == V3)=false/\∃xs:List (List Key×Sm×R8),
   Yc (λ(p:List Key×V) (q:List Key×Sm×R8)=>p.1=q.1/\H q.2.1=some (.tup (p.1.map kV))/\RelV p.2 q.2.2) R4 xs/\
   ∃o es ep,h.get? a=some o/\o.ExactDict/\o.data=.dict es ep/\es.toList=xs.map (abS (tupleKind (wA P w)))/\(xs.map (·.1)).Nodup
 | .set S n=>h.SetOf (aan P w) a S n
 | .ins C dx fs=>H dx=some (.own a)/\fs.length<=1000/\dx≠a/\h.get? a=some (W.instObj C dx)/\
   ∃mA,h.Ns1 dx mA/\(∀f,Lc (fs.lookup f) (mA f))/\PySem.Within mA (fs.map (·.1))
 | .own _=>∃o,h.get? a=some o
 | .xd fs=>∃mA,h.Ns1 a mA/\∀f,Lc (fs.lookup f) (mA f)
 | .rng lo hi=>∃t u v,h.get? a=some {cls:=.type "range",data:=.fields #[.int lo t,.int hi u,.int 1 v]}
 | .frz o u=>h.get? a=some o/\cP H h a u
 | .tbl ps=>h.get? a=some {cls:=.none,data:=.fields ps}
 | .met f x=>h.get? a=some (Yd (.ref f) (.ref x))
 | .ext φ=>φ h/\(∃o,h.get? a=some o)/\∀h1 h2:TM,φ h1->(∀o,h1.get? a=some o->h2.get? a=some o)->φ h2
def fR (H:Hp) (h:TM):Prop:=∀a o,H a=some o->cP P w H h a o
end
section
variable {P:Su}{w:S3}{H H':Hp}{h h':TM}{a:Sm}{o:HO}
theorem cP.lt (x:cP P w H h a o):a < h.objs.size:=by
 cases o with
 | lst xs=>obtain ⟨_,_,_,_,e⟩:=x;exact Sz e
 | tup xs=>obtain ⟨_,_,_,p⟩:=x;exact p.lt
 | dK R4=>obtain ⟨_,_,_,_,o,_,_,e,_⟩:=x;exact Sz e
 | dT R4=>obtain ⟨_,_,_,_,o,_,_,e,_⟩:=x;exact Sz e
 | set S n=>obtain ⟨o,_,_,_,e,_⟩:=x;exact Sz e
 | ins C dx fs=>obtain ⟨_,_,_,e,_⟩:=x;exact Sz e
 | own y=>obtain ⟨_,e⟩:=x;exact Sz e
 | xd fs=>obtain ⟨_,⟨_,_,_,e,_⟩,_⟩:=x;exact Sz e
 | rng lo hi=>obtain ⟨_,_,_,e⟩:=x;exact Sz e
 | frz ob u=>obtain ⟨e,_⟩:=x;exact Sz e
 | tbl ps=>exact Sz (show h.get? a=some _ from x)
 | met f y=>exact Sz (show h.get? a=some _ from x)
 | ext φ=>obtain ⟨_,⟨_,e⟩,_⟩:=x;exact Sz e
theorem Yc.mapP {α β:Type}{F G:α->β->Prop}:∀{l₁:List α}{l₂:List β},Yc F l₁ l₂->(∀a b,F a b->G a b)->Yc G l₁ l₂
 | _,_,.nil,_=>.nil
 | _,_,.cons r t,f=>.cons (f _ _ r) (Yc.mapP t f)
theorem cP.stay (x:cP P w H h a o) (k:∀b u,(b=a\/H b=some (.own a))->h.get? b=some u->h'.get? b=some u)
  (ho:∀b,H b=some (.own a)->H' b=some (.own a)) (ht:∀b xs,H b=some (.tup xs)->H' b=some (.tup xs)):cP P w H' h' a o:=by
 induction o with
 | lst xs=>obtain ⟨z,RY,n,r,e⟩:=x;exact ⟨z,RY,n,r,k _ _ (.inl rfl) e⟩
 | tup xs=>obtain ⟨z,RY,r,ob,e,c⟩:=x;exact ⟨z,RY,r,ob,k _ _ (.inl rfl) e,c⟩
 | dK R4=>obtain ⟨z,y,vs,r,ob,es,ep,e,c⟩:=x;exact ⟨z,y,vs,r,ob,es,ep,k _ _ (.inl rfl) e,c⟩
 | dT R4=>
  obtain ⟨z,y,xs,r,ob,es,ep,e,c⟩:=x
  exact ⟨z,y,xs,Yc.mapP r λp q z=>⟨z.1,ht _ _ z.2.1,z.2.2⟩,ob,es,ep,k _ _ (.inl rfl) e,c⟩
 | set S n=>obtain ⟨ob,es,ep,t,e,c⟩:=x;exact ⟨ob,es,ep,t,k _ _ (.inl rfl) e,c⟩
 | ins C dx fs=>
  obtain ⟨d,z,ne,e,mA,⟨od,es,ep,e2,c⟩,r⟩:=x
  exact ⟨ho _ d,z,ne,k _ _ (.inl rfl) e,mA,⟨od,es,ep,k _ _ (.inr d) e2,c⟩,r⟩
 | own y=>obtain ⟨ob,e⟩:=x;exact ⟨ob,k _ _ (.inl rfl) e⟩
 | xd fs=>obtain ⟨mA,⟨od,es,ep,e,c⟩,r⟩:=x;exact ⟨mA,⟨od,es,ep,k _ _ (.inl rfl) e,c⟩,r⟩
 | rng lo hi=>obtain ⟨t,u,v,e⟩:=x;exact ⟨t,u,v,k _ _ (.inl rfl) e⟩
 | frz ob u ih=>obtain ⟨e,q⟩:=x;exact ⟨k _ _ (.inl rfl) e,ih q⟩
 | tbl ps=>
  have e:h.get? a=some {cls:=.none,data:=.fields ps}:=x
  show h'.get? a=some {cls:=.none,data:=.fields ps}
  exact k a _ (.inl rfl) e
 | met f y=>
  have e:h.get? a=some (Yd (.ref f) (.ref y)):=x
  show h'.get? a=some (Yd (.ref f) (.ref y))
  exact k a _ (.inl rfl) e
 | ext φ=>obtain ⟨p,⟨o,e⟩,st⟩:=x;exact ⟨st _ _ p λo q=>k _ _ (.inl rfl) q,⟨o,k _ _ (.inl rfl) e⟩,st⟩
theorem fR.lt (x:fR P w H h) (e:H a=some o):a < h.objs.size:=(x a o e).lt
theorem fR.fresh (x:fR P w H h) (e:h.objs.size<=a):H a=none:=by
 cases q:H a with
 | none=>rfl
 | some u=>exact absurd (SG (x.lt q) e) (Us _)
theorem fR.kept (x:fR P w H h) (k:∀b u,h.get? b=some u->h'.get? b=some u):fR P w H h':=λa o e=>
 (x a o e).stay (λb u _ q=>k b u q) (λ_ q=>q) λ_ _ q=>q
theorem fR.laid (x:fR P w H h) (k:∀b u,h.get? b=some u->h'.get? b=some u) (hp:h.objs.size<=a) (new:cP P w (upd H a o) h' a o):fR P w (upd H a o) h':=λb u e=>by
 have hn:=x.fresh hp
 by_cases hb:b=a
 ·subst hb;rw [bU] at e;cases e;exact new
 ·rw [bz hb] at e
  exact (x b u e).stay (λc v _ q=>k c v q) (λc q=>by rw [bz (eu q hn)];exact q) λc xs q=>by rw [bz (eu q hn)];exact q
end
def Rd (H:Hp) (a:Sm) (u:HO):Prop:=H a=some u\/∃o,H a=some (.frz o u)
theorem Rd.ok {P:Su}{w:S3}{H:Hp}{h:TM}{a:Sm}{u:HO}(r:Rd H a u) (x:fR P w H h):cP P w H h a u:=by
 rcases r with r | ⟨o,r⟩
 ·exact x a u r
 ·obtain ⟨_,q⟩:=x a _ r
  exact q
noncomputable def HS:Option HO->Prop
 | some (.lst _)=>True
 | some (.dK _)=>True
 | some (.dT _)=>True
 | some (.set _ _)=>True
 | some (.ins _ _ _)=>True
 | some (.ext _)=>True
 | _=>False
section
variable {P:Su}{w:S3}{H:Hp}{h h':TM}{x e:Sm}{o':HO}
theorem fR.write (ok:fR P w H h) (mu:HS (H x)) (he:e=x\/H e=some (.own x)) (k:∀b u,b≠e->h.get? b=some u->h'.get? b=some u) (Qz:∃u,h'.get? e=some u)
  (new:cP P w (upd H x o') h' x o'):fR P w (upd H x o') h':=λb u q=>by
 have nown:∀c y,H c=some (.own y)->c≠x:=λc y r z=>by subst z;rw [r] at mu;exact mu
 have ntup:∀c xs,H c=some (.tup xs)->c≠x:=λc xs r z=>by subst z;rw [r] at mu;exact mu
 by_cases hb:b=x
 ·subst hb;rw [bU] at q;cases q;exact new
 ·rw [bz hb] at q
  by_cases Qu:b=e
  ·have q':H b=some (.own x):=by
    rcases he with z | z
    ·exact absurd (Qu.trans z) hb
    ·rw [Qu];exact z
   rw [q] at q';cases q'
   obtain ⟨v,hv⟩:=Qz
   exact ⟨v,by rw [Qu];exact hv⟩
  ·refine (ok b u q).stay (λc v hc r=>k c v ?_ r) (λc r=>by rw [bz (nown c b r)];exact r) λc xs r=>by rw [bz (ntup c xs r)];exact r
   rcases hc with rfl | hc
   ·exact Qu
   ·rintro rfl
    rcases he with z | z
    ·exact nown c b hc z
    ·rw [hc] at z;cases z;exact hb rfl
end
structure Un (fs ex:List Sm) (H H':Hp) (h h':TM):Prop where
 keep:∀b o,h.get? b=some o->H b=none->b∉fs->b∉ex->h'.get? b=some o
 slot:∀b o,h.get? b=some o->H b=none->b∈fs->b∉ex->∃sl,h'.get? b=some {o with slots:=sl}
 free:∀b o,h.get? b=some o->H b=none->b∉ex->H' b=none
 there:∀b o,h.get? b=some o->b∉ex->∃o',h'.get? b=some o'
 tups:∀b xs,H b=some (.tup xs)->H' b=some (.tup xs)
 frzs:∀b o u,H b=some (.frz o u)->H' b=some (.frz o u)
 tbls:∀b ps,H b=some (.tbl ps)->∃more,H' b=some (.tbl (ps++more))
section
variable {fs fs' ex ex':List Sm}{H H1 H2:Hp}{h h1 h2 h':TM}{a x e:Sm}{o:HO}
theorem Un.any (u:Un fs ex H H1 h h1){b:Sm}{ob:Obj}(q:h.get? b=some ob) (n:H b=none) (hx:b∉ex):∃sl,h1.get? b=some {ob with slots:=sl}:=by
 by_cases hb:b∈fs
 ·exact u.slot b ob q n hb hx
 ·exact ⟨ob.slots,u.keep b ob q n hb hx⟩
theorem Un.kept (k:∀b u,h.get? b=some u->h'.get? b=some u):Un fs ex H H h h':=
 ⟨λb ob q _ _ _=>k b ob q,λb ob q _ _ _=>⟨ob.slots,k b ob q⟩,λ_ _ _ n _=>n,λb ob q _=>⟨ob,k b ob q⟩,λ_ _ q=>q,λ_ _ _ q=>q,λ_ ps q=>⟨#[],by rw [q];simp⟩⟩
theorem Un.refl:Un fs ex H H h h:=Un.kept λ_ _ q=>q
theorem Un.laid (k:∀b u,h.get? b=some u->h'.get? b=some u) (hp:h.objs.size<=a) (hn:H a=none):Un fs ex H (upd H a o) h h' where
 keep:=λb u q _ _ _=>k b u q
 slot:=λb u q _ _ _=>⟨u.slots,k b u q⟩
 free:=λb u q n _=>by rw [bz (SY (SG (Sz q) hp))];exact n
 there:=λb u q _=>⟨u,k b u q⟩
 tups:=λb xs q=>by rw [bz (eu q hn)];exact q
 frzs:=λb u xs q=>by rw [bz (eu q hn)];exact q
 tbls:=λb ps q=>⟨#[],by rw [bz (eu q hn),q];simp⟩
theorem Un.write (mu:HS (H x)) (he:e=x\/H e=some (.own x)) (k:∀b u,b≠e->h.get? b=some u->h'.get? b=some u) (Qz:∃u,h'.get? e=some u):Un fs ex H (upd H x o) h h':=by
 have hx:∀b,H b=none->b≠x:=λb n z=>by subst z;rw [n] at mu;exact mu
 have hb:∀b,H b=none->b≠e:=λb n z=>by
  subst z
  rcases he with r | r
  ·exact hx b n r
  ·rw [n] at r;cases r
 have hm:∀b u,H b=some u->¬HS (some u)->b≠x:=λb u q nm z=>by subst z;rw [q] at mu;exact nm mu
 refine ⟨λb u q n _ _=>k b u (hb b n) q,λb u q n _ _=>⟨u.slots,k b u (hb b n) q⟩,λb u q n _=>by rw [bz (hx b n)];exact n,λb u q _=>?_,
  λb xs q=>by rw [bz (hm b _ q λz=>z)];exact q,λb u xs q=>by rw [bz (hm b _ q λz=>z)];exact q,λb ps q=>⟨#[],by rw [bz (hm b _ q λz=>z),q];simp⟩⟩
 by_cases Qu:b=e
 ·subst Qu;exact Qz
 ·exact ⟨u,k b u Qu q⟩
end
def Fx (h:TM) (H:Hp):List Sm:=(Sh h.objs.size).filter λa=>(H a).isSome
def oE (h:TM) (H:Hp):TM:=W.hideAll h (Fx h H)
theorem Ez (h:TM) (H:Hp):(oE h H).objs.size=h.objs.size:=W.hideAll_size _ _
theorem Gk {h:TM}{H:Hp}{b:Sm}{o:Obj}(e:h.get? b=some o) (n:H b=none):(oE h H).get? b=some o:=
 W.hideAll_get _ e λhm=>by
  have q:(H b).isSome=true:=(Te.mp hm).2
  rw [n] at q;simp at q
theorem JO {h:TM}{H:Hp}{b:Sm}{o:Obj}(e:(oE h H).get? b=some o):h.get? b=some o/\H b=none:=by
 have e':h.get? b=some o:=W.of_hideAll (Fx h H) e
 refine ⟨e',?_⟩
 cases q:H b with
 | none=>rfl
 | some x=>
  have hm:b∈Fx h H:=Te.mpr ⟨Sy.mpr (Sz e'),by simp [q]⟩
  have z:(oE h H).get? b=none:=W.hideAll_none (Fx h H) hm
  rw [z] at e;cases e
def I0 (g h:TM) (L:Sm):List (Sm×Obj):=(Sh h.objs.size).filterMap λa=>if a=L\/(g.get? a).isSome=true then none else (h.get? a).map λo=>(a,o)
def rest (g h:TM) (L d:Sm):List (Sm×Obj):=(I0 g h L).filter λp=>decide (p.1≠d)
structure Mod (K:R7) (mg:Str->Option R8) (base:TM):Prop where
 kin:K.In base
 glob:base.Ns SS mg
 blt:∃mb,base.Ns abT mb/\∀x:Str,x≠"__name__"->mb x=TX x
 nolimit:base.NoLimit
structure Cx where
 prog:Su
 w:S3
 K:R7
 mg:Str->Option R8
 base:TM
 A:S5
 N:List Str
 s₀:R_
 H₀:Hp
 env:Env
 outer:List Env
 stack:List Env
 ex:List Sm
 fn:Str->Bool
 calm:Bool
 pn:List (Sm×Obj)
 xe:R8->R_->Prop
def frs (l:List Env):List Sm:=l.filterMap (·.frame)
abbrev Cx.fs (X:Cx):List Sm:=frs X.outer
def rS (sc:Vk) (x:Str):Prop:=sc.names.lookup x=some .local\/sc.names.lookup x=some .cell\/sc.names.lookup x=some .free
def Loc (sc:Vk) (x:Str):Prop:=sc.names.lookup x=some .local\/sc.names.lookup x=some .cell
noncomputable def Look (env:Env) (h:TM) (m:Str->Option R8) (x:Str) (u:R8):Prop:=
 (env.kindOf x=some .local/\m x=some u)\/((env.kindOf x=some .cell\/env.kindOf x=some .free)/\∃c,env.cells.lookup x=some c/\h.IsCell c (some u))
structure Cx.Ok (X:Cx):Prop where
 mod:Mod X.K X.mg X.base
 kind:X.env.scope.kind=.function
 glob:X.env.globals=SS
 blt:X.env.builtins=abT
 above:X.s₀.heap.objs.size<=X.env.locals
 inj:∀x y c,X.env.cells.lookup x=some c->X.env.cells.lookup y=some c->x=y
 has:∀x,(X.env.kindOf x=some .cell\/X.env.kindOf x=some .free)->∃c,X.env.cells.lookup x=some c
 cab:∀x c,X.fn x=true->X.env.cells.lookup x=some c->X.s₀.heap.objs.size<=c
 hd:X.calm=true->X.A.handled=none
 frames:X.A.frames=some X.stack
 stk:X.stack=X.outer\/(X.stack=X.env::X.outer/\X.env.frame=some X.env.locals)
 exf:∀b∈X.ex,b≠X.env.locals/\∀x c,X.env.cells.lookup x=some c->c≠b
 bs:∀b o,X.base.get? b=some o->X.s₀.heap.get? b=some o/\X.H₀ b=none
 bsz:X.base.objs.size<=X.s₀.heap.objs.size
 noex:∀b o,X.base.get? b=some o->b∉X.ex
 exfs:∀b∈X.ex,b∉X.fs
 funs:X.s₀.heap.FunFrames X.base X.outer
 frf:∀b∈X.fs,X.H₀ b=none
structure Inv (X:Cx) (RX:List (Sm×Obj)) (σ:List (Option V)) (H:Hp) (s:R_):Prop where
 ok:X.Ok
 os:s.os=X.s₀.os
 bare:Yr s.gens
 base:Un X.fs X.ex X.H₀ H X.s₀.heap s.heap
 loc:∃m,s.heap.Ns X.env.locals m/\∀(i:Nat) (x:Str) (v:V),X.N[i]?=some x->σ[i]?=some (some v)->rS X.env.scope x->∃u,RelV v u/\Look X.env s.heap m x u
 cell:∀x c,X.env.cells.lookup x=some c->∃v,s.heap.IsCell c v
 free:H X.env.locals=none
 freeC:∀x c,X.env.cells.lookup x=some c->H c=none
 pin:∀p∈X.pn++RX,s.heap.get? p.1=some p.2/\H p.1=none/\p.1≠X.env.locals/\p.1∉X.fs/\∀v,p.2.data≠.cell v
 hok:fR X.prog X.w H s.heap
 len:σ.length=X.N.length
section
variable {X:Cx}{RX:List (Sm×Obj)}{σ:List (Option V)}{H H':Hp}{s:R_}{h':TM}
theorem Cx.Ok.nofr (ok:X.Ok){b:Sm}{o:Obj}(e:X.base.get? b=some o):b∉X.fs:=λhb=>by
 have:=(ok.funs.mem hb).1
 rw [e] at this;cases this
theorem Inv.bs (I:Inv X RX σ H s):∀b o,X.base.get? b=some o->s.heap.get? b=some o/\H b=none:=λb o e=>
 ⟨I.base.keep b o (I.ok.bs b o e).1 (I.ok.bs b o e).2 (I.ok.nofr e) (I.ok.noex b o e),I.base.free b o (I.ok.bs b o e).1 (I.ok.bs b o e).2 (I.ok.noex b o e)⟩
theorem Inv.bk (I:Inv X RX σ H s):∀b o,X.base.get? b=some o->s.heap.get? b=some o:=λb o e=>(I.bs b o e).1
theorem Inv.mod (I:Inv X RX σ H s):Mod X.K X.mg X.base:=I.ok.mod
theorem Inv.kIn (I:Inv X RX σ H s):X.K.In s.heap:=I.ok.mod.kin.keeps I.bk
theorem Inv.lt (I:Inv X RX σ H s):X.env.locals < s.heap.objs.size:=let ⟨_,hn,_⟩:=I.loc;hn.lt
theorem Inv.sz (I:Inv X RX σ H s):X.s₀.heap.objs.size<=s.heap.objs.size:=S7 I.ok.above (Xc I.lt)
theorem Inv.nofs (I:Inv X RX σ H s){a:Sm}(h:s.heap.objs.size<=a):a∉X.fs:=λhb=>by
 obtain ⟨_,o,ho,_⟩:=I.ok.funs.mem hb
 exact absurd (SG (Sz ho) (S7 I.sz h)) (Us _)
theorem Inv.cne (I:Inv X RX σ H s):∀x c,X.env.cells.lookup x=some c->c≠X.env.locals:=λx c e z=>by
 obtain ⟨v,o,ho,hd⟩:=I.cell x c e
 obtain ⟨m,⟨o',es,ep,ho',hd',_⟩,_⟩:=I.loc
 rw [z,ho'] at ho;cases ho;rw [hd'] at hd;cases hd
theorem Inv.funs (I:Inv X RX σ H s):s.heap.FunFrames X.base X.outer:=by
 have all:∀(l:List Env),(∀b∈frs l,b∈X.fs)->X.s₀.heap.FunFrames X.base l->s.heap.FunFrames X.base l:=by
  intro l
  induction l with
  | nil=>intro _ _;trivial
  | cons env r ih=>
   intro hs hl
   obtain ⟨hk,⟨L,o,hf,hn,ho,hd⟩,hr⟩:=hl
   have hL:L∈X.fs:=hs L (by unfold frs;rw [Xy,hf];exact Se)
   obtain ⟨sl,e⟩:=I.base.slot L o ho (I.ok.frf L hL) hL λz=>I.ok.exfs L z hL
   exact ⟨hk,⟨L,_,hf,hn,e,hd⟩,ih (λb hb=>hs b (by unfold frs;rw [Xy,hf];exact Sd _ hb)) hr⟩
 exact all X.outer (λ_ hb=>hb) I.ok.funs
theorem Inv.stack (I:Inv X RX σ H s):s.heap.FunFrames X.base X.stack:=by
 rcases I.ok.stk with e | ⟨e,hf⟩
 ·rw [e];exact I.funs
 ·rw [e]
  obtain ⟨m,hn,_⟩:=I.loc
  refine .cons (by rw [I.ok.kind];decide) hf hn ?_ I.funs
  exact Heap.get?_none_of_le (S7 I.ok.bsz I.ok.above)
theorem Inv.stkSub (I:Inv X RX σ H s):∀b∈frs X.stack,b∈X.env.locals::X.fs:=λb hb=>by
 rcases I.ok.stk with e | ⟨e,hf⟩
 ·rw [e] at hb;exact Sd _ hb
 ·rw [e] at hb
  unfold frs at hb
  rw [Xy,hf] at hb
  exact hb
theorem Inv.stkFree (I:Inv X RX σ H s):∀b∈frs X.stack,H b=none:=λb hb=>by
 rcases Sn.mp (I.stkSub b hb) with e | hb
 ·rw [e];exact I.free
 ·obtain ⟨_,o,ho,_⟩:=I.ok.funs.mem hb
  exact I.base.free b o ho (I.ok.frf b hb) λz=>I.ok.exfs b z hb
theorem Inv.step {g':Array ZW}{t':Nat}{d':Drawn}{ch:List Sm}(I:Inv X RX σ H s)
  (hch:∀b∈ch,(b∈X.ex\/X.s₀.heap.objs.size<=b)/\b≠X.env.locals/\(∀x c,X.env.cells.lookup x=some c->c≠b)/\∀p∈X.pn++RX,p.1≠b)
  (keep:∀b o,b≠X.env.locals->b∉X.fs->b∉ch->s.heap.get? b=some o->H b=none->h'.get? b=some o)
  (slot:∀b o,b≠X.env.locals->b∈X.fs->b∉ch->s.heap.get? b=some o->H b=none->∃sl,h'.get? b=some {o with slots:=sl}) (free:∀b o,b∉ch->s.heap.get? b=some o->H b=none->H' b=none)
  (there:∀b o,b∉ch->s.heap.get? b=some o->∃o',h'.get? b=some o')
  (tups:∀b xs,H b=some (.tup xs)->H' b=some (.tup xs)) (frzs:∀b o u,H b=some (.frz o u)->H' b=some (.frz o u)) (tbls:∀b ps,H b=some (.tbl ps)->∃more,H' b=some (.tbl (ps++more)))
  (ns:∀m,s.heap.Ns X.env.locals m->h'.Ns X.env.locals m) (hok:fR X.prog X.w H' h') (hg:Yr g'):
  Inv X RX σ H' {s with heap:=h',gens:=g',drawn:=d',toks:=t'}:=by
 have neL:∀b o,X.s₀.heap.get? b=some o->b≠X.env.locals:=λb o e=>SY (SG (Sz e) I.ok.above)
 have neC:∀b o,X.s₀.heap.get? b=some o->b∉X.ex->b∉ch:=λb o e hx hb=>by
  rcases (hch b hb).1 with z | z
  ·exact hx z
  ·exact absurd (SG (Sz e) z) (Us _)
 have cellK:∀x c,X.env.cells.lookup x=some c->∀v,s.heap.IsCell c v->h'.IsCell c v:=λx c e v ⟨o,ho,hd⟩=>by
  have nch:c∉ch:=λz=>(hch c z).2.2.1 x c e rfl
  by_cases hc:c∈X.fs
  ·obtain ⟨sl,q⟩:=slot c o (I.cne x c e) hc nch ho (I.freeC x c e)
   exact ⟨_,q,hd⟩
  ·exact ⟨o,keep c o (I.cne x c e) hc nch ho (I.freeC x c e),hd⟩
 refine ⟨I.ok,I.os,hg,⟨λb o e n hb hx=>?_,λb o e n hb hx=>?_,λb o e n hx=>?_,λb o e hx=>?_,λb xs e=>tups b xs (I.base.tups b xs e),λb o xs e=>frzs b o xs (I.base.frzs b o xs e),λb ps e=>?_⟩,?_,λx c e=>?_,?_,λx c e=>?_,λp hp=>?_,hok,I.len⟩
 ·exact keep b o (neL b o e) hb (neC b o e hx) (I.base.keep b o e n hb hx) (I.base.free b o e n hx)
 ·obtain ⟨sl,e1⟩:=I.base.slot b o e n hb hx
  obtain ⟨sl',e2⟩:=slot b _ (neL b o e) hb (neC b o e hx) e1 (I.base.free b o e n hx)
  exact ⟨sl',e2⟩
 ·obtain ⟨o',e1⟩:=I.base.there b o e hx
  exact free b o' (neC b o e hx) e1 (I.base.free b o e n hx)
 ·obtain ⟨o',e1⟩:=I.base.there b o e hx
  exact there b o' (neC b o e hx) e1
 ·obtain ⟨m1,e1⟩:=I.base.tbls b ps e
  obtain ⟨m2,e2⟩:=tbls b _ e1
  exact ⟨m1++m2,by rw [e2,Array.append_assoc]⟩
 ·obtain ⟨m,hn,hl⟩:=I.loc
  refine ⟨m,ns m hn,λi x v e1 e2 e3=>?_⟩
  obtain ⟨u,r,l⟩:=hl i x v e1 e2 e3
  refine ⟨u,r,?_⟩
  rcases l with l | ⟨k,c,e,z⟩
  ·exact .inl l
  ·exact .inr ⟨k,c,e,cellK x c e _ z⟩
 ·obtain ⟨v,z⟩:=I.cell x c e
  exact ⟨v,cellK x c e v z⟩
 ·obtain ⟨m,⟨o,_,_,ho,_⟩,_⟩:=I.loc
  exact free _ o (λz=>(hch _ z).2.1 rfl) ho I.free
 ·obtain ⟨v,o,ho,hd⟩:=I.cell x c e
  exact free c o (λz=>(hch c z).2.2.1 x c e rfl) ho (I.freeC x c e)
 ·obtain ⟨e,n,ne,nf,d⟩:=I.pin p hp
  have nch:p.1∉ch:=λz=>(hch p.1 z).2.2.2 p hp rfl
  exact ⟨keep p.1 p.2 ne nf nch e n,free p.1 p.2 nch e n,ne,nf,d⟩
theorem Inv.un {t':Nat}(I:Inv X RX σ H s) (u:Un X.fs [] H H' s.heap h') (hok:fR X.prog X.w H' h'):Inv X RX σ H' {s with heap:=h',toks:=t'}:=by
 obtain ⟨m,⟨o,es,ep,ho,r⟩,_⟩:=id I.loc
 obtain ⟨sl,hL⟩:=u.any ho I.free (by simp)
 exact I.step (g':=s.gens) (d':=s.drawn) (ch:=[]) (λ_ z=>nomatch z) (λb o _ hb _ e n=>u.keep b o e n hb (by simp)) (λb o _ hb _ e n=>u.slot b o e n hb (by simp)) (λb o _ e n=>u.free b o e n (by simp)) (λb o _ e=>u.there b o e (by simp)) u.tups u.frzs u.tbls (λm' hm=>by
  obtain ⟨o',es',ep',ho',r'⟩:=hm
  rw [ho] at ho';cases ho'
  exact ⟨_,es',ep',hL,r'⟩) hok I.bare
theorem Inv.call {g':Array ZW}{t':Nat}{d':Drawn}{ch:List Sm}(I:Inv X RX σ H s) (u:Un (frs X.stack) ch H H' s.heap h') (hok:fR X.prog X.w H' h') (hg:Yr g')
  (hch:∀b∈ch,(b∈X.ex\/X.s₀.heap.objs.size<=b)/\b≠X.env.locals/\(∀x c,X.env.cells.lookup x=some c->c≠b)/\∀p∈X.pn++RX,p.1≠b):
  Inv X RX σ H' {s with heap:=h',gens:=g',drawn:=d',toks:=t'}:=by
 obtain ⟨m,⟨o,es,ep,ho,r⟩,_⟩:=id I.loc
 obtain ⟨sl,hL⟩:=u.any ho I.free λz=>(hch _ z).2.1 rfl
 exact I.step (ch:=ch) hch (λb o hL hb hc e n=>u.keep b o e n (λz=>(Sn.mp (I.stkSub b z)).elim hL hb) hc) (λb o _ _ hc e n=>u.any e n hc) (λb o hc e n=>u.free b o e n hc) (λb o hc e=>u.there b o e hc) u.tups u.frzs u.tbls (λm' hm=>by
  obtain ⟨o',es',ep',ho',r'⟩:=hm
  rw [ho] at ho';cases ho'
  exact ⟨_,es',ep',hL,r'⟩) hok hg
theorem Inv.turned {t':Nat}{it:Sm}(I:Inv X RX σ H s) (k:∀b o,b≠it->s.heap.get? b=some o->h'.get? b=some o) (hn:H it=none) (hL:it≠X.env.locals)
  (h1:it∈X.ex\/X.s₀.heap.objs.size<=it) (h2:∀x c,X.env.cells.lookup x=some c->c≠it) (h3:∀p∈X.pn++RX,p.1≠it):Inv X RX σ H {s with heap:=h',toks:=t'}:=by
 have nit:∀b u,H b=some u->b≠it:=λb u e z=>by rw [z,hn] at e;cases e
 refine I.step (g':=s.gens) (d':=s.drawn) (ch:=[it]) (λb hb=>?_) (λb o _ _ hc e _=>k b o (λz=>hc (by simp [z])) e) (λb o _ _ hc e _=>⟨o.slots,k b o (λz=>hc (by simp [z])) e⟩) (λ_ _ _ _ n=>n)
  (λb o hc e=>⟨o,k b o (λz=>hc (by simp [z])) e⟩) (λ_ _ e=>e) (λ_ _ _ e=>e) (λb ps e=>⟨#[],by rw [e];simp⟩) (λm hm=>?_) (λb u e=>?_) I.bare
 ·have e:b=it:=by simpa using hb
  subst e
  exact ⟨h1,hL,h2,h3⟩
 ·obtain ⟨o,es,ep,ho,r⟩:=hm
  exact ⟨o,es,ep,k _ o (U_ hL) ho,r⟩
 ·refine (I.hok b u e).stay (λc v hc q=>k c v ?_ q) (λ_ q=>q) λ_ _ q=>q
  rcases hc with z | z
  ·rw [z];exact nit b u e
  ·exact nit c _ z
theorem Inv.tok (I:Inv X RX σ H s) (t:Nat):Inv X RX σ H {s with toks:=t}:=I.un (h':=s.heap) (t':=t) Un.refl I.hok
theorem Inv.kept {t':Nat}(I:Inv X RX σ H s) (k:∀b u,s.heap.get? b=some u->h'.get? b=some u):Inv X RX σ H {s with heap:=h',toks:=t'}:=I.un (Un.kept k) (I.hok.kept k)
theorem Inv.laid {a:Sm}{o:HO}{t':Nat}(I:Inv X RX σ H s) (k:∀b u,s.heap.get? b=some u->h'.get? b=some u) (hp:s.heap.objs.size<=a) (new:cP X.prog X.w (upd H a o) h' a o):
  Inv X RX σ (upd H a o) {s with heap:=h',toks:=t'}:=I.un (Un.laid k hp (I.hok.fresh hp)) (I.hok.laid k hp new)
theorem Inv.write {x e:Sm}{o:HO}{t':Nat}(I:Inv X RX σ H s) (mu:HS (H x)) (he:e=x\/H e=some (.own x)) (k:∀b u,b≠e->s.heap.get? b=some u->h'.get? b=some u) (Qz:∃u,h'.get? e=some u)
  (new:cP X.prog X.w (upd H x o) h' x o):Inv X RX σ (upd H x o) {s with heap:=h',toks:=t'}:=I.un (Un.write mu he k Qz) (I.hok.write mu he k Qz new)
theorem Inv.pins_of {pins':List (Sm×Obj)}(I:Inv X RX σ H s) (h:∀p∈pins',s.heap.get? p.1=some p.2/\H p.1=none/\p.1≠X.env.locals/\p.1∉X.fs/\∀v,p.2.data≠.cell v):Inv X pins' σ H s:=
 ⟨I.ok,I.os,I.bare,I.base,I.loc,I.cell,I.free,I.freeC,λp hp=>(S0.mp hp).elim (λz=>I.pin p (UJ _ z)) (h p),I.hok,I.len⟩
theorem Ab {N:List Str}(hN:N.Nodup){i j:Nat}{x:Str}(a:N[i]?=some x) (b:N[j]?=some x):i=j:=by
 obtain ⟨h1,e1⟩:=SV.mp a
 obtain ⟨h2,e2⟩:=SV.mp b
 exact (Xj hN).mp (e1.trans e2.symm)
theorem mO {M:acL}{A:S5}{E:R8->R_->Prop}{i:Nat}{x:Str}{v:V}{u:R8}{Q:Unit->R_->Prop}(I:Inv X RX σ H s) (hN:X.N.Nodup) (hi:X.N[i]?=some x) (hx:Loc X.env.scope x) (r:RelV v u)
  (h:∀s',Inv X RX (σ.set i (some v)) H s'->(∃a,Tu a s.heap s'.heap/\(a=X.env.locals\/X.env.cells.lookup x=some a))->Q () s') (hf:X.fn x=true\/X.env.scope.names.lookup x=some .local:=by first | exact .inl rfl | exact .inr rfl | assumption):Sx M A (acv X.env x u) Q E s:=by
 obtain ⟨m,hn,hl⟩:=id I.loc
 have hcls:(X.env.scope.kind == .class || (X.env.scope.kind == .module && X.env.locals != X.env.globals))=false:=by rw [I.ok.kind];rfl
 have hiσ:i < σ.length:=by rw [I.len];exact (SV.mp hi).1
 have cne:=I.cne
 have tracked:∀{a:Sm}{h':TM},(∃o,s.heap.get? a=some o/\H a=none)->Tu a s.heap h'->fR X.prog X.w H h':=fun {a h'} ha hs b ob e=>by
  obtain ⟨_,_,hfree⟩:=ha
  refine (I.hok b ob e).stay (λc w' hc q=>(hs.2 c ?_).trans q) (λ_ q=>q) λ_ _ q=>q
  rintro rfl
  rcases hc with rfl | hc
  ·rw [hfree] at e;cases e
  ·rw [hfree] at hc;cases hc
 rcases hx with hk | hk
 ·refine wpAny_storeName_local hk hn (λh' hn' hs=>?_) hcls
  obtain ⟨oL,_,_,RE,_⟩:=id hn
  refine h _ ⟨I.ok,I.os,I.bare,⟨λb o e n hb hx=>?_,λb o e n hb hx=>?_,I.base.free,λb o e hx=>?_,I.base.tups,I.base.frzs,I.base.tbls⟩,⟨_,hn',λj y v' e1 e2 e3=>?_⟩,λy c e=>?_,I.free,I.freeC,λp hp=>?_,tracked ⟨oL,RE,I.free⟩ hs,by simpa using I.len⟩ ⟨_,hs,.inl rfl⟩
  ·exact (hs.2 b (SY (SG (Sz e) I.ok.above))).trans (I.base.keep b o e n hb hx)
  ·obtain ⟨sl,e1⟩:=I.base.slot b o e n hb hx
   exact ⟨sl,(hs.2 b (SY (SG (Sz e) I.ok.above))).trans e1⟩
  ·obtain ⟨o',e1⟩:=I.base.there b o e hx
   exact ⟨o',(hs.2 b (SY (SG (Sz e) I.ok.above))).trans e1⟩
  ·by_cases hj:j=i
   ·subst hj
    rw [hi] at e1;cases e1
    rw [Uo hiσ] at e2
    cases e2
    exact ⟨u,r,.inl ⟨hk,by simp⟩⟩
   ·rw [Ti (U_ hj)] at e2
    obtain ⟨u',r',q⟩:=hl j y v' e1 e2 e3
    refine ⟨u',r',?_⟩
    rcases q with ⟨k,e⟩ | ⟨k,c,e,z⟩
    ·refine .inl ⟨k,?_⟩
     have:y≠x:=λe=>hj (Ab hN e1 (e▸hi))
     simp [this,e]
    ·exact .inr ⟨k,c,e,z.sameBut hs (cne y c e)⟩
  ·obtain ⟨w',z⟩:=I.cell y c e
   exact ⟨w',z.sameBut hs (cne y c e)⟩
  ·obtain ⟨e,n,ne,nf,d⟩:=I.pin p hp
   exact ⟨(hs.2 p.1 ne).trans e,n,ne,nf,d⟩
 ·have hfn:X.fn x=true:=by
   rcases hf with z | z
   ·exact z
   ·rw [z] at hk;cases hk
  obtain ⟨c,hc⟩:=I.ok.has x (.inl hk)
  obtain ⟨w',z⟩:=I.cell x c hc
  refine wpAny_storeName_cell I.ok.kind hk hc z (λh' hc' hs=>?_)
  obtain ⟨oc,hoc,Q5⟩:=id z
  refine h {s with heap:=h'} ⟨I.ok,I.os,I.bare,⟨λb o e n hb hx=>?_,λb o e n hb hx=>?_,I.base.free,λb o e hx=>?_,I.base.tups,I.base.frzs,I.base.tbls⟩,⟨m,hn.sameBut hs (U_ (cne x c hc)),λj y v' e1 e2 e3=>?_⟩,λy c' e=>?_,I.free,I.freeC,λp hp=>?_,tracked ⟨oc,hoc,I.freeC x c hc⟩ hs,by simpa using I.len⟩ ⟨c,hs,.inr hc⟩
  ·exact (hs.2 b (SY (SG (Sz e) (I.ok.cab x c hfn hc)))).trans (I.base.keep b o e n hb hx)
  ·obtain ⟨sl,e1⟩:=I.base.slot b o e n hb hx
   exact ⟨sl,(hs.2 b (SY (SG (Sz e) (I.ok.cab x c hfn hc)))).trans e1⟩
  ·obtain ⟨o',e1⟩:=I.base.there b o e hx
   exact ⟨o',(hs.2 b (SY (SG (Sz e) (I.ok.cab x c hfn hc)))).trans e1⟩
  ·by_cases hj:j=i
   ·subst hj
    rw [hi] at e1;cases e1
    rw [Uo hiσ] at e2
    cases e2
    exact ⟨u,r,.inr ⟨.inl hk,c,hc,hc'⟩⟩
   ·rw [Ti (U_ hj)] at e2
    obtain ⟨u',r',q⟩:=hl j y v' e1 e2 e3
    refine ⟨u',r',?_⟩
    rcases q with q | ⟨k,c',e,z'⟩
    ·exact .inl q
    ·refine .inr ⟨k,c',e,z'.sameBut hs ?_⟩
     rintro rfl
     exact hj (Ab hN e1 (I.ok.inj _ _ _ e hc▸hi))
  ·by_cases hcc:c'=c
   ·subst hcc;exact ⟨_,hc'⟩
   ·obtain ⟨w2,z2⟩:=I.cell y c' e
    exact ⟨w2,z2.sameBut hs hcc⟩
  ·obtain ⟨e,n,ne,nf,d⟩:=I.pin p hp
   refine ⟨(hs.2 p.1 ?_).trans e,n,ne,nf,d⟩
   intro q
   rw [q,hoc] at e
   have q':oc=p.2:=Tf e
   exact d w' (by rw [<-q'];exact Q5)
theorem tF {M:acL}{A:S5}{E:R8->R_->Prop}{i:Nat}{x:Str}{v:V}{u:R8}{Q:Unit->R_->Prop}(I:Inv X RX σ H s) (hN:X.N.Nodup) (hi:X.N[i]?=some x) (hx:Loc X.env.scope x) (r:RelV v u)
  (h:∀s',Inv X RX (σ.set i (some v)) H s'->Q () s') (hf:X.fn x=true\/X.env.scope.names.lookup x=some .local:=by first | exact .inl rfl | exact .inr rfl | assumption):Sx M A (acv X.env x u) Q E s:=
 mO I hN hi hx r (λs' I' _=>h s' I') hf
theorem Inv.call' {s':R_}{ch:List Sm}(I:Inv X RX σ H s) (ho:s'.os=s.os) (u:Un (frs X.stack) ch H H' s.heap s'.heap) (hok:fR X.prog X.w H' s'.heap) (hg:Yr s'.gens)
  (hch:∀b∈ch,(b∈X.ex\/X.s₀.heap.objs.size<=b)/\b≠X.env.locals/\(∀x c,X.env.cells.lookup x=some c->c≠b)/\∀p∈X.pn++RX,p.1≠b):Inv X RX σ H' s':=by
 obtain ⟨h',g',d',t',o'⟩:=s'
 have e:o'=s.os:=ho
 subst e
 exact I.call (g':=g') (t':=t') (d':=d') u hok hg hch
end
abbrev XK:=R8->Option Sm->Hp->Prop
abbrev St:=List (Option V)
abbrev VK:=V->Hp->Prop
abbrev TE:=St->Hp->VK->Prop
abbrev TT:=St->Hp->(Bool->Hp->Prop)->Prop
abbrev TA:=St->Hp->(List V->Hp->Prop)->Prop
structure Ends where
 nx:St->Hp->Prop
 rt:VK
 bk:St->Hp->Prop:=λ_ _=>False
 ct:St->Hp->Prop:=λ_ _=>False
abbrev TS:=Ends->St->Hp->Prop
def EP (X:Cx) (RX:List (Sm×Obj)) (σ:St) (Q:VK) (u:R8) (s':R_):Prop:=∃v H',Inv X RX σ H' s'/\RelV v u/\Q v H'
def TP (X:Cx) (RX:List (Sm×Obj)) (σ:St) (Q:Bool->Hp->Prop) (b:Bool) (s':R_):Prop:=∃H',Inv X RX σ H' s'/\Q b H'
def AP (X:Cx) (RX:List (Sm×Obj)) (σ:St) (Q:List V->Hp->Prop) (us:List R8) (s':R_):Prop:=∃vs H',Inv X RX σ H' s'/\Vals vs us/\Q vs H'
noncomputable def SP (X:Cx) (RX:List (Sm×Obj)) (D:Ends) (f:Flow) (s':R_):Prop:=
 match f with
 | .next=>∃σ' H',Inv X RX σ' H' s'/\D.nx σ' H'
 | .brk=>∃σ' H',Inv X RX σ' H' s'/\D.bk σ' H'
 | .cont=>∃σ' H',Inv X RX σ' H' s'/\D.ct σ' H'
 | .ret u=>∃v σ' H',Inv X RX σ' H' s'/\RelV v u/\D.rt v H'
noncomputable def PE (X:Cx) (e:S4) (t:TE):Prop:=
 ∀(RX:List (Sm×Obj)) (s:R_) (σ:St) (H:Hp) (Q:VK),Inv X RX σ H s->t σ H Q->Sx (SE X.prog X.w) X.A (eval e X.env) (EP X RX σ Q) X.xe s
noncomputable def PT (X:Cx) (e:S4) (t:TT):Prop:=
 ∀(RX:List (Sm×Obj)) (s:R_) (σ:St) (H:Hp) (Q:Bool->Hp->Prop),Inv X RX σ H s->t σ H Q->Sx (SE X.prog X.w) X.A (ZA e X.env (eval e X.env)) (TP X RX σ Q) X.xe s
noncomputable def PW (X:Cx) (e:S4) (t:TT):Prop:=
 ∀(whole:Sem R8) (RX:List (Sm×Obj)) (s:R_) (σ:St) (H:Hp) (Q:Bool->Hp->Prop),Inv X RX σ H s->t σ H Q->Sx (SE X.prog X.w) X.A (ZA e X.env whole) (TP X RX σ Q) X.xe s
theorem PW.pt {X:Cx}{e:S4}{t:TT}(h:PW X e t):PT X e t:=h _
noncomputable def PA (X:Cx) (es:List S4) (t:TA):Prop:=
 ∀(pos:Pos) (RX:List (Sm×Obj)) (s:R_) (σ:St) (H:Hp) (Q:List V->Hp->Prop),Inv X RX σ H s->t σ H Q->Sx (SE X.prog X.w) X.A (spliced (UL pos (Sl es X.env))) (AP X RX σ Q) X.xe s
noncomputable def PS (X:Cx) (st:VA) (t:TS):Prop:=
 ∀(RX:List (Sm×Obj)) (s:R_) (σ:St) (H:Hp) (D:Ends),Inv X RX σ H s->t D σ H->Sx (SE X.prog X.w) X.A (exec st X.env) (SP X RX D) X.xe s
noncomputable def kh (X:Cx) (st:List VA) (t:TS):Prop:=
 ∀(RX:List (Sm×Obj)) (s:R_) (σ:St) (H:Hp) (D:Ends),Inv X RX σ H s->t D σ H->Sx (SE X.prog X.w) X.A (execs st X.env) (SP X RX D) X.xe s
theorem bN {α:Type}{t:Sem α}{Q Q':α->R_->Prop}{M:acL}{A:S5}{E:R8->R_->Prop}{s:R_}(h:Sx M A t Q E s) (hQ:∀a s,Q a s->Q' a s):Sx M A t Q' E s:=Tw h hQ λ_ _ x=>x
section
variable {X:Cx}
theorem bin {a b:S4}{ta tb:TE}(ha:PE X a ta) (hb:PE X b tb){RX:List (Sm×Obj)}{s:R_}{σ:St}{H:Hp}{R:V->V->Hp->Prop}(I:Inv X RX σ H s) (h:ta σ H λx H1=>tb σ H1 λy H2=>R x y H2)
  {α:Type}{Q:α->R_->Prop}{f:R8->R8->Sem α}
  (hf:∀v u s2 x y H2,Inv X RX σ H2 s2->RelV x v->RelV y u->R x y H2->Sx (SE X.prog X.w) X.A (f v u) Q X.xe s2):
  Sx (SE X.prog X.w) X.A (eval a X.env) (λv s₁=>Sx (SE X.prog X.w) X.A (eval b X.env) (λu s₂=>Sx (SE X.prog X.w) X.A (f v u) Q X.xe s₂) X.xe s₁) X.xe s:=by
 refine bN (ha RX s σ H _ I h) λv s1 ⟨x,H1,I1,r1,q1⟩=>?_
 refine bN (hb RX s1 σ H1 _ I1 q1) λu s2 ⟨y,H2,I2,r2,q2⟩=>?_
 exact hf v u s2 x y H2 I2 r1 r2 q2
def M1 (i:Nat):TE:=λσ H Q=>∃v,σ[i]?=some (some v)/\Q v H
def tC (v:V):TE:=λ_ H Q=>Q v H
theorem kY {i:Nat}{x:Str}{pos:Pos}(hN:X.N[i]?=some x) (hv:rS X.env.scope x) (hd:(x == ("__debug__":Str))=false:=by decide) (hcd:(x == ("__classdict__":Str))=false:=by decide):PE X (.Name x pos) (M1 i):=by
 intro RX s σ H Q I h
 obtain ⟨v,e,h⟩:=h
 obtain ⟨m,hn,hl⟩:=I.loc
 obtain ⟨u,r,l⟩:=hl i x v hN e hv
 have fin:EP X RX σ Q u s:=⟨v,H,I,r,h⟩
 rcases l with ⟨hk,hm⟩ | ⟨hk,c,hc,hcell⟩
 ·exact abU (Zp I.ok.kind hk hn hm fin) hd
 ·rcases hk with hk | hk
  ·exact abU (ZJ I.ok.kind hk hc hcell fin) hd
  ·exact abU (wpAny_loadName_free I.ok.kind hk hc hcell fin hcd) hd
theorem Mk {i j pos}:PE X (.Constant (.int i) j pos) (tC (.int i)):=λ_ _ _ H _ I h=>wpAny_Constant_int ⟨.int i,H,I.tok _,⟨_,rfl⟩,h⟩
theorem NB {b j pos}:PE X (.Constant (.bool b) j pos) (tC (.bl b)):=λ_ _ _ H _ I h=>Constant_bool ⟨.bl b,H,I,rfl,h⟩
theorem Mm {j pos}:PE X (.Constant .none j pos) (tC .non):=λ_ _ _ H _ I h=>Constant_none ⟨.non,H,I,rfl,h⟩
theorem Mr {x j pos}:PE X (.Constant (.str x) j pos) (tC (.str x)):=λ_ _ _ H _ I h=>Calls.Constant_str ⟨.str x,H,I.tok _,⟨_,rfl⟩,h⟩
def Gl (X:Cx) (x:Str):Prop:=X.env.kindOf x=some .globalImplicit
theorem BA {E:R8->R_->Prop}{RX:List (Sm×Obj)}{s:R_}{σ:St}{H:Hp}{x:Str}{u:R8}{pos:Pos}{Q:R8->R_->Prop}(I:Inv X RX σ H s) (hg:Gl X x) (hm:X.mg x=some u) (h:Q u s)
  (hd:(x == ("__debug__":Str))=false:=by decide):Sx (SE X.prog X.w) X.A (eval (.Name x pos) X.env) Q E s:=
 XX I.ok.kind hg (Calls.loadGlobal_global (by rw [I.ok.glob];exact I.mod.glob.keeps I.bk) hm h) hd
theorem nE {E:R8->R_->Prop}{RX:List (Sm×Obj)}{s:R_}{σ:St}{H:Hp}{x:Str}{u:R8}{pos:Pos}{Q:R8->R_->Prop}(I:Inv X RX σ H s) (hg:Gl X x) (hm:X.mg x=none) (hv:TX x=some u) (h:Q u s)
  (hn:x≠"__name__":=by decide) (hd:(x == ("__debug__":Str))=false:=by decide):Sx (SE X.prog X.w) X.A (eval (.Name x pos) X.env) Q E s:=by
 obtain ⟨mb,h1,h2⟩:=I.mod.blt
 exact XX I.ok.kind hg (Calls.loadGlobal_builtin (by rw [I.ok.glob];exact I.mod.glob.keeps I.bk) hm (by rw [I.ok.blt];exact h1.keeps I.bk) ((h2 x hn).trans hv) h) hd
theorem BI {x:Str}{v:V}{u:R8}{pos:Pos}(hg:Gl X x) (hm:X.mg x=some u) (r:RelV v u) (hd:(x == ("__debug__":Str))=false:=by decide):PE X (.Name x pos) (tC v):=
 λ_ _ _ H _ I h=>BA I hg hm ⟨v,H,I,r,h⟩ hd
theorem JY {x:Str}{v:V}{u:R8}{pos:Pos}(hg:Gl X x) (hm:X.mg x=none) (hv:TX x=some u) (r:RelV v u) (hn:x≠"__name__":=by decide) (hd:(x == ("__debug__":Str))=false:=by decide):PE X (.Name x pos) (tC v):=
 λ_ _ _ H _ I h=>nE I hg hm hv ⟨v,H,I,r,h⟩ hn hd
variable {a b:S4}{ta tb:TE}{pos:Pos}
noncomputable def PC (X:Cx) (op:abE) (a b:S4) (t:TE):Prop:=
 ∀(RX:List (Sm×Obj)) (s:R_) (σ:St) (H:Hp) (Q:VK),Inv X RX σ H s->t σ H Q->
  Sx (SE X.prog X.w) X.A (eval a X.env) (λv s₁=>Sx (SE X.prog X.w) X.A (eval b X.env) (λu s₂=>Sx (SE X.prog X.w) X.A (T5 op v u) (EP X RX σ Q) X.xe s₂) X.xe s₁) X.xe s
theorem GI (b:S4){op:abE}(h:op≠.In) (h2:op≠.NotIn):Uj op b=false:=by
 have e1:(op == adC)=false:=by cases op <;> first | rfl | exact absurd rfl h
 have e2:(op == acM)=false:=by cases op <;> first | rfl | exact absurd rfl h2
 cases b <;> simp [Uj,e1,e2]
def tB (t:TE):TT:=λσ H Q=>t σ H λx H1=>∃c,x=.bl c/\Q c H1
theorem Py {op:abE}{t:TE}(h:PC X op a b t) (h1:Uj op b=false:=by first | exact GI _ (by decide) (by decide) | rfl):PT X (.Compare a [op] [b] pos) (tB t):=by
 intro RX s σ H Q I hw
 refine YX (bN (h RX s σ H _ I hw) λv s1 h1=>bN h1 λu s2 h2=>bN h2 λc s3 ⟨x,H1,I1,r1,q1⟩=>?_) h1
 obtain ⟨d,rfl,q⟩:=q1
 cases r1
 exact TN ⟨H1,I1,q⟩
theorem MD {e:S4}{t:TE}(h:PE X e t) (he:∀whole,ZA e X.env whole=(do let v <-whole;VS e.pos;holding [v] (truthy v)):=by intro _;rfl):PT X e (tB t):=by
 intro RX s σ H Q I hw
 refine isTrue_plain (bN (h RX s σ H _ I hw) λv s1 ⟨x,H1,I1,r1,q1⟩=>?_) (he _)
 obtain ⟨d,rfl,q⟩:=q1
 cases r1
 exact TN ⟨H1,I1,q⟩
variable {tA tB':TT}{rest:List S4}
def O4 (t u:TT):TT:=λσ H Q=>t σ H λc H1=>if c=true then u σ H1 Q else Q false H1
def PL (t u:TT):TT:=λσ H Q=>t σ H λc H1=>if c=true then Q true H1 else u σ H1 Q
def O9 (t:TT):TT:=λσ H Q=>t σ H λc H1=>Q (!c) H1
theorem Kg (ha:PT X a tA):PW X (.BoolOp .And [a] pos) tA:=by
 intro wh RX s σ H Q I h
 refine isTrue_and (bN (ha RX s σ H Q I h) λc s1 e=>?_)
 cases c with
 | true=>exact isTrue_and_nil e
 | false=>exact e
theorem MG (ha:PT X a tA):PW X (.BoolOp .Or [a] pos) tA:=by
 intro wh RX s σ H Q I h
 refine isTrue_or (bN (ha RX s σ H Q I h) λc s1 e=>?_)
 cases c with
 | false=>exact isTrue_or_nil e
 | true=>exact e
theorem MF (ha:PT X a tA) (hb:PW X (.BoolOp .And (b::rest) pos) tB'):PW X (.BoolOp .And (a::b::rest) pos) (O4 tA tB'):=by
 intro wh RX s σ H Q I h
 refine isTrue_and (bN (ha RX s σ H _ I h) λc s1 ⟨H1,I1,q1⟩=>?_)
 cases c with
 | true=>exact hb wh RX s1 σ H1 Q I1 q1
 | false=>exact ⟨H1,I1,q1⟩
theorem NI (ha:PT X a tA) (hb:PW X (.BoolOp .Or (b::rest) pos) tB'):PW X (.BoolOp .Or (a::b::rest) pos) (PL tA tB'):=by
 intro wh RX s σ H Q I h
 refine isTrue_or (bN (ha RX s σ H _ I h) λc s1 ⟨H1,I1,q1⟩=>?_)
 cases c with
 | true=>exact ⟨H1,I1,q1⟩
 | false=>exact hb wh RX s1 σ H1 Q I1 q1
theorem MC (ha:PT X a tA):PT X (.UnaryOp .Not a pos) (O9 tA):=by
 intro RX s σ H Q I h
 exact isTrue_not (ha RX s σ H (λc H1=>Q (!c) H1) I h)
def NV (ta tb:TE):TE:=λσ H Q=>ta σ H λx H1=>∃c,x=.bl c/\if c=true then tb σ H1 Q else Q (.bl false) H1
def O_ (ta tb:TE):TE:=λσ H Q=>ta σ H λx H1=>∃c,x=.bl c/\if c=true then Q (.bl true) H1 else tb σ H1 Q
def NZ (ta:TE):TE:=λσ H Q=>ta σ H λx H1=>∃c,x=.bl c/\Q (.bl (!c)) H1
theorem Mq {op}{t:TE}(h:PE X a t):PE X (.BoolOp op [a] pos) t:=λRX s σ H Q I hw=>BoolOp_one (h RX s σ H Q I hw)
theorem Mj (ha:PE X a ta) (hb:PE X (.BoolOp .And (b::rest) pos) tb):PE X (.BoolOp .And (a::b::rest) pos) (NV ta tb):=by
 intro RX s σ H Q I h
 refine BoolOp_and (bN (ha RX s σ H _ I h) λv s1 ⟨x,H1,I1,r1,q1⟩=>?_)
 obtain ⟨c,rfl,q1⟩:=q1
 cases r1
 refine TN ?_
 cases c with
 | true=>exact hb RX s1 σ H1 Q I1 q1
 | false=>exact ⟨.bl false,H1,I1,rfl,q1⟩
theorem NF (ha:PE X a ta) (hb:PE X (.BoolOp .Or (b::rest) pos) tb):PE X (.BoolOp .Or (a::b::rest) pos) (O_ ta tb):=by
 intro RX s σ H Q I h
 refine BoolOp_or (bN (ha RX s σ H _ I h) λv s1 ⟨x,H1,I1,r1,q1⟩=>?_)
 obtain ⟨c,rfl,q1⟩:=q1
 cases r1
 refine TN ?_
 cases c with
 | false=>exact hb RX s1 σ H1 Q I1 q1
 | true=>exact ⟨.bl true,H1,I1,rfl,q1⟩
theorem Mp (ha:PE X a ta):PE X (.UnaryOp .Not a pos) (NZ ta):=by
 intro RX s σ H Q I h
 refine UnaryOp_ (bN (ha RX s σ H _ I h) λv s1 ⟨x,H1,I1,r1,q1⟩=>?_)
 obtain ⟨c,rfl,q1⟩:=q1
 cases r1
 exact not_of (TN ⟨.bl (!c),H1,I1,rfl,q1⟩)
end
noncomputable def cK (K:R7) (H:Hp) (a:Sm) (xs:List V):Prop:=
 Rd H a (.lst xs)\/
  ∃(o:Obj) (RY:Array R8) (n:Nat),K.lookup a=some o/\o.cls=.type "list"/\o.dict=none/\o.data=.seq RY n/\RY.size<=sizeLine/\Vals xs RY.toList
noncomputable def cZ (K:R7) (H:Hp) (a:Sm) (xs:List V):Prop:=
 Rd H a (.tup xs)\/
  ∃(o:Obj) (RY:Array R8) (n:Nat),K.lookup a=some o/\o.cls=.type "tuple"/\o.data=.seq RY n/\RY.size<=sizeLine/\Vals xs RY.toList
noncomputable def OB:R8->Option V
 | .none=>some .non
 | .bool b=>some (.bl b)
 | .int i _=>some (.int i)
 | .str x _=>some (.str x)
 | .bytes b _=>some (.byt b)
 | .float b _=>some (.flt b)
 | .ref a=>some (.ref a)
 | .type n=>some (.ty n)
 | _=>none
theorem RelV.abs {x:V}{u:R8}(r:RelV x u):OB u=some x:=by
 cases x with
 | non=>cases r;rfl
 | bl _=>cases r;rfl
 | int _=>obtain ⟨t,rfl⟩:=r;rfl
 | str _=>obtain ⟨t,rfl⟩:=r;rfl
 | byt _=>obtain ⟨t,rfl⟩:=r;rfl
 | flt _=>obtain ⟨t,rfl⟩:=r;rfl
 | ref _=>cases r;rfl
 | ty _=>cases r;rfl
theorem RelV.inj {x y:V}{u:R8}(r:RelV x u) (q:RelV y u):x=y:=Tf (r.abs.symm.trans q.abs)
theorem Vals.inj:∀{xs ys:List V}{us:List R8},Vals xs us->Vals ys us->xs=ys
 | _,_,_,.nil,.nil=>rfl
 | _,_,_,.cons r t,.cons r' t'=>by rw [r.inj r',Vals.inj t t']
section
variable {X:Cx}{RX:List (Sm×Obj)}{σ:St}{H:Hp}{s:R_}{a:Sm}{xs ys:List V}
theorem cK.of {K:R7}(h:H a=some (.lst xs)):cK K H a xs:=.inl (.inl h)
theorem Inv.list (I:Inv X RX σ H s) (h:cK X.K H a xs):∃RY:List R8,Vals xs RY/\PlainL s.heap a RY.toArray/\xs.length<=sizeLine:=by
 rcases h with h | ⟨o,RY,n,hk,hc,hd,hs,hz,r⟩
 ·obtain ⟨z,RY,n,r,e⟩:=h.ok I.hok
  exact ⟨RY,r,⟨_,n,e,rfl,rfl,rfl⟩,z⟩
 ·refine ⟨RY.toList,r,⟨o,n,I.kIn a o hk,hc,hd,by simpa using hs⟩,?_⟩
  have e:=r.length
  simp only [Sq] at e
  omega
theorem Inv.tuple (I:Inv X RX σ H s) (h:cZ X.K H a xs):∃RY:List R8,Vals xs RY/\acK s.heap a RY.toArray/\xs.length<=sizeLine:=by
 rcases h with h | ⟨o,RY,n,hk,hc,hs,hz,r⟩
 ·obtain ⟨z,RY,r,p⟩:=h.ok I.hok
  exact ⟨RY,r,p,z⟩
 ·refine ⟨RY.toList,r,⟨o,I.kIn a o hk,hc,n,by simpa using hs⟩,?_⟩
  have e:=r.length
  simp only [Sq] at e
  omega
theorem Inv.list_inj (I:Inv X RX σ H s) (h:cK X.K H a xs) (h':cK X.K H a ys):xs=ys:=by
 obtain ⟨RY,r,⟨o,n,e,_,_,d⟩,_⟩:=I.list h
 obtain ⟨its',r',⟨o',n',e',_,_,d'⟩,_⟩:=I.list h'
 rw [e] at e';cases e'
 rw [d] at d'
 injection d' with d1 _
 have:RY=its':=by simpa using congrArg YY d1
 subst this
 exact r.inj r'
theorem Inv.tuple_inj (I:Inv X RX σ H s) (h:cZ X.K H a xs) (h':cZ X.K H a ys):xs=ys:=by
 obtain ⟨RY,r,⟨o,e,_,n,d⟩,_⟩:=I.tuple h
 obtain ⟨its',r',⟨o',e',_,n',d'⟩,_⟩:=I.tuple h'
 rw [e] at e';cases e'
 rw [d] at d'
 injection d' with d1 _
 have:RY=its':=by simpa using congrArg YY d1
 subst this
 exact r.inj r'
end
abbrev Cx.wish (X:Cx) (E:R8->R_->Prop):Cx:={X with xe:=E}
abbrev Cx.nox (X:Cx):Cx:=X.wish λ_ _=>False
theorem Cx.Ok.wish {X:Cx}(ok:X.Ok) (E:R8->R_->Prop):(X.wish E).Ok:=
 ⟨ok.mod,ok.kind,ok.glob,ok.blt,ok.above,ok.inj,ok.has,ok.cab,ok.hd,ok.frames,ok.stk,ok.exf,ok.bs,ok.bsz,ok.noex,ok.exfs,ok.funs,ok.frf⟩
theorem Cx.Ok.unwish {X:Cx}{E:R8->R_->Prop}(ok:(X.wish E).Ok):X.Ok:=
 ⟨ok.mod,ok.kind,ok.glob,ok.blt,ok.above,ok.inj,ok.has,ok.cab,ok.hd,ok.frames,ok.stk,ok.exf,ok.bs,ok.bsz,ok.noex,ok.exfs,ok.funs,ok.frf⟩
section
variable {X:Cx}{RX:List (Sm×Obj)}{σ:St}{H:Hp}{s:R_}{E:R8->R_->Prop}
theorem Inv.wish (I:Inv X RX σ H s) (E:R8->R_->Prop):Inv (X.wish E) RX σ H s:=⟨I.ok.wish E,I.os,I.bare,I.base,I.loc,I.cell,I.free,I.freeC,I.pin,I.hok,I.len⟩
theorem Inv.unwish (I:Inv (X.wish E) RX σ H s):Inv X RX σ H s:=⟨I.ok.unwish,I.os,I.bare,I.base,I.loc,I.cell,I.free,I.freeC,I.pin,I.hok,I.len⟩
theorem SP.unwish {D:Ends}{f:Flow}{s':R_}(h:SP (X.wish E) RX D f s'):SP X RX D f s':=by
 cases f with
 | next=>obtain ⟨σ',H',I,q⟩:=h;exact ⟨σ',H',I.unwish,q⟩
 | brk=>obtain ⟨σ',H',I,q⟩:=h;exact ⟨σ',H',I.unwish,q⟩
 | cont=>obtain ⟨σ',H',I,q⟩:=h;exact ⟨σ',H',I.unwish,q⟩
 | ret u=>obtain ⟨v,σ',H',I,r,q⟩:=h;exact ⟨v,σ',H',I.unwish,r,q⟩
theorem kh.nox {st:List VA}{t:TS}(h:kh X.nox st t):kh X st t:=λRX s σ H D I hw=>
 Tw (h RX s σ H D (I.wish _) hw) (λ_ _ q=>q.unwish) λ_ _ z=>V_ z
end
section
variable {X:Cx}{st:VA}{rest:List VA}{t u:TS}{e:S4}{te:TE}{pos:Pos}
def NY:TS:=λD σ H=>D.nx σ H
def Pb (t u:TS):TS:=λD σ H=>t {D with nx:=u D} σ H
theorem Kd:kh X [] NY:=λ_ _ σ H _ I h=>Xz ⟨σ,H,I,h⟩
theorem G6 (h1:PS X st t) (h2:kh X rest u):kh X (st::rest) (Pb t u):=by
 intro RX s σ H D I h
 refine aaR (bN (h1 RX s σ H {D with nx:=u D} I h) λf s1 q=>?_)
 cases f with
 | next=>
  obtain ⟨σ',H',I',q⟩:=q
  exact h2 RX s1 σ' H' D I' q
 | ret v=>exact q
 | brk=>exact q
 | cont=>exact q
theorem Ke (h1:PS X st t):kh X [st] t:=by
 intro RX s σ H D I h
 refine aaR (bN (h1 RX s σ H D I h) λf s1 q=>?_)
 cases f with
 | next=>exact Xz q
 | ret v=>exact q
 | brk=>exact q
 | cont=>exact q
theorem Inv.quiet {RX:List (Sm×Obj)}{σ:St}{H:Hp}{s:R_}(I:Inv X RX σ H s):interactive X.env=false:=by simp [interactive,I.ok.kind]
def NX (te:TE):TS:=λD σ H=>te σ H λ_ H1=>D.nx σ H1
theorem qZ (he:PE X e te) (hs:VZ e none pos.line X.env=pure false:=by rfl):PS X (.Expr e pos) (NX te):=by
 intro RX s σ H D I h
 exact wpAny_Expr_any (bN (he RX s σ H _ I h) λv s1 ⟨x,H1,I1,r1,q1⟩=>⟨σ,H1,I1,q1⟩) I.quiet hs
def Pa (te:TE):TS:=λD σ H=>te σ H D.rt
theorem MA (he:PE X e te):PS X (.Return (some e) pos) (Pa te):=by
 intro RX s σ H D I h
 exact wpAny_Return_some (bN (he RX s σ H _ I h) λv s1 ⟨x,H1,I1,r1,q1⟩=>⟨x,σ,H1,I1,r1,q1⟩)
def O7 (c:TT) (t u:TS):TS:=λD σ H=>c σ H λb H1=>if b=true then t D σ H1 else u D σ H1
theorem NH {c:S4}{a b:List VA}{tc:TT}(hc:PT X c tc) (ha:kh X a t) (hb:kh X b u):PS X (.If c a b pos) (O7 tc t u):=by
 intro RX s σ H D I h
 refine wpAny_If (bN (hc RX s σ H _ I h) λd s1 ⟨H1,I1,q1⟩=>?_)
 cases d with
 | true=>exact ha RX s1 σ H1 D I1 q1
 | false=>exact hb RX s1 σ H1 D I1 q1
end
abbrev TG:=V->St->Hp->(St->Hp->Prop)->Prop
abbrev ua:=List V->St->Hp->(St->Hp->Prop)->Prop
noncomputable def PG (X:Cx) (RZ:S4) (t:TG):Prop:=
 ∀(RX:List (Sm×Obj)) (s:R_) (σ:St) (H:Hp) (v:V) (u:R8) (Q:St->Hp->Prop),Inv X RX σ H s->RelV v u->t v σ H Q->
  Sx (SE X.prog X.w) X.A (assign RZ X.env u) (λ_ s'=>∃σ' H',Inv X RX σ' H' s'/\Q σ' H') X.xe s
noncomputable def yV (X:Cx) (ts:List S4) (t:ua):Prop:=
 ∀(RX:List (Sm×Obj)) (s:R_) (σ:St) (H:Hp) (vs:List V) (us:List R8) (Q:St->Hp->Prop),Inv X RX σ H s->Vals vs us->t vs σ H Q->
  Sx (SE X.prog X.w) X.A (assignInOrder ((VF ts X.env).map (·.2)) us) (λ_ s'=>∃σ' H',Inv X RX σ' H' s'/\Q σ' H') X.xe s
abbrev Ce:=V->V->V->Hp->(Hp->Prop)->Prop
noncomputable def Lb (X:Cx) (t:Ce):Prop:=
 ∀(RX:List (Sm×Obj)) (s:R_) (σ:St) (H:Hp) (o i v:V) (ov iv u:R8) (Q:Hp->Prop),Inv X RX σ H s->RelV o ov->RelV i iv->RelV v u->t o i v H Q->
  Sx (SE X.prog X.w) X.A (setItem ov iv u) (λ_ s'=>∃H',Inv X RX σ H' s'/\Q H') X.xe s
abbrev Ld:=V->V->Hp->VK->Prop
noncomputable def Pn (X:Cx) (op:ZX) (t:Ld):Prop:=
 ∀(RX:List (Sm×Obj)) (s:R_) (σ:St) (H:Hp) (x y:V) (v u:R8) (Q:VK),Inv X RX σ H s->RelV x v->RelV y u->t x y H Q->
  Sx (SE X.prog X.w) X.A (YZ op v u) (EP X RX σ Q) X.xe s
section
variable {X:Cx}{pos:Pos}
def Ie (i:Nat):TG:=λv σ H Q=>Q (σ.set i (some v)) H
theorem J6 {i:Nat}{x:Str}(hN:X.N.Nodup) (hi:X.N[i]?=some x) (hx:Loc X.env.scope x) (hf:X.fn x=true\/X.env.scope.names.lookup x=some .local:=by first | exact .inl rfl | exact .inr rfl | assumption):PG X (.Name x pos) (Ie i):=by
 intro RX s σ H v u Q I r h
 exact wpAny_assign_Name (tF I hN hi hx r (λs' I'=>⟨_,H,I',h⟩) hf)
def aG:ua:=λvs σ H Q=>vs=[]/\Q σ H
def aq (t:TG) (u:ua):ua:=λvs σ H Q=>∃v r,vs=v::r/\t v σ H λσ' H'=>u r σ' H' Q
theorem J_:yV X [] aG:=by
 intro RX s σ H vs us Q I r h
 obtain ⟨e,h⟩:=h
 subst e
 cases r
 exact assignInOrder_nil ⟨σ,H,I,h⟩
theorem G3 {e:S4}{es:List S4}{t:TG}{u:ua}(h1:PG X e t) (h2:yV X es u)
  (hs:(VF (e::es) X.env).map (·.2)=assign e X.env::(VF es X.env).map (·.2):=by rfl):yV X (e::es) (aq t u):=by
 intro RX s σ H vs us Q I r h
 obtain ⟨v,vr,e1,h⟩:=h
 subst e1
 cases r with
 | cons r rr=>
  rw [hs]
  refine assignInOrder_cons (bN (h1 RX s σ H _ _ _ I r h) λ_ s1 ⟨σ1,H1,I1,q1⟩=>?_)
  exact h2 RX s1 σ1 H1 _ _ Q I1 rr q1
def bD (K:R7) (n:Nat) (t:ua):TG:=λv σ H Q=>∃a xs,v=.ref a/\cZ K H a xs/\xs.length=n/\t xs σ H Q
theorem Mu {es:List S4}{k:Nat}{t:ua}{n:Nat}(hc:X.calm=true) (h:yV X es t)
  (hn:(VF es X.env).length=n:=by rfl) (hst:(VF es X.env).findIdx? (·.1)=none:=by rfl):PG X (.Tuple es k pos) (bD X.K n t):=by
 intro RX s σ H v u Q I r hw
 obtain ⟨a,xs,e1,hq,hl,hw⟩:=hw
 subst e1
 cases r
 obtain ⟨RY,rv,ht,hz⟩:=I.tuple hq
 refine assign_Tuple_tuple (I.ok.hd hc) ht (by simp [hn,<-hl,rv.length]) hst λh' hx=>?_
 have I1:Inv X RX σ H {s with heap:=h'}:=I.kept (t':=s.toks) λb o e=>hx b o (SY (Sz e)) e
 exact h RX _ σ H xs _ Q I1 (by simpa using rv) hw
def OF (to ti:TE) (t:Ce):TG:=λv σ H Q=>to σ H λo H1=>ti σ H1 λi H2=>t o i v H2 λH3=>Q σ H3
theorem Mt {o i:S4}{to ti:TE}{t:Ce}(ho:PE X o to) (hi:PE X i ti) (hs:Lb X t)
  (ha:∀v,assign (.Subscript o i pos) X.env v=(do
   let ov <-holding [v] (eval o X.env)
   let iv <-holding [v,ov] (eval i X.env)
   VS pos
   holding [v,ov,iv] (setItem ov iv v)
   release [v,ov,iv] []):=by intro _;rfl):PG X (.Subscript o i pos) (OF to ti t):=by
 intro RX s σ H v u Q I r h
 rw [ha]
 refine R6 (S_ (bN (ho RX s σ H _ I h) λov s1 ⟨x,H1,I1,r1,q1⟩=>?_))
 refine R6 (S_ (bN (hi RX s1 σ H1 _ I1 q1) λiv s2 ⟨y,H2,I2,r2,q2⟩=>?_))
 refine R6 (UD (R6 (S_ (bN (hs RX s2 σ H2 x y v ov iv u _ I2 r1 r2 r q2) λ_ s3 ⟨H3,I3,q3⟩=>?_))))
 exact wpAny_release ⟨σ,H3,I3,q3⟩
def HB (te:TE) (g:TG):TS:=λD σ H=>te σ H λx H1=>g x σ H1 D.nx
theorem E8 {tg e:S4}{te:TE}{g:TG}(he:PE X e te) (hg:PG X tg g) (hs:WB [tg] e pos.line X.env=pure false:=by rfl) (hw:ZY [tg] e X.env=pure none:=by rfl)
  (h1:(VF [tg] X.env).map (·.2)=[assign tg X.env]:=by rfl):PS X (.Assign [tg] e pos) (HB te g):=by
 intro RX s σ H D I h
 refine wpAny_Assign_stores (bN (he RX s σ H _ I h) λv s1 ⟨x,H1,I1,r1,q1⟩=>?_) hs hw
 rw [h1]
 exact bN (hg RX s1 σ H1 x v _ I1 r1 q1) λ_ s2 q=>q
theorem MB {i:Nat}{x:Str}{e:S4}{te:TE}{pos':Pos}(hN:X.N.Nodup) (hi:X.N[i]?=some x) (hx:Loc X.env.scope x) (he:PE X e te) (hs:VZ e (some (.Name x pos')) pos.line X.env=pure false:=by rfl) (hf:X.fn x=true\/X.env.scope.names.lookup x=some .local:=by first | exact .inl rfl | exact .inr rfl | assumption):
  PS X (.Assign [.Name x pos'] e pos) (HB te (Ie i)):=by
 intro RX s σ H D I h
 refine wpAny_Assign_Name (bN (he RX s σ H _ I h) λv s1 ⟨y,H1,I1,r1,q1⟩=>?_) hs
 exact tF I1 hN hi hx r1 (λs2 I2=>⟨_,H1,I2,q1⟩) hf
def O5 (i:Nat) (te:TE) (ti:Ld):TS:=λD σ H=>∃x,σ[i]?=some (some x)/\te σ H λy H1=>ti x y H1 λz H2=>D.nx (σ.set i (some z)) H2
theorem My {i:Nat}{x:Str}{e:S4}{te:TE}{op:ZX}{ti:Ld}{pos':Pos}(hN:X.N.Nodup) (hi:X.N[i]?=some x) (hx:Loc X.env.scope x) (he:PE X e te) (ho:Pn X op ti) (hf:X.fn x=true\/X.env.scope.names.lookup x=some .local:=by first | exact .inl rfl | exact .inr rfl | assumption):
  PS X (.AugAssign (.Name x pos') op e pos) (O5 i te ti):=by
 intro RX s σ H D I h
 obtain ⟨v,e1,h⟩:=h
 obtain ⟨m,hn,hl⟩:=I.loc
 have vis:rS X.env.scope x:=by rcases hx with k | k;exact .inl k;exact .inr (.inl k)
 obtain ⟨u,r,l⟩:=hl i x v hi e1 vis
 refine wpAny_AugAssign_Name ?_
 have go:Sx (SE X.prog X.w) X.A (eval e X.env) (λw s₂=>Sx (SE X.prog X.w) X.A (YZ op u w) (λr s₃=>Sx (SE X.prog X.w) X.A (acv X.env x r) (λ_=>SP X RX D .next) X.xe s₃) X.xe s₂) X.xe s:=by
  refine bN (he RX s σ H _ I h) λw s1 ⟨y,H1,I1,r1,q1⟩=>?_
  refine bN (ho RX s1 σ H1 v y u w _ I1 r r1 q1) λz s2 ⟨zv,H2,I2,r2,q2⟩=>?_
  exact tF I2 hN hi hx r2 (λs3 I3=>⟨_,H2,I3,q2⟩) hf
 rcases l with ⟨hk,hm⟩ | ⟨hk,c,hc,hcell⟩
 ·exact Zp I.ok.kind hk hn hm go
 ·rcases hk with hk | hk
  ·exact ZJ I.ok.kind hk hc hcell go
  ·rcases hx with k | k
   ·have:X.env.scope.names.lookup x=some .free:=hk
    rw [k] at this;cases this
   ·have:X.env.scope.names.lookup x=some .free:=hk
    rw [k] at this;cases this
noncomputable def M3 (c:TT) (tb:TS):TS:=λD σ H=>∃W:Nat->St->Hp->Prop,(∃m,W m σ H)/\∀m σ H,W m σ H->
 c σ H λb H1=>if b=true then ∃N:St->Hp->Prop,(∀σ' H',N σ' H'->∃m',m' < m/\W m' σ' H')/\tb {D with nx:=N,ct:=N,bk:=D.nx} σ H1 else D.nx σ H1
theorem G5 {c:S4}{body:List VA}{tc:TT}{tb:TS}(hp:aa5 (SE X.prog X.w) X.A X.env X.xe) (hc:PT X c tc) (hb:kh X body tb):PS X (.While c body [] pos) (M3 tc tb):=by
 intro RX s σ H D I h
 obtain ⟨W,⟨m0,w0⟩,turn⟩:=h
 refine wpAny_While (codeAny_whileLoop (λn s'=>∃σ' H',Inv X RX σ' H' s'/\W n σ' H') ?_ m0 ⟨σ,H,I,w0⟩)
 rintro n s1 ⟨σ1,H1,I1,w1⟩
 refine VG hp (bN (hc RX s1 σ1 H1 _ I1 (turn n σ1 H1 w1)) λb s2 ⟨H2,I2,q2⟩=>?_)
 cases b with
 | true=>
  obtain ⟨N,hN,q2⟩:=q2
  rw [if_pos rfl]
  refine VG hp (bN (hb RX s2 σ1 H2 _ I2 q2) λf s3 q3=>?_)
  cases f with
  | next=>
   obtain ⟨σ3,H3,I3,n3⟩:=q3
   obtain ⟨m',hm,w3⟩:=hN σ3 H3 n3
   exact ⟨m',hm,σ3,H3,I3,w3⟩
  | cont=>
   obtain ⟨σ3,H3,I3,n3⟩:=q3
   obtain ⟨m',hm,w3⟩:=hN σ3 H3 n3
   exact ⟨m',hm,σ3,H3,I3,w3⟩
  | brk=>exact q3
  | ret v=>exact q3
 | false=>
  rw [if_neg SX]
  exact Xz ⟨σ1,H2,I2,q2⟩
end
structure It where
 go:Nat->Hp->Prop
 yld:Nat->Hp->V->Hp->Prop
 stop:Nat->Hp->Prop
noncomputable def iw (X:Cx) (RX:List (Sm×Obj)) (H:Hp) (b:Sm):Prop:=
 H b=none/\b≠X.env.locals/\b∉X.fs/\(b∈X.ex\/X.s₀.heap.objs.size<=b)/\(∀x c,X.env.cells.lookup x=some c->c≠b)/\∀p∈X.pn++RX,p.1≠b
theorem Inv.fpOk {X:Cx}{RX:List (Sm×Obj)}{σ:St}{H H':Hp}{s:R_}{b:Sm}(I:Inv X RX σ H s) (hb:s.heap.objs.size<=b) (hn:H' b=none):iw X RX H' b:=by
 refine ⟨hn,VQ (SG I.lt hb),I.nofs hb,.inr (S7 I.sz hb),λx c e z=>?_,λp hp z=>?_⟩
 ·obtain ⟨v,q⟩:=I.cell x c e
  exact absurd (SG q.lt (by rw [z];exact hb)) (Us _)
 ·exact absurd (SG (Sz (I.pin p hp).1) (by rw [z];exact hb)) (Us _)
structure Turn (P:Su) (w:S3) (K:R7) (tg:S4) (J:It) (fp:List Sm) (it:Sm) (tn:Nat->TM->Prop):Prop where
 mem:it∈fp
 obj:∀i h,tn i h->∀b∈fp,∃o,h.get? b=some o/\∀v,o.data≠.cell v
 keep:∀i h h',tn i h->(∀b∈fp,∀o,h.get? b=some o->h'.get? b=some o)->tn i h'
 item:∀(X:Cx),X.prog=P->X.w=w->X.K=K->X.calm=true->∀(i:Nat) (RX:List (Sm×Obj)) (s:R_) (σ:St) (H:Hp) (E:R8->R_->Prop),Inv X RX σ H s->(∀b∈fp,iw X RX H b)->tn i s.heap->J.go i H->
  Sx (SE P w) X.A (Wi (.ref it)) (λr s1=>∃u,r=some u/\
   Sx (SE P w) X.A (Ve tg (.ref it) u) (λ_ s2=>∃x H',Inv X RX σ H' s2/\RelV x u/\J.yld i H x H'/\tn (i + 1) s2.heap/\∀b∈fp,H' b=none) E s1) E s
 done:∀(X:Cx),X.prog=P->X.w=w->X.K=K->X.calm=true->∀(i:Nat) (RX:List (Sm×Obj)) (s:R_) (σ:St) (H:Hp) (E:R8->R_->Prop),Inv X RX σ H s->(∀b∈fp,iw X RX H b)->tn i s.heap->J.stop i H->
  Sx (SE P w) X.A (Wi (.ref it)) (λr s1=>r=none/\Inv X RX σ H s1) E s
 self:∀(A:S5) (i:Nat) (s:R_) (Q:R8->R_->Prop) (E:R8->R_->Prop),tn i s.heap->Q (.ref it) s->Sx (SE P w) A (XZ (.ref it)) Q E s
abbrev TI:=St->Hp->(It->Hp->Prop)->Prop
noncomputable def Oc (X:Cx) (RX:List (Sm×Obj)) (σ:St) (tg:S4) (R:It->Hp->Prop) (itv:R8) (s2:R_):Prop:=
 ∃(it:Sm) (fp:List Sm) (tn:Nat->TM->Prop) (J:It) (H':Hp),itv=.ref it/\Inv X RX σ H' s2/\Turn X.prog X.w X.K tg J fp it tn/\tn 0 s2.heap/\(∀b∈fp,iw X RX H' b)/\R J H'
noncomputable def PI (X:Cx) (tg R0:S4) (wi:TI):Prop:=
 ∀(RX:List (Sm×Obj)) (s:R_) (σ:St) (H:Hp) (R:It->Hp->Prop),Inv X RX σ H s->wi σ H R->
  Sx (SE X.prog X.w) X.A (eval R0 X.env) (λv s1=>Sx (SE X.prog X.w) X.A (XZ v) (Oc X RX σ tg R) X.xe s1) X.xe s
theorem yG {M:acL}{A:S5}{E:R8->R_->Prop}{s:R_}{tg:S4}{it:Sm}{u:R8}{o:Obj}{n:String}{vs:Array R8}{Q:Unit->R_->Prop}(ho:s.heap.get? it=some o) (hc:o.cls=.type n) (hd:o.data=.fields vs)
  (hn:["enumerate","zip","dict_itemiterator","dict_reverseitemiterator","odict_iterator","itertools.zip_longest","itertools.pairwise"].contains n=false) (hQ:Q () s):Sx M A (Ve tg (.ref it) u) Q E s:=by
 unfold Ve
 cases tg <;> first
  | exact R9 hQ
  | (cases u <;> first
    | exact R9 hQ
    | (refine R6 (abV ho ?_);rw [hc,hd];show Sx M A (if (["enumerate","zip","dict_itemiterator","dict_reverseitemiterator","odict_iterator","itertools.zip_longest","itertools.pairwise"].contains n && vs[0]? == some (Y0 _))=true then _ else _) Q E s;rw [if_neg (by intro h;rw [hn,ZC] at h;cases h)];exact R9 hQ))
noncomputable def HM (K:R7) (a:Sm):It:=
 ⟨λi H=>∃xs x,cK K H a xs/\xs[i]?=some x,λi H x H'=>H'=H/\∀xs,cK K H a xs->xs[i]?=some x,λi H=>∃xs,cK K H a xs/\xs.length<=i⟩
noncomputable def HN (K:R7) (a:Sm):It:=
 ⟨λi H=>∃xs x,cZ K H a xs/\xs[i]?=some x,λi H x H'=>H'=H/\∀xs,cZ K H a xs->xs[i]?=some x,λi H=>∃xs,cZ K H a xs/\xs.length<=i⟩
def DF (lo:Int) (n:Nat):It:=⟨λi _=>i < n,λi H x H'=>H'=H/\x=.int (lo + i),λi _=>n<=i⟩
theorem FD {P:Su}{w:S3}{K:R7}{tg:S4}(a it:Sm):Turn P w K tg (HM K a) [it] it (λi h=>h.IsListIter it a i) where
 mem:=by simp
 obj:=λi h st b hb=>by
  have e:b=it:=by simpa using hb
  subst e
  obtain ⟨o,e,c,d⟩:=st
  exact ⟨o,e,λv z=>by rw [d] at z;cases z⟩
 keep:=λi h h' st k=>st.at λo e=>k it (by simp) o e
 item:=by
  intro X hP hw hK hc i RX s σ H E I hf st hg
  subst hP hw hK
  obtain ⟨xs,x,hq,hx⟩:=hg
  obtain ⟨RY,rv,p,hz⟩:=I.list hq
  obtain ⟨u,hu,ru⟩:=rv.get hx
  obtain ⟨f0,f1,f2,f3,f4,f5⟩:=hf it (by simp)
  refine wpAny_pyNext_list_item st p.isList (x:=u) (by simpa using hu) λh' st' sb=>?_
  have I1:Inv X RX σ H {s with heap:=h'}:=I.turned (t':=s.toks) (λb o hb e=>(sb.2 b hb).trans e) f0 f1 f3 f4 f5
  obtain ⟨o,e,c,d⟩:=id st'
  exact ⟨u,rfl,yG (s:={s with heap:=h'}) e c d (by decide) ⟨x,H,I1,ru,⟨rfl,λys hy=>by rw [I.list_inj hy hq];exact hx⟩,st',λb hb=>(hf b hb).1⟩⟩
 done:=by
  intro X hP hw hK hc i RX s σ H E I hf st hg
  subst hP hw hK
  obtain ⟨xs,hq,hx⟩:=hg
  obtain ⟨RY,rv,p,hz⟩:=I.list hq
  obtain ⟨f0,f1,f2,f3,f4,f5⟩:=hf it (by simp)
  have hl:=rv.length
  exact wpAny_pyNext_list_end (I.ok.hd hc) st p.isList (by simp;omega) λh' eb=>⟨rfl,I.turned (t':=s.toks) (λb o hb e=>eb b o hb e) f0 f1 f3 f4 f5⟩
 self:=λ_ _ _ _ _ st h=>wpAny_pyIter_listiter st h
theorem Dw {P:Su}{w:S3}{K:R7}{tg:S4}(a it:Sm):Turn P w K tg (HN K a) [it] it (λi h=>h.IsTupleIter it a i) where
 mem:=by simp
 obj:=λi h st b hb=>by
  have e:b=it:=by simpa using hb
  subst e
  obtain ⟨o,e,c,d⟩:=st
  exact ⟨o,e,λv z=>by rw [d] at z;cases z⟩
 keep:=λi h h' st k=>st.at λo e=>k it (by simp) o e
 item:=by
  intro X hP hw hK hc i RX s σ H E I hf st hg
  subst hP hw hK
  obtain ⟨xs,x,hq,hx⟩:=hg
  obtain ⟨RY,rv,p,hz⟩:=I.tuple hq
  obtain ⟨u,hu,ru⟩:=rv.get hx
  obtain ⟨f0,f1,f2,f3,f4,f5⟩:=hf it (by simp)
  refine wpAny_pyNext_tuple_item st (show s.heap.IsTuple a RY.toArray from p) (x:=u) (by simpa using hu) λh' st' sb=>?_
  have I1:Inv X RX σ H {s with heap:=h'}:=I.turned (t':=s.toks) (λb o hb e=>(sb.2 b hb).trans e) f0 f1 f3 f4 f5
  obtain ⟨o,e,c,d⟩:=id st'
  exact ⟨u,rfl,yG (s:={s with heap:=h'}) e c d (by decide) ⟨x,H,I1,ru,⟨rfl,λys hy=>by rw [I.tuple_inj hy hq];exact hx⟩,st',λb hb=>(hf b hb).1⟩⟩
 done:=by
  intro X hP hw hK hc i RX s σ H E I hf st hg
  subst hP hw hK
  obtain ⟨xs,hq,hx⟩:=hg
  obtain ⟨RY,rv,p,hz⟩:=I.tuple hq
  obtain ⟨f0,f1,f2,f3,f4,f5⟩:=hf it (by simp)
  have hl:=rv.length
  exact wpAny_pyNext_tuple_end (I.ok.hd hc) st (show s.heap.IsTuple a RY.toArray from p) (by simp;omega) λh' eb=>⟨rfl,I.turned (t':=s.toks) (λb o hb e=>eb b o hb e) f0 f1 f3 f4 f5⟩
 self:=λ_ _ _ _ _ st h=>wpAny_pyIter_tupleiter st h
theorem Dv {P:Su}{w:S3}{K:R7}{tg:S4}(it:Sm) (lo:Int) (n:Nat):Turn P w K tg (DF lo n) [it] it (λi h=>IsRangeIter h it (lo + (i:Nat) * 1) ((n:Int) - (i:Nat)) 1) where
 mem:=by simp
 obj:=λi h st b hb=>by
  have e:b=it:=by simpa using hb
  subst e
  exact ⟨_,st,λv z=>by
   have z':acN _=aa6 v:=z
   cases z'⟩
 keep:=λi h h' st k=>k it (by simp) _ st
 item:=by
  intro X hP hw hK hc i RX s σ H E I hf st hg
  subst hP hw hK
  obtain ⟨f0,f1,f2,f3,f4,f5⟩:=hf it (by simp)
  have W:=Walks.range (prog:=X.prog) (w:=X.w) (I.ok.hd hc) it lo 1 n
  refine W.item i s _ _ hg st λv h' tk hv st' kk=>?_
  obtain ⟨t,rfl⟩:=hv
  have I1:Inv X RX σ H {s with heap:=h',toks:=tk}:=I.turned (λb o hb e=>kk b o (by simpa using hb) e) f0 f1 f3 f4 f5
  refine ⟨_,rfl,yG (s:={s with heap:=h',toks:=tk}) (n:="range_iterator") st' rfl rfl (by decide) ⟨.int (lo + i),H,I1,⟨t,?_⟩,⟨rfl,rfl⟩,st',λb hb=>(hf b hb).1⟩⟩
  rw [Int.mul_one]
 done:=by
  intro X hP hw hK hc i RX s σ H E I hf st hg
  subst hP hw hK
  obtain ⟨f0,f1,f2,f3,f4,f5⟩:=hf it (by simp)
  exact wpAny_pyNext_range_end (I.ok.hd hc) st (by have:n<=i:=hg;omega) λh' eb=>⟨rfl,I.turned (t':=s.toks) (λb o hb e=>eb b o hb e) f0 f1 f3 f4 f5⟩
 self:=λ_ _ _ _ _ st h=>wpAny_pyIter_rangeiter st h
section
variable {X:Cx}{tg:S4}
theorem Am {RX:List (Sm×Obj)}{σ:St}{H:Hp}{s:R_}{R:It->Hp->Prop}{E:R8->R_->Prop}{lo hi:Int}{t u v:Tok}{tk:Nat}(I:Inv X RX σ H s) (h1:-(2 ^ 62)<=lo) (h2:lo < 2 ^ 62) (h3:-(2 ^ 62)<=hi) (h4:hi < 2 ^ 62)
  (q:R (DF lo (hi - lo).toNat) H):Sx (SE X.prog X.w) X.A (XZ (.ref s.heap.objs.size)) (Oc X RX σ tg R) E {s with heap:=s.heap.push {cls:=.type "range",data:=.fields #[.int lo t,.int hi u,.int 1 v]},toks:=tk}:=by
 refine wpAny_pyIter_range (IsRange.new ..) (small_one h1 h2 h3 h4) ?_
 have I1:Inv X RX σ H {s with heap:=s.heap.push {cls:=.type "range",data:=.fields #[.int lo t,.int hi u,.int 1 v]},toks:=tk}:=I.kept λb o e=>Sg _ e
 refine ⟨(s.heap.push {cls:=.type "range",data:=.fields #[.int lo t,.int hi u,.int 1 v]}).objs.size,[(s.heap.push {cls:=.type "range",data:=.fields #[.int lo t,.int hi u,.int 1 v]}).objs.size],_,_,H,rfl,
  I1.kept (t':=tk) λb o e=>Sg _ e,Dv _ lo (hi - lo).toNat,?_,λb hb=>?_,q⟩
 ·have e1:lo + ((0:Nat):Int) * 1=lo:=by simp
  have e2:(((hi - lo).toNat:Nat):Int) - ((0:Nat):Int)=Ys lo hi 1:=by rw [ab9];split <;> omega
  show IsRangeIter _ _ (lo + ((0:Nat):Int) * 1) ((((hi - lo).toNat:Nat):Int) - ((0:Nat):Int)) 1
  rw [e1,e2]
  exact Sk _ rfl
 ·have e:b=(s.heap.push {cls:=.type "range",data:=.fields #[.int lo t,.int hi u,.int 1 v]}).objs.size:=by simpa using hb
  subst e
  exact I1.fpOk (Sj _) (I1.hok.fresh (Sj _))
def Nl (ta:TA):TI:=λσ H R=>ta σ H λvs H1=>∃j:Int,vs=[.int j]/\-(2 ^ 62)<=j/\j < 2 ^ 62/\R (DF 0 j.toNat) H1
noncomputable def Nm (ta:TA):TI:=λσ H R=>ta σ H λvs H1=>∃i j:Int,vs=[.int i,.int j]/\(-(2 ^ 62)<=i/\i < 2 ^ 62/\-(2 ^ 62)<=j/\j < 2 ^ 62)/\R (DF i (j - i).toNat) H1
theorem E3 {a:S4}{ta:TA}{p pos:Pos}(hg:Gl X "range") (hm:X.mg "range"=none) (ha:PA X [a] ta) (hs:Sl [a] X.env=[(false,eval a X.env)]:=by rfl):PI X tg (.Call (.Name "range" p) [a] [] pos) (Nl ta):=by
 intro RX s σ H R I h
 refine Call_ (nE I hg hm abW (Vf (bN (ha pos RX s σ H _ I h) λus s1 ⟨vs,H1,I1,r1,q1⟩=>?_) hs rfl))
 obtain ⟨j,e,q1,q2,q⟩:=q1
 subst e
 cases r1 with
 | cons r rr=>
  cases rr
  obtain ⟨t,rfl⟩:=r
  exact call_range_1 (Am I1 (by omega) (by omega) q1 q2 (by simpa using q))
theorem E4 {a b:S4}{ta:TA}{p pos:Pos}(hg:Gl X "range") (hm:X.mg "range"=none) (ha:PA X [a,b] ta) (hs:Sl [a,b] X.env=[(false,eval a X.env),(false,eval b X.env)]:=by rfl) (hs2:Sl [b] X.env=[(false,eval b X.env)]:=by rfl):
  PI X tg (.Call (.Name "range" p) [a,b] [] pos) (Nm ta):=by
 intro RX s σ H R I h
 refine Call_ (nE I hg hm abW (Vf (bN (ha pos RX s σ H _ I h) λus s1 ⟨vs,H1,I1,r1,q1⟩=>?_) (by rw [hs,hs2]) (by rw [hs2];rfl)))
 obtain ⟨i,j,e,⟨q1,q2,q3,q4⟩,q⟩:=q1
 subst e
 cases r1 with
 | cons r rr=>
  cases rr with
  | cons r' rr=>
   cases rr
   obtain ⟨t,rfl⟩:=r
   obtain ⟨t',rfl⟩:=r'
   exact call_range_2 (Am I1 q1 q2 q3 q4 q)
noncomputable def O6 (wi:TI) (g:TG) (tb:TS):TS:=λD σ H=>wi σ H λJ H1=>∃W:Nat->Nat->St->Hp->Prop,(∃m,W 0 m σ H1)/\∀i m σ H,W i m σ H->
 (J.stop i H/\D.nx σ H)\/(J.go i H/\∃N:St->Hp->Prop,(∀σ' H',N σ' H'->∃m',m' < m/\W (i + 1) m' σ' H')/\∀x H',J.yld i H x H'->g x σ H' λσ2 H2=>tb {D with nx:=N,ct:=N,bk:=D.nx} σ2 H2)
def qu (fp:List Sm) (h:TM):List (Sm×Obj):=fp.filterMap λb=>(h.get? b).map λo=>(b,o)
theorem kE {fp:List Sm}{h:TM}{b:Sm}{o:Obj}(hb:b∈fp) (e:h.get? b=some o):(b,o)∈qu fp h:=WC.mpr ⟨b,hb,by rw [e];rfl⟩
theorem EK {fp:List Sm}{h:TM}{p:Sm×Obj}(hp:p∈qu fp h):p.1∈fp/\h.get? p.1=some p.2:=by
 obtain ⟨b,hb,e⟩:=WC.mp hp
 cases q:h.get? b with
 | none=>rw [q] at e;cases e
 | some o=>
  rw [q] at e
  have e':(b,o)=p:=Tf e
  subst e'
  exact ⟨hb,q⟩
theorem Inv.pinned {RX:List (Sm×Obj)}{σ:St}{H:Hp}{s:R_}{fp:List Sm}(I:Inv X RX σ H s) (hf:∀b∈fp,iw X RX H b) (ho:∀b∈fp,∃o,s.heap.get? b=some o/\∀v,o.data≠.cell v):Inv X (RX++qu fp s.heap) σ H s:=
 I.pins_of λp hp=>(S0.mp hp).elim (λz=>I.pin p (Tg _ z)) λz=>by
  obtain ⟨hb,e⟩:=EK z
  obtain ⟨f0,f1,f2,_⟩:=hf p.1 hb
  obtain ⟨o,e',d⟩:=ho p.1 hb
  rw [e] at e';cases e'
  exact ⟨e,f0,f1,f2,d⟩
theorem Inv.unpinned {RX pl:List (Sm×Obj)}{σ:St}{H:Hp}{s:R_}(I:Inv X (RX++pl) σ H s):Inv X RX σ H s:=I.pins_of λp hp=>I.pin p (Tg _ (UJ _ hp))
theorem Mz {R0:S4}{body:List VA}{wi:TI}{g:TG}{tb:TS}{pos:Pos}(hp:aa5 (SE X.prog X.w) X.A X.env X.xe) (hc:X.calm=true) (hi:PI X tg R0 wi) (hg:PG X tg g) (hb:kh X body tb)
  (hs:∀x,SA R0 X.env x=pure x:=by intro _;rfl):PS X (.For tg R0 body [] pos) (O6 wi g tb):=by
 intro RX s σ H D I h
 refine wpAny_For (bN (hi RX s σ H _ I h) λv s1 h1=>bN h1 λitv s2 h2=>?_) hs
 obtain ⟨it,fp,tn,J,H2,e,I2,T,st2,f2,W,⟨m0,w0⟩,turn⟩:=h2
 subst e
 have stat:∀{H':Hp},(∀b∈fp,H' b=none)->∀b∈fp,iw X RX H' b:=λhn b hb=>⟨hn b hb,(f2 b hb).2⟩
 refine codeAny_forLoop_any (λn s'=>∃i σ' H',Inv X RX σ' H' s'/\tn i s'.heap/\(∀b∈fp,H' b=none)/\W i n σ' H') ?_ m0 ⟨0,σ,H2,I2,st2,λb hb=>(f2 b hb).1,w0⟩
 rintro n s3 ⟨i,σ3,H3,I3,st3,fr3,w3⟩
 rcases turn i n σ3 H3 w3 with ⟨stop,qn⟩ | ⟨go,N,hN,step⟩
 ·refine VG hp (bN (T.done X rfl rfl rfl hc i RX s3 σ3 H3 X.xe I3 (stat fr3) st3 stop) λr s4 ⟨hr,I4⟩=>?_)
  subst hr
  exact Xz ⟨σ3,H3,I4,qn⟩
 ·refine VG hp (bN (T.item X rfl rfl rfl hc i RX s3 σ3 H3 X.xe I3 (stat fr3) st3 go) λr s4 ⟨u,hr,h4⟩=>?_)
  subst hr
  refine VG hp (bN h4 λ_ s5 ⟨x,H5,I5,r5,y5,st5,fr5⟩=>?_)
  have I5':=I5.pinned (stat fr5) (T.obj _ _ st5)
  refine VG hp (bN (hg _ s5 σ3 H5 x u _ I5' r5 (step x H5 y5)) λ_ s6 ⟨σ6,H6,I6,q6⟩=>?_)
  refine VG hp (bN (hb _ s6 σ6 H6 _ I6 q6) λf s7 q7=>?_)
  have again:∀{σ7:St}{H7:Hp},Inv X (RX++qu fp s5.heap) σ7 H7 s7->N σ7 H7->∃m,m < n/\∃i σ' H',Inv X RX σ' H' s7/\tn i s7.heap/\(∀b∈fp,H' b=none)/\W i m σ' H':=fun {σ7 H7} I7 n7=>by
   obtain ⟨m',hm,w7⟩:=hN σ7 H7 n7
   refine ⟨m',hm,i + 1,σ7,H7,I7.unpinned,T.keep _ _ _ st5 λb hb o e=>(I7.pin (b,o) (Tg _ (Tg _ (kE hb e)))).1,λb hb=>?_,w7⟩
   obtain ⟨o,e,d⟩:=T.obj _ _ st5 b hb
   exact (I7.pin (b,o) (Tg _ (Tg _ (kE hb e)))).2.1
  cases f with
  | next=>obtain ⟨σ7,H7,I7,n7⟩:=q7;exact again I7 n7
  | cont=>obtain ⟨σ7,H7,I7,n7⟩:=q7;exact again I7 n7
  | brk=>obtain ⟨σ7,H7,I7,q7⟩:=q7;exact ⟨σ7,H7,I7.unpinned,q7⟩
  | ret v=>obtain ⟨x7,σ7,H7,I7,r7,q7⟩:=q7;exact ⟨x7,σ7,H7,I7.unpinned,r7,q7⟩
end
abbrev R2:=V->V->Hp->VK->Prop
noncomputable def cW (X:Cx) (f:R8->R8->Sem R8) (r:R2):Prop:=
 ∀(RX:List (Sm×Obj)) (s:R_) (σ:St) (H:Hp) (x y:V) (v u:R8) (Q:VK),Inv X RX σ H s->RelV x v->RelV y u->r x y H Q->
  Sx (SE X.prog X.w) X.A (f v u) (EP X RX σ Q) X.xe s
noncomputable def Le (X:Cx) (f:R8->Sem R8) (r:V->Hp->VK->Prop):Prop:=
 ∀(RX:List (Sm×Obj)) (s:R_) (σ:St) (H:Hp) (x:V) (v:R8) (Q:VK),Inv X RX σ H s->RelV x v->r x H Q->
  Sx (SE X.prog X.w) X.A (f v) (EP X RX σ Q) X.xe s
noncomputable def b9 (X:Cx) (f:R8) (r:List V->Hp->VK->Prop):Prop:=
 ∀(RX:List (Sm×Obj)) (s:R_) (σ:St) (H:Hp) (xs:List V) (us:List R8) (Q:VK),Inv X RX σ H s->Vals xs us->r xs H Q->
  Sx (SE X.prog X.w) X.A (call f us) (EP X RX σ Q) X.xe s
noncomputable def Oz (X:Cx) (r:V->Hp->(Bool->Hp->Prop)->Prop):Prop:=
 ∀(RX:List (Sm×Obj)) (s:R_) (σ:St) (H:Hp) (x:V) (v:R8) (Q:Bool->Hp->Prop),Inv X RX σ H s->RelV x v->r x H Q->
  Sx (SE X.prog X.w) X.A (truthy v) (TP X RX σ Q) X.xe s
def Fv (r:R2) (ta tb:TE):TE:=λσ H Q=>ta σ H λx H1=>tb σ H1 λy H2=>r x y H2 Q
def PR (r:V->Hp->VK->Prop) (ta:TE):TE:=λσ H Q=>ta σ H λx H1=>r x H1 Q
def rI (C:Int->Int->Prop) (g:Int->Int->V):R2:=λx y H Q=>∃i j,x=.int i/\y=.int j/\C i j/\Q (g i j) H
def mE (g:Int->Int->V):R2:=λx y H Q=>∃i j,x=.int i/\y=.int j/\Q (g i j) H
def rU (g:Int->V):V->Hp->VK->Prop:=λx H Q=>∃i,x=.int i/\Q (g i) H
section
variable {X:Cx}{a b c:S4}{ta tb tc:TE}{pos:Pos}
theorem F0 (ha:PE X a ta) (hb:PE X b tb){RX:List (Sm×Obj)}{s:R_}{σ:St}{H:Hp}{R:V->V->Hp->Prop}(I:Inv X RX σ H s)
  (h:ta σ H λx H1=>tb σ H1 λy H2=>R x y H2){Q:R8->R_->Prop}{f:R8->R8->Sem R8}
  (hf:∀v u s2 x y H2,Inv X RX σ H2 s2->RelV x v->RelV y u->R x y H2->Sx (SE X.prog X.w) X.A (f v u) Q X.xe s2):
  Sx (SE X.prog X.w) X.A (eval a X.env) (λv s₁=>Sx (SE X.prog X.w) X.A (eval b X.env) (λu s₂=>Sx (SE X.prog X.w) X.A (f v u) Q X.xe s₂) X.xe s₁) X.xe s:=by
 refine bN (ha RX s σ H _ I h) λv s1 ⟨x,H1,I1,r1,q1⟩=>?_
 refine bN (hb RX s1 σ H1 _ I1 q1) λu s2 ⟨y,H2,I2,r2,q2⟩=>?_
 exact hf v u s2 x y H2 I2 r1 r2 q2
theorem ND {op:ZX}{r:R2}(ho:cW X (Wa op) r) (ha:PE X a ta) (hb:PE X b tb):PE X (.BinOp a op b pos) (Fv r ta tb):=by
 intro RX s σ H Q I h
 exact wpAny_BinOp (F0 ha hb I h λv u s2 x y H2 I2 rx ry q=>ho RX s2 σ H2 x y v u Q I2 rx ry q)
theorem NG {op:UnaryOp}{r:V->Hp->VK->Prop}(ho:Le X (unaryOp op) r) (ha:PE X a ta):PE X (.UnaryOp op a pos) (PR r ta):=by
 intro RX s σ H Q I h
 exact UnaryOp_ (bN (ha RX s σ H _ I h) λv s1 ⟨x,H1,I1,r1,q1⟩=>ho RX s1 σ H1 x v Q I1 r1 q1)
theorem OC {op:ZX}{r:R2}(ho:cW X (YZ op) r){RX:List (Sm×Obj)}{s:R_}{σ:St}{H:Hp}{x y:V}{v u:R8}{Q:VK}(I:Inv X RX σ H s)
  (rx:RelV x v) (ry:RelV y u) (q:r x y H Q):Sx (SE X.prog X.w) X.A (YZ op v u) (EP X RX σ Q) X.xe s:=ho RX s σ H x y v u Q I rx ry q
theorem Iq {f:R8->R8->Sem R8}{C:Int->Int->Prop}{g:Int->Int->Int}
  (rule:∀(i j:Int) (t u:Tok) (s:R_) (Q:R8->R_->Prop) (E:R8->R_->Prop),C i j->Q (.int (g i j) s.toks) {s with toks:=s.toks + 1}->Sx (SE X.prog X.w) X.A (f (.int i t) (.int j u)) Q E s):
  cW X f (rI C λi j=>.int (g i j)):=by
 intro RX s σ H x y v u Q I rx ry h
 obtain ⟨i,j,rfl,rfl,hc,q⟩:=h
 obtain ⟨t,rfl⟩:=rx
 obtain ⟨t',rfl⟩:=ry
 exact rule i j t t' s _ _ hc ⟨.int (g i j),H,I.tok _,⟨_,rfl⟩,q⟩
theorem GR {f:R8->R8->Sem R8}{g:Int->Int->Int}
  (rule:∀(i j:Int) (t u:Tok) (s:R_) (Q:R8->R_->Prop) (E:R8->R_->Prop),Q (.int (g i j) s.toks) {s with toks:=s.toks + 1}->Sx (SE X.prog X.w) X.A (f (.int i t) (.int j u)) Q E s):
  cW X f (mE λi j=>.int (g i j)):=by
 intro RX s σ H x y v u Q I rx ry h
 obtain ⟨i,j,rfl,rfl,q⟩:=h
 obtain ⟨t,rfl⟩:=rx
 obtain ⟨t',rfl⟩:=ry
 exact rule i j t t' s _ _ ⟨.int (g i j),H,I.tok _,⟨_,rfl⟩,q⟩
theorem CW {f:R8->R8->Sem R8}{g:Int->Int->Bool}
  (rule:∀(i j:Int) (t u:Tok) (s:R_) (Q:R8->R_->Prop) (E:R8->R_->Prop),Q (.bool (g i j)) s->Sx (SE X.prog X.w) X.A (f (.int i t) (.int j u)) Q E s):
  cW X f (mE λi j=>.bl (g i j)):=by
 intro RX s σ H x y v u Q I rx ry h
 obtain ⟨i,j,rfl,rfl,q⟩:=h
 obtain ⟨t,rfl⟩:=rx
 obtain ⟨t',rfl⟩:=ry
 exact rule i j t t' s _ _ ⟨.bl (g i j),H,I,rfl,q⟩
def Om (i j:Int):Prop:=0 < j/\j < 1073741824
def Oo (i j:Int):Prop:=0<=j/\j<=1000000/\i.natAbs < 2 ^ 64
def B4 (i j:Int):Prop:=(-(2 ^ 64) < i/\i < 2 ^ 64)\/(-(2 ^ 64) < j/\j < 2 ^ 64)
theorem B4.ok {i j:Int}(h:B4 i j):IntMulOk i j:=by
 rcases h with ⟨h1,h2⟩ | ⟨h1,h2⟩
 ·exact .of_left (ab_ h1 h2)
 ·exact .of_right (ab_ h1 h2)
theorem EL:cW X (Wa .Add) (mE λi j=>.int (i + j)):=GR λ_ _ _ _ _ _ _ q=>add_int q
theorem Me:cW X (Wa .Sub) (mE λi j=>.int (i - j)):=GR λ_ _ _ _ _ _ _ q=>sub_int q
theorem Ma:cW X (Wa .Mult) (rI B4 λi j=>.int (i * j)):=Iq λ_ _ _ _ _ _ _ hc q=>mul_int q hc.ok
theorem JQ:cW X (Wa .FloorDiv) (rI Om λi j=>.int (i / j)):=Iq λi j _ _ _ _ _ hc q=>by
 have h1:(0:Int) < j:=hc.1
 have h2:j < 1073741824:=hc.2
 exact floordiv_int (by omega) (by rw [Int.fdiv_eq_ediv_of_nonneg i (by omega)];exact q) (.inl (PyProof.noPylong_small (by omega)))
theorem L_:cW X (Wa .Mod) (rI (λ_ j=>0 < j) λi j=>.int (i % j)):=Iq λi j _ _ _ _ _ hc q=>by
 have h1:(0:Int) < j:=hc
 exact mod_int' (by omega) (by rw [Int.fmod_eq_emod_of_nonneg i (by omega)];exact q)
theorem Mc:cW X (Wa .Pow) (rI Oo λi j=>.int (i ^ j.toNat)):=Iq λ_ _ _ _ _ _ _ hc q=>pow_int_small hc.1 hc.2.1 hc.2.2 q
theorem Jx:cW X (YZ .Add) (mE λi j=>.int (i + j)):=GR λ_ _ _ _ _ _ _ q=>iadd_int q
theorem BY {f:R8->Sem R8}{g:Int->Int}
  (rule:∀(i:Int) (t:Tok) (s:R_) (Q:R8->R_->Prop) (E:R8->R_->Prop),Q (.int (g i) s.toks) {s with toks:=s.toks + 1}->Sx (SE X.prog X.w) X.A (f (.int i t)) Q E s):
  Le X f (rU λi=>.int (g i)):=by
 intro RX s σ H x v Q I rx h
 obtain ⟨i,rfl,q⟩:=h
 obtain ⟨t,rfl⟩:=rx
 exact rule i t s _ _ ⟨.int (g i),H,I.tok _,⟨_,rfl⟩,q⟩
theorem Na:Le X (unaryOp .USub) (rU λi=>.int (-i)):=BY λ_ _ _ _ _ q=>neg_int q
theorem CZ:cW X (T5 .Lt) (mE λi j=>.bl (decide (i < j))):=CW λ_ _ _ _ _ _ _ q=>lt_int q
theorem Iu:cW X (T5 .LtE) (mE λi j=>.bl (decide (i<=j))):=CW λ_ _ _ _ _ _ _ q=>le_int q
theorem CY:cW X (T5 .Gt) (mE λi j=>.bl (decide (j < i))):=CW λ_ _ _ _ _ _ _ q=>gt_int q
theorem Ir:cW X (T5 .GtE) (mE λi j=>.bl (decide (j<=i))):=CW λ_ _ _ _ _ _ _ q=>ge_int q
theorem cW.or {f:R8->R8->Sem R8}{r r':R2}(h:cW X f r) (h':cW X f r'):cW X f (λx y H Q=>r x y H Q\/r' x y H Q):=by
 intro RX s σ H x y v u Q I rx ry q
 rcases q with q | q
 ·exact h RX s σ H x y v u Q I rx ry q
 ·exact h' RX s σ H x y v u Q I rx ry q
theorem Ac (b:S4){op:abE}(h:op≠.In:=by decide) (h2:op≠.NotIn:=by decide):Uj op b=false:=by
 have e1:(op == adC)=false:=by cases op <;> first | rfl | exact absurd rfl h
 have e2:(op == acM)=false:=by cases op <;> first | rfl | exact absurd rfl h2
 cases b <;> simp [Uj,e1,e2]
theorem JZ {op:abE}{r:R2}(ho:cW X (T5 op) r) (ha:PE X a ta) (hb:PE X b tb) (hm:Uj op b=false):PE X (.Compare a [op] [b] pos) (Fv r ta tb):=by
 intro RX s σ H Q I h
 exact wpAny_Compare1 (F0 ha hb I h λv u s2 x y H2 I2 rx ry q=>ho RX s2 σ H2 x y v u Q I2 rx ry q) hm
def N4 (t:TE):TT:=λσ H Q=>t σ H λx H'=>∃k,x=.bl k/\Q k H'
theorem Kf {op:abE}{r:R2}(ho:cW X (T5 op) r) (ha:PE X a ta) (hb:PE X b tb) (hm:Uj op b=false):PT X (.Compare a [op] [b] pos) (N4 (Fv r ta tb)):=by
 intro RX s σ H Q I h
 refine YX (bN (ha RX s σ H _ I h) λv s1 ⟨x,H1,I1,r1,q1⟩=>bN (hb RX s1 σ H1 _ I1 q1) λu s2 ⟨y,H2,I2,r2,q2⟩=>
  bN (ho RX s2 σ H2 x y v u _ I2 r1 r2 q2) λc s3 ⟨z,H3,I3,r3,k,e,q3⟩=>?_) hm
 subst e
 cases r3
 exact TN ⟨H3,I3,q3⟩
noncomputable def M0 (r r':R2) (ta tb tc:TE):TE:=λσ H Q=>ta σ H λx H1=>tb σ H1 λy H2=>r x y H2 λz H3=>∃k,z=.bl k/\
 (if k=true then tc σ H3 λw' H4=>r' y w' H4 Q else Q (.bl false) H3)
theorem G1 {op op':abE}{r r':R2}(ho:cW X (T5 op) r) (ho':cW X (T5 op') r') (ha:PE X a ta) (hb:PE X b tb) (hc:PE X c tc)
  (hm:lastMarks [op,op'] [b,c]=false:=by with_unfolding_all rfl):PE X (.Compare a [op,op'] [b,c] pos) (M0 r r' ta tb tc):=by
 intro RX s σ H Q I h
 refine Compare_chain (bN (ha RX s σ H _ I h) λv s1 ⟨x,H1,I1,r1,q1⟩=>chain_link (bN (hb RX s1 σ H1 _ I1 q1) λu s2 ⟨y,H2,I2,r2,q2⟩=>
  bN (ho RX s2 σ H2 x y v u _ I2 r1 r2 q2) λd s3 ⟨z,H3,I3,r3,k,e,q3⟩=>?_)) hm
 subst e
 cases r3
 refine TN ?_
 cases k with
 | false=>exact ite_ff ⟨.bl false,H3,I3,rfl,q3⟩
 | true=>exact ite_tt (chain_last (bN (hc RX s3 σ H3 _ I3 q3) λw' s4 ⟨z',H4,I4,r4,q4⟩=>ho' RX s4 σ H4 y z' u w' Q I4 r2 r4 q4))
noncomputable def FY (K:R7) (x:V) (H:Hp) (k:Bool):Prop:=
 match x with
 | .non=>k=false
 | .bl b=>k=b
 | .int i=>k=(i != 0)
 | .str y=>y.length<=sizeLine/\k=((y.length:Int) != 0)
 | .byt y=>y.size<=sizeLine/\k=((y.size:Int) != 0)
 | .ref p=>(∃xs,cK K H p xs/\k=!xs.isEmpty)\/(∃xs,cZ K H p xs/\k=!xs.isEmpty)\/∃R4,H p=some (.dK R4)/\k=!R4.isEmpty
 | _=>False
theorem CI {κ:Type}{R4:List (κ×V)}{vs:List (κ×R8)}(r:KV R4 vs):(!vs.isEmpty)=!R4.isEmpty:=by
 cases r <;> rfl
theorem uM {xs:List V}{RY:List R8}(r:Vals xs RY):(!RY.toArray.isEmpty)=!xs.isEmpty:=by
 cases r <;> simp
theorem nF:(sizeLine:Nat) < 2 ^ 63:=by rw [Ud];decide
theorem M4:Oz X (λx H Q=>∃k,FY X.K x H k/\Q k H):=by
 intro RX s σ H x v Q I rx h
 obtain ⟨k,e,q⟩:=h
 have hl:=nF
 have hs:sizeLine=16777216:=Ud
 cases x with
 | non=>
  cases rx
  have e':k=false:=e
  subst e'
  exact truthy_none ⟨H,I,q⟩
 | bl b=>
  cases rx
  have e':k=b:=e
  subst e'
  exact TN ⟨H,I,q⟩
 | int i=>
  obtain ⟨t,rfl⟩:=rx
  have e':k=(i != 0):=e
  subst e'
  exact PySem.P.truthy_int ⟨H,I,q⟩
 | str y=>
  obtain ⟨t,rfl⟩:=rx
  obtain ⟨hy,e'⟩:y.length<=sizeLine/\k=((y.length:Int) != 0):=e
  subst e'
  exact PySem.P.truthy_str (by omega) ⟨H,I.tok _,q⟩
 | byt y=>
  obtain ⟨t,rfl⟩:=rx
  obtain ⟨hy,e'⟩:y.size<=sizeLine/\k=((y.size:Int) != 0):=e
  subst e'
  exact W.truthy_bytes (by omega) ⟨H,I.tok _,q⟩
 | ref p=>
  cases rx
  have e':(∃xs,cK X.K H p xs/\k=!xs.isEmpty)\/(∃xs,cZ X.K H p xs/\k=!xs.isEmpty)\/∃R4,H p=some (.dK R4)/\k=!R4.isEmpty:=e
  rcases e' with ⟨xs,hx,e'⟩ | ⟨xs,hx,e'⟩ | ⟨R4,hx,e'⟩
  ·subst e'
   obtain ⟨RY,r,pl,hz⟩:=I.list hx
   have hlen:=r.length
   exact wpAny_truthy_list pl.isList (by simp only [So];omega) ⟨H,I.tok _,by rw [uM r];exact q⟩
  ·subst e'
   obtain ⟨RY,r,pl,hz⟩:=I.tuple hx
   have hlen:=r.length
   exact truthy_tuple pl (by simp only [So];omega) ⟨H,I.tok _,by rw [uM r];exact q⟩
  ·subst e'
   obtain ⟨hz,hS,vs,r,m⟩:R4.length<=sizeLine/\(p == V3)=false/\∃vs,KV R4 vs/\s.heap.DictOf (wA X.prog X.w) p vs:=I.hok p _ hx
   have hlen:R4.length=vs.length:=ab8 r
   exact wpAny_truthy_dict hS m (by omega) ⟨H,I.tok _,by rw [CI r];exact q⟩
 | _=>exact (show False from e).elim
theorem G7 (ha:PE X a ta) (he:∀whole,ZA a X.env whole=(do let v <-whole;VS a.pos;holding [v] (truthy v))):
  PT X a (λσ H Q=>ta σ H λx H'=>∃k,FY X.K x H' k/\Q k H'):=by
 intro RX s σ H Q I h
 exact isTrue_plain (bN (ha RX s σ H _ I h) λv s1 ⟨x,H1,I1,r1,q1⟩=>M4 RX s1 σ H1 x v Q I1 r1 q1) (he _)
theorem uQ:cW X (Wa .Add) (λx y H Q=>∃i j,x=.str i/\y=.str j/\i.length + j.length<=sizeLine/\Q (.str (i++j)) H):=by
 intro RX s σ H x y v u Q I rx ry h
 obtain ⟨i,j,rfl,rfl,hz,q⟩:=h
 obtain ⟨t,rfl⟩:=rx
 obtain ⟨t',rfl⟩:=ry
 exact add_str (λt' tk=>⟨.str (i++j),H,I.tok _,⟨_,rfl⟩,q⟩) hz
theorem vals1 {x:V}{us:List R8}(r:Vals [x] us):∃u,us=[u]/\RelV x u:=by
 cases r with
 | cons r1 r2=>cases r2;exact ⟨_,rfl,r1⟩
theorem vals2 {x y:V}{us:List R8}(r:Vals [x,y] us):∃u w',us=[u,w']/\RelV x u/\RelV y w':=by
 cases r with
 | cons r1 r2=>
  cases r2 with
  | cons r3 r4=>cases r4;exact ⟨_,_,rfl,r1,r3⟩
theorem D0 (hc:X.calm=true):b9 X (.builtin "max") (λxs H Q=>∃i j,xs=[.int i,.int j]/\Q (.int (if j > i then j else i)) H):=by
 intro RX s σ H xs us Q I r h
 obtain ⟨i,j,rfl,q⟩:=h
 obtain ⟨u,w',rfl,⟨t,rfl⟩,⟨t',rfl⟩⟩:=vals2 r
 refine max_two_ints (I.ok.hd hc) λh' tk k=>⟨_,H,I.kept k,?_,q⟩
 by_cases hj:j > i
 ·rw [if_pos hj,if_pos hj];exact ⟨_,rfl⟩
 ·rw [if_neg hj,if_neg hj];exact ⟨_,rfl⟩
end
structure dc (k:Nat) (A:S5):Prop where
 hd:A.handled=none
 dp:A.depth + 3 * k + 5 < abF
 un:A.units + 16 * k + 200 < Uu
theorem dc.mono {j k:Nat}{A:S5}(r:dc k A) (h:j<=k):dc j A:=⟨r.hd,by have:=r.dp;omega,by have:=r.un;omega⟩
theorem dc.deeper {k:Nat}{A:S5}(r:dc (k + 1) A) (env:Env):dc k (A.deeper env):=
 ⟨r.hd,by have:=r.dp;show A.depth + 1 + 3 * k + 5 < _;omega,by have:=r.un;show A.units + 3 + 16 * k + 200 < _;omega⟩
theorem dc.depth {k:Nat}{A:S5}(r:dc k A):A.depth < abF:=by have:=r.dp;omega
theorem dc.units {k:Nat}{A:S5}(r:dc k A):A.units + 64 < Uu:=by have:=r.un;omega
def Dt:TA:=λ_ H Q=>Q [] H
def NW (ta:TE) (tr:TA):TA:=λσ H Q=>ta σ H λx H1=>tr σ H1 λxs H2=>Q (x::xs) H2
section
variable {X:Cx}{e:S4}{es:List S4}{te:TE}{t:TA}{pos:Pos}
theorem ig:PA X [] Dt:=λ_ _ _ _ H Q I h=>Calls.spliced_nil ⟨[],H,I,.nil,h⟩
theorem fc (ha:PE X e te) (hr:PA X es t) (hs:Sl (e::es) X.env=(false,eval e X.env)::Sl es X.env:=by rfl):PA X (e::es) (NW te t):=by
 intro pos RX s σ H Q I h
 rw [hs]
 show Sx _ _ (spliced ((false,eval e X.env)::UL pos (Sl es X.env))) _ _ s
 refine Calls.spliced_cons (bN (ha RX s σ H _ I h) λu s1 ⟨x,H1,I1,r1,q1⟩=>?_)
 exact bN (hr pos RX s1 σ H1 _ I1 q1) λus s2 ⟨xs,H2,I2,r2,q2⟩=>⟨x::xs,H2,I2,.cons r1 r2,q2⟩
def Pc (t:TA):TE:=λσ H Q=>t σ H λxs H1=>xs.length<=sizeLine/\∀p,H1 p=none->Q (.ref p) (upd H1 p (.tup xs))
def O8 (t:TA):TE:=λσ H Q=>t σ H λxs H1=>xs.length<=sizeLine/\∀p,H1 p=none->Q (.ref p) (upd H1 p (.lst xs))
theorem Ms {x1}(h:PA X es t):PE X (.Tuple es x1 pos) (Pc t):=by
 intro RX s σ H Q I hq
 refine wpAny_Tuple_spliced (bN (h pos RX s σ H _ I hq) λus s1 ⟨xs,H1,I1,r,z,q⟩=>⟨by rw [<-r.length];exact z,?_⟩)
 have hf:H1 s1.heap.objs.size=none:=I1.hok.fresh (Sj _)
 refine ⟨.ref s1.heap.objs.size,upd H1 s1.heap.objs.size (.tup xs),I1.laid (t':=s1.toks) (λb u e=>Sg _ e) (Sj _) ?_,rfl,q _ hf⟩
 exact ⟨z,us,r,⟨_,Sk _ rfl,rfl,_,rfl⟩⟩
theorem Ml (h:PA X es t):PE X (.List es pos) (O8 t):=by
 intro RX s σ H Q I hq
 refine wpAny_List_spliced (bN (h pos RX s σ H _ I hq) λus s1 ⟨xs,H1,I1,r,z,q⟩=>⟨by rw [<-r.length];exact z,?_⟩)
 have hf:H1 s1.heap.objs.size=none:=I1.hok.fresh (Sj _)
 refine ⟨.ref s1.heap.objs.size,upd H1 s1.heap.objs.size (.lst xs),I1.laid (t':=s1.toks) (λb u e=>Sg _ e) (Sj _) ?_,rfl,q _ hf⟩
 exact ⟨z,us,0,r,Sk _ rfl⟩
end
abbrev Sp:=List V->Hp->VK->XK->Prop
abbrev pJ:=List Env->Hp->R_->XK->R8->R_->Prop
structure B8 (P:Su) (w:S3) (K:R7) (mg:Str->Option R8) (base:TM) (A:S5) (outer:List Env) (s:R_) (H:Hp):Prop where
 frames:A.frames=some outer
 mod:Mod K mg base
 bs:∀b o,base.get? b=some o->s.heap.get? b=some o/\H b=none
 bsz:base.objs.size<=s.heap.objs.size
 funs:s.heap.FunFrames base outer
 frf:∀b∈frs outer,H b=none
 hok:fR P w H s.heap
 bare:Yr s.gens
noncomputable def CE (outer:List Env) (P:Su) (w:S3) (H:Hp) (s:R_) (Q:VK) (u:R8) (s':R_):Prop:=
 ∃v H',s'.os=s.os/\Yr s'.gens/\Un (frs outer) [] H H' s.heap s'.heap/\fR P w H' s'.heap/\RelV v u/\Q v H'
noncomputable def CR (CX:pJ) (outer:List Env) (P:Su) (w:S3) (H:Hp) (s:R_) (Q:VK) (E:XK) (r:aa7) (s':R_):Prop:=
 match r with
 | .ok (.ret u)=>CE outer P w H s Q u s'
 | .ok _=>False
 | .error e=>CX outer H s E e s'
structure fF (P:Su) (w:S3) (K:R7) (mg:Str->Option R8) (base:TM) (CX:pJ) (k:Nat) (f:Sm) (fd:SO) (ps:List Str) (sp:Sp):Prop where
 len:∀vs H Q E,sp vs H Q E->vs.length=ps.length
 run:∀(A:S5) (outer:List Env) (s:R_) (H:Hp) (args:Args) (us:List R8) (vs:List V) (Q:VK) (E:XK),dc k A->B8 P w K mg base A outer s H->aa8 s fd args (ps.zip us)->Vals vs us->sp vs H Q E->
  U5 (SE P w) A (.call (.ref f) args) (CR CX outer P w H s Q E) s
section
variable {X:Cx}{RX:List (Sm×Obj)}{σ:St}{H:Hp}{s s':R_}
theorem Inv.env0 (I:Inv X RX σ H s):B8 X.prog X.w X.K X.mg X.base X.A X.stack s H:=
 ⟨I.ok.frames,I.ok.mod,I.bs,S7 I.ok.bsz I.sz,I.stack,I.stkFree,I.hok,I.bare⟩
theorem Inv.after {Q:VK}{u:R8}(I:Inv X RX σ H s) (h:CE X.stack X.prog X.w H s Q u s'):EP X RX σ Q u s':=by
 obtain ⟨v,H',os,bare,un,hok,r,q⟩:=h
 obtain ⟨hh,g,d,t,os'⟩:=s'
 obtain rfl:os'=s.os:=os
 exact ⟨v,H',I.call (h':=hh) (g':=g) (d':=d) (t':=t) (ch:=[]) un hok bare (λb z=>absurd z (by simp)),r,q⟩
end
def II (sp:Sp) (dvs:List V) (E:XK) (t:TA):TE:=λσ H Q=>t σ H λvs H1=>sp (vs++dvs) H1 Q E
noncomputable def Binds (K:R7) (fd:SO) (ps:List Str) (ds:List R8):Prop:=
 ∀(s:R_) (us:List R8),K.In s.heap->(us++ds).length=ps.length->aa8 s fd ⟨us,[]⟩ (ps.zip (us++ds))
theorem Binds.all {K:R7}{fd:SO}{ps:List Str}(h:∀us:List R8,us.length=ps.length->Zn fd ⟨us,[]⟩=pure (ps.zip us)):Binds K fd ps []:=λs us _ hl=>by
 rw [US] at hl ⊢
 exact .of_eq (h us hl)
def Passes (CX:pJ) (X:Cx) (E:XK):Prop:=∀(RX:List (Sm×Obj)) (σ:St) (H:Hp) (s:R_) (e:R8) (s':R_),Inv X RX σ H s->CX X.stack H s E e s'->X.xe e s'
section
variable {X:Cx}{CX:pJ}{k:Nat}{f C:Sm}{fd:SO}{ps:List Str}{sp:Sp}{dvs:List V}{ds:List R8}{E:XK}{x m:Str}{p pos apos:Pos}{e o:S4}{es:List S4}{ta:TE}{t:TA}
theorem Ff {RX:List (Sm×Obj)}{σ:St}{H:Hp}{s:R_}{Q:VK}{us:List R8}{vs:List V}(F:fF X.prog X.w X.K X.mg X.base CX k f fd ps sp) (hr:dc k X.A) (hb:Binds X.K fd ps ds) (hd:Vals dvs ds) (hx:Passes CX X E)
  (I:Inv X RX σ H s) (r:Vals vs us) (h:sp (vs++dvs) H Q E):Sx (SE X.prog X.w) X.A (call (.ref f) us) (EP X RX σ Q) X.xe s:=by
 have r2:Vals (vs++dvs) (us++ds):=r.append hd
 have hl:(us++ds).length=ps.length:=by rw [<-r2.length];exact F.len _ _ _ _ h
 refine aao (VR (F.run X.A X.stack s H ⟨us,[]⟩ (us++ds) (vs++dvs) Q E hr I.env0 (hb s us I.kIn hl) r2 h) λr s' hq=>?_)
 cases r with
 | error e=>exact hx RX σ H s e s' I hq
 | ok fl=>
  cases fl with
  | ret u=>exact I.after hq
  | next=>exact V_ hq
  | brk=>exact V_ hq
  | cont=>exact V_ hq
theorem qX (F:fF X.prog X.w X.K X.mg X.base CX k f fd ps sp) (hr:dc k X.A) (hg:Gl X x) (hm:X.mg x=some (.ref f)) (hk:T7 X.K (.ref f)=true) (hb:Binds X.K fd ps ds) (hd:Vals dvs ds) (hx:Passes CX X E)
  (ha:PA X (e::es) t) (hdb:(x == ("__debug__":Str))=false:=by decide) (he:Sl (e::es) X.env=(false,eval e X.env)::Sl es X.env:=by rfl) (hpl:(UL pos (Sl es X.env)).any (·.1)=false:=by rfl):
  PE X (.Call (.Name x p) (e::es) [] pos) (II sp dvs E t):=by
 intro RX s σ H Q I h
 refine WD (BA I hg hm ?_ hdb)
 refine ZZ (h₀:=X.base) I.ok.mod.kin hk (bN (ha pos RX s σ H _ I h) λus s1 ⟨vs,H1,I1,r,q⟩=>⟨I1.kIn,?_⟩) he hpl
 exact Ff F hr hb hd hx I1 r q
end
structure fK (N P:List Str) (sc:Vk):Prop where
 kind:sc.kind=.function
 co:sc.isCoroutine=false
 gen:sc.isGenerator=false
 nd:N.Nodup
 pre:N.take P.length=P
 par:∀x∈P,sc.names.lookup x=some .local\/sc.names.lookup x=some .cell
 nofree:∀y∈sc.names,y.2≠.free
theorem wY {kindOf:Str->Option UQ}{x:Str}:∀{binds:List (Str×R8)}{m:Str->Option R8},(∀v,(x,v)∉binds)->acO kindOf binds m x=m x
 | [],_,_=>rfl
 | (n,v)::r,m,h=>by
  unfold acO
  rw [wY λw hw=>h w (Sd _ hw)]
  split
  ·have:x≠n:=by rintro rfl;exact h v Se
   simp [this]
  ·rfl
theorem wW {kindOf:Str->Option UQ}{x:Str}:∀{binds:List (Str×R8)}{m:Str->Option R8},(∀v,(x,v)∉binds)->acP kindOf binds m x=m x
 | [],_,_=>rfl
 | (n,v)::r,m,h=>by
  unfold acP
  rw [wW λw hw=>h w (Sd _ hw)]
  split
  ·rfl
  ·have:x≠n:=by rintro rfl;exact h v Se
   simp [this]
theorem wX {kindOf:Str->Option UQ}{x:Str}{v:R8}:∀{P:List Str}{vs:List R8}{i:Nat}{m:Str->Option R8},P.Nodup->P[i]?=some x->vs[i]?=some v->kindOf x=some .local->
  acO kindOf (P.zip vs) m x=some v
 | [],_,_,_,_,h,_,_=>by simp at h
 | _::_,[],_,_,_,_,h,_=>by simp at h
 | p::P,w::vs,0,m,nd,h1,h2,hk=>by
  simp at h1 h2;subst h1;subst h2
  show acO kindOf ((p,w)::P.zip vs) m p=_
  unfold acO
  rw [wY λv hv=>(Uq.mp nd).1 (Y3 hv).1,if_pos hk]
  simp
 | p::P,w::vs,i + 1,m,nd,h1,h2,hk=>by
  show acO kindOf ((p,w)::P.zip vs) m x=_
  unfold acO
  exact wX (i:=i) (Uq.mp nd).2 (by simpa using h1) (by simpa using h2) hk
theorem wV {kindOf:Str->Option UQ}{x:Str}{v:R8}:∀{P:List Str}{vs:List R8}{i:Nat}{m:Str->Option R8},P.Nodup->P[i]?=some x->vs[i]?=some v->kindOf x≠some .local->
  acP kindOf (P.zip vs) m x=some v
 | [],_,_,_,_,h,_,_=>by simp at h
 | _::_,[],_,_,_,_,h,_=>by simp at h
 | p::P,w::vs,0,m,nd,h1,h2,hk=>by
  simp at h1 h2;subst h1;subst h2
  show acP kindOf ((p,w)::P.zip vs) m p=_
  unfold acP
  rw [wW λv hv=>(Uq.mp nd).1 (Y3 hv).1,if_neg hk]
  simp
 | p::P,w::vs,i + 1,m,nd,h1,h2,hk=>by
  show acP kindOf ((p,w)::P.zip vs) m x=_
  unfold acP
  exact wV (i:=i) (Uq.mp nd).2 (by simpa using h1) (by simpa using h2) hk
def start (N:List Str) (vs:List V):St:=vs.map some++T8 (N.length - vs.length) none
noncomputable def pY (CX:pJ) (P:Su) (w:S3) (K:R7) (mg:Str->Option R8) (base:TM) (N:List Str) (R1:Str) (RV:Vk) (f:Sm) (cd:R8) (A:S5) (outer:List Env) (s:R_) (H:Hp) (E:XK):Cx where
 prog:=P
 w:=w
 K:=K
 mg:=mg
 base:=base
 A:=A.deeper (X0 R1 RV s.heap.objs.size f cd)
 N:=N
 s₀:=s
 H₀:=H
 env:=X0 R1 RV s.heap.objs.size f cd
 outer:=outer
 stack:=X0 R1 RV s.heap.objs.size f cd::outer
 ex:=[]
 calm:=true
 fn:=λ_=>true
 pn:=[]
 xe:=λe s'=>Sx (SE P w) (A.deeper (X0 R1 RV s.heap.objs.size f cd)) (leaving (X0 R1 RV s.heap.objs.size f cd) e) (λ_ s''=>CX outer H s E e s'') (λe' s''=>CX outer H s E e' s'') s'
theorem zo {sc:Vk}{n:Nat}{x:Str}(h:sc.names.lookup x=some .cell):∃c,(TJ n sc.names []).lookup x=some c:=by
 have q:=YO sc.names n [] (.inl h)
 exact Ug.mp q
theorem EA {CX:pJ}{P:Su}{w:S3}{K:R7}{mg:Str->Option R8}{base:TM}{N ps:List Str}{R1:Str}{RV:Vk}{f:Sm}{cd:R8}{A:S5}{outer:List Env}{s s1:R_}{H:Hp}{E:XK}{us:List R8}{vs:List V}
  (S:fK N ps RV) (hd:A.handled=none) (e0:B8 P w K mg base A outer s H) (hl:vs.length=ps.length) (r:Vals vs us)
  (x:InCallC s s.heap.objs.size (acO (X0 R1 RV s.heap.objs.size f cd).kindOf (ps.zip us) λ_=>none) (TJ (s.heap.objs.size + 1) RV.names []) (acP (X0 R1 RV s.heap.objs.size f cd).kindOf (ps.zip us) λ_=>none) s1):
  Inv (pY CX P w K mg base N R1 RV f cd A outer s H E) [] (start N vs) H s1:=by
 have hpl:ps.length<=N.length:=by have:=congrArg Vt S.pre;rw [Vm] at this;omega
 obtain ⟨h1,tk,rfl,hk⟩:=x.done
 have noA:∀b:Sm,b∉(pY CX P w K mg base N R1 RV f cd A outer s H E).ex:=λb z=>absurd (show b∈([]:List Sm) from z) (by simp)
 refine ⟨⟨e0.mod,S.kind,rfl,rfl,Sj _,λy z c h1 h2=>?_,λy hy=>?_,λy c _ h=>?_,λ_=>hd,Around.frames_deeper e0.frames,.inr ⟨rfl,rfl⟩,λb z=>absurd z (noA b),e0.bs,e0.bsz,λb _ _=>noA b,λb z=>absurd z (noA b),e0.funs,e0.frf⟩,
  rfl,e0.bare,Un.kept hk,⟨_,x.toInCall.ns,λi y v h1 h2 h3=>?_⟩,λy c h=>⟨_,x.cell y c h⟩,e0.hok.fresh (Sj _),λy c h=>?_,λp hp=>absurd (show p∈([]:List (Sm×Obj)) from hp) (by simp),e0.hok.kept hk,?_⟩
 ·exact name_of_addr x.apart (VT h1) (VT h2)
 ·have hy:RV.names.lookup y=some .cell\/RV.names.lookup y=some .free:=hy
  rcases hy with hy | hy
  ·exact zo hy
  ·exact absurd rfl (S.nofree _ (VT hy))
 ·exact Xc (x.above y c (VT h))
 ·have hi:i < vs.length:=by
   unfold start at h2
   by_cases hi:i < vs.length
   ·exact hi
   ·rw [Ul (by simpa using hi)] at h2
    rw [WE] at h2
    split at h2 <;> cases h2
  have ha:vs[i]?=some v:=by
   unfold start at h2
   rw [UR (by simpa using hi),Sv] at h2
   cases e:vs[i]? with
   | none=>rw [e] at h2;cases h2
   | some a=>rw [e] at h2;cases h2;rfl
  obtain ⟨u,hu,rv⟩:=r.get ha
  have hp:ps[i]?=some y:=by
   rw [<-S.pre,List.getElem?_take_of_lt (by omega)];exact h1
  have ndP:ps.Nodup:=by rw [<-S.pre];exact S.nd.sublist (aap _ _)
  refine ⟨u,rv,?_⟩
  rcases S.par y (Ub hp) with k | k
  ·exact .inl ⟨k,wX ndP hp hu k⟩
  ·obtain ⟨c,e⟩:=zo (n:=s.heap.objs.size + 1) k
   refine .inr ⟨.inl k,c,e,?_⟩
   have q:=x.cell y c e
   rw [wV ndP hp hu (by show RV.names.lookup y≠_;rw [k];decide)] at q
   exact q
 ·exact e0.hok.fresh (Xc (x.above y c (VT h)))
 ·unfold start
  show _=N.length
  rw [SI,Sa,UT]
  omega
theorem Ia {CX:pJ}{P:Su}{w:S3}{K:R7}{mg:Str->Option R8}{base:TM}{k:Nat}{f:Sm}{name R1:Str}{params:Arguments}{body:List VA}{RV:Vk}{dV kV doc pm cdv ct oc:R8}{an od:Option Sm}
  {osl:Array (Option R8)}{N ps:List Str}{sp:Sp}(lk:K.lookup f=some ⟨oc,od,.func (TH name R1 params body RV dV kV doc pm an cdv ct),osl⟩) (hcd:Vu K cdv R1=true) (S:fK N ps RV)
  (len:∀vs H Q E,sp vs H Q E->vs.length=ps.length)
  (hbody:∀(A:S5) (outer:List Env) (s:R_) (H:Hp) (vs:List V) (Q:VK) (E:XK),dc k (A.deeper (X0 R1 RV s.heap.objs.size f cdv))->sp vs H Q E->
   ∃t,kh (pY CX P w K mg base N R1 RV f cdv A outer s H E) body t/\t {nx:=λ_ H'=>Q .non H',rt:=Q} (start N vs) H):
  fF P w K mg base CX (k + 1) f (TH name R1 params body RV dV kV doc pm an cdv ct) ps sp:=by
 refine ⟨len,λA outer s H args us vs Q E hr e0 hb r Ql=>?_⟩
 have hl:=len _ _ _ _ Ql
 have KX:K.In s.heap:=e0.mod.kin.keeps λb o e=>(e0.bs b o e).1
 have lim:s.heap.NoLimit:=e0.mod.nolimit.keeps λb o e=>(e0.bs b o e).1
 have hkind:∀y∈ps.zip us,RV.names.lookup y.1=some .local\/(RV.names.lookup y.1=some .cell/\((TJ (s.heap.objs.size + 1) RV.names []).lookup y.1).isSome=true):=λ⟨n,v⟩ hy=>by
  rcases S.par n (Y3 hy).1 with q | q
  ·exact .inl q
  ·exact .inr ⟨q,YO _ _ _ (.inl q)⟩
 refine codeAny_call_function hr.depth (KX _ _ lk) rfl S.co S.gen rfl (W.codeRec_of KX hcd) (hb _ _ _ _ ?_)
 refine wpAny_newFunctionEnv_cells S.kind hkind λenv he s1 x=>?_
 subst he
 refine ⟨lim.keeps x.toInCall.keep,codeAny_func ?_⟩
 obtain ⟨t,ht,hq⟩:=hbody A outer s H vs Q E (hr.deeper _) Ql
 have I:Inv (pY CX P w K mg base N R1 RV f cdv A outer s H E) [] (start N vs) H s1:=EA S hr.hd e0 hl r x
 refine Tw (ht [] s1 (start N vs) H _ I hq) (λfl s' hs=>?_) λe s' hs=>hs
 have fin:∀{σ':St}{H':Hp}{v:V}{u:R8},Inv (pY CX P w K mg base N R1 RV f cdv A outer s H E) [] σ' H' s'->RelV v u->Q v H'->CE outer P w H s Q u s':=
  fun {σ' H' v u} J rv q=>⟨v,H',J.os,J.bare,J.base,J.hok,rv,q⟩
 cases fl with
 | ret u=>
  obtain ⟨v,σ',H',J,rv,q⟩:=hs
  exact fin J rv q
 | next=>
  obtain ⟨σ',H',J,q⟩:=hs
  exact fin (v:=V.non) (u:=Tq) J rfl q
 | brk=>
  obtain ⟨_,_,_,q⟩:=hs
  exact V_ q
 | cont=>
  obtain ⟨_,_,_,q⟩:=hs
  exact V_ q
section
variable {X:Cx}{x:Str}{p pos:Pos}{e:S4}{es:List S4}{t:TA}{id T:String}{r:List V->Hp->VK->Prop}
def Oh (r:List V->Hp->VK->Prop) (t:TA):TE:=λσ H Q=>t σ H λvs H1=>r vs H1 Q
theorem tw (hc:b9 X (.builtin id) r) (hg:Gl X x) (hm:X.mg x=none) (hv:TX x=some (.builtin id)) (ha:PA X (e::es) t) (hn:x≠"__name__":=by decide) (hdb:(x == ("__debug__":Str))=false:=by decide)
  (he:Sl (e::es) X.env=(false,eval e X.env)::Sl es X.env:=by rfl) (hpl:(UL pos (Sl es X.env)).any (·.1)=false:=by rfl):PE X (.Call (.Name x p) (e::es) [] pos) (Oh r t):=by
 intro RX s σ H Q I h
 refine WD (nE I hg hm hv ?_ hn hdb)
 exact aaK (bN (ha pos RX s σ H _ I h) λus s1 ⟨vs,H1,I1,r1,q1⟩=>hc RX s1 σ H1 vs us Q I1 r1 q1) he hpl
theorem mz (hc:b9 X (.type T) r) (hg:Gl X x) (hm:X.mg x=none) (hv:TX x=some (.type T)) (ha:PA X (e::es) t) (hn:x≠"__name__":=by decide) (hdb:(x == ("__debug__":Str))=false:=by decide)
  (he:Sl (e::es) X.env=(false,eval e X.env)::Sl es X.env:=by rfl) (hpl:(UL pos (Sl es X.env)).any (·.1)=false:=by rfl):PE X (.Call (.Name x p) (e::es) [] pos) (Oh r t):=by
 intro RX s σ H Q I h
 refine WD (nE I hg hm hv ?_ hn hdb)
 exact Vf (bN (ha pos RX s σ H _ I h) λus s1 ⟨vs,H1,I1,r1,q1⟩=>hc RX s1 σ H1 vs us Q I1 r1 q1) he hpl
end
end L2
namespace HT
open PySem PyProof.Rows
theorem Ga (A:S5) (s:R_) (a:Int) (t:Tok) (c:Int) (u:Tok):∃e,UZ A s (.int a t) (.int c u) e/\(e=true↔a=c):=
 ⟨(a == c),Z0 a t c u,by simp⟩
section
open PySem.SeqAt
open PySem.AutoSeq1 (wpAny_loadPart')
open PySem.MeetsSeq PySem.MeetsSeq2 PySem.MeetsSeq3
end
section
variable {prog:Su}{w:S3}{A:S5}{E:R8->R_->Prop}{s:R_}
theorem Jd {t b:Sm}{vs ws:List R8}{Q:R8->R_->Prop}(ht:acK s.heap t vs.toArray) (hb:acK s.heap b ws.toArray) (hv:vs≠[])
  (h1:ws=[]->Q (.ref t) s) (h2:ws≠[]->Q (.ref s.heap.objs.size) {s with heap:=s.heap.push {cls:=.type "tuple",data:=.seq (vs++ws).toArray}})
  (hsz:vs.length + ws.length<=sizeLine):Sx (SE prog w) A (Wa .Add (.ref t) (.ref b)) Q E s:=by
 obtain ⟨⟨cls,dd,data,sl⟩,ho,hc,n,hd⟩:=id ht
 obtain ⟨⟨cls2,dd2,data2,sl2⟩,ho2,hc2,n2,hd2⟩:=id hb
 simp only at hc hd hc2 hd2
 subst hc hd hc2 hd2
 have e:vs.toArray++ws.toArray=(vs++ws).toArray:=by simp
 by_cases hw:ws=[]
 ·exact aaL ⟨_,ho,rfl⟩ ⟨_,ho2,rfl⟩ YH Z1 WV WG (Wy _ _)
   (tuple_addW1 t b vs.toArray ws.toArray n n2 dd dd2 sl sl2 (by simpa using hv) (by simp [hw])) ⟨ho,ho2,h1 hw⟩
 ·refine aaL ⟨_,ho,rfl⟩ ⟨_,ho2,rfl⟩ YH Z1 WV WG (Wy _ _)
   (tuple_addW2 t b vs.toArray ws.toArray n n2 dd dd2 sl sl2 (by simpa using hv) (by simpa using hw) (by rw [So,So];exact hsz)) ⟨ho,ho2,?_⟩
  rw [e]
  exact h2 hw
noncomputable def bM (n d:Nat):Option Int->Nat
 | none=>d
 | some v=>if v < 0 then (v + (n:Int)).toNat else min v.toNat n
theorem As (n d:Nat):bM n d none=d:=rfl
theorem BQ (n d k:Nat):bM n d (some (k:Int))=min k n:=by
 show (if (k:Int) < 0 then ((k:Int) + (n:Int)).toNat else min (k:Int).toNat n)=min k n
 rw [if_neg (by omega),Uk]
theorem MW (n d:Nat) (hd:d<=n) (o:Option Int):bM n d o<=n:=by
 cases o with
 | none=>exact hd
 | some v=>
  show (if v < 0 then (v + (n:Int)).toNat else min v.toNat n)<=n
  by_cases hv:v < 0
  ·rw [if_pos hv];omega
  ·rw [if_neg hv];exact Nat.min_le_right _ _
theorem Bl (v:Int) (n d:Nat):(if v < 0 then max (v + (n:Int)) 0 else min v (n:Int))=((bM n d (some v):Nat):Int):=by
 show (if v < 0 then max (v + (n:Int)) 0 else min v (n:Int))=(((if v < 0 then (v + (n:Int)).toNat else min v.toNat n):Nat):Int)
 by_cases hv:v < 0
 ·simp only [if_pos hv];omega
 ·simp only [if_neg hv];omega
theorem Cj (lo hi:Option Int) (n:Nat):Wm lo hi 1 (n:Int)=(((bM n 0 lo:Nat):Int),((bM n n hi:Nat):Int)):=by
 have h1:¬((1:Int) < 0):=by omega
 unfold Wm
 simp only [h1,if_false]
 refine Yt ?_ ?_
 ·cases lo with
  | none=>rfl
  | some v=>exact Bl v n 0
 ·cases hi with
  | none=>rfl
  | some v=>exact Bl v n n
theorem Dd (i j:Nat):Vv (i:Int) (j:Int) 1=j - i:=by
 unfold Vv
 have h1:(1:Int) > 0:=by omega
 simp only [h1,if_true,Int.ediv_one]
 split <;> omega
theorem vg {v:R8}{o:Option Int}{Q:Option Int->R_->Prop}(p:Z2 v o) (h:Q o s):Sx (SE prog w) A (aa0 v) Q E s:=by
 cases p with
 | none=>exact abG h
 | int i t=>exact slicePart_int h
theorem ly {sl:Sm}{vl vu:R8}{lo hi:Option Int}{n:Nat}{Q:Int×Int×Nat->R_->Prop}(hs:s.heap.IsSliceOf sl vl vu .none) (pl:Z2 vl lo) (pu:Z2 vu hi)
  (h:Q (((bM n 0 lo:Nat):Int),1,bM n n hi - bM n 0 lo) s):Sx (SE prog w) A (XY (.ref sl) (pure (n:Int))) Q E s:=by
 obtain ⟨os,hos,hcs,hds⟩:=id hs
 unfold XY abH
 refine R6 (R6 (UE hos hds (x:=vl) rfl (R6 (UE hos hds (x:=vu) rfl (R6 (UE hos hds (x:=.none) rfl (R9 ?_)))))))
 refine R6 (abG ?_)
 show Sx _ _ (if ((1:Int) == 0)=true then _ else _) _ _ s
 rw [if_neg (by decide)]
 refine R6 (vg pl (R6 (vg pu (R6 (R9 ?_)))))
 show Sx _ _ (match Wm lo hi 1 (n:Int) with | (lo,hi)=>pure (lo,(1:Int),Vv lo hi 1)) _ _ s
 rw [Cj lo hi n]
 show Sx _ _ (pure (((bM n 0 lo:Nat):Int),(1:Int),Vv ((bM n 0 lo:Nat):Int) ((bM n n hi:Nat):Int) 1)) _ _ s
 rw [Dd]
 exact R9 h
theorem G4 (xs:Array R8) (i k:Nat):((Sh k).filterMap λ(m:Nat)=>xs[((i:Int) + (m:Int) * 1).toNat]?).toArray=((xs.toList.drop i).take k).toArray:=by
 have e:(λ(m:Nat)=>xs[((i:Int) + (m:Int) * 1).toNat]?)=λm=>xs[i + m]?:=by
  funext m
  have:((i:Int) + (m:Int) * 1).toNat=i + m:=by omega
  rw [this]
 rw [e]
 have:=pick_run xs i k
 rw [Z3] at this
 have e2:((λx=>xs[x]?) ∘ λx=>i + x)=λm=>xs[i + m]?:=rfl
 rw [e2] at this
 rw [this]
theorem rH {t sl:Sm}{items:Array R8}{vl vu:R8}{lo hi:Option Int}{Q:R8->R_->Prop}(ht:acK s.heap t items) (hs:s.heap.IsSliceOf sl vl vu .none) (pl:Z2 vl lo) (pu:Z2 vu hi)
  (hw:¬(bM items.size 0 lo=0/\bM items.size items.size hi=items.size))
  (h:Q (.ref s.heap.objs.size) {s with heap:=s.heap.push {cls:=.type "tuple",data:=.seq ((items.toList.drop (bM items.size 0 lo)).take (bM items.size items.size hi - bM items.size 0 lo)).toArray}})
  (hsz:items.size<=sizeLine):Sx (SE prog w) A (aaq (.ref t) (.ref sl)) Q E s:=by
 have Qa:sizeOk (.seq ((items.toList.drop (bM items.size 0 lo)).take (bM items.size items.size hi - bM items.size 0 lo)).toArray):=by
  show ((items.toList.drop (bM items.size 0 lo)).take (bM items.size items.size hi - bM items.size 0 lo)).toArray.size<=sizeLine
  rw [So,Vm,V0,Sq]
  omega
 have hj:bM items.size items.size hi<=items.size:=MW _ _ (Sj _) hi
 obtain ⟨os,hos,hcs,hds⟩:=id hs
 have QT:s.TypeIs (.ref sl) "slice":=⟨os,hos,hcs⟩
 unfold aaq
 try with_reducible refine S_ ?_
 first | refine R6 (R9 ?_) | skip
 refine R6 (aar ht.typeIs (by decide) ?_)
 refine R6 (Tj (name:=Vp "__getitem__") ht.typeIs TQ
  (Tc TQ ht.typeIs ZK ?_ (Z4 _ _)))
 show Sx _ _ (Wj (.ref t) >>= _) _ _ s
 refine R6 (acd ht ?_)
 refine R6 (Xd QT ?_)
 rw [if_pos (by decide)]
 refine R6 (ly hs pl pu ?_)
 have hno:¬((((bM items.size 0 lo:Nat):Int) == 0 && (1:Int) == 1 && (bM items.size items.size hi - bM items.size 0 lo) == items.size)=true):=by
  intro q
  rw [Sf,Sf] at q
  have q1:((bM items.size 0 lo:Nat):Int)=0:=eq_of_beq q.1.1
  have q2:bM items.size items.size hi - bM items.size 0 lo=items.size:=eq_of_beq q.2
  exact hw ⟨by omega,by omega⟩
 show Sx _ _ (if (((bM items.size 0 lo:Nat):Int) == 0 && (1:Int) == 1 && (bM items.size items.size hi - bM items.size 0 lo) == items.size)=true then _ else _) _ _ s
 rw [if_neg hno,G4]
 first
  | exact R6 (m:=VH _) (S8 (R9 ⟨_,rfl,R9 h⟩) Qa)
  | exact R6 (m:=VH _) (S8 (R6 (R9 (R9 ⟨_,rfl,R9 h⟩))) Qa)
  | exact R6 (R6 (m:=VH _) (S8 (R9 (R9 ⟨_,rfl,R9 h⟩)) Qa))
  | exact R6 (R6 (m:=VH _) (S8 (R9 ⟨_,rfl,R9 h⟩) Qa))
end
end HT
namespace L2
open PySem PySem.Spec PyProof.Rows
abbrev TO:=St->Hp->(Option Int->Hp->Prop)->Prop
noncomputable def PO (X:Cx) (e:Option S4) (t:TO):Prop:=
 ∀(RX:List (Sm×Obj)) (s:R_) (σ:St) (H:Hp) (Q:Option Int->Hp->Prop),Inv X RX σ H s->t σ H Q->
  Sx (SE X.prog X.w) X.A (evalPart e X.env) (λu s'=>∃o H',Inv X RX σ H' s'/\Z2 u o/\Q o H') X.xe s
def KQ:TO:=λ_ H Q=>Q none H
def N3 (t:TE):TO:=λσ H Q=>t σ H λx H1=>∃i,x=.int i/\Q (some i) H1
theorem intsAre_of {ns:List Int}:∀{us:List R8},Vals (ns.map V.int) us->Wv us ns:=by
 induction ns with
 | nil=>intro us r;rw [Xe] at r;cases r;exact .nil
 | cons n ns ih=>
  intro us r
  rw [Sw] at r
  cases r with
  | cons r1 r2=>
   obtain ⟨t,e⟩:=r1
   subst e
   exact .cons n t (ih r2)
section
variable {X:Cx}{e:S4}{te:TE}{lo hi:Option S4}{tl th:TO}{pos p2:Pos}
theorem Ka:PO X none KQ:=by
 intro RX s σ H Q I h
 rw [ace]
 exact R9 ⟨none,H,I,.none,h⟩
theorem Kc (h:PE X e te):PO X (some e) (N3 te):=by
 intro RX s σ H Q I hw
 rw [evalPart_some]
 refine bN (h RX s σ H _ I hw) λu s1 ⟨x,H1,I1,r1,q1⟩=>?_
 obtain ⟨i,rfl,q⟩:=q1
 obtain ⟨t,rfl⟩:=r1
 exact ⟨some i,H1,I1,.int i t,q⟩
noncomputable def t_ (X:Cx) (r:V->Option Int->Option Int->Hp->VK->Prop):Prop:=
 ∀(RX:List (Sm×Obj)) (s:R_) (σ:St) (H:Hp) (x:V) (v vl vu:R8) (lo hi:Option Int) (sl:Sm) (Q:VK),Inv X RX σ H s->RelV x v->s.heap.IsSliceOf sl vl vu .none->Z2 vl lo->Z2 vu hi->r x lo hi H Q->
  ∃T id,typeLookup (.type T) "__getitem__"=pure (some (.builtin id))/\s.TypeIs v T/\Sx (SE X.prog X.w) X.A (aaq v (.ref sl)) (EP X RX σ Q) X.xe s
theorem t_.or {r r':V->Option Int->Option Int->Hp->VK->Prop}(h:t_ X r) (h':t_ X r'):t_ X (λx lo hi H Q=>r x lo hi H Q\/r' x lo hi H Q):=by
 intro RX s σ H x v vl vu lo hi sl Q I rx hs pl pu q
 rcases q with q | q
 ·exact h RX s σ H x v vl vu lo hi sl Q I rx hs pl pu q
 ·exact h' RX s σ H x v vl vu lo hi sl Q I rx hs pl pu q
def PM (r:V->Option Int->Option Int->Hp->VK->Prop) (te:TE) (tl th:TO):TE:=λσ H Q=>te σ H λx H1=>tl σ H1 λl H2=>th σ H2 λu H3=>r x l u H3 Q
theorem G2 {r:V->Option Int->Option Int->Hp->VK->Prop}(hr:t_ X r) (he:PE X e te) (hl:PO X lo tl) (hu:PO X hi th):PE X (.Subscript e (.Slice lo hi none p2) pos) (PM r te tl th):=by
 intro RX s σ H Q I h
 refine Subscript_ (bN (he RX s σ H _ I h) λv s1 ⟨x,H1,I1,r1,q1⟩=>?_)
 refine wpAny_Slice (bN (hl RX s1 σ H1 _ I1 q1) λvl s2 ⟨l,H2,I2,pl,q2⟩=>bN (hu RX s2 σ H2 _ I2 q2) λvu s3 ⟨u,H3,I3,pu,q3⟩=>?_)
 rw [ace]
 refine R9 ?_
 have I4:Inv X RX σ H3 {s3 with heap:=s3.heap.push {cls:=.type "slice",data:=.fields #[vl,vu,.none]}}:=I3.kept (t':=s3.toks) λb ob q=>Sg _ q
 obtain ⟨T,id,hT,ht,hg⟩:=hr RX {s3 with heap:=s3.heap.push {cls:=.type "slice",data:=.fields #[vl,vu,.none]}} σ H3 x v vl vu l u s3.heap.objs.size Q I4 r1 (ac_ ..) pl pu q3
 show Sx (SE X.prog X.w) X.A (acf e (.Slice lo hi none p2) v (.ref s3.heap.objs.size)) (EP X RX σ Q) X.xe {s3 with heap:=s3.heap.push {cls:=.type "slice",data:=.fields #[vl,vu,.none]}}
 exact tail_any (ops:=[.ref s3.heap.objs.size,v]) ht hT hg (by with_unfolding_all rfl)
def mU (xs:List V) (lo hi:Option Int):List V:=(xs.drop (HT.bM xs.length 0 lo)).take (HT.bM xs.length xs.length hi - HT.bM xs.length 0 lo)
theorem rX (xs:List V) (lo hi:Option Int):(mU xs lo hi).length<=xs.length:=by
 unfold mU
 rw [Vm,V0]
 omega
noncomputable def OQ (K:R7):V->Option Int->Option Int->Hp->VK->Prop:=λx lo hi H Q=>∃a xs,x=.ref a/\cZ K H a xs/\
 ¬(HT.bM xs.length 0 lo=0/\HT.bM xs.length xs.length hi=xs.length)/\∀p,H p=none->Q (.ref p) (upd H p (.tup (mU xs lo hi)))
theorem MX:t_ X (OQ X.K):=by
 intro RX s σ H x v vl vu lo hi sl Q I rx hs pl pu h
 obtain ⟨a,xs,rfl,hx,hw,q⟩:=h
 cases rx
 obtain ⟨RY,r,ht,hz⟩:=I.tuple hx
 have hlen:RY.toArray.size=xs.length:=by rw [So];exact r.length.symm
 refine ⟨"tuple",_,TQ.lookup,ht.typeIs,?_⟩
 refine HT.rH ht hs pl pu (by rw [hlen];exact hw) ?_ (by rw [hlen];exact hz)
 rw [hlen]
 refine ⟨.ref s.heap.objs.size,_,I.laid (t':=s.toks) (o:=.tup (mU xs lo hi)) (λb ob q=>Sg _ q) (Sj _) ?_,rfl,q _ (I.hok.fresh (Sj _))⟩
 exact ⟨S7 (rX xs lo hi) hz,_,(r.drop (HT.bM xs.length 0 lo)).take (HT.bM xs.length xs.length hi - HT.bM xs.length 0 lo),acw _ _⟩
noncomputable def NJ (K:R7):R2:=λx y H Q=>∃a b xs ys,x=.ref a/\y=.ref b/\cZ K H a xs/\cZ K H b ys/\xs≠[]/\xs.length + ys.length<=sizeLine/\
 (ys=[]->Q (.ref a) H)/\(ys≠[]->∀p,H p=none->Q (.ref p) (upd H p (.tup (xs++ys))))
theorem Vals.nil_iff {xs:List V}{us:List R8}(r:Vals xs us):us=[]↔xs=[]:=by
 cases r with
 | nil=>simp
 | cons _ _=>simp
theorem JP:cW X (Wa .Add) (NJ X.K):=by
 intro RX s σ H x y v u Q I rx ry h
 obtain ⟨a,b,xs,ys,rfl,rfl,ha,hb,hx,hz,q1,q2⟩:=h
 cases rx
 cases ry
 obtain ⟨RY,r1,p1,_⟩:=I.tuple ha
 obtain ⟨its2,r2,p2,_⟩:=I.tuple hb
 refine HT.Jd p1 p2 (λz=>hx (r1.nil_iff.mp z)) (λz=>⟨.ref a,H,I,rfl,q1 (r2.nil_iff.mp z)⟩) (λz=>?_) (by rw [<-r1.length,<-r2.length];exact hz)
 refine ⟨.ref s.heap.objs.size,_,I.laid (t':=s.toks) (o:=.tup (xs++ys)) (λb ob q=>Sg _ q) (Sj _) ?_,rfl,q2 (λw=>z (r2.nil_iff.mpr w)) _ (I.hok.fresh (Sj _))⟩
 exact ⟨by rw [SI];exact hz,_,r1.append r2,acw _ _⟩
end
def zR (n:Nat) (i:Int):Option Nat:=if 0<=i then (if i < n then some i.toNat else none) else if -(n:Int)<=i then some (i + n).toNat else none
def lQ {α:Type}(xs:List α) (i:Int):Option α:=(zR xs.length i).bind λj=>xs[j]?
theorem Jy {n:Nat}{i:Int}{j:Nat}(h:zR n i=some j):Z5 i n=some j/\j < n/\-(n:Int)<=i/\i < n:=by
 unfold zR at h
 by_cases h0:0<=i
 ·rw [if_pos h0] at h
  by_cases h1:i < n
  ·rw [if_pos h1] at h
   have e:i.toNat=j:=Tf h
   exact ⟨by rw [seqIndex_of h0 h1,e],by omega,by omega,h1⟩
  ·rw [if_neg h1] at h;cases h
 ·rw [if_neg h0] at h
  by_cases h1:-(n:Int)<=i
  ·rw [if_pos h1] at h
   have e:(i + n).toNat=j:=Tf h
   exact ⟨by rw [seqIndex_neg (by omega) h1,e],by omega,h1,by omega⟩
  ·rw [if_neg h1] at h;cases h
theorem vJ {α:Type}{xs:List α}{i:Int}{v:α}(h:lQ xs i=some v):∃j,Z5 i xs.length=some j/\xs[j]?=some v/\j < xs.length/\-(xs.length:Int)<=i/\i < xs.length:=by
 unfold lQ at h
 cases e:zR xs.length i with
 | none=>rw [e] at h;cases h
 | some j=>
  rw [e] at h
  obtain ⟨h1,h2,h3,h4⟩:=Jy e
  exact ⟨j,h1,h,h2,h3,h4⟩
def qO (b:S4):Prop:=∀o i,subscripted b false o i=operate [o,i] (aaq o i)
noncomputable def pO (X:Cx) (r:R2):Prop:=
 ∀(value slice:S4) (RX:List (Sm×Obj)) (s:R_) (σ:St) (H:Hp) (x y:V) (v u:R8) (Q:VK),Inv X RX σ H s->RelV x v->RelV y u->r x y H Q->
  subscripted slice false v u=operate [v,u] (aaq v u)->Sx (SE X.prog X.w) X.A (acf value slice v u) (EP X RX σ Q) X.xe s
noncomputable def Ph (X:Cx) (id:String) (r:V->List V->Hp->VK->Prop):Prop:=
 ∀(RX:List (Sm×Obj)) (s:R_) (σ:St) (H:Hp) (x:V) (xs:List V) (v:R8) (us:List R8) (Q:VK),Inv X RX σ H s->RelV x v->Vals xs us->r x xs H Q->
  Sx (SE X.prog X.w) X.A (call (.builtin id) (v::us)) (EP X RX σ Q) X.xe s
section
variable {X:Cx}{a b:S4}{ta tb:TE}{pos:Pos}
theorem pO.or {r r':R2}(h:pO X r) (h':pO X r'):pO X (λx y H Q=>r x y H Q\/r' x y H Q):=by
 intro value slice RX s σ H x y v u Q I rx ry q hs
 rcases q with q | q
 ·exact h value slice RX s σ H x y v u Q I rx ry q hs
 ·exact h' value slice RX s σ H x y v u Q I rx ry q hs
theorem NC {r:R2}(hr:pO X r) (ha:PE X a ta) (hb:PE X b tb) (hs:qO b):PE X (.Subscript a b pos) (Fv r ta tb):=by
 intro RX s σ H Q I h
 exact Subscript_ (F0 ha hb I h λv u s2 x y H2 I2 rx ry q=>hr a b RX s2 σ H2 x y v u Q I2 rx ry q (hs _ _))
def ML (K:R7):R2:=λx y H Q=>∃p xs i v,x=.ref p/\y=.int i/\cK K H p xs/\lQ xs i=some v/\Q v H
def MN (K:R7):R2:=λx y H Q=>∃p xs i v,x=.ref p/\y=.int i/\cZ K H p xs/\lQ xs i=some v/\Q v H
def MM:R2:=λx y H Q=>∃z i c,x=.str z/\y=.int i/\z.length<=sizeLine/\lQ z.cps.toList i=some c/\Q (.str ⟨#[c]⟩) H
theorem Jz:pO X (ML X.K):=by
 intro value slice RX s σ H x y v u Q I rx ry h hs
 obtain ⟨p,xs,i,z,rfl,rfl,hq,he,q⟩:=h
 cases rx
 obtain ⟨t,rfl⟩:=ry
 obtain ⟨RY,r,pl,hz⟩:=I.list hq
 obtain ⟨j,h1,h2,h3,h4,h5⟩:=vJ he
 obtain ⟨w,ew,rw'⟩:=r.get h2
 have hl:=r.length
 have hn:=nF
 have fin:EP X RX σ Q w s:=⟨z,H,I,rw',q⟩
 by_cases h0:0<=i
 ·have hj:i.toNat=j:=by
   rw [seqIndex_of h0 h5] at h1
   exact Tf h1
  exact item_listR pl.isList h0 (by omega) (by rw [hj];simpa using ew) fin hs
 ·have hj:(i + (RY.toArray.size:Int)).toNat=j:=by
   rw [seqIndex_neg (by omega) h4] at h1
   rw [So,<-hl]
   exact Tf h1
  exact WW (x:=w) pl.isList.typeIs aas.lookup
   (wpAny_getItem_list_neg (Q:=λr s'=>r=w/\EP X RX σ Q r s') pl.isList (by omega) (by rw [So] <;> omega) (by omega) (by rw [hj];simpa using ew) ⟨rfl,fin⟩) hs
theorem LN:pO X (MN X.K):=by
 intro value slice RX s σ H x y v u Q I rx ry h hs
 obtain ⟨p,xs,i,z,rfl,rfl,hq,he,q⟩:=h
 cases rx
 obtain ⟨t,rfl⟩:=ry
 obtain ⟨RY,r,pl,hz⟩:=I.tuple hq
 obtain ⟨j,h1,h2,h3,h4,h5⟩:=vJ he
 obtain ⟨w,ew,rw'⟩:=r.get h2
 have hl:=r.length
 have hn:=nF
 have fin:EP X RX σ Q w s:=⟨z,H,I,rw',q⟩
 exact WW (x:=w) pl.typeIs slot_tuple_getitem.lookup
  (getItem_tuple (j:=j) (Q:=λr s'=>r=w/\EP X RX σ Q r s') pl (by omega) (by omega) (by rw [So,<-hl];exact h1) (by simpa using ew) ⟨rfl,fin⟩) hs
theorem LM:pO X MM:=by
 intro value slice RX s σ H x y v u Q I rx ry h hs
 obtain ⟨z,i,c,rfl,rfl,hz,he,q⟩:=h
 obtain ⟨t,rfl⟩:=rx
 obtain ⟨t',rfl⟩:=ry
 obtain ⟨j,h1,h2,h3,h4,h5⟩:=vJ he
 have hl:z.cps.toList.length=z.length:=by simp [abX]
 rw [hl] at h1 h4 h5
 have hn:=nF
 exact tail_any (typeIs_str s z t) slot_str_getitem.lookup (getItem_str (c:=c) (by
  have e1:decide (i < -(2 ^ 63:Int))=false:=decide_eq_false (by omega)
  have e2:decide (i ≥ 2 ^ 63)=false:=decide_eq_false (by omega)
  rw [e1,e2,Xs]) (by rw [h1];simpa using h2) ⟨.str ⟨#[c]⟩,H,I.tok _,⟨_,rfl⟩,q⟩) hs
def Pz (K:R7):R2:=λx y H Q=>ML K x y H Q\/MN K x y H Q\/MM x y H Q
theorem LL:pO X (Pz X.K):=Jz.or (LN.or LM)
theorem Inv.lst {RX:List (Sm×Obj)}{σ:St}{H:Hp}{s:R_}{p:Sm}{xs:List V}(I:Inv X RX σ H s) (h:H p=some (.lst xs)):
  ∃(RY:List R8) (n:Nat),Vals xs RY/\s.heap.get? p=some {cls:=.type "list",data:=.seq RY.toArray n}/\xs.length<=sizeLine:=by
 obtain ⟨z,RY,n,r,e⟩:=I.hok p _ h
 exact ⟨RY,n,r,e,z⟩
theorem Ax (lo hi:Option Int) (n:Nat):(W2 lo hi none n).1=((HT.bM n 0 lo:Nat):Int)/\(W2 lo hi none n).2.1=((HT.bM n n hi:Nat):Int)/\(W2 lo hi none n).2.2=1:=by
 refine ⟨?_,?_,rfl⟩
 ·cases lo with
  | none=>simp [W2,HT.bM]
  | some i=>
   simp only [W2,HT.bM,aaS,show (1:Int) > 0 by decide,if_true]
   by_cases h:i < 0
   ·simp only [h,if_true] <;> omega
   ·simp only [h,if_false] <;> omega
 ·cases hi with
  | none=>simp [W2,HT.bM]
  | some i=>
   simp only [W2,HT.bM,aaS,show (1:Int) > 0 by decide,if_true]
   by_cases h:i < 0
   ·simp only [h,if_true] <;> omega
   ·simp only [h,if_false] <;> omega
theorem yt (RY:List R8) (lo hi:Option Int):slicePick RY.toArray lo hi none=((RY.drop (HT.bM RY.length 0 lo)).take (HT.bM RY.length RY.length hi - HT.bM RY.length 0 lo)).toArray:=by
 obtain ⟨h1,h2,h3⟩:=Ax lo hi RY.toArray.size
 unfold slicePick
 rw [h1,h2,h3]
 simp only [sliceRange_one,pick_run,So] <;> rfl
noncomputable def OP (K:R7):V->Option Int->Option Int->Hp->VK->Prop:=λx lo hi H Q=>∃a xs,x=.ref a/\cK K H a xs/\∀p,H p=none->Q (.ref p) (upd H p (.lst (mU xs lo hi)))
theorem KH:t_ X (OP X.K):=by
 intro RX s σ H x v vl vu lo hi sl Q I rx hs pl pu h
 obtain ⟨a,xs,rfl,hx,q⟩:=h
 cases rx
 obtain ⟨RY,r,ht,hz⟩:=I.list hx
 have hlen:=r.length
 refine ⟨"list",_,aas.lookup,ht.isList.typeIs,?_⟩
 refine wpAny_getItem_list_slice ht.isList hs pl pu .none (by simp) ?_ (by rw [So] <;> omega)
 rw [yt,<-hlen]
 refine ⟨.ref s.heap.objs.size,_,I.laid (t':=s.toks) (o:=.lst (mU xs lo hi)) (λb ob q=>Sg _ q) (Sj _) ?_,rfl,q _ (I.hok.fresh (Sj _))⟩
 exact ⟨S7 (rX xs lo hi) hz,_,0,(r.drop (HT.bM xs.length 0 lo)).take (HT.bM xs.length xs.length hi - HT.bM xs.length 0 lo),Sk _ rfl⟩
noncomputable def uB:V->Bool
 | .non=>true
 | .bl _=>true
 | .int _=>true
 | .str _=>true
 | _=>false
noncomputable def Lu:V->V->Bool
 | .non,.non=>true
 | .bl a,.bl b=>a == b
 | .bl a,.int b=>(if a then 1 else 0) == b
 | .int a,.bl b=>a == (if b then 1 else 0)
 | .int a,.int b=>a == b
 | .str a,.str b=>a == b
 | _,_=>false
theorem Ls {A:S5}{s:R_}{y x:V}{u v:R8}(ry:RelV y u) (rx:RelV x v) (fy:uB y=true) (fx:uB x=true):UZ A s u v (Lu y x):=by
 cases y with
 | non=>
  cases ry
  cases x with
  | non=>cases rx;exact Y4 _
  | bl b=>cases rx;exact acF b
  | int b=>obtain ⟨t,rfl⟩:=rx;exact acQ b t
  | str b=>obtain ⟨t,rfl⟩:=rx;exact acR b t
  | _=>exact absurd (show false=true from fx) SX
 | bl a=>
  cases ry
  cases x with
  | non=>cases rx;exact acG a
  | bl b=>cases rx;exact acH a b
  | int b=>obtain ⟨t,rfl⟩:=rx;exact acS a b t
  | str b=>obtain ⟨t,rfl⟩:=rx;exact acT a b t
  | _=>exact absurd (show false=true from fx) SX
 | int a=>
  obtain ⟨t',rfl⟩:=ry
  cases x with
  | non=>cases rx;exact acU a t'
  | bl b=>cases rx;exact acV a t' b
  | int b=>obtain ⟨t,rfl⟩:=rx;exact Z0 a t' b t
  | str b=>obtain ⟨t,rfl⟩:=rx;exact ZU a t' b t
  | _=>exact absurd (show false=true from fx) SX
 | str a=>
  obtain ⟨t',rfl⟩:=ry
  cases x with
  | non=>cases rx;exact acW a t'
  | bl b=>cases rx;exact acX a t' b
  | int b=>obtain ⟨t,rfl⟩:=rx;exact ZV a t' b t
  | str b=>obtain ⟨t,rfl⟩:=rx;exact ada a t' b t
  | _=>exact absurd (show false=true from fx) SX
 | _=>exact absurd (show false=true from fy) SX
theorem zh:b9 X (.builtin "len") (λxs H Q=>∃p ys,xs=[.ref p]/\(cK X.K H p ys\/cZ X.K H p ys)/\Q (.int ys.length) H):=by
 intro RX s σ H xs us Q I r h
 obtain ⟨p,ys,rfl,hq,q⟩:=h
 obtain ⟨u,rfl,rx⟩:=vals1 r
 cases rx
 have hn:=nF
 rcases hq with hq | hq
 ·obtain ⟨RY,r',pl,hz⟩:=I.list hq
  have hlen:=r'.length
  exact Calls.call_len_list pl.isList (by simp only [So] <;> omega) ⟨.int ys.length,H,I.tok _,⟨s.toks + 1,by rw [So,hlen]⟩,q⟩
 ·obtain ⟨RY,r',pl,hz⟩:=I.tuple hq
  have hlen:=r'.length
  exact len_tuple pl (by simp only [So] <;> omega) ⟨.int ys.length,H,I.tok _,⟨s.toks + 1,by rw [So,hlen]⟩,q⟩
theorem zj:b9 X (.builtin "len") (λxs H Q=>∃z,xs=[.str z]/\z.length<=sizeLine/\Q (.int z.length) H):=by
 intro RX s σ H xs us Q I r h
 obtain ⟨z,rfl,hz,q⟩:=h
 obtain ⟨u,rfl,t,rfl⟩:=vals1 r
 have hn:=nF
 exact len_str (by omega) ⟨.int z.length,H,I.tok _,⟨_,rfl⟩,q⟩
theorem b9.or {f:R8}{r r':List V->Hp->VK->Prop}(h:b9 X f r) (h':b9 X f r'):b9 X f (λxs H Q=>r xs H Q\/r' xs H Q):=by
 intro RX s σ H xs us Q I rs q
 rcases q with q | q
 ·exact h RX s σ H xs us Q I rs q
 ·exact h' RX s σ H xs us Q I rs q
theorem yi:b9 X (.type "tuple") (λxs H Q=>∃p ys,xs=[.ref p]/\((cK X.K H p ys/\∀l,H l=none->Q (.ref l) (upd H l (.tup ys)))\/(cZ X.K H p ys/\Q (.ref p) H))):=by
 intro RX s σ H xs us Q I r h
 obtain ⟨p,ys,rfl,h⟩:=h
 obtain ⟨u,rfl,rx⟩:=vals1 r
 cases rx
 rcases h with ⟨hq,q⟩ | ⟨hq,q⟩
 ·obtain ⟨RY,r',pl,hz⟩:=I.list hq
  have hlen:=r'.length
  refine call_tuple_list pl.isList (λh' kp=>?_) (by simp only [So] <;> omega)
  have I1:Inv X RX σ H {s with heap:=h'}:=I.kept (t':=s.toks) kp
  have I2:Inv X RX σ (upd H h'.objs.size (.tup ys)) {s with heap:=h'.push {cls:=.type "tuple",data:=.seq RY.toArray}}:=
   I1.laid (t':=s.toks) (λb o e=>Sg _ e) (Sj _) (show cP X.prog X.w _ _ _ (.tup ys) from ⟨hz,RY,r',acw _ _⟩)
  exact ⟨.ref h'.objs.size,_,I2,rfl,q _ (I1.hok.fresh (Sj _))⟩
 ·obtain ⟨RY,r',pl,hz⟩:=I.tuple hq
  exact call_tuple_same pl ⟨.ref p,H,I,rfl,q⟩
noncomputable def Oj (K:R7) (T:String) (x:V) (H:Hp):Prop:=match x with
 | .str _=>T="str"
 | .int _=>T="int"
 | .ref p=>(T="list"/\∃xs,cK K H p xs)\/(T="tuple"/\∃o,K.lookup p=some o/\o.cls=.type "tuple"/\o.dict=none)\/
   (T="dict"/\((∃R4,H p=some (.dK R4))\/∃R4,H p=some (.dT R4)))\/(T="set"/\∃S n,H p=some (.set S n))
 | _=>False
theorem M9 {RX:List (Sm×Obj)}{σ:St}{H:Hp}{s:R_}{T:String}{x:V}{v:R8}(I:Inv X RX σ H s) (r:RelV x v) (ty:Oj X.K T x H):
  s.TypeIs v T/\∀a,v=.ref a->∃ob,s.heap.get? a=some ob/\ob.dict=none:=by
 cases x with
 | str z=>
  obtain ⟨t,rfl⟩:=r
  cases (show T="str" from ty)
  exact ⟨typeIs_str s z t,λ_ e=>nomatch e⟩
 | int i=>
  obtain ⟨t,rfl⟩:=r
  cases (show T="int" from ty)
  exact ⟨typeIs_int s i t,λ_ e=>nomatch e⟩
 | ref p=>
  cases r
  rcases ty with ⟨rfl,xs,hq⟩ | ⟨rfl,o,hk,hc,hd⟩ | ⟨rfl,hk⟩ | ⟨rfl,S,n,hk⟩
  ·obtain ⟨RY,_,pl,_⟩:=I.list hq
   refine ⟨pl.isList.typeIs,λa e=>?_⟩
   cases e
   obtain ⟨o,n,e,c,hd,_⟩:=pl
   exact ⟨o,e,hd⟩
  ·refine ⟨⟨o,I.kIn p o hk,hc⟩,λa e=>?_⟩
   cases e
   exact ⟨o,I.kIn _ o hk,hd⟩
  ·have z:∃o,s.heap.get? p=some o/\o.ExactDict:=by
    rcases hk with ⟨R4,hk⟩ | ⟨R4,hk⟩
    ·obtain ⟨_,_,_,_,o,_,_,e,ex,_⟩:=I.hok p _ hk
     exact ⟨o,e,ex⟩
    ·obtain ⟨_,_,_,_,o,_,_,e,ex,_⟩:=I.hok p _ hk
     exact ⟨o,e,ex⟩
   obtain ⟨o,e,ex⟩:=z
   refine ⟨⟨o,e,ex.1⟩,λa e2=>?_⟩
   cases e2
   exact ⟨o,e,ex.2.1⟩
  ·obtain ⟨o,_,_,_,e,ex,_⟩:=I.hok p _ hk
   refine ⟨⟨o,e,ex.1⟩,λa e2=>?_⟩
   cases e2
   exact ⟨o,e,ex.2.1⟩
 | _=>exact V_ ty
def PJ (K:R7) (T:String) (r:V->List V->Hp->VK->Prop) (to:TE) (t:TA):TE:=λσ H Q=>to σ H λx H1=>Oj K T x H1/\t σ H1 λxs H2=>r x xs H2 Q
variable {o e:S4}{es:List S4}{to:TE}{t:TA}{name:Str}{apos cpos:Pos}{T id:String}{r:V->List V->Hp->VK->Prop}
theorem yL (pa:PlainAttrs T) (slot:Slot T name id) (hty:typeOf (.builtin id)=pure (.type "method_descriptor")) (hm:Ph X id r) (ho:PE X o to) (ha:PA X (e::es) t)
  (hbase:WH o name X.env (eval o X.env)=eval o X.env:=by rfl)
  (hfew:((UL cpos (Sl (e::es) X.env)).all (λx=>!x.1) && (aa1 cpos (Yu [] X.env)).all (λx=>x.1.isSome)
   && decide ((e::es).length + ([]:List Yv).length + (if ([]:List Yv).isEmpty then 0 else 1) < 30))=true:=by rfl)
  (hline:(apos.endLine == cpos.line)=true:=by rfl) (hs:Sl (e::es) X.env=(false,eval e X.env)::Sl es X.env:=by rfl) (hplain:(UL cpos (Sl es X.env)).any (·.1)=false:=by rfl):
  PE X (.Call (.Attribute o name apos) (e::es) [] cpos) (PJ X.K T r to t):=by
 intro RX s σ H Q I h
 refine wpAny_Call_method_late hbase hfew hline rfl (bN (ho RX s σ H _ I h) λv s1 ⟨x,H1,I1,r1,ty,q1⟩=>?_)
 obtain ⟨h1,h2⟩:=M9 I1 r1 ty
 refine ⟨T,id,pa,slot,hty,h1,h2,?_⟩
 have hA:=ha cpos RX s1 σ H1 _ I1 q1
 rw [hs] at hA ⊢
 refine Calls.callWith_builtin (by show (false || (UL cpos (Sl es X.env)).any (·.1))=false;rw [hplain] <;> rfl) (Calls.evalArgs_plain ?_)
 exact bN hA λus s2 ⟨vs,H2,I2,r2,q2⟩=>hm RX s2 σ H2 x vs v us Q I2 r1 r2 q2
end
noncomputable def HR (X:Cx) (id:String) (r:V->List V->Hp->VK->Prop):Prop:=
 ∀(RX:List (Sm×Obj)) (s:R_) (σ:St) (H:Hp) (x:V) (xs:List V) (v:R8) (us:List R8) (Q:VK),Inv X RX σ H s->RelV x v->Vals xs us->r x xs H Q->
  Sx (SE X.prog X.w) X.A (call (.builtin id) (v::us)) (EP X RX σ Q) X.xe s
theorem Vals.one:∀{x:V}{us:List R8},Vals [x] us->∃u,us=[u]/\RelV x u
 | _,_,.cons r .nil=>⟨_,rfl,r⟩
theorem Vals.eraseIdx:∀{xs:List V}{us:List R8}(i:Nat),Vals xs us->Vals (xs.eraseIdx i) (us.eraseIdx i)
 | _,_,_,.nil=>.nil
 | _,_,0,.cons _ t=>t
 | _,_,i + 1,.cons r t=>.cons r (Vals.eraseIdx i t)
theorem xw {α:Type}:∀(l:List α) (i:Nat),(l.eraseIdx i).length<=l.length
 | [],_=>Sj _
 | _::_,0=>Vw _
 | _::r,i + 1=>Nat.succ_le_succ (xw r i)
section
variable {X:Cx}{RX:List (Sm×Obj)}{σ:St}{H:Hp}{s:R_}{l b:Sm}{xs ys zs:List V}
theorem Inv.lset {RY its':List R8}{n:Nat}{f:Array R8->Array R8}{t':Nat}(I:Inv X RX σ H s) (hH:H l=some (.lst xs))
  (e:s.heap.get? l=some {cls:=.type "list",data:=.seq RY.toArray n}) (hf:f RY.toArray=its'.toArray) (hv:Vals ys its') (hz:ys.length<=sizeLine):
  Inv X RX σ (upd H l (.lst ys)) {s with heap:=s.heap.update l (U0 f),toks:=t'}:=by
 have q:=adt e f
 rw [hf] at q
 refine I.write (x:=l) (e:=l) (by rw [hH];exact trivial) (.inl rfl) (λb' u hb hu=>(WX s.heap (U0 f) (U_ hb)).trans hu) ⟨_,q⟩ ?_
 exact ⟨hz,its',_,hv,q⟩
theorem Inv.lnew {RY:List R8}{t':Nat}(I:Inv X RX σ H s) (hv:Vals ys RY) (hz:ys.length<=sizeLine):
  Inv X RX σ (upd H s.heap.objs.size (.lst ys)) {s with heap:=s.heap.push {cls:=.type "list",data:=.seq RY.toArray},toks:=t'}:=
 I.laid (λ_ _ q=>Sg _ q) (Sj _) ⟨hz,RY,0,hv,Sk _ rfl⟩
theorem Inv.fresh (I:Inv X RX σ H s):H s.heap.objs.size=none:=I.hok.fresh (Sj _)
theorem Inv.lstM (I:Inv X RX σ H s) (hH:H l=some (.lst xs)):xs.length<=sizeLine/\∃(RY:List R8) (n:Nat),Vals xs RY/\xs.length=RY.length/\s.heap.get? l=some {cls:=.type "list",data:=.seq RY.toArray n}:=by
 obtain ⟨z,RY,n,r,e⟩:=I.hok l _ hH
 exact ⟨z,RY,n,r,r.length,e⟩
theorem Ad {n:Nat}(h:n<=sizeLine):U1 n=false:=by
 unfold U1
 exact decide_eq_false (by omega)
end
section
variable {X:Cx}
noncomputable def Kw:V->List V->Hp->VK->Prop:=λx vs H Q=>∃l xs y,x=.ref l/\vs=[y]/\H l=some (.lst xs)/\xs.length < sizeLine/\Q .non (upd H l (.lst (xs++[y])))
theorem qm:HR X "list.append" Kw:=by
 intro RX s σ H x vs v us Q I rx rv h
 obtain ⟨l,xs,y,rfl,rfl,hH,hz,q⟩:=h
 cases rx
 obtain ⟨u,rfl,ru⟩:=rv.one
 obtain ⟨z,RY,n,r,hl,e⟩:=I.lstM hH
 refine aat F.slot_list_append ⟨_,e,rfl⟩ F.entry_list_append (F.args_list_append_2 _ _) (PySem.list_append l RY.toArray n u (by rw [So];omega)) ⟨e,?_⟩
 refine ⟨.non,_,I.lset (its':=RY++[u]) hH e (by simp) (r.append (.cons ru .nil)) ?_,rfl,q⟩
 rw [SI,List.length_singleton]
 omega
noncomputable def Ky:V->List V->Hp->VK->Prop:=λx vs H Q=>∃l b xs zs,x=.ref l/\vs=[.ref b]/\H l=some (.lst xs)/\H b=some (.lst zs)/\xs.length + zs.length<=sizeLine/\Q .non (upd H l (.lst (xs++zs)))
theorem Og:HR X "list.extend" Ky:=by
 intro RX s σ H x vs v us Q I rx rv h
 obtain ⟨l,b,xs,zs,rfl,rfl,hH,hB,hz,q⟩:=h
 cases rx
 obtain ⟨u,rfl,ru⟩:=rv.one
 cases ru
 obtain ⟨z,RY,n,r,hl,e⟩:=I.lstM hH
 obtain ⟨z2,its2,n2,r2,hl2,e2⟩:=I.lstM hB
 have hsz:RY.toArray.size + its2.toArray.size<=sizeLine:=by rw [So,So];omega
 have Qh:¬(!RY.toArray.isEmpty && U1 (RY.toArray.size + its2.toArray.size))=true:=by
  rw [Ad hsz,Vx]
  exact SX
 refine aat Z6 ⟨_,e,rfl⟩ ZL (Zq _ _)
  (AutoSeq1.list_extend_list_list_0 l RY.toArray n b its2.toArray n2 Qh (by rw [So];omega) (by omega)) ⟨e,e2,?_⟩
 refine ⟨.non,_,I.lset (its':=RY++its2) hH e (by simp) (r.append r2) ?_,rfl,q⟩
 rw [SI]
 omega
noncomputable def MO:V->List V->Hp->VK->Prop:=λx vs H Q=>∃l xs i k y,x=.ref l/\vs=[.int i]/\H l=some (.lst xs)/\-(2 ^ 63)<=i/\i < 2 ^ 63/\Z5 i xs.length=some k/\xs[k]?=some y/\Q y (upd H l (.lst (xs.eraseIdx k)))
theorem GF:HR X "list.pop" MO:=by
 intro RX s σ H x vs v us Q I rx rv h
 obtain ⟨l,xs,i,k,y,rfl,rfl,hH,h1,h2,hk,hy,q⟩:=h
 cases rx
 obtain ⟨u,rfl,ru⟩:=rv.one
 obtain ⟨t,rfl⟩:=ru
 obtain ⟨z,RY,n,r,hl,e⟩:=I.lstM hH
 obtain ⟨w,hw,rw'⟩:=r.get hy
 refine aat F.slot_list_pop ⟨_,e,rfl⟩ F.entry_list_pop (F.args_list_pop_2 _ _)
  (MeetsSeq.list_pop_at l RY.toArray n i t k w (fitsIndex_both h1 h2) (by rw [So,<-hl];exact hk) (by rw [<-Uh];exact hw) (by rw [So];omega)) ⟨e,?_⟩
 refine ⟨y,_,I.lset (its':=RY.eraseIdx k) hH e ?_ (r.eraseIdx k) ?_,rw',q⟩
 ·show RY.toArray.eraseIdxIfInBounds k=(RY.eraseIdx k).toArray
  rw [List.eraseIdxIfInBounds_toArray]
 ·have:=xw xs k
  omega
noncomputable def ON:R2:=λx y H Q=>∃l b xs zs,x=.ref l/\y=.ref b/\H l=some (.lst xs)/\H b=some (.lst zs)/\xs.length + zs.length<=sizeLine/\∀p,H p=none->Q (.ref p) (upd H p (.lst (xs++zs)))
theorem EM:cW X (Wa .Add) ON:=by
 intro RX s σ H x y v u Q I rx ry h
 obtain ⟨l,b,xs,zs,rfl,rfl,hH,hB,hz,q⟩:=h
 cases rx
 cases ry
 obtain ⟨z,RY,n,r,hl,e⟩:=I.lstM hH
 obtain ⟨z2,its2,n2,r2,hl2,e2⟩:=I.lstM hB
 refine PySem.P.add_list e e2 ?_ (by rw [So,So];omega)
 have ea:RY.toArray++its2.toArray=(RY++its2).toArray:=by simp
 rw [ea]
 exact ⟨.ref _,_,I.lnew (t':=s.toks) (r.append r2) (by rw [SI];omega),rfl,q _ I.fresh⟩
end
end L2
namespace Att
open PySem PySem.W PySem.Calls PyProof.Rows
theorem uL {P:abY}{h:TM}:∀(ns:List Int) (vs:List R8),WellAll P h vs (ns.map adx)->Wv vs ns:=by
 intro ns
 induction ns with
 | nil=>
  intro vs w
  rw [Xe] at w
  cases w
  exact .nil
 | cons n ns ih=>
  intro vs w
  rw [Sw] at w
  cases w with
  | cons a b=>
   cases a
   exact .cons _ _ (ih _ b)
theorem Fj {l:OpenLaw}{n:Nat}(hn:l.most=some n){P:abY}{h:TM}{args:List WData}{vals:List R8}
  (hpre:l.row.toRowW.claim.pre args=true) (hwl:WellAll P h vals args):
  ∃a vs ns,vals=[VE a]/\args=[WData.list (ns.map adx)]/\h.get? a=some {cls:=.type "list",data:=.seq vs.toArray}/\Wv vs ns/\ns.length<=n:=by
 have hsh:WShape.hasAll [] args [.list .int]=true:=(pre_splitW hpre).1
 have hc:l.pre.holds [] {args:=args}=true:=(pre_splitW hpre).2
 obtain ⟨d,r,rfl,h1,h2⟩:=hasAllW_cons hsh
 obtain rfl:=hasAllW_nil h2
 obtain ⟨xs,rfl,h3⟩:=hasW_list h1
 obtain ⟨ns,rfl⟩:=items_int h3
 have hlen:ns.length<=n:=by
  unfold OpenLaw.pre at hc
  have h4:(WTm.not (.lt (.lit (.int (n:Int))) (.len (.arg 0)))).holds [] {args:=[.list (ns.map .int)]}=true:=by
   have h4:=(holds_andW hc).1
   rw [hn] at h4
   exact h4
  have h5:=condW_of h4 (w_not (w_lt w_lit (w_len_list (w_arg rfl))))
  rw [Sa] at h5
  refine YI λq=>?_
  have q':(n:Int) < ((ns.length:Nat):Int):=by omega
  first
   | (rw [decide_eq_true q'] at h5;exact absurd h5 (by decide))
   | (simp at h5;omega)
 cases hwl with
 | cons w1 w2=>
  cases w2
  cases w1 with
  | list ho hall=>exact ⟨_,_,ns,rfl,rfl,ho,uL ns _ hall,hlen⟩
theorem E6 (l:OpenLaw) (args:List WData):l.row.toRowW.claim.post args (.bool true) args=true:=
 postW_of (r:=l.row.toRowW) (X:=(true == true))
  (show adm [] (.bool true) .bool=true by first | rfl | decide | simp [adm,WShape.arms,WShape.armsAll])
  (show (WTm.eq .res (.lit (.bool true))).value [] {args:=args,res:=some (.bool true),after:=args}=some (.bool (true == true)) from w_eq_bool (w_res rfl) w_lit) rfl
theorem AM {l:OpenLaw}{n:Nat}{q:Su}{loose:List Str}{XP:(Str->Option R8)->TM->Prop}{YP:S3->TM->Prop}{d:DefRec}
  (hn:l.most=some n) (hdf:d.params.defaults=[])
  (call:∀(w:S3) (s₀ s₁:R_) (mg mb:Str->Option R8) (fa:Sm) (o:Obj) (pm cd doc:R8) (a:Sm) (vs:List R8) (ns:List Int),
   Ground q loose [] XP w s₀ mg mb s₁.heap->YP w s₁.heap->
   s₁.heap.get? fa=some o->o.data=.func (docDef d.name d.params d.body d.scope pm cd doc)->s₁.heap.CodeRec cd d.name->mg d.name=some (.ref fa)->
   s₁.heap.get? a=some {cls:=.type "list",data:=.seq vs.toArray}->Wv vs ns->ns.length<=n->s₁.gens=#[]->
   U5 (SE l.prog w) aau (.call (.ref fa) ⟨[.ref a],[]⟩) (λr s'=>r=.ok (.ret (.bool true))/\OldK s₁.heap s'.heap/\s'.os=s₁.os/\Yr s'.gens) s₁):
  WalkO q loose XP YP l.row.toRowW d [] (λf vs=>abZ f vs):=by
 intro w s₀ s₁ mg mb G Y fa o pm cd doc dV kV ho hd hcd hD hmg hg args vals as hpre hlay hrd hwl hlo
 obtain rfl:dV=.none:=Dflts.none hD hdf
 obtain rfl:kV=.none:=Dflts.noKw hD
 obtain ⟨a,vs,ns,rfl,rfl,hobj,hints,hlen⟩:=Fj hn hpre hwl
 refine enter_call (VR (call w s₀ s₁ mg mb fa o pm cd doc a vs ns G Y ho (fd_plain hd) hcd hmg hobj hints hlen hg) λr s' hq=>?_)
 obtain ⟨rfl,h2,h3,h4⟩:=hq
 exact ⟨.inl ⟨.bool true,.bool true,[],rfl,λ_=>rfl,.bool true,E6 l _,λ_=>⟨VI,λ_ hm=>(nomatch hm)⟩⟩,h2,h3,h4⟩
end Att
namespace L2
open PySem PySem.Spec PyProof.Rows
theorem x6:∀{vs:List R8}{ns:List Int},Wv vs ns->Vals (ns.map V.int) vs
 | _,_,.nil=>.nil
 | _,_,.cons n t h=>.cons ⟨t,rfl⟩ (x6 h)
def Ca (H:Hp):Prop:=∀b,H b=none\/∃o xs,H b=some (.frz o (.lst xs))
theorem Gy {P:Su}{w:S3}{K:R7}{mg mb:Str->Option R8}{CX:pJ}{k:Nat}{fa a:Sm}{fd:SO}{x:Str}{sp:Sp}{s₁:R_}{vs:List R8}{ns:List Int}
  (KX:K.In s₁.heap) (hns:s₁.heap.Ns SS mg) (hb:s₁.heap.Ns abT mb) (Rp:∀x:Str,x≠"__name__"->mb x=TX x) (hlim:s₁.heap.NoLimit) (hg:s₁.gens=#[])
  (ha:s₁.heap.get? a=some {cls:=.type "list",data:=.seq vs.toArray}) (hi:Wv vs ns) (hl:ns.length<=sizeLine) (hr:dc k aau)
  (F:∀base:TM,K.In base->base.Ns SS mg->fF P w K mg base CX k fa fd [x] sp) (hbind:∀(s:R_) (u:R8),aa8 s fd ⟨[u],[]⟩ [(x,u)])
  (Ql:∀H:Hp,Ca H->cK K H a (ns.map V.int)->sp [.ref a] H (λv _=>v=.bl true) λ_ _ _=>False)
  (QO:∀H e s',CX [] H s₁ (λ_ _ _=>False) e s'->False):
  U5 (SE P w) aau (.call (.ref fa) ⟨[.ref a],[]⟩) (λr s'=>r=.ok (.ret (.bool true))/\OldK s₁.heap s'.heap/\s'.os=s₁.os/\Yr s'.gens) s₁:=by
 have rv:=x6 hi
 have lenV:=hi.length
 have core:∀H:Hp,Ca H->cK K H a (ns.map V.int)->fR P w H s₁.heap->(∀b,H b≠none->b=a)->(H a≠none->K.lookup a=none)->
   U5 (SE P w) aau (.call (.ref fa) ⟨[.ref a],[]⟩) (λr s'=>r=.ok (.ret (.bool true))/\OldK s₁.heap s'.heap/\s'.os=s₁.os/\Yr s'.gens) s₁:=by
  intro H hO hS hok hA hK
  have base_of:∀{b:Sm}{o:Obj},s₁.heap.get? b=some o->H b=none->(oE s₁.heap H).get? b=some o:=λe n=>Gk e n
  have noA:∀{b:Sm}{o:Obj}{es:Array Y5}{ep:Nat},s₁.heap.get? b=some o->o.data=.dict es ep->H b=none:=fun {b o es ep} e d=>by
   cases q:H b with
   | none=>rfl
   | some u=>
    have e':b=a:=hA b (by rw [q];simp)
    subst e'
    rw [ha] at e;cases e
    have d':adb vs.toArray _=Data.dict es ep:=d
    cases d'
  have nsK:∀{b:Sm}{m:Str->Option R8},s₁.heap.Ns b m->(oE s₁.heap H).Ns b m:=fun {b m} ⟨o,es,ep,e,d,r⟩=>⟨o,es,ep,base_of e (noA e d),d,r⟩
  have Rg:K.In (oE s₁.heap H):=λb o e=>base_of (KX b o e) (by
   cases q:H b with
   | none=>rfl
   | some u=>
    have e':b=a:=hA b (by rw [q];simp)
    subst e'
    rw [hK (by rw [q];simp)] at e;cases e)
  have hM:Mod K mg (oE s₁.heap H):=⟨Rg,nsK hns,⟨mb,nsK hb,Rp⟩,let ⟨mc,h1,h2⟩:=hlim;⟨mc,nsK h1,h2⟩⟩
  have e0:B8 P w K mg (oE s₁.heap H) aau [] s₁ H:=⟨rfl,hM,λb o e=>JO e,acy (Ez _ _),trivial,λb hb=>absurd (show b∈([]:List Sm) from hb) (by simp),hok,.of_eq hg⟩
  refine VR ((F _ Rg (nsK hns)).run aau [] s₁ H ⟨[.ref a],[]⟩ [.ref a] [.ref a] _ _ hr e0 (hbind s₁ (.ref a)) (.cons rfl .nil) (Ql H hO hS)) λr s' h=>?_
  cases r with
  | error e=>exact (QO H e s' h).elim
  | ok fl=>
   cases fl with
   | next=>exact V_ h
   | brk=>exact V_ h
   | cont=>exact V_ h
   | ret u=>
    obtain ⟨v,H',os,bare,un,Q6,r',q⟩:=h
    have q':v=.bl true:=q
    subst q'
    obtain rfl:u=VD true:=r'
    refine ⟨rfl,OldK.of_keep λb o e=>?_,os,bare⟩
    cases q:H b with
    | none=>exact un.keep b o e q (by intro z;exact absurd (show b∈([]:List Sm) from z) (by simp)) (by simp)
    | some u=>
     rcases hO b with z | ⟨ob,xs,z⟩
     ·rw [q] at z;cases z
     ·have z2:=un.frzs b ob _ z
      obtain ⟨e1,_⟩:=hok b _ z
      obtain ⟨e2,_⟩:=Q6 b _ z2
      rw [e] at e1;cases e1
      exact e2
 cases hk:K.lookup a with
 | some o=>
  have e:=KX a o hk
  rw [ha] at e
  cases e
  refine core (λ_=>none) (λ_=>.inl rfl) (.inr ⟨_,vs.toArray,_,hk,rfl,rfl,rfl,by rw [So,lenV];exact hl,by simpa using rv⟩) (λb u z=>by have z':(none:Option HO)=some u:=z;cases z') (λb z=>absurd rfl z) λz=>absurd rfl z
 | none=>
  refine core (λb=>if b=a then some (.frz {cls:=.type "list",data:=.seq vs.toArray} (.lst (ns.map V.int))) else none) (λb=>?_) (.inl (.inr ⟨{cls:=.type "list",data:=.seq vs.toArray},if_pos rfl⟩)) (λb u z=>?_) (λb z=>?_) λ_=>hk
  ·by_cases hb:b=a
   ·exact .inr ⟨_,_,if_pos hb⟩
   ·exact .inl (if_neg hb)
  ·by_cases hb:b=a
   ·have z':=(if_pos hb).symm.trans z
    cases z'
    subst hb
    exact ⟨ha,by rw [Sa];exact hl,vs,_,rv,ha⟩
   ·have z':=(if_neg hb).symm.trans z
    cases z'
  ·by_cases hb:b=a
   ·exact hb
   ·exact absurd (if_neg hb) z
abbrev PZ {K:R7}{h:TM}(_:K.In h):R7:=K
theorem KZ {l:Y6}{n k:Nat}{q:Su}{loose:List Str}{XP:(Str->Option R8)->TM->Prop}{YP:S3->TM->Prop}{d:DefRec}{K:abY->R7}{CX:S3->pJ}{sp:S3->Sp}{x:Str}
  (hn:l.most=some n) (hn2:n<=sizeLine) (hdf:d.params.defaults=[]) (hr:dc k aau)
  (hY:∀(w:S3) (h:TM),YP w h->(K w.params).In h)
  (F:∀(w:S3) (mg:Str->Option R8) (fa:Sm) (h:TM),(K w.params).In h->h.Ns SS mg->mg d.name=some (.ref fa)->
   ∃fd:SO,(∀(s:R_) (u:R8),aa8 s fd ⟨[u],[]⟩ [(x,u)])/\
    ∀base:TM,(K w.params).In base->base.Ns SS mg->fF l.prog w (K w.params) mg base (CX w) k fa fd [x] (sp w))
  (Ql:∀(w:S3) (H:Hp) (a:Sm) (ns:List Int),ns.length<=n->Ca H->cK (K w.params) H a (ns.map V.int)->sp w [.ref a] H (λv _=>v=.bl true) λ_ _ _=>False)
  (QO:∀(w:S3) (H:Hp) (s:R_) (e:R8) (s':R_),CX w [] H s (λ_ _ _=>False) e s'->False):
  acg q loose XP YP l.row.toRowW d [] (λf vs=>abZ f vs):=by
 refine Att.AM hn hdf λw s₀ s₁ mg mb fa o pm cd doc a vs ns G Y ho hd hcd hmg hobj hints hlen hg=>?_
 have KX:=hY w _ Y
 obtain ⟨fd,hb,hF⟩:=F w mg fa _ KX G.T.g hmg
 exact Gy KX G.T.g G.T.b G.T.builtins G.T.nolimit hg hobj hints (S7 hlen hn2) hr hF hb (λH hO hS=>Ql w H a ns hlen hO hS) λH e s'=>QO w H s₁ e s'
noncomputable def cU (s:VA):Arguments:=match s with
 | .FunctionDef _ a _ _ _ _ _ _ _ _=>a
 | _=>{posonlyargs:=[],args:=[],vararg:=none,kwonlyargs:=[],kw_defaults:=[],kwarg:=none,defaults:=[]}
noncomputable def bV (s:VA):List VA:=match s with
 | .FunctionDef _ _ b _ _ _ _ _ _ _=>b
 | _=>[]
noncomputable def aY (s:VA):Vk:=match s with
 | .FunctionDef _ _ _ _ _ _ sc _ _ _=>sc
 | _=>{kind:=.function,names:=[],isGenerator:=false,isCoroutine:=false}
abbrev o_:pJ:=λ_ _ _ _ _ _=>False
abbrev E0:XK:=λ_ _ _=>False
theorem Dc {X:Cx}:Passes o_ X E0:=λ_ _ _ _ _ _ _ h=>h.elim
structure pe (K:R7) (x R1:Str) (st:VA) (f:Sm) (fd:SO):Prop where
 ex:∃(oc:R8) (od:Option Sm) (kV doc pm:R8) (an:Option Sm) (cdv ct:R8) (osl:Array (Option R8)),
  fd=TH x R1 (cU st) (bV st) (aY st) .none kV doc pm an cdv ct/\K.lookup f=some ⟨oc,od,.func fd,osl⟩/\Vu K cdv R1=true
 kp:T7 K (.ref f)=true
section
variable {P:Su}{w:S3}{K:R7}{mg:Str->Option R8}{base:TM}
theorem pe.ok {x R1:Str}{st:VA}{f:Sm}{fd:SO}{N ps:List Str}{k:Nat}{sp:Sp}(F:pe K x R1 st f fd) (S:fK N ps (aY st)) (len:∀vs H Q E,sp vs H Q E->vs.length=ps.length)
  (hbody:∀(cdv:R8) (A:S5) (outer:List Env) (s:R_) (H:Hp) (vs:List V) (Q:VK) (E:XK),dc k (A.deeper (X0 R1 (aY st) s.heap.objs.size f cdv))->sp vs H Q E->
   ∃t,kh (pY o_ P w K mg base N R1 (aY st) f cdv A outer s H E).nox (bV st) t/\t {nx:=λ_ H'=>Q .non H',rt:=Q} (start N vs) H):fF P w K mg base o_ (k + 1) f fd ps sp:=by
 obtain ⟨oc,od,kV,doc,pm,an,cdv,ct,osl,rfl,lk,hcd⟩:=F.ex
 refine Ia lk hcd S len λA outer s H vs Q E hr Ql=>?_
 obtain ⟨t,h,q⟩:=hbody cdv A outer s H vs Q E hr Ql
 exact ⟨t,h.nox,q⟩
theorem pe.binds {x R1:Str}{st:VA}{f:Sm}{fd:SO}{ps:List Str}(F:pe K x R1 st f fd)
  (h:∀(kV doc pm:R8) (an:Option Sm) (cdv ct:R8) (us:List R8),us.length=ps.length->Zn (TH x R1 (cU st) (bV st) (aY st) .none kV doc pm an cdv ct) ⟨us,[]⟩=pure (ps.zip us)):Binds K fd ps []:=by
 obtain ⟨oc,od,kV,doc,pm,an,cdv,ct,osl,rfl,lk,hcd⟩:=F.ex
 exact .all (h kV doc pm an cdv ct)
theorem En {x R1:Str}{st:VA}{f:Sm}{oc:R8}{od an:Option Sm}{osl:Array (Option R8)}{kV doc pm cdv ct:R8}(l:K.lookup f=some ⟨oc,od,.func (TH x R1 (cU st) (bV st) (aY st) .none kV doc pm an cdv ct),osl⟩)
  (c:Vu K cdv R1=true) (k:T7 K (.ref f)=true):pe K x R1 st f (TH x R1 (cU st) (bV st) (aY st) .none kV doc pm an cdv ct):=⟨⟨oc,od,kV,doc,pm,an,cdv,ct,osl,rfl,l,c⟩,k⟩
end
theorem Gp {A B:Prop}(h:B):if false=true then A else B:=by
 rw [if_neg SX]
 exact h
theorem Gq {A B:Prop}(h:A):if true=true then A else B:=by
 rw [if_pos rfl]
 exact h
def aT (H H':Hp):Prop:=∀b o,H b=some o->H' b=some o
theorem aT.refl (H:Hp):aT H H:=λ_ _ h=>h
theorem aT.trans {H H1 H2:Hp}(a:aT H H1) (b:aT H1 H2):aT H H2:=λc o h=>b c o (a c o h)
theorem aT.free {H H':Hp}(e:aT H H'){l:Sm}(h:H' l=acY):H l=acY:=by
 cases q:H l with
 | none=>rfl
 | some o=>
  rw [e l o q] at h
  cases h
theorem aT.seq {K:R7}{H H':Hp}{a:Sm}{xs:List V}(e:aT H H') (h:cK K H a xs):cK K H' a xs:=by
 rcases h with (h | ⟨o,h⟩) | h
 ·exact .inl (.inl (e _ _ h))
 ·exact .inl (.inr ⟨o,e _ _ h⟩)
 ·exact .inr h
end L2
set_option maxHeartbeats 4000000
namespace K35
open PySem
def top (i:Nat):VA:=PySem.Challenge.pw_pickalike_k35_whole_never_parted.main.body.getD i (.Pass ⟨0,0,0,0⟩)
end K35
namespace K35
open PySem PySem.Spec PyProof.Rows L2
abbrev E (P:abY) (k:Str) (t:Nat) (v:R8):Y5:=⟨PyData.keyHash P k,.str k t,v⟩
abbrev c_ (P:abY) (k:Str) (t r:Nat):Y5:=E P k t (.ref r)
noncomputable def Oe (n:Str) (t l k a:Nat) (v w:R8) (r u:Nat):Obj:=⟨.type "code",none,.fields #[.str n t,.str n (t + 1),.str "/claim/cut.py" (t + 2),.int l 0,.int k 0,.int 0 0,.int 0 0,.int 3 0,.ref a,.bool true,.int 181 0,.ref (a + 1),.none,v,w,.ref r,.int u 0,.int l 0,.str "/claim/cut.py" (u + 1)],#[]⟩
def jg (n:Str) (t l k a u:Nat):Obj:=Oe n t l k a (.ref (a + 2)) (.ref (a + 3)) (a + 4) u
def jU (n:Str) (t l k a u:Nat):Obj:=Oe n t l k a .none .none (a + 2) u
noncomputable def dX (n:Str) (k:Nat) (m:R8) (c:Nat):Obj:=⟨.type "function",none,.func (TH n n (cU (top k)) (bV (top k)) (aY (top k)) .none .none .none m none (.ref c) .none),#[]⟩
def Gi:R8:=.str "pickalike.worlds" 273
def Gj:R8:=.str "pickalike.checks" 296
def vZ:R8:=.str "pickalike.pairings" 325
def qe:R8:=.str "pickalike.layers" 373
def iC:R8:=.str "law_pickalike_k35_whole_never_parted" 435
def KF (P:abY):R7:=
(nat_lit 2,⟨.none,none,(.dict #[] 0),#[]⟩)::
(nat_lit 3,⟨(.type "dict"),none,(.dict #[E P "__name__" 165 (.str "law_pickalike_k35_whole_never_parted" 435),E P "__doc__" 166 .none,E P "__package__" 167 .none,E P "__loader__" 168 (.builtin "__main__.__loader__#opaque"),E P "__spec__" 169 .none,c_ P "__annotations__" 170 6,c_ P "__builtins__" 171 4,E P "__file__" 173 (.str "/claim/cut.py" 172),E P "__cached__" 174 .none,c_ P "PickError" 206 24,c_ P "NoTongue" 222 37,c_ P "TooMany" 247 56,c_ P "NoCount" 272 75,c_ P "is_whole" 281 84,c_ P "tongue_of" 287 89,c_ P "need_tongue" 295 96,E P "MOST_SMALL" 299 (.int 4 298),c_ P "need_few_points" 307 103,c_ P "need_small" 315 110,c_ P "need_count" 324 117,c_ P "rising" 333 124,c_ P "view" 339 129,c_ P "views" 345 134,c_ P "agree" 355 141,c_ P "goes_behind" 366 148,c_ P "pairings" 372 153,c_ P "added" 382 160,c_ P "pairs_with" 388 165,c_ P "picks_of" 394 170,c_ P "outcomes" 400 175,c_ P "answered_still" 406 180,c_ P "peeled" 412 185,c_ P "pairings_with" 418 190,c_ P "parting_depths" 424 195,c_ P "parted" 434 203,c_ P "_law_cell" 444 210,c_ P "_law_names" 459 217,c_ P "_law_bits" 469 224,c_ P "_law_world" 475 229,c_ P "_law_order" 486 236,c_ P "_law_turned" 492 241,c_ P "_law_flipped" 498 246,c_ P "_law_two" 504 251,c_ P "_law_fits" 519 258,c_ P "_law_with" 527 265,c_ P "_law_orders" 533 270,c_ P "_law_whole" 540 277,c_ P "_law_one" 546 282,c_ P "_law_later" 554 289,c_ P "law" 569 296] 50),#[]⟩)::
(nat_lit 83,jg "is_whole" 275 17 1 78 279)::
(nat_lit 84,dX "is_whole" 6 Gi 83)::
(nat_lit 88,jU "tongue_of" 282 19 1 85 285)::
(nat_lit 89,dX "tongue_of" 7 Gi 88)::
(nat_lit 95,jg "need_tongue" 288 22 2 90 293)::
(nat_lit 96,dX "need_tongue" 8 Gi 95)::
(nat_lit 102,jg "need_few_points" 300 27 1 97 305)::
(nat_lit 103,dX "need_few_points" 11 Gj 102)::
(nat_lit 109,jg "need_small" 308 31 2 104 313)::
(nat_lit 110,dX "need_small" 12 Gj 109)::
(nat_lit 116,jg "need_count" 316 34 3 111 322)::
(nat_lit 117,dX "need_count" 13 Gj 116)::
(nat_lit 123,jg "rising" 327 38 1 118 331)::
(nat_lit 124,dX "rising" 15 vZ 123)::
(nat_lit 128,jU "view" 334 42 3 125 337)::
(nat_lit 129,dX "view" 16 vZ 128)::
(nat_lit 133,jU "views" 340 47 1 130 343)::
(nat_lit 134,dX "views" 17 vZ 133)::
(nat_lit 140,jg "agree" 346 49 4 135 353)::
(nat_lit 141,dX "agree" 18 vZ 140)::
(nat_lit 147,jg "goes_behind" 356 51 4 142 364)::
(nat_lit 148,dX "goes_behind" 19 vZ 147)::
(nat_lit 152,jU "pairings" 367 58 3 149 370)::
(nat_lit 153,dX "pairings" 20 vZ 152)::
(nat_lit 159,jg "added" 375 71 2 154 380)::
(nat_lit 160,dX "added" 22 qe 159)::
(nat_lit 164,jU "pairs_with" 383 73 4 161 386)::
(nat_lit 165,dX "pairs_with" 23 qe 164)::
(nat_lit 169,jU "picks_of" 389 77 2 166 392)::
(nat_lit 170,dX "picks_of" 24 qe 169)::
(nat_lit 174,jU "outcomes" 395 79 4 171 398)::
(nat_lit 175,dX "outcomes" 25 qe 174)::
(nat_lit 179,jU "answered_still" 401 82 2 176 404)::
(nat_lit 180,dX "answered_still" 26 qe 179)::
(nat_lit 184,jU "peeled" 407 84 2 181 410)::
(nat_lit 185,dX "peeled" 27 qe 184)::
(nat_lit 189,jU "pairings_with" 413 94 3 186 416)::
(nat_lit 190,dX "pairings_with" 28 qe 189)::
(nat_lit 194,jU "parting_depths" 419 96 3 191 422)::
(nat_lit 195,dX "parting_depths" 29 qe 194)::
(nat_lit 196,⟨(.type "tuple"),none,(.seq #[.none] 0),#[]⟩)::
(nat_lit 202,jg "parted" 425 100 3 197 432)::
(nat_lit 203,⟨(.type "function"),none,(.func (TH "parted" "parted" (cU (top 30)) (bV (top 30)) (aY (top 30)) (.ref 196) .none .none (.str "pickalike.layers" 373) none (.ref 202) .none)),#[]⟩)::
(nat_lit 209,jg "_law_cell" 437 105 2 204 442)::
(nat_lit 210,dX "_law_cell" 32 iC 209)::
(nat_lit 216,jg "_law_names" 445 109 2 211 457)::
(nat_lit 217,dX "_law_names" 33 iC 216)::
(nat_lit 223,jg "_law_bits" 460 121 2 218 467)::
(nat_lit 224,dX "_law_bits" 34 iC 223)::
(nat_lit 228,jU "_law_world" 470 127 3 225 473)::
(nat_lit 229,dX "_law_world" 35 iC 228)::
(nat_lit 235,jg "_law_order" 476 137 2 230 484)::
(nat_lit 236,dX "_law_order" 36 iC 235)::
(nat_lit 240,jU "_law_turned" 487 144 2 237 490)::
(nat_lit 241,dX "_law_turned" 37 iC 240)::
(nat_lit 245,jU "_law_flipped" 493 148 2 242 496)::
(nat_lit 246,dX "_law_flipped" 38 iC 245)::
(nat_lit 250,jU "_law_two" 499 167 2 247 502)::
(nat_lit 251,dX "_law_two" 39 iC 250)::
(nat_lit 257,jg "_law_fits" 505 182 3 252 517)::
(nat_lit 258,dX "_law_fits" 40 iC 257)::
(nat_lit 264,jg "_law_with" 520 194 2 259 525)::
(nat_lit 265,dX "_law_with" 41 iC 264)::
(nat_lit 269,jU "_law_orders" 528 196 1 266 531)::
(nat_lit 270,dX "_law_orders" 42 iC 269)::
(nat_lit 276,jg "_law_whole" 534 204 1 271 538)::
(nat_lit 277,dX "_law_whole" 43 iC 276)::
(nat_lit 281,jU "_law_one" 541 206 3 278 544)::
(nat_lit 282,dX "_law_one" 44 iC 281)::
(nat_lit 288,jg "_law_later" 547 216 2 283 552)::
(nat_lit 289,dX "_law_later" 45 iC 288)::
(nat_lit 295,jg "law" 555 220 1 290 567)::
(nat_lit 296,dX "law" 46 iC 295)::[]
noncomputable def VW:Su:={PySem.Challenge.pw_pickalike_k35_whole_never_parted with main:={PySem.Challenge.pw_pickalike_k35_whole_never_parted.main with body:=[top 1,top 2,top 3,top 4,top 6,top 7,top 8,top 10,top 11,top 12,top 13,top 15,top 16,top 17,top 18,top 19,top 20,top 22,top 23,top 24,top 25,top 26,top 27,top 28,top 29,top 32,top 33,top 34,top 35,top 36,top 37,top 38,top 39,top 40,top 41,top 42,top 43,top 44,top 45,top 46]}}
noncomputable def HK:W.Hook:=W.kHook KF [2,3,83,84,88,89,95,96,102,103,109,110,116,117,123,124,128,129,133,134,140,141,147,148,152,153,159,160,164,165,169,170,174,175,179,180,184,185,189,190,194,195,196,202,203,209,210,216,217,223,224,228,229,235,236,240,241,245,246,250,251,257,258,264,265,269,270,276,277,281,282,288,289,295,296] (λ_=>by kernel_rfl)
def XT:R_->Bool:=λs=>W.xlAt VW [] s && W.recOk (acI PySem.Challenge.rw_pickalike_k35_whole_never_parted.row.toRowW) s
theorem look:ab0 PySem.Challenge.rw_pickalike_k35_whole_never_parted=true:=by decide +kernel
theorem left:W.LeftO PySem.Challenge.rw_pickalike_k35_whole_never_parted.row.prog VW ["parted"] XT (adu HK) (adv HK) 4118:=λw=>by kernel_rfl
end K35
namespace DX
open PySem PySem.Spec
open Sem (wp)
abbrev Pu (C t:Sm) (dx:Option Sm):Obj:={cls:=.ref C,dict:=dx,data:=.fields #[.ref t,.none,.none,.none,.bool false,.none]}
end DX
namespace DX
open PySem PySem.Spec
section
variable {M:acL}{A:S5}{E:R8->R_->Prop}{s:R_}
noncomputable def Pe (e C:Sm) (dx:Option Sm) (T:Sm) (h:TM):Prop:=
 ∃oe vs oT ts,h.get? e=some oe/\oe.cls=.ref C/\oe.dict=dx/\oe.data=.fields vs/\vs[1]?=some (.ref T)/\T≠e/\h.get? T=some oT/\oT.data=.fields ts/\ts[3]?=some .none
end
end DX
namespace DX
open PySem PySem.Spec PyProof.Rows L2
def Ng (a C:Sm) (dx:Option Sm):TM->Prop:=λh=>∃oe vs,h.get? a=some oe/\oe.cls=.ref C/\oe.dict=dx/\oe.data=.fields vs
abbrev XO (a C:Sm) (dx:Option Sm):HO:=.ext (Ng a C dx)
noncomputable def Fl (e C:Sm) (dx:Option Sm):Option Sm->TM->Prop
 | none,h=>∃t,h.get? e=some (Pu C t dx)
 | some T,h=>Pe e C dx T h
structure Ou (P:Su) (w:S3) (fs ex:List Sm) (H:Hp) (s:R_) (E:XK) (e C:Sm) (dx To:Option Sm) (H':Hp) (s':R_):Prop where
 os:s'.os=s.os
 bare:Yr s'.gens
 un:Un fs ex H H' s.heap s'.heap
 hok:fR P w H' s'.heap
 fl:Fl e C dx To s'.heap
 newE:s.heap.objs.size<=e
 newT:∀T∈To.toList,s.heap.objs.size<=T
 Fx:H' e=some (XO e C dx)
 free:∀T∈To.toList,H' T=none
 wish:E (.ref e) dx H'
def tK (P:Su) (w:S3):pJ:=λouter H s E v s'=>∃e C dx T H',v=.ref e/\Ou P w (frs outer) [] H s E e C dx (some T) H' s'
end DX
namespace DX
open PySem PySem.Spec PyProof.Rows
open Sem (wp)
section
variable {prog:Su}{w:S3}{A:S5}{E:R8->R_->Prop}{s:R_}{K:R7}{x C:Sm}{ox:Obj}{od:Option Obj}{name:Str}
theorem F5 {M:acL}{nameV:R8}{Q:Unit->R_->Prop}(X:K.In s.heap) (I:Wn s.heap x ox C od) (hm:Wb K C (.type "BaseException")=some true) (hq:Q () s):Sx M A (YJ "BaseException.__getattribute__" ⟨[.ref x,nameV],[]⟩) Q E s:=by
 have hk:builtinKind "BaseException.__getattribute__"=some .slot:=by decide +kernel
 have Ql:splitId "BaseException.__getattribute__"=some ("BaseException","__getattribute__"):=by decide +kernel
 have ha:=F.args_bexc_ga (.ref x) nameV
 have L1:=I.type (M:=M)
 have L2:=W.looks_mroIn (M:=M) X hm
 simp only [YJ,hk,Ql]
 have L:W.Looks M s.heap (ab1 (.ref x) (.type "BaseException")) true:=L1.andThen L2
 refine R6 (L.here ?_)
 obtain ⟨h,g,d,t,os⟩:=s
 repeat (any_goals (first | assumption | wp_step))
theorem entry_class {tk:Tok}{Q:Fin->R_->Prop}(X:K.In s.heap) (I:Wn s.heap x ox C od) (hf:XA K C od "__class__"=some (.bind (.builtin "getset_descriptor.__get__") (.builtin "object.__class__"))) (hm:Wb K C (.type "object")=some true) (h:Q (.done (.ret (.ref C))) s):
  Sx (SE prog w) A (Ww.«object.__getattribute__» ⟨[.ref x,.str "__class__" tk],[]⟩) Q E s:=by
 obtain ⟨hh,g,d,t,os⟩:=s
 have L0:=I.type (M:=SE prog w)
 have L1:=W.looks_find (M:=SE prog w) X I hf
 refine R6 (R9 (R6 (R9 (R6 (L0.at (R6 (L1.at ?_)))))))
 show Sx _ _ (holding [_] (call _ [_,.ref x,.ref C]) >>= ret) _ _ _
 exact R6 (S_ (aao (W.class_get (ox:=ox) (od:=od) X I hm (R9 h))))
theorem Lz {tk:Tok}{fill expr:Bool}{Q:R8->R_->Prop}(X:K.In s.heap) (I:Wn s.heap x ox C od) (hga:Vy K (.ref C) "__getattribute__"=some (some (.builtin "BaseException.__getattribute__"))) (hgt:Vy K (.ref C) "__getattr__"=some none)
  (h:U5 (SE prog w) A (.call (.builtin "BaseException.__getattribute__") ⟨[.ref x,.str name tk],[]⟩) (λr s'=>match r with | .ok (.ret v)=>Sx (SE prog w) A (handedOut v) Q E s' | _=>False) s):Sx (SE prog w) A (getAttrBy (.ref x) (.str name tk) fill expr) Q E s:=by
 obtain ⟨hh,g,d,t,os⟩:=s
 have L0:=I.type (M:=SE prog w)
 have L1:=Zr (M:=SE prog w) X hga
 have L2:=Zr (M:=SE prog w) X hgt
 have RP:(Yw "BaseException.__getattribute__" == Yw "object.__getattribute__")=false:=by decide +kernel
 unfold getAttrBy
 refine S_ (R6 (L0.at (R6 (L1.at ?_))))
 dsimp only
 rw [RP,Vx,if_neg (by decide)]
 unfold getAttrByItsOwn
 refine R6 (L2.at ?_)
 have h0:(expr && onTheHeap (Yw "BaseException.__getattribute__"))=false:=by cases expr <;> rfl
 refine R6 (VU (S_ ?_))
 unfold callGetattribute
 rw [h0,if_neg (by decide)]
 unfold boundAndCalled
 rw [XC.ga.bind (.ref x)]
 refine R6 (R9 (aao (VR h λr s' q=>?_)))
 match r,q with
 | .ok (.ret v),q=>exact q
theorem get_class {Q:Option R8->R_->Prop}(X:K.In s.heap) (I:Wn s.heap x ox C od) (hga:Vy K (.ref C) "__getattribute__"=some (some (.builtin "BaseException.__getattribute__"))) (hgt:Vy K (.ref C) "__getattr__"=some none)
  (hm:Wb K C (.type "BaseException")=some true) (hf:XA K C od "__class__"=some (.bind (.builtin "getset_descriptor.__get__") (.builtin "object.__class__"))) (ho:Wb K C (.type "object")=some true) (h:Q (some (.ref C)) {s with toks:=s.toks + 1}):
  Sx (SE prog w) A (getAttr? (.ref x) "__class__") Q E s:=by
 obtain ⟨hp,g,d,t,os⟩:=s
 unfold getAttr? getAttrBy?
 refine R6 (wpAny_mkText (R6 (VU (Lz (s:=⟨hp,g,d,t + 1,os⟩) X I hga hgt ?_))))
 refine Zs XC.ga.plain F.entry_bexc_ga (F5 (s:=⟨hp,g,d,t + 1,os⟩) X I hm (entry_class (s:=⟨hp,g,d,t + 1,os⟩) X I hf ho ?_))
 exact R9 (R9 h)
end
end DX
namespace DX
open PySem PySem.Spec PyProof.Rows L2
abbrev AI:List R8:=[.type "ValueError",.type "Exception",.type "BaseException",.type "object"]
def quiet:List Str:=["__init__","__setattr__","name","letter","many","told","point","row"]
structure GX (K:R7) (P:Sm):Prop where
 gt:aav K (.builtin "object.__class__") "__get__"=some (some (.builtin "getset_descriptor.__get__"))
 tk:aa9 K (.builtin "object.__class__")=some true
 lk:∃nm q N bs sn sub ab col dd k0 k1 k2 k3 k5,K.lookup P=some (excClassObj nm q P N bs AI true sn sub ab col dd k0 k1 k2 k3 k5 "ValueError.__new__")/\∀h,K.In h->∃m,h.Ns N m/\∀n∈quiet,m n=none
structure XE (K:R7) (P C:Sm):Prop where
 lk:∃nm q N bs sn sub ab col dd k0 k1 k2 k3 k5,K.lookup C=some (excClassObj nm q C N bs (.ref P::AI) true sn sub ab col dd k0 k1 k2 k3 k5 "ValueError.__new__")
 ga:Vy K (.ref C) "__getattribute__"=some (some (.builtin "BaseException.__getattribute__"))
 gt:Vy K (.ref C) "__getattr__"=some none
 cl:Vy K (.ref C) "__class__"=some (some (.builtin "object.__class__"))
section
variable {K:R7}{P C:Sm}
theorem Ea (X:XE K P C):∃cd,WI K C=some cd/\cd.mro=.ref C::.ref P::AI/\cd.hasDict=true/\W.typeIn K (.ref C)=some (.type "type"):=by
 obtain ⟨nm,q,N,bs,sn,sub,ab,col,dd,k0,k1,k2,k3,k5,l⟩:=X.lk
 have h1:WI K C=some {name:=nm,bases:=bs,mro:=.ref C::.ref P::AI,ns:=N,qualname:=q,hasDict:=true,slotNames:=sn,subclasses:=sub,abstract:=ab,collection:=col,hasDel:=false}:=by
  unfold WI
  rw [l]
 refine ⟨_,h1,rfl,rfl,?_⟩
 show (K.lookup C).map (·.cls)=_
 rw [l]
 rfl
theorem Aa (X:XE K P C) (b:R8):Wb K C b=some ((VE C::.ref P::AI).contains b):=by
 obtain ⟨cd,h1,h2,_⟩:=Ea X
 unfold Wb
 rw [h1,YK,h2]
 rfl
end
theorem LV {K:R7}{P C:Sm}(X:XE K P C){T:String}(h1:aa_ T=true) (h2:AI.contains (.type T)=false):ZD K (.ref C) (.type T)=some false:=by
 unfold ZD W.kitCls
 rw [if_neg (by simp)]
 simp only [h1,if_true]
 show Wb K C _=_
 rw [Aa X,Z7,Z7,h2]
 rfl
theorem Js {K:R7}{C:Sm}{od:Option Obj}{name:Str}{a g:R8}(hc:(WI K C).isSome=true) (ha:Vy K (.ref C) name=some (some a)) (hg:aav K a "__get__"=some (some g)) (ht:aa9 K a=some true):XA K C od name=some (.bind g a):=by
 obtain ⟨cd,hc⟩:=Ug.mp hc
 unfold XA
 rw [hc,YK,ha,YK]
 simp [hg,ht]
theorem Gv {K:R7}{e P C:Sm}(G:GX K P) (E:XE K P C):W.KitX K (.ref e) (.ref C) (λh=>∃ox od,Wn h e ox C od):=by
 obtain ⟨cd,hc,hm,hd,ht⟩:=Ea E
 refine ⟨λM h _ ⟨ox,od,I⟩=>I.type,λM h X _=>?_,λh tp dd RY n sl X htp=>?_,λX ⟨ox,od,I⟩ k=>?_⟩
 ·unfold WI at hc
  split at hc
  ·rename_i ho
   intro A' Q' E' s' k q
   unfold isType loadHead
   exact R6 (wpAny_loadPart (k _ _ (X _ _ ho)) (R9 q))
  ·cases hc
 ·refine aaw.mpr λq=>?_
  obtain rfl:C=tp:=adD (beq_iff_eq.mp q)
  unfold WI at hc
  split at hc
  ·rename_i ho
   have z:=(X _ _ ho).symm.trans htp
   cases z
  ·cases hc
 ·exact get_class X I E.ga E.gt (by rw [Aa E];simp) (Js (by rw [hc];rfl) E.cl G.gt G.tk) (by rw [Aa E];simp) k
end DX
namespace DL
open PySem PySem.Spec PyProof.Rows L2
inductive D where
 | non | bl (b:Bool) | int (i:Int) | str (x:Str) | tup (xs:List D) | lst (xs:List D) | emp
 | exn (cls:Str) (ns:List Str) (ds:List D)
  | dct (ks vs:List D)
mutual
noncomputable def isKey:D->Bool
 | .int _=>true
 | .tup xs=>areKeys xs
 | _=>false
noncomputable def areKeys:List D->Bool
 | []=>true
 | x::xs=>isKey x && areKeys xs
end
mutual
noncomputable def bT:D->Int
 | .int i=>Wl i
 | .tup xs=>ab2 (T9 (cJ xs))
 | _=>0
noncomputable def cJ:List D->List Int
 | []=>[]
 | x::xs=>bT x::cJ xs
end
mutual
noncomputable def dep:D->Nat
 | .tup xs=>deps xs + 1
 | .lst xs=>deps xs + 1
 | .emp=>5000
 | .exn _ _ _=>5000
 | .dct _ _=>5000
 | _=>0
noncomputable def deps:List D->Nat
 | []=>0
 | x::xs=>max (dep x) (deps xs)
end
structure K8 (ks:List D):Prop where
 key:areKeys ks=true
 nd:ks.Nodup
 dp:deps ks<=8
 tp:∀k∈ks,∃xs,k=.tup xs
def yT (p:Int×V×V) (e:Y5):Prop:=e.hash=p.1/\RelV p.2.1 e.key/\RelV p.2.2 e.val
abbrev kR (a:Sm) (ep:Nat) (R4:List (Int×V×V)):HO:=.ext λh=>∃o es,h.get? a=some o/\o.ExactDict/\o.data=.dict es ep/\Yc yT R4 es.toList
noncomputable def XF (J:Hp) (dx:Option Sm) (ns:List Str) (vs:List V):Prop:=(dx=none/\ns=[]/\vs=[])\/∃d,dx=some d/\ns.length=vs.length/\J d=some (.xd (ns.zip vs))
theorem XF.mono {J J':Hp}(e:aT J J'){dx:Option Sm}{ns:List Str}{vs:List V}(h:XF J dx ns vs):XF J' dx ns vs:=by
 rcases h with h | ⟨d,h1,h2,h3⟩
 ·exact .inl h
 ·exact .inr ⟨d,h1,h2,e _ _ h3⟩
mutual
inductive Rep (K:R7) (J:Hp):D->V->Prop
 | non:Rep K J .non .non
 | bl (b:Bool):Rep K J (.bl b) (.bl b)
 | int (i:Int):Rep K J (.int i) (.int i)
 | str (x:Str):Rep K J (.str x) (.str x)
 | emp {a:Sm}:J a=some (.dK [])->Rep K J .emp (.ref a)
 | tup {a:Sm}{vs:List V}{ds:List D}:cZ K J a vs->aK K J ds vs->Rep K J (.tup ds) (.ref a)
 | lst {a:Sm}{vs:List V}{ds:List D}:cK K J a vs->aK K J ds vs->Rep K J (.lst ds) (.ref a)
 | exn {a C:Sm}{dx:Option Sm}{cls:Str}{ns:List Str}{vs:List V}{ds:List D}:J a=some (DX.XO a C dx)->Th K SS cls=some (some (.ref C))->XF J dx ns vs->aK K J ds vs->(∃P,DX.GX K P/\DX.XE K P C)->Rep K J (.exn cls ns ds) (.ref a)
 | dct {a:Sm}{ep:Nat}{ks vs:List D}{us ws:List V}:J a=some (kR a ep ((cJ ks).zip (us.zip ws)))->aK K J ks us->aK K J vs ws->K8 ks->(a == V3)=false/\ks.length=vs.length->Rep K J (.dct ks vs) (.ref a)
inductive aK (K:R7) (J:Hp):List D->List V->Prop
 | nil:aK K J [] []
 | cons {d:D}{v:V}{ds:List D}{vs:List V}:Rep K J d v->aK K J ds vs->aK K J (d::ds) (v::vs)
end
theorem fC {K:R7}{H H':Hp}{a:Sm}{xs:List V}(e:aT H H') (h:cZ K H a xs):cZ K H' a xs:=by
 rcases h with (h | ⟨o,h⟩) | h
 ·exact .inl (.inl (e _ _ h))
 ·exact .inl (.inr ⟨o,e _ _ h⟩)
 ·exact .inr h
mutual
theorem Rep.mono {K:R7}{J J':Hp}(e:aT J J'):∀{d:D}{v:V},Rep K J d v->Rep K J' d v
 | _,_,.non=>.non
 | _,_,.bl b=>.bl b
 | _,_,.int i=>.int i
 | _,_,.str x=>.str x
 | _,_,.emp h=>.emp (e _ _ h)
 | _,_,.tup h hs=>.tup (fC e h) (aK.mono e hs)
 | _,_,.lst h hs=>.lst (e.seq h) (aK.mono e hs)
 | _,_,.exn h1 h2 h3 hs hx=>.exn (e _ _ h1) h2 (h3.mono e) (aK.mono e hs) hx
 | _,_,.dct h h1 h2 h3 h4=>.dct (e _ _ h) (aK.mono e h1) (aK.mono e h2) h3 h4
theorem aK.mono {K:R7}{J J':Hp}(e:aT J J'):∀{ds:List D}{vs:List V},aK K J ds vs->aK K J' ds vs
 | _,_,.nil=>.nil
 | _,_,.cons h hs=>.cons (Rep.mono e h) (aK.mono e hs)
end
section
variable {K:R7}{J:Hp}
theorem aK.length:∀{ds:List D}{vs:List V},aK K J ds vs->ds.length=vs.length
 | _,_,.nil=>rfl
 | _,_,.cons _ hs=>congrArg (· + 1) (aK.length hs)
theorem aK.get:∀{ds:List D}{vs:List V}{i:Nat}{d:D},aK K J ds vs->ds[i]?=some d->∃v,vs[i]?=some v/\Rep K J d v
 | _,_,_,_,.nil,e=>by simp at e
 | _,_,0,_,.cons r _,e=>by simp at e;subst e;exact ⟨_,rfl,r⟩
 | _,_,i + 1,d,.cons _ t,e=>by
  obtain ⟨v,h1,h2⟩:=aK.get (i:=i) (d:=d) t (by simpa using e)
  exact ⟨v,by simpa using h1,h2⟩
theorem aK.append:∀{ds es:List D}{vs us:List V},aK K J ds vs->aK K J es us->aK K J (ds++es) (vs++us)
 | _,_,_,_,.nil,s=>s
 | _,_,_,_,.cons r t,s=>.cons r (aK.append t s)
theorem aK.take:∀{ds:List D}{vs:List V}(n:Nat),aK K J ds vs->aK K J (ds.take n) (vs.take n)
 | _,_,0,_=>.nil
 | _,_,_ + 1,.nil=>.nil
 | _,_,n + 1,.cons r t=>.cons r (aK.take n t)
theorem aK.drop:∀{ds:List D}{vs:List V}(n:Nat),aK K J ds vs->aK K J (ds.drop n) (vs.drop n)
 | _,_,0,r=>r
 | _,_,_ + 1,.nil=>.nil
 | _,_,n + 1,.cons _ t=>aK.drop n t
end
noncomputable def dS (K:R7) (J H:Hp) (a:Sm) (ks vs:List D):Prop:=∃us ws ep,H a=some (kR a ep ((cJ ks).zip (us.zip ws)))/\aK K J ks us/\aK K J vs ws/\K8 ks/\(a == V3)=false/\ks.length=vs.length
theorem dS.mono {K:R7}{J J' H H':Hp}{a:Sm}{ks vs:List D}(e:aT J J') (e':aT H H'):dS K J H a ks vs->dS K J' H' a ks vs
 | ⟨us,ws,ep,h1,h2,h3,h4⟩=>⟨us,ws,ep,e' _ _ h1,h2.mono e,h3.mono e,h4⟩
theorem dS.ne {K:R7}{J H:Hp}{a:Sm}{ks vs:List D}:dS K J H a ks vs->H a≠none
 | ⟨us,ws,ep,h1,_⟩=>by rw [h1];intro z;cases z
theorem dS.rep {K:R7}{J H:Hp}{a:Sm}{ks vs:List D}(e:aT J H):dS K J H a ks vs->Rep K H (.dct ks vs) (.ref a)
 | ⟨us,ws,ep,h1,h2,h3,h4,h5⟩=>.dct h1 (h2.mono e) (h3.mono e) h4 h5
structure Exc where
 cls:Str
 ns:List Str
 ds:List D
inductive M (α:Type) where
 | bad | ok (a:α) | exc (x:Exc)
noncomputable def M.bind {α β:Type}:M α->(α->M β)->M β
 | .bad,_=>.bad
 | .ok a,f=>f a
 | .exc x,_=>.exc x
instance:Monad M where
 pure:=M.ok
 bind:=M.bind
@[simp] theorem aP {α β:Type}(a:α) (f:α->M β):(M.ok a >>= f)=f a:=rfl
noncomputable def cA {α:Type}(m:M α) (Q:α->Prop) (T:Exc->Prop):Prop:=match m with
 | .bad=>False
 | .ok a=>Q a
 | .exc x=>T x
theorem aI {α β:Type}{m:M α}{f:α->M β}{Q:β->Prop}{T:Exc->Prop}(h:cA (m >>= f) Q T):cA m (λa=>cA (f a) Q T) T:=by
 cases m with
 | bad=>exact h
 | ok a=>exact h
 | exc x=>exact h
theorem aE {α:Type}{m:M α}{Q Q':α->Prop}{T:Exc->Prop}(h:cA m Q T) (k:∀a,Q a->Q' a):cA m Q' T:=by
 cases m with
 | bad=>exact h
 | ok a=>exact k a h
 | exc x=>exact h
inductive Md where
 | fresh | own | bor
inductive R where
 | d (x:D) | l (m:Md) (xs:List D)
  | mo (ks vs:List D) | mb (ks vs:List D) | mf (ks vs:List D)
inductive S where
 | d (x:D) | own (xs:List D) | bor (xs:List D) | dk (ks vs:List D) | db (ks vs:List D)
  | fn (x:Str)
abbrev Ev:=List (Option S)
abbrev Mn:=List D ⊕ (List D×List D)
noncomputable def mS:Mn->S
 | .inl xs=>.own xs
 | .inr p=>.dk p.1 p.2
structure C where
 K:R7
 H0:Hp
 J0:Hp
 T:Exc->Prop
structure HI (c:C) (J H:Hp):Prop where
 sub:aT J H
 ent:aT c.H0 H
 entJ:aT c.J0 J
 frz:∀a,c.H0 a≠none->c.J0 a=none->J a=none
structure Ext (J H J' H':Hp):Prop where
 h:aT H H'
 j:aT J J'
 sub:aT J' H'
 frz:∀a,H a≠none->J a=none->J' a=none
theorem aT.ne {H H':Hp}(e:aT H H'){a:Sm}(h:H a≠none):H' a≠none:=by
 cases q:H a with
 | none=>exact absurd q h
 | some o=>rw [e a o q];intro z;cases z
theorem Ext.refl {J H:Hp}(h:aT J H):Ext J H J H:=⟨aT.refl H,aT.refl J,h,λ_ _ q=>q⟩
theorem Ext.trans {J H J1 H1 J2 H2:Hp}(a:Ext J H J1 H1) (b:Ext J1 H1 J2 H2):Ext J H J2 H2:=
 ⟨a.h.trans b.h,a.j.trans b.j,b.sub,λp h q=>b.frz p (aT.ne a.h h) (a.frz p h q)⟩
theorem HI.ext {c:C}{J H J' H':Hp}(h:HI c J H) (e:Ext J H J' H'):HI c J' H':=
 ⟨e.sub,h.ent.trans e.h,h.entJ.trans e.j,λa h0 j0=>e.frz a (aT.ne h.ent h0) (h.frz a h0 j0)⟩
theorem cO {H:Hp}{p:Sm}(h:H p=none) (o:HO):aT H (upd H p o):=λb u q=>by rw [bz (eu q h)];exact q
theorem Ext.new {J H:Hp}(h:aT J H){p:Sm}(e:H p=none) (o:HO):Ext J H J (upd H p o):=
 ⟨cO e o,aT.refl J,λb u q=>cO e o b u (h b u q),λ_ _ q=>q⟩
theorem Ext.newJ {J H:Hp}(h:aT J H){p:Sm}(e:H p=none) (o:HO):Ext J H (upd J p o) (upd H p o):=
 ⟨cO e o,cO (h.free e) o,λb u q=>by
  by_cases hb:b=p
  ·subst hb;rw [bU] at q ⊢;exact q
  ·rw [bz hb] at q ⊢;exact h b u q,λa ha q=>by
  have:a≠p:=λz=>ha (z▸e)
  rw [bz this];exact q⟩
noncomputable def sO (c:C) (J H:Hp):S->V->Prop
 | .d x,v=>Rep c.K J x v
 | .own xs,v=>∃a vs,v=.ref a/\H a=some (.lst vs)/\J a=none/\c.H0 a=none/\aK c.K J xs vs
 | .bor xs,v=>∃a vs,v=.ref a/\cK c.K c.H0 a vs/\aK c.K J xs vs
 | .dk ks vs,v=>∃a,v=.ref a/\dS c.K J H a ks vs/\J a=none/\c.H0 a=none
 | .db ks vs,v=>∃a,v=.ref a/\dS c.K J c.H0 a ks vs
 | .fn x,v=>∃f,v=.ref f/\Th c.K SS x=some (some (.ref f))
theorem sO.ext {c:C}{J H J' H':Hp}(e:Ext J H J' H'):∀{x:S}{v:V},sO c J H x v->sO c J' H' x v
 | .d x,v,h=>Rep.mono e.j h
 | .own xs,v,⟨a,vs,h1,h2,h3,h4,h5⟩=>⟨a,vs,h1,e.h _ _ h2,e.frz a (by rw [h2];intro z;cases z) h3,h4,aK.mono e.j h5⟩
 | .bor xs,v,⟨a,vs,h1,h2,h3⟩=>⟨a,vs,h1,h2,aK.mono e.j h3⟩
 | .dk _ _,v,⟨a,h1,h2,h3,h4⟩=>⟨a,h1,h2.mono e.j e.h,e.frz a h2.ne h3,h4⟩
 | .db _ _,v,⟨a,h1,h2⟩=>⟨a,h1,h2.mono e.j (aT.refl _)⟩
 | .fn _,v,h=>h
structure SR (c:C) (J H:Hp) (σ:L2.St) (env:Ev):Prop where
 hp:HI c J H
 len:env.length=σ.length
 at_:∀(i:Nat) (x:S),env[i]?=some (some x)->∃v,σ[i]?=some (some v)/\sO c J H x v
 sep:∀(i j:Nat) (xs ys:Mn) (v:V),i≠j->env[i]?=some (some (mS xs))->env[j]?=some (some (mS ys))->σ[i]?=some (some v)->σ[j]?≠some (some v)
theorem SR.ext {c:C}{J H J' H':Hp}{σ:L2.St}{env:Ev}(h:SR c J H σ env) (e:Ext J H J' H'):SR c J' H' σ env:=
 ⟨h.hp.ext e,h.len,λi x q=>let ⟨v,q1,q2⟩:=h.at_ i x q;⟨v,q1,q2.ext e⟩,h.sep⟩
theorem SR.mine {c:C}{J H:Hp}{σ:L2.St}{env:Ev}(sr:SR c J H σ env){i:Nat}:∀{x:Mn},env[i]?=some (some (mS x))->∃p,σ[i]?=some (some (.ref p))/\H p≠none/\J p=none/\c.H0 p=none
 | .inl xs,h=>let ⟨_,k1,p,vs,e,k2,k3,k4,_⟩:=sr.at_ i (.own xs) h;⟨p,e▸k1,by rw [k2];exact λz=>(by cases z),k3,k4⟩
 | .inr q,h=>let ⟨_,k1,p,e,k2,k3,k4⟩:=sr.at_ i (.dk q.1 q.2) h;⟨p,e▸k1,k2.ne,k3,k4⟩
noncomputable def RR (c:C) (He J H:Hp):R->V->Prop
 | .d x,v=>Rep c.K J x v
 | .l .fresh xs,v=>∃a vs,v=.ref a/\H a=some (.lst vs)/\J a=none/\He a=none/\aK c.K J xs vs
 | .l .own xs,v=>∃a vs,v=.ref a/\H a=some (.lst vs)/\J a=none/\c.H0 a=none/\aK c.K J xs vs
 | .l .bor xs,v=>∃a vs,v=.ref a/\cK c.K c.H0 a vs/\aK c.K J xs vs
 | .mo ks vs,v=>∃a,v=.ref a/\dS c.K J H a ks vs/\J a=none/\c.H0 a=none
 | .mb ks vs,v=>∃a,v=.ref a/\dS c.K J c.H0 a ks vs
 | .mf ks vs,v=>∃a,v=.ref a/\dS c.K J H a ks vs/\J a=none/\He a=none
theorem RR.ext {c:C}{He J H J' H':Hp}(e:Ext J H J' H'):∀{x:R}{v:V},RR c He J H x v->RR c He J' H' x v
 | .d x,v,h=>Rep.mono e.j h
 | .l .fresh xs,v,⟨a,vs,h1,h2,h3,h4,h5⟩=>⟨a,vs,h1,e.h _ _ h2,e.frz a (by rw [h2];intro z;cases z) h3,h4,aK.mono e.j h5⟩
 | .l .own xs,v,⟨a,vs,h1,h2,h3,h4,h5⟩=>⟨a,vs,h1,e.h _ _ h2,e.frz a (by rw [h2];intro z;cases z) h3,h4,aK.mono e.j h5⟩
 | .l .bor xs,v,⟨a,vs,h1,h2,h3⟩=>⟨a,vs,h1,h2,aK.mono e.j h3⟩
 | .mo _ _,v,⟨a,h1,h2,h3,h4⟩=>⟨a,h1,h2.mono e.j e.h,e.frz a h2.ne h3,h4⟩
 | .mb _ _,v,⟨a,h1,h2⟩=>⟨a,h1,h2.mono e.j (aT.refl _)⟩
 | .mf _ _,v,⟨a,h1,h2,h3,h4⟩=>⟨a,h1,h2.mono e.j e.h,e.frz a h2.ne h3,h4⟩
theorem RR.from {c:C}{He He' J H:Hp}(e:aT He He'):∀{x:R}{v:V},RR c He' J H x v->RR c He J H x v
 | .d x,v,h=>h
 | .l .fresh xs,v,⟨a,vs,h1,h2,h3,h4,h5⟩=>⟨a,vs,h1,h2,h3,e.free h4,h5⟩
 | .l .own xs,v,h=>h
 | .l .bor xs,v,h=>h
 | .mo _ _,v,h=>h
 | .mb _ _,v,h=>h
 | .mf _ _,v,⟨a,h1,h2,h3,h4⟩=>⟨a,h1,h2,h3,e.free h4⟩
noncomputable def kP:R->M (List D)
 | .d (.lst xs)=>.ok xs
 | .l _ xs=>.ok xs
 | _=>.bad
noncomputable def toD:R->M D
 | .d x=>.ok x
 | .l .fresh xs=>.ok (.lst xs)
 | .mf ks vs=>.ok (.dct ks vs)
 | _=>.bad
theorem RR.list {c:C}{He J H:Hp}(hp:HI c J H):∀{r:R}{v:V}{xs:List D},RR c He J H r v->kP r=.ok xs->∃a vs,v=.ref a/\cK c.K H a vs/\aK c.K J xs vs
 | .d (.lst ys),v,xs,h,e=>by
  cases e
  cases h with
  | lst h hs=>exact ⟨_,_,rfl,hp.sub.seq h,hs⟩
 | .l .fresh ys,v,xs,⟨a,vs,h1,h2,h3,h4,h5⟩,e=>by cases e;exact ⟨a,vs,h1,cK.of h2,h5⟩
 | .l .own ys,v,xs,⟨a,vs,h1,h2,h3,h4,h5⟩,e=>by cases e;exact ⟨a,vs,h1,cK.of h2,h5⟩
 | .l .bor ys,v,xs,⟨a,vs,h1,h2,h3⟩,e=>by cases e;exact ⟨a,vs,h1,hp.ent.seq h2,h3⟩
 | .d .non,_,_,_,e=>nomatch e
 | .d (.bl _),_,_,_,e=>nomatch e
 | .d (.int _),_,_,_,e=>nomatch e
 | .d (.str _),_,_,_,e=>nomatch e
 | .d (.tup _),_,_,_,e=>nomatch e
 | .d .emp,_,_,_,e=>nomatch e
 | .d (.dct _ _),_,_,_,e=>nomatch e
 | .mo _ _,_,_,_,e=>nomatch e
 | .mb _ _,_,_,_,e=>nomatch e
 | .mf _ _,_,_,_,e=>nomatch e
theorem Bs {Je He J H:Hp}(x:Ext Je He J H){a:Sm}{o:HO}(h2:H a=some o) (h3:J a=none) (h4:He a=none):Ext Je He (upd J a o) H:=by
 refine ⟨x.h,x.j.trans (cO h3 _),λb u q=>?_,λb hb q=>?_⟩
 ·by_cases hb:b=a
  ·subst hb;rw [bU] at q;cases q;exact h2
  ·rw [bz hb] at q;exact x.sub b u q
 ·have:b≠a:=λz=>hb (z▸h4)
  rw [bz this];exact x.frz b hb q
theorem freeze {c:C}{Je He J H:Hp}(x:Ext Je He J H):∀{r:R}{v:V}{d:D},RR c He J H r v->toD r=.ok d->∃J',Ext Je He J' H/\aT J J'/\Rep c.K J' d v
 | .d y,v,d,h,e=>by cases e;exact ⟨J,x,aT.refl J,h⟩
 | .l .fresh ys,v,d,⟨a,vs,h1,h2,h3,h4,h5⟩,e=>by
  cases e
  subst h1
  exact ⟨_,Bs x h2 h3 h4,cO h3 _,.lst (.inl (.inl bU)) (aK.mono (cO h3 _) h5)⟩
 | .mf ks vs,v,d,⟨a,h1,⟨us,ws,ep,h2,m1,m2,m3⟩,h3,h4⟩,e=>by
  cases e
  subst h1
  exact ⟨_,Bs x h2 h3 h4,cO h3 _,.dct bU (m1.mono (cO h3 _)) (m2.mono (cO h3 _)) m3.1 m3.2⟩
 | .l .own _,_,_,_,e=>nomatch e
 | .l .bor _,_,_,_,e=>nomatch e
 | .mo _ _,_,_,_,e=>nomatch e
 | .mb _ _,_,_,_,e=>nomatch e
abbrev G (α:Type):=Ev->M α
def tD (c:C) (g:G R):TE:=λσ H Q=>∃J env,SR c J H σ env/\cA (g env) (λr=>∀v J' H',Ext J H J' H'->RR c H J' H' r v->Q v H') c.T
def PD (X:Cx) (c:C) (e:S4) (g:G R):Prop:=PE X e (tD c g)
def tB (c:C) (g:G Bool):TT:=λσ H Q=>∃J env,SR c J H σ env/\cA (g env) (λb=>∀J' H',Ext J H J' H'->Q b H') c.T
def PB (X:Cx) (c:C) (e:S4) (g:G Bool):Prop:=PT X e (tB c g)
noncomputable def ki (c:C) (He J H:Hp):List R->List V->Prop
 | [],vs=>vs=[]
 | r::rs,vs=>∃v us,vs=v::us/\RR c He J H r v/\ki c He J H rs us
def tA (c:C) (g:G (List R)):TA:=λσ H Q=>∃J env,SR c J H σ env/\cA (g env) (λrs=>∀vs J' H',Ext J H J' H'->ki c H J' H' rs vs->Q vs H') c.T
def A_ (X:Cx) (c:C) (es:List S4) (g:G (List R)):Prop:=PA X es (tA c g)
def PF (c:C) (g:G (List D)):TA:=λσ H Q=>∃J env,SR c J H σ env/\cA (g env) (λds=>∀vs J' H',Ext J H J' H'->aK c.K J' ds vs->Q vs H') c.T
def Pj (X:Cx) (c:C) (es:List S4) (g:G (List D)):Prop:=PA X es (PF c g)
inductive O where
 | nx (e:Ev) | rt (r:R) | bk (e:Ev) | ct (e:Ev)
noncomputable def RF (c:C) (J H:Hp):R->V->Prop
 | .d x,v=>Rep c.K J x v
 | .l _ xs,v=>∃a vs,v=.ref a/\H a=some (.lst vs)/\J a=none/\c.H0 a=none/\aK c.K J xs vs
 | .mf ks vs,v=>∃a,v=.ref a/\dS c.K J H a ks vs/\J a=none/\c.H0 a=none
 | _,_=>False
noncomputable def oP (c:C) (J:Hp) (E:Ends):O->Prop
 | .nx e=>∀σ' J' H',aT J J'->SR c J' H' σ' e->E.nx σ' H'
 | .rt r=>∀v J' H',aT J J'->HI c J' H'->RF c J' H' r v->E.rt v H'
 | .bk e=>∀σ' J' H',aT J J'->SR c J' H' σ' e->E.bk σ' H'
 | .ct e=>∀σ' J' H',aT J J'->SR c J' H' σ' e->E.ct σ' H'
def tS (c:C) (g:G O):TS:=λE σ H=>∃J env,SR c J H σ env/\cA (g env) (oP c J E) c.T
def Ba (X:Cx) (c:C) (st:VA) (g:G O):Prop:=PS X st (tS c g)
def HV (X:Cx) (c:C) (st:List VA) (g:G O):Prop:=kh X st (tS c g)
theorem oP.mono {c:C}{J J1:Hp}{E:Ends}(e:aT J J1):∀{o:O},oP c J E o->oP c J1 E o
 | .nx _,h=>λσ' J' H' q r=>h σ' J' H' (e.trans q) r
 | .rt _,h=>λσ' J' H' q r=>h σ' J' H' (e.trans q) r
 | .bk _,h=>λσ' J' H' q r=>h σ' J' H' (e.trans q) r
 | .ct _,h=>λσ' J' H' q r=>h σ' J' H' (e.trans q) r
theorem eW {X:Cx}{e:S4}{t t':TE}(h:PE X e t) (k:∀σ H Q,t' σ H Q->t σ H Q):PE X e t':=λRX s σ H Q I q=>h RX s σ H Q I (k σ H Q q)
theorem yM {X:Cx}{e:S4}{t t':TT}(h:PT X e t) (k:∀σ H Q,t' σ H Q->t σ H Q):PT X e t':=λRX s σ H Q I q=>h RX s σ H Q I (k σ H Q q)
theorem yK {X:Cx}{es:List S4}{t t':TA}(h:PA X es t) (k:∀σ H Q,t' σ H Q->t σ H Q):PA X es t':=λpos RX s σ H Q I q=>h pos RX s σ H Q I (k σ H Q q)
theorem iu {X:Cx}{st:VA}{t t':TS}(h:PS X st t) (k:∀D σ H,t' D σ H->t D σ H):PS X st t':=λRX s σ H D I q=>h RX s σ H D I (k D σ H q)
theorem E9 {X:Cx}{st:List VA}{t t':TS}(h:kh X st t) (k:∀D σ H,t' D σ H->t D σ H):kh X st t':=λRX s σ H D I q=>h RX s σ H D I (k D σ H q)
section
variable {X:Cx}{c:C}{e a b:S4}{ga gb:G R}{pos:Pos}
noncomputable def S.rd:S->M R
 | .d x=>.ok (.d x)
 | .own xs=>.ok (.l .own xs)
 | .bor xs=>.ok (.l .bor xs)
 | .dk ks vs=>.ok (.mo ks vs)
 | .db ks vs=>.ok (.mb ks vs)
 | .fn _=>.bad
noncomputable def af (i:Nat):G R:=λenv=>match env[i]? with
 | some (some x)=>x.rd
 | _=>.bad
theorem JX {x:Str}{i:Nat}(h:PE X (.Name x pos) (M1 i)):PD X c (.Name x pos) (af i):=eW h λσ H Q ⟨J,env,sr,w⟩=>by
 unfold af at w
 cases q:env[i]? with
 | none=>rw [q] at w;exact w.elim
 | some o=>
  cases o with
  | none=>rw [q] at w;exact w.elim
  | some x=>
   rw [q] at w
   obtain ⟨v,h1,h2⟩:=sr.at_ i x q
   refine ⟨v,h1,?_⟩
   cases x with
   | fn _=>exact w.elim
   | _=>exact w v J H (Ext.refl sr.hp.sub) h2
def gC (d:D):G R:=λ_=>.ok (.d d)
theorem uS {d:D}{v:V}(hr:∀J,Rep c.K J d v) (h:PE X e (tC v)):PD X c e (gC d):=eW h λσ H Q ⟨J,env,sr,w⟩=>w v J H (Ext.refl sr.hp.sub) (hr J)
noncomputable def BD (c:C) (r:R2) (f:R->R->M R):Prop:=∀(He He' J H:Hp) (x y:R) (u v:V) (Q:VK),HI c J H->RR c He J H x u->RR c He' J H y v->
 cA (f x y) (λz=>∀w J' H',Ext J H J' H'->RR c H J' H' z w->Q w H') c.T->r u v H Q
def g2 (f:R->R->M R) (ga gb:G R):G R:=λenv=>ga env >>= λx=>gb env >>= λy=>f x y
theorem two {P:R->R->M R}{σ:L2.St}{H:Hp}{k:V->V->Hp->Prop}{Q:VK}{J:Hp}{env:Ev}(sr:SR c J H σ env)
  (w:cA (g2 P ga gb env) (λr=>∀v J' H',Ext J H J' H'->RR c H J' H' r v->Q v H') c.T)
  (hk:∀x y u v J2 H2,SR c J2 H2 σ env->Ext J H J2 H2->RR c H J2 H2 x u->RR c H J2 H2 y v->cA (P x y) (λz=>∀w J' H',Ext J2 H2 J' H'->RR c H2 J' H' z w->Q w H') c.T->k u v H2):
  tD c ga σ H λu H1=>tD c gb σ H1 λv H2=>k u v H2:=by
 refine ⟨J,env,sr,aE (aI w) λx wx u J1 H1 e1 r1=>?_⟩
 have sr1:=sr.ext e1
 refine ⟨J1,env,sr1,aE (aI wx) λy wy v J2 H2 e2 r2=>?_⟩
 exact hk x y u v J2 H2 (sr1.ext e2) (e1.trans e2) (r1.ext e2) (RR.from e1.h r2) (aE wy λz q w J' H' e3 r3=>q w J' H' ((e1.trans e2).trans e3) (RR.from (e1.h.trans e2.h) r3))
theorem GW {t:TE}{r:R2}{f:R->R->M R}(ht:PE X e t) (heq:t=Fv r (tD c ga) (tD c gb)) (hf:BD c r f):PD X c e (g2 f ga gb):=by
 subst heq
 exact eW ht λσ H Q ⟨J,env,sr,w⟩=>two (k:=λu v H2=>r u v H2 Q) sr w λx y u v J2 H2 sr2 e2 r1 r2 q=>hf H H J2 H2 x y u v Q sr2.hp r1 r2 q
theorem oO {op:ZX}{r:R2}{f:R->R->M R}(ho:cW X (Wa op) r) (hf:BD c r f) (ha:PD X c a ga) (hb:PD X c b gb):PD X c (.BinOp a op b pos) (g2 f ga gb):=GW (ND ho ha hb) rfl hf
theorem uR {op:abE}{r:R2}{f:R->R->M R}(ho:cW X (T5 op) r) (hf:BD c r f) (ha:PD X c a ga) (hb:PD X c b gb) (hm:Uj op b=false:=by first | exact Ac _ | rfl):PD X c (.Compare a [op] [b] pos) (g2 f ga gb):=GW (JZ ho ha hb hm) rfl hf
theorem Iw {r:R2}{f:R->R->M R}(ho:pO X r) (hf:BD c r f) (ha:PD X c a ga) (hb:PD X c b gb) (hs:qO b:=by exact λ_ _=>rfl):PD X c (.Subscript a b pos) (g2 f ga gb):=GW (NC ho ha hb hs) rfl hf
theorem BD.or {r r':R2}{f f':R->R->M R}(p:R->R->Bool) (h:BD c r f) (h':BD c r' f'):BD c (λx y H Q=>r x y H Q\/r' x y H Q) (λx y=>if p x y then f x y else f' x y):=by
 intro He He' J H x y u v Q hp rx ry w
 simp only at w
 cases q:p x y with
 | true=>rw [q] at w;exact .inl (h He He' J H x y u v Q hp rx ry w)
 | false=>rw [q] at w;exact .inr (h' He He' J H x y u v Q hp rx ry w)
noncomputable def fI (C:Int->Int->Bool) (f:Int->Int->D):R->R->M R
 | .d (.int i),.d (.int j)=>if C i j then .ok (.d (f i j)) else .bad
 | _,_=>.bad
noncomputable def jS (f:Int->Int->D):R->R->M R
 | .d (.int i),.d (.int j)=>.ok (.d (f i j))
 | _,_=>.bad
theorem Cn {P:Int->Int->Prop}{Cb:Int->Int->Bool}{g:Int->Int->V}{f:Int->Int->D}(hC:∀i j,Cb i j=true->P i j) (hr:∀i j J,Rep c.K J (f i j) (g i j)):BD c (rI P g) (fI Cb f):=by
 intro He He' J H x y u v Q hp rx ry w
 unfold fI at w
 split at w
 ·cases rx;cases ry
  rename_i i j
  cases q:Cb i j with
  | true=>rw [q] at w;exact ⟨i,j,rfl,rfl,hC i j q,w _ J H (Ext.refl hp.sub) (hr i j J)⟩
  | false=>rw [q] at w;exact w.elim
 ·exact w.elim
theorem ir {g:Int->Int->V}{f:Int->Int->D}(hr:∀i j J,Rep c.K J (f i j) (g i j)):BD c (mE g) (jS f):=by
 intro He He' J H x y u v Q hp rx ry w
 unfold jS at w
 split at w
 ·cases rx;cases ry
  rename_i i j
  exact ⟨i,j,rfl,rfl,w _ J H (Ext.refl hp.sub) (hr i j J)⟩
 ·exact w.elim
def below (n:Nat) (j:Int):Bool:=Nat.blt j.natAbs n
theorem dD {n:Nat}{j:Int}:below n j=true↔-(n:Int) < j/\j < n:=by
 unfold below
 rw [Nat.blt_eq]
 omega
def CM (_ j:Int):Bool:=decide (0 < j) && below 1073741824 j
def LO (_ j:Int):Bool:=decide (0 < j)
def zS (i j:Int):Bool:=below 18446744073709551616 i || below 18446744073709551616 j
theorem JC {i j:Int}(h:zS i j=true):(-(2 ^ 64) < i/\i < 2 ^ 64)\/(-(2 ^ 64) < j/\j < 2 ^ 64):=by
 unfold zS at h
 rw [VJ] at h
 exact h.imp dD.mp dD.mp
theorem JB {i j:Int}(h:CM i j=true):0 < j/\j < 1073741824:=by
 unfold CM at h
 rw [Sf] at h
 exact ⟨of_decide_eq_true h.1,(dD.mp h.2).2⟩
def Gu (i j:Int):Bool:=decide (0<=j) && below 1000001 j && below 18446744073709551616 i
theorem JD {i j:Int}(h:Gu i j=true):0<=j/\j<=1000000/\i.natAbs < 2 ^ 64:=by
 unfold Gu at h
 rw [Sf,Sf] at h
 have h2:=dD.mp h.1.2
 have h3:=dD.mp h.2
 exact ⟨of_decide_eq_true h.1.1,by omega,by omega⟩
abbrev zC:R->R->M R:=jS λi j=>.int (i + j)
abbrev Lx:R->R->M R:=jS λi j=>.int (i - j)
abbrev Lv:R->R->M R:=fI zS λi j=>.int (i * j)
abbrev iB:R->R->M R:=fI CM λi j=>.int (i / j)
abbrev fG:R->R->M R:=fI LO λi j=>.int (i % j)
abbrev Lw:R->R->M R:=fI Gu λi j=>.int (i ^ j.toNat)
noncomputable def uu:R->R->M R
 | .d (.str i),.d (.str j)=>if i.length + j.length<=sizeLine then .ok (.d (.str (i++j))) else .bad
 | _,_=>.bad
theorem KC {K:R7}{J:Hp}{ds:List D}{vs:List V}{i:Int}{d:D}(h:aK K J ds vs) (e:lQ ds i=some d):∃v,lQ vs i=some v/\Rep K J d v:=by
 unfold lQ at e ⊢
 rw [h.length] at e
 cases q:zR vs.length i with
 | none=>rw [q] at e;cases e
 | some j=>rw [q] at e;exact h.get e
theorem rD {x:R}{f:List D->M R}{Q:R->Prop}{T:Exc->Prop}(w:cA (kP x >>= f) Q T):∃xs,kP x=.ok xs/\cA (f xs) Q T:=by
 cases q:kP x with
 | bad=>rw [q] at w;exact w.elim
 | ok xs=>rw [q] at w;exact ⟨xs,rfl,w⟩
 | exc z=>unfold kP at q;split at q <;> cases q
noncomputable def zM:R->Bool
 | .l .fresh _=>true
 | .l .own _=>true
 | _=>false
noncomputable def uv (x y:R):M R:=if zM x && zM y then kP x >>= λxs=>kP y >>= λys=>if xs.length + ys.length<=sizeLine then .ok (.l .fresh (xs++ys)) else .bad else .bad
theorem RR.made {He J H:Hp}:∀{r:R}{v:V},zM r=true->RR c He J H r v->∃a vs xs,kP r=.ok xs/\v=.ref a/\H a=some (.lst vs)/\aK c.K J xs vs
 | .l .fresh xs,v,_,⟨a,vs,h1,h2,h3,h4,h5⟩=>⟨a,vs,xs,rfl,h1,h2,h5⟩
 | .l .own xs,v,_,⟨a,vs,h1,h2,h3,h4,h5⟩=>⟨a,vs,xs,rfl,h1,h2,h5⟩
 | .l .bor _,_,e,_=>nomatch e
 | .mo _ _,_,e,_=>nomatch e
 | .mb _ _,_,e,_=>nomatch e
 | .mf _ _,_,e,_=>nomatch e
 | .d _,_,e,_=>nomatch e
theorem jk {J H:Hp}{xs:List D}{vs:List V}{p:Sm}(hp:HI c J H) (e:H p=none) (h:aK c.K J xs vs):RR c H J (upd H p (.lst vs)) (.l .fresh xs) (.ref p):=
 ⟨p,vs,rfl,bU,hp.sub.free e,e,h⟩
noncomputable def CD (c:C) (r:List V->Hp->VK->Prop) (f:List R->M R):Prop:=∀(He J H:Hp) (xs:List R) (vs:List V) (Q:VK),HI c J H->ki c He J H xs vs->
 cA (f xs) (λz=>∀w J' H',Ext J H J' H'->RR c H J' H' z w->Q w H') c.T->r vs H Q
def gN (f:List R->M R) (gs:G (List R)):G R:=λenv=>gs env >>= f
theorem GY {t:TE}{ta:TA}{r:List V->Hp->VK->Prop}{f:List R->M R}{gs:G (List R)}(ht:PE X e t) (heq:t=λσ H Q=>tA c gs σ H λvs H1=>r vs H1 Q) (hf:CD c r f):PD X c e (gN f gs):=by
 subst heq
 refine eW ht λσ H Q ⟨J,env,sr,w⟩=>⟨J,env,sr,aE (aI w) λrs w vs J1 H1 e1 r1=>?_⟩
 exact hf H J1 H1 rs vs Q (sr.hp.ext e1) r1 (aE w λz q v J' H' e2 r2=>q v J' H' (e1.trans e2) (RR.from e1.h r2))
def aG:G (List R):=λ_=>.ok []
def aq (g:G R) (gs:G (List R)):G (List R):=λenv=>g env >>= λx=>gs env >>= λxs=>.ok (x::xs)
theorem ki.from {He He' J H:Hp}(e:aT He He'):∀{xs:List R}{vs:List V},ki c He' J H xs vs->ki c He J H xs vs
 | [],_,h=>h
 | _::_,_,⟨v,us,h1,h2,h3⟩=>⟨v,us,h1,RR.from e h2,ki.from e h3⟩
theorem jG {id:String}{x:Str}{p:Pos}{es:List S4}{r:List V->Hp->VK->Prop}{f:List R->M R}{gs:G (List R)}(hc:b9 X (.builtin id) r) (hf:CD c r f) (hv:TX x=some (.builtin id)) (hm:X.mg x=none) (ha:A_ X c (e::es) gs)
  (hg:Gl X x:=by rfl) (hn:x≠"__name__":=by decide) (hdb:(x == ("__debug__":Str))=false:=by decide)
  (he:Sl (e::es) X.env=(false,eval e X.env)::Sl es X.env:=by rfl) (hpl:(UL pos (Sl es X.env)).any (·.1)=false:=by rfl):PD X c (.Call (.Name x p) (e::es) [] pos) (gN f gs):=
 GY (ta:=Dt) (tw hc hg hm hv ha hn hdb he hpl) rfl hf
theorem EX {T:String}{x:Str}{p:Pos}{es:List S4}{r:List V->Hp->VK->Prop}{f:List R->M R}{gs:G (List R)}(hc:b9 X (.type T) r) (hf:CD c r f) (hv:TX x=some (.type T)) (hm:X.mg x=none) (ha:A_ X c (e::es) gs)
  (hg:Gl X x:=by rfl) (hn:x≠"__name__":=by decide) (hdb:(x == ("__debug__":Str))=false:=by decide)
  (he:Sl (e::es) X.env=(false,eval e X.env)::Sl es X.env:=by rfl) (hpl:(UL pos (Sl es X.env)).any (·.1)=false:=by rfl):PD X c (.Call (.Name x p) (e::es) [] pos) (gN f gs):=
 GY (ta:=Dt) (mz hc hg hm hv ha hn hdb he hpl) rfl hf
end
section
variable {X:Cx}{c:C}{e a b:S4}{es:List S4}{ga gb g:G R}{pos:Pos}
def aV:G (List D):=λ_=>.ok []
def aC (g:G R) (gs:G (List D)):G (List D):=λenv=>g env >>= λx=>toD x >>= λd=>gs env >>= λds=>.ok (d::ds)
theorem iV {α:Type}{x:R}{f:D->M α}{Q:α->Prop}{T:Exc->Prop}(w:cA (toD x >>= f) Q T):∃d,toD x=.ok d/\cA (f d) Q T:=by
 cases q:toD x with
 | bad=>rw [q] at w;exact w.elim
 | ok xs=>rw [q] at w;exact ⟨xs,rfl,w⟩
 | exc z=>unfold toD at q;split at q <;> cases q
def bD (gs:G (List D)):G R:=λenv=>gs env >>= λds=>if ds.length<=sizeLine then .ok (.d (.tup ds)) else .bad
def gw (gs:G (List D)):G R:=λenv=>gs env >>= λds=>if ds.length<=sizeLine then .ok (.l .fresh ds) else .bad
theorem qz {J H:Hp}{xs:List D}{vs:List V}{p:Sm}(hp:HI c J H) (e:H p=none) (h:aK c.K J xs vs):Rep c.K (upd J p (.tup vs)) (.tup xs) (.ref p):=
 .tup (.inl (.inl bU)) (h.mono (cO (hp.sub.free e) _))
noncomputable def iM:R->M (List D)
 | .d (.tup xs)=>.ok xs
 | .d (.lst xs)=>.ok xs
 | .l _ xs=>.ok xs
 | _=>.bad
theorem nj {He J H:Hp}(hp:HI c J H):∀{r:R}{v:V}{xs:List D},RR c He J H r v->iM r=.ok xs->∃a vs,v=.ref a/\(cK c.K H a vs\/cZ c.K H a vs)/\aK c.K J xs vs
 | .d (.tup ys),v,xs,h,e=>by
  cases e
  cases h with
  | tup h hs=>exact ⟨_,_,rfl,.inr (fC hp.sub h),hs⟩
 | .d (.lst ys),v,xs,h,e=>let ⟨a,vs,h1,h2,h3⟩:=RR.list hp h e;⟨a,vs,h1,.inl h2,h3⟩
 | .l m ys,v,xs,h,e=>let ⟨a,vs,h1,h2,h3⟩:=RR.list hp h e;⟨a,vs,h1,.inl h2,h3⟩
 | .d .non,_,_,_,e=>nomatch e
 | .d (.bl _),_,_,_,e=>nomatch e
 | .d (.int _),_,_,_,e=>nomatch e
 | .d (.str _),_,_,_,e=>nomatch e
 | .d .emp,_,_,_,e=>nomatch e
 | .d (.dct _ _),_,_,_,e=>nomatch e
theorem kL {α:Type}{x:R}{f:List D->M α}{Q:α->Prop}{T:Exc->Prop}(w:cA (iM x >>= f) Q T):∃xs,iM x=.ok xs/\cA (f xs) Q T:=by
 cases q:iM x with
 | bad=>rw [q] at w;exact w.elim
 | ok xs=>rw [q] at w;exact ⟨xs,rfl,w⟩
 | exc z=>unfold iM at q;split at q <;> cases q
noncomputable def kc:List R->M R
 | [.d (.str z)]=>if z.length<=sizeLine then .ok (.d (.int z.length)) else .bad
 | [r]=>iM r >>= λxs=>.ok (.d (.int xs.length))
 | _=>.bad
theorem ki.one {He J H:Hp}{r:R}{vs:List V}(h:ki c He J H [r] vs):∃v,vs=[v]/\RR c He J H r v:=by
 obtain ⟨v,us,rfl,h1,h2⟩:=h
 cases h2
 exact ⟨v,rfl,h1⟩
theorem ki.two {He J H:Hp}{r r':R}{vs:List V}(h:ki c He J H [r,r'] vs):∃v v',vs=[v,v']/\RR c He J H r v/\RR c He J H r' v':=by
 obtain ⟨v,us,rfl,h1,v2,us2,rfl,h2,h3⟩:=h
 cases h3
 exact ⟨v,v2,rfl,h1,h2⟩
noncomputable def cS:List R->M R
 | [r]=>iM r >>= λxs=>.ok (.d (.tup xs))
 | _=>.bad
theorem AN:TX "tuple"=some (.type "tuple"):=by decide +kernel
theorem Cs:TX "list"=some (.type "list"):=by decide +kernel
noncomputable def bC (g:G R):G Bool:=λenv=>g env >>= λr=>match r with
 | .d (.bl k)=>.ok k
 | _=>.bad
theorem jX {op:abE}{r:R2}{f:R->R->M R}(ho:cW X (T5 op) r) (hf:BD c r f) (ha:PD X c a ga) (hb:PD X c b gb) (hm:Uj op b=false:=by first | exact Ac _ | rfl):PB X c (.Compare a [op] [b] pos) (bC (g2 f ga gb)):=
 yM (Kf ho ha hb hm) λσ H Q ⟨J,env,sr,w⟩=>by
  have w2:=aI w
  refine two (k:=λu v H2=>r u v H2 λz H3=>∃k,z=.bl k/\Q k H3) (Q:=λz H3=>∃k,z=.bl k/\Q k H3) sr (aE w2 λr0 wr v J1 H1 e1 r1=>?_)
   λx y u v J2 H2 sr2 e2 r1 r2 q=>hf H H J2 H2 x y u v _ sr2.hp r1 r2 q
  split at wr
  ·cases r1;exact ⟨_,rfl,wr J1 H1 e1⟩
  ·exact wr.elim
def jC (g h:G Bool):G Bool:=λenv=>g env >>= λk=>if k=true then h env else .ok false
def jv (g h:G Bool):G Bool:=λenv=>g env >>= λk=>if k=true then .ok true else h env
def gZ (g:G Bool):G Bool:=λenv=>g env >>= λk=>.ok (!k)
def Pk (X:Cx) (c:C) (e:S4) (g:G Bool):Prop:=PW X e (tB c g)
variable {t u:G Bool}{rest:List S4}
theorem IB {X:Cx}{e:S4}{t t':TT}(h:PW X e t) (k:∀σ H Q,t' σ H Q->t σ H Q):PW X e t':=λwh RX s σ H Q I q=>h wh RX s σ H Q I (k σ H Q q)
noncomputable def lY (g h:G R):G R:=λenv=>g env >>= λr=>match r with
 | .d (.bl true)=>h env
 | .d (.bl false)=>.ok (.d (.bl false))
 | _=>.bad
noncomputable def CG (g h:G R):G R:=λenv=>g env >>= λr=>match r with
 | .d (.bl false)=>h env
 | .d (.bl true)=>.ok (.d (.bl true))
 | _=>.bad
noncomputable def Ig (g:G R):G R:=λenv=>g env >>= λr=>match r with
 | .d (.bl k)=>.ok (.d (.bl (!k)))
 | _=>.bad
end
section
variable {X:Cx}{c:C}{e a b tg:S4}{es:List S4}{ga gb g:G R}{pos:Pos}{st:VA}{rest:List VA}{t u:G O}{tb:G Bool}
def dJ:G O:=λenv=>.ok (.nx env)
noncomputable def aM (t u:G O):G O:=λenv=>t env >>= λo=>match o with
 | .nx e=>u e
 | o=>.ok o
def lZ (g:G R):G O:=λenv=>g env >>= λ_=>.ok (.nx env)
noncomputable def rF:R->M R
 | .d x=>.ok (.d x)
 | .l .fresh xs=>.ok (.l .fresh xs)
 | .l .own xs=>.ok (.l .fresh xs)
 | .l .bor _=>.bad
 | .mo ks vs=>.ok (.mf ks vs)
 | .mf ks vs=>.ok (.mf ks vs)
 | .mb _ _=>.bad
def bJ (g:G R):G O:=λenv=>g env >>= λr=>rF r >>= λr=>.ok (.rt r)
theorem RR.rf {J H J1 H1:Hp}(hp:HI c J H):∀{r r':R}{v:V},RR c H J1 H1 r v->rF r=.ok r'->RF c J1 H1 r' v
 | .d x,r',v,h,e=>by cases e;exact h
 | .l .fresh xs,r',v,⟨a,vs,h1,h2,h3,h4,h5⟩,e=>by cases e;exact ⟨a,vs,h1,h2,h3,hp.ent.free h4,h5⟩
 | .l .own xs,r',v,⟨a,vs,h1,h2,h3,h4,h5⟩,e=>by cases e;exact ⟨a,vs,h1,h2,h3,h4,h5⟩
 | .l .bor _,_,_,_,e=>nomatch e
 | .mo _ _,_,v,⟨a,h1,h2,h3,h4⟩,e=>by cases e;exact ⟨a,h1,h2,h3,h4⟩
 | .mb _ _,_,_,_,e=>nomatch e
 | .mf _ _,_,v,⟨a,h1,h2,h3,h4⟩,e=>by cases e;exact ⟨a,h1,h2,h3,hp.ent.free h4⟩
def bS (b:G Bool) (t u:G O):G O:=λenv=>b env >>= λk=>if k=true then t env else u env
noncomputable def toS:R->M S
 | .d x=>.ok (.d x)
 | .l .fresh xs=>.ok (.own xs)
 | .l .bor xs=>.ok (.bor xs)
 | .l .own _=>.bad
 | .mb ks vs=>.ok (.db ks vs)
 | .mf ks vs=>.ok (.dk ks vs)
 | .mo _ _=>.bad
theorem gf {α:Type}{l:List (Option α)}{i j:Nat}{x y:α}(h:(l.set i (some x))[j]?=some (some y)):(j=i/\i < l.length/\y=x)\/(j≠i/\l[j]?=some (some y)):=by
 by_cases e:j=i
 ·subst e
  have hj:j < l.length:=by
   have:=(SV.mp h).1
   simpa using this
  rw [Uo hj] at h
  cases h
  exact .inl ⟨rfl,hj,rfl⟩
 ·rw [Ti (U_ e)] at h
  exact .inr ⟨e,h⟩
theorem SR.setD {J H:Hp}{σ:L2.St}{env:Ev}(sr:SR c J H σ env){i:Nat}{x:S}{v:V}(h:sO c J H x v) (hx:∀xs,x≠mS xs):SR c J H (σ.set i (some v)) (env.set i (some x)):=by
 refine ⟨sr.hp,by simpa using sr.len,λj y q=>?_,λj k xs ys w hjk q1 q2 q3 q4=>?_⟩
 ·rcases gf q with ⟨rfl,hl,rfl⟩ | ⟨hj,q⟩
  ·exact ⟨v,by rw [Uo (by rw [<-sr.len];exact hl)],h⟩
  ·obtain ⟨w,h1,h2⟩:=sr.at_ j y q
   exact ⟨w,by rw [Ti (U_ hj)];exact h1,h2⟩
 ·rcases gf q1 with ⟨rfl,hl,e⟩ | ⟨hj,q1⟩
  ·exact hx xs e.symm
  ·rcases gf q2 with ⟨rfl,hl,e⟩ | ⟨hk,q2⟩
   ·exact hx ys e.symm
   ·rw [Ti (U_ hj)] at q3
    rw [Ti (U_ hk)] at q4
    exact sr.sep j k xs ys w hjk q1 q2 q3 q4
theorem SR.setM {J He:Hp}{σ:L2.St}{env:Ev}(sr:SR c J He σ env){J1 H1:Hp}(e1:Ext J He J1 H1){i:Nat}{y:Mn}{p:Sm}(h3:He p=none) (h:sO c J1 H1 (mS y) (.ref p)):SR c J1 H1 (σ.set i (some (.ref p))) (env.set i (some (mS y))):=by
 have sr1:=sr.ext e1
 have old:∀(j:Nat) (ys:Mn),env[j]?=some (some (mS ys))->σ[j]?≠some (some (.ref p)):=λj ys qj z=>by
  obtain ⟨a,k1,k2,_⟩:=sr.mine qj
  rw [z] at k1
  cases k1
  exact k2 h3
 refine ⟨sr1.hp,by simpa using sr.len,λj y q=>?_,λj k ys zs w hjk q1 q2 q3 q4=>?_⟩
 ·rcases gf q with ⟨rfl,hl,rfl⟩ | ⟨hj,q⟩
  ·exact ⟨.ref p,by rw [Uo (by rw [<-sr.len];exact hl)],h⟩
  ·obtain ⟨w,k1,k2⟩:=sr1.at_ j y q
   exact ⟨w,by rw [Ti (U_ hj)];exact k1,k2⟩
 ·rcases gf q1 with ⟨rfl,hl,e⟩ | ⟨hj,q1'⟩
  ·rcases gf q2 with ⟨rfl,_,_⟩ | ⟨hk,q2⟩
   ·exact hjk rfl
   ·rw [Uo (by rw [<-sr.len];exact hl)] at q3
    cases q3
    rw [Ti (U_ hk)] at q4
    exact old k zs q2 q4
  ·rw [Ti (U_ hj)] at q3
   rcases gf q2 with ⟨rfl,hl,e⟩ | ⟨hk,q2⟩
   ·rw [Uo (by rw [<-sr.len];exact hl)] at q4
    cases q4
    exact old j ys q1' q3
   ·rw [Ti (U_ hk)] at q4
    exact sr.sep j k ys zs w hjk q1' q2 q3 q4
theorem SR.set {J He:Hp}{σ:L2.St}{env:Ev}(sr:SR c J He σ env){J1 H1:Hp}(e1:Ext J He J1 H1){i:Nat}{r:R}{x:S}{v:V}(h:RR c He J1 H1 r v) (q:toS r=.ok x):SR c J1 H1 (σ.set i (some v)) (env.set i (some x)):=by
 have sr1:=sr.ext e1
 cases r with
 | d y=>cases q;exact sr1.setD h (λx z=>by cases x <;> cases z)
 | mb _ _=>cases q;exact sr1.setD h (λx z=>by cases x <;> cases z)
 | mf ks vs=>cases q;obtain ⟨p,rfl,h1,h2,h3⟩:=h;exact sr.setM (y:=.inr (ks,vs)) e1 h3 ⟨p,rfl,h1,h2,sr.hp.ent.free h3⟩
 | mo _ _=>cases q
 | l m xs=>
  cases m with
  | own=>cases q
  | bor=>cases q;exact sr1.setD h (λx z=>by cases x <;> cases z)
  | fresh=>
   cases q
   obtain ⟨p,vs,rfl,h1,h2,h3,h4⟩:=h
   exact sr.setM (y:=.inl xs) e1 h3 ⟨p,vs,rfl,h1,h2,sr.hp.ent.free h3,h4⟩
theorem nV {α:Type}{x:R}{f:S->M α}{Q:α->Prop}{T:Exc->Prop}(w:cA (toS x >>= f) Q T):∃d,toS x=.ok d/\cA (f d) Q T:=by
 cases q:toS x with
 | bad=>rw [q] at w;exact w.elim
 | ok xs=>rw [q] at w;exact ⟨xs,rfl,w⟩
 | exc z=>unfold toS at q;split at q <;> cases q
def bg (i:Nat) (g:G R):G O:=λenv=>g env >>= λr=>toS r >>= λx=>.ok (.nx (env.set i (some x)))
abbrev GT:=D->Ev->M Ev
def KO (env:Ev) (σ:L2.St) (e:Ev) (σ':L2.St):Prop:=∀(j:Nat) (xs:Mn),e[j]?=some (some (mS xs))->env[j]?=some (some (mS xs))/\σ'[j]?=σ[j]?
theorem KO.refl {env:Ev}{σ:L2.St}:KO env σ env σ:=λ_ _ h=>⟨h,rfl⟩
theorem KO.trans {env e1 e2:Ev}{σ s1 s2:L2.St}(a:KO env σ e1 s1) (b:KO e1 s1 e2 s2):KO env σ e2 s2:=λj xs h=>by
 obtain ⟨h1,h2⟩:=b j xs h
 obtain ⟨h3,h4⟩:=a j xs h1
 exact ⟨h3,h2.trans h4⟩
def tT (c:C) (g:GT):TG:=λv σ H Q=>∃J env d,SR c J H σ env/\Rep c.K J d v/\cA (g d env) (λe=>∀σ',SR c J H σ' e->KO env σ e σ'->Q σ' H) c.T
def i7 (X:Cx) (c:C) (tg:S4) (g:GT):Prop:=PG X tg (tT c g)
abbrev tM:=List D->Ev->M Ev
def PN (c:C) (g:tM):ua:=λvs σ H Q=>∃J env ds,SR c J H σ env/\aK c.K J ds vs/\cA (g ds env) (λe=>∀σ',SR c J H σ' e->KO env σ e σ'->Q σ' H) c.T
def Ox (X:Cx) (c:C) (tgs:List S4) (g:tM):Prop:=yV X tgs (PN c g)
theorem Iz {X:Cx}{e:S4}{t t':TG}(h:PG X e t) (k:∀v σ H Q,t' v σ H Q->t v σ H Q):PG X e t':=λRX s σ H v u Q I r q=>h RX s σ H v u Q I r (k v σ H Q q)
theorem E1 {X:Cx}{e:List S4}{t t':ua}(h:yV X e t) (k:∀v σ H Q,t' v σ H Q->t v σ H Q):yV X e t':=λRX s σ H vs us Q I r q=>h RX s σ H vs us Q I r (k vs σ H Q q)
def aA (i:Nat):GT:=λd env=>.ok (env.set i (some (.d d)))
noncomputable def dz:tM:=λds env=>match ds with
 | []=>.ok env
 | _=>.bad
noncomputable def bw (t:GT) (u:tM):tM:=λds env=>match ds with
 | d::r=>t d env >>= λe=>u r e
 | []=>.bad
noncomputable def dh (n:Nat) (u:tM):GT:=λd env=>match d with
 | .tup ds=>if ds.length=n then u ds env else .bad
 | _=>.bad
def mV (t:GT) (g:G R):G O:=λenv=>g env >>= λr=>toD r >>= λd=>t d env >>= λe=>.ok (.nx e)
theorem JT {t:GT}(h:PD X c e g) (ht:i7 X c tg t)
  (hq:PS X (.Assign [tg] e pos) (HB (tD c g) (tT c t))):Ba X c (.Assign [tg] e pos) (mV t g):=iu hq λE σ H ⟨J,env,sr,w⟩=>by
 refine ⟨J,env,sr,aE (aI w) λr wr v J1 H1 e1 r1=>?_⟩
 obtain ⟨d,q,wr⟩:=iV wr
 obtain ⟨J1',e1',s1,rd⟩:=freeze e1 r1 q
 refine ⟨J1',env,d,sr.ext e1',rd,aE (aI wr) λe2 w2 σ' sr' _=>?_⟩
 exact w2 σ' J1' H1 e1'.j sr'
noncomputable def Walk (c:C) (It:It) (ds:List D) (J1:Hp) (U:Hp->Hp->Prop):Prop:=∀(i:Nat) (J H:Hp),HI c J H->U J H->
 (ds.length<=i->It.stop i H)/\∀d,ds[i]?=some d->It.go i H/\∀x H2,It.yld i H x H2->∃J2,Ext J H J2 H2/\Rep c.K J2 d x
noncomputable def tI (c:C) (g:G (List D)):TI:=λσ H Q=>∃J env,SR c J H σ env/\cA (g env) (λds=>∀It J1 H1,Ext J H J1 H1->Walk c It ds J1 (λJ' _=>aT J1 J')->Q It H1) c.T
def yW (X:Cx) (c:C) (tg R0:S4) (g:G (List D)):Prop:=PI X tg R0 (tI c g)
theorem oQ {X:Cx}{tg it:S4}{t t':TI}(h:PI X tg it t) (k:∀σ H Q,t' σ H Q->t σ H Q):PI X tg it t':=λRX s σ H Q I q=>h RX s σ H Q I (k σ H Q q)
noncomputable def fH (t:GT) (u:G O):List D->Ev->M O
 | [],env=>.ok (.nx env)
 | d::ds,env=>t d env >>= λe=>u e >>= λo=>match o with
  | .nx e=>fH t u ds e
  | .ct e=>fH t u ds e
  | .bk e=>.ok (.nx e)
  | .rt r=>.ok (.rt r)
def dO (g:G (List D)) (t:GT) (u:G O):G O:=λenv=>g env >>= λds=>fH t u ds env
noncomputable def PX (g:G R):G (List D):=λenv=>g env >>= λr=>match r with
 | .d (.tup xs)=>.ok xs
 | _=>.bad
theorem qM {J1:Hp}{a:Sm}{vs:List V}{ds:List D}(h:cK c.K J1 a vs\/cK c.K c.H0 a vs) (hs:aK c.K J1 ds vs):Walk c (HM c.K a) ds J1 (λJ' _=>aT J1 J'):=by
 intro i J H hp u
 have h':cK c.K H a vs:=h.elim (λh=>hp.sub.seq (u.seq h)) λh=>hp.ent.seq h
 refine ⟨λhl=>⟨vs,h',by rw [<-hs.length];exact hl⟩,λd hd=>?_⟩
 obtain ⟨v,h1,h2⟩:=hs.get hd
 refine ⟨⟨vs,v,h',h1⟩,λx H2 ⟨e,hy⟩=>?_⟩
 subst e
 have:=hy vs h'
 rw [h1] at this
 cases this
 exact ⟨J,Ext.refl hp.sub,h2.mono u⟩
def eZ (lo:Int) (n:Nat):List D:=(Sh n).map λ(k:Nat)=>.int (lo + (k:Int))
theorem vB {J1:Hp}{lo:Int}{n:Nat}{Ut:Hp->Hp->Prop}:Walk c (DF lo n) (eZ lo n) J1 Ut:=by
 intro i J H hp u
 refine ⟨λhl=>(show n<=i by simpa [eZ] using hl),λd hd=>?_⟩
 have hi:i < n:=by
  have:=(SV.mp hd).1
  simpa [eZ] using this
 have hd':d=.int (lo + i):=by
  unfold eZ at hd
  rw [Sv,Wx hi] at hd
  exact (Tf hd).symm
 subst hd'
 exact ⟨hi,λx H2 ⟨e,hx⟩=>by subst e hx;exact ⟨J,Ext.refl hp.sub,.int _⟩⟩
noncomputable def cg (gs:G (List R)):G (List D):=λenv=>gs env >>= λrs=>match rs with
 | [.d (.int j)]=>if below 4611686018427387904 j then .ok (eZ 0 j.toNat) else .bad
 | _=>.bad
noncomputable def Ih (gs:G (List R)):G (List D):=λenv=>gs env >>= λrs=>match rs with
 | [.d (.int i),.d (.int j)]=>if below 4611686018427387904 i && below 4611686018427387904 j then .ok (eZ i (j - i).toNat) else .bad
 | _=>.bad
noncomputable def PK (c:C) (g:G (List D)):TI:=λσ H Q=>∃J env,SR c J H σ env/\cA (g env) (λds=>∀It J1 H1,Ext J H J1 H1->Walk c It ds J1 (λJ' H'=>aT J1 J'/\aT H1 H')->Q It H1) c.T
def pU (X:Cx) (c:C) (tg R0:S4) (g:G (List D)):Prop:=PI X tg R0 (PK c g)
end
section
variable {X:Cx}{c:C}{e a b tg:S4}{es:List S4}{ga gb g:G R}{pos:Pos}
theorem SR.updM {J H:Hp}{σ:L2.St}{env:Ev}(sr:SR c J H σ env){i:Nat}{x y:Mn}{p:Sm}{o:HO}(hi:env[i]?=some (some (mS x))) (hs:σ[i]?=some (some (.ref p))) (hJ:J p=none) (h0:c.H0 p=none)
  (h:sO c J (L2.upd H p o) (mS y) (.ref p)):SR c J (L2.upd H p o) σ (env.set i (some (mS y))):=by
 refine ⟨⟨λb o q=>?_,λb o q=>?_,sr.hp.entJ,sr.hp.frz⟩,by simpa using sr.len,λj y q=>?_,λj k ys zs w hjk q1 q2 q3 q4=>?_⟩
 ·have:b≠p:=λz=>by rw [z,hJ] at q;cases q
  rw [bz this];exact sr.hp.sub b o q
 ·have:b≠p:=λz=>by rw [z,h0] at q;cases q
  rw [bz this];exact sr.hp.ent b o q
 ·rcases gf q with ⟨rfl,hl,rfl⟩ | ⟨hj,q⟩
  ·exact ⟨.ref p,hs,h⟩
  ·obtain ⟨w,k1,k2⟩:=sr.at_ j y q
   refine ⟨w,k1,?_⟩
   have hne:∀(z:Mn) p',y=mS z->w=.ref p'->p'≠p:=λz p' e ew ep=>sr.sep i j x z (.ref p) (U_ hj) hi (e▸q) hs (ep▸ew▸k1)
   cases y with
   | d x=>exact k2
   | bor zs=>exact k2
   | db _ _=>exact k2
   | fn _=>exact k2
   | dk ks zs=>
    obtain ⟨p',rfl,⟨us,ws,ep,m1,mr⟩,m2⟩:=k2
    exact ⟨p',rfl,⟨us,ws,ep,by rw [bz (hne (.inr (ks,zs)) p' rfl rfl)];exact m1,mr⟩,m2⟩
   | own zs=>
    obtain ⟨p',us,rfl,m1,m2,m3,m4⟩:=k2
    exact ⟨p',us,rfl,by rw [bz (hne (.inl zs) p' rfl rfl)];exact m1,m2,m3,m4⟩
 ·have f:∀(k:Nat) (ys:Mn),(env.set i (some (mS y)))[k]?=some (some (mS ys))->∃ys',env[k]?=some (some (mS ys')):=λk ys q=>by
   rcases gf q with ⟨rfl,_,_⟩ | ⟨_,q⟩
   ·exact ⟨x,hi⟩
   ·exact ⟨ys,q⟩
  obtain ⟨ys',r1⟩:=f j ys q1
  obtain ⟨zs',r2⟩:=f k zs q2
  exact sr.sep j k ys' zs' w hjk r1 r2 q3 q4
theorem SR.upd {J H:Hp}{σ:L2.St}{env:Ev}(sr:SR c J H σ env){i:Nat}{xs xs':List D}{p:Sm}{vs vs':List V}(hi:env[i]?=some (some (.own xs))) (hs:σ[i]?=some (some (.ref p))) (hH:H p=some (.lst vs)) (hJ:J p=none) (h0:c.H0 p=none)
  (h:aK c.K J xs' vs'):SR c J (L2.upd H p (.lst vs')) σ (env.set i (some (.own xs'))):=sr.updM (x:=.inl xs) (y:=.inl xs') hi hs hJ h0 ⟨p,vs',rfl,bU,hJ,h0,h⟩
noncomputable def oB (i:Nat) (g:G R):G O:=λenv=>match env[i]? with
 | some (some (.own xs))=>g env >>= λr=>toD r >>= λd=>if xs.length < sizeLine then .ok (.nx (env.set i (some (.own (xs++[d]))))) else .bad
 | _=>.bad
noncomputable def fO:R->S
 | .d x=>.d x
 | .l _ xs=>.bor xs
 | .mo ks vs=>.db ks vs
 | .mb ks vs=>.db ks vs
 | .mf ks vs=>.db ks vs
noncomputable def jw (K:R7) (J H:Hp):List S->List V->Prop
 | [],vs=>vs=[]
 | s::ss,vs=>∃v us,vs=v::us/\(match s with
  | .d x=>Rep K J x v
  | .bor xs=>∃a ws,v=.ref a/\cK K H a ws/\aK K J xs ws
  | .db ks ws=>∃a,v=.ref a/\dS K J H a ks ws
  | .fn x=>∃f,v=.ref f/\Th K SS x=some (some (.ref f))
  | _=>False)/\jw K J H ss us
theorem jw.length {K:R7}{J H:Hp}:∀{ss:List S}{vs:List V},jw K J H ss vs->vs.length=ss.length
 | [],_,h=>by cases h;rfl
 | _::_,_,⟨_,_,h,_,h2⟩=>by subst h;exact congrArg (· + 1) h2.length
theorem jw.get {K:R7}{J H:Hp}:∀{ss:List S}{vs:List V}{i:Nat}{s:S},jw K J H ss vs->ss[i]?=some s->∃v,vs[i]?=some v/\(match s with
  | .d x=>Rep K J x v
  | .bor xs=>∃a ws,v=.ref a/\cK K H a ws/\aK K J xs ws
  | .db ks ws=>∃a,v=.ref a/\dS K J H a ks ws
  | .fn x=>∃f,v=.ref f/\Th K SS x=some (some (.ref f))
  | _=>False)
 | [],_,_,_,_,e=>by simp at e
 | _::_,_,0,_,⟨v,us,h,h1,h2⟩,e=>by simp at e;subst e;subst h;exact ⟨v,rfl,h1⟩
 | _::_,_,i + 1,s,⟨v,us,h,h1,h2⟩,e=>by
  subst h
  obtain ⟨v,k1,k2⟩:=jw.get (i:=i) (s:=s) h2 (by simpa using e)
  exact ⟨v,by simpa using k1,k2⟩
noncomputable def FR (K:R7) (H J' H':Hp):R->V->Prop
 | .d x,v=>Rep K J' x v
 | .l _ xs,v=>∃a vs,v=.ref a/\H' a=some (.lst vs)/\J' a=none/\H a=none/\aK K J' xs vs
 | .mf ks vs,v=>∃a,v=.ref a/\dS K J' H' a ks vs/\J' a=none/\H a=none
 | _,_=>False
noncomputable def qH (K:R7) (n:Nat) (F:List S->M R):Sp:=λvs H Q _=>∃J as,aT J H/\as.length=n/\jw K J H as vs/\cA (F as) (λr=>∀v J' H',Ext J H J' H'->FR K H J' H' r v->Q v H') (λ_=>False)
noncomputable def fin:M O->M R
 | .ok (.rt r)=>.ok r
 | .ok (.nx _)=>.ok (.d .non)
 | .exc x=>.exc x
 | _=>.bad
def bq (N:List Str) (as:List S):Ev:=as.map some++T8 (N.length - as.length) none
theorem xX {N:List Str}{as:List S}{i:Nat}{x:S}(h:(bq N as)[i]?=some (some x)):as[i]?=some x:=by
 unfold bq at h
 by_cases hi:i < as.length
 ·rw [UR (by simpa using hi),Sv] at h
  cases q:as[i]? with
  | none=>rw [q] at h;cases h
  | some y=>rw [q] at h;cases h;rfl
 ·rw [Ul (by simpa using hi),WE] at h
  split at h <;> cases h
theorem HA {N:List Str}{vs:List V}{i:Nat}{v:V}(h:vs[i]?=some v):(L2.start N vs)[i]?=some (some v):=by
 unfold L2.start
 have hi:i < vs.length:=(SV.mp h).1
 rw [UR (by simpa using hi),Sv,h]
 rfl
theorem AA {K:R7}{J H:Hp}{T:Exc->Prop}{N:List Str}{as:List S}{vs:List V}(hs:aT J H) (h:jw K J H as vs):SR ⟨K,H,J,T⟩ J H (L2.start N vs) (bq N as):=by
 have own:∀(i:Nat) (xs:Mn),(bq N as)[i]?≠some (some (mS xs)):=λi xs q=>by
  obtain ⟨v,_,k⟩:=h.get (xX q)
  cases xs <;> exact k
 refine ⟨⟨hs,aT.refl H,aT.refl J,λ_ _ q=>q⟩,?_,λi x q=>?_,λi j xs ys v _ q=>absurd q (own i xs)⟩
 ·unfold bq L2.start
  rw [SI,SI,Sa,Sa,UT,UT,h.length]
 ·obtain ⟨v,k1,k2⟩:=h.get (xX q)
  refine ⟨v,HA k1,?_⟩
  cases x with
  | d y=>exact k2
  | own y=>exact k2.elim
  | bor y=>exact k2
  | dk _ _=>exact k2.elim
  | db _ _=>exact k2
  | fn _=>exact k2
abbrev Eh (P:Su) (w:S3) (K:R7) (mg:Str->Option R8) (base:TM) (N:List Str) (R1:Str) (sc:Vk) (f:Sm) (cd:R8) (A:S5) (outer:List Env) (s:R_) (H:Hp) (E:XK):Cx:=(pY o_ P w K mg base N R1 sc f cd A outer s H E).nox
theorem Ek {P:Su}{w:S3}{K:R7}{mg:Str->Option R8}{base:TM}{x R1:Str}{st:VA}{f:Sm}{fd:SO}{N ps:List Str}{k:Nat}{Fm:List S->M R}(F:pe K x R1 st f fd) (Sc:fK N ps (aY st)){gB:G O}
  (hb:∀(cdv:R8) (A:S5) (outer:List Env) (s:R_) (H:Hp) (E:XK) (J:Hp) (T:Exc->Prop),dc k (A.deeper (X0 R1 (aY st) s.heap.objs.size f cdv))->
   HV (Eh P w K mg base N R1 (aY st) f cdv A outer s H E) ⟨K,H,J,T⟩ (bV st) gB)
  (hF:∀as r,as.length=ps.length->Fm as=.ok r->fin (gB (bq N as))=.ok r):fF P w K mg base o_ (k + 1) f fd ps (qH K ps.length Fm):=by
 refine F.ok Sc (λvs H Q E h=>?_) (λcdv A outer s H vs Q E hr h=>?_)
 ·obtain ⟨J,as,h1,h2,h3,h4⟩:=h
  rw [h3.length,h2]
 ·obtain ⟨J,as,h1,h2,h3,h4⟩:=h
  refine ⟨_,hb cdv A outer s H E J (λ_=>False) hr,J,bq N as,AA h1 h3,?_⟩
  cases q:Fm as with
  | bad=>rw [q] at h4;exact h4.elim
  | exc x=>rw [q] at h4;exact h4.elim
  | ok r=>
   rw [q] at h4
   have z:=hF as r h2 q
   have ext:∀{J' H':Hp},HI ⟨K,H,J,λ_=>False⟩ J' H'->Ext J H J' H':=λhp=>⟨hp.ent,hp.entJ,hp.sub,hp.frz⟩
   cases qg:gB (bq N as) with
   | bad=>rw [qg] at z;cases z
   | exc x=>rw [qg] at z;cases z
   | ok o=>
    rw [qg] at z
    cases o with
    | bk _=>cases z
    | ct _=>cases z
    | nx env=>cases z;exact λσ' J' H' _ sr=>h4 .non J' H' (ext sr.hp) .non
    | rt r'=>
     cases z
     exact λv J' H' _ hp rf=>h4 v J' H' (ext hp) (by
      cases r with
      | d x=>exact rf
      | l m xs=>exact rf
      | mo _ _=>exact rf
      | mf _ _=>exact rf
      | mb _ _=>exact rf)
noncomputable def lW:R->R
 | .d x=>.d x
 | .l _ xs=>.l .fresh xs
 | .mo ks vs=>.mo ks vs
 | .mb ks vs=>.mb ks vs
 | .mf ks vs=>.mf ks vs
noncomputable def aQ (n:Nat) (F:List S->M R):List R->M R:=λrs=>if rs.length=n then (match F (rs.map fO) with
 | .ok r=>.ok (lW r)
 | _=>.bad) else .bad
theorem ki.args {He J H:Hp}(hp:HI c J H):∀{rs:List R}{vs:List V},ki c He J H rs vs->jw c.K J H (rs.map fO) vs
 | [],_,h=>h
 | r::rs,_,⟨v,us,h,h1,h2⟩=>by
  refine ⟨v,us,h,?_,ki.args hp h2⟩
  cases r with
  | d x=>exact h1
  | l m xs=>exact RR.list hp h1 rfl
  | mo _ _=>obtain ⟨a,h1,h2,_⟩:=h1;exact ⟨a,h1,h2⟩
  | mb _ _=>obtain ⟨a,h1,h2⟩:=h1;exact ⟨a,h1,h2.mono (aT.refl _) hp.ent⟩
  | mf _ _=>obtain ⟨a,h1,h2,_⟩:=h1;exact ⟨a,h1,h2⟩
theorem IE {n:Nat}{F:List S->M R}{J H J1 H1:Hp}{Q:VK}{as:List S}{vs:List V}{T:Exc->Prop}(hT:c.K=X.K) (e1:Ext J H J1 H1) (ar:jw c.K J1 H1 as vs) (hl:as.length=n)
  (wr:cA (match F as with
   | .ok r=>.ok (lW r)
   | _=>.bad) (λr=>∀v J' H',Ext J H J' H'->RR c H J' H' r v->Q v H') T):qH X.K n F (vs++[]) H1 Q E0:=by
 rw [hT] at ar
 refine ⟨J1,as,e1.sub,hl,by rw [US];exact ar,?_⟩
 cases q:F as with
 | bad=>rw [q] at wr;exact wr
 | exc x=>rw [q] at wr;exact wr
 | ok r=>
  rw [q] at wr
  intro v J' H' e2 fr
  refine wr v J' H' (e1.trans e2) ?_
  cases r with
  | d y=>exact (show Rep c.K J' y v from hT▸fr)
  | mo _ _=>exact fr.elim
  | mb _ _=>exact fr.elim
  | mf _ _=>obtain ⟨a,h1,h2,h3,h4⟩:=fr;exact ⟨a,h1,hT▸h2,h3,e1.h.free h4⟩
  | l m ys=>
   obtain ⟨a,us,h1,h2,h3,h4,h5⟩:=fr
   exact ⟨a,us,h1,h2,h3,e1.h.free h4,hT▸h5⟩
theorem zg {n:Nat}{F:List S->M R}{gs:G (List R)}(hT:c.K=X.K):∀σ H Q,tD c (gN (aQ n F) gs) σ H Q->II (qH X.K n F) [] E0 (tA c gs) σ H Q:=λσ H Q ⟨J,env,sr,w⟩=>by
 refine ⟨J,env,sr,aE (aI w) λrs wr vs J1 H1 e1 r1=>?_⟩
 unfold aQ at wr
 split at wr
 ·rename_i hl
  exact IE hT e1 (r1.args (sr.hp.ext e1)) (by simpa using hl) wr
 ·exact wr.elim
theorem JV {k n:Nat}{f:Sm}{fd:SO}{ps:List Str}{F:List S->M R}{x:Str}{p:Pos}{gs:G (List R)}(G:fF X.prog X.w X.K X.mg X.base o_ k f fd ps (qH X.K n F)) (hr:dc k X.A) (hm:X.mg x=some (.ref f)) (hk:T7 X.K (.ref f)=true)
  (hb:Binds X.K fd ps []) (ha:A_ X c (e::es) gs) (hT:c.K=X.K:=by rfl) (hg:Gl X x:=by rfl) (hdb:(x == ("__debug__":Str))=false:=by decide) (he:Sl (e::es) X.env=(false,eval e X.env)::Sl es X.env:=by rfl)
  (hpl:(UL pos (Sl es X.env)).any (·.1)=false:=by rfl):PD X c (.Call (.Name x p) (e::es) [] pos) (gN (aQ n F) gs):=
 eW (qX (E:=E0) G hr hg hm hk hb .nil Dc ha hdb he hpl) (zg hT)
end
noncomputable def bE (cells:List (Str×Sm)):List (Str×UQ)->List (Str×Sm)->Option (List (Str×Sm))
 | [],cs=>some cs
 | (n,k)::r,cs=>if k == .free then (match cells.lookup n with
  | some a=>bE cells r ((n,a)::cs)
  | none=>none) else bE cells r cs
theorem mQ {env:Env}:∀(names:List (Str×UQ)) (cs cl:List (Str×Sm)),bE env.cells names cs=some cl->
  (forIn names cs λ(x:Str×UQ) (r:List (Str×Sm))=>(if (x.2 == .free)=true then do let a <-cellOf env x.1;pure (Vg ((x.1,a)::r)) else pure (Vg r):Sem (ForInStep (List (Str×Sm)))))=(pure cl:Sem (List (Str×Sm)))
 | [],cs,cl,h=>by cases h;rfl
 | (n,k)::r,cs,cl,h=>by
  unfold bE at h
  rw [Y7]
  cases hk:(k == Ue) with
  | true=>
   rw [hk,if_pos rfl] at h
   cases hc:env.cells.lookup n with
   | none=>rw [hc] at h;cases h
   | some a=>
    rw [hc] at h
    have e:cellOf env n=pure a:=by unfold cellOf;rw [hc]
    simp only [hk,if_true,e]
    exact mQ r ((n,a)::cs) cl h
  | false=>
   rw [hk,if_neg (by decide)] at h
   simp only [hk]
   exact mQ r cs cl h
theorem yo {RV:Vk}{env:Env}{cl:List (Str×Sm)}(h:bE env.cells RV.names []=some cl):closureFor RV env=pure cl:=by
 have q:=mQ (env:=env) RV.names [] cl h
 unfold closureFor
 show ((forIn RV.names [] λ(x:Str×UQ) (r:List (Str×Sm))=>(if (x.2 == .free)=true then do let a <-cellOf env x.1;pure (Vg ((x.1,a)::r)) else pure (Vg r):Sem (ForInStep (List (Str×Sm))))) >>= λz=>pure z)=pure cl
 rw [q]
 rfl
theorem gE {cells:List (Str×Sm)}:∀(names:List (Str×UQ)) (cs cl:List (Str×Sm)),bE cells names cs=some cl->(∀x c,cs.lookup x=some c->cells.lookup x=some c)->
  (∀x c,cl.lookup x=some c->cells.lookup x=some c)/\(∀x,((cs.lookup x).isSome=true\/(x,Ue)∈names)->(cl.lookup x).isSome=true)
 | [],cs,cl,h,k=>by
  cases h
  exact ⟨k,λx hx=>hx.elim id λz=>by cases z⟩
 | (n,kd)::r,cs,cl,h,k=>by
  unfold bE at h
  cases hk:(kd == Ue) with
  | true=>
   rw [hk,if_pos rfl] at h
   cases hc:cells.lookup n with
   | none=>rw [hc] at h;cases h
   | some a=>
    rw [hc] at h
    obtain ⟨h1,h2⟩:=gE r ((n,a)::cs) cl h (λx c q=>by
     rw [Uv] at q
     cases e:x == n with
     | true=>
      rw [e] at q
      cases q
      have:x=n:=by simpa using e
      rw [this];exact hc
     | false=>rw [e] at q;exact k x c q)
    refine ⟨h1,λx hx=>h2 x ?_⟩
    by_cases e:x=n
    ·left;subst e;rw [Uv];simp
    ·have e':(x == n)=false:=by simpa using e
     rcases hx with hx | hx
     ·left;rw [Uv,e'];exact hx
     ·right
      rcases Sn.mp hx with z | z
      ·cases z;exact absurd rfl e
      ·exact z
  | false=>
   rw [hk,if_neg (by decide)] at h
   obtain ⟨h1,h2⟩:=gE r cs cl h k
   refine ⟨h1,λx hx=>h2 x ?_⟩
   rcases hx with hx | hx
   ·exact .inl hx
   ·rcases Sn.mp hx with z | z
    ·cases z;simp at hk
    ·exact .inr z
section
variable {X:Cx}
def cN (X:Cx) (own:List Str) (cap:List Nat):List Str:=own++cap.map λ(j:Nat)=>(X.N[j]?).getD ("":Str)
noncomputable def Lo (X:Cx) (own:List Str) (cap:List Nat) (RV:Vk) (cl:List (Str×Sm)) (C:Sm) (s:R_) (H:Hp) (fp:List Sm):Cx where
 prog:=X.prog
 w:=X.w
 K:=X.K
 mg:=X.mg
 base:=X.base
 A:=X.A
 N:=cN X own cap
 s₀:=s
 H₀:=H
 env:=compEnvC RV cl C X.env
 outer:=X.stack
 stack:=X.stack
 ex:=fp
 fn:=λ_=>false
 calm:=X.calm
 pn:=[]
 xe:=λ_ _=>False
noncomputable def dQ (X:Cx) (cap:List Nat):Bool:=cap.all λj=>match X.N[j]? with
 | some x=>(match X.env.scope.names.lookup x with
  | some .cell=>true
  | some .free=>true
  | _=>false)
 | none=>false
theorem Aq {RV:Vk}{env:Env}(hc:∀y∈RV.names,y.2≠.cell):∀{x:Str},((relabel RV env).names.lookup x=some .cell\/(relabel RV env).names.lookup x=some .free)->(x,Ue)∈RV.names:=by
 unfold relabel
 have main:∀(names:List (Str×UQ)),(∀y∈names,y.2≠.cell)->∀x,((names.map λ(n,k)=>if (k == Ue && env.scope.kind == .function && env.kindOf n == some .cell) then (n,WJ) else (n,k)).lookup x=some .cell\/
   (names.map λ(n,k)=>if (k == Ue && env.scope.kind == .function && env.kindOf n == some .cell) then (n,WJ) else (n,k)).lookup x=some .free)->(x,Ue)∈names:=by
  intro names
  induction names with
  | nil=>intro _ x h;simp at h
  | cons p r ih=>
   obtain ⟨n,k⟩:=p
   intro hc x h
   rw [Sw] at h
   simp only at h
   by_cases hx:x=n
   ·subst hx
    have hk:k≠.cell:=hc (x,k) Se
    have:k=.free:=by
     by_cases q:(k == Ue && env.scope.kind == .function && env.kindOf x == some .cell)=true
     ·rw [Sf,Sf] at q
      simpa using q.1.1
     ·rw [if_neg q,Uv] at h
      simp at h
      rcases h with h | h
      ·exact absurd h hk
      ·exact h
    subst this
    exact Se
   ·have hx':(x == n)=false:=by simpa using hx
    refine Sd _ (ih (λy hy=>hc y (Sd _ hy)) x ?_)
    have red:∀(q:Str×UQ) (l:List (Str×UQ)),q.1=n->acZ x (q::l)=acZ x l:=λq l hq=>by
     obtain ⟨q1,q2⟩:=q
     simp only at hq
     subst hq
     rw [Uv,hx']
    have hq:(if (k == Ue && env.scope.kind == .function && env.kindOf n == some .cell) then (n,WJ) else (n,k)).1=n:=by split <;> rfl
    rw [red _ _ hq] at h
    exact h
 intro x h
 exact main RV.names hc x h
end
section
variable {X:Cx}{c:C}
noncomputable def gu (X:Cx) (c:C) (ifs:List S4) (g:G Bool):Prop:=
 ∀(RX:List (Sm×Obj)) (s:R_) (σ:L2.St) (H:Hp) (Q:Bool->Hp->Prop),Inv X RX σ H s->tB c g σ H Q->
  Sx (SE X.prog X.w) X.A (forIn ifs true λc r=>if r=true then do let ok <-ZA c X.env (eval c X.env);pure (Vg ok) else pure (Vg r)) (TP X RX σ Q) X.xe s
def cI:G Bool:=λ_=>.ok true
noncomputable def cX (gt:GT) (gts:G Bool) (ge:G R):List D->Ev->M (List D)
 | [],_=>.ok []
 | d::ds,env=>gt d env >>= λe=>gts e >>= λk=>if k=true then ge e >>= λr=>toD r >>= λy=>cX gt gts ge ds e >>= λys=>.ok (y::ys) else cX gt gts ge ds e
def cE (n:Nat) (cap:List Nat) (env:Ev):Ev:=T8 n none++cap.map λ(j:Nat)=>(env[j]?).getD none
noncomputable def bK (n:Nat) (cap:List Nat) (gi:G (List D)) (gt:GT) (gts:G Bool) (ge:G R):G R:=λenv=>gi env >>= λds=>if ds.length<=sizeLine then cX gt gts ge ds (cE n cap env) >>= λys=>.ok (.l .fresh ys) else .bad
theorem kq {α:Type}{n:Nat}{cap:List Nat}{env:List (Option α)}{i:Nat}{x:α}(h:(T8 n none++cap.map λ(j:Nat)=>(env[j]?).getD none)[i]?=some (some x)):∃j,n<=i/\cap[i - n]?=some j/\env[j]?=some (some x):=by
 by_cases hi:i < n
 ·rw [UR (by simpa using hi),WE] at h
  split at h <;> cases h
 ·rw [Ul (by simpa using hi),UT,Sv] at h
  cases q:cap[i - n]? with
  | none=>rw [q] at h;cases h
  | some j=>
   rw [q] at h
   refine ⟨j,by omega,rfl,?_⟩
   have h':(env[j]?).getD none=some x:=Tf h
   cases z:env[j]? with
   | none=>rw [z] at h';cases h'
   | some o=>rw [z] at h';exact congrArg some h'
theorem Nj {α:Type}{n:Nat}{cap:List Nat}{env:List (Option α)}{i j:Nat}{x:α}(h1:n<=i) (h2:cap[i - n]?=some j) (h3:env[j]?=some (some x)):(T8 n none++cap.map λ(j:Nat)=>(env[j]?).getD none)[i]?=some (some x):=by
 rw [Ul (by simpa using h1),UT,Sv,h2]
 simp [h3]
theorem SR.cap {J H:Hp}{σ:L2.St}{env:Ev}(sr:SR c J H σ env) (n:Nat) (cap:List Nat) (hnd:cap.Nodup):SR c J H (T8 n none++cap.map λ(j:Nat)=>(σ[j]?).getD none) (cE n cap env):=by
 refine ⟨sr.hp,by simp [cE],λi x q=>?_,λi j xs ys v hij q1 q2 q3 q4=>?_⟩
 ·obtain ⟨j,h1,h2,h3⟩:=kq q
  obtain ⟨v,k1,k2⟩:=sr.at_ j x h3
  exact ⟨v,Nj h1 h2 k1,k2⟩
 ·obtain ⟨a,h1,h2,h3⟩:=kq q1
  obtain ⟨b,h4,h5,h6⟩:=kq q2
  obtain ⟨a',h7,h8,h9⟩:=kq q3
  obtain ⟨b',RS,h11,h12⟩:=kq q4
  rw [h2] at h8;cases h8
  rw [h5] at h11;cases h11
  have hab:a≠b:=λz=>by
   subst z
   have e1:=(SV.mp h2)
   have e2:=(SV.mp h5)
   have:=(Xj hnd).mp (e1.2.trans e2.2.symm)
   omega
  exact sr.sep a b xs ys v hab h3 h6 h9 h12
theorem SR.other {J H:Hp}{σ:L2.St}{env:Ev}(sr:SR c J H σ env){p:Sm}{o:HO}(hJ:J p=none) (h0:c.H0 p=none) (hn:∀(j:Nat) (xs:Mn),env[j]?=some (some (mS xs))->σ[j]?≠some (some (.ref p))):SR c J (L2.upd H p o) σ env:=by
 refine ⟨⟨λb u q=>?_,λb u q=>?_,sr.hp.entJ,sr.hp.frz⟩,sr.len,λj y q=>?_,sr.sep⟩
 ·have:b≠p:=λz=>by rw [z,hJ] at q;cases q
  rw [bz this];exact sr.hp.sub b u q
 ·have:b≠p:=λz=>by rw [z,h0] at q;cases q
  rw [bz this];exact sr.hp.ent b u q
 ·obtain ⟨w,k1,k2⟩:=sr.at_ j y q
  refine ⟨w,k1,?_⟩
  cases y with
  | d x=>exact k2
  | bor zs=>exact k2
  | db _ _=>exact k2
  | fn _=>exact k2
  | dk ks zs=>
   obtain ⟨p',rfl,⟨us,ws,ep,m1,mr⟩,m2⟩:=k2
   have hne:p'≠p:=λz=>hn j (.inr (ks,zs)) q (z▸k1)
   exact ⟨p',rfl,⟨us,ws,ep,by rw [bz hne];exact m1,mr⟩,m2⟩
  | own zs=>
   obtain ⟨p',us,rfl,m1,m2,m3,m4⟩:=k2
   have hne:p'≠p:=λz=>hn j (.inl zs) q (z▸k1)
   exact ⟨p',us,rfl,by rw [bz hne];exact m1,m2,m3,m4⟩
theorem Ext.other {J H J' H':Hp}(e:Ext J H J' H'){p:Sm}{o:HO}(h:H p=none) (hJ:J' p=none):Ext J H J' (L2.upd H' p o):=
 ⟨λb u q=>by rw [bz (eu q h)];exact e.h b u q,e.j,λb u q=>by
  have:b≠p:=λz=>by rw [z,hJ] at q;cases q
  rw [bz this];exact e.sub b u q,e.frz⟩
theorem A2 {P:Su}{w:S3}{H:Hp}{h h':TM}{a:Sm}(x:fR P w H h) (hn:H a=none) (sb:Tu a h h'):fR P w H h':=λb u e=>by
 refine (x b u e).stay (λd v hd q=>(sb.2 d ?_).trans q) (λ_ q=>q) λ_ _ q=>q
 rintro rfl
 rcases hd with rfl | hd
 ·rw [hn] at e;cases e
 ·rw [hn] at hd;cases hd
theorem Pd {RX:List (Sm×Obj)}{σ:L2.St}{H:Hp}{s:R_}{own:List Str}{cap:List Nat}{RV:Vk}{cl:List (Str×Sm)}{fp:List Sm}{h1:TM}{m:Str->Option R8}{tk:Nat}(I:Inv X RX σ H s) (ok:(Lo X own cap RV cl s.heap.objs.size s H fp).Ok)
  (hcl:bE X.env.cells RV.names []=some cl) (hcell:∀y∈RV.names,y.2≠.cell) (hcap:dQ X cap=true) (P9:∀j∈cap,∀x,X.N[j]?=some x->(relabel RV X.env).names.lookup x≠some .local)
  (hns:h1.Ns s.heap.objs.size m) (old:∀b o,s.heap.get? b=some o->h1.get? b=some o):
  Inv (Lo X own cap RV cl s.heap.objs.size s H fp) [] (T8 own.length none++cap.map λ(j:Nat)=>(σ[j]?).getD none) H {s with heap:=h1,toks:=tk}:=by
 obtain ⟨m1,m2⟩:=gE RV.names [] cl hcl (λx c h=>by simp at h)
 refine ⟨ok,rfl,I.bare,Un.kept old,⟨m,hns,λi x v q1 q2 q3=>?_⟩,λx d h=>?_,I.hok.fresh (Sj _),λx d h=>I.freeC x d (m1 x d h),λp hp=>absurd (show p∈([]:List (Sm×Obj)) from hp) (by simp),I.hok.kept old,?_⟩
 ·obtain ⟨j,h2,h3,h4⟩:=kq q2
  have q1':(own++cap.map λ(j:Nat)=>(X.N[j]?).getD ("":Str))[i]?=some x:=q1
  rw [Ul (by exact h2),Sv,h3] at q1'
  have hj:j∈cap:=Ub h3
  have hc:(match X.N[j]? with
   | some x=>(match X.env.scope.names.lookup x with
    | some .cell=>true
    | some .free=>true
    | _=>false)
   | none=>false)=true:=by
   unfold dQ at hcap
   exact SW.mp hcap j hj
  cases hx:X.N[j]? with
  | none=>rw [hx] at hc;cases hc
  | some y=>
   rw [aba,hx] at q1'
   rw [hx] at hc
   have e:y=x:=by simpa using q1'
   subst e
   have kd:X.env.kindOf y=some .cell\/X.env.kindOf y=some .free:=by
    unfold adn
    simp only at hc
    split at hc
    ·rename_i z;exact .inl z
    ·rename_i z;exact .inr z
    ·cases hc
   obtain ⟨mX,nX,lX⟩:=I.loc
   obtain ⟨u,ru,lu⟩:=lX j y v hx h4 (kd.elim (λz=>.inr (.inl z)) λz=>.inr (.inr z))
   refine ⟨u,ru,.inr ?_⟩
   have kd':(relabel RV X.env).names.lookup y=some .cell\/(relabel RV X.env).names.lookup y=some .free:=by
    rcases q3 with z | z | z
    ·exact absurd z (P9 j hj y hx)
    ·exact .inl z
    ·exact .inr z
   refine ⟨kd',?_⟩
   obtain ⟨d,hd⟩:=Ug.mp (m2 y (.inr (Aq hcell kd')))
   refine ⟨d,hd,?_⟩
   rcases lu with ⟨z,_⟩ | ⟨_,d',hd',z⟩
   ·rcases kd with k | k <;> (rw [k] at z;cases z)
   ·have:=m1 y d hd
    rw [hd'] at this
    cases this
    obtain ⟨o,ho,hod⟩:=z
    exact ⟨o,old _ _ ho,hod⟩
 ·obtain ⟨v,o,ho,hod⟩:=I.cell x d (m1 x d h)
  exact ⟨v,o,old _ _ ho,hod⟩
 ·show _=(own++cap.map λ(j:Nat)=>(X.N[j]?).getD ("":Str)).length
  simp
noncomputable def dW (X:Cx) (cap:List Nat) (RV:Vk):Bool:=cap.all λj=>match X.N[j]? with
 | some x=>!((relabel RV X.env).names.lookup x == some .local)
 | none=>true
noncomputable def fM:List Nat->Bool
 | []=>true
 | x::r=>!(r.contains x) && fM r
theorem BG:∀{l:List Nat},fM l=true->l.Nodup
 | [],_=>Vd
 | x::r,h=>by
  unfold fM at h
  rw [Sf] at h
  refine Uq.mpr ⟨λz=>?_,BG h.2⟩
  have:=h.1
  simp [z] at this
theorem Lh {X:Cx}{RX:List (Sm×Obj)}{σ:L2.St}{H:Hp}{s:R_}(I:L2.Inv X RX σ H s){T:Sm}(h:s.heap.objs.size<=T):(T∈X.ex\/X.s₀.heap.objs.size<=T)/\T≠X.env.locals/\(∀x c,X.env.cells.lookup x=some c->c≠T)/\∀p∈X.pn++RX,p.1≠T:=by
 have ne:∀b,b < s.heap.objs.size->b≠T:=λb hb z=>absurd (SG (z▸hb) h) (Us _)
 refine ⟨.inr (S7 I.sz h),(ne _ I.lt).symm,λx c hc=>?_,λp hp=>ne _ (Sz (I.pin p hp).1)⟩
 obtain ⟨v,o,hv,_⟩:=I.cell x c hc
 exact ne _ (Sz hv)
theorem qp {X:Cx}{RX:List (Sm×Obj)}{σ:L2.St}{H:Hp}{s:R_}{C:Sm}{h':TM}{o0:Obj}(I:L2.Inv X RX σ H s) (ap:(C∈X.ex\/X.s₀.heap.objs.size<=C)/\C≠X.env.locals/\(∀x c,X.env.cells.lookup x=some c->c≠C)/\∀p∈X.pn++RX,p.1≠C) (hf:H C=none) (sb:Tu C s.heap h'):L2.Inv X RX σ H {s with heap:=h'}:=by
 refine I.call' (ch:=[C]) rfl ⟨λb o hb hn _ hx=>?_,λb o hb hn _ hx=>⟨o.slots,?_⟩,λ_ _ _ n _=>n,λb o hb hx=>⟨o,?_⟩,λ_ _ q=>q,λ_ _ _ q=>q,λ_ ps q=>⟨#[],by rw [q];simp⟩⟩ (λa o ha=>?_) I.bare (λb hb=>by rw [Ss.mp hb];exact ap)
 ·exact (sb.2 b λz=>hx (by simp [z])).trans hb
 ·exact (sb.2 b λz=>hx (by simp [z])).trans hb
 ·exact (sb.2 b λz=>hx (by simp [z])).trans hb
 ·refine (I.hok a o ha).stay (λb u hb q=>(sb.2 b λz=>?_).trans q) (λ_ q=>q) λ_ _ q=>q
  rcases hb with rfl | hb
  ·rw [z,hf] at ha;cases ha
  ·rw [z,hf] at hb;cases hb
end
mutual
noncomputable def bu:D->D->Bool
 | .non,.non=>true
 | .bl p,.bl q=>p == q
 | .bl p,.int q=>(if p then 1 else 0) == q
 | .int p,.bl q=>p == (if q then 1 else 0)
 | .int p,.int q=>p == q
 | .str p,.str q=>p == q
 | .tup p,.tup q=>cB p q
 | .lst p,.lst q=>cB p q
 | .emp,.emp=>true
 | .exn _ _ _,.exn _ _ _=>true
 | .dct _ _,.dct _ _=>true
 | _,_=>false
noncomputable def cB:List D->List D->Bool
 | [],[]=>true
 | x::xs,y::ys=>bu x y && cB xs ys
 | _,_=>false
end
mutual
theorem gF:∀d:D,bu d d=true
 | .non=>by simp [bu]
 | .bl _=>by simp [bu]
 | .int _=>by simp [bu]
 | .str _=>by simp [bu]
 | .tup xs=>by simp only [bu];exact pZ xs
 | .lst xs=>by simp only [bu];exact pZ xs
 | .emp=>by simp [bu]
 | .exn _ _ _=>by simp [bu]
 | .dct _ _=>by simp [bu]
theorem pZ:∀ds:List D,cB ds ds=true
 | []=>by simp [cB]
 | x::xs=>by simp only [cB,gF x,pZ xs,ach]
end
theorem oq:∀{xs ys:List D},xs.length≠ys.length->cB xs ys=false
 | [],[],h=>absurd rfl h
 | [],_::_,_=>by simp [cB]
 | _::_,[],_=>by simp [cB]
 | x::xs,y::ys,h=>by
  simp only [cB,oq (xs:=xs) (ys:=ys) (λz=>h (congrArg (· + 1) z)),Vx]
noncomputable def oM (xs ys:List D) (j:Nat):Bool:=match xs[j]?,ys[j]? with
 | some x,some y=>bu x y
 | _,_=>false
theorem ow:∀{xs ys:List D},xs.length=ys.length->(Sh xs.length).all (oM xs ys)=cB xs ys
 | [],[],_=>by simp [cB]
 | x::xs,y::ys,h=>by
  have ih:=ow (xs:=xs) (ys:=ys) (by simpa using h)
  rw [T6,WY,Vq,Y8]
  simp only [cB]
  rw [<-ih]
  rfl
theorem zy (xs ys:List D):((Sh (min xs.length ys.length)).all (oM xs ys) && xs.length == ys.length)=cB xs ys:=by
 by_cases h:xs.length=ys.length
 ·rw [<-h,Nat.min_self,ow h];simp
 ·rw [oq h,beq_eq_false_iff_ne.mpr h,Vx]
section
structure HF (K:R7) (J:Hp) (s:R_):Prop where
 t:∀a xs,cZ K J a xs->∃RY:List R8,Vals xs RY/\s.heap.IsTuple a RY.toArray
 l:∀a xs,cK K J a xs->∃RY:List R8,Vals xs RY/\s.heap.IsList a RY.toArray
 e:∀a,J a=some (.dK [])->∃o,s.heap.get? a=some o/\o.cls=.type "dict"
 d:∀a ep R4,J a=some (kR a ep R4)->∃o es,s.heap.get? a=some o/\o.ExactDict/\o.data=.dict es ep/\Yc yT R4 es.toList
variable {K:R7}{J:Hp}{s:R_}
theorem HF.of {X:Cx}{c:C}{RX:List (Sm×Obj)}{σ:L2.St}{H:Hp}(I:Inv X RX σ H s) (hs:aT J H):HF X.K J s:=
 ⟨λa xs h=>let ⟨RY,r,p,_⟩:=I.tuple (fC hs h);⟨RY,r,p⟩,λa xs h=>let ⟨RY,r,p,_⟩:=I.list (hs.seq h);⟨RY,r,p.isList⟩,λa h=>by
  obtain ⟨_,_,vs,_,p⟩:=(show cP X.prog X.w H s.heap a (.dK []) from I.hok a _ (hs _ _ h))
  obtain ⟨o,es,ep,h1,h2,_⟩:=p
  exact ⟨o,h1,h2.1⟩,λa ep R4 h=>(show cP X.prog X.w H s.heap a (kR a ep R4) from I.hok a _ (hs _ _ h)).1⟩
theorem EC {a:Sm}{xs ys:List R8}(h:s.heap.IsTuple a xs.toArray) (h':s.heap.IsTuple a ys.toArray):xs=ys:=by
 obtain ⟨o,ho,_,n,hd⟩:=h
 obtain ⟨o',ho',_,n',hd'⟩:=h'
 rw [ho] at ho';cases ho'
 rw [hd] at hd'
 injection hd' with h1 _
 simpa using congrArg YY h1
theorem CJ {a:Sm}{xs ys:List R8}(h:s.heap.IsList a xs.toArray) (h':s.heap.IsList a ys.toArray):xs=ys:=by
 obtain ⟨o,ho,_,n,hd⟩:=h
 obtain ⟨o',ho',_,n',hd'⟩:=h'
 rw [ho] at ho';cases ho'
 rw [hd] at hd'
 injection hd' with h1 _
 simpa using congrArg YY h1
mutual
theorem Rep.inj (F:HF K J s):∀{d e:D}{v:V},Rep K J d v->Rep K J e v->dep d<=1000->dep e<=1000->d=e
 | _,_,_,.emp _,_,h,_=>by unfold dep at h;omega
 | _,_,_,.exn _ _ _ _ _,_,h,_=>by unfold dep at h;omega
 | _,_,_,.dct _ _ _ _ _,_,h,_=>by unfold dep at h;omega
 | _,_,_,.non,.non,_,_=>rfl
 | _,_,_,.bl _,.bl _,_,_=>rfl
 | _,_,_,.int _,.int _,_,_=>rfl
 | _,_,_,.str _,.str _,_,_=>rfl
 | _,_,_,.tup _ _,.emp _,_,h=>by unfold dep at h;omega
 | _,_,_,.lst _ _,.emp _,_,h=>by unfold dep at h;omega
 | _,_,_,.tup _ _,.exn _ _ _ _ _,_,h=>by unfold dep at h;omega
 | _,_,_,.tup _ _,.dct _ _ _ _ _,_,h=>by unfold dep at h;omega
 | _,_,_,.lst _ _,.exn _ _ _ _ _,_,h=>by unfold dep at h;omega
 | _,_,_,.lst _ _,.dct _ _ _ _ _,_,h=>by unfold dep at h;omega
 | _,_,_,.tup h hs,.tup h' hs',k,k'=>by
  obtain ⟨RY,r,p⟩:=F.t _ _ h
  obtain ⟨its',r',p'⟩:=F.t _ _ h'
  have:=EC p p'
  subst this
  have:=r.inj r'
  subst this
  rw [aK.inj F hs hs' (by unfold dep at k;omega) (by unfold dep at k';omega)]
 | _,_,_,.lst h hs,.lst h' hs',k,k'=>by
  obtain ⟨RY,r,p⟩:=F.l _ _ h
  obtain ⟨its',r',p'⟩:=F.l _ _ h'
  have:=CJ p p'
  subst this
  have:=r.inj r'
  subst this
  rw [aK.inj F hs hs' (by unfold dep at k;omega) (by unfold dep at k';omega)]
 | _,_,_,.tup h _,.lst h' _,_,_=>by
  obtain ⟨RY,r,p⟩:=F.t _ _ h
  obtain ⟨its',r',p'⟩:=F.l _ _ h'
  exact absurd rfl (YQ p' p)
 | _,_,_,.lst h _,.tup h' _,_,_=>by
  obtain ⟨RY,r,p⟩:=F.l _ _ h
  obtain ⟨its',r',p'⟩:=F.t _ _ h'
  exact absurd rfl (YQ p p')
theorem aK.inj (F:HF K J s):∀{ds es:List D}{vs:List V},aK K J ds vs->aK K J es vs->deps ds<=1000->deps es<=1000->ds=es
 | _,_,_,.nil,.nil,_,_=>rfl
 | _,_,_,.cons h hs,.cons h' hs',k,k'=>by rw [Rep.inj F h h' (by unfold deps at k;omega) (by unfold deps at k';omega),aK.inj F hs hs' (by unfold deps at k;omega) (by unfold deps at k';omega)]
end
theorem jl {A:S5}{a:Sm}{RY:Array R8}{v:V}{u:R8}(h:s.heap.IsTuple a RY) (r:RelV v u) (f:uB v=true) (hu:A.units < Uu):UZ A s (.ref a) u false/\UZ A s u (.ref a) false:=by
 cases v with
 | non=>cases r;exact ⟨.tuple_none h hu,.none_tuple h hu⟩
 | bl b=>cases r;exact ⟨.tuple_bool b h hu,.bool_tuple b h hu⟩
 | int i=>obtain ⟨t,rfl⟩:=r;exact ⟨.tuple_int i t h hu,.int_tuple i t h hu⟩
 | str x=>obtain ⟨t,rfl⟩:=r;exact ⟨.tuple_str x t h hu,.str_tuple x t h hu⟩
 | _=>exact absurd (show false=true from f) SX
theorem jW {A:S5}{a:Sm}{RY:Array R8}{v:V}{u:R8}(h:s.heap.IsList a RY) (r:RelV v u) (f:uB v=true) (hu:A.units < Uu):UZ A s (.ref a) u false/\UZ A s u (.ref a) false:=by
 cases v with
 | non=>cases r;exact ⟨.list_none h hu,.none_list h hu⟩
 | bl b=>cases r;exact ⟨.list_bool b h hu,.bool_list b h hu⟩
 | int i=>obtain ⟨t,rfl⟩:=r;exact ⟨.list_int i t h hu,.int_list i t h hu⟩
 | str x=>obtain ⟨t,rfl⟩:=r;exact ⟨.list_str x t h hu,.str_list x t h hu⟩
 | _=>exact absurd (show false=true from f) SX
noncomputable def qh:D->Bool
 | .tup _=>false
 | .lst _=>false
 | .emp=>false
 | .exn _ _ _=>false
 | .dct _ _=>false
 | _=>true
theorem Rep.flat {d:D}{v:V}(h:Rep K J d v) (f:qh d=true):uB v=true:=by
 cases h <;> first | rfl | cases f
theorem Gb {d e:D}{v w:V}(h:Rep K J d v) (h':Rep K J e w) (f:qh d=true) (f':qh e=true):Lu v w=bu d e:=by
 cases h <;> cases h' <;> first | rfl | cases f | cases f' | simp [Lu,bu]
theorem in1_units (A:S5):A.in1.units=A.units + 1:=rfl
theorem uA (F:HF K J s){d e:D}{v w:V}{u u':R8}(A:S5) (hd:Rep K J d v) (he:Rep K J e w) (rv:RelV v u) (rw':RelV w u') (f:qh d=true) (hu:A.units < Uu) (hu':dep e<=1000):UZ A s u u' (bu d e):=by
 cases q:qh e with
 | true=>rw [<-Gb hd he f q];exact Ls rv rw' (hd.flat f) (he.flat q)
 | false=>
  cases he with
  | tup h' hs'=>
   cases rw'
   obtain ⟨its',r',p'⟩:=F.t _ _ h'
   have:=(jl p' rv (hd.flat f) hu).2
   cases hd <;> first | exact this | cases f
  | lst h' hs'=>
   cases rw'
   obtain ⟨its',r',p'⟩:=F.l _ _ h'
   have:=(jW p' rv (hd.flat f) hu).2
   cases hd <;> first | exact this | cases f
  | emp _=>unfold dep at hu';omega
  | exn _ _ _ _ _=>unfold dep at hu';omega
  | dct _ _ _ _ _=>unfold dep at hu';omega
  | _=>cases q
mutual
theorem nq (F:HF K J s):∀{d e:D}{v w:V}{u u':R8}(A:S5),Rep K J d v->Rep K J e w->RelV v u->RelV w u'->A.units + dep d < Uu->dep d<=1000->dep e<=1000->UZ A s u u' (bu d e)
 | .tup ds,e,_,w,u,u',A,.tup h hs,he,rv,rw',hu,hd1,hu'=>by
  cases rv
  obtain ⟨RY,r,p⟩:=F.t _ _ h
  have P1:A.units < Uu:=by unfold dep at hu;omega
  cases he with
  | tup h' hs'=>
   cases rw'
   obtain ⟨its',r',p'⟩:=F.t _ _ h'
   rename_i a vs b ws es
   by_cases q:a=b
   ·subst q
    have:=Rep.inj F (.tup h hs) (.tup h' hs') hd1 hu'
    rw [<-this,gF]
    exact Y4 _
   ·have l1:RY.length=ds.length:=by rw [<-r.length,hs.length]
    have l2:its'.length=es.length:=by rw [<-r'.length,hs'.length]
    simp only [bu]
    rw [<-zy,<-l1,<-l2]
    refine Z8 q ?_
    have:=aax (e:=oM ds es) p p' P1 λj j1 j2=>by
     have k1:j < ds.length:=by rw [<-l1];simpa using j1
     have k2:j < es.length:=by rw [<-l2];simpa using j2
     have:=nu F A.in1 hs hs' r r' (by rw [in1_units];unfold dep at hu;omega) (by unfold dep at hd1;omega) (by unfold dep at hu';omega) j k1 k2
     have m1:j < RY.length:=by simpa using j1
     have m2:j < its'.length:=by simpa using j2
     simpa [m1,m2] using this
    simpa using this
  | lst h' hs'=>
   cases rw'
   obtain ⟨its',r',p'⟩:=F.l _ _ h'
   exact acz p p' P1
  | non=>exact (jl p rw' rfl P1).1
  | bl _=>exact (jl p rw' rfl P1).1
  | int _=>exact (jl p rw' rfl P1).1
  | str _=>exact (jl p rw' rfl P1).1
  | emp _=>unfold dep at hu';omega
  | exn _ _ _ _ _=>unfold dep at hu';omega
  | dct _ _ _ _ _=>unfold dep at hu';omega
 | .lst ds,e,_,w,u,u',A,.lst h hs,he,rv,rw',hu,hd1,hu'=>by
  cases rv
  obtain ⟨RY,r,p⟩:=F.l _ _ h
  have P1:A.units < Uu:=by unfold dep at hu;omega
  cases he with
  | lst h' hs'=>
   cases rw'
   obtain ⟨its',r',p'⟩:=F.l _ _ h'
   rename_i a vs b ws es
   by_cases q:a=b
   ·subst q
    have:=Rep.inj F (.lst h hs) (.lst h' hs') hd1 hu'
    rw [<-this,gF]
    exact Y4 _
   ·have l1:RY.length=ds.length:=by rw [<-r.length,hs.length]
    have l2:its'.length=es.length:=by rw [<-r'.length,hs'.length]
    simp only [bu]
    refine Z8 q ?_
    by_cases z:ds.length=es.length
    ·rw [<-ow z,<-l1]
     have:=aaT (e:=oM ds es) p p' (by simp;omega) P1 λj j1 j2=>by
      have k1:j < ds.length:=by rw [<-l1];simpa using j1
      have k2:j < es.length:=by rw [<-l2];simpa using j2
      have:=nu F A.in1 hs hs' r r' (by rw [in1_units];unfold dep at hu;omega) (by unfold dep at hd1;omega) (by unfold dep at hu';omega) j k1 k2
      have m1:j < RY.length:=by simpa using j1
      have m2:j < its'.length:=by simpa using j2
      simpa [m1,m2] using this
     simpa using this
    ·rw [oq z]
     exact ab3 p p' (by simp;omega) P1
  | tup h' hs'=>
   cases rw'
   obtain ⟨its',r',p'⟩:=F.t _ _ h'
   exact acA p p' P1
  | non=>exact (jW p rw' rfl P1).1
  | bl _=>exact (jW p rw' rfl P1).1
  | int _=>exact (jW p rw' rfl P1).1
  | str _=>exact (jW p rw' rfl P1).1
  | emp _=>unfold dep at hu';omega
  | exn _ _ _ _ _=>unfold dep at hu';omega
  | dct _ _ _ _ _=>unfold dep at hu';omega
 | .non,e,v,w,u,u',A,hd,he,rv,rw',hu,_,hu'=>uA F A hd he rv rw' rfl (by omega) hu'
 | .bl _,e,v,w,u,u',A,hd,he,rv,rw',hu,_,hu'=>uA F A hd he rv rw' rfl (by omega) hu'
 | .int _,e,v,w,u,u',A,hd,he,rv,rw',hu,_,hu'=>uA F A hd he rv rw' rfl (by omega) hu'
 | .emp,e,v,w,u,u',A,hd,he,rv,rw',hu,hd1,hu'=>by unfold dep at hd1;omega
 | .exn _ _ _,e,v,w,u,u',A,hd,he,rv,rw',hu,hd1,hu'=>by unfold dep at hd1;omega
 | .dct _ _,e,v,w,u,u',A,hd,he,rv,rw',hu,hd1,hu'=>by unfold dep at hd1;omega
 | .str _,e,v,w,u,u',A,hd,he,rv,rw',hu,_,hu'=>uA F A hd he rv rw' rfl (by omega) hu'
theorem nu (F:HF K J s):∀{ds es:List D}{vs ws:List V}{us us':List R8}(A:S5),aK K J ds vs->aK K J es ws->Vals vs us->Vals ws us'->A.units + deps ds < Uu->deps ds<=1000->deps es<=1000->
  ∀(j:Nat) (h1:j < ds.length) (h2:j < es.length),UZ A s (us.getD j .none) (us'.getD j .none) (oM ds es j)
 | _,_,_,_,_,_,A,.cons h hs,.cons h' hs',.cons r rs,.cons r' rs',hu,k1,k2,0,_,_=>nq F A h h' r r' (by unfold deps at hu;omega) (by unfold deps at k1;omega) (by unfold deps at k2;omega)
 | _,_,_,_,_,_,A,.cons h hs,.cons h' hs',.cons r rs,.cons r' rs',hu,k1,k2,j + 1,h1,h2=>nu F A hs hs' rs rs' (by unfold deps at hu;omega) (by unfold deps at k1;omega) (by unfold deps at k2;omega) j (by simpa using h1) (by simpa using h2)
end
end
section
variable {K:R7}{J:Hp}{s:R_}
theorem Fd (F:HF K J s){d e:D}{v w:V}{u u':R8}(A:S5) (hd:Rep K J d v) (he:Rep K J e w) (rv:RelV v u) (rw':RelV w u') (hu:A.units + dep d < Uu) (hd1:dep d<=1000) (hu':dep e<=1000):SeqAt.RcAt A s u u' (bu d e)/\SeqAt.RcNeAt A s u u' (!bu d e):=by
 have P1:A.units < Uu:=by omega
 cases hd with
 | non=>
  cases rv
  cases he with
  | non=>cases rw';exact ⟨.none_none,.none_none⟩
  | bl b=>cases rw';exact ⟨.none_bool b,.none_bool b⟩
  | int i=>obtain ⟨t,rfl⟩:=rw';exact ⟨.none_int i t,.none_int i t⟩
  | str x=>obtain ⟨t,rfl⟩:=rw';exact ⟨.none_str x t,.none_str x t⟩
  | tup h hs=>cases rw';obtain ⟨RY,r,p⟩:=F.t _ _ h;exact ⟨.none_tuple p P1,.none_tuple p P1⟩
  | lst h hs=>cases rw';obtain ⟨RY,r,p⟩:=F.l _ _ h;exact ⟨.none_list p P1,.none_list p P1⟩
  | emp _=>unfold dep at hu';omega
  | exn _ _ _ _ _=>unfold dep at hu';omega
  | dct _ _ _ _ _=>unfold dep at hu';omega
 | bl a=>
  cases rv
  cases he with
  | non=>cases rw';exact ⟨.bool_none a,.bool_none a⟩
  | bl b=>cases rw';exact ⟨.bool_bool a b,.bool_bool a b⟩
  | int i=>obtain ⟨t,rfl⟩:=rw';exact ⟨.bool_int a i t,.bool_int a i t⟩
  | str x=>obtain ⟨t,rfl⟩:=rw';exact ⟨.bool_str a x t,.bool_str a x t⟩
  | tup h hs=>cases rw';obtain ⟨RY,r,p⟩:=F.t _ _ h;exact ⟨.bool_tuple a p P1,.bool_tuple a p P1⟩
  | lst h hs=>cases rw';obtain ⟨RY,r,p⟩:=F.l _ _ h;exact ⟨.bool_list a p P1,.bool_list a p P1⟩
  | emp _=>unfold dep at hu';omega
  | exn _ _ _ _ _=>unfold dep at hu';omega
  | dct _ _ _ _ _=>unfold dep at hu';omega
 | int a=>
  obtain ⟨t0,rfl⟩:=rv
  cases he with
  | non=>cases rw';exact ⟨.int_none a t0,.int_none a t0⟩
  | bl b=>cases rw';exact ⟨.int_bool a t0 b,.int_bool a t0 b⟩
  | int i=>obtain ⟨t,rfl⟩:=rw';exact ⟨.int_int a t0 i t,.int_int a t0 i t⟩
  | str x=>obtain ⟨t,rfl⟩:=rw';exact ⟨.int_str a t0 x t,.int_str a t0 x t⟩
  | tup h hs=>cases rw';obtain ⟨RY,r,p⟩:=F.t _ _ h;exact ⟨.int_tuple a t0 p P1,.int_tuple a t0 p P1⟩
  | lst h hs=>cases rw';obtain ⟨RY,r,p⟩:=F.l _ _ h;exact ⟨.int_list a t0 p P1,.int_list a t0 p P1⟩
  | emp _=>unfold dep at hu';omega
  | exn _ _ _ _ _=>unfold dep at hu';omega
  | dct _ _ _ _ _=>unfold dep at hu';omega
 | str a=>
  obtain ⟨t0,rfl⟩:=rv
  cases he with
  | non=>cases rw';exact ⟨.str_none a t0,.str_none a t0⟩
  | bl b=>cases rw';exact ⟨.str_bool a t0 b,.str_bool a t0 b⟩
  | int i=>obtain ⟨t,rfl⟩:=rw';exact ⟨.str_int a t0 i t,.str_int a t0 i t⟩
  | str x=>obtain ⟨t,rfl⟩:=rw';exact ⟨.str_str a t0 x t,.str_str a t0 x t⟩
  | tup h hs=>cases rw';obtain ⟨RY,r,p⟩:=F.t _ _ h;exact ⟨.str_tuple a t0 p P1,.str_tuple a t0 p P1⟩
  | lst h hs=>cases rw';obtain ⟨RY,r,p⟩:=F.l _ _ h;exact ⟨.str_list a t0 p P1,.str_list a t0 p P1⟩
  | emp _=>unfold dep at hu';omega
  | exn _ _ _ _ _=>unfold dep at hu';omega
  | dct _ _ _ _ _=>unfold dep at hu';omega
 | tup h hs=>
  cases rv
  obtain ⟨RY,r,p⟩:=F.t _ _ h
  cases he with
  | non=>cases rw';exact ⟨.tuple_none p P1,.tuple_none p P1⟩
  | bl b=>cases rw';exact ⟨.tuple_bool b p P1,.tuple_bool b p P1⟩
  | int i=>obtain ⟨t,rfl⟩:=rw';exact ⟨.tuple_int i t p P1,.tuple_int i t p P1⟩
  | str x=>obtain ⟨t,rfl⟩:=rw';exact ⟨.tuple_str x t p P1,.tuple_str x t p P1⟩
  | lst h' hs'=>cases rw';obtain ⟨its',r',p'⟩:=F.l _ _ h';exact ⟨.tuple_list p p' P1,.tuple_list p p' P1⟩
  | emp _=>unfold dep at hu';omega
  | exn _ _ _ _ _=>unfold dep at hu';omega
  | dct _ _ _ _ _=>unfold dep at hu';omega
  | tup h' hs'=>
   cases rw'
   obtain ⟨its',r',p'⟩:=F.t _ _ h'
   rename_i a vs ds b ws es
   have l1:RY.length=ds.length:=by rw [<-r.length,hs.length]
   have l2:its'.length=es.length:=by rw [<-r'.length,hs'.length]
   have it:∀(j:Nat) (j1:j < RY.toArray.size) (j2:j < its'.toArray.size),UZ A.in1 s RY.toArray[j] its'.toArray[j] (oM ds es j):=λj j1 j2=>by
    have k1:j < ds.length:=by rw [<-l1];simpa using j1
    have k2:j < es.length:=by rw [<-l2];simpa using j2
    have:=nu F A.in1 hs hs' r r' (by rw [in1_units];unfold dep at hu;omega) (by unfold dep at hd1;omega) (by unfold dep at hu';omega) j k1 k2
    have m1:j < RY.length:=by simpa using j1
    have m2:j < its'.length:=by simpa using j2
    simpa [m1,m2] using this
   simp only [bu]
   rw [<-zy,<-l1,<-l2]
   have q1:=aax p p' P1 it
   have q2:=ac0 p p' P1 it
   exact ⟨by simpa using q1,by simpa using q2⟩
 | emp _=>unfold dep at hd1;omega
 | exn _ _ _ _ _=>unfold dep at hd1;omega
 | dct _ _ _ _ _=>unfold dep at hd1;omega
 | lst h hs=>
  cases rv
  obtain ⟨RY,r,p⟩:=F.l _ _ h
  cases he with
  | non=>cases rw';exact ⟨.list_none p P1,.list_none p P1⟩
  | bl b=>cases rw';exact ⟨.list_bool b p P1,.list_bool b p P1⟩
  | int i=>obtain ⟨t,rfl⟩:=rw';exact ⟨.list_int i t p P1,.list_int i t p P1⟩
  | str x=>obtain ⟨t,rfl⟩:=rw';exact ⟨.list_str x t p P1,.list_str x t p P1⟩
  | tup h' hs'=>cases rw';obtain ⟨its',r',p'⟩:=F.t _ _ h';exact ⟨.list_tuple p p' P1,.list_tuple p p' P1⟩
  | emp _=>unfold dep at hu';omega
  | exn _ _ _ _ _=>unfold dep at hu';omega
  | dct _ _ _ _ _=>unfold dep at hu';omega
  | lst h' hs'=>
   cases rw'
   obtain ⟨its',r',p'⟩:=F.l _ _ h'
   rename_i a vs ds b ws es
   have l1:RY.length=ds.length:=by rw [<-r.length,hs.length]
   have l2:its'.length=es.length:=by rw [<-r'.length,hs'.length]
   have it:∀(j:Nat) (j1:j < RY.toArray.size) (j2:j < its'.toArray.size),UZ A.in1 s RY.toArray[j] its'.toArray[j] (oM ds es j):=λj j1 j2=>by
    have k1:j < ds.length:=by rw [<-l1];simpa using j1
    have k2:j < es.length:=by rw [<-l2];simpa using j2
    have:=nu F A.in1 hs hs' r r' (by rw [in1_units];unfold dep at hu;omega) (by unfold dep at hd1;omega) (by unfold dep at hu';omega) j k1 k2
    have m1:j < RY.length:=by simpa using j1
    have m2:j < its'.length:=by simpa using j2
    simpa [m1,m2] using this
   simp only [bu]
   by_cases z:ds.length=es.length
   ·rw [<-ow z,<-l1]
    have q1:=aaT p p' (by simp;omega) P1 it
    have q2:=ade p p' (by simp;omega) P1 it
    exact ⟨by simpa using q1,by simpa using q2⟩
   ·rw [oq z]
    exact ⟨.lists_lengths p p' (by simp;omega) P1,.lists_lengths p p' (by simp;omega) P1⟩
end
section
variable {X:Cx}{c:C}{e a b tg:S4}{es:List S4}{ga gb g:G R}{pos:Pos}
theorem RR.rep {He J H:Hp}(hp:HI c J H):∀{r:R}{v:V}{d:D},RR c He J H r v->(∀xs,r=.l .fresh xs\/r=.l .own xs\/r=.l .bor xs->d=.lst xs)->(∀x,r=.d x->d=x)->(∀ks vs,r≠.mo ks vs/\r≠.mb ks vs/\r≠.mf ks vs)->Rep c.K H d v
 | .mo _ _,_,_,_,_,_,n=>((n _ _).1 rfl).elim
 | .mb _ _,_,_,_,_,_,n=>((n _ _).2.1 rfl).elim
 | .mf _ _,_,_,_,_,_,n=>((n _ _).2.2 rfl).elim
 | .d x,v,d,h,_,k,_=>by rw [k x rfl];exact Rep.mono hp.sub h
 | .l m xs,v,d,h,k,_,_=>by
  have e:d=.lst xs:=k xs (by cases m;exact .inl rfl;exact .inr (.inl rfl);exact .inr (.inr rfl))
  obtain ⟨a,vs,rfl,h1,h2⟩:=RR.list hp h rfl
  rw [e]
  exact .lst h1 (h2.mono hp.sub)
noncomputable def R.dat:R->D
 | .d x=>x
 | .l _ xs=>.lst xs
 | .mo ks vs=>.dct ks vs
 | .mb ks vs=>.dct ks vs
 | .mf ks vs=>.dct ks vs
theorem RR.dat {He J H:Hp}(hp:HI c J H){r:R}{v:V}(h:RR c He J H r v):Rep c.K H r.dat v:=by
 by_cases hm:∃ks vs,r=.mo ks vs
 ·obtain ⟨ks,vs,rfl⟩:=hm;obtain ⟨a,rfl,h,_⟩:=h;exact h.rep hp.sub
 by_cases hb:∃ks vs,r=.mb ks vs
 ·obtain ⟨ks,vs,rfl⟩:=hb;obtain ⟨a,rfl,h⟩:=h;exact (h.mono (aT.refl _) hp.ent).rep hp.sub
 by_cases hf:∃ks vs,r=.mf ks vs
 ·obtain ⟨ks,vs,rfl⟩:=hf;obtain ⟨a,rfl,h,_⟩:=h;exact h.rep hp.sub
 refine h.rep hp (λxs q=>?_) (λx q=>by rw [q];rfl) λks vs=>⟨λz=>hm ⟨_,_,z⟩,λz=>hb ⟨_,_,z⟩,λz=>hf ⟨_,_,z⟩⟩
 rcases q with q | q | q <;> (rw [q];rfl)
def Hf (K:R7) (neg:Bool):R2:=λx y H Q=>∃d e,Rep K H d x/\Rep K H e y/\dep d<=60/\dep e<=60/\Q (.bl (if neg then !bu d e else bu d e)) H
theorem fL {RX:List (Sm×Obj)}{σ:L2.St}{H:Hp}{s:R_}(I:Inv X RX σ H s):HF X.K H s:=HF.of (c:=⟨X.K,H,H,λ_=>True⟩) I (aT.refl H)
theorem EO (hu:X.A.units + 64 < Uu):cW X (T5 .Eq) (Hf X.K false):=by
 intro RX s σ H x y v u Q I rx ry h
 obtain ⟨d,e,h1,h2,h3,h4,q⟩:=h
 exact (Fd (fL I) X.A h1 h2 rx ry (by omega) (by omega) (by omega)).1 X.prog X.w X.xe _ ⟨.bl _,H,I,rfl,q⟩
theorem Mb (hu:X.A.units + 64 < Uu):cW X (T5 .NotEq) (Hf X.K true):=by
 intro RX s σ H x y v u Q I rx ry h
 obtain ⟨d,e,h1,h2,h3,h4,q⟩:=h
 exact (Fd (fL I) X.A h1 h2 rx ry (by omega) (by omega) (by omega)).2 X.prog X.w X.xe _ ⟨.bl _,H,I,rfl,q⟩
def cL (neg:Bool) (x y:R):M R:=if dep x.dat<=60/\dep y.dat<=60 then .ok (.d (.bl (if neg then !bu x.dat y.dat else bu x.dat y.dat))) else .bad
theorem Co (neg:Bool) (hK:X.K=c.K):BD c (Hf X.K neg) (cL neg):=by
 intro He He' J H x y u v Q hp rx ry w
 unfold cL at w
 split at w
 ·rename_i hd
  exact ⟨x.dat,y.dat,by rw [hK];exact rx.dat hp,by rw [hK];exact ry.dat hp,hd.1,hd.2,w _ J H (Ext.refl hp.sub) (.bl _)⟩
 ·exact w.elim
def inD (d:D) (xs:List D):Bool:=xs.any λx=>bu x d
noncomputable def Hg (K:R7) (neg:Bool):R2:=λx y H Q=>∃d p vs ds,Rep K H d x/\dep d<=60/\y=.ref p/\(cK K H p vs\/cZ K H p vs)/\aK K H ds vs/\deps ds<=60/\Q (.bl (if neg then !inD d ds else inD d ds)) H
theorem xH {K:R7}{H:Hp}{y:R8}:∀{ds:List D}{vs:List V}{us:List R8},aK K H ds vs->Vals vs us->deps ds<=60->y∈us->∃d' v',Rep K H d' v'/\RelV v' y/\dep d'<=60
 | _,_,_,.nil,.nil,_,hy=>nomatch hy
 | _,_,_,.cons r hs,.cons q rs,hd,hy=>by
  unfold deps at hd
  rcases Sn.mp hy with rfl | hy
  ·exact ⟨_,_,r,q,by omega⟩
  ·exact xH hs rs (by omega) hy
open Classical in
noncomputable def Ck (K:R7) (H:Hp) (d:D) (y:R8):Bool:=decide (∃d' v',Rep K H d' v'/\RelV v' y/\dep d'<=1000/\bu d' d=true)
theorem Bh {K:R7}{H:Hp}{s:R_}(F:HF K H s){d d':D}{v':V}{y:R8}(r':Rep K H d' v') (q':RelV v' y) (hd:dep d'<=1000):Ck K H d y=bu d' d:=by
 classical
 unfold Ck
 cases z:bu d' d with
 | true=>exact decide_eq_true ⟨d',v',r',q',hd,z⟩
 | false=>
  refine decide_eq_false ?_
  rintro ⟨d2,v2,r2,q2,hd2,z2⟩
  have:v2=v':=q2.inj q'
  subst this
  rw [Rep.inj F r2 r' hd2 hd] at z2
  rw [z] at z2
  cases z2
theorem yZ {K:R7}{H:Hp}{s:R_}(F:HF K H s){d:D}:∀{ds:List D}{vs:List V}{us:List R8},aK K H ds vs->Vals vs us->deps ds<=1000->us.any (Ck K H d)=inD d ds
 | _,_,_,.nil,.nil,_=>rfl
 | _,_,_,.cons r hs,.cons q rs,hd=>by
  unfold deps at hd
  unfold inD
  rw [WK,WK,yZ F hs rs (by omega),Bh F r q (by omega)]
  rfl
theorem uc {A:S5}{s:R_}{K:R7}{H:Hp}(F:HF K H s){d:D}{x:V}{u:R8}(h:Rep K H d x) (rx:RelV x u) (Qe:dep d<=60) (hA:A.units + 60 < Uu){ds:List D}{vs:List V}{us:List R8}(hs:aK K H ds vs) (rs:Vals vs us) (hd:deps ds<=60):
  ∃e:R8->Bool,(∀y∈us,UZ A s y u (e y))/\us.any e=inD d ds:=by
 refine ⟨Ck K H d,λy hy=>?_,yZ F hs rs (by omega)⟩
 obtain ⟨d',v',r',q',hd'⟩:=xH hs rs hd hy
 rw [Bh F r' q' (by omega)]
 exact nq F A r' h q' rx (by omega) (by omega) (by omega)
theorem ER (hu:X.A.units + 64 < Uu):cW X (T5 .In) (Hg X.K false):=by
 intro RX s σ H x y v u Q I rx ry h
 obtain ⟨d,p,vs,ds,h1,Qe,rfl,h2,h3,h4,q⟩:=h
 cases ry
 have F:=fL I
 rcases h2 with h2 | h2
 ·obtain ⟨RY,r,pl⟩:=F.l _ _ h2
  obtain ⟨e,he,hany⟩:=uc (A:=X.A.in1) F h1 rx Qe (by rw [in1_units];omega) h3 r h4
  exact SeqAt.in_listAt e pl (λz hz=>he z (by simpa using hz)) ⟨.bl _,H,I,rfl,by rw [show RY.toArray.any e=RY.any e by simp,hany];exact q⟩
 ·obtain ⟨RY,r,pl⟩:=F.t _ _ h2
  obtain ⟨e,he,hany⟩:=uc (A:=X.A.in1) F h1 rx Qe (by rw [in1_units];omega) h3 r h4
  exact SeqAt.in_tupleAt e pl (λz hz=>he z (by simpa using hz)) ⟨.bl _,H,I,rfl,by rw [show RY.toArray.any e=RY.any e by simp,hany];exact q⟩
theorem ET (hu:X.A.units + 64 < Uu):cW X (T5 .NotIn) (Hg X.K true):=by
 intro RX s σ H x y v u Q I rx ry h
 obtain ⟨d,p,vs,ds,h1,Qe,rfl,h2,h3,h4,q⟩:=h
 cases ry
 have F:=fL I
 rcases h2 with h2 | h2
 ·obtain ⟨RY,r,pl⟩:=F.l _ _ h2
  obtain ⟨e,he,hany⟩:=uc (A:=X.A.in1) F h1 rx Qe (by rw [in1_units];omega) h3 r h4
  exact SeqAt.notIn_listAt e pl (λz hz=>he z (by simpa using hz)) ⟨.bl _,H,I,rfl,by rw [show RY.toArray.any e=RY.any e by simp,hany];exact q⟩
 ·obtain ⟨RY,r,pl⟩:=F.t _ _ h2
  obtain ⟨e,he,hany⟩:=uc (A:=X.A.in1) F h1 rx Qe (by rw [in1_units];omega) h3 r h4
  exact SeqAt.notIn_tupleAt e pl (λz hz=>he z (by simpa using hz)) ⟨.bl _,H,I,rfl,by rw [show RY.toArray.any e=RY.any e by simp,hany];exact q⟩
noncomputable def ie (neg:Bool) (x y:R):M R:=iM y >>= λys=>if deps ys<=60/\dep x.dat<=60 then .ok (.d (.bl (if neg then !inD x.dat ys else inD x.dat ys))) else .bad
theorem Cp (neg:Bool) (hK:X.K=c.K):BD c (Hg X.K neg) (ie neg):=by
 intro He He' J H x y u v Q hp rx ry w
 obtain ⟨ys,q,w⟩:=kL w
 obtain ⟨p,vs,rfl,h1,h2⟩:=nj hp ry q
 split at w
 ·rename_i hd
  exact ⟨x.dat,p,vs,ys,by rw [hK];exact rx.dat hp,hd.2,rfl,by rw [hK];exact h1,by rw [hK];exact h2.mono hp.sub,hd.1,w _ J H (Ext.refl hp.sub) (.bl _)⟩
 ·exact w.elim
abbrev GO:=G (Option Int)
def tO (c:C) (g:GO):TO:=λσ H Q=>∃J env,SR c J H σ env/\cA (g env) (λo=>∀J' H',Ext J H J' H'->Q o H') c.T
def K_ (X:Cx) (c:C) (e:Option S4) (g:GO):Prop:=PO X e (tO c g)
theorem IA {X:Cx}{e:Option S4}{t t':TO}(h:PO X e t) (k:∀σ H Q,t' σ H Q->t σ H Q):PO X e t':=λRX s σ H Q I q=>h RX s σ H Q I (k σ H Q q)
def Er:GO:=λ_=>.ok none
noncomputable def Es (g:G R):GO:=λenv=>g env >>= λr=>match r with
 | .d (.int i)=>.ok (some i)
 | _=>.bad
def cutD (xs:List D) (lo hi:Option Int):List D:=(xs.drop (HT.bM xs.length 0 lo)).take (HT.bM xs.length xs.length hi - HT.bM xs.length 0 lo)
theorem aK.cut {K:R7}{J:Hp}{xs:List D}{vs:List V}(h:aK K J xs vs) (lo hi:Option Int):aK K J (cutD xs lo hi) (mU vs lo hi):=by
 unfold cutD mU
 rw [h.length]
 exact (h.drop _).take _
def Bt (f:R->Option Int->Option Int->M R) (g:G R) (lo hi:GO):G R:=λenv=>g env >>= λx=>lo env >>= λl=>hi env >>= λu=>f x l u
theorem Nz {r:V->Option Int->Option Int->Hp->VK->Prop}{f:R->Option Int->Option Int->M R}{lo hi:Option S4}{gl gh:GO}{p2:Pos}(hr:t_ X r) (hf:∀(He J H:Hp) (x:R) (v:V) (l u:Option Int) (Q:VK),HI c J H->RR c He J H x v->
   cA (f x l u) (λz=>∀w J' H',Ext J H J' H'->RR c H J' H' z w->Q w H') c.T->r v l u H Q) (h:PD X c e g) (hl:K_ X c lo gl) (hh:K_ X c hi gh):PD X c (.Subscript e (.Slice lo hi none p2) pos) (Bt f g gl gh):=
 eW (G2 hr h hl hh) λσ H Q ⟨J,env,sr,w⟩=>by
  refine ⟨J,env,sr,aE (aI w) λx wx v J1 H1 e1 r1=>?_⟩
  refine ⟨J1,env,sr.ext e1,aE (aI wx) λl wl J2 H2 e2=>?_⟩
  refine ⟨J2,env,(sr.ext e1).ext e2,aE (aI wl) λu wu J3 H3 e3=>?_⟩
  have ee:=(e1.trans e2).trans e3
  exact hf H J3 H3 x v l u Q (sr.hp.ext ee) ((r1.ext e2).ext e3) (aE wu λz q w J' H' e4 r4=>q w J' H' (ee.trans e4) (RR.from ee.h r4))
def OE (x:R) (l u:Option Int):M R:=kP x >>= λxs=>.ok (.l .fresh (cutD xs l u))
theorem Ds {ss:List Str}:∀{us:List R8},Vals (ss.map V.str) us->StrsAre us ss:=by
 induction ss with
 | nil=>intro us h;cases h;exact .nil
 | cons x r ih=>
  intro us h
  cases h with
  | cons q rs=>
   obtain ⟨t,rfl⟩:=q
   exact .cons x t (ih rs)
theorem x_:∀{us:List R8}{ss:List Str},StrsAre us ss->Vals (ss.map V.str) us
 | _,_,.nil=>.nil
 | _,_,.cons y t h=>.cons ⟨t,rfl⟩ (x_ h)
def jV (x y:Str):Bool:=decide (x.cps.toList<=y.cps.toList)
def rA (ss:List Str):List Str:=ss.mergeSort jV
theorem xu (x y z:Str) (h1:jV x y=true) (h2:jV y z=true):jV x z=true:=by
 unfold jV at *
 exact decide_eq_true (List.le_trans (of_decide_eq_true h1) (of_decide_eq_true h2))
theorem EI (x y:Str):(jV x y || jV y x)=true:=by
 unfold jV
 rw [VJ]
 rcases List.le_total x.cps.toList y.cps.toList with h | h
 ·exact .inl (decide_eq_true h)
 ·exact .inr (decide_eq_true h)
theorem Gz {x y:Str}(h1:jV x y=true) (h2:jV y x=true):x=y:=by
 unfold jV at *
 have:=aaU (of_decide_eq_true h1) (of_decide_eq_true h2)
 obtain ⟨⟨cx⟩⟩:=x
 obtain ⟨⟨cy⟩⟩:=y
 simp only at this
 rw [this]
theorem Ay (ss:List Str):(rA ss).Pairwise λx y=>jV x y=true:=List.pairwise_mergeSort xu EI ss
theorem Dr (ss:List Str):(rA ss).Perm ss:=List.mergeSort_perm ss jV
theorem u6:∀(x:Str) (r:List Str),risingS x r=true->(x::r).Pairwise λx y=>jV x y=true
 | x,[],_=>by simp
 | x,y::r,h=>by
  unfold risingS at h
  rw [Sf] at h
  have hy:=u6 y r h.2
  have hxy:jV x y=true:=by
   have h1:=h.1
   rw [ltCps_eq] at h1
   unfold jV
   refine decide_eq_true ?_
   have:¬y.cps.toList < x.cps.toList:=by simpa using h1
   exact this
  refine U3.mpr ⟨λz hz=>?_,hy⟩
  rcases Sn.mp hz with rfl | hz
  ·exact hxy
  ·exact xu x y z hxy ((U3.mp hy).1 z hz)
theorem Dq {ss ss':List Str}(hp:ss'.Perm ss) (hs:sortedS ss'=true):ss'=rA ss:=by
 have pw:ss'.Pairwise λx y=>jV x y=true:=by
  cases ss' with
  | nil=>exact VI
  | cons x r=>exact u6 x r hs
 exact (hp.trans (Dr ss).symm).eq_of_pairwise (λx y _ _ h1 h2=>Gz h1 h2) pw (Ay ss)
theorem zk:b9 X (.builtin "sorted") (λxs H Q=>∃p ss,xs=[.ref p]/\cK X.K H p (ss.map V.str)/\ss.length < 64/\∀ss',ss'.Perm ss->sortedS ss'=true->∀l,H l=none->Q (.ref l) (upd H l (.lst (ss'.map V.str)))):=by
 intro RX s σ H xs us Q I r h
 obtain ⟨p,ss,rfl,hq,hl,q⟩:=h
 obtain ⟨u,rfl,rx⟩:=vals1 r
 cases rx
 obtain ⟨RY,r',pl,hz⟩:=I.list hq
 have hlen:=r'.length
 refine sorted_strs pl.isList (Ds r') (by rw [<-hlen,Sa];exact hl) λout ss' a1 a2 a3=>?_
 obtain ⟨n,hn⟩:=sortedAll_at s.heap RY out
 have kp:∀b o,s.heap.get? b=some o->(sortedAll s.heap RY out).get? b=some o:=λb o e=>sortedAll_old e
 have fr:H (s.heap.objs.size + 1)=none:=I.hok.fresh (Vw _)
 have ll:(ss'.map V.str).length=(ss.map V.str).length:=by rw [Sa,Sa,a2.length_eq]
 refine ⟨.ref (s.heap.objs.size + 1),_,I.laid (t':=s.toks) kp (Vw _) (show cP X.prog X.w _ _ _ (.lst (ss'.map V.str)) from ⟨by rw [ll];exact hz,out.toList,n,x_ a1,by simpa [V5] using hn⟩),rfl,q ss' a2 a3 _ fr⟩
noncomputable def strsOf:List D->Option (List Str)
 | []=>some []
 | .str x::r=>(strsOf r).map (x::·)
 | _::_=>none
theorem vn {K:R7}{J:Hp}:∀{ds:List D}{vs:List V}{ss:List Str},strsOf ds=some ss->aK K J ds vs->vs=ss.map V.str
 | [],_,_,h,.nil=>by cases h;rfl
 | .str x::r,_,ss,h,.cons q rs=>by
  unfold strsOf at h
  cases z:strsOf r with
  | none=>rw [z] at h;cases h
  | some ss'=>
   rw [z] at h
   cases h
   cases q
   rw [vn z rs]
   rfl
theorem xK {K:R7}{J:Hp}:∀(ss:List Str),aK K J (ss.map D.str) (ss.map V.str)
 | []=>.nil
 | x::r=>.cons (.str x) (xK r)
noncomputable def ny:List R->M R
 | [r]=>kP r >>= λxs=>match strsOf xs with
  | some ss=>if ss.length < 64 then .ok (.l .fresh ((rA ss).map .str)) else .bad
  | none=>.bad
 | _=>.bad
theorem kQ:TX "sorted"=some (.builtin "sorted"):=by decide +kernel
theorem foldl_size (c:Array Nat):∀(k:Nat) (acc:Array Nat),((T8 k c).foldl (·++·) acc).size=acc.size + k * c.size
 | 0,acc=>by simp
 | k + 1,acc=>by
  rw [VV,XD,foldl_size c k,aay,Nat.succ_mul]
  omega
def iF (x:Str) (n:Nat):Str:=⟨(T8 n x.cps).foldl (·++·) #[]⟩
theorem A1 (x:Str) (n:Nat):(iF x n).length=n * x.length:=by
 unfold iF abX
 simp only
 rw [foldl_size]
 simp
theorem JR:cW X (Wa .Mult) (λx y H Q=>∃z n,x=.str z/\y=.int n/\0<=n/\n<=1000/\z.length<=1000/\Q (.str (iF z n.toNat)) H):=by
 intro RX s σ H x y v u Q I rx ry h
 obtain ⟨z,n,rfl,rfl,h0,h1,h2,q⟩:=h
 obtain ⟨t,rfl⟩:=rx
 obtain ⟨t',rfl⟩:=ry
 have hz:ZM (z.length * n.toNat)=false:=by
  have:z.length * n.toNat<=1000 * 1000:=W8 h2 (by omega)
  unfold ZM
  exact decide_eq_false (by have:=Ud;omega)
 refine PySem.P.mul_str (by
  rw [decide_eq_false (by omega:¬n < -(2 ^ 63:Int)),decide_eq_false (by omega:¬n ≥ 2 ^ 63)];rfl) (λhn _=>?_) (λ_ _=>hz) ?_
 ·have:(2 ^ 63 - 1:Int) / 1000<=(2 ^ 63 - 1) / n:=by
   refine (Int.le_ediv_iff_mul_le (by omega)).mpr ?_
   have:(2 ^ 63 - 1:Int) / 1000 * n<=(2 ^ 63 - 1:Int) / 1000 * 1000:=Int.mul_le_mul_of_nonneg_left h1 (by decide)
   exact Int.le_trans this (by decide)
  have e:(2 ^ 63 - 1:Int) / 1000=9223372036854775:=by decide
  omega
 ·split
  ·rename_i hn
   have e:n=0:=by omega
   subst e
   exact ⟨by decide,.str _,H,I.tok _,⟨_,rfl⟩,q⟩
  ·split
   ·rename_i hn hc
    have e:iF z n.toNat=z:=by
     unfold iF
     rw [VJ] at hc
     rcases hc with hc | hc
     ·have e:n=1:=by simpa using hc
      subst e
      simp
     ·have e:z.length=0:=by simpa using hc
      have e2:z.cps=#[]:=by
       unfold abX at e
       exact Array.eq_empty_of_size_eq_zero e
      obtain ⟨cz⟩:=z
      simp only at e2
      subst e2
      congr 1
      generalize n.toNat=k
      induction k with
      | zero=>rfl
      | succ k ih=>rw [VV,XD];exact ih
    rw [e] at q
    exact ⟨.str z,H,I,⟨_,rfl⟩,q⟩
   ·exact ⟨by
     have:=A1 z n.toNat
     unfold iF at this
     rw [this,Nat.mul_comm]
     have:z.length * n.toNat<=1000 * 1000:=W8 h2 (by omega)
     rw [Ud]
     omega,.str _,H,I.tok _,⟨_,rfl⟩,q⟩
noncomputable def CB:R->R->M R
 | .d (.str z),.d (.int n)=>if 0<=n/\n<=1000/\z.length<=1000 then .ok (.d (.str (iF z n.toNat))) else .bad
 | _,_=>.bad
noncomputable def lG:D->String
 | .non=>"NoneType"
 | .bl _=>"bool"
 | .int _=>"int"
 | .str _=>"str"
 | .tup _=>"tuple"
 | .lst _=>"list"
 | .emp=>"dict"
 | .exn _ _ _=>"exc"
 | .dct _ _=>"dict"
def qK (t T:String):Bool:=t == T || (t == "bool" && T == "int")
noncomputable def EB:R->Bool
 | .d (.int _)=>true
 | _=>false
noncomputable def LH:R->Bool
 | .d (.str _)=>true
 | _=>false
def d_ (x y:R):M R:=if EB x then zC x y else if LH x then uu x y else uv x y
def gG (x y:R):M R:=if EB x then Lv x y else CB x y
noncomputable def aZ (x y:R):M R:=match x,y with
 | .d (.str z),.d (.int i)=>if z.length<=sizeLine then (match lQ z.cps.toList i with
  | some k=>.ok (.d (.str ⟨#[k]⟩))
  | none=>.bad) else .bad
 | x,.d (.int i)=>iM x >>= λxs=>(match lQ xs i with
  | some d=>.ok (.d d)
  | none=>.bad)
 | _,_=>.bad
noncomputable def bI (P:Su) (w:S3) (K:R7) (mg:Str->Option R8) (base:TM) (k n:Nat) (x:Str) (Fm:List S->M R):Prop:=
 ∃f fd ps,fF P w K mg base o_ k f fd ps (qH K n Fm)/\mg x=some (.ref f)/\T7 K (.ref f)=true/\Binds K fd ps []
theorem Ll {P:Su}{w:S3}{K:R7}{mg:Str->Option R8}{base:TM}{x R1:Str}{st:VA}{f:Sm}{fd:SO}{N ps:List Str}{k:Nat}{Fm:List S->M R}(F:pe K x R1 st f fd) (hm:mg x=some (.ref f)) (Sc:fK N ps (aY st))
  (hbi:∀(kV doc pm:R8) (an:Option Sm) (cdv ct:R8) (us:List R8),us.length=ps.length->Zn (TH x R1 (cU st) (bV st) (aY st) .none kV doc pm an cdv ct) ⟨us,[]⟩=pure (ps.zip us)){gB:G O}
  (hb:∀(cdv:R8) (A:S5) (outer:List Env) (s:R_) (H:Hp) (E:XK) (J:Hp) (T:Exc->Prop),dc k (A.deeper (X0 R1 (aY st) s.heap.objs.size f cdv))->
   HV (Eh P w K mg base N R1 (aY st) f cdv A outer s H E) ⟨K,H,J,T⟩ (bV st) gB)
  (hF:∀as r,as.length=ps.length->Fm as=.ok r->fin (gB (bq N as))=.ok r):bI P w K mg base (k + 1) ps.length x Fm:=
 ⟨f,fd,ps,Ek F Sc hb hF,hm,F.kp,F.binds hbi⟩
noncomputable def GJ:List Str->Bool
 | []=>true
 | x::r=>!(r.contains x) && GJ r
theorem bQ:∀{l:List Str},GJ l=true->l.Nodup
 | [],_=>Vd
 | x::r,h=>by
  unfold GJ at h
  rw [Sf] at h
  refine Uq.mpr ⟨λz=>?_,bQ h.2⟩
  have:=h.1
  simp [z] at this
theorem Gd {X:Cx}{RX:List (Sm×Obj)}{σ:L2.St}{H:Hp}{s:R_}{a C:Sm}{dx:Option Sm}{ns:List Str}{vs:List V}(I:L2.Inv X RX σ H s) (h:H a=some (DX.XO a C dx)) (xf:XF H dx ns vs):∃ox od,Wn s.heap a ox C od/\od.isSome=dx.isSome/\(∀d,dx=some d->∃o,od=some o/\s.heap.get? d=some o):=by
 obtain ⟨⟨oe,fs,h1,h2,h3,h4⟩,_⟩:=I.hok a _ h
 have hn:abI oe=true:=by unfold abI;rw [h4]
 rcases xf with ⟨rfl,_⟩ | ⟨d,rfl,_,hd⟩
 ·exact ⟨oe,none,⟨h1,h2,hn,by rw [h3];exact Zo⟩,rfl,λd z=>by cases z⟩
 ·obtain ⟨m,⟨o,es,ep,k1,_⟩,_⟩:=I.hok d _ hd
  exact ⟨oe,some o,⟨h1,h2,hn,by rw [h3];exact k1⟩,rfl,λd' z=>by cases z;exact ⟨o,rfl,k1⟩⟩
noncomputable def DG (T:String):Prop:=(∀(K:R7) (t:String),t∈["NoneType","bool","int","str","tuple","list","dict"]->ZD K (.type t) (.type T)=some (qK t T))/\aa_ T=true/\DX.AI.contains (.type T)=false/\qK "exc" T=false
theorem By:DG "int":=⟨λK t h=>by
 simp only [Sn,Tz,or_false] at h
 rcases h with rfl | rfl | rfl | rfl | rfl | rfl | rfl <;> rfl,by decide +kernel,by decide,by decide⟩
theorem zW:DG "bool":=⟨λK t h=>by
 simp only [Sn,Tz,or_false] at h
 rcases h with rfl | rfl | rfl | rfl | rfl | rfl | rfl <;> rfl,by decide +kernel,by decide,by decide⟩
theorem kit_tuple:DG "tuple":=⟨λK t h=>by
 simp only [Sn,Tz,or_false] at h
 rcases h with rfl | rfl | rfl | rfl | rfl | rfl | rfl <;> rfl,by decide +kernel,by decide,by decide⟩
theorem AU {T:String}(kit:DG T):
  b9 X (.builtin "isinstance") (λxs H Q=>∃d x,xs=[x,.ty T]/\Rep X.K H d x/\Q (.bl (qK (lG d) T)) H):=by
 intro RX s σ H xs us Q I r h
 obtain ⟨d,x,rfl,hd,q⟩:=h
 obtain ⟨u,w',rfl,rx,ry⟩:=vals2 r
 cases ry
 have fin:∀tk,EP X RX σ Q (.bool (qK (lG d) T)) {s with toks:=tk}:=λtk=>⟨.bl _,H,I.tok tk,rfl,q⟩
 have F:=fL I
 cases hd with
 | non=>cases rx;exact UU W.kitx_none I.kIn Zo (kit.1 X.K _ (by simp [lG])) (λz=>nomatch z) fin
 | bl y=>cases rx;exact UU W.kitx_bool I.kIn Zo (kit.1 X.K _ (by simp [lG])) (λz=>nomatch z) fin
 | int i=>obtain ⟨t,rfl⟩:=rx;exact UU W.kitx_int I.kIn Zo (kit.1 X.K _ (by simp [lG])) (λz=>nomatch z) fin
 | str y=>obtain ⟨t,rfl⟩:=rx;exact UU W.kitx_str I.kIn Zo (kit.1 X.K _ (by simp [lG])) (λz=>nomatch z) fin
 | tup h hs=>
  cases rx
  obtain ⟨RY,r,o,h1,h2,_⟩:=F.t _ _ h
  exact UU W.kitx_tuple I.kIn ⟨o,h1,h2⟩ (kit.1 X.K _ (by simp [lG])) (λz=>nomatch z) fin
 | lst h hs=>
  cases rx
  obtain ⟨RY,r,o,h1,h2,_⟩:=F.l _ _ h
  exact UU W.kitx_list I.kIn ⟨o,h1,h2⟩ (kit.1 X.K _ (by simp [lG])) (λz=>nomatch z) fin
 | emp h=>
  cases rx
  obtain ⟨o,h1,h2⟩:=F.e _ h
  exact UU aaz I.kIn ⟨o,h1,h2⟩ (kit.1 X.K _ (by simp [lG])) (λz=>nomatch z) fin
 | dct h _ _ _ _=>
  cases rx
  obtain ⟨o,es,h1,h2,_⟩:=F.d _ _ _ h
  exact UU aaz I.kIn ⟨o,h1,h2.1⟩ (kit.1 X.K _ (by simp [lG])) (λz=>nomatch z) fin
 | exn h1 h2 h3 hs hx=>
  cases rx
  obtain ⟨P,G,E⟩:=hx
  obtain ⟨ox,od,J,_⟩:=Gd I h1 h3
  simp only [lG,kit.2.2.2] at fin
  exact UU (DX.Gv G E) I.kIn ⟨ox,od,J⟩ (DX.LV E kit.2.1 kit.2.2.1) (λz=>nomatch z) fin
def Ep (T:String) (g:G R):G R:=λenv=>g env >>= λr=>.ok (.d (.bl (qK (lG r.dat) T)))
noncomputable def jN:List D->Option (List Bool)
 | []=>some []
 | .bl k::r=>(jN r).map (k::·)
 | _::_=>none
theorem pW {K:R7}{J:Hp}:∀{ds:List D}{vs:List V}{ks:List Bool},jN ds=some ks->aK K J ds vs->vs=ks.map V.bl
 | [],_,_,h,.nil=>by cases h;rfl
 | .bl x::r,_,ks,h,.cons q rs=>by
  unfold jN at h
  cases z:jN r with
  | none=>rw [z] at h;cases h
  | some ks'=>
   rw [z] at h
   cases h
   cases q
   rw [pW z rs]
   rfl
theorem tH:∀{ks:List Bool}{us:List R8},Vals (ks.map V.bl) us->us=ks.map VD
 | [],_,.nil=>rfl
 | k::ks,_,.cons r rs=>by
  cases r
  rw [tH rs]
  rfl
theorem all_range (ks:List Bool):(Sh ks.length).all (λi=>ks.getD i true)=ks.all id:=by
 induction ks with
 | nil=>rfl
 | cons k r ih=>
  rw [T6,WY,Vq,Y8,Vq]
  simp only [ZN]
  rw [<-ih]
  rfl
theorem DY (hc:X.calm=true):b9 X (.builtin "all") (λxs H Q=>∃(p:Sm) (ks:List Bool),xs=[.ref p]/\cK X.K H p (ks.map V.bl)/\Q (.bl (ks.all id)) H):=by
 intro RX s σ H xs us Q I r h
 obtain ⟨p,ks,rfl,hq,q⟩:=h
 obtain ⟨u,rfl,rx⟩:=vals1 r
 cases rx
 obtain ⟨RY,r',pl,hz⟩:=I.list hq
 have hi:=tH r'
 subst hi
 have Q_:p≠s.heap.objs.size:=by
  obtain ⟨o,h1,_⟩:=pl.isList
  exact SY (Sz h1)
 refine call_all_walk (W3 pl.isList ⟨s.heap.objs.size,_,_,_,_,_,(λi=>ks.getD i true),rfl,ado (A:=X.A.in1) (show X.A.in1.handled=none from I.ok.hd hc) s.heap.objs.size p Q_ (ks.map VD).toArray,⟨⟨_,Sk _ rfl,rfl,rfl⟩,YL pl.isList _⟩,?_,λh' tk k=>?_⟩)
 ·intro i v s' Q' E' hP hQ
  have e:∃k,ks[i]?=some k/\v=.bool k:=by
   have hP':(ks.map VD)[i]?=some v:=by simpa using hP
   rw [Sv] at hP'
   cases z:ks[i]? with
   | none=>rw [z] at hP';cases hP'
   | some k=>rw [z] at hP';cases hP';exact ⟨k,rfl,rfl⟩
  obtain ⟨k,e1,rfl⟩:=e
  simp only at hQ
  rw [Tv,e1] at hQ
  exact TN hQ
 ·have sz:(ks.map VD).toArray.size=ks.length:=by simp
  rw [sz,all_range]
  refine ⟨.bl (ks.all id),H,?_,rfl,q⟩
  refine I.kept λb o e=>k b o (λz=>?_) (Sg _ e)
  have:b=s.heap.objs.size:=by simpa using z
  exact absurd (this▸Sz e) (Us _)
noncomputable def oz:List R->M R
 | [r]=>kP r >>= λxs=>match jN xs with
  | some ks=>.ok (.d (.bl (ks.all id)))
  | none=>.bad
 | _=>.bad
theorem DU:TX "all"=some (.builtin "all"):=by decide +kernel
noncomputable def PU (neg:Bool):R->R->M R
 | .d (.str i),.d (.str j)=>.ok (.d (.bl (if neg then !(!(Yx j i 0 j.length 1).isEmpty) else !(Yx j i 0 j.length 1).isEmpty)))
 | _,_=>.bad
noncomputable def Ib (p q:Int->Int->Bool) (ga gb gc:G R):G R:=λenv=>ga env >>= λx=>gb env >>= λy=>match x,y with
 | .d (.int i),.d (.int j)=>if p i j then (gc env >>= λz=>match z with
  | .d (.int k)=>.ok (.d (.bl (q j k)))
  | _=>.bad) else .ok (.d (.bl false))
 | _,_=>.bad
noncomputable def sX:List R->M R
 | [.d (.int i),.d (.int j)]=>.ok (.d (.int (if j > i then j else i)))
 | _=>.bad
theorem JW {d:D}{v:V}{x:Str}{u:R8}(hm:X.mg x=some u) (r:RelV v u) (hr:∀J,Rep c.K J d v) (hg:Gl X x:=by rfl) (hd:(x == ("__debug__":Str))=false:=by decide):PD X c (.Name x pos) (gC d):=uS hr (BI hg hm r hd)
theorem Lj {RX:List (Sm×Obj)}{σ:L2.St}{H:Hp}{s:R_}(I:Inv X RX σ H s):V3 < s.heap.objs.size:=by
 have h:SS < s.heap.objs.size:=(I.mod.glob.keeps I.bk).lt
 exact V6 (by decide) h
theorem EN:cW X (Wa .Add) (λx y H Q=>∃a b xs ys,x=.ref a/\y=.ref b/\cZ X.K H a xs/\cZ X.K H b ys/\xs.length + ys.length<=sizeLine/\
  (xs=[]->Q (.ref b) H)/\(ys=[]->Q (.ref a) H)/\∀p,H p=none->Q (.ref p) (upd H p (.tup (xs++ys)))):=by
 intro RX s σ H x y v u Q I rx ry h
 obtain ⟨a,b,xs,ys,rfl,rfl,ha,hb,hz,q0,q1,q2⟩:=h
 by_cases hx:xs=[]
 ·cases rx
  cases ry
  obtain ⟨RY,r1,p1,_⟩:=I.tuple ha
  obtain ⟨its2,r2,p2,_⟩:=I.tuple hb
  have he:RY=[]:=r1.nil_iff.mpr hx
  subst he
  obtain ⟨⟨cls,dd,data,sl⟩,ho,hc,n,hd⟩:=id p1
  obtain ⟨⟨cls2,dd2,data2,sl2⟩,ho2,hc2,n2,hd2⟩:=id p2
  simp only at hc hd hc2 hd2
  subst hc hd hc2 hd2
  exact aaL ⟨_,ho,rfl⟩ ⟨_,ho2,rfl⟩ YH Z1 WV WG (Wy _ _) (tuple_addW0 a b _ _ n n2 dd dd2 sl sl2 rfl) ⟨ho,ho2,⟨.ref b,H,I,rfl,q0 hx⟩⟩
 ·exact JP RX s σ H (.ref a) (.ref b) v u Q I rx ry ⟨a,b,xs,ys,rfl,rfl,ha,hb,hx,hz,q1,λ_=>q2⟩
noncomputable def Cz:R->R->M R
 | .d (.tup xs),.d (.tup ys)=>if xs.length + ys.length<=sizeLine then .ok (.d (.tup (xs++ys))) else .bad
 | _,_=>.bad
theorem Ja (hK:X.K=c.K):BD c (λx y H Q=>∃a b xs ys,x=.ref a/\y=.ref b/\cZ X.K H a xs/\cZ X.K H b ys/\xs.length + ys.length<=sizeLine/\
  (xs=[]->Q (.ref b) H)/\(ys=[]->Q (.ref a) H)/\∀p,H p=none->Q (.ref p) (upd H p (.tup (xs++ys)))) Cz:=by
 intro He He' J H x y u v Q hp rx ry w
 unfold Cz at w
 split at w
 ·rename_i ds es
  cases rx with
  | tup h1 s1=>
   cases ry with
   | tup h2 s2=>
    split at w
    ·rename_i hz
     rw [s1.length,s2.length] at hz
     refine ⟨_,_,_,_,rfl,rfl,by rw [hK];exact fC hp.sub h1,by rw [hK];exact fC hp.sub h2,hz,λe=>?_,λe=>?_,λp hp'=>w _ _ _ (Ext.newJ hp.sub hp' _) (qz hp hp' (s1.append s2))⟩
     ·have e':ds=[]:=Xk (by rw [s1.length,e];rfl)
      subst e'
      exact w _ J H (Ext.refl hp.sub) (.tup h2 s2)
     ·have e':es=[]:=Xk (by rw [s2.length,e];rfl)
      subst e'
      rw [US] at w
      exact w _ J H (Ext.refl hp.sub) (.tup h1 s1)
    ·exact w.elim
 ·exact w.elim
noncomputable def LI:R->Bool
 | .d (.tup _)=>true
 | _=>false
def cR (x y:R):M R:=if LI x then Cz x y else d_ x y
noncomputable def intsOf:List D->Option (List Int)
 | []=>some []
 | .int i::r=>(intsOf r).map (i::·)
 | _::_=>none
theorem oF {K:R7}{J:Hp}:∀{ds:List D}{vs:List V}{ns:List Int},intsOf ds=some ns->aK K J ds vs->vs=ns.map V.int
 | [],_,_,h,.nil=>by cases h;rfl
 | .int x::r,_,ks,h,.cons q rs=>by
  unfold intsOf at h
  cases z:intsOf r with
  | none=>rw [z] at h;cases h
  | some ks'=>
   rw [z] at h
   cases h
   cases q
   rw [oF z rs]
   rfl
def signs (x:Str):List D:=x.cps.toList.map λk=>.str ⟨#[k]⟩
noncomputable def PV (g:G R):G (List D):=λenv=>g env >>= λr=>match r with
 | .d (.str x)=>.ok (signs x)
 | _=>.bad
theorem A3 {prog:Su}{w:S3}{A:S5}{E:R8->R_->Prop}{s:R_}{t sl:Sm}{items:Array R8}{vl vu:R8}{lo hi:Option Int}{Q:R8->R_->Prop}(ht:acK s.heap t items) (hs:s.heap.IsSliceOf sl vl vu .none) (pl:Z2 vl lo) (pu:Z2 vu hi)
  (hw:HT.bM items.size 0 lo=0/\HT.bM items.size items.size hi=items.size) (h:Q (.ref t) s):Sx (SE prog w) A (aaq (.ref t) (.ref sl)) Q E s:=by
 obtain ⟨os,hos,hcs,hds⟩:=id hs
 have QT:s.TypeIs (.ref sl) "slice":=⟨os,hos,hcs⟩
 unfold aaq
 try with_reducible refine S_ ?_
 first | refine R6 (R9 ?_) | skip
 refine R6 (aar ht.typeIs (by decide) ?_)
 refine R6 (Tj (name:=Vp "__getitem__") ht.typeIs TQ
  (Tc TQ ht.typeIs ZK ?_ (Z4 _ _)))
 show Sx _ _ (Wj (.ref t) >>= _) _ _ s
 refine R6 (acd ht ?_)
 refine R6 (Xd QT ?_)
 rw [if_pos (by decide)]
 refine R6 (HT.ly hs pl pu ?_)
 have hyes:(((HT.bM items.size 0 lo:Nat):Int) == 0 && (1:Int) == 1 && (HT.bM items.size items.size hi - HT.bM items.size 0 lo) == items.size)=true:=by
  rw [hw.1,hw.2]
  simp
 show Sx _ _ (if (((HT.bM items.size 0 lo:Nat):Int) == 0 && (1:Int) == 1 && (HT.bM items.size items.size hi - HT.bM items.size 0 lo) == items.size)=true then _ else _) _ _ s
 rw [if_pos hyes]
 unfold abC
 refine R6 (R6 (Xd ht.typeIs (R9 ?_)))
 rw [if_pos (by decide)]
 exact R6 (Wz (R9 ⟨_,rfl,R9 h⟩))
theorem Fo:t_ X (λx lo hi H Q=>∃a xs,x=.ref a/\cZ X.K H a xs/\((HT.bM xs.length 0 lo=0/\HT.bM xs.length xs.length hi=xs.length)->Q (.ref a) H)/\∀p,H p=none->Q (.ref p) (upd H p (.tup (mU xs lo hi)))):=by
 intro RX s σ H x v vl vu lo hi sl Q I rx hs pl pu h
 obtain ⟨a,xs,rfl,hx,q0,q1⟩:=h
 by_cases hw:HT.bM xs.length 0 lo=0/\HT.bM xs.length xs.length hi=xs.length
 ·cases rx
  obtain ⟨RY,r,ht,hz⟩:=I.tuple hx
  have hlen:RY.toArray.size=xs.length:=by rw [So];exact r.length.symm
  exact ⟨"tuple",_,TQ.lookup,ht.typeIs,A3 ht hs pl pu (by rw [hlen];exact hw) ⟨.ref a,H,I,rfl,q0 hw⟩⟩
 ·exact MX RX s σ H (.ref a) v vl vu lo hi sl Q I rx hs pl pu ⟨a,xs,rfl,hx,hw,q1⟩
theorem Cv {xs:List D}{lo hi:Option Int}(h:HT.bM xs.length 0 lo=0/\HT.bM xs.length xs.length hi=xs.length):cutD xs lo hi=xs:=by
 unfold cutD
 rw [h.1,h.2]
 simp
noncomputable def Ge:R->Option Int->Option Int->M R
 | .d (.tup xs),l,u=>.ok (.d (.tup (cutD xs l u)))
 | _,_,_=>.bad
theorem O3 (hK:X.K=c.K) (He J H:Hp) (x:R) (v:V) (l u:Option Int) (Q:VK) (hp:HI c J H) (rx:RR c He J H x v) (w:cA (Ge x l u) (λz=>∀w J' H',Ext J H J' H'->RR c H J' H' z w->Q w H') c.T):
  ∃a xs,v=.ref a/\cZ X.K H a xs/\((HT.bM xs.length 0 l=0/\HT.bM xs.length xs.length u=xs.length)->Q (.ref a) H)/\∀p,H p=none->Q (.ref p) (upd H p (.tup (mU xs l u))):=by
 unfold Ge at w
 split at w
 ·rename_i ds
  cases rx with
  | tup h1 s1=>
   refine ⟨_,_,rfl,by rw [hK];exact fC hp.sub h1,λhw=>?_,λp hp'=>w _ _ _ (Ext.newJ hp.sub hp' _) (qz hp hp' (s1.cut _ _))⟩
   rw [<-s1.length] at hw
   rw [Cv hw] at w
   exact w _ J H (Ext.refl hp.sub) (.tup h1 s1)
 ·exact w.elim
def vU (x:R) (l u:Option Int):M R:=if LI x then Ge x l u else OE x l u
end
structure jx (prog:Su) (w:S3) (it src:Sm) (vals:Array R8) (St:Nat->TM->Prop):Prop where
 keep:∀(k:Nat) (h h':TM),St k h->(∀o,h.get? it=some o->h'.get? it=some o)->(∀o,h.get? src=some o->h'.get? src=some o)->St k h'
 there:∀(k:Nat) (h:TM),St k h->∃o,h.get? it=some o/\∀v,o.data≠.cell v
 item:∀(A:S5) (s:R_) (k:Nat) (x:R8) (Q:R8->R_->Prop) (E:R8->R_->Prop),St k s.heap->vals[k]?=some x->(∀h',St (k + 1) h'->Tu it s.heap h'->Q x {s with heap:=h'})->
  Sx (SE prog w) A (Td (.ref it)) Q E s
 fin:∀(A:S5) (s:R_) (k:Nat) (Q:R8->R_->Prop) (E:R8->R_->Prop),A.handled=none->St k s.heap->vals[k]?=none->
  (∀h' e,ZO it s.heap h'->(∃o,h'.get? e=some o/\o.cls=.type "StopIteration")->E (.ref e) {s with heap:=h'})->Sx (SE prog w) A (Td (.ref it)) Q E s
theorem lV (prog:Su) (w:S3) (it l:Sm) (vals:Array R8) (hne:l≠it):jx prog w it l vals (λk h=>h.IsListIter it l k/\h.IsList l vals) where
 keep:=λk h h' st k1 k2=>⟨st.1.at λo e=>k1 o e,st.2.at λo e=>k2 o e⟩
 there:=λk h st=>by
  obtain ⟨⟨o,e,_,d⟩,_⟩:=st
  exact ⟨o,e,λv z=>by rw [d] at z;cases z⟩
 item:=λA s k x Q E st hx hQ=>wpAny_nextOf_list_item st.1 st.2 hx λh' a1 a2=>hQ h' ⟨a1,st.2.extBut a2.extBut hne⟩ a2
 fin:=λA s k Q E hh st hx hE=>wpAny_nextOf_list_end hh st.1 st.2 hx hE
theorem next_tuple_item {prog:Su}{w:S3}{A:S5}{E:R8->R_->Prop}{s:R_}{it t:Sm}{k:Nat}{vals:Array R8}{x:R8}{Q:R8->R_->Prop}(hit:s.heap.IsTupleIter it t k) (ht:s.heap.IsTuple t vals) (hx:vals[k]?=some x)
  (hQ:∀h',h'.IsTupleIter it t (k + 1)->Tu it s.heap h'->Q x {s with heap:=h'}):Sx (SE prog w) A (Td (.ref it)) Q E s:=by
 obtain ⟨oi,Qp,Rj,hdi⟩:=id hit
 obtain ⟨ot,Q8,_,nt,hdt⟩:=ht
 unfold Td
 refine R6 (Tj (name:=Vp "__next__") hit.typeIs Vl (Tc Vl hit.typeIs XG ?_ (Xu _)))
 show Sx _ _ (field (.ref it) 0 >>= _) _ _ s
 refine R6 (UE Qp hdi (x:=.ref t) rfl ?_)
 show Sx _ _ (if (VE t == Tq)=true then _ else _) _ _ s
 rw [if_neg (show ¬(VE t == Tq)=true from λz=>SX z)]
 show Sx _ _ (field (.ref it) 1 >>= _) _ _ s
 refine R6 (UE Qp hdi (x:=.int k 0) rfl ?_)
 show Sx _ _ (Z9 (.ref t) >>= _) _ _ s
 refine R6 (UB Q8 hdt ?_)
 simp only [Uk,hx]
 refine R6 (X6 Qp hdi (by simp) (R9 ⟨x,rfl,R9 (hQ _ ?_ (T3 ..))⟩))
 exact ⟨_,TY _ Qp (Y9 (WL hdi _)),(aaA ..).trans Rj,by rw [WL hdi] <;> simp [Y0]⟩
theorem next_tuple_end {prog:Su}{w:S3}{A:S5}{E:R8->R_->Prop}{s:R_}{it t:Sm}{k:Nat}{vals:Array R8}{Q:R8->R_->Prop}(hh:A.handled=none) (hit:s.heap.IsTupleIter it t k) (ht:s.heap.IsTuple t vals) (hx:vals[k]?=none)
  (hE:∀h' e,ZO it s.heap h'->(∃o,h'.get? e=some o/\o.cls=.type "StopIteration")->E (.ref e) {s with heap:=h'}):Sx (SE prog w) A (Td (.ref it)) Q E s:=by
 obtain ⟨oi,Qp,Rj,hdi⟩:=id hit
 obtain ⟨ot,Q8,_,nt,hdt⟩:=ht
 unfold Td
 refine R6 (Tj (name:=Vp "__next__") hit.typeIs Vl (Tc Vl hit.typeIs XG ?_ (Xu _)))
 show Sx _ _ (field (.ref it) 0 >>= _) _ _ s
 refine R6 (UE Qp hdi (x:=.ref t) rfl ?_)
 show Sx _ _ (if (VE t == Tq)=true then _ else _) _ _ s
 rw [if_neg (show ¬(VE t == Tq)=true from λz=>SX z)]
 show Sx _ _ (field (.ref it) 1 >>= _) _ _ s
 refine R6 (UE Qp hdi (x:=.int k 0) rfl ?_)
 show Sx _ _ (Z9 (.ref t) >>= _) _ _ s
 refine R6 (UB Q8 hdt ?_)
 simp only [Uk,hx]
 refine R6 (Wz (R6 (X6 Qp hdi (by simp) ?_)))
 show Sx _ _ (adf (.type "StopIteration") [] >>= _) _ _ _
 refine R6 ?_
 simp only [adf,adg]
 refine R6 (S8 ?_ (by size_fits))
 refine R6 (m:=Wo _ _) (V7 (a:=Tq) (by first | rfl | (simp only [Wo];rfl)) ?_)
 refine S8 ?_ (by size_fits)
 simp only [adh]
 refine R6 (Z_ ?_)
 first | rw [show A.in1.handled=none from hh] | rw [hh]
 refine R6 (R9 (abb ?_))
 exact hE _ _ (((T3 ..).extBut.push _).push _) ⟨_,Sk _ rfl,rfl⟩
theorem kC (prog:Su) (w:S3) (it t:Sm) (vals:Array R8) (hne:t≠it):jx prog w it t vals (λk h=>h.IsTupleIter it t k/\h.IsTuple t vals) where
 keep:=λk h h' st k1 k2=>by
  obtain ⟨⟨o,e,r⟩,⟨o2,e2,r2⟩⟩:=st
  exact ⟨⟨o,k1 o e,r⟩,⟨o2,k2 o2 e2,r2⟩⟩
 there:=λk h st=>by
  obtain ⟨⟨o,e,_,d⟩,_⟩:=st
  exact ⟨o,e,λv z=>by rw [d] at z;cases z⟩
 item:=λA s k x Q E st hx hQ=>next_tuple_item st.1 st.2 hx λh' a1 a2=>hQ h' ⟨a1,st.2.extBut a2.extBut hne⟩ a2
 fin:=λA s k Q E hh st hx hE=>next_tuple_end hh st.1 st.2 hx hE
section
variable {prog:Su}{w:S3}{A:S5}{E:R8->R_->Prop}{s:R_}
theorem A4 {z TI TO i1 i2 l1 l2:Sm}{k:Nat}{xs ys:Array R8}{x y a b:R8}{S1 S2:Nat->TM->Prop}{Q:R8->R_->Prop}(N1:jx prog w i1 l1 xs S1) (N2:jx prog w i2 l2 ys S2) (D:aaa z TI TO i1 i2 l1 l2)
  (hz:aab s.heap z TI TO .none) (hTI:WM s.heap TI (.ref i1) (.ref i2)) (hTO:WM s.heap TO a b) (st1:S1 k s.heap) (st2:S2 k s.heap) (hx:xs[k]?=some x) (hy:ys[k]?=some y)
  (hQ:∀h',aab h' z TI TO (Y0 s.heap.objs.size)->WM h' TO x y->S1 (k + 1) h'->S2 (k + 1) h'->WM h' s.heap.objs.size x y->h'.objs.size=s.heap.objs.size + 1->
   (∀q o,q≠z->q≠TO->q≠i1->q≠i2->s.heap.get? q=some o->h'.get? q=some o)->Q (.ref s.heap.objs.size) {s with heap:=h'}):
  Sx (SE prog w) A (Ww.«zip.__next__» ⟨[.ref z],[]⟩) (λfin s'=>∃v,fin=.done (.ret v)/\Q v s') E s:=by
 have move:∀{S:Nat->TM->Prop}{it src q:Sm}{vals:Array R8}{m:Nat}{h h':TM},jx prog w it src vals S->S m h->Tu q h h'->it≠q->src≠q->S m h':=λN st sb n1 n2=>N.keep _ _ _ st (λo e=>sb.extBut _ _ n1 e) λo e=>sb.extBut _ _ n2 e
 show Sx _ _ (field (.ref z) 2 >>= _) _ _ _
 refine R6 (UE hz rfl (x:=.bool false) rfl ?_)
 show Sx _ _ (field (.ref z) 3 >>= _) _ _ _
 refine R6 (UE hz rfl (x:=.ref TI) rfl ?_)
 refine R6 (UB hTI rfl ?_)
 show Sx _ _ (Ux (.ref z) >>= _) _ _ _
 refine R6 ?_
 unfold Ux
 refine R6 (UE hz rfl (x:=.none) rfl (R9 ?_))
 simp only [if_true]
 refine R6 (Wz ?_)
 refine R6 (UE hz rfl (x:=.ref TO) rfl ?_)
 refine R6 (Um hz (by simp) λg1 z1 b1=>?_)
 replace z1:aab g1 z TI TO .ellipsis:=z1
 refine R6 ?_
 simp only [aaV,abd,Y7,ZE]
 refine R6 (R6 (Yy ?_))
 show Sx _ _ (Td (.ref i1) >>= _) _ _ _
 refine R6 (N1.item _ _ k x _ _ (move N1 st1 b1 D.i1z D.l1z) hx λg2 p1 b2=>R9 ?_)
 have o2:WM g2 TO a b:=b2.extBut _ _ D.TOi1 (b1.extBut _ _ D.TOz hTO)
 refine R6 (UB o2 rfl ?_)
 refine R6 (Xr o2 λg3 o3 b3=>?_)
 replace o3:WM g3 TO x b:=o3
 refine R6 (abe (R9 ?_))
 refine R6 (R6 (Yy ?_))
 show Sx _ _ (Td (.ref i2) >>= _) _ _ _
 have q2:=move N2 (move N2 (move N2 st2 b1 D.i2z D.l2z) b2 D.i12.symm D.l2i1) b3 D.TOi2.symm D.l2TO
 refine R6 (N2.item _ _ k y _ _ q2 hy λg4 p2 b4=>R9 ?_)
 have o4:WM g4 TO x b:=b4.extBut _ _ D.TOi2 o3
 refine R6 (UB o4 rfl ?_)
 refine R6 (Xr o4 λg5 o5 b5=>?_)
 replace o5:WM g5 TO x y:=o5
 refine R6 (abe (R9 (R9 ?_)))
 refine R6 (UB o5 rfl ?_)
 refine R6 (ZF ?_)
 have sz5:g5.objs.size=s.heap.objs.size:=by rw [b5.1,b4.1,b3.1,b2.1,b1.1]
 have z5:aab g5 z TI TO .ellipsis:=b5.extBut _ _ D.TOz.symm (b4.extBut _ _ D.i2z.symm (b3.extBut _ _ D.TOz.symm (b2.extBut _ _ D.i1z.symm z1)))
 have k5:∀q o,q≠z->q≠TO->q≠i1->q≠i2->s.heap.get? q=some o->g5.get? q=some o:=λq o c1 c2 c3 c4 e=>b5.extBut _ _ c2 (b4.extBut _ _ c4 (b3.extBut _ _ c2 (b2.extBut _ _ c3 (b1.extBut _ _ c1 e))))
 have p15:S1 (k + 1) g5:=move N1 (move N1 (move N1 p1 b3 D.TOi1.symm D.l1TO) b4 D.i12 D.l1i2) b5 D.TOi1.symm D.l1TO
 have p25:S2 (k + 1) g5:=move N2 p2 b5 D.TOi2.symm D.l2TO
 have zlt:z < g5.objs.size:=Sz z5
 show Sx _ _ (Wq (.ref z) (.ref g5.objs.size) >>= _) _ _ _
 refine R6 ?_
 unfold Wq
 have z6:aab (g5.push {cls:=.type "tuple",data:=.seq #[x,y]}) z TI TO .ellipsis:=Sg _ z5
 refine R6 (Um z6 (by simp) λg7 z7 b7=>?_)
 replace z7:aab g7 z TI TO (Y0 g5.objs.size):=z7
 refine Um z7 (by simp) λg8 z8 b8=>?_
 replace z8:aab g8 z TI TO (Y0 g5.objs.size):=z8
 have up:∀q o,q≠z->g5.get? q=some o->g8.get? q=some o:=λq o c1 e=>b8.extBut _ _ c1 (b7.extBut _ _ c1 (Sg _ e))
 have t8:WM g8 g5.objs.size x y:=b8.extBut _ _ (VQ zlt) (b7.extBut _ _ (VQ zlt) (Sk _ rfl))
 have sz8:g8.objs.size=g5.objs.size + 1:=by rw [b8.1,b7.1,UC]
 rw [sz5] at z8 t8 sz8
 refine R9 ⟨_,rfl,?_⟩
 show Q (.ref g5.objs.size) _
 rw [sz5]
 exact hQ g8 z8 (up _ _ D.TOz o5) (N1.keep _ _ _ p15 (λo e=>up _ o D.i1z e) λo e=>up _ o D.l1z e) (N2.keep _ _ _ p25 (λo e=>up _ o D.i2z e) λo e=>up _ o D.l2z e) t8 sz8 λq o c1 c2 c3 c4 e=>up q o c1 (k5 q o c1 c2 c3 c4 e)
theorem DA {z TI TO i1 i2 l1 l2:Sm}{k:Nat}{xs ys:Array R8}{a b:R8}{S1 S2:Nat->TM->Prop}{Q:Fin->R_->Prop}(hh:A.handled=none) (N1:jx prog w i1 l1 xs S1) (N2:jx prog w i2 l2 ys S2) (D:aaa z TI TO i1 i2 l1 l2)
  (hz:aab s.heap z TI TO .none) (hTI:WM s.heap TI (.ref i1) (.ref i2)) (hTO:WM s.heap TO a b) (st1:S1 k s.heap) (st2:S2 k s.heap) (hend:xs[k]?=none\/ys[k]?=none)
  (hE:∀h' e,(∀q o,q≠z->q≠TO->q≠i1->q≠i2->s.heap.get? q=some o->h'.get? q=some o)->(∃o,h'.get? e=some o/\o.cls=.type "StopIteration")->E (.ref e) {s with heap:=h'}):
  Sx (SE prog w) A (Ww.«zip.__next__» ⟨[.ref z],[]⟩) Q E s:=by
 have move:∀{S:Nat->TM->Prop}{it src q:Sm}{vals:Array R8}{m:Nat}{h h':TM},jx prog w it src vals S->S m h->Tu q h h'->it≠q->src≠q->S m h':=λN st sb n1 n2=>N.keep _ _ _ st (λo e=>sb.extBut _ _ n1 e) λo e=>sb.extBut _ _ n2 e
 show Sx _ _ (field (.ref z) 2 >>= _) _ _ _
 refine R6 (UE hz rfl (x:=.bool false) rfl ?_)
 show Sx _ _ (field (.ref z) 3 >>= _) _ _ _
 refine R6 (UE hz rfl (x:=.ref TI) rfl ?_)
 refine R6 (UB hTI rfl ?_)
 show Sx _ _ (Ux (.ref z) >>= _) _ _ _
 refine R6 ?_
 unfold Ux
 refine R6 (UE hz rfl (x:=.none) rfl (R9 ?_))
 simp only [if_true]
 refine R6 (Wz ?_)
 refine R6 (UE hz rfl (x:=.ref TO) rfl ?_)
 refine R6 (Um hz (by simp) λg1 z1 b1=>?_)
 replace z1:aab g1 z TI TO .ellipsis:=z1
 refine R6 ?_
 simp only [aaV,abd,Y7,ZE]
 refine R6 (R6 (Yy ?_))
 show Sx _ _ (Td (.ref i1) >>= _) _ _ _
 cases hx:xs[k]? with
 | none=>
  refine R6 (N1.fin _ _ k _ _ hh (move N1 st1 b1 D.i1z D.l1z) hx λg2 e b2 he=>?_)
  obtain ⟨oe,Qx,hce⟩:=he
  have z2:aab g2 z TI TO .ellipsis:=b2 _ _ D.i1z.symm z1
  have QW:e≠z:=λq=>by subst q;rw [z2] at Qx;cases Qx;simp at hce
  refine Um z2 (by simp) λg3 _ b3=>hE g3 e (λq o c1 _ c3 _ u=>b3.extBut _ _ c1 (b2 _ _ c3 (b1.extBut _ _ c1 u))) ⟨oe,b3.extBut _ _ QW Qx,hce⟩
 | some x=>
  have hy:ys[k]?=none:=by rcases hend with h | h;rw [hx] at h;cases h;exact h
  refine R6 (N1.item _ _ k x _ _ (move N1 st1 b1 D.i1z D.l1z) hx λg2 p1 b2=>R9 ?_)
  have o2:WM g2 TO a b:=b2.extBut _ _ D.TOi1 (b1.extBut _ _ D.TOz hTO)
  refine R6 (UB o2 rfl ?_)
  refine R6 (Xr o2 λg3 o3 b3=>?_)
  refine R6 (abe (R9 ?_))
  refine R6 (R6 (Yy ?_))
  show Sx _ _ (Td (.ref i2) >>= _) _ _ _
  have q2:=move N2 (move N2 (move N2 st2 b1 D.i2z D.l2z) b2 D.i12.symm D.l2i1) b3 D.TOi2.symm D.l2TO
  refine R6 (N2.fin _ _ k _ _ hh q2 hy λg4 e b4 he=>?_)
  obtain ⟨oe,Qx,hce⟩:=he
  have z4:aab g4 z TI TO .ellipsis:=b4 _ _ D.i2z.symm (b3.extBut _ _ D.TOz.symm (b2.extBut _ _ D.i1z.symm z1))
  have QW:e≠z:=λq=>by subst q;rw [z4] at Qx;cases Qx;simp at hce
  refine Um z4 (by simp) λg5 _ b5=>hE g5 e (λq o c1 c2 c3 c4 u=>b5.extBut _ _ c1 (b4 _ _ c4 (b3.extBut _ _ c2 (b2.extBut _ _ c3 (b1.extBut _ _ c1 u))))) ⟨oe,b5.extBut _ _ QW Qx,hce⟩
theorem yq {z TI TO i1 i2 l1 l2:Sm}{k:Nat}{xs ys:Array R8}{x y a b:R8}{S1 S2:Nat->TM->Prop}{Q:Option R8->R_->Prop}(N1:jx prog w i1 l1 xs S1) (N2:jx prog w i2 l2 ys S2) (D:aaa z TI TO i1 i2 l1 l2)
  (hz:aab s.heap z TI TO .none) (hTI:WM s.heap TI (.ref i1) (.ref i2)) (hTO:WM s.heap TO a b) (st1:S1 k s.heap) (st2:S2 k s.heap) (hx:xs[k]?=some x) (hy:ys[k]?=some y)
  (hQ:∀h',aab h' z TI TO (Y0 s.heap.objs.size)->WM h' TO x y->S1 (k + 1) h'->S2 (k + 1) h'->WM h' s.heap.objs.size x y->h'.objs.size=s.heap.objs.size + 1->
   (∀q o,q≠z->q≠TO->q≠i1->q≠i2->s.heap.get? q=some o->h'.get? q=some o)->Q (some (.ref s.heap.objs.size)) {s with heap:=h'}):Sx (SE prog w) A (Wi (.ref z)) Q E s:=by
 have zt:s.TypeIs (.ref z) "zip":=⟨_,hz,rfl⟩
 unfold Wi
 exact R6 (VU (Tj (name:=Vp "__next__") zt XH (Tc XH zt aaW
   (A4 N1 N2 D hz hTI hTO st1 st2 hx hy λh' a1 a2 a3 a4 a5 a6 a7=>R9 (hQ h' a1 a2 a3 a4 a5 a6 a7)) (aaB _))))
theorem uV {z TI TO i1 i2 l1 l2:Sm}{k:Nat}{xs ys:Array R8}{a b:R8}{S1 S2:Nat->TM->Prop}{Q:Option R8->R_->Prop}(hh:A.handled=none) (N1:jx prog w i1 l1 xs S1) (N2:jx prog w i2 l2 ys S2) (D:aaa z TI TO i1 i2 l1 l2)
  (hz:aab s.heap z TI TO .none) (hTI:WM s.heap TI (.ref i1) (.ref i2)) (hTO:WM s.heap TO a b) (st1:S1 k s.heap) (st2:S2 k s.heap) (hend:xs[k]?=none\/ys[k]?=none)
  (hQ:∀h',(∀q o,q≠z->q≠TO->q≠i1->q≠i2->s.heap.get? q=some o->h'.get? q=some o)->Q none {s with heap:=h'}):Sx (SE prog w) A (Wi (.ref z)) Q E s:=by
 have zt:s.TypeIs (.ref z) "zip":=⟨_,hz,rfl⟩
 unfold Wi
 refine R6 (VU (Tj (name:=Vp "__next__") zt XH (Tc XH zt aaW (DA hh N1 N2 D hz hTI hTO st1 st2 hend λh' e hk he=>?_) (aaB _))))
 obtain ⟨o,ho,hc⟩:=he
 exact R6 (Wu (T:="StopIteration") (b:=true) ⟨o,ho,hc⟩ ZG (R9 (hQ _ hk)))
end
abbrev FL (h:TM) (o1 o2:Obj):TM:=((h.push o1).push o2).push {cls:=.type "tuple",data:=.seq #[.ref h.objs.size,.ref (h.push o1).objs.size]}
abbrev FN (h:TM) (o1 o2:Obj):TM:=(FL h o1 o2).push {cls:=.type "tuple",data:=.seq #[.none,.none]}
abbrev FO (h:TM) (o1 o2:Obj):TM:=(FN h o1 o2).push {cls:=.type "zip",data:=.fields #[.none,.bool false,.bool false,.ref ((h.push o1).push o2).objs.size,.ref (FL h o1 o2).objs.size]}
def cj (k:String) (l:Sm):Obj:={cls:=.type k,data:=.fields #[.ref l,.int 0 0]}
def pN (k:String) (h:TM) (l:Sm) (vals:Array R8):Prop:=(k="list_iterator"/\h.IsList l vals)\/(k="tuple_iterator"/\h.IsTuple l vals)
theorem pN.push {k:String}{h:TM}{l:Sm}{vals:Array R8}(x:pN k h l vals) (o:Obj):pN k (h.push o) l vals:=x.elim (λx=>.inl ⟨x.1,YL x.2 _⟩) λx=>.inr ⟨x.1,adp x.2 _⟩
theorem Ai {prog:Su}{w:S3}{A:S5}{E:R8->R_->Prop}{s:R_}{k:String}{l:Sm}{vals:Array R8}{Q:R8->R_->Prop}(x:pN k s.heap l vals) (h:Q (.ref s.heap.objs.size) {s with heap:=s.heap.push (cj k l)}):Sx (SE prog w) A (XZ (.ref l)) Q E s:=by
 rcases x with ⟨rfl,x⟩ | ⟨rfl,x⟩
 ·exact W3 x h
 ·exact X3 x h
theorem K0 (k1 k2:String) (l1 l2:Sm) (xs ys:Array R8):
  Meets (Ww.«zip.__new__» ⟨[.type "zip",.ref l1,.ref l2],[]⟩) (λ_ R s=>pN k1 s.heap l1 xs/\pN k2 s.heap l2 ys/\
   R (.ok (.ret (.ref (FN s.heap (cj k1 l1) (cj k2 l2)).objs.size))) {s with heap:=FO s.heap (cj k1 l1) (cj k2 l2)}):=
 .of_wp λprog w A R s h=>by
  obtain ⟨hp,g,d,tk,os⟩:=s;obtain ⟨q1,q2,h⟩:=h
  have hsub:=sub_zip
  have L1:pN k1 (ac1 ⟨hp,g,d,tk,os⟩) l1 xs:=q1
  have L2:pN k2 (ac1 ⟨hp.push (cj k1 l1),g,d,tk,os⟩) l2 ys:=pN.push q2 _
  wp_walk using Ai L1,Ai L2
  exact ⟨_,rfl,h⟩
noncomputable def SQ (k:String) (it l:Sm) (vals:Array R8) (m:Nat) (h:TM):Prop:=(k="list_iterator"/\h.IsListIter it l m/\h.IsList l vals)\/(k="tuple_iterator"/\h.IsTupleIter it l m/\h.IsTuple l vals)
def IQ (k:String) (it l:Sm) (m:Nat) (h:TM):Prop:=(k="list_iterator"/\h.IsListIter it l m)\/(k="tuple_iterator"/\h.IsTupleIter it l m)
theorem SQ.iq {k:String}{it l:Sm}{vals:Array R8}{m:Nat}{h:TM}(x:SQ k it l vals m h):IQ k it l m h:=x.elim (λx=>.inl ⟨x.1,x.2.1⟩) λx=>.inr ⟨x.1,x.2.1⟩
theorem uw (prog:Su) (w:S3) (k:String) (it l:Sm) (vals:Array R8) (hne:l≠it):jx prog w it l vals (SQ k it l vals) where
 keep:=λm h h' st k1 k2=>by
  rcases st with ⟨e,st⟩ | ⟨e,st⟩
  ·exact .inl ⟨e,(lV prog w it l vals hne).keep m h h' st k1 k2⟩
  ·exact .inr ⟨e,(kC prog w it l vals hne).keep m h h' st k1 k2⟩
 there:=λm h st=>by
  rcases st with ⟨e,st⟩ | ⟨e,st⟩
  ·exact (lV prog w it l vals hne).there m h st
  ·exact (kC prog w it l vals hne).there m h st
 item:=λA s m x Q E st hx hQ=>by
  rcases st with ⟨e,st⟩ | ⟨e,st⟩
  ·exact (lV prog w it l vals hne).item A s m x Q E st hx λh' a1 a2=>hQ h' (.inl ⟨e,a1⟩) a2
  ·exact (kC prog w it l vals hne).item A s m x Q E st hx λh' a1 a2=>hQ h' (.inr ⟨e,a1⟩) a2
 fin:=λA s m Q E hh st hx hE=>by
  rcases st with ⟨e,st⟩ | ⟨e,st⟩
  ·exact (lV prog w it l vals hne).fin A s m Q E hh st hx hE
  ·exact (kC prog w it l vals hne).fin A s m Q E hh st hx hE
def ic (k:String) (K:R7) (H:Hp) (l:Sm) (xs:List V):Prop:=(k="list_iterator"/\cK K H l xs)\/(k="tuple_iterator"/\cZ K H l xs)
section
variable {X:Cx}{RX:List (Sm×Obj)}{σ:L2.St}{H:Hp}{s:R_}
theorem ic.get {k:String}{l:Sm}{xs:List V}(I:Inv X RX σ H s) (h:ic k X.K H l xs):∃RY:List R8,Vals xs RY/\pN k s.heap l RY.toArray:=by
 rcases h with ⟨e,h⟩ | ⟨e,h⟩
 ·obtain ⟨RY,r,p,_⟩:=I.list h
  exact ⟨RY,r,.inl ⟨e,p.isList⟩⟩
 ·obtain ⟨RY,r,p,_⟩:=I.tuple h
  exact ⟨RY,r,.inr ⟨e,p⟩⟩
theorem ic.inj {k:String}{l:Sm}{xs ys:List V}(I:Inv X RX σ H s) (h:ic k X.K H l xs) (h':ic k X.K H l ys):xs=ys:=by
 rcases h with ⟨e,h⟩ | ⟨e,h⟩ <;> rcases h' with ⟨e',h'⟩ | ⟨e',h'⟩
 ·exact I.list_inj h h'
 ·rw [e] at e';exact absurd e' (by decide)
 ·rw [e] at e';exact absurd e' (by decide)
 ·exact I.tuple_inj h h'
theorem ic.ne {k:String}{l b:Sm}{xs:List V}(I:Inv X RX σ H s) (h:ic k X.K H l xs) (f:iw X RX H b):l≠b:=by
 have t:(∃o,H l=some o)\/∃o,X.K.lookup l=some o:=by
  rcases h with ⟨_,h⟩ | ⟨_,h⟩ <;> rcases h with (h | ⟨o,h⟩) | ⟨o,_,_,h,_⟩
  ·exact .inl ⟨_,h⟩
  ·exact .inl ⟨_,h⟩
  ·exact .inr ⟨o,h⟩
  ·exact .inl ⟨_,h⟩
  ·exact .inl ⟨_,h⟩
  ·exact .inr ⟨o,h⟩
 rintro rfl
 rcases t with ⟨o,t⟩ | ⟨o,t⟩
 ·rw [f.1] at t;cases t
 ·have hb:X.base.get? l=some o:=I.ok.mod.kin l o t
  rcases f.2.2.2.1 with z | z
  ·exact I.ok.noex l o hb z
  ·exact absurd (SG (Sz (I.ok.bs l o hb).1) z) (Us _)
end
noncomputable def Oa (K:R7) (k1:String) (l1:Sm) (k2:String) (l2:Sm):It:=
 ⟨λi H=>∃xs ys x y,ic k1 K H l1 xs/\ic k2 K H l2 ys/\xs[i]?=some x/\ys[i]?=some y,
  λi H v H'=>∃p,H p=none/\v=.ref p/\∀xs ys x y,ic k1 K H l1 xs->ic k2 K H l2 ys->xs[i]?=some x->ys[i]?=some y->H'=upd H p (.tup [x,y]),
  λi H=>∃xs ys,ic k1 K H l1 xs/\ic k2 K H l2 ys/\(xs.length<=i\/ys.length<=i)⟩
noncomputable def Oi (k1 k2:String) (l1 l2 z TI TO i1 i2:Sm) (i:Nat) (h:TM):Prop:=aab h z TI TO .none/\WM h TI (.ref i1) (.ref i2)/\(∃a b,WM h TO a b)/\IQ k1 i1 l1 i h/\IQ k2 i2 l2 i h
theorem IQ.keep {k:String}{it l:Sm}{m:Nat}{h h':TM}(x:IQ k it l m h) (kp:∀o,h.get? it=some o->h'.get? it=some o):IQ k it l m h':=by
 rcases x with ⟨e,o,h1,r⟩ | ⟨e,o,h1,r⟩
 ·exact .inl ⟨e,o,kp o h1,r⟩
 ·exact .inr ⟨e,o,kp o h1,r⟩
theorem IQ.obj {k:String}{it l:Sm}{m:Nat}{h:TM}(x:IQ k it l m h):∃o,h.get? it=some o/\∀v,o.data≠.cell v:=by
 rcases x with ⟨e,o,h1,_,d⟩ | ⟨e,o,h1,_,d⟩ <;> exact ⟨o,h1,λv z=>by rw [d] at z;cases z⟩
theorem IQ.sq {k:String}{it l:Sm}{m:Nat}{h:TM}{vals:Array R8}(x:IQ k it l m h) (q:pN k h l vals):SQ k it l vals m h:=by
 rcases x with ⟨e,x⟩ | ⟨e,x⟩ <;> rcases q with ⟨e',q⟩ | ⟨e',q⟩
 ·exact .inl ⟨e,x,q⟩
 ·rw [e] at e';exact absurd e' (by decide)
 ·rw [e] at e';exact absurd e' (by decide)
 ·exact .inr ⟨e,x,q⟩
theorem HD {P:Su}{w:S3}{K:R7}{elts:List S4}{kk:Nat}{tp:Pos}(k1 k2:String) (l1 l2 z TI TO i1 i2:Sm) (n1:TI≠z) (n2:TO≠z) (n3:i1≠z) (n4:i2≠z) (n5:TI≠TO) (n6:TI≠i1) (n7:TI≠i2) (n8:TO≠i1) (n9:TO≠i2) (n10:i1≠i2):
  Turn P w K (.Tuple elts kk tp) (Oa K k1 l1 k2 l2) [z,TI,TO,i1,i2] z (Oi k1 k2 l1 l2 z TI TO i1 i2) where
 mem:=by simp
 obj:=λi h st b hb=>by
  obtain ⟨hz,hTI,⟨a,c,hTO⟩,q1,q2⟩:=st
  simp only [Sn,Tz,or_false] at hb
  rcases hb with rfl | rfl | rfl | rfl | rfl
  ·exact ⟨_,hz,λv q=>by cases (show acN _=aa6 v from q)⟩
  ·exact ⟨_,hTI,λv q=>by cases (show adb _ _=aa6 v from q)⟩
  ·exact ⟨_,hTO,λv q=>by cases (show adb _ _=aa6 v from q)⟩
  ·exact q1.obj
  ·exact q2.obj
 keep:=λi h h' st kp=>by
  obtain ⟨hz,hTI,⟨a,c,hTO⟩,q1,q2⟩:=st
  exact ⟨kp z (by simp) _ hz,kp TI (by simp) _ hTI,⟨a,c,kp TO (by simp) _ hTO⟩,q1.keep λo e=>kp i1 (by simp) o e,q2.keep λo e=>kp i2 (by simp) o e⟩
 item:=by
  intro X hP hw hK hc i RX s σ H E I hf st hg
  subst hP hw hK
  obtain ⟨hz,hTI,⟨a,c,hTO⟩,q1,q2⟩:=st
  obtain ⟨xs,ys,x,y,s1,s2,hx,hy⟩:=hg
  obtain ⟨RY,r1,p1⟩:=s1.get I
  obtain ⟨its2,r2,p2⟩:=s2.get I
  obtain ⟨u,hu,ru⟩:=r1.get hx
  obtain ⟨v,hv,rv⟩:=r2.get hy
  have ne1:∀b∈[z,TI,TO,i1,i2],l1≠b:=λb hb=>s1.ne I (hf b hb)
  have ne2:∀b∈[z,TI,TO,i1,i2],l2≠b:=λb hb=>s2.ne I (hf b hb)
  have Dz:aaa z TI TO i1 i2 l1 l2:=⟨n1,n2,n3,n4,n5,n6,n7,n8,n9,n10,ne1 z (by simp),ne1 TO (by simp),ne1 i1 (by simp),ne1 i2 (by simp),ne2 z (by simp),ne2 TO (by simp),ne2 i1 (by simp),ne2 i2 (by simp)⟩
  refine yq (uw X.prog X.w k1 i1 l1 RY.toArray (ne1 i1 (by simp))) (uw X.prog X.w k2 i2 l2 its2.toArray (ne2 i2 (by simp))) Dz hz hTI hTO (q1.sq p1) (q2.sq p2) (by simpa using hu) (by simpa using hv) λh' a1 a2 a3 a4 a5 a6 hk=>?_
  refine ⟨_,rfl,wpAny_letOwnedTupleGo_zip (s:={s with heap:=h'}) a1 λh'' z'' sb=>?_⟩
  have fT:H s.heap.objs.size=none:=I.hok.fresh (Sj _)
  have old:∀{b:Sm}{o:Obj},s.heap.get? b=some o->b≠s.heap.objs.size:=λe=>SY (Sz e)
  have zT:z≠s.heap.objs.size:=old hz
  have kk':∀b o,b∉[z,TO,i1,i2]->s.heap.get? b=some o->h''.get? b=some o:=λb o hb e=>by
   simp only [Sn,Tz,or_false,not_or] at hb
   exact sb.extBut _ _ hb.1 (hk b o hb.1 hb.2.1 hb.2.2.1 hb.2.2.2 e)
  have ff:∀b∈[z,TO,i1,i2],iw X RX H b:=λb hb=>hf b (by
   simp only [Sn,Tz,or_false] at hb ⊢
   rcases hb with rfl | rfl | rfl | rfl <;> simp)
  have Tn:∀b∈[z,TI,TO,i1,i2],b≠s.heap.objs.size:=λb hb=>by
   simp only [Sn,Tz,or_false] at hb
   rcases hb with rfl | rfl | rfl | rfl | rfl
   ·exact old hz
   ·exact old hTI
   ·exact old hTO
   ·exact old q1.obj.choose_spec.1
   ·exact old q2.obj.choose_spec.1
  have up':∀{b:Sm}{o:HO},H b=some o->upd H s.heap.objs.size (.tup [x,y]) b=some o:=λe=>by rw [bz (eu e fT)];exact e
  have I2:Inv X RX σ (upd H s.heap.objs.size (.tup [x,y])) {s with heap:=h'',gens:=s.gens,drawn:=s.drawn,toks:=s.toks}:=by
   refine I.step (ch:=[z,TO,i1,i2]) (λb hb=>⟨(ff b hb).2.2.2.1,(ff b hb).2.1,(ff b hb).2.2.2.2.1,(ff b hb).2.2.2.2.2⟩) (λb o _ _ hb e _=>kk' b o hb e) (λb o _ _ hb e _=>⟨o.slots,kk' b o hb e⟩) (λb o hb e n=>by rw [bz (old e)];exact n)
    (λb o hb e=>⟨o,kk' b o hb e⟩) (λb xs e=>up' e) (λb o q e=>up' e) (λb ps e=>⟨#[],by rw [aac];exact up' e⟩) (λm hm=>?_) (λb q e=>?_) I.bare
   ·obtain ⟨o,es,ep,ho,r⟩:=hm
    exact ⟨o,es,ep,kk' _ o (λhb=>(ff _ hb).2.1 rfl) ho,r⟩
   ·by_cases hb:b=s.heap.objs.size
    ·subst hb
     rw [bU] at e
     cases e
     refine ⟨(by show 2<=sizeLine;decide),[u,v],.cons ru (.cons rv .nil),⟨_,sb.extBut _ _ (U_ zT) a5,rfl,0,rfl⟩⟩
    ·rw [bz hb] at e
     have nch:∀d,(d=b\/H d=some (.own b))->d∉[z,TO,i1,i2]:=λd hd hm=>by
      have:=(ff d hm).1
      rcases hd with rfl | hd
      ·rw [this] at e;cases e
      ·rw [this] at hd;cases hd
     exact (I.hok b q e).stay (λd o hd ho=>kk' d o (nch d hd) ho) (λ_ h=>up' h) λ_ _ h=>up' h
  refine ⟨.ref s.heap.objs.size,_,I2,rfl,⟨s.heap.objs.size,fT,rfl,λxs' ys' x' y' c1 c2 c3 c4=>?_⟩,⟨z'',sb.extBut _ _ n1 (hk TI _ n1 n5 n6 n7 hTI),⟨_,_,sb.extBut _ _ n2 a2⟩,a3.iq.keep λo e=>sb.extBut _ _ n3 e,a4.iq.keep λo e=>sb.extBut _ _ n4 e⟩,λb hb=>by rw [bz (Tn b hb)];exact (hf b hb).1⟩
  have e1:=ic.inj I c1 s1
  have e2:=ic.inj I c2 s2
  subst e1 e2
  rw [hx] at c3;rw [hy] at c4
  cases c3;cases c4
  rfl
 done:=by
  intro X hP hw hK hc i RX s σ H E I hf st hg
  subst hP hw hK
  obtain ⟨hz,hTI,⟨a,c,hTO⟩,q1,q2⟩:=st
  obtain ⟨xs,ys,s1,s2,hend⟩:=hg
  obtain ⟨RY,r1,p1⟩:=s1.get I
  obtain ⟨its2,r2,p2⟩:=s2.get I
  have ne1:∀b∈[z,TI,TO,i1,i2],l1≠b:=λb hb=>s1.ne I (hf b hb)
  have ne2:∀b∈[z,TI,TO,i1,i2],l2≠b:=λb hb=>s2.ne I (hf b hb)
  have Dz:aaa z TI TO i1 i2 l1 l2:=⟨n1,n2,n3,n4,n5,n6,n7,n8,n9,n10,ne1 z (by simp),ne1 TO (by simp),ne1 i1 (by simp),ne1 i2 (by simp),ne2 z (by simp),ne2 TO (by simp),ne2 i1 (by simp),ne2 i2 (by simp)⟩
  have QF:RY.toArray[i]?=none\/its2.toArray[i]?=none:=by
   have e1:=r1.length
   have e2:=r2.length
   rcases hend with h | h
   ·left;simp;omega
   ·right;simp;omega
  refine uV (I.ok.hd hc) (uw X.prog X.w k1 i1 l1 RY.toArray (ne1 i1 (by simp))) (uw X.prog X.w k2 i2 l2 its2.toArray (ne2 i2 (by simp))) Dz hz hTI hTO (q1.sq p1) (q2.sq p2) QF λh' hk=>⟨rfl,?_⟩
  have ff:∀b∈[z,TO,i1,i2],iw X RX H b:=λb hb=>hf b (by
   simp only [Sn,Tz,or_false] at hb ⊢
   rcases hb with rfl | rfl | rfl | rfl <;> simp)
  have kk':∀b o,b∉[z,TO,i1,i2]->s.heap.get? b=some o->h'.get? b=some o:=λb o hb e=>by
   simp only [Sn,Tz,or_false,not_or] at hb
   exact hk b o hb.1 hb.2.1 hb.2.2.1 hb.2.2.2 e
  refine I.step (ch:=[z,TO,i1,i2]) (g':=s.gens) (d':=s.drawn) (t':=s.toks) (λb hb=>⟨(ff b hb).2.2.2.1,(ff b hb).2.1,(ff b hb).2.2.2.2.1,(ff b hb).2.2.2.2.2⟩) (λb o _ _ hb e _=>kk' b o hb e) (λb o _ _ hb e _=>⟨o.slots,kk' b o hb e⟩) (λb o hb e n=>n)
    (λb o hb e=>⟨o,kk' b o hb e⟩) (λb xs e=>e) (λb o q e=>e) (λb ps e=>⟨#[],by rw [aac];exact e⟩) (λm hm=>?_) (λb q e=>?_) I.bare
  ·obtain ⟨o,es,ep,ho,r⟩:=hm
   exact ⟨o,es,ep,kk' _ o (λhb=>(ff _ hb).2.1 rfl) ho,r⟩
  ·have nch:∀d,(d=b\/H d=some (.own b))->d∉[z,TO,i1,i2]:=λd hd hm=>by
    have:=(ff d hm).1
    rcases hd with rfl | hd
    ·rw [this] at e;cases e
    ·rw [this] at hd;cases hd
   exact (I.hok b q e).stay (λd o hd ho=>kk' d o (nch d hd) ho) (λ_ h=>h) λ_ _ h=>h
 self:=λA i s Q E st h=>aaX st.1 h
section
variable {X:Cx}{c:C}{e a b:S4}{es:List S4}{ga gb g:G R}{pos:Pos}{elts:List S4}{kk:Nat}{tp:Pos}
noncomputable def OH (K:R7) (ta:TA):TI:=λσ H Q=>ta σ H λvs H1=>∃k1 l1 xs k2 l2 ys,vs=[.ref l1,.ref l2]/\ic k1 K H1 l1 xs/\ic k2 K H1 l2 ys/\Q (Oa K k1 l1 k2 l2) H1
theorem Mw {ta:TA}{p:Pos}(hg:Gl X "zip") (hm:X.mg "zip"=none) (ha:PA X [a,b] ta) (hs:Sl [a,b] X.env=[(false,eval a X.env),(false,eval b X.env)]:=by rfl) (hs2:Sl [b] X.env=[(false,eval b X.env)]:=by rfl):
  PI X (.Tuple elts kk tp) (.Call (.Name "zip" p) [a,b] [] pos) (OH X.K ta):=by
 intro RX s σ H R I h
 refine Call_ (nE I hg hm boot_zip (Vf (bN (ha pos RX s σ H _ I h) λus s1 ⟨vs,H1,I1,r1,q1⟩=>?_) (by rw [hs,hs2]) (by rw [hs2];rfl)))
 obtain ⟨k1,l1,xs,k2,l2,ys,e,s1',s2',q⟩:=q1
 subst e
 obtain ⟨RY,v1,p1⟩:=s1'.get I1
 obtain ⟨its2,v2,p2⟩:=s2'.get I1
 cases r1 with
 | cons r rr=>
  cases rr with
  | cons r' rr=>
   cases rr
   cases r
   cases r'
   refine callType_new F.called_zip (by decide) (F.typeCall_zip_2 _ _) (F.newCall_zip_2 _ _) (λ_=>by first | exact F.args_object_init _ | rfl | decide) F.entry_zip_new (K0 k1 k2 l1 l2 RY.toArray its2.toArray) ?_
   refine ⟨p1,p2,?_⟩
   have f0:∀{h:TM}{o:Obj},o.isFreed=false->(h.push o).get? h.objs.size=some o:=λho=>Sk _ ho
   have gp:∀{h:TM}{q:Sm}{u:Obj}(o:Obj),h.get? q=some u->(h.push o).get? q=some u:=λo e=>Sg _ e
   refine ⟨⟨_,Sk _ rfl,rfl⟩,aaX (f0:=.none) (Sk _ rfl) ?_⟩
   have e1:(s1.heap.push (cj k1 l1)).objs.size=s1.heap.objs.size + 1:=UC ..
   have e2:((s1.heap.push (cj k1 l1)).push (cj k2 l2)).objs.size=s1.heap.objs.size + 2:=by rw [UC,e1]
   have e3:(FL s1.heap (cj k1 l1) (cj k2 l2)).objs.size=s1.heap.objs.size + 3:=by unfold FL;rw [UC,e2]
   have e4:(FN s1.heap (cj k1 l1) (cj k2 l2)).objs.size=s1.heap.objs.size + 4:=by unfold FN;rw [UC,e3]
   have up5:∀b o,s1.heap.get? b=some o->(FO s1.heap (cj k1 l1) (cj k2 l2)).get? b=some o:=λb o h=>gp _ (gp _ (gp _ (gp _ (gp _ h))))
   have I5:Inv X RX σ H1 {s1 with heap:=FO s1.heap (cj k1 l1) (cj k2 l2)}:=I1.kept (t':=s1.toks) up5
   refine ⟨_,[(FN s1.heap (cj k1 l1) (cj k2 l2)).objs.size,((s1.heap.push (cj k1 l1)).push (cj k2 l2)).objs.size,(FL s1.heap (cj k1 l1) (cj k2 l2)).objs.size,s1.heap.objs.size,(s1.heap.push (cj k1 l1)).objs.size],
    Oi k1 k2 l1 l2 _ _ _ _ _,_,H1,rfl,I5,HD k1 k2 l1 l2 _ _ _ _ _ (by rw [e2,e4];simp [Sm]) (by rw [e3,e4];simp) (by rw [e4];simp) (by rw [e1,e4];simp) (by rw [e2,e3];simp) (by rw [e2];simp) (by rw [e2,e1];simp) (by rw [e3];simp) (by rw [e3,e1];simp) (by rw [e1];simp),?_,?_,q⟩
   ·refine ⟨Sk _ rfl,gp _ (gp _ (Sk _ rfl)),⟨.none,.none,gp _ (Sk _ rfl)⟩,?_,?_⟩
    ·have h1:(FO s1.heap (cj k1 l1) (cj k2 l2)).get? s1.heap.objs.size=some (cj k1 l1):=gp _ (gp _ (gp _ (gp _ (Sk _ rfl))))
     rcases p1 with ⟨rfl,_⟩ | ⟨rfl,_⟩
     ·exact .inl ⟨rfl,_,h1,rfl,rfl⟩
     ·exact .inr ⟨rfl,_,h1,rfl,rfl⟩
    ·have h1:(FO s1.heap (cj k1 l1) (cj k2 l2)).get? (s1.heap.push (cj k1 l1)).objs.size=some (cj k2 l2):=gp _ (gp _ (gp _ (Sk _ rfl)))
     rcases p2 with ⟨rfl,_⟩ | ⟨rfl,_⟩
     ·exact .inl ⟨rfl,_,h1,rfl,rfl⟩
     ·exact .inr ⟨rfl,_,h1,rfl,rfl⟩
   ·intro b hb
    have hle:s1.heap.objs.size<=b:=by
     simp only [Sn,Tz,or_false] at hb
     rcases hb with rfl | rfl | rfl | rfl | rfl
     ·rw [e4];exact UM _ _
     ·rw [e2];exact UM _ _
     ·rw [e3];exact UM _ _
     ·exact Sj _
     ·rw [e1];exact UM _ _
    have fp:=I1.fpOk hle (I1.hok.fresh hle)
    exact fp
theorem Hr {K:R7}{J:Hp}{xs ys:List D}{us vs:List V}{i:Nat}{d:D}(h1:aK K J xs us) (h2:aK K J ys vs) (e:(aaM (λa b=>D.tup [a,b]) xs ys)[i]?=some d):∃x y u v,d=.tup [x,y]/\us[i]?=some u/\vs[i]?=some v/\Rep K J x u/\Rep K J y v:=by
 rw [List.getElem?_zipWith] at e
 cases q1:xs[i]? with
 | none=>rw [q1] at e;simp at e
 | some x=>
  cases q2:ys[i]? with
  | none=>rw [q1,q2] at e;simp at e
  | some y=>
   rw [q1,q2] at e
   simp at e
   obtain ⟨u,a1,a2⟩:=h1.get q1
   obtain ⟨v,b1,b2⟩:=h2.get q2
   exact ⟨x,y,u,v,e.symm,a1,b1,a2,b2⟩
end
section
variable {X:Cx}{c:C}{e a b tg:S4}{es:List S4}{ga gb g:G R}{pos:Pos}
def HL (K:R7) (mg:Str->Option R8) (x:Str) (d:D):Prop:=∃u v,mg x=some u/\RelV v u/\∀J,Rep K J d v
theorem wZ:TX "int"=some (.type "int"):=by decide +kernel
theorem ug:TX "bool"=some (.type "bool"):=by decide +kernel
theorem AO:TX "tuple"=some (.type "tuple"):=by decide +kernel
end
section
variable {X:Cx}{c:C}{e a b tg:S4}{es:List S4}{ga gb g:G R}{pos:Pos}{st:VA}{t u:G O}{tb:G Bool}
def yF:G O:=λ_=>.bad
noncomputable def Gg (g:G R):G R:=λenv=>g env >>= λr=>match r with
 | .d (.int i)=>.ok (.d (.int (-i)))
 | _=>.bad
noncomputable def AF:R->M Bool
 | .d .non=>.ok false
 | .d (.bl b)=>.ok b
 | .d (.int i)=>.ok (i != 0)
 | .d (.str y)=>if y.length<=sizeLine then .ok ((y.length:Int) != 0) else .bad
 | .d (.tup xs)=>.ok (!xs.isEmpty)
 | .d (.lst xs)=>.ok (!xs.isEmpty)
 | .d .emp=>.ok false
 | .d (.exn _ _ _)=>.bad
 | .d (.dct _ _)=>.bad
 | .l _ xs=>.ok (!xs.isEmpty)
 | _=>.bad
theorem LF {K:R7}{J:Hp}{ds:List D}{vs:List V}(h:aK K J ds vs):ds.isEmpty=vs.isEmpty:=by
 cases h <;> rfl
theorem KU {He J H:Hp}(hp:HI c J H){Q:Bool->Prop}{T:Exc->Prop}:∀{r:R}{v:V},RR c He J H r v->cA (AF r) Q T->∃k,FY c.K v H k/\Q k
 | .d .non,_,h,w=>by cases h;exact ⟨_,rfl,w⟩
 | .d (.bl b),_,h,w=>by cases h;exact ⟨_,rfl,w⟩
 | .d (.int i),_,h,w=>by cases h;exact ⟨_,rfl,w⟩
 | .d (.str y),_,h,w=>by
  cases h
  unfold AF at w
  simp only at w
  split at w
  ·rename_i hz;exact ⟨_,⟨hz,rfl⟩,w⟩
  ·exact w.elim
 | .d (.tup xs),_,h,w=>by
  cases h with
  | tup h1 h2=>exact ⟨_,.inr (.inl ⟨_,fC hp.sub h1,rfl⟩),by rw [<-LF h2];exact w⟩
 | .d (.lst xs),_,h,w=>by
  cases h with
  | lst h1 h2=>exact ⟨_,.inl ⟨_,hp.sub.seq h1,rfl⟩,by rw [<-LF h2];exact w⟩
 | .d .emp,_,h,w=>by
  cases h with
  | emp h1=>exact ⟨_,.inr (.inr ⟨_,hp.sub _ _ h1,rfl⟩),w⟩
 | .d (.exn _ _ _),_,_,w=>w.elim
 | .d (.dct _ _),_,_,w=>w.elim
 | .mo _ _,_,_,w=>w.elim
 | .mb _ _,_,_,w=>w.elim
 | .mf _ _,_,_,w=>w.elim
 | .l m xs,_,h,w=>by
  obtain ⟨a,vs,rfl,h1,h2⟩:=RR.list hp h rfl
  exact ⟨_,.inl ⟨_,h1,rfl⟩,by rw [<-LF h2];exact w⟩
def p6 (g:G R):G Bool:=λenv=>g env >>= AF
noncomputable def lH (tb:G Bool) (u:G O):Nat->Ev->M O
 | 0,_=>.bad
 | n + 1,env=>tb env >>= λk=>if k=true then u env >>= λo=>(match o with
  | .nx e=>lH tb u n e
  | .ct e=>lH tb u n e
  | .bk e=>.ok (.nx e)
  | .rt r=>.ok (.rt r)) else .ok (.nx env)
def zH (n:Nat) (tb:G Bool) (u:G O):G O:=λenv=>lH tb u n env
theorem aK.eraseIdx {K:R7}{J:Hp}:∀{ds:List D}{vs:List V}(k:Nat),aK K J ds vs->aK K J (ds.eraseIdx k) (vs.eraseIdx k)
 | _,_,_,.nil=>by rw [aaC,aaC];exact .nil
 | _,_,0,.cons _ t=>t
 | _,_,k + 1,.cons r t=>.cons r (aK.eraseIdx k t)
noncomputable def PY (i j:Nat):G O:=λenv=>match env[j]? with
 | some (some (.own xs))=>(match xs[xs.length - 1]? with
  | some d=>.ok (.nx ((env.set j (some (.own xs.dropLast))).set i (some (.d d))))
  | none=>.bad)
 | _=>.bad
noncomputable def nA (i j:Nat) (g:G R):G O:=λenv=>match env[i]?,env[j]? with
 | some (some (.own zs)),some (some (.own xs))=>if i=j then .bad else g env >>= λr=>(match r with
  | .d (.int k)=>if 0<=k/\k.toNat < xs.length/\zs.length < sizeLine/\xs.length<=sizeLine then (match xs[k.toNat]? with
   | some d=>.ok (.nx ((env.set j (some (.own (xs.eraseIdx k.toNat)))).set i (some (.own (zs++[d])))))
   | none=>.bad) else .bad
  | _=>.bad)
 | _,_=>.bad
theorem NT {k:Int}{n:Nat}(h0:0<=k) (h:k.toNat < n):Z5 k n=some k.toNat:=by
 unfold Z5
 have h1:¬k < 0:=by omega
 have h2:k < n:=by omega
 simp [h1,h0,h2]
theorem Mh {J H:Hp}{σ:L2.St}{env:Ev}(sr:SR c J H σ env){i j:Nat}{xs ys:List D}{p q:Sm}(hij:i≠j) (hi:env[i]?=some (some (.own xs))) (hj:env[j]?=some (some (.own ys))) (h1:σ[i]?=some (some (.ref p))) (h2:σ[j]?=some (some (.ref q))):p≠q:=λz=>
 sr.sep i j (.inl xs) (.inl ys) (.ref p) hij hi hj h1 (z▸h2)
end
open PySem.AutoSeq1 in
theorem Ej (T:String) (hT:T="tuple"\/T="list") (l b:Sm) (xs ys:Array R8) (n m:Nat) (dd:Option Sm) (sl:Array (Option R8)) (z0:¬(!xs.isEmpty && U1 (xs.size + ys.size))=true) (z1:xs.size<=sizeLine) (z2:xs.size + ys.size<=sizeLine + 1):
  Meets (Ww.«list.extend» ⟨[.ref l,.ref b],[]⟩) λ_ R s=>s.heap.get? l=some {cls:=.type "list",dict:=none,data:=.seq xs n,slots:=#[]}/\
   s.heap.get? b=some {cls:=.type T,dict:=dd,data:=.seq ys m,slots:=sl}/\R (.ok (.ret Tq)) {s with heap:=s.heap.update l (U0 λx=>x++ys),toks:=s.toks}:=
 .of_wp λprog w A R s h=>by
  obtain ⟨hp,gs,dr,tk,os⟩:=s
  obtain ⟨h1,h2,h3⟩:=h
  have t1:=AutoSeq1.idx_int
  have t2:=WA
  have t3:=AutoSeq1.sub_list_list
  have t4:=AutoSeq1.sub_tuple_list
  have t5:=AutoSeq1.sub_list_tuple
  have z3:(xs++ys).size<=sizeLine + 1:=by
   rw [aay]
   exact z2
  rcases hT with rfl | rfl
  ·wp_walk using (XI h1 rfl (hz:=z1) (_hz':=z3)),Vh h1,Vh h2
   exact ⟨_,rfl,h3⟩
  ·wp_walk using (XI h1 rfl (hz:=z1) (_hz':=z3)),Vh h1,Vh h2
   exact ⟨_,rfl,h3⟩
section
variable {X:Cx}{c:C}{e a b tg:S4}{es:List S4}{ga gb g:G R}{pos:Pos}
noncomputable def OO (K:R7):V->List V->Hp->VK->Prop:=λx vs H Q=>∃l b xs zs,x=.ref l/\vs=[.ref b]/\H l=some (.lst xs)/\(cK K H b zs\/cZ K H b zs)/\xs.length + zs.length<=sizeLine/\Q .non (upd H l (.lst (xs++zs)))
theorem L5:HR X "list.extend" (OO X.K):=by
 intro RX s σ H x vs v us Q I rx rv h
 obtain ⟨l,b,xs,zs,rfl,rfl,hH,hB,hz,q⟩:=h
 cases rx
 obtain ⟨u,rfl,ru⟩:=rv.one
 cases ru
 obtain ⟨z,RY,n,r,hl,e⟩:=I.lstM hH
 have obj:∃T its2,(T="tuple"\/T="list")/\Vals zs its2/\∃dd m sl,s.heap.get? b=some {cls:=.type T,dict:=dd,data:=.seq its2.toArray m,slots:=sl}:=by
  rcases hB with hB | hB
  ·obtain ⟨its2,r2,pl,_⟩:=I.list hB
   obtain ⟨⟨cls,dd,data,sl⟩,ho,hc,m,hd⟩:=pl.isList
   simp only at hc hd
   subst hc hd
   exact ⟨"list",its2,.inr rfl,r2,dd,m,sl,ho⟩
  ·obtain ⟨its2,r2,pl,_⟩:=I.tuple hB
   obtain ⟨⟨cls,dd,data,sl⟩,ho,hc,m,hd⟩:=pl
   simp only at hc hd
   subst hc hd
   exact ⟨"tuple",its2,.inl rfl,r2,dd,m,sl,ho⟩
 obtain ⟨T,its2,hT,r2,dd,m,sl,e2⟩:=obj
 have hl2:=r2.length
 have hsz:RY.toArray.size + its2.toArray.size<=sizeLine:=by rw [So,So];omega
 have Qh:¬(!RY.toArray.isEmpty && U1 (RY.toArray.size + its2.toArray.size))=true:=by
  rw [Ad hsz,Vx]
  exact SX
 refine aat Z6 ⟨_,e,rfl⟩ ZL (Zq _ _) (Ej T hT l b RY.toArray its2.toArray n m dd sl Qh (by rw [So];omega) (by omega)) ⟨e,e2,?_⟩
 refine ⟨.non,_,I.lset (its':=RY++its2) hH e (by simp) (r.append r2) ?_,rfl,q⟩
 rw [SI]
 omega
noncomputable def p5 (i:Nat) (g:G R):G O:=λenv=>match env[i]? with
 | some (some (.own xs))=>g env >>= λr=>iM r >>= λys=>if xs.length + ys.length<=sizeLine then .ok (.nx (env.set i (some (.own (xs++ys))))) else .bad
 | _=>.bad
noncomputable def Af:V->Option (Option Bool)
 | .non=>some none
 | .bl k=>some (some k)
 | _=>none
theorem Hv {x y:V}{v u:R8}{o:Option Bool}(rx:RelV x v) (ry:RelV y u) (h:Af y=some o):isSame v u=pure (Af x == some o):=by
 cases y with
 | non=>
  cases h
  cases ry
  cases x with
  | non=>cases rx;rfl
  | bl k=>cases rx;rfl
  | int i=>obtain ⟨t,rfl⟩:=rx;rfl
  | str z=>obtain ⟨t,rfl⟩:=rx;rfl
  | byt z=>obtain ⟨t,rfl⟩:=rx;rfl
  | flt z=>obtain ⟨t,rfl⟩:=rx;rfl
  | ref p=>cases rx;rfl
  | ty n=>cases rx;rfl
 | bl k'=>
  cases h
  cases ry
  cases x with
  | non=>cases rx;rfl
  | bl k=>cases rx;cases k <;> cases k' <;> rfl
  | int i=>obtain ⟨t,rfl⟩:=rx;rfl
  | str z=>obtain ⟨t,rfl⟩:=rx;rfl
  | byt z=>obtain ⟨t,rfl⟩:=rx;rfl
  | flt z=>obtain ⟨t,rfl⟩:=rx;rfl
  | ref p=>cases rx;rfl
  | ty n=>cases rx;rfl
 | _=>cases h
theorem ES:cW X (T5 .Is) (λx y H Q=>∃o,Af y=some o/\Q (.bl (Af x == some o)) H):=by
 intro RX s σ H x y v u Q I rx ry h
 obtain ⟨o,ho,q⟩:=h
 show Sx _ _ (do return VD (<-isSame v u)) _ _ s
 rw [Hv rx ry ho]
 exact R6 (R9 (R9 ⟨.bl _,H,I,rfl,q⟩))
noncomputable def CV:R->Option (Option Bool)
 | .d .non=>some none
 | .d (.bl k)=>some (some k)
 | _=>none
noncomputable def kT (neg:Bool) (x y:R):M R:=match CV y with
 | some o=>.ok (.d (.bl (if neg then !(CV x == some o) else CV x == some o)))
 | none=>.bad
theorem qW {He J H:Hp}:∀{r:R}{v:V},RR c He J H r v->Af v=CV r
 | .d .non,_,h=>by cases h;rfl
 | .d (.bl _),_,h=>by cases h;rfl
 | .d (.int _),_,h=>by cases h;rfl
 | .d (.str _),_,h=>by cases h;rfl
 | .d (.tup _),_,h=>by cases h;rfl
 | .d (.lst _),_,h=>by cases h;rfl
 | .d .emp,_,h=>by cases h;rfl
 | .d (.exn _ _ _),_,h=>by cases h;rfl
 | .d (.dct _ _),_,h=>by cases h;rfl
 | .l .fresh _,_,h=>by obtain ⟨_,_,rfl,_⟩:=h;rfl
 | .l .own _,_,h=>by obtain ⟨_,_,rfl,_⟩:=h;rfl
 | .l .bor _,_,h=>by obtain ⟨_,_,rfl,_⟩:=h;rfl
 | .mo _ _,_,h=>by obtain ⟨_,rfl,_⟩:=h;rfl
 | .mb _ _,_,h=>by obtain ⟨_,rfl,_⟩:=h;rfl
 | .mf _ _,_,h=>by obtain ⟨_,rfl,_⟩:=h;rfl
end
section
variable {X:Cx}{c:C}{e a b d tg:S4}{es:List S4}{ga gb g:G R}{pos:Pos}
def OG (K:R7) (tl:TE):TI:=λσ H R=>tl σ H λx H1=>∃a,x=.ref a/\(((∃xs,cK K H1 a xs)/\R (HM K a) H1)\/((∃xs,cZ K H1 a xs)/\R (HN K a) H1))
theorem E2 {tl:TE}(hl:PE X e tl):PI X tg e (OG X.K tl):=λRX s σ H R I h=>bN (hl RX s σ H _ I h) λv s1 ⟨x,H1,I1,r1,a,ex,q1⟩=>by
 subst ex
 cases r1
 have fp:∀b∈[s1.heap.objs.size],iw X RX H1 b:=λb hb=>by
  rw [Ss] at hb
  subst hb
  exact I1.fpOk (Sj _) (I1.hok.fresh (Sj _))
 rcases q1 with ⟨⟨xs,hq⟩,q⟩ | ⟨⟨xs,hq⟩,q⟩
 ·obtain ⟨RY,rv,p,hz⟩:=I1.list hq
  exact W3 p.isList ⟨s1.heap.objs.size,[s1.heap.objs.size],_,_,H1,rfl,I1.kept (t':=s1.toks) (λb o e=>Sg _ e),FD a _,⟨_,Sk _ rfl,rfl,rfl⟩,fp,q⟩
 ·obtain ⟨RY,rv,p,hz⟩:=I1.tuple hq
  exact X3 (show s1.heap.IsTuple a RY.toArray from p) ⟨s1.heap.objs.size,[s1.heap.objs.size],_,_,H1,rfl,I1.kept (t':=s1.toks) (λb o e=>Sg _ e),Dw a _,⟨_,Sk _ rfl,rfl,rfl⟩,fp,q⟩
theorem yb {J1:Hp}{a:Sm}{vs:List V}{ds:List D}{U:Hp->Hp->Prop}(hU:∀J H,U J H->aT J1 J) (h:cZ c.K J1 a vs) (hs:aK c.K J1 ds vs):Walk c (HN c.K a) ds J1 U:=by
 intro i J H hp u
 have h':=fC hp.sub (fC (hU J H u) h)
 refine ⟨λhl=>⟨vs,h',by rw [<-hs.length];exact hl⟩,λd hd=>?_⟩
 obtain ⟨v,k1,k2⟩:=hs.get hd
 refine ⟨⟨vs,v,h',k1⟩,λx H2 ⟨e,hy⟩=>?_⟩
 subst e
 have:=hy vs h'
 rw [k1] at this
 cases this
 exact ⟨J,Ext.refl hp.sub,k2.mono (hU J _ u)⟩
noncomputable def jf (g:G R):G (List D):=λenv=>g env >>= λr=>match r with
 | .d (.tup xs)=>.ok xs
 | .d (.lst xs)=>.ok xs
 | .l .fresh xs=>.ok xs
 | .l .bor xs=>.ok xs
 | _=>.bad
def eY (g:G R):G (List D):=λenv=>g env >>= iM
end
section
variable {X:Cx}{c:C}{st:VA}{g:G O}
theorem SR.frz {J H:Hp}{σ:L2.St}{env:Ev}(sr:SR c J H σ env){i:Nat}{x:Mn}{a:Sm}{o:HO}{d:D}(hi:env[i]?=some (some (mS x))) (h1:σ[i]?=some (some (.ref a))) (h2:H a=some o) (h3:J a=none) (h4:c.H0 a=none) (h5:Rep c.K (L2.upd J a o) d (.ref a)):∃J',aT J J'/\SR c J' H σ (env.set i (some (.d d))):=by
 have s1:aT J (L2.upd J a o):=cO h3 _
 refine ⟨L2.upd J a o,s1,⟨⟨λb o q=>?_,sr.hp.ent,sr.hp.entJ.trans s1,λb k1 k2=>?_⟩,by simpa using sr.len,λj y q=>?_,λj k ys zs w hjk q1 q2 q3 q4=>?_⟩⟩
 ·by_cases hb:b=a
  ·subst hb;rw [bU] at q;cases q;exact h2
  ·rw [bz hb] at q;exact sr.hp.sub b o q
 ·have:b≠a:=λz=>k1 (z▸h4)
  rw [bz this];exact sr.hp.frz b k1 k2
 ·rcases gf q with ⟨rfl,hl,rfl⟩ | ⟨hj,q⟩
  ·exact ⟨.ref a,h1,h5⟩
  ·obtain ⟨w,k1,k2⟩:=sr.at_ j y q
   refine ⟨w,k1,?_⟩
   have hne:∀(z:Mn) p',y=mS z->w=.ref p'->p'≠a:=λz p' e ew ep=>sr.sep i j x z (.ref a) (U_ hj) hi (e▸q) h1 (ep▸ew▸k1)
   cases y with
   | d x=>exact Rep.mono s1 k2
   | bor zs=>obtain ⟨p,us,m1,m2,m3⟩:=k2;exact ⟨p,us,m1,m2,m3.mono s1⟩
   | db _ _=>obtain ⟨p,m1,m2⟩:=k2;exact ⟨p,m1,m2.mono s1 (aT.refl _)⟩
   | fn _=>exact k2
   | dk ks zs=>
    obtain ⟨p,rfl,m1,m2,m3⟩:=k2
    exact ⟨p,rfl,m1.mono s1 (aT.refl _),by rw [bz (hne (.inr (ks,zs)) p rfl rfl)];exact m2,m3⟩
   | own zs=>
    obtain ⟨p,us,rfl,m1,m2,m3,m4⟩:=k2
    exact ⟨p,us,rfl,m1,by rw [bz (hne (.inl zs) p rfl rfl)];exact m2,m3,m4.mono s1⟩
 ·have f:∀(k:Nat) (ys:Mn),(env.set i (some (.d d)))[k]?=some (some (mS ys))->env[k]?=some (some (mS ys)):=λk ys q=>by
   rcases gf q with ⟨rfl,_,z⟩ | ⟨_,q⟩
   ·cases ys <;> cases z
   ·exact q
  exact sr.sep j k ys zs w hjk (f j ys q1) (f k zs q2) q3 q4
noncomputable def fW (i:Nat) (g:G O):G O:=λenv=>match env[i]? with
 | some (some (.own xs))=>g (env.set i (some (.d (.lst xs))))
 | some (some (.dk ks vs))=>g (env.set i (some (.d (.dct ks vs))))
 | _=>g env
end
structure QD (X:Cx) (c:C) (x0:S4) (x1:G R):Prop where
 h:PD X c x0 x1
structure QB (X:Cx) (c:C) (x0:S4) (x1:G Bool):Prop where
 h:PB X c x0 x1
structure i8 (X:Cx) (c:C) (x0:List S4) (x1:G (List R)):Prop where
 h:A_ X c x0 x1
structure DN (X:Cx) (c:C) (x0:List S4) (x1:G (List D)):Prop where
 h:Pj X c x0 x1
structure iK (X:Cx) (c:C) (x0:VA) (x1:G O):Prop where
 h:Ba X c x0 x1
structure pq (X:Cx) (c:C) (x0:List VA) (x1:G O):Prop where
 h:HV X c x0 x1
structure yX (X:Cx) (c:C) (x0:S4) (x1:G Bool):Prop where
 h:Pk X c x0 x1
structure kN (X:Cx) (c:C) (x0:S4) (x1:GT):Prop where
 h:i7 X c x0 x1
structure Cc (X:Cx) (c:C) (x0:List S4) (x1:tM):Prop where
 h:Ox X c x0 x1
structure t9 (X:Cx) (c:C) (x0:S4) (x1:S4) (x2:G (List D)):Prop where
 h:yW X c x0 x1 x2
structure rR (X:Cx) (c:C) (x0:S4) (x1:S4) (x2:G (List D)):Prop where
 h:pU X c x0 x1 x2
structure j6 (X:Cx) (c:C) (x0:List S4) (x1:G Bool):Prop where
 h:gu X c x0 x1
structure HW (X:Cx) (c:C) (x0:Option S4) (x1:GO):Prop where
 h:K_ X c x0 x1
section
variable {X:Cx}{c:C}{e a b:S4}{ga gb:G R}{pos:Pos}
theorem aa (i:Nat){x:Str}(hN:X.N[i]?=some x:=by rfl) (hv:rS X.env.scope x:=by first | exact Xf rfl | exact V1 (Xf rfl) | exact V1 (V1 rfl)) (hd:(x == ("__debug__":Str))=false:=by decide)
  (hcd:(x == ("__classdict__":Str))=false:=by decide):QD X c (.Name x pos) (af i):=⟨JX (kY hN hv hd hcd)⟩
theorem az {i:Int}{j:Nat}:QD X c (.Constant (.int i) j pos) (gC (.int i)):=⟨uS (λ_=>.int i) Mk⟩
theorem fB {i:Bool}{j:Nat}:QD X c (.Constant (.bool i) j pos) (gC (.bl i)):=⟨uS (λ_=>.bl i) NB⟩
theorem gT {j:Nat}:QD X c (.Constant .none j pos) (gC .non):=⟨uS (λ_=>.non) Mm⟩
theorem wH {x:Str}{j:Nat}:QD X c (.Constant (.str x) j pos) (gC (.str x)):=⟨uS (λ_=>.str x) Mr⟩
theorem Kv (ha:QD X c a ga) (hb:QD X c b gb):QD X c (.BinOp a .Sub b pos) (g2 Lx ga gb):=have ha:=ha.h;have hb:=hb.h;⟨oO Me (ir λ_ _ _=>.int _) ha hb⟩
theorem eN (ha:QD X c a ga) (hb:QD X c b gb):QD X c (.BinOp a .FloorDiv b pos) (g2 iB ga gb):=have ha:=ha.h;have hb:=hb.h;⟨oO JQ (Cn (λi j h=>JB h) λ_ _ _=>.int _) ha hb⟩
theorem cV (ha:QD X c a ga) (hb:QD X c b gb):QD X c (.BinOp a .Mod b pos) (g2 fG ga gb):=have ha:=ha.h;have hb:=hb.h;⟨oO L_ (Cn (λi j h=>by unfold LO at h;exact of_decide_eq_true h) λ_ _ _=>.int _) ha hb⟩
theorem Ku (ha:QD X c a ga) (hb:QD X c b gb):QD X c (.BinOp a .Pow b pos) (g2 Lw ga gb):=have ha:=ha.h;have hb:=hb.h;⟨oO Mc (Cn (λi j h=>JD h) λ_ _ _=>.int _) ha hb⟩
theorem MJ (ha:QD X c a ga) (hb:QD X c b gb):QD X c (.Compare a [.GtE] [b] pos) (g2 (jS λi j=>.bl (decide (j<=i))) ga gb):=have ha:=ha.h;have hb:=hb.h;⟨uR Ir (ir λ_ _ _=>.bl _) ha hb⟩
theorem au:i8 X c [] aG:=⟨yK ig λσ H Q ⟨J,env,sr,w⟩=>w [] J H (Ext.refl sr.hp.sub) rfl⟩
theorem ao {es:List S4}{g:G R}{gs:G (List R)}(h:QD X c e g) (hs:i8 X c es gs) (hst:Sl (e::es) X.env=(false,eval e X.env)::Sl es X.env:=by rfl):i8 X c (e::es) (aq g gs):=have h:=h.h;have hs:=hs.h;⟨
 yK (fc h hs hst) λσ H Q ⟨J,env,sr,w⟩=>by
  refine ⟨J,env,sr,aE (aI w) λx wx u J1 H1 e1 r1=>?_⟩
  refine ⟨J1,env,sr.ext e1,aE (aI wx) λxs wy us J2 H2 e2 r2=>?_⟩
  exact wy (u::us) J2 H2 (e1.trans e2) ⟨u,us,rfl,r1.ext e2,ki.from e1.h r2⟩⟩
end
section
variable {X:Cx}{c:C}{e a b:S4}{es:List S4}{ga gb g:G R}{pos:Pos}
theorem aO:DN X c [] aV:=⟨yK ig λσ H Q ⟨J,env,sr,w⟩=>w [] J H (Ext.refl sr.hp.sub) .nil⟩
theorem ay {gs:G (List D)}(h:QD X c e g) (hs:DN X c es gs) (hst:Sl (e::es) X.env=(false,eval e X.env)::Sl es X.env:=by rfl):DN X c (e::es) (aC g gs):=have h:=h.h;have hs:=hs.h;⟨
 yK (fc h hs hst) λσ H Q ⟨J,env,sr,w⟩=>by
  refine ⟨J,env,sr,aE (aI w) λx wx u J1 H1 e1 r1=>?_⟩
  obtain ⟨d,q,wx⟩:=iV wx
  obtain ⟨J1',e1',s1,rd⟩:=freeze e1 r1 q
  refine ⟨J1',env,sr.ext e1',aE (aI wx) λxs wy us J2 H2 e2 r2=>?_⟩
  exact wy (u::us) J2 H2 (e1'.trans e2) (.cons (rd.mono e2.j) r2)⟩
theorem bf {k}{gs:G (List D)}(h:DN X c es gs):QD X c (.Tuple es k pos) (bD gs):=have h:=h.h;⟨eW (Ms h) λσ H Q ⟨J,env,sr,w⟩=>by
 refine ⟨J,env,sr,aE (aI w) λds wd vs J1 H1 e1 r1=>?_⟩
 split at wd
 ·rename_i hz
  rw [r1.length] at hz
  exact ⟨hz,λp hp=>wd _ _ _ (e1.trans (Ext.newJ e1.sub hp _)) (qz (sr.hp.ext e1) hp r1)⟩
 ·exact wd.elim⟩
theorem eS {gs:G (List D)}(h:DN X c es gs):QD X c (.List es pos) (gw gs):=have h:=h.h;⟨eW (Ml h) λσ H Q ⟨J,env,sr,w⟩=>by
 refine ⟨J,env,sr,aE (aI w) λds wd vs J1 H1 e1 r1=>?_⟩
 split at wd
 ·rename_i hz
  rw [r1.length] at hz
  exact ⟨hz,λp hp=>wd _ _ _ (e1.trans (Ext.new e1.sub hp _)) (RR.from e1.h (jk (sr.hp.ext e1) hp r1))⟩
 ·exact wd.elim⟩
theorem gr {p:Pos}{gs:G (List R)}(ha:i8 X c (e::es) gs) (hm:X.mg "len"=none) (hK:X.K=c.K:=by rfl) (hg:Gl X "len":=by rfl)
  (he:Sl (e::es) X.env=(false,eval e X.env)::Sl es X.env:=by rfl) (hpl:(UL pos (Sl es X.env)).any (·.1)=false:=by rfl):QD X c (.Call (.Name "len" p) (e::es) [] pos) (gN kc gs):=have ha:=ha.h;⟨
 jG (zj.or zh) (by
  intro He J H xs vs Q hp rs w
  unfold kc at w
  split at w
  ·obtain ⟨v,rfl,r⟩:=rs.one
   cases r
   split at w
   ·rename_i hz;exact .inl ⟨_,rfl,hz,w _ J H (Ext.refl hp.sub) (.int _)⟩
   ·exact w.elim
  ·obtain ⟨v,rfl,r⟩:=rs.one
   obtain ⟨xs,q,w⟩:=kL w
   obtain ⟨p,vs,rfl,hq,hs⟩:=nj hp r q
   have w':=w (.int vs.length) J H (Ext.refl hp.sub) (by rw [hs.length];exact .int _)
   exact .inr ⟨p,vs,rfl,by rw [hK];exact hq,w'⟩
  ·exact w.elim) PySem.boot_len hm ha hg (by decide) (by decide) he hpl⟩
theorem b_ {p:Pos}{gs:G (List R)}(ha:i8 X c (e::es) gs) (hm:X.mg "tuple"=none) (hK:X.K=c.K:=by rfl) (hg:Gl X "tuple":=by rfl)
  (he:Sl (e::es) X.env=(false,eval e X.env)::Sl es X.env:=by rfl) (hpl:(UL pos (Sl es X.env)).any (·.1)=false:=by rfl):QD X c (.Call (.Name "tuple" p) (e::es) [] pos) (gN cS gs):=have ha:=ha.h;⟨
 EX yi (by
  intro He J H xs vs Q hp rs w
  unfold cS at w
  split at w
  ·obtain ⟨v,rfl,r⟩:=rs.one
   rename_i r0
   obtain ⟨xs,q,w⟩:=kL w
   cases r0 with
   | d y=>
    cases y with
    | tup ys=>
     cases q
     cases r with
     | tup h hs=>exact ⟨_,_,rfl,.inr ⟨by rw [hK];exact fC hp.sub h,w _ J H (Ext.refl hp.sub) (.tup h hs)⟩⟩
    | lst ys=>
     cases q
     obtain ⟨p,vs,rfl,hq,hs⟩:=RR.list hp r rfl
     exact ⟨p,vs,rfl,.inl ⟨by rw [hK];exact hq,λl hl=>w _ _ _ (Ext.newJ hp.sub hl _) (qz hp hl hs)⟩⟩
    | _=>cases q
   | mo _ _=>cases q
   | mb _ _=>cases q
   | mf _ _=>cases q
   | l m ys=>
    cases q
    obtain ⟨p,vs,rfl,hq,hs⟩:=RR.list hp r rfl
    exact ⟨p,vs,rfl,.inl ⟨by rw [hK];exact hq,λl hl=>w _ _ _ (Ext.newJ hp.sub hl _) (qz hp hl hs)⟩⟩
  ·exact w.elim) AN hm ha hg (by decide) (by decide) he hpl⟩
theorem dZ (h:QD X c e g) (he:∀whole,ZA e X.env whole=(do let v <-whole;VS e.pos;holding [v] (truthy v)):=by intro _;rfl):QB X c e (bC g):=have h:=h.h;⟨yM (MD h he) λσ H Q ⟨J,env,sr,w⟩=>by
 refine ⟨J,env,sr,aE (aI w) λr wr v J1 H1 e1 r1=>?_⟩
 split at wr
 ·cases r1;exact ⟨_,rfl,wr J1 H1 e1⟩
 ·exact wr.elim⟩
theorem jI {op:abE}{r:R2}{f:R->R->M R}(ho:cW X (T5 op) r) (hf:BD c r f) (ha:QD X c a ga) (hb:QD X c b gb) (hm:Uj op b=false:=by first | exact Ac _ | rfl):QB X c (.Compare a [op] [b] pos) (bC (g2 f ga gb)):=⟨jX ho hf ha.h hb.h hm⟩
variable {t u:G Bool}{rest:List S4}
theorem iQ (h:yX X c e t):QB X c e t:=have h:=h.h;⟨PW.pt h⟩
theorem oR (h:QB X c a t):yX X c (.BoolOp .And [a] pos) t:=have h:=h.h;⟨Kg h⟩
theorem q_ (h:QB X c a t):yX X c (.BoolOp .Or [a] pos) t:=have h:=h.h;⟨MG h⟩
theorem nL (h:QB X c a t) (h':yX X c (.BoolOp .And (b::rest) pos) u):yX X c (.BoolOp .And (a::b::rest) pos) (jC t u):=have h:=h.h;have h':=h'.h;⟨IB (MF h h') λσ H Q ⟨J,env,sr,w⟩=>by
 refine ⟨J,env,sr,aE (aI w) λk wk J1 H1 e1=>?_⟩
 cases k with
 | true=>
  rw [if_pos rfl] at wk ⊢
  exact ⟨J1,env,sr.ext e1,aE wk λk q J2 H2 e2=>q J2 H2 (e1.trans e2)⟩
 | false=>
  rw [if_neg (by decide)] at wk ⊢
  exact wk J1 H1 e1⟩
theorem qv (h:QB X c a t) (h':yX X c (.BoolOp .Or (b::rest) pos) u):yX X c (.BoolOp .Or (a::b::rest) pos) (jv t u):=have h:=h.h;have h':=h'.h;⟨IB (NI h h') λσ H Q ⟨J,env,sr,w⟩=>by
 refine ⟨J,env,sr,aE (aI w) λk wk J1 H1 e1=>?_⟩
 cases k with
 | true=>
  rw [if_pos rfl] at wk ⊢
  exact wk J1 H1 e1
 | false=>
  rw [if_neg (by decide)] at wk ⊢
  exact ⟨J1,env,sr.ext e1,aE wk λk q J2 H2 e2=>q J2 H2 (e1.trans e2)⟩⟩
theorem iR (h:QB X c a t):QB X c (.UnaryOp .Not a pos) (gZ t):=have h:=h.h;⟨yM (MC h) λσ H Q ⟨J,env,sr,w⟩=>⟨J,env,sr,aE (aI w) λk wk J1 H1 e1=>wk J1 H1 e1⟩⟩
theorem k_ {op}(h:QD X c a ga):QD X c (.BoolOp op [a] pos) ga:=have h:=h.h;⟨Mq h⟩
theorem rq (h:QD X c a ga) (h':QD X c (.BoolOp .And (b::rest) pos) gb):QD X c (.BoolOp .And (a::b::rest) pos) (lY ga gb):=have h:=h.h;have h':=h'.h;⟨eW (Mj h h') λσ H Q ⟨J,env,sr,w⟩=>by
 refine ⟨J,env,sr,aE (aI w) λr wr v J1 H1 e1 r1=>?_⟩
 split at wr
 ·cases r1
  exact ⟨true,rfl,Gq ⟨J1,env,sr.ext e1,aE wr λz q v J2 H2 e2 r2=>q v J2 H2 (e1.trans e2) (RR.from e1.h r2)⟩⟩
 ·cases r1
  exact ⟨false,rfl,Gp (wr _ J1 H1 e1 (.bl _))⟩
 ·exact wr.elim⟩
theorem MK (h:QD X c a ga) (h':QD X c (.BoolOp .Or (b::rest) pos) gb):QD X c (.BoolOp .Or (a::b::rest) pos) (CG ga gb):=have h:=h.h;have h':=h'.h;⟨eW (NF h h') λσ H Q ⟨J,env,sr,w⟩=>by
 refine ⟨J,env,sr,aE (aI w) λr wr v J1 H1 e1 r1=>?_⟩
 split at wr
 ·cases r1
  exact ⟨false,rfl,Gp ⟨J1,env,sr.ext e1,aE wr λz q v J2 H2 e2 r2=>q v J2 H2 (e1.trans e2) (RR.from e1.h r2)⟩⟩
 ·cases r1
  exact ⟨true,rfl,Gq (wr _ J1 H1 e1 (.bl _))⟩
 ·exact wr.elim⟩
theorem BN (h:QD X c a ga):QD X c (.UnaryOp .Not a pos) (Ig ga):=have h:=h.h;⟨eW (Mp h) λσ H Q ⟨J,env,sr,w⟩=>by
 refine ⟨J,env,sr,aE (aI w) λr wr v J1 H1 e1 r1=>?_⟩
 split at wr
 ·cases r1
  exact ⟨_,rfl,wr _ J1 H1 e1 (.bl _)⟩
 ·exact wr.elim⟩
end
section
variable {X:Cx}{c:C}{e a b tg:S4}{es:List S4}{ga gb g:G R}{pos:Pos}{st:VA}{rest:List VA}{t u:G O}{tb:G Bool}
theorem bL:pq X c [] dJ:=⟨E9 Kd λE σ H ⟨J,env,sr,w⟩=>w σ J H (aT.refl J) sr⟩
theorem av (h:iK X c st t) (h':pq X c rest u):pq X c (st::rest) (aM t u):=have h:=h.h;have h':=h'.h;⟨E9 (G6 h h') λE σ H ⟨J,env,sr,w⟩=>by
 refine ⟨J,env,sr,aE (aI w) λo wo=>?_⟩
 cases o with
 | nx e=>exact λσ' J' H' s' sr'=>⟨J',e,sr',aE wo λo q=>q.mono s'⟩
 | rt r=>exact wo
 | bk e=>exact wo
 | ct e=>exact wo⟩
theorem aH (h:iK X c st t):pq X c [st] t:=have h:=h.h;⟨Ke h⟩
theorem jZ (h:QD X c e g) (hs:VZ e none pos.line X.env=pure false:=by rfl):iK X c (.Expr e pos) (lZ g):=have h:=h.h;⟨iu (qZ h hs) λE σ H ⟨J,env,sr,w⟩=>
 ⟨J,env,sr,aE (aI w) λr wr v J1 H1 e1 r1=>wr σ J1 H1 e1.j (sr.ext e1)⟩⟩
theorem aU (h:QD X c e g):iK X c (.Return (some e) pos) (bJ g):=have h:=h.h;⟨iu (MA h) λE σ H ⟨J,env,sr,w⟩=>by
 refine ⟨J,env,sr,aE (aI w) λr wr v J1 H1 e1 r1=>?_⟩
 cases q:rF r with
 | bad=>rw [q] at wr;exact wr.elim
 | exc x=>cases r with
  | d _=>cases q
  | l m _=>cases m <;> cases q
  | mo _ _=>cases q
  | mb _ _=>cases q
  | mf _ _=>cases q
 | ok r'=>rw [q] at wr;exact wr v J1 H1 e1.j (sr.hp.ext e1) (RR.rf sr.hp r1 q)⟩
theorem bR {x:S4}{as bs:List VA}(hx:QB X c x tb) (h:pq X c as t) (h':pq X c bs u):iK X c (.If x as bs pos) (bS tb t u):=have hx:=hx.h;have h:=h.h;have h':=h'.h;⟨iu (NH hx h h') λE σ H ⟨J,env,sr,w⟩=>by
 refine ⟨J,env,sr,aE (aI w) λk wk J1 H1 e1=>?_⟩
 cases k with
 | true=>
  rw [if_pos rfl] at wk ⊢
  exact ⟨J1,env,sr.ext e1,aE wk λo q=>q.mono e1.j⟩
 | false=>
  rw [if_neg (by decide)] at wk ⊢
  exact ⟨J1,env,sr.ext e1,aE wk λo q=>q.mono e1.j⟩⟩
theorem aN (i:Nat){x:Str}{pos':Pos}(hN:X.N.Nodup) (h:QD X c e g) (hi:X.N[i]?=some x:=by rfl) (hx:Loc X.env.scope x:=by first | exact Xf rfl | exact V1 rfl) (hs:VZ e (some (.Name x pos')) pos.line X.env=pure false:=by rfl)
  (hf:X.fn x=true\/X.env.scope.names.lookup x=some .local:=by first | exact .inl rfl | exact .inr rfl):iK X c (.Assign [.Name x pos'] e pos) (bg i g):=have h:=h.h;⟨iu (MB hN hi hx h hs hf) λE σ H ⟨J,env,sr,w⟩=>by
 refine ⟨J,env,sr,aE (aI w) λr wr v J1 H1 e1 r1=>?_⟩
 obtain ⟨x,q,wr⟩:=nV wr
 exact wr (σ.set i (some v)) J1 H1 e1.j (sr.set e1 r1 q)⟩
theorem aD (i:Nat){x:Str}(hN:X.N.Nodup) (hi:X.N[i]?=some x:=by rfl) (hx:Loc X.env.scope x:=by first | exact Xf rfl | exact V1 rfl) (hf:X.fn x=true\/X.env.scope.names.lookup x=some .local:=by first | exact .inl rfl | exact .inr rfl):kN X c (.Name x pos) (aA i):=⟨
 Iz (J6 hN hi hx hf) λv σ H Q ⟨J,env,d,sr,rd,w⟩=>w _ (sr.setD (x:=.d d) rd λx z=>by cases x <;> cases z) λj xs q=>by
  rcases gf q with ⟨_,_,e⟩ | ⟨hj,q⟩
  ·cases xs <;> cases e
  ·exact ⟨q,Ti (U_ hj)⟩⟩
theorem bZ:Cc X c [] dz:=⟨E1 J_ λvs σ H Q ⟨J,env,ds,sr,rd,w⟩=>by
 cases rd with
 | nil=>exact ⟨rfl,w σ sr KO.refl⟩
 | cons _ _=>exact w.elim⟩
theorem aS {t:GT}{u:tM}(h:kN X c e t) (h':Cc X c es u) (hs:(VF (e::es) X.env).map (·.2)=assign e X.env::(VF es X.env).map (·.2):=by rfl):Cc X c (e::es) (bw t u):=have h:=h.h;have h':=h'.h;⟨
 E1 (G3 h h' hs) λvs σ H Q ⟨J,env,ds,sr,rd,w⟩=>by
  cases rd with
  | nil=>exact w.elim
  | cons r rs=>
   refine ⟨_,_,rfl,J,env,_,sr,r,aE (aI w) λe1 w1 σ' sr' ko=>?_⟩
   exact ⟨J,e1,_,sr',rs,aE w1 λe2 q σ2 sr2 ko2=>q σ2 sr2 (ko.trans ko2)⟩⟩
theorem cD {k:Nat}{u:tM}{n:Nat}(h:Cc X c es u) (hc:X.calm=true:=by rfl) (hK:X.K=c.K:=by rfl) (hn:(VF es X.env).length=n:=by rfl) (hst:(VF es X.env).findIdx? (·.1)=none:=by rfl):kN X c (.Tuple es k pos) (dh n u):=have h:=h.h;⟨
 Iz (Mu hc h hn hst) λv σ H Q ⟨J,env,d,sr,rd,w⟩=>by
  cases rd with
  | tup h1 h2=>
   unfold dh at w
   simp only at w
   split at w
   ·rename_i hl
    exact ⟨_,_,rfl,by rw [hK];exact fC sr.hp.sub h1,by rw [<-h2.length];exact hl,J,env,_,sr,h2,w⟩
   ·exact w.elim
  | _=>exact w.elim⟩
theorem cM {R0:S4}{body:List VA}{gi:G (List D)}{t:GT}(hi:t9 X c tg R0 gi) (ht:kN X c tg t) (hb:pq X c body u) (hp:aa5 (SE X.prog X.w) X.A X.env X.xe:=by first | exact abf | exact aaD) (hc:X.calm=true:=by rfl)
  (hs:∀x,SA R0 X.env x=pure x:=by intro _;rfl):iK X c (.For tg R0 body [] pos) (dO gi t u):=have hi:=hi.h;have ht:=ht.h;have hb:=hb.h;⟨iu (Mz hp hc hi ht hb hs) λE σ H ⟨J,env,sr,w⟩=>by
 refine ⟨J,env,sr,aE (aI w) λds wd It J1 H1 e1 wk=>?_⟩
 refine ⟨λi m σ H=>m=ds.length - i/\∃J' env,aT J1 J'/\SR c J' H σ env/\cA (fH t u (ds.drop i) env) (oP c J' E) c.T,
  ⟨ds.length,by simp,J1,env,aT.refl J1,sr.ext e1,by rw [abJ];exact aE wd λo q=>q.mono e1.j⟩,?_⟩
 rintro i m σ H ⟨rfl,J',env,s',sr',w'⟩
 obtain ⟨w1,w2⟩:=wk i J' H sr'.hp s'
 by_cases hlt:i < ds.length
 ·obtain ⟨g1,y1⟩:=w2 ds[i] (by simp [hlt])
  rw [Wr hlt] at w'
  refine .inr ⟨g1,λσ2 H2=>∃J2 env2,aT J' J2/\SR c J2 H2 σ2 env2/\cA (fH t u (ds.drop (i + 1)) env2) (oP c J2 E) c.T,?_,?_⟩
  ·rintro σ2 H2 ⟨J2,env2,s2,sr2,w2⟩
   exact ⟨ds.length - (i + 1),by omega,rfl,J2,env2,s'.trans s2,sr2,w2⟩
  ·intro x H2 hy
   obtain ⟨J2,e2,rx⟩:=y1 x H2 hy
   refine ⟨J2,env,ds[i],sr'.ext e2,rx,aE (aI w') λenv3 w3 σ3 sr3 _=>?_⟩
   refine ⟨J2,env3,sr3,aE (aI w3) λo wo=>?_⟩
   cases o with
   | nx env4=>exact λσ4 J4 H4 s4 sr4=>⟨J4,env4,e2.j.trans s4,sr4,aE wo λo q=>q.mono (e2.j.trans s4)⟩
   | ct env4=>exact λσ4 J4 H4 s4 sr4=>⟨J4,env4,e2.j.trans s4,sr4,aE wo λo q=>q.mono (e2.j.trans s4)⟩
   | bk env4=>exact λσ4 J4 H4 s4 sr4=>wo σ4 J4 H4 (e2.j.trans s4) sr4
   | rt r=>exact λv J4 H4 s4 h4 r4=>wo v J4 H4 (e2.j.trans s4) h4 r4
 ·rw [YR (by omega)] at w'
  exact .inl ⟨w1 (by omega),w' σ J' H (aT.refl J') sr'⟩⟩
theorem bH {p:Pos}{gs:G (List R)}(ha:i8 X c [a] gs) (hm:X.mg "range"=none) (hg:Gl X "range":=by rfl) (hs:Sl [a] X.env=[(false,eval a X.env)]:=by rfl):t9 X c tg (.Call (.Name "range" p) [a] [] pos) (cg gs):=have ha:=ha.h;⟨
 oQ (E3 hg hm ha hs) λσ H Q ⟨J,env,sr,w⟩=>by
  refine ⟨J,env,sr,aE (aI w) λrs wr vs J1 H1 e1 r1=>?_⟩
  split at wr
  ·split at wr
   ·rename_i h
    obtain ⟨v,rfl,r⟩:=r1.one
    cases r
    have h:=dD.mp h
    exact ⟨_,rfl,aaN h.1,h.2,wr _ J1 H1 e1 vB⟩
   ·exact wr.elim
  ·exact wr.elim⟩
theorem A0 {p:Pos}{gs:G (List R)}(ha:i8 X c [a,b] gs) (hm:X.mg "range"=none) (hg:Gl X "range":=by rfl) (hs:Sl [a,b] X.env=[(false,eval a X.env),(false,eval b X.env)]:=by rfl) (hs2:Sl [b] X.env=[(false,eval b X.env)]:=by rfl):t9 X c tg (.Call (.Name "range" p) [a,b] [] pos) (Ih gs):=have ha:=ha.h;⟨
 oQ (E4 hg hm ha hs hs2) λσ H Q ⟨J,env,sr,w⟩=>by
  refine ⟨J,env,sr,aE (aI w) λrs wr vs J1 H1 e1 r1=>?_⟩
  split at wr
  ·split at wr
   ·rename_i h
    obtain ⟨v,v2,rfl,r,r2⟩:=r1.two
    cases r
    cases r2
    rw [Sf] at h
    have h1:=dD.mp h.1
    have h2:=dD.mp h.2
    exact ⟨_,_,rfl,⟨aaN h1.1,h1.2,aaN h2.1,h2.2⟩,wr _ J1 H1 e1 vB⟩
   ·exact wr.elim
  ·exact wr.elim⟩
theorem d8 {gi:G (List D)}(h:t9 X c tg e gi):rR X c tg e gi:=have h:=h.h;⟨oQ h λσ H Q ⟨J,env,sr,w⟩=>
 ⟨J,env,sr,aE w λds q It J1 H1 e1 wk=>q It J1 H1 e1 λi J' H' hp u=>wk i J' H' hp u.1⟩⟩
end
section
variable {X:Cx}{c:C}{e a b tg:S4}{es:List S4}{ga gb g:G R}{pos:Pos}
theorem jO (i:Nat){x:Str}{p1 p2 pos':Pos}(h:QD X c e g) (hN:X.N[i]?=some x:=by rfl) (hv:rS X.env.scope x:=by first | exact Xf rfl | exact V1 (Xf rfl) | exact V1 (V1 rfl)) (hd:(x == ("__debug__":Str))=false:=by decide)
  (hcd:(x == ("__classdict__":Str))=false:=by decide)
  (hbase:WH (.Name x p1) "append" X.env (eval (.Name x p1) X.env)=eval (.Name x p1) X.env:=by rfl)
  (hfew:((UL pos' (Sl [e] X.env)).all (λx=>!x.1) && (aa1 pos' (Yu [] X.env)).all (λx=>x.1.isSome)
   && decide (([e]:List S4).length + ([]:List Yv).length + (if ([]:List Yv).isEmpty then 0 else 1) < 30))=true:=by rfl)
  (hline:(p2.endLine == pos'.line)=true:=by rfl) (hst:Sl [e] X.env=(false,eval e X.env)::Sl [] X.env:=by rfl) (hplain:(UL pos' (Sl [] X.env)).any (·.1)=false:=by rfl)
  (hs:VZ (.Call (.Attribute (.Name x p1) "append" p2) [e] [] pos') none pos.line X.env=pure false:=by rfl):iK X c (.Expr (.Call (.Attribute (.Name x p1) "append" p2) [e] [] pos') pos) (oB i g):=have h:=h.h;⟨
 iu (qZ (yL VX Ye Yg qm (kY hN hv hd hcd) (fc h ig hst) hbase hfew hline hst hplain) hs) λE σ H ⟨J,env,sr,w⟩=>by
  unfold oB at w
  split at w
  ·rename_i xs hi
   obtain ⟨v,h1,a,vs,rfl,h2,h3,h4,h5⟩:=sr.at_ i _ hi
   refine ⟨.ref a,h1,.inl ⟨rfl,vs,cK.of h2⟩,?_⟩
   refine ⟨J,env,sr,aE (aI w) λr wr y J1 H1 e1 r1=>?_⟩
   obtain ⟨d,q,wr⟩:=iV wr
   obtain ⟨J2,e2,s2,rd⟩:=freeze e1 r1 q
   split at wr
   ·rename_i hz
    refine ⟨a,vs,y,rfl,rfl,e2.h _ _ h2,by rw [<-h5.length];exact hz,?_⟩
    refine wr σ J2 _ e2.j ?_
    exact (sr.ext e2).upd hi h1 (e2.h _ _ h2) (e2.frz a (by rw [h2];intro z;cases z) h3) h4 ((h5.mono e2.j).append (.cons rd .nil))
   ·exact wr.elim
  ·exact w.elim⟩
end
section
variable {X:Cx}{c:C}
theorem bA:j6 X c [] cI:=⟨λRX s σ H Q I ⟨J,env,sr,w⟩=>wpAny_tests_nil ⟨H,I,w J H (Ext.refl sr.hp.sub)⟩⟩
theorem eH {x:S4}{g:G Bool}(h:QB X c x g):j6 X c [x] g:=have h:=h.h;⟨λRX s σ H Q I q=>wpAny_tests_one (h RX s σ H Q I q)⟩
end
section
variable {K:R7}{J:Hp}{s:R_}
variable {X:Cx}{c:C}{e a b tg:S4}{es:List S4}{ga gb g:G R}{pos:Pos}
theorem nO (hu:X.A.units + 64 < Uu) (ha:QD X c a ga) (hb:QD X c b gb) (hK:X.K=c.K:=by rfl):QD X c (.Compare a [.Eq] [b] pos) (g2 (cL false) ga gb):=have ha:=ha.h;have hb:=hb.h;⟨uR (EO hu) (Co false hK) ha hb⟩
theorem jY (hu:X.A.units + 64 < Uu) (ha:QD X c a ga) (hb:QD X c b gb) (hK:X.K=c.K:=by rfl):QB X c (.Compare a [.Eq] [b] pos) (bC (g2 (cL false) ga gb)):=have ha:=ha.h;have hb:=hb.h;⟨jX (EO hu) (Co false hK) ha hb⟩
theorem nM (hu:X.A.units + 64 < Uu) (ha:QD X c a ga) (hb:QD X c b gb) (hK:X.K=c.K:=by rfl):QB X c (.Compare a [.NotEq] [b] pos) (bC (g2 (cL true) ga gb)):=have ha:=ha.h;have hb:=hb.h;⟨jX (Mb hu) (Co true hK) ha hb⟩
theorem lg (hu:X.A.units + 64 < Uu) (ha:QD X c a ga) (hb:QD X c b gb) (hK:X.K=c.K:=by rfl) (hm:Uj .In b=false:=by rfl):QD X c (.Compare a [.In] [b] pos) (g2 (ie false) ga gb):=have ha:=ha.h;have hb:=hb.h;⟨uR (ER hu) (Cp false hK) ha hb hm⟩
theorem MH (hu:X.A.units + 64 < Uu) (ha:QD X c a ga) (hb:QD X c b gb) (hK:X.K=c.K:=by rfl) (hm:Uj .In b=false:=by rfl):QB X c (.Compare a [.In] [b] pos) (bC (g2 (ie false) ga gb)):=have ha:=ha.h;have hb:=hb.h;⟨jX (ER hu) (Cp false hK) ha hb hm⟩
theorem E_ (hu:X.A.units + 64 < Uu) (ha:QD X c a ga) (hb:QD X c b gb) (hK:X.K=c.K:=by rfl) (hm:Uj .NotIn b=false:=by rfl):QB X c (.Compare a [.NotIn] [b] pos) (bC (g2 (ie true) ga gb)):=have ha:=ha.h;have hb:=hb.h;⟨jX (ET hu) (Cp true hK) ha hb hm⟩
end
section
variable {X:Cx}{c:C}{e a b tg:S4}{es:List S4}{ga gb g:G R}{pos:Pos}
theorem xD:HW X c none Er:=⟨IA Ka λσ H Q ⟨J,env,sr,w⟩=>w J H (Ext.refl sr.hp.sub)⟩
theorem xE (h:QD X c e g):HW X c (some e) (Es g):=have h:=h.h;⟨IA (Kc h) λσ H Q ⟨J,env,sr,w⟩=>by
 refine ⟨J,env,sr,aE (aI w) λr wr v J1 H1 e1 r1=>?_⟩
 split at wr
 ·cases r1;exact ⟨_,rfl,wr J1 H1 e1⟩
 ·exact wr.elim⟩
theorem Dk {p:Pos}{gs:G (List R)}(ha:i8 X c (e::es) gs) (hm:X.mg "sorted"=none) (hK:X.K=c.K:=by rfl) (hg:Gl X "sorted":=by rfl)
  (he:Sl (e::es) X.env=(false,eval e X.env)::Sl es X.env:=by rfl) (hpl:(UL pos (Sl es X.env)).any (·.1)=false:=by rfl):QD X c (.Call (.Name "sorted" p) (e::es) [] pos) (gN ny gs):=have ha:=ha.h;⟨
 jG zk (by
  intro He J H xs vs Q hp rs w
  unfold ny at w
  split at w
  ·obtain ⟨v,rfl,r⟩:=rs.one
   obtain ⟨xs,q,w⟩:=rD w
   obtain ⟨p,vs,rfl,h1,h2⟩:=RR.list hp r q
   split at w
   ·rename_i ss z
    split at w
    ·rename_i hl
     have:=vn z h2
     subst this
     refine ⟨p,ss,rfl,by rw [hK];exact h1,hl,λss' hp' hs' l hl'=>?_⟩
     rw [Dq hp' hs']
     exact w _ _ _ (Ext.new hp.sub hl' _) (jk hp hl' (xK _))
    ·exact w.elim
   ·exact w.elim
  ·exact w.elim) kQ hm ha hg (by decide) (by decide) he hpl⟩
theorem fX (ha:QD X c a ga) (hb:QD X c b gb):QD X c (.BinOp a .Add b pos) (g2 d_ ga gb):=by
 have ha:=ha.h
 have hb:=hb.h
 refine ⟨?_⟩
 have h1:BD c (mE λi j=>.int (i + j)) zC:=ir λ_ _ _=>.int _
 have q:=oO (pos:=pos) (EL.or (uQ.or EM)) (BD.or (c:=c) (λx _=>EB x) h1 (BD.or (c:=c) (λx _=>LH x) (f:=uu) (f':=uv) (by
  intro He He' J H x y u v Q hp rx ry w
  unfold uu at w
  split at w
  ·cases rx;cases ry
   split at w
   ·rename_i h;exact ⟨_,_,rfl,rfl,h,w _ J H (Ext.refl hp.sub) (.str _)⟩
   ·exact w.elim
  ·exact w.elim) (by
  intro He He' J H x y u v Q hp rx ry w
  unfold uv at w
  split at w
  ·rename_i hm
   rw [Sf] at hm
   obtain ⟨p,vs,xs,e1,rfl,h1,s1⟩:=rx.made hm.1
   obtain ⟨p2,vs2,ys,e2,rfl,h2,s2⟩:=ry.made hm.2
   rw [e1,e2] at w
   simp only [aP] at w
   split at w
   ·rename_i hz
    rw [s1.length,s2.length] at hz
    exact ⟨p,p2,vs,vs2,rfl,rfl,h1,h2,hz,λq hq=>w _ J _ (Ext.new hp.sub hq _) (jk hp hq (s1.append s2))⟩
   ·exact w.elim
  ·exact w.elim))) ha hb
 exact q
theorem j5 (ha:QD X c a ga) (hb:QD X c b gb):QD X c (.BinOp a .Mult b pos) (g2 gG ga gb):=by
 have ha:=ha.h
 have hb:=hb.h
 refine ⟨?_⟩
 have h1:BD c (rI B4 λi j=>.int (i * j)) Lv:=Cn (λi j h=>JC h) λ_ _ _=>.int _
 exact oO (pos:=pos) (Ma.or JR) (BD.or (c:=c) (λx _=>EB x) h1 (f':=CB) (by
  intro He He' J H x y u v Q hp rx ry w
  unfold CB at w
  split at w
  ·cases rx;cases ry
   split at w
   ·rename_i h;exact ⟨_,_,rfl,rfl,h.1,h.2.1,h.2.2,w _ J H (Ext.refl hp.sub) (.str _)⟩
   ·exact w.elim
  ·exact w.elim)) ha hb
theorem aL (ha:QD X c a ga) (hb:QD X c b gb) (hK:X.K=c.K:=by rfl) (hs:qO b:=by exact λ_ _=>rfl):QD X c (.Subscript a b pos) (g2 aZ ga gb):=have ha:=ha.h;have hb:=hb.h;⟨Iw LL (by
 intro He He' J H x y u v Q hp rx ry w
 rw [hK]
 unfold aZ at w
 split at w
 ·cases rx;cases ry
  split at w
  ·rename_i h
   split at w
   ·rename_i k hk;exact .inr (.inr ⟨_,_,k,rfl,rfl,h,hk,w _ J H (Ext.refl hp.sub) (.str _)⟩)
   ·exact w.elim
  ·exact w.elim
 ·cases ry
  obtain ⟨xs,q,w⟩:=kL w
  obtain ⟨p,vs,rfl,hl,hs⟩:=nj hp rx q
  split at w
  ·rename_i d hd
   obtain ⟨z,h1,h2⟩:=KC hs hd
   have fin:=w z J H (Ext.refl hp.sub) h2
   rcases hl with hl | hl
   ·exact .inl ⟨p,vs,_,z,rfl,rfl,hl,h1,fin⟩
   ·exact .inr (.inl ⟨p,vs,_,z,rfl,rfl,hl,h1,fin⟩)
  ·exact w.elim
 ·exact w.elim) ha hb hs⟩
theorem aW {k k' n:Nat}{F:List S->M R}{x:Str}{p:Pos}{gs:G (List R)}(G:bI X.prog X.w X.K X.mg X.base k n x F) (hr:dc k' X.A) (ha:i8 X c (e::es) gs) (hk:k<=k':=by decide) (hT:c.K=X.K:=by rfl) (hg:Gl X x:=by rfl) (hdb:(x == ("__debug__":Str))=false:=by decide)
  (he:Sl (e::es) X.env=(false,eval e X.env)::Sl es X.env:=by rfl) (hpl:(UL pos (Sl es X.env)).any (·.1)=false:=by rfl):QD X c (.Call (.Name x p) (e::es) [] pos) (gN (aQ n F) gs):=by
 have ha:=ha.h
 refine ⟨?_⟩
 obtain ⟨f,fd,ps,h1,h2,h3,h4⟩:=G
 exact JV h1 (hr.mono hk) h2 h3 h4 ha hT hg hdb he hpl
theorem kZ {t:GT}(h:QD X c e g) (ht:kN X c tg t) (hs:WB [tg] e pos.line X.env=pure false:=by rfl) (hw:ZY [tg] e X.env=pure none:=by rfl)
  (h1:(VF [tg] X.env).map (·.2)=[assign tg X.env]:=by rfl):iK X c (.Assign [tg] e pos) (mV t g):=have h:=h.h;have ht:=ht.h;⟨JT h ht (E8 h ht hs hw h1)⟩
theorem ji {T:String}{Ts:Str}{p p2:Pos}(kit:DG T) (hT:TX Ts=some (.type T)) (mT:X.mg Ts=none)
  (h:QD X c a g) (hm:X.mg "isinstance"=none) (hK:X.K=c.K:=by rfl) (hg:Gl X "isinstance":=by rfl) (Rx:Gl X Ts:=by rfl) (hn:Ts≠"__name__":=by decide) (Ru:(Ts == ("__debug__":Str))=false:=by decide)
  (he:Sl [a,.Name Ts p2] X.env=(false,eval a X.env)::Sl [.Name Ts p2] X.env:=by rfl) (QE:Sl [.Name Ts p2] X.env=(false,eval (.Name Ts p2) X.env)::Sl [] X.env:=by rfl)
  (hpl:(UL pos (Sl [.Name Ts p2] X.env)).any (·.1)=false:=by rfl):QD X c (.Call (.Name "isinstance" p) [a,.Name Ts p2] [] pos) (Ep T g):=have h:=h.h;⟨
 eW (tw (AU kit) hg hm (by decide +kernel) (fc h (fc (JY Rx mT hT (v:=.ty T) rfl hn Ru) ig QE) he) (by decide) (by decide) he hpl) λσ H Q ⟨J,env,sr,w⟩=>by
  refine ⟨J,env,sr,aE (aI w) λr wr v J1 H1 e1 r1=>?_⟩
  exact ⟨r.dat,v,rfl,by rw [hK];exact r1.dat (sr.hp.ext e1),wr _ J1 H1 e1 (.bl _)⟩⟩
theorem wG {p:Pos}{gs:G (List R)}(ha:i8 X c (e::es) gs) (hm:X.mg "all"=none) (hK:X.K=c.K:=by rfl) (hc:X.calm=true:=by rfl) (hg:Gl X "all":=by rfl)
  (he:Sl (e::es) X.env=(false,eval e X.env)::Sl es X.env:=by rfl) (hpl:(UL pos (Sl es X.env)).any (·.1)=false:=by rfl):QD X c (.Call (.Name "all" p) (e::es) [] pos) (gN oz gs):=have ha:=ha.h;⟨
 jG (DY hc) (by
  intro He J H xs vs Q hp rs w
  unfold oz at w
  split at w
  ·obtain ⟨v,rfl,r⟩:=rs.one
   obtain ⟨xs,q,w⟩:=rD w
   obtain ⟨p,vs,rfl,h1,h2⟩:=RR.list hp r q
   split at w
   ·rename_i ks z
    have:=pW z h2
    subst this
    exact ⟨p,ks,rfl,by rw [hK];exact h1,w _ J H (Ext.refl hp.sub) (.bl _)⟩
   ·exact w.elim
  ·exact w.elim) DU hm ha hg (by decide) (by decide) he hpl⟩
theorem MI {op op':abE}{p q:Int->Int->Bool}{x:S4}{gc:G R}(ho:cW X (T5 op) (mE λi j=>.bl (p i j))) (ho':cW X (T5 op') (mE λi j=>.bl (q i j))) (ha:QD X c a ga) (hb:QD X c b gb) (hc:QD X c x gc)
  (hm:lastMarks [op,op'] [b,x]=false:=by with_unfolding_all rfl):QD X c (.Compare a [op,op'] [b,x] pos) (Ib p q ga gb gc):=have ha:=ha.h;have hb:=hb.h;have hc:=hc.h;⟨eW (G1 ho ho' ha hb hc hm) λσ H Q ⟨J,env,sr,w⟩=>by
 refine ⟨J,env,sr,aE (aI w) λr1 w1 v1 J1 H1 e1 q1=>?_⟩
 refine ⟨J1,env,sr.ext e1,aE (aI w1) λr2 w2 v2 J2 H2 e2 q2=>?_⟩
 split at w2
 ·rename_i i j
  cases q1
  cases q2
  refine ⟨i,j,rfl,rfl,p i j,rfl,?_⟩
  cases hp:p i j with
  | true=>
   rw [hp] at w2
   refine Gq ⟨J2,env,(sr.ext e1).ext e2,aE (aI w2) λr3 w3 v3 J3 H3 e3 q3=>?_⟩
   split at w3
   ·cases q3
    exact ⟨j,_,rfl,rfl,w3 _ J3 H3 ((e1.trans e2).trans e3) (.bl _)⟩
   ·exact w3.elim
  | false=>
   rw [hp] at w2
   exact Gp (w2 _ J2 H2 (e1.trans e2) (.bl _))
 ·exact w2.elim⟩
theorem Kr {p:Pos}{gs:G (List R)}(ha:i8 X c (e::es) gs) (hm:X.mg "max"=none) (hc:X.calm=true:=by rfl) (hg:Gl X "max":=by rfl)
  (he:Sl (e::es) X.env=(false,eval e X.env)::Sl es X.env:=by rfl) (hpl:(UL pos (Sl es X.env)).any (·.1)=false:=by rfl):QD X c (.Call (.Name "max" p) (e::es) [] pos) (gN sX gs):=have ha:=ha.h;⟨
 jG (D0 hc) (by
  intro He J H xs vs Q hp rs w
  unfold sX at w
  split at w
  ·obtain ⟨v,v',rfl,r,r'⟩:=rs.two
   cases r;cases r'
   exact ⟨_,_,rfl,w _ J H (Ext.refl hp.sub) (.int _)⟩
  ·exact w.elim) (by decide +kernel) hm ha hg (by decide) (by decide) he hpl⟩
theorem eV (ha:QD X c a ga) (hb:QD X c b gb) (hK:X.K=c.K:=by rfl):QD X c (.BinOp a .Add b pos) (g2 cR ga gb):=by
 have ha:=ha.h
 have hb:=hb.h
 refine ⟨?_⟩
 have h1:BD c (mE λi j=>.int (i + j)) zC:=ir λ_ _ _=>.int _
 exact oO (pos:=pos) (EN.or (EL.or (uQ.or EM))) (BD.or (c:=c) (λx _=>LI x) (Ja hK) (BD.or (c:=c) (λx _=>EB x) h1 (BD.or (c:=c) (λx _=>LH x) (f:=uu) (f':=uv) (by
  intro He He' J H x y u v Q hp rx ry w
  unfold uu at w
  split at w
  ·cases rx;cases ry
   split at w
   ·rename_i h;exact ⟨_,_,rfl,rfl,h,w _ J H (Ext.refl hp.sub) (.str _)⟩
   ·exact w.elim
  ·exact w.elim) (by
  intro He He' J H x y u v Q hp rx ry w
  unfold uv at w
  split at w
  ·rename_i hm
   rw [Sf] at hm
   obtain ⟨p,vs,xs,e1,rfl,h1,s1⟩:=rx.made hm.1
   obtain ⟨p2,vs2,ys,e2,rfl,h2,s2⟩:=ry.made hm.2
   rw [e1,e2] at w
   simp only [aP] at w
   split at w
   ·rename_i hz
    rw [s1.length,s2.length] at hz
    exact ⟨p,p2,vs,vs2,rfl,rfl,h1,h2,hz,λq hq=>w _ J _ (Ext.new hp.sub hq _) (jk hp hq (s1.append s2))⟩
   ·exact w.elim
  ·exact w.elim)))) ha hb
theorem BO {lo hi:Option S4}{gl gh:GO}{p2:Pos}(h:QD X c e g) (hl:HW X c lo gl) (hh:HW X c hi gh) (hK:X.K=c.K:=by rfl):QD X c (.Subscript e (.Slice lo hi none p2) pos) (Bt vU g gl gh):=have h:=h.h;have hl:=hl.h;have hh:=hh.h;⟨Nz (Fo.or KH) (by
 intro He J H x v l u Q hp rx w
 unfold vU at w
 split at w
 ·exact .inl (O3 hK He J H x v l u Q hp rx w)
 ·obtain ⟨xs,q,w⟩:=rD w
  obtain ⟨p,vs,rfl,h1,h2⟩:=rx.list hp q
  exact .inr ⟨p,vs,rfl,by rw [hK];exact h1,λp' hp'=>w _ _ _ (Ext.new hp.sub hp' _) (jk hp hp' (h2.cut l u))⟩) h hl hh⟩
theorem qw {d:D}{x:Str}(h:HL X.K X.mg x d) (hK:X.K=c.K:=by rfl) (hg:Gl X x:=by rfl) (hd:(x == ("__debug__":Str))=false:=by decide):QD X c (.Name x pos) (gC d):=by
 refine ⟨?_⟩
 obtain ⟨u,v,h1,h2,h3⟩:=h
 exact JW h1 h2 (λJ=>hK▸h3 J) hg hd
end
section
variable {X:Cx}{c:C}{e a b tg:S4}{es:List S4}{ga gb g:G R}{pos:Pos}{st:VA}{t u:G O}{tb:G Bool}
theorem oU:iK X c st yF:=⟨λRX s σ H D I ⟨J,env,sr,w⟩=>w.elim⟩
theorem Ks (h:QD X c a g):QD X c (.UnaryOp .USub a pos) (Gg g):=have h:=h.h;⟨eW (NG Na h) λσ H Q ⟨J,env,sr,w⟩=>by
 refine ⟨J,env,sr,aE (aI w) λr wr v J1 H1 e1 r1=>?_⟩
 split at wr
 ·cases r1
  exact ⟨_,rfl,wr _ J1 H1 e1 (.int _)⟩
 ·exact wr.elim⟩
theorem nN (h:QD X c e g) (hK:X.K=c.K:=by rfl) (he:∀whole,ZA e X.env whole=(do let v <-whole;VS e.pos;holding [v] (truthy v)):=by intro _;rfl):QB X c e (p6 g):=have h:=h.h;⟨yM (G7 h he) λσ H Q ⟨J,env,sr,w⟩=>by
 refine ⟨J,env,sr,aE (aI w) λr wr v J1 H1 e1 r1=>?_⟩
 rw [hK]
 obtain ⟨k,k1,k2⟩:=KU (sr.hp.ext e1) r1 wr
 exact ⟨k,k1,k2 J1 H1 e1⟩⟩
theorem Dh (n:Nat){body:List VA}(ht:QB X c e tb) (hb:pq X c body u) (hp:aa5 (SE X.prog X.w) X.A X.env X.xe:=by first | exact abf | exact aaD):iK X c (.While e body [] pos) (zH n tb u):=have ht:=ht.h;have hb:=hb.h;⟨iu (G5 hp ht hb) λE σ H ⟨J,env,sr,w⟩=>by
 refine ⟨λm σ H=>∃J' env,aT J J'/\SR c J' H σ env/\cA (lH tb u m env) (oP c J' E) c.T,⟨n,J,env,aT.refl J,sr,w⟩,?_⟩
 rintro m σ H ⟨J',env,s',sr',w'⟩
 cases m with
 | zero=>exact w'.elim
 | succ m=>
  refine ⟨J',env,sr',aE (aI w') λk wk J1 H1 e1=>?_⟩
  cases k with
  | false=>
   rw [if_neg (by decide)] at wk ⊢
   exact wk σ J1 H1 e1.j (sr'.ext e1)
  | true=>
   rw [if_pos rfl] at wk ⊢
   refine ⟨λσ2 H2=>∃J2 env2,aT J1 J2/\SR c J2 H2 σ2 env2/\cA (lH tb u m env2) (oP c J2 E) c.T,?_,?_⟩
   ·rintro σ2 H2 ⟨J2,env2,s2,sr2,w2⟩
    exact ⟨m,U6 m,J2,env2,(s'.trans e1.j).trans s2,sr2,w2⟩
   ·refine ⟨J1,env,sr'.ext e1,aE (aI wk) λo wo=>?_⟩
    cases o with
    | nx env4=>exact λσ4 J4 H4 s4 sr4=>⟨J4,env4,s4,sr4,aE wo λo q=>q.mono (e1.j.trans s4)⟩
    | ct env4=>exact λσ4 J4 H4 s4 sr4=>⟨J4,env4,s4,sr4,aE wo λo q=>q.mono (e1.j.trans s4)⟩
    | bk env4=>exact λσ4 J4 H4 s4 sr4=>wo σ4 J4 H4 (e1.j.trans s4) sr4
    | rt r=>exact λv J4 H4 s4 h4 r4=>wo v J4 H4 (e1.j.trans s4) h4 r4⟩
theorem AZ (i j:Nat){x y:Str}{p1 p2 pos' q1 q2 q3:Pos}(h:QD X c e g) (hi:X.N[i]?=some x:=by rfl) (RL:rS X.env.scope x:=by first | exact Xf rfl | exact V1 (Xf rfl) | exact V1 (V1 rfl)) (hdx:(x == ("__debug__":Str))=false:=by decide) (Rq:(x == ("__classdict__":Str))=false:=by decide)
  (hj:X.N[j]?=some y:=by rfl) (RM:rS X.env.scope y:=by first | exact Xf rfl | exact V1 (Xf rfl) | exact V1 (V1 rfl)) (QV:(y == ("__debug__":Str))=false:=by decide) (Rr:(y == ("__classdict__":Str))=false:=by decide)
  (hbase:WH (.Name x p1) "append" X.env (eval (.Name x p1) X.env)=eval (.Name x p1) X.env:=by rfl)
  (hfew:((UL pos' (Sl [.Call (.Attribute (.Name y q1) "pop" q2) [e] [] q3] X.env)).all (λx=>!x.1) && (aa1 pos' (Yu [] X.env)).all (λx=>x.1.isSome)
   && decide (([.Call (.Attribute (.Name y q1) "pop" q2) [e] [] q3]:List S4).length + ([]:List Yv).length + (if ([]:List Yv).isEmpty then 0 else 1) < 30))=true:=by rfl)
  (hline:(p2.endLine == pos'.line)=true:=by rfl)
  (hst:Sl [.Call (.Attribute (.Name y q1) "pop" q2) [e] [] q3] X.env=(false,eval (.Call (.Attribute (.Name y q1) "pop" q2) [e] [] q3) X.env)::Sl [] X.env:=by rfl) (hplain:(UL pos' (Sl [] X.env)).any (·.1)=false:=by rfl)
  (Qt:WH (.Name y q1) "pop" X.env (eval (.Name y q1) X.env)=eval (.Name y q1) X.env:=by rfl)
  (QG:((UL q3 (Sl [e] X.env)).all (λx=>!x.1) && (aa1 q3 (Yu [] X.env)).all (λx=>x.1.isSome)
   && decide (([e]:List S4).length + ([]:List Yv).length + (if ([]:List Yv).isEmpty then 0 else 1) < 30))=true:=by rfl)
  (Qw:(q2.endLine == q3.line)=true:=by rfl) (QM:Sl [e] X.env=(false,eval e X.env)::Sl [] X.env:=by rfl) (Qo:(UL q3 (Sl [] X.env)).any (·.1)=false:=by rfl)
  (hs:VZ (.Call (.Attribute (.Name x p1) "append" p2) [.Call (.Attribute (.Name y q1) "pop" q2) [e] [] q3] [] pos') none pos.line X.env=pure false:=by rfl):iK X c (.Expr (.Call (.Attribute (.Name x p1) "append" p2) [.Call (.Attribute (.Name y q1) "pop" q2) [e] [] q3] [] pos') pos) (nA i j g):=have h:=h.h;⟨
 iu (qZ (yL VX Ye Yg qm (kY hi RL hdx Rq) (fc (yL VX PySem.F.slot_list_pop PySem.F.type_list_pop GF (kY hj RM QV Rr) (fc h ig QM) Qt QG Qw QM Qo) ig hst) hbase hfew hline hst hplain) hs) λE σ H ⟨J,env,sr,w⟩=>by
  unfold nA at w
  split at w
  ·rename_i zs xs QX QZ
   split at w
   ·exact w.elim
   ·rename_i hij
    obtain ⟨_,k1,p,us,rfl,k2,k3,k4,k5⟩:=sr.at_ i _ QX
    obtain ⟨_,l1,q,vs,rfl,l2,l3,l4,l5⟩:=sr.at_ j _ QZ
    refine ⟨.ref p,k1,.inl ⟨rfl,us,cK.of k2⟩,?_⟩
    refine ⟨.ref q,l1,.inl ⟨rfl,vs,cK.of l2⟩,?_⟩
    refine ⟨J,env,sr,aE (aI w) λr wr v J1 H1 e1 r1=>?_⟩
    split at wr
    ·rename_i k
     cases r1
     split at wr
     ·rename_i hk
      split at wr
      ·rename_i d hd
       obtain ⟨z,hz,rz⟩:=l5.get hd
       have m2:=e1.h _ _ l2
       have n2:=e1.h _ _ k2
       have hpq:q≠p:=λzz=>Mh sr hij QX QZ k1 l1 zz.symm
       refine ⟨q,vs,k,k.toNat,z,rfl,rfl,m2,by omega,?_,NT hk.1 (by rw [<-l5.length];exact hk.2.1),hz,?_⟩
       ·have z1:=hk.2.1
        have z2:=hk.2.2.2
        have z3:sizeLine=16777216:=Ud
        omega
       ·refine ⟨p,us,z,rfl,rfl,by rw [bz (U_ hpq)];exact n2,by rw [<-k5.length];exact hk.2.2.1,?_⟩
        have sr1:=sr.ext e1
        have J1p:J1 p=none:=e1.frz p (by rw [k2];intro z;cases z) k3
        have J1q:J1 q=none:=e1.frz q (by rw [l2];intro z;cases z) l3
        have sr2:=sr1.upd (xs':=xs.eraseIdx k.toNat) (vs':=vs.eraseIdx k.toNat) QZ l1 m2 J1q l4 ((l5.mono e1.j).eraseIdx _)
        have QY:(env.set j (some (.own (xs.eraseIdx k.toNat))))[i]?=some (some (.own zs)):=by rw [Ti (U_ hij)];exact QX
        have sr3:=sr2.upd (xs':=zs++[d]) (vs':=us++[z]) QY k1 (by rw [bz (U_ hpq)];exact n2) J1p k4 ((k5.mono e1.j).append (.cons (rz.mono e1.j) .nil))
        exact wr σ J1 _ e1.j sr3
      ·exact wr.elim
     ·exact wr.elim
    ·exact wr.elim
  ·exact w.elim⟩
end
section
variable {X:Cx}{c:C}{e a b tg:S4}{es:List S4}{ga gb g:G R}{pos:Pos}
theorem sD (i:Nat){x:Str}{p1 p2 pos':Pos}(h:QD X c e g) (hN:X.N[i]?=some x:=by rfl) (hv:rS X.env.scope x:=by first | exact Xf rfl | exact V1 (Xf rfl) | exact V1 (V1 rfl)) (hd:(x == ("__debug__":Str))=false:=by decide)
  (hcd:(x == ("__classdict__":Str))=false:=by decide)
  (hbase:WH (.Name x p1) "extend" X.env (eval (.Name x p1) X.env)=eval (.Name x p1) X.env:=by rfl)
  (hfew:((UL pos' (Sl [e] X.env)).all (λx=>!x.1) && (aa1 pos' (Yu [] X.env)).all (λx=>x.1.isSome)
   && decide (([e]:List S4).length + ([]:List Yv).length + (if ([]:List Yv).isEmpty then 0 else 1) < 30))=true:=by rfl)
  (hline:(p2.endLine == pos'.line)=true:=by rfl) (hst:Sl [e] X.env=(false,eval e X.env)::Sl [] X.env:=by rfl) (hplain:(UL pos' (Sl [] X.env)).any (·.1)=false:=by rfl)
  (hs:VZ (.Call (.Attribute (.Name x p1) "extend" p2) [e] [] pos') none pos.line X.env=pure false:=by rfl) (hK:X.K=c.K:=by rfl):iK X c (.Expr (.Call (.Attribute (.Name x p1) "extend" p2) [e] [] pos') pos) (p5 i g):=have h:=h.h;⟨
 iu (qZ (yL VX PySem.F.slot_list_extend PySem.F.type_list_extend L5 (kY hN hv hd hcd) (fc h ig hst) hbase hfew hline hst hplain) hs) λE σ H ⟨J,env,sr,w⟩=>by
  unfold p5 at w
  split at w
  ·rename_i xs hi
   obtain ⟨v,h1,a,vs,rfl,h2,h3,h4,h5⟩:=sr.at_ i _ hi
   refine ⟨.ref a,h1,.inl ⟨rfl,vs,cK.of h2⟩,?_⟩
   refine ⟨J,env,sr,aE (aI w) λr wr y J1 H1 e1 r1=>?_⟩
   obtain ⟨ys,q,wr⟩:=kL wr
   split at wr
   ·rename_i hz
    obtain ⟨p,ws,rfl,hq,hs⟩:=nj (sr.hp.ext e1) r1 q
    refine ⟨a,p,vs,ws,rfl,rfl,e1.h _ _ h2,by rw [hK];exact hq,by rw [<-h5.length,<-hs.length];exact hz,?_⟩
    refine wr σ J1 _ e1.j ?_
    exact (sr.ext e1).upd hi h1 (e1.h _ _ h2) (e1.frz a (by rw [h2];intro z;cases z) h3) h4 ((h5.mono e1.j).append hs)
   ·exact wr.elim
  ·exact w.elim⟩
theorem uZ (ha:QD X c a ga) (hb:QD X c b gb):QD X c (.Compare a [.Is] [b] pos) (g2 (kT false) ga gb):=have ha:=ha.h;have hb:=hb.h;⟨uR ES (by
 intro He He' J H x y u v Q hp rx ry w
 unfold kT at w
 split at w
 ·rename_i o ho
  refine ⟨o,by rw [qW ry];exact ho,?_⟩
  rw [qW rx]
  exact w _ J H (Ext.refl hp.sub) (.bl _)
 ·exact w.elim) ha hb⟩
theorem uW (ha:QD X c a ga) (hb:QD X c b gb):QB X c (.Compare a [.Is] [b] pos) (bC (g2 (kT false) ga gb)):=have ha:=ha.h;have hb:=hb.h;⟨jX ES (by
 intro He He' J H x y u v Q hp rx ry w
 unfold kT at w
 split at w
 ·rename_i o ho
  refine ⟨o,by rw [qW ry];exact ho,?_⟩
  rw [qW rx]
  exact w _ J H (Ext.refl hp.sub) (.bl _)
 ·exact w.elim) ha hb⟩
end
section
variable {X:Cx}{c:C}{e a b d tg:S4}{es:List S4}{ga gb g:G R}{pos:Pos}
theorem fY (h:QD X c e g) (hK:X.K=c.K:=by rfl):t9 X c tg e (jf g):=have h:=h.h;⟨oQ (E2 h) λσ H Q ⟨J,env,sr,w⟩=>by
 refine ⟨J,env,sr,aE (aI w) λr wr v J1 H1 e1 r1=>?_⟩
 rw [hK]
 split at wr
 ·cases r1 with
  | tup h1 h2=>exact ⟨_,rfl,.inr ⟨⟨_,fC e1.sub h1⟩,wr _ J1 H1 e1 (yb (λJ H u=>u) h1 h2)⟩⟩
 ·cases r1 with
  | lst h1 h2=>exact ⟨_,rfl,.inl ⟨⟨_,e1.sub.seq h1⟩,wr _ J1 H1 e1 (qM (.inl h1) h2)⟩⟩
 ·obtain ⟨J2,e2,s2,rd⟩:=freeze e1 r1 rfl
  cases rd with
  | lst h1 h2=>exact ⟨_,rfl,.inl ⟨⟨_,e2.sub.seq h1⟩,wr _ J2 H1 e2 (qM (.inl h1) h2)⟩⟩
 ·obtain ⟨a,vs,rfl,h1,h2⟩:=r1
  exact ⟨_,rfl,.inl ⟨⟨_,(sr.hp.ext e1).ent.seq h1⟩,wr _ J1 H1 e1 (qM (.inr h1) h2)⟩⟩
 ·exact wr.elim⟩
theorem cC (h:QD X c e g) (hK:X.K=c.K:=by rfl):rR X c tg e (eY g):=have h:=h.h;⟨oQ (E2 h) λσ H Q ⟨J,env,sr,w⟩=>by
 refine ⟨J,env,sr,aE (aI w) λr wr v J1 H1 e1 r1=>?_⟩
 rw [hK]
 have lst:∀{xs:List D},kP r=.ok xs->(∀It J1' H1',Ext J H J1' H1'->Walk c It xs J1' (λJ' H'=>aT J1' J'/\aT H1' H')->Q It H1')->∃a,v=.ref a/\(((∃xs,cK c.K H1 a xs)/\Q (HM c.K a) H1)\/((∃xs,cZ c.K H1 a xs)/\Q (HN c.K a) H1)):=fun {xs} q wr=>by
  obtain ⟨a,vs,rfl,h1,h2⟩:=RR.list (sr.hp.ext e1) r1 q
  refine ⟨a,rfl,.inl ⟨⟨_,h1⟩,wr _ J1 H1 e1 λi J' H' hp u=>?_⟩⟩
  have h':=u.2.seq h1
  refine ⟨λhl=>⟨vs,h',by rw [<-h2.length];exact hl⟩,λd hd=>?_⟩
  obtain ⟨v,k1,k2⟩:=h2.get hd
  refine ⟨⟨vs,v,h',k1⟩,λx H2 ⟨e,hy⟩=>?_⟩
  subst e
  have:=hy vs h'
  rw [k1] at this
  cases this
  exact ⟨J',Ext.refl hp.sub,k2.mono u.1⟩
 cases r with
 | d y=>
  cases y with
  | tup xs=>
   cases r1 with
   | tup h1 h2=>exact ⟨_,rfl,.inr ⟨⟨_,fC e1.sub h1⟩,wr _ J1 H1 e1 (yb (λJ H u=>u.1) h1 h2)⟩⟩
  | lst xs=>exact lst rfl wr
  | _=>exact wr.elim
 | l m xs=>exact lst rfl wr
 | mo _ _=>exact wr.elim
 | mb _ _=>exact wr.elim
 | mf _ _=>exact wr.elim⟩
end
section
variable {X:Cx}{c:C}{st:VA}{g:G O}
theorem iD (i:Nat) (h:iK X c st g):iK X c st (fW i g):=have h:=h.h;⟨λRX s σ H D I ⟨J,env,sr,w⟩=>by
 unfold fW at w
 split at w
 ·rename_i xs hi
  obtain ⟨v,h1,a,vs,rfl,h2,h3,h4,h5⟩:=sr.at_ i _ hi
  obtain ⟨J',s1,sr'⟩:=sr.frz (x:=.inl xs) hi h1 h2 h3 h4 (.lst (.inl (.inl bU)) (h5.mono (cO h3 _)))
  exact h RX s σ H D I ⟨J',_,sr',aE w λo q=>q.mono s1⟩
 ·rename_i ks vs hi
  obtain ⟨v,h1,a,rfl,⟨us,ws,ep,h2,m1,m2,m3,m4⟩,h3,h4⟩:=sr.at_ i _ hi
  obtain ⟨J',s1,sr'⟩:=sr.frz (x:=.inr (ks,vs)) hi h1 h2 h3 h4 (.dct bU (m1.mono (cO h3 _)) (m2.mono (cO h3 _)) m3 m4)
  exact h RX s σ H D I ⟨J',_,sr',aE w λo q=>q.mono s1⟩
 ·exact h RX s σ H D I ⟨J,env,sr,w⟩⟩
end
section
variable {X:Cx}{c:C}
theorem Kh {P:Su}{w:S3}{K:R7}{mg:Str->Option R8}{base:TM}{x R1:Str}{st:VA}{f:Sm}{fd:SO}{N ps:List Str}{k:Nat}{Fm:List S->M R}(F:pe K x R1 st f fd) (hm:mg x=some (.ref f)) (Sc:fK N ps (aY st))
  (hbi:∀(kV doc pm:R8) (an:Option Sm) (cdv ct:R8) (us:List R8),us.length=ps.length->Zn (TH x R1 (cU st) (bV st) (aY st) .none kV doc pm an cdv ct) ⟨us,[]⟩=pure (ps.zip us)){gB:G O}
  (hb:∀(cdv:R8) (A:S5) (outer:List Env) (s:R_) (H:Hp) (E:XK) (J:Hp) (T:Exc->Prop),dc k (A.deeper (X0 R1 (aY st) s.heap.objs.size f cdv))->
   pq (Eh P w K mg base N R1 (aY st) f cdv A outer s H E) ⟨K,H,J,T⟩ (bV st) gB)
  (hF:∀as r,as.length=ps.length->Fm as=.ok r->fin (gB (bq N as))=.ok r):bI P w K mg base (k + 1) ps.length x Fm:=
 Ll F hm Sc hbi (λcdv A outer s H E J T hr=>(hb cdv A outer s H E J T hr).h) hF
theorem Kl {P:Su}{w:S3}{K:R7}{mg:Str->Option R8}{base:TM}{x R1:Str}{st:VA}{f:Sm}{fd:SO}{N ps:List Str}{k:Nat}{Fm:List S->M R}(F:pe K x R1 st f fd) (Sc:fK N ps (aY st)){gB:G O}
  (hb:∀(cdv:R8) (A:S5) (outer:List Env) (s:R_) (H:Hp) (E:XK) (J:Hp) (T:Exc->Prop),dc k (A.deeper (X0 R1 (aY st) s.heap.objs.size f cdv))->
   pq (Eh P w K mg base N R1 (aY st) f cdv A outer s H E) ⟨K,H,J,T⟩ (bV st) gB)
  (hF:∀as r,as.length=ps.length->Fm as=.ok r->fin (gB (bq N as))=.ok r):fF P w K mg base o_ (k + 1) f fd ps (qH K ps.length Fm):=
 Ek F Sc (λcdv A outer s H E J T hr=>(hb cdv A outer s H E J T hr).h) hF
end
end DL
namespace K01
open PySem DL
def wO:List Str:=["thing"]
def qb:G O:=(bJ (lY (Ep "int" (af 0)) (Ig (Ep "bool" (af 0)))))
def fQ (as:List S):M R:=fin (qb (bq wO as))
theorem gI {n:Nat}(h:n<=1000):n<=sizeLine:=S7 h (by decide)
noncomputable def Ol:D->Bool
 | .int _=>true
 | _=>false
theorem vL (f:D->Bool):∀(ds:List D),jN (ds.map λd=>.bl (f d))=some (ds.map f)
 | []=>rfl
 | d::r=>by
  simp only [Sw,jN,vL f r]
  rfl
theorem all_map (f:D->Bool) (ds:List D):oz [.l .fresh (ds.map λd=>.bl (f d))]=.ok (.d (.bl (ds.all f))):=by
 unfold oz
 simp only [kP,aP,vL]
 congr 3
 simp [Y8]
theorem IV (d:D):fQ [.d d]=.ok (.d (.bl (Ol d))):=by cases d <;> rfl
theorem kH {α:Type}{xs:List α}{k:Nat}{x:α}(h:xs[k]?=some x):L2.lQ xs (k:Int)=some x:=by
 have hk:k < xs.length:=(SV.mp h).1
 unfold L2.lQ L2.zR
 rw [if_pos (by omega),if_pos (by omega)]
 simpa using h
theorem kJ {xs:List D}{k:Nat}{x:D}(h:xs[k]?=some x):aZ (.d (.tup xs)) (.d (.int k))=.ok (.d x):=by
 unfold aZ
 simp only [iM,aP,kH h]
theorem yE {m:Md}{xs:List D}{k:Nat}{x:D}(h:xs[k]?=some x):aZ (.l m xs) (.d (.int k))=.ok (.d x):=by
 unfold aZ
 simp only [iM,aP,kH h]
theorem Jo {z:Str}{k:Nat}{c:Nat}(hz:z.length<=1000) (h:z.cps.toList[k]?=some c):aZ (.d (.str z)) (.d (.int k))=.ok (.d (.str ⟨#[c]⟩)):=by
 unfold aZ
 simp only [gI hz,if_true,kH h]
theorem eq_int (neg:Bool) (i j:Int):cL neg (.d (.int i)) (.d (.int j))=.ok (.d (.bl (if neg then !(i == j) else i == j))):=rfl
theorem f9 (a:D) (r:List D):aZ (.d (.tup (a::r))) (.d (.int 0))=.ok (.d a):=kJ (k:=0) rfl
theorem zQ (a b:D) (r:List D):aZ (.d (.tup (a::b::r))) (.d (.int 1))=.ok (.d b):=kJ (k:=1) rfl
theorem Pw (a b c:D) (r:List D):aZ (.d (.tup (a::b::c::r))) (.d (.int 2))=.ok (.d c):=kJ (k:=2) rfl
theorem OS (n:Nat) (h:n<=1000):below 4611686018427387904 (n:Int)=true:=dD.mpr ⟨by omega,by omega⟩
def IC (j:Int):M (List D):=if below 4611686018427387904 j then .ok (eZ 0 j.toNat) else .bad
theorem MV (j:Int) (h:below 4611686018427387904 j=true):IC j=.ok (eZ 0 j.toNat):=by unfold IC;exact if_pos h
theorem MU {gs:G (List R)}{env:Ev}{j:Int}(hg:gs env=.ok [.d (.int j)]):cg gs env=IC j:=by
 unfold cg IC
 rw [hg]
 rfl
theorem qy {gs:G (List R)}{env:Ev}{n:Nat}(hg:gs env=.ok [.d (.int (n:Int))]) (h:n<=1000):cg gs env=.ok (eZ 0 n):=by
 rw [MU hg,MV _ (OS n h)]
 exact congrArg (λk=>M.ok (eZ 0 k)) (Uk n)
theorem Ly {g:G (List D)}{t:GT}{u:G O}{env:Ev}{ds:List D}(h:g env=.ok ds):dO g t u env=fH t u ds env:=by
 unfold dO
 rw [h]
 rfl
theorem AD (i j:Int):d_ (.d (.int i)) (.d (.int j))=.ok (.d (.int (i + j))):=rfl
theorem CA {C:Int->Int->Bool}{f:Int->Int->D}{i j:Int}(h:C i j=true):fI C f (.d (.int i)) (.d (.int j))=.ok (.d (f i j)):=by
 show (if C i j=true then M.ok (R.d (f i j)) else M.bad)=_
 rw [if_pos h]
theorem KR (i j:Int) (h1:-(2 ^ 64) < j) (h2:j < 2 ^ 64):gG (.d (.int i)) (.d (.int j))=.ok (.d (.int (i * j))):=CA (C:=zS) (f:=λi j=>.int (i * j)) (by unfold zS;rw [VJ];exact V1 (dD.mpr ⟨h1,h2⟩))
theorem o6 (i j:Int) (h1:0 < j) (h2:j < 1073741824):iB (.d (.int i)) (.d (.int j))=.ok (.d (.int (i / j))):=CA (by
 unfold CM
 rw [Sf]
 exact ⟨decide_eq_true h1,dD.mpr ⟨by omega,h2⟩⟩)
theorem gV (i j:Int) (h1:0 < j):fG (.d (.int i)) (.d (.int j))=.ok (.d (.int (i % j))):=CA (decide_eq_true h1)
theorem IK (x y:Str) (h:x.length + y.length<=1000):d_ (.d (.str x)) (.d (.str y))=.ok (.d (.str (x++y))):=by
 show (if x.length + y.length<=sizeLine then M.ok (R.d (D.str (x++y))) else M.bad)=_
 rw [if_pos (gI h)]
theorem IJ (x:Str) (n:Int) (h0:0<=n) (h:n<=1000) (hx:x.length<=1000):gG (.d (.str x)) (.d (.int n))=.ok (.d (.str (iF x n.toNat))):=by
 show (if 0<=n/\n<=1000/\x.length<=1000 then M.ok (R.d (D.str (iF x n.toNat))) else M.bad)=_
 rw [if_pos ⟨h0,h,hx⟩]
def Lf:Str:="abcdefghijklmnopqrstuvwxyz"
theorem Lg:∀k:Fin 26,Lf.cps.toList[k.val]?=some (97 + k.val):=by decide +kernel
theorem IY:Lf.length<=1000:=by decide +kernel
theorem EE (i:Int) (h0:0<=i) (h:i < 26):aZ (.d (.str "abcdefghijklmnopqrstuvwxyz")) (.d (.int i))=.ok (.d (.str ⟨#[97 + i.toNat]⟩)):=by
 have e:i=((i.toNat:Nat):Int):=by omega
 have:=Jo (z:=Lf) (k:=i.toNat) IY (Lg ⟨i.toNat,by omega⟩)
 rw [e]
 exact this
theorem uD (c:Array Nat):∀(k:Nat) (acc:Array Nat),((T8 k c).foldl (·++·) acc).toList=acc.toList++(T8 k c.toList).flatten
 | 0,acc=>by simp
 | k + 1,acc=>by
  rw [VV,XD,uD c k]
  simp [VV]
theorem Jg (b n:Nat):(iF ⟨#[b]⟩ n).cps.toList=T8 n b:=by
 unfold iF
 simp only
 rw [uD]
 induction n with
 | zero=>rfl
 | succ n ih=>simpa [VV] using ih
theorem JI (x:Str):x.length=x.cps.toList.length:=by
 show x.cps.size=_
 simp
theorem strs_map:∀(ss:List Str),strsOf (ss.map .str)=some ss
 | []=>rfl
 | s::r=>by
  simp only [Sw,strsOf,strs_map r]
  rfl
theorem sorted_strs (m:Md) (ss:List Str) (h:ss.length < 64):ny [.l m (ss.map .str)]=.ok (.l .fresh ((rA ss).map .str)):=by
 unfold ny
 simp only [kP,aP,strs_map,h,if_true]
theorem zL {b:G Bool}{t u:G O}{env:Ev}(h:b env=.ok false):bS b t u env=u env:=by
 unfold bS
 rw [h]
 rfl
theorem v5 {b:G Bool}{t u:G O}{env:Ev}(h:b env=.ok true):bS b t u env=t env:=by
 unfold bS
 rw [h]
 rfl
theorem Nu {g:G R}{f:List R->M R}{env:Ev}{r r':R}(h:g env=.ok r) (hf:f [r]=.ok r'):gN f (aq g aG) env=.ok r':=by
 unfold gN aq
 rw [h]
 exact hf
theorem MR {g:G R}{env:Ev}{r r':R}(h:g env=.ok r) (h2:rF r=.ok r'):bJ g env=.ok (.rt r'):=by
 unfold bJ
 rw [h,aP,h2]
 rfl
abbrev dN (k:Nat):D:=.int k
abbrev dP (p:Nat×Nat):D:=.tup [.int p.1,.int p.2]
def iP (p q:Nat×Nat):Prop:=p.1 < q.1\/(p.1=q.1/\p.2 < q.2)
def yy (m:Nat) (xs:List Nat):Prop:=xs.length<=8/\xs.Pairwise (· < ·)/\∀x∈xs,x < m
def t7 (m:Nat) (ps:List (Nat×Nat)):Prop:=ps.length<=64/\ps.Pairwise iP/\∀p∈ps,p.1 < m/\p.2 < m
structure Wd where
 m:Nat
 ms:List (Str×List Nat)
 ar:List (Str×List (Nat×Nat))
abbrev gx (r:Str×List Nat):D:=.tup [.str r.1,.tup (r.2.map dN)]
abbrev iI (r:Str×List (Nat×Nat)):D:=.tup [.str r.1,.tup (r.2.map dP)]
def Wd.d (w:Wd):D:=.tup [.int w.m,.tup (w.ms.map gx),.tup (w.ar.map iI)]
theorem xJ {K:R7}{J:L2.Hp}:∀(ns:List Int),aK K J (ns.map D.int) (ns.map L2.V.int)
 | []=>.nil
 | n::r=>.cons (.int n) (xJ r)
end K01
namespace DX
open PySem PySem.Spec
open Builtin Builtin.ObjectAttr
end DX
namespace DX
open PySem PySem.Spec
end DX
namespace DX
open PySem PySem.Spec PyProof.Rows L2
end DX
namespace DL
open PySem PySem.Spec PyProof.Rows L2 DX
noncomputable def OA (K:R7) (J:Hp) (x:Exc) (v:R8) (dx:Option Sm):Prop:=
 ∃a C vs,v=.ref a/\J a=some (XO a C dx)/\Th K SS x.cls=some (some (.ref C))/\XF J dx x.ns vs/\aK K J x.ds vs/\∃P,GX K P/\XE K P C
def XW (K:R7) (J H:Hp) (E:XK) (x:Exc):Prop:=∀v dx J' H',Ext J H J' H'->OA K J' x v dx->E v dx H'
noncomputable def xU (K:R7) (n:Nat) (F:List S->M R):Sp:=λvs H Q E=>∃J as,aT J H/\as.length=n/\jw K J H as vs/\cA (F as) (λr=>∀v J' H',Ext J H J' H'->FR K H J' H' r v->Q v H') (XW K J H E)
abbrev Pq (P:Su) (w:S3) (K:R7) (mg:Str->Option R8) (base:TM) (N:List Str) (R1:Str) (sc:Vk) (f:Sm) (cd:R8) (A:S5) (outer:List Env) (s:R_) (H:Hp) (E:XK):Cx:=pY (tK P w) P w K mg base N R1 sc f cd A outer s H E
end DL
namespace DX
open PySem PySem.Spec PyProof.Rows L2
end DX
namespace DL
open PySem PySem.Spec PyProof.Rows L2 DX
end DL
namespace DX
open PySem PySem.Spec PyProof.Rows L2
end DX
namespace DL
open PySem PySem.Spec PyProof.Rows L2 DX
end DL
namespace DX
open PySem PySem.Spec PyProof.Rows L2
open Sem (wp)
end DX
namespace DL
open PySem PySem.Spec PyProof.Rows L2 DX
noncomputable def B5 (P:Su) (w:S3) (K:R7) (mg:Str->Option R8) (base:TM) (k n:Nat) (x:Str) (Fm:List S->M R):Prop:=
 ∃f fd ps,fF P w K mg base (tK P w) k f fd ps (xU K n Fm)/\mg x=some (.ref f)/\T7 K (.ref f)=true/\Binds K fd ps []
section
variable {X:Cx}{c:C}{e a:S4}{es:List S4}{pos:Pos}{g:G R}{L:List Str}
theorem GZ {k n:Nat}{f:Sm}{fd:SO}{ps:List Str}{F:List S->M R}{x:Str}{p:Pos}{gs:G (List R)}(G:fF X.prog X.w X.K X.mg X.base (tK X.prog X.w) k f fd ps (xU X.K n F)) (hr:dc k X.A) (hm:X.mg x=some (.ref f)) (hk:T7 X.K (.ref f)=true)
  (hb:Binds X.K fd ps []) (ha:A_ X c (e::es) gs) (hT:c.K=X.K:=by rfl) (hg:Gl X x:=by rfl) (hdb:(x == ("__debug__":Str))=false:=by decide) (he:Sl (e::es) X.env=(false,eval e X.env)::Sl es X.env:=by rfl)
  (hpl:(UL pos (Sl es X.env)).any (·.1)=false:=by rfl):PD X c (.Call (.Name x p) (e::es) [] pos) (gN (aQ n F) gs):=by
 refine eW (qX (E:=λ_ _ _=>False) G hr hg hm hk hb .nil (λRX σ H s v s' I ⟨e,C,dx,T,H',ev,f⟩=>f.wish.elim) ha hdb he hpl) λσ H Q ⟨J,env,sr,w⟩=>?_
 refine ⟨J,env,sr,aE (aI w) λrs wr vs J1 H1 e1 r1=>?_⟩
 unfold aQ at wr
 split at wr
 ·rename_i hl
  have h1:=sr.hp.ext e1
  have ar:=r1.args h1
  rw [hT] at ar
  refine ⟨J1,rs.map fO,e1.sub,by simpa using hl,by rw [US];exact ar,?_⟩
  cases q:F (rs.map fO) with
  | bad=>rw [q] at wr;exact wr
  | exc x=>rw [q] at wr;exact wr.elim
  | ok r=>
   rw [q] at wr
   intro v J' H' e2 fr
   refine wr v J' H' (e1.trans e2) ?_
   cases r with
   | d y=>exact (show Rep c.K J' y v from hT▸fr)
   | mo _ _=>exact fr.elim
   | mb _ _=>exact fr.elim
   | mf _ _=>obtain ⟨a,h1,h2,h3,h4⟩:=fr;exact ⟨a,h1,hT▸h2,h3,e1.h.free h4⟩
   | l m ys=>
    obtain ⟨a,us,h1,h2,h3,h4,h5⟩:=fr
    exact ⟨a,us,h1,h2,h3,e1.h.free h4,hT▸h5⟩
 ·exact wr.elim
theorem Aj {k k' n:Nat}{F:List S->M R}{x:Str}{p:Pos}{gs:G (List R)}(G:B5 X.prog X.w X.K X.mg X.base k n x F) (hr:dc k' X.A) (ha:i8 X c (e::es) gs) (hk:k<=k':=by decide) (hT:c.K=X.K:=by rfl) (hg:Gl X x:=by rfl) (hdb:(x == ("__debug__":Str))=false:=by decide)
  (he:Sl (e::es) X.env=(false,eval e X.env)::Sl es X.env:=by rfl) (hpl:(UL pos (Sl es X.env)).any (·.1)=false:=by rfl):QD X c (.Call (.Name x p) (e::es) [] pos) (gN (aQ n F) gs):=by
 obtain ⟨f,fd,ps,h1,h2,h3,h4⟩:=G
 exact ⟨GZ h1 (hr.mono hk) h2 h3 h4 ha.h hT hg hdb he hpl⟩
end
structure nY (K:R7) (x R1:Str) (st:VA) (f:Sm) (fd:SO):Prop where
 ex:∃(oc:R8) (od:Option Sm) (T:Sm) (o:Obj) (n:Nat) (kV doc pm:R8) (an:Option Sm) (cdv ct:R8) (osl:Array (Option R8)),
  fd=TH x R1 (cU st) (bV st) (aY st) (.ref T) kV doc pm an cdv ct/\K.lookup f=some ⟨oc,od,.func fd,osl⟩/\Vu K cdv R1=true/\K.lookup T=some o/\o.data=.seq #[.none] n
 kp:T7 K (.ref f)=true
theorem y9 {K:R7}{J H:Hp}:∀{as:List S}{vs:List V},jw K J H as vs->jw K J H (as++[.d .non]) (vs++[.non])
 | [],_,h=>by
  cases h
  exact ⟨.non,[],rfl,.non,rfl⟩
 | a::as,_,h=>by
  obtain ⟨v,us,rfl,h1,h2⟩:=h
  exact ⟨v,us++[.non],rfl,h1,y9 h2⟩
section
variable {P:Su}{w:S3}{K:R7}{mg:Str->Option R8}{base:TM}
theorem Jr {x R1:Str}{st:VA}{f:Sm}{fd:SO}{N ps:List Str}{k:Nat}{Fm:List S->M R}(F:nY K x R1 st f fd) (Sc:fK N ps (aY st)){gB:G O}
  (hb:∀(cdv:R8) (A:S5) (outer:List Env) (s:R_) (H:Hp) (E:XK) (J:Hp),dc k (A.deeper (X0 R1 (aY st) s.heap.objs.size f cdv))->HV (Pq P w K mg base N R1 (aY st) f cdv A outer s H E) ⟨K,H,J,XW K J H E⟩ (bV st) gB)
  (hF:∀as,as.length=ps.length->Fm as≠.bad->fin (gB (bq N as))=Fm as):fF P w K mg base (tK P w) (k + 1) f fd ps (xU K ps.length Fm):=by
 obtain ⟨oc,od,T,o,n,kV,doc,pm,an,cdv,ct,osl,rfl,lk,hcd,lT,dT⟩:=F.ex
 refine Ia lk hcd Sc (λvs H Q E ⟨J,as,h1,h2,h3,h4⟩=>by rw [h3.length,h2]) λA outer s H vs Q E hr ⟨J,as,h1,h2,h3,h4⟩=>?_
 refine ⟨_,hb cdv A outer s H E J hr,J,bq N as,AA h1 h3,?_⟩
 have z:=hF as h2 (λq=>by rw [q] at h4;exact h4)
 rw [<-z] at h4
 have ext:∀{J' H':Hp},HI ⟨K,H,J,XW K J H E⟩ J' H'->Ext J H J' H':=λhp=>⟨hp.ent,hp.entJ,hp.sub,hp.frz⟩
 cases qg:gB (bq N as) with
 | bad=>rw [qg] at h4;exact h4
 | exc x=>rw [qg] at h4;exact h4
 | ok o=>
  rw [qg] at h4
  cases o with
  | bk _=>exact h4.elim
  | ct _=>exact h4.elim
  | nx env=>exact λσ' J' H' _ sr=>h4 .non J' H' (ext sr.hp) .non
  | rt r=>exact λv J' H' _ hp rf=>h4 v J' H' (ext hp) (by
    cases r with
    | d x=>exact rf
    | mo _ _=>exact rf
    | mf _ _=>exact rf
    | mb _ _=>exact rf
    | l m xs=>exact rf)
noncomputable def FP (P:Su) (w:S3) (K:R7) (mg:Str->Option R8) (base:TM) (k n:Nat) (x:Str) (Fm:List S->M R):Prop:=
 ∃f fd ps,fF P w K mg base (tK P w) k f fd ps (xU K (n + 1) Fm)/\mg x=some (.ref f)/\T7 K (.ref f)=true/\Binds K fd ps [.none]
theorem nY.bindsAll {x R1:Str}{st:VA}{f:Sm}{fd:SO}{ps:List Str}(F:nY K x R1 st f fd)
  (h:∀(T:Sm) (kV doc pm:R8) (an:Option Sm) (cdv ct:R8) (us:List R8),us.length=ps.length->∃k:Option (Array R8)->Sem (List (Str×R8)),
   Zn (TH x R1 (cU st) (bV st) (aY st) (.ref T) kV doc pm an cdv ct) ⟨us,[]⟩=Z9 (.ref T) >>= k/\k (some #[.none])=pure (ps.zip us)):Binds K fd ps []:=by
 obtain ⟨oc,od,T,o,n,kV,doc,pm,an,cdv,ct,osl,rfl,lk,hcd,lT,dT⟩:=F.ex
 intro s us hK hl
 rw [US] at hl ⊢
 obtain ⟨k,h1,h2⟩:=h T kV doc pm an cdv ct us hl
 exact .of_defaults (T:=T) (items:=#[.none]) rfl (hK _ _ lT) dT h1 h2
theorem nY.bindsOne {x R1:Str}{st:VA}{f:Sm}{fd:SO}{ps:List Str}(F:nY K x R1 st f fd)
  (h:∀(T:Sm) (kV doc pm:R8) (an:Option Sm) (cdv ct:R8) (us:List R8),us.length + 1=ps.length->∃k:Option (Array R8)->Sem (List (Str×R8)),
   Zn (TH x R1 (cU st) (bV st) (aY st) (.ref T) kV doc pm an cdv ct) ⟨us,[]⟩=Z9 (.ref T) >>= k/\k (some #[.none])=pure (ps.zip (us++[.none]))):Binds K fd ps [.none]:=by
 obtain ⟨oc,od,T,o,n,kV,doc,pm,an,cdv,ct,osl,rfl,lk,hcd,lT,dT⟩:=F.ex
 intro s us hK hl
 obtain ⟨k,h1,h2⟩:=h T kV doc pm an cdv ct us (by simpa using hl)
 exact .of_defaults (T:=T) (items:=#[.none]) rfl (hK _ _ lT) dT h1 h2
end
section
variable {X:Cx}{c:C}{e:S4}{es:List S4}{pos:Pos}
theorem EW {k n:Nat}{f:Sm}{fd:SO}{ps:List Str}{F:List S->M R}{x:Str}{p:Pos}{gs:G (List R)}(G:fF X.prog X.w X.K X.mg X.base (tK X.prog X.w) k f fd ps (xU X.K (n + 1) F)) (hr:dc k X.A) (hm:X.mg x=some (.ref f)) (hk:T7 X.K (.ref f)=true)
  (hb:Binds X.K fd ps [.none]) (ha:A_ X c (e::es) gs) (hT:c.K=X.K:=by rfl) (hg:Gl X x:=by rfl) (hdb:(x == ("__debug__":Str))=false:=by decide) (he:Sl (e::es) X.env=(false,eval e X.env)::Sl es X.env:=by rfl)
  (hpl:(UL pos (Sl es X.env)).any (·.1)=false:=by rfl):PD X c (.Call (.Name x p) (e::es) [] pos) (gN (aQ n (λas=>F (as++[.d .non]))) gs):=by
 refine eW (qX (E:=λ_ _ _=>False) G hr hg hm hk hb (dvs:=[.non]) (.cons rfl .nil) (λRX σ H s v s' I ⟨e,C,dx,T,H',ev,f⟩=>f.wish.elim) ha hdb he hpl) λσ H Q ⟨J,env,sr,w⟩=>?_
 refine ⟨J,env,sr,aE (aI w) λrs wr vs J1 H1 e1 r1=>?_⟩
 unfold aQ at wr
 split at wr
 ·rename_i hl
  have h1:=sr.hp.ext e1
  have ar:=r1.args h1
  rw [hT] at ar
  refine ⟨J1,rs.map fO++[.d .non],e1.sub,by simpa using hl,y9 ar,?_⟩
  dsimp only at wr
  cases q:F (rs.map fO++[.d .non]) with
  | bad=>rw [q] at wr;exact wr
  | exc x=>rw [q] at wr;exact wr.elim
  | ok r=>
   rw [q] at wr
   intro v J' H' e2 fr
   refine wr v J' H' (e1.trans e2) ?_
   cases r with
   | d y=>exact (show Rep c.K J' y v from hT▸fr)
   | mo _ _=>exact fr.elim
   | mb _ _=>exact fr.elim
   | mf _ _=>obtain ⟨a,h1,h2,h3,h4⟩:=fr;exact ⟨a,h1,hT▸h2,h3,e1.h.free h4⟩
   | l m ys=>
    obtain ⟨a,us,h1,h2,h3,h4,h5⟩:=fr
    exact ⟨a,us,h1,h2,h3,e1.h.free h4,hT▸h5⟩
 ·exact wr.elim
theorem G9 {k k' n:Nat}{F:List S->M R}{x:Str}{p:Pos}{gs:G (List R)}(G:FP X.prog X.w X.K X.mg X.base k n x F) (hr:dc k' X.A) (ha:i8 X c (e::es) gs) (hk:k<=k':=by decide) (hT:c.K=X.K:=by rfl) (hg:Gl X x:=by rfl) (hdb:(x == ("__debug__":Str))=false:=by decide)
  (he:Sl (e::es) X.env=(false,eval e X.env)::Sl es X.env:=by rfl) (hpl:(UL pos (Sl es X.env)).any (·.1)=false:=by rfl):QD X c (.Call (.Name x p) (e::es) [] pos) (gN (aQ n (λas=>F (as++[.d .non]))) gs):=by
 obtain ⟨f,fd,ps,h1,h2,h3,h4⟩:=G
 exact ⟨EW h1 (hr.mono hk) h2 h3 h4 ha.h hT hg hdb he hpl⟩
end
end DL
namespace DL
open PySem PySem.Spec PyProof.Rows L2
noncomputable def vF (A:S5) (s:R_) (y x:R8) (b:Bool):Prop:=
 ∀(prog:Su) (w:S3) (E:R8->R_->Prop) (Q:R8->R_->Prop),Q (.bool b) s->Sx (SE prog w) A (richCompare .Lt y x) Q E s
inductive gn (A:S5) (s:R_) (fin:Bool):List (R8×R8)->Bool->Prop
 | nil:gn A s fin [] fin
 | yes {x y:R8}{r:List (R8×R8)}{b:Bool}:UZ A s x y true->gn A s fin r b->gn A s fin ((x,y)::r) b
 | no {x y:R8}{r:List (R8×R8)}{b:Bool}:UZ A s x y false->vF A s x y b->gn A s fin ((x,y)::r) b
section
open PySem.SeqAt
open PySem.AutoSeq1 (wpAny_loadPart')
open PySem.MeetsSeq PySem.MeetsSeq2 PySem.MeetsSeq3
theorem Fz (l b:Sm) (items R3:Array R8) (n n2:Nat) (dd dd2:Option Sm) (sl sl2:Array (Option R8)) (ans:Bool):
  Meets (Ww.«tuple.__lt__» ⟨[.ref l,.ref b],[]⟩)
   (λA R s=>s.heap.get? l=some {cls:=.type "tuple",dict:=dd,data:=.seq items n,slots:=sl}/\s.heap.get? b=some {cls:=.type "tuple",dict:=dd2,data:=.seq R3 n2,slots:=sl2}/\
    gn A.in1 s (decide (items.size < R3.size)) (items.toList.zip R3.toList) ans/\R (.ok (.ret (.bool ans))) s):=
 .of_wp λprog w A R s h=>by
  obtain ⟨hp,g,d,tk,os⟩:=s;obtain ⟨hl,hb,hP,h⟩:=h
  have f2:=WA
  wp_walk using Vh hl,Vh hb,Vn _ (λrest b s'=>b.1=none/\s'=⟨hp,g,d,tk,os⟩/\gn A.in1 ⟨hp,g,d,tk,os⟩ (decide (items.size < R3.size)) rest ans) _
  case turn=>
   rintro ⟨y,x⟩ rest b s' ⟨hb',rfl,hq⟩
   cases hq with
   | yes he hr=>
    refine R6 (he prog w _ _ ?_)
    wp_walk
    exact ⟨rfl,rfl,hr⟩
   | no he hlt=>
    refine R6 (he prog w _ _ ?_)
    have Ra:=hlt prog w
    wp_walk using Ra
    exact ⟨_,rfl,by simpa using h⟩
  case fin=>
   rintro ⟨b1,b2⟩ s' ⟨hb',rfl,hq⟩
   simp only at hb'
   subst hb'
   cases hq
   wp_walk
   exact ⟨_,rfl,by simpa [W4] using h⟩
  case h=>
   exact ⟨rfl,rfl,hP⟩
end
section
variable {K:R7}{J:Hp}{s:R_}
theorem JL {A:S5}{l b:Sm}{items R3:Array R8}{ans:Bool}(hl:s.heap.IsTuple l items) (hb:s.heap.IsTuple b R3) (hP:gn A.in1 s (decide (items.size < R3.size)) (items.toList.zip R3.toList) ans)
  (hu:A.units < Uu):vF A s (.ref l) (.ref b) ans:=λprog w E Q h=>by
 obtain ⟨⟨cls,dd,data,sl⟩,ho,hc,n,hd⟩:=id hl
 obtain ⟨⟨cls2,dd2,data2,sl2⟩,ho2,hc2,n2,hd2⟩:=id hb
 simp only at hc hd hc2 hd2
 subst hc hd hc2 hd2
 exact YS (op:=.Lt) ⟨_,ho,rfl⟩ ⟨_,ho2,rfl⟩ PySem.F.slot_tuple_lt PySem.F.entry_tuple_lt (PySem.F.args_tuple_lt_2 _ _) (Fz l b items R3 n n2 dd dd2 sl sl2 ans)
  ⟨ho,ho2,hP,show VD ans≠Zt/\Q (.bool ans) s from ⟨(λx=>nomatch x),h⟩⟩ hu
mutual
noncomputable def eU:D->D->Option Bool
 | .bl p,y=>match y with
  | .bl q=>some (!p && q)
  | _=>none
 | .int i,y=>match y with
  | .int j=>some (decide (i < j))
  | _=>none
 | .str x,y=>match y with
  | .str z=>some (decide (x.cps.toList < z.cps.toList))
  | _=>none
 | .tup xs,y=>match y with
  | .tup ys=>kg xs ys
  | _=>none
 | _,_=>none
noncomputable def kg:List D->List D->Option Bool
 | [],ys=>some (!ys.isEmpty)
 | x::xs,ys=>match ys with
  | []=>some false
  | y::ys=>if bu x y=true then kg xs ys else eU x y
end
theorem JK (A:S5){p:Bool}{e:D}{w:V}{u':R8}{b:Bool}(h:eU (.bl p) e=some b) (re:Rep K J e w) (rw':RelV w u'):vF A s (.bool p) u' b:=by
 unfold eU at h
 cases e with
 | bl q=>
  cases re
  cases rw'
  simp only [UO] at h
  subst h
  intro prog w E Q hq
  refine (lt_bool (p:=p) (q:=q) ?_:Sx (SE prog w) A (T5 .Lt (.bool p) (.bool q)) Q E s)
  cases p <;> cases q <;> exact hq
 | _=>cases h
theorem GB (A:S5){p:Int}{t:Tok}{e:D}{w:V}{u':R8}{b:Bool}(h:eU (.int p) e=some b) (re:Rep K J e w) (rw':RelV w u'):vF A s (.int p t) u' b:=by
 unfold eU at h
 cases e with
 | int q=>
  cases re
  obtain ⟨t',rfl⟩:=rw'
  simp only [UO] at h
  subst h
  intro prog w E Q hq
  exact (ac2 hq:Sx (SE prog w) A (T5 .Lt (.int p t) (.int q t')) Q E s)
 | _=>cases h
theorem GC (A:S5){p:Str}{t:Tok}{e:D}{w:V}{u':R8}{b:Bool}(h:eU (.str p) e=some b) (re:Rep K J e w) (rw':RelV w u'):vF A s (.str p t) u' b:=by
 unfold eU at h
 cases e with
 | str q=>
  cases re
  obtain ⟨t',rfl⟩:=rw'
  simp only [UO] at h
  subst h
  intro prog w E Q hq
  exact (ac3 hq:Sx (SE prog w) A (T5 .Lt (.str p t) (.str q t')) Q E s)
 | _=>cases h
noncomputable def FW (K:R7) (J:Hp) (s:R_) (d:D):Prop:=∀{e:D}{v w:V}{u u':R8}{b:Bool}(A:S5),eU d e=some b->Rep K J d v->Rep K J e w->RelV v u->RelV w u'->A.units + dep d < Uu->dep d<=1000->dep e<=1000->vF A s u u' b
noncomputable def tV (K:R7) (J:Hp) (s:R_) (ds:List D):Prop:=∀{es:List D}{vs ws:List V}{us us':List R8}{b:Bool}{n1 n2:Nat}(A:S5),kg ds es=some b->aK K J ds vs->aK K J es ws->Vals vs us->Vals ws us'->A.units + deps ds < Uu->deps ds<=1000->deps es<=1000->
  us.length + n2=us'.length + n1->gn A s (decide (n1 < n2)) (us.zip us') b
theorem GD (F:HF K J s){ds:List D}(ih:tV K J s ds):FW K J s (.tup ds):=by
 intro e v w u u' b A h rd re rv rw' hu k1 k2
 unfold eU at h
 cases e with
 | tup es=>
  simp only at h
  cases rd with
  | tup h1 hs=>
   cases re with
   | tup h2 hs'=>
    cases rv;cases rw'
    obtain ⟨RY,r,p⟩:=F.t _ _ h1
    obtain ⟨its',r',p'⟩:=F.t _ _ h2
    refine JL p p' ?_ (by unfold dep at hu;omega)
    have:=ih A.in1 (n1:=RY.length) (n2:=its'.length) h hs hs' r r' (by rw [in1_units];unfold dep at hu;omega) (by unfold dep at k1;omega) (by unfold dep at k2;omega) (by omega)
    simpa using this
 | _=>cases h
theorem EJ:tV K J s []:=by
 intro es vs ws us us' b n1 n2 A h rd re rv rw' hu k1 k2 hl
 cases rd;cases rv
 cases re with
 | nil=>
  cases rw'
  simp only [kg,List.isEmpty_nil,Va,UO] at h
  subst h
  have:decide (n1 < n2)=false:=decide_eq_false (by simp at hl;omega)
  rw [this]
  exact .nil
 | cons _ _=>
  cases rw'
  simp only [kg,List.isEmpty_cons,W9,UO] at h
  subst h
  have:decide (n1 < n2)=true:=decide_eq_true (by simp at hl;omega)
  rw [this]
  exact .nil
theorem CT (F:HF K J s){x:D}{xs:List D}(ix:FW K J s x) (ih:tV K J s xs):tV K J s (x::xs):=by
 intro es vs ws us us' b n1 n2 A h rd re rv rw' hu k1 k2 hl
 cases rd with
 | cons q1 r1=>
  cases rv with
  | cons t1 u1=>
   cases re with
   | nil=>
    cases rw'
    simp only [kg,UO] at h
    subst h
    have:decide (n1 < n2)=false:=decide_eq_false (by simp at hl;omega)
    rw [this]
    exact .nil
   | cons q2 r2=>
    cases rw' with
    | cons t2 u2=>
     unfold deps at hu k1 k2
     rename_i y v' ys ws' u0 us0
     have he:=nq F A q1 q2 t1 t2 (by omega) (by omega) (by omega)
     simp only [kg] at h
     cases z:bu x y with
     | true=>
      rw [z,if_pos rfl] at h
      rw [z] at he
      exact .yes he (ih A h r1 r2 u1 u2 (by omega) (by omega) (by omega) (by simp at hl;omega))
     | false=>
      rw [z,if_neg SX] at h
      rw [z] at he
      exact .no he (ix A h q1 q2 t1 t2 (by omega) (by omega) (by omega))
mutual
theorem OL (F:HF K J s):∀d:D,FW K J s d
 | .bl p=>λA h rd re rv rw' _ _ _=>by cases rd;cases rv;exact JK A h re rw'
 | .int p=>λA h rd re rv rw' _ _ _=>by cases rd;obtain ⟨t,rfl⟩:=rv;exact GB A h re rw'
 | .str p=>λA h rd re rv rw' _ _ _=>by cases rd;obtain ⟨t,rfl⟩:=rv;exact GC A h re rw'
 | .tup ds=>GD F (yH F ds)
 | .non=>λA h _ _ _ _ _ _ _=>by unfold eU at h;cases h
 | .lst _=>λA h _ _ _ _ _ _ _=>by unfold eU at h;cases h
 | .emp=>λA h _ _ _ _ _ _ _=>by unfold eU at h;cases h
 | .exn _ _ _=>λA h _ _ _ _ _ _ _=>by unfold eU at h;cases h
 | .dct _ _=>λA h _ _ _ _ _ _ _=>by unfold eU at h;cases h
theorem yH (F:HF K J s):∀ds:List D,tV K J s ds
 | []=>EJ
 | x::xs=>CT F (OL F x) (yH F xs)
end
end
end DL
namespace DL
open PySem PySem.Spec PyProof.Rows L2
open PySem.W (KasT kas_sort kas_asc kas_desc kas_rev kas_tail3 kas_descPart kas_count kas_place kas_bin)
noncomputable def bh {α:Type}(q:Nat->Nat->Bool):KasT α->α
 | .ret a=>a
 | .ask i j k=>bh q (k (q i j))
inductive fJ (n:Nat){α:Type}(P:α->Prop):KasT α->Prop
 | ret {a:α}:P a->fJ n P (.ret a)
 | ask {i j:Nat}{k:Bool->KasT α}:i < n->j < n->(∀b,fJ n P (k b))->fJ n P (.ask i j k)
theorem fJ.bind {n:Nat}{α β:Type}{P:α->Prop}{R:β->Prop}{f:α->KasT β}{t:KasT α}(h:fJ n P t) (hf:∀a,P a->fJ n R (f a)):fJ n R (t.bind f):=by
 induction h with
 | ret p=>exact hf _ p
 | ask h1 h2 _ ih=>exact .ask h1 h2 ih
theorem fJ.run {n:Nat}{α:Type}{P:α->Prop}{t:KasT α}(q:Nat->Nat->Bool) (h:fJ n P t):P (bh q t):=by
 induction h with
 | ret p=>exact p
 | ask _ _ _ ih=>exact ih _
theorem fJ.wp {n:Nat}{α:Type}{P:α->Prop}{t:KasT α}{q:Nat->Nat->Bool}{cmp:Nat->Nat->(Bool->R_->Prop)->R_->Prop}{s:R_}{G:α->R_->Prop}(h:fJ n P t)
  (hc:∀i j C,i < n->j < n->C (q i j) s->cmp i j C s) (hG:G (bh q t) s):t.kasWp cmp G s:=by
 induction h with
 | ret p=>exact hG
 | ask h1 h2 _ ih=>exact hc _ _ _ h1 h2 (ih _ hG)
def fZ (n:Nat) (p:Array Nat):Prop:=p.Perm (Sh n).toArray
theorem fZ.lt {n:Nat}{p:Array Nat}(h:fZ n p) (hn:0 < n) (k:Nat):p.getD k 0 < n:=by
 by_cases hk:k < p.size
 ·have e:p.getD k 0=p[k]:=by simp [UP,hk]
  rw [e]
  have hm:p[k]∈p:=Array.getElem_mem hk
  have:=(X4 h).mp hm
  simpa using this
 ·have e:p.getD k 0=0:=by simp [UP,hk]
  rw [e];exact hn
theorem fZ.rev {n:Nat}{p:Array Nat}(h:fZ n p) (i j:Nat):fZ n (Xl p i j):=(mirror_perm _ _ _ _).trans h
theorem fZ.bub {n:Nat}{p:Array Nat}(h:fZ n p) (i j:Nat):fZ n (bubble p i j):=(bubble_perm _ _ _).trans h
variable {n:Nat}
theorem Cm {p:Array Nat}(hn:0 < n) (h:fZ n p):∀f m,fJ n (λ_:Nat=>True) (Xm p f m)
 | 0,m=>.ret trivial
 | f + 1,m=>.ask (h.lt hn _) (h.lt hn _) λb=>by cases b with
  | true=>exact .ret trivial
  | false=>exact Cm hn h f (m + 1)
theorem uf (hn:0 < n):∀f {p:Array Nat} m q,fZ n p->fJ n (λr:Array Nat×Nat×Nat=>fZ n r.1) (Vb f p m q)
 | 0,p,m,q,h=>.ret h
 | f + 1,p,m,q,h=>.ask (h.lt hn _) (h.lt hn _) λb=>by
  cases b with
  | true=>
   simp only [if_true]
   by_cases hq:q > 0
   ·rw [if_pos hq];exact uf hn f _ _ (h.rev _ _)
   ·rw [if_neg hq];exact uf hn f _ _ h
  | false=>
   simp only [SD,if_false]
   refine .ask (h.lt hn _) (h.lt hn _) λb=>?_
   cases b with
   | true=>exact .ret h
   | false=>exact uf hn f _ _ h
theorem DS (hn:0 < n){p:Array Nat}(h:fZ n p) (m k:Nat):fJ n (λr:Nat×Array Nat=>fZ n r.2) (acB m k p):=(Cm hn (h.rev 0 m) _ _).bind λa _=>.ret (h.rev _ _)
theorem Bj (hn:0 < n){p:Array Nat}(h:fZ n p) (m k:Nat):fJ n (λr:Nat×Array Nat=>fZ n r.2) (aaO m k p):=(uf hn _ _ _ h).bind λr hr=>by
 split
 ·exact DS hn (hr.rev _ _) _ _
 ·exact DS hn hr _ _
theorem I_ (hn:0 < n){p:Array Nat}(h:fZ n p) (k:Nat):fJ n (λr:Nat×Array Nat=>fZ n r.2) (abg k p):=(Cm hn h _ _).bind λm _=>by
 split
 ·exact .ret h
 ·split
  ·refine .ask (h.lt hn _) (h.lt hn _) λb=>?_
   cases b with
   | true=>exact .ret h
   | false=>exact Bj hn (h.rev _ _) _ _
  ·exact Bj hn h _ _
theorem vK (hn:0 < n){p:Array Nat}(h:fZ n p) (k:Nat):∀f l r,fJ n (λ_:Nat=>True) (Vr p k f l r)
 | 0,l,r=>.ret trivial
 | f + 1,l,r=>by
  unfold Vr
  split
  ·exact .ret trivial
  ·refine .ask (h.lt hn _) (h.lt hn _) λb=>?_
   cases b with
   | true=>exact vK hn h k f _ _
   | false=>exact vK hn h k f _ _
theorem HY (hn:0 < n):∀f {p:Array Nat} k,fZ n p->fJ n (fZ n) (aci f p k)
 | 0,p,k,h=>.ret h
 | f + 1,p,k,h=>(vK hn h k _ _ _).bind λl _=>HY hn f _ (h.bub _ _)
theorem jc (hn:0 < n):fJ n (fZ n) (Wc n):=(I_ hn (show fZ n _ from ady _) n).bind λr hr=>by
 split
 ·exact HY hn _ _ hr
 ·exact .ret hr
end DL
namespace DL
open PySem PySem.Spec PyProof.Rows L2
open PySem.W (KasT kas_sort kas_ask kas_item kat_run kat_snds KatLex kat_cons kat_yes kat_no kat_lt kat_one KatTups kat_kind Looks)
section
variable {prog:Su}{w:S3}{A:S5}{E:R8->R_->Prop}{s:R_}
def qq (q:Nat->Nat->Bool) (vs:List R8):List R8:=(bh q (Wc vs.length)).toList.map λi=>vs.getD i Tq
theorem GS (q:Nat->Nat->Bool){vs:List R8}(h:0 < vs.length):(qq q vs).length=vs.length:=by
 unfold qq
 rw [Sa,Sq]
 have:=((jc h).run q:fZ _ _).size_eq
 simpa using this
theorem CP {a:Sm}{vs:List R8}{n:Nat}{κ:adi}{q:Nat->Nat->Bool}{P:adz->R_->Prop}(ho:s.heap.get? a=some (V5 "list" vs.toArray n)) (h2:2<=vs.length) (h64:vs.length < 64)
  (hk:∀h' C,(∀b o,b≠a->s.heap.get? b=some o->h'.get? b=some o)->C κ {s with heap:=h'}->Sx (SE prog w) A (adj vs.toArray) C (λ_ _=>False) {s with heap:=h'})
  (hc:∀h',(∀b o,b≠a->s.heap.get? b=some o->h'.get? b=some o)->∀i j C,i < vs.length->j < vs.length->C (q i j) {s with heap:=h'}->kas_ask prog w A κ vs i j C {s with heap:=h'})
  (h:P (.done (.ret .none)) {s with heap:=ab4 s.heap a vs (qq q vs).toArray}):Sx (SE prog w) A (Ww.«list.sort» ⟨[.ref a],[]⟩) P E s:=by
 have la:a < s.heap.objs.size:=Sz ho
 have sl:vs.length<=sizeLine:=by rw [Ud];omega
 obtain ⟨e1,g1⟩:∃e1,(s.heap.update a (U0 λ_=>(#[]:Array R8))).get? a=some (V5 "list" #[] e1):=⟨_,(abh ho λ_=>#[])⟩
 have z1:(s.heap.update a (U0 λ_=>(#[]:Array R8))).objs.size=s.heap.objs.size:=(aaY _ _ _)
 have g3:(((s.heap.update a (U0 λ_=>(#[]:Array R8))).push (V5 "tuple" vs.toArray 0)).push (V5 "list" #[] 0)).get? a=some (V5 "list" #[] e1):=(Sg _ ((Sg _ g1)))
 have kp:∀b o,b≠a->s.heap.get? b=some o->(((s.heap.update a (U0 λ_=>(#[]:Array R8))).push (V5 "tuple" vs.toArray 0)).push (V5 "list" #[] 0)).get? b=some o:=λb o nb q=>
  Sg _ (Sg _ (by rw [ZP _ _ _ _ nb];exact q))
 rw [abi]
 refine R6 ((listItems_at ho rfl ?_))
 refine R6 (Yz ho rfl ?_ (by rw [So];exact sl) (SJ _))
 refine R6 ((ZQ g1 rfl ?_))
 refine R6 (ZF ?_ (show vs.length<=_ from sl))
 refine R6 ((aad ?_ (SJ _)))
 refine (S_ ?_)
 dsimp only
 have n2:¬vs.toArray.size < 2:=by (rw [So]);omega
 rw [if_neg n2,if_neg n2]
 refine R6 (Tw (hk _ (λk s'=>k=κ/\s'=_) kp ⟨rfl,rfl⟩) ?_ λ_ _ x=>x.elim)
 rintro _ _ ⟨rfl,rfl⟩
 refine R6 (Tw (kat_run (E:=E) (Q:=λst' s'=>∃p:Array Nat,p.size=vs.length/\arrOf st'=p.map (kas_item (vs.toArray.zip vs.toArray))/\failedOf st'=none/\p=bh q (Wc vs.length)/\s'=_)
  rfl h2 h64 (λp' st' s' a1 a2 a3 a4=>⟨p',a1,a2,a3,a4⟩) ((jc (by omega)).wp (q:=q) (hc _ kp) ⟨rfl,rfl⟩)) ?_ λ_ _ e=>e)
 rintro ⟨⟨⟩,st'⟩ s' ⟨p,hp,har,hf,rfl,rfl⟩
 dsimp only
 have ou:(arrOf st').map (·.2)=(qq q vs).toArray:=kat_snds rfl har
 rw [ou]
 refine R6 ((ZQ g3 rfl ?_))
 refine R6 (Yz g3 rfl ?_ (SJ _) (S7 (acy (So.trans (GS q (SG Nat.zero_lt_two h2)))) (Nat.le_succ_of_le sl)))
 rw [hf]
 simp only [bne_self_eq_false,SD,if_false]
 exact R9 h
end
end DL
namespace DL
open PySem PySem.Spec PyProof.Rows L2
open PySem.W (KasT kas_sort kas_ask KatLex kat_nil kat_cons kat_yes kat_no kat_lt kat_one KatTups kat_kind Looks)
section
variable {prog:Su}{w:S3}{A:S5}{E:R8->R_->Prop}{s:R_}{K:R7}{J:Hp}
theorem xr {fin ans:Bool}{Q:Bool->R_->Prop}{zs:List (R8×R8)}{b:Bool}(h:gn A s fin zs ans) (hq:Q ans s):∀{i:Nat},(b && i == 0)=false->KatLex prog w A b fin Q zs i s:=by
 induction h with
 | nil=>intro i _;exact kat_nil hq
 | yes he _ ih=>intro i _;exact acj (he prog w _ _ (kat_yes (ih hq (by cases b <;> rfl))))
 | no he hl=>
  intro i hb
  refine acj (he prog w _ _ (kat_no ?_))
  rw [hb]
  exact kat_one _ _ (hl prog w _ _ hq)
theorem JE {fin ans e:Bool}{Q:Bool->R_->Prop}{u u':R8}{zs:List (R8×R8)}(he:UZ A s u u' e) (h1:e=true->gn A s fin zs ans)
  (h2:e=false->Sx (SE prog w) A (oneLt' true u u') Q (λ_ _=>False) s) (hq:Q ans s):KatLex prog w A true fin Q ((u,u')::zs) 0 s:=by
 cases e with
 | true=>exact acj (he prog w _ _ (kat_yes (xr (h1 rfl) hq rfl)))
 | false=>exact acj (he prog w _ _ (kat_no (h2 rfl)))
inductive Hd where
 | t | i | x
noncomputable def gH:D->Option Hd
 | .tup (.tup _::_)=>some .t
 | .tup (.int _::_)=>some .i
 | .tup (.str _::_)=>some .x
 | _=>none
noncomputable def Hd.flag:Hd->Bool
 | .t=>false
 | _=>true
noncomputable def Hd.ty:Hd->R8
 | .t=>.type "tuple"
 | .i=>.type "int"
 | .x=>.type "str"
theorem GQ {x y:D}{v v':V}{u u':R8}{k:Hd}{b:Bool}{C:Bool->R_->Prop}{xs ys:List D}(hd:gH (.tup (x::xs))=some k) (he:gH (.tup (y::ys))=some k) (hf:k.flag=true) (h:eU x y=some b) (rd:Rep K J x v) (re:Rep K J y v') (rv:RelV v u) (rv':RelV v' u') (c:C b s):
  Sx (SE prog w) A (oneLt' true u u') C E s:=by
 cases x with
 | int x=>
  cases hd
  cases y with
  | int y=>
   cases rd;cases re
   obtain ⟨tk,rfl⟩:=rv
   obtain ⟨tk',rfl⟩:=rv'
   unfold eU at h
   simp only [UO] at h
   refine oneLt_int ?_
   rw [h];exact c
  | _=>cases he
 | str x=>
  cases hd
  cases y with
  | str y=>
   cases rd;cases re
   obtain ⟨tk,rfl⟩:=rv
   obtain ⟨tk',rfl⟩:=rv'
   unfold eU at h
   simp only [UO] at h
   refine oneLt_str ?_
   rw [h];exact c
  | _=>cases he
 | tup _=>cases hd;cases hf
 | _=>cases hd
theorem JF (F:HF K J s){d e:D}{v v':V}{u u':R8}{k:Hd}{b:Bool}{C:Bool->R_->Prop}(hd:gH d=some k) (he:gH e=some k) (h:eU d e=some b) (rd:Rep K J d v) (re:Rep K J e v') (rv:RelV v u) (rv':RelV v' u')
  (hu:A.units + dep d < Uu) (k1:dep d<=1000) (k2:dep e<=1000) (c:C b s):Sx (SE prog w) A (keyLt' (tuples' k.flag) u u') C E s:=by
 cases d with
 | tup ds=>
  cases e with
  | tup es=>
   unfold eU at h
   simp only at h
   cases rd with
   | tup h1 hs=>
    cases re with
    | tup h2 hs'=>
     cases rv;cases rv'
     obtain ⟨RY,r,p⟩:=F.t _ _ h1
     obtain ⟨its',r',p'⟩:=F.t _ _ h2
     obtain ⟨o,ho,hc,m,dm⟩:=id p
     obtain ⟨o',ho',hc',m',dm'⟩:=id p'
     refine kat_lt ho dm ho' dm' ?_
     simp only [So]
     cases hf:k.flag with
     | false=>
      exact xr (yH F ds A (n1:=RY.length) (n2:=its'.length) h hs hs' r r' (by unfold dep at hu;omega) (by unfold dep at k1;omega) (by unfold dep at k2;omega) (by omega)) c rfl
     | true=>
      cases hs with
      | nil=>cases hd
      | cons q1 t1=>
       cases hs' with
       | nil=>cases he
       | cons q2 t2=>
        cases r with
        | cons a1 b1=>
         cases r' with
         | cons a2 b2=>
          unfold dep deps at hu k1 k2
          rw [WN]
          unfold kg at h
          simp only at h
          refine JE (ans:=b) (nq F A q1 q2 a1 a2 (by omega) (by omega) (by omega)) (λz=>?_) (λz=>?_) c
          ·rw [z,if_pos rfl] at h
           exact yH F _ A h t1 t2 b1 b2 (by omega) (by omega) (by omega) (by simp;omega)
          ·rw [z,if_neg SX] at h
           exact GQ hd he hf h q1 q2 a1 a2 c
  | _=>cases he
 | _=>cases hd
noncomputable def gz (k:Hd):List D->Bool
 | []=>true
 | d::r=>(match gH d,k with
  | some .t,.t=>true
  | some .i,.i=>true
  | some .x,.x=>true
  | _,_=>false) && gz k r
theorem lP {k:Hd}:∀{ds:List D},gz k ds=true->∀d∈ds,gH d=some k
 | [],_,_,hm=>nomatch hm
 | x::r,h,d,hm=>by
  unfold gz at h
  rw [Sf] at h
  rcases Sn.mp hm with rfl | hm
  ·cases q:gH d with
   | none=>rw [q] at h;cases h.1
   | some k'=>rw [q] at h;cases k' <;> cases k <;> first | rfl | cases h.1
  ·exact lP h.2 d hm
theorem Ey (F:HF K J s){d:D}{v:V}{u:R8}{k:Hd}(hd:gH d=some k) (rd:Rep K J d v) (rv:RelV v u):∃a o xs n f,u=.ref a/\s.heap.get? a=some o/\o.cls=.type "tuple"/\o.data=.seq xs n/\xs[0]?=some f/\Looks (SE prog w) s.heap (typeOf f) k.ty:=by
 cases d with
 | tup ds=>
  cases rd with
  | tup h1 hs=>
   cases rv
   obtain ⟨RY,r,p⟩:=F.t _ _ h1
   obtain ⟨o,ho,hc,m,dm⟩:=id p
   cases hs with
   | nil=>cases hd
   | cons q1 t1=>
    cases r with
    | cons a1 b1=>
     refine ⟨_,o,_,m,_,rfl,ho,hc,dm,rfl,?_⟩
     rename_i x v' ds' vs' u us
     cases x with
     | tup _=>
      cases hd
      cases q1 with
      | tup h2 _=>
       cases a1
       obtain ⟨its2,_,p2⟩:=F.t _ _ h2
       obtain ⟨o2,ho2,hc2,_,_⟩:=id p2
       have:=(Looks.ld (M:=SE prog w) (part:=none) ho2).andThen (f:=λo=>pure o.cls) (b:=o2.cls) .now
       rw [hc2] at this
       exact this
     | int _=>
      cases hd
      cases q1
      obtain ⟨tk,rfl⟩:=a1
      exact .now
     | str _=>
      cases hd
      cases q1
      obtain ⟨tk,rfl⟩:=a1
      exact .now
     | _=>cases hd
 | _=>cases hd
theorem uK (F:HF K J s){k:Hd}:∀{ds:List D}{vs:List V}{us:List R8},gz k ds=true->aK K J ds vs->Vals vs us->∃fs,KatTups s.heap us fs/\fs.length=us.length/\∀v∈fs,Looks (SE prog w) s.heap (typeOf v) k.ty
 | _,_,_,_,.nil,.nil=>⟨[],trivial,rfl,λ_ h=>nomatch h⟩
 | d::ds,_,_,h,.cons q rs,.cons a b=>by
  have hd:=lP h d (Se ..)
  unfold gz at h
  rw [Sf] at h
  obtain ⟨fs,h1,h2,h3⟩:=uK F h.2 rs b
  obtain ⟨p,o,xs,n,f,rfl,e1,e2,e3,e4,e5⟩:=Ey (prog:=prog) (w:=w) F hd q a
  refine ⟨f::fs,⟨⟨p,o,xs,n,rfl,e1,e2,e3,e4⟩,h1⟩,by simp [h2],λv hv=>?_⟩
  rcases Sn.mp hv with rfl | hv
  ·exact e5
  ·exact h3 v hv
theorem Jq (k:Hd):(k.ty != W0 "tuple")=k.flag:=by cases k <;> decide
theorem EF (F:HF K J s){k:Hd}{ds:List D}{vs:List V}{us:List R8}(h:gz k ds=true) (rs:aK K J ds vs) (rv:Vals vs us) (hl:0 < us.length){C:adi->R_->Prop}(c:C (tuples' k.flag) s):Sx (SE prog w) A (adj us.toArray) C E s:=by
 obtain ⟨fs,h1,h2,h3⟩:=uK (prog:=prog) (w:=w) F h rs rv
 refine kat_kind h1 (by omega) h3 (by cases k <;> decide) ?_
 rw [Jq]
 exact c
end
end DL
namespace DL
open PySem PySem.Spec PyProof.Rows L2
open PySem.W (KasT kas_sort kas_ask)
section
variable {prog:Su}{w:S3}{A:S5}{E:R8->R_->Prop}{s:R_}
theorem CO {a:Sm}{vs:List R8}{n:Nat}{P:adz->R_->Prop}(ho:s.heap.get? a=some (V5 "list" vs.toArray n)) (h2:vs.length < 2)
  (h:P (.done (.ret .none)) {s with heap:=ab4 s.heap a vs vs.toArray}):Sx (SE prog w) A (Ww.«list.sort» ⟨[.ref a],[]⟩) P E s:=by
 have sl:vs.length<=sizeLine:=by rw [Ud];omega
 obtain ⟨e1,g1⟩:∃e1,(s.heap.update a (U0 λ_=>(#[]:Array R8))).get? a=some (V5 "list" #[] e1):=⟨_,(abh ho λ_=>#[])⟩
 have g3:(((s.heap.update a (U0 λ_=>(#[]:Array R8))).push (V5 "tuple" vs.toArray 0)).push (V5 "list" #[] 0)).get? a=some (V5 "list" #[] e1):=(Sg _ ((Sg _ g1)))
 rw [abi]
 refine R6 ((listItems_at ho rfl ?_))
 refine R6 (Yz ho rfl ?_ (by rw [So];exact sl) (SJ _))
 refine R6 ((ZQ g1 rfl ?_))
 refine R6 (ZF ?_ (show vs.length<=_ from sl))
 refine R6 ((aad ?_ (SJ _)))
 refine (S_ ?_)
 dsimp only
 have n2:vs.toArray.size < 2:=by (rw [So]);omega
 rw [if_pos n2,if_pos n2]
 refine (R6 (R9 ?_))
 rw [StateT.run_pure]
 refine (R6 (R9 ?_))
 dsimp only
 have ou:(arrOf (SortSt.mk' general' (vs.toArray.zip vs.toArray) #[] 7 none)).map (·.2)=vs.toArray:=by
  show (vs.toArray.zip vs.toArray).map (·.2)=vs.toArray
  match vs,h2 with
  | [],_=>simp
  | [_],_=>simp
 rw [ou]
 refine R6 ((ZQ g3 rfl ?_))
 refine R6 (Yz g3 rfl ?_ (SJ _) (by rw [So];omega))
 simp only [bne_self_eq_false,SD,if_false]
 exact R9 h
abbrev Kp (h h':TM):Prop:=∀b o,h.get? b=some o->h'.get? b=some o
noncomputable def yO (prog:Su) (w:S3) (A:S5) (s:R_) (vs:List R8) (q:Nat->Nat->Bool):Prop:=2<=vs.length->∃κ,∀h' tk,Kp s.heap h'->
 (∀C:adi->R_->Prop,C κ {s with heap:=h',toks:=tk}->Sx (SE prog w) A (adj vs.toArray) C (λ_ _=>False) {s with heap:=h',toks:=tk})/\
 ∀i j (C:Bool->R_->Prop),i < vs.length->j < vs.length->C (q i j) {s with heap:=h',toks:=tk}->kas_ask prog w A κ vs i j C {s with heap:=h',toks:=tk}
noncomputable def Coll (prog:Su) (w:S3) (A:S5) (s:R_) (x:R8) (vs:List R8):Prop:=∀(E:R8->R_->Prop) (C:List R8->R_->Prop),(∀h1 tk,Kp s.heap h1->s.heap.objs.size<=h1.objs.size->C vs {s with heap:=h1,toks:=tk})->Sx (SE prog w) A (collect x) C E s
theorem Bm {a:Sm}{T:String}{o:Obj}{vs:List R8}{n:Nat}(hT:T="list"\/T="tuple") (ho:s.heap.get? a=some o) (hc:o.cls=.type T) (hd:o.data=.seq vs.toArray n) (sl:vs.length<=sizeLine):Coll prog w A s (.ref a) vs:=by
 intro E C h
 generalize hh:(s.heap.push (V5 "list" #[] 0)).update s.heap.objs.size (U0 (·++vs.toArray))=h1
 have hS:(s.heap.push (V5 "list" #[] 0)).get? s.heap.objs.size=some (V5 "list" #[] 0):=Sk _ rfl
 have Qy:=TY (U0 (·++vs.toArray)) hS rfl
 rw [hh] at Qy
 have k1:Kp s.heap h1:=λb o e=>by
  rw [<-hh,ZP _ _ _ _ (SY (Sz e))]
  exact Sg _ e
 have z1:s.heap.objs.size<=h1.objs.size:=by rw [<-hh,aaY,size_push'];exact Vw _
 have fin:=h h1 s.toks k1 z1
 unfold collect
 refine R6 (ZH (UG Y_ ?_))
 rw [Uc Za _]
 show Sx _ A.in1 (ac4 [] >>= λl=>again (.builtin "list.__iadd__" ⟨[l,.ref a],[]⟩)) _ _ s
 refine R6 (S8 ?_)
 refine R9 ⟨VY W5 _,UG aaE ?_⟩
 rw [Uc W5 _]
 have fin':Sx (SE prog w) A (load s.heap.objs.size >>= λo=>match o.data with
   | .seq xs _=>pure xs.toList
   | _=>unsupported "internal:collect") C E {s with heap:=h1}:=by
  refine R6 (abV Qy (R9 ?_))
  have e:((#[]:Array R8)++vs.toArray).toList=vs:=by simp
  show C ((#[]:Array R8)++vs.toArray).toList _
  rw [e]
  exact fin
 refine Tw (wpAny_extend_seq (hsz:=by rw [So];exact sl) (A:=A) (R:=λr s'=>r=.ok (.ret (.ref s.heap.objs.size))/\s'={s with heap:=h1})
  (s:={s with heap:=s.heap.push (V5 "list" #[] 0)}) _ a _ 0 hT hS (Sg _ ho) hc hd ⟨rfl,by rw [<-hh]⟩) (λf s' q=>?_) (λe s' q=>absurd q.1 (by simp))
 cases f with
 | done f=>
  obtain ⟨e,rfl⟩:=q
  cases e
  exact fin'
 | again c'=>exact ⟨q.1,VR q.2 λr s'' hr=>by obtain ⟨rfl,rfl⟩:=hr;exact fin'⟩
theorem KJ {x:R8}{q:Nat->Nat->Bool}{Q:R8->R_->Prop}{vs:List R8}(Qv:Coll prog w A.in1 s x vs) (h64:vs.length < 64) (ha:yO prog w A.in1.in1 s vs q)
  (h:∀h' tk l n,Kp s.heap h'->s.heap.objs.size<=l->h'.get? l=some (V5 "list" (if vs.length < 2 then vs else qq q vs).toArray n)->Q (.ref l) {s with heap:=h',toks:=tk}):Sx (SE prog w) A (call (.builtin "sorted") [x]) Q E s:=by
 have sl:vs.length<=sizeLine:=by rw [Ud];omega
 refine (Calls.call_function_entry kind_sorted plain_sorted entry_sorted (args_sorted1 _) ?_)
 unfold Ww.«sorted»
 refine R6 (m:=checkCount "sorted" 1 1 _) ((R9 ?_))
 refine R6 (Qv _ _ λh1 tk1 k1 le1=>?_)
 refine R6 (aad ?_ sl)
 have gL:(h1.push (V5 "list" vs.toArray 0)).get? h1.objs.size=some (V5 "list" vs.toArray 0):=Sk _ rfl
 have kp:∀b o,s.heap.get? b=some o->b≠h1.objs.size/\(h1.push (V5 "list" vs.toArray 0)).get? b=some o:=λb o e=>by
  have e1:=k1 b o e
  exact ⟨SY (Sz e1),Sg _ e1⟩
 have kend:∀out,Kp s.heap (ab4 (h1.push (V5 "list" vs.toArray 0)) h1.objs.size vs out):=λout b o e=>by
  obtain ⟨g1,g2'⟩:=kp b o e
  rw [sortedHeap_old g1 (Sz g2')]
  exact g2'
 dsimp only
 by_cases h2:vs.length < 2
 ·refine R6 (S_ (Tc abK ⟨_,gL,rfl⟩ abj (CO gL h2 ⟨_,rfl,?_⟩) (abL _)))
  obtain ⟨n,hn'⟩:=ack (out:=vs.toArray) gL
  rw [if_pos h2] at h
  exact R9 ⟨_,rfl,h _ tk1 _ n (kend _) le1 hn'⟩
 ·obtain ⟨κ,ask⟩:=ha (by omega)
  refine R6 (S_ (Tc abK ⟨_,gL,rfl⟩ abj (CP (κ:=κ) (q:=q) gL (by omega) h64 (λh' C k c=>?_) (λh' k i j C hi hj c=>?_) ⟨_,rfl,?_⟩) (abL _)))
  ·exact (ask h' tk1 λb o e=>k b o (kp b o e).1 (kp b o e).2).1 C c
  ·exact (ask h' tk1 λb o e=>k b o (kp b o e).1 (kp b o e).2).2 i j C hi hj c
  ·obtain ⟨n,hn'⟩:=ack (out:=(qq q vs).toArray) gL
   rw [if_neg h2] at h
   exact R9 ⟨_,rfl,h _ tk1 _ n (kend _) le1 hn'⟩
end
def dw (ds:List D) (i:Nat):D:=ds.getD i .non
def ltB (ds:List D) (i j:Nat):Bool:=(eU (dw ds i) (dw ds j)).getD false
def bF (ds:List D):List D:=if ds.length < 2 then ds else (bh (ltB ds) (Wc ds.length)).toList.map (dw ds)
def zp (ds:List D):Bool:=ds.all λx=>ds.all λy=>(eU x y).isSome
noncomputable def GN (ds:List D):Bool:=match ds with
 | []=>false
 | d::_=>match gH d with
  | some k=>gz k ds
  | none=>false
def xy (ds:List D):Bool:=decide (ds.length < 2) || (decide (ds.length < 64) && (decide (deps ds<=60) && (GN ds && zp ds)))
section
variable {K:R7}{J:Hp}
theorem iG {ds:List D}{vs:List V}(h:aK K J ds vs):∀{i:Nat},i < ds.length->Rep K J (dw ds i) (vs.getD i V.non):=by
 induction ds generalizing vs with
 | nil=>intro i hi;exact absurd hi (TR _)
 | cons x r ih=>
  intro i hi
  cases h with
  | cons q rs=>
   cases i with
   | zero=>simpa [dw] using q
   | succ i=>simpa [dw] using ih rs (i:=i) (by simpa using hi)
theorem iJ {vs:List V}{us:List R8}(h:Vals vs us):∀{i:Nat},i < vs.length->RelV (vs.getD i V.non) (us.getD i Tq):=by
 induction vs generalizing us with
 | nil=>intro i hi;exact absurd hi (TR _)
 | cons x r ih=>
  intro i hi
  cases h with
  | cons q rs=>
   cases i with
   | zero=>simpa using q
   | succ i=>simpa using ih rs (i:=i) (by simpa using hi)
theorem BP {ds:List D}{vs:List V}(h:aK K J ds vs):∀ix:List Nat,(∀i∈ix,i < ds.length)->aK K J (ix.map (dw ds)) (ix.map λi=>vs.getD i V.non)
 | [],_=>.nil
 | i::r,hi=>.cons (iG h (hi i (Se ..))) (BP h r λj hj=>hi j (Sd _ hj))
theorem BZ {vs:List V}{us:List R8}(h:Vals vs us):∀ix:List Nat,(∀i∈ix,i < vs.length)->Vals (ix.map λi=>vs.getD i V.non) (ix.map λi=>us.getD i Tq)
 | [],_=>.nil
 | i::r,hi=>.cons (iJ h (hi i (Se ..))) (BZ h r λj hj=>hi j (Sd _ hj))
theorem Jk {ds:List D}:∀{i:Nat},i < ds.length->dep (dw ds i)<=deps ds:=by
 induction ds with
 | nil=>intro i hi;exact absurd hi (TR _)
 | cons x r ih=>
  intro i hi
  unfold deps
  cases i with
  | zero=>show dep x<=_;omega
  | succ i=>
   have:=ih (i:=i) (by simpa using hi)
   have e:dw (x::r) (i + 1)=dw r i:=rfl
   rw [e];omega
theorem gQ {ds:List D}{i:Nat}(hi:i < ds.length):dw ds i∈ds:=by
 have e:dw ds i=ds[i]:=by simp [dw,hi]
 rw [e];exact SK hi
theorem HF.keep {s s':R_}(F:HF K J s) (k:∀b o,s.heap.get? b=some o->s'.heap.get? b=some o):HF K J s':=
 ⟨λa xs h=>let ⟨RY,r,o,ho,p⟩:=F.t a xs h;⟨RY,r,o,k _ _ ho,p⟩,λa xs h=>let ⟨RY,r,o,ho,p⟩:=F.l a xs h;⟨RY,r,o,k _ _ ho,p⟩,λa h=>let ⟨o,ho,p⟩:=F.e a h;⟨o,k _ _ ho,p⟩,λa ep R4 h=>let ⟨o,es,ho,p⟩:=F.d a ep R4 h;⟨o,es,k _ _ ho,p⟩⟩
theorem DQ {prog:Su}{w:S3}{A:S5}{s:R_}{k:Hd}{ds:List D}{vs:List V}{RY:List R8}(F:HF K J s) (rs:aK K J ds vs) (rv:Vals vs RY) (hk:∀d∈ds,gH d=some k/\dep d<=60) (hk':gz k ds=true) (hc:∀x∈ds,∀y∈ds,(eU x y).isSome=true) (hu:A.units + 62 < Uu):yO prog w A s RY (ltB ds):=by
 intro h2
 have l1:vs.length=RY.length:=rv.length
 have l2:ds.length=vs.length:=rs.length
 refine ⟨tuples' k.flag,λh' tk kp=>⟨λC cc=>EF (F.keep kp) hk' rs rv (by omega) cc,λi j C hi hj cc=>?_⟩⟩
 have hi':i < ds.length:=by omega
 have hj':j < ds.length:=by omega
 obtain ⟨a1,d1⟩:=hk _ (gQ hi')
 obtain ⟨a2,d2⟩:=hk _ (gQ hj')
 have hb:eU (dw ds i) (dw ds j)=some (ltB ds i j):=by
  have:=hc _ (gQ hi') _ (gQ hj')
  unfold ltB
  cases z:eU (dw ds i) (dw ds j) with
  | none=>rw [z] at this;cases this
  | some b=>rfl
 exact JF (F.keep kp) a1 a2 hb (iG rs hi') (iG rs hj') (iJ rv (by omega)) (iJ rv (by omega)) (by omega) (by omega) (by omega) cc
end
noncomputable def isInt:D->Bool
 | .int _=>true
 | _=>false
def sC (ds:List D):Bool:=decide (ds.length < 64) && ds.all isInt
theorem Bx {K:R7}{J:Hp}:∀{ds:List D}{vs:List V}{us:List R8},ds.all isInt=true->aK K J ds vs->Vals vs us->∃ns,Wv us ns
 | _,_,_,_,.nil,.nil=>⟨[],.nil⟩
 | d::ds,_,_,h,.cons r rs,.cons v vs=>by
  (rw [Vq,Sf] at h)
  obtain ⟨ns,hn⟩:=Bx h.2 rs vs
  cases d with
  | int i=>
   cases r
   obtain ⟨t,rfl⟩:=v
   exact ⟨i::ns,.cons i t hn⟩
  | _=>cases h.1
theorem DP {K:R7}{J:Hp}{prog:Su}{w:S3}{A:S5}{s:R_}{ds:List D}{vs:List V}{RY:List R8}(rs:aK K J ds vs) (rv:Vals vs RY) (hi:ds.all isInt=true):yO prog w A s RY (ltB ds):=by
 intro h2
 have l1:vs.length=RY.length:=rv.length
 have l2:ds.length=vs.length:=rs.length
 obtain ⟨ns,hI⟩:=Bx hi rs rv
 refine ⟨oneType',λh' tk kp=>⟨λC cc=>?_,λi j C hi' hj' cc=>?_⟩⟩
 ·clear l1 rv
  match RY,hI,h2 with
  | v1::v2::r,hI,_=>rw [keyKind_ints hI];exact R9 cc
 ·have ai:=SW.mp hi _ (gQ (i:=i) (by omega))
  have aj:=SW.mp hi _ (gQ (i:=j) (by omega))
  have r1:=iG rs (i:=i) (by omega)
  have r2:=iG rs (i:=j) (by omega)
  have v1:=iJ rv (i:=i) (by omega)
  have v2:=iJ rv (i:=j) (by omega)
  show Sx _ _ (keyLt' oneType' (RY.getD i Tq) (RY.getD j Tq)) _ _ _
  rw [keyLt'_oneType]
  have e:ltB ds i j=(eU (dw ds i) (dw ds j)).getD false:=rfl
  rw [e] at cc
  generalize dw ds i=di at ai r1 cc
  generalize dw ds j=dj at aj r2 cc
  generalize vs.getD i V.non=wi at r1 v1
  generalize vs.getD j V.non=wj at r2 v2
  cases di with
  | int a=>
   cases dj with
   | int b=>
    cases r1;cases r2
    obtain ⟨t1,q1⟩:=v1
    obtain ⟨t2,q2⟩:=v2
    rw [q1,q2]
    refine oneLt_int ?_
    unfold eU at cc
    exact cc
   | _=>cases aj
  | _=>cases ai
section
variable {X:Cx}{c:C}{e:S4}{es:List S4}{pos:Pos}
theorem mK {RX:List (Sm×Obj)}{s:R_}{σ:L2.St}{H:Hp}{Q:VK}{E:R8->R_->Prop}{x:R8}{RY:List R8}{vs:List V}{ds:List D}(I:Inv X RX σ H s) (Qv:Coll X.prog X.w X.A.in1 s x RY) (rv:Vals vs RY) (l2:ds.length=vs.length) (l64:ds.length < 64)
  (ha:yO X.prog X.w X.A.in1.in1 s RY (ltB ds)) (q:∀l vs',H l=none->(∀J,aK X.K J ds vs->aK X.K J (bF ds) vs')->Q (.ref l) (upd H l (.lst vs'))):Sx (SE X.prog X.w) X.A (call (.builtin "sorted") [x]) (EP X RX σ Q) E s:=by
 have l1:vs.length=RY.length:=rv.length
 refine KJ Qv (by omega) ha λh' tk l n kp hl hg=>?_
 have fin:∀(ot:List R8) (vs':List V),vs'.length=vs.length->Vals vs' ot->(∀J,aK X.K J ds vs->aK X.K J (bF ds) vs')->h'.get? l=some (V5 "list" ot.toArray n)->EP X RX σ Q (.ref l) {s with heap:=h',toks:=tk}:=λot vs' lv rv' rr hg=>
  ⟨.ref l,_,I.laid (t':=tk) kp hl (show cP X.prog X.w _ _ _ (.lst vs') from ⟨by rw [lv,Ud];omega,ot,n,rv',by simpa [V5] using hg⟩),rfl,q l vs' (I.hok.fresh hl) rr⟩
 by_cases h2:RY.length < 2
 ·rw [if_pos h2] at hg
  refine fin RY vs rfl rv (λJ rj=>?_) hg
  unfold bF
  rw [if_pos (by omega)]
  exact rj
 ·rw [if_neg h2] at hg
  have ib:∀i∈(bh (ltB ds) (Wc ds.length)).toList,i < ds.length:=λi hi=>by
   have:=((jc (n:=ds.length) (by omega)).run (ltB ds):fZ _ _)
   have:=(X4 this).mp (Array.mem_toList_iff.mp hi)
   simpa using this
  have e1:qq (ltB ds) RY=(bh (ltB ds) (Wc ds.length)).toList.map λi=>RY.getD i Tq:=by unfold qq;rw [l2,l1]
  rw [e1] at hg
  refine fin _ _ ?_ (BZ rv _ λi hi=>l2▸ib i hi) (λJ rj=>?_) hg
  ·rw [Sa,<-l2]
   have:=((jc (n:=ds.length) (by omega)).run (ltB ds):fZ _ _).size_eq
   simpa using this
  ·unfold bF
   rw [if_neg (by omega)]
   exact BP rj _ ib
theorem Gn {RX:List (Sm×Obj)}{s:R_}{σ:L2.St}{H:Hp}{A:S5}{p:Sm}{vs:List V}(I:Inv X RX σ H s) (h:cK X.K H p vs\/cZ X.K H p vs):∃RY,Vals vs RY/\Coll X.prog X.w A s (.ref p) RY:=by
 rcases h with h | h
 ·obtain ⟨RY,r,⟨o,n,ho,hc,_,hd⟩,hz⟩:=I.list h
  exact ⟨RY,r,Bm (.inl rfl) ho hc hd (r.length▸hz)⟩
 ·obtain ⟨RY,r,pt,hz⟩:=I.tuple h
  obtain ⟨o,ho,hc,n,hd⟩:=pt
  exact ⟨RY,r,Bm (.inr rfl) ho hc hd (r.length▸hz)⟩
theorem GP {RX:List (Sm×Obj)}{s:R_}{σ:L2.St}{H:Hp}{vs:List V}{RY:List R8}{ds:List D}(hu:X.A.units + 64 < Uu) (I:Inv X RX σ H s) (rs:aK X.K H ds vs) (rv:Vals vs RY) (ok:xy ds=true):ds.length < 64/\yO X.prog X.w X.A.in1.in1 s RY (ltB ds):=by
 have l1:vs.length=RY.length:=rv.length
 have l2:ds.length=vs.length:=rs.length
 by_cases h2:ds.length < 2
 ·exact ⟨by omega,λh=>absurd h (by omega)⟩
 ·unfold xy at ok
  rw [decide_eq_false h2,aae,Sf,Sf,Sf] at ok
  obtain ⟨o1,o2,o3,o4⟩:=ok
  have o2:=of_decide_eq_true o2
  obtain ⟨k,hk⟩:∃k,gz k ds=true:=by
   unfold GN at o3
   cases ds with
   | nil=>cases o3
   | cons d r=>
    simp only at o3
    cases z:gH d with
    | none=>rw [z] at o3;cases o3
    | some k=>rw [z] at o3;exact ⟨k,o3⟩
  refine ⟨of_decide_eq_true o1,DQ (fL I) rs rv (k:=k) (λd hd=>⟨lP hk d hd,?_⟩) hk (λx hx y hy=>SW.mp (SW.mp o4 _ hx) _ hy) hu⟩
  obtain ⟨i,hi,rfl⟩:=TL.mp hd
  have:=Jk hi
  have e:dw ds i=ds[i]:=by simp [dw,hi]
  rw [e] at this
  omega
theorem zl (hu:X.A.units + 64 < Uu):b9 X (.builtin "sorted") (λxs H Q=>∃p vs ds,xs=[.ref p]/\(cK X.K H p vs\/cZ X.K H p vs)/\aK X.K H ds vs/\(xy ds=true\/sC ds=true)/\∀l vs',H l=none->(∀J,aK X.K J ds vs->aK X.K J (bF ds) vs')->Q (.ref l) (upd H l (.lst vs'))):=by
 intro RX s σ H xs us Q I r h
 obtain ⟨p,vs,ds,rfl,hq,rs,ok,q⟩:=h
 obtain ⟨u,rfl,rx⟩:=vals1 r
 cases rx
 obtain ⟨RY,rv,col⟩:=Gn I hq
 rcases ok with ok | ok
 ·obtain ⟨l64,ha⟩:=GP hu I rs rv ok
  exact mK I col rv rs.length l64 ha q
 ·unfold sC at ok
  rw [Sf] at ok
  exact mK I col rv rs.length (of_decide_eq_true ok.1) (DP rs rv ok.2) q
end
end DL
namespace DL
open PySem PySem.Spec PyProof.Rows L2
section
variable {X:Cx}{c:C}{e:S4}{g:G R}{pos:Pos}
noncomputable def vV (i:Nat) (f:R->R->M R) (g:G R):G O:=λenv=>match env[i]? with
 | some (some (.d d))=>g env >>= λy=>f (.d d) y >>= λz=>toS z >>= λx=>.ok (.nx (env.set i (some x)))
 | _=>.bad
theorem JU (i:Nat){x:Str}{pos':Pos}{op:ZX}{r:R2}{f:R->R->M R}(hN:X.N.Nodup) (ho:cW X (YZ op) r) (hb:BD c r f) (h:PD X c e g) (hi:X.N[i]?=some x:=by rfl) (hx:Loc X.env.scope x:=by first | exact Xf rfl | exact V1 rfl)
  (hf:X.fn x=true\/X.env.scope.names.lookup x=some .local:=by first | exact .inl rfl | exact .inr rfl):Ba X c (.AugAssign (.Name x pos') op e pos) (vV i f g):=
 iu (My hN hi hx h (λRX s σ H x y v u Q I rx ry q=>OC ho I rx ry q) hf) λE σ H ⟨J,env,sr,w⟩=>by
 unfold vV at w
 split at w
 ·rename_i d hd
  obtain ⟨v,h1,h2⟩:=sr.at_ i _ hd
  refine ⟨v,h1,J,env,sr,aE (aI w) λy wr v' J1 H1 e1 r1=>?_⟩
  have sr1:=sr.ext e1
  refine hb H H J1 H1 (.d d) y v v' _ sr1.hp (Rep.mono e1.j h2) r1 (aE (aI wr) λz wz w' J2 H2 e2 r2=>?_)
  obtain ⟨x,q,wz⟩:=nV wz
  exact wz (σ.set i (some w')) J2 H2 (e1.j.trans e2.j) (sr1.set e2 r2 q)
 ·exact w.elim
end
end DL
namespace DL
open PySem PySem.Spec PyProof.Rows L2 DX
section
variable {M:acL}{A:S5}{E:R8->R_->Prop}{s:R_}
theorem CU {RV:Vk}{globals:Sm}{closure:List (Str×Sm)}{R1:Str}{func:Option Sm}{code:R8}{outer:Env}{builtins:Sm}{Q:Env->R_->Prop}
  (hQ:Q (newEnv RV s.heap.objs.size globals (TJ (s.heap.objs.size + 1) RV.names closure) R1 func code (some outer) builtins) {s with heap:=abk (s.heap.push {cls:=.type "dict",data:=.dict #[]}) RV.names}):
  Sx M A (abM RV globals closure [] R1 func code (some outer) builtins) Q E s:=by
 simp only [abM,Option.isSome_some,if_true]
 refine R6 (wpAny_alloc ?_)
 refine R6 (wpAny_layCells _ (λname kind cells=>by cases hkc:kind == WJ <;> simp [hkc]) _ _ _ _ ?_)
 rw [show ({s with heap:=s.heap.push {cls:=.type "dict",data:=.dict #[]}}:R_).heap.objs.size=s.heap.objs.size + 1 from UC ..]
 simp only [ZE]
 exact R6 (R9 (R9 hQ))
theorem jA:∀(names:List (Str×UQ)) (n:Nat) (acc:List (Str×Sm)) (x:Str),(∀y∈names,y.2=.cell->y.1≠x)->(TJ n names acc).lookup x=acc.lookup x
 | [],_,_,_,_=>by unfold TJ;rfl
 | (y,k)::r,n,acc,x,h=>by
  have hr:∀z∈r,z.2=.cell->z.1≠x:=λz hz=>h z (Sd _ hz)
  unfold TJ
  split
  ·rename_i hk
   rw [jA r _ _ x hr]
   have hy:y≠x:=h (y,k) (Se ..) (by simpa using hk)
   have:(x == y)=false:=by
    cases q:x == y with
    | false=>rfl
    | true=>exact absurd (eq_of_beq q).symm hy
   rw [Uv,this]
  ·exact jA r _ _ x hr
end
theorem ym:∀(names:List (Str×UQ)) (n:Nat) (acc:List (Str×Sm)),TJ n names acc=TJ n names []++acc:=by
 intro names
 suffices ∀(n:Nat) (a b:List (Str×Sm)),TJ n names (a++b)=TJ n names a++b by
  intro n acc
  exact this n [] acc
 induction names with
 | nil=>intro n a b;unfold TJ;rfl
 | cons p r ih=>
  obtain ⟨y,k⟩:=p
  intro n a b
  unfold TJ
  split
  ·exact ih _ (_::a) b
  ·exact ih _ a b
def dg (names:List (Str×UQ)) (x:Str):Bool:=names.any λy=>y.1 == x && y.2 == .cell
theorem f6:∀(names:List (Str×UQ)) (n:Nat) (acc:List (Str×Sm)) (x:Str),((acc.lookup x).isSome=true\/dg names x=true)->((TJ n names acc).lookup x).isSome=true
 | [],_,_,_,h=>by
  unfold TJ
  rcases h with h | h
  ·exact h
  ·cases h
 | (y,k)::r,n,acc,x,h=>by
  unfold TJ
  have e:dg ((y,k)::r) x=((y == x && k == .cell) || dg r x):=rfl
  rw [e] at h
  split
  ·rename_i hk
   refine f6 r _ _ x ?_
   by_cases hx:x=y
   ·left;subst hx;rw [Uv];simp
   ·rcases h with h | h
    ·left
     rw [Uv]
     cases q:x == y with
     | true=>exact absurd (eq_of_beq q) hx
     | false=>exact h
    ·rw [VJ,Sf] at h
     rcases h with h | h
     ·exact absurd (eq_of_beq h.1).symm hx
     ·exact .inr h
  ·rename_i hk
   refine f6 r _ _ x ?_
   rcases h with h | h
   ·exact .inl h
   ·rw [VJ,Sf] at h
    rcases h with h | h
    ·exact absurd h.2 hk
    ·exact .inr h
theorem fS {names:List (Str×UQ)}{n:Nat}{cl:List (Str×Sm)}{x:Str}{d:Sm}(h:(TJ n names cl).lookup x=some d):
  (TJ n names []).lookup x=some d\/(dg names x=false/\cl.lookup x=some d):=by
 rw [ym,List.lookup_append] at h
 cases q:(TJ n names []).lookup x with
 | some e=>rw [q] at h;left;simpa using h
 | none=>
  rw [q] at h
  right
  refine ⟨?_,by simpa using h⟩
  cases z:dg names x with
  | false=>rfl
  | true=>
   have:=f6 names n [] x (.inr z)
   rw [q] at this
   cases this
theorem pH {RV:Vk}{env:Env}{x:Str}(h:(relabel RV env).names.lookup x=some .cell\/(relabel RV env).names.lookup x=some .free):(x,Ue)∈RV.names\/dg RV.names x=true:=by
 unfold relabel at h
 revert h
 generalize RV.names=names
 induction names with
 | nil=>intro h;simp at h
 | cons p r ih=>
  obtain ⟨n,k⟩:=p
  intro h
  rw [Sw] at h
  simp only at h
  by_cases hx:x=n
  ·subst hx
   cases k with
   | free=>exact .inl (Se ..)
   | cell=>right;unfold dg;simp
   | _=>simp [Uv] at h
  ·have e:(x == n)=false:=by simpa using hx
   have h':(r.map λ(n,k)=>if (k == Ue && env.scope.kind == .function && env.kindOf n == some .cell) then (n,WJ) else (n,k)).lookup x=some .cell\/(r.map λ(n,k)=>if (k == Ue && env.scope.kind == .function && env.kindOf n == some .cell) then (n,WJ) else (n,k)).lookup x=some .free:=by
    split at h <;> simpa [Uv,e] using h
   rcases ih h' with z | z
   ·exact .inl (Sd _ z)
   ·right
    unfold dg at z ⊢
    rw [WK,z,acC]
section
variable {X:Cx}
noncomputable def aX (X:Cx) (own:List Str) (cap:List Nat) (RV:Vk) (cl:List (Str×Sm)) (C:Sm) (s:R_) (H:Hp) (fp:List Sm):Cx:=
 {Lo X own cap RV (TJ (C + 1) RV.names cl) C s H fp with fn:=dg RV.names}
theorem Jh {RX:List (Sm×Obj)}{σ:L2.St}{H:Hp}{s:R_}{own:List Str}{cap:List Nat}{RV:Vk}{cl:List (Str×Sm)}{fp:List Sm}{h1:TM}(I:Inv X RX σ H s) (hk:RV.kind=.function)
  (hcl:bE X.env.cells RV.names []=some cl) (ck:ac5 h1 (s.heap.objs.size + 1) (TJ (s.heap.objs.size + 1) RV.names [])) (hfp:∀b∈fp,iw X RX H b) (hin:∀b∈fp,b < s.heap.objs.size):(aX X own cap RV cl s.heap.objs.size s H fp).Ok:=by
 obtain ⟨m1,m2⟩:=gE RV.names [] cl hcl (λx c h=>by simp at h)
 have lo:∀{x:Str}{d:Sm},(TJ (s.heap.objs.size + 1) RV.names []).lookup x=some d->s.heap.objs.size + 1<=d:=fun {x d} h=>(ck.empty _ _ (WO h)).2
 have old:∀{x:Str}{d:Sm},cl.lookup x=some d->d < s.heap.objs.size:=fun {x d} h=>by
  obtain ⟨v,z⟩:=I.cell x d (m1 x d h)
  exact z.lt
 refine ⟨I.ok.mod,hk,I.ok.glob,I.ok.blt,Sj _,λx y d h1 h2=>?_,λx hx=>?_,λx d hf h=>?_,λhc=>I.ok.hd hc,I.ok.frames,.inl rfl,λb hb=>⟨SY (hin b hb),λx d h=>?_⟩,
  I.bs,S7 I.ok.bsz I.sz,λb o h hb=>?_,λb hb hf=>?_,I.stack,I.stkFree⟩
 ·rcases fS h1 with h1 | ⟨_,h1⟩
  ·rcases fS h2 with h2 | ⟨_,h2⟩
   ·exact name_of_addr ck.apart (WO h1) (WO h2)
   ·exact absurd (SG (old h2) (VL (lo h1))) (Us _)
  ·rcases fS h2 with h2 | ⟨_,h2⟩
   ·exact absurd (SG (old h1) (VL (lo h2))) (Us _)
   ·exact I.ok.inj x y d (m1 x d h1) (m1 y d h2)
 ·refine Ug.mp (f6 _ _ _ x ?_)
  rcases pH hx with z | z
  ·exact .inl (m2 x (.inr z))
  ·exact .inr z
 ·rcases fS h with h | ⟨z,h⟩
  ·exact VL (lo h)
  ·have hf':dg RV.names x=true:=hf
   rw [z] at hf'
   cases hf'
 ·rcases fS h with h | ⟨_,h⟩
  ·exact VQ (SG (hin b hb) (VL (lo h)))
  ·exact (hfp b hb).2.2.2.2.1 x d (m1 x d h)
 ·rcases (hfp b hb).2.2.2.1 with z | z
  ·exact I.ok.noex b o h z
  ·exact absurd (SG (Sz (I.ok.bs b o h).1) z) (Us _)
 ·rcases Sn.mp (I.stkSub b hf) with e | e
  ·exact (hfp b hb).2.1 e
  ·exact (hfp b hb).2.2.1 e
end
theorem zZ {names:List (Str×UQ)}{n:Nat}{cl:List (Str×Sm)}{x:Str}(h:dg names x=false):(TJ n names cl).lookup x=cl.lookup x:=
 jA names n cl x λy hy hk e=>by
  unfold dg at h
  have:=List.any_eq_false.mp h y hy
  simp [hk,e] at this
section
variable {X:Cx}
theorem F9 {RX:List (Sm×Obj)}{σ:L2.St}{H:Hp}{s:R_}{own:List Str}{cap:List Nat}{RV:Vk}{cl:List (Str×Sm)}{fp:List Sm}{h1:TM}{m:Str->Option R8}{tk:Nat}(I:Inv X RX σ H s) (ok:(aX X own cap RV cl s.heap.objs.size s H fp).Ok)
  (hcl:bE X.env.cells RV.names []=some cl) (ck:ac5 h1 (s.heap.objs.size + 1) (TJ (s.heap.objs.size + 1) RV.names [])) (hcap:dQ X cap=true) (P9:∀j∈cap,∀x,X.N[j]?=some x->(relabel RV X.env).names.lookup x≠some .local)
  (hno:∀j∈cap,∀x,X.N[j]?=some x->dg RV.names x=false) (hns:h1.Ns s.heap.objs.size m) (old:∀b o,s.heap.get? b=some o->h1.get? b=some o):
  Inv (aX X own cap RV cl s.heap.objs.size s H fp) [] (T8 own.length none++cap.map λ(j:Nat)=>(σ[j]?).getD none) H {s with heap:=h1,toks:=tk}:=by
 obtain ⟨m1,m2⟩:=gE RV.names [] cl hcl (λx c h=>by simp at h)
 refine ⟨ok,rfl,I.bare,Un.kept old,⟨m,hns,λi x v q1 q2 q3=>?_⟩,λx d h=>?_,I.hok.fresh (Sj _),λx d h=>?_,λp hp=>absurd (show p∈([]:List (Sm×Obj)) from hp) (by simp),I.hok.kept old,?_⟩
 ·obtain ⟨j,h2,h3,h4⟩:=kq q2
  have q1':(own++cap.map λ(j:Nat)=>(X.N[j]?).getD ("":Str))[i]?=some x:=q1
  rw [Ul (by exact h2),Sv,h3] at q1'
  have hj:j∈cap:=Ub h3
  have hc:(match X.N[j]? with
   | some x=>(match X.env.scope.names.lookup x with
    | some .cell=>true
    | some .free=>true
    | _=>false)
   | none=>false)=true:=by
   unfold dQ at hcap
   exact SW.mp hcap j hj
  cases hx:X.N[j]? with
  | none=>rw [hx] at hc;cases hc
  | some y=>
   rw [aba,hx] at q1'
   rw [hx] at hc
   have e:y=x:=by simpa using q1'
   subst e
   have kd:X.env.kindOf y=some .cell\/X.env.kindOf y=some .free:=by
    unfold adn
    simp only at hc
    split at hc
    ·rename_i z;exact .inl z
    ·rename_i z;exact .inr z
    ·cases hc
   obtain ⟨mX,nX,lX⟩:=I.loc
   obtain ⟨u,ru,lu⟩:=lX j y v hx h4 (kd.elim (λz=>.inr (.inl z)) λz=>.inr (.inr z))
   refine ⟨u,ru,.inr ?_⟩
   have kd':(relabel RV X.env).names.lookup y=some .cell\/(relabel RV X.env).names.lookup y=some .free:=by
    rcases q3 with z | z | z
    ·exact absurd z (P9 j hj y hx)
    ·exact .inl z
    ·exact .inr z
   refine ⟨kd',?_⟩
   have no:=hno j hj y hx
   have fr:(y,Ue)∈RV.names:=by
    rcases pH kd' with z | z
    ·exact z
    ·rw [no] at z;cases z
   obtain ⟨d,hd⟩:=Ug.mp (m2 y (.inr fr))
   refine ⟨d,(zZ no).trans hd,?_⟩
   rcases lu with ⟨z,_⟩ | ⟨_,d',hd',z⟩
   ·rcases kd with k | k <;> (rw [k] at z;cases z)
   ·have:=m1 y d hd
    rw [hd'] at this
    cases this
    obtain ⟨o,ho,hod⟩:=z
    exact ⟨o,old _ _ ho,hod⟩
 ·rcases fS h with h | ⟨_,h⟩
  ·exact ⟨none,(ck.empty _ _ (WO h)).1⟩
  ·obtain ⟨v,o,ho,hod⟩:=I.cell x d (m1 x d h)
   exact ⟨v,o,old _ _ ho,hod⟩
 ·rcases fS h with h | ⟨_,h⟩
  ·exact I.hok.fresh (VL (ck.empty _ _ (WO h)).2)
  ·exact I.freeC x d (m1 x d h)
 ·show _=(own++cap.map λ(j:Nat)=>(X.N[j]?).getD ("":Str)).length
  simp
end
theorem L6 (h:TM) (names:List (Str×UQ)):(abk (h.push {cls:=.type "dict",data:=.dict #[]}) names).Ns h.objs.size (λ_=>none):=
 (Heap.Ns.new h (.type "dict")).keeps λb o e=>abl _ _ _ _ e
theorem D9 (h:TM) (names:List (Str×UQ)):ac5 (abk (h.push {cls:=.type "dict",data:=.dict #[]}) names) (h.objs.size + 1) (TJ (h.objs.size + 1) names []):=by
 have:=cellsFrom_ok names (h.push {cls:=.type "dict",data:=.dict #[]}) (h.objs.size + 1) [] ⟨λ_ _ hm=>(nomatch hm),VI⟩ (by rw [UC];exact Sj _)
 rw [UC] at this
 exact this
noncomputable def fk (X:Cx) (cap:List Nat) (RV:Vk):Bool:=cap.all λj=>match X.N[j]? with
 | some x=>!dg RV.names x
 | none=>true
section
variable {X:Cx}{c:C}
theorem nk {cells:List (Str×Sm)}{names names2:List (Str×UQ)}{cl:List (Str×Sm)}{n:Nat}(h:bE cells names []=some cl)
  (hn:(names2.all λy=>!(y.2 == .free) || ((names.any λz=>z.1 == y.1 && z.2 == .free) || dg names y.1))=true):(bE (TJ n names cl) names2 []).isSome=true:=by
 obtain ⟨_,m2⟩:=gE names [] cl h (λx c h=>by simp at h)
 have go:∀(l:List (Str×UQ)) (cs:List (Str×Sm)),(l.all λy=>!(y.2 == .free) || ((names.any λz=>z.1 == y.1 && z.2 == .free) || dg names y.1))=true->(bE (TJ n names cl) l cs).isSome=true:=by
  intro l
  induction l with
  | nil=>intro cs _;rfl
  | cons y r ih=>
   obtain ⟨y,k⟩:=y
   intro cs hl
   rw [Vq,Sf] at hl
   unfold bE
   split
   ·rename_i hk
    have h1:=hl.1
    simp only [hk,Va,aae,VJ] at h1
    have:((TJ n names cl).lookup y).isSome=true:=by
     refine f6 names n cl y ?_
     rcases h1 with z | z
     ·obtain ⟨q,hq,e⟩:=U7.mp z
      rw [Sf] at e
      have e1:q=(y,Ue):=by
       obtain ⟨q1,q2⟩:=q
       have a1:q1=y:=eq_of_beq e.1
       have a2:q2=Ue:=by simpa using e.2
       rw [a1,a2]
      exact .inl (m2 y (.inr (e1▸hq)))
     ·exact .inr z
    obtain ⟨a,ha⟩:=Ug.mp this
    rw [ha]
    exact ih _ hl.2
   ·exact ih _ hl.2
 exact go names2 [] hn
end
section
variable {X:Cx}{c:C}{e:S4}{es:List S4}{g:G R}{pos:Pos}
theorem Fb (i:Nat){x:Str}{pos':Pos}(hN:X.N.Nodup) (h:QD X c e g) (hi:X.N[i]?=some x:=by rfl) (hx:Loc X.env.scope x:=by first | exact Xf rfl | exact V1 rfl) (hf:X.fn x=true\/X.env.scope.names.lookup x=some .local:=by first | exact .inl rfl | exact .inr rfl):
  iK X c (.AugAssign (.Name x pos') .Add e pos) (vV i zC g):=have h:=h.h;⟨JU i hN Jx (ir λ_ _ _=>.int _) h hi hx hf⟩
theorem Ju {K:R7}{x R1:Str}{st:VA}{f T:Sm}{oc oT:R8}{od an dT:Option Sm}{osl sT:Array (Option R8)}{kV doc pm cdv ct:R8}{n:Nat}(l:K.lookup f=some ⟨oc,od,.func (TH x R1 (cU st) (bV st) (aY st) (.ref T) kV doc pm an cdv ct),osl⟩)
  (cd:Vu K cdv R1=true) (k:T7 K (.ref f)=true) (lT:K.lookup T=some ⟨oT,dT,.seq #[.none] n,sT⟩):nY K x R1 st f (TH x R1 (cU st) (bV st) (aY st) (.ref T) kV doc pm an cdv ct):=
 ⟨⟨oc,od,T,_,n,kV,doc,pm,an,cdv,ct,osl,rfl,l,cd,lT,rfl⟩,k⟩
end
end DL
namespace K51
open PySem DL
def tX:List Str:=["_law_script","_law_k"]
noncomputable def uF:G O:=(aM (bS (bC (g2 (jS λi j=>.bl (decide (i < j))) (af 1) (gN kc (aq (af 0) aG)))) (bJ (g2 fG (g2 aZ (af 0) (af 1)) (g2 Lw (gC (.int 10)) (gC (.int 64))))) dJ)
 (bJ (gC (.int 0))))
def cF (as:List S):M R:=fin (uF (bq tX as))
def rL:List Str:=["_law_cell_here","_law_many","_law_letters","_law_sign","_law_stem","_law_found","_law_k","_law_other","_law_name"]
noncomputable def r6:G O:=(aM (bg 2 (gC (.str "abcdefghijklmnopqrstuvwxyz")))
 (aM (bg 3 (g2 aZ (af 2) (g2 fG (g2 iB (af 0) (gC (.int 3))) (gC (.int 26)))))
 (aM (bg 4 (g2 gG (af 3) (g2 d_ (gC (.int 1)) (g2 fG (g2 iB (af 0) (gC (.int 78))) (gC (.int 7))))))
 (aM (bg 5 (gw aV))
 (aM (dO (cg (aq (af 1) aG)) (aA 6) (aM (bg 7 (g2 aZ (af 2) (g2 fG (g2 d_ (g2 iB (af 0) (gC (.int 546))) (g2 gG (gC (.int 9)) (af 6))) (gC (.int 26)))))
 (aM (bg 8 (g2 aZ (gw (aC (g2 d_ (af 4) (af 7)) (aC (g2 d_ (af 7) (af 4)) (aC (g2 gG (af 3) (g2 d_ (af 6) (gC (.int 2)))) aV)))) (g2 fG (af 0) (gC (.int 3)))))
 (aM (bS (bC (g2 (cL false) (af 8) (gC (.str "or")))) (bg 8 (gC (.str "orx"))) dJ)
 (oB 5 (af 8))))))
 (bJ (gN ny (aq (af 5) aG))))))))
def gg (as:List S):M R:=fin (r6 (bq rL as))
def tW:List Str:=["_law_cell_here","_law_size","_law_found","_law_k"]
noncomputable def uE:G O:=(aM (bg 2 (gw aV))
 (aM (dO (cg (aq (af 1) aG)) (aA 3) (aM (oB 2 (g2 (cL false) (g2 fG (af 0) (gC (.int 2))) (gC (.int 1))))
 (bg 0 (g2 iB (af 0) (gC (.int 2))))))
 (bJ (af 2))))
def gM (as:List S):M R:=fin (uE (bq tW as))
def rN:List Str:=["_law_names_here","_law_many","_law_cells","_law_marks","_law_k","_law_bits_here","_law_arrows"]
noncomputable def se:G O:=(aM (bg 3 (gw aV))
 (aM (dO (cg (aq (gN kc (aq (g2 aZ (af 0) (gC (.int 0))) aG)) aG)) (aA 4) (aM (bg 5 (gN (aQ 2 K51.gM) (aq (g2 aZ (af 2) (af 4)) (aq (af 1) aG))))
 (oB 3 (bD (aC (g2 aZ (g2 aZ (af 0) (gC (.int 0))) (af 4)) (aC (gN cS (aq (bK 1 [5] (cg (aq (af 1) aG)) (aA 0) (p6 (g2 aZ (af 1) (af 0))) (af 0)) aG)) aV))))))
 (aM (bg 6 (gw aV))
 (aM (dO (cg (aq (gN kc (aq (g2 aZ (af 0) (gC (.int 1))) aG)) aG)) (aA 4) (aM (bg 5 (gN (aQ 2 K51.gM) (aq (g2 aZ (af 2) (g2 d_ (gC (.int 3)) (af 4))) (aq (g2 gG (af 1) (af 1)) aG))))
 (oB 6 (bD (aC (g2 aZ (g2 aZ (af 0) (gC (.int 1))) (af 4)) (aC (gN cS (aq (bK 1 [5,1] (cg (aq (g2 gG (af 1) (af 1)) aG)) (aA 0) (p6 (g2 aZ (af 1) (af 0))) (bD (aC (g2 iB (af 0) (af 2)) (aC (g2 fG (af 0) (af 2)) aV)))) aG)) aV))))))
 (bJ (bD (aC (af 1) (aC (gN cS (aq (af 3) aG)) (aC (gN cS (aq (af 6) aG)) aV)))))))))
def fE (as:List S):M R:=fin (se (bq rN as))
end K51
namespace WP
open PySem DL K01
def Wp {α:Type}(m:M α) (P:α->Prop):Prop:=∃a,m=.ok a/\P a
section
variable {α β:Type}{m:M α}{P P':α->Prop}{a:α}{env:Ev}{Q:O->Prop}{t u:G O}{g:G R}{r r':R}{i:Nat}{b:G Bool}
theorem Wp.of (h:m=.ok a) (p:P a):Wp m P:=⟨a,h,p⟩
theorem Wp.mono (h:Wp m P) (k:∀a,P a->P' a):Wp m P':=let ⟨a,h1,h2⟩:=h;⟨a,h1,k a h2⟩
theorem Wp.eq (h:Wp m (·=a)):m=.ok a:=let ⟨_,h1,h2⟩:=h;h2▸h1
theorem o8 {P:R->Prop}(h:Wp (t env) λo=>∃r,o=.rt r/\P r):Wp (fin (t env)) P:=by
 obtain ⟨_,h1,r,rfl,h2⟩:=h
 exact ⟨r,by rw [h1];rfl,h2⟩
theorem vz (h:Wp (t env) λo=>∃e,o=.nx e):fin (t env)=.ok (.d .non):=by
 obtain ⟨_,h1,r,rfl⟩:=h
 rw [h1];rfl
theorem cH (h:Wp (t env) (·=.rt r)):fin (t env)=.ok r:=by
 rw [h.eq];rfl
theorem cu (h:Wp (t env) λo=>match o with
 | .nx e=>Wp (u e) Q
 | o=>Q o):Wp (aM t u env) Q:=by
 obtain ⟨o,h1,h2⟩:=h
 show Wp (t env >>= _) Q
 rw [h1]
 cases o with
 | nx e=>exact h2
 | rt r=>exact ⟨_,rfl,h2⟩
 | bk e=>exact ⟨_,rfl,h2⟩
 | ct e=>exact ⟨_,rfl,h2⟩
theorem fu {x:S}(h:g env=.ok r) (h2:toS r=.ok x) (k:Q (.nx (env.set i (some x)))):Wp (bg i g env) Q:=⟨_,by show (g env >>= _)=_;rw [h,aP,h2];rfl,k⟩
theorem bB {x:S}(h:g env=.ok r) (h2:toS r=.ok x) (k:Wp (u (env.set i (some x))) Q):Wp (aM (bg i g) u env) Q:=cu (fu h h2 k)
theorem bP (h:g env=.ok r) (h2:rF r=.ok r') (k:Q (.rt r')):Wp (bJ g env) Q:=⟨_,MR h h2,k⟩
theorem NP (h:g env=.ok r) (h2:rF r=.ok r') (k:Q (.rt r')):Wp (aM (bJ g) u env) Q:=cu (bP h h2 k)
theorem jD (k:Q (.nx env)):Wp (dJ env) Q:=⟨_,rfl,k⟩
theorem O1 (k:Wp (u env) Q):Wp (aM dJ u env) Q:=cu (jD k)
theorem gA (h:b env=.ok true) (k:Wp (t env) Q):Wp (bS b t u env) Q:=by rw [v5 h];exact k
theorem qi (h:b env=.ok false) (k:Wp (u env) Q):Wp (bS b t u env) Q:=by rw [zL h];exact k
theorem zX {c:Bool}(h:b env=.ok c) (k1:c=true->Wp (t env) Q) (k2:c=false->Wp (u env) Q):Wp (bS b t u env) Q:=by
 cases c with
 | true=>exact gA h (k1 rfl)
 | false=>exact qi h (k2 rfl)
theorem NQ {v:G O}(h:b env=.ok true) (k:Wp (aM t v env) Q):Wp (aM (bS b t u) v env) Q:=by
 have:aM (bS b t u) v env=aM t v env:=by unfold aM;rw [v5 h]
 rw [this];exact k
theorem O0 {v:G O}(h:b env=.ok false) (k:Wp (aM u v env) Q):Wp (aM (bS b t u) v env) Q:=by
 have:aM (bS b t u) v env=aM u v env:=by unfold aM;rw [zL h]
 rw [this];exact k
theorem dM {v:G O}(h:b env=.ok false) (k:Wp (v env) Q):Wp (aM (bS b t dJ) v env) Q:=O0 h (O1 k)
theorem uN {xs:List D}{d:D}(h0:env[i]?=some (some (.own xs))) (h:g env=.ok r) (h2:toD r=.ok d) (hl:xs.length<=1000) (k:Q (.nx (env.set i (some (.own (xs++[d])))))):Wp (oB i g env) Q:=by
 refine ⟨_,?_,k⟩
 unfold oB
 rw [h0]
 show (g env >>= _)=_
 rw [h,aP,h2,aP,if_pos (aaf hl (by decide))]
theorem NO {xs:List D}{d:D}(h0:env[i]?=some (some (.own xs))) (h:g env=.ok r) (h2:toD r=.ok d) (hl:xs.length<=1000) (k:Wp (u (env.set i (some (.own (xs++[d]))))) Q):Wp (aM (oB i g) u env) Q:=cu (uN h0 h h2 hl k)
theorem qS {gi:G (List D)}{tg:GT}{ds:List D}(h:gi env=.ok ds) (k:Wp (fH tg u ds env) Q):Wp (dO gi tg u env) Q:=by rw [Ly h];exact k
theorem jP {gi:G (List D)}{tg:GT}{ds:List D}{v:G O}(h:gi env=.ok ds) (k:Wp (fH tg t ds env) λo=>match o with
 | .nx e=>Wp (v e) Q
 | o=>Q o):Wp (aM (dO gi tg t) v env) Q:=cu (qS h k)
theorem qL {tg:GT}(I:Nat->Ev->Prop) (ds:List D) (h0:I 0 env) (step:∀(k:Nat) (hk:k < ds.length) (env:Ev),I k env->∃e,tg ds[k] env=.ok e/\Wp (u e) λo=>∃e,o=.nx e/\I (k + 1) e)
  (k:∀e,I ds.length e->Q (.nx e)):Wp (fH tg u ds env) Q:=by
 have key:∀(es:List D) (i:Nat) (env:Ev),ds.drop i=es->i<=ds.length->I i env->Wp (fH tg u es env) Q:=by
  intro es
  induction es with
  | nil=>
   intro i env hd hi hI
   have:i=ds.length:=by
    have:=congrArg Vt hd
    rw [V0] at this
    simp at this;omega
   subst this
   exact ⟨_,rfl,k _ hI⟩
  | cons d es ih=>
   intro i env hd hi hI
   have hlt:i < ds.length:=by
    have:=congrArg Vt hd
    rw [V0] at this
    simp at this;omega
   have e1:=Wr hlt
   rw [hd] at e1
   obtain ⟨q1,q2⟩:=acm e1
   obtain ⟨e,h1,_,h2,e2,rfl,h3⟩:=step i hlt env hI
   unfold fH
   rw [q1,h1,aP,h2,aP]
   exact ih (i + 1) e2 q2.symm (by omega) h3
 exact key ds 0 env rfl (SJ _) h0
theorem o9 {tg:GT}{n:Nat}(I:Nat->Ev->Prop) (h0:I 0 env) (step:∀(k:Nat),k < n->∀env,I k env->∃e,tg (.int k) env=.ok e/\Wp (u e) λo=>∃e,o=.nx e/\I (k + 1) e)
  (k:∀e,I n e->Q (.nx e)):Wp (fH tg u (eZ 0 n) env) Q:=by
 have hl:(eZ 0 n).length=n:=by simp [eZ]
 refine qL I (eZ 0 n) h0 (λj hj env hI=>?_) (by rw [hl];exact k)
 obtain ⟨e,h1,h2⟩:=step j (by rw [hl] at hj;exact hj) env hI
 refine ⟨e,?_,h2⟩
 rw [<-h1]
 simp [eZ]
theorem n1 {f:List R->M R}{x z:R}(hx:g env=.ok x) (hf:f [x]=.ok z):gN f (aq g aG) env=.ok z:=Nu hx hf
theorem two {f:R->R->M R}{h:G R}{x y z:R}(hx:g env=.ok x) (hy:h env=.ok y) (hf:f x y=.ok z):g2 f g h env=.ok z:=by
 show (g env >>= _)=_
 rw [hx,aP,hy,aP,hf]
theorem c1 {F:List S->M R}{x z:R}(hx:g env=.ok x) (hF:F [fO x]=.ok z):gN (aQ 1 F) (aq g aG) env=.ok (lW z):=by
 show (aq g aG env >>= _)=_
 unfold aq aG
 rw [hx]
 show (match F [fO x] with | .ok r=>M.ok (lW r) | _=>M.bad)=_
 rw [hF]
theorem c2 {F:List S->M R}{h:G R}{x y z:R}(hx:g env=.ok x) (hy:h env=.ok y) (hF:F [fO x,fO y]=.ok z):gN (aQ 2 F) (aq g (aq h aG)) env=.ok (lW z):=by
 show (aq g (aq h aG) env >>= _)=_
 unfold aq aG
 rw [hx,hy]
 show (match F [fO x,fO y] with | .ok r=>M.ok (lW r) | _=>M.bad)=_
 rw [hF]
theorem c3 {F:List S->M R}{h k:G R}{x y w z:R}(hx:g env=.ok x) (hy:h env=.ok y) (hw:k env=.ok w) (hF:F [fO x,fO y,fO w]=.ok z):gN (aQ 3 F) (aq g (aq h (aq k aG))) env=.ok (lW z):=by
 show (aq g (aq h (aq k aG)) env >>= _)=_
 unfold aq aG
 rw [hx,hy,hw]
 show (match F [fO x,fO y,fO w] with | .ok r=>M.ok (lW r) | _=>M.bad)=_
 rw [hF]
theorem c4 {F:List S->M R}{h k l:G R}{x y w v z:R}(hx:g env=.ok x) (hy:h env=.ok y) (hw:k env=.ok w) (hv:l env=.ok v) (hF:F [fO x,fO y,fO w,fO v]=.ok z):gN (aQ 4 F) (aq g (aq h (aq k (aq l aG)))) env=.ok (lW z):=by
 show (aq g (aq h (aq k (aq l aG))) env >>= _)=_
 unfold aq aG
 rw [hx,hy,hw,hv]
 show (match F [fO x,fO y,fO w,fO v] with | .ok r=>M.ok (lW r) | _=>M.bad)=_
 rw [hF]
theorem qQ (h:g env=.ok r) (k:Wp (u env) Q):Wp (aM (lZ g) u env) Q:=cu ⟨.nx env,by show (g env >>= _)=_;rw [h];rfl,k⟩
theorem kr {cap:List Nat}{gi:G (List D)}{ge:G R}{α:Type}{xs:List α}(a b:α->D) (f:α->D) (hi:gi env=.ok (xs.map λx=>.tup [a x,b x])) (hl:xs.length<=1000)
  (h:∀x∈xs,∃r,ge (some (.d (a x))::some (.d (b x))::cE 0 cap env)=.ok r/\toD r=.ok (f x)):bK 2 cap gi (dh 2 (bw (aA 0) (bw (aA 1) dz))) cI ge env=.ok (.l .fresh (xs.map f)):=by
 have key:∀(es:List α) (x y:Option S),(∀d∈es,d∈xs)->cX (dh 2 (bw (aA 0) (bw (aA 1) dz))) cI ge (es.map λx=>.tup [a x,b x]) (x::y::cE 0 cap env)=.ok (es.map f):=by
  intro es
  induction es with
  | nil=>exact λ_ _ _=>rfl
  | cons d es ih=>
   intro x y hm
   obtain ⟨r,h1,h2⟩:=h d (hm d Se)
   rw [Sw]
   unfold cX
   show (ge (some (.d (a d))::some (.d (b d))::cE 0 cap env) >>= _)=_
   rw [h1,aP,h2,aP]
   show (cX _ cI ge _ (some (.d (a d))::some (.d (b d))::cE 0 cap env) >>= _)=_
   rw [ih _ _ λe he=>hm e (Sd _ he)]
   rfl
 unfold bK
 rw [hi,aP,if_pos (gI (by rw [Sa];exact hl))]
 show (cX _ cI ge _ (none::none::cE 0 cap env) >>= _)=_
 rw [key xs none none λ_ h=>h]
 rfl
theorem MT (n:Nat):eZ 0 n=(Sh n).map dN:=by simp [eZ]
theorem jj {gs:G (List R)}{n:Nat}(hg:gs env=.ok [.d (.int (n:Int))]) (h:n<=1000):cg gs env=.ok ((Sh n).map dN):=by rw [qy hg h,MT]
theorem mR {cap:List Nat}{gi:G (List D)}{ge:G R}{α:Type}{xs:List α}{h:α->D}(f:α->D) (hi:gi env=.ok (xs.map h)) (hl:xs.length<=1000000)
  (hb:∀x∈xs,∃r,ge (some (.d (h x))::cE 0 cap env)=.ok r/\toD r=.ok (f x)):bK 1 cap gi (aA 0) cI ge env=.ok (.l .fresh (xs.map f)):=by
 have key:∀(es:List α) (x:Option S),(∀d∈es,d∈xs)->cX (aA 0) cI ge (es.map h) (x::cE 0 cap env)=.ok (es.map f):=by
  intro es
  induction es with
  | nil=>exact λ_ _=>rfl
  | cons d es ih=>
   intro x hm
   obtain ⟨r,h1,h2⟩:=hb d (hm d Se)
   rw [Sw]
   unfold cX
   show (ge (some (.d (h d))::cE 0 cap env) >>= _)=_
   rw [h1,aP,h2,aP]
   show (cX (aA 0) cI ge _ (some (.d (h d))::cE 0 cap env) >>= _)=_
   rw [ih _ λe he=>hm e (Sd _ he)]
   rfl
 unfold bK
 rw [hi,aP,if_pos (by rw [Ud,Sa];omega)]
 show (cX (aA 0) cI ge _ (none::cE 0 cap env) >>= _)=_
 rw [key xs none λ_ h=>h]
 rfl
theorem lR {cap:List Nat}{gi:G (List D)}{ge:G R}{gts:G Bool}{α:Type}{xs:List α}{h:α->D}(p:α->Bool) (f:α->D) (hi:gi env=.ok (xs.map h)) (hl:xs.length<=1000000)
  (hb:∀x∈xs,gts (some (.d (h x))::cE 0 cap env)=.ok (p x)/\(p x=true->∃r,ge (some (.d (h x))::cE 0 cap env)=.ok r/\toD r=.ok (f x))):bK 1 cap gi (aA 0) gts ge env=.ok (.l .fresh ((xs.filter p).map f)):=by
 have key:∀(es:List α) (x:Option S),(∀d∈es,d∈xs)->cX (aA 0) gts ge (es.map h) (x::cE 0 cap env)=.ok ((es.filter p).map f):=by
  intro es
  induction es with
  | nil=>exact λ_ _=>rfl
  | cons d es ih=>
   intro x hm
   obtain ⟨h0,h1⟩:=hb d (hm d Se)
   rw [Sw]
   unfold cX
   show (gts (some (.d (h d))::cE 0 cap env) >>= _)=_
   rw [h0,aP]
   cases q:p d with
   | true=>
    obtain ⟨r,h1,h2⟩:=h1 q
    rw [if_pos rfl]
    show (ge (some (.d (h d))::cE 0 cap env) >>= _)=_
    rw [h1,aP,h2,aP]
    show (cX (aA 0) gts ge _ (some (.d (h d))::cE 0 cap env) >>= _)=_
    rw [ih _ λe he=>hm e (Sd _ he),YA q]
    rfl
   | false=>
    rw [if_neg (by decide),YB (by simp [q])]
    exact ih _ λe he=>hm e (Sd _ he)
 unfold bK
 rw [hi,aP,if_pos (by rw [Ud,Sa];omega)]
 show (cX (aA 0) gts ge _ (none::cE 0 cap env) >>= _)=_
 rw [key xs none λ_ h=>h]
 rfl
theorem eG {x:R}(h:g env=.ok x):aq g aG env=.ok [x]:=by
 show (g env >>= _)=_
 rw [h]
 rfl
theorem br:aV env=.ok []:=rfl
theorem aJ {gs:G (List D)}{d:D}{ds:List D}(h:g env=.ok r) (h2:toD r=.ok d) (k:gs env=.ok ds):aC g gs env=.ok (d::ds):=by
 show (g env >>= _)=_
 rw [h,aP,h2,aP,k]
 rfl
theorem bx {gs:G (List D)}{ds:List D}(h:gs env=.ok ds) (hl:ds.length<=1000):bD gs env=.ok (.d (.tup ds)):=by
 show (gs env >>= _)=_
 rw [h,aP,if_pos (gI hl)]
theorem nI {gs:G (List D)}{ds:List D}(h:gs env=.ok ds) (hl:ds.length<=1000):gw gs env=.ok (.l .fresh ds):=by
 show (gs env >>= _)=_
 rw [h,aP,if_pos (gI hl)]
theorem nD {α:Type}{xs:List α}{h:α->D}(f:R) (hf:iM f=.ok (xs.map h)) (i:Int) (h0:0<=i) (hi:i < xs.length):∃x∈xs,aZ f (.d (.int i))=.ok (.d (h x)):=by
 obtain ⟨k,rfl⟩:=Int.eq_ofNat_of_zero_le h0
 have hk:k < xs.length:=by omega
 refine ⟨xs[k],SK hk,?_⟩
 have h1:(xs.map h)[k]?=some (h xs[k]):=by rw [Sv,Si hk];rfl
 cases f with
 | d x=>
  cases x with
  | tup ys=>cases hf;exact kJ h1
  | lst ys=>cases hf;unfold aZ;simp only [iM,aP,kH h1]
  | _=>cases hf
 | l m x=>cases hf;exact yE h1
 | mo _ _=>cases hf
 | mb _ _=>cases hf
 | mf _ _=>cases hf
theorem vA {xs:List D}(h:env[i]?=some (some (.own xs))) (k:Wp (t (env.set i (some (.d (.lst xs))))) Q):Wp (fW i t env) Q:=by
 have:fW i t env=t (env.set i (some (.d (.lst xs)))):=by unfold fW;rw [h]
 rw [this];exact k
theorem Np {tg:GT}{d:D}{e:Ev}(h:g env=.ok r) (h2:toD r=.ok d) (h3:tg d env=.ok e) (k:Q (.nx e)):Wp (mV tg g env) Q:=⟨_,by show (g env >>= _)=_;rw [h,aP,h2,aP,h3];rfl,k⟩
theorem u_ {tg:GT}{d:D}{e:Ev}(h:g env=.ok r) (h2:toD r=.ok d) (h3:tg d env=.ok e) (k:Wp (u e) Q):Wp (aM (mV tg g) u env) Q:=cu (Np h h2 h3 k)
theorem FZ {α:Type}(xs:List α) (z:α):L2.lQ (xs++[z]) (-1)=some z:=by
 unfold L2.lQ L2.zR
 rw [if_neg (by decide),if_pos (by simp;omega)]
 rw [show ((-1:Int) + ((xs++[z]).length:Nat)).toNat=xs.length by simp;omega]
 simp
theorem JA (xs:List D) (z:D):aZ (.d (.tup (xs++[z]))) (.d (.int (-1)))=.ok (.d z):=by
 unfold aZ
 simp only [iM,aP,FZ]
theorem mj (neg:Bool) (x:D) (ys:List D) (h:deps ys<=60) (hx:dep x<=60):ie neg (.d x) (.d (.tup ys))=.ok (.d (.bl (if neg then !inD x ys else inD x ys))):=by
 show (if deps ys<=60/\dep x<=60 then M.ok (R.d (.bl (if neg then !inD x ys else inD x ys))) else M.bad)=_
 rw [if_pos ⟨h,hx⟩]
theorem lU (neg:Bool) (x y:R) (h:dep x.dat<=60) (hx:dep y.dat<=60):cL neg x y=.ok (.d (.bl (if neg then !bu x.dat y.dat else bu x.dat y.dat))):=by
 unfold cL
 rw [if_pos ⟨h,hx⟩]
theorem gq {n:Nat}:∀{xs:List D},(∀x∈xs,dep x<=n)->deps xs<=n
 | [],_=>SJ _
 | x::xs,h=>by
  have h1:=h x Se
  have h2:=gq (xs:=xs) λy hy=>h y (Sd _ hy)
  simp only [deps]
  omega
theorem um (xs:List Nat):deps (xs.map dN)<=60:=gq λx hx=>by
 obtain ⟨k,_,rfl⟩:=Sb.mp hx
 exact SJ _
theorem uo (xs:List (Nat×Nat)):deps (xs.map dP)<=60:=gq λx hx=>by
 obtain ⟨k,_,rfl⟩:=Sb.mp hx
 exact (by decide:(1:Nat)<=60)
theorem B0 {tb:G Bool}(I:Nat->Ev->Prop) (step:∀d env,I d env->(tb env=.ok false/\Q (.nx env))\/(tb env=.ok true/\Wp (t env) λo=>match o with
  | .nx e=>∃d',d' < d/\I d' e
  | .rt r=>Q (.rt r)
  | _=>False)):∀(n d:Nat) (env:Ev),I d env->d < n->Wp (lH tb t n env) Q
 | 0,d,env,_,h=>absurd h (TR _)
 | n + 1,d,env,hI,h=>by
  unfold lH
  rcases step d env hI with ⟨h1,h2⟩ | ⟨h1,o,h2,h3⟩
  ·rw [h1]
   exact ⟨_,rfl,h2⟩
  ·rw [h1,aP,if_pos rfl,h2,aP]
   cases o with
   | nx e=>
    obtain ⟨d',hd,hI'⟩:=h3
    exact B0 I step n d' e hI' (by omega)
   | rt r=>exact ⟨_,rfl,h3⟩
   | bk e=>exact h3.elim
   | ct e=>exact h3.elim
theorem KG {tb:G Bool}{n:Nat}(I:Nat->Ev->Prop) (d:Nat) (hd:d < n) (h0:I d env) (step:∀d env,I d env->(tb env=.ok false/\Wp (u env) Q)\/(tb env=.ok true/\Wp (t env) λo=>match o with
  | .nx e=>∃d',d' < d/\I d' e
  | .rt r=>Q (.rt r)
  | _=>False)):Wp (aM (zH n tb t) u env) Q:=cu (B0 I (λd env h=>by
  rcases step d env h with h | ⟨h1,h2⟩
  ·exact .inl h
  ·refine .inr ⟨h1,h2.mono λo ho=>?_⟩
   cases o <;> exact ho) n d env h0 hd)
theorem Nq {d:D}{f:R->R->M R}{y z:R}{x:S}(h0:env[i]?=some (some (.d d))) (h:g env=.ok y) (hf:f (.d d) y=.ok z) (h2:toS z=.ok x) (k:Q (.nx (env.set i (some x)))):Wp (vV i f g env) Q:=by
 refine ⟨_,?_,k⟩
 unfold vV
 rw [h0]
 show (g env >>= _)=_
 rw [h,aP,hf,aP,h2]
 rfl
end
end WP
namespace K51
open PySem DL K01 WP
def cG (ns:List Int) (k:Nat):Int:=(ns.map λx=>x % 10 ^ 64).getD k 0
theorem jz (ns:List Int) (k:Nat):0<=cG ns k:=by
 unfold cG
 rw [Tv,Sv]
 cases ns[k]? with
 | none=>exact Int.le_refl _
 | some x=>exact VM _ (by decide)
theorem DC (ns:List Int) (k:Nat):cF [.bor (ns.map D.int),.d (.int k)]=.ok (.d (.int (cG ns k))):=by
 refine cH (cu (zX (c:=decide ((k:Int) < ((ns.map D.int).length:Nat))) rfl (λh=>?_) λh=>?_))
 ·have h:k < ns.length:=by simpa using h
  have e:(ns.map D.int)[k]?=some (.int ns[k]):=by rw [Sv,Si h];rfl
  refine bP (two (two rfl rfl (yE e)) rfl (gV _ _ (by decide))) rfl ?_
  unfold cG
  rw [Tv,Sv,Si h]
  rfl
 ·have h:ns.length<=k:=by simpa using h
  refine jD (bP rfl rfl ?_)
  unfold cG
  rw [Tv,Sv,List.getElem?_eq_none (by omega)]
  rfl
theorem KA (b n:Nat):(iF ⟨#[b]⟩ n).length=n:=by
 rw [JI,Jg,UT]
theorem A5 (c:Int) (hc:0<=c) (m:Nat) (hm:m<=3):∃ss:List Str,gg [.d (.int c),.d (.int m)]=.ok (.l .fresh (ss.map .str))/\ss.length=m:=by
 have key:Wp (gg [.d (.int c),.d (.int m)]) λr=>∃ss:List Str,r=.l .fresh (ss.map .str)/\ss.length=m:=by
  refine o8 (bB rfl rfl (bB (two rfl rfl (EE (c / 3 % 26) (by omega) (by omega))) rfl ?_))
  generalize 97 + (c / 3 % 26).toNat=b
  refine bB (two rfl rfl (IJ _ (1 + c / 78 % 7) (by omega) (by omega) (show 1<=1000 by decide))) rfl ?_
  have hst:(iF ⟨#[b]⟩ (1 + c / 78 % 7).toNat).length<=8:=by rw [KA];omega
  generalize iF ⟨#[b]⟩ (1 + c / 78 % 7).toNat=stem at hst
  refine bB rfl rfl (jP (qy (n:=m) rfl (by omega)) ?_)
  refine o9 (n:=m) (λk env=>∃(ss:List Str) (x y z:Option S),env=[some (.d (.int c)),some (.d (.int m)),some (.d (.str "abcdefghijklmnopqrstuvwxyz")),some (.d (.str ⟨#[b]⟩)),some (.d (.str stem)),some (.own (ss.map .str)),x,y,z]/\ss.length=k) ⟨[],none,none,none,rfl,rfl⟩ ?_ ?_
  ·rintro k hk _ ⟨ss,x,y,z,rfl,hl⟩
   refine ⟨_,rfl,?_⟩
   refine bB (two rfl rfl (EE ((c / 546 + 9 * k) % 26) (by omega) (by omega))) rfl ?_
   generalize 97 + ((c / 546 + 9 * k) % 26).toNat=o
   obtain ⟨nm,hnm⟩:∃nm:Str,g2 aZ (gw (aC (g2 d_ (af 4) (af 7)) (aC (g2 d_ (af 7) (af 4)) (aC (g2 gG (af 3) (g2 d_ (af 6) (gC (.int 2)))) aV)))) (g2 fG (af 0) (gC (.int 3))) [some (.d (.int c)),some (.d (.int m)),some (.d (.str "abcdefghijklmnopqrstuvwxyz")),some (.d (.str ⟨#[b]⟩)),some (.d (.str stem)),some (.own (ss.map .str)),some (.d (.int k)),some (.d (.str ⟨#[o]⟩)),z]=.ok (.d (.str nm)):=by
    have h1:=IK stem ⟨#[o]⟩ (by show _ + 1<=1000;omega)
    have h2:=IK ⟨#[o]⟩ stem (by show 1 + _<=1000;omega)
    have h3:=IJ ⟨#[b]⟩ (k + 2) (by omega) (by omega) (show 1<=1000 by decide)
    have hg:gw (aC (g2 d_ (af 4) (af 7)) (aC (g2 d_ (af 7) (af 4)) (aC (g2 gG (af 3) (g2 d_ (af 6) (gC (.int 2)))) aV))) [some (.d (.int c)),some (.d (.int m)),some (.d (.str "abcdefghijklmnopqrstuvwxyz")),some (.d (.str ⟨#[b]⟩)),some (.d (.str stem)),some (.own (ss.map .str)),some (.d (.int k)),some (.d (.str ⟨#[o]⟩)),z]=.ok (.l .fresh [.str (stem++⟨#[o]⟩),.str (⟨#[o]⟩++stem),.str (iF ⟨#[b]⟩ ((k:Int) + 2).toNat)]):=by
     have l3:(3:Nat)<=sizeLine:=by decide
     simp only [gw,aC,aV,g2,af,gC,S.rd,List.getElem?_cons_zero,List.getElem?_cons_succ,aP,h1,h2,AD,h3,toD,T6,WQ,l3,if_true]
    have hcs:c % 3=0\/c % 3=1\/c % 3=2:=by omega
    rcases hcs with h | h | h
    ·exact ⟨_,two hg (gV c 3 (by decide)) (by rw [h];rfl)⟩
    ·exact ⟨_,two hg (gV c 3 (by decide)) (by rw [h];rfl)⟩
    ·exact ⟨_,two hg (gV c 3 (by decide)) (by rw [h];rfl)⟩
   refine bB hnm rfl (cu (zX (c:=bu (.str nm) (.str "or")) rfl (λh=>fu rfl rfl ?_) λh=>jD ?_))
   ·exact uN rfl rfl rfl (by rw [Sa];omega) ⟨_,rfl,ss++[("orx":Str)],_,_,_,by rw [SM];rfl,by rw [SI,hl];rfl⟩
   ·exact uN rfl rfl rfl (by rw [Sa];omega) ⟨_,rfl,ss++[nm],_,_,_,by rw [SM];rfl,by rw [SI,hl];rfl⟩
  ·rintro _ ⟨ss,x,y,z,rfl,hl⟩
   refine bP (n1 rfl (sorted_strs _ _ (by omega))) rfl ⟨_,rfl,_,rfl,?_⟩
   unfold rA
   simp [hl]
 obtain ⟨_,h,ss,rfl,hl⟩:=key
 exact ⟨ss,h,hl⟩
theorem DB (c:Int) (m:Nat) (hm:m<=64):∃bs:List Bool,gM [.d (.int c),.d (.int m)]=.ok (.l .fresh (bs.map .bl))/\bs.length=m:=by
 have key:Wp (gM [.d (.int c),.d (.int m)]) λr=>∃bs:List Bool,r=.l .fresh (bs.map .bl)/\bs.length=m:=by
  refine o8 (bB rfl rfl (jP (qy (n:=m) rfl (by omega)) ?_))
  refine o9 (n:=m) (λk env=>∃(bs:List Bool) (c:Int) (x:Option S),env=[some (.d (.int c)),some (.d (.int m)),some (.own (bs.map .bl)),x]/\bs.length=k) ⟨[],c,none,rfl,rfl⟩ ?_ ?_
  ·rintro k hk _ ⟨bs,c,x,rfl,hl⟩
   refine ⟨_,rfl,NO rfl rfl rfl (by rw [Sa];omega) (fu rfl rfl ⟨_,rfl,bs++[c % 2 == 1],c / 2,_,by rw [SM];rfl,by rw [SI,hl];rfl⟩)⟩
  ·rintro _ ⟨ss,x,y,rfl,hl⟩
   exact bP rfl rfl ⟨_,rfl,_,rfl,hl⟩
 obtain ⟨_,h,ss,rfl,hl⟩:=key
 exact ⟨ss,h,hl⟩
theorem ME (bs:List Bool) (m:Nat) (hm:m<=8):yy m ((Sh m).filter λp=>bs.getD p false):=by
 refine ⟨?_,Zu _ Vj,λx hx=>?_⟩
 ·exact S7 (Tp _ _) (by simpa using hm)
 ·simpa using (Te.mp hx).1
theorem Mx (bs:List Bool) (m:Nat) (h1:1<=m) (hm:m<=8):t7 m (((Sh (m * m)).filter λp=>bs.getD p false).map λp=>(p / m,p % m)):=by
 have Qk:m * m<=64:=W8 hm hm
 refine ⟨?_,?_,λx hx=>?_⟩
 ·rw [Sa]
  refine S7 (Tp _ _) (by simpa using Qk)
 ·rw [S9]
  refine W6 ?_ (Zu _ Vj)
  intro p q hpq
  have e1:=abm p m
  have e2:=abm q m
  have h3:p / m<=q / m:=Nat.div_le_div_right (by omega)
  by_cases h:p / m < q / m
  ·exact .inl h
  ·have e:p / m=q / m:=by omega
   refine .inr ⟨e,?_⟩
   rw [e] at e1
   show p % m < q % m
   omega
 ·obtain ⟨p,hp,rfl⟩:=Sb.mp hx
  have:p < m * m:=by simpa using (Te.mp hp).1
  exact ⟨Nat.div_lt_of_lt_mul this,Yh _ (by omega)⟩
theorem Pp (bs:List Bool) (m k:Nat) (hl:bs.length=m) (hk:k < m):aZ (.l .bor (bs.map D.bl)) (.d (.int k))=.ok (.d (.bl (bs.getD k false))):=by
 refine yE ?_
 rw [Sv,Si (by omega),Tv,Si (by omega)]
 rfl
theorem Bk (bs:List Bool) (m k:Nat) (hl:bs.length=m) (hk:k < m):aZ (.l .own (bs.map D.bl)) (.d (.int k))=.ok (.d (.bl (bs.getD k false))):=by
 refine yE ?_
 rw [Sv,Si (by omega),Tv,Si (by omega)]
 rfl
theorem K5 (m:Nat) (h1:1<=m) (hm:m<=8) (A B:List Str) (hA:A.length<=3) (hB:B.length<=3) (cs:List Int) (hc:cs.length=6):
  ∃ms rs,fE [.d (.tup [.lst (A.map .str),.lst (B.map .str)]),.d (.int m),.bor (cs.map .int)]=.ok (.d (Wd.d ⟨m,ms,rs⟩))/\ms.map Tr=A/\rs.map Tr=B/\(∀r∈ms,yy m r.2)/\∀r∈rs,t7 m r.2:=by
 have key:Wp (fE [.d (.tup [.lst (A.map .str),.lst (B.map .str)]),.d (.int m),.bor (cs.map .int)]) λr=>∃ms rs,r=.d (Wd.d ⟨m,ms,rs⟩)/\ms.map Tr=A/\rs.map Tr=B/\(∀r∈ms,yy m r.2)/\∀r∈rs,t7 m r.2:=by
  have Qk:m * m<=64:=W8 hm hm
  have tm:gG (.d (.int m)) (.d (.int m))=.ok (.d (.int ((m * m:Nat):Int))):=by rw [KR _ _ (by omega) (by omega)];simp
  refine o8 (bB rfl rfl (jP (qy (n:=(A.map D.str).length) rfl (by rw [Sa];omega)) ?_))
  refine o9 (n:=(A.map D.str).length) (λk env=>∃(ms:List (Str×List Nat)) (x y:Option S),env=[some (.d (.tup [.lst (A.map .str),.lst (B.map .str)])),some (.d (.int m)),some (.bor (cs.map .int)),some (.own (ms.map gx)),x,y,none]/\ms.map Tr=A.take k/\∀r∈ms,yy m r.2) ⟨[],none,none,rfl,rfl,λ_ h=>by cases h⟩ ?_ ?_
  ·rintro k hk _ ⟨ms,x,y,rfl,hf,hp⟩
   rw [Sa] at hk
   refine ⟨_,rfl,?_⟩
   obtain ⟨c,_,hcc⟩:=nD (xs:=cs) (h:=D.int) (.l .bor (cs.map .int)) rfl k (by omega) (by omega)
   obtain ⟨bs,hb,QU⟩:=DB c m (by omega)
   have hlen:ms.length<=3:=by
    have:=congrArg Vt hf
    rw [Sa,Vm] at this
    omega
   refine bB (c2 (two rfl rfl hcc) rfl hb) rfl ?_
   refine uN rfl (bx (aJ (two rfl rfl (show aZ (.d (.lst (A.map D.str))) _=.ok (.d (.str A[k])) from ?_)) rfl (aJ (n1 (lR (xs:=Sh m) (h:=dN) (λp=>bs.getD p false) dN (jj rfl (by omega)) (by simp;omega) ?_) rfl) rfl br)) (by show 2<=1000;decide)) rfl (by rw [Sa];omega) ?_
   ·show aZ (.d (.lst (A.map D.str))) (.d (.int k))=_
    unfold aZ
    have:(A.map D.str)[k]?=some (.str A[k]):=by rw [Sv,Si hk];rfl
    simp only [iM,aP,kH this]
   ·intro p hp'
    have hp':p < m:=by simpa using hp'
    have hb:=Bk bs m p QU hp'
    refine ⟨?_,λ_=>⟨_,rfl,rfl⟩⟩
    show (g2 aZ (af 1) (af 0) [some (.d (dN p)),some (.own (bs.map D.bl))] >>= AF)=_
    rw [two (x:=.l .own (bs.map D.bl)) (y:=.d (dN p)) rfl rfl hb]
    rfl
   ·refine ⟨_,rfl,ms++[(A[k],(Sh m).filter λp=>bs.getD p false)],_,_,by rw [SM];rfl,?_,λr hr=>?_⟩
    ·rw [SM,hf,X7,Si hk]
     rfl
    ·rw [S0,Ss] at hr
     rcases hr with h | h
     ·exact hp r h
     ·rw [h];exact ME bs m hm
  ·rintro _ ⟨ms,x,y,rfl,hf,hp⟩
   refine bB rfl rfl (jP (qy (n:=(B.map D.str).length) rfl (by rw [Sa];omega)) ?_)
   refine o9 (n:=(B.map D.str).length) (λk env=>∃(rs:List (Str×List (Nat×Nat))) (x y:Option S),env=[some (.d (.tup [.lst (A.map .str),.lst (B.map .str)])),some (.d (.int m)),some (.bor (cs.map .int)),some (.own (ms.map gx)),x,y,some (.own (rs.map iI))]/\rs.map Tr=B.take k/\∀r∈rs,t7 m r.2) ⟨[],_,_,rfl,rfl,λ_ h=>by cases h⟩ ?_ ?_
   ·rintro k hk _ ⟨rs,x,y,rfl,hf,hp⟩
    rw [Sa] at hk
    refine ⟨_,rfl,?_⟩
    obtain ⟨c,_,hcc⟩:=nD (xs:=cs) (h:=D.int) (.l .bor (cs.map .int)) rfl (3 + k) (by omega) (by omega)
    obtain ⟨bs,hb,QU⟩:=DB c (m * m) (by omega)
    have hlen:rs.length<=3:=by
     have:=congrArg Vt hf
     rw [Sa,Vm] at this
     omega
    refine bB (c2 (two rfl rfl hcc) (two rfl rfl tm) hb) rfl ?_
    refine uN rfl (bx (aJ (two rfl rfl (show aZ (.d (.lst (B.map D.str))) _=.ok (.d (.str B[k])) from ?_)) rfl (aJ (n1 (lR (xs:=Sh (m * m)) (h:=dN) (λp=>bs.getD p false) (λp=>dP (p / m,p % m)) (jj (eG (two rfl rfl tm)) (by omega)) (by simp;omega) ?_) rfl) rfl br)) (by show 2<=1000;decide)) rfl (by rw [Sa];omega) ?_
    ·show aZ (.d (.lst (B.map D.str))) (.d (.int k))=_
     unfold aZ
     have:(B.map D.str)[k]?=some (.str B[k]):=by rw [Sv,Si hk];rfl
     simp only [iM,aP,kH this]
    ·intro p hp'
     have hp':p < m * m:=by simpa using hp'
     have hb:=Bk bs (m * m) p QU hp'
     refine ⟨?_,λ_=>⟨_,bx (aJ (two rfl rfl (o6 p m (by omega) (by omega))) rfl (aJ (two rfl rfl (gV p m (by omega))) rfl br)) (by show 2<=1000;decide),?_⟩⟩
     ·show (g2 aZ (af 1) (af 0) [some (.d (dN p)),some (.own (bs.map D.bl)),some (.d (.int m))] >>= AF)=_
      rw [two (x:=.l .own (bs.map D.bl)) (y:=.d (dN p)) rfl rfl hb]
      rfl
     ·simp [toD,dP]
    ·refine ⟨_,rfl,rs++[(B[k],((Sh (m * m)).filter λp=>bs.getD p false).map λp=>(p / m,p % m))],_,_,by rw [SM,aag,iI,SN];rfl,?_,λr hr=>?_⟩
     ·rw [SM,hf,X7,Si hk]
      rfl
     ·rw [S0,Ss] at hr
      rcases hr with h | h
      ·exact hp r h
      ·rw [h];exact Mx bs m h1 hm
   ·rintro _ ⟨rs,x,y,rfl,hf2,hp2⟩
    rw [Sa] at hf hf2
    refine bP (bx (aJ rfl rfl (aJ rfl rfl (aJ rfl rfl br))) (by show 3<=1000;decide)) rfl ⟨_,rfl,ms,rs,rfl,by rw [hf,Xn],by rw [hf2,Xn],hp,hp2⟩
 obtain ⟨_,h,ms,rs,rfl,hk⟩:=key
 exact ⟨ms,rs,h,hk⟩
theorem gK (ns:List Int) (i:Int) (k:Nat) (h:i=k):cF [.bor (ns.map D.int),.d (.int i)]=.ok (.d (.int (cG ns k))):=by
 rw [h];exact DC ns k
structure ng (w:Wd):Prop where
 lo:1<=w.m
 hi:w.m<=8
 ml:w.ms.length<=3
 al:w.ar.length<=3
theorem rB (xs ys:List D) (h:xs.length + ys.length<=1000):cR (.d (.tup xs)) (.d (.tup ys))=.ok (.d (.tup (xs++ys))):=by
 show (if xs.length + ys.length<=sizeLine then M.ok (R.d (.tup (xs++ys))) else M.bad)=_
 rw [if_pos (gI h)]
theorem OI (l:Nat) (xs:List Nat):ie false (.d (dN l)) (.d (.tup (xs.map dN)))=.ok (.d (.bl (inD (dN l) (xs.map dN)))):=mj false _ _ (um xs) (SJ _)
theorem LD (l:Nat×Nat) (xs:List (Nat×Nat)):ie false (.d (dP l)) (.d (.tup (xs.map dP)))=.ok (.d (.bl (inD (dP l) (xs.map dP)))):=mj false _ _ (uo xs) (by show (1:Nat)<=60;decide)
theorem t2:(2:Nat)<=1000:=by decide
end K51
namespace K51
open PySem DL K01 WP
open PySem.W (kas_sort)
theorem qG (ds:List D):(bF ds).length=ds.length:=by
 unfold bF
 by_cases h:ds.length < 2
 ·rw [if_pos h]
 ·rw [if_neg h,Sa]
  have:=(jc (n:=ds.length) (by omega)).run (ltB ds)
  have:=this.size_eq
  simpa using this
theorem mH {ds:List D}{x:D}(hx:x∈bF ds):x∈ds:=by
 unfold bF at hx
 by_cases h:ds.length < 2
 ·rwa [if_pos h] at hx
 ·rw [if_neg h] at hx
  have hp:=(jc (n:=ds.length) (by omega)).run (ltB ds)
  obtain ⟨i,hi,rfl⟩:=Sb.mp hx
  have hi:i∈bh (ltB ds) (Wc ds.length):=by simpa using hi
  have:=(X4 hp).mp hi
  exact gQ (by simpa using this)
end K51
namespace K51
open PySem DL K01 WP
end K51
namespace DL
open PySem PySem.Spec PyProof.Rows L2
open PySem.W (KasT kas_sort kas_asc kas_desc kas_rev kas_tail3 kas_descPart kas_count kas_place kas_bin)
theorem run_bind {α β:Type}(q:Nat->Nat->Bool) (f:α->KasT β):∀t:KasT α,bh q (t.bind f)=bh q (f (bh q t))
 | .ret _=>rfl
 | .ask i j k=>run_bind q f (k (q i j))
theorem Ht {n:Nat}{α:Type}{P:α->Prop}{t:KasT α}{q q':Nat->Nat->Bool}(h:fJ n P t) (e:∀i j,i < n->j < n->q i j=q' i j):bh q t=bh q' t:=by
 induction h with
 | ret _=>rfl
 | @ask i j k h1 h2 _ ih=>
  show bh q (k (q i j))=bh q' (k (q' i j))
  rw [e _ _ h1 h2]
  exact ih _
structure Ord (q:Nat->Nat->Bool):Prop where
 asy:∀a b,q a b=true->q b a=false
 tra:∀a b c,q b a=false->q c b=false->q c a=false
section
variable {q:Nat->Nat->Bool}{n:Nat}
abbrev bG (p:Array Nat) (k:Nat):Nat:=p.getD k 0
def Up (q:Nat->Nat->Bool) (p:Array Nat) (k:Nat):Prop:=∀i j,i<=j->j < k->q (bG p j) (bG p i)=false
def Down (q:Nat->Nat->Bool) (p:Array Nat) (k:Nat):Prop:=∀i j,i<=j->j < k->q (bG p i) (bG p j)=false
theorem Ord.irr (O:Ord q) (a:Nat):q a a=false:=by
 cases h:q a a with
 | false=>rfl
 | true=>rw [<-h];exact (O.asy a a h)
theorem getD_eq {p p':Array Nat}{i j:Nat}(h:p[i]?=p'[j]?):bG p i=bG p' j:=by
 show p.getD i 0=p'.getD j 0
 rw [XJ,XJ,h]
theorem jb {p:Array Nat}{i j:Nat}(hj:j<=p.size) (k:Nat):bG (Xl p i j) k=if i<=k/\k < j then bG p (i + j - 1 - k) else bG p k:=by
 have e:=getElem?_mirror_all (xs:=p) (i:=i) hj k
 by_cases c:i<=k/\k < j
 ·rw [if_pos c] at e ⊢;exact getD_eq e
 ·rw [if_neg c] at e ⊢;exact getD_eq e
theorem DR {p:Array Nat}{src d:Nat}(hs:src < p.size) (hd:d<=src) (k:Nat):bG (bubble p src d) k=if k=src - d then bG p src else if src - d < k/\k<=src then bG p (k - 1) else bG p k:=by
 have e:=getElem?_bubble hs d hd k
 by_cases c:k=src - d
 ·rw [if_pos c] at e ⊢;exact getD_eq e
 ·rw [if_neg c] at e ⊢
  by_cases c':src - d < k/\k<=src
  ·rw [if_pos c'] at e ⊢;exact getD_eq e
  ·rw [if_neg c'] at e ⊢;exact getD_eq e
theorem iH (p:Array Nat) (i j:Nat):(Xl p i j).size=p.size:=mirror_size _ _ _ _
theorem Up.one (O:Ord q) (p:Array Nat):Up q p 1:=λi j h1 h2=>by
 have:i=j:=by omega
 rw [this];exact O.irr _
theorem Up.more (O:Ord q){p:Array Nat}{k:Nat}(h:Up q p k) (h1:1<=k) (e:q (bG p k) (bG p (k - 1))=false):Up q p (k + 1):=λi j hi hj=>by
 by_cases c:j < k
 ·exact h i j hi c
 ·have:j=k:=by omega
  subst this
  by_cases c':i=j
  ·rw [c'];exact O.irr _
  ·exact O.tra _ _ _ (h i (j - 1) (by omega) (by omega)) e
theorem Down.more (O:Ord q){p:Array Nat}{k:Nat}(h:Down q p k) (h1:1<=k) (e:q (bG p (k - 1)) (bG p k)=false):Down q p (k + 1):=λi j hi hj=>by
 by_cases c:j < k
 ·exact h i j hi c
 ·have:j=k:=by omega
  subst this
  by_cases c':i=j
  ·rw [c'];exact O.irr _
  ·exact O.tra _ _ _ e (h i (j - 1) (by omega) (by omega))
theorem za (O:Ord q) (p:Array Nat):∀(f m:Nat),1<=m->Up q p m->m<=bh q (Xm p f m)/\bh q (Xm p f m)<=m + f/\Up q p (bh q (Xm p f m))/\(bh q (Xm p f m)=m + f\/q (bG p (bh q (Xm p f m))) (bG p (bh q (Xm p f m) - 1))=true)
 | 0,m,h1,h=>⟨Sj _,Sj _,h,.inl rfl⟩
 | f + 1,m,h1,h=>by
  have e:bh q (Xm p (f + 1) m)=if q (bG p m) (bG p (m - 1))=true then m else bh q (Xm p f (m + 1)):=by
   show bh q (if q (bG p m) (bG p (m - 1))=true then KasT.ret m else Xm p f (m + 1))=_
   by_cases c:q (bG p m) (bG p (m - 1))=true
   ·rw [if_pos c,if_pos c];rfl
   ·rw [if_neg c,if_neg c]
  rw [e]
  by_cases c:q (bG p m) (bG p (m - 1))=true
  ·rw [if_pos c]
   exact ⟨Sj _,by omega,h,.inr c⟩
  ·rw [if_neg c]
   obtain ⟨a1,a2,a3,a4⟩:=za O p f (m + 1) (by omega) (h.more O h1 (by simpa using c))
   refine ⟨by omega,by omega,a3,?_⟩
   rcases a4 with a4 | a4
   ·exact .inl (by omega)
   ·exact .inr a4
def Alike (q:Nat->Nat->Bool) (p:Array Nat) (i j:Nat):Prop:=∀a b,i<=a->a < j->i<=b->b < j->q (bG p a) (bG p b)=false
theorem xM {p:Array Nat}{i j k:Nat}(hj:j<=p.size) (ha:Alike q p i j) (hd:Down q p j) (O:Ord q):Down q (Xl p i j) j:=λa b h1 h2=>by
 rw [jb hj,jb hj]
 by_cases c:i<=a/\a < j
 ·rw [if_pos c]
  by_cases c':i<=b/\b < j
  ·rw [if_pos c'];exact ha _ _ (by omega) (by omega) (by omega) (by omega)
  ·omega
 ·rw [if_neg c]
  by_cases c':i<=b/\b < j
  ·rw [if_pos c']
   exact hd _ _ (by omega) (by omega)
  ·rw [if_neg c'];exact hd _ _ h1 h2
theorem MS {p:Array Nat}{j:Nat}(hj:j<=p.size) (hd:Down q p j):Up q (Xl p 0 j) j:=λa b h1 h2=>by
 rw [jb hj,jb hj,if_pos (by omega),if_pos (by omega)]
 exact hd _ _ (by omega) (by omega)
theorem u5 {p:Array Nat}{i j k:Nat}(hj:j<=p.size) (h:j<=k):bG (Xl p i j) k=bG p k:=by
 rw [jb hj,if_neg (by omega)]
theorem lS (O:Ord q):∀(f:Nat) (p:Array Nat) (m e:Nat),1<=m->e + 1<=m->m + f<=p.size->Down q p m->Alike q p (m - (e + 1)) m->
  (bh q (Vb f p m e)).1.size=p.size/\m<=(bh q (Vb f p m e)).2.1/\(bh q (Vb f p m e)).2.1<=m + f/\(bh q (Vb f p m e)).2.2 + 1<=(bh q (Vb f p m e)).2.1/\
  Down q (bh q (Vb f p m e)).1 (bh q (Vb f p m e)).2.1/\Alike q (bh q (Vb f p m e)).1 ((bh q (Vb f p m e)).2.1 - ((bh q (Vb f p m e)).2.2 + 1)) (bh q (Vb f p m e)).2.1
 | 0,p,m,e,h1,h2,h3,h4,h5=>⟨rfl,Sj _,Sj _,h2,h4,h5⟩
 | f + 1,p,m,e,h1,h2,h3,h4,h5=>by
  have solo:∀(p:Array Nat) (m:Nat),Alike q p (m + 1 - (0 + 1)) (m + 1):=λp m a b c1 c2 c3 c4=>by
   have:a=b:=by omega
   rw [this];exact O.irr _
  cases c:q (bG p m) (bG p (m - 1)) with
  | true=>
   have c2:=O.asy _ _ c
   by_cases he:e > 0
   ·have er:bh q (Vb (f + 1) p m e)=bh q (Vb f (Xl p (m - (e + 1)) m) (m + 1) 0):=by
     show bh q (if q (bG p m) (bG p (m - 1))=true then _ else _)=_
     rw [if_pos c,if_pos he]
    rw [er]
    have hr:=xM (k:=0) (i:=m - (e + 1)) (by omega:m<=p.size) h5 h4 O
    have hl:bG (Xl p (m - (e + 1)) m) (m - 1)=bG p (m - (e + 1)):=by
     rw [jb (by omega),if_pos (by omega)]
     congr 1;omega
    obtain ⟨a0,a1,a2,a3,a4,a5⟩:=lS O f (Xl p (m - (e + 1)) m) (m + 1) 0 (by omega) (by omega) (by rw [iH];omega)
     (hr.more O h1 (by
      rw [hl,u5 (by omega) (Sj _)]
      exact O.tra _ _ _ c2 (h5 _ _ (by omega) (by omega) (by omega) (by omega)))) (solo _ _)
    rw [iH] at a0
    exact ⟨a0,by omega,by omega,a3,a4,a5⟩
   ·have er:bh q (Vb (f + 1) p m e)=bh q (Vb f p (m + 1) 0):=by
     show bh q (if q (bG p m) (bG p (m - 1))=true then _ else _)=_
     rw [if_pos c,if_neg he]
    rw [er]
    obtain ⟨a0,a1,a2,a3,a4,a5⟩:=lS O f p (m + 1) 0 (by omega) (by omega) (by omega) (h4.more O h1 c2) (solo _ _)
    exact ⟨a0,by omega,by omega,a3,a4,a5⟩
  | false=>
   cases c2:q (bG p (m - 1)) (bG p m) with
   | true=>
    have er:bh q (Vb (f + 1) p m e)=(p,m,e):=by
     show bh q (if q (bG p m) (bG p (m - 1))=true then _ else _)=_
     rw [if_neg (by rw [c];decide)]
     show bh q (if q (bG p (m - 1)) (bG p m)=true then _ else _)=_
     rw [if_pos c2]
     rfl
    rw [er]
    exact ⟨rfl,Sj _,UM _ _,h2,h4,h5⟩
   | false=>
    have er:bh q (Vb (f + 1) p m e)=bh q (Vb f p (m + 1) (e + 1)):=by
     show bh q (if q (bG p m) (bG p (m - 1))=true then _ else _)=_
     rw [if_neg (by rw [c];decide)]
     show bh q (if q (bG p (m - 1)) (bG p m)=true then _ else _)=_
     rw [if_neg (by rw [c2];decide)]
    rw [er]
    have hal:Alike q p (m + 1 - (e + 1 + 1)) (m + 1):=λa b d1 d2 d3 d4=>by
     by_cases ea:a=m
     ·subst ea
      by_cases eb:b=a
      ·rw [eb];exact O.irr _
      ·exact O.tra _ _ _ (h5 (a - 1) b (by omega) (by omega) (by omega) (by omega)) c
     ·by_cases eb:b=m
      ·subst eb
       exact O.tra _ _ _ c2 (h5 a (b - 1) (by omega) (by omega) (by omega) (by omega))
      ·exact h5 a b (by omega) (by omega) (by omega) (by omega)
    obtain ⟨a0,a1,a2,a3,a4,a5⟩:=lS O f p (m + 1) (e + 1) (by omega) (by omega) (by omega) (h4.more O h1 c2) hal
    exact ⟨a0,by omega,by omega,a3,a4,a5⟩
def Got (q:Nat->Nat->Bool) (N s:Nat) (r:Nat×Array Nat):Prop:=r.2.size=s/\1<=r.1/\r.1<=N/\Up q r.2 r.1
theorem BU (O:Ord q){p:Array Nat}{m N:Nat}(h1:1<=m) (hm:m<=N) (hN:N<=p.size) (hd:Down q p m):Got q N p.size (bh q (acB m N p)):=by
 unfold acB
 rw [run_bind]
 obtain ⟨a1,a2,a3,_⟩:=za O (Xl p 0 m) (N - m) m h1 (MS (by omega) hd)
 exact ⟨iH _ _ _,by show 1<=bh q (Xm _ _ _);omega,by show bh q (Xm _ _ _)<=N;omega,a3⟩
theorem BH (O:Ord q){p:Array Nat}{m N:Nat}(h1:1<=m) (hm:m + 1<=N) (hN:N<=p.size) (hd:Down q p (m + 1)):Got q N p.size (bh q (aaO m N p)):=by
 unfold aaO
 rw [run_bind]
 obtain ⟨a0,a1,a2,a3,a4,a5⟩:=lS O (N - (m + 1)) p (m + 1) 0 (by omega) (by omega) (by omega) hd (λa b c1 c2 c3 c4=>by
  have:a=b:=by omega
  rw [this];exact O.irr _)
 generalize bh q (Vb (N - (m + 1)) p (m + 1) 0)=r at *
 obtain ⟨p',m',e'⟩:=r
 simp only at *
 by_cases c:e' > 0
 ·rw [if_pos c]
  have:=BU (N:=N) O (p:=Xl p' (m' - (e' + 1)) m') (m:=m') (by omega) (by omega) (by rw [iH];omega) (xM (k:=0) (by omega) a5 a4 O)
  rw [iH,a0] at this
  exact this
 ·rw [if_neg c]
  have:=BU (N:=N) O (p:=p') (m:=m') (by omega) (by omega) (by omega) a4
  rw [a0] at this
  exact this
theorem F7 (O:Ord q){p:Array Nat}{N:Nat}(h1:1<=N) (hN:N<=p.size):Got q N p.size (bh q (abg N p)):=by
 unfold abg
 rw [run_bind]
 obtain ⟨a1,a2,a3,a4⟩:=za O p (N - 1) 1 (Sj _) (Up.one O p)
 generalize bh q (Xm p (N - 1) 1)=m at *
 by_cases c:(m == N)=true
 ·rw [if_pos c]
  exact ⟨rfl,a1,by show m<=N;omega,a3⟩
 ·rw [if_neg c]
  have hm:m + 1<=N:=by
   have:m≠N:=by simpa using c
   omega
  have a4:q (bG p m) (bG p (m - 1))=true:=by
   rcases a4 with h | h
   ·omega
   ·exact h
  have a5:=O.asy _ _ a4
  by_cases c':m > 1
  ·rw [if_pos c']
   show Got q N p.size (bh q (if q (bG p 0) (bG p (m - 1))=true then _ else _))
   by_cases d:q (bG p 0) (bG p (m - 1))=true
   ·rw [if_pos d]
    exact ⟨rfl,a1,by show m<=N;omega,a3⟩
   ·rw [if_neg d]
    have d:q (bG p 0) (bG p (m - 1))=false:=by simpa using d
    have all:∀a b,a < m->b < m->q (bG p a) (bG p b)=false:=λa b ha hb=>O.tra _ _ _ (O.tra _ _ _ (a3 b (m - 1) (by omega) (by omega)) d) (a3 0 a (by omega) (by omega))
    have hd:Down q (Xl p 0 m) m:=λa b h1 h2=>by
     rw [jb (by omega),jb (by omega),if_pos (by omega),if_pos (by omega)]
     exact all _ _ (by omega) (by omega)
    have:=BH O (p:=Xl p 0 m) (m:=m) (N:=N) (by omega) hm (by rw [iH];exact hN) (hd.more O (by omega) (by
     rw [u5 (by omega) (Sj _),jb (by omega),if_pos (by omega),show 0 + m - 1 - (m - 1)=0 by omega]
     exact O.tra _ _ _ a5 d))
    rw [iH] at this
    exact this
  ·rw [if_neg c']
   have:m=1:=by omega
   subst this
   refine BH O (Sj _) hm hN ?_
   exact Down.more O (λi j h1 h2=>by
    have:i=j:=by omega
    rw [this];exact O.irr _) (Sj _) a5
theorem tE (O:Ord q){p:Array Nat}{k:Nat}(hs:Up q p k):∀(f l r:Nat),l<=r->r<=k->r - l<=f->(∀i,i < l->q (bG p k) (bG p i)=false)->(∀i,r<=i->i < k->q (bG p k) (bG p i)=true)->
  bh q (Vr p k f l r)<=k/\(∀i,i < bh q (Vr p k f l r)->q (bG p k) (bG p i)=false)/\∀i,bh q (Vr p k f l r)<=i->i < k->q (bG p k) (bG p i)=true
 | 0,l,r,h1,h2,h3,h4,h5=>⟨by show l<=k;omega,h4,λi hi=>h5 i (by show r<=i;have:l<=i:=hi;omega)⟩
 | f + 1,l,r,h1,h2,h3,h4,h5=>by
  by_cases c:l ≥ r
  ·have e:bh q (Vr p k (f + 1) l r)=l:=by
    unfold Vr
    rw [if_pos c]
    rfl
   rw [e]
   exact ⟨by omega,h4,λi hi=>h5 i (by omega)⟩
  ·cases d:q (bG p k) (bG p ((l + r) / 2)) with
   | true=>
    have e:bh q (Vr p k (f + 1) l r)=bh q (Vr p k f l ((l + r) / 2)):=by
     rw [Vr,if_neg c]
     show bh q (if q (bG p k) (bG p ((l + r) / 2))=true then _ else _)=_
     rw [if_pos d]
    rw [e]
    refine tE O hs f l ((l + r) / 2) (by omega) (by omega) (by omega) h4 λi i1 i2=>?_
    by_cases ci:r<=i
    ·exact h5 i ci i2
    ·cases dd:q (bG p k) (bG p i) with
     | true=>rfl
     | false=>
      have:=O.tra _ _ _ (hs ((l + r) / 2) i i1 i2) dd
      rw [d] at this
      cases this
   | false=>
    have e:bh q (Vr p k (f + 1) l r)=bh q (Vr p k f ((l + r) / 2 + 1) r):=by
     rw [Vr,if_neg c]
     show bh q (if q (bG p k) (bG p ((l + r) / 2))=true then _ else _)=_
     rw [if_neg (by rw [d];decide)]
    rw [e]
    refine tE O hs f ((l + r) / 2 + 1) r (by omega) (by omega) (by omega) (λi hi=>?_) h5
    exact O.tra _ _ _ (hs i ((l + r) / 2) (by omega) (by omega)) d
theorem Lk (O:Ord q){p:Array Nat}{k l:Nat}(hk:k < p.size) (hl:l<=k) (hs:Up q p k) (h1:∀i,i < l->q (bG p k) (bG p i)=false) (h2:∀i,l<=i->i < k->q (bG p k) (bG p i)=true):Up q (bubble p k (k - l)) (k + 1):=λi j hi hj=>by
 rw [DR hk (by omega),DR hk (by omega),show k - (k - l)=l by omega]
 by_cases a:i=l
 ·rw [if_pos a]
  by_cases b:j=l
  ·rw [if_pos b];exact O.irr _
  ·rw [if_neg b,if_pos (by omega)]
   exact O.asy _ _ (h2 (j - 1) (by omega) (by omega))
 ·rw [if_neg a]
  by_cases b:j=l
  ·rw [if_pos b,if_neg (by omega)]
   exact h1 i (by omega)
  ·rw [if_neg b]
   by_cases a':l < i/\i<=k
   ·rw [if_pos a',if_pos (by omega)]
    exact hs _ _ (by omega) (by omega)
   ·rw [if_neg a']
    by_cases b':l < j/\j<=k
    ·rw [if_pos b']
     exact hs _ _ (by omega) (by omega)
    ·rw [if_neg b']
     exact hs _ _ hi (by omega)
theorem DT (O:Ord q):∀(f:Nat) (p:Array Nat) (k:Nat),k + f<=p.size->Up q p k->Up q (bh q (aci f p k)) (k + f)
 | 0,p,k,_,h=>h
 | f + 1,p,k,hs,h=>by
  have e:bh q (aci (f + 1) p k)=bh q (aci f (bubble p k (k - bh q (Vr p k k 0 k))) (k + 1)):=by
   rw [aci,run_bind]
  rw [e]
  obtain ⟨a1,a2,a3⟩:=tE O h k 0 k (SJ _) (Sj _) (by omega) (λi hi=>by omega) (λi h1 h2=>by omega)
  have:=DT O f (bubble p k (k - bh q (Vr p k k 0 k))) (k + 1) (by rw [bubble_size];omega) (Lk O (by omega) a1 h a2 a3)
  rw [show k + (f + 1)=k + 1 + f by omega]
  exact this
theorem KI (O:Ord q) (n:Nat) (hn:1<=n):Up q (bh q (Wc n)) n:=by
 unfold Wc
 rw [run_bind]
 obtain ⟨a0,a1,a2,a3⟩:=F7 O (p:=(Sh n).toArray) (N:=n) hn (by simp)
 generalize bh q (abg n (Sh n).toArray)=r at *
 have a0:r.2.size=n:=by simpa using a0
 by_cases c:r.1 < n
 ·rw [if_pos c]
  have:=DT O (n - max r.1 1) r.2 (max r.1 1) (by omega) (by rw [show max r.1 1=r.1 by omega];exact a3)
  rwa [show max r.1 1 + (n - max r.1 1)=n by omega] at this
 ·rw [if_neg c]
  have:r.1=n:=by omega
  rw [this] at a3
  exact a3
end
end DL
namespace DL
open PySem PySem.Spec PyProof.Rows L2
open PySem.W (kas_sort)
def d9 (x y:D):Bool:=(eU x y).getD false
structure fV (P:D->Prop):Prop where
 eq:∀x y,P x->P y->(bu x y=true↔x=y)
 lt:∀x y,P x->P y->(eU x y).isSome=true
 asy:∀x y,P x->P y->d9 x y=true->d9 y x=false
 tri:∀x y,P x->P y->d9 x y=false->d9 y x=false->x=y
 tra:∀x y z,P x->P y->P z->d9 x y=true->d9 y z=true->d9 x z=true
def g_ (xs ys:List D):Bool:=d9 (.tup xs) (.tup ys)
theorem jE (x y:D) (xs ys:List D):g_ (x::xs) (y::ys)=if bu x y=true then g_ xs ys else d9 x y:=by
 show (if bu x y=true then kg xs ys else eU x y).getD false=_
 by_cases h:bu x y=true
 ·rw [if_pos h,if_pos h];rfl
 ·rw [if_neg h,if_neg h];rfl
variable {P R:D->Prop}
theorem kI (xs ys:List D):bu (.tup xs) (.tup ys)=cB xs ys:=by rw [bu]
theorem gR (x y:D) (xs ys:List D):cB (x::xs) (y::ys)=(bu x y && cB xs ys):=by rw [cB]
structure kO (Q:List D->Prop):Prop where
 eq:∀x y,Q x->Q y->(cB x y=true↔x=y)
 lt:∀x y,Q x->Q y->(kg x y).isSome=true
 asy:∀x y,Q x->Q y->g_ x y=true->g_ y x=false
 tri:∀x y,Q x->Q y->g_ x y=false->g_ y x=false->x=y
 tra:∀x y z,Q x->Q y->Q z->g_ x y=true->g_ y z=true->g_ x z=true
theorem kO.tot {Q:List D->Prop}(h:kO Q):fV λd=>∃xs,d=.tup xs/\Q xs where
 eq:=by
  rintro _ _ ⟨x,rfl,hx⟩ ⟨y,rfl,hy⟩
  rw [kI,h.eq x y hx hy]
  exact ⟨λe=>e▸rfl,λe=>by cases e;rfl⟩
 lt:=by
  rintro _ _ ⟨x,rfl,hx⟩ ⟨y,rfl,hy⟩
  exact h.lt x y hx hy
 asy:=by
  rintro _ _ ⟨x,rfl,hx⟩ ⟨y,rfl,hy⟩
  exact h.asy x y hx hy
 tri:=by
  rintro _ _ ⟨x,rfl,hx⟩ ⟨y,rfl,hy⟩ h1 h2
  rw [h.tri x y hx hy h1 h2]
 tra:=by
  rintro _ _ _ ⟨x,rfl,hx⟩ ⟨y,rfl,hy⟩ ⟨z,rfl,hz⟩
  exact h.tra x y z hx hy hz
theorem BB (p:fV P){x y z:D}{r s t:List D}(px:P x) (py:P y) (pz:P z) (h:g_ r s=true->g_ s t=true->g_ r t=true) (h1:g_ (x::r) (y::s)=true) (h2:g_ (y::s) (z::t)=true):g_ (x::r) (z::t)=true:=by
 rw [jE] at h1 h2 ⊢
 by_cases e:x=y
 ·subst e
  rw [if_pos ((p.eq x x px px).mpr rfl)] at h1
  by_cases f:x=z
  ·subst f
   rw [if_pos ((p.eq x x px px).mpr rfl)] at h2 ⊢
   exact h h1 h2
  ·rw [if_neg λq=>f ((p.eq x z px pz).mp q)] at h2 ⊢
   exact h2
 ·rw [if_neg λq=>e ((p.eq x y px py).mp q)] at h1
  by_cases f:y=z
  ·subst f
   rw [if_neg λq=>e ((p.eq x y px py).mp q)]
   exact h1
  ·rw [if_neg λq=>f ((p.eq y z py pz).mp q)] at h2
   have h3:=p.tra x y z px py pz h1 h2
   by_cases g:x=z
   ·subst g
    have:=p.asy x x px px h3
    rw [h3] at this
    cases this
   ·rw [if_neg λq=>g ((p.eq x z px pz).mp q)]
    exact h3
theorem kO.cons {Q:List D->Prop}(p:fV P) (h:kO Q):kO λxs=>∃x r,xs=x::r/\P x/\Q r where
 eq:=by
  rintro _ _ ⟨x,r,rfl,px,qr⟩ ⟨y,s,rfl,py,qs⟩
  rw [gR,Sf,p.eq x y px py,h.eq r s qr qs]
  exact ⟨λe=>by rw [e.1,e.2],λe=>by cases e;exact ⟨rfl,rfl⟩⟩
 lt:=by
  rintro _ _ ⟨x,r,rfl,px,qr⟩ ⟨y,s,rfl,py,qs⟩
  show (if bu x y=true then kg r s else eU x y).isSome=true
  split
  ·exact h.lt r s qr qs
  ·exact p.lt x y px py
 asy:=by
  rintro _ _ ⟨x,r,rfl,px,qr⟩ ⟨y,s,rfl,py,qs⟩ hl
  rw [jE] at hl ⊢
  by_cases e:x=y
  ·subst e
   rw [if_pos ((p.eq x x px px).mpr rfl)] at hl ⊢
   exact h.asy r s qr qs hl
  ·rw [if_neg λz=>e ((p.eq x y px py).mp z)] at hl
   rw [if_neg λz=>e ((p.eq y x py px).mp z).symm]
   exact p.asy x y px py hl
 tri:=by
  rintro _ _ ⟨x,r,rfl,px,qr⟩ ⟨y,s,rfl,py,qs⟩ h1 h2
  rw [jE] at h1 h2
  by_cases e:x=y
  ·subst e
   rw [if_pos ((p.eq x x px px).mpr rfl)] at h1 h2
   rw [h.tri r s qr qs h1 h2]
  ·rw [if_neg λz=>e ((p.eq x y px py).mp z)] at h1
   rw [if_neg λz=>e ((p.eq y x py px).mp z).symm] at h2
   exact absurd (p.tri x y px py h1 h2) e
 tra:=by
  rintro _ _ _ ⟨x,r,rfl,px,qr⟩ ⟨y,s,rfl,py,qs⟩ ⟨z,t,rfl,pz,qt⟩ h1 h2
  exact BB p px py pz (h.tra r s t qr qs qt) h1 h2
theorem kO.nil:kO λxs=>xs=[] where
 eq:=by rintro _ _ rfl rfl;simp [cB]
 lt:=by rintro _ _ rfl rfl;rfl
 asy:=by rintro _ _ rfl rfl h;cases h
 tri:=by rintro _ _ rfl rfl _ _;rfl
 tra:=by rintro _ _ _ rfl rfl rfl h;cases h
theorem fV.list (p:fV P):kO λxs=>∀x∈xs,P x where
 eq:=by
  intro xs
  induction xs with
  | nil=>intro ys _ _;cases ys <;> simp [cB]
  | cons x xs ih=>
   intro ys hx hy
   cases ys with
   | nil=>simp [cB]
   | cons y ys=>
    rw [gR,Sf,p.eq x y (hx x Se) (hy y Se),ih ys (λz hz=>hx z (Sd _ hz)) λz hz=>hy z (Sd _ hz)]
    exact ⟨λe=>by rw [e.1,e.2],λe=>by cases e;exact ⟨rfl,rfl⟩⟩
 lt:=by
  intro xs
  induction xs with
  | nil=>intro ys _ _;rfl
  | cons x xs ih=>
   intro ys hx hy
   cases ys with
   | nil=>rfl
   | cons y ys=>
    show (if bu x y=true then kg xs ys else eU x y).isSome=true
    split
    ·exact ih ys (λz hz=>hx z (Sd _ hz)) λz hz=>hy z (Sd _ hz)
    ·exact p.lt x y (hx x Se) (hy y Se)
 asy:=by
  intro xs
  induction xs with
  | nil=>
   intro ys _ _ h
   cases ys with
   | nil=>cases h
   | cons y ys=>rfl
  | cons x xs ih=>
   intro ys hx hy hl
   cases ys with
   | nil=>cases hl
   | cons y ys=>
    have px:=hx x Se
    have py:=hy y Se
    rw [jE] at hl ⊢
    by_cases e:x=y
    ·subst e
     rw [if_pos ((p.eq x x px px).mpr rfl)] at hl ⊢
     exact ih ys (λz hz=>hx z (Sd _ hz)) (λz hz=>hy z (Sd _ hz)) hl
    ·rw [if_neg λz=>e ((p.eq x y px py).mp z)] at hl
     rw [if_neg λz=>e ((p.eq y x py px).mp z).symm]
     exact p.asy x y px py hl
 tri:=by
  intro xs
  induction xs with
  | nil=>
   intro ys _ _ h1 h2
   cases ys with
   | nil=>rfl
   | cons y ys=>cases h1
  | cons x xs ih=>
   intro ys hx hy h1 h2
   cases ys with
   | nil=>cases h2
   | cons y ys=>
    have px:=hx x Se
    have py:=hy y Se
    rw [jE] at h1 h2
    by_cases e:x=y
    ·subst e
     rw [if_pos ((p.eq x x px px).mpr rfl)] at h1 h2
     rw [ih ys (λz hz=>hx z (Sd _ hz)) (λz hz=>hy z (Sd _ hz)) h1 h2]
    ·rw [if_neg λz=>e ((p.eq x y px py).mp z)] at h1
     rw [if_neg λz=>e ((p.eq y x py px).mp z).symm] at h2
     exact absurd (p.tri x y px py h1 h2) e
 tra:=by
  intro xs
  induction xs with
  | nil=>
   intro ys zs _ _ _ h1 h2
   cases ys with
   | nil=>cases h1
   | cons y ys=>
    cases zs with
    | nil=>cases h2
    | cons z zs=>rfl
  | cons x xs ih=>
   intro ys zs hx hy hz h1 h2
   cases ys with
   | nil=>cases h1
   | cons y ys=>
    cases zs with
    | nil=>cases h2
    | cons z zs=>
     have px:=hx x Se
     have py:=hy y Se
     have pz:=hz z Se
     exact BB p px py pz (ih ys zs (λz hz=>hx z (Sd _ hz)) (λz hz=>hy z (Sd _ hz)) λw hw=>hz w (Sd _ hw)) h1 h2
theorem N5:fV λd=>∃k,d=.bl k where
 eq:=by rintro _ _ ⟨x,rfl⟩ ⟨y,rfl⟩;simp [bu]
 lt:=by rintro _ _ ⟨x,rfl⟩ ⟨y,rfl⟩;rfl
 asy:=by rintro _ _ ⟨x,rfl⟩ ⟨y,rfl⟩;revert x y;decide
 tri:=by
  rintro _ _ ⟨x,rfl⟩ ⟨y,rfl⟩ h1 h2
  revert h1 h2
  cases x <;> cases y <;> intro h1 h2
  ·rfl
  ·exact absurd h1 (by decide)
  ·exact absurd h2 (by decide)
  ·rfl
 tra:=by rintro _ _ _ ⟨x,rfl⟩ ⟨y,rfl⟩ ⟨z,rfl⟩;revert x y z;decide
theorem nJ (x y:Int):d9 (.int x) (.int y)=decide (x < y):=rfl
theorem N6:fV λd=>∃k,d=.int k where
 eq:=by rintro _ _ ⟨x,rfl⟩ ⟨y,rfl⟩;simp [bu]
 lt:=by rintro _ _ ⟨x,rfl⟩ ⟨y,rfl⟩;rfl
 asy:=by
  rintro _ _ ⟨x,rfl⟩ ⟨y,rfl⟩ h
  rw [nJ,decide_eq_true_eq] at h
  rw [nJ,decide_eq_false_iff_not]
  omega
 tri:=by
  rintro _ _ ⟨x,rfl⟩ ⟨y,rfl⟩ h1 h2
  rw [nJ,decide_eq_false_iff_not] at h1 h2
  rw [show x=y by omega]
 tra:=by
  rintro _ _ _ ⟨x,rfl⟩ ⟨y,rfl⟩ ⟨z,rfl⟩ h1 h2
  rw [nJ,decide_eq_true_eq] at h1 h2 ⊢
  omega
theorem qT (x y:Str):d9 (.str x) (.str y)=decide (x.cps.toList < y.cps.toList):=rfl
theorem KP {x y:Str}(h:x.cps.toList=y.cps.toList):x=y:=by
 obtain ⟨⟨cx⟩⟩:=x
 obtain ⟨⟨cy⟩⟩:=y
 simp only at h
 rw [h]
theorem N7:fV λd=>∃k,d=.str k where
 eq:=by rintro _ _ ⟨x,rfl⟩ ⟨y,rfl⟩;simp [bu]
 lt:=by rintro _ _ ⟨x,rfl⟩ ⟨y,rfl⟩;rfl
 asy:=by
  rintro _ _ ⟨x,rfl⟩ ⟨y,rfl⟩ h
  rw [qT,decide_eq_true_eq] at h
  rw [qT,decide_eq_false_iff_not]
  exact List.lt_asymm h
 tri:=by
  rintro _ _ ⟨x,rfl⟩ ⟨y,rfl⟩ h1 h2
  rw [qT,decide_eq_false_iff_not] at h1 h2
  rw [KP (aaU h2 h1)]
 tra:=by
  rintro _ _ _ ⟨x,rfl⟩ ⟨y,rfl⟩ ⟨z,rfl⟩ h1 h2
  rw [qT,decide_eq_true_eq] at h1 h2 ⊢
  exact List.lt_trans h1 h2
inductive Fm where
 | b | i | s | hom (t:Fm) | tn | tc (x r:Fm)
noncomputable def iy:Fm->D->Prop
 | .b,d=>∃k,d=.bl k
 | .i,d=>∃k,d=.int k
 | .s,d=>∃k,d=.str k
 | .hom t,d=>∃xs,d=.tup xs/\∀x∈xs,iy t x
 | .tn,d=>∃xs,d=.tup xs/\xs=[]
 | .tc x r,d=>∃xs,d=.tup xs/\∃y ys,xs=y::ys/\iy x y/\iy r (.tup ys)
theorem fV.tail {Q:List D->Prop}(h:fV R) (k:∀xs,Q xs->R (.tup xs)):kO Q where
 eq:=λx y hx hy=>by
  have:=h.eq _ _ (k x hx) (k y hy)
  rw [kI] at this
  rw [this]
  exact ⟨λe=>by cases e;rfl,λe=>e▸rfl⟩
 lt:=λx y hx hy=>h.lt _ _ (k x hx) (k y hy)
 asy:=λx y hx hy=>h.asy _ _ (k x hx) (k y hy)
 tri:=λx y hx hy h1 h2=>by
  have:=h.tri _ _ (k x hx) (k y hy) h1 h2
  cases this;rfl
 tra:=λx y z hx hy hz=>h.tra _ _ _ (k x hx) (k y hy) (k z hz)
theorem eE:∀t:Fm,fV (iy t)
 | .b=>N5
 | .i=>N6
 | .s=>N7
 | .hom t=>(eE t).list.tot
 | .tn=>kO.nil.tot
 | .tc x r=>(kO.cons (eE x) (fV.tail (Q:=λys=>iy r (.tup ys)) (eE r) λ_ h=>h)).tot
noncomputable def sV:Fm->Nat
 | .hom t=>sV t + 1
 | .tc x r=>max (sV x + 1) (sV r)
 | .tn=>1
 | _=>0
theorem zw {n:Nat}:∀{xs:List D},(∀x∈xs,dep x<=n)->deps xs<=n
 | [],_=>SJ _
 | x::xs,h=>by
  have h1:=h x Se
  have h2:=zw (xs:=xs) λy hy=>h y (Sd _ hy)
  simp only [deps]
  omega
theorem yD:∀{t:Fm}{d:D},iy t d->dep d<=sV t
 | .b,_,⟨_,e⟩=>by subst e;exact SJ _
 | .i,_,⟨_,e⟩=>by subst e;exact SJ _
 | .s,_,⟨_,e⟩=>by subst e;exact SJ _
 | .hom t,_,⟨xs,e,h⟩=>by
  subst e
  have:=zw λx hx=>yD (h x hx)
  simp only [dep,sV]
  omega
 | .tn,_,⟨xs,e,h⟩=>by subst e h;exact Sj 1
 | .tc x r,_,⟨xs,e,y,ys,e',h1,h2⟩=>by
  subst e e'
  have h1:=yD h1
  have h2:=yD h2
  simp only [dep,deps,sV] at *
  omega
theorem NU (ds:List D):(bF ds).length=ds.length:=by
 unfold bF
 by_cases h:ds.length < 2
 ·rw [if_pos h]
 ·rw [if_neg h,Sa]
  have:=((jc (n:=ds.length) (by omega)).run (ltB ds)).size_eq
  simpa using this
theorem JN (ds:List D):(Sh ds.length).map (dw ds)=ds:=by
 refine UN (by simp) λi h1 h2=>?_
 rw [U8,X5]
 unfold dw
 rw [Tv,Si h2]
 rfl
theorem gU (ds:List D):(bF ds).Perm ds:=by
 unfold bF
 by_cases h:ds.length < 2
 ·rw [if_pos h]
 ·rw [if_neg h]
  have hp:=(jc (n:=ds.length) (by omega)).run (ltB ds)
  have hq:(bh (ltB ds) (Wc ds.length)).toList.Perm (Sh ds.length):=by
   have:=Array.perm_iff_toList_perm.mp hp
   simpa using this
  have:=hq.map (dw ds)
  rwa [JN] at this
theorem Hy (p:fV P) (ds:List D) (h:∀x∈ds,P x):(bF ds).Pairwise λx y=>d9 y x=false:=by
 unfold bF
 by_cases h2:ds.length < 2
 ·rw [if_pos h2]
  match ds,h2 with
  | [],_=>exact .nil
  | [x],_=>exact Vc _ _
 ·rw [if_neg h2]
  have hn:0 < ds.length:=by omega
  have hb:=jc (n:=ds.length) hn
  have at_P:∀i,i < ds.length->P (dw ds i):=λi hi=>h _ (gQ hi)
  let q':Nat->Nat->Bool:=λi j=>if i < ds.length then (if j < ds.length then ltB ds i j else true) else false
  have hq:bh (ltB ds) (Wc ds.length)=bh q' (Wc ds.length):=Ht hb λi j hi hj=>by simp [q',hi,hj]
  have O:Ord q':=by
   constructor
   ·intro a b hab
    by_cases ha:a < ds.length <;> by_cases hb:b < ds.length <;> simp [q',ha,hb] at hab ⊢
    exact p.asy _ _ (at_P a ha) (at_P b hb) hab
   ·intro a b c hab hbc
    by_cases ha:a < ds.length <;> by_cases hb:b < ds.length <;> by_cases hc:c < ds.length <;> simp [q',ha,hb,hc] at hab hbc ⊢
    have h1:d9 (dw ds b) (dw ds a)=false:=hab
    have h2:d9 (dw ds c) (dw ds b)=false:=hbc
    show d9 (dw ds c) (dw ds a)=false
    cases g:d9 (dw ds c) (dw ds a) with
    | false=>rfl
    | true=>
     have pa:=at_P a ha
     have pb:=at_P b hb
     have pc:=at_P c hc
     cases g2:d9 (dw ds a) (dw ds b) with
     | true=>
      have:=p.tra _ _ _ pc pa pb g g2
      rw [this] at h2;cases h2
     | false=>
      rw [<-p.tri _ _ pb pa h1 g2] at g
      rw [g] at h2;cases h2
  have up:=KI O ds.length (by omega)
  have hs:=(hb.run (ltB ds))
  rw [hq] at hs ⊢
  have hsz:(bh q' (Wc ds.length)).size=ds.length:=by simpa using hs.size_eq
  generalize bh q' (Wc ds.length)=A at *
  rw [S9,T_]
  intro i j hi hj hij
  rw [Sq] at hi hj
  have:=up i j (by omega) (by omega)
  have e:∀k (hk:k < A.size),bG A k=A.toList[k]'(by rw [Sq];exact hk):=λk hk=>by
   show A.getD k 0=_
   simp [UP,hk]
  rw [e i hi,e j hj] at this
  have l:∀k (hk:k < A.size),A.toList[k]'(by rw [Sq];exact hk) < ds.length:=λk hk=>by
   rw [<-e k hk];exact hs.lt hn k
  have li:=l i hi
  have lj:=l j hj
  simp only [q',li,lj,if_true] at this
  exact this
end DL
namespace K52
open PySem DL
end K52
namespace K52
open PySem DL K01 WP K51
variable {P:D->Prop}
end K52
namespace DL
open PySem PySem.Spec PyProof.Rows L2
section
variable {X:Cx}{c:C}{e a b:S4}{es elts:List S4}{pos tp:Pos}{kk:Nat}
noncomputable def sS:R->M (List D)
 | .d (.tup xs)=>.ok xs
 | .d (.lst xs)=>.ok xs
 | _=>.bad
theorem AK {β:Type}{x:R}{k:List D->M β}{Q:β->Prop}{T:Exc->Prop}(w:cA (sS x >>= k) Q T):∃xs,sS x=.ok xs/\cA (k xs) Q T:=by
 cases q:sS x with
 | bad=>rw [q] at w;exact w.elim
 | ok xs=>rw [q] at w;exact ⟨xs,rfl,w⟩
 | exc z=>unfold sS at q;split at q <;> cases q
noncomputable def CH (gs:G (List R)):G (List D):=λenv=>gs env >>= λrs=>match rs with
 | [x,y]=>sS x >>= λxs=>sS y >>= λys=>.ok (aaM (λa b=>.tup [a,b]) xs ys)
 | _=>.bad
theorem Fp {c:C}{He J H:Hp}{x:R}{v:V}{xs:List D}(r:RR c He J H x v) (q:sS x=.ok xs):∃k l us,v=.ref l/\aK c.K J xs us/\ic k c.K J l us:=by
 cases x with
 | l m ys=>cases q
 | mo _ _=>cases q
 | mb _ _=>cases q
 | mf _ _=>cases q
 | d y=>
  cases y with
  | tup ys=>
   cases q
   cases r with
   | tup h1 h2=>exact ⟨"tuple_iterator",_,_,rfl,h2,.inr ⟨rfl,h1⟩⟩
  | lst ys=>
   cases q
   cases r with
   | lst h1 h2=>exact ⟨"list_iterator",_,_,rfl,h2,.inl ⟨rfl,h1⟩⟩
  | _=>cases q
theorem ic.via {k:String}{K:R7}{J H:Hp}{l:Sm}{xs:List V}(h:ic k K J l xs) (s:aT J H):ic k K H l xs:=by
 rcases h with ⟨e,h⟩ | ⟨e,h⟩
 ·exact .inl ⟨e,s.seq h⟩
 ·exact .inr ⟨e,fC s h⟩
theorem F3:b9 X (.type "range") (λxs H Q=>∃j:Int,xs=[.int j]/\∀p,H p=none->Q (.ref p) (upd H p (.rng 0 j))):=by
 intro RX s σ H xs us Q I r h
 obtain ⟨j,rfl,q⟩:=h
 obtain ⟨u,rfl,t,rfl⟩:=vals1 r
 refine call_range_1 ⟨.ref s.heap.objs.size,_,I.laid (λb o e=>Sg _ e) (Sj _) (show cP X.prog X.w _ _ _ (.rng 0 j) from ⟨_,_,_,Sk _ rfl⟩),rfl,q _ (I.hok.fresh (Sj _))⟩
def mq (n:Nat):List V:=(Sh n).map λ(k:Nat)=>V.int k
theorem HH {n:Nat}{acc:Array R8}(h:ItemsOf (λi v=>∃t,v=.int (0 + (i:Int) * 1) t) acc n):Vals (mq n) acc.toList:=by
 have key:∀(us:List R8) (i:Nat),(∀j v,us[j]?=some v->∃t:Tok,v=aa4 ((i + j:Nat):Int) t)->Vals ((List.range' i us.length).map λ(k:Nat)=>V.int k) us:=by
  intro us
  induction us with
  | nil=>exact λi _=>.nil
  | cons u us ih=>
   intro i hj
   obtain ⟨t,e⟩:=hj 0 u rfl
   rw [T6,List.range'_succ,Sw]
   refine .cons ⟨t,by rw [e];rfl⟩ (ih (i + 1) λj v hv=>?_)
   obtain ⟨t,e⟩:=hj (j + 1) v (by simpa using hv)
   exact ⟨t,by rw [e];congr 2;omega⟩
 have e:acc.toList.length=n:=by rw [Sq];exact h.1
 unfold mq
 rw [List.range_eq_range',<-e]
 refine key acc.toList 0 λj v hv=>?_
 obtain ⟨t,q⟩:=h.2 j v (by simpa using hv)
 exact ⟨t,by rw [q];congr 1;omega⟩
theorem yh (hc:X.calm=true):b9 X (.type "list") (λxs H Q=>∃(p:Sm) (j:Int),xs=[.ref p]/\H p=some (.rng 0 j)/\-(2 ^ 24)<=j/\j<=2 ^ 24/\∀l,H l=none->Q (.ref l) (upd H l (.lst (mq j.toNat)))):=by
 intro RX s σ H xs us Q I r h
 obtain ⟨p,j,rfl,hp,h0,h1,q⟩:=h
 obtain ⟨u,rfl,rx⟩:=vals1 r
 cases rx
 obtain ⟨t,u,v,ho⟩:=I.hok p _ hp
 have hn:Ys 0 j 1=(j.toNat:Int):=by rw [ab9];split <;> omega
 refine call_list_range (I.ok.hd hc) ho (small_one (by decide) (by decide) (by omega) (by omega)) hn (by omega) λh' tk acc' c' kp e hi=>?_
 have hv:=HH hi
 refine ⟨.ref s.heap.objs.size,_,I.laid kp (Sj _) (show cP X.prog X.w _ h' _ (.lst (mq j.toNat)) from ⟨?_,acc'.toList,c',hv,e⟩),rfl,q _ (I.hok.fresh (Sj _))⟩
 unfold mq
 rw [Sa,TF]
 show j.toNat<=2 ^ 24
 omega
noncomputable def Ic (gs:G (List R)):G R:=λenv=>gs env >>= λrs=>match rs with
 | [.d (.int j)]=>if below 16777216 j then .ok (.l .fresh (eZ 0 j.toNat)) else .bad
 | _=>.bad
theorem Hq {K:R7}{J:Hp}(n:Nat):aK K J (eZ 0 n) (mq n):=by
 unfold eZ mq
 generalize Sh n=ks
 induction ks with
 | nil=>exact .nil
 | cons k ks ih=>
  rw [Sw,Sw,Int.zero_add]
  exact .cons (.int _) ih
end
end DL
namespace DL
open PySem PySem.Spec PyProof.Rows L2 DX
section
variable {X:Cx}{c:C}{e a:S4}{es:List S4}{ga g:G R}{pos:Pos}{L:List Str}{T:Str->Bool}
theorem Al {b:S4}{elts:List S4}{kk:Nat}{tp p:Pos}{gs:G (List R)}(ha:i8 X c [a,b] gs) (hm:X.mg "zip"=none) (hK:X.K=c.K:=by rfl) (hg:Gl X "zip":=by rfl) (hs:Sl [a,b] X.env=[(false,eval a X.env),(false,eval b X.env)]:=by rfl) (hs2:Sl [b] X.env=[(false,eval b X.env)]:=by rfl):
  t9 X c (.Tuple elts kk tp) (.Call (.Name "zip" p) [a,b] [] pos) (CH gs):=have ha:=ha.h;⟨
 oQ (Mw hg hm ha hs hs2) λσ H Q ⟨J,env,sr,w⟩=>by
  refine ⟨J,env,sr,aE (aI w) λrs wr vs J1 H1 e1 r1=>?_⟩
  split at wr
  ·obtain ⟨v,v2,rfl,r,r2⟩:=r1.two
   obtain ⟨xs,q1,wr⟩:=AK wr
   obtain ⟨ys,q2,wr⟩:=AK wr
   have hp1:=sr.hp.ext e1
   obtain ⟨k1,l1,us1,rfl,a1,s1⟩:=Fp r q1
   obtain ⟨k2,l2,us2,rfl,a2,s2⟩:=Fp r2 q2
   refine ⟨k1,l1,us1,k2,l2,us2,rfl,by rw [hK];exact s1.via hp1.sub,by rw [hK];exact s2.via hp1.sub,?_⟩
   rw [hK]
   refine wr _ J1 H1 e1 λi J' H' hp u=>?_
   have t1:=(s1.via u).via hp.sub
   have t2:=(s2.via u).via hp.sub
   refine ⟨λhl=>⟨us1,us2,t1,t2,?_⟩,λd hd=>?_⟩
   ·rw [List.length_zipWith,a1.length,a2.length] at hl
    omega
   ·obtain ⟨x,y,ux,uy,rfl,b1,b2,c1,c2⟩:=Hr a1 a2 hd
    refine ⟨⟨us1,us2,ux,uy,t1,t2,b1,b2⟩,λz H2 ⟨q,hq,e,hy⟩=>?_⟩
    have:=hy us1 us2 ux uy t1 t2 b1 b2
    subst this e
    have s':aT J' (upd J' q (.tup [ux,uy])):=cO (hp.sub.free hq) _
    exact ⟨_,Ext.newJ hp.sub hq _,.tup (.inl (.inl bU)) (.cons ((c1.mono u).mono s') (.cons ((c2.mono u).mono s') .nil))⟩
  ·exact wr.elim⟩
theorem Dj {p p2 pos2:Pos}{gs:G (List R)}(ha:i8 X c [a] gs) (hm:X.mg "range"=none) (hm2:X.mg "list"=none) (hc:X.calm=true:=by rfl) (hK:X.K=c.K:=by rfl) (hg:Gl X "range":=by rfl) (QH:Gl X "list":=by rfl)
  (hs:Sl [a] X.env=(false,eval a X.env)::Sl [] X.env:=by rfl) (hs0:(UL pos (Sl [] X.env)).any (·.1)=false:=by rfl) (hs2:Sl [adA (.Name "range" p) [a] [] pos] X.env=(false,eval (adA (.Name "range" p) [a] [] pos) X.env)::Sl [] X.env:=by rfl) (RI:(UL pos2 (Sl [] X.env)).any (·.1)=false:=by rfl):
  QD X c (.Call (.Name "list" p2) [.Call (.Name "range" p) [a] [] pos] [] pos2) (Ic gs):=by
 have ha:=ha.h
 refine ⟨?_⟩
 have h1:=mz (p:=p) (pos:=pos) F3 hg hm abW ha (by decide) (by decide) hs hs0
 have h2:=mz (p:=p2) (pos:=pos2) (yh hc) QH hm2 Cs (fc h1 ig hs2) (by decide) (by decide) hs2 RI
 refine eW h2 λσ H Q ⟨J,env,sr,w⟩=>?_
 refine ⟨J,env,sr,aE (aI w) λrs wr vs J1 H1 e1 r1=>?_⟩
 split at wr
 ·rename_i j
  obtain ⟨v,rfl,r⟩:=r1.one
  cases r
  split at wr
  ·rename_i hb
   obtain ⟨b1,b2⟩:=dD.mp hb
   refine ⟨j,rfl,λq hq=>?_⟩
   refine ⟨q,j,rfl,bU,by omega,by omega,λl hl=>?_⟩
   have hp1:=sr.hp.ext e1
   have e2:=Ext.new hp1.sub hq (.rng 0 j)
   have hp2:=hp1.ext e2
   have hr:RR c H1 J1 (upd (upd H1 q (.rng 0 j)) l (.lst (mq j.toNat))) (.l .fresh (eZ 0 j.toNat)) (.ref l):=by
    obtain ⟨a,us,x1,x2,x3,x4,x5⟩:=jk (c:=c) hp2 hl (Hq j.toNat)
    exact ⟨a,us,x1,x2,x3,e2.h.free x4,x5⟩
   exact wr _ _ _ ((e1.trans e2).trans (Ext.new hp2.sub hl _)) (by
    obtain ⟨a,us,x1,x2,x3,x4,x5⟩:=hr
    exact ⟨a,us,x1,x2,x3,e1.h.free x4,x5⟩)
  ·exact wr.elim
 ·exact wr.elim
end
end DL
namespace DL
open PySem PySem.Spec PyProof.Rows L2
end DL
namespace DL
open PySem PySem.Spec PyProof.Rows L2 DX
open PySem.W (KasT kas_sort kas_ask)
section
variable {X:Cx}{c:C}{e:S4}{es:List S4}{pos:Pos}
noncomputable def nv:List R->M R
 | [r]=>iM r >>= λxs=>if xy xs=true then .ok (.l .fresh (bF xs)) else if sC xs=true then .ok (.l .fresh (bF xs)) else .bad
 | _=>.bad
theorem b9.or {f:R8}{r1 r2:List V->Hp->VK->Prop}(h1:b9 X f r1) (h2:b9 X f r2):b9 X f (λxs H Q=>r1 xs H Q\/r2 xs H Q):=λRX s σ H xs us Q I rv h=>h.elim (h1 RX s σ H xs us Q I rv) (h2 RX s σ H xs us Q I rv)
theorem xC {p:Pos}{gs:G (List R)}(hu:X.A.units + 64 < Uu) (ha:i8 X c (e::es) gs) (hm:X.mg "sorted"=none) (hK:X.K=c.K:=by rfl) (hg:Gl X "sorted":=by rfl)
  (he:Sl (e::es) X.env=(false,eval e X.env)::Sl es X.env:=by rfl) (hpl:(UL pos (Sl es X.env)).any (·.1)=false:=by rfl):QD X c (.Call (.Name "sorted" p) (e::es) [] pos) (gN nv gs):=have ha:=ha.h;⟨
 jG (zl hu) (by
  intro He J H xs vs Q hp rs w
  unfold nv at w
  split at w
  ·obtain ⟨v,rfl,r⟩:=rs.one
   obtain ⟨xs,q,w⟩:=kL w
   obtain ⟨p,vs,rfl,h1,h2⟩:=nj hp r q
   rw [hK]
   split at w
   ·rename_i ok
    exact ⟨p,vs,xs,rfl,h1,h2.mono hp.sub,.inl ok,λl vs' hl rr=>w _ _ _ (Ext.new hp.sub hl _) (jk hp hl (rr _ h2))⟩
   ·split at w
    ·rename_i ok
     exact ⟨p,vs,xs,rfl,h1,h2.mono hp.sub,.inr ok,λl vs' hl rr=>w _ _ _ (Ext.new hp.sub hl _) (jk hp hl (rr _ h2))⟩
    ·exact w.elim
  ·exact w.elim) kQ hm ha hg (by decide) (by decide) he hpl⟩
end
end DL
namespace DL
open PySem PySem.Spec PyProof.Rows L2 DX
section
variable {X:Cx}{c:C}{e:S4}{es:List S4}{pos:Pos}
theorem any_range (ks:List Bool):(Sh ks.length).any (λi=>ks.getD i false)=ks.any id:=by
 induction ks with
 | nil=>rfl
 | cons k r ih=>
  rw [T6,WY,WK,Zb,WK]
  simp only [ZN]
  rw [<-ih]
  rfl
theorem DZ (hc:X.calm=true):b9 X (.builtin "any") (λxs H Q=>∃(p:Sm) (ks:List Bool),xs=[.ref p]/\cK X.K H p (ks.map V.bl)/\Q (.bl (ks.any id)) H):=by
 intro RX s σ H xs us Q I r h
 obtain ⟨p,ks,rfl,hq,q⟩:=h
 obtain ⟨u,rfl,rx⟩:=vals1 r
 cases rx
 obtain ⟨RY,r',pl,hz⟩:=I.list hq
 have hi:=tH r'
 subst hi
 have Q_:p≠s.heap.objs.size:=by
  obtain ⟨o,h1,_⟩:=pl.isList
  exact SY (Sz h1)
 refine call_any_walk (W3 pl.isList ⟨s.heap.objs.size,_,_,_,_,_,(λi=>ks.getD i false),rfl,ado (A:=X.A.in1) (show X.A.in1.handled=none from I.ok.hd hc) s.heap.objs.size p Q_ (ks.map VD).toArray,⟨⟨_,Sk _ rfl,rfl,rfl⟩,YL pl.isList _⟩,?_,λh' tk k=>?_⟩)
 ·intro i v s' Q' E' hP hQ
  have e:∃k,ks[i]?=some k/\v=.bool k:=by
   have hP':(ks.map VD)[i]?=some v:=by simpa using hP
   rw [Sv] at hP'
   cases z:ks[i]? with
   | none=>rw [z] at hP';cases hP'
   | some k=>rw [z] at hP';cases hP';exact ⟨k,rfl,rfl⟩
  obtain ⟨k,e1,rfl⟩:=e
  simp only at hQ
  rw [Tv,e1] at hQ
  exact TN hQ
 ·have sz:(ks.map VD).toArray.size=ks.length:=by simp
  rw [sz,any_range]
  refine ⟨.bl (ks.any id),H,?_,rfl,q⟩
  refine I.kept λb o e=>k b o (λz=>?_) (Sg _ e)
  have:b=s.heap.objs.size:=by simpa using z
  exact absurd (this▸Sz e) (Us _)
noncomputable def zD:List R->M R
 | [r]=>kP r >>= λxs=>match jN xs with
  | some ks=>.ok (.d (.bl (ks.any id)))
  | none=>.bad
 | _=>.bad
theorem DV:TX "any"=some (.builtin "any"):=by decide +kernel
theorem Ko {p:Pos}{gs:G (List R)}(ha:i8 X c (e::es) gs) (hm:X.mg "any"=none) (hK:X.K=c.K:=by rfl) (hc:X.calm=true:=by rfl) (hg:Gl X "any":=by rfl)
  (he:Sl (e::es) X.env=(false,eval e X.env)::Sl es X.env:=by rfl) (hpl:(UL pos (Sl es X.env)).any (·.1)=false:=by rfl):QD X c (.Call (.Name "any" p) (e::es) [] pos) (gN zD gs):=have ha:=ha.h;⟨
 jG (DZ hc) (by
  intro He J H xs vs Q hp rs w
  unfold zD at w
  split at w
  ·obtain ⟨v,rfl,r⟩:=rs.one
   obtain ⟨xs,q,w⟩:=rD w
   obtain ⟨p,vs,rfl,h1,h2⟩:=RR.list hp r q
   split at w
   ·rename_i ks z
    have:=pW z h2
    subst this
    exact ⟨p,ks,rfl,by rw [hK];exact h1,w _ J H (Ext.refl hp.sub) (.bl _)⟩
   ·exact w.elim
  ·exact w.elim) DV hm ha hg (by decide) (by decide) he hpl⟩
end
end DL
namespace ST
open PySem PySem.SetTable
theorem vW (xs:Array Nat) (j:Nat) (hs:xs.toList.Pairwise (· < ·)):∀(f lo hi:Nat),hi<=xs.size->lo<=hi->hi - lo<=f->(∀i,i < lo->xs.getD i 0 < j)->(∀i,hi<=i->i < xs.size->j<=xs.getD i 0)->
  below.go xs j f lo hi<=xs.size/\(∀i,i < below.go xs j f lo hi->xs.getD i 0 < j)/\∀i,below.go xs j f lo hi<=i->i < xs.size->j<=xs.getD i 0
 | 0,lo,hi,h1,h2,h3,h4,h5=>by
  have:lo=hi:=by omega
  subst this
  exact ⟨h1,h4,h5⟩
 | f + 1,lo,hi,h1,h2,h3,h4,h5=>by
  have mono:∀a b,a<=b->b < xs.size->xs.getD a 0<=xs.getD b 0:=λa b hab hb=>by
   rcases aah hab with h | h
   ·have:=T_.mp hs a b (by simpa using V6 h hb) (by simpa using hb) h
    simp [UP,V6 h hb,hb] at this ⊢
    omega
   ·rw [h];exact Sj _
  unfold below.go
  by_cases c:lo < hi
  ·rw [if_pos c]
   have hm:(lo + hi) / 2 < xs.size:=by omega
   have e:xs.getD ((lo + hi) / 2) j=xs.getD ((lo + hi) / 2) 0:=by simp [UP,hm]
   by_cases d:xs.getD ((lo + hi) / 2) j < j
   ·simp only [d,if_true]
    rw [e] at d
    exact vW xs j hs f _ hi h1 (by omega) (by omega) (λi hi'=>aaf (mono i ((lo + hi) / 2) (by omega) hm) d) h5
   ·simp only [d,if_false]
    rw [e] at d
    exact vW xs j hs f lo _ (by omega) (by omega) (by omega) h4 (λi hi' hs'=>S7 (by omega) (mono ((lo + hi) / 2) i hi' hs'))
  ·rw [if_neg c]
   have:lo=hi:=by omega
   subst this
   exact ⟨h1,h4,h5⟩
theorem n_ (xs:Array Nat) (j:Nat) (hs:xs.toList.Pairwise (· < ·)):below xs j<=xs.size/\(∀i,i < below xs j->xs.getD i 0 < j)/\∀i,below xs j<=i->i < xs.size->j<=xs.getD i 0:=
 vW xs j hs xs.size 0 xs.size (Sj _) (SJ _) (by omega) (λi h=>absurd h (TR _)) (λi h1 h2=>by omega)
theorem below_at {xs:Array Nat}{i j:Nat}(hs:xs.toList.Pairwise (· < ·)) (h:xs[i]?=some j):below xs j=i:=by
 obtain ⟨hi,e⟩:=TZ.mp h
 obtain ⟨b1,b2,b3⟩:=n_ xs j hs
 have g:xs.getD i 0=j:=by simp [UP,hi,e]
 rcases We (below xs j) i with c | c | c
 ·have h1:=b3 (below xs j) (Sj _) (by omega)
  have:=T_.mp hs (below xs j) i (by simpa using V6 c hi) (by simpa using hi) c
  simp [UP,V6 c hi] at h1
  simp at this
  omega
 ·exact c
 ·have:=b2 i c
  omega
theorem qD {t:TV}{i j:Nat}(hs:t.place.toList.Pairwise (· < ·)) (h:t.place[i]?=some j):t.slot j=.live i:=by
 unfold slot
 rw [below_at hs h]
 show (if (t.place[i]? == some j)=true then Slot.live i else _)=_
 rw [h]
 simp
theorem vh {t:TV}{j:Nat}(hd:t.dummies=#[]) (h:j∉t.place.toList):t.slot j=.empty:=by
 unfold slot
 have h1:(t.place[below t.place j]? == some j)=false:=by
  rw [beq_eq_false_iff_ne]
  intro z
  exact h (by
   obtain ⟨hi,e⟩:=TZ.mp z
   rw [<-e]
   simp)
 have h2:has t.dummies j=false:=by rw [hd];rfl
 simp only [h1,h2,SD,if_false]
noncomputable def st (mask:Nat) (h:Int):Nat->Probe
 | 0=>({mask:=mask,place:=#[],dummies:=#[],finger:=0,led:=true,moves:=0,plain:=true}:TV).probeStart h
 | n + 1=>({mask:=mask,place:=#[],dummies:=#[],finger:=0,led:=true,moves:=0,plain:=true}:TV).advance (st mask h n)
abbrev pos (mask:Nat) (h:Int) (n:Nat):Nat:=(st mask h n).j
theorem oZ (mask:Nat) (h:Int):∀n,(st mask h n).dummy=none
 | 0=>rfl
 | n + 1=>by
  unfold st advance
  split
  ·exact oZ mask h n
  ·exact oZ mask h n
noncomputable def tn (mask:Nat) (h:Int):Nat->Nat×Nat
 | 0=>(bits h % (mask + 1),bits h)
 | k + 1=>leap mask (tn mask h k).1 (tn mask h k).2
theorem xN (mask:Nat) (h:Int):∀(m n:Nat) (i p j:Nat),st mask h n={j:=j,more:=m,i:=i,perturb:=p,dummy:=none}->st mask h (n + m)={j:=j + m,more:=0,i:=i,perturb:=p,dummy:=none}
 | 0,n,i,p,j,e=>e
 | m + 1,n,i,p,j,e=>by
  have e1:st mask h (n + 1)={j:=j + 1,more:=m,i:=i,perturb:=p,dummy:=none}:=by
   show advance _ (st mask h n)=_
   rw [e]
   unfold advance
   simp
  have:=xN mask h m (n + 1) i p (j + 1) e1
  rw [show n + (m + 1)=n + 1 + m by omega,this]
  congr 1;omega
theorem BX (mask:Nat) (h:Int):∀k,∃n,n<=10 * k/\st mask h n={j:=(tn mask h k).1,more:=runEnd mask (tn mask h k).1 - (tn mask h k).1,i:=(tn mask h k).1,perturb:=(tn mask h k).2,dummy:=none}
 | 0=>⟨0,Sj _,rfl⟩
 | k + 1=>by
  obtain ⟨n,hn,e⟩:=BX mask h k
  have hm:runEnd mask (tn mask h k).1 - (tn mask h k).1<=9:=by unfold runEnd;split <;> omega
  have:=xN mask h _ n _ _ _ e
  refine ⟨n + (runEnd mask (tn mask h k).1 - (tn mask h k).1) + 1,by omega,?_⟩
  show advance _ (st mask h (n + (runEnd mask (tn mask h k).1 - (tn mask h k).1)))=_
  rw [this]
  unfold advance
  simp
  exact ⟨rfl,rfl,rfl,rfl⟩
theorem vp (mask:Nat) (h:Int):∀k,(tn mask h k).2=bits h / 32 ^ k
 | 0=>by simp [tn]
 | k + 1=>by
  show (tn mask h k).2 / 32=_
  rw [vp mask h k,YT,Zc]
theorem Jb (h:Int):bits h < 2 ^ 64:=by
 unfold bits
 have:=U4 h (b:=2 ^ 64) (by decide)
 omega
def EH (mask i:Nat):Nat:=(i * 5 + 1) % (mask + 1)
noncomputable def g9 (mask:Nat):Nat->Nat->Nat
 | 0,i=>i
 | r + 1,i=>EH mask (g9 mask r i)
theorem AE (mask:Nat) (h:Int):∀r,(tn mask h (12 + r)).1=g9 mask r (tn mask h 12).1
 | 0=>rfl
 | r + 1=>by
  show (leap mask (tn mask h (12 + r)).1 (tn mask h (12 + r)).2).1=EH mask (g9 mask r (tn mask h 12).1)
  rw [<-AE mask h r,vp]
  unfold leap EH
  have:bits h / 32 ^ (12 + r) / 32=0:=by
   rw [YT,<-Zc]
   refine Nat.div_eq_of_lt (SG (Jb h) ?_)
   refine S7 (show 2 ^ 64<=32 ^ 13 by decide) (UK (by decide) (by omega))
  rw [this]
theorem OD:∀i:Fin 8,∀j:Fin 8,(Sh 8).any (λr=>g9 7 r i.val == j.val)=true:=by decide +kernel
theorem Nk:∀i:Fin 32,∀j:Fin 32,(Sh 32).any (λr=>g9 31 r i.val == j.val)=true:=by decide +kernel
def Lp:List Nat:=(Sh 128).map λr=>g9 127 r 0
theorem Bo:∀j:Fin 128,Lp.contains j.val=true:=by decide +kernel
theorem Jf:g9 127 128 0=0:=by decide +kernel
theorem oG (mask:Nat):∀a b i,g9 mask (a + b) i=g9 mask a (g9 mask b i)
 | 0,b,i=>by rw [aaP];rfl
 | a + 1,b,i=>by
  rw [show a + 1 + b=(a + b) + 1 by omega]
  show EH mask (g9 mask (a + b) i)=EH mask (g9 mask a (g9 mask b i))
  rw [oG mask a b i]
def lM (mask:Nat):Prop:=mask=7\/mask=31\/mask=127
theorem Eg {mask:Nat}(hm:lM mask) (i j:Nat) (hi:i<=mask) (hj:j<=mask):∃r,r<=mask/\g9 mask r i=j:=by
 rcases hm with rfl | rfl | rfl
 ·have:=OD ⟨i,by omega⟩ ⟨j,by omega⟩
  rw [U7] at this
  obtain ⟨r,h1,h2⟩:=this
  exact ⟨r,by have:=Sy.mp h1;omega,by simpa using h2⟩
 ·have:=Nk ⟨i,by omega⟩ ⟨j,by omega⟩
  rw [U7] at this
  obtain ⟨r,h1,h2⟩:=this
  exact ⟨r,by have:=Sy.mp h1;omega,by simpa using h2⟩
 ·have hi':=Bo ⟨i,by omega⟩
  have hj':=Bo ⟨j,by omega⟩
  rw [List.contains_iff_mem] at hi' hj'
  obtain ⟨a,ha,ea⟩:=Sb.mp hi'
  obtain ⟨b,hb,eb⟩:=Sb.mp hj'
  have ha:=Sy.mp ha
  have hb:=Sy.mp hb
  have ea:g9 127 a 0=i:=ea
  have eb:g9 127 b 0=j:=eb
  by_cases c:a<=b
  ·refine ⟨b - a,by omega,?_⟩
   rw [<-ea,<-oG,show b - a + a=b by omega]
   exact eb
  ·refine ⟨128 + b - a,by omega,?_⟩
   rw [<-ea,<-oG,show 128 + b - a + a=b + 128 by omega,oG,Jf]
   exact eb
theorem Du (mask:Nat) (h:Int) (k:Nat):(tn mask h k).1<=mask:=by
 cases k with
 | zero=>exact Wf (Yh _ (by omega))
 | succ k=>exact Wf (Yh _ (by omega))
theorem visits {mask:Nat}(hm:lM mask) (h:Int) (j:Nat) (hj:j<=mask):∃n,n<=10 * (mask + 12)/\pos mask h n=j:=by
 obtain ⟨r,hr,e⟩:=Eg hm (tn mask h 12).1 j (Du mask h 12) hj
 obtain ⟨n,hn,q⟩:=BX mask h (12 + r)
 refine ⟨n,by omega,?_⟩
 show (st mask h n).j=j
 rw [q]
 show (tn mask h (12 + r)).1=j
 rw [AE,e]
theorem uz {mask:Nat}(hm:lM mask) (h:Int) (P:List Nat) (hP:P.length<=mask):∃n,n<=10 * (mask + 12)/\pos mask h n∉P/\∀m,m < n->pos mask h m∈P:=by
 have ex:∃j,j<=mask/\j∉P:=by
  by_cases c:∀j,j<=mask->j∈P
  ·exfalso
   have:(Sh (mask + 1)).length<=P.length:=SH Uw λj hj=>c j (by have:=Sy.mp hj;omega)
   rw [TF] at this
   omega
  ·exact Ua λz=>c λj hj=>Ua λy=>z ⟨j,hj,y⟩
 obtain ⟨j,hj,hn⟩:=ex
 obtain ⟨n,hn1,hn2⟩:=visits hm h j hj
 have key:∀k,k<=n->(∃m,m<=k/\pos mask h m∉P/\∀m',m' < m->pos mask h m'∈P)\/∀m,m<=k->pos mask h m∈P:=by
  intro k
  induction k with
  | zero=>
   intro _
   by_cases c:pos mask h 0∈P
   ·exact .inr λm hm=>by rw [show m=0 by omega];exact c
   ·exact .inl ⟨0,Sj _,c,λm' h'=>absurd h' (TR _)⟩
  | succ k ih=>
   intro hk
   rcases ih (by omega) with ⟨m,h1,h2⟩ | h1
   ·exact .inl ⟨m,by omega,h2⟩
   ·by_cases c:pos mask h (k + 1)∈P
    ·exact .inr λm hm=>by
      by_cases d:m<=k
      ·exact h1 m d
      ·rw [show m=k + 1 by omega];exact c
    ·exact .inl ⟨k + 1,Sj _,c,λm' h'=>h1 m' (by omega)⟩
 rcases key n (Sj _) with ⟨m,h1,h2,h3⟩ | h1
 ·exact ⟨m,by omega,h2,h3⟩
 ·exact absurd (h1 n (Sj _)) (by rw [hn2];exact hn)
def Reach (mask:Nat) (P:List Nat) (h:Int) (j:Nat):Prop:=∃n,pos mask h n=j/\∀m,m < n->pos mask h m∈P
theorem Reach.mono {mask:Nat}{P P':List Nat}{h:Int}{j:Nat}(r:Reach mask P h j) (s:∀x∈P,x∈P'):Reach mask P' h j:=
 let ⟨n,h1,h2⟩:=r;⟨n,h1,λm hm=>s _ (h2 m hm)⟩
structure Tab (t:TV) (es:Array (Int×R8)) (L:List (Nat×Int×R8)):Prop where
 dm:t.dummies=#[]
 pl:t.place.toList=L.map (·.1)
 en:es.toList=L.map (·.2)
 so:(L.map (·.1)).Pairwise (· < ·)
 bd:∀e∈L,e.1<=t.mask
 mo:lM t.mask
 fl:L.length<=t.mask
 pr:∀e∈L,Reach t.mask (L.map (·.1)) e.2.1 e.1
section
variable {t:TV}{es:Array (Int×R8)}{L:List (Nat×Int×R8)}
theorem Tab.at_ (T:Tab t es L){i:Nat}{e:Nat×Int×R8}(h:L[i]?=some e):t.place[i]?=some e.1/\es[i]?=some e.2:=by
 constructor
 ·rw [<-Uh,T.pl,Sv,h];rfl
 ·rw [<-Uh,T.en,Sv,h];rfl
theorem Tab.sop (T:Tab t es L):t.place.toList.Pairwise (· < ·):=by rw [T.pl];exact T.so
theorem Ah (T:Tab t es L) (hashAt:Nat->Int) (hA:∀i e,es[i]?=some e->hashAt i=e.1) (h:Int) (n0:Nat) (hf:pos t.mask h n0∉L.map (·.1)) (hb:∀m,m < n0->pos t.mask h m∈L.map (·.1)):
  ∀(d n F:Nat),n0 - n=d->n<=n0->d < F->∃m,n<=m/\m<=n0/\(∀k,n<=k->k < m->∀e∈L,e.1=pos t.mask h k->e.2.1≠h)/\
   ((m=n0/\probe.go t hashAt h F (st t.mask h n)=some (.empty (pos t.mask h n0) none))\/(m < n0/\∃i e,L[i]?=some e/\e.1=pos t.mask h m/\e.2.1=h/\probe.go t hashAt h F (st t.mask h n)=some (.candidate (pos t.mask h m) i (st t.mask h (m + 1)))))
 | d,n,0,_,_,h=>absurd h (TR _)
 | d,n,F + 1,hd,hn,hF=>by
  by_cases c:n=n0
  ·subst c
   refine ⟨n,Sj _,Sj _,λk h1 h2=>by omega,.inl ⟨rfl,?_⟩⟩
   unfold probe.go
   rw [vh T.dm (by rw [T.pl];exact hf)]
   show some (Met.empty _ (st t.mask h n).dummy)=_
   rw [oZ]
  ·obtain ⟨e,he,ej⟩:=Sb.mp (hb n (by omega))
   obtain ⟨i,hi,rfl⟩:=TL.mp he
   have hL:L[i]?=some L[i]:=Si hi
   obtain ⟨p1,p2⟩:=T.at_ hL
   have hs:t.slot (pos t.mask h n)=.live i:=qD T.sop (by rw [p1,ej])
   have hh:=hA i _ p2
   have uniq:∀e∈L,e.1=pos t.mask h n->e=L[i]:=λe he q=>by
    obtain ⟨k,hk,rfl⟩:=TL.mp he
    have:k=i:=by
     have sw:=T_.mp T.so
     rcases We k i with c | c | c
     ·have:=sw k i (by simpa using hk) (by simpa using hi) c
      simp at this
      omega
     ·exact c
     ·have:=sw i k (by simpa using hi) (by simpa using hk) c
      simp at this
      omega
    subst this;rfl
   by_cases q:L[i].2.1=h
   ·refine ⟨n,Sj _,by omega,λk h1 h2=>by omega,.inr ⟨by omega,i,L[i],hL,ej,q,?_⟩⟩
    unfold probe.go
    rw [hs]
    show (if (hashAt i == h)=true then _ else _)=_
    rw [hh,q,if_pos (by simp)]
    rfl
   ·obtain ⟨m,m1,m2,m3,m4⟩:=Ah T hashAt hA h n0 hf hb (n0 - (n + 1)) (n + 1) F rfl (by omega) (by omega)
    have eg:probe.go t hashAt h (F + 1) (st t.mask h n)=probe.go t hashAt h F (st t.mask h (n + 1)):=by
     rw [probe.go,hs]
     show (if (hashAt i == h)=true then _ else _)=_
     rw [hh,if_neg (by simpa using q)]
     rfl
    rw [eg]
    refine ⟨m,by omega,m2,λk h1 h2 e he' ek=>?_,m4⟩
    by_cases z:k=n
    ·subst z
     rw [uniq e he' ek];exact q
    ·exact m3 k (by omega) h2 e he' ek
theorem pC {α:Type}(xs:Array α) (p:Nat) (x:α) (hp:p<=xs.size):(insertAt xs p x).toList=xs.toList.take p++x::xs.toList.drop p:=by
 unfold insertAt
 simp
 (exact YU (by simp))
theorem Tab.put (T:Tab t es L) (h:Int) (x:R8) (n0:Nat) (hf:pos t.mask h n0∉L.map (·.1)) (hb:∀m,m < n0->pos t.mask h m∈L.map (·.1)) (hj:pos t.mask h n0<=t.mask) (hl:L.length + 1<=t.mask):
  ∃L',Tab (t.put (pos t.mask h n0)).1 (insertAt es (t.put (pos t.mask h n0)).2 (h,x)) L'/\L'.Perm ((pos t.mask h n0,h,x)::L):=by
 obtain ⟨b1,b2,b3⟩:=n_ t.place (pos t.mask h n0) T.sop
 generalize hp:below t.place (pos t.mask h n0)=p at b1 b2 b3
 have hsz:t.place.size=L.length:=by rw [<-Sq,T.pl,Sa]
 have hes:es.size=L.length:=by rw [<-Sq,T.en,Sa]
 have perm:(L.take p++(pos t.mask h n0,h,x)::L.drop p).Perm ((pos t.mask h n0,h,x)::L):=by
  have:=YM (a:=(pos t.mask h n0,h,x)) (l₁:=L.take p) (l₂:=L.drop p)
  rwa [V8] at this
 have e1:(t.put (pos t.mask h n0))=({t with place:=insertAt t.place p (pos t.mask h n0),dummies:=#[]},p):=by
  unfold SetTable.put
  rw [hp,T.dm]
  rfl
 rw [e1]
 have getP:∀i (hi:i < L.length),t.place.getD i 0=L[i].1:=λi hi=>by
  have:=(T.at_ (Si hi)).1
  have hi':i < t.place.size:=by omega
  simp [UP,hi']
  rw [Vz hi'] at this
  exact Tf this
 refine ⟨L.take p++(pos t.mask h n0,h,x)::L.drop p,⟨rfl,?_,?_,?_,λe he=>?_,T.mo,?_,λe he=>?_⟩,perm⟩
 ·show (insertAt t.place p (pos t.mask h n0)).toList=_
  rw [pC _ _ _ b1,T.pl]
  simp [Xv,Xw]
 ·show (insertAt es p (h,x)).toList=_
  rw [pC _ _ _ (by omega),T.en]
  simp [Xv,Xw]
 ·rw [SM,Sw,VB]
  refine ⟨?_,?_,?_⟩
  ·rw [Xv]
   exact T.so.sublist (aap _ _)
  ·rw [U3]
   refine ⟨λa ha=>?_,?_⟩
   ·obtain ⟨e,he,rfl⟩:=Sb.mp ha
    obtain ⟨i,hi,rfl⟩:=TL.mp he
    rw [aaF]
    rw [V0] at hi
    have:=b3 (p + i) (by omega) (by omega)
    rw [getP _ (by omega)] at this
    rcases aah this with c | c
    ·exact c
    ·exact absurd (Sb.mpr ⟨L[p + i],SK _,c.symm⟩) hf
   ·rw [Xw]
    exact T.so.sublist (List.drop_sublist _ _)
  ·intro a ha b hb
   obtain ⟨e,he,rfl⟩:=Sb.mp ha
   obtain ⟨i,hi,rfl⟩:=TL.mp he
   rw [List.getElem_take]
   rw [Vm] at hi
   have h1:=b2 i (by omega)
   rw [getP _ (by omega)] at h1
   (rcases Sn.mp hb with rfl | hb)
   ·exact h1
   ·obtain ⟨e,he,rfl⟩:=Sb.mp hb
    obtain ⟨k,hk,rfl⟩:=TL.mp he
    rw [aaF]
    rw [V0] at hk
    have:=b3 (p + k) (by omega) (by omega)
    rw [getP _ (by omega)] at this
    omega
 ·rcases Sn.mp (perm.mem_iff.mp he) with rfl | he
  ·exact hj
  ·exact T.bd e he
 ·rw [perm.length_eq];exact hl
 ·have sub:∀y∈L.map (·.1),y∈(L.take p++(pos t.mask h n0,h,x)::L.drop p).map (·.1):=λy hy=>by
   obtain ⟨e,he,rfl⟩:=Sb.mp hy
   exact Sb.mpr ⟨e,perm.mem_iff.mpr (Sd _ he),rfl⟩
  rcases Sn.mp (perm.mem_iff.mp he) with rfl | he
  ·exact ⟨n0,rfl,λm hm=>sub _ (hb m hm)⟩
  ·exact (T.pr e he).mono sub
end
theorem nQ (mask:Nat) (h:Int) (n i p m:Nat) (e:st mask h n={j:=i,more:=m,i:=i,perturb:=p,dummy:=none}):∀r,r<=m->st mask h (n + r)={j:=i + r,more:=m - r,i:=i,perturb:=p,dummy:=none}
 | 0,_=>e
 | r + 1,hr=>by
  show advance _ (st mask h (n + r))=_
  rw [nQ mask h n i p m e r (by omega)]
  unfold advance
  rw [if_pos (by show m - r > 0;omega)]
  show Probe.mk _ _ _ _ _=_
  congr 1
theorem FE (mask:Nat) (h:Int) (k n:Nat) (e:st mask h n={j:=(tn mask h k).1,more:=runEnd mask (tn mask h k).1 - (tn mask h k).1,i:=(tn mask h k).1,perturb:=(tn mask h k).2,dummy:=none}):
  st mask h (n + (runEnd mask (tn mask h k).1 - (tn mask h k).1) + 1)={j:=(tn mask h (k + 1)).1,more:=runEnd mask (tn mask h (k + 1)).1 - (tn mask h (k + 1)).1,i:=(tn mask h (k + 1)).1,perturb:=(tn mask h (k + 1)).2,dummy:=none}:=by
 show advance _ (st mask h (n + (runEnd mask (tn mask h k).1 - (tn mask h k).1)))=_
 rw [nQ mask h n _ _ _ e _ (Sj _)]
 unfold advance
 simp
 exact ⟨rfl,rfl,rfl,rfl⟩
theorem xg (mask:Nat) (h:Int) (owner:Array (Option Nat)) (G:List Nat) (ho:∀j,j<=mask->((owner.getD j (some 0)).isNone=true↔j∉G)):
  ∀(f k n:Nat),st mask h n={j:=(tn mask h k).1,more:=runEnd mask (tn mask h k).1 - (tn mask h k).1,i:=(tn mask h k).1,perturb:=(tn mask h k).2,dummy:=none}->(∀m,m < n->pos mask h m∈G)->
   (∃n',layClean.free mask owner f (tn mask h k).1 (tn mask h k).2=some (pos mask h n')/\pos mask h n'<=mask/\pos mask h n'∉G/\∀m,m < n'->pos mask h m∈G)\/(layClean.free mask owner f (tn mask h k).1 (tn mask h k).2=none/\∀r,r < f->(tn mask h (k + r)).1∈G)
 | 0,k,n,e,hb=>.inr ⟨rfl,λr hr=>absurd hr (TR _)⟩
 | f + 1,k,n,e,hb=>by
  have hi:=Du mask h k
  have re:runEnd mask (tn mask h k).1<=mask/\(tn mask h k).1<=runEnd mask (tn mask h k).1:=by unfold runEnd;split <;> omega
  unfold layClean.free
  cases q:(Sh (runEnd mask (tn mask h k).1 + 1 - (tn mask h k).1)).find? λr=>(owner.getD ((tn mask h k).1 + r) (some 0)).isNone with
  | some r=>
   have h1:=List.find?_some q
   have h2:=Sy.mp (List.mem_of_find?_eq_some q)
   have h3:pos mask h (n + r)=(tn mask h k).1 + r:=by
    show (st mask h (n + r)).j=_
    rw [nQ mask h n _ _ _ e r (by omega)]
   refine .inl ⟨n + r,?_,?_,?_,?_⟩
   ·show some _=_
    rw [h3]
   ·rw [h3];omega
   ·rw [h3];exact (ho _ (by omega)).mp h1
   ·intro m hm
    by_cases c:m < n
    ·exact hb m c
    ·obtain ⟨s,rfl⟩:∃s,m=n + s:=⟨m - n,by omega⟩
     have h4:pos mask h (n + s)=(tn mask h k).1 + s:=by
      show (st mask h (n + s)).j=_
      rw [nQ mask h n _ _ _ e s (by omega)]
     rw [h4]
     refine Ua λz=>?_
     have z':=(ho ((tn mask h k).1 + s) (by omega)).mpr z
     rw [List.find?_eq_some_iff_append] at q
     obtain ⟨_,as,bs,eq,hall⟩:=q
     have hs:s∈as:=by
      have hlen:as.length=r:=by
       have hl:as.length < (Sh (runEnd mask (tn mask h k).1 + 1 - (tn mask h k).1)).length:=by rw [eq];simp
       have e3:(Sh (runEnd mask (tn mask h k).1 + 1 - (tn mask h k).1))[as.length]?=some r:=by rw [eq];simp
       rw [TF] at hl
       rw [Wx hl] at e3
       exact Tf e3
      have e4:(Sh (runEnd mask (tn mask h k).1 + 1 - (tn mask h k).1))[s]?=some s:=Wx (by omega)
      rw [eq,UR (by omega)] at e4
      exact Ub e4
     have:=hall s hs
     rw [z'] at this
     exact absurd this (by decide)
  | none=>
   have hall:=WR.mp q
   have occ:∀s,s<=runEnd mask (tn mask h k).1 - (tn mask h k).1->(tn mask h k).1 + s∈G:=λs hs=>Ua λz=>by
    have z':=(ho ((tn mask h k).1 + s) (by omega)).mpr z
    exact hall s (Sy.mpr (by omega)) z'
   have nb:∀m,m < n + (runEnd mask (tn mask h k).1 - (tn mask h k).1) + 1->pos mask h m∈G:=λm hm=>by
    by_cases c:m < n
    ·exact hb m c
    ·obtain ⟨s,rfl⟩:∃s,m=n + s:=⟨m - n,by omega⟩
     have h4:pos mask h (n + s)=(tn mask h k).1 + s:=by
      show (st mask h (n + s)).j=_
      rw [nQ mask h n _ _ _ e s (by omega)]
     rw [h4]
     exact occ s (by omega)
   rcases xg mask h owner G ho f (k + 1) _ (FE mask h k n e) nb with ⟨n',g1,g2',g3⟩ | ⟨g1,g2'⟩
   ·exact .inl ⟨n',g1,g2',g3⟩
   ·refine .inr ⟨g1,λr hr=>?_⟩
    cases r with
    | zero=>have:=occ 0 (SJ _);exact this
    | succ r=>have:=g2' r (by omega);rwa [show k + (r + 1)=k + 1 + r by omega]
theorem Jt {mask:Nat}(hm:lM mask) (h:Int) (owner:Array (Option Nat)) (G:List Nat) (hG:G.length<=mask) (ho:∀j,j<=mask->((owner.getD j (some 0)).isNone=true↔j∉G)):
  ∃n',layClean.free mask owner (turns mask) (bits h % (mask + 1)) (bits h)=some (pos mask h n')/\pos mask h n'<=mask/\pos mask h n'∉G/\∀m,m < n'->pos mask h m∈G:=by
 rcases xg mask h owner G ho (turns mask) 0 0 rfl (λm hm=>absurd hm (TR _)) with a | ⟨_,b⟩
 ·exact a
 ·exfalso
  have all:∀j,j<=mask->j∈G:=λj hj=>by
   obtain ⟨r,hr,e⟩:=Eg hm (tn mask h 12).1 j (Du mask h 12) hj
   have:=b (12 + r) (by unfold turns;omega)
   rw [aaP,AE,e] at this
   exact this
  have:(Sh (mask + 1)).length<=G.length:=SH Uw λj hj=>all j (by have:=Sy.mp hj;omega)
  rw [TF] at this
  omega
structure Own (mask:Nat) (owner:Array (Option Nat)) (G:List Nat) (hs:List Int):Prop where
 sz:owner.size=mask + 1
 ln:G.length=hs.length
 nd:G.Nodup
 bd:∀j∈G,j<=mask
 at_:∀j,j<=mask->owner.getD j none=if j∈G then some (G.idxOf j) else none
 pr:∀k (h1:k < G.length) (h2:k < hs.length),Reach mask G hs[k] G[k]
theorem Own.occ {mask:Nat}{owner:Array (Option Nat)}{G:List Nat}{hs:List Int}(O:Own mask owner G hs):∀j,j<=mask->((owner.getD j (some 0)).isNone=true↔j∉G):=λj hj=>by
 have e:owner.getD j (some 0)=owner.getD j none:=by
  have:j < owner.size:=by rw [O.sz];omega
  simp [UP,this]
 rw [e,O.at_ j hj]
 split <;> simp_all
theorem Own.step {mask:Nat}{owner:Array (Option Nat)}{G:List Nat}{hs:List Int}(O:Own mask owner G hs) (hm:lM mask) (hl:hs.length<=mask) (h:Int):
  ∃j,layClean.free mask owner (turns mask) (bits h % (mask + 1)) (bits h)=some j/\Own mask (owner.setIfInBounds j (some hs.length)) (G++[j]) (hs++[h]):=by
 obtain ⟨n',e,b,f,r⟩:=Jt hm h owner G (by rw [O.ln];exact hl) O.occ
 refine ⟨_,e,⟨by rw [Array.size_setIfInBounds,O.sz],by simp [O.ln],?_,λj hj=>?_,λj hj=>?_,λk h1 h2=>?_⟩⟩
 ·rw [VN]
  refine ⟨O.nd,by simp,λa ha b hb=>?_⟩
  rw [Ss] at hb
  subst hb
  intro z;subst z;exact f ha
 ·rcases S0.mp hj with h1 | h1
  ·exact O.bd j h1
  ·rw [Ss.mp h1];exact b
 ·have hsz:j < owner.size:=by rw [O.sz];omega
  by_cases c:j=pos mask h n'
  ·subst c
   rw [if_pos (by simp)]
   simp [UP,hsz]
   rw [aaG,if_neg f]
   simp [O.ln]
  ·have e1:(owner.setIfInBounds (pos mask h n') (some hs.length)).getD j none=owner.getD j none:=by
    simp [UP,hsz]
    rw [Array.getElem_setIfInBounds_ne]
    exact λz=>c z.symm
   rw [e1,O.at_ j hj]
   by_cases d:j∈G
   ·rw [if_pos d,if_pos (UJ _ d),aaG,if_pos d]
   ·rw [if_neg d,if_neg (by simp [d,c])]
 ·have sub:∀x∈G,x∈G++[pos mask h n']:=λx hx=>UJ _ hx
  by_cases c:k < G.length
  ·have:=(O.pr k c (by rw [<-O.ln];exact c)).mono sub
   rw [Yi c,Yi (by rw [<-O.ln];exact c)]
   exact this
  ·have hk:k=G.length:=by simp at h1;omega
   subst hk
   have e1:(G++[pos mask h n'])[G.length]=pos mask h n':=by simp
   have e2:(hs++[h])[G.length]=h:=by simp [O.ln]
   rw [e1,e2]
   exact ⟨n',rfl,λm hm=>sub _ (r m hm)⟩
theorem zY {mask:Nat}(hm:lM mask):∀(rest hs:List Int) (owner:Array (Option Nat)) (G:List Nat),Own mask owner G hs->(hs++rest).length<=mask->∃owner' G',rest.foldl (λacc h=>do
  let (owner,k) <-acc
  let j <-layClean.free mask owner (turns mask) (bits h % (mask + 1)) (bits h)
  pure (owner.setIfInBounds j (some k),k + 1)) (some (owner,hs.length))=some (owner',(hs++rest).length)/\Own mask owner' G' (hs++rest)
 | [],hs,owner,G,O,_=>⟨owner,G,by simp,by simpa using O⟩
 | h::rest,hs,owner,G,O,hl=>by
  obtain ⟨j,e,O'⟩:=O.step hm (by simp at hl;omega) h
  obtain ⟨owner',G',e2,O2⟩:=zY hm rest (hs++[h]) _ _ O' (by simpa using hl)
  refine ⟨owner',G',?_,by simpa using O2⟩
  rw [XD]
  have e3:(do
   let (owner,k) <-some (owner,hs.length)
   let j <-layClean.free mask owner (turns mask) (bits h % (mask + 1)) (bits h)
   pure (owner.setIfInBounds j (some k),k + 1):Option (Array (Option Nat)×Nat))=some (owner.setIfInBounds j (some hs.length),(hs++[h]).length):=by
   show Option.bind (layClean.free mask owner (turns mask) (bits h % (mask + 1)) (bits h)) _=_
   rw [e]
   simp
  rw [e3]
  simpa using e2
theorem JS (mask:Nat):Own mask (Array.replicate (mask + 1) none) [] []:=
 ⟨by simp,rfl,Vd,λj h=>absurd h (by simp),λj hj=>by simp [UP],λk h1=>absurd h1 (by simp)⟩
theorem EG {mask:Nat}(hm:lM mask) (hs:Array Int) (hl:hs.size<=mask):∃owner G,layClean mask hs=some owner/\Own mask owner G hs.toList:=by
 obtain ⟨owner,G,e,O⟩:=zY hm hs.toList [] _ [] (JS mask) (by simpa using hl)
 refine ⟨owner,G,?_,by simpa using O⟩
 unfold layClean
 rw [<-Array.foldl_toList]
 have e':=congrArg (Option.map (·.1)) e
 exact e'
theorem JG {t:TV}{es:Array (Int×R8)}{mask:Nat}(hm:lM mask) (finger moves:Nat) (led plain:Bool) (hl:es.size<=mask):
  ∃t' R5 L',laid mask finger moves led plain (es.map (·.1))=some (t',R5)/\t'.mask=mask/\t'.led=led/\t'.plain=plain/\Tab t' (R5.filterMap (es[·]?)) L'/\(R5.filterMap (es[·]?)).toList.Perm es.toList:=by
 obtain ⟨owner,G,e,O⟩:=EG hm (es.map (·.1)) (by simpa using hl)
 have hlen:G.length=es.size:=by rw [O.ln];simp
 (let live:=(Sh (mask + 1)).filterMap λj=>(owner.getD j none).map (j,·))
 have lv:∀p,p∈live↔p.1∈G/\p.2=G.idxOf p.1:=λp=>by
  show p∈(Sh (mask + 1)).filterMap _↔_
  rw [WC]
  constructor
  ·rintro ⟨j,hj,q⟩
   have hj':j<=mask:=by have:=Sy.mp hj;omega
   rw [O.at_ j hj'] at q
   by_cases c:j∈G
   ·rw [if_pos c] at q
    have q:(j,G.idxOf j)=p:=by simpa using q
    subst q
    exact ⟨c,rfl⟩
   ·rw [if_neg c] at q;exact absurd q (by simp)
  ·rintro ⟨h1,h2⟩
   refine ⟨p.1,Sy.mpr (by have:=O.bd _ h1;omega),?_⟩
   rw [O.at_ _ (O.bd _ h1),if_pos h1]
   show some (p.1,G.idxOf p.1)=some p
   rw [<-h2]
 have so1:live.Pairwise λa b=>a.1 < b.1:=by
  show ((Sh (mask + 1)).filterMap _).Pairwise _
  rw [YC]
  refine Vj.imp ?_
  intro a b hab x hx y hy
  cases q1:owner.getD a none with
  | none=>rw [q1] at hx;exact absurd hx (by simp)
  | some k1=>cases q2:owner.getD b none with
   | none=>rw [q2] at hy;exact absurd hy (by simp)
   | some k2=>
    rw [q1] at hx;rw [q2] at hy
    have hx:(a,k1)=x:=by simpa using hx
    have hy:(b,k2)=y:=by simpa using hy
    subst hx;subst hy;exact hab
 have ord:(live.map (·.2)).Perm (Sh es.size):=by
  rw [Wk _ Uw]
  ·intro k
   rw [Sb,Sy]
   constructor
   ·rintro ⟨p,hp,rfl⟩
    obtain ⟨h1,h2⟩:=(lv p).mp hp
    rw [h2,<-hlen]
    exact TU h1
   ·intro hk
    rw [<-hlen] at hk
    exact ⟨(G[k],k),(lv _).mpr ⟨SK _,(O.nd.idxOf_getElem k hk).symm⟩,rfl⟩
  ·show (live.map (·.2)).Pairwise _
   rw [S9]
   refine (UW.mp so1).imp ?_
   rintro a b ⟨ha,hb,hab⟩ z
   obtain ⟨a1,a2⟩:=(lv a).mp ha
   obtain ⟨b1,b2⟩:=(lv b).mp hb
   rw [a2,b2] at z
   have ga:=V4 (TU a1)
   have gb:=V4 (TU b1)
   have:a.1=b.1:=by
    rw [<-ga,<-gb]
    congr 1
   omega
 have inR:∀p∈live,∃h:p.2 < es.size,True:=λp hp=>by
  have:p.2∈live.map (·.2):=Sb.mpr ⟨p,hp,rfl⟩
  exact ⟨Sy.mp (ord.mem_iff.mp this),trivial⟩
 let L':=live.map λp=>(p.1,es.getD p.2 default)
 have eL:(live.map (·.2)).toArray.filterMap (es[·]?)=(L'.map (·.2)).toArray:=by
  rw [List.filterMap_toArray]
  congr 1
  show abN _ (live.map _)=(live.map _).map _
  rw [Z3,SN]
  have:∀(l:List (Nat×Nat)),(∀p∈l,p∈live)->abN ((λx=>es[x]?) ∘ λx=>x.snd) l=aa2 ((λx=>x.snd) ∘ λp=>(p.fst,es.getD p.snd default)) l:=by
   intro l
   induction l with
   | nil=>intro _;rfl
   | cons p l ih=>
    intro hl
    obtain ⟨hp,_⟩:=inR p (hl p (by simp))
    rw [List.filterMap_cons_some (b:=es.getD p.2 default)]
    ·rw [Sw,ih λq hq=>hl q (by simp [hq])]
     rfl
    ·show es[p.2]?=_
     simp [UP,hp]
  exact this live λp hp=>hp
 have eP:L'.map (·.1)=live.map (·.1):=by
  show (live.map _).map _=_
  rw [SN];rfl
 have memP:∀j,j∈live.map (·.1)↔j∈G:=λj=>by
  rw [Sb]
  constructor
  ·rintro ⟨p,hp,rfl⟩;exact ((lv p).mp hp).1
  ·intro h;exact ⟨(j,G.idxOf j),(lv _).mpr ⟨h,rfl⟩,rfl⟩
 have lenL:L'.length=es.size:=by
  have:=ord.length_eq
  rw [Sa,TF] at this
  show (live.map _).length=_
  rw [Sa,this]
 refine ⟨{mask,place:=(live.map (·.1)).toArray,dummies:=#[],finger,led,moves,plain},(live.map (·.2)).toArray,L',?_,rfl,rfl,rfl,⟨rfl,?_,?_,?_,λx hx=>?_,hm,?_,λx hx=>?_⟩,?_⟩
 ·unfold laid
  rw [e]
  rfl
 ·show (live.map (·.1)).toArray.toList=_
  rw [eP]
 ·rw [eL]
 ·rw [eP,S9];exact so1
 ·obtain ⟨p,hp,rfl⟩:=Sb.mp hx
  exact O.bd _ ((lv p).mp hp).1
 ·show L'.length<=mask
  rw [lenL];exact hl
 ·obtain ⟨p,hp,rfl⟩:=Sb.mp hx
  obtain ⟨h1,h2⟩:=(lv p).mp hp
  obtain ⟨hs,_⟩:=inR p hp
  have r:=O.pr p.2 (by omega) (by simpa using hs)
  have e1:G[p.2]'(by omega)=p.1:=by
   have:=V4 (TU h1)
   rw [<-this]
   congr 1
  have e2:((es.map (·.1)).toList[p.2]'(by simpa using hs))=(es.getD p.2 default).1:=by
   simp [UP,hs]
  rw [e1,e2] at r
  show Reach mask (L'.map (·.1)) (es.getD p.2 default).1 p.1
  refine r.mono λy hy=>?_
  rw [eP]
  exact (memP y).mpr hy
 ·rw [eL]
  show (L'.map (·.2)).Perm es.toList
  have e1:(live.map (·.2)).map (λk=>es.getD k default)=L'.map (·.2):=by
   show _=(live.map _).map _
   rw [SN,SN];rfl
  rw [<-e1]
  refine (ord.map _).trans ?_
  have:(Sh es.size).map (λk=>es.getD k default)=es.toList:=by
   refine UN (by simp) λi h1 h2=>?_
   simp at h1
   simp [UP,h1]
  rw [this]
theorem xG {t:TV}{es:Array (Int×R8)}{w:Nat}(hm:lM (sizeAbove w - 1)) (hl:es.size<=sizeAbove w - 1):
  ∃t' R5 L',t.relaid (es.map (·.1)) w=some (t',R5)/\t'.mask=sizeAbove w - 1/\t'.led=t.led/\t'.plain=t.plain/\Tab t' (R5.filterMap (es[·]?)) L'/\(R5.filterMap (es[·]?)).toList.Perm es.toList:=
 JG (t:=t) hm t.finger (t.movedTo (sizeAbove w - 1)) t.led t.plain hl
end ST
namespace DL
open PySem PySem.Spec PyProof.Rows L2
mutual
noncomputable def ku:D->Nat
 | .int _=>1
 | .tup xs=>fq xs + 1
 | _=>0
noncomputable def fq:List D->Nat
 | []=>0
 | x::xs=>ku x + fq xs
end
theorem rV:∀{ds:List D},areKeys ds=true->∀d∈ds,isKey d=true
 | [],_,_,h=>nomatch h
 | x::xs,h,d,hm=>by
  unfold areKeys at h
  rw [Sf] at h
  (rcases Sn.mp hm with rfl | hm)
  ·exact h.1
  ·exact rV h.2 d hm
mutual
theorem zV:∀{d e:D},isKey d=true->isKey e=true->bu d e=true->d=e
 | .int i,.int j,_,_,h=>by simp [bu] at h;rw [h]
 | .tup xs,.tup ys,hd,he,h=>by
  unfold isKey at hd he
  simp only [bu] at h
  rw [keys_eq hd he h]
 | .int _,.tup _,_,_,h=>by simp [bu] at h
 | .tup _,.int _,_,_,h=>by simp [bu] at h
theorem keys_eq:∀{ds es:List D},areKeys ds=true->areKeys es=true->cB ds es=true->ds=es
 | [],[],_,_,_=>rfl
 | x::xs,y::ys,hd,he,h=>by
  unfold areKeys at hd he
  rw [Sf] at hd he
  simp only [cB,Sf] at h
  rw [zV hd.1 he.1 h.1,keys_eq hd.2 he.2 h.2]
 | [],_::_,_,_,h=>by simp [cB] at h
 | _::_,[],_,_,h=>by simp [cB] at h
end
theorem v_ {d e:D}(hd:isKey d=true) (he:isKey e=true):bu d e=true↔d=e:=⟨zV hd he,λh=>by rw [h];exact gF _⟩
section
variable {prog:Su}{w:S3}{E:R8->R_->Prop}{K:R7}{J:Hp}
noncomputable def DE (prog:Su) (w:S3) (A:S5) (K:R7) (J:Hp) (d:D) (u:R8):Prop:=
 ∀(E:R8->R_->Prop) (s:R_) (Q:Int->R_->Prop),HF K J s->Q (bT d) {s with toks:=s.toks + ku d}->Sx (SE prog w) A (pyHash u) Q E s
inductive kG (prog:Su) (w:S3) (A:S5) (K:R7) (J:Hp):List D->List R8->Prop
 | nil:kG prog w A K J [] []
 | cons {d:D}{u:R8}{ds:List D}{us:List R8}:DE prog w A K J d u->kG prog w A K J ds us->kG prog w A K J (d::ds) (u::us)
theorem uJ:∀(a b:List D),cJ (a++b)=cJ a++cJ b
 | [],b=>rfl
 | x::a,b=>by show bT x::cJ (a++b)=_;rw [uJ a b];rfl
theorem uq:∀(a b:List D),fq (a++b)=fq a + fq b
 | [],b=>by show fq b=0 + _;omega
 | x::a,b=>by show ku x + fq (a++b)=ku x + fq a + fq b;rw [uq a b];omega
theorem Gh {A:S5}{s:R_}{a:Sm}{o:Obj}{RY:List R8}{n:Nat}{ds:List D}{Q:Int->R_->Prop}(N:HF K J s) (ho:s.heap.get? a=some o) (hc:o.cls=.type "tuple") (hd:o.data=.seq RY.toArray n) (hu:A.units < Uu)
  (hl:kG prog w A.in1 K J ds RY) (h:Q (ab2 (T9 (cJ ds))) {s with toks:=s.toks + (fq ds + 1)}):Sx (SE prog w) A (pyHash (.ref a)) Q E s:=by
 have hT:s.TypeIs (.ref a) "tuple":=⟨o,ho,hc⟩
 unfold pyHash
 (first | unfold pyHashByItsType | skip)
 (first | refine R6 (wpAny_cRoomFor_or (.inr hu) ?_) | skip)
 (refine R6 (WS hT Wg.lookup ?_))
 (show Sx _ _ (if (some (Yw "tuple.__hash__") == some Tq)=true then _ else _) Q E s)
 (rw [if_neg (by rw [beq_builtin_none];exact SX)])
 (refine R6 (WS hT Wg.lookup ?_))
 (show Sx _ _ (callSpecialIfBoundUnlessNone? (.ref a) "__hash__" _ >>= _) Q E s)
 (refine R6 (wpAny_callSpecialIfBoundUnlessNone?_slot hT Wg (Tc Wg hT F.entry_tuple_hash ?_ (F.args_tuple_hash_1 _))))
 (show Sx _ _ (Wj (.ref a) >>= _) _ _ s)
 (refine R6 (wpAny_tupleItemsOf ho hd ?_))
 refine R6 ?_
 rw [<-WT]
 refine Vn _
  (λrest (b:Array Int) s'=>∃done left,ds=done++left/\kG prog w A.in1 K J left rest/\b.toList=cJ done/\s'={s with toks:=s.toks + fq done})
  _ ?_ ?_ _ _ ⟨[],ds,rfl,hl,rfl,rfl⟩
 ·(rintro x rest b s' ⟨done,left,rfl,hl,hb,rfl⟩)
  cases hl with
  | @cons k _ ks' _ h1 hl'=>
   refine R6 (h1 _ _ _ ⟨N.t,N.l,N.e,N.d⟩ ?_)
   have e1:(b.push (bT k)).toList=cJ (done++[k]):=by rw [aaH,uJ,hb];rfl
   have e2:s.toks + fq done + ku k=s.toks + fq (done++[k]):=by rw [uq];show _=s.toks + (fq done + (ku k + 0));omega
   first
    | exact R9 ⟨done++[k],ks',by simp,hl',e1,by rw [e2]⟩
    | exact R6 (R9 (R9 ⟨done++[k],ks',by simp,hl',e1,by rw [e2]⟩))
 ·(rintro b s' ⟨done,left,rfl,hl,hb,rfl⟩)
  cases hl
  rw [US] at h
  (show Sx _ _ (retInt (T9 b.toList)) _ _ _)
  rw [hb]
  refine wpAny_ret_mkInt ?_
  show Sx _ _ (if (decide (-(2:Int) ^ 63<=T9 (cJ done)) && decide (T9 (cJ done) < 2 ^ 63))=true then _ else _) Q E _
  unfold ab2 at h
  by_cases hr:(decide (-(2:Int) ^ 63<=T9 (cJ done)) && decide (T9 (cJ done) < 2 ^ 63))=true
  ·rw [if_pos hr]
   rw [if_pos hr] at h
   (exact R9 (by simpa [acn] using h))
  ·rw [if_neg hr]
   rw [if_neg hr] at h
   (exact R6 (Wz (R9 (by simpa [acn] using h))))
mutual
theorem wK:∀(d:D) (v:V) (u:R8) (A:S5) (s:R_),HF K J s->isKey d=true->Rep K J d v->RelV v u->A.units + dep d < Uu->DE prog w A K J d u
 | .int i,v,u,A,s,N,hk,hr,rv,hu=>λE s' Q N' h=>by
  cases hr
  obtain ⟨t,rfl⟩:=rv
  exact YG h
 | .tup ds,v,u,A,s,N,hk,hr,rv,hu=>λE s' Q N' h=>by
  cases hr with
  | tup h1 hs=>
   cases rv
   obtain ⟨RY,r,o,ho,hc,n,hd⟩:=N'.t _ _ h1
   exact Gh N' ho hc hd (by unfold dep at hu;omega) (AL ds _ _ A.in1 s N hk hs r (by rw [in1_units];unfold dep at hu;omega)) h
 | .non,v,u,A,s,N,hk,hr,rv,hu=>nomatch hk
 | .bl _,v,u,A,s,N,hk,hr,rv,hu=>nomatch hk
 | .str _,v,u,A,s,N,hk,hr,rv,hu=>nomatch hk
 | .lst _,v,u,A,s,N,hk,hr,rv,hu=>nomatch hk
 | .emp,v,u,A,s,N,hk,hr,rv,hu=>nomatch hk
 | .exn _ _ _,v,u,A,s,N,hk,hr,rv,hu=>nomatch hk
 | .dct _ _,v,u,A,s,N,hk,hr,rv,hu=>nomatch hk
theorem AL:∀(ds:List D) (vs:List V) (us:List R8) (A:S5) (s:R_),HF K J s->areKeys ds=true->aK K J ds vs->Vals vs us->A.units + deps ds < Uu->kG prog w A K J ds us
 | [],vs,us,A,s,N,hk,hr,rv,hu=>by
  cases hr;cases rv;exact .nil
 | d::ds,vs,us,A,s,N,hk,hr,rv,hu=>by
  unfold areKeys at hk
  rw [Sf] at hk
  unfold deps at hu
  cases hr with
  | cons a b=>
   cases rv with
   | cons c e=>exact .cons (wK d _ _ A s N hk.1 a c (by omega)) (AL ds _ _ A s N hk.2 b e (by omega))
end
end
def iz (K:R7) (J:Hp) (n:Nat) (u:R8):Prop:=∃d v,isKey d=true/\dep d<=n/\Rep K J d v/\RelV v u
section
variable {prog:Su}{w:S3}{E:R8->R_->Prop}{K:R7}{J:Hp}{A:S5}{s:R_}
theorem zU {n:Nat}:∀{ds:List D}{vs:List V}{us:List R8},areKeys ds=true->deps ds<=n->aK K J ds vs->Vals vs us->∀u∈us,iz K J n u
 | _,_,_,_,_,.nil,.nil=>λu h=>nomatch h
 | d::ds,_,_,hk,hn,.cons a b,.cons c e=>λu h=>by
  unfold areKeys at hk
  rw [Sf] at hk
  unfold deps at hn
  (rcases Sn.mp h with rfl | h)
  ·exact ⟨d,_,hk.1,by omega,a,c⟩
  ·exact zU hk.2 (by omega) b e u h
theorem iz.cases' {n:Nat}{u:R8}(N:HF K J s) (h:iz K J n u):(∃i t,u=.int i t)\/∃a o RY m k,u=.ref a/\s.heap.get? a=some o/\o.cls=.type "tuple"/\o.data=.seq RY m/\n=k + 1/\∀y∈RY.toList,iz K J k y:=by
 obtain ⟨d,v,hk,hn,hr,rv⟩:=h
 cases d with
 | int i=>
  cases hr
  obtain ⟨t,rfl⟩:=rv
  exact .inl ⟨_,_,rfl⟩
 | tup ds=>
  cases hr with
  | tup h1 hs=>
   cases rv
   obtain ⟨RY,r,o,ho,hc,m,hd⟩:=N.t _ _ h1
   unfold dep at hn
   obtain ⟨k,rfl⟩:∃k,n=k + 1:=⟨n - 1,by omega⟩
   exact .inr ⟨_,o,_,m,k,rfl,ho,hc,hd,rfl,zU hk (by omega) hs r⟩
 | _=>cases hk
theorem nP:∀(n:Nat){u:R8}{Q:Bool->R_->Prop},HF K J s->iz K J n u->Q true s->Sx (SE prog w) A (eqIsQuiet n u) Q E s
 | n,u,Q,N,hk,h=>by
  rcases hk.cases' N with ⟨i,t,rfl⟩ | ⟨a,o,RY,m,k,rfl,ho,hc,hd,rfl,hi⟩
  ·rw [eqIsQuiet_byValue _ rfl]
   exact R9 h
  ·have hT:s.TypeIs (.ref a) "tuple":=⟨o,ho,hc⟩
   unfold eqIsQuiet
   (refine R6 (WS hT F.slot_tuple_eq.lookup ?_))
   (show Sx _ _ (ab1 (.ref a) (.type "tuple") >>= _) _ _ s)
   (refine R6 (Wu hT isSubtype_tuple_tuple ?_))
   (simp only [Va,SD,if_false])
   (refine R6 (UB ho hd ?_))
   refine R6 ?_
   show Sx _ _ (forIn RY _ _) _ _ s
   rw [<-WT]
   refine Vn _ (λrest r s'=>r.1=none/\s=s'/\∀v∈rest,iz K J k v) _ ?_ ?_ _ _ ⟨rfl,rfl,hi⟩
   ·(rintro v rest r s' ⟨hr,rfl,hall⟩)
    refine R6 (nP k N (hall v Se) ?_)
    (simp only [Va,SD,if_false])
    (exact R9 ⟨rfl,rfl,λu hu'=>hall u (Sd _ hu')⟩)
   ·(rintro ⟨r1,r2⟩ s' ⟨hr,rfl,_⟩)
    simp only at hr
    subst hr
    exact R9 h
theorem E5:∀(n:Nat){u:R8}{Q:Bool->R_->Prop},HF K J s->iz K J n u->Q true s->Sx (SE prog w) A (hashByValue n u) Q E s
 | n,u,Q,N,hk,h=>by
  rcases hk.cases' N with ⟨i,t,rfl⟩ | ⟨a,o,RY,m,k,rfl,ho,hc,hd,rfl,hi⟩
  ·cases n <;> exact R9 h
  ·have hT:s.TypeIs (.ref a) "tuple":=⟨o,ho,hc⟩
   unfold hashByValue
   (refine R6 (WS hT Wg.lookup ?_))
   show Sx _ _ (Z9 (.ref a) >>= _) _ _ s
   (refine R6 (UB ho hd ?_))
   refine R6 ?_
   show Sx _ _ (forIn RY _ _) _ _ s
   rw [<-WT]
   refine Vn _ (λrest r s'=>r.1=none/\s=s'/\∀v∈rest,iz K J k v) _ ?_ ?_ _ _ ⟨rfl,rfl,hi⟩
   ·(rintro v rest r s' ⟨hr,rfl,hall⟩)
    refine R6 (E5 k N (hall v Se) ?_)
    (simp only [Va,SD,if_false])
    (exact R9 ⟨rfl,rfl,λu hu'=>hall u (Sd _ hu')⟩)
   ·(rintro ⟨r1,r2⟩ s' ⟨hr,rfl,_⟩)
    simp only at hr
    subst hr
    exact R9 h
theorem nK:∀(n:Nat){u:R8}{Q:Bool->R_->Prop},HF K J s->iz K J n u->Q false s->Sx (SE prog w) A (aaI n u) Q E s
 | n,u,Q,N,hk,h=>by
  rcases hk.cases' N with ⟨i,t,rfl⟩ | ⟨a,o,RY,m,k,rfl,ho,hc,hd,rfl,hi⟩
  ·cases n <;> exact R9 h
  ·have hT:s.TypeIs (.ref a) "tuple":=⟨o,ho,hc⟩
   unfold aaI
   (refine R6 (Xd hT ?_))
   dsimp only
   (refine R6 (R9 ?_))
   (simp only [Va,SD,if_false])
   (refine R6 (UB ho hd ?_))
   dsimp only
   refine R6 ?_
   show Sx _ _ (forIn RY _ _) _ _ s
   rw [<-WT]
   refine Vn _ (λrest r s'=>r.1=none/\s=s'/\∀v∈rest,iz K J k v) _ ?_ ?_ _ _ ⟨rfl,rfl,hi⟩
   ·(rintro v rest r s' ⟨hr,rfl,hall⟩)
    refine R6 (nK k N (hall v Se) ?_)
    (simp only [SD,if_false])
    (exact R9 ⟨rfl,rfl,λu hu'=>hall u (Sd _ hu')⟩)
   ·(rintro ⟨r1,r2⟩ s' ⟨hr,rfl,_⟩)
    simp only at hr
    subst hr
    exact R9 h
theorem Nb {x:R8}{ys:List R8}{Q:Bool->R_->Prop}(N:HF K J s) (hx:iz K J 8 x) (hy:∀y∈ys,iz K J 8 y) (h:Q false s):Sx (SE prog w) A (Yj x ys) Q E s:=by
 unfold Yj
 refine R6 ?_
 refine Vn _ (λrest r s'=>r.1=none/\s=s'/\∀v∈rest,iz K J 8 v) _ ?_ ?_ _ _ ⟨rfl,rfl,hy⟩
 ·(rintro v rest r s' ⟨hr,rfl,hall⟩)
  have nx:∀u∈rest,iz K J 8 u:=λu hu'=>hall u (Sd _ hu')
  dsimp only
  have hv:=hall v Se
  split
  ·split
   ·exact R9 ⟨rfl,rfl,nx⟩
   ·refine R6 (nP 8 N hx ?_)
    (simp only [Va,SD,if_false])
    refine R6 (nP 8 N hv ?_)
    (simp only [Va,SD,if_false])
    refine R6 (nK 8 N hx ?_)
    (simp only [SD,if_false])
    refine R6 (nK 8 N hv ?_)
    (simp only [SD,if_false])
    exact R9 ⟨rfl,rfl,nx⟩
  ·split
   ·exact R9 ⟨rfl,rfl,nx⟩
   ·refine R6 (nP 8 N hx ?_)
    (simp only [Va,SD,if_false])
    refine R6 (nP 8 N hv ?_)
    (simp only [Va,SD,if_false])
    refine R6 (nK 8 N hx ?_)
    (simp only [SD,if_false])
    refine R6 (nK 8 N hv ?_)
    (simp only [SD,if_false])
    exact R9 ⟨rfl,rfl,nx⟩
 ·(rintro ⟨r1,r2⟩ s' ⟨hr,rfl,_⟩)
  simp only at hr
  subst hr
  exact R9 h
end
end DL
namespace DL
open PySem PySem.Spec PyProof.Rows L2 ST
def KV (K:R7) (J:Hp) (u:R8) (d:D):Prop:=(∃a,u=.ref a)/\isKey d=true/\dep d<=8/\∃v,Rep K J d v/\RelV v u
theorem KV.key {K:R7}{J:Hp}{u:R8}{d:D}(h:KV K J u d):iz K J 8 u:=let ⟨_,a,b,v,c,e⟩:=h;⟨d,v,a,b,c,e⟩
inductive fD (K:R7) (J:Hp):List (Int×R8)->List D->Prop
 | nil:fD K J [] []
 | cons {h:Int}{x:R8}{d:D}{es:List (Int×R8)}{ks:List D}:h=bT d->KV K J x d->fD K J es ks->fD K J ((h,x)::es) (d::ks)
section
variable {K:R7}{J:Hp}
theorem fD.length {es:List (Int×R8)}{ks:List D}(h:fD K J es ks):es.length=ks.length:=by
 induction h with
 | nil=>rfl
 | cons _ _ _ ih=>simp [ih]
theorem fD.at_ {es:List (Int×R8)}{ks:List D}(h:fD K J es ks):∀{i:Nat}{e:Int×R8},es[i]?=some e->∃d,ks[i]?=some d/\KV K J e.2 d/\e.1=bT d:=by
 induction h with
 | nil=>intro i e q;simp at q
 | @cons hh x d es ks h1 h2 _ ih=>
  intro i e q
  cases i with
  | zero=>simp at q;subst q;exact ⟨d,rfl,h2,h1⟩
  | succ i=>simp at q;obtain ⟨d',a,b⟩:=ih q;exact ⟨d',by simpa using a,b⟩
theorem fD.mem {es:List (Int×R8)}{ks:List D}(h:fD K J es ks):∀e∈es,∃d∈ks,KV K J e.2 d/\e.1=bT d:=λe he=>by
 obtain ⟨i,hi⟩:=Zd.mp he
 obtain ⟨d,h1,h2⟩:=h.at_ hi
 exact ⟨d,Ub h1,h2⟩
theorem fD.back {es:List (Int×R8)}{ks:List D}(h:fD K J es ks){i:Nat}{d:D}(q:ks[i]?=some d):∃e,es[i]?=some e/\KV K J e.2 d/\e.1=bT d:=by
 have hi:i < es.length:=by rw [h.length];exact (SV.mp q).1
 obtain ⟨d',h1,h2⟩:=h.at_ (Si hi)
 rw [q] at h1;cases h1
 exact ⟨_,Si hi,h2⟩
theorem fD.perm {es es':List (Int×R8)}(p:es.Perm es'):∀{ks:List D},fD K J es ks->∃ks',ks.Perm ks'/\fD K J es' ks':=by
 induction p with
 | nil=>intro ks h;exact ⟨ks,.refl _,h⟩
 | cons x _ ih=>
  intro ks h
  cases h with
  | cons h1 h2 h3=>obtain ⟨ks',a,b⟩:=ih h3;exact ⟨_,a.cons _,.cons h1 h2 b⟩
 | swap x y l=>
  intro ks h
  cases h with
  | cons h1 h2 h3=>cases h3 with
   | cons h4 h5 h6=>exact ⟨_,.swap _ _ _,.cons h4 h5 (.cons h1 h2 h6)⟩
 | trans _ _ ih1 ih2=>
  intro ks h
  obtain ⟨k1,a,b⟩:=ih1 h
  obtain ⟨k2,c,d⟩:=ih2 b
  exact ⟨k2,a.trans c,d⟩
end
theorem cT {t:TV}{es:Array (Int×R8)}{L:List (Nat×Int×R8)}(T:Tab t es L):t.fits es.size=true:=by
 have h1:t.place.size=L.length:=by rw [<-Sq,T.pl,Sa]
 have h2:es.size=L.length:=by rw [<-Sq,T.en,Sa]
 have h3:t.fill=L.length:=by unfold aai;rw [T.dm,h1];rfl
 unfold SetTable.fits
 rw [h1,h2,h3]
 simp [T.fl]
theorem KS {t:TV}{es:Array (Int×R8)}{L:List (Nat×Int×R8)}(T:Tab t es L):t.gaveWay=false:=by
 unfold SetTable.gaveWay
 rcases T.mo with h | h | h <;> rw [h] <;> rfl
section
variable {prog:Su}{w:S3}{E:R8->R_->Prop}{K:R7}{J:Hp}{A:S5}{s:R_}
theorem search {a:Sm}{o:Obj}{es:Array (Int×R8)}{ep:Nat}{t:TV}{L:List (Nat×Int×R8)}{ks:List D}{x:R8}{d:D}{Q:SetFound->R_->Prop}(N:HF K J s) (ho:s.heap.get? a=some o) (hd:o.data=.set es ep t) (T:Tab t es L) (en:fD K J es.toList ks)
  (hx:KV K J x d) (hu:A.units + 8 < Uu) (n0:Nat) (hf:pos t.mask (bT d) n0∉L.map (·.1)) (hb:∀m,m < n0->pos t.mask (bT d) m∈L.map (·.1)) (hn0:n0<=10 * (t.mask + 12))
  (q1:d∈ks->Q (.there none) s) (q2:d∉ks->Q (.free (pos t.mask (bT d) n0) false) s):
  ∀(fuel n:Nat) (stand:Option SetTable.Probe),n<=n0->n0 - n < fuel->stand.getD (t.probeStart (bT d))=st t.mask (bT d) n->(∀k,k < n->∀(i:Nat) (e:Nat×Int×R8),L[i]?=some e->e.1=pos t.mask (bT d) k->ks[i]?≠some d)->
   Sx (SE prog w) A (aco a x (bT d) true fuel stand) Q E s
 | 0,n,stand,h1,h2,h3,h4=>absurd h2 (TR _)
 | fuel + 1,n,stand,h1,h2,h3,h4=>by
  have esL:∀i,es[i]?=(L[i]?).map (λe:Nat×Int×R8=>e.2):=λi=>by rw [<-Uh,T.en,Sv]
  unfold aco
  refine R6 (Uy ho hd (cT T) ?_)
  dsimp only
  rw [KS T]
  (simp only [SD,if_false])
  rw [h3]
  obtain ⟨m,m1,m2,m3,m4⟩:=Ah T (λi=>(es[i]?.map (·.1)).getD 0) (λi e q=>by rw [q];rfl) (bT d) n0 hf hb (n0 - n) n (10 * abO t.mask) rfl h1 (by unfold abO;omega)
  generalize hP:SetTable.probe t _ (bT d) (st t.mask (bT d) n)=r
  rcases m4 with ⟨rfl,m4⟩ | ⟨m5,i,e,m6,m7,m8,m4⟩
  ·have:r=_:=hP.symm.trans m4
   subst this
   dsimp only
   refine R9 (q2 λhm=>?_)
   obtain ⟨i,hi⟩:=Zd.mp hm
   obtain ⟨e,e1,e2,e3⟩:=en.back hi
   rw [Uh,esL] at e1
   obtain ⟨e',e4,rfl⟩:=Option.map_eq_some_iff.mp e1
   have hm':=Ub e4
   obtain ⟨k,k1,k2⟩:=T.pr _ hm'
   rw [e3] at k1 k2
   have kl:k < m:=by
    rcases We k m with c | c | c
    ·exact c
    ·subst c;rw [k1] at hf;exact absurd (Sb.mpr ⟨_,hm',rfl⟩) hf
    ·exact absurd (k2 m c) hf
   by_cases c:k < n
   ·exact h4 k c i e' e4 k1.symm hi
   ·exact m3 k (by omega) kl e' hm' k1.symm e3
  ·have:r=_:=hP.symm.trans m4
   subst this
   dsimp only
   have hei:es[i]?=some e.2:=by rw [esL,m6];rfl
   obtain ⟨d',f1,f2,f3⟩:=en.at_ (by rw [Uh];exact hei)
   obtain ⟨⟨ya,g0⟩,g1,g2',v',g3,g4⟩:=id f2
   obtain ⟨_,x1,x2,v,x3,x4⟩:=id hx
   obtain ⟨j,hh,y⟩:=e
   dsimp only at g0 g4 m7 m8 hei
   subst g0
   have cmp:=nq N A g3 x3 g4 x4 (by omega) (by omega) (by omega)
   have pass:∀(k:Sem SetFound),Sx (SE prog w) A k Q E s->Sx (SE prog w) A (if (!t.led)=true then do
     let c <-Yj x (aa2 (λx=>x.snd) (Array.filter (λx=>x.fst == bT d) es).toList)
     if c=true then do unsupported "set:the-search-would-show-the-table";k else k
     else k) Q E s:=λk hk=>by
    split
    ·refine R6 (Nb N hx.key (λy hy=>?_) ?_)
     ·obtain ⟨e',he',rfl⟩:=Sb.mp hy
      have:e'∈es.toList:=by
       rw [Array.toList_filter] at he'
       exact (Te.mp he').1
      obtain ⟨d2,_,h2,_⟩:=en.mem e' this
      exact h2.key
     ·(simp only [SD,if_false])
      exact hk
    ·exact hk
   refine pass _ ?_
   rw [hei]
   dsimp only
   refine R6 (S_ (cmp _ _ _ _ ?_))
   refine R6 (Uy ho hd (cT T) ?_)
   dsimp only
   by_cases c:bu d' d=true
   ·rw [c]
    (simp only [ach,if_true])
    refine R9 (q1 ?_)
    rw [<-zV g1 x1 c]
    exact Ub f1
   ·rw [Bool.not_eq_true] at c
    rw [c]
    have sm:t.sameMemory t.moves t.mask=some true:=by unfold SetTable.sameMemory;simp
    have sl:t.slot (pos t.mask (bT d) m)=.live i:=qD T.sop (by rw [<-m7];exact (T.at_ m6).1)
    rw [sm]
    simp only [Vx,SD,if_false,if_true]
    rw [sl]
    dsimp only
    rw [hei]
    dsimp only
    refine R6 (wpAny_isSame_ref_self ?_)
    simp only [if_true]
    (refine R6 (R9 ?_))
    dsimp only
    refine search N ho hd T en hx hu n0 hf hb hn0 q1 q2 fuel (m + 1) _ (by omega) (by omega) rfl λk hk i2 e2 z1 z2 z3=>?_
    by_cases c1:k < n
    ·exact h4 k c1 i2 e2 z1 z2 z3
    ·by_cases c2:k < m
     ·obtain ⟨dd,w1,_,w3⟩:=en.at_ (i:=i2) (e:=e2.2) (by rw [Uh,esL,z1];rfl)
      rw [z3] at w1;cases w1
      exact m3 k (by omega) c2 e2 (Ub z1) z2 w3
     ·obtain rfl:k=m:=by omega
      have hi2:i2=i:=by
       obtain ⟨p1,p2⟩:=SV.mp z1
       obtain ⟨p3,p4⟩:=SV.mp m6
       have sw:=T_.mp T.so
       rcases We i2 i with c | c | c
       ·have:=sw i2 i (by simpa using p1) (by simpa using p3) c
        simp [p2,p4] at this
        omega
       ·exact c
       ·have:=sw i i2 (by simpa using p3) (by simpa using p1) c
        simp [p2,p4] at this
        omega
      subst hi2
      rw [f1] at z3
      cases z3
      rw [gF] at c
      exact absurd c (by decide)
end
structure iA (K:R7) (J:Hp) (h:TM) (a:Sm) (led:Bool) (ks:List D) (es:Array (Int×R8)) (ep:Nat) (t:TV):Prop where
 at_:h.get? a=some {cls:=.type "set",dict:=none,data:=.set es ep t}
 tab:∃L,Tab t es L
 pl:t.plain=true
 ld:t.led=led
 rm:ks.length * 5 < t.mask * 3
 en:fD K J es.toList ks
 nd:ks.Nodup
theorem Ei (mask i:Nat) (h:i<=mask):i + (abn mask i - i)<=mask:=by unfold abn;split <;> omega
theorem IF (mask:Nat) (h:Int):∀n,(ST.st mask h n).j + (ST.st mask h n).more<=mask
 | 0=>Ei mask _ (Wf (Yh _ (by omega)))
 | n + 1=>by
  have ih:=IF mask h n
  show (YN _ (ST.st mask h n)).j + (YN _ (ST.st mask h n)).more<=mask
  unfold YN
  split
  ·dsimp only;omega
  ·exact Ei mask _ (Wf (Yh _ (by omega)))
theorem Ag (mask:Nat) (h:Int) (n:Nat):ST.pos mask h n<=mask:=by have:=IF mask h n;show (ST.st mask h n).j<=mask;omega
theorem Bb:UH 20=32:=by decide +kernel
theorem Bc:UH 76=128:=by decide +kernel
theorem nU {t:TV}{es:Array (Int×R8)}{L:List (Nat×Int×R8)}(T:Tab t es L):L.length=es.size:=by rw [<-Sq,T.en,Sa]
section
variable {prog:Su}{w:S3}{E:R8->R_->Prop}{K:R7}{J:Hp}{A:S5}{s:R_}
theorem NL {a:Sm}{es:Array (Int×R8)}{ep:Nat}{t:TV}{led:Bool}{L:List (Nat×Int×R8)}{ks:List D}{Q:Unit->R_->Prop}(ho:s.heap.get? a=some {cls:=.type "set",dict:=none,data:=.set es ep t}) (T:Tab t es L) (hp:t.plain=true) (hl:t.led=led)
  (en:fD K J es.toList ks) (nd:ks.Nodup) (W:Nat) (hW:(UH W=32/\ks.length=5)\/(UH W=128/\ks.length=19))
  (h:∀(h':TM) ks' es' ep' t',Tu a s.heap h'->ks.Perm ks'->iA K J h' a led ks' es' ep' t'->Q () {s with heap:=h'}):Sx (SE prog w) A (setRelay a W) Q E s:=by
 have hsz:es.size=ks.length:=by rw [<-Sq,en.length]
 have hm:lM (UH W - 1):=by rcases hW with ⟨h,_⟩ | ⟨h,_⟩ <;> rw [h];exact .inr (.inl rfl);exact .inr (.inr rfl)
 obtain ⟨t',R5,L',e1,e2,e3,e4,e5,e6⟩:=xG (t:=t) (es:=es) hm (by rcases hW with ⟨h,_⟩ | ⟨h,_⟩ <;> rw [h] <;> omega)
 unfold setRelay
 refine R6 (Uy ho rfl (cT T) ?_)
 dsimp only
 rw [if_neg (by rw [Ud];rcases hW with ⟨h,_⟩ | ⟨h,_⟩ <;> rw [h] <;> omega)]
 have sz':(R5.filterMap (es[·]?)).size=es.size:=by
  rw [<-Sq,e6.length_eq,Sq]
 rw [e1]
 have cnd:((R5.filterMap (es[·]?)).size != es.size)=false:=by rw [sz'];simp
 refine R6 (V7 (a:=(R5.filterMap (es[·]?),t')) ?_ ?_)
 ·show (if ((R5.filterMap (es[·]?)).size != es.size)=true then _ else pure (R5.filterMap (es[·]?),t'))=_
  rw [cnd]
  rfl
 ·dsimp only
  obtain ⟨ks',p1,p2⟩:=en.perm e6.symm
  refine W7 ho rfl ?_ (by rw [sz',Ud];rcases hW with ⟨_,h⟩ | ⟨_,h⟩ <;> omega)
  have hg:=TY (Yk (R5.filterMap (es[·]?)) t') ho rfl
  refine h _ ks' _ _ _ (T3 _ _ _) p1 ⟨hg,⟨L',e5⟩,e4.trans hp,e3.trans hl,?_,p2,p1.nodup_iff.mp nd⟩
  rw [<-p1.length_eq,e2]
  rcases hW with ⟨h,h'⟩ | ⟨h,h'⟩ <;> rw [h,h'] <;> omega
theorem IZ {a:Sm}{es:Array (Int×R8)}{ep:Nat}{t:TV}{led:Bool}{ks:List D}{x:R8}{d:D}{Q:Bool->R_->Prop}(N:HF K J s) (S:iA K J s.heap a led ks es ep t) (hx:KV K J x d) (hu:A.units + 8 < Uu) (hl:ks.length < 76)
  (q1:d∈ks->Q false s) (q2:d∉ks->∀(h':TM) ks' es' ep' t',Tu a s.heap h'->(d::ks).Perm ks'->iA K J h' a led ks' es' ep' t'->Q true {s with heap:=h'}):
  Sx (SE prog w) A (Ze a x (bT d)) Q E s:=by
 obtain ⟨L,T⟩:=S.tab
 have lenL:L.length=ks.length:=by rw [nU T,<-Sq,S.en.length]
 obtain ⟨n0,b1,b2,b3⟩:=uz T.mo (bT d) (L.map (·.1)) (by rw [Sa];exact T.fl)
 have hj:pos t.mask (bT d) n0<=t.mask:=Ag _ _ _
 (unfold Ze abP)
 refine S_ (R6 (Uy S.at_ rfl (cT T) ?_))
 dsimp only
 have ns:byScan x es=false:=by
  obtain ⟨⟨xa,rfl⟩,_⟩:=hx
  rfl
 rw [ns]
 (simp only [SD,if_false])
 unfold setSearch
 refine R6 (search N S.at_ rfl T S.en hx hu n0 b2 b3 b1 (λhm=>?_) (λhm=>?_) 100000 0 none (SJ _) (by rcases T.mo with h | h | h <;> rw [h] at b1 <;> omega) rfl (λk hk=>absurd hk (TR _)))
 ·exact R9 (q1 hm)
 ·dsimp only
  refine R6 (Uy S.at_ rfl (cT T) ?_)
  dsimp only
  obtain ⟨L',T',pm⟩:=T.put (bT d) x n0 b2 b3 hj (by have:=S.rm;rcases T.mo with h | h | h <;> rw [h] at this <;> omega)
  have fl:(t.put (pos t.mask (bT d) n0)).1.mask=t.mask/\(t.put (pos t.mask (bT d) n0)).1.plain=t.plain/\(t.put (pos t.mask (bT d) n0)).1.led=t.led:=⟨rfl,rfl,rfl⟩
  generalize t.put (pos t.mask (bT d) n0)=tp at T' fl ⊢
  obtain ⟨t',p⟩:=tp
  dsimp only at T' fl ⊢
  obtain ⟨f1,f2,f3⟩:=fl
  have en':∃ks',(d::ks).Perm ks'/\fD K J (Uz es p (bT d,x)).toList ks':=by
   refine fD.perm (es:=(bT d,x)::es.toList) ?_ (.cons rfl hx S.en)
   rw [T'.en,T.en]
   have:=pm.map (·.2)
   exact this.symm
  obtain ⟨ks',p1,p2⟩:=en'
  have nd':ks'.Nodup:=p1.nodup_iff.mp (Uq.mpr ⟨hm,S.nd⟩)
  have lk:ks'.length=ks.length + 1:=by rw [<-p1.length_eq];rfl
  rw [f2,S.pl]
  simp only [if_true]
  refine R6 (E5 8 N hx.key ?_)
  simp only [if_true]
  have esz:(Uz es p (bT d,x)).size=ks'.length:=by rw [<-Sq,p2.length]
  refine R6 (W7 S.at_ rfl ?_ (by rw [esz,Ud];omega))
  have hg:=TY (Yk (Uz es p (bT d,x)) t') S.at_ rfl
  have hfill:t'.fill=ks'.length:=by
   unfold aai
   rw [T'.dm,<-Sq,T'.pl,Sa,nU T',esz]
   rfl
  have hes:es.size=ks.length:=by rw [<-Sq,S.en.length]
  split
  ·rename_i c
   simp only [W9,Vs] at c
   unfold Xo at c
   rw [hfill,f1,decide_eq_true_eq] at c
   have rm:=S.rm
   refine R6 (NL (s:={s with heap:=s.heap.update a (Yk (Uz es p (bT d,x)) t')}) hg T' (f2.trans S.pl) (f3.trans S.ld) p2 nd' _ ?_ λh' ks2 es2 ep2 t2 g1 g2' g3=>?_)
   ·rw [hes]
    unfold W_
    rw [if_neg (by omega)]
    rcases T.mo with h | h | h
    ·rw [h] at c rm
     have:ks.length + 1=5:=by omega
     rw [this]
     exact .inl ⟨Bb,by omega⟩
    ·rw [h] at c rm
     have:ks.length + 1=19:=by omega
     rw [this]
     exact .inr ⟨Bc,by omega⟩
    ·rw [h] at c;omega
   ·exact R9 (q2 hm h' ks2 es2 ep2 t2 ((T3 _ _ _).trans g1) (p1.trans g2') g3)
  ·rename_i c
   simp only [W9,Vs] at c
   unfold Xo at c
   rw [hfill,f1,decide_eq_true_eq] at c
   exact R9 (q2 hm _ ks' _ _ _ (T3 _ _ _) p1 ⟨hg,⟨L',T'⟩,f2.trans S.pl,f3.trans S.ld,by rw [f1];omega,p2,nd'⟩)
end
theorem iA.keep {K:R7}{J:Hp}{h h':TM}{a:Sm}{led:Bool}{ks:List D}{es:Array (Int×R8)}{ep:Nat}{t:TV}(S:iA K J h a led ks es ep t) (e:∀o,h.get? a=some o->h'.get? a=some o):iA K J h' a led ks es ep t:=
 ⟨e _ S.at_,S.tab,S.pl,S.ld,S.rm,S.en,S.nd⟩
section
variable {prog:Su}{w:S3}{A:S5}{R:aa7->R_->Prop}{I:Sm}{fp wr:List Sm}{G:Array ZW->Array ZW->Prop}{n:Nat}{P:Nat->R8->Prop}{St:Nat->R_->Prop}{K:R7}{J:Hp}
theorem HG (W:acD prog w A.in1 I fp wr G n P St) (S:Sm) (hSf:S∉fp) (val:Nat->D) (hval:∀i v,P i v->KV K J v (val i)){s0:R_}(N0:HF K J s0) (hnew:∀b∈S::wr,s0.heap.get? b=none) (hu:A.in1.units + 8 < Uu) (hn:n<=76){led:Bool}:
  ∀(k i:Nat) (s:R_) (ks:List D) (es:Array (Int×R8)) (ep:Nat) (t:TV),n - i=k->i<=n->St i s->(∀b o,s0.heap.get? b=some o->s.heap.get? b=some o)->iA K J s.heap S led ks es ep t->(∀d,d∈ks↔d∈(Sh i).map val)->
   (∀s' ks' es' ep' t',Moved (S::wr) G s s'->iA K J s'.heap S led ks' es' ep' t'->(∀d,d∈ks'↔d∈(Sh n).map val)->R (.ok (.ret .none)) s')->
   (U5 (SE prog w) A (.builtin "set.update.loop" ⟨[.ref S,.ref I],[]⟩) R s):=by
 (have QC:S∉wr:=λh=>hSf (W.sub _ h))
 (have hsub:∀b∈wr,b∈S::wr:=λb hb=>Sd _ hb)
 have old:∀b o,s0.heap.get? b=some o->b∉S::wr:=λb o e hm=>by rw [hnew b hm] at e;cases e
 intro k
 induction k with
 | zero=>
  intro i s ks es ep t hk hi hst hb hS hm hR
  have hin:i=n:=by omega
  subst hin
  refine UG Ur ?_
  rw [Uc S6 _]
  (show Sx _ A.in1 (Wi (.ref I) >>= _) _ _ s)
  refine R6 (W.done s _ _ hst λs' P_=>?_)
  (show Sx _ A.in1 (ret Tq) _ _ s')
  exact R9 (hR s' ks es ep t (P_.mono hsub) (hS.keep λo e=>P_.heap S o QC e) hm)
 | succ k ih=>
  intro i s ks es ep t hk hi hst hb hS hm hR
  have hlt:i < n:=by omega
  have hlen:ks.length<=i:=by
   have:=SH hS.nd (λd hd=>(hm d).mp hd)
   simpa using this
  refine UG Ur ?_
  rw [Uc S6 _]
  (show Sx _ A.in1 (Wi (.ref I) >>= _) _ _ s)
  refine R6 (W.item i s _ _ hlt hst λv s' hP Qi P_=>?_)
  have hx:=hval i v hP
  obtain ⟨_,x1,x2,vv,x3,x4⟩:=id hx
  have hS':=hS.keep (h':=s'.heap) λo e=>P_.heap S o QC e
  have hb':∀b o,s0.heap.get? b=some o->s'.heap.get? b=some o:=λb o e=>P_.heap b o (λhm=>old b o e (hsub b hm)) (hb b o e)
  have N':HF K J s':=N0.keep hb'
  have mem':∀(ks':List D),(∀d,d∈ks'↔d=val i\/d∈ks)->∀d,d∈ks'↔d∈(Sh (i + 1)).map val:=λks' h d=>by
   rw [h d,hm d,XM,SM,S0]
   simp only [Sw,Xe,Ss]
   exact Or.comm
  show Sx _ A.in1 (holding [v] (setAdd S v) >>= _) _ _ s'
  (refine R6 (S_ ?_))
  unfold setAdd
  refine S_ ?_
  refine R6 (wK (val i) vv v A.in1 s' N' x1 x3 x4 (by omega) _ _ _ N' ?_)
  refine IZ (s:={s' with toks:=s'.toks + ku (val i)}) (⟨N'.t,N'.l,N'.e,N'.d⟩:HF K J {s' with toks:=s'.toks + ku (val i)}) hS' hx hu (by omega) (λhin=>?_) (λhin h' ks' es' ep' t' QA QL Qy=>?_)
  ·refine R9 ⟨VY S6 _,ih (i + 1) _ ks es ep t (by omega) hlt (W.frame _ s' _ _ Qi (UM _ _) λb hb o e=>e) hb' hS' (mem' ks λd=>⟨.inr,λh=>h.elim (λh=>h▸hin) id⟩) λs'' ks'' es'' ep'' t'' hm'' hS'' Qk=>?_⟩
   exact hR s'' ks'' es'' ep'' t'' (ZR W.gtrans ((P_.mono hsub).then_heap (UM _ _) λb o hb e=>e) hm'') hS'' Qk
  ·refine R9 ⟨VY S6 _,ih (i + 1) _ ks' es' ep' t' (by omega) hlt (W.frame _ s' _ _ Qi (UM _ _) λb hb o e=>?_) (λb o e=>?_) Qy (mem' ks' λd=>?_) λs'' ks'' es'' ep'' t'' hm'' hS'' Qk=>?_⟩
   ·(rw [QA.2 b (λh:b=S=>hSf (by rw [<-h];exact hb))];exact e)
   ·show h'.get? b=some o
    rw [QA.2 b (λh:b=S=>old b o e (by rw [h];exact Se))]
    exact hb' b o e
   ·rw [<-QL.mem_iff,Sn]
   ·refine hR s'' ks'' es'' ep'' t'' (ZR W.gtrans ((P_.mono hsub).then_heap (UM _ _) λb o hb e=>?_) hm'') hS'' Qk
    (rw [QA.2 b (λh:b=S=>hb (by rw [h];exact Se))];exact e)
end
theorem Dn {K:R7}{J:Hp}{h:TM}{a:Sm}{led:Bool}(e:h.get? a=some {cls:=.type "set",dict:=none,data:=.set #[] 0 (.fresh 0 0 led)}):iA K J h a led [] #[] 0 (.fresh 0 0 led):=
 ⟨e,⟨[],⟨rfl,rfl,rfl,VI,(λ_ h=>nomatch h),.inl rfl,SJ _,(λ_ h=>nomatch h)⟩⟩,rfl,rfl,(show 0 * 5 < 7 * 3 by decide),.nil,Vd⟩
end DL
namespace ST
open PySem PySem.SetTable
theorem zb {xs:Array Nat}{i j:Nat}(hs:xs.toList.Pairwise (· < ·)) (hi:i<=xs.size) (h1:∀k,k < i->xs.getD k 0 < j) (h2:∀k,i<=k->k < xs.size->j<=xs.getD k 0):below xs j=i:=by
 obtain ⟨b1,b2,b3⟩:=n_ xs j hs
 rcases We (below xs j) i with c | c | c
 ·have:=h1 _ c
  have:=b3 _ (Sj _) (by omega)
  omega
 ·exact c
 ·have:=b2 _ c
  have:=h2 i (Sj _) (by omega)
  omega
theorem Cr {xs:Array Nat}(hs:xs.toList.Pairwise (· < ·)):below xs 0=0:=zb hs (SJ _) (λk h=>absurd h (TR _)) λk _ _=>SJ _
theorem Cq {xs:Array Nat}{i j:Nat}(hs:xs.toList.Pairwise (· < ·)) (h:xs[i]?=some j):below xs (j + 1)=i + 1:=by
 obtain ⟨hi,e⟩:=TZ.mp h
 have sw:=T_.mp hs
 have gd:∀k (hk:k < xs.size),xs.getD k 0=xs[k]:=λk hk=>by simp [UP,hk]
 refine zb hs (by omega) (λk hk=>?_) (λk h1 h2=>?_)
 ·rw [gd k (by omega)]
  by_cases c:k=i
  ·subst c;omega
  ·have:=sw k i (by simp;omega) (by simpa using hi) (by omega)
   simp at this
   omega
 ·rw [gd k h2]
  have:=sw i k (by simpa using hi) (by simpa using h2) (by omega)
  simp at this
  omega
theorem xB {α:Type}(next:Nat->Nat):∀(f k:Nat) (left:List α) (out:Array α),f=left.length->(aaQ next f k left out).toList.Perm (out.toList++left)
 | 0,k,left,out,h=>by
  have:left=[]:=UI.mp h.symm
  subst this
  unfold aaQ
  simp
 | f + 1,k,left,out,h=>by
  have hl:next k % left.length < left.length:=Yh _ (by omega)
  unfold aaQ
  rw [Si hl]
  dsimp only
  refine (xB next f (k + 1) _ _ (by rw [Zv];simp [hl];omega)).trans ?_
  rw [aaH,Wh]
  (refine acE _ ?_)
  have e1:left.eraseIdx (next k % left.length)=left.take (next k % left.length)++left.drop (next k % left.length + 1):=VO _ _
  have e2:left=left.take (next k % left.length)++left[next k % left.length]::left.drop (next k % left.length + 1):=by
   rw [WZ,V8]
  rw [e1,Xg]
  exact (YM.symm).trans (abo e2.symm)
theorem C_ {α:Type}(next:Nat->Nat) (xs:Array α):(abp next xs).toList.Perm xs.toList:=by
 have h:=xB next xs.size 0 xs.toList #[] (by simp)
 rw [show (#[]:Array α).toList++xs.toList=xs.toList from rfl] at h
 exact h
end ST
namespace DL
open PySem PySem.Spec PyProof.Rows L2 ST
structure jy (h:TM) (a:Sm) (led:Bool) (es:Array (Int×R8)) (ep:Nat) (t:TV):Prop where
 at_:h.get? a=some {cls:=.type "set",dict:=none,data:=.set es ep t}
 tab:∃L,Tab t es L
 pl:t.plain=true
 ld:t.led=led
theorem jy.keep {h h':TM}{a:Sm}{led:Bool}{es:Array (Int×R8)}{ep:Nat}{t:TV}(S:jy h a led es ep t) (e:∀o,h.get? a=some o->h'.get? a=some o):jy h' a led es ep t:=⟨e _ S.at_,S.tab,S.pl,S.ld⟩
theorem iA.wk {K:R7}{J:Hp}{h:TM}{a:Sm}{led:Bool}{ks:List D}{es:Array (Int×R8)}{ep:Nat}{t:TV}(S:iA K J h a led ks es ep t):jy h a led es ep t:=⟨S.at_,S.tab,S.pl,S.ld⟩
abbrev oH (w:S3):Bool:=!w.params.followText "set-order"
noncomputable def fP (w:S3) (a ep:Nat) (es:Array (Int×R8)):Array (Int×R8):=if w.params.followText "set-order"=true then abp (w.params.setOrder a ep) es else es
theorem mY (w:S3) (a ep:Nat) (es:Array (Int×R8)):(fP w a ep es).toList.Perm es.toList:=by
 unfold fP
 split
 ·exact C_ _ _
 ·exact .refl _
theorem mZ (w:S3) (a ep:Nat) (es:Array (Int×R8)):(fP w a ep es).size=es.size:=by
 rw [<-Sq,(mY w a ep es).length_eq,Sq]
abbrev pD (a:Sm) (slot i n ep:Nat):Obj:={cls:=.type "set_iterator",data:=.fields #[.int slot 0,.int i 0,.ref a,.int n 0,.int ep 0]}
theorem ur:adk table "set.__iter__"=some Ww.«frozenset.__iter__»:=
 (abQ (id':="frozenset.__iter__") (by kernel_rfl) rfl (by decide +kernel) (by kernel_rfl))
theorem fN:Slot "set_iterator" "__next__" "set_iterator.__next__":=
 (.of (owner:="set_iterator") (n:="__next__") (by rw [Zf,Xh];kernel_rfl) (by decide +kernel) (by decide +kernel) (by decide +kernel)
  (by first | exact .inl (by decide +kernel) | exact .inr (by decide +kernel)) (by rw [X8];kernel_rfl))
theorem pA:adk table "set_iterator.__next__"=some Ww.«set_iterator.__next__»:=(entryFor_of_tree (by kernel_rfl))
theorem pV (a:R8):argsOk "set_iterator.__next__" ⟨[a],[]⟩:=by unfold argsOk;kernel_rfl
section
variable {prog:Su}{w:S3}{A:S5}{E:R8->R_->Prop}{s:R_}
theorem Gs {a:Sm}{led:Bool}{es:Array (Int×R8)}{ep:Nat}{t:TV}{Q:R8->R_->Prop}(S:jy s.heap a led es ep t)
  (hQ:Q (.ref s.heap.objs.size) {s with heap:=s.heap.push (pD a 0 0 es.size ep)}):Sx (SE prog w) A (XZ (.ref a)) Q E s:=by
 obtain ⟨L,T⟩:=S.tab
 have hT:s.TypeIs (.ref a) "set":=⟨_,S.at_,rfl⟩
 refine Yl hT abq (Tc abq hT ur ?_ (F.args_set_iter_1 _))
 show Sx _ _ (Ym a >>= _) _ _ s
 unfold Ym
 refine R6 (R6 (XN S.at_ rfl (cT T) (R9 ?_)))
 unfold setDrawn ab5
 refine R6 (R6 (Uy S.at_ rfl (cT T) (R6 (R6 (Vo (R9 (R9 ?_)))))))
 dsimp only
 split
 ·rename_i c
  have c:(!w.params.followText "set-order" && (!t.plain && decide (es.size > 1)))=true:=c
  rw [S.pl] at c
  simp at c
 ·(refine R6 (R9 ?_))
  refine R6 (wpAny_setEpoch_of S.at_ rfl (cT T) ?_)
  (refine R6 (S8 ?_))
  exact R9 ⟨_,rfl,"set_iterator",_,⟨_,Sk _ rfl,rfl⟩,fN.lookup,hQ⟩
theorem Av {a:Sm}{es:Array (Int×R8)}{ep:Nat}{t:TV}{slot i:Nat}{Q:Option (R8×Nat)->R_->Prop}(S:jy s.heap a (oH w) es ep t) (hb:w.params.followText "set-order"=false->Ws t.place slot=i)
  (q1:∀e slot',(fP w a ep es)[i]?=some e->(w.params.followText "set-order"=false->Ws t.place slot'=i + 1)->Q (some (e.2,slot')) s) (q2:(fP w a ep es)[i]?=none->Q none s):
  Sx (SE prog w) A (setNext a slot i ep) Q E s:=by
 obtain ⟨L,T⟩:=S.tab
 unfold setNext ab5
 refine R6 (Uy S.at_ rfl (cT T) ?_)
 dsimp only
 (refine R6 (R6 (Vo (R9 ?_))))
 dsimp only
 cases bt:w.params.followText "set-order" with
 | true=>
  rw [show (SE prog w).w.params.followText "set-order"=true from bt]
  simp only [if_true,bne_self_eq_false,SD,if_false]
  unfold setWalk ab5
  refine R6 (R6 (Uy S.at_ rfl (cT T) ?_))
  dsimp only
  (refine R6 (R6 (Vo (R9 ?_))))
  dsimp only
  rw [show (SE prog w).w.params.followText "set-order"=true from bt]
  simp only [if_true]
  refine R6 (Vo (R9 ?_))
  dsimp only
  have ew:fP w a ep es=abp ((SE prog w).w.params.setOrder a ep) es:=by unfold fP;rw [if_pos bt];rfl
  rw [ew] at q1 q2
  cases q:(abp ((SE prog w).w.params.setOrder a ep) es)[i]? with
  | none=>exact R9 (q2 q)
  | some e=>exact R9 (q1 e slot q λz=>absurd (bt.symm.trans z) (by decide))
 | false=>
  rw [show (SE prog w).w.params.followText "set-order"=false from bt]
  (simp only [SD,if_false])
  have ew:fP w a ep es=es:=by unfold fP;rw [if_neg (by rw [bt];decide)]
  rw [ew] at q1 q2
  have Q2:t.led=true:=by rw [S.ld];show (!w.params.followText "set-order")=true;rw [bt];rfl
  split
  ·rename_i c
   have c:(!t.plain && decide (es.size > 1))=true:=c
   rw [S.pl] at c
   simp at c
  ·refine R6 (V7 (a:=()) ?_ ?_)
   ·show (if (!t.led && !es.isEmpty)=true then _ else pure ())=pure ()
    rw [Q2]
    rfl
   ·rw [hb bt]
    cases q:es[i]? with
    | none=>exact R9 (q2 q)
    | some e=>
     have hlen:i < t.place.size:=by
      have h1:=(TZ.mp q).1
      have h2:t.place.size=es.size:=by rw [<-Sq,T.pl,Sa,nU T]
      omega
     have ep':t.place[i]?=some t.place[i]:=Vz hlen
     rw [ep']
     exact R9 (q1 e _ q λ_=>Cq T.sop ep')
theorem GH {I a:Sm}{es:Array (Int×R8)}{ep:Nat}{t:TV}{slot i:Nat}{Q:Option R8->R_->Prop}(hne:a≠I) (S:jy s.heap a (oH w) es ep t) (hI:s.heap.get? I=some (pD a slot i es.size ep)) (hb:w.params.followText "set-order"=false->Ws t.place slot=i) (hi:i < es.size)
  (hQ:∀h' slot' e,(fP w a ep es)[i]?=some e->h'.get? I=some (pD a slot' (i + 1) es.size ep)->(w.params.followText "set-order"=false->Ws t.place slot'=i + 1)->Tu I s.heap h'->Q (some e.2) {s with heap:=h'}):
  Sx (SE prog w) A (Wi (.ref I)) Q E s:=by
 obtain ⟨L,T⟩:=S.tab
 have hT:s.TypeIs (.ref I) "set_iterator":=⟨_,hI,rfl⟩
 unfold Wi
 refine R6 (VU (Tj (name:=Vp "__next__") hT fN (Tc fN hT pA ?_ (pV _))))
 show Sx _ _ (fieldsOf (.ref I) >>= _) _ _ s
 refine R6 (X_ hI rfl ?_)
 dsimp only
 refine R6 (XN S.at_ rfl (cT T) ?_)
 simp only [bne_self_eq_false,SD,if_false,Uk]
 refine R6 (Av S hb (λe slot' q1 q2=>?_) λq=>?_)
 ·dsimp only
  refine R6 (Um hI (by simp) λh1 g1 b1=>?_)
  refine R6 (Um (s:={s with heap:=h1}) g1 (by simp) λh2 g2' b2=>?_)
  exact R9 ⟨_,rfl,R9 (hQ h2 slot' e q1 (g2'.trans (by simp [Y0])) q2 (b1.trans b2))⟩
 ·exfalso
  have:=(Array.getElem?_eq_none_iff.mp q)
  rw [mZ] at this
  omega
theorem Jm {I a:Sm}{es:Array (Int×R8)}{ep:Nat}{t:TV}{slot:Nat}{Q:Option R8->R_->Prop}(hh:A.handled=none) (S:jy s.heap a (oH w) es ep t) (hI:s.heap.get? I=some (pD a slot es.size es.size ep)) (hb:w.params.followText "set-order"=false->Ws t.place slot=es.size)
  (hQ:∀h',ZO I s.heap h'->Q none {s with heap:=h'}):Sx (SE prog w) A (Wi (.ref I)) Q E s:=by
 obtain ⟨L,T⟩:=S.tab
 have hT:s.TypeIs (.ref I) "set_iterator":=⟨_,hI,rfl⟩
 unfold Wi
 refine R6 (VU (Tj (name:=Vp "__next__") hT fN (Tc fN hT pA ?_ (pV _))))
 show Sx _ _ (fieldsOf (.ref I) >>= _) _ _ s
 refine R6 (X_ hI rfl ?_)
 dsimp only
 refine R6 (XN S.at_ rfl (cT T) ?_)
 simp only [bne_self_eq_false,SD,if_false,Uk]
 refine R6 (Av S hb (λe slot' q1 q2=>?_) λq=>?_)
 ·exfalso
  have:=(TZ.mp q1).1
  rw [mZ] at this
  omega
 ·dsimp only
  refine R6 (Um hI (by simp) λh1 g1 b1=>?_)
  refine R6 ?_
  simp only [adf,adg]
  (refine R6 (S8 ?_ (by size_fits)))
  (refine R6 (m:=Wo _ _) (V7 (a:=Tq) (by first | rfl | (simp only [Wo];rfl)) ?_))
  (refine S8 ?_ (by size_fits))
  simp only [adh]
  (refine R6 (Z_ ?_))
  (first | rw [show A.in1.handled=none from hh] | rw [hh])
  (refine R6 (R9 (abb ?_)))
  (refine R6 (Wu (T:="StopIteration") (b:=true) ⟨_,Sk _ rfl,rfl⟩ ZG ?_))
  exact R9 (hQ _ ((b1.extBut.push _).push _))
end
theorem yu:typeLookup (.type "set") "__len__"=pure (some (.builtin "set.__len__")):=by rw [Zf,Xh];kernel_rfl
theorem FJ {M:acL}{A:S5}{E:R8->R_->Prop}{s:R_}{α:Type}{c:Prop} [Decidable c] {m1 m2:Sem α}{Q:α->R_->Prop}(hc:c) (h:Sx M A m1 Q E s):Sx M A (if c then m1 else m2) Q E s:=by rw [if_pos hc];exact h
theorem Gm {prog:Su}{w:S3}{A:S5}{E:R8->R_->Prop}{s:R_}{a:Sm}{Q:Bool->R_->Prop}(hT:s.TypeIs (.ref a) "set") (hQ:Q false s):Sx (SE prog w) A (XQ (.ref a)) Q E s:=by
 have sp:splitId "set.__len__"=some ("set","__len__"):=by decide +kernel
 (unfold XQ)
 refine R6 (WS hT yu ?_)
 dsimp -zeta only
 rw [sp]
 dsimp -zeta only
 refine R6 (m:=ab1 (.ref a) (.type "set")) (Wu hT sub_set_self ?_)
 (show Sx _ _ (if (!true)=true then _ else _) _ _ _)
 rw [if_neg (by decide)]
 refine FJ (by decide +kernel) ?_
 (refine R6 (Xd hT ?_))
 exact R9 hQ
theorem qE:Slot "set_iterator" "__iter__" "set_iterator.__iter__":=
 ((.of (owner:="set_iterator") (n:="__iter__") (by rw [Zf,Xh];kernel_rfl) (by decide +kernel) (by decide +kernel) (by decide +kernel)
  ((by first | exact .inl (by decide +kernel) | exact .inr (by decide +kernel))) (by rw [X8];kernel_rfl)))
theorem yp:adk table "set_iterator.__iter__"=some Ww.«dict_keyiterator.__iter__»:=
 (abQ (id':="dict_keyiterator.__iter__") (by kernel_rfl) rfl (by decide +kernel) (by kernel_rfl))
theorem y_ (a:R8):argsOk "set_iterator.__iter__" ⟨[a],[]⟩:=by unfold argsOk;kernel_rfl
section
variable {prog:Su}{w:S3}{A:S5}{E:R8->R_->Prop}{s:R_}
def jq (w:S3) (a ep:Nat) (es:Array (Int×R8)):List R8:=(fP w a ep es).toList.map (·.2)
theorem FH (hh:A.handled=none) (I a:Sm) (hne:a≠I){es:Array (Int×R8)}{ep:Nat}{t:TV}:
  Walks prog w A I [I,a] [I] es.size (λi v=>(jq w a ep es)[i]?=some v) (λi h=>∃slot,h.get? I=some (pD a slot i es.size ep)/\jy h a (oH w) es ep t/\(w.params.followText "set-order"=false->Ws t.place slot=i)) where
 sub:=λ_ hb=>by simp at hb;simp [hb]
 frame:=λ_ _ _ ⟨slot,h1,h2,h3⟩ hk=>⟨slot,hk I (by simp) _ h1,h2.keep λo e=>hk a (by simp) o e,h3⟩
 item:=λi s Q E hi ⟨slot,h1,h2,h3⟩ hQ=>by
  refine GH hne h2 h1 h3 hi λh' slot' e q1 q2 q3 q4=>?_
  refine hQ e.2 h' s.toks ?_ ⟨slot',q2,h2.keep λo e=>?_,q3⟩ λb o hb e=>?_
  ·unfold jq;rw [Sv,Uh,q1];rfl
  ·rw [q4.2 a hne];exact e
  ·exact q4.extBut b o (λh=>hb (by simp [h])) e
 done:=λs Q E ⟨slot,h1,h2,h3⟩ hQ=>Jm hh h2 h1 h3 λh' he=>hQ h' s.toks λb o hb e=>he b o (λh=>hb (by simp [h])) e
 self:=λi s Q E ⟨slot,h1,h2,h3⟩ hQ=>by
  have hT:s.TypeIs (.ref I) "set_iterator":=⟨_,h1,rfl⟩
  refine Yl hT qE (Tc qE hT yp ?_ (y_ _))
  show Sx _ _ (ret (.ref I)) _ _ s
  exact R9 ⟨_,rfl,"set_iterator",_,hT,fN.lookup,hQ⟩
theorem rW {a:Sm}{es:Array (Int×R8)}{ep:Nat}{t:TV}{Q:List R8->R_->Prop}(hh:A.handled=none) (S:jy s.heap a (oH w) es ep t) (hn:es.size<=76)
  (hQ:∀(h':TM) (tk:Nat),(∀b o,s.heap.get? b=some o->h'.get? b=some o)->s.heap.objs.size < h'.objs.size->Q (jq w a ep es) {s with heap:=h',toks:=tk}):Sx (SE prog w) A (collect (.ref a)) Q E s:=by
 have ha:a < s.heap.objs.size:=Sz S.at_
 have hT:s.TypeIs (.ref a) "set":=⟨_,S.at_,rfl⟩
 unfold collect
 (refine R6 (ZH (UG Y_ ?_)))
 (rw [Uc Za _])
 show Sx _ A.in1 (ac4 [] >>= λl=>again (.builtin "list.__iadd__" ⟨[l,.ref a],[]⟩)) _ _ s
 (refine R6 (S8 ?_))
 (refine R9 ⟨VY W5 _,UG aaE ?_⟩)
 (rw [Uc W5 _])
 generalize RB:({cls:=.type "list",data:=.seq ([]:List R8).toArray}:Obj)=l0
 have S1:jy (s.heap.push l0) a (oH w) es ep t:=S.keep λo e=>Sg _ e
 have hT1:YD {s with heap:=s.heap.push l0} (.ref a) "set":=⟨_,S1.at_,rfl⟩
 show Sx _ A.in1 (XR (.ref s.heap.objs.size) (.ref a) (.ref s.heap.objs.size)) _ _ _
 (unfold XR)
 refine R6 (Xd hT1 ?_)
 have h1:ab6 (.ref s.heap.objs.size) (.ref a)=false:=by
  show (s.heap.objs.size == a)=false
  exact beq_eq_false_iff_ne.mpr (VQ ha)
 have h2:(W0 "set" == W0 "list")=false:=by decide
 have h3:(W0 "set" == W0 "tuple")=false:=by decide
 (simp only [h1,h2,h3,Xs,SD,if_false])
 refine R6 (Gs S1 ?_)
 (refine R6 (S_ ?_))
 have z1:(s.heap.push l0).objs.size=s.heap.objs.size + 1:=UC _ _
 rw [z1]
 have S2:jy ((s.heap.push l0).push (pD a 0 0 es.size ep)) a (oH w) es ep t:=S1.keep λo e=>Sg _ e
 have hT2:YD {s with heap:=(s.heap.push l0).push (pD a 0 0 es.size ep)} (.ref a) "set":=⟨_,S2.at_,rfl⟩
 refine Gm hT2 ?_
 refine FJ (by decide +kernel) ?_
 (refine R6 (Wz ?_))
 subst RB
 have hI:((s.heap.push {cls:=.type "list",data:=.seq ([]:List R8).toArray}).push (pD a 0 0 es.size ep)).get? (s.heap.objs.size + 1)=some (pD a 0 0 es.size ep):=by rw [<-z1];exact Sk _ rfl
 have hS₁:((s.heap.push {cls:=.type "list",data:=.seq ([]:List R8).toArray}).push (pD a 0 0 es.size ep)).get? s.heap.objs.size=some {cls:=.type "list",data:=.seq ([]:List R8).toArray}:=Sg _ (Sk _ rfl)
 refine R6 ?_
 (show Sx _ A.in1 (updateSeq s.heap.objs.size (·.push .none) >>= λ_=>updateSeq s.heap.objs.size (·.pop)) _ _ _)
 (refine R6 (XI hS₁ rfl ?_))
 (have hS₂:=TY (U0 (·.push Tq)) hS₁ rfl)
 (refine XI hS₂ rfl ?_)
 (have hS₃:=TY (U0 (·.pop)) hS₂ rfl)
 have oth:∀b o,b≠s.heap.objs.size->((s.heap.push {cls:=.type "list",data:=.seq ([]:List R8).toArray}).push (pD a 0 0 es.size ep)).get? b=some o->
   ((((s.heap.push {cls:=.type "list",data:=.seq ([]:List R8).toArray}).push (pD a 0 0 es.size ep)).update s.heap.objs.size (U0 (·.push Tq))).update s.heap.objs.size (U0 (·.pop))).get? b=some o:=
  (λb o hb e=>(WX _ _ (U_ hb)).trans ((WX _ _ (U_ hb)).trans e))
 have hne:a≠s.heap.objs.size + 1:=SY (Yn ha)
 have hSf:s.heap.objs.size∉[s.heap.objs.size + 1,a]:=by
  simp only [Sn,Tz,or_false,not_or]
  exact ⟨SY (U6 _),VQ ha⟩
 obtain ⟨L,T⟩:=S.tab
 refine R9 ⟨VY F.plain_extend_loop _,codeAny_extend_loopS ((FH (A:=A.in1) (prog:=prog) (w:=w) (es:=es) (ep:=ep) (t:=t) hh (s.heap.objs.size + 1) a hne).toS) (by rw [Ud];omega) _ hSf _ es.size 0 _ _ _ rfl (SJ _)
  ⟨0,oth _ _ (VQ (U6 _)) hI,S2.keep λo e=>oth _ _ (SY ha) e,λ_=>Cr T.sop⟩ hS₃ (ItemsOf.nil _) λs' acc' c' hm hS' hacc=>?_⟩
 (show Sx _ A (load s.heap.objs.size >>= _) _ _ s')
 (refine R6 (abV hS' ?_))
 have eacc:acc'.toList=jq w a ep es:=by
  obtain ⟨z,q⟩:=hacc
  have lw:(jq w a ep es).length=es.size:=by unfold jq;rw [Sa,Sq,mZ]
  refine UN (by rw [Sq,z,lw]) λi x1 x2=>?_
  have this:(jq w a ep es)[i]?=some (acc'[i]'(by simpa using x1)):=q i _ (Vz (by simpa using x1))
  rw [Si x2] at this
  (exact (Tf this).symm)
 refine R9 ?_
 rw [eacc]
 (obtain ⟨h',g',d',tk',os'⟩:=s')
 (have eg:g'=s.gens:=hm.gens)
 (have ed:d'=s.drawn:=hm.drawn)
 have eo:os'=s.os:=hm.os
 subst eg;subst ed;subst eo
 refine hQ h' tk' (λb o e=>?_) (Sz hS')
 have lb:=Sz e
 refine hm.heap b o ?_ (oth b o (SY lb) (Sg _ (Sg _ e)))
 simp only [Sn,Tz,or_false,not_or]
 exact ⟨SY lb,SY (Yn lb)⟩
end
theorem xZ:abr (.type "tuple") (.type "set")=pure false:=by rw [X8];kernel_rfl
theorem xY:abr (.type "tuple") (.type "frozenset")=pure false:=by rw [X8];kernel_rfl
abbrev h_ (led:Bool):Obj:={cls:=.type "set",dict:=none,data:=.set #[] 0 (.fresh 0 0 led)}
abbrev dF (w:S3):Bool:=!w.params.followText "set-order"
section
variable {prog:Su}{w:S3}{A:S5}{E:R8->R_->Prop}{s:R_}{K:R7}{J:Hp}
theorem Hx (a:R8){Q₁:R8->R_->Prop}(h:Q₁ (.ref s.heap.objs.size) {s with heap:=s.heap.push (h_ (dF w))}):
  (U5 (SE prog w) A (.call (.builtin "set.__new__") ⟨[.type "set",a],[]⟩) (wants Q₁ E) s):=by
 refine (XS ?_)
 (show Sx _ A.in1 (do YJ "set.__new__" ⟨[.type "set",a],[]⟩;again (.builtin "set.__new__" ⟨[.type "set",a],[]⟩)) _ _ s)
 refine R6 (V7 (PySem.F.newCall_set_1 a) (R9 ⟨VY abt _,UG F.entry_set_new ?_⟩))
 (rw [Uc abt _])
 (unfold Ww.«set.__new__» abD)
 have hsub:=sub_set_self
 (obtain ⟨hp,g,d,tk,os⟩:=s)
 dsimp only
 wp_walk
 (refine Vo (R9 ?_))
 dsimp only
 simp only [newObj]
 (refine R6 (wpAny_alloc (R9 ?_)))
 exact R9 h
noncomputable def K7 (prog:Su) (w:S3) (A:S5) (E:R8->R_->Prop) (s:R_) (l:Sm) (items:Array R8):Prop:=
 ∃(I:Sm) (fp:List Sm) (St:Nat->R_->Prop) (h2:TM),acD prog w A.in1.in1.in1 I fp [I] (λa b=>b=a) items.size (λi v=>items[i]?=some v) St/\s.heap.objs.size∉fp/\s.heap.objs.size < I/\St 0 {s with heap:=h2}/\(∀b o,(s.heap.push (h_ (dF w))).get? b=some o->h2.get? b=some o)/\
  ∀R:R8->R_->Prop,R (.ref I) {s with heap:=h2}->Sx (SE prog w) A.in1.in1 (XZ (.ref l)) R E {s with heap:=s.heap.push (h_ (dF w))}
theorem Au {l:Sm}{T:String}{ol:Obj}{Q:R8->R_->Prop}{items:Array R8}(P:TM->Prop) (Qq:s.heap.get? l=some ol) (hcl:ol.cls=.type T) (RK:abr (.type T) (.type "set")=pure false) (RJ:abr (.type T) (.type "frozenset")=pure false) (hne:(W0 T == W0 "dict")=false)
  (it:K7 prog w A E s l items)
  (loop:∀{I:Sm}{fp:List Sm}{St:Nat->R_->Prop}{h2:TM}{R:_->R_->Prop},acD prog w A.in1.in1.in1 I fp [I] (λa b=>b=a) items.size (λi v=>items[i]?=some v) St->s.heap.objs.size∉fp->s.heap.objs.size < I->St 0 {s with heap:=h2}->(∀b o,(s.heap.push (h_ (dF w))).get? b=some o->h2.get? b=some o)->
   (∀s',Moved [s.heap.objs.size,I] (λa b=>b=a) {s with heap:=h2} s'->P s'.heap->R (.ok (.ret .none)) s')->U5 (SE prog w) A.in1.in1 (.builtin "set.update.loop" ⟨[.ref s.heap.objs.size,.ref I],[]⟩) R {s with heap:=h2})
  (h:∀(h':TM) (tk:Nat),P h'->(∀b o,b < s.heap.objs.size->s.heap.get? b=some o->h'.get? b=some o)->Q (.ref s.heap.objs.size) {s with heap:=h',toks:=tk}):
  (Sx (SE prog w) A (call (.type "set") [.ref l]) Q E s):=by
 (obtain ⟨c,tl,RC⟩:=V9.mro)
 (have hmade:=V9.made)
 have hsub:=V9.sub
 (refine aao (XS ?_))
 (show Sx _ _ (callAny (.type "set") _) _ _ _)
 (refine R9 ⟨Code.quiet_builtin _ (by decide +kernel),UG F.entry_type_call ?_⟩)
 (rw [Around.under_plain (weight_type_call_type "set" [.ref l] []) rfl])
 (have h1:=V9.notType)
 (have h2:=V9.canCreate)
 have hct:=PySem.F.typeCall_set_1 (.ref l)
 (repeat (any_goals (first | assumption | wp_step)))
 refine VR (Hx (.ref l) (E:=E) (Q₁:=λobj s₁=>obj=.ref s.heap.objs.size/\s₁={s with heap:=s.heap.push (h_ (dF w))}) ⟨rfl,rfl⟩) λr s₁ hr=>?_
 cases r with
 | error e=>exact hr
 | ok fl=>
  cases fl with
  | ret obj=>
   obtain ⟨rfl,rfl⟩:=hr
   have hS:(s.heap.push (h_ (dF w))).get? s.heap.objs.size=some (h_ (dF w)):=Sk _ rfl
   have hT:YD {s with heap:=s.heap.push (h_ (dF w))} (.ref s.heap.objs.size) "set":=⟨_,hS,rfl⟩
   (have hli:=V9.init.lookup)
   (have hbi:=V9.init.bind (.ref s.heap.objs.size))
   (repeat (any_goals (first | assumption | wp_step)))
   refine VR (Zs (R:=wants (λr s₂=>r=.none/\∃h' tk,s₂={s with heap:=h',toks:=tk}/\P h'/\
     (∀b o,b < s.heap.objs.size->s.heap.get? b=some o->h'.get? b=some o)) E) V9.init.plain F.entry_set_init ((check_set_init_1 hT ?_))) λr₂ s₂ hr₂=>?_
   ·have Q7:(s.heap.push (h_ (dF w))).get? l=some ol:=Sg _ Qq
    have RT:YD {s with heap:=s.heap.push (h_ (dF w))} (.ref l) T:=⟨_,Q7,hcl⟩
    (unfold Ww.«set.__init__» noKeywords aa3)
    generalize Rm:XZ=PI
    wp_walk
    subst Rm
    obtain ⟨I,fp,St,h2,W,hSf,hSI,st,hk,hit⟩:=it
    refine hit _ (R6 (ZH (loop W hSf hSI st hk λs' hm hp=>?_)))
    (obtain ⟨h',g',d',tk',os'⟩:=s')
    (have eg:g'=s.gens:=hm.gens)
    (have ed:d'=s.drawn:=hm.drawn)
    have eo:os'=s.os:=hm.os
    subst eg;subst ed;subst eo
    show Sx _ _ _ _ _ _
    refine R9 ?_
    (show Sx _ _ (ret Tq) _ _ _)
    refine R9 ⟨rfl,h',tk',rfl,hp,λb o hb e=>hm.heap b o ?_ (hk b o (Sg _ e))⟩
    simp only [Sn,Tz,or_false,not_or]
    exact ⟨SY hb,SY (V6 hb hSI)⟩
   ·cases r₂ with
    | error e=>exact hr₂
    | ok fl₂=>
     cases fl₂ with
     | ret r=>
      obtain ⟨rfl,h',tk,rfl,hp,hk'⟩:=hr₂
      (repeat (any_goals (first | assumption | wp_step)))
      exact h _ _ hp hk'
     | _=>exact hr₂.elim
  | _=>exact hr.elim
theorem zP {l:Sm}{items:Array R8}(hh:A.handled=none) (hl:s.heap.IsTuple l items):K7 prog w A E s l items:=by
 obtain ⟨ol,Qq,hcl,nl,hdl⟩:=id hl
 have hl1:(s.heap.push (h_ (dF w))).IsTuple l items:=⟨_,Sg _ Qq,hcl,nl,hdl⟩
 have hlS:l < s.heap.objs.size:=Sz Qq
 have z1:(s.heap.push (h_ (dF w))).objs.size=s.heap.objs.size + 1:=UC _ _
 have Q3:l≠(s.heap.push (h_ (dF w))).objs.size:=by rw [z1];exact SY (Yn hlS)
 refine ⟨_,_,_,_,(Walks.tuple (A:=A.in1.in1.in1) (by simp [hh]) (s.heap.push (h_ (dF w))).objs.size l Q3 items).toS,?_,?_,⟨⟨_,Sk _ rfl,rfl,rfl⟩,hl1.push _⟩,λb o e=>Sg _ e,λR q=>X3 hl1 q⟩
 ·rw [z1]
  simp only [Sn,Tz,or_false,not_or]
  exact ⟨SY (U6 _),VQ hlS⟩
 ·rw [z1];exact U6 _
theorem L3 {items:Array R8}{ds:List D}(N:HF K J s) (hz:items.size=ds.length) (hi:∀i v,items[i]?=some v->KV K J v (ds.getD i .non)) (hn:ds.length<=76) (hu:A.units + 16 < Uu){I:Sm}{fp:List Sm}{St:Nat->R_->Prop}{h2:TM}{R:_->R_->Prop}(W:acD prog w A.in1.in1.in1 I fp [I] (λa b=>b=a) items.size (λi v=>items[i]?=some v) St) (hSf:s.heap.objs.size∉fp) (hSI:s.heap.objs.size < I) (st:St 0 {s with heap:=h2})
  (hk:∀b o,(s.heap.push (h_ (dF w))).get? b=some o->h2.get? b=some o) (hR:∀s',Moved [s.heap.objs.size,I] (λa b=>b=a) {s with heap:=h2} s'->(∃ks es ep t,iA K J s'.heap s.heap.objs.size (dF w) ks es ep t/\∀d,d∈ks↔d∈ds)->R (.ok (.ret .none)) s'):U5 (SE prog w) A.in1.in1 (.builtin "set.update.loop" ⟨[.ref s.heap.objs.size,.ref I],[]⟩) R {s with heap:=h2}:=by
 have all:(Sh items.size).map (λi=>ds.getD i .non)=ds:=by
  refine UN (by simp [hz]) λi a b=>?_
  simp [b]
 have hno:∀b,s.heap.objs.size<=b->s.heap.get? b=none:=λb hb=>by
  cases q:s.heap.get? b with
  | none=>rfl
  | some o=>exact absurd (Sz q) (Nat.not_lt.mpr hb)
 refine HG (A:=A.in1.in1) (K:=K) (J:=J) (s0:=s) (led:=dF w) W s.heap.objs.size hSf (λi=>ds.getD i .non) hi N (λb hb=>hno b ?_) (by simp only [in1_units];omega) (by omega) items.size 0 _ [] #[] 0 (.fresh 0 0 (dF w)) (by omega) (SJ _) st (λb o e=>hk b o (Sg _ e)) (Dn (hk _ _ (Sk _ rfl))) (λd=>by simp) λs' ks es ep t hm hS' hmem=>hR s' hm ⟨ks,es,ep,t,hS',by rw [all] at hmem;exact hmem⟩
 rcases Sn.mp hb with rfl | hb
 ·exact Sj _
 ·rw [Ss.mp hb];exact Xc hSI
theorem Aw {l:Sm}{items:Array R8}{ds:List D}{Q:R8->R_->Prop}(N:HF K J s) (hh:A.handled=none) (hl:s.heap.IsTuple l items) (hz:items.size=ds.length) (hi:∀i v,items[i]?=some v->KV K J v (ds.getD i .non)) (hn:ds.length<=76) (hu:A.units + 16 < Uu)
  (h:∀(h':TM) (tk:Nat) ks es ep t,iA K J h' s.heap.objs.size (dF w) ks es ep t->(∀d,d∈ks↔d∈ds)->(∀b o,b < s.heap.objs.size->s.heap.get? b=some o->h'.get? b=some o)->Q (.ref s.heap.objs.size) {s with heap:=h',toks:=tk}):
  (Sx (SE prog w) A (call (.type "set") [.ref l]) Q E s):=by
 obtain ⟨ol,Qq,hcl,_⟩:=id hl
 exact Au (λh'=>∃ks es ep t,iA K J h' s.heap.objs.size (dF w) ks es ep t/\∀d,d∈ks↔d∈ds) Qq hcl xZ xY (by decide) (zP hh hl) (λW a b c d e=>L3 N hz hi hn hu W a b c d e) λh' tk ⟨ks,es,ep,t,a,b⟩=>h h' tk ks es ep t a b
end
end DL
namespace DL
open PySem PySem.Spec PyProof.Rows L2 ST
open PySem.W (KasT kas_sort kas_ask)
mutual
noncomputable def formOf:D->Fm
 | .int _=>.i
 | .tup xs=>Br xs
 | _=>.b
noncomputable def Br:List D->Fm
 | []=>.tn
 | x::xs=>.tc (formOf x) (Br xs)
end
noncomputable def qR:Fm->D->Bool
 | .i,.int _=>true
 | .tn,.tup xs=>xs.isEmpty
 | .tc x r,.tup (y::ys)=>qR x y && qR r (.tup ys)
 | _,_=>false
theorem s_:∀(f:Fm) (d:D),qR f d=true->iy f d
 | .i,.int k,_=>⟨k,rfl⟩
 | .tn,.tup [],_=>⟨[],rfl,rfl⟩
 | .tc x r,.tup (y::ys),h=>by
  unfold qR at h
  rw [Sf] at h
  exact ⟨_,rfl,y,ys,rfl,s_ x y h.1,s_ r (.tup ys) h.2⟩
noncomputable def Io:List D->Bool
 | []=>true
 | d::r=>(match gH d with
  | some k=>gz k (d::r)
  | none=>false) && (d::r).all (qR (formOf d))
def qo (ds:List D):Bool:=decide (ds.length < 64) && (areKeys ds && (decide (deps ds<=8) && Io ds))
theorem GL {ds:List D}(h:Io ds=true):∃k f,∀d∈ds,gH d=some k/\iy f d:=by
 cases ds with
 | nil=>exact ⟨.i,.i,λ_ h=>nomatch h⟩
 | cons d r=>
  unfold Io at h
  rw [Sf] at h
  cases q:gH d with
  | none=>rw [q] at h;cases h.1
  | some k=>
   rw [q] at h
   exact ⟨k,formOf d,λx hx=>⟨lP h.1 x hx,s_ _ _ (SW.mp h.2 x hx)⟩⟩
theorem sW {n:Nat}:∀{ds:List D},deps ds<=n->∀d∈ds,dep d<=n
 | [],_,_,h=>nomatch h
 | x::r,hn,d,h=>by
  unfold deps at hn
  (rcases Sn.mp h with rfl | h)
  ·omega
  ·exact sW (ds:=r) (by omega) d h
theorem nZ {k:Hd}:∀{ds:List D},(∀d∈ds,gH d=some k)->gz k ds=true
 | [],_=>rfl
 | x::r,h=>by
  unfold gz
  rw [h x (Se ..),nZ λd hd=>h d (Sd _ hd)]
  cases k <;> rfl
structure Ob (ds:List D) (k:Hd) (f:Fm):Prop where
 ln:ds.length < 64
 ky:areKeys ds=true
 dp:deps ds<=8
 al:∀d∈ds,gH d=some k/\iy f d
theorem Ae {ds:List D}(h:qo ds=true):∃k f,Ob ds k f:=by
 unfold qo at h
 rw [Sf,Sf,Sf] at h
 obtain ⟨h1,h2,h3,h4⟩:=h
 obtain ⟨k,f,h5⟩:=GL h4
 exact ⟨k,f,of_decide_eq_true h1,h2,of_decide_eq_true h3,h5⟩
abbrev oX (X:Cx) (H0:Hp) (a:Sm) (ds:List D):HO:=.ext λh=>∃ks es ep t,iA X.K H0 h a (dF X.w) ks es ep t/\∀d,d∈ks↔d∈ds
section
variable {X:Cx}
theorem Nn {K:R7}{J:Hp}{k:Hd}{f:Fm}{ds:List D}{vs:List V}{us:List R8}(o:Ob ds k f) (rs:aK K J ds vs) (rv:Vals vs us):∀i v,us.toArray[i]?=some v->KV K J v (ds.getD i .non):=λi v q=>by
 have l1:vs.length=us.length:=rv.length
 have l2:ds.length=vs.length:=rs.length
 have hi:i < us.length:=by
  have:=(TZ.mp q).1
  simpa using this
 have e:us.getD i Tq=v:=by
  simp at q
  simp [Zg,q]
 have r1:=iG rs (i:=i) (by omega)
 have r2:=iJ rv (i:=i) (by omega)
 rw [e] at r2
 have m:=gQ (ds:=ds) (i:=i) (by omega)
 refine ⟨?_,rV o.ky _ m,sW o.dp _ m,_,r1,r2⟩
 have hh:=(o.al _ m).1
 generalize dw ds i=d at r1 hh
 generalize vs.getD i V.non=vv at r1 r2
 cases d with
 | tup xs=>cases r1 with
  | tup _ _=>cases r2;exact ⟨_,rfl⟩
 | _=>cases hh
theorem D4 (hu:X.A.units + 64 < Uu) (hc:X.calm=true):b9 X (.type "set") (λxs H Q=>∃p vs ds J0,xs=[.ref p]/\cZ X.K H p vs/\aT J0 H/\aK X.K J0 ds vs/\qo ds=true/\∀l,H l=none->Q (.ref l) (upd H l (oX X J0 l ds))):=by
 intro RX s σ H xs us Q I r h
 obtain ⟨p,vs,ds,J0,rfl,hq,sm,rs,oks,q⟩:=h
 obtain ⟨u,rfl,rx⟩:=vals1 r
 cases rx
 obtain ⟨k,f,o⟩:=Ae oks
 have N:HF X.K J0 s:=HF.of (c:=⟨X.K,H,H,λ_=>True⟩) I sm
 obtain ⟨RY,r',pt,hz⟩:=I.tuple hq
 refine Aw N (I.ok.hd hc) pt (by simp [<-r'.length,rs.length]) (Nn o rs r') (by have:=o.ln;omega) (by omega) λh' tk ks es ep t S hm kp=>?_
 exact ⟨.ref s.heap.objs.size,_,I.laid (t':=tk) (λb o e=>kp b o (Sz e) e) (Sj _) (show cP X.prog X.w _ _ _ (oX X J0 s.heap.objs.size ds) from ⟨⟨ks,es,ep,t,S,hm⟩,⟨_,S.at_⟩,λh1 h2 ⟨ks,es,ep,t,S,hm⟩ e=>⟨ks,es,ep,t,S.keep e,hm⟩⟩),rfl,q _ (I.hok.fresh (Sj _))⟩
end
noncomputable def dd:List D->List D
 | []=>[]
 | x::xs=>if (dd xs).any (bu x)=true then dd xs else x::dd xs
def cY (ds:List D):List D:=bF (dd ds)
section
variable {P:D->Prop}
theorem yC (p:fV P):∀(ds:List D),(∀x∈ds,P x)->(dd ds).Nodup/\∀y,y∈dd ds↔y∈ds
 | [],_=>⟨Vd,λ_=>.rfl⟩
 | x::xs,h=>by
  obtain ⟨h1,h2⟩:=yC p xs λy hy=>h y (Sd _ hy)
  have px:=h x (Se ..)
  have eqv:(dd xs).any (bu x)=true↔x∈xs:=by
   rw [U7]
   constructor
   ·rintro ⟨z,hz,e⟩
    have hz':=(h2 z).mp hz
    rw [(p.eq x z px (h z (Sd _ hz'))).mp e]
    exact hz'
   ·intro hx
    exact ⟨x,(h2 x).mpr hx,(p.eq x x px px).mpr rfl⟩
  unfold dd
  by_cases c:(dd xs).any (bu x)=true
  ·rw [if_pos c]
   refine ⟨h1,λy=>?_⟩
   rw [h2 y,Sn]
   exact ⟨.inr,λz=>z.elim (λe=>e▸eqv.mp c) id⟩
  ·rw [if_neg c]
   refine ⟨Uq.mpr ⟨λz=>c (eqv.mpr ((h2 x).mp z)),h1⟩,λy=>?_⟩
   rw [Sn,Sn,h2 y]
theorem AH (p:fV P):∀{A B:List D},(∀x∈A,P x)->A.Pairwise (λa b=>d9 a b=true)->B.Pairwise (λa b=>d9 a b=true)->(∀y,y∈A↔y∈B)->A=B
 | [],[],_,_,_,_=>rfl
 | [],b::B,_,_,_,h=>by cases (h b).mpr Se
 | a::A,[],_,_,_,h=>by cases (h a).mp Se
 | a::A,b::B,hp,hA,hB,h=>by
  obtain ⟨a1,a2⟩:=U3.mp hA
  obtain ⟨b1,b2⟩:=U3.mp hB
  have pa:=hp a Se
  have pb:=hp b ((h b).mpr Se)
  have no:∀z,P z->d9 z z=true->False:=λz pz q=>by
   have:=p.asy z z pz pz q
   rw [q] at this;cases this
  have e:a=b:=by
   rcases Sn.mp ((h a).mp Se) with e | e
   ·exact e
   ·rcases Sn.mp ((h b).mpr Se) with f | f
    ·exact f.symm
    ·exact (no a pa (p.tra _ _ _ pa pb pa (a1 b f) (b1 a e))).elim
  subst e
  have:A=B:=by
   refine AH p (λx hx=>hp x (Sd _ hx)) a2 b2 λy=>⟨λhy=>?_,λhy=>?_⟩
   ·rcases Sn.mp ((h y).mp (Sd _ hy)) with e | e
    ·subst e;exact (no y pa (a1 y hy)).elim
    ·exact e
   ·rcases Sn.mp ((h y).mpr (Sd _ hy)) with e | e
    ·subst e;exact (no y pa (b1 y hy)).elim
    ·exact e
  rw [this]
theorem nT (p:fV P){ds:List D}(h:∀x∈ds,P x) (nd:ds.Nodup):(bF ds).Pairwise λa b=>d9 a b=true:=by
 have up:=Hy p ds h
 have pm:=gU ds
 have nd':(bF ds).Nodup:=pm.nodup_iff.mpr nd
 have both:=adq up nd'
 refine (UW.mp both).imp ?_
 rintro a b ⟨ha,hb,h1,h2⟩
 cases q:d9 a b with
 | true=>rfl
 | false=>exact absurd (p.tri a b (h a (pm.mem_iff.mp ha)) (h b (pm.mem_iff.mp hb)) q h1) h2
theorem Az (p:fV P){ds ks:List D}(h:∀x∈ds,P x) (nd:ks.Nodup) (hm:∀d,d∈ks↔d∈ds):bF ks=cY ds:=by
 obtain ⟨h1,h2⟩:=yC p ds h
 have hk:∀x∈ks,P x:=λx hx=>h x ((hm x).mp hx)
 have hd:∀x∈dd ds,P x:=λx hx=>h x ((h2 x).mp hx)
 exact AH p (λx hx=>hk x ((gU ks).mem_iff.mp hx)) (nT p hk nd) (nT p hd h1) λy=>by
  rw [(gU ks).mem_iff,hm y]
  show _↔y∈bF (dd ds)
  rw [(gU (dd ds)).mem_iff,h2 y]
theorem lE (p:fV P){ds:List D}(h:∀x∈ds,P x):(cY ds).Pairwise (λa b=>d9 a b=true)/\∀d,d∈cY ds↔d∈ds:=by
 obtain ⟨h1,h2⟩:=yC p ds h
 exact ⟨nT p (λx hx=>h x ((h2 x).mp hx)) h1,λd=>by show d∈bF (dd ds)↔_;rw [(gU (dd ds)).mem_iff,h2 d]⟩
end
theorem fD.reps {K:R7}{J:Hp}{es:List (Int×R8)}{ks:List D}(h:fD K J es ks):∃vs,aK K J ks vs/\Vals vs (es.map (·.2)):=by
 induction h with
 | nil=>exact ⟨_,.nil,.nil⟩
 | cons _ hk _ ih=>
  obtain ⟨vs,h1,h2⟩:=ih
  obtain ⟨_,_,_,v,r,rv⟩:=hk
  exact ⟨v::vs,.cons r h1,.cons rv h2⟩
section
variable {X:Cx}
theorem Cu (hu:X.A.units + 64 < Uu) (hc:X.calm=true):b9 X (.builtin "sorted") (λxs H Q=>∃p ds J0,xs=[.ref p]/\H p=some (oX X J0 p ds)/\aT J0 H/\qo ds=true/\∀l vs',H l=none->aK X.K J0 (cY ds) vs'->Q (.ref l) (upd H l (.lst vs'))):=by
 intro RX s σ H xs us Q I r h
 obtain ⟨p,ds,J0,rfl,hp,sm,oks,q⟩:=h
 obtain ⟨u,rfl,rx⟩:=vals1 r
 cases rx
 obtain ⟨k,f,o⟩:=Ae oks
 have hh:X.A.handled=none:=I.ok.hd hc
 have N:HF X.K J0 s:=HF.of (c:=⟨X.K,H,H,λ_=>True⟩) I sm
 obtain ⟨⟨ks,es,ep,t,S,hm⟩,_⟩:=(show cP X.prog X.w H s.heap p (oX X J0 p ds) from I.hok p _ hp)
 obtain ⟨ks',pm,en'⟩:=S.en.perm (mY X.w p ep es).symm
 have nd':ks'.Nodup:=pm.nodup_iff.mp S.nd
 have hm':∀d,d∈ks'↔d∈ds:=λd=>by rw [<-pm.mem_iff,hm d]
 obtain ⟨vs,rs,rv⟩:=en'.reps
 have hv:jq X.w p ep es=(fP X.w p ep es).toList.map (·.2):=rfl
 rw [<-hv] at rv
 generalize hits:jq X.w p ep es=RY at rv
 have l1:vs.length=RY.length:=rv.length
 have l2:ks'.length=vs.length:=rs.length
 have len:ks'.length<=ds.length:=SH nd' λd hd=>(hm' d).mp hd
 have l64:=o.ln
 have les:es.size=ks'.length:=by rw [<-Sq,S.en.length,pm.length_eq]
 have out:=Az (eE f) (λx hx=>(o.al x hx).2) nd' hm'
 refine mK I (λE C h=>rW hh S.wk (by omega) λh1 tk k1 le=>hits▸h h1 tk k1 (Xc le)) rv l2 (by omega) (DQ (N.keep λ_ _ e=>e) rs rv (k:=k) (λd hd=>⟨(o.al d ((hm' d).mp hd)).1,S7 (sW o.dp d ((hm' d).mp hd)) (by decide)⟩) (nZ λd hd=>(o.al d ((hm' d).mp hd)).1) (λx hx y hy=>(eE f).lt _ _ (o.al _ ((hm' x).mp hx)).2 (o.al _ ((hm' y).mp hy)).2) hu) λl vs' hl rr=>q l vs' hl (out▸rr _ rs)
end
end DL
namespace DL
open PySem PySem.Spec PyProof.Rows L2 ST
end DL
namespace DL
open PySem PySem.Spec PyProof.Rows L2 DX
end DL
namespace DL
open PySem PySem.Spec PyProof.Rows L2 ST PySem.SetTable
section
variable {t:TV}{es:Array (Int×R8)}{L:List (Nat×Int×R8)}
theorem uT (T:Tab t es L) (h:Int) (n0:Nat) (hf:pos t.mask h n0∉L.map (·.1)) (hb:∀m,m < n0->pos t.mask h m∈L.map (·.1)):
  ∀(d n F:Nat),n0 - n=d->n<=n0->d < F->probe.go t (λ_=>h + 1) h F (st t.mask h n)=some (.empty (pos t.mask h n0) none)
 | d,n,0,_,_,h=>absurd h (TR _)
 | d,n,F + 1,hd,hn,hF=>by
  by_cases c:n=n0
  ·subst c
   unfold probe.go
   rw [vh T.dm (by rw [T.pl];exact hf)]
   show some (Met.empty _ (st t.mask h n).dummy)=_
   rw [oZ]
  ·obtain ⟨e,he,ej⟩:=Sb.mp (hb n (by omega))
   obtain ⟨i,hi,rfl⟩:=TL.mp he
   have hs:t.slot (pos t.mask h n)=.live i:=qD T.sop (by rw [(T.at_ (Si hi)).1,ej])
   have eg:probe.go t (λ_=>h + 1) h (F + 1) (st t.mask h n)=probe.go t (λ_=>h + 1) h F (st t.mask h (n + 1)):=by
    rw [probe.go,hs]
    show (if (h + 1 == h)=true then _ else _)=_
    rw [if_neg (by rw [beq_iff_eq];omega)]
    rfl
   rw [eg]
   exact uT T h n0 hf hb (n0 - (n + 1)) (n + 1) F rfl (by omega) (by omega)
theorem Em (T:Tab t es L) (h:Int) (n0:Nat) (hf:pos t.mask h n0∉L.map (·.1)) (hb:∀m,m < n0->pos t.mask h m∈L.map (·.1)) (hn0:n0<=10 * (t.mask + 12)):t.freeSlot h=some (pos t.mask h n0,false):=by
 have e:t.probe (λ_=>h + 1) h (t.probeStart h)=some (.empty (pos t.mask h n0) none):=uT T h n0 hf hb n0 0 (10 * turns t.mask) rfl (SJ _) (by unfold turns;omega)
 unfold SetTable.freeSlot
 rw [e]
 rfl
theorem JH (T:Tab t es L) (h:Int) (x:R8) (n0:Nat) (hf:pos t.mask h n0∉L.map (·.1)) (hb:∀m,m < n0->pos t.mask h m∈L.map (·.1)) (hn0:n0<=10 * (t.mask + 12)) (hl:L.length + 1<=t.mask):
  layNew t es h x=(insertAt es (t.put (pos t.mask h n0)).2 (h,x),(t.put (pos t.mask h n0)).1,false,false):=by
 obtain ⟨L',T',_⟩:=T.put h x n0 hf hb (Ag _ _ _) hl
 have fit:=cT T'
 unfold layNew
 rw [Em T h n0 hf hb hn0]
 dsimp only
 unfold SetTable.orStandIn
 rw [fit]
 rfl
theorem Gx {mask finger moves:Nat}{led plain:Bool}{t':TV}{R5:Array Nat}(hm:lM mask) (hl:es.size<=mask) (e:laid mask finger moves led plain (es.map (·.1))=some (t',R5)):R5.toList.Perm (Sh es.size):=by
 obtain ⟨owner,G,e0,O⟩:=EG hm (es.map (·.1)) (by simpa using hl)
 have hlen:G.length=es.size:=by rw [O.ln];simp
 (let live:=(Sh (mask + 1)).filterMap λj=>(owner.getD j none).map (j,·))
 have lv:∀p,p∈live↔p.1∈G/\p.2=G.idxOf p.1:=λp=>by
  show p∈(Sh (mask + 1)).filterMap _↔_
  rw [WC]
  constructor
  ·rintro ⟨j,hj,q⟩
   have hj':j<=mask:=by have:=Sy.mp hj;omega
   rw [O.at_ j hj'] at q
   by_cases c:j∈G
   ·rw [if_pos c] at q
    have q:(j,G.idxOf j)=p:=by simpa using q
    subst q
    exact ⟨c,rfl⟩
   ·rw [if_neg c] at q;exact absurd q (by simp)
  ·rintro ⟨h1,h2⟩
   refine ⟨p.1,Sy.mpr (by have:=O.bd _ h1;omega),?_⟩
   rw [O.at_ _ (O.bd _ h1),if_pos h1]
   show some (p.1,G.idxOf p.1)=some p
   rw [<-h2]
 have so1:live.Pairwise λa b=>a.1 < b.1:=by
  show ((Sh (mask + 1)).filterMap _).Pairwise _
  rw [YC]
  refine Vj.imp ?_
  intro a b hab x hx y hy
  cases q1:owner.getD a none with
  | none=>rw [q1] at hx;exact absurd hx (by simp)
  | some k1=>cases q2:owner.getD b none with
   | none=>rw [q2] at hy;exact absurd hy (by simp)
   | some k2=>
    rw [q1] at hx;rw [q2] at hy
    have hx:(a,k1)=x:=by simpa using hx
    have hy:(b,k2)=y:=by simpa using hy
    subst hx;subst hy;exact hab
 have ord:(live.map (·.2)).Perm (Sh es.size):=by
  rw [Wk _ Uw]
  ·intro k
   rw [Sb,Sy]
   constructor
   ·rintro ⟨p,hp,rfl⟩
    obtain ⟨h1,h2⟩:=(lv p).mp hp
    rw [h2,<-hlen]
    exact TU h1
   ·intro hk
    rw [<-hlen] at hk
    exact ⟨(G[k],k),(lv _).mpr ⟨SK _,(O.nd.idxOf_getElem k hk).symm⟩,rfl⟩
  ·show (live.map (·.2)).Pairwise _
   rw [S9]
   refine (UW.mp so1).imp ?_
   rintro a b ⟨ha,hb,hab⟩ z
   obtain ⟨a1,a2⟩:=(lv a).mp ha
   obtain ⟨b1,b2⟩:=(lv b).mp hb
   rw [a2,b2] at z
   have ga:=V4 (TU a1)
   have gb:=V4 (TU b1)
   have:a.1=b.1:=by
    rw [<-ga,<-gb]
    congr 1
   omega
 unfold laid at e
 rw [e0] at e
 have e1:(live.map (·.2)).toArray=R5:=by
  have:=Tf e
  exact congrArg Xa this
 rw [<-e1]
 exact ord
theorem Fe {w:Nat}(hm:lM (sizeAbove w - 1)) (hl:es.size<=sizeAbove w - 1):∃t' es' L',relayAll t es w=(es',t',false)/\t'.mask=sizeAbove w - 1/\t'.led=t.led/\t'.plain=t.plain/\Tab t' es' L'/\es'.toList.Perm es.toList:=by
 obtain ⟨t',R5,L',e1,e2,e3,e4,e5,e6⟩:=xG (t:=t) (es:=es) hm hl
 have od:R5.toList.Perm (Sh es.size):=Gx hm hl e1
 refine ⟨t',R5.filterMap (es[·]?),L',?_,e2,e3,e4,e5,e6⟩
 unfold relayAll
 rw [e1]
 dsimp only
 have c1:coversAll R5 es.size=true:=by unfold coversAll;exact List.isPerm_iff.mpr od
 rw [c1,cT e5]
 rfl
end
end DL
namespace DL
open PySem PySem.Spec PyProof.Rows L2 ST
inductive fh:List (Int×R8)->List Int->Prop
 | nil:fh [] []
 | cons {i:Int}{k:Tok}{es:List (Int×R8)}{ns:List Int}:fh es ns->fh ((Wl i,.int i k)::es) (i::ns)
theorem fh.perm {es es':List (Int×R8)}(p:es.Perm es'):∀{ns:List Int},fh es ns->∃ns',ns.Perm ns'/\fh es' ns':=by
 induction p with
 | nil=>intro ns h;exact ⟨ns,.refl _,h⟩
 | cons x _ ih=>
  intro ns h
  cases h with
  | cons h3=>obtain ⟨ns',a,b⟩:=ih h3;exact ⟨_,a.cons _,.cons b⟩
 | swap x y l=>
  intro ns h
  cases h with
  | cons h3=>cases h3 with
   | cons h6=>exact ⟨_,.swap _ _ _,.cons (.cons h6)⟩
 | trans _ _ ih1 ih2=>
  intro ns h
  obtain ⟨k1,a,b⟩:=ih1 h
  obtain ⟨k2,c,d⟩:=ih2 b
  exact ⟨k2,a.trans c,d⟩
theorem fh.length {es:List (Int×R8)}{ns:List Int}(h:fh es ns):es.length=ns.length:=by
 induction h with
 | nil=>rfl
 | cons _ ih=>simp [ih]
structure i9 (h:TM) (a:Sm) (led:Bool) (ns:List Int) (es:Array (Int×R8)) (ep:Nat) (t:TV):Prop where
 at_:h.get? a=some {cls:=.type "set",dict:=none,data:=.set es ep t}
 tab:∃L,Tab t es L
 pl:t.plain=true
 ld:t.led=led
 rm:ns.length * 5 < t.mask * 3
 en:fh es.toList ns
 nd:ns.Nodup
section
variable {w:S3}{prog:Su}{E:R8->R_->Prop}{A:S5}{s:R_}
theorem fh.elems {es:List (Int×R8)}{ns:List Int}(h:fh es ns):ElemsOf (aan prog w) es:=by
 induction h with
 | nil=>exact λe he=>nomatch he
 | @cons i k es ns _ ih=>
  intro e he
  (rcases Sn.mp he with rfl | he)
  ·exact ⟨⟨i,ab7 _ _ _ _,rfl⟩,rfl⟩
  ·exact ih e he
theorem fh.find {es:List (Int×R8)}{ns:List Int}(h:fh es ns) (i:Int):(es.findIdx? λe=>(aan prog w).is i e.2)=none↔i∉ns:=by
 rw [List.findIdx?_eq_none_iff]
 induction h with
 | nil=>simp
 | @cons j k es ns _ ih=>
  rw [Sn,not_or,<-ih]
  have e:(aan prog w).is i (.int j k)=decide (i=j):=KeyKind.is_eq_decide (ab7 prog w j k) i
  constructor
  ·intro h
   refine ⟨λz=>?_,λx hx=>h x (Sd _ hx)⟩
   have:=h _ Se
   rw [e,z] at this
   simp at this
  ·rintro ⟨h1,h2⟩ x hx
   (rcases Sn.mp hx with rfl | hx)
   ·rw [e];simpa using h1
   ·exact h2 x hx
theorem add_int {a:Sm}{es:Array (Int×R8)}{ep:Nat}{t:TV}{led:Bool}{ns:List Int}{i:Int}{k:Tok}{Q:Bool->R_->Prop}(S:i9 s.heap a led ns es ep t) (hl:ns.length < 76)
  (q1:i∈ns->Q false s) (q2:i∉ns->∀(h':TM) ns' es' ep' t',Tu a s.heap h'->(i::ns).Perm ns'->i9 h' a led ns' es' ep' t'->Q true {s with heap:=h'}):
  Sx (SE prog w) A (Ze a (.int i k) (Wl i)) Q E s:=by
 obtain ⟨L,T⟩:=S.tab
 have lenL:L.length=ns.length:=by rw [nU T,<-Sq,S.en.length]
 have hes:es.size=ns.length:=by rw [<-Sq,S.en.length]
 obtain ⟨n0,b1,b2,b3⟩:=uz T.mo (Wl i) (L.map (·.1)) (by rw [Sa];exact T.fl)
 (unfold Ze abP)
 refine S_ (R6 (Uy S.at_ rfl (cT T) ?_))
 dsimp only
 have sc:byScan (.int i k) es=true:=byScan_of (prog:=prog) (w:=w) (knd:=aan prog w) rfl (by unfold scanBound;omega) S.en.elems
 rw [sc]
 simp only [if_true]
 unfold setAddByScan
 refine R6 ?_
 (refine R6 (Wz ?_))
 refine R6 (wpAny_setScan_of (knd:=aan prog w) (k:=i) (ab7 _ _ _ _) S.at_ rfl (cT T) S.en.elems ?_)
 cases hr:List.findIdx? (λe=>(aan prog w).is i e.2) es.toList with
 | some j=>
  dsimp only
  have hin:i∈ns:=Ua λz=>by
   have:=(S.en.find (prog:=prog) (w:=w) i).mpr z
   rw [hr] at this;cases this
  exact R9 (R9 (q1 hin))
 | none=>
  dsimp only
  have hm:i∉ns:=(S.en.find i).mp hr
  have rm:=S.rm
  have ln:=JH T (Wl i) (.int i k) n0 b2 b3 b1 (by rcases T.mo with h | h | h <;> rw [h] at rm ⊢ <;> omega)
  rw [ln]
  dsimp only
  (refine R6 (V7 (a:=()) rfl ?_))
  obtain ⟨L',T',pm⟩:=T.put (Wl i) (.int i k) n0 b2 b3 (Ag _ _ _) (by rcases T.mo with h | h | h <;> rw [h] at rm ⊢ <;> omega)
  have fl:(t.put (pos t.mask (Wl i) n0)).1.mask=t.mask/\(t.put (pos t.mask (Wl i) n0)).1.plain=t.plain/\(t.put (pos t.mask (Wl i) n0)).1.led=t.led:=⟨rfl,rfl,rfl⟩
  generalize t.put (pos t.mask (Wl i) n0)=tp at T' fl ⊢
  obtain ⟨t',p⟩:=tp
  dsimp only at T' fl ⊢
  obtain ⟨f1,f2,f3⟩:=fl
  obtain ⟨ns',p1,p2⟩:∃ns',(i::ns).Perm ns'/\fh (Uz es p (Wl i,.int i k)).toList ns':=by
   refine fh.perm (es:=(Wl i,.int i k)::es.toList) ?_ (.cons S.en)
   rw [T'.en,T.en]
   exact (pm.map (·.2)).symm
  have nd':ns'.Nodup:=p1.nodup_iff.mp (Uq.mpr ⟨hm,S.nd⟩)
  have lk:ns'.length=ns.length + 1:=by rw [<-p1.length_eq];rfl
  rw [f2,S.pl]
  simp only [if_true]
  (refine R6 (V7 (a:=true) rfl ?_))
  simp only [if_true]
  have esz:(Uz es p (Wl i,aa4 i k)).size=ns'.length:=by rw [<-Sq,p2.length]
  refine R6 (W7 S.at_ rfl ?_ (by rw [esz,Ud];omega))
  have hg:=TY (Yk (Uz es p (Wl i,.int i k)) t') S.at_ rfl
  have hfill:t'.fill=ns'.length:=by
   unfold aai
   rw [T'.dm,<-Sq,T'.pl,Sa,nU T',esz]
   rfl
  split
  ·rename_i c
   simp only [W9,Vs] at c
   unfold Xo at c
   rw [hfill,f1,decide_eq_true_eq] at c
   have hW:(UH (W_ ns'.length)=32/\ns'.length=5)\/(UH (W_ ns'.length)=128/\ns'.length=19):=by
    unfold W_
    rw [if_neg (by omega)]
    rcases T.mo with h | h | h
    ·rw [h] at c rm
     have:ns'.length=5:=by omega
     rw [this]
     exact .inl ⟨Bb,rfl⟩
    ·rw [h] at c rm
     have:ns'.length=19:=by omega
     rw [this]
     exact .inr ⟨Bc,rfl⟩
    ·rw [h] at c;omega
   have hmo:lM (UH (W_ ns'.length) - 1):=by rcases hW with ⟨h,_⟩ | ⟨h,_⟩ <;> rw [h];exact .inr (.inl rfl);exact .inr (.inr rfl)
   rw [esz]
   obtain ⟨t2,es2,L2,g1,g2',g3,g4,g5,g6⟩:=Fe (t:=t') (es:=Uz es p (Wl i,.int i k)) hmo (by rw [esz];rcases hW with ⟨h,h'⟩ | ⟨h,h'⟩ <;> rw [h] <;> omega)
   rw [g1]
   dsimp only
   (refine R6 (V7 (a:=()) rfl ?_))
   obtain ⟨ns2,r1,r2⟩:=p2.perm g6.symm
   have es2z:es2.size=ns'.length:=by rw [<-Sq,r2.length,r1.length_eq]
   refine R6 (W7 (s:={s with heap:=s.heap.update a (Yk (Uz es p (Wl i,.int i k)) t')}) hg rfl ?_ (by rw [es2z,Ud];omega))
   have QH:=TY (Yk es2 t2) hg rfl
   refine R9 (R9 (q2 hm _ ns2 _ _ _ ((T3 _ _ _).trans (T3 _ _ _)) (p1.trans r1) ⟨QH,⟨L2,g5⟩,g4.trans (f2.trans S.pl),g3.trans (f3.trans S.ld),?_,r2,r1.nodup_iff.mp nd'⟩))
   rw [<-r1.length_eq,g2']
   rcases hW with ⟨h,h'⟩ | ⟨h,h'⟩ <;> rw [h,h'] <;> omega
  ·rename_i c
   simp only [W9,Vs] at c
   unfold Xo at c
   rw [hfill,f1,decide_eq_true_eq] at c
   exact R9 (R9 (q2 hm _ ns' _ _ _ (T3 _ _ _) p1 ⟨hg,⟨L',T'⟩,f2.trans S.pl,f3.trans S.ld,by rw [f1];omega,p2,nd'⟩))
end
theorem i9.keep {h h':TM}{a:Sm}{led:Bool}{ns:List Int}{es:Array (Int×R8)}{ep:Nat}{t:TV}(S:i9 h a led ns es ep t) (e:∀o,h.get? a=some o->h'.get? a=some o):i9 h' a led ns es ep t:=
 ⟨e _ S.at_,S.tab,S.pl,S.ld,S.rm,S.en,S.nd⟩
section
variable {w:S3}{prog:Su}{R:aa7->R_->Prop}{A:S5}{I:Sm}{fp wr:List Sm}{G:Array ZW->Array ZW->Prop}{n:Nat}{P:Nat->R8->Prop}{St:Nat->R_->Prop}
theorem FF (W:acD prog w A.in1 I fp wr G n P St) (S:Sm) (hSf:S∉fp) (val:Nat->Int) (hval:∀i v,P i v->∃t,v=.int (val i) t) (hn:n<=76){led:Bool}:
  ∀(k i:Nat) (s:R_) (ns:List Int) (es:Array (Int×R8)) (ep:Nat) (t:TV),n - i=k->i<=n->St i s->i9 s.heap S led ns es ep t->(∀d,d∈ns↔d∈(Sh i).map val)->
   (∀s' ns' es' ep' t',Moved (S::wr) G s s'->i9 s'.heap S led ns' es' ep' t'->(∀d,d∈ns'↔d∈(Sh n).map val)->R (.ok (.ret .none)) s')->
   (U5 (SE prog w) A (.builtin "set.update.loop" ⟨[.ref S,.ref I],[]⟩) R s):=by
 (have QC:S∉wr:=λh=>hSf (W.sub _ h))
 (have hsub:∀b∈wr,b∈S::wr:=λb hb=>Sd _ hb)
 intro k
 induction k with
 | zero=>
  intro i s ns es ep t hk hi hst hS hm hR
  have hin:i=n:=by omega
  subst hin
  refine UG Ur ?_
  rw [Uc S6 _]
  (show Sx _ A.in1 (Wi (.ref I) >>= _) _ _ s)
  refine R6 (W.done s _ _ hst λs' P_=>?_)
  (show Sx _ A.in1 (ret Tq) _ _ s')
  exact R9 (hR s' ns es ep t (P_.mono hsub) (hS.keep λo e=>P_.heap S o QC e) hm)
 | succ k ih=>
  intro i s ns es ep t hk hi hst hS hm hR
  have hlt:i < n:=by omega
  have hlen:ns.length<=i:=by
   have:=SH hS.nd (λd hd=>(hm d).mp hd)
   simpa using this
  refine UG Ur ?_
  rw [Uc S6 _]
  (show Sx _ A.in1 (Wi (.ref I) >>= _) _ _ s)
  refine R6 (W.item i s _ _ hlt hst λv s' hP Qi P_=>?_)
  obtain ⟨tk,rfl⟩:=hval i v hP
  have hS':=hS.keep (h':=s'.heap) λo e=>P_.heap S o QC e
  have mem':∀(ns':List Int),(∀d,d∈ns'↔d=val i\/d∈ns)->∀d,d∈ns'↔d∈(Sh (i + 1)).map val:=λns' h d=>by
   rw [h d,hm d,XM,SM,S0]
   simp only [Sw,Xe,Ss]
   exact Or.comm
  show Sx _ A.in1 (holding [.int (val i) tk] (setAdd S (.int (val i) tk)) >>= _) _ _ s'
  (refine R6 (S_ ?_))
  unfold setAdd
  refine S_ ?_
  (refine R6 (YG ?_))
  refine add_int (s:={s' with toks:=s'.toks + 1}) hS' (by omega) (λhin=>?_) (λhin h' ns' es' ep' t' QA QL Qy=>?_)
  ·refine R9 ⟨VY S6 _,ih (i + 1) _ ns es ep t (by omega) hlt (W.frame _ s' _ _ Qi (Vw _) λb hb o e=>e) hS' (mem' ns λd=>⟨.inr,λh=>h.elim (λh=>h▸hin) id⟩) λs'' ns'' es'' ep'' t'' hm'' hS'' Qk=>?_⟩
   exact hR s'' ns'' es'' ep'' t'' (ZR W.gtrans ((P_.mono hsub).then_heap (Vw _) λb o hb e=>e) hm'') hS'' Qk
  ·refine R9 ⟨VY S6 _,ih (i + 1) _ ns' es' ep' t' (by omega) hlt (W.frame _ s' _ _ Qi (Vw _) λb hb o e=>?_) Qy (mem' ns' λd=>?_) λs'' ns'' es'' ep'' t'' hm'' hS'' Qk=>?_⟩
   ·(rw [QA.2 b (λh:b=S=>hSf (by rw [<-h];exact hb))];exact e)
   ·rw [<-QL.mem_iff,Sn]
   ·refine hR s'' ns'' es'' ep'' t'' (ZR W.gtrans ((P_.mono hsub).then_heap (Vw _) λb o hb e=>?_) hm'') hS'' Qk
    (rw [QA.2 b (λh:b=S=>hb (by rw [h];exact Se))];exact e)
end
theorem Dp {h:TM}{a:Sm}{led:Bool}(e:h.get? a=some {cls:=.type "set",dict:=none,data:=.set #[] 0 (.fresh 0 0 led)}):i9 h a led [] #[] 0 (.fresh 0 0 led):=
 ⟨e,⟨[],⟨rfl,rfl,rfl,VI,(λ_ h=>nomatch h),.inl rfl,SJ _,(λ_ h=>nomatch h)⟩⟩,rfl,rfl,(show 0 * 5 < 7 * 3 by decide),.nil,Vd⟩
section
variable {w:S3}{prog:Su}{A:S5}{s:R_}{E:R8->R_->Prop}{l:Sm}{items:Array R8}{ds:List Int}
theorem L4 (hz:items.size=ds.length) (hi:∀(i:Nat) (v:R8),items[i]?=some v->∃t,v=.int (ds.getD i 0) t) (hn:ds.length<=76){I:Sm}{fp:List Sm}{St:Nat->R_->Prop}{h2:TM}{R:_->R_->Prop}(W:acD prog w A.in1.in1.in1 I fp [I] (λa b=>b=a) items.size (λi v=>items[i]?=some v) St) (hSf:s.heap.objs.size∉fp) (st:St 0 {s with heap:=h2})
  (hk:∀b o,(s.heap.push (h_ (dF w))).get? b=some o->h2.get? b=some o) (hR:∀s',Moved [s.heap.objs.size,I] (λa b=>b=a) {s with heap:=h2} s'->(∃ks es ep t,i9 s'.heap s.heap.objs.size (dF w) ks es ep t/\∀d,d∈ks↔d∈ds)->R (.ok (.ret .none)) s'):U5 (SE prog w) A.in1.in1 (.builtin "set.update.loop" ⟨[.ref s.heap.objs.size,.ref I],[]⟩) R {s with heap:=h2}:=by
 have all:(Sh items.size).map (λi=>ds.getD i 0)=ds:=by
  refine UN (by simp [hz]) λi a b=>?_
  simp [b]
 exact FF (A:=A.in1.in1) (led:=dF w) W s.heap.objs.size hSf (λi=>ds.getD i 0) hi (by omega) items.size 0 _ [] #[] 0 (.fresh 0 0 (dF w)) (by omega) (SJ _) st (Dp (hk _ _ (Sk _ rfl))) (λd=>by simp) λs' ks es ep t hm hS' hmem=>hR s' hm ⟨ks,es,ep,t,hS',by rw [all] at hmem;exact hmem⟩
abbrev Pf (Q:R8->R_->Prop) (w:S3) (s:R_) (ds:List Int):Prop:=∀(h':TM) (tk:Nat) ks es ep t,i9 h' s.heap.objs.size (dF w) ks es ep t->(∀d,d∈ks↔d∈ds)->(∀b o,b < s.heap.objs.size->s.heap.get? b=some o->h'.get? b=some o)->Q (.ref s.heap.objs.size) {s with heap:=h',toks:=tk}
theorem yr {Q:R8->R_->Prop}(hh:A.handled=none) (hl:s.heap.IsTuple l items) (hz:items.size=ds.length) (hi:∀(i:Nat) (v:R8),items[i]?=some v->∃t,v=.int (ds.getD i 0) t) (hn:ds.length<=76) (h:Pf Q w s ds):(Sx (SE prog w) A (call (.type "set") [.ref l]) Q E s):=by
 obtain ⟨ol,Qq,hcl,_⟩:=id hl
 exact Au (λh'=>∃ks es ep t,i9 h' s.heap.objs.size (dF w) ks es ep t/\∀d,d∈ks↔d∈ds) Qq hcl xZ xY (by decide) (zP hh hl) (λW a _ c d e=>L4 hz hi hn W a c d e) λh' tk ⟨ks,es,ep,t,a,b⟩=>h h' tk ks es ep t a b
end
end DL
namespace DL
open PySem PySem.Spec PyProof.Rows L2 ST DX
open PySem.W (KasT kas_sort kas_ask)
theorem i9.wk {h:TM}{a:Sm}{led:Bool}{ns:List Int}{es:Array (Int×R8)}{ep:Nat}{t:TV}(S:i9 h a led ns es ep t):jy h a led es ep t:=⟨S.at_,S.tab,S.pl,S.ld⟩
noncomputable def BY:D->Int
 | .int i=>i
 | _=>0
theorem M_ {ds:List D}(h:ds.all isInt=true):ds=(ds.map BY).map .int:=by
 induction ds with
 | nil=>rfl
 | cons d r ih=>
  rw [Vq,Sf] at h
  cases d with
  | int i=>rw [Sw,Sw,<-ih h.2];rfl
  | _=>cases h.1
abbrev oW (X:Cx) (a:Sm) (ms:List Int):HO:=.ext λh=>∃ns es ep t,i9 h a (dF X.w) ns es ep t/\∀d,d∈ns↔d∈ms
theorem int_at {K:R7}{J:Hp}{ms:List Int}{vs:List V}{us:List R8}(rs:aK K J (ms.map .int) vs) (rv:Vals vs us):∀(i:Nat) (v:R8),us.toArray[i]?=some v->∃t,v=.int (ms.getD i 0) t:=λi v q=>by
 have l1:vs.length=us.length:=rv.length
 have l2:(ms.map D.int).length=vs.length:=rs.length
 have hi:i < us.length:=by
  have:=(TZ.mp q).1
  simpa using this
 have e:us.getD i Tq=v:=by
  simp at q
  simp [Zg,q]
 have r1:=iG rs (i:=i) (by omega)
 have r2:=iJ rv (i:=i) (by omega)
 rw [e] at r2
 have lm:i < ms.length:=by rw [Sa] at l2;omega
 have e2:dw (ms.map D.int) i=.int (ms.getD i 0):=by
  unfold dw
  simp [Zg,lm]
 rw [e2] at r1
 generalize vs.getD i V.non=vv at r1 r2
 cases r1
 exact r2
section
variable {X:Cx}
theorem D3 (hc:X.calm=true):b9 X (.type "set") (λxs H Q=>∃p vs ms J0,xs=[.ref p]/\cZ X.K H p vs/\aK X.K J0 (ms.map .int) vs/\ms.length < 64/\∀l,H l=none->Q (.ref l) (upd H l (oW X l ms))):=by
 intro RX s σ H xs us Q I r h
 obtain ⟨p,vs,ms,J0,rfl,hq,rs,l64,q⟩:=h
 obtain ⟨u,rfl,rx⟩:=vals1 r
 cases rx
 have hh:X.A.handled=none:=I.ok.hd hc
 have fr:H s.heap.objs.size=none:=I.hok.fresh (Sj _)
 obtain ⟨RY,r',pt,hz⟩:=I.tuple hq
 have lm:(ms.map D.int).length=vs.length:=rs.length
 rw [Sa] at lm
 refine yr hh pt (by simp [<-r'.length,lm]) (int_at rs r') (by omega) λh' tk ks es ep t S hm kp=>?_
 exact ⟨.ref s.heap.objs.size,_,I.laid (t':=tk) (λb o e=>kp b o (Sz e) e) (Sj _) (show cP X.prog X.w _ _ _ (oW X s.heap.objs.size ms) from ⟨⟨ks,es,ep,t,S,hm⟩,⟨_,S.at_⟩,λh1 h2 ⟨ks,es,ep,t,S,hm⟩ e=>⟨ks,es,ep,t,S.keep e,hm⟩⟩),rfl,q _ fr⟩
theorem fh.reps {es:List (Int×R8)}{ns:List Int}(h:fh es ns):∃vs,(∀(K:R7) (J:Hp),aK K J (ns.map .int) vs)/\Vals vs (es.map (·.2))/\Wv (es.map (·.2)) ns:=by
 induction h with
 | nil=>exact ⟨[],λK J=>.nil,.nil,.nil⟩
 | @cons i k es ns _ ih=>
  obtain ⟨vs,h1,h2,h3⟩:=ih
  exact ⟨.int i::vs,λK J=>.cons (.int _) (h1 K J),.cons ⟨k,rfl⟩ h2,.cons i k h3⟩
theorem AV (hc:X.calm=true):b9 X (.builtin "sorted") (λxs H Q=>∃p ms,xs=[.ref p]/\H p=some (oW X p ms)/\ms.length < 64/\∀l vs',H l=none->(∀J0,aK X.K J0 (cY (ms.map .int)) vs')->Q (.ref l) (upd H l (.lst vs'))):=by
 intro RX s σ H xs us Q I r h
 obtain ⟨p,ms,rfl,hp,l64,q⟩:=h
 obtain ⟨u,rfl,rx⟩:=vals1 r
 cases rx
 have hh:X.A.handled=none:=I.ok.hd hc
 obtain ⟨⟨ns,es,ep,t,S,hm⟩,_⟩:=(show cP X.prog X.w H s.heap p (oW X p ms) from I.hok p _ hp)
 obtain ⟨ns',pm,en'⟩:=S.en.perm (mY X.w p ep es).symm
 have nd':ns'.Nodup:=pm.nodup_iff.mp S.nd
 have hm':∀d,d∈ns'↔d∈ms:=λd=>by rw [<-pm.mem_iff,hm d]
 obtain ⟨vs,rs,rv,hI⟩:=en'.reps
 have hv:jq X.w p ep es=(fP X.w p ep es).toList.map (·.2):=rfl
 rw [<-hv] at rv hI
 generalize hits:jq X.w p ep es=RY at rv hI
 have l1:vs.length=RY.length:=rv.length
 have l2:(ns'.map D.int).length=vs.length:=(rs X.K H).length
 have len:ns'.length<=ms.length:=SH nd' λd hd=>(hm' d).mp hd
 have les:es.size=ns'.length:=by rw [<-Sq,S.en.length,pm.length_eq]
 have ndD:(ns'.map D.int).Nodup:=S9.mpr (W6 (λh e=>h (by cases e;rfl)) nd')
 have Rk:∀d,d∈ns'.map D.int↔d∈ms.map D.int:=λd=>by simp only [Sb,hm']
 have allI:∀d∈ms.map D.int,iy .i d:=λd hd=>by obtain ⟨i,_,rfl⟩:=Sb.mp hd;exact ⟨i,rfl⟩
 have out:=Az (eE .i) allI ndD Rk
 have lm:(ns'.map D.int).length=ns'.length:=Sa _
 generalize hk:ns'.map D.int=ks' at *
 have ai:ks'.all isInt=true:=SW.mpr λd hd=>by
  obtain ⟨i,e⟩:=allI d ((Rk d).mp hd)
  rw [e];rfl
 exact mK I (λE C h=>rW hh S.wk (by omega) λh1 tk k1 le=>hits▸h h1 tk k1 (Xc le)) rv l2 (by omega) (DP (rs X.K H) rv ai) λl vs' hl rr=>q l vs' hl λJ0=>out▸rr _ (rs _ J0)
end
end DL
namespace DL
open PySem PySem.Spec PyProof.Rows L2 ST DX
theorem DW:TX "set"=some (.type "set"):=by decide +kernel
section
variable {X:Cx}{c:C}{e:S4}{pos pos2:Pos}
noncomputable def f7:List R->M R
 | [.d (.tup ys)]=>if qo ys=true then .ok (.l .fresh (cY ys)) else if sC ys=true then .ok (.l .fresh (cY ys)) else .bad
 | _=>.bad
noncomputable def MP (X:Cx):List V->Hp->VK->Prop:=λxs H Q=>∃p vs ms J0,xs=[.ref p]/\cZ X.K H p vs/\aK X.K J0 (ms.map .int) vs/\ms.length < 64/\∀l,H l=none->Q (.ref l) (upd H l (oW X l ms))
noncomputable def MQ (X:Cx):List V->Hp->VK->Prop:=λxs H Q=>∃p vs ds J0,xs=[.ref p]/\cZ X.K H p vs/\aT J0 H/\aK X.K J0 ds vs/\qo ds=true/\∀l,H l=none->Q (.ref l) (upd H l (oX X J0 l ds))
noncomputable def Hi (X:Cx):List V->Hp->VK->Prop:=λxs H Q=>∃p ms,xs=[.ref p]/\H p=some (oW X p ms)/\ms.length < 64/\∀l vs',H l=none->(∀J0,aK X.K J0 (cY (ms.map .int)) vs')->Q (.ref l) (upd H l (.lst vs'))
noncomputable def Hj (X:Cx):List V->Hp->VK->Prop:=λxs H Q=>∃p ds J0,xs=[.ref p]/\H p=some (oX X J0 p ds)/\aT J0 H/\qo ds=true/\∀l vs',H l=none->aK X.K J0 (cY ds) vs'->Q (.ref l) (upd H l (.lst vs'))
theorem qx {p p2:Pos}{gs:G (List R)}(hu:X.A.units + 64 < Uu) (ha:i8 X c [e] gs) (hm:X.mg "sorted"=none) (hm2:X.mg "set"=none) (hK:X.K=c.K:=by rfl) (hc:X.calm=true:=by rfl) (hg:Gl X "sorted":=by rfl) (QH:Gl X "set":=by rfl)
  (he:Sl [.Call (.Name "set" p2) [e] [] pos2] X.env=(false,eval (.Call (.Name "set" p2) [e] [] pos2) X.env)::Sl [] X.env:=by rfl) (hpl:(UL pos (Sl [] X.env)).any (·.1)=false:=by rfl)
  (QE:Sl [e] X.env=(false,eval e X.env)::Sl [] X.env:=by rfl) (Q9:(UL pos2 (Sl [] X.env)).any (·.1)=false:=by rfl):
  QD X c (.Call (.Name "sorted" p) [.Call (.Name "set" p2) [e] [] pos2] [] pos) (gN f7 gs):=by
 have ha:=ha.h
 refine ⟨?_⟩
 have h1:=mz (p:=p2) (pos:=pos2) (b9.or (show b9 X (.type "set") (MQ X) from D4 hu hc) (show b9 X (.type "set") (MP X) from D3 hc)) QH hm2 DW ha (by decide) (by decide) QE Q9
 have h2:=tw (p:=p) (pos:=pos) (b9.or (show b9 X (.builtin "sorted") (Hj X) from Cu hu hc) (show b9 X (.builtin "sorted") (Hi X) from AV hc)) hg hm kQ (fc h1 ig he) (by decide) (by decide) he hpl
 refine GY (ta:=Dt) (f:=f7) (r:=λvs H1 Q=>(MQ X vs H1 λv H2=>Hj X [v] H2 Q\/Hi X [v] H2 Q)\/(MP X vs H1 λv H2=>Hj X [v] H2 Q\/Hi X [v] H2 Q)) h2 rfl ?_
 intro He J H xs vs Q hp rs w
 unfold f7 at w
 split at w
 ·rename_i ys
  obtain ⟨v,rfl,r⟩:=rs.one
  cases r with
  | tup h hs=>
   have hT:∀{p:Sm}{us:List V},cZ c.K J p us->cZ X.K H p us:=λh=>by rw [hK];exact fC hp.sub h
   have fin:∀(o:Sm->HO) (w:∀w J' H',Ext J H J' H'->RR c H J' H' (.l .fresh (cY ys)) w->Q w H') (l l2:Sm) (vs':List V),H l=none->upd H l (o l) l2=none->aK X.K J (cY ys) vs'->Q (.ref l2) (upd (upd H l (o l)) l2 (.lst vs')):=λo w l l2 vs' hl h2 rr=>by
    rw [hK] at rr
    have e1:=Ext.new hp.sub hl (o l)
    have e2:=Ext.new e1.sub h2 (.lst vs')
    exact w _ _ _ (e1.trans e2) (RR.from e1.h (jk (hp.ext e1) h2 rr))
   split at w
   ·rename_i ok
    exact .inl ⟨_,_,ys,J,rfl,hT h,hp.sub,by rw [hK];exact hs,ok,λl hl=>.inl ⟨l,ys,J,rfl,bU,(Ext.new hp.sub hl _).sub,ok,λl2 vs' h2 rr=>fin (λl=>oX X J l ys) w l l2 vs' hl h2 rr⟩⟩
   ·split at w
    ·rename_i ok
     unfold sC at ok
     rw [Sf] at ok
     have o1:=of_decide_eq_true ok.1
     have ey:=M_ ok.2
     refine .inr ⟨_,_,ys.map BY,J,rfl,hT h,by rw [hK,<-ey];exact hs,by rw [Sa];exact o1,λl hl=>.inr ⟨l,ys.map BY,rfl,bU,by rw [Sa];exact o1,λl2 vs' h2 rr=>?_⟩⟩
     rw [<-ey] at rr
     exact fin (λl=>oW X l (ys.map BY)) w l l2 vs' hl h2 (rr _)
    ·exact w.elim
 ·exact w.elim
end
end DL
namespace DL
open PySem PySem.Spec PyProof.Rows L2 DX
end DL
namespace K55
open PySem DL
def rO:List Str:=["told","least","most"]
noncomputable def sf:G O:=(bS (jv (gZ (bC (gN (aQ 1 K01.fQ) (aq (af 0) aG)))) (jv (bC (g2 (jS λi j=>.bl (decide (i < j))) (af 0) (af 1))) (bC (g2 (jS λi j=>.bl (decide (j < i))) (af 0) (af 2))))) yF dJ)
def jM (as:List S):M R:=fin (sf (bq rO as))
def rM:List Str:=["_law_cell_here","_law_many","_law_left","_law_found","_law_k"]
noncomputable def r_:G O:=(aM (bg 2 (Ic (aq (af 1) aG)))
 (aM (bg 3 (gw aV))
 (aM (dO (cg (aq (af 1) aG)) (aA 4) (aM (nA 3 2 (g2 fG (af 0) (gN kc (aq (af 2) aG))))
 (bg 0 (g2 iB (af 0) (gC (.int 9))))))
 (bJ (gN cS (aq (af 3) aG))))))
def ia (as:List S):M R:=fin (r_ (bq rM as))
def pQ:List Str:=["_law_world_here","_law_order_here","_law_marks","_law_arrows"]
noncomputable def p_:G O:=(aM (bg 2 (bK 2 [1] (eY (g2 aZ (af 0) (gC (.int 1)))) (dh 2 (bw (aA 0) (bw (aA 1) dz))) cI (bD (aC (af 0) (aC (gN cS (aq (gN nv (aq (bK 1 [2] (eY (af 1)) (aA 0) cI (g2 aZ (af 1) (af 0))) aG)) aG)) aV)))))
 (aM (bg 3 (bK 2 [1] (eY (g2 aZ (af 0) (gC (.int 2)))) (dh 2 (bw (aA 0) (bw (aA 1) dz))) cI (bD (aC (af 0) (aC (gN cS (aq (gN nv (aq (bK 2 [2] (eY (af 1)) (dh 2 (bw (aA 0) (bw (aA 1) dz))) cI (bD (aC (g2 aZ (af 2) (af 0)) (aC (g2 aZ (af 2) (af 1)) aV)))) aG)) aG)) aV)))))
 (bJ (bD (aC (g2 aZ (af 0) (gC (.int 0))) (aC (gN cS (aq (af 2) aG)) (aC (gN cS (aq (af 3) aG)) aV)))))))
def eT (as:List S):M R:=fin (p_ (bq pQ as))
noncomputable def pg:List Str:=["_law_world_here","_law_cell_here","_law_many","_law_marks","_law_arrows","_law_at","_law_thing","_law_some","_law_name","_law_had","_law_now"]
noncomputable def pB:G O:=(aM (mV (dh 3 (bw (aA 2) (bw (aA 3) (bw (aA 4) dz)))) (af 0))
 (aM (bS (bC (g2 (cL false) (g2 cR (gN kc (aq (af 3) aG)) (gN kc (aq (af 4) aG))) (gC (.int 0)))) (bJ (af 0)) dJ)
 (aM (bg 5 (g2 fG (af 1) (g2 cR (gN kc (aq (af 3) aG)) (gN kc (aq (af 4) aG)))))
 (aM (bg 6 (g2 fG (g2 iB (af 1) (gC (.int 6))) (af 2)))
 (aM (bg 7 (af 3))
 (aM (bS (bC (g2 (jS λi j=>.bl (decide (j<=i))) (af 5) (gN kc (aq (af 3) aG)))) (aM (bg 5 (g2 Lx (af 5) (gN kc (aq (af 3) aG))))
 (aM (bg 6 (bD (aC (af 6) (aC (g2 fG (g2 iB (af 1) (gC (.int 48))) (af 2)) aV))))
 (bg 7 (af 4)))) dJ)
 (aM (mV (dh 2 (bw (aA 8) (bw (aA 9) dz))) (g2 aZ (af 7) (af 5)))
 (aM (bg 10 (gN cS (aq (gN f7 (aq (g2 cR (af 9) (bD (aC (af 6) aV))) aG)) aG)))
 (aM (bS (bC (g2 (ie false) (af 6) (af 9))) (bg 10 (gN cS (aq (bK 1 [6] (eY (af 9)) (aA 0) (bC (g2 (cL true) (af 0) (af 1))) (af 0)) aG))) dJ)
 (aM (bg 7 (g2 cR (g2 cR (Bt vU (af 7) Er (Es (af 5))) (bD (aC (bD (aC (af 8) (aC (af 10) aV))) aV))) (Bt vU (af 7) (Es (g2 cR (af 5) (gC (.int 1)))) Er)))
 (aM (bS (bC (Ep "tuple" (af 6))) (bJ (bD (aC (af 2) (aC (af 3) (aC (af 7) aV))))) dJ)
 (bJ (bD (aC (af 2) (aC (af 7) (aC (af 4) aV))))))))))))))))
def e_ (as:List S):M R:=fin (pB (bq pg as))
def DH:List Str:=["_law_script","_law_sizes","_law_first","_law_second","_law_marks","_law_names_here","_law_one","_law_way","_law_other"]
noncomputable def xj:G O:=(aM (bg 2 (gN (aQ 2 K51.cF) (aq (af 0) (aq (gC (.int 0)) aG))))
 (aM (bg 3 (gN (aQ 2 K51.cF) (aq (af 0) (aq (gC (.int 1)) aG))))
 (aM (bg 4 (gN (aQ 2 K51.gg) (aq (g2 iB (af 3) (gC (.int 20))) (aq (g2 aZ (gw (aC (gC (.int 1)) (aC (gC (.int 0)) (aC (gC (.int 2)) (aC (gC (.int 3)) aV))))) (g2 fG (af 3) (gC (.int 4)))) aG))))
 (aM (fW 4 (bg 5 (bD (aC (af 4) (aC (gN (aQ 2 K51.gg) (aq (gN (aQ 2 K51.cF) (aq (af 0) (aq (gC (.int 2)) aG))) (aq (g2 aZ (gw (aC (gC (.int 1)) (aC (gC (.int 2)) (aC (gC (.int 0)) (aC (gC (.int 1)) (aC (gC (.int 3)) aV)))))) (g2 fG (g2 iB (af 3) (gC (.int 4))) (gC (.int 5)))) aG))) aV)))))
 (aM (bg 6 (gN (aQ 3 K51.fE) (aq (af 5) (aq (g2 aZ (af 1) (g2 fG (af 2) (gC (.int 8)))) (aq (bK 1 [0] (cg (aq (gC (.int 6)) aG)) (aA 0) cI (gN (aQ 2 K51.cF) (aq (af 1) (aq (g2 d_ (gC (.int 3)) (af 0)) aG)))) aG)))))
 (aM (bg 7 (g2 fG (g2 iB (af 2) (gC (.int 8))) (gC (.int 4))))
 (aM (bS (bC (g2 (cL false) (af 7) (gC (.int 0)))) (bJ (bD (aC (af 6) (aC (gN (aQ 3 K51.fE) (aq (af 5) (aq (g2 aZ (af 1) (g2 fG (g2 iB (af 2) (gC (.int 32))) (gC (.int 8)))) (aq (bK 1 [0] (cg (aq (gC (.int 6)) aG)) (aA 0) cI (gN (aQ 2 K51.cF) (aq (af 1) (aq (g2 d_ (gC (.int 9)) (af 0)) aG)))) aG)))) aV)))) dJ)
 (aM (bg 8 (gN (aQ 2 K55.eT) (aq (af 6) (aq (gN (aQ 2 K55.ia) (aq (gN (aQ 2 K51.cF) (aq (af 0) (aq (gC (.int 15)) aG))) (aq (g2 aZ (af 6) (gC (.int 0))) aG))) aG))))
 (aM (bS (bC (g2 (jS λi j=>.bl (decide (j < i))) (af 7) (gC (.int 1)))) (bg 8 (gN (aQ 2 K55.e_) (aq (af 8) (aq (gN (aQ 2 K51.cF) (aq (af 0) (aq (gC (.int 9)) aG))) aG)))) dJ)
 (aM (bS (bC (g2 (cL false) (af 7) (gC (.int 3)))) (bg 8 (gN (aQ 2 K55.e_) (aq (af 8) (aq (gN (aQ 2 K51.cF) (aq (af 0) (aq (gC (.int 10)) aG))) aG)))) dJ)
 (bJ (bD (aC (af 6) (aC (af 8) aV))))))))))))))
def jR (as:List S):M R:=fin (xj (bq DH as))
end K55
namespace K55
open PySem DL K01 WP K51 K52
theorem rY (a b:Nat):bu (dN a) (dN b)=(a == b):=by
 show ((a:Int) == (b:Int))=_
 by_cases h:a=b
 ·subst h;simp
 ·rw [beq_eq_false_iff_ne.mpr h,beq_eq_false_iff_ne.mpr (by omega)]
structure jt (n:Nat) (w:Wd):Prop where
 mp:∀r∈w.ms,r.2.length<=n/\∀p∈r.2,p < w.m
 ap:∀r∈w.ar,r.2.length<=n/\∀p∈r.2,p.1 < w.m/\p.2 < w.m
abbrev Pg (w:Wd):Prop:=jt 30 w
def em (m:Nat) (x:Nat×Nat):Nat:=if x.1=0 then x.2 else x.2 + m
theorem inN (l:Nat) (xs:List Nat):inD (dN l) (xs.map dN)=decide (l∈xs):=by
 unfold inD
 rw [Zb,Ui,U7,decide_eq_true_eq]
 constructor
 ·rintro ⟨x,hx,e⟩
  have e:bu (dN x) (dN l)=true:=e
  rw [rY] at e
  rw [<-eq_of_beq e];exact hx
 ·intro h
  exact ⟨l,h,by show bu (dN l) (dN l)=true;rw [rY];simp⟩
theorem w_ (a b:Nat×Nat):bu (dP a) (dP b)=decide (a=b):=by
 have:bu (dP a) (dP b)=(bu (dN a.1) (dN b.1) && (bu (dN a.2) (dN b.2) && true)):=by
  show bu (.tup [dN a.1,dN a.2]) (.tup [dN b.1,dN b.2])=_
  rw [kI,gR,gR,cB]
 rw [this,rY,rY,Ui]
 obtain ⟨a1,a2⟩:=a
 obtain ⟨b1,b2⟩:=b
 simp
theorem Ij (l:Nat×Nat) (xs:List (Nat×Nat)):inD (dP l) (xs.map dP)=decide (l∈xs):=by
 unfold inD
 rw [Zb,Ui,U7,decide_eq_true_eq]
 constructor
 ·rintro ⟨x,hx,e⟩
  have e:bu (dP x) (dP l)=true:=e
  rw [w_,decide_eq_true_eq] at e
  rw [<-e];exact hx
 ·intro h
  exact ⟨l,h,by show bu (dP l) (dP l)=true;rw [w_];simp⟩
theorem fp (i j:Int):cR (.d (.int i)) (.d (.int j))=.ok (.d (.int (i + j))):=rfl
theorem Gw {env:Ev}{Q:O->Prop}{g:G R}{i j k:Nat}{xs zs:List D}(h1:env[i]?=some (some (.own zs))) (h2:env[j]?=some (some (.own xs))) (hij:i≠j) (h:g env=.ok (.d (.int k))) (hk:k < xs.length) (lz:zs.length < 1000) (lx:xs.length<=1000)
  (c:Q (.nx ((env.set j (some (.own (xs.eraseIdx k)))).set i (some (.own (zs++[xs[k]])))))):Wp (nA i j g env) Q:=by
 refine ⟨_,?_,c⟩
 unfold nA
 rw [h1,h2]
 show (if i=j then M.bad else (g env >>= _))=_
 rw [if_neg hij,h,aP]
 show (if 0<=(k:Int)/\(k:Int).toNat < xs.length/\zs.length < sizeLine/\xs.length<=sizeLine then _ else _)=_
 rw [if_pos ⟨by omega,by simpa using hk,SG lz (gI (Sj _)),gI lx⟩]
 rw [Uk,Si hk]
noncomputable def jm:D->Nat
 | .int i=>i.toNat
 | _=>0
noncomputable def iU:D->Nat×Nat
 | .tup [x,y]=>(jm x,jm y)
 | _=>(0,0)
theorem o7 (n:Nat):jm (dN n)=n:=rfl
theorem jo (n:Nat×Nat):iU (dP n)=n:=rfl
theorem back {α:Type}(h:α->D) (u:D->α) (hu:∀x,u (h x)=x){l:List D}(hl:∀d∈l,∃x,d=h x):(l.map u).map h=l:=by
 rw [SN]
 refine (Vi (g:=id) λd hd=>?_).trans (List.map_id _)
 obtain ⟨x,rfl⟩:=hl d hd
 show h (u (h x))=h x
 rw [hu]
theorem xS {α:Type}(h:α->D) (u:D->α) (hu:∀x,u (h x)=x) (xs:List α):((bF (xs.map h)).map u).map h=bF (xs.map h):=back h u hu λd hd=>by
 obtain ⟨x,_,rfl⟩:=Sb.mp (mH hd)
 exact ⟨x,rfl⟩
theorem wI {α:Type}(h:α->D) (u:D->α) (hu:∀x,u (h x)=x) (xs:List α):∀y∈(bF (xs.map h)).map u,y∈xs:=λy hy=>by
 obtain ⟨d,hd,rfl⟩:=Sb.mp hy
 obtain ⟨x,hx,rfl⟩:=Sb.mp (mH hd)
 rw [hu];exact hx
def pF:Fm:=.tc .i (.tc .i .tn)
theorem nC (p:Nat×Nat):iy pF (dP p):=⟨_,rfl,_,_,rfl,⟨_,rfl⟩,_,rfl,_,_,rfl,⟨_,rfl⟩,[],rfl,rfl⟩
theorem Ip (xs:List Nat) (hl:xs.length < 64):sC (xs.map dN)=true:=by
 unfold sC
 rw [Sa,decide_eq_true hl,Vs,SW]
 intro d hd
 obtain ⟨x,_,rfl⟩:=Sb.mp hd
 rfl
theorem LB (xs:List (Nat×Nat)):∀d∈xs.map dP,gH d=some .i:=λd hd=>by
 obtain ⟨x,_,rfl⟩:=Sb.mp hd
 rfl
theorem Nx (xs:List (Nat×Nat)) (hl:xs.length < 64):xy (xs.map dP)=true:=by
 have Rv:=uo xs
 have hc:zp (xs.map dP)=true:=by
  unfold zp
  rw [SW]
  intro x hx
  rw [SW]
  intro y hy
  obtain ⟨a,_,rfl⟩:=Sb.mp hx
  obtain ⟨b,_,rfl⟩:=Sb.mp hy
  exact (eE pF).lt _ _ (nC a) (nC b)
 unfold xy
 rw [hc,decide_eq_true Rv,Sa,decide_eq_true hl]
 cases xs with
 | nil=>rfl
 | cons x xs=>
  have hh:GN ((x::xs).map dP)=true:=by
   show gz .i ((x::xs).map dP)=true
   exact nZ (LB (x::xs))
  rw [hh]
  simp
theorem OT (xs:List Nat) (hl:xs.length < 64):nv [.l .fresh (xs.map dN)]=.ok (.l .fresh (bF (xs.map dN))):=by
 show (if xy (xs.map dN)=true then M.ok (R.l .fresh (bF (xs.map dN))) else if sC (xs.map dN)=true then M.ok (R.l .fresh (bF (xs.map dN))) else .bad)=_
 rw [if_pos (Ip xs hl)]
 split <;> rfl
theorem OU (xs:List (Nat×Nat)) (hl:xs.length < 64):nv [.l .fresh (xs.map dP)]=.ok (.l .fresh (bF (xs.map dP))):=by
 show (if xy (xs.map dP)=true then M.ok (R.l .fresh (bF (xs.map dP))) else if sC (xs.map dP)=true then M.ok (R.l .fresh (bF (xs.map dP))) else .bad)=_
 rw [if_pos (Nx xs hl)]
theorem CL {ps:List Nat}{p:Nat}(hp:p < ps.length):aZ (.d (.tup (ps.map dN))) (.d (dN p))=.ok (.d (dN (ps.getD p 0))):=by
 have h1:(ps.map dN)[p]?=some (dN (ps.getD p 0)):=by rw [Sv,Si hp];simp [Zg,hp]
 exact kJ h1
noncomputable def gW (w:Wd) (ps:List Nat):Wd:=⟨w.m,w.ms.map λr=>(r.1,(bF ((r.2.map λp=>ps.getD p 0).map dN)).map jm),w.ar.map λr=>(r.1,(bF ((r.2.map λp=>(ps.getD p.1 0,ps.getD p.2 0)).map dP)).map iU)⟩
theorem yS (w:Wd) (hw:ng w) (n:Nat) (hn:n<=40) (hb:jt n w) (ps:List Nat) (hl:ps.length=w.m):eT [.d w.d,.d (.tup (ps.map dN))]=.ok (.d (gW w ps).d):=by
 have ml:=hw.ml
 have al:=hw.al
 refine cH (bB (kr (xs:=w.ms) (λr=>.str r.1) (λr=>.tup (r.2.map dN)) (λr=>gx (r.1,(bF ((r.2.map λp=>ps.getD p 0).map dN)).map jm)) ?_ (by omega) λr hr=>?_) rfl ?_)
 ·show (g2 aZ (af 0) (gC (.int 1)) _ >>= _)=_
  rw [two (x:=.d w.d) rfl rfl (zQ _ _ _)]
  rfl
 ·obtain ⟨h1,h2⟩:=hb.mp r hr
  refine ⟨_,bx (aJ rfl rfl (aJ (n1 (n1 (mR (xs:=r.2) (h:=dN) (λp=>dN (ps.getD p 0)) rfl (by omega) λp hp=>⟨_,two rfl rfl (CL (by rw [hl];exact h2 p hp)),rfl⟩) (x:=.l .fresh (r.2.map λp=>dN (ps.getD p 0))) (z:=.l .fresh (bF ((r.2.map λp=>ps.getD p 0).map dN))) ?_) rfl) rfl br)) t2,?_⟩
  ·have:=OT (r.2.map λp=>ps.getD p 0) (by simp;omega)
   rw [SN] at this ⊢
   exact this
  ·unfold gx
   rw [xS dN jm o7]
   rfl
 refine bB (kr (xs:=w.ar) (λr=>.str r.1) (λr=>.tup (r.2.map dP)) (λr=>iI (r.1,(bF ((r.2.map λp=>(ps.getD p.1 0,ps.getD p.2 0)).map dP)).map iU)) ?_ (by omega) λr hr=>?_) rfl ?_
 ·show (g2 aZ (af 0) (gC (.int 2)) _ >>= _)=_
  rw [two (x:=.d w.d) rfl rfl (Pw _ _ _ _)]
  rfl
 ·obtain ⟨h1,h2⟩:=hb.ap r hr
  refine ⟨_,bx (aJ rfl rfl (aJ (n1 (n1 (kr (xs:=r.2) (λp=>dN p.1) (λp=>dN p.2) (λp=>dP (ps.getD p.1 0,ps.getD p.2 0)) rfl (by omega) λp hp=>⟨_,bx (aJ (two rfl rfl (CL (by rw [hl];exact (h2 p hp).1))) rfl (aJ (two rfl rfl (CL (by rw [hl];exact (h2 p hp).2))) rfl br)) t2,rfl⟩) (x:=.l .fresh (r.2.map λp=>dP (ps.getD p.1 0,ps.getD p.2 0))) (z:=.l .fresh (bF ((r.2.map λp=>(ps.getD p.1 0,ps.getD p.2 0)).map dP))) ?_) rfl) rfl br)) t2,?_⟩
  ·have:=OU (r.2.map λp=>(ps.getD p.1 0,ps.getD p.2 0)) (by simp;omega)
   rw [SN] at this ⊢
   exact this
  ·unfold iI
   rw [xS dP iU jo]
   rfl
 refine bP (bx (aJ (two rfl rfl (f9 _ _)) rfl (aJ rfl rfl (aJ rfl rfl br))) (by show 3<=1000;decide)) rfl ?_
 unfold gW Wd.d
 simp only [SN]
 rfl
theorem N8 (w:Wd) (hw:ng w) (n:Nat) (hb:jt n w) (ps:List Nat) (hl:ps.length=w.m) (hp:∀p∈ps,p < w.m):ng (gW w ps)/\jt n (gW w ps)/\(gW w ps).m=w.m/\(gW w ps).ms.length=w.ms.length/\(gW w ps).ar.length=w.ar.length:=by
 have gd:∀p,p < w.m->ps.getD p 0 < w.m:=λp h=>by
  have h':p < ps.length:=by omega
  rw [show ps.getD p 0=ps[p] by simp [Zg,h']]
  exact hp _ (SK h')
 refine ⟨⟨hw.lo,hw.hi,?_,?_⟩,⟨λr hr=>?_,λr hr=>?_⟩,rfl,Sa _,Sa _⟩
 ·show (w.ms.map _).length<=3
  rw [Sa];exact hw.ml
 ·show (w.ar.map _).length<=3
  rw [Sa];exact hw.al
 ·obtain ⟨q,hq,rfl⟩:=Sb.mp (show r∈w.ms.map _ from hr)
  obtain ⟨h1,h2⟩:=hb.mp q hq
  refine ⟨?_,λp hp'=>?_⟩
  ·show ((bF _).map jm).length<=n
   rw [Sa,qG,Sa,Sa];exact h1
  ·have:=wI dN jm o7 _ p hp'
   obtain ⟨z,hz,rfl⟩:=Sb.mp this
   exact gd z (h2 z hz)
 ·obtain ⟨q,hq,rfl⟩:=Sb.mp (show r∈w.ar.map _ from hr)
  obtain ⟨h1,h2⟩:=hb.ap q hq
  refine ⟨?_,λp hp'=>?_⟩
  ·show ((bF _).map iU).length<=n
   rw [Sa,qG,Sa,Sa];exact h1
  ·have:=wI dP iU jo _ p hp'
   obtain ⟨z,hz,rfl⟩:=Sb.mp this
   exact ⟨gd _ (h2 z hz).1,gd _ (h2 z hz).2⟩
theorem OZ (xs:List Nat) (hl:xs.length < 64):f7 [.d (.tup (xs.map dN))]=.ok (.l .fresh (cY (xs.map dN))):=by
 show (if qo (xs.map dN)=true then M.ok (R.l .fresh (cY (xs.map dN))) else if sC (xs.map dN)=true then M.ok (R.l .fresh (cY (xs.map dN))) else .bad)=_
 rw [if_pos (Ip xs hl)]
 split <;> rfl
theorem Nv (xs:List (Nat×Nat)) (hl:xs.length < 64):qo (xs.map dP)=true:=by
 have h1:areKeys (xs.map dP)=true:=by
  induction xs with
  | nil=>rfl
  | cons x xs ih=>
   rw [Sw]
   show (isKey (dP x) && areKeys (xs.map dP))=true
   rw [ih (by simp at hl;omega)]
   rfl
 have h2:deps (xs.map dP)<=8:=gq λd hd=>by
  obtain ⟨x,_,rfl⟩:=Sb.mp hd
  exact (by decide:(1:Nat)<=8)
 have h3:Io (xs.map dP)=true:=by
  cases xs with
  | nil=>rfl
  | cons x xs=>
   show (gz .i ((x::xs).map dP) && ((x::xs).map dP).all (qR pF))=true
   rw [nZ (LB (x::xs)),Vs,SW]
   intro d hd
   obtain ⟨y,_,rfl⟩:=Sb.mp hd
   rfl
 unfold qo
 rw [h1,h3,decide_eq_true h2,Sa,decide_eq_true hl]
 rfl
theorem Hu (xs:List (Nat×Nat)) (hl:xs.length < 64):f7 [.d (.tup (xs.map dP))]=.ok (.l .fresh (cY (xs.map dP))):=by
 show (if qo (xs.map dP)=true then M.ok (R.l .fresh (cY (xs.map dP))) else _)=_
 rw [if_pos (Nv xs hl)]
theorem mJ {P:D->Prop}(p:fV P){ds:List D}(h:∀x∈ds,P x):(cY ds).length<=ds.length/\∀d∈cY ds,d∈ds:=by
 obtain ⟨h1,h2⟩:=yC p ds h
 refine ⟨?_,λd hd=>((lE p h).2 d).mp hd⟩
 show (bF (dd ds)).length<=_
 rw [qG]
 exact SH h1 λd hd=>(h2 d).mp hd
theorem Ln (xs:List D) (k:Nat) (hk:k<=xs.length):cutD xs none (some (k:Int))=xs.take k:=by
 unfold cutD
 rw [HT.As,HT.BQ,abu hk]
 simp
theorem F8 (xs:List D) (k:Nat) (hk:k<=xs.length):cutD xs (some (k:Int)) none=xs.drop k:=by
 unfold cutD
 rw [HT.As,HT.BQ,abu hk]
 rw [YU (by simp)]
abbrev NN:G O:=(aM (mV (dh 2 (bw (aA 8) (bw (aA 9) dz))) (g2 aZ (af 7) (af 5)))
 (aM (bg 10 (gN cS (aq (gN f7 (aq (g2 cR (af 9) (bD (aC (af 6) aV))) aG)) aG)))
 (aM (bS (bC (g2 (ie false) (af 6) (af 9))) (bg 10 (gN cS (aq (bK 1 [6] (eY (af 9)) (aA 0) (bC (g2 (cL true) (af 0) (af 1))) (af 0)) aG))) dJ)
 (aM (bg 7 (g2 cR (g2 cR (Bt vU (af 7) Er (Es (af 5))) (bD (aC (bD (aC (af 8) (aC (af 10) aV))) aV))) (Bt vU (af 7) (Es (g2 cR (af 5) (gC (.int 1)))) Er)))
 (aM (bS (bC (Ep "tuple" (af 6))) (bJ (bD (aC (af 2) (aC (af 3) (aC (af 7) aV))))) dJ)
 (bJ (bD (aC (af 2) (aC (af 7) (aC (af 4) aV))))))))))
abbrev dG {α:Type}(h:α->D) (r:Str×List α):D:=.tup [.str r.1,.tup (r.2.map h)]
structure DO {α:Type}(P:α->Prop) (n:Nat) (L:List (Str×List α)):Prop where
 all:∀r∈L,r.2.length<=n/\∀p∈r.2,P p
theorem uP {i:Int}(h:0<=i):∃k:Nat,i=k:=⟨i.toNat,by omega⟩
theorem qY {m:Nat}{ps:List (Nat×Nat)}(h:t7 m ps) (hm:m<=4):ps.length<=16:=by
 obtain ⟨_,h2,h3⟩:=h
 have nd:ps.Nodup:=h2.imp fun {a b} hab e=>by subst e;unfold iP at hab;omega
 have sub:∀p∈ps,p∈(Sh 16).map λk=>(k / 4,k % 4):=λp hp=>by
  obtain ⟨a,b⟩:=h3 p hp
  refine Sb.mpr ⟨p.1 * 4 + p.2,by rw [Sy];omega,?_⟩
  obtain ⟨x,y⟩:=p
  simp only at a b ⊢
  rw [Prod.mk.injEq]
  omega
 have:=SH nd sub
 simpa using this
end K55
namespace DL
open PySem PySem.Spec PyProof.Rows L2 DX
noncomputable def bW (gt:GT) (gts:G Bool) (act:Ev->M (List D×Ev)):List D->Ev->M (List D×Ev)
 | [],env=>.ok ([],env)
 | d::ds,env=>gt d env >>= λe=>gts e >>= λk=>if k=true then act e >>= λr=>bW gt gts act ds r.2 >>= λz=>.ok (r.1++z.1,z.2) else bW gt gts act ds e
def yU (env:Ev) (σ:L2.St) (p:Sm):Prop:=∀(j:Nat) (xs:Mn),env[j]?=some (some (mS xs))->σ[j]?≠some (some (.ref p))
structure yN (Acc:Hp->Hp->List D->Prop):Prop where
 ext:∀{J H J' H':Hp}{ys:List D},Acc J H ys->Ext J H J' H'->Acc J' H' ys
noncomputable def vH (X:Cx) (c:C) (p:Sm) (Acc:Hp->Hp->List D->Prop) (J2 H2:Hp) (N:Nat) (m:Sem Unit) (act:Ev->M (List D×Ev)):Prop:=
 ∀(RX:List (Sm×Obj)) (s:R_) (σ:L2.St) (H J:Hp) (env:Ev) (ys:List D) (Qf:List D×Ev->Prop),Inv X RX σ H s->Ext J2 H2 J H->SR c J H σ env->yU env σ p->Acc J H ys->ys.length + N<=sizeLine->cA (act env) Qf c.T->
  Sx (SE X.prog X.w) X.A m (λ_ s'=>∃σ' H' J' r,Inv X RX σ' H' s'/\Ext J2 H2 J' H'/\aT J J'/\SR c J' H' σ' r.2/\yU r.2 σ' p/\Acc J' H' (ys++r.1)/\r.1.length<=N/\Qf r) (λ_ _=>False) s
abbrev Fw (ifs:List S4) (env:Env):Sem Bool:=forIn ifs true λc r=>if r=true then do let ok <-ZA c env (eval c env);pure (Vg ok) else pure (Vg r)
abbrev mP (RZ R0:S4) (ifs:List S4) (it:R8) (env:Env) (act:Sem Unit) (again':Sem Fin):Sem Fin:=do
 VS R0.pos
 match <-Wi it with
 | none=>pure (.done .next)
 | some v=>
  Ve RZ it v
  assign RZ env v
  let mut ok:=true
  for c in ifs do
   if ok then ok <-ZA c env (eval c env)
  if ok then
   act
  again'
noncomputable def tU (prog:Su) (w:S3) (A:S5) (e:S4) (depth:Nat) (it acc:R8) (env:Env) (RZ:S4) (ifs:List S4) (m:Sem Unit):Prop:=
 ∀(R:aa7->R_->Prop) (I:Nat->R_->Prop),(∀n s,I n s->Sx (SE prog w) A (Wi it) (λr s₁=>match r with
   | none=>R (.ok .next) s₁
   | some v=>Sx (SE prog w) A (Ve RZ it v) (λ_ s₁=>Sx (SE prog w) A (assign RZ env v) (λ_ s₂=>
     Sx (SE prog w) A (Fw ifs env) (λok s₃=>if ok=true then Sx (SE prog w) A m (λ_ s₅=>∃m,m < n/\I m s₅) (λ_ _=>False) s₃ else ∃m,m < n/\I m s₃) (λ_ _=>False) s₂) (λ_ _=>False) s₁) (λ_ _=>False) s₁) (λ_ _=>False) s)->
  ∀(n:Nat) (s:R_),I n s->U5 (SE prog w) A (.compLoop e depth it acc env) R s
section
variable {prog:Su}{w:S3}{A:S5}{RZ R0:S4}{ifs:List S4}{RV:Vk}{pos:Pos}{it acc:R8}{env:Env}{depth:Nat}{gens:List YE}{act:Sem Unit}
theorem AG {R:aa7->R_->Prop}{I:Nat->R_->Prop}{E:R8->R_->Prop}{code:Code}{n:Nat}{s:R_}{Q:Fin->R_->Prop}
  (Rn:∀s,R (.ok .next) s->Q (.done .next) s) (Rh:∀s,(∃m,m < n/\I m s)->Sx (SE prog w) A (again code) Q E s)
  (t:Sx (SE prog w) A (Wi it) (λr s₁=>match r with
   | none=>R (.ok .next) s₁
   | some v=>Sx (SE prog w) A (Ve RZ it v) (λ_ s₁=>Sx (SE prog w) A (assign RZ env v) (λ_ s₂=>
     Sx (SE prog w) A (Fw ifs env) (λok s₃=>if ok=true then Sx (SE prog w) A act (λ_ s₅=>∃m,m < n/\I m s₅) (λ_ _=>False) s₃ else ∃m,m < n/\I m s₃) (λ_ _=>False) s₂) (λ_ _=>False) s₁) (λ_ _=>False) s₁) (λ_ _=>False) s):
  Sx (SE prog w) A (mP RZ R0 ifs it env act (again code)) Q E s:=by
 refine R6 (UD (R6 (Tw t (λr s₁ h₁=>?_) λ_ _ f=>f.elim)))
 cases r with
 | none=>exact R9 (Rn _ h₁)
 | some v=>
  refine R6 (Tw h₁ (λ_ s₁' h₁'=>?_) λ_ _ f=>f.elim)
  refine R6 (Tw h₁' (λ_ s₂ h₂=>R6 (Tw h₂ (λok s₃ h₃=>?_) λ_ _ f=>f.elim)) λ_ _ f=>f.elim)
  cases ok with
  | false=>exact Rh _ h₃
  | true=>exact R6 (Tw h₃ (λ_ s₅ h₅=>Rh _ h₅) λ_ _ f=>f.elim)
theorem CS {elt:S4}(ht:Xb (.ListComp elt gens RV pos) depth it acc env=mP RZ R0 ifs it env act (again (.compLoop (.ListComp elt gens RV pos) depth it acc env))):tU prog w A (.ListComp elt gens RV pos) depth it acc env RZ ifs act:=by
 intro R I turn n s h
 refine codeAny_loop rfl I (λn s hI=>?_) n h
 show Sx _ A ((Xb (.ListComp elt gens RV pos) depth it acc env).onRaise (λx=>do abv x env;abw x)) _ _ s
 refine wpAny_noted ?_
 rw [ht]
 exact AG (λ_ h=>h) (λ_ h=>R9 ⟨rfl,h⟩) (turn n s hI)
theorem CQ {kx vx:S4}(ht:Xb (.DictComp kx vx gens RV pos) depth it acc env=mP RZ R0 ifs it env act (again (.compLoop (.DictComp kx vx gens RV pos) depth it acc env))):tU prog w A (.DictComp kx vx gens RV pos) depth it acc env RZ ifs act:=by
 intro R I turn n s h
 refine codeAny_loop rfl I (λn s hI=>?_) n h
 show Sx _ A ((Xb (.DictComp kx vx gens RV pos) depth it acc env).onRaise (λx=>do abv x env;abw x)) _ _ s
 refine wpAny_noted ?_
 rw [ht]
 exact AG (λ_ h=>h) (λ_ h=>R9 ⟨rfl,h⟩) (turn n s hI)
end
section
variable {X:Cx}{c:C}{p:Sm}{Acc:Hp->Hp->List D->Prop}{J2 H2:Hp}{N:Nat}{m:Sem Unit}{act:Ev->M (List D×Ev)}{RZ:S4}{ifs:List S4}{gt:GT}{gts:G Bool}{e:S4}{depth:Nat}{acc:R8}{it:Sm}{fp:List Sm}{tn:Nat->TM->Prop}{It:It}{ds:List D}{J1:Hp}
theorem z_ (aR:yN Acc) (hc:X.calm=true) (hx:∀v s,X.xe v s->False) (LP:tU X.prog X.w X.A e depth (.ref it) acc X.env RZ ifs m) (hT:i7 X c RZ gt) (hIf:gu X c ifs gts) (hA:vH X c p Acc J2 H2 N m act) (T:Turn X.prog X.w X.K RZ It fp it tn)
  (U:Hp->Hp->Prop) (wk:Walk c It ds J1 U){RX:List (Sm×Obj)}{s:R_}{σ:L2.St}{H J:Hp}{env:Ev}{ys:List D}{Qf:List D×Ev->Prop}(hU:∀J' H',Ext J2 H2 J' H'->aT J J'->U J' H') (I:Inv X RX σ H s) (st:tn 0 s.heap) (fr:∀b∈fp,iw X RX H b) (e2:Ext J2 H2 J H) (sr:SR c J H σ env) (no:yU env σ p) (ac:Acc J H ys)
  (hl:ys.length + ds.length * N<=sizeLine) (w:cA (bW gt gts act ds env) Qf c.T):
  U5 (SE X.prog X.w) X.A (.compLoop e depth (.ref it) acc X.env) (λr s'=>r=.ok .next/\∃σ' H' J' r',Inv X RX σ' H' s'/\Ext J2 H2 J' H'/\aT J J'/\SR c J' H' σ' r'.2/\yU r'.2 σ' p/\Acc J' H' (ys++r'.1)/\r'.1.length<=ds.length * N/\Qf r') s:=by
 refine LP _ (λn s'=>∃(i:Nat) (σ':L2.St) (H' J':Hp) (env':Ev) (zs:List D),n=ds.length - i/\i<=ds.length/\Inv X RX σ' H' s'/\tn i s'.heap/\(∀b∈fp,H' b=none)/\Ext J2 H2 J' H'/\aT J J'/\SR c J' H' σ' env'/\yU env' σ' p/\Acc J' H' (ys++zs)/\zs.length<=i * N/\
  cA (bW gt gts act (ds.drop i) env') (λr=>Qf (zs++r.1,r.2)) c.T) ?_ ds.length s ⟨0,σ,H,J,env,[],rfl,SJ _,I,st,λb hb=>(fr b hb).1,e2,aT.refl J,sr,no,by rw [US];exact ac,by simp,by rw [abJ];exact w⟩
 rintro n s' ⟨i,σ',H',J',env',zs,rfl,hi,I',st',fr',e',sj,sr',no',ac',hz,w'⟩
 have stat:∀{H':Hp},(∀b∈fp,H' b=none)->∀b∈fp,iw X RX H' b:=λhn b hb=>⟨hn b hb,(fr b hb).2⟩
 obtain ⟨wk1,wk2⟩:=wk i J' H' sr'.hp (hU J' H' e' sj)
 by_cases hlt:i < ds.length
 ·obtain ⟨g1,y1⟩:=wk2 ds[i] (by simp [hlt])
  rw [Wr hlt] at w'
  refine Tw (T.item X rfl rfl rfl hc i RX s' σ' H' (λ_ _=>False) I' (stat fr') st' g1) (λr s4 ⟨u,hr,h4⟩=>?_) λ_ _ f=>f.elim
  subst hr
  refine Tw h4 (λ_ s5 ⟨x,H5,I5,r5,y5,st5,fr5⟩=>?_) λ_ _ f=>f.elim
  obtain ⟨J5,e5,rx⟩:=y1 x H5 y5
  have I5':=I5.pinned (stat fr5) (T.obj _ _ st5)
  have again:∀{σ7:L2.St}{H7:Hp}{s7:R_},Inv X (RX++qu fp s5.heap) σ7 H7 s7->Inv X RX σ7 H7 s7/\tn (i + 1) s7.heap/\(∀b∈fp,H7 b=none):=fun {σ7 H7 s7} I7=>by
   refine ⟨I7.unpinned,T.keep _ _ _ st5 λb hb o e=>(I7.pin (b,o) (Tg _ (Tg _ (kE hb e)))).1,λb hb=>?_⟩
   obtain ⟨o,e,d⟩:=T.obj _ _ st5 b hb
   exact (I7.pin (b,o) (Tg _ (Tg _ (kE hb e)))).2.1
  refine Tw (hT _ s5 σ' H5 x u (λσ6 H6=>∃e6,H6=H5/\SR c J5 H5 σ6 e6/\KO env' σ' e6 σ6/\cA (gts e6 >>= λk=>if k=true then act e6 >>= λr=>bW gt gts act (ds.drop (i + 1)) r.2 >>= λz=>.ok (r.1++z.1,z.2) else bW gt gts act (ds.drop (i + 1)) e6)
   (λr=>Qf (zs++r.1,r.2)) c.T) I5' r5 ⟨J5,env',ds[i],sr'.ext e5,rx,aE (aI w') λe6 w6 σ6 sr6 ko=>⟨e6,rfl,sr6,ko,w6⟩⟩) (λ_ s6 ⟨σ6,H6,I6,e6,Rl,sr6,ko,w6⟩=>?_) λ_ _ f=>(hx _ _ f).elim
  subst Rl
  have no6:yU e6 σ6 p:=λj xs q z=>by
   obtain ⟨k1,k2⟩:=ko j xs q
   exact no' j xs k1 (k2▸z)
  refine Tw (hIf _ s6 σ6 H6 (λk H7=>∃J7,Ext J5 H6 J7 H7/\cA (if k=true then act e6 >>= λr=>bW gt gts act (ds.drop (i + 1)) r.2 >>= λz=>.ok (r.1++z.1,z.2) else bW gt gts act (ds.drop (i + 1)) e6)
   (λr=>Qf (zs++r.1,r.2)) c.T) I6 ⟨J5,e6,sr6,aE (aI w6) λk wk J7 H7 e7=>⟨J7,e7,wk⟩⟩) (λk s7 ⟨H7,I7,J7,e7,w7⟩=>?_) λ_ _ f=>(hx _ _ f).elim
  have sr7:=sr6.ext e7
  have ac7:=aR.ext (aR.ext ac' e5) e7
  have x7:=(e'.trans e5).trans e7
  have j7:=(sj.trans e5.j).trans e7.j
  have hm:(i + 1) * N=i * N + N:=by rw [abx,Nat.one_mul]
  cases k with
  | false=>
   rw [if_neg (by decide)] at w7 ⊢
   obtain ⟨a1,a2,a3⟩:=again I7
   exact ⟨ds.length - (i + 1),by omega,i + 1,σ6,H7,J7,e6,zs,rfl,hlt,a1,a2,a3,x7,j7,sr7,no6,ac7,by omega,w7⟩
  | true=>
   rw [if_pos rfl] at w7 ⊢
   have hN:(i + 1) * N<=ds.length * N:=VC N hlt
   refine Tw (hA _ s7 σ6 H7 J7 e6 (ys++zs) _ I7 x7 sr7 no6 ac7 (by rw [SI];omega) (aI w7)) (λ_ s8 ⟨σ8,H8,J8,r,I8,x8,j8,sr8,no8,ac8,l8,w8⟩=>?_) λ_ _ f=>f.elim
   obtain ⟨a1,a2,a3⟩:=again I8
   refine ⟨ds.length - (i + 1),by omega,i + 1,σ8,H8,J8,r.2,zs++r.1,rfl,hlt,a1,a2,a3,x8,j7.trans j8,sr8,no8,by rw [<-Wh];exact ac8,by rw [SI];omega,?_⟩
   refine aE (aI w8) λz q=>?_
   rw [Wh]
   exact q
 ·have Rz:i=ds.length:=by omega
  subst Rz
  rw [YR (Sj _)] at w'
  refine Tw (T.done X rfl rfl rfl hc _ RX s' σ' H' (λ_ _=>False) I' (stat fr') st' (wk1 (Sj _))) (λr s4 ⟨hr,I9⟩=>?_) λ_ _ f=>f.elim
  subst hr
  have w9:Qf (zs++[],env'):=w'
  rw [US] at w9
  exact ⟨rfl,σ',H',J',(zs,env'),I9,e',sj,sr',no',ac',hz,w9⟩
end
section
variable {prog:Su}{w:S3}{A:S5}{R:aa7->R_->Prop}{s:R_}{it acc:R8}{env:Env}{RV:Vk}{pos:Pos}{g0:YE}{RZ R0:S4}{ifs:List S4}{rest:List YE}
theorem MZ {elt:S4}(h0:U5 (SE prog w) A (.compLoop (.ListComp elt (g0::⟨RZ,R0,ifs,0⟩::rest) RV pos) 1 it acc env) R s)
  (h:Sx (SE prog w) A (XZ it) (λit' s'=>U5 (SE prog w) A (.compLoop (.ListComp elt (g0::⟨RZ,R0,ifs,0⟩::rest) RV pos) 1 it' acc env) R s') (λ_ _=>False) s):
  U5 (SE prog w) A (.compStart (.ListComp elt (g0::⟨RZ,R0,ifs,0⟩::rest) RV pos) 1 it acc env) R s:=by
 refine XS ?_
 show Sx _ _ ((aby (.ListComp elt (g0::⟨RZ,R0,ifs,0⟩::rest) RV pos) 1 it acc env).onRaise (λx=>do abv x env;VS abz)) _ _ s
 refine acp ?_
 unfold aby
 show Sx _ _ (ask >>= _) _ _ s
 refine R6 (Vo (wpAny_ite ?_))
 split
 ·first
   | exact R6 (R9 (R9 (Zh rfl h0)))
   | exact R9 (Zh rfl h0)
 ·refine R6 (Wz ?_)
  show Sx _ _ (VS R0.pos >>= _) _ _ s
  exact R6 (UD (R6 (Tw h (λit' s' h'=>R9 (Zh rfl h')) λ_ _ x=>x.elim)))
theorem MY {kx vx:S4}(h0:U5 (SE prog w) A (.compLoop (.DictComp kx vx (g0::⟨RZ,R0,ifs,0⟩::rest) RV pos) 1 it acc env) R s)
  (h:Sx (SE prog w) A (XZ it) (λit' s'=>U5 (SE prog w) A (.compLoop (.DictComp kx vx (g0::⟨RZ,R0,ifs,0⟩::rest) RV pos) 1 it' acc env) R s') (λ_ _=>False) s):
  U5 (SE prog w) A (.compStart (.DictComp kx vx (g0::⟨RZ,R0,ifs,0⟩::rest) RV pos) 1 it acc env) R s:=by
 refine XS ?_
 show Sx _ _ ((aby (.DictComp kx vx (g0::⟨RZ,R0,ifs,0⟩::rest) RV pos) 1 it acc env).onRaise (λx=>do abv x env;VS abz)) _ _ s
 refine acp ?_
 unfold aby
 show Sx _ _ (ask >>= _) _ _ s
 refine R6 (Vo (wpAny_ite ?_))
 split
 ·first
   | exact R6 (R9 (R9 (Zh rfl h0)))
   | exact R9 (Zh rfl h0)
 ·refine R6 (Wz ?_)
  show Sx _ _ (VS R0.pos >>= _) _ _ s
  exact R6 (UD (R6 (Tw h (λit' s' h'=>R9 (Zh rfl h')) λ_ _ x=>x.elim)))
end
noncomputable def i_ (gi:G (List D)) (gt:GT) (gts:G Bool) (act:Ev->M (List D×Ev)):Ev->M (List D×Ev):=λenv=>gi env >>= λds=>if ds.length<=1000 then bW gt gts act ds env else .bad
abbrev sZ (e R0:S4) (acc:R8) (env:Env):Sem Unit:=do
 let x <-eval R0 env
 VS R0.pos
 let x <-SA R0 env x
 let _ <-runOwn (.compStart e 1 (<-holding [x] (XZ x)) acc env) env
section
variable {X:Cx}{c:C}{p:Sm}{Acc:Hp->Hp->List D->Prop}{J2 H2:Hp}{N:Nat}{m:Sem Unit}{act:Ev->M (List D×Ev)}{RZ R0:S4}{ifs:List S4}{gi:G (List D)}{gt:GT}{gts:G Bool}{e:S4}{acc:R8}
theorem Bf (aR:yN Acc) (hc:X.calm=true) (hx:∀v s,X.xe v s->False) (hs:∀x,SA R0 X.env x=pure x)
  (start:∀(it:Sm) (R:aa7->R_->Prop) (s:R_),U5 (SE X.prog X.w) X.A (.compLoop e 1 (.ref it) acc X.env) R s->Sx (SE X.prog X.w) X.A (XZ (.ref it)) (λit' s'=>U5 (SE X.prog X.w) X.A (.compLoop e 1 it' acc X.env) R s') (λ_ _=>False) s->U5 (SE X.prog X.w) X.A (.compStart e 1 (.ref it) acc X.env) R s)
  (LP:∀it:Sm,tU X.prog X.w X.A e 1 (.ref it) acc X.env RZ ifs m) (hi:yW X c RZ R0 gi) (hT:i7 X c RZ gt) (hIf:gu X c ifs gts) (hA:vH X c p Acc J2 H2 N m act):
  vH X c p Acc J2 H2 (1000 * N) (sZ e R0 acc X.env) (i_ gi gt gts act):=by
 intro RX s σ H J env ys Qf I x2 sr no ac hl w
 refine R6 (Tw (hi RX s σ H (λIt H1=>∃ds J1,Ext J H J1 H1/\Walk c It ds J1 (λJ' _=>aT J1 J')/\cA (if ds.length<=1000 then bW gt gts act ds env else .bad) Qf c.T) I ⟨J,env,sr,aE (aI w) λds wd It J1 H1 e1 wk=>⟨ds,J1,e1,wk,wd⟩⟩) (λxv s1 h1=>?_) λv s f=>(hx v s f).elim)
 refine R6 (UD ?_)
 rw [hs xv]
 refine R6 (R9 (R6 (S_ (Tw h1 (λitv s2 h2=>?_) λv s f=>(hx v s f).elim))))
 obtain ⟨it,fp,tn,It,H1,rfl,I1,T,st1,f1,ds,J1,e1,wk,w1⟩:=h2
 have hsz:ds.length<=1000:=by
  by_cases z:ds.length<=1000
  ·exact z
  ·rw [if_neg z] at w1;exact w1.elim
 rw [if_pos hsz] at w1
 have hm:ds.length * N<=1000 * N:=VC N hsz
 have hb:ys.length + ds.length * N<=sizeLine:=S7 (Nat.add_le_add_left hm _) hl
 have run:=z_ aR hc hx (LP it) hT hIf hA T (λJ' _=>aT J1 J') wk (λ_ _ _ h=>h) I1 st1 f1 (x2.trans e1) (sr.ext e1) no (aR.ext ac e1) hb w1
 have run':U5 (SE X.prog X.w) X.A (.compLoop e 1 (.ref it) acc X.env) (λr s'=>match r with | .ok f=>Sx (SE X.prog X.w) X.A (pure ()) (λ_ s'=>∃σ' H' J' r,Inv X RX σ' H' s'/\Ext J2 H2 J' H'/\aT J J'/\SR c J' H' σ' r.2/\yU r.2 σ' p/\Acc J' H' (ys++r.1)/\r.1.length<=1000 * N/\Qf r) (λ_ _=>False) s' | .error e=>cameBackBy (SE X.prog X.w) X.A X.env (λ_ _=>False) e s') s2:=VR run λr s' ⟨hr,σ',H',J',r',q1,q2,q3,q4,q5,q6,q7,q8⟩=>by
  subst hr
  exact R9 ⟨σ',H',J',r',q1,q2,e1.j.trans q3,q4,q5,q6,S7 q7 hm,q8⟩
 exact R6 (wpAny_runOwn (h:=none) (start it _ _ run' (T.self _ 0 _ _ _ st1 run')))
end
def gD (ge:G R):Ev->M (List D×Ev):=λe=>ge e >>= λr=>toD r >>= λy=>.ok ([y],e)
def Cg (c:C) (p:Sm):Hp->Hp->List D->Prop:=λJ H ys=>∃us,H p=some (.lst us)/\J p=none/\aK c.K J ys us
theorem sQ {c:C}{p:Sm}:yN (Cg c p):=⟨fun {J H J' H' ys} ⟨us,h1,h2,h3⟩ e=>⟨us,e.h _ _ h1,e.frz _ (by rw [h1];intro z;cases z) h2,h3.mono e.j⟩⟩
section
variable {X:Cx}{c:C}{p:Sm}{J2 H2:Hp}{elt:S4}{ge:G R}
theorem Be (hx:∀v s,X.xe v s->False) (hp2:H2 p=none) (hp0:c.H0 p=none) (hE:PD X c elt ge):vH X c p (Cg c p) J2 H2 1 (do let _ <-call (.builtin "list.append") [.ref p,<-eval elt X.env]) (gD ge):=by
 intro RX s σ H J env ys Qf I x2 sr no ⟨us,h1,h2,h3⟩ hl w
 have hlen:ys.length=us.length:=h3.length
 refine R6 (Tw (hE _ s σ H (λv H8=>∃J8 y,Ext J H J8 H8/\Rep c.K J8 y v/\Qf ([y],env)) I ⟨J,env,sr,aE (aI w) λr wr v J8 H8 e8 r8=>?_⟩) (λu8 s8 ⟨v8,H8,I8,r8,J8,y,e8,ry,w8⟩=>?_) λv s f=>(hx v s f).elim)
 ·obtain ⟨y,q,wr⟩:=iV wr
  obtain ⟨J9,e9,_,ry⟩:=freeze e8 r8 q
  exact ⟨J9,y,e9,ry,wr⟩
 have p8:H8 p=some (.lst us):=e8.h _ _ h1
 have J8p:J8 p=none:=e8.frz _ (by rw [h1];intro z;cases z) h2
 refine R6 (Tw (qm (X:=X) _ s8 σ H8 (.ref p) [v8] (.ref p) [u8] (λ_ H9=>H9=L2.upd H8 p (.lst (us++[v8]))) I8 rfl (.cons r8 .nil) ⟨_,us,v8,rfl,rfl,p8,by omega,rfl⟩) (λ_ s9 ⟨_,H9,I9,_,h9⟩=>?_) λv s f=>(hx v s f).elim)
 subst h9
 exact R9 ⟨σ,_,J8,([y],env),I9,(x2.trans e8).other hp2 J8p,e8.j,(sr.ext e8).other J8p hp0 no,no,⟨us++[v8],bU,J8p,(h3.mono e8.j).append (.cons ry .nil)⟩,Sj _,w8⟩
end
noncomputable def je (lim n:Nat) (cap:List Nat) (gi:G (List D)) (gt:GT) (gts:G Bool) (act:Ev->M (List D×Ev)) (fin:List D->M R):G R:=λenv=>gi env >>= λds=>if ds.length<=lim then bW gt gts act ds (cE n cap env) >>= λr=>fin r.1 else .bad
section
variable {X:Cx}{c:C}
theorem oh (own:List Str) (cap:List Nat){e RZ R0:S4}{ifs:List S4}{gs:List YE}{RV:Vk}{gi:G (List D)}{gt:GT}{gts:G Bool}{act:Ev->M (List D×Ev)}{fin:List D->M R}{newAcc:Sem R8}{ob:Obj}{o0:Sm->HO}{Acc:Sm->Hp->Hp->List D->Prop}{N lim:Nat}{m:Sm->Env->Sem Unit}
  (hcls:clausesOf e=⟨RZ,R0,ifs,0⟩::gs) (hi:pU X c RZ R0 gi)
  (hnew:∀(s:R_) (Q:R8->R_->Prop) (E:R8->R_->Prop),Q (.ref s.heap.objs.size) {s with heap:=s.heap.push ob}->Sx (SE X.prog X.w) X.A newAcc Q E s)
  (hob:∀(h:TM) (H:Hp),cP X.prog X.w H (h.push ob) h.objs.size (o0 h.objs.size))
  (aR:∀p,yN (Acc p)) (a0:∀(p:Sm) (J H:Hp),V3 < p->H p=some (o0 p)->J p=none->Acc p J H [])
  (hN:lim * N<=sizeLine) (LP:∀(it p:Sm) (env:Env),tU X.prog X.w X.A e 0 (.ref it) (.ref p) env RZ ifs (m p env))
  (start:∀(it:Sm) (acc:R8) (env:Env) (R:aa7->R_->Prop) (s:R_),U5 (SE X.prog X.w) X.A (.compLoop e 0 (.ref it) acc env) R s->Sx (SE X.prog X.w) X.A (XZ (.ref it)) (λit' s'=>U5 (SE X.prog X.w) X.A (.compLoop e 0 it' acc env) R s') (notedBy (SE X.prog X.w) X.A env λx s'=>R (.error x) s') s->U5 (SE X.prog X.w) X.A (.compStart e 0 (.ref it) acc env) R s)
  (nofin:∀ys z,fin ys≠.exc z) (hend:∀{p:Sm}{J H J' H':Hp}{ys:List D}{r:R},H p=none->Ext J H J' H'->Acc p J' H' ys->fin ys=.ok r->∃J'',Ext J H J'' H'/\RR c H J'' H' r (.ref p))
  (hbody:∀(cl:List (Str×Sm)) (C:Sm) (s:R_) (H:Hp) (fp:List Sm),bE X.env.cells RV.names []=some cl->i7 (aX X own cap RV cl C s H fp) c RZ gt/\gu (aX X own cap RV cl C s H fp) c ifs gts/\∀(p:Sm) (J2 H2:Hp),H2 p=none->c.H0 p=none->vH (aX X own cap RV cl C s H fp) c p (Acc p) J2 H2 N (m p (aX X own cap RV cl C s H fp).env) act)
  (hk:RV.kind=.function) (hno:fk X cap RV=true) (hnames:(RV.names.all λx=>!(x.2 == .local) || (RV.names.lookup x.1 == some .local))=true)
  (hcl:(bE X.env.cells RV.names []).isSome=true) (hcap:dQ X cap=true) (hloc:dW X cap RV=true) (hnd:fM cap=true) (P0:X.calm=true)
  (hs:∀x,SA R0 X.env x=pure x)
  {RX:List (Sm×Obj)}{s:R_}{σ:L2.St}{H:Hp}{Q:VK}{use:Option (R8->Sem Unit)}{Q0:R8->R_->Prop}{pos':Pos}(I:Inv X RX σ H s) (h:tD c (je lim own.length cap gi gt gts act fin) σ H Q)
  (P5:∀(acc C:Sm) (m:Str->Option R8) (s':R_) (H':Hp) (fl:Flow),s'.heap.Ns C m->((C∈X.ex\/X.s₀.heap.objs.size<=C)/\C≠X.env.locals/\(∀x c,X.env.cells.lookup x=some c->c≠C)/\∀p∈X.pn++RX,p.1≠C)->H' C=none->(∀h'',Tu C s'.heap h''->Inv X RX σ H' {s' with heap:=h''})->Q (.ref acc) H'->aaj (SE X.prog X.w) X.A X.xe use Q0 (.ref acc) C (.ok fl) s'):
  Sx (SE X.prog X.w) X.A (comprehension e RV X.env pos' newAcc false (eval R0 X.env) use) Q0 X.xe s:=by
 obtain ⟨J,env,sr,w⟩:=h
 obtain ⟨cl,hcl⟩:=Ug.mp hcl
 have Q4:∀j∈cap,∀x,X.N[j]?=some x->dg RV.names x=false:=λj hj x hx=>by
  have:=SW.mp hno j hj
  rw [hx] at this
  simpa using this
 have Qm:∀x∈RV.names,x.2=.local->RV.names.lookup x.1=some .local:=λy hy z=>by
  have:=SW.mp hnames y hy
  rw [z] at this
  simpa using this
 have QK:∀j∈cap,∀x,X.N[j]?=some x->(relabel RV X.env).names.lookup x≠some .local:=λj hj x hx z=>by
  have:=SW.mp hloc j hj
  rw [hx] at this
  simp only at this
  rw [z] at this
  cases this
 refine wpAny_comprehension_free (use:=use) hcls hs (yo hcl) hk Qm ?_
 refine bN (hi RX s σ H (λIt H1=>∃ds J1,Ext J H J1 H1/\Walk c It ds J1 (λJ' H'=>aT J1 J'/\aT H1 H')/\
  cA (if ds.length<=lim then bW gt gts act ds (cE own.length cap env) >>= λr=>fin r.1 else .bad) (λr=>∀v J' H',Ext J H J' H'->RR c H J' H' r v->Q v H') c.T) I ⟨J,env,sr,aE (aI w) λds wd It J1 H1 e1 wk=>⟨ds,J1,e1,wk,wd⟩⟩) λxv s1 h1=>bN h1 λitv s2 h2=>?_
 obtain ⟨it,fp,tn,It,H2,rfl,I2,T,st2,f2,ds,J2,e2,wk,w2⟩:=h2
 have hsz:ds.length<=lim:=by
  by_cases z:ds.length<=lim
  ·exact z
  ·rw [if_neg z] at w2;exact w2.elim
 rw [if_pos hsz] at w2
 have w3:=aI w2
 refine hnew s2 _ _ (CU ?_)
 dsimp only
 generalize QS:s2.heap.push ob=Hs
 have hC:Hs.objs.size=s2.heap.objs.size + 1:=by rw [<-QS,UC]
 have hp2:H2 s2.heap.objs.size=none:=I2.hok.fresh (Sj _)
 have kHs:∀b o,s2.heap.get? b=some o->Hs.get? b=some o:=λb o e=>by rw [<-QS];exact Sg _ e
 have I3:Inv X RX σ (L2.upd H2 s2.heap.objs.size (o0 s2.heap.objs.size)) {s2 with heap:=Hs,toks:=s2.toks}:=I2.laid (t':=s2.toks) kHs (Sj _) (by rw [<-QS];exact hob _ _)
 have f3:∀b∈fp,iw X RX (L2.upd H2 s2.heap.objs.size (o0 s2.heap.objs.size)) b:=λb hb=>by
  obtain ⟨o,ho,_⟩:=T.obj _ _ st2 b hb
  exact ⟨by rw [bz (SY (Sz ho))];exact (f2 b hb).1,(f2 b hb).2⟩
 have hin:∀b∈fp,b < Hs.objs.size:=λb hb=>by
  obtain ⟨o,ho,_⟩:=T.obj _ _ st2 b hb
  exact V6 (Sz ho) (by rw [hC];exact U6 _)
 obtain ⟨h₁,eh₁⟩:∃h₁,h₁=abk (Hs.push {cls:=.type "dict",data:=.dict #[]}) RV.names:=⟨_,rfl⟩
 rw [<-eh₁]
 have hns₁:h₁.Ns Hs.objs.size (λ_=>none):=by rw [eh₁];exact L6 Hs RV.names
 have ck:ac5 h₁ (Hs.objs.size + 1) (TJ (Hs.objs.size + 1) RV.names []):=by rw [eh₁];exact D9 Hs RV.names
 have okC:=Jh (own:=own) (cap:=cap) I3 hk hcl ck f3 hin
 have old1:∀b o,Hs.get? b=some o->h₁.get? b=some o:=λb o e=>by rw [eh₁];exact abl _ _ _ _ (Sg _ e)
 have I4:=F9 (tk:=s2.toks) I3 okC hcl ck hcap QK Q4 hns₁ old1
 have sr2:=sr.ext e2
 have srA:SR c J2 (L2.upd H2 s2.heap.objs.size (o0 s2.heap.objs.size)) σ env:=sr2.ext (Ext.new e2.sub hp2 _)
 have J2p:J2 s2.heap.objs.size=none:=e2.sub.free hp2
 have H0p:c.H0 s2.heap.objs.size=none:=sr2.hp.ent.free hp2
 have nown:∀(j:Nat) (xs:Mn),(cE own.length cap env)[j]?=some (some (mS xs))->(T8 own.length none++cap.map λ(j:Nat)=>(σ[j]?).getD none)[j]?≠some (some (.ref s2.heap.objs.size)):=λj xs q z=>by
  obtain ⟨a,h1,h2,h3⟩:=kq q
  obtain ⟨a',h4,h5,h6⟩:=kq z
  rw [h2] at h5;cases h5
  obtain ⟨p,k1,k2,_⟩:=sr2.mine h3
  rw [h6] at k1
  cases k1
  exact k2 hp2
 obtain ⟨hT,hIf,hE⟩:=hbody cl Hs.objs.size {s2 with heap:=Hs,toks:=s2.toks} (L2.upd H2 s2.heap.objs.size (o0 s2.heap.objs.size)) fp hcl
 have fpC:∀{H':Hp},(∀b∈fp,H' b=none)->∀b∈fp,iw (aX X own cap RV cl Hs.objs.size {s2 with heap:=Hs,toks:=s2.toks} (L2.upd H2 s2.heap.objs.size (o0 s2.heap.objs.size)) fp) [] H' b:=fun {H'} hn b hb=>by
  obtain ⟨m1,_⟩:=gE RV.names [] cl hcl (λx c h=>by simp at h)
  refine ⟨hn b hb,SY (hin b hb),λz=>?_,.inl hb,λx d h=>(fS h).elim (λh=>VQ (SG (hin b hb) (VL (ck.empty _ _ (WO h)).2))) (λh=>(f2 b hb).2.2.2.2.1 x d (m1 x d h.2)),λp hp=>absurd (show p∈([]:List (Sm×Obj)) from hp) (by simp)⟩
  rcases Sn.mp (I2.stkSub b z) with e | e
  ·exact (f2 b hb).2.1 e
  ·exact (f2 b hb).2.2.1 e
 have back:∀{pi:List (Sm×Obj)}{σ':L2.St}{H':Hp}{s':R_}{h'':TM},Inv (aX X own cap RV cl Hs.objs.size {s2 with heap:=Hs,toks:=s2.toks} (L2.upd H2 s2.heap.objs.size (o0 s2.heap.objs.size)) fp) pi σ' H' s'->Tu Hs.objs.size s'.heap h''->Inv X RX σ H' {s' with heap:=h''}:=fun {pi σ' H' s' h''} I' sb=>by
  have B:Un (frs X.stack) fp (L2.upd H2 s2.heap.objs.size (o0 s2.heap.objs.size)) H' Hs s'.heap:=I'.base
  have ne2:∀{b:Sm}{o:Obj},s2.heap.get? b=some o->b≠s2.heap.objs.size/\b≠Hs.objs.size:=fun {b o} e=>
   ⟨SY (Sz e),SY (V6 (Sz e) (by rw [hC];exact U6 _))⟩
  have nH:∀{b:Sm}{o:HO},H2 b=some o->L2.upd H2 s2.heap.objs.size (o0 s2.heap.objs.size) b=some o:=fun {b o} e=>by rw [bz (eu e hp2)];exact e
  refine Inv.call' (ch:=fp) (s':={s' with heap:=h''}) I2 I'.os ⟨λb o e n hf hx=>?_,λb o e n hf hx=>?_,λb o e n hx=>?_,λb o e hx=>?_,λb xs e=>B.tups b xs (nH e),λb o u e=>B.frzs b o u (nH e),λb ps e=>B.tbls b ps (nH e)⟩ (A2 I'.hok I'.free sb) I'.bare λb hb=>⟨(f2 b hb).2.2.2.1,(f2 b hb).2.1,(f2 b hb).2.2.2.2.1,(f2 b hb).2.2.2.2.2⟩
  ·exact (sb.2 b (ne2 e).2).trans (B.keep b o (kHs b o e) (by rw [bz (ne2 e).1];exact n) hf hx)
  ·obtain ⟨sl,z⟩:=B.slot b o (kHs b o e) (by rw [bz (ne2 e).1];exact n) hf hx
   exact ⟨sl,(sb.2 b (ne2 e).2).trans z⟩
  ·exact B.free b o (kHs b o e) (by rw [bz (ne2 e).1];exact n) hx
  ·obtain ⟨o',z⟩:=B.there b o (kHs b o e) hx
   exact ⟨o',(sb.2 b (ne2 e).2).trans z⟩
 have run:=λ(s4:R_) (I4:Inv (aX X own cap RV cl Hs.objs.size {s2 with heap:=Hs,toks:=s2.toks} (L2.upd H2 s2.heap.objs.size (o0 s2.heap.objs.size)) fp) [] _ _ s4) (st4:tn 0 s4.heap)=>z_ (X:=aX X own cap RV cl Hs.objs.size {s2 with heap:=Hs,toks:=s2.toks} (L2.upd H2 s2.heap.objs.size (o0 s2.heap.objs.size)) fp) (e:=e) (depth:=0) (acc:=.ref s2.heap.objs.size) (aR _) P0 (λ_ _ f=>f) (LP it _ _) hT hIf (hE s2.heap.objs.size J2 H2 hp2 H0p) T (λJ' H'=>aT J2 J'/\aT H2 H') wk (λJ' H' x _=>⟨x.j,x.h⟩) I4 st4 (fpC λb hb=>(f3 b hb).1) (Ext.new e2.sub hp2 _) (srA.cap own.length cap (BG hnd)) nown (a0 _ _ _ (Lj I2) bU J2p) (S7 (by rw [WQ,aaP];exact VC N hsz) hN) w3
 have st4:=T.keep _ _ _ st2 (λb hb o e=>old1 b o (kHs b o e))
 have go:=VR (run _ I4 st4) (R':=aaj (SE X.prog X.w) X.A X.xe use Q0 (.ref s2.heap.objs.size) Hs.objs.size) λr s' ⟨hr,σ',H',J',r',I9,x9,j9,sr9,no9,ac9,l9,w9⟩=>by
  subst hr
  obtain ⟨mm,hm,_⟩:=I9.loc
  refine P5 s2.heap.objs.size Hs.objs.size mm _ H' _ hm (Lh I2 (by rw [hC];exact Vw _)) I9.free (λh'' sb=>back I9 sb) ?_
  cases q:fin r'.1 with
  | bad=>rw [q] at w9;exact w9.elim
  | exc z=>rw [q] at w9;exact (nofin _ z q).elim
  | ok z=>
   rw [q] at w9
   obtain ⟨J9,x10,rr⟩:=hend (e2.h.free hp2) (e2.trans x9) ac9 q
   exact w9 _ J9 H' x10 rr
 exact start it _ _ _ _ go (T.self _ 0 _ _ _ st4 go)
end
noncomputable def jT (n:Nat) (cap:List Nat) (gi0:G (List D)) (gt0:GT) (gts0:G Bool) (gi1:G (List D)) (gt1:GT) (gts1:G Bool) (ge:G R):G R:=je 10000 n cap gi0 gt0 gts0 (i_ gi1 gt1 gts1 (gD ge)) (λys=>.ok (.l .fresh ys))
theorem KY (elt t0 i0 t1 i1:S4) (f0 f1:List S4) (RV:Vk) (pos:Pos) (it acc:R8) (env:Env):
  Xb (.ListComp elt [⟨t0,i0,f0,0⟩,⟨t1,i1,f1,0⟩] RV pos) 0 it acc env=(do
   VS i0.pos
   match <-Wi it with
   | none=>pure (.done .next)
   | some v=>
    Ve t0 it v
    assign t0 env v
    let mut ok:=true
    for c in f0 do
     if ok then ok <-ZA c env (eval c env)
    if ok then
     let x <-eval i1 env
     VS i1.pos
     let x <-SA i1 env x
     let _ <-runOwn (.compStart (.ListComp elt [⟨t0,i0,f0,0⟩,⟨t1,i1,f1,0⟩] RV pos) 1 (<-holding [x] (XZ x)) acc env) env
    again (.compLoop (.ListComp elt [⟨t0,i0,f0,0⟩,⟨t1,i1,f1,0⟩] RV pos) 0 it acc env)):=by rfl
theorem M7 (elt t0 i0 t1 i1:S4) (f0 f1:List S4) (RV:Vk) (pos:Pos) (it acc:R8) (env:Env):
  Xb (.ListComp elt [⟨t0,i0,f0,0⟩,⟨t1,i1,f1,0⟩] RV pos) 0 it acc env=mP t0 i0 f0 it env (sZ (.ListComp elt [⟨t0,i0,f0,0⟩,⟨t1,i1,f1,0⟩] RV pos) i1 acc env) (again (.compLoop (.ListComp elt [⟨t0,i0,f0,0⟩,⟨t1,i1,f1,0⟩] RV pos) 0 it acc env)):=by
 rw [KY]
 refine bind_congr λ_=>bind_congr λr=>?_
 cases r with
 | none=>rfl
 | some v=>
  refine bind_congr λ_=>bind_congr λ_=>bind_congr λok=>?_
  cases ok with
  | false=>rfl
  | true=>simp only [sZ,bind_assoc,pure_bind,if_true]
theorem M8 (elt t0 i0 t1 i1:S4) (f0 f1:List S4) (RV:Vk) (pos:Pos) (it acc:R8) (env:Env):
  Xb (.ListComp elt [⟨t0,i0,f0,0⟩,⟨t1,i1,f1,0⟩] RV pos) 1 it acc env=mP t1 i1 f1 it env (do let _ <-call (.builtin "list.append") [acc,<-eval elt env]) (again (.compLoop (.ListComp elt [⟨t0,i0,f0,0⟩,⟨t1,i1,f1,0⟩] RV pos) 1 it acc env)):=by rfl
section
variable {X:Cx}{c:C}
theorem Ed (own:List Str) (cap:List Nat){elt t0 i0 t1 i1:S4}{f0 f1:List S4}{RV:Vk}{pos:Pos}{gi0 gi1:G (List D)}{gt0 gt1:GT}{gts0 gts1:G Bool}{ge:G R}(hi:pU X c t0 i0 gi0)
  (hbody:∀(cl:List (Str×Sm)) (C:Sm) (s:R_) (H:Hp) (fp:List Sm),bE X.env.cells RV.names []=some cl->i7 (aX X own cap RV cl C s H fp) c t0 gt0/\gu (aX X own cap RV cl C s H fp) c f0 gts0/\yW (aX X own cap RV cl C s H fp) c t1 i1 gi1/\i7 (aX X own cap RV cl C s H fp) c t1 gt1/\gu (aX X own cap RV cl C s H fp) c f1 gts1/\PD (aX X own cap RV cl C s H fp) c elt ge)
  (hk:RV.kind=.function:=by rfl) (hno:fk X cap RV=true:=by rfl) (hnames:(RV.names.all λx=>!(x.2 == .local) || (RV.names.lookup x.1 == some .local))=true:=by rfl)
  (hcl:(bE X.env.cells RV.names []).isSome=true:=by rfl) (hcap:dQ X cap=true:=by rfl) (hloc:dW X cap RV=true:=by rfl) (hnd:fM cap=true:=by rfl) (P0:X.calm=true:=by rfl)
  (hs:∀x,SA i0 X.env x=pure x:=by intro _;rfl) (hs1:∀(en:Env) x,SA i1 en x=pure x:=by intro _ _;rfl)
  {RX:List (Sm×Obj)}{s:R_}{σ:L2.St}{H:Hp}{Q:VK}{use:Option (R8->Sem Unit)}{Q0:R8->R_->Prop}{pos':Pos}(I:Inv X RX σ H s) (h:tD c (jT own.length cap gi0 gt0 gts0 gi1 gt1 gts1 ge) σ H Q)
  (P5:∀(acc C:Sm) (m:Str->Option R8) (s':R_) (H':Hp) (fl:Flow),s'.heap.Ns C m->((C∈X.ex\/X.s₀.heap.objs.size<=C)/\C≠X.env.locals/\(∀x c,X.env.cells.lookup x=some c->c≠C)/\∀p∈X.pn++RX,p.1≠C)->H' C=none->(∀h'',Tu C s'.heap h''->Inv X RX σ H' {s' with heap:=h''})->Q (.ref acc) H'->aaj (SE X.prog X.w) X.A X.xe use Q0 (.ref acc) C (.ok fl) s'):
  Sx (SE X.prog X.w) X.A (comprehension (.ListComp elt [⟨t0,i0,f0,0⟩,⟨t1,i1,f1,0⟩] RV pos) RV X.env pos' (ac4 []) false (eval i0 X.env) use) Q0 X.xe s:=by
 refine oh (e:=.ListComp elt [⟨t0,i0,f0,0⟩,⟨t1,i1,f1,0⟩] RV pos) (ob:={cls:=.type "list",dict:=none,data:=.seq ([]:List R8).toArray}) (o0:=λ_=>.lst []) (Acc:=Cg c) (N:=1000 * 1) (lim:=10000) (m:=λp env=>sZ (.ListComp elt [⟨t0,i0,f0,0⟩,⟨t1,i1,f1,0⟩] RV pos) i1 (.ref p) env) own cap rfl hi
  (λs Q E q=>S8 q) (λh H=>⟨SJ _,[],0,.nil,Sk _ rfl⟩) (λp=>sQ) (λp J H _ h1 h2=>⟨[],h1,h2,.nil⟩) (by decide) (λit p env=>CS (M7 ..)) (λit acc env R s h0 h=>YV h0 h) (λys z q=>by cases q)
  (fun {p J H J' H' ys r} hp e ⟨us,h1,h2,h3⟩ q=>by cases q;exact ⟨J',e,⟨p,us,rfl,h1,h2,hp,h3⟩⟩) (λcl C s H fp hcc=>?_) hk hno hnames hcl hcap hloc hnd P0 hs I h P5
 obtain ⟨b1,b2,b3,b4,b5,b6⟩:=hbody cl C s H fp hcc
 refine ⟨b1,b2,λp J2 H2 hp2 hp0=>?_⟩
 exact Bf sQ P0 (λ_ _ f=>f) (λx=>hs1 _ x) (λit R s h0 h=>MZ h0 h) (λit=>CS (M8 ..)) b3 b4 b5 (Be (λ_ _ f=>f) hp2 hp0 b6)
theorem EZ (own:List Str) (cap:List Nat){elt t0 i0 t1 i1:S4}{f0 f1:List S4}{RV:Vk}{pos:Pos}{gi0 gi1:G (List D)}{gt0 gt1:GT}{gts0 gts1:G Bool}{ge:G R}(hi:pU X c t0 i0 gi0)
  (hbody:∀(cl:List (Str×Sm)) (C:Sm) (s:R_) (H:Hp) (fp:List Sm),bE X.env.cells RV.names []=some cl->i7 (aX X own cap RV cl C s H fp) c t0 gt0/\gu (aX X own cap RV cl C s H fp) c f0 gts0/\yW (aX X own cap RV cl C s H fp) c t1 i1 gi1/\i7 (aX X own cap RV cl C s H fp) c t1 gt1/\gu (aX X own cap RV cl C s H fp) c f1 gts1/\PD (aX X own cap RV cl C s H fp) c elt ge)
  (hk:RV.kind=.function:=by rfl) (hno:fk X cap RV=true:=by rfl) (hnames:(RV.names.all λx=>!(x.2 == .local) || (RV.names.lookup x.1 == some .local))=true:=by rfl)
  (hcl:(bE X.env.cells RV.names []).isSome=true:=by rfl) (hcap:dQ X cap=true:=by rfl) (hloc:dW X cap RV=true:=by rfl) (hnd:fM cap=true:=by rfl) (P0:X.calm=true:=by rfl)
  (hs:∀x,SA i0 X.env x=pure x:=by intro _;rfl) (hs1:∀(en:Env) x,SA i1 en x=pure x:=by intro _ _;rfl):PD X c (.ListComp elt [⟨t0,i0,f0,0⟩,⟨t1,i1,f1,0⟩] RV pos) (jT own.length cap gi0 gt0 gts0 gi1 gt1 gts1 ge):=by
 intro RX s σ H Q I h
 rw [acq]
 exact Ed own cap hi hbody hk hno hnames hcl hcap hloc hnd P0 hs hs1 I h λacc C m s' H' fl hm hz hf hb q=>⟨m,hm,λh'' sb=>⟨.ref acc,H',hb h'' sb,rfl,q⟩⟩
theorem EV (i:Nat) (own:List Str) (cap:List Nat){elt t0 i0 t1 i1:S4}{f0 f1:List S4}{RV:Vk}{pos:Pos}{gi0 gi1:G (List D)}{gt0 gt1:GT}{gts0 gts1:G Bool}{ge:G R}{pos' pos2:Pos}{x:Str}(hN:X.N.Nodup) (hi:pU X c t0 i0 gi0)
  (hbody:∀(cl:List (Str×Sm)) (C:Sm) (s:R_) (H:Hp) (fp:List Sm),bE X.env.cells RV.names []=some cl->i7 (aX X own cap RV cl C s H fp) c t0 gt0/\gu (aX X own cap RV cl C s H fp) c f0 gts0/\yW (aX X own cap RV cl C s H fp) c t1 i1 gi1/\i7 (aX X own cap RV cl C s H fp) c t1 gt1/\gu (aX X own cap RV cl C s H fp) c f1 gts1/\PD (aX X own cap RV cl C s H fp) c elt ge)
  (hk:RV.kind=.function:=by rfl) (hno:fk X cap RV=true:=by rfl) (hnames:(RV.names.all λx=>!(x.2 == .local) || (RV.names.lookup x.1 == some .local))=true:=by rfl)
  (hcl:(bE X.env.cells RV.names []).isSome=true:=by rfl) (hcap:dQ X cap=true:=by rfl) (hloc:dW X cap RV=true:=by rfl) (hnd:fM cap=true:=by rfl) (P0:X.calm=true:=by rfl)
  (hs:∀x,SA i0 X.env x=pure x:=by intro _;rfl) (hs1:∀(en:Env) x,SA i1 en x=pure x:=by intro _ _;rfl) (hx:X.N[i]?=some x:=by rfl) (P8:X.env.scope.names.lookup x=some .local:=by rfl)
  (hsw:VZ (.ListComp elt [⟨t0,i0,f0,0⟩,⟨t1,i1,f1,0⟩] RV pos) (some (.Name x pos')) pos2.line X.env=pure true:=by rfl):Ba X c (.Assign [.Name x pos'] (.ListComp elt [⟨t0,i0,f0,0⟩,⟨t1,i1,f1,0⟩] RV pos) pos2) (bg i (jT own.length cap gi0 gt0 gts0 gi1 gt1 gts1 ge)):=by
 intro RX s σ H D I ⟨J,env,sr,w⟩
 rw [Zi]
 refine R6 (UD ?_)
 rw [show WB [.Name x pos'] (.ListComp elt [⟨t0,i0,f0,0⟩,⟨t1,i1,f1,0⟩] RV pos) pos2.line X.env=pure true from hsw]
 refine R6 (R9 ?_)
 rw [if_pos rfl,Yo]
 refine R6 (R6 (Ed own cap hi hbody hk hno hnames hcl hcap hloc hnd P0 hs hs1 (Q:=λv H1=>∃J1 r xx,Ext J H J1 H1/\RR c H J1 H1 r v/\toS r=.ok xx/\oP c J D (.nx (env.set i (some xx)))) I ⟨J,env,sr,aE (aI w) λr wr v J1 H1 e1 r1=>?_⟩ λacc C m s' H' fl hm ap hf hb ⟨J1,r,xx,e1,r1,q1,w1⟩=>?_))
 ·obtain ⟨xx,q,wr⟩:=nV wr
  exact ⟨J1,r,xx,e1,r1,q,wr⟩
 ·have I1:L2.Inv X RX σ H' s':=hb s'.heap (Yp ..)
  show Sx _ _ (do VS pos';adl X.env x (.ref acc)) _ _ _
  refine R6 (UD (ZI ?_))
  refine mO I1 hN hx (.inl P8) (v:=.ref acc) (u:=.ref acc) rfl (λs2 I2 ⟨a,sb,ha⟩=>?_) (.inr P8)
  have hac:C≠a:=λz=>by
   rcases ha with e | e
   ·exact ap.2.1 (z.trans e)
   ·exact ap.2.2.1 _ _ e z.symm
  refine ⟨m,hm.sameBut sb hac,λh2 sb2=>?_⟩
  refine R9 (R9 ⟨σ.set i (some (.ref acc)),H',qp I2 ap hf sb2 (o0:=default),?_⟩)
  exact w1 _ J1 H' e1.j (sr.set e1 r1 q1)
theorem Di (own:List Str) (cap:List Nat){elt t0 i0 t1 i1:S4}{f0 f1:List S4}{RV:Vk}{pos:Pos}{gi0 gi1:G (List D)}{gt0 gt1:GT}{gts0 gts1:G Bool}{ge:G R}(hi:rR X c t0 i0 gi0)
  (hbody:∀(cl:List (Str×Sm)) (C:Sm) (s:R_) (H:Hp) (fp:List Sm),bE X.env.cells RV.names []=some cl->kN (aX X own cap RV cl C s H fp) c t0 gt0/\j6 (aX X own cap RV cl C s H fp) c f0 gts0/\t9 (aX X own cap RV cl C s H fp) c t1 i1 gi1/\kN (aX X own cap RV cl C s H fp) c t1 gt1/\j6 (aX X own cap RV cl C s H fp) c f1 gts1/\QD (aX X own cap RV cl C s H fp) c elt ge)
  (hk:RV.kind=.function:=by rfl) (hno:fk X cap RV=true:=by rfl) (hnames:(RV.names.all λx=>!(x.2 == .local) || (RV.names.lookup x.1 == some .local))=true:=by rfl)
  (hcl:(bE X.env.cells RV.names []).isSome=true:=by rfl) (hcap:dQ X cap=true:=by rfl) (hloc:dW X cap RV=true:=by rfl) (hnd:fM cap=true:=by rfl) (P0:X.calm=true:=by rfl)
  (hs:∀x,SA i0 X.env x=pure x:=by intro _;rfl) (hs1:∀(en:Env) x,SA i1 en x=pure x:=by intro _ _;rfl):QD X c (.ListComp elt [⟨t0,i0,f0,0⟩,⟨t1,i1,f1,0⟩] RV pos) (jT own.length cap gi0 gt0 gts0 gi1 gt1 gts1 ge):=
 ⟨EZ own cap hi.h (λcl C s H fp hc=>let ⟨a,b,d,e,f,g⟩:=hbody cl C s H fp hc;⟨a.h,b.h,d.h,e.h,f.h,g.h⟩) hk hno hnames hcl hcap hloc hnd P0 hs hs1⟩
theorem Dg (i:Nat) (own:List Str) (cap:List Nat){elt t0 i0 t1 i1:S4}{f0 f1:List S4}{RV:Vk}{pos:Pos}{gi0 gi1:G (List D)}{gt0 gt1:GT}{gts0 gts1:G Bool}{ge:G R}{pos' pos2:Pos}{x:Str}(hN:X.N.Nodup) (hi:rR X c t0 i0 gi0)
  (hbody:∀(cl:List (Str×Sm)) (C:Sm) (s:R_) (H:Hp) (fp:List Sm),bE X.env.cells RV.names []=some cl->kN (aX X own cap RV cl C s H fp) c t0 gt0/\j6 (aX X own cap RV cl C s H fp) c f0 gts0/\t9 (aX X own cap RV cl C s H fp) c t1 i1 gi1/\kN (aX X own cap RV cl C s H fp) c t1 gt1/\j6 (aX X own cap RV cl C s H fp) c f1 gts1/\QD (aX X own cap RV cl C s H fp) c elt ge)
  (hk:RV.kind=.function:=by rfl) (hno:fk X cap RV=true:=by rfl) (hnames:(RV.names.all λx=>!(x.2 == .local) || (RV.names.lookup x.1 == some .local))=true:=by rfl)
  (hcl:(bE X.env.cells RV.names []).isSome=true:=by rfl) (hcap:dQ X cap=true:=by rfl) (hloc:dW X cap RV=true:=by rfl) (hnd:fM cap=true:=by rfl) (P0:X.calm=true:=by rfl)
  (hs:∀x,SA i0 X.env x=pure x:=by intro _;rfl) (hs1:∀(en:Env) x,SA i1 en x=pure x:=by intro _ _;rfl) (hx:X.N[i]?=some x:=by rfl) (P8:X.env.scope.names.lookup x=some .local:=by rfl)
  (hsw:VZ (.ListComp elt [⟨t0,i0,f0,0⟩,⟨t1,i1,f1,0⟩] RV pos) (some (.Name x pos')) pos2.line X.env=pure true:=by rfl):iK X c (.Assign [.Name x pos'] (.ListComp elt [⟨t0,i0,f0,0⟩,⟨t1,i1,f1,0⟩] RV pos) pos2) (bg i (jT own.length cap gi0 gt0 gts0 gi1 gt1 gts1 ge)):=
 ⟨EV i own cap hN hi.h (λcl C s H fp hc=>let ⟨a,b,d,e,f,g⟩:=hbody cl C s H fp hc;⟨a.h,b.h,d.h,e.h,f.h,g.h⟩) hk hno hnames hcl hcap hloc hnd P0 hs hs1 hx P8 hsw⟩
end
noncomputable def Dl:R8->Option V
 | .int i _=>some (.int i)
 | .ref a=>some (.ref a)
 | _=>none
noncomputable def kF:List R8->Option (List V)
 | []=>some []
 | u::us=>match Dl u,kF us with
  | some v,some vs=>some (v::vs)
  | _,_=>none
open Classical in
noncomputable def lq (h:TM):Hp:=λa=>match h.get? a with
 | some o=>if o.cls=.type "tuple" then (match o.data with
  | .seq RY _=>(kF RY.toList).map .tup
  | _=>none) else none
 | none=>none
theorem Hl {u:R8}{v:V}(h:Dl u=some v):RelV v u:=by
 cases u with
 | int i t=>cases h;exact ⟨t,rfl⟩
 | ref a=>cases h;exact rfl
 | _=>cases h
theorem xF:∀{us:List R8}{vs:List V},kF us=some vs->Vals vs us
 | [],vs,h=>by cases h;exact .nil
 | u::us,vs,h=>by
  unfold kF at h
  cases q:Dl u with
  | none=>rw [q] at h;cases h
  | some v=>
   cases q2:kF us with
   | none=>rw [q,q2] at h;cases h
   | some ws=>rw [q,q2] at h;cases h;exact .cons (Hl q) (xF q2)
theorem iE {h:TM}{a:Sm}{o:HO}(q:lq h a=some o):∃vs ob RY n,o=.tup vs/\h.get? a=some ob/\ob.cls=.type "tuple"/\ob.data=.seq RY n/\Vals vs RY.toList:=by
 unfold lq at q
 split at q
 ·rename_i ob hob
  split at q
  ·rename_i hc
   split at q
   ·rename_i RY n hd
    cases z:kF RY.toList with
    | none=>rw [z] at q;cases q
    | some vs=>rw [z] at q;cases q;exact ⟨vs,ob,RY,n,rfl,hob,hc,hd,xF z⟩
   ·cases q
  ·cases q
 ·cases q
theorem Kz {h:TM}{a:Sm}{RY:List R8}{vs:List V}(p:h.IsTuple a RY.toArray) (q:kF RY=some vs):lq h a=some (.tup vs):=by
 obtain ⟨o,ho,hc,n,hd⟩:=p
 unfold lq
 rw [ho]
 simp only [hc,if_true,hd]
 rw [q];rfl
theorem qf {s:R_}:HF [] (lq s.heap) s:=by
 refine ⟨λa xs h=>?_,λa xs h=>?_,λa h=>?_,λa ep R4 h=>?_⟩
 ·rcases h with (h | ⟨o,h⟩) | ⟨o,RY,n,h,_⟩
  ·obtain ⟨vs,ob,RY,n,e,h1,h2,h3,h4⟩:=iE h
   cases e
   exact ⟨RY.toList,h4,ob,h1,h2,n,by rw [h3]⟩
  ·obtain ⟨vs,ob,RY,n,e,_⟩:=iE h;cases e
  ·cases h
 ·rcases h with (h | ⟨o,h⟩) | ⟨o,RY,n,h,_⟩
  ·obtain ⟨vs,ob,RY,n,e,_⟩:=iE h;cases e
  ·obtain ⟨vs,ob,RY,n,e,_⟩:=iE h;cases e
  ·cases h
 ·obtain ⟨vs,ob,RY,n,e,_⟩:=iE h;cases e
 ·obtain ⟨vs,ob,RY,n,e,_⟩:=iE h;cases e
theorem An {K:R7}{J:Hp}:∀{ds:List D}{vs:List V}{us:List R8},areKeys ds=true->aK K J ds vs->Vals vs us->kF us=some vs
 | _,_,_,_,.nil,.nil=>rfl
 | d::ds,v::vs,u::us,h,.cons r rs,.cons q qs=>by
  unfold areKeys at h
  rw [Sf] at h
  have ih:=An h.2 rs qs
  have e:Dl u=some v:=by
   cases d with
   | int i=>cases r;obtain ⟨t,rfl⟩:=q;rfl
   | tup xs=>cases r;cases q;rfl
   | _=>cases h.1
  unfold kF
  rw [e,ih]
mutual
theorem jJ {K:R7}{J:Hp}{s:R_}(F:HF K J s):∀{d:D}{v:V},isKey d=true->Rep K J d v->Rep [] (lq s.heap) d v
 | .int i,_,_,.int _=>.int i
 | .tup ds,_,hk,.tup (a:=a) (vs:=vs) h hs=>by
  obtain ⟨RY,r,p⟩:=F.t _ _ h
  exact .tup (.inl (.inl (Kz p (An hk hs r)))) (Ao F hk hs)
 | .non,_,hk,_=>nomatch hk
 | .bl _,_,hk,_=>nomatch hk
 | .str _,_,hk,_=>nomatch hk
 | .lst _,_,hk,_=>nomatch hk
 | .emp,_,hk,_=>nomatch hk
 | .exn _ _ _,_,hk,_=>nomatch hk
 | .dct _ _,_,hk,_=>nomatch hk
theorem Ao {K:R7}{J:Hp}{s:R_}(F:HF K J s):∀{ds:List D}{vs:List V},areKeys ds=true->aK K J ds vs->aK [] (lq s.heap) ds vs
 | [],_,_,.nil=>.nil
 | d::ds,_,h,.cons r rs=>by
  unfold areKeys at h
  rw [Sf] at h
  exact .cons (jJ F h.1 r) (Ao F h.2 rs)
end
theorem Fc {h h':TM}{d:Sm}{o:Obj} {es ep}(ho:h.get? d=some o) (hd:o.data=.dict es ep) (sb:Tu d h h'):aT (lq h) (lq h'):=λa x q=>by
 obtain ⟨vs,ob,RY,n,rfl,h1,h2,h3,h4⟩:=iE q
 have hne:a≠d:=by
  rintro rfl
  rw [ho] at h1;cases h1
  rw [hd] at h3;cases h3
 unfold lq at q ⊢
 rw [sb.2 a hne]
 exact q
def KD:Type:={d:D // isKey d=true/\dep d<=8}
noncomputable instance:DecidableEq KD:=λa b=>acr (a=b)
def Dm (A:S5):Prop:=A.units + 16 < Uu
noncomputable def mW (prog:Su) (w:S3):HeapKind prog w KD where
 is:=λh k a=>Rep [] (lq h) k.1 (.ref a)
 hash:=λk=>bT k.1
 draws:=λk=>ku k.1
 room:=Dm
 inj:=fun {h a x y} hx hy=>YF (Rep.inj (s:=({heap:=h}:R_)) qf hx hy (by have:=x.2.2;omega) (by have:=y.2.2;omega))
 keeps:=λhx ho hd sb=>Rep.mono (Fc ho hd sb) hx
 pyHash:=fun {A E s k a Q} hu hx q=>wK k.1 (.ref a) (.ref a) A s qf k.2.1 hx rfl (by have:=k.2.2;unfold Dm at hu;omega) E s Q qf q
 eqBool:=fun {A E s x y a b Q} hu hx hy q=>by
  have h:=nq (s:=s) qf A hx hy rfl rfl (u:=.ref a) (u':=.ref b) (by have:=x.2.2;unfold Dm at hu;omega) (by have:=x.2.2;omega) (by have:=y.2.2;omega)
  refine h _ _ _ _ ?_
  have e:bu x.1 y.1=decide (x=y):=by
   rw [Ui,v_ x.2.1 y.2.1,decide_eq_true_eq]
   exact ⟨λz=>YF z,λz=>congrArg Subtype.val z⟩
  rw [e];exact q
 quiet:=fun {A E s k a Q} hx q=>nP 8 qf ⟨k.1,.ref a,k.2.1,k.2.2,hx,rfl⟩ q
noncomputable def f_:List D->List D->D->Option D
 | k::ks,v::vs,x=>if bu k x=true then some v else f_ ks vs x
 | _,_,_=>none
section
variable {K:R7}{J:Hp}{s:R_}{P:Su}{w:S3}
theorem Bq (F:HF K J s):∀{ks:List D}{us ws:List V}{es:List Y5},areKeys ks=true->(∀k∈ks,∃xs,k=.tup xs)->deps ks<=8->aK K J ks us->ws.length=us.length->Yc yT ((cJ ks).zip (us.zip ws)) es->
  ∃xs:List (KD×Sm×R8),es=xs.map (abS (mW P w))/\xs.map (λx=>x.1.1)=ks/\(∀x∈xs,(mW P w).is s.heap x.1 x.2.1)/\Vals ws (xs.map λx=>x.2.2)/\Vals us (xs.map λx=>VE x.2.1)
 | _,_,[],_,_,_,_,.nil,_,h=>by
  cases h
  exact ⟨[],rfl,rfl,λ_ h=>(nomatch h),.nil,.nil⟩
 | k::ks,u::us,v::ws,es,hk,ht,hd,.cons r rs,hl,h=>by
  unfold areKeys at hk
  rw [Sf] at hk
  unfold deps at hd
  have h:Yc yT ((bT k,u,v)::(cJ ks).zip (us.zip ws)) es:=h
  cases h with
  | @cons _ e _ es' h1 h2=>
   obtain ⟨xs,e1,e2,e3,e4,e5⟩:=Bq F hk.2 (λk hk=>ht k (Sd _ hk)) (by omega) rs (by simpa using hl) h2
   obtain ⟨xs',rfl⟩:=ht k Se
   obtain ⟨q1,q2,q3⟩:=h1
   obtain ⟨eh,ek,ev⟩:=e
   cases r with
   | tup t1 t2=>
    rename_i a vs
    have q2:ek=.ref a:=q2
    have q1:eh=bT (.tup xs'):=q1
    subst q2;subst q1
    refine ⟨(⟨.tup xs',hk.1,by omega⟩,a,ev)::xs,by rw [e1];rfl,by rw [Sw,e2],λx hx=>?_,.cons q3 e4,.cons rfl e5⟩
    (rcases Sn.mp hx with rfl | hx)
    ·exact jJ F hk.1 (.tup t1 t2)
    ·exact e3 x hx
 | [],us,v::ws,_,_,_,_,rs,hl,_=>by cases rs;cases hl
 | k::ks,us,[],_,_,_,_,rs,hl,_=>by cases rs;cases hl
theorem GK {xs:List (KD×Sm×R8)}{ks:List D}(e:xs.map (λx=>x.1.1)=ks) (nd:ks.Nodup):(xs.map (·.1)).Nodup:=by
 rw [<-e] at nd
 have this:((xs.map (·.1)).map (λk:KD=>k.1)).Nodup:=by rw [SN];exact nd
 exact acJ (λk:KD=>k.1) (λa b h e=>h (congrArg (λk:KD=>k.1) e)) this
theorem ue:∀{xs:List (KD×Sm×R8)}{ks vs:List D}{ws:List V}(k:KD),xs.map (λx=>x.1.1)=ks->aK K J vs ws->Vals ws (xs.map λx=>x.2.2)->
  (∀d,f_ ks vs k.1=some d->∃p v,acs xs k=some p/\RelV v p.2/\Rep K J d v)/\(f_ ks vs k.1=none->acs xs k=none)
 | [],_,vs,ws,k,e,rs,rv=>by
  subst e
  exact ⟨λd h=>(nomatch h),λ_=>rfl⟩
 | x::xs,_,_,_,k,e,.cons r rs,.cons q rv=>by
  subst e
  obtain ⟨i1,i2⟩:=ue (xs:=xs) k rfl rs rv
  rw [Sw]
  unfold f_
  by_cases c:x.1=k
  ·have:bu x.1.1 k.1=true:=by rw [c];exact gF _
   rw [if_pos this]
   have ek:acs (x::xs) k=some x.2:=by unfold acs;rw [List.find?_cons_of_pos (by simpa using c)];rfl
   exact ⟨λd h=>by cases h;exact ⟨x.2,_,ek,q,r⟩,λh=>nomatch h⟩
  ·have:¬bu x.1.1 k.1=true:=λh=>c (YF ((v_ x.1.2.1 k.2.1).mp h))
   rw [if_neg this]
   have ek:acs (x::xs) k=acs xs k:=by unfold acs;rw [List.find?_cons_of_neg (by simpa using c)]
   rw [ek]
   exact ⟨i1,i2⟩
theorem om {H:Hp}(F:HF K J s) (F':HF K H s){ks vs:List D}{a:Sm}(h:dS K J H a ks vs):∃(xs:List (KD×Sm×R8)) (us ws:List V),s.heap.DictOfH (mW P w) a xs/\xs.map (λx=>x.1.1)=ks/\aK K J ks us/\aK K J vs ws/\Vals ws (xs.map λx=>x.2.2)/\Vals us (xs.map λx=>VE x.2.1)/\(a == V3)=false:=by
 obtain ⟨us,ws,ep,h,hk,hv,ok,hs⟩:=h
 obtain ⟨o,es,h1,h2,h3,h4⟩:=F'.d _ _ _ h
 obtain ⟨xs,e1,e2,e3,e4,e5⟩:=Bq (P:=P) (w:=w) F ok.key ok.tp ok.dp hk (by rw [<-hv.length,<-hk.length,hs.2]) h4
 exact ⟨xs,us,ws,⟨o,es,ep,h1,h2,h3,e1,e3,GK e2 ok.nd⟩,e2,hk,hv,e4,e5,hs.1⟩
end
noncomputable def dH:D->Bool
 | .tup xs=>areKeys xs && decide (deps xs + 1<=8)
 | _=>false
theorem gS {k:D}(h:dH k=true):∃xs,k=.tup xs/\isKey k=true/\dep k<=8:=by
 cases k with
 | tup xs=>
  unfold dH at h
  rw [Sf] at h
  exact ⟨xs,rfl,h.1,of_decide_eq_true h.2⟩
 | _=>cases h
noncomputable def ud:R->Option (List D×List D)
 | .d (.dct ks vs)=>some (ks,vs)
 | .mo ks vs=>some (ks,vs)
 | .mb ks vs=>some (ks,vs)
 | .mf ks vs=>some (ks,vs)
 | _=>none
noncomputable def jd (x y:R):M R:=match ud x,y with
 | some z,.d k=>if dH k=true then (match f_ z.1 z.2 k with
  | some d=>.ok (.d d)
  | none=>.bad) else .bad
 | _,_=>.bad
section
variable {X:Cx}{c:C}{a b:S4}{ga gb:G R}{pos:Pos}
theorem RR.dk {He J H:Hp}(hp:HI c J H):∀{r:R}{v:V}{z:List D×List D},RR c He J H r v->ud r=some z->∃a,v=.ref a/\dS c.K J H a z.1 z.2
 | .d (.dct ks vs),v,z,h,e=>by
  cases e
  cases h with
  | dct h1 h2 h3 h4 h5=>exact ⟨_,rfl,_,_,_,hp.sub _ _ h1,h2,h3,h4,h5⟩
 | .mo ks vs,v,z,⟨a,h1,h2,_⟩,e=>by cases e;exact ⟨a,h1,h2⟩
 | .mf ks vs,v,z,⟨a,h1,h2,_⟩,e=>by cases e;exact ⟨a,h1,h2⟩
 | .mb ks vs,v,z,⟨a,h1,h2⟩,e=>by cases e;exact ⟨a,h1,h2.mono (aT.refl _) hp.ent⟩
 | .d .non,_,_,_,e=>nomatch e
 | .d (.bl _),_,_,_,e=>nomatch e
 | .d (.int _),_,_,_,e=>nomatch e
 | .d (.str _),_,_,_,e=>nomatch e
 | .d (.tup _),_,_,_,e=>nomatch e
 | .d (.lst _),_,_,_,e=>nomatch e
 | .d .emp,_,_,_,e=>nomatch e
 | .d (.exn _ _ _),_,_,_,e=>nomatch e
 | .l _ _,_,_,_,e=>nomatch e
theorem LK (hu:X.A.units + 64 < Uu):pO X (λx y H Q=>∃J p ks vs k d,aT J H/\x=.ref p/\dS X.K J H p ks vs/\Rep X.K J k y/\dH k=true/\f_ ks vs k=some d/\∀v,Rep X.K J d v->Q v H):=by
 intro value slice RX s σ H x y v u Q I rx ry h hs
 obtain ⟨J,p,ks,vs,k,d,sm,rfl,hd,hk,ok,lk,q⟩:=h
 have F:HF X.K J s:=HF.of (c:=⟨X.K,H,H,λ_=>True⟩) I sm
 obtain ⟨kx,rfl,k1,k2⟩:=gS ok
 obtain ⟨r,rfl⟩:∃r,y=.ref r:=by cases hk;exact ⟨_,rfl⟩
 cases rx
 cases ry
 obtain ⟨xs,us,ws,hm,e2,_,hv,e4,_,hsm⟩:=om (P:=X.prog) (w:=X.w) F (fL I) hd
 obtain ⟨pp,v,ea,rv,rd⟩:=(ue ⟨.tup kx,k1,k2⟩ e2 hv e4).1 d lk
 have room:(mW X.prog X.w).room X.A.in1:=by show X.A.units + 1 + 16 < Uu;omega
 exact WW (x:=pp.2) hm.typeIs slot_dict_getitem.lookup (wpAny_getItem_heap (Q:=λr s'=>r=pp.2/\EP X RX σ Q r s') room (jJ F k1 hk) hm ea ⟨rfl,v,H,I.tok _,rv,q v rd⟩) hs
theorem iS (hu:X.A.units + 64 < Uu) (ha:QD X c a ga) (hb:QD X c b gb) (hK:X.K=c.K:=by rfl) (hs:qO b:=by exact λ_ _=>rfl):QD X c (.Subscript a b pos) (g2 jd ga gb):=have ha:=ha.h;have hb:=hb.h;⟨Iw (LK hu) (by
 intro He He' J H x y u v Q hp rx ry w
 unfold jd at w
 split at w
 ·rename_i hz
  obtain ⟨p,rfl,hd⟩:=rx.dk hp hz
  split at w
  ·rename_i ok
   split at w
   ·rename_i d hl
    exact ⟨J,p,_,_,_,d,hp.sub,rfl,by rw [hK];exact hd,by rw [hK];exact ry,ok,hl,λv rd=>w v J H (Ext.refl hp.sub) (by rw [hK] at rd;exact rd)⟩
   ·exact w.elim
  ·exact w.elim
 ·exact w.elim) ha hb hs⟩
end
noncomputable def wC:List D->List D->D->D->List D
 | k::ks,v::vs,x,d=>(if bu k x=true then d else v)::wC ks vs x d
 | _,vs,_,_=>vs
def dput (z:List D×List D) (k d:D):List D×List D:=if (f_ z.1 z.2 k).isSome=true then (z.1,wC z.1 z.2 k d) else (z.1++[k],z.2++[d])
noncomputable def iN (ys:List D):List D×List D:=ys.foldl (λz y=>match y with
 | .tup [k,d]=>dput z k d
 | _=>z) ([],[])
theorem oj (ys:List D) (k d:D):iN (ys++[.tup [k,d]])=dput (iN ys) k d:=by unfold iN;rw [List.foldl_append];rfl
inductive cQ (K:R7) (J:Hp):List (KD×Sm×R8)->List D->List V->List D->List V->Prop
 | nil:cQ K J [] [] [] [] []
 | cons {x:KD×Sm×R8}{xs:List (KD×Sm×R8)}{ks vs:List D}{us ws:List V}{d:D}{v:V}:RelV v x.2.2->Rep K J d v->cQ K J xs ks us vs ws->cQ K J (x::xs) (x.1.1::ks) (.ref x.2.1::us) (d::vs) (v::ws)
section
variable {K:R7}{J:Hp}{P:Su}{w:S3}
theorem cQ.of:∀{xs:List (KD×Sm×R8)}{us:List V}{vs:List D}{ws:List V},aK K J vs ws->Vals ws (xs.map λx=>x.2.2)->Vals us (xs.map λx=>VE x.2.1)->cQ K J xs (xs.map λx=>x.1.1) us vs ws
 | [],_,_,_,.nil,.nil,.nil=>.nil
 | x::xs,u::us,_,_,.cons r rs,.cons q qs,.cons p ps=>by
  have:u=.ref x.2.1:=by
   cases u with
   | ref a=>cases p;rfl
   | int i=>obtain ⟨t,h⟩:=p;cases h
   | str i=>obtain ⟨t,h⟩:=p;cases h
   | byt i=>obtain ⟨t,h⟩:=p;cases h
   | flt i=>obtain ⟨t,h⟩:=p;cases h
   | non=>cases p
   | bl b=>cases p
   | ty n=>cases p
  subst this
  exact .cons q r (cQ.of rs qs ps)
theorem cQ.put {k:KD}{u:R8}{d:D}{v:V}(rv:RelV v u) (rd:Rep K J d v):∀{xs:List (KD×Sm×R8)}{ks vs:List D}{us ws:List V},cQ K J xs ks us vs ws->∃ws',cQ K J (xs.map (putAt k u)) ks us (wC ks vs k.1 d) ws'
 | _,_,_,_,_,.nil=>⟨[],.nil⟩
 | x::xs,_,_,_,_,.cons q r t=>by
  obtain ⟨ws',ih⟩:=cQ.put rv rd t
  rw [Sw]
  unfold wC
  by_cases c:x.1=k
  ·have:bu x.1.1 k.1=true:=by rw [c];exact gF _
   rw [if_pos this]
   have e:putAt k u x=(x.1,x.2.1,u):=by unfold putAt;rw [if_pos c]
   rw [e]
   exact ⟨v::ws',.cons (x:=(x.1,x.2.1,u)) rv rd ih⟩
  ·have:¬bu x.1.1 k.1=true:=λh=>c (YF ((v_ x.1.2.1 k.2.1).mp h))
   rw [if_neg this]
   have e:putAt k u x=x:=by unfold putAt;rw [if_neg c]
   rw [e]
   exact ⟨_,.cons q r ih⟩
theorem cQ.snoc {k:KD}{a:Sm}{u:R8}{d:D}{v:V}(rv:RelV v u) (rd:Rep K J d v):∀{xs:List (KD×Sm×R8)}{ks vs:List D}{us ws:List V},cQ K J xs ks us vs ws->cQ K J (xs++[(k,a,u)]) (ks++[k.1]) (us++[.ref a]) (vs++[d]) (ws++[v])
 | _,_,_,_,_,.nil=>.cons (x:=(k,a,u)) rv rd .nil
 | _,_,_,_,_,.cons q r t=>.cons q r (cQ.snoc rv rd t)
theorem cQ.ents:∀{xs:List (KD×Sm×R8)}{ks vs:List D}{us ws:List V},cQ K J xs ks us vs ws->Yc yT ((cJ ks).zip (us.zip ws)) (xs.map (abS (mW P w)))
 | _,_,_,_,_,.nil=>.nil
 | _,_,_,_,_,.cons q r t=>.cons ⟨rfl,rfl,q⟩ t.ents
theorem cQ.reps:∀{xs:List (KD×Sm×R8)}{ks vs:List D}{us ws:List V},cQ K J xs ks us vs ws->aK K J vs ws
 | _,_,_,_,_,.nil=>.nil
 | _,_,_,_,_,.cons q r t=>.cons r t.reps
theorem cQ.keys:∀{xs:List (KD×Sm×R8)}{ks vs:List D}{us ws:List V},cQ K J xs ks us vs ws->xs.map (λx=>x.1.1)=ks
 | _,_,_,_,_,.nil=>rfl
 | _,_,_,_,_,.cons q r t=>by rw [Sw,t.keys]
theorem cQ.len:∀{xs:List (KD×Sm×R8)}{ks vs:List D}{us ws:List V},cQ K J xs ks us vs ws->ks.length=vs.length
 | _,_,_,_,_,.nil=>rfl
 | _,_,_,_,_,.cons q r t=>by rw [T6,T6,t.len]
theorem rT:∀{xs ys:List D},areKeys (xs++ys)=(areKeys xs && areKeys ys)
 | [],_=>rfl
 | x::xs,ys=>by
  show (isKey x && areKeys (xs++ys))=((isKey x && areKeys xs) && areKeys ys)
  rw [rT,Bool.and_assoc]
theorem zu:∀{xs ys:List D}{n:Nat},deps xs<=n->deps ys<=n->deps (xs++ys)<=n
 | [],_,_,_,h=>h
 | x::xs,ys,n,h1,h2=>by
  unfold deps at h1
  have:=zu (xs:=xs) (ys:=ys) (n:=n) (by omega) h2
  show max (dep x) (deps (xs++ys))<=n
  omega
theorem aK.snoc {ds:List D}{vs:List V}{d:D}{v:V}(h:aK K J ds vs) (r:Rep K J d v):aK K J (ds++[d]) (vs++[v]):=h.append (.cons r .nil)
end
section
variable {X:Cx}
theorem BJ {RX:List (Sm×Obj)}{s:R_}{σ:L2.St}{H J:Hp}(I:Inv X RX σ H s) (sub:aT J H){p:Sm}{ks vs:List D}(h:dS X.K J H p ks vs):
  ∃xs:List (KD×Sm×R8),s.heap.DictOfH (mW X.prog X.w) p xs/\xs.length=ks.length/\∀{kxs:List D}{a:Sm}{d:D}{v:V}{u:R8}(k1:isKey (.tup kxs)=true) (k2:dep (.tup kxs)<=8),Rep X.K J (.tup kxs) (.ref a)->Rep X.K J d v->RelV v u->
   ∀(h':TM) (tk:Nat),h'.DictOfH (mW X.prog X.w) p (storedH xs ⟨.tup kxs,k1,k2⟩ a u)->Tu p s.heap h'->
    ∃o,Inv X RX σ (upd H p o) {s with heap:=h',toks:=tk}/\dS X.K J (upd H p o) p (dput (ks,vs) (.tup kxs) d).1 (dput (ks,vs) (.tup kxs) d).2/\(dput (ks,vs) (.tup kxs) d).1.length<=ks.length + 1:=by
 have F:HF X.K J s:=HF.of (c:=⟨X.K,H,H,λ_=>True⟩) I sub
 obtain ⟨xs,us,ws,hm,q2,h3,h4,q4,q5,h7⟩:=om (P:=X.prog) (w:=X.w) F (fL I) h
 obtain ⟨_,_,_,p9,_,_,h5,_⟩:=h
 have rows:cQ X.K J xs ks us vs ws:=by
  have:=cQ.of h4 q4 q5
  rw [q2] at this
  exact this
 refine ⟨xs,hm,by rw [<-q2,Sa],fun {kxs a d v u} k1 k2 rk rd r9 h' tk hm' sb=>?_⟩
 obtain ⟨o',es',ep',g1',g2'',g3',g4',g5',g6'⟩:=hm'
 obtain ⟨l1,l2⟩:=ue (K:=X.K) (J:=J) ⟨.tup kxs,k1,k2⟩ q2 h4 q4
 have key:∃us' ws',cQ X.K J (storedH xs ⟨.tup kxs,k1,k2⟩ a u) (dput (ks,vs) (.tup kxs) d).1 us' (dput (ks,vs) (.tup kxs) d).2 ws'/\aK X.K J (dput (ks,vs) (.tup kxs) d).1 us'/\areKeys (dput (ks,vs) (.tup kxs) d).1=true/\deps (dput (ks,vs) (.tup kxs) d).1<=8/\(∀k∈(dput (ks,vs) (.tup kxs) d).1,∃xs,k=.tup xs)/\(dput (ks,vs) (.tup kxs) d).1.length<=ks.length + 1:=by
  unfold dput
  cases lk:f_ ks vs (.tup kxs) with
  | some z=>
   obtain ⟨pp,v,ea,_,_⟩:=l1 z lk
   rw [storedH_old ea]
   obtain ⟨ws',t⟩:=cQ.put (k:=⟨.tup kxs,k1,k2⟩) r9 rd rows
   exact ⟨us,ws',t,h3,h5.key,h5.dp,h5.tp,Vw _⟩
  | none=>
   rw [storedH_new (l2 lk)]
   refine ⟨us++[.ref a],ws++[v],cQ.snoc (k:=⟨.tup kxs,k1,k2⟩) r9 rd rows,h3.snoc rk,?_,zu h5.dp (by show max (dep (.tup kxs)) 0<=8;omega),λk hk=>?_,by simp⟩
   ·show areKeys (ks++[.tup kxs])=true
    rw [rT,h5.key]
    show (true && (isKey (.tup kxs) && true))=true
    rw [k1];rfl
   ·rcases S0.mp hk with h | h
    ·exact h5.tp k h
    ·exact ⟨kxs,Ss.mp h⟩
 obtain ⟨us',ws',t,tk',kk,kd,kt,kl⟩:=key
 have nd':(dput (ks,vs) (.tup kxs) d).1.Nodup:=by
  rw [<-t.keys]
  have:((storedH xs ⟨.tup kxs,k1,k2⟩ a u).map (·.1)).Nodup:=g6'
  have h:=ads (S:=(·≠·)) (λk:KD=>k.1) (λa b (h:a≠b) e=>h (YF e)) this
  rw [SN] at h
  exact h
 refine ⟨kR p ep' ((cJ (dput (ks,vs) (.tup kxs) d).1).zip (us'.zip ws')),I.write (e:=p) (by rw [p9];trivial) (.inl rfl) (λb u hb q=>by rw [sb.2 b hb];exact q) ⟨_,g1'⟩ ⟨⟨o',es',g1',g2'',g3',by rw [g4'];exact t.ents⟩,⟨_,g1'⟩,?_⟩,⟨us',ws',ep',bU,tk',t.reps,⟨kk,nd',kd,kt⟩,h7,t.len⟩,kl⟩
 rintro h1 h2 ⟨o,es,a1,a2⟩ e
 exact ⟨o,es,e o a1,a2⟩
end
def Cf (c:C) (p:Sm):Hp->Hp->List D->Prop:=λJ H ys=>dS c.K J H p (iN ys).1 (iN ys).2/\J p=none/\(iN ys).1.length<=ys.length
theorem sP {c:C}{p:Sm}:yN (Cf c p):=⟨fun {J H J' H' ys} ⟨h1,h2,h3⟩ e=>⟨h1.mono e.j e.h,e.frz _ h1.ne h2,h3⟩⟩
noncomputable def sR (gk gv:G R):Ev->M (List D×Ev):=λe=>gk e >>= λr=>toD r >>= λk=>gv e >>= λr2=>toD r2 >>= λd=>if dH k=true then .ok ([.tup [k,d]],e) else .bad
abbrev De (kx vx:S4) (p:Sm) (env:Env):Sem Unit:=do
 let kv <-eval kx env
 let vv <-holding [kv] (eval vx env)
 VS {kx.pos with endLine:=vx.pos.endLine,endCol:=vx.pos.endCol}
 holding [kv,vv] (dictSet p kv vv)
section
variable {X:Cx}{c:C}{p:Sm}{J2 H2:Hp}{kx vx:S4}{gk gv:G R}
theorem Bg (hu:X.A.units + 64 < Uu) (hK:X.K=c.K) (hx:∀v s,X.xe v s->False) (hp2:H2 p=none) (hp0:c.H0 p=none) (hk:PD X c kx gk) (hv:PD X c vx gv):vH X c p (Cf c p) J2 H2 1 (De kx vx p X.env) (sR gk gv):=by
 intro RX s σ H J env ys Qf I x2 sr no ⟨h1,h2,h8⟩ hl w
 refine R6 (Tw (hk _ s σ H (λv H8=>∃J8 k,Ext J H J8 H8/\Rep c.K J8 k v/\cA (gv env >>= λr2=>toD r2 >>= λd=>if dH k=true then M.ok ([.tup [k,d]],env) else .bad) Qf c.T) I ⟨J,env,sr,aE (aI w) λr wr v J8 H8 e8 r8=>?_⟩) (λu8 s8 ⟨v8,H8,I8,r8,J8,k,e8,rk,w8⟩=>?_) λv s f=>(hx v s f).elim)
 ·obtain ⟨y,q,wr⟩:=iV wr
  obtain ⟨J9,e9,_,ry⟩:=freeze e8 r8 q
  exact ⟨J9,y,e9,ry,wr⟩
 refine R6 (S_ (Tw (hv _ s8 σ H8 (λv H9=>∃J9 d,Ext J8 H8 J9 H9/\Rep c.K J9 d v/\cA (if dH k=true then M.ok ([.tup [k,d]],env) else .bad) Qf c.T) I8 ⟨J8,env,sr.ext e8,aE (aI w8) λr wr v J9 H9 e9 r9=>?_⟩) (λu9 s9 ⟨v9,H9,I9,r9,J9,d,e9,rd,w9⟩=>?_) λv s f=>(hx v s f).elim))
 ·obtain ⟨y,q,wr⟩:=iV wr
  obtain ⟨J9',e9',_,ry⟩:=freeze e9 r9 q
  exact ⟨J9',y,e9',ry,wr⟩
 refine R6 (UD (S_ ?_))
 by_cases ok:dH k=true
 case neg=>rw [if_neg ok] at w9;exact w9.elim
 rw [if_pos ok] at w9
 have w9:Qf ([.tup [k,d]],env):=w9
 obtain ⟨kxs,rfl,k1,k2⟩:=gS ok
 have ee:=e8.trans e9
 have rk9:=rk.mono e9.j
 obtain ⟨a,rfl⟩:∃a,v8=.ref a:=by cases rk;exact ⟨_,rfl⟩
 cases r8
 have J9p:J9 p=none:=ee.frz _ h1.ne h2
 rw [<-hK] at rk9 rd
 have h9:=h1.mono ee.j ee.h
 rw [<-hK] at h9
 obtain ⟨xs,hm,lx,put⟩:=BJ I9 ee.sub h9
 refine wpAny_dictSet_heap (knd:=mW X.prog X.w) (k:=⟨.tup kxs,k1,k2⟩) (show X.A.units + 16 < Uu by omega) (jJ (HF.of (c:=⟨X.K,H9,H9,λ_=>True⟩) I9 ee.sub) k1 rk9) hm (λh' hm' sb=>?_) (by rw [lx];omega)
 obtain ⟨o,W,hd,kl⟩:=put k1 k2 rk9 rd r9 h' _ hm' sb
 refine ⟨σ,_,J9,([.tup [.tup kxs,d]],env),W,(x2.trans ee).other hp2 J9p,ee.j,(sr.ext ee).other J9p hp0 no,no,⟨by rw [oj,<-hK];exact hd,J9p,?_⟩,Sj _,w9⟩
 rw [oj,SI];exact S7 kl (Nat.add_le_add_right h8 1)
end
noncomputable def kK (n:Nat) (cap:List Nat) (gi0:G (List D)) (gt0:GT) (gts0:G Bool) (gi1:G (List D)) (gt1:GT) (gts1:G Bool) (gk gv:G R):G R:=je 10000 n cap gi0 gt0 gts0 (i_ gi1 gt1 gts1 (sR gk gv)) (λys=>.ok (.d (.dct (iN ys).1 (iN ys).2)))
theorem KW (kx vx t0 i0 t1 i1:S4) (f0 f1:List S4) (RV:Vk) (pos:Pos) (it acc:R8) (env:Env):
  Xb (.DictComp kx vx [⟨t0,i0,f0,0⟩,⟨t1,i1,f1,0⟩] RV pos) 0 it acc env=(do
   VS i0.pos
   match <-Wi it with
   | none=>pure (.done .next)
   | some v=>
    Ve t0 it v
    assign t0 env v
    let mut ok:=true
    for c in f0 do
     if ok then ok <-ZA c env (eval c env)
    if ok then
     let x <-eval i1 env
     VS i1.pos
     let x <-SA i1 env x
     let _ <-runOwn (.compStart (.DictComp kx vx [⟨t0,i0,f0,0⟩,⟨t1,i1,f1,0⟩] RV pos) 1 (<-holding [x] (XZ x)) acc env) env
    again (.compLoop (.DictComp kx vx [⟨t0,i0,f0,0⟩,⟨t1,i1,f1,0⟩] RV pos) 0 it acc env)):=by rfl
theorem M5 (kx vx t0 i0 t1 i1:S4) (f0 f1:List S4) (RV:Vk) (pos:Pos) (it acc:R8) (env:Env):
  Xb (.DictComp kx vx [⟨t0,i0,f0,0⟩,⟨t1,i1,f1,0⟩] RV pos) 0 it acc env=mP t0 i0 f0 it env (sZ (.DictComp kx vx [⟨t0,i0,f0,0⟩,⟨t1,i1,f1,0⟩] RV pos) i1 acc env) (again (.compLoop (.DictComp kx vx [⟨t0,i0,f0,0⟩,⟨t1,i1,f1,0⟩] RV pos) 0 it acc env)):=by
 rw [KW]
 refine bind_congr λ_=>bind_congr λr=>?_
 cases r with
 | none=>rfl
 | some v=>
  refine bind_congr λ_=>bind_congr λ_=>bind_congr λok=>?_
  cases ok with
  | false=>rfl
  | true=>simp only [sZ,bind_assoc,pure_bind,if_true]
theorem M6 (kx vx t0 i0 t1 i1:S4) (f0 f1:List S4) (RV:Vk) (pos:Pos) (it:R8) (p:Sm) (env:Env):
  Xb (.DictComp kx vx [⟨t0,i0,f0,0⟩,⟨t1,i1,f1,0⟩] RV pos) 1 it (.ref p) env=mP t1 i1 f1 it env (De kx vx p env) (again (.compLoop (.DictComp kx vx [⟨t0,i0,f0,0⟩,⟨t1,i1,f1,0⟩] RV pos) 1 it (.ref p) env)):=by rfl
section
variable {X:Cx}{c:C}
theorem Lm (hu:X.A.units + 64 < Uu) (hK:X.K=c.K) (own:List Str) (cap:List Nat){kx vx t0 i0 t1 i1:S4}{f0 f1:List S4}{RV:Vk}{pos:Pos}{gi0 gi1:G (List D)}{gt0 gt1:GT}{gts0 gts1:G Bool}{gk gv:G R}(hi:pU X c t0 i0 gi0)
  (hbody:∀(cl:List (Str×Sm)) (C:Sm) (s:R_) (H:Hp) (fp:List Sm),bE X.env.cells RV.names []=some cl->i7 (aX X own cap RV cl C s H fp) c t0 gt0/\gu (aX X own cap RV cl C s H fp) c f0 gts0/\yW (aX X own cap RV cl C s H fp) c t1 i1 gi1/\i7 (aX X own cap RV cl C s H fp) c t1 gt1/\gu (aX X own cap RV cl C s H fp) c f1 gts1/\PD (aX X own cap RV cl C s H fp) c kx gk/\PD (aX X own cap RV cl C s H fp) c vx gv)
  (hk:RV.kind=.function:=by rfl) (hno:fk X cap RV=true:=by rfl) (hnames:(RV.names.all λx=>!(x.2 == .local) || (RV.names.lookup x.1 == some .local))=true:=by rfl)
  (hcl:(bE X.env.cells RV.names []).isSome=true:=by rfl) (hcap:dQ X cap=true:=by rfl) (hloc:dW X cap RV=true:=by rfl) (hnd:fM cap=true:=by rfl) (P0:X.calm=true:=by rfl)
  (hs:∀x,SA i0 X.env x=pure x:=by intro _;rfl) (hs1:∀(en:Env) x,SA i1 en x=pure x:=by intro _ _;rfl)
  {RX:List (Sm×Obj)}{s:R_}{σ:L2.St}{H:Hp}{Q:VK}{use:Option (R8->Sem Unit)}{Q0:R8->R_->Prop}{pos':Pos}(I:Inv X RX σ H s) (h:tD c (kK own.length cap gi0 gt0 gts0 gi1 gt1 gts1 gk gv) σ H Q)
  (P5:∀(acc C:Sm) (m:Str->Option R8) (s':R_) (H':Hp) (fl:Flow),s'.heap.Ns C m->((C∈X.ex\/X.s₀.heap.objs.size<=C)/\C≠X.env.locals/\(∀x c,X.env.cells.lookup x=some c->c≠C)/\∀p∈X.pn++RX,p.1≠C)->H' C=none->(∀h'',Tu C s'.heap h''->Inv X RX σ H' {s' with heap:=h''})->Q (.ref acc) H'->aaj (SE X.prog X.w) X.A X.xe use Q0 (.ref acc) C (.ok fl) s'):
  Sx (SE X.prog X.w) X.A (comprehension (.DictComp kx vx [⟨t0,i0,f0,0⟩,⟨t1,i1,f1,0⟩] RV pos) RV X.env pos' newDict false (eval i0 X.env) use) Q0 X.xe s:=by
 refine oh (e:=.DictComp kx vx [⟨t0,i0,f0,0⟩,⟨t1,i1,f1,0⟩] RV pos) (ob:={cls:=.type "dict",data:=.dict #[]}) (o0:=λa=>kR a 0 []) (Acc:=Cf c) (N:=1000 * 1) (lim:=10000) (m:=λp env=>sZ (.DictComp kx vx [⟨t0,i0,f0,0⟩,⟨t1,i1,f1,0⟩] RV pos) i1 (.ref p) env) own cap rfl hi
  (λs Q E q=>S8 q) (λh H=>⟨⟨_,#[],Sk _ rfl,⟨rfl,rfl,rfl⟩,rfl,.nil⟩,⟨_,Sk _ rfl⟩,λh1 h2 ⟨o,es,a1,a2⟩ e=>⟨o,es,e o a1,a2⟩⟩) (λp=>sP) (λp J H hsm h1 h2=>⟨⟨[],[],0,h1,.nil,.nil,⟨rfl,Vd,SJ _,λ_ h=>(nomatch h)⟩,beq_eq_false_iff_ne.mpr (U_ (SY hsm)),rfl⟩,h2,Sj _⟩) (by decide) (λit p env=>CQ (M5 ..)) (λit acc env R s h0 h=>YW h0 h) (λys z q=>by cases q)
  (fun {p J H J' H' ys r} hp e ⟨⟨us,ws,ep,h1,h3,h4,h5,h7⟩,h2,h8⟩ q=>by
   cases q
   have s1:aT J' (upd J' p (kR p ep ((cJ (iN ys).1).zip (us.zip ws)))):=cO h2 _
   refine ⟨upd J' p (kR p ep ((cJ (iN ys).1).zip (us.zip ws))),⟨e.h,e.j.trans s1,λa o q=>?_,λa ha ja=>?_⟩,.dct bU (h3.mono s1) (h4.mono s1) h5 h7⟩
   ·by_cases z:a=p
    ·subst z;rw [bU] at q;cases q;exact h1
    ·rw [bz z] at q;exact e.sub _ _ q
   ·have:a≠p:=λz=>ha (z▸hp)
    rw [bz this];exact e.frz a ha ja) (λcl C s H fp hcc=>?_) hk hno hnames hcl hcap hloc hnd P0 hs I h P5
 obtain ⟨b1,b2,b3,b4,b5,b6,b7⟩:=hbody cl C s H fp hcc
 refine ⟨b1,b2,λp J2 H2 hp2 hp0=>?_⟩
 exact Bf sP P0 (λ_ _ f=>f) (λx=>hs1 _ x) (λit R s h0 h=>MY h0 h) (λit=>CQ (M6 ..)) b3 b4 b5 (Bg hu hK (λ_ _ f=>f) hp2 hp0 b6 b7)
theorem EY (hu:X.A.units + 64 < Uu) (own:List Str) (cap:List Nat){kx vx t0 i0 t1 i1:S4}{f0 f1:List S4}{RV:Vk}{pos:Pos}{gi0 gi1:G (List D)}{gt0 gt1:GT}{gts0 gts1:G Bool}{gk gv:G R}(hi:pU X c t0 i0 gi0)
  (hbody:∀(cl:List (Str×Sm)) (C:Sm) (s:R_) (H:Hp) (fp:List Sm),bE X.env.cells RV.names []=some cl->i7 (aX X own cap RV cl C s H fp) c t0 gt0/\gu (aX X own cap RV cl C s H fp) c f0 gts0/\yW (aX X own cap RV cl C s H fp) c t1 i1 gi1/\i7 (aX X own cap RV cl C s H fp) c t1 gt1/\gu (aX X own cap RV cl C s H fp) c f1 gts1/\PD (aX X own cap RV cl C s H fp) c kx gk/\PD (aX X own cap RV cl C s H fp) c vx gv)
  (hk:RV.kind=.function:=by rfl) (hno:fk X cap RV=true:=by rfl) (hnames:(RV.names.all λx=>!(x.2 == .local) || (RV.names.lookup x.1 == some .local))=true:=by rfl)
  (hcl:(bE X.env.cells RV.names []).isSome=true:=by rfl) (hcap:dQ X cap=true:=by rfl) (hloc:dW X cap RV=true:=by rfl) (hnd:fM cap=true:=by rfl) (P0:X.calm=true:=by rfl)
  (hs:∀x,SA i0 X.env x=pure x:=by intro _;rfl) (hs1:∀(en:Env) x,SA i1 en x=pure x:=by intro _ _;rfl) (hK:X.K=c.K:=by rfl):PD X c (.DictComp kx vx [⟨t0,i0,f0,0⟩,⟨t1,i1,f1,0⟩] RV pos) (kK own.length cap gi0 gt0 gts0 gi1 gt1 gts1 gk gv):=by
 intro RX s σ H Q I h
 rw [arm_eval_DictComp]
 exact Lm hu hK own cap hi hbody hk hno hnames hcl hcap hloc hnd P0 hs hs1 I h λacc C m s' H' fl hm hz hf hb q=>⟨m,hm,λh'' sb=>⟨.ref acc,H',hb h'' sb,rfl,q⟩⟩
theorem uY (hu:X.A.units + 64 < Uu) (own:List Str) (cap:List Nat){kx vx t0 i0 t1 i1:S4}{f0 f1:List S4}{RV:Vk}{pos:Pos}{gi0 gi1:G (List D)}{gt0 gt1:GT}{gts0 gts1:G Bool}{gk gv:G R}(hi:rR X c t0 i0 gi0)
  (hbody:∀(cl:List (Str×Sm)) (C:Sm) (s:R_) (H:Hp) (fp:List Sm),bE X.env.cells RV.names []=some cl->kN (aX X own cap RV cl C s H fp) c t0 gt0/\j6 (aX X own cap RV cl C s H fp) c f0 gts0/\t9 (aX X own cap RV cl C s H fp) c t1 i1 gi1/\kN (aX X own cap RV cl C s H fp) c t1 gt1/\j6 (aX X own cap RV cl C s H fp) c f1 gts1/\QD (aX X own cap RV cl C s H fp) c kx gk/\QD (aX X own cap RV cl C s H fp) c vx gv)
  (hk:RV.kind=.function:=by rfl) (hno:fk X cap RV=true:=by rfl) (hnames:(RV.names.all λx=>!(x.2 == .local) || (RV.names.lookup x.1 == some .local))=true:=by rfl)
  (hcl:(bE X.env.cells RV.names []).isSome=true:=by rfl) (hcap:dQ X cap=true:=by rfl) (hloc:dW X cap RV=true:=by rfl) (hnd:fM cap=true:=by rfl) (P0:X.calm=true:=by rfl)
  (hs:∀x,SA i0 X.env x=pure x:=by intro _;rfl) (hs1:∀(en:Env) x,SA i1 en x=pure x:=by intro _ _;rfl) (hK:X.K=c.K:=by rfl):QD X c (.DictComp kx vx [⟨t0,i0,f0,0⟩,⟨t1,i1,f1,0⟩] RV pos) (kK own.length cap gi0 gt0 gts0 gi1 gt1 gts1 gk gv):=
 ⟨EY hu own cap hi.h (λcl C s H fp hc=>let ⟨a,b,d,e,f,g,h⟩:=hbody cl C s H fp hc;⟨a.h,b.h,d.h,e.h,f.h,g.h,h.h⟩) hk hno hnames hcl hcap hloc hnd P0 hs hs1 hK⟩
end
noncomputable def lexLe:List Int->List Int->Bool
 | [],_=>true
 | _::_,[]=>false
 | x::xs,y::ys=>if x=y then lexLe xs ys else decide (x<=y)
theorem kD (x y:Int) (xs ys:List Int):lexLe (x::xs) (y::ys)=if x=y then lexLe xs ys else decide (x<=y):=rfl
theorem pG:lexLe [] []=true:=rfl
theorem wg (y:Int) (ys:List Int):lexLe [] (y::ys)=true:=rfl
theorem we (x:Int) (xs:List Int):lexLe (x::xs) []=false:=rfl
theorem Ho (A:S5) (s:R_) (a:Int) (t:Tok) (c:Int) (u:Tok) (prog:Su) (w:S3) (E:R8->R_->Prop) (Q:R8->R_->Prop) (h:Q (.bool (decide (a<=c))) s):
  Sx (SE prog w) A (richCompare .LtE (.int a t) (.int c u)) Q E s:=
 (ac6 h:Sx (SE prog w) A (T5 .LtE (.int a t) (.int c u)) Q E s)
section
open PySem.SeqAt
open PySem.AutoSeq1 (wpAny_loadPart')
open PySem.MeetsSeq PySem.MeetsSeq2 PySem.MeetsSeq3
theorem yv (l b:Sm) (items R3:Array R8) (n n2:Nat) (dd dd2:Option Sm) (sl sl2:Array (Option R8)) (ns ms:List Int) (hi:Wv items.toList ns) (hj:Wv R3.toList ms):
  Meets (Ww.«tuple.__le__» ⟨[.ref l,.ref b],[]⟩)
   (λ_ R s=>s.heap.get? l=some {cls:=.type "tuple",dict:=dd,data:=.seq items n,slots:=sl}/\s.heap.get? b=some {cls:=.type "tuple",dict:=dd2,data:=.seq R3 n2,slots:=sl2}/\
    R (.ok (.ret (.bool (lexLe ns ms)))) s):=
 .of_wp λprog w A R s h=>by
  obtain ⟨hp,g,d,tk,os⟩:=s;obtain ⟨hl,hb,h⟩:=h
  have f2:=WA
  have z1:items.size=ns.length:=by rw [<-hi.length];simp
  have z2:R3.size=ms.length:=by rw [<-hj.length];simp
  wp_walk using Vh hl,Vh hb,Vn _ (λrest b s'=>b.1=none/\s'=⟨hp,g,d,tk,os⟩/\∃(vs ws:List R8) (ns' ms':List Int),rest=vs.zip ws/\
   Wv vs ns'/\Wv ws ms'/\ns'.length + R3.size=ms'.length + items.size/\R (.ok (.ret (.bool (lexLe ns' ms')))) ⟨hp,g,d,tk,os⟩) _
  case turn=>
   rintro ⟨y,x⟩ rest b s' ⟨hb',rfl,vs,ws,ns',ms',hz,Rb,hwi,hlen,hR⟩
   cases Rb with
   | nil=>rw [List.zip_nil_left] at hz;cases hz
   | cons a t Rc=>
    cases hwi with
    | nil=>rw [List.zip_nil_right] at hz;cases hz
    | cons c u Rf=>
     rw [WN] at hz
     injection hz with hyx hrest
     injection hyx with hy hx
     subst hy hx
     rw [kD] at hR
     simp only [T6] at hlen
     obtain ⟨e,he,hiff⟩:=HT.Ga A.in1 ⟨hp,g,d,tk,os⟩ a t c u
     refine R6 (he prog w _ _ ?_)
     cases e with
     | true=>
      rw [if_pos (hiff.mp rfl)] at hR
      wp_walk
      exact ⟨rfl,rfl,_,_,_,_,hrest,Rc,Rf,by omega,hR⟩
     | false=>
      rw [if_neg (λq=>absurd (hiff.mpr q) SX)] at hR
      have Ra:=Ho A.in1 ⟨hp,g,d,tk,os⟩ a t c u prog w
      wp_walk using Ra
      exact ⟨_,rfl,by simpa using hR⟩
  case fin=>
   rintro ⟨b1,b2⟩ s' ⟨hb',rfl,vs,ws,ns',ms',hz,Rb,hwi,hlen,hR⟩
   simp only at hb'
   subst hb'
   have hv:lexLe ns' ms'=decide (items.size<=R3.size):=by
    cases Rb with
    | nil=>
     cases hwi with
     | nil=>
      simp only [WQ] at hlen
      rw [pG]
      exact (decide_eq_true (by omega)).symm
     | cons c u hw=>
      simp only [WQ,T6] at hlen
      rw [wg]
      exact (decide_eq_true (by omega)).symm
    | cons a t hv=>
     cases hwi with
     | nil=>
      simp only [WQ,T6] at hlen
      rw [we]
      exact (decide_eq_false (by omega)).symm
     | cons c u hw=>
      rw [WN] at hz
      cases hz
   rw [hv] at hR
   wp_walk
   exact ⟨_,rfl,by simpa [W4] using hR⟩
  case h=>
   exact ⟨rfl,rfl,items.toList,R3.toList,ns,ms,rfl,hi,hj,by omega,h⟩
end
section
variable {prog:Su}{w:S3}{A:S5}{E:R8->R_->Prop}{s:R_}
theorem CN {l b:Sm}{items R3:Array R8}{ns ms:List Int}{Q:R8->R_->Prop}(hl:acK s.heap l items) (hb:acK s.heap b R3) (hi:Wv items.toList ns) (hj:Wv R3.toList ms)
  (hu:A.units < Uu) (h:Q (.bool (lexLe ns ms)) s):Sx (SE prog w) A (T5 .LtE (.ref l) (.ref b)) Q E s:=by
 obtain ⟨⟨cls,dd,data,sl⟩,ho,hc,n,hd⟩:=id hl
 obtain ⟨⟨cls2,dd2,data2,sl2⟩,ho2,hc2,n2,hd2⟩:=id hb
 simp only at hc hd hc2 hd2
 subst hc hd hc2 hd2
 exact YS (op:=.LtE) ⟨_,ho,rfl⟩ ⟨_,ho2,rfl⟩ PySem.F.slot_tuple_le PySem.F.entry_tuple_le (PySem.F.args_tuple_le_2 _ _) (yv l b items R3 n n2 dd dd2 sl sl2 ns ms hi hj)
  ⟨ho,ho2,show VD (lexLe ns ms)≠Zt/\Q (.bool (lexLe ns ms)) s from ⟨(λx=>nomatch x),h⟩⟩ hu
end
section
variable {X:Cx}{c:C}{a b e:S4}{ga gb:G R}{pos pos2:Pos}
theorem L8 (hu:X.A.units < Uu):cW X (T5 .LtE) (λx y H Q=>∃a b ns ms,x=.ref a/\y=.ref b/\cZ X.K H a (ns.map V.int)/\cZ X.K H b (ms.map V.int)/\Q (.bl (lexLe ns ms)) H):=by
 intro RX s σ H x y v u Q I rx ry h
 obtain ⟨a,b,ns,ms,rfl,rfl,ha,hb,q⟩:=h
 cases rx
 cases ry
 obtain ⟨RY,r1,p1,_⟩:=I.tuple ha
 obtain ⟨its2,r2,p2,_⟩:=I.tuple hb
 exact CN p1 p2 (L2.intsAre_of r1:Wv RY.toArray.toList ns) (L2.intsAre_of r2:Wv its2.toArray.toList ms) hu ⟨.bl (lexLe ns ms),H,I,rfl,q⟩
noncomputable def zE:R->R->M R
 | .d (.tup xs),.d (.tup ys)=>match intsOf xs,intsOf ys with
  | some ns,some ms=>.ok (.d (.bl (lexLe ns ms)))
  | _,_=>.bad
 | _,_=>.bad
theorem Kn (hu:X.A.units + 64 < Uu) (ha:QD X c a ga) (hb:QD X c b gb) (hK:X.K=c.K:=by rfl):QB X c (.Compare a [.LtE] [b] pos) (bC (g2 zE ga gb)):=have ha:=ha.h;have hb:=hb.h;⟨jX (L8 (by omega)) (by
 intro He He' J H x y u v Q hp rx ry w
 unfold zE at w
 split at w
 ·cases rx with
  | tup h1 s1=>
   cases ry with
   | tup h2 s2=>
    split at w
    ·rename_i ns ms z1 z2
     have e1:=oF z1 s1
     have e2:=oF z2 s2
     subst e1 e2
     exact ⟨_,_,ns,ms,rfl,rfl,by rw [hK];exact fC hp.sub h1,by rw [hK];exact fC hp.sub h2,w _ J H (Ext.refl hp.sub) (.bl _)⟩
    ·exact w.elim
 ·exact w.elim) ha hb⟩
end
theorem vQ (gt:GT) (gts:G Bool) (ge:G R):∀(ds:List D) (env:Ev) (k:List D->M R),(bW gt gts (gD ge) ds env >>= λr=>k r.1)=(cX gt gts ge ds env >>= k)
 | [],env,k=>rfl
 | d::ds,env,k=>by
  unfold bW cX
  cases gt d env with
  | bad=>rfl
  | exc z=>rfl
  | ok e=>
   show ((gts e >>= λk=>if k=true then gD ge e >>= λr=>bW gt gts (gD ge) ds r.2 >>= λz=>.ok (r.1++z.1,z.2) else bW gt gts (gD ge) ds e) >>= _)=((gts e >>= λk=>if k=true then ge e >>= λr=>toD r >>= λy=>cX gt gts ge ds e >>= λys=>.ok (y::ys) else cX gt gts ge ds e) >>= _)
   cases gts e with
   | bad=>rfl
   | exc z=>rfl
   | ok b=>
    cases b with
    | false=>exact vQ gt gts ge ds e k
    | true=>
     show ((gD ge e >>= λr=>bW gt gts (gD ge) ds r.2 >>= λz=>.ok (r.1++z.1,z.2)) >>= _)=((ge e >>= λr=>toD r >>= λy=>cX gt gts ge ds e >>= λys=>.ok (y::ys)) >>= _)
     unfold gD
     cases ge e with
     | bad=>rfl
     | exc z=>rfl
     | ok r=>
      show (((toD r >>= λy=>M.ok ([y],e)) >>= λr=>bW gt gts (gD ge) ds r.2 >>= λz=>.ok (r.1++z.1,z.2)) >>= _)=((toD r >>= λy=>cX gt gts ge ds e >>= λys=>.ok (y::ys)) >>= _)
      cases toD r with
      | bad=>rfl
      | exc z=>rfl
      | ok y=>
       have ih:=vQ gt gts ge ds e λys=>k (y::ys)
       show ((bW gt gts (gD ge) ds e >>= λz=>.ok ([y]++z.1,z.2)) >>= λr=>k r.1)=((cX gt gts ge ds e >>= λys=>M.ok (y::ys)) >>= k)
       have e1:((bW gt gts (gD ge) ds e >>= λz=>M.ok ([y]++z.1,z.2)) >>= λr=>k r.1)=(bW gt gts (gD ge) ds e >>= λr=>k (y::r.1)):=by cases bW gt gts (gD ge) ds e <;> rfl
       have e2:((cX gt gts ge ds e >>= λys=>M.ok (y::ys)) >>= k)=(cX gt gts ge ds e >>= λys=>k (y::ys)):=by cases cX gt gts ge ds e <;> rfl
       rw [e1,e2,ih]
theorem Jv (n:Nat) (cap:List Nat) (gi:G (List D)) (gt:GT) (gts:G Bool) (ge:G R):bK n cap gi gt gts ge=je sizeLine n cap gi gt gts (gD ge) (λys=>.ok (.l .fresh ys)):=by
 funext env
 unfold bK je
 cases gi env with
 | bad=>rfl
 | exc z=>rfl
 | ok ds=>
  show (if ds.length<=sizeLine then _ else _)=(if ds.length<=sizeLine then _ else _)
  by_cases c:ds.length<=sizeLine
  ·rw [if_pos c,if_pos c]
   exact (vQ gt gts ge ds _ λys=>.ok (.l .fresh ys)).symm
  ·rw [if_neg c,if_neg c]
section
variable {X:Cx}{c:C}
theorem Ec (own:List Str) (cap:List Nat){elt RZ R0:S4}{ifs:List S4}{RV:Vk}{pos:Pos}{gi:G (List D)}{gt:GT}{gts:G Bool}{ge:G R}(hi:pU X c RZ R0 gi)
  (hbody:∀(cl:List (Str×Sm)) (C:Sm) (s:R_) (H:Hp) (fp:List Sm),bE X.env.cells RV.names []=some cl->i7 (aX X own cap RV cl C s H fp) c RZ gt/\gu (aX X own cap RV cl C s H fp) c ifs gts/\PD (aX X own cap RV cl C s H fp) c elt ge)
  (hk:RV.kind=.function:=by rfl) (hno:fk X cap RV=true:=by rfl) (hnames:(RV.names.all λx=>!(x.2 == .local) || (RV.names.lookup x.1 == some .local))=true:=by rfl)
  (hcl:(bE X.env.cells RV.names []).isSome=true:=by rfl) (hcap:dQ X cap=true:=by rfl) (hloc:dW X cap RV=true:=by rfl) (hnd:fM cap=true:=by rfl) (P0:X.calm=true:=by rfl)
  (hs:∀x,SA R0 X.env x=pure x:=by intro _;rfl)
  {RX:List (Sm×Obj)}{s:R_}{σ:L2.St}{H:Hp}{Q:VK}{use:Option (R8->Sem Unit)}{Q0:R8->R_->Prop}{pos':Pos}(I:Inv X RX σ H s) (h:tD c (bK own.length cap gi gt gts ge) σ H Q)
  (P5:∀(acc C:Sm) (m:Str->Option R8) (s':R_) (H':Hp) (fl:Flow),s'.heap.Ns C m->((C∈X.ex\/X.s₀.heap.objs.size<=C)/\C≠X.env.locals/\(∀x c,X.env.cells.lookup x=some c->c≠C)/\∀p∈X.pn++RX,p.1≠C)->H' C=none->(∀h'',Tu C s'.heap h''->Inv X RX σ H' {s' with heap:=h''})->Q (.ref acc) H'->aaj (SE X.prog X.w) X.A X.xe use Q0 (.ref acc) C (.ok fl) s'):
  Sx (SE X.prog X.w) X.A (comprehension (.ListComp elt [⟨RZ,R0,ifs,0⟩] RV pos) RV X.env pos' (ac4 []) false (eval R0 X.env) use) Q0 X.xe s:=by
 rw [Jv] at h
 refine oh (e:=.ListComp elt [⟨RZ,R0,ifs,0⟩] RV pos) (ob:={cls:=.type "list",dict:=none,data:=.seq ([]:List R8).toArray}) (o0:=λ_=>.lst []) (Acc:=Cg c) (N:=1) (lim:=sizeLine) (m:=λp env=>do let _ <-call (.builtin "list.append") [.ref p,<-eval elt env]) own cap rfl hi
  (λs Q E q=>S8 q) (λh H=>⟨SJ _,[],0,.nil,Sk _ rfl⟩) (λp=>sQ) (λp J H _ h1 h2=>⟨[],h1,h2,.nil⟩) (by rw [Nat.mul_one];exact Sj _) (λit p env=>CS (compTurn_list ..)) (λit acc env R s h0 h=>YV h0 h) (λys z q=>by cases q)
  (fun {p J H J' H' ys r} hp e ⟨us,h1,h2,h3⟩ q=>by cases q;exact ⟨J',e,⟨p,us,rfl,h1,h2,hp,h3⟩⟩) (λcl C s H fp hcc=>?_) hk hno hnames hcl hcap hloc hnd P0 hs I h P5
 obtain ⟨b1,b2,b3⟩:=hbody cl C s H fp hcc
 exact ⟨b1,b2,λp J2 H2 hp2 hp0=>Be (λ_ _ f=>f) hp2 hp0 b3⟩
theorem G0 (own:List Str) (cap:List Nat){elt RZ R0:S4}{ifs:List S4}{RV:Vk}{pos:Pos}{gi:G (List D)}{gt:GT}{gts:G Bool}{ge:G R}(hi:pU X c RZ R0 gi)
  (hbody:∀(cl:List (Str×Sm)) (C:Sm) (s:R_) (H:Hp) (fp:List Sm),bE X.env.cells RV.names []=some cl->i7 (aX X own cap RV cl C s H fp) c RZ gt/\gu (aX X own cap RV cl C s H fp) c ifs gts/\PD (aX X own cap RV cl C s H fp) c elt ge)
  (hk:RV.kind=.function:=by rfl) (hno:fk X cap RV=true:=by rfl) (hnames:(RV.names.all λx=>!(x.2 == .local) || (RV.names.lookup x.1 == some .local))=true:=by rfl)
  (hcl:(bE X.env.cells RV.names []).isSome=true:=by rfl) (hcap:dQ X cap=true:=by rfl) (hloc:dW X cap RV=true:=by rfl) (hnd:fM cap=true:=by rfl) (P0:X.calm=true:=by rfl)
  (hs:∀x,SA R0 X.env x=pure x:=by intro _;rfl):PD X c (.ListComp elt [⟨RZ,R0,ifs,0⟩] RV pos) (bK own.length cap gi gt gts ge):=by
 intro RX s σ H Q I h
 rw [acq]
 exact Ec own cap hi hbody hk hno hnames hcl hcap hloc hnd P0 hs I h λacc C m s' H' fl hm hz hf hb q=>⟨m,hm,λh'' sb=>⟨.ref acc,H',hb h'' sb,rfl,q⟩⟩
theorem GU (i:Nat) (own:List Str) (cap:List Nat){elt RZ R0:S4}{ifs:List S4}{RV:Vk}{pos pos' pos2:Pos}{x:Str}{gi:G (List D)}{gt:GT}{gts:G Bool}{ge:G R}(hN:X.N.Nodup) (hi:pU X c RZ R0 gi)
  (hbody:∀(cl:List (Str×Sm)) (C:Sm) (s:R_) (H:Hp) (fp:List Sm),bE X.env.cells RV.names []=some cl->i7 (aX X own cap RV cl C s H fp) c RZ gt/\gu (aX X own cap RV cl C s H fp) c ifs gts/\PD (aX X own cap RV cl C s H fp) c elt ge)
  (hk:RV.kind=.function:=by rfl) (hno:fk X cap RV=true:=by rfl) (hnames:(RV.names.all λx=>!(x.2 == .local) || (RV.names.lookup x.1 == some .local))=true:=by rfl)
  (hcl:(bE X.env.cells RV.names []).isSome=true:=by rfl) (hcap:dQ X cap=true:=by rfl) (hloc:dW X cap RV=true:=by rfl) (hnd:fM cap=true:=by rfl) (P0:X.calm=true:=by rfl)
  (hs:∀x,SA R0 X.env x=pure x:=by intro _;rfl) (hx:X.N[i]?=some x:=by rfl) (P8:X.env.scope.names.lookup x=some .local:=by rfl)
  (hsw:VZ (.ListComp elt [⟨RZ,R0,ifs,0⟩] RV pos) (some (.Name x pos')) pos2.line X.env=pure true:=by rfl):Ba X c (.Assign [.Name x pos'] (.ListComp elt [⟨RZ,R0,ifs,0⟩] RV pos) pos2) (bg i (bK own.length cap gi gt gts ge)):=by
 intro RX s σ H D I ⟨J,env,sr,w⟩
 rw [Zi]
 refine R6 (UD ?_)
 rw [show WB [.Name x pos'] (.ListComp elt [⟨RZ,R0,ifs,0⟩] RV pos) pos2.line X.env=pure true from hsw]
 refine R6 (R9 ?_)
 rw [if_pos rfl,Yo]
 refine R6 (R6 (Ec own cap hi hbody hk hno hnames hcl hcap hloc hnd P0 hs (Q:=λv H1=>∃J1 r xx,Ext J H J1 H1/\RR c H J1 H1 r v/\toS r=.ok xx/\oP c J D (.nx (env.set i (some xx)))) I ⟨J,env,sr,aE (aI w) λr wr v J1 H1 e1 r1=>?_⟩ λacc C m s' H' fl hm ap hf hb ⟨J1,r,xx,e1,r1,q1,w1⟩=>?_))
 ·obtain ⟨xx,q,wr⟩:=nV wr
  exact ⟨J1,r,xx,e1,r1,q,wr⟩
 ·have I1:L2.Inv X RX σ H' s':=hb s'.heap (Yp ..)
  show Sx _ _ (do VS pos';adl X.env x (.ref acc)) _ _ _
  refine R6 (UD (ZI ?_))
  refine mO I1 hN hx (.inl P8) (v:=.ref acc) (u:=.ref acc) rfl (λs2 I2 ⟨a,sb,ha⟩=>?_) (.inr P8)
  have hac:C≠a:=λz=>by
   rcases ha with e | e
   ·exact ap.2.1 (z.trans e)
   ·exact ap.2.2.1 _ _ e z.symm
  refine ⟨m,hm.sameBut sb hac,λh2 sb2=>?_⟩
  refine R9 (R9 ⟨σ.set i (some (.ref acc)),H',qp I2 ap hf sb2 (o0:=default),?_⟩)
  exact w1 _ J1 H' e1.j (sr.set e1 r1 q1)
theorem bO (own:List Str) (cap:List Nat){elt RZ R0:S4}{ifs:List S4}{RV:Vk}{pos:Pos}{gi:G (List D)}{gt:GT}{gts:G Bool}{ge:G R}(hi:rR X c RZ R0 gi)
  (hbody:∀(cl:List (Str×Sm)) (C:Sm) (s:R_) (H:Hp) (fp:List Sm),bE X.env.cells RV.names []=some cl->kN (aX X own cap RV cl C s H fp) c RZ gt/\j6 (aX X own cap RV cl C s H fp) c ifs gts/\QD (aX X own cap RV cl C s H fp) c elt ge)
  (hk:RV.kind=.function:=by rfl) (hno:fk X cap RV=true:=by rfl) (hnames:(RV.names.all λx=>!(x.2 == .local) || (RV.names.lookup x.1 == some .local))=true:=by rfl)
  (hcl:(bE X.env.cells RV.names []).isSome=true:=by rfl) (hcap:dQ X cap=true:=by rfl) (hloc:dW X cap RV=true:=by rfl) (hnd:fM cap=true:=by rfl) (P0:X.calm=true:=by rfl)
  (hs:∀x,SA R0 X.env x=pure x:=by intro _;rfl):QD X c (.ListComp elt [⟨RZ,R0,ifs,0⟩] RV pos) (bK own.length cap gi gt gts ge):=
 ⟨G0 own cap hi.h (λcl C s H fp hc=>let ⟨a,b,d⟩:=hbody cl C s H fp hc;⟨a.h,b.h,d.h⟩) hk hno hnames hcl hcap hloc hnd P0 hs⟩
theorem mD (i:Nat) (own:List Str) (cap:List Nat){elt RZ R0:S4}{ifs:List S4}{RV:Vk}{pos pos' pos2:Pos}{x:Str}{gi:G (List D)}{gt:GT}{gts:G Bool}{ge:G R}(hN:X.N.Nodup) (hi:rR X c RZ R0 gi)
  (hbody:∀(cl:List (Str×Sm)) (C:Sm) (s:R_) (H:Hp) (fp:List Sm),bE X.env.cells RV.names []=some cl->kN (aX X own cap RV cl C s H fp) c RZ gt/\j6 (aX X own cap RV cl C s H fp) c ifs gts/\QD (aX X own cap RV cl C s H fp) c elt ge)
  (hk:RV.kind=.function:=by rfl) (hno:fk X cap RV=true:=by rfl) (hnames:(RV.names.all λx=>!(x.2 == .local) || (RV.names.lookup x.1 == some .local))=true:=by rfl)
  (hcl:(bE X.env.cells RV.names []).isSome=true:=by rfl) (hcap:dQ X cap=true:=by rfl) (hloc:dW X cap RV=true:=by rfl) (hnd:fM cap=true:=by rfl) (P0:X.calm=true:=by rfl)
  (hs:∀x,SA R0 X.env x=pure x:=by intro _;rfl) (hx:X.N[i]?=some x:=by rfl) (P8:X.env.scope.names.lookup x=some .local:=by rfl)
  (hsw:VZ (.ListComp elt [⟨RZ,R0,ifs,0⟩] RV pos) (some (.Name x pos')) pos2.line X.env=pure true:=by rfl):iK X c (.Assign [.Name x pos'] (.ListComp elt [⟨RZ,R0,ifs,0⟩] RV pos) pos2) (bg i (bK own.length cap gi gt gts ge)):=
 ⟨GU i own cap hN hi.h (λcl C s H fp hc=>let ⟨a,b,d⟩:=hbody cl C s H fp hc;⟨a.h,b.h,d.h⟩) hk hno hnames hcl hcap hloc hnd P0 hs hx P8 hsw⟩
end
end DL
namespace K23
open PySem DL
def tZ:List Str:=["world","many","marks","arrows"]
noncomputable def uI:G O:=(aM (mV (dh 3 (bw (aA 1) (bw (aA 2) (bw (aA 3) dz)))) (af 0))
 (bJ (bD (aC (gN cS (aq (bK 2 [] (eY (af 2)) (dh 2 (bw (aA 0) (bw (aA 1) dz))) cI (af 0)) aG)) (aC (gN cS (aq (bK 2 [] (eY (af 3)) (dh 2 (bw (aA 0) (bw (aA 1) dz))) cI (af 0)) aG)) aV)))))
def i6 (as:List S):M R:=fin (uI (bq tZ as))
def pS:List Str:=["one","other"]
def qd:G O:=(bS (bC (g2 (cL true) (gN (aQ 1 K23.i6) (aq (af 0) aG)) (gN (aQ 1 K23.i6) (aq (af 1) aG)))) yF dJ)
def iZ (as:List S):M R:=fin (qd (bq pS as))
def kM:List Str:=["worlds","world"]
def kU:G O:=(dO (jf (af 0)) (aA 1) (bS (bC (g2 (jS λi j=>.bl (decide (j < i))) (g2 aZ (af 1) (gC (.int 0))) (gC (.int 4)))) yF dJ))
def fU (as:List S):M R:=fin (kU (bq kM as))
def rP:List Str:=["one","other"]
noncomputable def su:G O:=(aM (lZ (gN (aQ 2 K23.iZ) (aq (af 0) (aq (af 1) aG))))
 (lZ (gN (aQ 1 K23.fU) (aq (bD (aC (af 0) (aC (af 1) aV))) aG))))
def gj (as:List S):M R:=fin (su (bq rP as))
def A9:List Str:=["pairs"]
noncomputable def Bw:G O:=(aM (bS (bC (g2 (kT false) (af 0) (gC .non))) (bJ (bD aV)) dJ)
 (bJ (gN cS (aq (gN f7 (aq (af 0) aG)) aG))))
def gP (as:List S):M R:=fin (Bw (bq A9 as))
def HU:List Str:=["world","one","other","many","marks","arrows","bearing","leading"]
noncomputable def Ii:G O:=(aM (mV (dh 3 (bw (aA 3) (bw (aA 4) (bw (aA 5) dz)))) (af 0))
 (aM (bg 6 (gN cS (aq (bK 2 [1] (eY (af 4)) (dh 2 (bw (aA 0) (bw (aA 1) dz))) cI (g2 (ie false) (af 2) (af 1))) aG)))
 (aM (bg 7 (gN cS (aq (bK 2 [1,2] (eY (af 5)) (dh 2 (bw (aA 0) (bw (aA 1) dz))) cI (g2 (ie false) (bD (aC (af 2) (aC (af 3) aV))) (af 1))) aG)))
 (bJ (bD (aC (g2 (cL false) (af 1) (af 2)) (aC (af 6) (aC (af 7) aV))))))))
def yw (as:List S):M R:=fin (Ii (bq HU as))
def DK:List Str:=["world"]
noncomputable def Ex:G O:=(bJ (kK 2 [0] (cg (aq (g2 aZ (af 0) (gC (.int 0))) aG)) (aA 0) cI (cg (aq (g2 aZ (af 2) (gC (.int 0))) aG)) (aA 1) cI (bD (aC (af 0) (aC (af 1) aV))) (gN (aQ 3 K23.yw) (aq (af 2) (aq (af 0) (aq (af 1) aG))))))
def pL (as:List S):M R:=fin (Ex (bq DK as))
def DJ:List Str:=["first","second","pair","again"]
noncomputable def Eu:G O:=(bJ (g2 (cL false) (g2 jd (af 0) (bD (aC (g2 aZ (af 2) (gC (.int 0))) (aC (g2 aZ (af 3) (gC (.int 0))) aV)))) (g2 jd (af 1) (bD (aC (g2 aZ (af 2) (gC (.int 1))) (aC (g2 aZ (af 3) (gC (.int 1))) aV))))))
def fj (as:List S):M R:=fin (Eu (bq DJ as))
def pR:List Str:=["first","second","pairing","pair","again"]
noncomputable def qa:G O:=(aM (bS (jC (p6 (af 2)) (bC (g2 zE (af 3) (g2 aZ (af 2) (Gg (gC (.int 1))))))) (bJ (gC (.bl false))) dJ)
 (aM (dO (jf (af 2)) (aA 4) (bS (jv (gZ (bC (gN (aQ 4 K23.fj) (aq (af 0) (aq (af 1) (aq (af 3) (aq (af 4) aG))))))) (gZ (bC (gN (aQ 4 K23.fj) (aq (af 0) (aq (af 1) (aq (af 4) (aq (af 3) aG)))))))) (bJ (gC (.bl false))) dJ))
 (bJ (gC (.bl true)))))
def iY (as:List S):M R:=fin (qa (bq pR as))
def wR:List Str:=["one","other","most","first","second","pairs","longest","told","step"]
noncomputable def xo:G O:=(aM (lZ (gN (aQ 2 K23.gj) (aq (af 0) (aq (af 1) aG))))
 (aM (lZ (gN (aQ 3 K55.jM) (aq (af 2) (aq (gC (.int 0)) (aq (gC (.int 4)) aG)))))
 (aM (bg 3 (gN (aQ 1 K23.pL) (aq (af 0) aG)))
 (aM (bg 4 (gN (aQ 1 K23.pL) (aq (af 1) aG)))
 (aM (bg 5 (jT 2 [1,3,4] (cg (aq (g2 aZ (af 0) (gC (.int 0))) aG)) (aA 0) cI (cg (aq (g2 aZ (af 2) (gC (.int 0))) aG)) (aA 1) (bC (gN (aQ 4 K23.fj) (aq (af 3) (aq (af 4) (aq (bD (aC (af 0) (aC (af 1) aV))) (aq (bD (aC (af 0) (aC (af 1) aV))) aG)))))) (bD (aC (af 0) (aC (af 1) aV)))))
 (aM (fW 5 (bg 6 (gw (aC (bD aV) aV))))
 (aM (bg 7 (gw (aC (bD aV) aV)))
 (aM (dO (cg (aq (af 2) aG)) (aA 8) (aM (fW 5 (bg 6 (jT 2 [5,3,4] (eY (af 6)) (aA 0) cI (jf (af 2)) (aA 1) (bC (gN (aQ 4 K23.iY) (aq (af 3) (aq (af 4) (aq (af 0) (aq (af 1) aG)))))) (g2 cR (af 0) (bD (aC (af 1) aV))))))
 (p5 7 (af 6))))
 (bJ (af 7))))))))))
def lJ (as:List S):M R:=fin (xo (bq wR as))
def pP:List Str:=["_law_many","_law_found","_law_k","_law_more","_law_order_here"]
noncomputable def p7:G O:=(aM (fW 3 (bg 1 (gw (aC (bD aV) aV))))
 (aM (dO (cg (aq (af 0) aG)) (aA 2) (aM (bg 3 (gw aV))
 (aM (fW 1 (dO (jf (af 1)) (aA 4) (p5 3 (bK 1 [4] (cg (aq (af 0) aG)) (aA 0) (bC (g2 (ie true) (af 0) (af 1))) (g2 cR (af 1) (bD (aC (af 0) aV)))))))
 (fW 3 (bg 1 (af 3))))))
 (bJ (af 1))))
def iX (as:List S):M R:=fin (p7 (bq pP as))
end K23
namespace K23
open PySem DL K01 WP K51 K52 K55
section
variable {α β:Type}
theorem HZ {gts:G Bool}{act:Ev->M (List D×Ev)}{h':β->D}{a0:Option S}{rest:Ev}(p:β->Bool) (f:β->D):∀(ys:List β),(∀y∈ys,gts (a0::some (.d (h' y))::rest)=.ok (p y)/\(p y=true->act (a0::some (.d (h' y))::rest)=.ok ([f y],a0::some (.d (h' y))::rest)))->
  ∀z:Option S,∃z',bW (aA 1) gts act (ys.map h') (a0::z::rest)=.ok ((ys.filter p).map f,a0::z'::rest)
 | [],_,z=>⟨z,rfl⟩
 | y::ys,H,z=>by
  obtain ⟨h1,h2⟩:=H y Se
  obtain ⟨z',ih⟩:=HZ p f ys (λy hy=>H y (Sd _ hy)) (some (.d (h' y)))
  refine ⟨z',?_⟩
  rw [Sw]
  unfold bW
  show (gts (a0::some (.d (h' y))::rest) >>= λk=>if k=true then act (a0::some (.d (h' y))::rest) >>= λr=>bW (aA 1) gts act (ys.map h') r.2 >>= λz=>.ok (r.1++z.1,z.2) else bW (aA 1) gts act (ys.map h') (a0::some (.d (h' y))::rest))=_
  rw [h1,aP]
  cases q:p y with
  | true=>
   rw [if_pos rfl,h2 q,aP]
   show (bW (aA 1) gts act (ys.map h') (a0::some (.d (h' y))::rest) >>= _)=_
   rw [ih,aP,YA q]
   rfl
  | false=>
   rw [if_neg (by decide),ih,YB (by simp [q])]
theorem D_ {gi1:G (List D)}{gts:G Bool}{act:Ev->M (List D×Ev)}{h:α->D}{h':β->D}{rest:Ev}(ys:α->List β) (p:α->β->Bool) (f:α->β->D):∀(xs:List α),(∀x∈xs,(ys x).length<=1000/\(∀z:Option S,gi1 (some (.d (h x))::z::rest)=.ok ((ys x).map h'))/\∀y∈ys x,gts (some (.d (h x))::some (.d (h' y))::rest)=.ok (p x y)/\(p x y=true->act (some (.d (h x))::some (.d (h' y))::rest)=.ok ([f x y],some (.d (h x))::some (.d (h' y))::rest)))->
  ∀z0 z:Option S,∃z0' z',bW (aA 0) cI (i_ gi1 (aA 1) gts act) (xs.map h) (z0::z::rest)=.ok (xs.flatMap λx=>((ys x).filter (p x)).map (f x),z0'::z'::rest)
 | [],_,z0,z=>⟨z0,z,rfl⟩
 | x::xs,H,z0,z=>by
  obtain ⟨h1,h2,h3⟩:=H x Se
  obtain ⟨z1,e1⟩:=HZ (a0:=some (.d (h x))) (p x) (f x) (ys x) h3 z
  obtain ⟨z0',z',ih⟩:=D_ ys p f xs (λy hy=>H y (Sd _ hy)) (some (.d (h x))) z1
  refine ⟨z0',z',?_⟩
  rw [Sw]
  unfold bW
  show (i_ gi1 (aA 1) gts act (some (.d (h x))::z::rest) >>= _)=_
  unfold i_
  rw [h2 z,aP,if_pos (by rw [Sa];exact h1),e1,aP]
  show (bW (aA 0) cI (i_ gi1 (aA 1) gts act) (xs.map h) (some (.d (h x))::z1::rest) >>= _)=_
  rw [ih]
  rfl
theorem yz {env:Ev}{cap:List Nat}{gi0 gi1:G (List D)}{gts:G Bool}{act:Ev->M (List D×Ev)}{fin:List D->M R}{h:α->D}{h':β->D}{xs:List α}(ys:α->List β) (p:α->β->Bool) (f:α->β->D) (hi:gi0 env=.ok (xs.map h)) (hl:xs.length<=10000)
  (H:∀x∈xs,(ys x).length<=1000/\(∀z:Option S,gi1 (some (.d (h x))::z::cE 0 cap env)=.ok ((ys x).map h'))/\∀y∈ys x,gts (some (.d (h x))::some (.d (h' y))::cE 0 cap env)=.ok (p x y)/\(p x y=true->act (some (.d (h x))::some (.d (h' y))::cE 0 cap env)=.ok ([f x y],some (.d (h x))::some (.d (h' y))::cE 0 cap env))):
  je 10000 2 cap gi0 (aA 0) cI (i_ gi1 (aA 1) gts act) fin env=fin (xs.flatMap λx=>((ys x).filter (p x)).map (f x)):=by
 unfold je
 rw [hi,aP,if_pos (by rw [Sa];exact hl)]
 obtain ⟨z0',z',e⟩:=D_ ys p f xs H none none
 show (bW (aA 0) cI (i_ gi1 (aA 1) gts act) (xs.map h) (none::none::cE 0 cap env) >>= _)=_
 rw [e]
 rfl
theorem Bd {ge:G R}{env:Ev}{r:R}{d:D}(h:ge env=.ok r) (h2:toD r=.ok d):gD ge env=.ok ([d],env):=by
 unfold gD
 rw [h,aP,h2]
 rfl
theorem vI {gk gv:G R}{env:Ev}{r r2:R}{k d:D}(h:gk env=.ok r) (h2:toD r=.ok k) (h3:gv env=.ok r2) (h4:toD r2=.ok d) (ok:dH k=true):sR gk gv env=.ok ([.tup [k,d]],env):=by
 unfold sR
 rw [h,aP,h2,aP,h3,aP,h4,aP,if_pos ok]
end
noncomputable def eX (u:Wd) (a c:Nat):D:=.tup [.bl (bu (dN a) (dN c)),.tup (u.ms.map λr=>.bl (inD (dN a) (r.2.map dN))),.tup (u.ar.map λr=>.bl (inD (dP (a,c)) (r.2.map dP)))]
theorem K4 (u:Wd) (hu:ng u) (a c:Nat):yw [.d u.d,.d (dN a),.d (dN c)]=.ok (.d (eX u a c)):=by
 have ml:=hu.ml
 have al:=hu.al
 refine cH (u_ rfl rfl rfl ?_)
 refine bB (n1 (kr (xs:=u.ms) (λr=>.str r.1) (λr=>.tup (r.2.map dN)) (λr=>.bl (inD (dN a) (r.2.map dN))) rfl (by omega) λr _=>⟨_,two rfl rfl (OI a r.2),rfl⟩) rfl) rfl ?_
 refine bB (n1 (kr (xs:=u.ar) (λr=>.str r.1) (λr=>.tup (r.2.map dP)) (λr=>.bl (inD (dP (a,c)) (r.2.map dP))) rfl (by omega) λr _=>⟨_,two (bx (aJ rfl rfl (aJ rfl rfl br)) t2) rfl (LD (a,c) r.2),rfl⟩) rfl) rfl ?_
 exact bP (bx (aJ rfl rfl (aJ rfl rfl (aJ rfl rfl br))) (by show 3<=1000;decide)) rfl rfl
def d7 (m n:Nat):List (Nat×Nat):=(Sh m).flatMap λa=>(Sh n).map λb=>(a,b)
theorem oJ {m n:Nat}{p:Nat×Nat}:p∈d7 m n↔p.1 < m/\p.2 < n:=by
 unfold d7
 simp only [V2,Sy,Sb]
 constructor
 ·rintro ⟨a,ha,b,hb,rfl⟩;exact ⟨ha,hb⟩
 ·rintro ⟨h1,h2⟩;exact ⟨p.1,h1,p.2,h2,rfl⟩
theorem oK (m n:Nat):(d7 m n).Nodup:=by
 unfold d7
 refine Zj.mpr ⟨λa _=>S9.mpr (W6 (λh e=>h (by cases e;rfl)) (Uw (n:=n))),?_⟩
 refine W6 ?_ (Uw (n:=m))
 intro a b hab p h1 q h2 e
 subst e
 obtain ⟨x,_,rfl⟩:=Sb.mp h1
 obtain ⟨y,_,e⟩:=Sb.mp h2
 cases e
 exact hab rfl
theorem GA (m n:Nat):(d7 m n).length=m * n:=by
 induction m with
 | zero=>simp [d7]
 | succ m ih=>
  unfold d7 at ih ⊢
  rw [XM,ZS,SI,ih,abx]
  simp
theorem JJ {ks vs:List D}{k:D}(h:∀x∈ks,bu x k=false):f_ ks vs k=none:=by
 induction ks generalizing vs with
 | nil=>cases vs <;> rfl
 | cons x ks ih=>
  cases vs with
  | nil=>rfl
  | cons v vs=>
   unfold f_
   rw [h x Se,if_neg (by decide)]
   exact ih λy hy=>h y (Sd _ hy)
theorem w5 (f:Nat×Nat->D):∀(n:Nat) (ps:List (Nat×Nat)),ps.length=n->ps.Nodup->iN (ps.map λp=>D.tup [dP p,f p])=(ps.map dP,ps.map f)
 | 0,ps,h,_=>by
  have:=UI.mp h
  subst this
  rfl
 | n + 1,ps,h,nd=>by
  rcases UX ps with rfl | ⟨qs,p,rfl⟩
  ·cases h
  ·rw [UY] at h nd ⊢
   have nd':=VN.mp nd
   have ih:=w5 f n qs (by simpa using h) nd'.1
   have hn:f_ (qs.map dP) (qs.map f) (dP p)=none:=JJ λx hx=>by
    obtain ⟨q,hq,rfl⟩:=Sb.mp hx
    rw [w_,decide_eq_false_iff_not]
    rintro rfl
    exact nd'.2.2 q hq q Se rfl
   rw [SM,aag,oj,ih]
   unfold dput
   rw [hn]
   simp
abbrev gX (u:Wd):List D:=(d7 u.m u.m).map dP
abbrev gY (u:Wd):List D:=(d7 u.m u.m).map λp=>eX u p.1 p.2
theorem A7 (u:Wd) (hu:ng u):pL [.d u.d]=.ok (.d (.dct (gX u) (gY u))):=by
 have hi:=hu.hi
 refine cH (bP (r:=.d (.dct (gX u) (gY u))) ?_ rfl rfl)
 refine (yz (xs:=Sh u.m) (h:=dN) (h':=dN) (λ_=>Sh u.m) (λ_ _=>true) (λa b=>.tup [dP (a,b),eX u a b]) ?_ (by simp;omega) λa _=>⟨by simp;omega,λz=>?_,λb _=>⟨rfl,λ_=>vI (bx (aJ rfl rfl (aJ rfl rfl br)) t2) rfl (c3 rfl rfl rfl (K4 u hu a b)) rfl rfl⟩⟩).trans ?_
 ·exact jj (eG (two rfl rfl (f9 _ _))) (by omega)
 ·exact jj (eG (two rfl rfl (f9 _ _))) (by omega)
 ·have ef:(Sh u.m).filter (λ_=>true)=Sh u.m:=ZT.mpr λ_ _=>rfl
  have e:((Sh u.m).flatMap λa=>((Sh u.m).filter λ_=>true).map λb=>D.tup [dP (a,b),eX u a b])=(d7 u.m u.m).map λp=>D.tup [dP p,eX u p.1 p.2]:=by
   rw [ef]
   unfold d7
   rw [Xp]
   simp [SN,aaJ]
  rw [e]
  have h:=w5 (λp=>eX u p.1 p.2) _ (d7 u.m u.m) rfl (oK _ _)
  show M.ok (R.d (.dct (iN ((d7 u.m u.m).map λp=>D.tup [dP p,eX u p.1 p.2])).1 (iN ((d7 u.m u.m).map λp=>D.tup [dP p,eX u p.1 p.2])).2))=_
  rw [h]
theorem BC (u:Wd):∀(ps:List (Nat×Nat)) (p:Nat×Nat),p∈ps->f_ (ps.map dP) (ps.map λp=>eX u p.1 p.2) (dP p)=some (eX u p.1 p.2)
 | q::ps,p,h=>by
  rw [Sw,Sw]
  unfold f_
  by_cases c:q=p
  ·subst c
   rw [if_pos (by rw [w_];simp)]
  ·rw [if_neg (by rw [w_];simpa using c)]
   rcases Sn.mp h with e | e
   ·exact absurd e.symm c
   ·exact BC u ps p e
theorem zx (u:Wd) (a c:Nat) (ha:a < u.m) (hc:c < u.m):jd (.d (.dct (gX u) (gY u))) (.d (dP (a,c)))=.ok (.d (eX u a c)):=by
 show (if dH (dP (a,c))=true then (match f_ (gX u) (gY u) (dP (a,c)) with
  | some d=>M.ok (R.d d)
  | none=>.bad) else .bad)=_
 rw [if_pos (show dH (dP (a,c))=true from rfl),BC u (d7 u.m u.m) (a,c) (oJ.mpr ⟨ha,hc⟩)]
theorem AJ (u:Wd) (a c:Nat):dep (eX u a c)<=60:=by
 have h1:deps (u.ms.map λr=>D.bl (inD (dN a) (r.2.map dN)))<=0:=gq λx hx=>by obtain ⟨r,_,rfl⟩:=Sb.mp hx;exact SJ _
 have h2:deps (u.ar.map λr=>D.bl (inD (dP (a,c)) (r.2.map dP)))<=0:=gq λx hx=>by obtain ⟨r,_,rfl⟩:=Sb.mp hx;exact SJ _
 unfold eX
 simp only [dep,deps]
 omega
def ju (v w:Wd) (p q:Nat×Nat):Bool:=bu (eX v p.1 q.1) (eX w p.2 q.2)
def pM (v w:Wd) (p:Nat×Nat):Prop:=p.1 < v.m/\p.2 < w.m
theorem vC (v w:Wd) (p q:Nat×Nat) (hp:pM v w p) (hq:pM v w q):fj [.d (.dct (gX v) (gY v)),.d (.dct (gX w) (gY w)),.d (dP p),.d (dP q)]=.ok (.d (.bl (ju v w p q))):=by
 refine cH (bP (two (x:=.d (eX v p.1 q.1)) (y:=.d (eX w p.2 q.2)) (two rfl (bx (aJ (two rfl rfl (f9 _ _)) rfl (aJ (two rfl rfl (f9 _ _)) rfl br)) t2) (zx v p.1 q.1 hp.1 hq.1)) (two rfl (bx (aJ (two rfl rfl (zQ _ _ _)) rfl (aJ (two rfl rfl (zQ _ _ _)) rfl br)) t2) (zx w p.2 q.2 hp.2 hq.2)) (lU _ _ _ (AJ v p.1 q.1) (AJ w p.2 q.2))) rfl rfl)
def sA (p q:Nat×Nat):Bool:=lexLe [p.1,p.2] [q.1,q.2]
theorem Px (p q:Nat×Nat):zE (.d (dP p)) (.d (dP q))=.ok (.d (.bl (sA p q))):=rfl
noncomputable def gb (v w:Wd) (ps:List (Nat×Nat)) (q:Nat×Nat):Bool:=(match ps.getLast? with
 | some l=>!sA q l
 | none=>true) && ps.all λr=>ju v w q r && ju v w r q
theorem wJ {env:Ev}{g:G R}{b:Bool}(h:g env=.ok (.d (.bl b))):bC g env=.ok b:=by
 show (g env >>= _)=_
 rw [h]
 rfl
theorem lF {env:Ev}{g:G R}{b:Bool}(h:g env=.ok (lW (.d (.bl b)))):bC g env=.ok b:=wJ h
theorem dB {env:Ev}{f:R->R->M R}{g h:G R}{x y:R}{b:Bool}(hx:g env=.ok x) (hy:h env=.ok y) (hf:f x y=.ok (.d (.bl b))):bC (g2 f g h) env=.ok b:=wJ (two hx hy hf)
theorem mw {env:Ev}{g:G Bool}{b:Bool}(h:g env=.ok b):gZ g env=.ok (!b):=by
 show (g env >>= _)=_
 rw [h]
 rfl
theorem ni {env:Ev}{a b:G Bool}(h:a env=.ok false):jC a b env=.ok false:=by
 unfold jC
 rw [h]
 rfl
theorem iL {env:Ev}{a b:G Bool}{k:Bool}(h:a env=.ok true) (h2:b env=.ok k):jC a b env=.ok k:=by
 unfold jC
 rw [h]
 exact h2
theorem Mg {env:Ev}{a b:G Bool}{x y:Bool}(h:a env=.ok (!x)) (h2:b env=.ok (!y)):jv a b env=.ok (!(x && y)):=by
 unfold jv
 rw [h]
 cases x with
 | true=>exact h2
 | false=>rfl
theorem Oq (v w:Wd) (ps:List (Nat×Nat)) (q:Nat×Nat) (hp:∀p∈ps,pM v w p) (hq:pM v w q):iY [.d (.dct (gX v) (gY v)),.d (.dct (gX w) (gY w)),.d (.tup (ps.map dP)),.d (dP q)]=.ok (.d (.bl (gb v w ps q))):=by
 have loop:(match ps.getLast? with
   | some l=>!sA q l
   | none=>true)=true->Wp (aM (dO (jf (af 2)) (aA 4) (bS (jv (gZ (bC (gN (aQ 4 K23.fj) (aq (af 0) (aq (af 1) (aq (af 3) (aq (af 4) aG))))))) (gZ (bC (gN (aQ 4 K23.fj) (aq (af 0) (aq (af 1) (aq (af 4) (aq (af 3) aG)))))))) (bJ (gC (.bl false))) dJ))
 (bJ (gC (.bl true))) [some (.d (.dct (gX v) (gY v))),some (.d (.dct (gX w) (gY w))),some (.d (.tup (ps.map dP))),some (.d (dP q)),none]) (·=.rt (.d (.bl (gb v w ps q)))):=by
  intro hl
  refine jP (ds:=ps.map dP) rfl ?_
  have key:∀(rs:List (Nat×Nat)),(∀p∈rs,pM v w p)->∀x:Option S,Wp (fH (aA 4) (bS (jv (gZ (bC (gN (aQ 4 K23.fj) (aq (af 0) (aq (af 1) (aq (af 3) (aq (af 4) aG))))))) (gZ (bC (gN (aQ 4 K23.fj) (aq (af 0) (aq (af 1) (aq (af 4) (aq (af 3) aG)))))))) (bJ (gC (.bl false))) dJ) (rs.map dP) [some (.d (.dct (gX v) (gY v))),some (.d (.dct (gX w) (gY w))),some (.d (.tup (ps.map dP))),some (.d (dP q)),x])
    (λo=>((∃e,o=.nx e)/\(rs.all λr=>ju v w q r && ju v w r q)=true)\/(o=.rt (.d (.bl false))/\(rs.all λr=>ju v w q r && ju v w r q)=false)):=by
   intro rs
   induction rs with
   | nil=>intro _ x;exact ⟨_,rfl,.inl ⟨⟨_,rfl⟩,rfl⟩⟩
   | cons r rs ih=>
    intro hr x
    have h1:=vC v w q r hq (hr r Se)
    have h2:=vC v w r q (hr r Se) hq
    have ht:(jv (gZ (bC (gN (aQ 4 K23.fj) (aq (af 0) (aq (af 1) (aq (af 3) (aq (af 4) aG))))))) (gZ (bC (gN (aQ 4 K23.fj) (aq (af 0) (aq (af 1) (aq (af 4) (aq (af 3) aG)))))))) [some (.d (.dct (gX v) (gY v))),some (.d (.dct (gX w) (gY w))),some (.d (.tup (ps.map dP))),some (.d (dP q)),some (.d (dP r))]=.ok (!(ju v w q r && ju v w r q)):=Mg (mw (lF (c4 rfl rfl rfl rfl h1))) (mw (lF (c4 rfl rfl rfl rfl h2)))
    rw [Sw,Vq]
    unfold fH
    show Wp ((bS _ _ _ [some (.d (.dct (gX v) (gY v))),some (.d (.dct (gX w) (gY w))),some (.d (.tup (ps.map dP))),some (.d (dP q)),some (.d (dP r))]) >>= _) _
    cases hc:(ju v w q r && ju v w r q) with
    | true=>
     rw [hc] at ht
     rw [zL ht]
     exact ih (λp hp=>hr p (Sd _ hp)) _
    | false=>
     rw [hc] at ht
     rw [v5 ht]
     exact ⟨_,rfl,.inr ⟨rfl,rfl⟩⟩
  refine (key ps hp none).mono ?_
  rintro o (⟨⟨e,rfl⟩,h⟩ | ⟨rfl,h⟩)
  ·refine bP rfl rfl ?_
   unfold gb
   rw [hl,h]
   rfl
  ·show O.rt _=_
   unfold gb
   rw [h,Vx]
 refine cH ?_
 cases q':ps.getLast? with
 | none=>
  have:ps=[]:=Yb.mp q'
  subst this
  exact dM (ni rfl) (loop rfl)
 | some l=>
  obtain ⟨rs,rfl⟩:∃rs,ps=rs++[l]:=by
   rcases UX ps with rfl | ⟨ys,y,rfl⟩
   ·cases q'
   ·rw [UY] at q' ⊢
    rw [Zw] at q'
    cases q'
    exact ⟨ys,rfl⟩
  have hix:aZ (.d (.tup ((rs++[l]).map dP))) (.d (.int (-1)))=.ok (.d (dP l)):=by rw [SM];exact JA _ _
  have ht:jC (p6 (af 2)) (bC (g2 zE (af 3) (g2 aZ (af 2) (Gg (gC (.int 1)))))) [some (.d (.dct (gX v) (gY v))),some (.d (.dct (gX w) (gY w))),some (.d (.tup ((rs++[l]).map dP))),some (.d (dP q)),none]=.ok (sA q l):=by
   refine iL ?_ (wJ (two rfl (two rfl rfl hix) (Px q l)))
   show M.ok (!((rs++[l]).map dP).isEmpty)=_
   simp
  cases hc:sA q l with
  | true=>
   rw [hc] at ht
   refine cu (gA ht (bP rfl rfl ?_))
   show O.rt _=_
   unfold gb
   rw [q']
   simp [hc]
  | false=>
   rw [hc] at ht
   exact dM ht (loop (by rw [q'];simp [hc]))
section
variable {env:Ev}{Q:O->Prop}{g:G R}{t:G O}{r:R}{i:Nat}
theorem Im {xs ys:List D}(h0:env[i]?=some (some (.own xs))) (h:g env=.ok r) (h2:iM r=.ok ys) (hl:xs.length + ys.length<=16777216) (k:Q (.nx (env.set i (some (.own (xs++ys)))))):Wp (p5 i g env) Q:=by
 refine ⟨_,?_,k⟩
 unfold p5
 rw [h0]
 show (g env >>= _)=_
 rw [h,aP,h2,aP,if_pos (by rw [Ud];exact hl)]
theorem LW (h:g env=.ok r) (k:Q (.nx env)):Wp (lZ g env) Q:=⟨.nx env,by show (g env >>= _)=_;rw [h];rfl,k⟩
theorem FG {d:D}(h:env[i]?=some (some (.d d))) (k:Wp (t env) Q):Wp (fW i t env) Q:=by
 have:fW i t env=t env:=by unfold fW;rw [h]
 rw [this];exact k
theorem Nc (h:env[i]?=some none) (k:Wp (t env) Q):Wp (fW i t env) Q:=by
 have:fW i t env=t env:=by unfold fW;rw [h]
 rw [this];exact k
end
structure Pr (v w:Wd):Prop where
 vo:ng v
 wo:ng w
 v4:v.m<=4
 w4:w.m<=4
 mn:v.ms.map Tr=w.ms.map Tr
 an:v.ar.map Tr=w.ar.map Tr
def jK (u:Wd):D:=.tup [.tup ((u.ms.map Tr).map .str),.tup ((u.ar.map Tr).map .str)]
theorem yR (u:Wd) (hu:ng u):i6 [.d u.d]=.ok (.d (jK u)):=by
 have ml:=hu.ml
 have al:=hu.al
 refine cH (u_ rfl rfl rfl (bP (bx (aJ (n1 (kr (xs:=u.ms) (λr=>.str r.1) (λr=>.tup (r.2.map dN)) (λr=>.str r.1) rfl (by omega) λr _=>⟨_,rfl,rfl⟩) rfl) rfl (aJ (n1 (kr (xs:=u.ar) (λr=>.str r.1) (λr=>.tup (r.2.map dP)) (λr=>.str r.1) rfl (by omega) λr _=>⟨_,rfl,rfl⟩) rfl) rfl br)) t2) rfl ?_))
 unfold jK
 rw [SN,SN]
 rfl
theorem BV (u:Wd):dep (jK u)<=60:=by
 have h:∀ss:List Str,deps (ss.map D.str)<=0:=λss=>gq λx hx=>by obtain ⟨r,_,rfl⟩:=Sb.mp hx;exact SJ _
 have h1:=h (u.ms.map Tr)
 have h2:=h (u.ar.map Tr)
 unfold jK
 simp only [dep,deps]
 omega
theorem A6 {v w:Wd}(t:Pr v w):gj [.d v.d,.d w.d]=.ok (.d .non):=by
 have ht:iZ [.d v.d,.d w.d]=.ok (.d .non):=by
  refine vz (qi (dB (b:=false) (c1 rfl (yR v t.vo)) (c1 rfl (yR w t.wo)) ?_) (jD ⟨_,rfl⟩))
  show cL true (.d (jK v)) (.d (jK w))=_
  rw [lU true (.d (jK v)) (.d (jK w)) (BV v) (BV w)]
  have e:jK v=jK w:=by unfold jK;rw [t.mn,t.an]
  show M.ok (R.d (.bl (!bu (jK v) (jK w))))=_
  rw [e,gF]
  rfl
 have hf:fU [.d (.tup [v.d,w.d])]=.ok (.d .non):=by
  have v4:=t.v4
  have w4:=t.w4
  have one:∀(u:Wd),u.m<=4->bC (g2 (jS λi j=>.bl (decide (j < i))) (g2 aZ (af 1) (gC (.int 0))) (gC (.int 4))) [some (.d (.tup [v.d,w.d])),some (.d u.d)]=.ok false:=λu hu=>by
   refine dB (two rfl rfl (f9 _ _)) rfl ?_
   show M.ok (R.d (.bl (decide ((4:Int) < (u.m:Int)))))=_
   rw [decide_eq_false (by omega)]
  refine vz (qS (ds:=[v.d,w.d]) rfl (qL (λk env=>∃x,env=[some (.d (.tup [v.d,w.d])),x]) [v.d,w.d] ⟨none,rfl⟩ ?_ λe _=>⟨e,rfl⟩))
  rintro k hk _ ⟨x,rfl⟩
  match k,hk with
  | 0,_=>exact ⟨_,rfl,qi (one v v4) (jD ⟨_,rfl,_,rfl⟩)⟩
  | 1,_=>exact ⟨_,rfl,qi (one w w4) (jD ⟨_,rfl,_,rfl⟩)⟩
 refine vz (qQ (c2 rfl rfl ht) ?_)
 exact LW (c1 (bx (aJ rfl rfl (aJ rfl rfl br)) t2) hf) ⟨_,rfl⟩
theorem Nd (d:Nat) (hd:d<=4):K55.jM [.d (.int d),.d (.int 0),.d (.int 4)]=.ok (.d .non):=by
 refine vz (qi ?_ (jD ⟨_,rfl⟩))
 show (if decide ((d:Int) < 0)=true then M.ok true else M.ok (decide ((4:Int) < d)))=M.ok false
 rw [decide_eq_false (show ¬(d:Int) < 0 by omega),decide_eq_false (show ¬(4:Int) < d by omega)]
 rfl
def prs (v w:Wd):List (Nat×Nat):=(d7 v.m w.m).filter λp=>ju v w p p
noncomputable def LG (v w:Wd):Nat->List (List (Nat×Nat))
 | 0=>[[]]
 | j + 1=>(LG v w j).flatMap λah=>((prs v w).filter (gb v w ah)).map λq=>ah++[q]
noncomputable def told (v w:Wd):Nat->List (List (Nat×Nat))
 | 0=>[[]]
 | j + 1=>told v w j++LG v w (j + 1)
abbrev a_ (ps:List (Nat×Nat)):D:=.tup (ps.map dP)
theorem E7 {v w:Wd}{p:Nat×Nat}(h:p∈prs v w):pM v w p:=oJ.mp (Te.mp h).1
theorem qY {v w:Wd}(t:Pr v w):(prs v w).length<=16:=by
 have h1:=Tp (λp=>ju v w p p) (d7 v.m w.m)
 rw [GA] at h1
 have h2:=W8 t.v4 t.w4
 unfold prs
 omega
theorem tN {v w:Wd}:∀(j:Nat){ps:List (Nat×Nat)},ps∈LG v w j->ps.length=j/\∀p∈ps,pM v w p
 | 0,ps,h=>by
  rw [show ps=[] from Ss.mp h]
  exact ⟨rfl,λ_ h=>by cases h⟩
 | j + 1,ps,h=>by
  obtain ⟨ah,h1,h2⟩:=V2.mp h
  obtain ⟨q,h3,rfl⟩:=Sb.mp h2
  obtain ⟨l,k⟩:=tN j h1
  refine ⟨by rw [SI,l];rfl,λp hp=>?_⟩
  rcases S0.mp hp with h | h
  ·exact k p h
  ·rw [Ss.mp h];exact E7 (Te.mp h3).1
theorem oA {α β:Type}(f:α->List β) (n:Nat):∀(xs:List α),(∀x∈xs,(f x).length<=n)->(xs.flatMap f).length<=xs.length * n
 | [],_=>by simp
 | x::xs,h=>by
  have h1:=h x Se
  have h2:=oA f n xs λy hy=>h y (Sd _ hy)
  rw [List.flatMap_cons,SI,T6,abx]
  omega
theorem tP {v w:Wd}(t:Pr v w):∀j,(LG v w j).length<=16 ^ j
 | 0=>Sj _
 | j + 1=>by
  have h:=oA (λah=>((prs v w).filter (gb v w ah)).map λq=>ah++[q]) 16 (LG v w j) λah _=>by
   rw [Sa]
   exact S7 (Tp _ _) (qY t)
  have h2:=VC 16 (tP t j)
  rw [Zc]
  exact S7 h h2
theorem tG {v w:Wd}(t:Pr v w):∀j,j<=4->(told v w j).length<=(j + 1) * 65536
 | 0,_=>by show 1<=_;omega
 | j + 1,h=>by
  have h1:=tG t j (by omega)
  have h2:=tP t (j + 1)
  have h3:(16:Nat) ^ (j + 1)<=16 ^ 4:=UK (by decide) h
  have h4:(16:Nat) ^ 4=65536:=by decide
  show (told v w j++LG v w (j + 1)).length<=_
  rw [SI]
  omega
theorem rC {v w:Wd}:∀(n:Nat){ps:List (Nat×Nat)},ps∈told v w n↔∃j,j<=n/\ps∈LG v w j
 | 0,ps=>by
  constructor
  ·exact λh=>⟨0,Sj _,h⟩
  ·rintro ⟨j,hj,h⟩
   have:j=0:=by omega
   subst this
   exact h
 | n + 1,ps=>by
  show ps∈told v w n++LG v w (n + 1)↔_
  rw [S0,rC n]
  constructor
  ·rintro (⟨j,hj,h⟩ | h)
   ·exact ⟨j,by omega,h⟩
   ·exact ⟨n + 1,Sj _,h⟩
  ·rintro ⟨j,hj,h⟩
   by_cases c:j=n + 1
   ·subst c;exact .inr h
   ·exact .inl ⟨j,by omega,h⟩
theorem B6 {v w:Wd}(t:Pr v w) (n:Nat) (hn:n<=4):lJ [.d v.d,.d w.d,.d (.int n)]=.ok (.l .fresh ((told v w n).map a_)):=by
 have v4:=t.v4
 have w4:=t.w4
 refine cH (qQ (c2 rfl rfl (A6 t)) (qQ (c3 rfl rfl rfl (Nd n hn)) (bB (c1 rfl (A7 v t.vo)) rfl (bB (c1 rfl (A7 w t.wo)) rfl ?_))))
 have hp:jT 2 [1,3,4] (cg (aq (g2 aZ (af 0) (gC (.int 0))) aG)) (aA 0) cI (cg (aq (g2 aZ (af 2) (gC (.int 0))) aG)) (aA 1) (bC (gN (aQ 4 K23.fj) (aq (af 3) (aq (af 4) (aq (bD (aC (af 0) (aC (af 1) aV))) (aq (bD (aC (af 0) (aC (af 1) aV))) aG)))))) (bD (aC (af 0) (aC (af 1) aV)))
   [some (.d v.d),some (.d w.d),some (.d (.int n)),some (.d (.dct (gX v) (gY v))),some (.d (.dct (gX w) (gY w))),none,none,none,none]=.ok (.l .fresh ((prs v w).map dP)):=by
  refine (yz (xs:=Sh v.m) (h:=dN) (h':=dN) (λ_=>Sh w.m) (λa b=>ju v w (a,b) (a,b)) (λa b=>dP (a,b)) (jj (eG (two rfl rfl (f9 _ _))) (by omega)) (by simp;omega) λa ha=>⟨by simp;omega,λz=>jj (eG (two rfl rfl (f9 _ _))) (by omega),λb hb=>⟨?_,λ_=>Bd (bx (aJ rfl rfl (aJ rfl rfl br)) t2) rfl⟩⟩).trans ?_
  ·have ha:a < v.m:=by simpa using ha
   have hb:b < w.m:=by simpa using hb
   exact lF (c4 rfl rfl (bx (aJ rfl rfl (aJ rfl rfl br)) t2) (bx (aJ rfl rfl (aJ rfl rfl br)) t2) (vC v w (a,b) (a,b) ⟨ha,hb⟩ ⟨ha,hb⟩))
  ·have e:((Sh v.m).flatMap λa=>((Sh w.m).filter λb=>ju v w (a,b) (a,b)).map λb=>dP (a,b))=(prs v w).map dP:=by
    unfold prs d7
    rw [List.filter_flatMap,Xp]
    congr 1
    funext a
    rw [abA,SN]
    rfl
   rw [e]
 refine bB hp rfl ?_
 refine cu (vA rfl (fu (nI (aJ (bx br (by decide)) rfl br) (by show 1<=1000;decide)) rfl ?_))
 refine bB (nI (aJ (bx br (by decide)) rfl br) (by show 1<=1000;decide)) rfl ?_
 refine jP (qy (n:=n) rfl (by omega)) ?_
 refine o9 (λk env=>∃x:Option S,env=[some (.d v.d),some (.d w.d),some (.d (.int n)),some (.d (.dct (gX v) (gY v))),some (.d (.dct (gX w) (gY w))),some (.d (.lst ((prs v w).map dP))),some (.own ((LG v w k).map a_)),some (.own ((told v w k).map a_)),x]) ⟨none,rfl⟩ ?_ ?_
 ·rintro k hk _ ⟨x,rfl⟩
  have l1:=tP t k
  have l2:=tP t (k + 1)
  have l3:=tG t k (by omega)
  have p1:(16:Nat) ^ k<=16 ^ 3:=UK (by decide) (by omega)
  have p2:(16:Nat) ^ (k + 1)<=16 ^ 4:=UK (by decide) (by omega)
  have p3:(16:Nat) ^ 3=4096:=by decide
  have p4:(16:Nat) ^ 4=65536:=by decide
  refine ⟨_,rfl,cu (FG rfl (fu (r:=.l .fresh ((LG v w (k + 1)).map a_)) ?_ rfl (Im rfl rfl rfl (by simp only [Sa];omega) ⟨_,rfl,some (.d (.int k)),?_⟩)))⟩
  ·refine (yz (xs:=LG v w k) (h:=a_) (h':=dP) (λ_=>prs v w) (λah q=>gb v w ah q) (λah q=>a_ (ah++[q])) rfl (by omega) λah Ri=>⟨by have:=qY t;omega,λz=>rfl,λq hq=>⟨?_,λ_=>Bd (two rfl (bx (aJ rfl rfl br) (by show 1<=1000;decide)) (rB _ _ ?_)) ?_⟩⟩).trans ?_
   ·exact lF (c4 rfl rfl rfl rfl (Oq v w ah q (tN k Ri).2 (E7 hq)))
   ·have:=(tN k Ri).1
    simp;omega
   ·show M.ok (D.tup (ah.map dP++[dP q]))=M.ok (D.tup ((ah++[q]).map dP))
    rw [SM]
    rfl
   ·show M.ok (R.l .fresh _)=_
    show _=M.ok (R.l .fresh (((LG v w k).flatMap λah=>((prs v w).filter (gb v w ah)).map λq=>ah++[q]).map a_))
    rw [Xp]
    simp only [SN]
    rfl
  ·show _=[_,_,_,_,_,_,_,some (S.own ((told v w k++LG v w (k + 1)).map a_)),_]
   rw [SM]
   rfl
 ·rintro _ ⟨x,rfl⟩
  exact bP rfl rfl rfl
theorem allM {α:Type}(f:α->Bool) (xs:List α):oz [.l .fresh (xs.map λx=>.bl (f x))]=.ok (.d (.bl (xs.all f))):=by
 have:=all_map (λd=>match d with
  | .bl b=>b
  | _=>false) (xs.map λx=>.bl (f x))
 rw [SN,Y8] at this
 exact this
theorem wM:gP [.d .non]=.ok (.d (a_ [])):=rfl
theorem zA:∀{xs ys:List Bool},cB (xs.map D.bl) (ys.map D.bl)=true↔xs=ys
 | [],[]=>by simp [cB]
 | [],_::_=>by simp [cB]
 | _::_,[]=>by simp [cB]
 | x::xs,y::ys=>by
  rw [Sw,Sw,gR,Sf,zA]
  simp [bu]
structure wL (v w:Wd) (p q:Nat×Nat):Prop where
 eq:p.1=q.1↔p.2=q.2
 ms:v.ms.map (λr=>decide (p.1∈r.2))=w.ms.map λr=>decide (p.2∈r.2)
 ar:v.ar.map (λr=>decide ((p.1,q.1)∈r.2))=w.ar.map λr=>decide ((p.2,q.2)∈r.2)
theorem nh (v w:Wd) (p q:Nat×Nat):ju v w p q=true↔wL v w p q:=by
 have e:ju v w p q=((p.1 == q.1) == (p.2 == q.2) && (cB ((v.ms.map λr=>decide (p.1∈r.2)).map D.bl) ((w.ms.map λr=>decide (p.2∈r.2)).map D.bl) && (cB ((v.ar.map λr=>decide ((p.1,q.1)∈r.2)).map D.bl) ((w.ar.map λr=>decide ((p.2,q.2)∈r.2)).map D.bl) && true))):=by
  unfold ju eX
  rw [kI,gR,gR,gR,kI,kI,cB]
  simp only [K55.inN,K55.Ij,SN,K55.rY]
  rfl
 rw [e,Sf,Sf,Sf,zA,zA]
 have e1:((p.1 == q.1) == (p.2 == q.2))=true↔(p.1=q.1↔p.2=q.2):=by
  rw [beq_iff_eq,Ui,beq_iff_eq,beq_iff_eq]
 rw [e1]
 exact ⟨λ⟨a,b,c,_⟩=>⟨a,b,c⟩,λ⟨a,b,c⟩=>⟨a,b,c,rfl⟩⟩
theorem LZ {p q:Nat×Nat}(h:sA p q=false):q.1 < p.1\/(q.1=p.1/\q.2 < p.2):=by
 unfold sA at h
 rw [kD] at h
 by_cases c:(p.1:Int)=q.1
 ·rw [if_pos c,kD] at h
  by_cases c2:(p.2:Int)=q.2
  ·rw [if_pos c2,pG] at h;cases h
  ·rw [if_neg c2,decide_eq_false_iff_not] at h
   exact .inr ⟨by omega,by omega⟩
 ·rw [if_neg c,decide_eq_false_iff_not] at h
  exact .inl (by omega)
theorem LX {p q:Nat×Nat}(h:q.1 < p.1):sA p q=false:=by
 unfold sA
 rw [kD,if_neg (by omega),decide_eq_false_iff_not]
 omega
structure Good (v w:Wd) (ps:List (Nat×Nat)):Prop where
 up:ps.Pairwise λp q=>p.1 < q.1
 ag:∀p∈ps,∀q∈ps,wL v w p q
 rg:∀p∈ps,pM v w p
theorem wc {α:Type}{ps:List α}{l:α}(h:ps.getLast?=some l):∃rs,ps=rs++[l]:=by
 rcases UX ps with rfl | ⟨ys,y,rfl⟩
 ·cases h
 ·rw [UY] at h ⊢
  rw [Zw] at h
  cases h
  exact ⟨ys,rfl⟩
theorem BE {v w:Wd}{p:Nat×Nat}:p∈prs v w↔pM v w p/\wL v w p p:=by
 unfold prs
 rw [Te,oJ,nh]
 exact adB
theorem Ew {v w:Wd}{ps:List (Nat×Nat)}(g:Good v w ps){q:Nat×Nat}(hq:q∈prs v w):gb v w ps q=true↔Good v w (ps++[q]):=by
 obtain ⟨h1,h2⟩:=BE.mp hq
 unfold gb
 rw [Sf,SW]
 constructor
 ·rintro ⟨a,b⟩
  have ag:∀r∈ps,wL v w q r/\wL v w r q:=λr hr=>by
   have:=b r hr
   rw [Sf,nh,nh] at this
   exact this
  have lt:∀r∈ps,r.1 < q.1:=by
   cases e:ps.getLast? with
   | none=>rw [Yb.mp e];exact λ_ h=>by cases h
   | some l=>
    rw [e] at a
    have hl:l.1 < q.1:=by
     obtain ⟨rs,rfl⟩:=wc e
     rcases LZ (by simpa using a) with h | ⟨h,h'⟩
     ·exact h
     ·have:=(ag l (by simp)).1.eq
      omega
    obtain ⟨rs,rfl⟩:=wc e
    intro r hr
    rcases S0.mp hr with h | h
    ·have:=(VB.mp g.up).2.2 r h l (by simp)
     omega
    ·rw [Ss.mp h];exact hl
  refine ⟨VB.mpr ⟨g.up,Vc _ _,λr hr x hx=>by rw [Ss.mp hx];exact lt r hr⟩,λr hr x hx=>?_,λr hr=>?_⟩
  ·rcases S0.mp hr with hr | hr <;> rcases S0.mp hx with hx | hx
   ·exact g.ag r hr x hx
   ·rw [Ss.mp hx];exact (ag r hr).2
   ·rw [Ss.mp hr];exact (ag x hx).1
   ·rw [Ss.mp hr,Ss.mp hx];exact h2
  ·rcases S0.mp hr with hr | hr
   ·exact g.rg r hr
   ·rw [Ss.mp hr];exact h1
 ·intro h
  refine ⟨?_,λr hr=>?_⟩
  ·cases e:ps.getLast? with
   | none=>rfl
   | some l=>
    have hl:l∈ps:=by obtain ⟨rs,rfl⟩:=wc e;simp
    have:=(VB.mp h.up).2.2 l hl q (by simp)
    show (!sA q l)=true
    rw [LX this]
    rfl
  ·rw [Sf,nh,nh]
   exact ⟨h.ag q (by simp) r (by simp [hr]),h.ag r (by simp [hr]) q (by simp)⟩
theorem ql {v w:Wd}:∀(j:Nat){ps:List (Nat×Nat)},ps∈LG v w j↔ps.length=j/\Good v w ps
 | 0,ps=>by
  constructor
  ·intro h
   rw [show ps=[] from Ss.mp h]
   exact ⟨rfl,.nil,(λ_ h=>nomatch h),(λ_ h=>nomatch h)⟩
  ·rintro ⟨h,_⟩
   rw [UI.mp h]
   exact Ss.mpr rfl
 | j + 1,ps=>by
  constructor
  ·intro h
   obtain ⟨ah,h1,h2⟩:=V2.mp h
   obtain ⟨q,h3,rfl⟩:=Sb.mp h2
   obtain ⟨l,g⟩:=(ql j).mp h1
   obtain ⟨h4,h5⟩:=Te.mp h3
   exact ⟨by rw [SI,l];rfl,(Ew g h4).mp h5⟩
  ·rintro ⟨h,g⟩
   rcases UX ps with rfl | ⟨ah,q,rfl⟩
   ·cases h
   ·rw [UY] at h g ⊢
    have ga:Good v w ah:=⟨(VB.mp g.up).1,λp hp x hx=>g.ag p (by simp [hp]) x (by simp [hx]),λp hp=>g.rg p (by simp [hp])⟩
    have hq:q∈prs v w:=BE.mpr ⟨g.rg q (by simp),g.ag q (by simp) q (by simp)⟩
    exact V2.mpr ⟨ah,(ql j).mpr ⟨by simpa using h,ga⟩,Sb.mpr ⟨q,Te.mpr ⟨hq,(Ew ga hq).mpr g⟩,rfl⟩⟩
theorem HE {l:List Nat}{m:Nat}(hu:l.Pairwise (· < ·)) (hl:l.length=m) (hm:∀x∈l,x < m):l=Sh m:=by
 have st:=T_.mp hu
 have lo:∀k (hk:k < l.length),k<=l[k]:=by
  intro k
  induction k with
  | zero=>intro _;exact SJ _
  | succ k ih=>
   intro hk
   have:=st k (k + 1) (by omega) hk (by omega)
   have:=ih (by omega)
   omega
 have hi:∀d k (hk:k < l.length),l.length - 1 - k=d->l[k]<=k:=by
  intro d
  induction d with
  | zero=>
   intro k hk e
   have:=hm l[k] (SK hk)
   omega
  | succ d ih=>
   intro k hk e
   have h1:=ih (k + 1) (by omega) (by omega)
   have h2:=st k (k + 1) hk (by omega) (by omega)
   omega
 refine UN (by simp [hl]) λk h1 h2=>?_
 rw [X5]
 exact Nat.le_antisymm (hi _ k h1 rfl) (lo k h1)
structure rJ (v w:Wd) (σ:List Nat):Prop where
 len:σ.length=v.m
 rg:∀y∈σ,y < v.m
 nd:σ.Nodup
 ms:∀k (hk:k < σ.length),v.ms.map (λr=>decide (k∈r.2))=w.ms.map λr=>decide (σ[k]∈r.2)
 ar:∀j k (hj:j < σ.length) (hk:k < σ.length),v.ar.map (λr=>decide ((j,k)∈r.2))=w.ar.map λr=>decide ((σ[j],σ[k])∈r.2)
def jr (σ:List Nat):List (Nat×Nat):=(Sh σ.length).zip σ
theorem B3 {σ:List Nat}{k:Nat}(hk:k < σ.length):(jr σ)[k]?=some (k,σ[k]):=by
 unfold jr
 rw [Wt]
 exact ⟨by simp [hk],by simp [hk]⟩
theorem gJ {σ:List Nat}{p:Nat×Nat}:p∈jr σ↔∃hk:p.1 < σ.length,σ[p.1]=p.2:=by
 constructor
 ·intro h
  obtain ⟨k,hk,e⟩:=TL.mp h
  have hk':k < σ.length:=by simpa [jr] using hk
  have:=B3 hk'
  rw [Si hk,e] at this
  cases this
  exact ⟨hk',rfl⟩
 ·rintro ⟨hk,e⟩
  have:=B3 hk
  rw [e] at this
  exact Ub this
theorem zN {v w:Wd}(hm:w.m=v.m){σ:List Nat}(i:rJ v w σ):Good v w (jr σ):=by
 refine ⟨?_,λp hp q hq=>?_,λp hp=>?_⟩
 ·have h:((jr σ).map Tr).Pairwise (· < ·):=by
   unfold jr
   rw [List.map_fst_zip (by simp)]
   exact Vj
  exact S9.mp h
 ·obtain ⟨h1,e1⟩:=gJ.mp hp
  obtain ⟨h2,e2⟩:=gJ.mp hq
  refine ⟨⟨λe=>?_,λe=>?_⟩,?_,?_⟩
  ·rw [<-e1,<-e2];simp only [e]
  ·rw [<-e1,<-e2] at e
   exact (Xj i.nd).mp e
  ·rw [<-e1];exact i.ms p.1 h1
  ·rw [<-e1,<-e2];exact i.ar p.1 q.1 h1 h2
 ·obtain ⟨h1,e1⟩:=gJ.mp hp
  refine ⟨by rw [<-i.len];exact h1,?_⟩
  rw [hm,<-e1]
  exact i.rg _ (SK h1)
theorem zJ {v w:Wd}(hm:w.m=v.m){ps:List (Nat×Nat)}(g:Good v w ps) (hl:ps.length=v.m):ps=jr (ps.map Xa)/\rJ v w (ps.map Xa):=by
 have f:ps.map Tr=Sh v.m:=HE (S9.mpr g.up) (by rw [Sa,hl]) λx hx=>by
  obtain ⟨p,hp,rfl⟩:=Sb.mp hx
  exact (g.rg p hp).1
 have at_:∀k (hk:k < ps.length),ps[k]=(k,(ps.map Xa)[k]'(by rw [Sa];exact hk)):=λk hk=>by
  have h1:(ps.map Tr)[k]?=some ps[k].1:=by rw [Sv,Si hk];rfl
  rw [f,Wx (by omega)] at h1
  rw [U8]
  exact Yt (Tf h1).symm rfl
 refine ⟨?_,⟨by rw [Sa,hl],λy hy=>?_,?_,λk hk=>?_,λj k hj hk=>?_⟩⟩
 ·unfold jr
  rw [Sa,hl,<-f]
  refine UN (by simp) λk h1 h2=>?_
  simp
 ·obtain ⟨p,hp,rfl⟩:=Sb.mp hy
  rw [<-hm]
  exact (g.rg p hp).2
 ·refine S9.mpr ((UW.mp g.up).imp ?_)
  rintro p q ⟨hp,hq,h⟩ e
  have:=(g.ag p hp q hq).eq
  omega
 ·have hk':k < ps.length:=by rw [Sa] at hk;exact hk
  have h:=(g.ag ps[k] (SK hk') ps[k] (SK hk')).ms
  have e1:=congrArg Tr (at_ k hk')
  have e2:=congrArg Xa (at_ k hk')
  rw [e1,e2] at h
  exact h
 ·have hk':k < ps.length:=by rw [Sa] at hk;exact hk
  have hj':j < ps.length:=by rw [Sa] at hj;exact hj
  have h:=(g.ag ps[j] (SK hj') ps[k] (SK hk')).ar
  have e1:=congrArg Tr (at_ k hk')
  have e2:=congrArg Xa (at_ k hk')
  have e3:=congrArg Tr (at_ j hj')
  have e4:=congrArg Xa (at_ j hj')
  rw [e1,e2,e3,e4] at h
  exact h
theorem yI (a b:Nat):d9 (dN a) (dN b)=true↔a < b:=by
 rw [nJ,decide_eq_true_eq]
 omega
theorem yJ (a b:Nat×Nat):d9 (dP a) (dP b)=true↔iP a b:=by
 have e:d9 (dP a) (dP b)=g_ [dN a.1,dN a.2] [dN b.1,dN b.2]:=rfl
 rw [e,jE,K55.rY]
 unfold iP
 by_cases c:a.1=b.1
 ·rw [if_pos (by simpa using c),jE,K55.rY]
  by_cases c2:a.2=b.2
  ·rw [if_pos (by simpa using c2)]
   constructor
   ·intro h;cases h
   ·intro h;omega
  ·rw [if_neg (by simpa using c2)]
   rw [show d9 (D.int a.2) (D.int b.2)=d9 (dN a.2) (dN b.2) from rfl,yI]
   omega
 ·rw [if_neg (by simpa using c)]
  rw [show d9 (D.int a.1) (D.int b.1)=d9 (dN a.1) (dN b.1) from rfl,yI]
  omega
theorem vt {α:Type}(h:α->D) (u:D->α) (hu:∀x,u (h x)=x) (R:α->α->Prop) (hR:∀a b,d9 (h a) (h b)=true->R a b){l:List D}(hl:∀d∈l,∃x,d=h x) (up:l.Pairwise λa b=>d9 a b=true):(l.map u).Pairwise R:=by
 refine S9.mpr ((UW.mp up).imp ?_)
 rintro a b ⟨ha,hb,h1⟩
 obtain ⟨x,rfl⟩:=hl a ha
 obtain ⟨y,rfl⟩:=hl b hb
 rw [hu,hu]
 exact hR x y h1
theorem OX (xs:List Nat) (hl:xs.length < 64):∃ys:List Nat,f7 [.d (.tup (xs.map dN))]=.ok (.l .fresh (ys.map dN))/\ys.length<=xs.length/\(∀y∈ys,y∈xs)/\ys.Pairwise (· < ·):=by
 have tot:∀d∈xs.map dN,iy .i d:=λd hd=>by obtain ⟨x,_,rfl⟩:=Sb.mp hd;exact ⟨_,rfl⟩
 obtain ⟨h1,h2⟩:=mJ (eE .i) tot
 have fm:∀d∈cY (xs.map dN),∃x,d=dN x:=λd hd=>by obtain ⟨x,_,rfl⟩:=Sb.mp (h2 d hd);exact ⟨x,rfl⟩
 refine ⟨(cY (xs.map dN)).map jm,?_,by simpa using h1,λy hy=>?_,vt dN jm o7 _ (λa b h=>(yI a b).mp h) fm (lE (eE .i) tot).1⟩
 ·rw [OZ xs hl,back dN jm o7 fm]
 ·obtain ⟨d,hd,rfl⟩:=Sb.mp hy
  obtain ⟨x,hx,rfl⟩:=Sb.mp (h2 d hd)
  exact hx
theorem OY (xs:List (Nat×Nat)) (hl:xs.length < 64):∃ys:List (Nat×Nat),f7 [.d (.tup (xs.map dP))]=.ok (.l .fresh (ys.map dP))/\ys.length<=xs.length/\(∀y∈ys,y∈xs)/\ys.Pairwise iP:=by
 have tot:∀d∈xs.map dP,iy pF d:=λd hd=>by obtain ⟨x,_,rfl⟩:=Sb.mp hd;exact nC x
 obtain ⟨h1,h2⟩:=mJ (eE pF) tot
 have fm:∀d∈cY (xs.map dP),∃x,d=dP x:=λd hd=>by obtain ⟨x,_,rfl⟩:=Sb.mp (h2 d hd);exact ⟨x,rfl⟩
 refine ⟨(cY (xs.map dP)).map iU,?_,by simpa using h1,λy hy=>?_,vt dP iU jo _ (λa b h=>(yJ a b).mp h) fm (lE (eE pF) tot).1⟩
 ·rw [Hu xs hl,back dP iU jo fm]
 ·obtain ⟨d,hd,rfl⟩:=Sb.mp hy
  obtain ⟨x,hx,rfl⟩:=Sb.mp (h2 d hd)
  exact hx
theorem uC {α:Type}(h:α->D) (P:α->Prop) (Sr:List α->Prop) (hf:∀xs p,Sr xs->Sr (xs.filter p)) (n:Nat) (hn:n<=40) (hd:∀x,dep (h x)<=1) (b:Bool) (hb:∀x,qK (lG (h x)) "tuple"=b)
  (hs:∀xs:List α,xs.length < 64->∃ys:List α,f7 [.d (.tup (xs.map h))]=.ok (.l .fresh (ys.map h))/\ys.length<=xs.length/\(∀y∈ys,y∈xs)/\Sr ys)
  (L:List (Str×List α)) (hL:DO P n L) (hS:∀r∈L,Sr r.2) (l3:L.length<=3) (k:Nat) (hk:k < L.length) (th:α) (ht:P th) (w c:Option S) (m:D) (ms ar:D):
  ∃L':List (Str×List α),DO P (n + 1) L'/\(∀r∈L',Sr r.2)/\L'.map Tr=L.map Tr/\L'.length=L.length/\NN [w,c,some (.d m),some (.d ms),some (.d ar),some (.d (.int k)),some (.d (h th)),some (.d (.tup (L.map (dG h)))),none,none,none]=.ok (.rt (.d (if b=true then .tup [m,ms,.tup (L'.map (dG h))] else .tup [m,.tup (L'.map (dG h)),ar]))):=by
 obtain ⟨a1,a2⟩:=hL.all L[k] (SK hk)
 obtain ⟨ys,e1,e2,e3,e4⟩:=hs (L[k].2++[th]) (by simp;omega)
 rw [SI] at e2
 have e2:ys.length<=n + 1:=by simp at e2;omega
 have e3:∀y∈ys,P y:=λy hy=>by
  rcases S0.mp (e3 y hy) with h | h
  ·exact a2 y h
  ·rw [Ss.mp h];exact ht
 have dp:deps (L[k].2.map h)<=60:=gq λd hd'=>by
  obtain ⟨x,_,rfl⟩:=Sb.mp hd'
  have:=hd x;omega
 have dt:=hd th
 have nx:∃now:List α,now.length<=n + 1/\(∀y∈now,P y)/\Sr now/\∀(Q:O->Prop) (u:G O),Wp (u [w,c,some (.d m),some (.d ms),some (.d ar),some (.d (.int k)),some (.d (h th)),some (.d (.tup (L.map (dG h)))),some (.d (.str L[k].1)),some (.d (.tup (L[k].2.map h))),some (.d (.tup (now.map h)))]) Q->
   Wp (aM (bS (bC (g2 (ie false) (af 6) (af 9))) (bg 10 (gN cS (aq (bK 1 [6] (eY (af 9)) (aA 0) (bC (g2 (cL true) (af 0) (af 1))) (af 0)) aG))) dJ) u [w,c,some (.d m),some (.d ms),some (.d ar),some (.d (.int k)),some (.d (h th)),some (.d (.tup (L.map (dG h)))),some (.d (.str L[k].1)),some (.d (.tup (L[k].2.map h))),some (.d (.tup (ys.map h)))]) Q:=by
  have hin:bC (g2 (ie false) (af 6) (af 9)) [w,c,some (.d m),some (.d ms),some (.d ar),some (.d (.int k)),some (.d (h th)),some (.d (.tup (L.map (dG h)))),some (.d (.str L[k].1)),some (.d (.tup (L[k].2.map h))),some (.d (.tup (ys.map h)))]=.ok (inD (h th) (L[k].2.map h)):=by
   show (g2 _ _ _ _ >>= _)=_
   rw [two (x:=.d (h th)) rfl rfl (mj false _ _ dp (by omega))]
   rfl
  cases q:inD (h th) (L[k].2.map h) with
  | true=>
   rw [q] at hin
   refine ⟨L[k].2.filter (λx=>!bu (h x) (h th)),S7 (Tp _ _) (by omega),λy hy=>a2 y (Te.mp hy).1,hf _ _ (hS _ (SK hk)),λQ u hu=>?_⟩
   refine cu (gA hin (fu (n1 (lR (xs:=L[k].2) (h:=h) (λx=>!bu (h x) (h th)) h rfl (by omega) λx _=>⟨?_,λ_=>⟨_,rfl,rfl⟩⟩) rfl) rfl hu))
   have:=hd x
   show (g2 _ _ _ _ >>= _)=_
   rw [two (x:=.d (h x)) (y:=.d (h th)) rfl rfl (lU _ _ _ (by show dep (h x)<=60;omega) (by show dep (h th)<=60;omega))]
   rfl
  | false=>
   rw [q] at hin
   exact ⟨ys,e2,e3,e4,λQ u hu=>dM hin hu⟩
 obtain ⟨now,n1',n2,nS,n3⟩:=nx
 refine ⟨L.take k++[(L[k].1,now)]++L.drop (k + 1),⟨λr hr=>?_⟩,λr hr=>?_,?_,?_,?_⟩
 ·simp only [S0,Ss] at hr
  rcases hr with (hr | hr) | hr
  ·have:=hL.all r (Zx hr)
   exact ⟨by omega,this.2⟩
  ·rw [hr];exact ⟨n1',n2⟩
  ·have:=hL.all r (Zy hr)
   exact ⟨by omega,this.2⟩
 ·simp only [S0,Ss] at hr
  rcases hr with (hr | hr) | hr
  ·exact hS r (Zx hr)
  ·rw [hr];exact nS
  ·exact hS r (Zy hr)
 ·have e:L=L.take k++[L[k]]++L.drop (k + 1):=by
   rw [Wh,Xg,WZ,V8]
  conv=>rhs;rw [e]
  simp only [SM,Sw,Xe]
 ·simp;omega
 ·have ix:aZ (.d (.tup (L.map (dG h)))) (.d (.int k))=.ok (.d (dG h L[k])):=kJ (by rw [Sv,Si hk];rfl)
  have hc1:cR (.d (.tup ((L.map (dG h)).take k))) (.d (.tup [dG h (L[k].1,now)]))=.ok (.d (.tup ((L.map (dG h)).take k++[dG h (L[k].1,now)]))):=rB _ _ (by simp;omega)
  have hc2:cR (.d (.tup ((L.map (dG h)).take k++[dG h (L[k].1,now)]))) (.d (.tup ((L.map (dG h)).drop (k + 1))))=.ok (.d (.tup ((L.map (dG h)).take k++[dG h (L[k].1,now)]++(L.map (dG h)).drop (k + 1)))):=rB _ _ (by simp;omega)
  have hm:(L.map (dG h)).take k++[dG h (L[k].1,now)]++(L.map (dG h)).drop (k + 1)=(L.take k++[(L[k].1,now)]++L.drop (k + 1)).map (dG h):=by
   rw [SM,SM,Xv,Xw];rfl
  rw [hm] at hc2
  refine Wp.eq (u_ (two rfl rfl ix) rfl rfl (bB (n1 (n1 (two rfl (bx (aJ rfl rfl br) (by show 1<=1000;decide)) (rB _ _ (by simp;omega))) (by rw [show L[k].2.map h++[h th]=(L[k].2++[th]).map h by rw [SM];rfl];exact e1)) rfl) rfl (n3 _ _ ?_)))
  refine bB (two (x:=.d (.tup ((L.map (dG h)).take k++[dG h (L[k].1,now)]))) (y:=.d (.tup ((L.map (dG h)).drop (k + 1)))) (two (x:=.d (.tup ((L.map (dG h)).take k))) ?_ (bx (aJ (bx (aJ rfl rfl (aJ rfl rfl br)) t2) rfl br) (by show 1<=1000;decide)) hc1) ?_ hc2) rfl ?_
  ·show M.ok (R.d (.tup (cutD (L.map (dG h)) none (some (k:Int)))))=_
   rw [Ln _ _ (by simp;omega)]
  ·show M.ok (R.d (.tup (cutD (L.map (dG h)) (some ((k:Int) + 1)) none)))=_
   rw [show ((k:Int) + 1)=((k + 1:Nat):Int) by omega,F8 _ _ (by simp;omega)]
  ·have hb':=hb th
   cases b with
   | true=>exact cu (gA (by show M.ok (qK (lG (h th)) "tuple")=_;rw [hb']) (bP (bx (aJ rfl rfl (aJ rfl rfl (aJ rfl rfl br))) (by show 3<=1000;decide)) rfl rfl))
   | false=>exact dM (by show M.ok (qK (lG (h th)) "tuple")=_;rw [hb']) (bP (bx (aJ rfl rfl (aJ rfl rfl (aJ rfl rfl br))) (by show 3<=1000;decide)) rfl rfl)
structure nc (u:Wd):Prop where
 mp:∀r∈u.ms,r.2.Pairwise (· < ·)
 ap:∀r∈u.ar,r.2.Pairwise iP
structure HQ (n:Nat) (w u:Wd):Prop where
 ok:ng u
 inn:jt n u
 qI:nc u
 m:u.m=w.m
 mn:u.ms.map Tr=w.ms.map Tr
 an:u.ar.map Tr=w.ar.map Tr
theorem Cy {α:Type}{l:List α}{j:Nat}(h:j < l.length):(l[j]::l.eraseIdx j).Perm l:=by
 have e2:l=l.take j++l[j]::l.drop (j + 1):=by rw [WZ,V8]
 rw [VO]
 exact YM.symm.trans (abo e2.symm)
theorem FQ (c:Int) (m:Nat) (hm:m<=8):∃ps:List Nat,ia [.d (.int c),.d (.int m)]=.ok (.d (.tup (ps.map dN)))/\ps.Perm (Sh m):=by
 have key:Wp (ia [.d (.int c),.d (.int m)]) λr=>∃ps:List Nat,r=.d (.tup (ps.map dN))/\ps.Perm (Sh m):=by
  refine o8 (bB (r:=.l .fresh ((Sh m).map dN)) ?_ rfl (bB rfl rfl (jP (qy (n:=m) rfl (by omega)) ?_)))
  ·show (if below 16777216 (m:Int) then M.ok (R.l .fresh (eZ 0 (m:Int).toNat)) else .bad)=_
   rw [if_pos (by unfold below;simp;omega),Uk,MT]
  ·refine o9 (λk env=>∃(c:Int) (ls ps:List Nat) (x:Option S),env=[some (.d (.int c)),some (.d (.int m)),some (.own (ls.map dN)),some (.own (ps.map dN)),x]/\ls.length + k=m/\ps.length=k/\(ps++ls).Perm (Sh m)) ⟨c,Sh m,[],none,rfl,by simp,rfl,.refl _⟩ ?_ ?_
   ·rintro k hk _ ⟨c,ls,ps,x,rfl,l1,l2,m1⟩
    have hlen:(0:Int) < ((ls.map dN).length:Nat):=by simp;omega
    obtain ⟨j,hj⟩:∃j:Nat,c % ((ls.map dN).length:Nat)=j:=⟨(c % ((ls.map dN).length:Nat)).toNat,by have:=VM c (b:=((ls.map dN).length:Nat)) (by omega);omega⟩
    have hjl:j < (ls.map dN).length:=by
     have:=U4 c hlen
     omega
    have QJ:j < ls.length:=by simpa using hjl
    refine ⟨_,rfl,cu (Gw (k:=j) rfl rfl (by decide) ((two rfl (n1 rfl rfl) (gV _ _ hlen)).trans (by rw [hj])) hjl (by simp;omega) (by simp;omega) ?_)⟩
    refine fu (two rfl rfl (o6 _ 9 (by decide) (by decide))) rfl ⟨_,rfl,c / 9,ls.eraseIdx j,ps++[ls[j]],some (.d (.int k)),?_,?_,?_,?_⟩
    ·rw [SM,U8,show (ls.eraseIdx j).map dN=(ls.map dN).eraseIdx j by simp [VO,Xv,Xw]]
     rfl
    ·rw [Zv,if_pos QJ];omega
    ·rw [SI];simp;omega
    ·rw [Wh,Xg]
     exact ((Cy QJ).append_left ps).trans m1
   ·rintro _ ⟨c,ls,ps,x,rfl,l1,l2,m1⟩
    have l0:ls=[]:=UI.mp (by omega)
    rw [l0,US] at m1
    exact bP rfl rfl ⟨_,rfl,ps,rfl,m1⟩
 obtain ⟨_,h,ps,rfl,hk⟩:=key
 exact ⟨ps,h,hk⟩
theorem getD_at {ps:List Nat}{k:Nat}(h:k < ps.length):ps.getD k 0=ps[k]:=by simp [Zg,h]
theorem uO {α β:Type}{f:α->β}{xs:List α}(nd:xs.Nodup) (inj:∀a∈xs,∀b∈xs,f a=f b->a=b):(xs.map f).Nodup:=by
 refine S9.mpr ((UW.mp nd).imp ?_)
 rintro a b ⟨ha,hb,h⟩ e
 exact h (inj a ha b hb e)
theorem Nt {xs:List Nat}(h:xs.Pairwise (· < ·)):xs.Nodup:=h.imp λh e=>by omega
theorem Mi {xs:List (Nat×Nat)}(h:xs.Pairwise iP):xs.Nodup:=h.imp fun {a b} h e=>by subst e;unfold iP at h;omega
theorem jH {ps:List Nat}{m:Nat}(pm:ps.Perm (Sh m)){a b:Nat}(ha:a < m) (hb:b < m) (e:ps.getD a 0=ps.getD b 0):a=b:=by
 have l:ps.length=m:=by rw [pm.length_eq,TF]
 rw [getD_at (by omega),getD_at (by omega)] at e
 exact (Xj (pm.nodup_iff.mpr Uw)).mp e
theorem OV {xs:List Nat}(nd:xs.Nodup):((bF (xs.map dN)).map jm).Pairwise (· < ·):=
 vt dN jm o7 _ (λa b h=>(yI a b).mp h) (λd hd=>by obtain ⟨x,_,rfl⟩:=Sb.mp (mH hd);exact ⟨x,rfl⟩) (nT (eE .i) (λd hd=>by obtain ⟨x,_,rfl⟩:=Sb.mp hd;exact ⟨_,rfl⟩) (uO nd λa _ b _ e=>by have:=congrArg jm e;exact this))
theorem OW {xs:List (Nat×Nat)}(nd:xs.Nodup):((bF (xs.map dP)).map iU).Pairwise iP:=
 vt dP iU jo _ (λa b h=>(yJ a b).mp h) (λd hd=>by obtain ⟨x,_,rfl⟩:=Sb.mp (mH hd);exact ⟨x,rfl⟩) (nT (eE pF) (λd hd=>by obtain ⟨x,_,rfl⟩:=Sb.mp hd;exact nC x) (uO nd λa _ b _ e=>by have:=congrArg iU e;exact this))
theorem Fy (w:Wd) (hw:ng w) (n:Nat) (hb:jt n w) (hs:nc w) (ps:List Nat) (pm:ps.Perm (Sh w.m)):ng (gW w ps)/\jt n (gW w ps)/\nc (gW w ps)/\(gW w ps).m=w.m/\(gW w ps).ms.map Tr=w.ms.map Tr/\(gW w ps).ar.map Tr=w.ar.map Tr:=by
 have l:ps.length=w.m:=by rw [pm.length_eq,TF]
 obtain ⟨h1,h2,h3,h4,h5⟩:=N8 w hw n hb ps l λp hp=>by simpa using pm.mem_iff.mp hp
 refine ⟨h1,h2,⟨λr hr=>?_,λr hr=>?_⟩,h3,?_,?_⟩
 ·obtain ⟨q,hq,rfl⟩:=Sb.mp (show r∈w.ms.map _ from hr)
  exact OV (uO (Nt (hs.mp q hq)) λa ha b hb' e=>jH pm ((hb.mp q hq).2 a ha) ((hb.mp q hq).2 b hb') e)
 ·obtain ⟨q,hq,rfl⟩:=Sb.mp (show r∈w.ar.map _ from hr)
  refine OW (uO (Mi (hs.ap q hq)) λa ha b hb' e=>?_)
  have ra:=(hb.ap q hq).2 a ha
  have rb:=(hb.ap q hq).2 b hb'
  exact Yt (jH pm ra.1 rb.1 (congrArg Tr e)) (jH pm ra.2 rb.2 (congrArg Xa e))
 ·show (w.ms.map _).map _=_
  rw [SN]
  rfl
 ·show (w.ar.map _).map _=_
  rw [SN]
  rfl
theorem tL (w:Wd) (hw:ng w) (n:Nat) (hn:n<=40) (hb:jt n w) (hs:nc w) (c:Int) (hc:0<=c):∃u:Wd,e_ [.d w.d,.d (.int c)]=.ok (.d u.d)/\HQ (n + 1) w u:=by
 have ml:=hw.ml
 have al:=hw.al
 have lo:=hw.lo
 have key:Wp (e_ [.d w.d,.d (.int c)]) λr=>∃u:Wd,r=.d u.d/\HQ (n + 1) w u:=by
  refine o8 (u_ rfl rfl rfl ?_)
  have hadd:cR (.d (.int ((w.ms.map gx).length:Nat))) (.d (.int ((w.ar.map iI).length:Nat)))=.ok (.d (.int ((w.ms.length + w.ar.length:Nat):Int))):=by rw [fp,Sa,Sa,<-Int.natCast_add]
  by_cases c0:w.ms.length + w.ar.length=0
  ·refine cu (gA ?_ (bP rfl rfl ⟨_,rfl,w,rfl,hw,⟨λr hr=>⟨by have:=(hb.mp r hr).1;omega,(hb.mp r hr).2⟩,λr hr=>⟨by have:=(hb.ap r hr).1;omega,(hb.ap r hr).2⟩⟩,hs,rfl,rfl,rfl⟩))
   show (g2 _ _ _ _ >>= _)=_
   rw [two (two (n1 rfl rfl) (n1 rfl rfl) hadd) rfl (eq_int _ _ _),c0]
   rfl
  ·have hs':(0:Int) < ((w.ms.length + w.ar.length:Nat):Int):=by omega
   have hm:(0:Int) < (w.m:Int):=by omega
   refine dM ?_ (bB (two rfl (two (n1 rfl rfl) (n1 rfl rfl) hadd) (gV _ _ hs')) rfl (bB (two (two rfl rfl (o6 _ 6 (by decide) (by decide))) rfl (gV _ _ hm)) rfl (bB rfl rfl ?_)))
   ·show (g2 _ _ _ _ >>= _)=_
    rw [two (two (n1 rfl rfl) (n1 rfl rfl) hadd) rfl (eq_int _ _ _)]
    show M.ok ((((w.ms.length + w.ar.length:Nat):Int)) == 0)=_
    rw [beq_eq_false_iff_ne.mpr (by omega)]
   obtain ⟨k,hk⟩:=uP (VM c (b:=((w.ms.length + w.ar.length:Nat):Int)) (by omega))
   have RA:=U4 c hs'
   obtain ⟨p,hp⟩:=uP (VM (c / 6) (b:=(w.m:Int)) (by omega))
   have hpl:=U4 (c / 6) hm
   obtain ⟨q,hq⟩:=uP (VM (c / 48) (b:=(w.m:Int)) (by omega))
   have RH:=U4 (c / 48) hm
   rw [hk] at RA
   rw [hp] at hpl
   rw [hq] at RH
   rw [hk,hp]
   by_cases ck:k < w.ms.length
   ·obtain ⟨L',o1,oS,oN,o2,o3⟩:=uC dN (λp=>p < w.m) (λxs=>xs.Pairwise (· < ·)) (λxs p h=>h.filter p) n hn (λ_=>SJ _) false (λ_=>rfl) OX w.ms ⟨hb.mp⟩ hs.mp ml k ck p (by show p < w.m;omega) (some (.d w.d)) (some (.d (.int c))) (.int w.m) (.tup (w.ms.map gx)) (.tup (w.ar.map iI))
    refine dM ?_ (Wp.of o3 ⟨_,rfl,⟨w.m,L',w.ar⟩,rfl,⟨lo,hw.hi,by show L'.length<=3;omega,al⟩,⟨o1.all,λr hr=>⟨by have:=(hb.ap r hr).1;omega,(hb.ap r hr).2⟩⟩,⟨oS,hs.ap⟩,rfl,oN,rfl⟩)
    show M.ok (decide ((((w.ms.map gx).length:Nat):Int)<=(k:Int)))=_
    rw [decide_eq_false (by simp;omega)]
   ·obtain ⟨L',o1,oS,oN,o2,o3⟩:=uC dP (λp=>p.1 < w.m/\p.2 < w.m) (λxs=>xs.Pairwise iP) (λxs p h=>h.filter p) n hn (λ_=>(by decide:(1:Nat)<=1)) true (λ_=>rfl) OY w.ar ⟨hb.ap⟩ hs.ap al (k - w.ms.length) (by omega) (p,q) (by show p < w.m/\q < w.m;omega) (some (.d w.d)) (some (.d (.int c))) (.int w.m) (.tup (w.ms.map gx)) (.tup (w.ar.map iI))
    refine cu (gA ?_ (bB (x:=.d (.int ((k - w.ms.length:Nat):Int))) (two rfl (n1 rfl rfl) rfl) ?_ (bB (x:=.d (dP (p,q))) (bx (aJ rfl rfl (aJ (two (two rfl rfl (o6 _ 48 (by decide) (by decide))) rfl (gV _ _ hm)) rfl br)) t2) ?_ (fu rfl rfl (Wp.of o3 ⟨_,rfl,⟨w.m,w.ms,L'⟩,rfl,⟨lo,hw.hi,ml,by show L'.length<=3;omega⟩,⟨λr hr=>⟨by have:=(hb.mp r hr).1;omega,(hb.mp r hr).2⟩,o1.all⟩,⟨hs.mp,oS⟩,rfl,rfl,oN⟩)))))
    ·show M.ok (decide ((((w.ms.map gx).length:Nat):Int)<=(k:Int)))=_
     rw [decide_eq_true (by simp;omega)]
    ·show M.ok (S.d (.int ((k:Int) - (((w.ms.map gx).length:Nat):Int))))=_
     rw [Sa,show (k:Int) - (w.ms.length:Int)=((k - w.ms.length:Nat):Int) by omega]
    ·show M.ok (S.d (.tup [.int p,.int (c / 48 % w.m)]))=_
     rw [hq]
 obtain ⟨_,h,u,rfl,hu⟩:=key
 exact ⟨u,h,hu⟩
theorem K3 (ns:List Int) (sz:List Nat) (hz:sz.length=8) (hs:∀n∈sz,1<=n/\n<=4):∃v w:Wd,jR [.bor (ns.map D.int),.bor (sz.map dN)]=.ok (.d (.tup [v.d,w.d]))/\Pr v w/\jt 30 v/\jt 30 w/\nc v/\nc w:=by
 have c0:=K51.jz ns 0
 have c1':=K51.jz ns 1
 have c2':=K51.jz ns 2
 have c9:=K51.jz ns 9
 have c10:=K51.jz ns 10
 have key:Wp (jR [.bor (ns.map D.int),.bor (sz.map dN)]) λr=>∃v w:Wd,r=.d (.tup [v.d,w.d])/\Pr v w/\jt 30 v/\jt 30 w/\nc v/\nc w:=by
  refine o8 (bB (c2 rfl rfl (K51.DC ns 0)) rfl (bB (c2 rfl rfl (gK ns _ 1 rfl)) rfl ?_))
  obtain ⟨a,ha,ea⟩:=nD (xs:=[1,0,2,3]) (h:=dN) (.l .fresh ([1,0,2,3].map dN)) rfl (K51.cG ns 1 % 4) (by omega) (by show _ < (4:Int);omega)
  obtain ⟨b,hb,eb⟩:=nD (xs:=[1,2,0,1,3]) (h:=dN) (.l .fresh ([1,2,0,1,3].map dN)) rfl (K51.cG ns 1 / 4 % 5) (by omega) (by show _ < (5:Int);omega)
  have ha:a<=3:=by simp at ha;omega
  have hb:b<=3:=by simp at hb;omega
  obtain ⟨A,hA,lA⟩:=K51.A5 (K51.cG ns 1 / 20) (by omega) a ha
  obtain ⟨B,hB,lB⟩:=K51.A5 (K51.cG ns 2) (by omega) b hb
  refine bB (c2 rfl (two (nI rfl (by show 4<=1000;decide)) rfl ea) hA) rfl ?_
  refine cu (vA rfl (fu (bx (aJ rfl rfl (aJ (c2 (c2 rfl rfl (gK ns _ 2 rfl)) (two (nI rfl (by show 5<=1000;decide)) rfl eb) hB) rfl br)) (by show 2<=1000;decide)) rfl ?_))
  have mk:∀(m:Nat),1<=m/\m<=4->∀(j:Nat),∃w:Wd,K51.fE [.d (.tup [.lst (A.map .str),.lst (B.map .str)]),.d (.int m),.bor ((Sh 6).map λk=>.int (K51.cG ns (j + k)))]=.ok (.d w.d)/\ng w/\jt 16 w/\nc w/\w.m=m/\w.ms.map Tr=A/\w.ar.map Tr=B:=λm hm j=>by
   obtain ⟨ms,rs,hw,h1,h2,h3,h4⟩:=K51.K5 m hm.1 (by omega) A B (by omega) (by omega) ((Sh 6).map λk=>K51.cG ns (j + k)) rfl
   rw [SN] at hw
   have l1:=congrArg Vt h1
   have l2:=congrArg Vt h2
   rw [Sa] at l1 l2
   exact ⟨⟨m,ms,rs⟩,hw,⟨hm.1,by show m<=8;omega,by show ms.length<=3;omega,by show rs.length<=3;omega⟩,⟨λr hr=>⟨by have:=(h3 r hr).1;omega,(h3 r hr).2.2⟩,λr hr=>⟨K55.qY (h4 r hr) hm.2,(h4 r hr).2.2⟩⟩,⟨λr hr=>(h3 r hr).2.1,λr hr=>(h4 r hr).2.1⟩,rfl,h1,h2⟩
  obtain ⟨m,hm,em⟩:=nD (xs:=sz) (h:=dN) (.l .bor (sz.map dN)) rfl (K51.cG ns 0 % 8) (by omega) (by omega)
  obtain ⟨v,hv,vo,vb,vs,vm,vl,va⟩:=mk m (hs m hm) 3
  refine bB (c3 rfl (two rfl rfl em) (mR (xs:=Sh 6) (h:=dN) (λk=>.int (K51.cG ns (3 + k))) (jj rfl (by decide)) (by decide) λk hk=>⟨_,c2 rfl (two rfl rfl (AD _ _)) (gK ns _ (3 + k) (by simp)),rfl⟩) hv) rfl ?_
  refine bB (two (two rfl rfl (o6 _ 8 (by decide) (by decide))) rfl (gV _ 4 (by decide))) rfl ?_
  have up:∀{n:Nat}{w:Wd},n<=30->jt n w->Pg w:=λhn h=>⟨λr hr=>⟨by have:=(h.mp r hr).1;omega,(h.mp r hr).2⟩,λr hr=>⟨by have:=(h.ap r hr).1;omega,(h.ap r hr).2⟩⟩
  have vm4:=(hs m hm).2
  have RN:=VM (K51.cG ns 0 / 8) (b:=4) (by decide)
  have RO:=U4 (K51.cG ns 0 / 8) (b:=4) (by decide)
  generalize K51.cG ns 0 / 8 % 4=wy at RN RO
  by_cases cw:wy=0
  ·subst cw
   obtain ⟨m2,hm2,em2⟩:=nD (xs:=sz) (h:=dN) (.l .bor (sz.map dN)) rfl (K51.cG ns 0 / 32 % 8) (by omega) (by omega)
   obtain ⟨w,hw,wo,wb,ws,wm,wl,wa⟩:=mk m2 (hs m2 hm2) 9
   have:=(hs m2 hm2).2
   exact cu (gA rfl (bP (bx (aJ rfl rfl (aJ (c3 rfl (two rfl (two (two rfl rfl (o6 _ 32 (by decide) (by decide))) rfl (gV _ 8 (by decide))) em2) (mR (xs:=Sh 6) (h:=dN) (λk=>.int (K51.cG ns (9 + k))) (jj rfl (by decide)) (by decide) λk hk=>⟨_,c2 rfl (two rfl rfl (AD _ _)) (gK ns _ (9 + k) (by simp)),rfl⟩) hw) rfl br)) t2) rfl ⟨_,rfl,v,w,rfl,⟨vo,wo,by omega,by omega,by rw [vl,wl],by rw [va,wa]⟩,up (by decide) vb,up (by decide) wb,vs,ws⟩))
  ·refine dM ?_ ?_
   ·show M.ok (wy == 0)=_
    rw [beq_eq_false_iff_ne.mpr cw]
   obtain ⟨ps,hps,pm⟩:=FQ (K51.cG ns 15) v.m vo.hi
   have lps:ps.length=v.m:=by rw [pm.length_eq,TF]
   have ht:=yS v vo 16 (by decide) vb ps lps
   obtain ⟨to,tb,ts,tm,tl,ta⟩:=Fy v vo 16 vb vs ps pm
   refine bB (c2 rfl (c2 (c2 rfl rfl (gK ns _ 15 rfl)) (two rfl rfl (f9 _ _)) hps) ht) rfl ?_
   obtain ⟨u1,f1,k1⟩:=tL (gW v ps) to 16 (by decide) tb ts (K51.cG ns 9) c9
   obtain ⟨u2,f2,k2⟩:=tL u1 k1.ok 17 (by decide) k1.inn k1.qI (K51.cG ns 10) c10
   have a1:=k1.m
   have a2:=k1.mn
   have a3:=k1.an
   have b1:=k2.m
   have b2:=k2.mn
   have b3:=k2.an
   have w3:wy=1\/wy=2\/wy=3:=by omega
   rcases w3 with rfl | rfl | rfl
   ·exact dM rfl (dM rfl (bP (bx (aJ rfl rfl (aJ rfl rfl br)) t2) rfl ⟨_,rfl,v,gW v ps,rfl,⟨vo,to,by omega,by omega,tl.symm,ta.symm⟩,up (by decide) vb,up (by decide) tb,vs,ts⟩))
   ·exact cu (gA rfl (fu (c2 rfl (c2 rfl rfl (gK ns _ 9 rfl)) f1) rfl (dM rfl (bP (bx (aJ rfl rfl (aJ rfl rfl br)) t2) rfl ⟨_,rfl,v,u1,rfl,⟨vo,k1.ok,by omega,by omega,by rw [a2,tl],by rw [a3,ta]⟩,up (by decide) vb,up (by decide) k1.inn,vs,k1.qI⟩))))
   ·exact cu (gA rfl (fu (c2 rfl (c2 rfl rfl (gK ns _ 9 rfl)) f1) rfl (cu (gA rfl (fu (c2 rfl (c2 rfl rfl (gK ns _ 10 rfl)) f2) rfl (bP (bx (aJ rfl rfl (aJ rfl rfl br)) t2) rfl ⟨_,rfl,v,u2,rfl,⟨vo,k2.ok,by omega,by omega,by rw [b2,a2,tl],by rw [b3,a3,ta]⟩,up (by decide) vb,up (by decide) k2.inn,vs,k2.qI⟩))))))
 obtain ⟨_,h,v,w,rfl,hk⟩:=key
 exact ⟨v,w,h,hk⟩
end K23
namespace DL
open PySem PySem.Spec PyProof.Rows L2 DX
section
variable {X:Cx}{c:C}{e ke a b:S4}{g gk ga gb:G R}{pos:Pos}
noncomputable def NK (K:R7):Ce:=λo i v H Q=>∃J p ks vs kxs d,aT J H/\o=.ref p/\dS K J H p ks vs/\dH (.tup kxs)=true/\Rep K J (.tup kxs) i/\Rep K J d v/\ks.length<=sizeLine/\∀o,dS K J (upd H p o) p (dput (ks,vs) (.tup kxs) d).1 (dput (ks,vs) (.tup kxs) d).2->Q (upd H p o)
theorem set_dict (hu:X.A.units + 64 < Uu):Lb X (NK X.K):=by
 intro RX s σ H o i v ov iv u Q I ro ri rv h
 obtain ⟨J,p,ks,vs,kxs,d,sm,rfl,hd,ok,rk,rd,hl,q⟩:=h
 obtain ⟨_,_,k1,k2⟩:=gS ok
 obtain ⟨r,rfl⟩:∃r,i=.ref r:=by cases rk;exact ⟨_,rfl⟩
 cases ro
 cases ri
 obtain ⟨xs,hm,lx,put⟩:=BJ I sm hd
 refine wpAny_setItem_heap (knd:=mW X.prog X.w) (k:=⟨.tup kxs,k1,k2⟩) (show X.A.units + 1 + 16 < Uu by omega) (jJ (HF.of (c:=⟨X.K,H,H,λ_=>True⟩) I sm) k1 rk) hm (λh' hm' sb=>?_) (by rw [lx];exact hl)
 obtain ⟨o,W,hd,_⟩:=put k1 k2 rk rd rv h' _ hm' sb
 exact ⟨_,W,q o hd⟩
noncomputable def zG (i:Nat) (gk g:G R):G O:=λenv=>match env[i]? with
 | some (some (.dk ks vs))=>g env >>= λr=>toD r >>= λd=>gk env >>= λr2=>toD r2 >>= λk=>if dH k=true/\ks.length<=1000000 then .ok (.nx (env.set i (some (.dk (dput (ks,vs) k d).1 (dput (ks,vs) k d).2)))) else .bad
 | _=>.bad
theorem Ef {prog:Su}{w:S3}{K:Type} [DecidableEq K] {knd:HeapKind prog w K}{A:S5}{E:R8->R_->Prop}{s:R_}{d a:Sm}{k:K}{xs:List (K×Sm×R8)}{Q:Bool->R_->Prop}(hu:knd.room A.in1) (hkey:knd.is s.heap k a) (hd:(d == V3)=false)
  (hm:s.heap.DictOfH knd d xs) (h:Q (acs xs k).isSome {s with toks:=s.toks + knd.draws k}):Sx (SE prog w) A (contains (.ref d) (.ref a)) Q E s:=by
 refine wpAny_contains_slot hm.typeIs aak (Tc aak hm.typeIs entry_dict_contains ?_ (args_dict_contains _ _))
 show Sx _ _ (dictGet d (.ref a) >>= λ_=>_) _ _ s
 refine R6 (wpAny_dictGet_heap hu hkey hm ?_)
 cases q:acs xs k with
 | some p=>rw [q] at h;exact R9 ⟨_,rfl,TN h⟩
 | none=>rw [q] at h;exact R6 (wpAny_pendingKey_other hd (R9 ⟨_,rfl,TN h⟩))
noncomputable def Hh (K:R7) (neg:Bool):R2:=λx y H Q=>∃J p ks vs k,aT J H/\y=.ref p/\dS K J H p ks vs/\Rep K J k x/\dH k=true/\Q (.bl (if neg then !(f_ ks vs k).isSome else (f_ ks vs k).isSome)) H
theorem F6 (hu:X.A.units + 64 < Uu){RX:List (Sm×Obj)}{s:R_}{σ:L2.St}{H:Hp}{x y:V}{v u:R8}{Q:VK}{neg:Bool}(I:Inv X RX σ H s) (rx:RelV x v) (ry:RelV y u) (h:Hh X.K neg x y H Q):Sx (SE X.prog X.w) X.A (contains u v) (λr s'=>EP X RX σ Q (.bool (if neg then !r else r)) s') X.xe s:=by
 obtain ⟨J,p,ks,vs,k,sm,rfl,hd,hk,ok,q⟩:=h
 have F:HF X.K J s:=HF.of (c:=⟨X.K,H,H,λ_=>True⟩) I sm
 obtain ⟨kx,rfl,k1,k2⟩:=gS ok
 obtain ⟨r,rfl⟩:∃r,x=.ref r:=by cases hk;exact ⟨_,rfl⟩
 cases rx
 cases ry
 obtain ⟨xs,us,ws,hm,e2,_,hv,e4,_,hsm⟩:=om (P:=X.prog) (w:=X.w) F (fL I) hd
 have e:(acs xs ⟨.tup kx,k1,k2⟩).isSome=(f_ ks vs (.tup kx)).isSome:=by
  obtain ⟨l1,l2⟩:=ue (K:=X.K) (J:=J) ⟨.tup kx,k1,k2⟩ e2 hv e4
  cases z:f_ ks vs (.tup kx) with
  | some d=>obtain ⟨p,_,e,_⟩:=l1 d z;rw [e];rfl
  | none=>rw [l2 z];rfl
 exact Ef (k:=⟨.tup kx,k1,k2⟩) (show X.A.units + 1 + 16 < Uu by omega) (jJ F k1 hk) hsm hm ⟨.bl _,H,I.tok _,by rw [e];rfl,q⟩
theorem L7 (hu:X.A.units + 64 < Uu):cW X (T5 .In) (Hh X.K false):=λRX s σ H x y v u Q I rx ry h=>R6 (Tw (F6 hu I rx ry h) (λ_ _ h=>R9 h) λ_ _ f=>f)
noncomputable def vS (neg:Bool) (x y:R):M R:=match ud y,x with
 | some z,.d k=>if dH k=true then .ok (.d (.bl (if neg then !(f_ z.1 z.2 k).isSome else (f_ z.1 z.2 k).isSome))) else .bad
 | _,_=>.bad
theorem Li (neg:Bool) (hK:X.K=c.K):BD c (Hh X.K neg) (vS neg):=by
 intro He He' J H x y u v Q hp rx ry w
 unfold vS at w
 split at w
 ·rename_i hz
  obtain ⟨p,rfl,hd⟩:=ry.dk hp hz
  split at w
  ·rename_i ok
   exact ⟨J,p,_,_,_,hp.sub,rfl,by rw [hK];exact hd,by rw [hK];exact rx,ok,w _ J H (Ext.refl hp.sub) (.bl _)⟩
  ·exact w.elim
 ·exact w.elim
theorem G8 (i:Nat){x:Str}{p1 p2:Pos}(hu:X.A.units + 64 < Uu) (h:QD X c e g) (hk:QD X c ke gk) (hN:X.N[i]?=some x:=by rfl) (hv:rS X.env.scope x:=by first | exact Xf rfl | exact V1 (Xf rfl) | exact V1 (V1 rfl)) (hd:(x == ("__debug__":Str))=false:=by decide)
  (hcd:(x == ("__classdict__":Str))=false:=by decide)
  (ha:∀v,assign (.Subscript (.Name x p1) ke p2) X.env v=(do
   let ov <-holding [v] (eval (.Name x p1) X.env)
   let iv <-holding [v,ov] (eval ke X.env)
   VS p2
   (holding [v,ov,iv] (setItem ov iv v))
   release [v,ov,iv] []):=by intro _;rfl)
  (hs:WB [.Subscript (.Name x p1) ke p2] e pos.line X.env=pure false:=by rfl) (hw:ZY [.Subscript (.Name x p1) ke p2] e X.env=pure none:=by rfl)
  (h1:(VF [.Subscript (.Name x p1) ke p2] X.env).map (·.2)=[assign (.Subscript (.Name x p1) ke p2) X.env]:=by rfl) (hK:X.K=c.K:=by rfl):
  iK X c (.Assign [.Subscript (.Name x p1) ke p2] e pos) (zG i gk g):=have h:=h.h;have hk:=hk.h;⟨
 iu (E8 h (Mt (kY hN hv hd hcd) hk (set_dict hu) ha) hs hw h1) λE σ H ⟨J,env,sr,w⟩=>by
  unfold zG at w
  split at w
  ·rename_i ks vs hi
   obtain ⟨v,q1,p,rfl,h2,h3,h4⟩:=sr.at_ i _ hi
   refine ⟨J,env,sr,aE (aI w) λr wr y J1 H1 e1 r1=>?_⟩
   obtain ⟨d,q,wr⟩:=iV wr
   obtain ⟨J2,e2,s2,rd⟩:=freeze e1 r1 q
   refine ⟨.ref p,q1,?_⟩
   refine ⟨J2,env,sr.ext e2,aE (aI wr) λrk wk vk J3 H3 e3 r3=>?_⟩
   obtain ⟨k,qk,wk⟩:=iV wk
   obtain ⟨J4,e4,s4,rk⟩:=freeze e3 r3 qk
   have e5:=e2.trans e4
   split at wk
   ·rename_i ok
    obtain ⟨kxs,rfl,_⟩:=gS ok.1
    have h2':=h2.mono e5.j e5.h
    have h3':=e5.frz p h2.ne h3
    refine ⟨J4,p,ks,vs,kxs,d,e5.sub,rfl,by rw [hK];exact h2',ok.1,by rw [hK];exact rk,by rw [hK];exact rd.mono e4.j,S7 ok.2 (by decide),λo ho=>?_⟩
    rw [hK] at ho
    exact wk σ J4 _ e5.j ((sr.ext e5).updM (x:=.inr (ks,vs)) (y:=.inr (dput (ks,vs) (.tup kxs) d)) hi q1 h3' h4 ⟨p,rfl,ho,h3',h4⟩)
   ·exact wk.elim
  ·exact w.elim⟩
theorem Km (hu:X.A.units + 64 < Uu) (ha:QD X c a ga) (hb:QD X c b gb) (hK:X.K=c.K:=by rfl) (hm:Uj .In b=false:=by rfl):QB X c (.Compare a [.In] [b] pos) (bC (g2 (vS false) ga gb)):=⟨jX (L7 hu) (Li false hK) ha.h hb.h hm⟩
end
end DL
namespace K22
open PySem DL
def B_:List Str:=["_law_one","_law_other","_law_pairs","_law_a","_law_b","_law_here","_law_there","_law_c","_law_d"]
noncomputable def uG:G O:=(aM (dO (jf (af 2)) (dh 2 (bw (aA 3) (bw (aA 4) dz))) (aM (dO (CH (aq (g2 aZ (af 0) (gC (.int 1))) (aq (g2 aZ (af 1) (gC (.int 1))) aG))) (dh 2 (bw (aA 5) (bw (aA 6) dz))) (bS (bC (g2 (cL true) (g2 (ie false) (af 3) (g2 aZ (af 5) (gC (.int 1)))) (g2 (ie false) (af 4) (g2 aZ (af 6) (gC (.int 1)))))) (bJ (gC (.bl false))) dJ))
 (dO (jf (af 2)) (dh 2 (bw (aA 7) (bw (aA 8) dz))) (aM (bS (bC (g2 (cL true) (g2 (cL false) (af 3) (af 7)) (g2 (cL false) (af 4) (af 8)))) (bJ (gC (.bl false))) dJ)
 (dO (CH (aq (g2 aZ (af 0) (gC (.int 2))) (aq (g2 aZ (af 1) (gC (.int 2))) aG))) (dh 2 (bw (aA 5) (bw (aA 6) dz))) (bS (bC (g2 (cL true) (g2 (ie false) (bD (aC (af 3) (aC (af 7) aV))) (g2 aZ (af 5) (gC (.int 1)))) (g2 (ie false) (bD (aC (af 4) (aC (af 8) aV))) (g2 aZ (af 6) (gC (.int 1)))))) (bJ (gC (.bl false))) dJ))))))
 (bJ (gC (.bl true))))
def iW (as:List S):M R:=fin (uG (bq B_ as))
end K22
namespace K22
open PySem DL K01 WP K51 K52 K55 K23
section
variable {env:Ev}{tg:GT}{u t:G O}{α:Type}{h:α->D}{Q:O->Prop}{gi:G (List D)}
theorem w_all (I:Ev->Prop) (f:α->Bool):∀(xs:List α) (env:Ev),I env->(∀x∈xs,∀env,I env->∃e,tg (h x) env=.ok e/\Wp (u e) λo=>(f x=true/\∃e',o=.nx e'/\I e')\/(f x=false/\o=.rt (.d (.bl false))))->
  Wp (fH tg u (xs.map h) env) λo=>(xs.all f=true/\∃e',o=.nx e'/\I e')\/(xs.all f=false/\o=.rt (.d (.bl false)))
 | [],env,hI,_=>⟨.nx env,rfl,.inl ⟨rfl,env,rfl,hI⟩⟩
 | x::xs,env,hI,step=>by
  obtain ⟨e,h1,o,ho,hP⟩:=step x Se env hI
  rw [Sw,Vq]
  show Wp (tg (h x) env >>= _) _
  rw [h1,aP,ho,aP]
  rcases hP with ⟨hf,e',rfl,hI'⟩ | ⟨hf,rfl⟩
  ·rw [hf,Vs]
   exact w_all I f xs e' hI' λx hx=>step x (Sd _ hx)
  ·rw [hf]
   exact ⟨_,rfl,.inr ⟨rfl,rfl⟩⟩
theorem ID (I:Ev->Prop) (f:α->Bool) (xs:List α) (hg:gi env=.ok (xs.map h)) (h0:I env) (step:∀x∈xs,∀env,I env->∃e,tg (h x) env=.ok e/\Wp (u e) λo=>(f x=true/\∃e',o=.nx e'/\I e')\/(f x=false/\o=.rt (.d (.bl false))))
  (k1:xs.all f=true->∀e,I e->Wp (t e) Q) (k2:xs.all f=false->Q (.rt (.d (.bl false)))):Wp (aM (dO gi tg u) t env) Q:=by
 refine jP hg ((w_all I f xs env h0 step).mono ?_)
 rintro o (⟨z,e,rfl,hI⟩ | ⟨z,rfl⟩)
 ·exact k1 z e hI
 ·exact k2 z
theorem Il (I:Ev->Prop) (f:α->Bool) (xs:List α) (hg:gi env=.ok (xs.map h)) (h0:I env) (step:∀x∈xs,∀env,I env->∃e,tg (h x) env=.ok e/\Wp (u e) λo=>(f x=true/\∃e',o=.nx e'/\I e')\/(f x=false/\o=.rt (.d (.bl false)))):
  Wp (dO gi tg u env) λo=>(xs.all f=true/\∃e',o=.nx e'/\I e')\/(xs.all f=false/\o=.rt (.d (.bl false))):=qS hg (w_all I f xs env h0 step)
end
theorem Cw (neg a b:Bool):cL neg (.d (.bl a)) (.d (.bl b))=.ok (.d (.bl (if neg then !(a == b) else a == b))):=by
 cases neg <;> cases a <;> cases b <;> rfl
theorem zip_rows {α β:Type}(f:α->D) (g:β->D) (xs:List α) (ys:List β):aaM (λa b=>D.tup [a,b]) (xs.map f) (ys.map g)=(xs.zip ys).map λr=>D.tup [f r.1,g r.2]:=by
 rw [List.zipWith_map,List.zip,List.map_zipWith]
def mB (v w:Wd) (p:Nat×Nat):Bool:=(v.ms.zip w.ms).all λr=>decide (p.1∈r.1.2) == decide (p.2∈r.2.2)
def aB (v w:Wd) (p q:Nat×Nat):Bool:=(v.ar.zip w.ar).all λr=>decide ((p.1,q.1)∈r.1.2) == decide ((p.2,q.2)∈r.2.2)
def eB (p q:Nat×Nat):Bool:=(p.1 == q.1) == (p.2 == q.2)
def sY (v w:Wd) (ps:List (Nat×Nat)):Bool:=ps.all λp=>mB v w p && ps.all λq=>eB p q && aB v w p q
theorem nW {α β:Type}(f:α->Bool) (g:β->Bool):∀{xs:List α}{ys:List β},xs.length=ys.length->(((xs.zip ys).all λr=>f r.1 == g r.2)=true↔xs.map f=ys.map g)
 | [],[],_=>by simp
 | x::xs,y::ys,h=>by
  have ih:=nW f g (xs:=xs) (ys:=ys) (by simpa using h)
  rw [WN,Vq,Sf,ih,Sw,Sw,XU,beq_iff_eq]
theorem Jp {v w:Wd}(t:Pr v w) (ps:List (Nat×Nat)):sY v w ps=true↔∀p∈ps,∀q∈ps,wL v w p q:=by
 have l1:v.ms.length=w.ms.length:=by have:=congrArg Vt t.mn;simpa using this
 have l2:v.ar.length=w.ar.length:=by have:=congrArg Vt t.an;simpa using this
 have e1:∀p q:Nat×Nat,eB p q=true↔(p.1=q.1↔p.2=q.2):=λp q=>by
  unfold eB
  rw [beq_iff_eq,Ui,beq_iff_eq,beq_iff_eq]
 unfold sY
 rw [SW]
 constructor
 ·intro h p hp q hq
  have h1:=h p hp
  rw [Sf,SW] at h1
  have h2:=h1.2 q hq
  rw [Sf] at h2
  exact ⟨(e1 p q).mp h2.1,(nW (λr:Str×List Nat=>decide (p.1∈r.2)) (λr:Str×List Nat=>decide (p.2∈r.2)) l1).mp h1.1,(nW (λr:Str×List (Nat×Nat)=>decide ((p.1,q.1)∈r.2)) (λr:Str×List (Nat×Nat)=>decide ((p.2,q.2)∈r.2)) l2).mp h2.2⟩
 ·intro h p hp
  rw [Sf,SW]
  refine ⟨(nW (λr:Str×List Nat=>decide (p.1∈r.2)) (λr:Str×List Nat=>decide (p.2∈r.2)) l1).mpr (h p hp p hp).ms,λq hq=>?_⟩
  rw [Sf]
  exact ⟨(e1 p q).mpr (h p hp q hq).eq,(nW (λr:Str×List (Nat×Nat)=>decide ((p.1,q.1)∈r.2)) (λr:Str×List (Nat×Nat)=>decide ((p.2,q.2)∈r.2)) l2).mpr (h p hp q hq).ar⟩
abbrev eF (v w:Wd) (ps:List (Nat×Nat)) (a b c d e f:Option S):Ev:=[some (.d v.d),some (.d w.d),some (.d (a_ ps)),a,b,c,d,e,f]
theorem K1 (v w:Wd) (ps:List (Nat×Nat)):iW [.d v.d,.d w.d,.d (a_ ps)]=.ok (.d (.bl (sY v w ps))):=by
 refine cH (ID (h:=dP) (λenv=>∃a b c d e f:Option S,env=(eF v w ps a b c d e f)) (λp=>mB v w p && ps.all λq=>eB p q && aB v w p q) ps rfl ⟨none,none,none,none,none,none,rfl⟩ ?_ (λz e _=>bP rfl rfl (by unfold sY;rw [z])) (λz=>by unfold sY;rw [z]))
 rintro p _ _ ⟨_,_,c0,d0,e0,f0,rfl⟩
 refine ⟨(eF v w ps (some (.d (dN p.1))) (some (.d (dN p.2))) c0 d0 e0 f0),rfl,?_⟩
 refine ID (h:=λr:(Str×List Nat)×(Str×List Nat)=>D.tup [gx r.1,gx r.2]) (λenv=>∃c d e f:Option S,env=(eF v w ps (some (.d (dN p.1))) (some (.d (dN p.2))) c d e f)) (λr=>decide (p.1∈r.1.2) == decide (p.2∈r.2.2)) (v.ms.zip w.ms) ?_ ⟨c0,d0,e0,f0,rfl⟩ ?_ (λz e he=>?_) (λz=>.inr ⟨by show (mB v w p && _)=false;unfold mB;rw [z];rfl,rfl⟩)
 ·exact congrArg M.ok (zip_rows gx gx v.ms w.ms)
 ·rintro r _ _ ⟨_,_,e0,f0,rfl⟩
  refine ⟨(eF v w ps (some (.d (dN p.1))) (some (.d (dN p.2))) (some (.d (gx r.1))) (some (.d (gx r.2))) e0 f0),rfl,?_⟩
  refine zX (c:=!(decide (p.1∈r.1.2) == decide (p.2∈r.2.2))) (dB (two rfl (two rfl rfl (zQ _ _ _)) (mj false (dN p.1) (r.1.2.map dN) (um _) (SJ _))) (two rfl (two rfl rfl (zQ _ _ _)) (mj false (dN p.2) (r.2.2.map dN) (um _) (SJ _))) ?_) (λz=>bP rfl rfl (.inr ⟨by simpa using z,rfl⟩)) (λz=>jD (.inl ⟨by simpa using z,_,rfl,_,_,_,_,rfl⟩))
  show cL true (.d (.bl (inD (dN p.1) (r.1.2.map dN)))) (.d (.bl (inD (dN p.2) (r.2.2.map dN))))=_
  rw [K55.inN,K55.inN,Cw]
  rfl
 ·obtain ⟨c0,d0,e0,f0,rfl⟩:=he
  have hm:mB v w p=true:=z
  refine (Il (h:=dP) (λenv=>∃c d e f:Option S,env=(eF v w ps (some (.d (dN p.1))) (some (.d (dN p.2))) c d e f)) (λq=>eB p q && aB v w p q) ps rfl ⟨c0,d0,e0,f0,rfl⟩ ?_).mono ?_
  ·rintro q _ _ ⟨c0,d0,_,_,rfl⟩
   refine ⟨(eF v w ps (some (.d (dN p.1))) (some (.d (dN p.2))) c0 d0 (some (.d (dN q.1))) (some (.d (dN q.2)))),rfl,?_⟩
   have he:bC (g2 (cL true) (g2 (cL false) (af 3) (af 7)) (g2 (cL false) (af 4) (af 8))) (eF v w ps (some (.d (dN p.1))) (some (.d (dN p.2))) c0 d0 (some (.d (dN q.1))) (some (.d (dN q.2))))=.ok (!eB p q):=by
    refine dB (two rfl rfl (lU false (.d (dN p.1)) (.d (dN q.1)) (SJ _) (SJ _))) (two rfl rfl (lU false (.d (dN p.2)) (.d (dN q.2)) (SJ _) (SJ _))) ?_
    show cL true (.d (.bl (bu (dN p.1) (dN q.1)))) (.d (.bl (bu (dN p.2) (dN q.2))))=_
    rw [K55.rY,K55.rY,Cw]
    rfl
   cases hc:eB p q with
   | false=>
    rw [hc] at he
    exact NQ he (NP rfl rfl (.inr ⟨rfl,rfl⟩))
   | true=>
    rw [hc] at he
    refine dM he ?_
    refine (Il (h:=λr:(Str×List (Nat×Nat))×(Str×List (Nat×Nat))=>D.tup [iI r.1,iI r.2]) (λenv=>∃c d:Option S,env=(eF v w ps (some (.d (dN p.1))) (some (.d (dN p.2))) c d (some (.d (dN q.1))) (some (.d (dN q.2))))) (λr=>decide ((p.1,q.1)∈r.1.2) == decide ((p.2,q.2)∈r.2.2)) (v.ar.zip w.ar) (congrArg M.ok (zip_rows iI iI v.ar w.ar)) ⟨c0,d0,rfl⟩ ?_).mono ?_
    ·rintro r _ _ ⟨_,_,rfl⟩
     refine ⟨(eF v w ps (some (.d (dN p.1))) (some (.d (dN p.2))) (some (.d (iI r.1))) (some (.d (iI r.2))) (some (.d (dN q.1))) (some (.d (dN q.2)))),rfl,?_⟩
     refine zX (c:=!(decide ((p.1,q.1)∈r.1.2) == decide ((p.2,q.2)∈r.2.2))) (dB (two (bx (aJ rfl rfl (aJ rfl rfl br)) (by show 2<=1000;decide)) (two rfl rfl (zQ _ _ _)) (mj false (dP (p.1,q.1)) (r.1.2.map dP) (uo _) (by show 1<=60;decide))) (two (bx (aJ rfl rfl (aJ rfl rfl br)) (by show 2<=1000;decide)) (two rfl rfl (zQ _ _ _)) (mj false (dP (p.2,q.2)) (r.2.2.map dP) (uo _) (by show 1<=60;decide))) ?_) (λz=>bP rfl rfl (.inr ⟨by simpa using z,rfl⟩)) (λz=>jD (.inl ⟨by simpa using z,_,rfl,_,_,rfl⟩))
     show cL true (.d (.bl (inD (dP (p.1,q.1)) (r.1.2.map dP)))) (.d (.bl (inD (dP (p.2,q.2)) (r.2.2.map dP))))=_
     rw [K55.Ij,K55.Ij,Cw]
     rfl
    ·rintro o (⟨z,e,rfl,c1,d1,rfl⟩ | ⟨z,rfl⟩)
     ·exact .inl ⟨z,_,rfl,c1,d1,_,_,rfl⟩
     ·exact .inr ⟨z,rfl⟩
  ·rintro o (⟨z,e,rfl,c1,d1,e1,f1,rfl⟩ | ⟨z,rfl⟩)
   ·exact .inl ⟨by rw [hm,z];rfl,_,rfl,_,_,_,_,_,_,rfl⟩
   ·exact .inr ⟨by rw [hm,z];rfl,rfl⟩
theorem jh (ps:List (Nat×Nat)):dH (a_ ps)=true:=by
 have h1:∀qs:List (Nat×Nat),areKeys (qs.map dP)=true:=λqs=>by
  induction qs with
  | nil=>rfl
  | cons q qs ih=>rw [Sw];unfold areKeys;rw [ih];rfl
 have h2:deps (ps.map dP)<=1:=gq λx hx=>by obtain ⟨q,_,rfl⟩:=Sb.mp hx;exact Sj _
 show (areKeys (ps.map dP) && decide (deps (ps.map dP) + 1<=8))=true
 rw [h1,decide_eq_true (by omega)]
 rfl
section
variable {env:Ev}{g gk:G R}{r r2:R}{u:G O}{Q:O->Prop}{i:Nat}
theorem Nr {ks vs:List D}{k d:D}(h0:env[i]?=some (some (.dk ks vs))) (h:g env=.ok r) (h2:toD r=.ok d) (h3:gk env=.ok r2) (h4:toD r2=.ok k) (ok:dH k=true) (hl:ks.length<=1000000) (q:Q (.nx (env.set i (some (.dk (dput (ks,vs) k d).1 (dput (ks,vs) k d).2))))):Wp (zG i gk g env) Q:=by
 refine ⟨_,?_,q⟩
 unfold zG
 rw [h0]
 simp only
 rw [h,aP,h2,aP,h3,aP,h4,aP,if_pos ⟨ok,hl⟩]
theorem Mf {a b:G R}(h:a env=.ok (.d (.bl false))) (h2:b env=.ok r):CG a b env=.ok r:=by
 unfold CG;rw [h];exact h2
end
theorem uU (ps:List (Nat×Nat)):dep (a_ ps)<=60:=by
 have h2:deps (ps.map dP)<=1:=gq λx hx=>by obtain ⟨q,_,rfl⟩:=Sb.mp hx;exact Sj _
 show deps (ps.map dP) + 1<=60
 omega
end K22
namespace DL
open PySem PySem.Spec PyProof.Rows L2 DX
section
variable {X:Cx}{c:C}
noncomputable def yP (X:Cx) (c:C) (cm:Option (R8->Sem Unit)->Sem R8) (g:G R):Prop:=
 ∀{RX:List (Sm×Obj)}{s:R_}{σ:L2.St}{H:Hp}{Q:VK}{use:Option (R8->Sem Unit)}{Q0:R8->R_->Prop},Inv X RX σ H s->tD c g σ H Q->
  (∀(acc C:Sm) (m:Str->Option R8) (s':R_) (H':Hp) (fl:Flow),s'.heap.Ns C m->((C∈X.ex\/X.s₀.heap.objs.size<=C)/\C≠X.env.locals/\(∀x c,X.env.cells.lookup x=some c->c≠C)/\∀p∈X.pn++RX,p.1≠C)->H' C=none->(∀h'',Tu C s'.heap h''->Inv X RX σ H' {s' with heap:=h''})->Q (.ref acc) H'->aaj (SE X.prog X.w) X.A X.xe use Q0 (.ref acc) C (.ok fl) s')->
  Sx (SE X.prog X.w) X.A (cm use) Q0 X.xe s
theorem OM {e:S4}{cm:Option (R8->Sem Unit)->Sem R8}{g:G R}(core:yP X c cm g) (hev:eval e X.env=cm none):PD X c e g:=by
 intro RX s σ H Q I h
 rw [hev]
 exact core I h λacc C m s' H' fl hm hz hf hb q=>⟨m,hm,λh'' sb=>⟨.ref acc,H',hb h'' sb,rfl,q⟩⟩
theorem GV (i:Nat){e:S4}{cm:Option (R8->Sem Unit)->Sem R8}{g:G R}{x:Str}{pos' pos2:Pos}(hN:X.N.Nodup) (core:yP X c cm g) (hev:∀use,evalThenUse e X.env use=(do let _ <-cm (some use))) (hx:X.N[i]?=some x) (P8:X.env.scope.names.lookup x=some .local)
  (hsw:VZ e (some (.Name x pos')) pos2.line X.env=pure true):Ba X c (.Assign [.Name x pos'] e pos2) (bg i g):=by
 intro RX s σ H D I ⟨J,env,sr,w⟩
 rw [Zi]
 refine R6 (UD ?_)
 rw [show WB [.Name x pos'] e pos2.line X.env=pure true from hsw]
 refine R6 (R9 ?_)
 rw [if_pos rfl,hev]
 refine R6 (R6 (core (Q:=λv H1=>∃J1 r xx,Ext J H J1 H1/\RR c H J1 H1 r v/\toS r=.ok xx/\oP c J D (.nx (env.set i (some xx)))) I ⟨J,env,sr,aE (aI w) λr wr v J1 H1 e1 r1=>?_⟩ λacc C m s' H' fl hm ap hf hb ⟨J1,r,xx,e1,r1,q1,w1⟩=>?_))
 ·obtain ⟨xx,q,wr⟩:=nV wr
  exact ⟨J1,r,xx,e1,r1,q,wr⟩
 ·have I1:L2.Inv X RX σ H' s':=hb s'.heap (Yp ..)
  show Sx _ _ (do VS pos';adl X.env x (.ref acc)) _ _ _
  refine R6 (UD (ZI ?_))
  refine mO I1 hN hx (.inl P8) (v:=.ref acc) (u:=.ref acc) rfl (λs2 I2 ⟨a,sb,ha⟩=>?_) (.inr P8)
  have hac:C≠a:=λz=>by
   rcases ha with e | e
   ·exact ap.2.1 (z.trans e)
   ·exact ap.2.2.1 _ _ e z.symm
  refine ⟨m,hm.sameBut sb hac,λh2 sb2=>?_⟩
  refine R9 (R9 ⟨σ.set i (some (.ref acc)),H',qp I2 ap hf sb2 (o0:=default),?_⟩)
  exact w1 _ J1 H' e1.j (sr.set e1 r1 q1)
noncomputable def iO (n:Nat) (cap:List Nat) (gi:G (List D)) (gt:GT) (gts:G Bool) (gk gv:G R):G R:=je 1000000 n cap gi gt gts (sR gk gv) (λys=>.ok (.mf (iN ys).1 (iN ys).2))
theorem N9 (kx vx t0 i0:S4) (f0:List S4) (RV:Vk) (pos:Pos) (it:R8) (p:Sm) (env:Env):
  Xb (.DictComp kx vx [⟨t0,i0,f0,0⟩] RV pos) 0 it (.ref p) env=mP t0 i0 f0 it env (De kx vx p env) (again (.compLoop (.DictComp kx vx [⟨t0,i0,f0,0⟩] RV pos) 0 it (.ref p) env)):=by rfl
theorem Eb (hu:X.A.units + 64 < Uu) (hK:X.K=c.K) (own:List Str) (cap:List Nat){kx vx t0 i0:S4}{f0:List S4}{RV:Vk}{pos pos':Pos}{gi0:G (List D)}{gt0:GT}{gts0:G Bool}{gk gv:G R}(hi:pU X c t0 i0 gi0)
  (hbody:∀(cl:List (Str×Sm)) (C:Sm) (s:R_) (H:Hp) (fp:List Sm),bE X.env.cells RV.names []=some cl->i7 (aX X own cap RV cl C s H fp) c t0 gt0/\gu (aX X own cap RV cl C s H fp) c f0 gts0/\PD (aX X own cap RV cl C s H fp) c kx gk/\PD (aX X own cap RV cl C s H fp) c vx gv)
  (hk:RV.kind=.function) (hno:fk X cap RV=true) (hnames:(RV.names.all λx=>!(x.2 == .local) || (RV.names.lookup x.1 == some .local))=true)
  (hcl:(bE X.env.cells RV.names []).isSome=true) (hcap:dQ X cap=true) (hloc:dW X cap RV=true) (hnd:fM cap=true) (P0:X.calm=true) (hs:∀x,SA i0 X.env x=pure x):
  yP X c (λuse=>comprehension (.DictComp kx vx [⟨t0,i0,f0,0⟩] RV pos) RV X.env pos' newDict false (eval i0 X.env) use) (iO own.length cap gi0 gt0 gts0 gk gv):=by
 intro RX s σ H Q use Q0 I h P5
 refine oh (e:=.DictComp kx vx [⟨t0,i0,f0,0⟩] RV pos) (ob:={cls:=.type "dict",data:=.dict #[]}) (o0:=λa=>kR a 0 []) (Acc:=Cf c) (N:=1) (lim:=1000000) (m:=λp env=>De kx vx p env) own cap rfl hi
  (λs Q E q=>S8 q) (λh H=>⟨⟨_,#[],Sk _ rfl,⟨rfl,rfl,rfl⟩,rfl,.nil⟩,⟨_,Sk _ rfl⟩,λh1 h2 ⟨o,es,a1,a2⟩ e=>⟨o,es,e o a1,a2⟩⟩) (λp=>sP) (λp J H hsm h1 h2=>⟨⟨[],[],0,h1,.nil,.nil,⟨rfl,Vd,SJ _,λ_ h=>(nomatch h)⟩,beq_eq_false_iff_ne.mpr (U_ (SY hsm)),rfl⟩,h2,Sj _⟩) (by decide) (λit p env=>CQ (N9 ..)) (λit acc env R s h0 h=>YW h0 h) (λys z q=>by cases q)
  (fun {p J H J' H' ys r} hp e ⟨h1,h2,h8⟩ q=>by cases q;exact ⟨J',e,⟨p,rfl,h1,h2,hp⟩⟩) (λcl C s H fp hcc=>?_) hk hno hnames hcl hcap hloc hnd P0 hs I h P5
 obtain ⟨b1,b2,b3,b4⟩:=hbody cl C s H fp hcc
 exact ⟨b1,b2,λp J2 H2 hp2 hp0=>Bg hu hK (λ_ _ f=>f) hp2 hp0 b3 b4⟩
theorem uX (hu:X.A.units + 64 < Uu) (own:List Str) (cap:List Nat){kx vx t0 i0:S4}{f0:List S4}{RV:Vk}{pos:Pos}{gi0:G (List D)}{gt0:GT}{gts0:G Bool}{gk gv:G R}(hi:rR X c t0 i0 gi0)
  (hbody:∀(cl:List (Str×Sm)) (C:Sm) (s:R_) (H:Hp) (fp:List Sm),bE X.env.cells RV.names []=some cl->kN (aX X own cap RV cl C s H fp) c t0 gt0/\j6 (aX X own cap RV cl C s H fp) c f0 gts0/\QD (aX X own cap RV cl C s H fp) c kx gk/\QD (aX X own cap RV cl C s H fp) c vx gv)
  (hk:RV.kind=.function:=by rfl) (hno:fk X cap RV=true:=by rfl) (hnames:(RV.names.all λx=>!(x.2 == .local) || (RV.names.lookup x.1 == some .local))=true:=by rfl)
  (hcl:(bE X.env.cells RV.names []).isSome=true:=by rfl) (hcap:dQ X cap=true:=by rfl) (hloc:dW X cap RV=true:=by rfl) (hnd:fM cap=true:=by rfl) (P0:X.calm=true:=by rfl)
  (hs:∀x,SA i0 X.env x=pure x:=by intro _;rfl) (hK:X.K=c.K:=by rfl):QD X c (.DictComp kx vx [⟨t0,i0,f0,0⟩] RV pos) (iO own.length cap gi0 gt0 gts0 gk gv):=
 ⟨OM (Eb hu hK own cap hi.h (λcl C s H fp hc=>let ⟨a,b,d,e⟩:=hbody cl C s H fp hc;⟨a.h,b.h,d.h,e.h⟩) hk hno hnames hcl hcap hloc hnd P0 hs) rfl⟩
theorem Df (i:Nat) (hu:X.A.units + 64 < Uu) (own:List Str) (cap:List Nat){kx vx t0 i0:S4}{f0:List S4}{RV:Vk}{pos pos' pos2:Pos}{x:Str}{gi0:G (List D)}{gt0:GT}{gts0:G Bool}{gk gv:G R}(hN:X.N.Nodup) (hi:rR X c t0 i0 gi0)
  (hbody:∀(cl:List (Str×Sm)) (C:Sm) (s:R_) (H:Hp) (fp:List Sm),bE X.env.cells RV.names []=some cl->kN (aX X own cap RV cl C s H fp) c t0 gt0/\j6 (aX X own cap RV cl C s H fp) c f0 gts0/\QD (aX X own cap RV cl C s H fp) c kx gk/\QD (aX X own cap RV cl C s H fp) c vx gv)
  (hk:RV.kind=.function:=by rfl) (hno:fk X cap RV=true:=by rfl) (hnames:(RV.names.all λx=>!(x.2 == .local) || (RV.names.lookup x.1 == some .local))=true:=by rfl)
  (hcl:(bE X.env.cells RV.names []).isSome=true:=by rfl) (hcap:dQ X cap=true:=by rfl) (hloc:dW X cap RV=true:=by rfl) (hnd:fM cap=true:=by rfl) (P0:X.calm=true:=by rfl)
  (hs:∀x,SA i0 X.env x=pure x:=by intro _;rfl) (hx:X.N[i]?=some x:=by rfl) (P8:X.env.scope.names.lookup x=some .local:=by rfl)
  (hsw:VZ (.DictComp kx vx [⟨t0,i0,f0,0⟩] RV pos) (some (.Name x pos')) pos2.line X.env=pure true:=by rfl) (hK:X.K=c.K:=by rfl):iK X c (.Assign [.Name x pos'] (.DictComp kx vx [⟨t0,i0,f0,0⟩] RV pos) pos2) (bg i (iO own.length cap gi0 gt0 gts0 gk gv)):=
 ⟨GV i hN (Eb hu hK own cap hi.h (λcl C s H fp hc=>let ⟨a,b,d,e⟩:=hbody cl C s H fp hc;⟨a.h,b.h,d.h,e.h⟩) hk hno hnames hcl hcap hloc hnd P0 hs) (λ_=>rfl) hx P8 hsw⟩
end
end DL
namespace DL
open PySem PySem.Spec PyProof.Rows L2 DX
open Sem (wp)
section
variable {prog:Su}{w:S3}{A:S5}{E:R8->R_->Prop}{s:R_}{d it:Sm}{o:Obj}{es:Array Y5}{ep i:Nat}
theorem Gr {Q:R8->R_->Prop}(hd:(d == V3)=false) (ho:s.heap.get? d=some o) (hc:o.ExactDict) (hdat:o.data=.dict es ep)
  (hQ:Q (.ref s.heap.objs.size) {s with heap:=s.heap.push {cls:=.type "dict_keyiterator",data:=.fields #[.ref d,.int 0 0,.int es.size 0,.int ep 0]}}):Sx (SE prog w) A (XZ (.ref d)) Q E s:=by
 have hT:s.TypeIs (.ref d) "dict":=⟨o,ho,hc.1⟩
 refine Yl hT aaZ (Tc aaZ hT F.entry_dict_iter ?_ (F.args_dict_iter_1 _));unfold Ww.«dict.__iter__»;refine R6 ?_
 unfold abR;refine R6 (wpAny_notOrdered_dict hT (R9 ?_))
 show Sx _ _ (Bind.bind (Zk d) _) _ _ s
 unfold Zk;rw [if_neg (by rw [hd];decide)]
 refine R6 (R9 (R6 (Yq ho hdat (R6 (Zl ho hdat ?_)))))
 exact R6 (S8 (R9 ⟨_,rfl,"dict_keyiterator",_,⟨_,Sk _ rfl,rfl⟩,UA.lookup,by simpa [Y0] using hQ⟩))
theorem GG {Q:Option R8->R_->Prop}(hit:s.heap.IsKeyIter it d i es.size ep) (hod:s.heap.get? d=some o) (Qe:o.data=.dict es ep) (hi:i < es.size)
  (hQ:∀h',h'.IsKeyIter it d (i + 1) es.size ep->Tu it s.heap h'->Q (some es[i].key) {s with heap:=h'}):Sx (SE prog w) A (Wi (.ref it)) Q E s:=by
 obtain ⟨oi,ho,hc,hd⟩:=id hit
 unfold Wi
 refine R6 (VU (Tj (name:=Vp "__next__") hit.typeIs UA (Tc UA hit.typeIs Xq ?_ (Xi _))))
 refine R6 (R9 (R6 (R6 ?_)))
 refine R6 (U9 hit.typeIs (R9 (R6 (X_ ho hd ?_))))
 have hown:Xx "dict_keyiterator"=false:=by decide
 simp only [hown,SD,if_false]
 show Sx _ _ (ite ((VE d == Tq)=true) _ _) _ _ s
 rw [if_neg (show ¬((VE d == Tq)=true) from SX)];refine R6 (R9 (R6 (Yq hod Qe ?_)))
 rw [if_neg (by simp)];refine R6 (R9 (R6 (Zl hod Qe ?_)))
 rw [if_neg (by simp)];refine R9 ?_
 simp only [show ¬((i:Int) < 0) from by omega,if_false,Uk,Vz hi]
 refine R6 (R6 (U9 hit.typeIs (R9 ?_)))
 refine R6 (Zm hit.typeIs ?_)
 refine R6 (m:=setField (.ref it) 1 (Y0 ((i:Int) + 1))) (X6 ho hd (by simp) ?_)
 have QI:(s.heap.update it (acu (·.setIfInBounds 1 (Y0 ((i:Int) + 1))))).IsKeyIter it d (i + 1) es.size ep:=⟨_,TY _ ho (Y9 (WL hd _)),(aaA ..).trans hc,by rw [WL hd];simp [Y0]⟩
 refine R6 (S_ (R6 (Zm (s:={s with heap:=s.heap.update it (acu (·.setIfInBounds 1 (Y0 ((i:Int) + 1))))}) QI.typeIs ?_)))
 exact R9 (R9 ⟨_,rfl,R9 (hQ _ QI (T3 ..))⟩)
theorem Jl {Q:Option R8->R_->Prop}(hh:A.handled=none) (hit:s.heap.IsKeyIter it d i es.size ep) (hod:s.heap.get? d=some o) (Qe:o.data=.dict es ep) (hi:es.size<=i)
  (hQ:∀h',ZO it s.heap h'->Q none {s with heap:=h'}):Sx (SE prog w) A (Wi (.ref it)) Q E s:=by
 obtain ⟨oi,ho,hc,hd⟩:=id hit
 unfold Wi
 refine R6 (VU (Tj (name:=Vp "__next__") hit.typeIs UA (Tc UA hit.typeIs Xq ?_ (Xi _))))
 refine R6 (R9 (R6 (R6 ?_)))
 refine R6 (U9 hit.typeIs (R9 (R6 (X_ ho hd ?_))))
 have hown:Xx "dict_keyiterator"=false:=by decide
 simp only [hown,SD,if_false]
 show Sx _ _ (ite ((VE d == Tq)=true) _ _) _ _ s
 rw [if_neg (show ¬((VE d == Tq)=true) from SX)];refine R6 (R9 (R6 (Yq hod Qe ?_)))
 rw [if_neg (by simp)];refine R6 (R9 (R6 (Zl hod Qe ?_)))
 rw [if_neg (by simp)];refine R9 ?_
 simp only [show ¬((i:Int) < 0) from by omega,if_false,Uk,Array.getElem?_eq_none hi]
 refine R6 (R6 (U9 hit.typeIs (R9 ?_)))
 refine R6 (m:=setField (.ref it) 0 .none) (X6 ho hd (by simp) ?_)
 refine R6 (m:=adf (.type "StopIteration") []) ?_
 simp only [adf,adg];refine R6 (S8 ?_ (by size_fits))
 refine R6 (m:=Wo _ _) (V7 (a:=Tq) (by first | rfl | (simp only [Wo];rfl)) (S8 ?_ (by size_fits)))
 simp only [adh];refine R6 (Z_ ?_)
 rw [show A.in1.handled=none from hh];refine R6 (R9 (abb ?_))
 exact R6 (Wu (T:="StopIteration") (b:=true) ⟨_,Sk _ rfl,rfl⟩ ZG (R9 (hQ _ (((T3 ..).extBut.push _).push _))))
end
end DL
namespace DL
open PySem PySem.Spec PyProof.Rows L2 DX
noncomputable def N_ (a:Sm) (ep:Nat) (R4:List (Int×V×V)):It:=⟨λi H=>H a=some (kR a ep R4)/\i < R4.length,λi H x H'=>H'=H/\∃p,R4[i]?=some p/\x=p.2.1,λi H=>H a=some (kR a ep R4)/\R4.length<=i⟩
theorem xA {α β:Type}{F:α->β->Prop}:∀{xs:List α}{ys:List β}{i:Nat}(hi:i < ys.length),Yc F xs ys->∃p,xs[i]?=some p/\F p ys[i]
 | _,_,0,_,.cons h _=>⟨_,rfl,h⟩
 | _,_,i + 1,hi,.cons _ t=>xA (i:=i) (by simpa using hi) t
theorem HC {P:Su}{w:S3}{K:R7}{tg:S4}(a it:Sm) (ep:Nat) (R4:List (Int×V×V)):Turn P w K tg (N_ a ep R4) [it] it (λi h=>h.IsKeyIter it a i R4.length ep) where
 mem:=by simp
 obj:=λi h st b hb=>by
  cases Ss.mp hb
  obtain ⟨o,e,c,d⟩:=st
  exact ⟨o,e,λv z=>by rw [d] at z;cases z⟩
 keep:=λi h h' st k=>st.at λo e=>k it (by simp) o e
 item:=by
  rintro X rfl rfl rfl hc i RX s σ H E I hf st ⟨hq,hi⟩
  obtain ⟨o,es,h1,h2,h3,h4⟩:=(show cP X.prog X.w H s.heap a (kR a ep R4) from I.hok a _ hq).1
  have hl:R4.length=es.size:=by have:=h4.length;simpa using this
  obtain ⟨p,hp,er⟩:=xA (i:=i) (by simp;omega) h4
  obtain ⟨f0,f1,f2,f3,f4,f5⟩:=hf it (by simp)
  refine GG (es:=es) (ep:=ep) (hl▸st) h1 h3 (by omega) λh' st' sb=>?_
  have I1:Inv X RX σ H {s with heap:=h'}:=I.turned (t':=s.toks) (λb o hb e=>(sb.2 b hb).trans e) f0 f1 f3 f4 f5
  obtain ⟨oi,e,c,d⟩:=id st'
  exact ⟨_,rfl,yG (s:={s with heap:=h'}) e c d (by decide) ⟨p.2.1,H,I1,by simpa using er.2.1,⟨rfl,p,hp,rfl⟩,by rw [hl];exact st',λb hb=>(hf b hb).1⟩⟩
 done:=by
  rintro X rfl rfl rfl hc i RX s σ H E I hf st ⟨hq,hi⟩
  obtain ⟨o,es,h1,h2,h3,h4⟩:=(show cP X.prog X.w H s.heap a (kR a ep R4) from I.hok a _ hq).1
  have hl:R4.length=es.size:=by have:=h4.length;simpa using this
  obtain ⟨f0,f1,f2,f3,f4,f5⟩:=hf it (by simp)
  exact Jl (es:=es) (ep:=ep) (I.ok.hd hc) (hl▸st) h1 h3 (by omega) λh' eb=>⟨rfl,I.turned (t':=s.toks) (λb o hb e=>eb b o hb e) f0 f1 f3 f4 f5⟩
 self:=λ_ _ _ _ _ st h=>wpAny_pyIter_keyiter st h
section
variable {X:Cx}{c:C}{e tg:S4}{g:G R}
noncomputable def zF (g:G R):G (List D):=λenv=>g env >>= λr=>match ud r with
 | some z=>.ok z.1
 | none=>.bad
theorem Mv {tl:TE}(hl:PE X e tl):PI X tg e (λσ H Q=>tl σ H λx H1=>∃a ep R4,x=.ref a/\(a == V3)=false/\H1 a=some (kR a ep R4)/\Q (N_ a ep R4) H1):=λRX s σ H R I h=>bN (hl RX s σ H _ I h) λv s1 ⟨x,H1,I1,r1,a,ep,R4,ex,hsm,hq,q⟩=>by
 subst ex
 cases r1
 obtain ⟨o,es,h1,h2,h3,h4⟩:=(show cP X.prog X.w H1 s1.heap a (kR a ep R4) from I1.hok a _ hq).1
 have hl:R4.length=es.size:=by have:=h4.length;simpa using this
 refine Gr hsm h1 h2 h3 ⟨s1.heap.objs.size,[s1.heap.objs.size],_,_,H1,rfl,I1.kept (t':=s1.toks) (λb o e=>Sg _ e),HC a _ ep R4,⟨_,Sk _ rfl,rfl,by rw [hl];rfl⟩,λb hb=>?_,q⟩
 cases Ss.mp hb
 exact I1.fpOk (Sj _) (I1.hok.fresh (Sj _))
theorem oV (h:QD X c e g) (hK:X.K=c.K:=by rfl):rR X c tg e (zF g):=have h:=h.h;⟨oQ (Mv h) λσ H Q ⟨J,env,sr,w⟩=>by
 refine ⟨J,env,sr,aE (aI w) λr wr v J1 H1 e1 r1=>?_⟩
 cases hz:ud r with
 | none=>rw [hz] at wr;exact wr.elim
 | some z=>
  rw [hz] at wr
  obtain ⟨a,rfl,us,ws,ep,h1,h2,h3,h4,h5,h6⟩:=r1.dk (sr.hp.ext e1) hz
  have hh:∀ds:List D,(cJ ds).length=ds.length:=λds=>by induction ds with
   | nil=>rfl
   | cons d ds ih=>show (cJ ds).length + 1=_;rw [ih];rfl
  have lk:((cJ z.1).zip (us.zip ws)).length=z.1.length:=by
   rw [abB,abB,hh,<-h2.length,<-h3.length,<-h6];omega
  refine ⟨a,ep,_,rfl,h5,h1,wr _ J1 H1 e1 λi J' H' hp u=>⟨λhl=>⟨u.2 _ _ h1,by omega⟩,λd hd=>?_⟩⟩
  have hi:i < z.1.length:=(SV.mp hd).1
  obtain ⟨x,k1,k2⟩:=h2.get hd
  refine ⟨⟨u.2 _ _ h1,by omega⟩,λy H2 ⟨e,p,hp',hy⟩=>⟨J',by subst e;exact Ext.refl hp.sub,?_⟩⟩
  have:p.2.1=x:=by
   rw [Wt,] at hp'
   have:=(Wt.mp hp'.2).1
   rw [k1] at this
   cases this;rfl
  rw [hy,this]
  exact k2.mono u.1⟩
end
end DL
namespace DL
open PySem PySem.Spec PyProof.Rows L2
section
variable {X:Cx}{c:C}{e:S4}{es:List S4}{g:G R}{pos p:Pos}{x y:Str}
def FU (K:R7) (mg:Str->Option R8) (x:Str):Prop:=∃f,Th K SS x=some (some (.ref f))/\mg x=some (.ref f)
noncomputable def Eo (y:Str) (F:List S->M R) (g:G R):G R:=λenv=>g env >>= λr=>match F [fO r,.fn y] with
 | .ok r=>.ok (lW r)
 | _=>.bad
theorem G_ {k k':Nat}{F:List S->M R}{q:Pos}(G:bI X.prog X.w X.K X.mg X.base k 2 x F) (hv:FU X.K X.mg y) (hr:dc k' X.A) (ha:QD X c e g) (hk:k<=k':=by decide) (hT:c.K=X.K:=by rfl) (hg:Gl X x:=by rfl) (Ry:Gl X y:=by rfl)
  (hdb:(x == ("__debug__":Str))=false:=by decide) (QV:(y == ("__debug__":Str))=false:=by decide) (he:Sl [e,.Name y q] X.env=(false,eval e X.env)::Sl [.Name y q] X.env:=by rfl) (QE:Sl [.Name y q] X.env=(false,eval (.Name y q) X.env)::Sl [] X.env:=by rfl)
  (hpl:(UL pos (Sl [.Name y q] X.env)).any (·.1)=false:=by rfl):QD X c (.Call (.Name x p) [e,.Name y q] [] pos) (Eo y F g):=by
 obtain ⟨f,fd,ps,h1,h2,h3,h4⟩:=G
 obtain ⟨f',h5,h6⟩:=hv
 refine ⟨eW (qX (E:=E0) h1 (hr.mono hk) hg h2 h3 h4 .nil Dc (fc ha.h (fc (BI (v:=.ref f') Ry h6 rfl QV) ig QE) he) hdb he hpl) λσ H Q ⟨J,env,sr,w⟩=>?_⟩
 refine ⟨J,env,sr,aE (aI w) λr wr v J1 H1 e1 r1=>IE hT e1 ?_ rfl wr⟩
 obtain ⟨_,_,e,a1,_⟩:=ki.args (rs:=[r]) (vs:=[v]) (sr.hp.ext e1) ⟨v,[],rfl,r1,rfl⟩
 cases e
 exact ⟨v,_,rfl,a1,_,_,rfl,⟨f',rfl,hT▸h5⟩,rfl⟩
noncomputable def CF (i:Nat) (x:Str) (g g':G R):G R:=λenv=>match env[i]? with
 | some (some (.fn z))=>if z=x then g env else g' env
 | _=>.bad
def CC:G R:=λ_=>.bad
theorem BL:QD X c e CC:=⟨λ_ _ _ _ _ _ ⟨_,_,_,w⟩=>w.elim⟩
theorem Ak (i:Nat){k k' n:Nat}{F:List S->M R}{gs:G (List R)}(G:bI X.prog X.w X.K X.mg X.base k n x F) (hv:FU X.K X.mg x) (hr:dc k' X.A) (ha:i8 X c (e::es) gs) (rest:QD X c (.Call (.Name y p) (e::es) [] pos) g) (hk:k<=k':=by decide) (hT:c.K=X.K:=by rfl)
  (hN:X.N[i]?=some y:=by rfl) (hvs:rS X.env.scope y:=by first | exact Xf rfl | exact V1 (Xf rfl) | exact V1 (V1 rfl)) (hd:(y == ("__debug__":Str))=false:=by decide) (hcd:(y == ("__classdict__":Str))=false:=by decide)
  (he:Sl (e::es) X.env=(false,eval e X.env)::Sl es X.env:=by rfl) (hpl:(UL pos (Sl es X.env)).any (·.1)=false:=by rfl):QD X c (.Call (.Name y p) (e::es) [] pos) (CF i x (gN (aQ n F) gs) g):=by
 refine ⟨λRX s σ H Q I ⟨J,env,sr,w⟩=>?_⟩
 obtain ⟨f,fd,ps,h1,h2,h3,h4⟩:=G
 obtain ⟨f',h5,h6⟩:=hv
 have ef:f'=f:=by rw [h2] at h6;cases h6;rfl
 subst ef
 unfold CF at w
 split at w
 ·rename_i z hz
  split at w
  ·rename_i ez
   subst ez
   obtain ⟨_,hv,_,rfl,q⟩:=sr.at_ i _ hz
   rw [hT,h5] at q
   cases q
   refine WD (bN (kY hN hvs hd hcd RX s σ H (λv H1=>v=.ref f'/\H1=H) I ⟨_,hv,rfl,rfl⟩) λu s1 ⟨x',H1,I1,rx,ev,eh⟩=>?_)
   subst ev eh
   cases rx
   refine ZZ (h₀:=X.base) I1.ok.mod.kin h3 (bN (ha.h pos RX s1 σ H1 _ I1 (zg hT σ H1 Q ⟨J,env,sr,w⟩)) λus s2 ⟨vs,H2,I2,r,q⟩=>⟨I2.kIn,?_⟩) he hpl
   exact Ff h1 (hr.mono hk) h4 .nil Dc I2 r q
  ·exact rest.h RX s σ H Q I ⟨J,env,sr,w⟩
 ·exact w.elim
end
end DL
namespace K33
open PySem DL
def DI:List Str:=["pairing","pair"]
def Et:G O:=(bJ (gN (aQ 1 K23.gP) (aq (g2 cR (af 0) (bD (aC (af 1) aV))) aG)))
def pK (as:List S):M R:=fin (Et (bq DI as))
def rQ:List Str:=["one","other","side","point"]
noncomputable def sy:G O:=(aM (bS (bC (g2 (cL false) (af 2) (gC (.int 0)))) (bJ (bK 1 [3] (cg (aq (g2 aZ (af 1) (gC (.int 0))) aG)) (aA 0) cI (bD (aC (af 1) (aC (af 0) aV))))) dJ)
 (bJ (bK 1 [3] (cg (aq (g2 aZ (af 0) (gC (.int 0))) aG)) (aA 0) cI (bD (aC (af 0) (aC (af 1) aV))))))
def gm (as:List S):M R:=fin (sy (bq rQ as))
def wU:List Str:=["one","other"]
noncomputable def xq:G O:=(bJ (g2 d_ (bK 1 [] (cg (aq (g2 aZ (af 0) (gC (.int 0))) aG)) (aA 0) cI (bD (aC (gC (.int 0)) (aC (af 0) aV)))) (bK 1 [] (cg (aq (g2 aZ (af 1) (gC (.int 0))) aG)) (aA 0) cI (bD (aC (gC (.int 1)) (aC (af 0) aV))))))
def lK (as:List S):M R:=fin (xq (bq wU as))
def wQ:List Str:=["one","other","pairing","known","grown"]
noncomputable def xm:G O:=(aM (bg 4 (kK 2 [0,1,2] (cg (aq (g2 aZ (af 0) (gC (.int 0))) aG)) (aA 0) cI (jf (gN (aQ 4 K33.gm) (aq (af 2) (aq (af 3) (aq (gC (.int 0)) (aq (af 0) aG)))))) (aA 1) cI (af 1) (gN (aQ 2 K33.pK) (aq (af 4) (aq (af 1) aG)))))
 (bJ (bK 2 [0,1,4,3] (eY (gN (aQ 2 K33.lK) (aq (af 0) (aq (af 1) aG)))) (dh 2 (bw (aA 0) (bw (aA 1) dz))) cI (bK 1 [4,5] (eY (gN (aQ 4 K33.gm) (aq (af 2) (aq (af 3) (aq (af 0) (aq (af 1) aG)))))) (aA 0) (bC (g2 (vS false) (g2 jd (af 1) (af 0)) (af 2))) (g2 jd (af 1) (af 0))))))
def lI (as:List S):M R:=fin (xm (bq wQ as))
def lN:List Str:=["rows","depths"]
noncomputable def l_:G O:=(bJ (gN oz (aq (bK 1 [1] (eY (af 0)) (aA 0) cI (gN zD (aq (bK 1 [1] (eY (af 0)) (aA 0) cI (g2 (kT false) (g2 jd (af 1) (af 0)) (gC .non))) aG))) aG)))
def dY (as:List S):M R:=fin (l_ (bq lN as))
def vG:List Str:=["rows","stays","depths","depth","gone","pairing"]
noncomputable def vX:G O:=(aM (bg 2 (iO 1 [] (zF (af 0)) (aA 0) cI (af 0) (gC .non)))
 (aM (bg 3 (gC (.int 1)))
 (aM (bg 4 (bK 1 [1,0,2] (zF (af 0)) (aA 0) (gZ (bC (CF 1 "answered_still" (gN (aQ 2 K33.dY) (aq (g2 jd (af 2) (af 0)) (aq (af 3) aG))) CC))) (af 0)))
 (aM (zH 400000 (p6 (af 4)) (aM (fW 4 (dO (jf (af 4)) (aA 5) (zG 2 (af 5) (af 3))))
 (aM (vV 3 zC (gC (.int 1)))
 (bg 4 (bK 1 [2,1,0] (zF (af 0)) (aA 0) (jC (bC (g2 (kT false) (g2 jd (af 1) (af 0)) (gC .non))) (gZ (bC (CF 2 "answered_still" (gN (aQ 2 K33.dY) (aq (g2 jd (af 3) (af 0)) (aq (af 1) aG))) CC)))) (af 0))))))
 (bJ (af 2))))))
def m9 (as:List S):M R:=fin (vX (bq vG as))
def m_:List Str:=["one","other","base"]
noncomputable def nB:G O:=(bJ (bK 1 [2] (eY (gN (aQ 3 K23.lJ) (aq (af 0) (aq (af 1) (aq (gC (.int 4)) aG))))) (aA 0) (bC (gN oz (aq (bK 1 [0] (eY (af 1)) (aA 0) cI (g2 (ie false) (af 0) (af 1))) aG))) (af 0)))
def gO (as:List S):M R:=fin (nB (bq m_ as))
def lO:List Str:=["one","other","base","known","rows"]
noncomputable def mh:G O:=(aM (bg 3 (iO 1 [] (eY (gN (aQ 3 K33.gO) (aq (af 0) (aq (af 1) (aq (af 2) aG))))) (aA 0) cI (af 0) (gC (.bl true))))
 (aM (bg 4 (iO 1 [0,1,3] (zF (af 3)) (aA 0) cI (af 0) (gN (aQ 4 K33.lI) (aq (af 1) (aq (af 2) (aq (af 0) (aq (af 3) aG)))))))
 (bJ (Eo "answered_still" K33.m9 (af 4)))))
def gy (as:List S):M R:=fin (mh (bq lO as))
def tY:List Str:=["_law_pairs","_law_pair"]
def uH:G O:=(bJ (gN cS (aq (gN f7 (aq (g2 cR (af 0) (bD (aC (af 1) aV))) aG)) aG)))
def kj (as:List S):M R:=fin (uH (bq tY as))
end K33
namespace K33
open PySem DL K01 WP K51 K52 K55 K23
abbrev Ps:=List (Nat×Nat)
section
variable {κ:Type}{rows:κ->List (List κ)}{i j d e:Nat}{k:κ}{ks:List κ}
noncomputable def LY (rows:κ->List (List κ)):Nat->κ->Bool
 | 0,_=>true
 | j + 1,k=>LY rows j k && (rows k).all λr=>r.any (LY rows j)
theorem vE:LY rows (j + 1) k=true↔LY rows j k=true/\∀r∈rows k,∃x∈r,LY rows j x=true:=by
 show (LY rows j k && _)=true↔_
 simp only [Sf,SW,U7]
theorem qN (h:i<=j) (q:LY rows j k=true):LY rows i k=true:=by
 induction h with
 | refl=>exact q
 | step _ ih=>exact ih (vE.mp q).1
def dA (rows:κ->List (List κ)) (d:Nat) (k:κ):Option Nat:=(Sh (d + 1)).find? λj=>!LY rows j k
theorem jB:dA rows d k=none↔LY rows d k=true:=by
 unfold dA
 rw [WR]
 constructor
 ·intro h;simpa using h d (by simp)
 ·intro h j hj
  rw [qN (by have:=Sy.mp hj;omega) h]
  decide
theorem Ji (h:dA rows d k=some e):LY rows e k=false/\∀i,i < e->LY rows i k=true:=by
 obtain ⟨h1,_,h2⟩:=VP.mp h
 exact ⟨by simpa using h1,λi hi=>by simpa using h2 i hi⟩
theorem Jj:dA rows (d + 1) k=if (LY rows d k && !LY rows (d + 1) k)=true then some (d + 1) else dA rows d k:=by
 have e:dA rows (d + 1) k=(dA rows d k).or ([d + 1].find? λj=>!LY rows j k):=by
  show (Sh (d + 1 + 1)).find? _=_
  rw [XM,List.find?_append];rfl
 rw [e]
 cases q:dA rows d k with
 | none=>
  rw [jB.mp q]
  cases z:LY rows (d + 1) k <;> simp [List.find?,z]
 | some e=>
  have:LY rows d k=false:=by
   cases z:LY rows d k with
   | false=>rfl
   | true=>rw [jB.mpr z] at q;cases q
  rw [this];rfl
theorem Hz (hc:∀k∈ks,∀r∈rows k,∀x∈r,x∈ks) (h:∀k∈ks,LY rows d k=true->LY rows (d + 1) k=true):∀j,∀k∈ks,LY rows d k=true->LY rows j k=true
 | 0,_,_,_=>rfl
 | j + 1,k,hk,q=>vE.mpr ⟨Hz hc h j k hk q,λr hr=>by
  obtain ⟨x,h1,h2⟩:=(vE.mp (h k hk q)).2 r hr
  exact ⟨x,h1,Hz hc h j x (hc k hk r hr x h1) h2⟩⟩
noncomputable def Of (o:Option Nat) (j:Nat):Bool:=match o with
 | none=>true
 | some e=>decide (j < e)
theorem LC (hs:∀j,LY rows d k=true->LY rows j k=true):Of (dA rows d k) j=LY rows j k:=by
 cases q:dA rows d k with
 | none=>exact (hs j (jB.mp q)).symm
 | some e=>
  obtain ⟨h1,h2⟩:=Ji q
  show decide (j < e)=_
  by_cases c:j < e
  ·rw [h2 j c,decide_eq_true c]
  ·cases z:LY rows j k with
   | false=>exact decide_eq_false c
   | true=>rw [qN (by omega) z] at h1;cases h1
theorem yx {rows':κ->List (List κ)}(hc:∀k∈ks,∀r∈rows k,∀x∈r,x∈ks) (he:∀k∈ks,rows k=rows' k):∀j,∀k∈ks,LY rows j k=LY rows' j k
 | 0,_,_=>rfl
 | j + 1,k,hk=>by
  rw [Ui,vE,vE,yx hc he j k hk,<-he k hk]
  refine and_congr adB ⟨λh r hr=>?_,λh r hr=>?_⟩ <;> obtain ⟨x,h1,h2⟩:=h r hr <;> refine ⟨x,h1,?_⟩
  ·rw [<-yx hc he j x (hc k hk r hr x h1)];exact h2
  ·rw [yx hc he j x (hc k hk r hr x h1)];exact h2
end
def qI (ps:Ps):Ps:=(cY (ps.map dP)).map iU
theorem vq (ps:Ps):∀d∈ps.map dP,iy pF d:=λd hd=>by obtain ⟨x,_,rfl⟩:=Sb.mp hd;exact nC x
theorem qJ (ps:Ps):(qI ps).map dP=cY (ps.map dP):=back dP iU jo λd hd=>by
 obtain ⟨x,_,rfl⟩:=Sb.mp ((mJ (eE pF) (vq ps)).2 d hd);exact ⟨x,rfl⟩
theorem H_ {p:Nat×Nat}{ps:Ps}:dP p∈ps.map dP↔p∈ps:=by
 rw [Sb]
 exact ⟨λ⟨q,h,e⟩=>by rw [<-jo p,<-e,jo];exact h,λh=>⟨p,h,rfl⟩⟩
theorem qV {ps:Ps}{q:Nat×Nat}:q∈qI ps↔q∈ps:=by
 rw [<-H_,qJ,(lE (eE pF) (vq ps)).2,H_]
theorem AB (ps:Ps):(qI ps).Pairwise iP:=by
 have:=(lE (eE pF) (vq ps)).1
 rw [<-qJ,S9] at this
 exact this.imp fun {a b} h=>(yJ a b).mp h
theorem Nh {A B:Ps}(hA:A.Pairwise iP) (hB:B.Pairwise iP) (h:∀y,y∈A↔y∈B):A=B:=by
 have up:∀{C:Ps},C.Pairwise iP->(C.map dP).Pairwise λa b=>d9 a b=true:=fun {C} hC=>S9.mpr (hC.imp fun {a b} h=>(yJ a b).mpr h)
 have e:=AH (eE pF) (vq A) (up hA) (up hB) λy=>by
  rw [Sb,Sb]
  exact ⟨λ⟨q,a,b⟩=>⟨q,(h q).mp a,b⟩,λ⟨q,a,b⟩=>⟨q,(h q).mpr a,b⟩⟩
 have:=congrArg (aa2 iU) e
 simpa only [SN,aaJ,jo,List.map_id'] using this
section
variable {v w:Wd}{ps qs S:Ps}{p:Nat×Nat}{n j:Nat}
structure A8 (v w:Wd) (S:Ps):Prop where
 ag:∀p∈S,∀q∈S,wL v w p q
 rg:∀p∈S,pM v w p
theorem A8.sub (h:A8 v w S) (hs:∀p∈ps,p∈S):A8 v w ps:=⟨λp hp q hq=>h.ag p (hs p hp) q (hs q hq),λp hp=>h.rg p (hs p hp)⟩
theorem Bu (g:Good v w ps):ps.Pairwise iP:=g.up.imp λh=>.inl h
theorem zI (hu:ps.Pairwise iP):Good v w ps↔A8 v w ps:=⟨λg=>⟨g.ag,g.rg⟩,λf=>⟨hu.imp_of_mem fun {a b} ha hb h=>by
 have:=(f.ag a ha b hb).eq
 unfold iP at h
 omega,f.ag,f.rg⟩⟩
theorem kW (g:Good v w ps):ps.length<=v.m:=by
 have h:=SH (l₁:=ps.map Tr) (l₂:=Sh v.m) (S9.mpr (g.up.imp λh=>by omega)) λx hx=>by
  obtain ⟨p,hp,rfl⟩:=Sb.mp hx
  exact Sy.mpr (g.rg p hp).1
 simpa using h
abbrev T4 (v w:Wd):List Ps:=told v w 4
theorem qU (t:Pr v w):ps∈T4 v w↔Good v w ps:=by
 rw [rC]
 constructor
 ·rintro ⟨j,_,h⟩;exact ((ql j).mp h).2
 ·intro g;exact ⟨ps.length,S7 (kW g) t.v4,(ql _).mpr ⟨rfl,g⟩⟩
theorem HP (v w:Wd):∀j,(LG v w j).Nodup
 | 0=>Vc _ _
 | j + 1=>by
  refine Zj.mpr ⟨λah _=>S9.mpr ?_,(HP v w j).imp_of_mem fun {a b} _ _ hab x hx y hy e=>?_⟩
  ·exact (((oK v.m w.m).filter _).filter _).imp λh e=>h (by simpa using e)
  ·obtain ⟨p,_,rfl⟩:=Sb.mp hx
   obtain ⟨q,_,rfl⟩:=Sb.mp hy
   exact hab (List.append_inj' e rfl).1
theorem BW (v w:Wd):∀j,(told v w j).Nodup
 | 0=>Vc _ _
 | j + 1=>VN.mpr ⟨BW v w j,HP v w (j + 1),λa ha b hb e=>by
  obtain ⟨i,hi,h⟩:=(rC j).mp ha
  have h1:=(tN i h).1
  have h2:=(tN (j + 1) hb).1
  rw [e] at h1
  omega⟩
def dU (ps:Ps) (p:Nat×Nat):Ps:=qI (ps++[p])
theorem jF {q:Nat×Nat}:q∈dU ps p↔q∈ps\/q=p:=by unfold dU;rw [qV];simp
theorem Ci (t:Pr v w):dU ps p∈T4 v w↔A8 v w (ps++[p]):=by
 rw [qU t,dU,zI (AB _)]
 exact ⟨λh=>h.sub λq hq=>qV.mpr hq,λh=>h.sub λq hq=>qV.mp hq⟩
def kn (v w:Wd) (B:Ps):List Ps:=(T4 v w).filter λps=>B.all λq=>decide (q∈ps)
theorem kX {B:Ps}:ps∈kn v w B↔ps∈T4 v w/\∀q∈B,q∈ps:=by
 unfold kn
 rw [Te,SW]
 simp
def picks (v w:Wd):Ps:=(Sh v.m).map (λa=>(0,a))++(Sh w.m).map λb=>(1,b)
def mC (v w:Wd) (k:Nat×Nat):Ps:=if k.1=0 then (Sh w.m).map λb=>(k.2,b) else (Sh v.m).map λa=>(a,k.2)
def RW (v w:Wd) (B ps:Ps):List (List Ps):=(picks v w).map λk=>((mC v w k).map (dU ps)).filter λx=>decide (x∈kn v w B)
theorem Cd {B:Ps}:∀k∈kn v w B,∀r∈RW v w B k,∀x∈r,x∈kn v w B:=λk _ r hr x hx=>by
 obtain ⟨_,_,rfl⟩:=Sb.mp hr
 simpa using (Te.mp hx).2
theorem Ni {B:Ps}:∀k∈kn v w B,RW v w B k=RW v w [] k:=λk hk=>Vi λa _=>List.filter_congr λx hx=>by
 obtain ⟨p,_,rfl⟩:=Sb.mp hx
 rw [Ui,decide_eq_true_eq,decide_eq_true_eq,kX,kX]
 exact ⟨λh=>⟨h.1,λ_ h=>nomatch h⟩,λh=>⟨h.1,λq hq=>jF.mpr (.inl ((kX.mp hk).2 q hq))⟩⟩
def La (v w:Wd) (j:Nat) (ps:Ps):Bool:=LY (RW v w []) j ps
theorem Ov {B:Ps}(h:ps∈kn v w B):LY (RW v w B) j ps=La v w j ps:=yx Cd Ni j ps h
theorem B9:La v w (j + 1) ps=true↔La v w j ps=true/\∀k∈picks v w,∃p∈mC v w k,dU ps p∈T4 v w/\La v w j (dU ps p)=true:=by
 show LY _ (j + 1) ps=true↔_
 rw [vE]
 refine and_congr adB ⟨λh k hk=>?_,λh r hr=>?_⟩
 ·obtain ⟨x,h1,h2⟩:=h _ (Sb.mpr ⟨k,hk,rfl⟩)
  obtain ⟨h3,h4⟩:=Te.mp h1
  obtain ⟨p,h5,rfl⟩:=Sb.mp h3
  exact ⟨p,h5,(kX.mp (of_decide_eq_true h4)).1,h2⟩
 ·obtain ⟨k,hk,rfl⟩:=Sb.mp hr
  obtain ⟨p,h1,h2,h3⟩:=h k hk
  exact ⟨_,Te.mpr ⟨Sb.mpr ⟨p,h1,rfl⟩,decide_eq_true (kX.mpr ⟨h2,λ_ h=>nomatch h⟩)⟩,h3⟩
end
end K33
namespace K33
open PySem DL K01 WP K51 K52 K55 K23 K22
section
variable {α:Type} [DecidableEq α] {e:α->D}{f:α->D}{ks:List α}{k:α}{d:D}
theorem nG (he:∀a b,bu (e a) (e b)=decide (a=b)) (f:α->D):∀(ks:List α) (k:α),f_ (ks.map e) (ks.map f) (e k)=if k∈ks then some (f k) else none
 | [],_=>rfl
 | a::ks,k=>by
  rw [Sw,Sw,f_,he,nG he f ks k]
  by_cases h:a=k
  ·subst h;simp
  ·rw [if_neg (by simpa using h)]
   simp [U_ h]
theorem BK (he:∀a b,bu (e a) (e b)=decide (a=b)) (f:α->D) (k:α) (d:D):∀ks:List α,wC (ks.map e) (ks.map f) (e k) d=ks.map λx=>if x=k then d else f x
 | []=>rfl
 | a::ks=>by
  rw [Sw,Sw,wC,he,BK he f k d ks,Sw]
  simp only [decide_eq_true_eq]
theorem F_ (he:∀a b,bu (e a) (e b)=decide (a=b)) (hk:k∈ks):dput (ks.map e,ks.map f) (e k) d=(ks.map e,ks.map λx=>if x=k then d else f x):=by
 unfold dput
 simp only
 rw [nG he,if_pos hk,BK he]
 rfl
theorem vR (he:∀a b,bu (e a) (e b)=decide (a=b)) (f:α->D):∀(n:Nat) (ks:List α),ks.length=n->ks.Nodup->iN (ks.map λk=>D.tup [e k,f k])=(ks.map e,ks.map f)
 | 0,ks,h,_=>by rw [UI.mp h];rfl
 | n + 1,ks,h,nd=>by
  rcases UX ks with rfl | ⟨qs,p,rfl⟩
  ·cases h
  ·rw [UY] at h nd ⊢
   have nd':=VN.mp nd
   have hp:p∉qs:=λhq=>nd'.2.2 p hq p (by simp) rfl
   rw [SM,SM,SM,Sw,Xe,oj,vR he f n qs (by simpa using h) nd'.1]
   unfold dput
   simp only
   rw [nG he,if_neg hp]
   rfl
end
theorem kB (a b:Ps):bu (a_ a) (a_ b)=decide (a=b):=by
 show cB (a.map dP) (b.map dP)=_
 induction a generalizing b with
 | nil=>cases b <;> simp [cB]
 | cons x a ih=>
  cases b with
  | nil=>simp [cB]
  | cons y b=>rw [Sw,Sw,gR,ih,K55.w_,Ui];simp
theorem B7 (ps:Ps) (hl:ps.length < 64):gP [.d (a_ ps)]=.ok (.d (a_ (qI ps))):=by
 refine cH (dM (dB (b:=false) rfl rfl rfl) (bP (n1 (n1 (x:=.d (a_ ps)) (z:=.l .fresh (cY (ps.map dP))) rfl (Hu ps hl)) rfl) rfl ?_))
 rw [<-qJ]
theorem Fq {ps:Ps}(h:ps.Pairwise iP):qI ps=ps:=Nh (AB ps) h λ_=>qV
theorem D8 (ps:Ps) (p:Nat×Nat) (hl:ps.length < 63):cR (.d (a_ ps)) (.d (.tup [dP p]))=.ok (.d (a_ (ps++[p]))):=by
 rw [a_,rB _ _ (by simp;omega),a_,SM];rfl
theorem IM (ps:Ps) (p:Nat×Nat) (hl:ps.length < 63):pK [.d (a_ ps),.d (dP p)]=.ok (.d (a_ (dU ps p))):=
 cH (bP (c1 (two rfl (bx (aJ rfl rfl br) (by show 1<=1000;decide)) (D8 ps p hl)) (B7 _ (by simp;omega))) rfl rfl)
theorem K6 (ps:Ps) (p:Nat×Nat) (hl:ps.length < 63):kj [.d (a_ ps),.d (dP p)]=.ok (.d (a_ (dU ps p))):=by
 refine cH (bP (n1 (n1 (two rfl (bx (aJ rfl rfl br) (by show 1<=1000;decide)) (D8 ps p hl)) (Hu _ (by simp;omega))) rfl) rfl ?_)
 rw [<-qJ];rfl
section
variable {v w:Wd}
theorem K2 (hv:v.m<=1000) (hw:w.m<=1000) (s x:Nat):gm [.d v.d,.d w.d,.d (.int s),.d (.int x)]=.ok (.l .fresh ((mC v w (s,x)).map dP)):=by
 have hb:cL false (.d (.int (s:Int))) (.d (.int 0))=.ok (.d (.bl (decide (s=0)))):=by
  rw [K01.eq_int]
  congr 3
  rw [Ui];simp
 unfold mC
 by_cases h:s=0
 ·rw [if_pos h,SN]
  exact cH (cu (gA (dB rfl rfl (hb.trans (by rw [decide_eq_true h]))) (bP (mR (λb=>dP (x,b)) (jj (eG (two rfl rfl (f9 _ _))) hw) (by simp;omega) λb _=>⟨_,bx (aJ rfl rfl (aJ rfl rfl br)) t2,rfl⟩) rfl rfl)))
 ·rw [if_neg h,SN]
  exact cH (dM (dB rfl rfl (hb.trans (by rw [decide_eq_false h]))) (bP (mR (λa=>dP (a,x)) (jj (eG (two rfl rfl (f9 _ _))) hv) (by simp;omega) λb _=>⟨_,bx (aJ rfl rfl (aJ rfl rfl br)) t2,rfl⟩) rfl rfl))
theorem IS (hv:v.m<=1000) (hw:w.m<=1000):lK [.d v.d,.d w.d]=.ok (.l .fresh ((picks v w).map dP)):=by
 refine cH (bP (two (mR (λa=>dP (0,a)) (jj (eG (two rfl rfl (f9 _ _))) hv) (by simp;omega) λb _=>⟨_,bx (aJ rfl rfl (aJ rfl rfl br)) t2,rfl⟩) (mR (λa=>dP (1,a)) (jj (eG (two rfl rfl (f9 _ _))) hw) (by simp;omega) λb _=>⟨_,bx (aJ rfl rfl (aJ rfl rfl br)) t2,rfl⟩) (z:=.l .fresh ((picks v w).map dP)) ?_) rfl rfl)
 unfold picks
 rw [SM,SN,SN]
 show (if _<=sizeLine then _ else M.bad)=_
 rw [if_pos (by rw [Ud];simp;omega)]
 rfl
end
section
variable {α:Type} [DecidableEq α] {e f:α->D}{ks:List α}{k:α}{env:Ev}
theorem Od {act:Ev->M (List D×Ev)}{h f:α->D}{rest:Ev}:∀(ys:List α),(∀y∈ys,act (some (.d (h y))::rest)=.ok ([f y],some (.d (h y))::rest))->∀z:Option S,∃z',bW (aA 0) cI act (ys.map h) (z::rest)=.ok (ys.map f,z'::rest)
 | [],_,z=>⟨z,rfl⟩
 | y::ys,H,z=>by
  obtain ⟨z',ih⟩:=Od ys (λy hy=>H y (Sd _ hy)) (some (.d (h y)))
  refine ⟨z',?_⟩
  rw [Sw]
  unfold bW
  show (act (some (.d (h y))::rest) >>= _)=_
  rw [H y Se,aP]
  show (bW (aA 0) cI act (ys.map h) (some (.d (h y))::rest) >>= _)=_
  rw [ih]
  rfl
theorem zq {cap:List Nat}{gi:G (List D)}{gk gv:G R}(he:∀a b,bu (e a) (e b)=decide (a=b)) (nd:ks.Nodup) (hi:gi env=.ok (ks.map e)) (hl:ks.length<=1000000)
  (hb:∀k∈ks,dH (e k)=true/\gk (some (.d (e k))::cE 0 cap env)=.ok (.d (e k))/\∃r,gv (some (.d (e k))::cE 0 cap env)=.ok r/\toD r=.ok (f k)):iO 1 cap gi (aA 0) cI gk gv env=.ok (.mf (ks.map e) (ks.map f)):=by
 obtain ⟨z,h⟩:=Od (act:=sR gk gv) (h:=e) (f:=λk=>.tup [e k,f k]) (rest:=cE 0 cap env) ks (λk hk=>by
  obtain ⟨h1,h2,r,h3,h4⟩:=hb k hk
  exact vI h2 rfl h3 h4 h1) none
 unfold iO je
 rw [hi,aP,if_pos (by rw [Sa];exact hl)]
 show (bW (aA 0) cI (sR gk gv) (ks.map e) (none::cE 0 cap env) >>= _)=_
 rw [h]
 show M.ok (R.mf (iN _).1 (iN _).2)=_
 rw [vR he f _ ks rfl nd]
theorem qP (he:∀a b,bu (e a) (e b)=decide (a=b)){x:R}(hx:ud x=some (ks.map e,ks.map f)) (ok:dH (e k)=true) (hk:k∈ks):jd x (.d (e k))=.ok (.d (f k)):=by
 unfold jd
 rw [hx]
 simp only
 rw [if_pos ok,nG he,if_pos hk]
theorem Jw (he:∀a b,bu (e a) (e b)=decide (a=b)){x:R}(hx:ud x=some (ks.map e,ks.map f)) (ok:dH (e k)=true){q:Decidable (k∈ks)}:vS false (.d (e k)) x=.ok (.d (.bl (@decide (k∈ks) q))):=by
 unfold vS
 rw [hx]
 simp only
 rw [if_pos ok,nG he]
 by_cases h:k∈ks <;> simp [h]
end
theorem anyM {α:Type}(f:α->Bool) (xs:List α):zD [.l .fresh (xs.map λx=>.bl (f x))]=.ok (.d (.bl (xs.any f))):=by
 have:=vL (λd=>match d with
  | .bl b=>b
  | _=>false) (xs.map λx=>.bl (f x))
 rw [SN,SN] at this
 unfold zD
 show (match jN (xs.map λx=>.bl (f x)) with
  | some ks=>M.ok (R.d (.bl (ks.any id)))
  | none=>.bad)=_
 rw [show jN (xs.map λx=>.bl (f x))=some (xs.map f) from this]
 simp [Zb]
section
variable {v w:Wd}
abbrev Ar (r:List Ps):D:=.lst (r.map a_)
theorem Nf (t:Pr v w) (ks:List Ps) (ps:Ps) (hl:ps.length < 63):lI [.d v.d,.d w.d,.d (a_ ps),.db (ks.map a_) (ks.map λ_=>.bl true)]=.ok (.l .fresh (((picks v w).map λk=>((mC v w k).map (dU ps)).filter λx=>decide (x∈ks)).map Ar)):=by
 have v4:=t.v4
 have w4:=t.w4
 have hg:kK 2 [0,1,2] (cg (aq (g2 aZ (af 0) (gC (.int 0))) aG)) (aA 0) cI (jf (gN (aQ 4 K33.gm) (aq (af 2) (aq (af 3) (aq (gC (.int 0)) (aq (af 0) aG)))))) (aA 1) cI (af 1) (gN (aQ 2 K33.pK) (aq (af 4) (aq (af 1) aG)))
   [some (.d v.d),some (.d w.d),some (.d (a_ ps)),some (.db (ks.map a_) (ks.map λ_=>.bl true)),none]=.ok (.d (.dct ((d7 v.m w.m).map dP) ((d7 v.m w.m).map λq=>a_ (dU ps q)))):=by
  refine (yz (xs:=Sh v.m) (h:=dN) (h':=dP) (λa=>(Sh w.m).map λb=>(a,b)) (λ_ _=>true) (λ_ q=>.tup [dP q,a_ (dU ps q)]) (jj (eG (two rfl rfl (f9 _ _))) (by omega)) (by simp;omega) λa ha=>⟨by simp;omega,λz=>?_,λq hq=>⟨rfl,λ_=>vI rfl rfl (c2 rfl rfl (IM ps q hl)) rfl rfl⟩⟩).trans ?_
  ·show (gN _ _ _ >>= _)=_
   rw [c4 rfl rfl rfl rfl (K2 (v:=v) (w:=w) (by omega) (by omega) 0 a)]
   rfl
  ·have e:((Sh v.m).flatMap λa=>(((Sh w.m).map λb=>(a,b)).filter λ_=>true).map λq=>D.tup [dP q,a_ (dU ps q)])=(d7 v.m w.m).map λq=>D.tup [dP q,a_ (dU ps q)]:=by
    unfold d7
    rw [Xp]
    congr 1
    funext a
    rw [ZT.mpr λ_ _=>rfl]
   rw [e]
   show M.ok (R.d (.dct (iN _).1 (iN _).2))=_
   rw [vR K55.w_ _ _ _ rfl (oK v.m w.m)]
 refine cH (bB hg rfl (bP (kr (xs:=picks v w) (λk=>dN k.1) (λk=>dN k.2) (λk=>Ar (((mC v w k).map (dU ps)).filter λx=>decide (x∈ks))) ?_ (by unfold picks;simp;omega) λk hk=>?_) rfl (by rw [SN];rfl)))
 ·show (gN _ _ _ >>= _)=_
  rw [c2 rfl rfl (IS (v:=v) (w:=w) (by omega) (by omega))]
  rfl
 ·have hin:∀q∈mC v w k,q∈d7 v.m w.m:=λq hq=>by
   rw [oJ]
   have hk:(k.1=0/\k.2 < v.m)\/(k.1≠0/\k.2 < w.m):=by
    unfold picks at hk
    simp only [S0,Sb,Sy] at hk
    rcases hk with ⟨a,h,rfl⟩ | ⟨a,h,rfl⟩
    ·exact .inl ⟨rfl,h⟩
    ·exact .inr ⟨Nat.one_ne_zero,h⟩
   unfold mC at hq
   rcases hk with ⟨h1,h2⟩ | ⟨h1,h2⟩
   ·rw [if_pos h1] at hq
    obtain ⟨b,hb,rfl⟩:=Sb.mp hq
    exact ⟨h2,Sy.mp hb⟩
   ·rw [if_neg h1] at hq
    obtain ⟨b,hb,rfl⟩:=Sb.mp hq
    exact ⟨Sy.mp hb,h2⟩
  refine ⟨.l .fresh (((((mC v w k).map (dU ps)).filter λx=>decide (x∈ks))).map a_),?_,rfl⟩
  rw [abA,SN]
  refine lR (xs:=mC v w k) (h:=dP) (λq=>decide (dU ps q∈ks)) (λq=>a_ (dU ps q)) ?_ (by unfold mC;split <;> simp <;> omega) λq hq=>?_
  ·show (gN _ _ _ >>= _)=_
   rw [c4 rfl rfl rfl rfl (K2 (v:=v) (w:=w) (by omega) (by omega) k.1 k.2)]
   rfl
  ·have hd:=qP (e:=dP) (f:=λq=>a_ (dU ps q)) K55.w_ (x:=.d (.dct ((d7 v.m w.m).map dP) ((d7 v.m w.m).map λq=>a_ (dU ps q)))) rfl (k:=q) rfl (hin q hq)
   exact ⟨dB (two rfl rfl hd) rfl (Jw (ks:=ks) (f:=λ_=>.bl true) kB (x:=.mb (ks.map a_) (ks.map λ_=>.bl true)) rfl (jh (dU ps q))),λ_=>⟨_,two rfl rfl hd,rfl⟩⟩
end
noncomputable def dV:Option Nat->D
 | none=>.non
 | some e=>.int e
theorem CK (o:Option Nat):kT false (.d (dV o)) (.d .non)=.ok (.d (.bl o.isNone)):=by cases o <;> rfl
theorem IU (rs:List (List Ps)) (ks:List Ps) (f:Ps->Option Nat) (h:∀r∈rs,∀x∈r,x∈ks) (h1:rs.length<=1000) (h2:∀r∈rs,r.length<=1000):dY [.d (.lst (rs.map Ar)),.db (ks.map a_) (ks.map λk=>dV (f k))]=.ok (.d (.bl (rs.all λr=>r.any λx=>(f x).isNone))):=by
 refine cH (bP (n1 (mR (xs:=rs) (h:=Ar) (λr=>.bl (r.any λx=>(f x).isNone)) rfl (by omega) λr hr=>⟨_,n1 (mR (xs:=r) (h:=a_) (λx=>.bl (f x).isNone) rfl (by have:=h2 r hr;omega) λx hx=>⟨_,two (two rfl rfl (qP (f:=λk=>dV (f k)) kB rfl (jh x) (h r hr x hx))) rfl (CK (f x)),rfl⟩) (anyM _ r),rfl⟩) (allM _ rs)) rfl rfl)
theorem part {κ:Type}{p q:κ->Bool}(h:∀k,q k=true->p k=true):∀l:List κ,(l.filter p).length=(l.filter q).length + (l.filter λk=>p k && !q k).length
 | []=>rfl
 | a::l=>by
  have ih:=part h l
  cases hq:q a with
  | true=>simp [h a hq,hq];omega
  | false=>cases hp:p a <;> simp [hp,hq] <;> omega
abbrev xO (rows:Ps->List (List Ps)) (k:Ps):D:=.lst ((rows k).map Ar)
abbrev eP (ks:List Ps) (rows:Ps->List (List Ps)) (f:Ps->Option Nat) (d:Nat) (g z:Option S):Ev:=[some (.db (ks.map a_) (ks.map (xO rows))),some (.fn "answered_still"),some (.dk (ks.map a_) (ks.map λk=>dV (f k))),some (.d (.int d)),g,z]
section
variable {ks:List Ps}{rows:Ps->List (List Ps)}
theorem FT (nd:ks.Nodup) (hl:ks.length<=390000) (hc:∀k∈ks,∀r∈rows k,∀x∈r,x∈ks) (h1:∀k∈ks,(rows k).length<=1000) (h2:∀k∈ks,∀r∈rows k,r.length<=1000):
  ∃d,m9 [.db (ks.map a_) (ks.map (xO rows)),.fn "answered_still"]=.ok (.mf (ks.map a_) (ks.map λk=>dV (dA rows d k)))/\∀k∈ks,LY rows d k=true->LY rows (d + 1) k=true:=by
 have st:∀d k,k∈ks->dY [.d (xO rows k),.db (ks.map a_) (ks.map λk=>dV (dA rows d k))]=.ok (.d (.bl ((rows k).all λr=>r.any (LY rows d)))):=λd k hk=>by
  rw [IU (rows k) ks (dA rows d) (hc k hk) (h1 k hk) (h2 k hk)]
  congr 4
  funext r
  congr 1
  funext x
  rw [Ui,Option.isNone_iff_eq_none,jB]
 have dx:∀k∈ks,∀x:R,ud x=some (ks.map a_,ks.map (xO rows))->jd x (.d (a_ k))=.ok (.d (xO rows k)):=λk hk x hx=>qP kB hx (jh k) hk
 have key:Wp (vX (bq vG [.db (ks.map a_) (ks.map (xO rows)),.fn "answered_still"])) λo=>∃r,o=.rt r/\∃d,r=.mf (ks.map a_) (ks.map λk=>dV (dA rows d k))/\∀k∈ks,LY rows d k=true->LY rows (d + 1) k=true:=by
  refine bB (zq (e:=a_) (f:=λk=>dV (dA rows 0 k)) (ks:=ks) kB nd rfl (by omega) λk hk=>⟨jh k,rfl,_,rfl,by rw [jB.mpr rfl];rfl⟩) rfl (bB rfl rfl (bB (lR (xs:=ks) (h:=a_) (λk=>LY rows 0 k && !LY rows 1 k) a_ rfl (by omega) λk hk=>⟨?_,λ_=>⟨_,rfl,rfl⟩⟩) rfl ?_))
  ·refine mw (b:=LY rows 1 k) (lF ?_)
   exact (c2 (two rfl rfl (dx k hk _ rfl)) rfl (st 0 k hk)).trans rfl
  ·refine KG (λn env=>∃d z,env=eP ks rows (dA rows d) (d + 1) (some (.own ((ks.filter λk=>LY rows d k && !LY rows (d + 1) k).map a_))) z/\n=(ks.filter (LY rows d)).length) (ks.filter (LY rows 0)).length (by have:=Tp (LY rows 0) ks;omega) ⟨0,none,rfl,rfl⟩ ?_
   rintro n _ ⟨d,z,rfl,rfl⟩
   obtain ⟨g,hg⟩:∃g,g=ks.filter λk=>LY rows d k && !LY rows (d + 1) k:=⟨_,rfl⟩
   rw [<-hg]
   have hm:∀k,k∈g↔k∈ks/\LY rows d k=true/\LY rows (d + 1) k=false:=λk=>by rw [hg,Te];simp
   by_cases h0:g=[]
   ·refine .inl ⟨by rw [h0];rfl,bP rfl rfl ⟨_,rfl,d,rfl,λk hk q=>?_⟩⟩
    cases z:LY rows (d + 1) k with
    | true=>rfl
    | false=>have:=(hm k).mpr ⟨hk,q,z⟩;rw [h0] at this;cases this
   ·refine .inr ⟨?_,?_⟩
    ·show M.ok (!(g.map a_).isEmpty)=_
     cases g with
     | nil=>exact absurd rfl h0
     | cons _ _=>rfl
    have RG:=part (p:=LY rows d) (q:=LY rows (d + 1)) (λk h=>qN (Vw d) h) ks
    rw [<-hg] at RG
    have g0:0 < g.length:=List.length_pos_iff.mpr h0
    refine cu (vA rfl (qS (ds:=g.map a_) rfl (qL (λi env=>∃z,env=eP ks rows (λk=>if k∈g.take i then some (d + 1) else dA rows d k) (d + 1) (some (.d (.lst (g.map a_)))) z) (g.map a_) ⟨z,by simp⟩ ?_ ?_)))
    ·rintro i hi _ ⟨z,rfl⟩
     have hi':i < g.length:=by simpa using hi
     have e:(g.map a_)[i]=a_ g[i]:=U8 ..
     have hk:g[i]∈ks:=((hm _).mp (SK hi')).1
     rw [e]
     have ev:dput (ks.map a_,ks.map λk=>dV (if k∈g.take i then some (d + 1) else dA rows d k)) (a_ g[i]) (.int ((d + 1:Nat):Int))=(ks.map a_,ks.map λk=>dV (if k∈g.take (i + 1) then some (d + 1) else dA rows d k)):=by
      rw [F_ kB hk,X7,Si hi']
      congr 1
      refine Vi λk _=>?_
      simp only [S0,Option.toList_some,Ss]
      by_cases c:k=g[i]
      ·rw [if_pos c,if_pos (.inr c)];rfl
      ·simp only [c,if_false,or_false]
     exact ⟨_,rfl,Nr (ks:=ks.map a_) (vs:=ks.map λk=>dV (if k∈g.take i then some (d + 1) else dA rows d k)) rfl rfl rfl rfl rfl (jh g[i]) (by rw [Sa];omega) ⟨_,rfl,some (.d (a_ g[i])),by rw [ev];rfl⟩⟩
    ·rintro _ ⟨z,rfl⟩
     have ev:(ks.map λk=>dV (if k∈g.take (g.map a_).length then some (d + 1) else dA rows d k))=ks.map λk=>dV (dA rows (d + 1) k):=Vi λk hk=>by
      rw [Sa,Xn,Jj]
      congr 1
      by_cases c:k∈g
      ·rw [if_pos c,if_pos (by obtain ⟨_,a,b⟩:=(hm k).mp c;rw [a,b];rfl)]
      ·rw [if_neg c,if_neg λz=>c ((hm k).mpr ⟨hk,by simpa using z⟩)]
     show Wp _ _
     unfold eP
     rw [ev]
     refine cu (Nq rfl rfl rfl rfl (fu (lR (xs:=ks) (h:=a_) (λk=>LY rows (d + 1) k && !LY rows (d + 1 + 1) k) a_ rfl (by omega) λk hk=>⟨?_,λ_=>⟨_,rfl,rfl⟩⟩) rfl ⟨(ks.filter (LY rows (d + 1))).length,by omega,d + 1,z,rfl,rfl⟩))
     have q1:=qP (f:=λk=>dV (dA rows (d + 1) k)) (ks:=ks) (k:=k) (e:=a_) kB (x:=.mo (ks.map a_) (ks.map λk=>dV (dA rows (d + 1) k))) rfl (jh k) hk
     cases c:LY rows (d + 1) k with
     | false=>
      refine ni (dB (two rfl rfl q1) rfl ((CK _).trans ?_))
      cases z:dA rows (d + 1) k with
      | none=>rw [jB.mp z] at c;cases c
      | some _=>rfl
     | true=>
      rw [jB.mpr c] at q1
      refine iL (dB (two rfl rfl q1) rfl (CK none)) (mw (b:=LY rows (d + 1 + 1) k) (lF ((c2 (two rfl rfl (dx k hk _ rfl)) rfl (st (d + 1) k hk)).trans ?_)))
      show M.ok (R.d (.bl _))=M.ok (R.d (.bl (LY rows (d + 1) k && _)))
      rw [c];rfl
 obtain ⟨r,h,d,rfl,hs⟩:=o8 key
 exact ⟨d,h,hs⟩
end
section
variable {v w:Wd}{B:Ps}
theorem HX (t:Pr v w):(T4 v w).length<=327680:=tG t 4 (Sj _)
theorem Po (t:Pr v w){ps:Ps}(h:ps∈T4 v w):ps.length<=4:=S7 (kW ((qU t).mp h)) t.v4
theorem IT (t:Pr v w) (hB:B.length<=100):gO [.d v.d,.d w.d,.d (a_ B)]=.ok (.l .fresh ((kn v w B).map a_)):=by
 have tl:=HX t
 refine cH (bP (lR (xs:=T4 v w) (h:=a_) (λps=>B.all λq=>decide (q∈ps)) a_ ?_ (by omega) λps _=>⟨?_,λ_=>⟨_,rfl,rfl⟩⟩) rfl rfl)
 ·show (gN _ _ _ >>= _)=_
  rw [c3 rfl rfl rfl (B6 t 4 (Sj _))]
  rfl
 ·refine wJ (n1 (mR (xs:=B) (h:=dP) (λq=>.bl (decide (q∈ps))) rfl (by omega) λq _=>⟨_,two rfl rfl (LD q ps),by rw [K55.Ij];rfl⟩) (allM _ B))
theorem Ot (t:Pr v w) (hB:B.length<=100):∃f:Ps->Option Nat,gy [.d v.d,.d w.d,.d (a_ B)]=.ok (.mf ((kn v w B).map a_) ((kn v w B).map λk=>dV (f k)))/\∀j,∀k∈kn v w B,Of (f k) j=La v w j k:=by
 have v4:=t.v4
 have w4:=t.w4
 have tl:=HX t
 have kl:(kn v w B).length<=(T4 v w).length:=Tp _ _
 have nd:(kn v w B).Nodup:=(BW v w 4).filter _
 have pl:(picks v w).length<=8:=by unfold picks;simp;omega
 obtain ⟨d,h1,h2⟩:=FT (ks:=kn v w B) (rows:=RW v w B) nd (by omega) Cd (λk _=>by unfold RW;rw [Sa];omega) (λk _ r hr=>by
  obtain ⟨q,_,rfl⟩:=Sb.mp hr
  refine S7 (Tp _ _) ?_
  rw [Sa]
  unfold mC
  split <;> simp <;> omega)
 refine ⟨dA (RW v w B) d,?_,λj k hk=>(LC λj q=>Hz Cd h2 j k hk q).trans (Ov hk)⟩
 refine cH (bB (zq (e:=a_) (f:=λ_=>.bl true) (ks:=kn v w B) kB nd ?_ (by omega) λk hk=>⟨jh k,rfl,_,rfl,rfl⟩) rfl (bB (zq (e:=a_) (f:=xO (RW v w B)) (ks:=kn v w B) kB nd rfl (by omega) λk hk=>⟨jh k,rfl,_,c4 rfl rfl rfl rfl (Nf t (kn v w B) k (by have:=Po t (kX.mp hk).1;omega)),rfl⟩) rfl (bP (r:=.mf ((kn v w B).map a_) ((kn v w B).map λk=>dV (dA (RW v w B) d k))) ?_ rfl rfl)))
 ·show (gN _ _ _ >>= _)=_
  rw [c3 rfl rfl rfl (IT t hB)]
  rfl
 ·show (match m9 [.db ((kn v w B).map a_) ((kn v w B).map (xO (RW v w B))),.fn "answered_still"] with
   | .ok r=>M.ok (lW r)
   | _=>.bad)=_
  rw [h1]
  rfl
end
end K33
namespace K33
open PySem DL K01 WP K51 K52 K55 K23
section
variable {v w:Wd}{ps qs:Ps}{n j:Nat}
def sd (s:Nat) (p:Nat×Nat):Nat:=if s=0 then p.1 else p.2
theorem NS {k p:Nat×Nat}(h:p∈mC v w k):sd k.1 p=k.2:=by
 unfold mC at h
 unfold sd
 split at h <;> rename_i c <;> obtain ⟨b,_,rfl⟩:=Sb.mp h
 ·rw [if_pos c]
 ·rw [if_neg c]
theorem chain (t:Pr v w) (s:Nat):∀(xs:List Nat) (n:Nat) (ps:Ps),(∀x∈xs,(s,x)∈picks v w)->Good v w ps->xs.length<=n->La v w n ps=true->∃qs,Good v w qs/\(∀p∈ps,p∈qs)/\∀x∈xs,∃p∈qs,sd s p=x
 | [],_,ps,_,g,_,_=>⟨ps,g,λ_ h=>h,λ_ h=>nomatch h⟩
 | x::xs,0,_,_,_,h,_=>nomatch h
 | x::xs,n + 1,ps,hx,g,hl,h=>by
  obtain ⟨p,h1,h2,h3⟩:=(B9.mp h).2 _ (hx x Se)
  obtain ⟨qs,a,b,c⟩:=chain t s xs n (dU ps p) (λy hy=>hx y (Sd _ hy)) ((qU t).mp h2) (by simpa using hl) h3
  refine ⟨qs,a,λq hq=>b q (jF.mpr (.inl hq)),λy hy=>?_⟩
  rcases Sn.mp hy with rfl | hy
  ·exact ⟨p,b p (jF.mpr (.inr rfl)),NS h1⟩
  ·exact c y hy
theorem cover {l:List Nat}{m:Nat}(nd:l.Nodup) (h:∀x∈l,x < m) (hm:m<=l.length):∀b,b < m->b∈l:=λb hb=>Ua λz=>by
 have:=SH (l₁:=b::l) (l₂:=Sh m) (Uq.mpr ⟨z,nd⟩) λx hx=>by
  rcases Sn.mp hx with rfl | hx
  ·exact Sy.mpr hb
  ·exact Sy.mpr (h x hx)
 simp at this
 omega
theorem many {s m:Nat}(h:∀x,x < m->∃p∈qs,sd s p=x):m<=qs.length:=by
 have:=SH (l₁:=Sh m) (l₂:=qs.map (sd s)) Uw λx hx=>by
  obtain ⟨p,hp,e⟩:=h x (Sy.mp hx)
  exact Sb.mpr ⟨p,hp,e⟩
 simpa using this
structure rJ (v w:Wd) (qs:Ps):Prop where
 g:Good v w qs
 a:∀x,x < v.m->∃p∈qs,p.1=x
 b:∀x,x < w.m->∃p∈qs,p.2=x
theorem ED (t:Pr v w) (g:Good v w ps) (hv:v.m<=n) (hw:w.m<=n) (h:La v w n ps=true):∃qs,rJ v w qs/\∀p∈ps,p∈qs:=by
 by_cases c:w.m<=v.m
 ·obtain ⟨qs,a,b,d⟩:=chain t 0 (Sh v.m) n ps (λx hx=>UJ _ (Sb.mpr ⟨x,hx,rfl⟩)) g (by simpa using hv) h
  have d':∀x,x < v.m->∃p∈qs,p.1=x:=λx hx=>d x (Sy.mpr hx)
  have hl:=many (s:=0) d'
  have nd:(qs.map Xa).Nodup:=S9.mpr (a.up.imp_of_mem fun {p q} hp hq hlt e=>by have:=(a.ag p hp q hq).eq;omega)
  refine ⟨qs,⟨a,d',λx hx=>?_⟩,b⟩
  obtain ⟨p,hp,e⟩:=Sb.mp (cover nd (λy hy=>by obtain ⟨p,hp,rfl⟩:=Sb.mp hy;exact (a.rg p hp).2) (by rw [Sa];omega) x hx)
  exact ⟨p,hp,e⟩
 ·obtain ⟨qs,a,b,d⟩:=chain t 1 (Sh w.m) n ps (λx hx=>Tg _ (Sb.mpr ⟨x,hx,rfl⟩)) g (by simpa using hw) h
  have hl:=many (s:=1) λx hx=>d x (Sy.mpr hx)
  have:=kW a
  omega
theorem tQ (t:Pr v w) (i:rJ v w qs):∀(j:Nat) (ps:Ps),(∀p∈ps,p∈qs)->La v w j ps=true
 | 0,_,_=>rfl
 | j + 1,ps,h=>by
  have add:∀p∈qs,dU ps p∈T4 v w/\La v w j (dU ps p)=true:=λp hp=>
   ⟨(Ci t).mpr (A8.sub ⟨i.g.ag,i.g.rg⟩ λq hq=>by rcases S0.mp hq with hq | hq;exact h q hq;rw [Ss.mp hq];exact hp),tQ t i j _ λq hq=>by rcases jF.mp hq with hq | rfl;exact h q hq;exact hp⟩
  refine B9.mpr ⟨tQ t i j ps h,λk hk=>?_⟩
  rcases S0.mp hk with hk | hk <;> obtain ⟨x,hx,rfl⟩:=Sb.mp hk
  ·obtain ⟨p,hp,rfl⟩:=i.a x (Sy.mp hx)
   exact ⟨p,Sb.mpr ⟨p.2,Sy.mpr (i.g.rg p hp).2,rfl⟩,add p hp⟩
  ·obtain ⟨p,hp,rfl⟩:=i.b x (Sy.mp hx)
   exact ⟨p,Sb.mpr ⟨p.1,Sy.mpr (i.g.rg p hp).1,rfl⟩,add p hp⟩
theorem K9 (t:Pr v w) (g:Good v w ps) (hv:v.m<=n) (hw:w.m<=n) (h:La v w n ps=true) (j:Nat):La v w j ps=true:=by
 obtain ⟨qs,i,hs⟩:=ED t g hv hw h
 exact tQ t i j ps hs
end
end K33
namespace K33
open PySem DL K01 WP K51 K52 K55 K23 K22
theorem BF (i:Int) (m:Nat) (h:0 < m):∃k:Nat,i % (m:Int)=k/\k < m:=by
 obtain ⟨k,hk⟩:=uP (VM i (b:=m) (by omega))
 have:=U4 i (b:=m) (by omega)
 exact ⟨k,hk,by omega⟩
end K33
namespace DL
open PySem PySem.Spec PyProof.Rows L2
section
variable {X:Cx}{c:C}{o a b:S4}{go ga gb:G R}{apos cpos:Pos}
noncomputable def Gf (go ga gb:G R):G R:=λenv=>go env >>= λr=>match ud r with
 | some z=>ga env >>= λk=>gb env >>= λe=>(match k,e with
  | .d k,.d e=>if dH k=true then .ok (.d ((f_ z.1 z.2 k).getD e)) else .bad
  | _,_=>.bad)
 | none=>.bad
theorem Kq (hu:X.A.units + 64 < Uu) (ho:QD X c o go) (ha:QD X c a ga) (hb:QD X c b gb) (hK:X.K=c.K:=by rfl) (hbase:WH o "get" X.env (eval o X.env)=eval o X.env:=by rfl) (hline:(apos.endLine == cpos.line)=true:=by rfl)
  (htr:UL cpos (Sl [a,b] X.env)=[(false,eval a X.env),(false,eval b X.env)]:=by rfl):QD X c (.Call (.Attribute o "get" apos) [a,b] [] cpos) (Gf go ga gb):=by
 refine ⟨λRX s σ H Q I ⟨J,env,sr,w⟩=>?_⟩
 refine wpAny_Call_method2_late hbase hline htr (bN (ho.h RX s σ H (λx H1=>∃J1 r,Ext J H J1 H1/\RR c H J1 H1 r x/\cA _ _ _) I ⟨J,env,sr,aE (aI w) λr wr v J1 H1 e1 r1=>⟨J1,r,e1,r1,wr⟩⟩) λov s1 ⟨x,H1,I1,rx,J1,r,e1,r1,wr⟩=>?_)
 split at wr
 ·rename_i z hz
  obtain ⟨p,rfl,hd⟩:=r1.dk (sr.hp.ext e1) hz
  cases rx
  obtain ⟨us,ws,ep,h1,_,_,_,hsm,_⟩:=id hd
  obtain ⟨ob,es,g1,g2,_⟩:=(fL I1).d _ _ _ h1
  refine ⟨"dict","dict.get",PySem.F.plainAttrs_dict,PySem.F.slot_dict_get,PySem.F.type_dict_get,⟨ob,g1,g2.1⟩,λq e=>⟨ob,by cases e;exact g1,g2.2.1⟩,?_⟩
  refine wpAny_dict_get2_heap (knd:=mW X.prog X.w) (by show X.A.units + 1 + 16 < Uu;omega) hsm (bN (ha.h RX s1 σ H1 (λx H2=>∃J2 r,Ext J1 H1 J2 H2/\RR c H1 J2 H2 r x/\cA _ _ _) I1 ⟨J1,env,sr.ext e1,aE (aI wr) λr wr v J2 H2 e2 r2=>⟨J2,r,e2,r2,wr⟩⟩) λkv s2 ⟨y,H2,I2,ry,J2,r',e2,r2,wr⟩=>?_)
  refine bN (hb.h RX s2 σ H2 (λx H3=>∃J3 r,Ext J2 H2 J3 H3/\RR c H2 J3 H3 r x/\cA _ _ _) I2 ⟨J2,env,(sr.ext e1).ext e2,aE (aI wr) λr wr v J3 H3 e3 r3=>⟨J3,r,e3,r3,wr⟩⟩) λdv s3 ⟨y',H3,I3,ry',J3,r'',e3,r3,wr⟩=>?_
  have e4:=e1.trans (e2.trans e3)
  split at wr
  ·rename_i k e _ _
   split at wr
   ·rename_i ok
    have F:HF X.K J3 s3:=HF.of (c:=⟨X.K,H3,H3,λ_=>True⟩) I3 e3.sub
    have Rt:dS X.K J3 H3 p z.1 z.2:=hK▸hd.mono (e2.j.trans e3.j) (e2.h.trans e3.h)
    have hk:Rep X.K J3 k y:=hK▸Rep.mono e3.j r2
    obtain ⟨kx,rfl,k1,k2⟩:=gS ok
    obtain ⟨q,rfl⟩:∃q,y=.ref q:=by cases hk;exact ⟨_,rfl⟩
    cases ry
    obtain ⟨xs,us,ws,hm,m2,_,hv,m4,_,_⟩:=om (P:=X.prog) (w:=X.w) F (fL I3) Rt
    obtain ⟨l1,l2⟩:=ue (K:=X.K) (J:=J3) ⟨.tup kx,k1,k2⟩ m2 hv m4
    refine ⟨q,⟨.tup kx,k1,k2⟩,xs,rfl,jJ F k1 hk,hm,?_⟩
    cases q2:f_ z.1 z.2 (.tup kx) with
    | none=>rw [l2 q2];exact ⟨y',H3,I3.tok _,ry',wr y' J3 H3 e4 (by rw [q2];exact r3)⟩
    | some d=>
     obtain ⟨pp,v,ea,rv,rd⟩:=l1 d q2
     rw [ea]
     exact ⟨v,H3,I3.tok _,rv,wr v J3 H3 e4 (by rw [q2];show Rep c.K J3 d v;rw [<-hK];exact rd)⟩
   ·exact wr.elim
  ·exact wr.elim
 ·exact wr.elim
end
def FA (K:R7) (x:Str) (st:VA):Prop:=∃f fd,Th K SS x=some (some (.ref f))/\pe K x x st f fd
theorem bX {K:R7}{x:Str}{st:VA}{f:Sm}{u v d p q r:R8}{o n:Option Sm}{s:Array (Option R8)}(a:Th K SS x=some (some (.ref f)))
  (l:K.lookup f=some ⟨u,o,.func (TH x x (cU st) (bV st) (aY st) .none v d p n q r),s⟩) (c:Vu K q x=true) (k:T7 K (.ref f)=true):FA K x st:=⟨f,_,a,En l c k⟩
def FB (K:R7) (mg:Str->Option R8) (x:Str) (st:VA):Prop:=∃f fd,mg x=some (.ref f)/\pe K x x st f fd
theorem bY {K:R7}{h:TM}{mg:Str->Option R8}(X:K.In h) (G:h.Ns SS mg){x:Str}{st:VA}(e:FA K x st):FB K mg x st:=let ⟨f,fd,a,F⟩:=e;⟨f,fd,WU X G a,F⟩
theorem qc {P:Su}{w:S3}{K:R7}{mg:Str->Option R8}{base:TM}{x:Str}{st:VA}{k:Nat}{Fm:List S->M R}(gB:G O) (N:List Str) (n:Nat) (e:FB K mg x st)
  (hb:N.Nodup->∀(f:Sm) (cdv:R8) (A:S5) (outer:List Env) (s:R_) (H:Hp) (E:XK) (J:Hp) (T:Exc->Prop),dc k (A.deeper (X0 x (aY st) s.heap.objs.size f cdv))->
   pq (Eh P w K mg base N x (aY st) f cdv A outer s H E) ⟨K,H,J,T⟩ (bV st) gB)
  (Sc:fK N (N.take n) (aY st):=by exact ⟨rfl,rfl,rfl,by decide +kernel,rfl,by decide +kernel,by decide +kernel⟩)
  (hbi:∀(kV doc pm:R8) (an:Option Sm) (cdv ct:R8) (us:List R8),us.length=(N.take n).length->Zn (TH x x (cU st) (bV st) (aY st) .none kV doc pm an cdv ct) ⟨us,[]⟩=pure ((N.take n).zip us):=by
   intro _ _ _ _ _ _ us hl;rcases us with _ | ⟨_,_ | ⟨_,_ | ⟨_,_ | ⟨_,_ | ⟨_,_ | ⟨_,_ | ⟨_,_⟩⟩⟩⟩⟩⟩⟩ <;> first | exact rfl | (cases hl;done) | exact nomatch hl)
  (hF:∀as r,as.length=(N.take n).length->Fm as=.ok r->fin (gB (bq N as))=.ok r:=by intro _ _ _ h;exact h):bI P w K mg base (k + 1) (N.take n).length x Fm:=
 let ⟨f,_,hm,F⟩:=e;Kh F hm Sc hbi (hb Sc.nd f) hF
end DL
namespace K32
open PySem DL
def IX:List Str:=["one","other","pairs","base"]
noncomputable def Bv:G O:=(aM (lZ (gN (aQ 2 K23.gj) (aq (af 0) (aq (af 1) aG))))
 (aM (bg 3 (gN (aQ 1 K23.gP) (aq (af 2) aG)))
 (bJ (Gf (gN (aQ 3 K33.gy) (aq (af 0) (aq (af 1) (aq (af 3) aG)))) (af 3) (gC (.int 0))))))
def eK (as:List S):M R:=fin (Bv (bq IX as))
end K32
namespace K32
open PySem DL K01 WP K51 K52 K55 K23 K22 K33
section
variable {v w:Wd}
def pv (v w:Wd) (n:Nat) (B:Ps):Option Nat:=(Sh (n + 1)).find? λj=>!(decide (B∈T4 v w) && La v w j B)
theorem sN (t:Pr v w) (n:Nat) (hv:v.m<=n) (hw:w.m<=n) (d:D) (B:Ps) (hr:gP [.d d]=.ok (.d (a_ B))) (hB:B.length<=100):eK [.d v.d,.d w.d,.d d]=.ok (.d (dV (pv v w n B))):=by
 obtain ⟨f,h1,h2⟩:=Ot (B:=B) t hB
 refine cH (qQ (c2 rfl rfl (A6 t)) (bB (c1 rfl hr) rfl (bP (r:=.d (dV (pv v w n B))) ?_ rfl rfl)))
 unfold Gf
 rw [c3 rfl rfl rfl h1,aP]
 show (if dH (a_ B)=true then M.ok (R.d ((f_ ((kn v w B).map a_) ((kn v w B).map λk=>dV (f k)) (a_ B)).getD (.int 0))) else .bad)=_
 rw [if_pos (jh B),nG kB]
 have hk:B∈kn v w B↔B∈T4 v w:=by rw [kX];exact ⟨λh=>h.1,λh=>⟨h,λ_ h=>h⟩⟩
 congr 3
 by_cases hB:B∈T4 v w
 ·rw [if_pos (hk.mpr hB)]
  have h3:=λj=>h2 j B (hk.mpr hB)
  show dV (f B)=_
  congr 1
  unfold pv
  cases q:f B with
  | none=>
   refine (WR.mpr λj _=>?_).symm
   rw [decide_eq_true hB,<-h3 j,q]
   show ¬(!(true && true))=true
   decide
  | some e=>
   rw [q] at h3
   have he:e<=n:=YI λc=>by
    have:=K9 t ((qU t).mp hB) hv hw ((h3 n).symm.trans (decide_eq_true c)) e
    rw [<-h3 e] at this
    exact absurd (of_decide_eq_true this) (Us _)
   refine (VP.mpr ⟨?_,Sy.mpr (by omega),λj hj=>?_⟩).symm
   ·rw [<-h3 e,decide_eq_true hB]
    show (!(true && decide (e < e)))=true
    simp
   ·rw [<-h3 j,decide_eq_true hB]
    show (!(!(true && decide (j < e))))=true
    rw [decide_eq_true hj];rfl
 ·rw [if_neg λz=>hB (hk.mp z)]
  unfold pv
  rw [decide_eq_false hB]
  have:(Sh (n + 1)).find? (λj=>!(false && La v w j B))=some 0:=VP.mpr ⟨rfl,Sy.mpr (by omega),λj hj=>absurd hj (TR _)⟩
  rw [this];rfl
end
theorem KN (ps:Ps):(qI ps).length<=ps.length:=by
 have:=(mJ (eE pF) (vq ps)).1
 rw [<-qJ] at this
 simpa using this
end K32
namespace K23
open PySem DL K01 WP K51 K52 K55
theorem map_inj {α β:Type}{f:α->β}(hf:∀a b,f a=f b->a=b):∀{xs ys:List α},xs.map f=ys.map f->xs=ys
 | [],[],_=>rfl
 | [],_::_,h=>by cases h
 | _::_,[],h=>by cases h
 | x::xs,y::ys,h=>by
  rw [Sw,Sw] at h
  obtain ⟨h1,h2⟩:=acm h
  rw [hf x y h1,map_inj hf h2]
def mF:Fm:=.tc .s (.tc (.hom .i) .tn)
def aF:Fm:=.tc .s (.tc (.hom pF) .tn)
def wF:Fm:=.tc .i (.tc (.hom mF) (.tc (.hom aF) .tn))
theorem zK (u:Wd):iy wF u.d:=by
 refine ⟨_,rfl,_,_,rfl,⟨_,rfl⟩,_,rfl,_,_,rfl,⟨_,rfl,λx hx=>?_⟩,_,rfl,_,_,rfl,⟨_,rfl,λx hx=>?_⟩,_,rfl,rfl⟩
 ·obtain ⟨r,_,rfl⟩:=Sb.mp hx
  exact ⟨_,rfl,_,_,rfl,⟨_,rfl⟩,_,rfl,_,_,rfl,⟨_,rfl,λy hy=>by obtain ⟨z,_,rfl⟩:=Sb.mp hy;exact ⟨_,rfl⟩⟩,_,rfl,rfl⟩
 ·obtain ⟨r,_,rfl⟩:=Sb.mp hx
  exact ⟨_,rfl,_,_,rfl,⟨_,rfl⟩,_,rfl,_,_,rfl,⟨_,rfl,λy hy=>by obtain ⟨z,_,rfl⟩:=Sb.mp hy;exact nC z⟩,_,rfl,rfl⟩
theorem FI (u:Wd):dep u.d<=60:=by
 have:=yD (zK u)
 have:sV wF<=10:=by decide
 omega
theorem Lq (a b:Nat) (h:dN a=dN b):a=b:=congrArg jm h
theorem Lr (a b:Nat×Nat) (h:dP a=dP b):a=b:=congrArg iU h
theorem Dy {u w:Wd}:bu u.d w.d=true↔u=w:=by
 rw [(eE wF).eq _ _ (zK u) (zK w)]
 constructor
 ·intro h
  obtain ⟨m,ms,ar⟩:=u
  obtain ⟨m',ms',ar'⟩:=w
  unfold Wd.d at h
  simp only [D.tup.injEq,XU,D.int.injEq,and_true] at h
  obtain ⟨h1,h2,h3⟩:=h
  have e1:m=m':=by omega
  have e2:ms=ms':=map_inj (λa b h=>by
   simp only [gx,D.tup.injEq,XU,D.str.injEq,and_true] at h
   exact Yt h.1 (map_inj Lq h.2)) h2
  have e3:ar=ar':=map_inj (λa b h=>by
   simp only [iI,D.tup.injEq,XU,D.str.injEq,and_true] at h
   exact Yt h.1 (map_inj Lr h.2)) h3
  rw [e1,e2,e3]
 ·exact λh=>by rw [h]
theorem zB {α:Type}{R:α->α->Prop}(as:∀a b,R a b->¬R b a):∀{A B:List α},A.Pairwise R->B.Pairwise R->(∀y,y∈A↔y∈B)->A=B
 | [],[],_,_,_=>rfl
 | [],b::B,_,_,h=>by have:=(h b).mpr Se;cases this
 | a::A,[],_,_,h=>by have:=(h a).mp Se;cases this
 | a::A,b::B,hA,hB,h=>by
  obtain ⟨a1,a2⟩:=U3.mp hA
  obtain ⟨b1,b2⟩:=U3.mp hB
  have e:a=b:=by
   rcases Sn.mp ((h a).mp Se) with e | e
   ·exact e
   ·rcases Sn.mp ((h b).mpr Se) with f | f
    ·exact f.symm
    ·exact absurd (b1 a e) (as a b (a1 b f))
  subst e
  have:A=B:=zB as a2 b2 λy=>⟨λhy=>by
    rcases Sn.mp ((h y).mp (Sd _ hy)) with e | e
    ·subst e;exact absurd (a1 y hy) (as y y (a1 y hy))
    ·exact e,λhy=>by
    rcases Sn.mp ((h y).mpr (Sd _ hy)) with e | e
    ·subst e;exact absurd (b1 y hy) (as y y (b1 y hy))
    ·exact e⟩
  rw [this]
theorem u7 {α:Type}(h:α->D) (u:D->α) (hu:∀x,u (h x)=x) (xs:List α) (y:α):y∈(bF (xs.map h)).map u↔y∈xs:=by
 constructor
 ·exact wI h u hu xs y
 ·intro hy
  exact Sb.mpr ⟨h y,(gU _).mem_iff.mpr (Sb.mpr ⟨y,hy,rfl⟩),hu y⟩
theorem v7 {v w:Wd}(t:Pr v w) (hm:w.m=v.m) (vb:jt 30 v) (wb:jt 30 w) (vs:nc v) (ws:nc w){σ:List Nat}(pm:σ.Perm (Sh v.m)):gW v σ=w↔rJ v w σ:=by
 have l:σ.length=v.m:=by rw [pm.length_eq,TF]
 have nd:σ.Nodup:=pm.nodup_iff.mpr Uw
 have rg:∀y∈σ,y < v.m:=λy hy=>by simpa using pm.mem_iff.mp hy
 have mk:∀r∈v.ms,∀k (hk:k < σ.length),(k∈r.2↔σ[k]∈(bF ((r.2.map λp=>σ.getD p 0).map dN)).map jm):=λr hr k hk=>by
  rw [u7 dN jm o7,Sb]
  constructor
  ·exact λh=>⟨k,h,getD_at hk⟩
  ·rintro ⟨p,hp,e⟩
   rw [<-getD_at hk] at e
   rw [<-jH pm ((vb.mp r hr).2 p hp) (by omega) e]
   exact hp
 have ak:∀r∈v.ar,∀j k (hj:j < σ.length) (hk:k < σ.length),((j,k)∈r.2↔(σ[j],σ[k])∈(bF ((r.2.map λp=>(σ.getD p.1 0,σ.getD p.2 0)).map dP)).map iU):=λr hr j k hj hk=>by
  rw [u7 dP iU jo,Sb]
  constructor
  ·exact λh=>⟨(j,k),h,by rw [getD_at hj,getD_at hk]⟩
  ·rintro ⟨p,hp,e⟩
   have b:=(vb.ap r hr).2 p hp
   have e1:=congrArg Tr e
   have e2:=congrArg Xa e
   simp only at e1 e2
   rw [<-getD_at hj] at e1
   rw [<-getD_at hk] at e2
   rw [<-jH pm b.1 (by omega) e1,<-jH pm b.2 (by omega) e2]
   exact hp
 have tu:=Fy v t.vo 30 vb vs σ pm
 constructor
 ·intro e
  refine ⟨l,rg,nd,λk hk=>?_,λj k hj hk=>?_⟩
  ·rw [<-e]
   show _=aa2 _ (v.ms.map _)
   rw [SN]
   exact Vi λr hr=>decide_eq_decide.mpr (mk r hr k hk)
  ·rw [<-e]
   show _=aa2 _ (v.ar.map _)
   rw [SN]
   exact Vi λr hr=>decide_eq_decide.mpr (ak r hr j k hj hk)
 ·intro i
  have sur:∀y,y < v.m->∃k,∃hk:k < σ.length,σ[k]=y:=λy hy=>by
   have:y∈σ:=pm.mem_iff.mpr (by simpa using hy)
   obtain ⟨k,hk,e⟩:=TL.mp this
   exact ⟨k,hk,e⟩
  have e1:v.ms.map (λr=>(r.1,(bF ((r.2.map λp=>σ.getD p 0).map dN)).map jm))=w.ms:=by
   have lm:v.ms.length=w.ms.length:=by have:=congrArg Vt t.mn;simpa using this
   refine UN (by rw [Sa];exact lm) λx h1 h2=>?_
   have hx:x < v.ms.length:=by omega
   rw [U8]
   have n1:v.ms[x].1=w.ms[x].1:=by
    have h:(v.ms.map Tr)[x]?=(w.ms.map Tr)[x]?:=by rw [t.mn]
    rw [Sv,Sv,Si hx,Si h2] at h
    exact Tf h
   refine Yt n1 (zB (R:=(· < ·)) (λa b h h'=>by omega) ?_ (ws.mp _ (SK h2)) λy=>?_)
   ·exact tu.2.2.1.mp _ (Sb.mpr ⟨v.ms[x],SK hx,rfl⟩)
   ·have hin:∀k (hk:k < σ.length),(k∈v.ms[x].2↔σ[k]∈w.ms[x].2):=λk hk=>by
     have h:(v.ms.map λr=>decide (k∈r.2))[x]?=(w.ms.map λr=>decide (σ[k]∈r.2))[x]?:=by rw [i.ms k hk]
     rw [Sv,Sv,Si hx,Si h2] at h
     exact decide_eq_decide.mp (Tf h)
    constructor
    ·intro hy
     have hy':=(u7 dN jm o7 _ y).mp hy
     obtain ⟨p,hp,rfl⟩:=Sb.mp hy'
     have QL:=(vb.mp _ (SK hx)).2 p hp
     rw [getD_at (by omega)]
     exact (hin p (by omega)).mp hp
    ·intro hy
     have RQ:=(wb.mp _ (SK h2)).2 y hy
     obtain ⟨k,hk,rfl⟩:=sur y (by omega)
     exact (mk _ (SK hx) k hk).mp ((hin k hk).mpr hy)
  have e2:v.ar.map (λr=>(r.1,(bF ((r.2.map λp=>(σ.getD p.1 0,σ.getD p.2 0)).map dP)).map iU))=w.ar:=by
   have lm:v.ar.length=w.ar.length:=by have:=congrArg Vt t.an;simpa using this
   refine UN (by rw [Sa];exact lm) λx h1 h2=>?_
   have hx:x < v.ar.length:=by omega
   rw [U8]
   have n1:v.ar[x].1=w.ar[x].1:=by
    have h:(v.ar.map Tr)[x]?=(w.ar.map Tr)[x]?:=by rw [t.an]
    rw [Sv,Sv,Si hx,Si h2] at h
    exact Tf h
   refine Yt n1 (zB (R:=iP) (λa b h h'=>by unfold iP at h h';omega) ?_ (ws.ap _ (SK h2)) λy=>?_)
   ·exact tu.2.2.1.ap _ (Sb.mpr ⟨v.ar[x],SK hx,rfl⟩)
   ·have hin:∀j k (hj:j < σ.length) (hk:k < σ.length),((j,k)∈v.ar[x].2↔(σ[j],σ[k])∈w.ar[x].2):=λj k hj hk=>by
     have h:(v.ar.map λr=>decide ((j,k)∈r.2))[x]?=(w.ar.map λr=>decide ((σ[j],σ[k])∈r.2))[x]?:=by rw [i.ar j k hj hk]
     rw [Sv,Sv,Si hx,Si h2] at h
     exact decide_eq_decide.mp (Tf h)
    constructor
    ·intro hy
     have hy':=(u7 dP iU jo _ y).mp hy
     obtain ⟨p,hp,rfl⟩:=Sb.mp hy'
     have QL:=(vb.ap _ (SK hx)).2 p hp
     rw [getD_at (by omega),getD_at (by omega)]
     exact (hin p.1 p.2 (by omega) (by omega)).mp hp
    ·intro hy
     have RQ:=(wb.ap _ (SK h2)).2 y hy
     obtain ⟨j,hj,ej⟩:=sur y.1 (by omega)
     obtain ⟨k,hk,ek⟩:=sur y.2 (by omega)
     have ey:y=(σ[j],σ[k]):=Yt ej.symm ek.symm
     rw [ey] at hy ⊢
     exact (ak _ (SK hx) j k hj hk).mp ((hin j k hj hk).mpr hy)
  unfold gW
  rw [e1,e2,<-hm]
theorem yY {env:Ev}{a b:G R}{r:R}(h:a env=.ok (.d (.bl true))) (h2:b env=.ok r):lY a b env=.ok r:=by
 unfold lY
 rw [h]
 exact h2
def has (σ:List Nat) (ps:List (Nat×Nat)):Bool:=ps.all λp=>σ.getD p.1 0 == p.2
abbrev oD (o:List Nat):D:=.tup (o.map dN)
def j_ (m:Nat) (o:List Nat):List (List Nat):=((Sh m).filter λp=>!inD (dN p) (o.map dN)).map λp=>o++[p]
noncomputable def OR (m:Nat):Nat->List (List Nat)
 | 0=>[[]]
 | k + 1=>(OR m k).flatMap (j_ m)
theorem t6 {m:Nat}:∀(k:Nat){o:List Nat},o∈OR m k->o.length=k/\o.Nodup/\∀p∈o,p < m
 | 0,o,h=>by
  rw [show o=[] from Ss.mp h]
  exact ⟨rfl,Vd,λ_ h=>nomatch h⟩
 | k + 1,o,h=>by
  obtain ⟨a,h1,h2⟩:=V2.mp h
  obtain ⟨p,h3,rfl⟩:=Sb.mp h2
  obtain ⟨l,nd,rg⟩:=t6 k h1
  obtain ⟨h4,h5⟩:=Te.mp h3
  rw [K55.inN] at h5
  have hp:p∉a:=by simpa using h5
  refine ⟨by rw [SI,l];rfl,VN.mpr ⟨nd,Vc _ _,λx hx y hy e=>?_⟩,λx hx=>?_⟩
  ·rw [Ss.mp hy] at e
   exact hp (e▸hx)
  ·rcases S0.mp hx with h | h
   ·exact rg x h
   ·rw [Ss.mp h];simpa using h4
theorem pT {m:Nat}(hm:m<=4):∀k,(OR m k).length<=4 ^ k
 | 0=>Sj _
 | k + 1=>by
  have h:=oA (j_ m) 4 (OR m k) λo _=>by
   unfold j_
   rw [Sa]
   have:=Tp (λp=>!inD (dN p) (o.map dN)) (Sh m)
   rw [TF] at this
   omega
  have h2:=VC 4 (pT hm k)
  rw [Zc]
  exact S7 h h2
noncomputable def fs (k:Nat) (L:List D):S:=match k with
 | 0=>.own L
 | _ + 1=>.d (.lst L)
theorem yQ (m:Nat) (h1:1<=m) (hm:m<=4):iX [.d (.int m)]=.ok (.d (.lst ((OR m m).map oD))):=by
 refine cH (cu (Nc rfl (fu (nI (aJ (bx br (by decide)) rfl br) (by show 1<=1000;decide)) rfl ?_)))
 refine jP (qy (n:=m) rfl (by omega)) ?_
 refine o9 (λk env=>∃x y z:Option S,env=[some (.d (.int m)),some (fs k ((OR m k).map oD)),x,y,z]) ⟨none,none,none,rfl⟩ ?_ ?_
 ·rintro k hk _ ⟨x,y,z,rfl⟩
  refine ⟨_,rfl,bB rfl rfl ?_⟩
  have l0:=pT hm k
  have l1:=pT hm (k + 1)
  have p0:(4:Nat) ^ k<=4 ^ 4:=UK (by decide) (by omega)
  have p1:(4:Nat) ^ (k + 1)<=4 ^ 4:=UK (by decide) (by omega)
  have p2:(4:Nat) ^ 4=256:=by decide
  have loop:Wp (dO (jf (af 1)) (aA 4) (p5 3 (bK 1 [4] (cg (aq (af 0) aG)) (aA 0) (bC (g2 (ie true) (af 0) (af 1))) (g2 cR (af 1) (bD (aC (af 0) aV))))) [some (.d (.int m)),some (.d (.lst ((OR m k).map oD))),some (.d (.int k)),some (.own []),z])
    (λo=>∃e,o=.nx e/\∃z,e=[some (.d (.int m)),some (.d (.lst ((OR m k).map oD))),some (.d (.int k)),some (.own ((OR m (k + 1)).map oD)),z]):=by
   refine qS (ds:=(OR m k).map oD) rfl ?_
   refine qL (λj env=>∃z,env=[some (.d (.int m)),some (.d (.lst ((OR m k).map oD))),some (.d (.int k)),some (.own ((((OR m k).take j).flatMap (j_ m)).map oD)),z]) _ ⟨z,rfl⟩ ?_ ?_
   ·rintro j hj _ ⟨z,rfl⟩
    rw [Sa] at hj
    rw [U8]
    obtain ⟨lo,_,ro⟩:=t6 k (SK hj)
    generalize ho:(OR m k)[j]=o at lo ro
    have lt:(((OR m k).take j).flatMap (j_ m)).length<=1024:=by
     have:=oA (j_ m) 4 ((OR m k).take j) λo _=>by
      unfold j_
      rw [Sa]
      have:=Tp (λp=>!inD (dN p) (o.map dN)) (Sh m)
      rw [TF] at this
      omega
     have h2:((OR m k).take j).length<=256:=by rw [Vm];omega
     omega
    have le:(j_ m o).length<=4:=by
     unfold j_
     rw [Sa]
     have:=Tp (λp=>!inD (dN p) (o.map dN)) (Sh m)
     rw [TF] at this
     omega
    refine ⟨_,rfl,Im (ys:=(j_ m o).map oD) rfl (lR (xs:=Sh m) (h:=dN) (λp=>!inD (dN p) (o.map dN)) (λp=>oD (o++[p])) (jj rfl (by omega)) (by simp;omega) λp hp=>⟨dB rfl rfl (mj true (dN p) (o.map dN) (um o) (SJ _)),λ_=>⟨_,two rfl (bx (aJ rfl rfl br) (by show 1<=1000;decide)) (rB _ _ (by simp;omega)),?_⟩⟩) ?_ (by simp only [Sa];omega) ⟨_,rfl,some (.d (oD o)),?_⟩⟩
    ·show M.ok (D.tup (o.map dN++[dN p]))=M.ok (D.tup ((o++[p]).map dN))
     rw [SM]
     rfl
    ·show M.ok _=M.ok _
     unfold j_
     rw [SN]
     rfl
    ·rw [X7,Si hj,ho,ZS,SM]
     show _=[_,_,_,some (S.own (_++((([o]:List (List Nat)).flatMap (j_ m)).map oD))),_]
     rw [List.flatMap_singleton]
     rfl
   ·rintro _ ⟨z,rfl⟩
    rw [Sa,Xn]
    exact ⟨_,rfl,z,rfl⟩
  have fz:Wp (fW 1 (dO (jf (af 1)) (aA 4) (p5 3 (bK 1 [4] (cg (aq (af 0) aG)) (aA 0) (bC (g2 (ie true) (af 0) (af 1))) (g2 cR (af 1) (bD (aC (af 0) aV)))))) [some (.d (.int m)),some (fs k ((OR m k).map oD)),some (.d (.int k)),some (.own []),z])
    (λo=>∃e,o=.nx e/\∃z,e=[some (.d (.int m)),some (.d (.lst ((OR m k).map oD))),some (.d (.int k)),some (.own ((OR m (k + 1)).map oD)),z]):=by
   cases k with
   | zero=>exact vA rfl loop
   | succ k=>exact FG rfl loop
  refine cu (fz.mono ?_)
  rintro o ⟨e,rfl,z',rfl⟩
  exact vA rfl (fu rfl rfl ⟨_,rfl,_,_,z',rfl⟩)
 ·rintro _ ⟨x,y,z,rfl⟩
  obtain ⟨n,rfl⟩:∃n,m=n + 1:=⟨m - 1,by omega⟩
  exact bP rfl rfl rfl
structure All (v w:Wd):Prop where
 t:Pr v w
 vb:jt 30 v
 wb:jt 30 w
 vs:nc v
 ws:nc w
theorem vY {σ:List Nat}{ps:List (Nat×Nat)}(h:∀p∈ps,p.1 < σ.length):has σ ps=true↔∀p∈ps,p∈jr σ:=by
 unfold has
 rw [SW]
 constructor
 ·intro a p hp
  have:=a p hp
  rw [getD_at (h p hp)] at this
  exact gJ.mpr ⟨h p hp,eq_of_beq this⟩
 ·intro a p hp
  obtain ⟨hk,e⟩:=gJ.mp (a p hp)
  rw [getD_at hk,e]
  simp
theorem Iv {env:Ev}{a b:G Bool}{k:Bool}(h1:a env=.ok false) (h2:b env=.ok k):jv a b env=.ok k:=by
 unfold jv
 rw [h1]
 exact h2
theorem wB {σ:List Nat}{m:Nat}(nd:σ.Nodup) (l:σ.length=m) (rg:∀p∈σ,p < m):σ.Perm (Sh m):=
 (Wk nd Uw).mpr λy=>⟨λh=>Sy.mpr (rg y h),λhy=>Ua λhn=>by
  have:=SH (Uq.mpr ⟨hn,nd⟩) (l₂:=Sh m) λz hz=>by
   rcases Sn.mp hz with rfl | hz
   ·exact hy
   ·exact Sy.mpr (rg z hz)
  rw [T6,TF] at this
  omega⟩
theorem zO {v w:Wd}{σ:List Nat}(i:rJ v w σ):σ.Perm (Sh v.m):=wB i.nd i.len i.rg
end K23
namespace K22
open PySem DL K01 WP K51 K52 K55 K23
end K22
namespace K35
open PySem DL
def wN:List Str:=["_law_one_here","_law_other","_law_pairs","_law_due","_law_order_here","_law_found"]
noncomputable def xh:G O:=(aM (bg 3 (gC (.bl false)))
 (aM (bS (bC (g2 (cL false) (g2 aZ (af 0) (gC (.int 0))) (g2 aZ (af 1) (gC (.int 0))))) (dO (jf (gN (aQ 1 K23.iX) (aq (g2 aZ (af 0) (gC (.int 0))) aG))) (aA 4) (bS (jC (bC (gN oz (aq (bK 2 [4] (eY (af 2)) (dh 2 (bw (aA 0) (bw (aA 1) dz))) cI (g2 (cL false) (g2 aZ (af 2) (af 0)) (af 1))) aG))) (bC (g2 (cL false) (gN (aQ 2 K55.eT) (aq (af 0) (aq (af 4) aG))) (af 1)))) (bg 3 (gC (.bl true))) dJ)) dJ)
 (aM (bg 5 (gN (aQ 3 K32.eK) (aq (af 0) (aq (af 1) (aq (af 2) aG)))))
 (aM (bS (jv (p6 (af 3)) (bC (g2 (kT false) (af 5) (gC .non)))) (bJ (lY (af 3) (g2 (kT false) (af 5) (gC .non)))) dJ)
 (bJ (lY (gN (aQ 1 K01.fQ) (aq (af 5) aG)) (Ib (λi j=>decide (i<=j)) (λi j=>decide (i<=j)) (gC (.int 1)) (af 5) (gN sX (aq (g2 aZ (af 0) (gC (.int 0))) (aq (g2 aZ (af 1) (gC (.int 0))) aG))))))))))
def jQ (as:List S):M R:=fin (xh (bq wN as))
def rK:List Str:=["_law_found","_law_ahead"]
noncomputable def rZ:G O:=(aM (bS (bC (g2 (kT false) (af 0) (gC .non))) (bJ (g2 (kT false) (af 1) (gC .non))) dJ)
 (bJ (CG (g2 (kT false) (af 1) (gC .non)) (g2 (jS λi j=>.bl (decide (j<=i))) (af 1) (af 0)))))
def jL (as:List S):M R:=fin (rZ (bq rK as))
def Ow:List Str:=["_law_script","_law_one_here","_law_other","_law_ahead","_law_pairs","_law_k","_law_cell_here","_law_more","_law_found"]
noncomputable def LA:G O:=(aM (mV (dh 2 (bw (aA 1) (bw (aA 2) dz))) (gN (aQ 2 K55.jR) (aq (af 0) (aq (gw (aC (gC (.int 2)) (aC (gC (.int 3)) (aC (gC (.int 1)) (aC (gC (.int 3)) (aC (gC (.int 2)) (aC (gC (.int 3)) (aC (gC (.int 2)) (aC (gC (.int 4)) aV))))))))) aG))))
 (aM (bS (gZ (bC (gN (aQ 3 K35.jQ) (aq (af 1) (aq (af 2) (aq (bD aV) aG)))))) (bJ (gC (.bl false))) dJ)
 (aM (bg 3 (gN (aQ 2 (λas=>K32.eK (as++[.d .non]))) (aq (af 1) (aq (af 2) aG))))
 (aM (bg 4 (bD aV))
 (aM (dO (Ih (aq (gC (.int 17)) (aq (gC (.int 21)) aG))) (aA 5) (aM (bg 6 (gN (aQ 2 K51.cF) (aq (af 0) (aq (af 5) aG))))
 (aM (bg 7 (gN (aQ 2 K33.kj) (aq (af 4) (aq (bD (aC (g2 fG (af 6) (g2 aZ (af 1) (gC (.int 0)))) (aC (g2 fG (g2 iB (af 6) (gC (.int 4))) (g2 aZ (af 2) (gC (.int 0)))) aV))) aG))))
 (bS (jC (bC (g2 (cL true) (af 7) (af 4))) (jC (bC (gN (aQ 3 K22.iW) (aq (af 1) (aq (af 2) (aq (af 7) aG))))) (jv (bC (g2 (jS λi j=>.bl (decide (i < j))) (g2 cR (g2 aZ (af 1) (gC (.int 0))) (g2 aZ (af 2) (gC (.int 0)))) (gC (.int 8)))) (bC (g2 (cL false) (af 4) (bD aV)))))) (aM (bS (gZ (bC (gN (aQ 3 K35.jQ) (aq (af 1) (aq (af 2) (aq (af 7) aG)))))) (bJ (gC (.bl false))) dJ)
 (aM (bg 8 (gN (aQ 3 K32.eK) (aq (af 1) (aq (af 2) (aq (af 7) aG)))))
 (aM (bS (gZ (bC (gN (aQ 2 K35.jL) (aq (af 8) (aq (af 3) aG))))) (bJ (gC (.bl false))) dJ)
 (aM (bg 3 (af 8))
 (bg 4 (af 7)))))) dJ))))
 (bJ (gC (.bl true))))))))
def vD (as:List S):M R:=fin (LA (bq Ow as))
end K35
namespace K35
open PySem PySem.Spec PyProof.Rows L2 DL DX
structure dI (w:S3) (K:R7) (mg:Str->Option R8):Prop where
 all:mg "all"=none
 any:mg "any"=none
 bool:mg "bool"=none
 int:mg "int"=none
 isinstance:mg "isinstance"=none
 len:mg "len"=none
 list:mg "list"=none
 max:mg "max"=none
 range:mg "range"=none
 set:mg "set"=none
 sorted:mg "sorted"=none
 tuple:mg "tuple"=none
 zip:mg "zip"=none
 MOST_SMALL:HL K mg "MOST_SMALL" (.int 4)
 fv_answered_still:FU K mg "answered_still"
section
variable {P:Su}{w:S3}{K:R7}{mg:Str->Option R8}{base:TM}{f:Sm}{fd:SO}
abbrev xR:VA:=top 6
theorem AS (m:dI w K mg) (e:FB K mg "is_whole" xR):bI P w K mg base 1 1 "is_whole" K01.fQ:=
 qc K01.qb K01.wO 1 e (λnd _ cdv A outer s H E J T hr=>
 (aH (aU (rq (ji By wZ m.int (aa 0) m.isinstance) (k_ (BN (ji zW ug m.bool (aa 0) m.isinstance)))))))
abbrev vj:VA:=top 7
theorem zm (m:dI w K mg) (e:FB K mg "tongue_of" vj):bI P w K mg base 1 1 "tongue_of" K23.i6:=
 qc K23.uI K23.tZ 1 e (λnd _ cdv A outer s H E J T hr=>
 (av (kZ (aa 0) (cD (aS (aD 1 nd) (aS (aD 2 nd) (aS (aD 3 nd) bZ)))))
 (aH (aU (bf (ay (b_ (ao (bO ["name","points"] [] (cC (aa 2)) (λ_ _ _ _ _ hc=>⟨(cD (aS (aD 0 (bQ rfl)) (aS (aD 1 (bQ rfl)) bZ))),bA,(aa 0)⟩)) au) m.tuple) (ay (b_ (ao (bO ["name","pairs"] [] (cC (aa 3)) (λ_ _ _ _ _ hc=>⟨(cD (aS (aD 0 (bQ rfl)) (aS (aD 1 (bQ rfl)) bZ))),bA,(aa 0)⟩)) au) m.tuple) aO)))))))
abbrev qF:VA:=top 8
theorem vP (m:dI w K mg) (htongue_of:bI P w K mg base 1 1 "tongue_of" K23.i6) (e:FB K mg "need_tongue" qF):bI P w K mg base 2 2 "need_tongue" K23.iZ:=
 qc K23.qd K23.pS 2 e (λnd _ cdv A outer s H E J T hr=>
 (aH (bR (nM hr.units (aW htongue_of hr (ao (aa 0) au)) (aW htongue_of hr (ao (aa 1) au))) (aH oU) bL)))
abbrev lD:VA:=top 11
theorem pX (m:dI w K mg) (e:FB K mg "need_few_points" lD):bI P w K mg base 1 1 "need_few_points" K23.fU:=
 qc K23.kU K23.kM 1 e (λnd _ cdv A outer s H E J T hr=>
 (aH (cM (fY (aa 0)) (aD 1 nd) (aH (bR (jI CY (ir λ_ _ _=>.bl _) (aL (aa 1) az) (qw m.MOST_SMALL)) (aH oU) bL)))))
abbrev sL:VA:=top 12
theorem yk (m:dI w K mg) (hneed_tongue:bI P w K mg base 2 2 "need_tongue" K23.iZ) (hneed_few_points:bI P w K mg base 1 1 "need_few_points" K23.fU) (e:FB K mg "need_small" sL):bI P w K mg base 3 2 "need_small" K23.gj:=
 qc K23.su K23.rP 2 e (λnd _ cdv A outer s H E J T hr=>
 (av (jZ (aW hneed_tongue hr (ao (aa 0) (ao (aa 1) au))))
 (aH (jZ (aW hneed_few_points hr (ao (bf (ay (aa 0) (ay (aa 1) aO))) au))))))
abbrev sJ:VA:=top 13
theorem yj (m:dI w K mg) (his_whole:bI P w K mg base 1 1 "is_whole" K01.fQ) (e:FB K mg "need_count" sJ):bI P w K mg base 2 3 "need_count" K55.jM:=
 qc K55.sf K55.rO 3 e (λnd _ cdv A outer s H E J T hr=>
 (aH (bR (iQ (qv (iR (dZ (aW his_whole hr (ao (aa 0) au)))) (qv (jI CZ (ir λ_ _ _=>.bl _) (aa 0) (aa 1)) (q_ (jI CY (ir λ_ _ _=>.bl _) (aa 0) (aa 2)))))) (aH oU) bL)))
abbrev BS:VA:=top 15
theorem D7 (m:dI w K mg) (e:FB K mg "rising" BS):bI P w K mg base 1 1 "rising" K23.gP:=
 qc K23.Bw K23.A9 1 e (λnd _ cdv A outer s H E J T hr=>
 (av (bR (uW (aa 0) gT) (aH (aU (bf aO))) bL)
 (aH (aU (b_ (ao (qx hr.units (ao (aa 0) au) m.sorted m.set) au) m.tuple)))))
abbrev IG:VA:=top 16
theorem Jc (m:dI w K mg) (e:FB K mg "view" IG):bI P w K mg base 1 3 "view" K23.yw:=
 qc K23.Ii K23.HU 3 e (λnd _ cdv A outer s H E J T hr=>
 (av (kZ (aa 0) (cD (aS (aD 3 nd) (aS (aD 4 nd) (aS (aD 5 nd) bZ)))))
 (av (aN 6 nd (b_ (ao (bO ["name","points"] [1] (cC (aa 4)) (λ_ _ _ _ _ hc=>⟨(cD (aS (aD 0 (bQ rfl)) (aS (aD 1 (bQ rfl)) bZ))),bA,(lg hr.units (aa 2) (aa 1))⟩)) au) m.tuple))
 (av (aN 7 nd (b_ (ao (bO ["name","pairs"] [1,2] (cC (aa 5)) (λ_ _ _ _ _ hc=>⟨(cD (aS (aD 0 (bQ rfl)) (aS (aD 1 (bQ rfl)) bZ))),bA,(lg hr.units (bf (ay (aa 2) (ay (aa 3) aO))) (aa 1))⟩)) au) m.tuple))
 (aH (aU (bf (ay (nO hr.units (aa 1) (aa 2)) (ay (aa 6) (ay (aa 7) aO))))))))))
abbrev Ft:VA:=top 17
theorem F4 (m:dI w K mg) (QN:bI P w K mg base 1 3 "view" K23.yw) (e:FB K mg "views" Ft):bI P w K mg base 2 1 "views" K23.pL:=
 qc K23.Ex K23.DK 1 e (λnd _ cdv A outer s H E J T hr=>
 (aH (aU (uY hr.units ["one","other"] [0] (d8 (bH (ao (aL (aa 0) az) au) m.range)) (λ_ _ _ _ _ hc=>⟨(aD 0 (bQ rfl)),bA,(bH (ao (aL (aa 2) az) au) m.range),(aD 1 (bQ rfl)),bA,(bf (ay (aa 0) (ay (aa 1) aO))),(aW QN hr (ao (aa 2) (ao (aa 0) (ao (aa 1) au))))⟩)))))
abbrev Fi:VA:=top 18
theorem F2 (m:dI w K mg) (e:FB K mg "agree" Fi):bI P w K mg base 1 4 "agree" K23.fj:=
 qc K23.Eu K23.DJ 4 e (λnd _ cdv A outer s H E J T hr=>
 (aH (aU (nO hr.units (iS hr.units (aa 0) (bf (ay (aL (aa 2) az) (ay (aL (aa 3) az) aO)))) (iS hr.units (aa 1) (bf (ay (aL (aa 2) az) (ay (aL (aa 3) az) aO))))))))
abbrev qC:VA:=top 19
theorem vO (m:dI w K mg) (P4:bI P w K mg base 1 4 "agree" K23.fj) (e:FB K mg "goes_behind" qC):bI P w K mg base 2 4 "goes_behind" K23.iY:=
 qc K23.qa K23.pR 4 e (λnd _ cdv A outer s H E J T hr=>
 (av (bR (iQ (nL (nN (aa 2)) (oR (Kn hr.units (aa 3) (aL (aa 2) (Ks az)))))) (aH (aU fB)) bL)
 (av (cM (fY (aa 2)) (aD 4 nd) (aH (bR (iQ (qv (iR (dZ (aW P4 hr (ao (aa 0) (ao (aa 1) (ao (aa 3) (ao (aa 4) au))))))) (q_ (iR (dZ (aW P4 hr (ao (aa 0) (ao (aa 1) (ao (aa 4) (ao (aa 3) au)))))))))) (aH (aU fB)) bL)))
 (aH (aU fB)))))
abbrev xV:VA:=top 20
theorem AX (m:dI w K mg) (hneed_small:bI P w K mg base 3 2 "need_small" K23.gj) (hneed_count:bI P w K mg base 2 3 "need_count" K55.jM) (Qj:bI P w K mg base 2 1 "views" K23.pL) (P4:bI P w K mg base 1 4 "agree" K23.fj) (hgoes_behind:bI P w K mg base 2 4 "goes_behind" K23.iY) (e:FB K mg "pairings" xV):bI P w K mg base 4 3 "pairings" K23.lJ:=
 qc K23.xo K23.wR 3 e (λnd _ cdv A outer s H E J T hr=>
 (av (jZ (aW hneed_small hr (ao (aa 0) (ao (aa 1) au))))
 (av (jZ (aW hneed_count hr (ao (aa 2) (ao az (ao (qw m.MOST_SMALL) au)))))
 (av (aN 3 nd (aW Qj hr (ao (aa 0) au)))
 (av (aN 4 nd (aW Qj hr (ao (aa 1) au)))
 (av (aN 5 nd (Di ["a","b"] [1,3,4] (d8 (bH (ao (aL (aa 0) az) au) m.range)) (λ_ _ _ _ _ hc=>⟨(aD 0 (bQ rfl)),bA,(bH (ao (aL (aa 2) az) au) m.range),(aD 1 (bQ rfl)),(eH (dZ (aW P4 hr (ao (aa 3) (ao (aa 4) (ao (bf (ay (aa 0) (ay (aa 1) aO))) (ao (bf (ay (aa 0) (ay (aa 1) aO))) au))))))),(bf (ay (aa 0) (ay (aa 1) aO)))⟩)))
 (av (iD 5 (aN 6 nd (eS (ay (bf aO) aO))))
 (av (aN 7 nd (eS (ay (bf aO) aO)))
 (av (cM (bH (ao (aa 2) au) m.range) (aD 8 nd) (av (iD 5 (Dg 6 ["ahead","pair"] [5,3,4] nd (cC (aa 6)) (λ_ _ _ _ _ hc=>⟨(aD 0 (bQ rfl)),bA,(fY (aa 2)),(aD 1 (bQ rfl)),(eH (dZ (aW hgoes_behind hr (ao (aa 3) (ao (aa 4) (ao (aa 0) (ao (aa 1) au))))))),(eV (aa 0) (bf (ay (aa 1) aO)))⟩)))
 (aH (sD 7 (aa 6)))))
 (aH (aU (aa 7))))))))))))
abbrev Fg:VA:=top 22
theorem F1 (m:dI w K mg) (P7:bI P w K mg base 1 1 "rising" K23.gP) (e:FB K mg "added" Fg):bI P w K mg base 2 2 "added" K33.pK:=
 qc K33.Et K33.DI 2 e (λnd _ cdv A outer s H E J T hr=>
 (aH (aU (aW P7 hr (ao (eV (aa 0) (bf (ay (aa 1) aO))) au)))))
abbrev sM:VA:=top 23
theorem yl (m:dI w K mg) (e:FB K mg "pairs_with" sM):bI P w K mg base 1 4 "pairs_with" K33.gm:=
 qc K33.sy K33.rQ 4 e (λnd _ cdv A outer s H E J T hr=>
 (av (bR (jY hr.units (aa 2) az) (aH (aU (bO ["answer"] [3] (d8 (bH (ao (aL (aa 1) az) au) m.range)) (λ_ _ _ _ _ hc=>⟨(aD 0 (bQ rfl)),bA,(bf (ay (aa 1) (ay (aa 0) aO)))⟩)))) bL)
 (aH (aU (bO ["answer"] [3] (d8 (bH (ao (aL (aa 0) az) au) m.range)) (λ_ _ _ _ _ hc=>⟨(aD 0 (bQ rfl)),bA,(bf (ay (aa 0) (ay (aa 1) aO)))⟩))))))
abbrev xW:VA:=top 24
theorem AY (m:dI w K mg) (e:FB K mg "picks_of" xW):bI P w K mg base 1 2 "picks_of" K33.lK:=
 qc K33.xq K33.wU 2 e (λnd _ cdv A outer s H E J T hr=>
 (aH (aU (fX (bO ["point"] [] (d8 (bH (ao (aL (aa 0) az) au) m.range)) (λ_ _ _ _ _ hc=>⟨(aD 0 (bQ rfl)),bA,(bf (ay az (ay (aa 0) aO)))⟩)) (bO ["point"] [] (d8 (bH (ao (aL (aa 1) az) au) m.range)) (λ_ _ _ _ _ hc=>⟨(aD 0 (bQ rfl)),bA,(bf (ay az (ay (aa 0) aO)))⟩))))))
abbrev xT:VA:=top 25
theorem AW (m:dI w K mg) (hpairs_with:bI P w K mg base 1 4 "pairs_with" K33.gm) (Qs:bI P w K mg base 2 2 "added" K33.pK) (hpicks_of:bI P w K mg base 1 2 "picks_of" K33.lK) (e:FB K mg "outcomes" xT):bI P w K mg base 3 4 "outcomes" K33.lI:=
 qc K33.xm K33.wQ 4 e (λnd _ cdv A outer s H E J T hr=>
 (av (aN 4 nd (uY hr.units ["a","pair"] [0,1,2] (d8 (bH (ao (aL (aa 0) az) au) m.range)) (λ_ _ _ _ _ hc=>⟨(aD 0 (bQ rfl)),bA,(fY (aW hpairs_with hr (ao (aa 2) (ao (aa 3) (ao az (ao (aa 0) au)))))),(aD 1 (bQ rfl)),bA,(aa 1),(aW Qs hr (ao (aa 4) (ao (aa 1) au)))⟩)))
 (aH (aU (bO ["side","point"] [0,1,4,3] (cC (aW hpicks_of hr (ao (aa 0) (ao (aa 1) au)))) (λ_ _ _ _ _ hc=>⟨(cD (aS (aD 0 (bQ rfl)) (aS (aD 1 (bQ rfl)) bZ))),bA,(bO ["pair"] [4,5] (cC (aW hpairs_with hr (ao (aa 2) (ao (aa 3) (ao (aa 0) (ao (aa 1) au)))))) (λ_ _ _ _ _ hc=>⟨(aD 0 (bQ rfl)),(eH (Km hr.units (iS hr.units (aa 1) (aa 0)) (aa 2))),(iS hr.units (aa 1) (aa 0))⟩) (hcl:=nk hc rfl))⟩))))))
abbrev mG:VA:=top 26
theorem rE (m:dI w K mg) (e:FB K mg "answered_still" mG):bI P w K mg base 1 2 "answered_still" K33.dY:=
 qc K33.l_ K33.lN 2 e (λnd _ cdv A outer s H E J T hr=>
 (aH (aU (wG (ao (bO ["row"] [1] (cC (aa 0)) (λ_ _ _ _ _ hc=>⟨(aD 0 (bQ rfl)),bA,(Ko (ao (bO ["pairing"] [1] (cC (aa 0)) (λ_ _ _ _ _ hc=>⟨(aD 0 (bQ rfl)),bA,(uZ (iS hr.units (aa 1) (aa 0)) gT)⟩) (hcl:=nk hc rfl)) au) m.any)⟩)) au) m.all))))
abbrev BR:VA:=top 27
theorem D6 (m:dI w K mg) (hanswered_still:bI P w K mg base 1 2 "answered_still" K33.dY) (e:FB K mg "peeled" BR):bI P w K mg base 2 2 "peeled" K33.m9:=
 qc K33.vX K33.vG 2 e (λnd _ cdv A outer s H E J T hr=>
 (av (aN 2 nd (uX hr.units ["pairing"] [] (oV (aa 0)) (λ_ _ _ _ _ hc=>⟨(aD 0 (bQ rfl)),bA,(aa 0),gT⟩)))
 (av (aN 3 nd az)
 (av (mD 4 ["pairing"] [1,0,2] nd (oV (aa 0)) (λ_ _ _ _ _ hc=>⟨(aD 0 (bQ rfl)),(eH (iR (dZ (Ak 1 hanswered_still m.fv_answered_still hr (ao (iS hr.units (aa 2) (aa 0)) (ao (aa 3) au)) BL)))),(aa 0)⟩))
 (av (Dh 400000 (nN (aa 4)) (av (iD 4 (cM (fY (aa 4)) (aD 5 nd) (aH (G8 2 hr.units (aa 3) (aa 5)))))
 (av (Fb 3 nd az)
 (aH (mD 4 ["pairing"] [2,1,0] nd (oV (aa 0)) (λ_ _ _ _ _ hc=>⟨(aD 0 (bQ rfl)),(eH (iQ (nL (uW (iS hr.units (aa 1) (aa 0)) gT) (oR (iR (dZ (Ak 2 hanswered_still m.fv_answered_still hr (ao (iS hr.units (aa 3) (aa 0)) (ao (aa 1) au)) BL))))))),(aa 0)⟩))))))
 (aH (aU (aa 2))))))))
abbrev nR:VA:=top 28
theorem sU (m:dI w K mg) (Qd:bI P w K mg base 4 3 "pairings" K23.lJ) (e:FB K mg "pairings_with" nR):bI P w K mg base 5 3 "pairings_with" K33.gO:=
 qc K33.nB K33.m_ 3 e (λnd _ cdv A outer s H E J T hr=>
 (aH (aU (bO ["pairing"] [2] (cC (aW Qd hr (ao (aa 0) (ao (aa 1) (ao (qw m.MOST_SMALL) au))))) (λ_ _ _ _ _ hc=>⟨(aD 0 (bQ rfl)),(eH (dZ (wG (ao (bO ["pair"] [0] (cC (aa 1)) (λ_ _ _ _ _ hc=>⟨(aD 0 (bQ rfl)),bA,(lg hr.units (aa 0) (aa 1))⟩) (hcl:=nk hc rfl)) au) m.all))),(aa 0)⟩)))))
abbrev mL:VA:=top 29
theorem rG (m:dI w K mg) (hpairings_with:bI P w K mg base 5 3 "pairings_with" K33.gO) (Qc:bI P w K mg base 3 4 "outcomes" K33.lI) (Qn:bI P w K mg base 2 2 "peeled" K33.m9) (e:FB K mg "parting_depths" mL):bI P w K mg base 6 3 "parting_depths" K33.gy:=
 qc K33.mh K33.lO 3 e (λnd _ cdv A outer s H E J T hr=>
 (av (aN 3 nd (uX hr.units ["pairing"] [] (cC (aW hpairings_with hr (ao (aa 0) (ao (aa 1) (ao (aa 2) au))))) (λ_ _ _ _ _ hc=>⟨(aD 0 (bQ rfl)),bA,(aa 0),fB⟩)))
 (av (Df 4 hr.units ["pairing"] [0,1,3] nd (oV (aa 3)) (λ_ _ _ _ _ hc=>⟨(aD 0 (bQ rfl)),bA,(aa 0),(aW Qc hr (ao (aa 1) (ao (aa 2) (ao (aa 0) (ao (aa 3) au)))))⟩))
 (aH (aU (G_ Qn m.fv_answered_still hr (aa 4)))))))
abbrev iT:VA:=top 30
theorem Hw:fK ["one","other","pairs","base"] ["one","other","pairs"] (aY iT):=⟨rfl,rfl,rfl,by decide +kernel,rfl,by decide +kernel,by decide +kernel⟩
theorem El (m:dI w K mg) (hneed_small:bI P w K mg base 3 2 "need_small" K23.gj) (P7:bI P w K mg base 1 1 "rising" K23.gP) (hparting_depths:bI P w K mg base 6 3 "parting_depths" K33.gy) (F:nY K "parted" "parted" iT f fd):fF P w K mg base (tK P w) 7 f fd ["one","other","pairs"] (xU K 3 K32.eK):=
 have sc:=Hw
 Jr (k:=6) (gB:=K32.Bv) F sc (λcdv A outer s H E J hr=>pq.h (
 (av (jZ (aW hneed_small hr (ao (aa 0) (ao (aa 1) au))))
 (av (aN 3 sc.nd (aW P7 hr (ao (aa 2) au)))
 (aH (aU (Kq hr.units (aW hparting_depths hr (ao (aa 0) (ao (aa 1) (ao (aa 3) au)))) (aa 3) az))))))) (λ_ _ _=>rfl)
theorem D5 (G:fF P w K mg base (tK P w) 7 f fd ["one","other","pairs"] (xU K 3 K32.eK)) (F:nY K "parted" "parted" iT f fd) (hm:mg "parted"=some (.ref f)):B5 P w K mg base 7 3 "parted" K32.eK:=⟨f,fd,["one","other","pairs"],G,hm,F.kp,F.bindsAll (λT kV doc pm an cdv ct us hl=>match us,hl with | [_,_,_],_=>⟨_,rfl,rfl⟩)⟩
theorem Ct (G:fF P w K mg base (tK P w) 7 f fd ["one","other","pairs"] (xU K 3 K32.eK)) (F:nY K "parted" "parted" iT f fd) (hm:mg "parted"=some (.ref f)):FP P w K mg base 7 2 "parted" K32.eK:=⟨f,fd,["one","other","pairs"],G,hm,F.kp,F.bindsOne (λT kV doc pm an cdv ct us hl=>match us,hl with | [_,_],_=>⟨_,rfl,rfl⟩)⟩
abbrev vd:VA:=top 32
theorem zd (m:dI w K mg) (e:FB K mg "_law_cell" vd):bI P w K mg base 1 2 "_law_cell" K51.cF:=
 qc K51.uF K51.tX 2 e (λnd _ cdv A outer s H E J T hr=>
 (av (bR (jI CZ (ir λ_ _ _=>.bl _) (aa 1) (gr (ao (aa 0) au) m.len)) (aH (aU (cV (aL (aa 0) (aa 1)) (Ku az az)))) bL)
 (aH (aU az))))
abbrev sF:VA:=top 33
theorem yd (m:dI w K mg) (e:FB K mg "_law_names" sF):bI P w K mg base 1 2 "_law_names" K51.gg:=
 qc K51.r6 K51.rL 2 e (λnd _ cdv A outer s H E J T hr=>
 (av (aN 2 nd wH)
 (av (aN 3 nd (aL (aa 2) (cV (eN (aa 0) az) az)))
 (av (aN 4 nd (j5 (aa 3) (fX az (cV (eN (aa 0) az) az))))
 (av (aN 5 nd (eS aO))
 (av (cM (bH (ao (aa 1) au) m.range) (aD 6 nd) (av (aN 7 nd (aL (aa 2) (cV (fX (eN (aa 0) az) (j5 az (aa 6))) az)))
 (av (aN 8 nd (aL (eS (ay (fX (aa 4) (aa 7)) (ay (fX (aa 7) (aa 4)) (ay (j5 (aa 3) (fX (aa 6) az)) aO)))) (cV (aa 0) az)))
 (av (bR (jY hr.units (aa 8) wH) (aH (aN 8 nd wH)) bL)
 (aH (jO 5 (aa 8)))))))
 (aH (aU (Dk (ao (aa 5) au) m.sorted)))))))))
abbrev vc:VA:=top 34
theorem zc (m:dI w K mg) (e:FB K mg "_law_bits" vc):bI P w K mg base 1 2 "_law_bits" K51.gM:=
 qc K51.uE K51.tW 2 e (λnd _ cdv A outer s H E J T hr=>
 (av (aN 2 nd (eS aO))
 (av (cM (bH (ao (aa 1) au) m.range) (aD 3 nd) (av (jO 2 (nO hr.units (cV (aa 0) az) az))
 (aH (aN 0 nd (eN (aa 0) az)))))
 (aH (aU (aa 2))))))
abbrev sI:VA:=top 35
theorem yg (m:dI w K mg) (h_law_bits:bI P w K mg base 1 2 "_law_bits" K51.gM) (e:FB K mg "_law_world" sI):bI P w K mg base 2 3 "_law_world" K51.fE:=
 qc K51.se K51.rN 3 e (λnd _ cdv A outer s H E J T hr=>
 (av (aN 3 nd (eS aO))
 (av (cM (bH (ao (gr (ao (aL (aa 0) az) au) m.len) au) m.range) (aD 4 nd) (av (aN 5 nd (aW h_law_bits hr (ao (aL (aa 2) (aa 4)) (ao (aa 1) au))))
 (aH (jO 3 (bf (ay (aL (aL (aa 0) az) (aa 4)) (ay (b_ (ao (bO ["_law_p"] [5] (d8 (bH (ao (aa 1) au) m.range)) (λ_ _ _ _ _ hc=>⟨(aD 0 (bQ rfl)),(eH (nN (aL (aa 1) (aa 0)))),(aa 0)⟩)) au) m.tuple) aO)))))))
 (av (aN 6 nd (eS aO))
 (av (cM (bH (ao (gr (ao (aL (aa 0) az) au) m.len) au) m.range) (aD 4 nd) (av (aN 5 nd (aW h_law_bits hr (ao (aL (aa 2) (fX az (aa 4))) (ao (j5 (aa 1) (aa 1)) au))))
 (aH (jO 6 (bf (ay (aL (aL (aa 0) az) (aa 4)) (ay (b_ (ao (bO ["_law_p"] [5,1] (d8 (bH (ao (j5 (aa 1) (aa 1)) au) m.range)) (λ_ _ _ _ _ hc=>⟨(aD 0 (bQ rfl)),(eH (nN (aL (aa 1) (aa 0)))),(bf (ay (eN (aa 0) (aa 2)) (ay (cV (aa 0) (aa 2)) aO)))⟩)) au) m.tuple) aO)))))))
 (aH (aU (bf (ay (aa 1) (ay (b_ (ao (aa 3) au) m.tuple) (ay (b_ (ao (aa 6) au) m.tuple) aO)))))))))))
abbrev sG:VA:=top 36
theorem ye (m:dI w K mg) (e:FB K mg "_law_order" sG):bI P w K mg base 1 2 "_law_order" K55.ia:=
 qc K55.r_ K55.rM 2 e (λnd _ cdv A outer s H E J T hr=>
 (av (aN 2 nd (Dj (ao (aa 1) au) m.range m.list))
 (av (aN 3 nd (eS aO))
 (av (cM (bH (ao (aa 1) au) m.range) (aD 4 nd) (av (AZ 3 2 (cV (aa 0) (gr (ao (aa 2) au) m.len)))
 (aH (aN 0 nd (eN (aa 0) az)))))
 (aH (aU (b_ (ao (aa 3) au) m.tuple)))))))
abbrev qB:VA:=top 37
theorem vN (m:dI w K mg) (e:FB K mg "_law_turned" qB):bI P w K mg base 1 2 "_law_turned" K55.eT:=
 qc K55.p_ K55.pQ 2 e (λnd _ cdv A outer s H E J T hr=>
 (av (mD 2 ["_law_name","_law_points"] [1] nd (cC (aL (aa 0) az)) (λ_ _ _ _ _ hc=>⟨(cD (aS (aD 0 (bQ rfl)) (aS (aD 1 (bQ rfl)) bZ))),bA,(bf (ay (aa 0) (ay (b_ (ao (xC hr.units (ao (bO ["_law_p"] [2] (cC (aa 1)) (λ_ _ _ _ _ hc=>⟨(aD 0 (bQ rfl)),bA,(aL (aa 1) (aa 0))⟩) (hcl:=nk hc rfl)) au) m.sorted) au) m.tuple) aO)))⟩))
 (av (mD 3 ["_law_name","_law_some"] [1] nd (cC (aL (aa 0) az)) (λ_ _ _ _ _ hc=>⟨(cD (aS (aD 0 (bQ rfl)) (aS (aD 1 (bQ rfl)) bZ))),bA,(bf (ay (aa 0) (ay (b_ (ao (xC hr.units (ao (bO ["_law_p","_law_q"] [2] (cC (aa 1)) (λ_ _ _ _ _ hc=>⟨(cD (aS (aD 0 (bQ rfl)) (aS (aD 1 (bQ rfl)) bZ))),bA,(bf (ay (aL (aa 2) (aa 0)) (ay (aL (aa 2) (aa 1)) aO)))⟩) (hcl:=nk hc rfl)) au) m.sorted) au) m.tuple) aO)))⟩))
 (aH (aU (bf (ay (aL (aa 0) az) (ay (b_ (ao (aa 2) au) m.tuple) (ay (b_ (ao (aa 3) au) m.tuple) aO)))))))))
abbrev pI:VA:=top 38
theorem uh (m:dI w K mg) (e:FB K mg "_law_flipped" pI):bI P w K mg base 1 2 "_law_flipped" K55.e_:=
 qc K55.pB K55.pg 2 e (λnd _ cdv A outer s H E J T hr=>
 (av (kZ (aa 0) (cD (aS (aD 2 nd) (aS (aD 3 nd) (aS (aD 4 nd) bZ)))))
 (av (bR (jY hr.units (eV (gr (ao (aa 3) au) m.len) (gr (ao (aa 4) au) m.len)) az) (aH (aU (aa 0))) bL)
 (av (aN 5 nd (cV (aa 1) (eV (gr (ao (aa 3) au) m.len) (gr (ao (aa 4) au) m.len))))
 (av (aN 6 nd (cV (eN (aa 1) az) (aa 2)))
 (av (aN 7 nd (aa 3))
 (av (bR (jI Ir (ir λ_ _ _=>.bl _) (aa 5) (gr (ao (aa 3) au) m.len)) (av (aN 5 nd (Kv (aa 5) (gr (ao (aa 3) au) m.len)))
 (av (aN 6 nd (bf (ay (aa 6) (ay (cV (eN (aa 1) az) (aa 2)) aO))))
 (aH (aN 7 nd (aa 4))))) bL)
 (av (kZ (aL (aa 7) (aa 5)) (cD (aS (aD 8 nd) (aS (aD 9 nd) bZ))))
 (av (aN 10 nd (b_ (ao (qx hr.units (ao (eV (aa 9) (bf (ay (aa 6) aO))) au) m.sorted m.set) au) m.tuple))
 (av (bR (MH hr.units (aa 6) (aa 9)) (aH (aN 10 nd (b_ (ao (bO ["_law_one_here"] [6] (cC (aa 9)) (λ_ _ _ _ _ hc=>⟨(aD 0 (bQ rfl)),(eH (nM hr.units (aa 0) (aa 1))),(aa 0)⟩)) au) m.tuple))) bL)
 (av (aN 7 nd (eV (eV (BO (aa 7) xD (xE (aa 5))) (bf (ay (bf (ay (aa 8) (ay (aa 10) aO))) aO))) (BO (aa 7) (xE (eV (aa 5) az)) xD)))
 (av (bR (dZ (ji kit_tuple AO m.tuple (aa 6) m.isinstance)) (aH (aU (bf (ay (aa 2) (ay (aa 3) (ay (aa 7) aO)))))) bL)
 (aH (aU (bf (ay (aa 2) (ay (aa 7) (ay (aa 4) aO))))))))))))))))))
abbrev xQ:VA:=top 39
theorem AR (m:dI w K mg) (h_law_cell:bI P w K mg base 1 2 "_law_cell" K51.cF) (h_law_names:bI P w K mg base 1 2 "_law_names" K51.gg) (h_law_world:bI P w K mg base 2 3 "_law_world" K51.fE) (h_law_order:bI P w K mg base 1 2 "_law_order" K55.ia) (h_law_turned:bI P w K mg base 1 2 "_law_turned" K55.eT) (h_law_flipped:bI P w K mg base 1 2 "_law_flipped" K55.e_) (e:FB K mg "_law_two" xQ):bI P w K mg base 3 2 "_law_two" K55.jR:=
 qc K55.xj ["_law_script","_law_sizes","_law_first","_law_second","_law_marks","_law_names_here","_law_one_here","_law_way","_law_other"] 2 e (λnd _ cdv A outer s H E J T hr=>
 (av (aN 2 nd (aW h_law_cell hr (ao (aa 0) (ao az au))))
 (av (aN 3 nd (aW h_law_cell hr (ao (aa 0) (ao az au))))
 (av (aN 4 nd (aW h_law_names hr (ao (eN (aa 3) az) (ao (aL (eS (ay az (ay az (ay az (ay az aO))))) (cV (aa 3) az)) au))))
 (av (iD 4 (aN 5 nd (bf (ay (aa 4) (ay (aW h_law_names hr (ao (aW h_law_cell hr (ao (aa 0) (ao az au))) (ao (aL (eS (ay az (ay az (ay az (ay az (ay az aO)))))) (cV (eN (aa 3) az) az)) au))) aO)))))
 (av (aN 6 nd (aW h_law_world hr (ao (aa 5) (ao (aL (aa 1) (cV (aa 2) az)) (ao (bO ["_law_k"] [0] (d8 (bH (ao az au) m.range)) (λ_ _ _ _ _ hc=>⟨(aD 0 (bQ rfl)),bA,(aW h_law_cell hr (ao (aa 1) (ao (fX az (aa 0)) au)))⟩)) au)))))
 (av (aN 7 nd (cV (eN (aa 2) az) az))
 (av (bR (jY hr.units (aa 7) az) (aH (aU (bf (ay (aa 6) (ay (aW h_law_world hr (ao (aa 5) (ao (aL (aa 1) (cV (eN (aa 2) az) az)) (ao (bO ["_law_k"] [0] (d8 (bH (ao az au) m.range)) (λ_ _ _ _ _ hc=>⟨(aD 0 (bQ rfl)),bA,(aW h_law_cell hr (ao (aa 1) (ao (fX az (aa 0)) au)))⟩)) au)))) aO))))) bL)
 (av (aN 8 nd (aW h_law_turned hr (ao (aa 6) (ao (aW h_law_order hr (ao (aW h_law_cell hr (ao (aa 0) (ao az au))) (ao (aL (aa 6) az) au))) au))))
 (av (bR (jI CY (ir λ_ _ _=>.bl _) (aa 7) az) (aH (aN 8 nd (aW h_law_flipped hr (ao (aa 8) (ao (aW h_law_cell hr (ao (aa 0) (ao az au))) au))))) bL)
 (av (bR (jY hr.units (aa 7) az) (aH (aN 8 nd (aW h_law_flipped hr (ao (aa 8) (ao (aW h_law_cell hr (ao (aa 0) (ao az au))) au))))) bL)
 (aH (aU (bf (ay (aa 6) (ay (aa 8) aO))))))))))))))))
abbrev ve:VA:=top 40
theorem ze (m:dI w K mg) (e:FB K mg "_law_fits" ve):bI P w K mg base 1 3 "_law_fits" K22.iW:=
 qc K22.uG ["_law_one_here","_law_other","_law_pairs","_law_a","_law_b","_law_here","_law_there","_law_c","_law_d"] 3 e (λnd _ cdv A outer s H E J T hr=>
 (av (cM (fY (aa 2)) (cD (aS (aD 3 nd) (aS (aD 4 nd) bZ))) (av (cM (Al (ao (aL (aa 0) az) (ao (aL (aa 1) az) au)) m.zip) (cD (aS (aD 5 nd) (aS (aD 6 nd) bZ))) (aH (bR (nM hr.units (lg hr.units (aa 3) (aL (aa 5) az)) (lg hr.units (aa 4) (aL (aa 6) az))) (aH (aU fB)) bL)))
 (aH (cM (fY (aa 2)) (cD (aS (aD 7 nd) (aS (aD 8 nd) bZ))) (av (bR (nM hr.units (nO hr.units (aa 3) (aa 7)) (nO hr.units (aa 4) (aa 8))) (aH (aU fB)) bL)
 (aH (cM (Al (ao (aL (aa 0) az) (ao (aL (aa 1) az) au)) m.zip) (cD (aS (aD 5 nd) (aS (aD 6 nd) bZ))) (aH (bR (nM hr.units (lg hr.units (bf (ay (aa 3) (ay (aa 7) aO))) (aL (aa 5) az)) (lg hr.units (bf (ay (aa 4) (ay (aa 8) aO))) (aL (aa 6) az))) (aH (aU fB)) bL)))))))))
 (aH (aU fB))))
abbrev vf:VA:=top 41
theorem zf (m:dI w K mg) (e:FB K mg "_law_with" vf):bI P w K mg base 1 2 "_law_with" K33.kj:=
 qc K33.uH K33.tY 2 e (λnd _ cdv A outer s H E J T hr=>
 (aH (aU (b_ (ao (qx hr.units (ao (eV (aa 0) (bf (ay (aa 1) aO))) au) m.sorted m.set) au) m.tuple))))
abbrev qA:VA:=top 42
theorem vM (m:dI w K mg) (e:FB K mg "_law_orders" qA):bI P w K mg base 1 1 "_law_orders" K23.iX:=
 qc K23.p7 K23.pP 1 e (λnd _ cdv A outer s H E J T hr=>
 (av (iD 3 (aN 1 nd (eS (ay (bf aO) aO))))
 (av (cM (bH (ao (aa 0) au) m.range) (aD 2 nd) (av (aN 3 nd (eS aO))
 (av (iD 1 (cM (fY (aa 1)) (aD 4 nd) (aH (sD 3 (bO ["_law_p"] [4] (d8 (bH (ao (aa 0) au) m.range)) (λ_ _ _ _ _ hc=>⟨(aD 0 (bQ rfl)),(eH (E_ hr.units (aa 0) (aa 1))),(eV (aa 1) (bf (ay (aa 0) aO)))⟩))))))
 (aH (iD 3 (aN 1 nd (aa 3)))))))
 (aH (aU (aa 1))))))
abbrev sH:VA:=top 43
theorem yf (m:dI w K mg) (e:FB K mg "_law_whole" sH):bI P w K mg base 1 1 "_law_whole" K01.fQ:=
 qc K01.qb ["_law_found"] 1 e (λnd _ cdv A outer s H E J T hr=>
 (aH (aU (rq (ji By wZ m.int (aa 0) m.isinstance) (k_ (BN (ji zW ug m.bool (aa 0) m.isinstance)))))))
abbrev xP:VA:=top 44
theorem AQ (m:dI w K mg) (h_law_orders:bI P w K mg base 1 1 "_law_orders" K23.iX) (h_law_turned:bI P w K mg base 1 2 "_law_turned" K55.eT) (P6:B5 P w K mg base 7 3 "parted" K32.eK) (h_law_whole:bI P w K mg base 1 1 "_law_whole" K01.fQ) (e:FB K mg "_law_one" xP):bI P w K mg base 8 3 "_law_one" K35.jQ:=
 qc K35.xh K35.wN 3 e (λnd _ cdv A outer s H E J T hr=>
 (av (aN 3 nd fB)
 (av (bR (jY hr.units (aL (aa 0) az) (aL (aa 1) az)) (aH (cM (fY (aW h_law_orders hr (ao (aL (aa 0) az) au))) (aD 4 nd) (aH (bR (iQ (nL (dZ (wG (ao (bO ["_law_a","_law_b"] [4] (cC (aa 2)) (λ_ _ _ _ _ hc=>⟨(cD (aS (aD 0 (bQ rfl)) (aS (aD 1 (bQ rfl)) bZ))),bA,(nO hr.units (aL (aa 2) (aa 0)) (aa 1))⟩)) au) m.all)) (oR (jY hr.units (aW h_law_turned hr (ao (aa 0) (ao (aa 4) au))) (aa 1))))) (aH (aN 3 nd fB)) bL)))) bL)
 (av (aN 5 nd (Aj P6 hr (ao (aa 0) (ao (aa 1) (ao (aa 2) au)))))
 (av (bR (iQ (qv (nN (aa 3)) (q_ (uW (aa 5) gT)))) (aH (aU (rq (aa 3) (k_ (uZ (aa 5) gT))))) bL)
 (aH (aU (rq (aW h_law_whole hr (ao (aa 5) au)) (k_ (MI Iu Iu az (aa 5) (Kr (ao (aL (aa 0) az) (ao (aL (aa 1) az) au)) m.max)))))))))))
abbrev sE:VA:=top 45
theorem yc (m:dI w K mg) (e:FB K mg "_law_later" sE):bI P w K mg base 1 2 "_law_later" K35.jL:=
 qc K35.rZ K35.rK 2 e (λnd _ cdv A outer s H E J T hr=>
 (av (bR (uW (aa 0) gT) (aH (aU (uZ (aa 1) gT))) bL)
 (aH (aU (MK (uZ (aa 1) gT) (k_ (MJ (aa 1) (aa 0))))))))
abbrev oY:VA:=top 46
theorem NR:fK ["_law_script","_law_one_here","_law_other","_law_ahead","_law_pairs","_law_k","_law_cell_here","_law_more","_law_found"] ["_law_script"] (aY oY):=⟨rfl,rfl,rfl,by decide +kernel,rfl,by decide +kernel,by decide +kernel⟩
theorem Ny (m:dI w K mg) (h_law_two:bI P w K mg base 3 2 "_law_two" K55.jR) (h_law_one:bI P w K mg base 8 3 "_law_one" K35.jQ) (P6:B5 P w K mg base 7 3 "parted" K32.eK) (h_law_cell:bI P w K mg base 1 2 "_law_cell" K51.cF) (h_law_with:bI P w K mg base 1 2 "_law_with" K33.kj) (h_law_fits:bI P w K mg base 1 3 "_law_fits" K22.iW) (h_law_later:bI P w K mg base 1 2 "_law_later" K35.jL) (Qg:FP P w K mg base 7 2 "parted" K32.eK) (F:pe K "law" "law" oY f fd):fF P w K mg base o_ 9 f fd ["_law_script"] (qH K 1 K35.vD):=
 have sc:=NR
 Kl (k:=8) (gB:=K35.LA) F sc (λcdv A outer s H E J T hr=>
 (av (kZ (aW h_law_two hr (ao (aa 0) (ao (eS (ay az (ay az (ay az (ay az (ay az (ay az (ay az (ay az aO))))))))) au))) (cD (aS (aD 1 sc.nd) (aS (aD 2 sc.nd) bZ))))
 (av (bR (iR (dZ (aW h_law_one hr (ao (aa 1) (ao (aa 2) (ao (bf aO) au)))))) (aH (aU fB)) bL)
 (av (aN 3 sc.nd (G9 Qg hr (ao (aa 1) (ao (aa 2) au))))
 (av (aN 4 sc.nd (bf aO))
 (av (cM (A0 (ao az (ao az au)) m.range) (aD 5 sc.nd) (av (aN 6 sc.nd (aW h_law_cell hr (ao (aa 0) (ao (aa 5) au))))
 (av (aN 7 sc.nd (aW h_law_with hr (ao (aa 4) (ao (bf (ay (cV (aa 6) (aL (aa 1) az)) (ay (cV (eN (aa 6) az) (aL (aa 2) az)) aO))) au))))
 (aH (bR (iQ (nL (nM hr.units (aa 7) (aa 4)) (nL (dZ (aW h_law_fits hr (ao (aa 1) (ao (aa 2) (ao (aa 7) au))))) (oR (iQ (qv (jI CZ (ir λ_ _ _=>.bl _) (eV (aL (aa 1) az) (aL (aa 2) az)) az) (q_ (jY hr.units (aa 4) (bf aO))))))))) (av (bR (iR (dZ (aW h_law_one hr (ao (aa 1) (ao (aa 2) (ao (aa 7) au)))))) (aH (aU fB)) bL)
 (av (aN 8 sc.nd (Aj P6 hr (ao (aa 1) (ao (aa 2) (ao (aa 7) au)))))
 (av (bR (iR (dZ (aW h_law_later hr (ao (aa 8) (ao (aa 3) au))))) (aH (aU fB)) bL)
 (av (aN 3 sc.nd (aa 8))
 (aH (aN 4 sc.nd (aa 7))))))) bL)))))
 (aH (aU fB)))))))) (λas r _ h=>h)
end
end K35
namespace K35
open PySem DL K01 WP K51 K52 K55 K22 K33 K32
open K23 (Pr All jr gJ told rC ql a_ oD OR t6 pT yQ zJ zN has vY v7 wB zO lF dB wJ mw Good wL pM Dy ni iL yY wM gP)
section
variable {v w:Wd}{B C:Ps}{n j:Nat}
theorem tR (t:Pr v w):∀(j:Nat) (B C:Ps),(∀p∈B,p∈C)->La v w j C=true->La v w j B=true
 | 0,_,_,_,_=>rfl
 | j + 1,B,C,hs,h=>by
  obtain ⟨h1,h2⟩:=B9.mp h
  refine B9.mpr ⟨tR t j B C hs h1,λk hk=>?_⟩
  obtain ⟨p,hp,hT,hL⟩:=h2 k hk
  have hs':∀q∈B++[p],q∈C++[p]:=λq hq=>by
   rcases S0.mp hq with h | h
   ·exact UJ _ (hs q h)
   ·exact Tg _ h
  refine ⟨p,hp,(Ci t).mpr (((Ci t).mp hT).sub hs'),tR t j _ _ (λq hq=>?_) hL⟩
  rw [jF] at hq ⊢
  exact hq.imp_left (hs q)
theorem LJ (t:Pr v w) (hm:w.m=v.m){σ:List Nat}(i:K23.rJ v w σ) (hs:∀p∈B,p∈jr σ) (j:Nat):La v w j B=true:=by
 have g:=zN hm i
 have il:=i.len
 have i':K33.rJ v w (jr σ):=⟨g,λx hx=>⟨(x,σ[x]'(by omega)),gJ.mpr ⟨by show x < σ.length;omega,rfl⟩,rfl⟩,λx hx=>by
  have:=cover i.nd i.rg (by omega) x (by omega)
  obtain ⟨k,hk,e⟩:=TL.mp this
  exact ⟨(k,x),gJ.mpr ⟨hk,e⟩,rfl⟩⟩
 exact tQ t i' j B hs
theorem IW (t:Pr v w) (g:Good v w B) (hv:v.m<=n) (hw:w.m<=n) (h:La v w n B=true):w.m=v.m/\∃σ,K23.rJ v w σ/\∀p∈B,p∈jr σ:=by
 obtain ⟨qs,i,hs⟩:=ED t g hv hw h
 have l1:v.m<=qs.length:=many (s:=0) i.a
 have l2:qs.length<=v.m:=kW i.g
 have l3:w.m<=qs.length:=many (s:=1) i.b
 have l4:v.m<=w.m:=by
  have nd:(qs.map Xa).Nodup:=S9.mpr (i.g.up.imp_of_mem fun {p q} hp hq hlt e=>by have:=(i.g.ag p hp q hq).eq;omega)
  have:=SH nd (l₂:=Sh w.m) λx hx=>by
   obtain ⟨p,hp,rfl⟩:=Sb.mp hx
   exact Sy.mpr (i.g.rg p hp).2
  simp at this;omega
 have hm:w.m=v.m:=by omega
 obtain ⟨z,j⟩:=zJ hm i.g (by omega)
 exact ⟨hm,_,j,λp hp=>z▸hs p hp⟩
theorem DM {m:Nat}:∀{k:Nat}{σ:List Nat},σ.length=k->σ.Nodup->(∀p∈σ,p < m)->σ∈OR m k
 | 0,σ,hl,_,_=>by rw [UI.mp hl];exact Ss.mpr rfl
 | k + 1,σ,hl,nd,rg=>by
  rcases UX σ with rfl | ⟨τ,x,rfl⟩
  ·cases hl
  rw [UY] at hl nd rg ⊢
  obtain ⟨n1,_,n3⟩:=VN.mp nd
  rw [SI] at hl
  refine V2.mpr ⟨τ,DM (Nat.succ.inj hl) n1 λp hp=>rg p (UJ _ hp),?_⟩
  refine Sb.mpr ⟨x,Te.mpr ⟨Sy.mpr (rg x (by simp)),?_⟩,rfl⟩
  rw [K55.inN,decide_eq_false λh=>n3 x h x (by simp) rfl]
  rfl
def due (v w:Wd) (B:Ps):Bool:=(v.m == w.m) && (OR v.m v.m).any λσ=>has σ B && bu (gW v σ).d w.d
theorem Bp (A:All v w) (g:Good v w B) (hv:v.m<=n) (hw:w.m<=n):due v w B=true↔La v w n B=true:=by
 unfold due
 rw [Sf,beq_iff_eq,U7]
 constructor
 ·rintro ⟨hm,σ,hσ,h⟩
  obtain ⟨l,nd,rg⟩:=t6 v.m hσ
  rw [Sf,Dy] at h
  exact LJ A.t hm.symm ((v7 A.t hm.symm A.vb A.wb A.vs A.ws (wB nd l rg)).mp h.2) ((vY λp hq=>by rw [l];exact (g.rg p hq).1).mp h.1) n
 ·intro h
  obtain ⟨hm,σ,i,hs⟩:=IW A.t g hv hw h
  refine ⟨hm.symm,σ,DM i.len i.nd i.rg,?_⟩
  rw [Sf,Dy]
  exact ⟨(vY λp hq=>by rw [i.len];exact (g.rg p hq).1).mpr hs,(v7 A.t hm A.vb A.wb A.vs A.ws (zO i)).mpr i⟩
theorem q9 (t:Pr v w) (g:Good v w B):pv v w n B=none↔La v w n B=true:=by
 unfold pv
 rw [WR]
 have hT:=decide_eq_true ((qU t).mpr g)
 constructor
 ·intro h
  have:=h n (Sy.mpr (U6 n))
  rw [hT] at this
  simpa using this
 ·intro h j hj
  rw [hT,show La v w j B=true from qN (Wf (Sy.mp hj)) h]
  decide
theorem wD (t:Pr v w) (g:Good v w B) (h:pv v w n B=some j):1<=j/\j<=n/\La v w j B=false/\∀i,i < j->La v w i B=true:=by
 unfold pv at h
 rw [decide_eq_true ((qU t).mpr g)] at h
 obtain ⟨h1,h2,h3⟩:=VP.mp h
 have h1:La v w j B=false:=by simpa using h1
 refine ⟨?_,by have:=Sy.mp h2;omega,h1,λi hi=>by simpa using h3 i hi⟩
 rcases j with _ | j
 ·cases h1
 ·omega
abbrev eO (v w:Wd) (B:Ps) (b:Bool) (x:Option S):Ev:=[some (.d v.d),some (.d w.d),some (.d (a_ B)),some (.d (.bl b)),x,none]
theorem IL {α:Type}{tg:GT}{u:G O}{h:α->D}(J:Bool->Ev->Prop) (f:α->Bool):∀(xs:List α) (b:Bool) (env:Ev),J b env->(∀x∈xs,∀b env,J b env->∃e,tg (h x) env=.ok e/\Wp (u e) λo=>∃e',o=.nx e'/\J (b || f x) e')->
  Wp (fH tg u (xs.map h) env) λo=>∃e,o=.nx e/\J (b || xs.any f) e
 | [],b,env,hJ,_=>⟨.nx env,rfl,env,rfl,by rw [List.any_nil,Xs];exact hJ⟩
 | x::xs,b,env,hJ,step=>by
  obtain ⟨e,h1,o,ho,e',rfl,hJ'⟩:=step x Se b env hJ
  rw [Sw,WK,<-Bool.or_assoc]
  show Wp (tg (h x) env >>= _) _
  rw [h1,aP,ho,aP]
  exact IL J f xs _ e' hJ' λx hx=>step x (Sd _ hx)
theorem EU {env:Ev}{a b:G Bool}(h:a env=.ok true):jv a b env=.ok true:=by
 unfold jv
 rw [h];rfl
theorem HJ (A:All v w) (g:Good v w B) (hv:v.m<=n) (hw:w.m<=n) (hn:n=max v.m w.m):jQ [.d v.d,.d w.d,.d (a_ B)]=.ok (.d (.bl true)):=by
 have t:=A.t
 have v4:=t.v4
 have lB:=kW g
 have lo:=pT v4 v.m
 have p1:(4:Nat) ^ v.m<=4 ^ 4:=UK (by decide) v4
 have p2:(4:Nat) ^ 4=256:=by decide
 have hp:=sN t n hv hw (a_ B) B (by rw [B7 B (by omega),Fq (Bu g)]) (by omega)
 have tl:∀x:Option S,Wp (aM (bg 5 (gN (aQ 3 K32.eK) (aq (af 0) (aq (af 1) (aq (af 2) aG)))))
   (aM (bS (jv (p6 (af 3)) (bC (g2 (kT false) (af 5) (gC .non)))) (bJ (lY (af 3) (g2 (kT false) (af 5) (gC .non)))) dJ)
   (bJ (lY (gN (aQ 1 K01.fQ) (aq (af 5) aG)) (Ib (λi j=>decide (i<=j)) (λi j=>decide (i<=j)) (gC (.int 1)) (af 5) (gN sX (aq (g2 aZ (af 0) (gC (.int 0))) (aq (g2 aZ (af 1) (gC (.int 0))) aG)))))))
   (eO v w B (due v w B) x)) (·=.rt (.d (.bl true))):=λx=>by
  refine bB (c3 rfl rfl rfl hp) rfl ?_
  cases q:pv v w n B with
  | none=>
   have e:due v w B=true:=(Bp A g hv hw).mpr ((q9 t g).mp q)
   rw [e]
   exact cu (gA (EU rfl) (bP rfl rfl rfl))
  | some j=>
   have e:due v w B=false:=aaw.mpr λh=>by
    have:=(q9 t g).mpr ((Bp A g hv hw).mp h)
    rw [q] at this;cases this
   rw [e]
   obtain ⟨j1,jn,_⟩:=wD t g q
   refine dM (K23.Iv rfl rfl) (bP (yY (show _=M.ok (lW (.d (.bl (Ol (dN j))))) from c1 rfl (IV (dN j))) (r:=.d (.bl true)) ?_) rfl rfl)
   unfold Ib
   show (if decide ((1:Int)<=(j:Int))=true then _ else _)=_
   rw [decide_eq_true (by omega),if_pos rfl]
   have RD:gN sX (aq (g2 aZ (af 0) (gC (.int 0))) (aq (g2 aZ (af 1) (gC (.int 0))) aG)) [some (.d v.d),some (.d w.d),some (.d (a_ B)),some (.d (.bl false)),x,some (.d (.int j))]=.ok (.d (.int (n:Int))):=by
    show (aq _ _ _ >>= sX)=_
    unfold aq aG
    rw [two rfl rfl (f9 _ _),two rfl rfl (f9 _ _)]
    show M.ok (R.d (.int (if (w.m:Int) > v.m then (w.m:Int) else v.m)))=_
    congr 3
    rw [hn]
    split <;> omega
   show (gN sX (aq (g2 aZ (af 0) (gC (.int 0))) (aq (g2 aZ (af 1) (gC (.int 0))) aG)) [some (.d v.d),some (.d w.d),some (.d (a_ B)),some (.d (.bl false)),x,some (.d (.int j))] >>= _)=_
   rw [RD,aP]
   show M.ok (R.d (.bl (decide ((j:Int)<=(n:Int)))))=_
   rw [decide_eq_true (by omega)]
 refine cH (bB (r:=.d (.bl false)) rfl rfl ?_)
 have eqi:cL false (.d (.int (v.m:Nat))) (.d (.int (w.m:Nat)))=.ok (.d (.bl (v.m == w.m))):=by
  rw [K01.eq_int]
  congr 3
  show ((v.m:Int) == (w.m:Int))=_
  rw [Ui,beq_iff_eq,beq_iff_eq]
  omega
 by_cases hm:v.m=w.m
 ·have hb:(v.m == w.m)=true:=by rw [hm];simp
  refine cu (gA (dB (two rfl rfl (f9 _ _)) (two rfl rfl (f9 _ _)) (eqi.trans (by rw [hb]))) (qS (ds:=(OR v.m v.m).map oD) ?_ ((IL (h:=oD) (λb e=>∃x,e=eO v w B b x) (λσ=>has σ B && bu (gW v σ).d w.d) (OR v.m v.m) false _ ⟨none,rfl⟩ ?_).mono ?_)))
  ·show (gN _ _ _ >>= _)=_
   rw [c1 (two rfl rfl (f9 _ _)) (yQ v.m t.vo.lo t.v4)]
   rfl
  ·rintro σ hσ b _ ⟨x,rfl⟩
   have ln:=(t6 v.m hσ).1
   refine ⟨_,rfl,?_⟩
   have h1:bC (gN oz (aq (bK 2 [4] (eY (af 2)) (dh 2 (bw (aA 0) (bw (aA 1) dz))) cI (g2 (cL false) (g2 aZ (af 2) (af 0)) (af 1))) aG)) (eO v w B b (some (.d (oD σ))))=.ok (has σ B):=by
    refine wJ (n1 (kr (xs:=B) (λp=>dN p.1) (λp=>dN p.2) (λp=>.bl (σ.getD p.1 0 == p.2)) rfl (by omega) λp hp'=>⟨_,two (two rfl rfl (CL (by rw [ln];exact (g.rg p hp').1))) rfl rfl,?_⟩) (K23.allM _ B))
    show M.ok (D.bl (bu (dN (σ.getD p.1 0)) (dN p.2)))=_
    rw [K55.rY]
   have h2:bC (g2 (cL false) (gN (aQ 2 K55.eT) (aq (af 0) (aq (af 4) aG))) (af 1)) (eO v w B b (some (.d (oD σ))))=.ok (bu (gW v σ).d w.d):=
    dB (c2 rfl rfl (yS v t.vo 30 (by decide) A.vb σ ln)) rfl (lU false (.d (gW v σ).d) (.d w.d) (K23.FI _) (K23.FI _))
   cases q1:has σ B with
   | false=>
    rw [q1] at h1
    exact qi (ni h1) (jD ⟨_,rfl,some (.d (oD σ)),by rw [ZC,Xs];rfl⟩)
   | true=>
    rw [q1] at h1
    cases q2:bu (gW v σ).d w.d with
    | false=>rw [q2] at h2;exact qi (iL h1 h2) (jD ⟨_,rfl,some (.d (oD σ)),by rw [Vx,Xs];rfl⟩)
    | true=>rw [q2] at h2;exact gA (iL h1 h2) (fu (r:=.d (.bl true)) rfl rfl ⟨_,rfl,some (.d (oD σ)),by rw [Vs,acC];rfl⟩)
  ·rintro _ ⟨_,rfl,x,rfl⟩
   have:=tl x
   unfold due at this
   rw [hb,Vs] at this
   rw [aae]
   exact this
 ·have hb:(v.m == w.m)=false:=beq_eq_false_iff_ne.mpr hm
  refine cu (qi (dB (two rfl rfl (f9 _ _)) (two rfl rfl (f9 _ _)) (eqi.trans (by rw [hb]))) (jD ?_))
  have:=tl none
  unfold due at this
  rw [hb,ZC] at this
  exact this
theorem IP (t:Pr v w) (gB:Good v w B) (gC':Good v w C) (hs:∀p∈B,p∈C):jL [.d (dV (pv v w n C)),.d (dV (pv v w n B))]=.ok (.d (.bl true)):=by
 cases q:pv v w n C with
 | none=>
  rw [(q9 t gB).mpr (tR t n B C hs ((q9 t gC').mp q))]
  rfl
 | some i=>
  obtain ⟨_,i2,i3,i4⟩:=wD t gC' q
  cases q2:pv v w n B with
  | none=>rfl
  | some j=>
   obtain ⟨_,j2,j3,j4⟩:=wD t gB q2
   have:i<=j:=YI λc=>by
    have:=tR t j B C hs (i4 j c)
    rw [j3] at this;cases this
   refine cH (dM rfl (bP (r:=.d (.bl true)) (Mf rfl ?_) rfl rfl))
   show M.ok (R.d (.bl (decide ((i:Int)<=(j:Int)))))=_
   rw [decide_eq_true (by omega)]
end
abbrev eL (ns:List Int) (v w:Wd) (n:Nat) (B:Ps) (a b c d:Option S):Ev:=[some (.bor (ns.map D.int)),some (.d v.d),some (.d w.d),some (.d (dV (pv v w n B))),some (.d (a_ B)),a,b,c,d]
theorem JM (ns:List Int) (h:ns.length<=63):vD [.bor (ns.map .int)]=.ok (.d (.bl true)):=by
 obtain ⟨v,w,hw,t,vb,wb,vs,ws⟩:=K23.K3 ns [2,3,1,3,2,3,2,4] rfl (by decide)
 have A:All v w:=⟨t,vb,wb,vs,ws⟩
 have vlo:=t.vo.lo
 have wlo:=t.wo.lo
 have v4:=t.v4
 obtain ⟨n,hn⟩:∃n,n=max v.m w.m:=⟨_,rfl⟩
 have hv:v.m<=n:=by omega
 have hw':w.m<=n:=by omega
 have g0:Good v w []:=⟨VI,(λ_ h=>nomatch h),(λ_ h=>nomatch h)⟩
 refine cH (u_ (c2 rfl (nI rfl (by show 8<=1000;decide)) hw) rfl rfl (dM (mw (b:=true) (lF (c3 rfl rfl (bx br (by decide)) (HJ A g0 hv hw' hn)))) (bB (c2 rfl rfl (sN t n hv hw' .non [] wM (by decide))) rfl (bB (r:=.d (a_ [])) (bx br (by decide)) rfl ?_))))
 refine jP (ds:=(Sh 4).map λ(k:Nat)=>D.int ((17 + k:Nat):Int)) rfl ?_
 refine qL (λk env=>∃B a b c d,env=eL ns v w n B a b c d/\Good v w B/\B.length<=k) _ ⟨[],none,none,none,none,rfl,g0,Sj _⟩ ?_ ?_
 ·rintro k hk _ ⟨B,a,b,c,d,rfl,g,hl⟩
  have RU:k < 4:=by simpa using hk
  rw [U8,X5]
  refine ⟨_,rfl,?_⟩
  have ck:=K51.jz ns (17 + k)
  obtain ⟨x,hx,P8⟩:=BF (K51.cG ns (17 + k)) v.m (by omega)
  obtain ⟨y,hy,hyl⟩:=BF (K51.cG ns (17 + k) / 4) w.m (by omega)
  obtain ⟨C,hC⟩:∃C,C=dU B (x,y):=⟨_,rfl⟩
  refine bB (c2 rfl rfl (K51.gK ns _ (17 + k) rfl)) rfl (bB (WP.c2 (z:=.d (a_ C)) rfl (bx (aJ (two rfl (two rfl rfl (f9 _ _)) (gV _ _ (by omega))) rfl (aJ (two (two rfl rfl (o6 _ 4 (by decide) (by decide))) (two rfl rfl (f9 _ _)) (gV _ _ (by omega))) rfl br)) (by show 2<=1000;decide)) ?_) rfl ?_)
  ·rw [hx,hy,hC]
   exact K6 B (x,y) (by omega)
  have lC:C.length<=k + 1:=by
   have:=KN (B++[(x,y)])
   rw [hC];unfold dU;simp at this;omega
  have hsub:∀p∈B,p∈C:=λp hp=>by rw [hC,jF];exact .inl hp
  obtain ⟨b1,hb1⟩:∃b1,cL true (.d (a_ C)) (.d (a_ B))=.ok (.d (.bl b1)):=⟨_,lU true (.d (a_ C)) (.d (a_ B)) (uU _) (uU _)⟩
  obtain ⟨b2,hb2⟩:∃b2,cL false (.d (a_ B)) (.d (a_ []))=.ok (.d (.bl b2)):=⟨_,lU false (.d (a_ B)) (.d (a_ [])) (uU _) (uU _)⟩
  have ht:∃z,(z=true->sY v w C=true)/\(jC (bC (g2 (cL true) (af 7) (af 4))) (jC (bC (gN (aQ 3 K22.iW) (aq (af 1) (aq (af 2) (aq (af 7) aG))))) (jv (bC (g2 (jS λi j=>.bl (decide (i < j))) (g2 cR (g2 aZ (af 1) (gC (.int 0))) (g2 aZ (af 2) (gC (.int 0)))) (gC (.int 8)))) (bC (g2 (cL false) (af 4) (bD aV)))))) (eL ns v w n B (some (.d (.int ((17 + k:Nat):Int)))) (some (.d (.int (K51.cG ns (17 + k))))) (some (.d (a_ C))) d)=.ok z:=by
   have h1:=dB (env:=eL ns v w n B (some (.d (.int ((17 + k:Nat):Int)))) (some (.d (.int (K51.cG ns (17 + k))))) (some (.d (a_ C))) d) (g:=af 7) (h:=af 4) rfl rfl hb1
   have h2:=lF (env:=eL ns v w n B (some (.d (.int ((17 + k:Nat):Int)))) (some (.d (.int (K51.cG ns (17 + k))))) (some (.d (a_ C))) d) (c3 (g:=af 1) (h:=af 2) (k:=af 7) rfl rfl rfl (K1 v w C))
   cases b1 with
   | false=>exact ⟨false,(λh=>nomatch h),ni h1⟩
   | true=>
    cases q:sY v w C with
    | false=>rw [q] at h2;exact ⟨false,(λh=>nomatch h),iL h1 (ni h2)⟩
    | true=>
     rw [q] at h2
     have h3:∃z,jv (bC (g2 (jS λi j=>.bl (decide (i < j))) (g2 cR (g2 aZ (af 1) (gC (.int 0))) (g2 aZ (af 2) (gC (.int 0)))) (gC (.int 8)))) (bC (g2 (cL false) (af 4) (bD aV))) (eL ns v w n B (some (.d (.int ((17 + k:Nat):Int)))) (some (.d (.int (K51.cG ns (17 + k))))) (some (.d (a_ C))) d)=.ok z:=by
      have h4:=dB (env:=eL ns v w n B (some (.d (.int ((17 + k:Nat):Int)))) (some (.d (.int (K51.cG ns (17 + k))))) (some (.d (a_ C))) d) (f:=jS λi j=>.bl (decide (i < j))) (h:=gC (.int 8)) (two (f:=cR) (two (g:=af 1) (h:=gC (.int 0)) rfl rfl (f9 _ _)) (two (g:=af 2) (h:=gC (.int 0)) rfl rfl (f9 _ _)) rfl) rfl rfl
      rcases hq:decide ((v.m:Int) + w.m < 8) with _ | _
      ·rw [hq] at h4
       exact ⟨b2,K23.Iv h4 (dB rfl (bx br (by decide)) hb2)⟩
      ·rw [hq] at h4
       exact ⟨true,EU h4⟩
     obtain ⟨z,hz⟩:=h3
     exact ⟨z,λ_=>rfl,iL h1 (iL h2 hz)⟩
  obtain ⟨z,hz1,hz⟩:=ht
  refine zX hz (λe=>?_) λ_=>jD ⟨_,rfl,B,_,_,_,_,rfl,g,by omega⟩
  have Ro:=(Jp t C).mp (hz1 e)
  have gC':Good v w C:=(zI (by rw [hC];exact AB _)).mpr ⟨Ro,λp hp=>by
   rw [hC,jF] at hp
   rcases hp with hp | rfl
   ·exact g.rg p hp
   ·exact ⟨P8,hyl⟩⟩
  refine dM (mw (b:=true) (lF (c3 rfl rfl rfl (HJ A gC' hv hw' hn)))) (bB (c3 rfl rfl rfl (sN t n hv hw' (a_ C) C (by rw [B7 C (by omega),Fq (Bu gC')]) (by omega))) rfl (dM (mw (b:=true) (lF (c2 rfl rfl (IP t g gC' hsub)))) (bB rfl rfl (fu rfl rfl ⟨_,rfl,C,_,_,_,_,rfl,gC',lC⟩))))
 ·rintro _ ⟨B,a,b,c,d,rfl,_⟩
  exact bP rfl rfl rfl
end K35
namespace K35
open PySem PySem.Spec PyProof.Rows L2 DL DX
theorem all_mk {l:Y6}{w:S3}{K:R7}{h:TM}{mg:Str->Option R8}{fa:Sm}(X:K.In h) (G:h.Ns SS mg) (Rw:mg "law"=some (.ref fa))
  {f20 f35:Sm}{o20 n20 o35 n35:Option Sm}{s20 s35:Array (Option R8)}{u20 v20 d20 p20 q20 r20 u35 v35 d35 p35 q35 r35:R8}
  {T20:Sm}{oT20:R8}{dT20:Option Sm}{nT20:Nat}{sT20:Array (Option R8)}
  {t1:Tok}
  (e0:FA K "is_whole" xR)
  (e1:FA K "tongue_of" vj)
  (e2:FA K "need_tongue" qF)
  (e3:FA K "need_few_points" lD)
  (e4:FA K "need_small" sL)
  (e5:FA K "need_count" sJ)
  (e6:FA K "rising" BS)
  (e7:FA K "view" IG)
  (e8:FA K "views" Ft)
  (e9:FA K "agree" Fi)
  (e10:FA K "goes_behind" qC)
  (e11:FA K "pairings" xV)
  (e12:FA K "added" Fg)
  (e13:FA K "pairs_with" sM)
  (e14:FA K "picks_of" xW)
  (e15:FA K "outcomes" xT)
  (e16:FA K "answered_still" mG)
  (e17:FA K "peeled" BR)
  (e18:FA K "pairings_with" nR)
  (e19:FA K "parting_depths" mL)
  (a20:Th K SS "parted"=some (some (.ref f20)))
  (l20:K.lookup f20=some ⟨u20,o20,.func (TH "parted" "parted" (cU iT) (bV iT) (aY iT) (.ref T20) v20 d20 p20 n20 q20 r20),s20⟩)
  (c20:Vu K q20 "parted"=true)
  (k20:T7 K (.ref f20)=true)
  (lT20:K.lookup T20=some ⟨oT20,dT20,.seq #[.none] nT20,sT20⟩)
  (e21:FA K "_law_cell" vd)
  (e22:FA K "_law_names" sF)
  (e23:FA K "_law_bits" vc)
  (e24:FA K "_law_world" sI)
  (e25:FA K "_law_order" sG)
  (e26:FA K "_law_turned" qB)
  (e27:FA K "_law_flipped" pI)
  (e28:FA K "_law_two" xQ)
  (e29:FA K "_law_fits" ve)
  (e30:FA K "_law_with" vf)
  (e31:FA K "_law_orders" qA)
  (e32:FA K "_law_whole" sH)
  (e33:FA K "_law_one" xP)
  (e34:FA K "_law_later" sE)
  (a35:Th K SS "law"=some (some (.ref f35)))
  (l35:K.lookup f35=some ⟨u35,o35,.func (TH "law" "law" (cU oY) (bV oY) (aY oY) .none v35 d35 p35 n35 q35 r35),s35⟩)
  (c35:Vu K q35 "law"=true)
  (k35:T7 K (.ref f35)=true)
  (z0:Th K SS "all"=some none)
  (z1:Th K SS "any"=some none)
  (z2:Th K SS "bool"=some none)
  (z3:Th K SS "int"=some none)
  (z4:Th K SS "isinstance"=some none)
  (z5:Th K SS "len"=some none)
  (z6:Th K SS "list"=some none)
  (z7:Th K SS "max"=some none)
  (z8:Th K SS "range"=some none)
  (z9:Th K SS "set"=some none)
  (z10:Th K SS "sorted"=some none)
  (z11:Th K SS "tuple"=some none)
  (z12:Th K SS "zip"=some none)
  (gMOST_SMALL:Th K SS "MOST_SMALL"=some (some (.int 4 t1))):
  ∃fd:SO,(∀(s:R_) (v:R8),aa8 s fd ⟨[v],[]⟩ [("_law_script",v)])/\∀base:TM,K.In base->base.Ns SS mg->fF l.prog w K mg base o_ 9 fa fd ["_law_script"] (qH K 1 K35.vD):=by
 have e:=Rw.symm.trans (WU X G a35)
 cases e
 obtain ⟨f16,d16,a16,F16⟩:=id e16
 have F20:=Ju (st:=iT) l20 c20 k20 lT20
 have F35:=En (st:=oY) l35 c35 k35
 have m:dI w K mg:=⟨Tt X G z0,
   Tt X G z1,
   Tt X G z2,
   Tt X G z3,
   Tt X G z4,
   Tt X G z5,
   Tt X G z6,
   Tt X G z7,
   Tt X G z8,
   Tt X G z9,
   Tt X G z10,
   Tt X G z11,
   Tt X G z12,
   ⟨_,(.int 4),WU X G gMOST_SMALL,⟨_,rfl⟩,λ_=>(.int _)⟩,
   ⟨_,a16,WU X G a16⟩⟩
 refine ⟨TH "law" "law" (cU oY) (bV oY) (aY oY) .none v35 d35 p35 n35 q35 r35,λs v=>.of_eq rfl,λbase _ _=>?_⟩
 have C0:=AS (P:=l.prog) (base:=base) m (bY X G e0)
 have C1:=zm (P:=l.prog) (base:=base) m (bY X G e1)
 have C2:=vP (P:=l.prog) (base:=base) m C1 (bY X G e2)
 have C3:=pX (P:=l.prog) (base:=base) m (bY X G e3)
 have C4:=yk (P:=l.prog) (base:=base) m C2 C3 (bY X G e4)
 have C5:=yj (P:=l.prog) (base:=base) m C0 (bY X G e5)
 have C6:=D7 (P:=l.prog) (base:=base) m (bY X G e6)
 have C7:=Jc (P:=l.prog) (base:=base) m (bY X G e7)
 have C8:=F4 (P:=l.prog) (base:=base) m C7 (bY X G e8)
 have C9:=F2 (P:=l.prog) (base:=base) m (bY X G e9)
 have C10:=vO (P:=l.prog) (base:=base) m C9 (bY X G e10)
 have C11:=AX (P:=l.prog) (base:=base) m C4 C5 C8 C9 C10 (bY X G e11)
 have C12:=F1 (P:=l.prog) (base:=base) m C6 (bY X G e12)
 have C13:=yl (P:=l.prog) (base:=base) m (bY X G e13)
 have C14:=AY (P:=l.prog) (base:=base) m (bY X G e14)
 have C15:=AW (P:=l.prog) (base:=base) m C13 C12 C14 (bY X G e15)
 have C16:=rE (P:=l.prog) (base:=base) m (bY X G e16)
 have C17:=D6 (P:=l.prog) (base:=base) m C16 (bY X G e17)
 have C18:=sU (P:=l.prog) (base:=base) m C11 (bY X G e18)
 have C19:=rG (P:=l.prog) (base:=base) m C18 C15 C17 (bY X G e19)
 have O_parted:=El (P:=l.prog) (w:=w) (base:=base) m C4 C6 C19 F20
 have C20:=D5 O_parted F20 (WU X G a20)
 have D_parted:=Ct O_parted F20 (WU X G a20)
 have C21:=zd (P:=l.prog) (base:=base) m (bY X G e21)
 have C22:=yd (P:=l.prog) (base:=base) m (bY X G e22)
 have C23:=zc (P:=l.prog) (base:=base) m (bY X G e23)
 have C24:=yg (P:=l.prog) (base:=base) m C23 (bY X G e24)
 have C25:=ye (P:=l.prog) (base:=base) m (bY X G e25)
 have C26:=vN (P:=l.prog) (base:=base) m (bY X G e26)
 have C27:=uh (P:=l.prog) (base:=base) m (bY X G e27)
 have C28:=AR (P:=l.prog) (base:=base) m C21 C22 C24 C25 C26 C27 (bY X G e28)
 have C29:=ze (P:=l.prog) (base:=base) m (bY X G e29)
 have C30:=zf (P:=l.prog) (base:=base) m (bY X G e30)
 have C31:=vM (P:=l.prog) (base:=base) m (bY X G e31)
 have C32:=yf (P:=l.prog) (base:=base) m (bY X G e32)
 have C33:=AQ (P:=l.prog) (base:=base) m C31 C26 C20 C32 (bY X G e33)
 have C34:=yc (P:=l.prog) (base:=base) m (bY X G e34)
 exact Ny m C28 C33 C20 C21 C30 C29 C34 D_parted F35
theorem KL (K:R7) (H:Hp) (a:Sm) (ns:List Int) (hl:ns.length<=63) (hO:Ca H) (hS:cK K H a (ns.map V.int)):qH K 1 K35.vD [.ref a] H (λv _=>v=.bl true) λ_ _ _=>False:=by
 refine ⟨λ_=>none,[.bor (ns.map D.int)],λ_ _ z=>(by cases z),rfl,⟨_,[],rfl,⟨a,_,rfl,hS,?_⟩,rfl⟩,?_⟩
 ·exact K01.xJ ns
 ·rw [JM ns hl]
  intro v J H2 _ r
  cases r
  rfl
theorem walk {l:Y6}{q:Su}{loose:List Str}{XP:(Str->Option R8)->TM->Prop}{YP:S3->TM->Prop}{d:DefRec}{K:abY->R7}(hn:l.most=some 63) (hdf:d.params.defaults=[])
  (hY:∀(w:S3) (h:TM),YP w h->(K w.params).In h)
  (F:∀(w:S3) (mg:Str->Option R8) (fa:Sm) (h:TM),(K w.params).In h->h.Ns SS mg->mg d.name=some (.ref fa)->
   ∃fd:SO,(∀(s:R_) (u:R8),aa8 s fd ⟨[u],[]⟩ [("_law_script",u)])/\∀base:TM,(K w.params).In base->base.Ns SS mg->fF l.prog w (K w.params) mg base o_ 9 fa fd ["_law_script"] (qH (K w.params) 1 K35.vD)):
  acg q loose XP YP l.row.toRowW d [] (λf vs=>abZ f vs):=
 L2.KZ (n:=63) (k:=9) (x:="_law_script") (CX:=λ_=>o_) (sp:=λw=>qH (K w.params) 1 K35.vD) hn (by decide) hdf ⟨rfl,by decide,by decide⟩ hY F (λw H a ns hl hO hS=>KL _ H a ns hl hO hS) λ_ _ _ _ _ z=>z
end K35
open PySem PySem.W PyProof.Rows
set_option maxRecDepth 100000 in
set_option maxHeartbeats 0 in
theorem PySem.Challenge.cw_pickalike_k35_whole_never_parted_holds : PySem.Challenge.rw_pickalike_k35_whole_never_parted.Holds := by
 refine holds_law K35.look λsaid=>?_
 refine holds_open (q:=K35.VW) (XP:=XL K35.VW []) (YP:=Hook.says K35.HK) K35.left (Hook.of K35.HK) (Hook.keeps K35.HK) (λs e=>xl_of s (Zz.mp e).1) XL.keeps (by rfl) (by rfl) (by rfl) (λs e=>recFacts_of (Zz.mp e).2) (by rfl) said (by decide +kernel) ⟨rfl,rfl,rfl,rfl,rfl,by decide +kernel⟩ ?hw ?hc
 (case hw=>w_witness2)
 delta K35.HK
 k_fill
 refine K35.walk (l:=PySem.Challenge.rw_pickalike_k35_whole_never_parted) rfl rfl (K:=K35.KF) (λw h Y=>PySem.W.kIn_of Y) ?F
 case F=>
  intro w mg fa h KX G hmg
  refine' K35.all_mk KX G hmg (DL.bX ?a0 ?l0 ?c0 ?k0) (DL.bX ?a1 ?l1 ?c1 ?k1) (DL.bX ?a2 ?l2 ?c2 ?k2) (DL.bX ?a3 ?l3 ?c3 ?k3) (DL.bX ?a4 ?l4 ?c4 ?k4) (DL.bX ?a5 ?l5 ?c5 ?k5) (DL.bX ?a6 ?l6 ?c6 ?k6) (DL.bX ?a7 ?l7 ?c7 ?k7) (DL.bX ?a8 ?l8 ?c8 ?k8) (DL.bX ?a9 ?l9 ?c9 ?k9) (DL.bX ?a10 ?l10 ?c10 ?k10) (DL.bX ?a11 ?l11 ?c11 ?k11) (DL.bX ?a12 ?l12 ?c12 ?k12) (DL.bX ?a13 ?l13 ?c13 ?k13) (DL.bX ?a14 ?l14 ?c14 ?k14) (DL.bX ?a15 ?l15 ?c15 ?k15) (DL.bX ?a16 ?l16 ?c16 ?k16) (DL.bX ?a17 ?l17 ?c17 ?k17) (DL.bX ?a18 ?l18 ?c18 ?k18) (DL.bX ?a19 ?l19 ?c19 ?k19) ?a20 ?l20 ?c20 ?k20 ?lT20 (DL.bX ?a21 ?l21 ?c21 ?k21) (DL.bX ?a22 ?l22 ?c22 ?k22) (DL.bX ?a23 ?l23 ?c23 ?k23) (DL.bX ?a24 ?l24 ?c24 ?k24) (DL.bX ?a25 ?l25 ?c25 ?k25) (DL.bX ?a26 ?l26 ?c26 ?k26) (DL.bX ?a27 ?l27 ?c27 ?k27) (DL.bX ?a28 ?l28 ?c28 ?k28) (DL.bX ?a29 ?l29 ?c29 ?k29) (DL.bX ?a30 ?l30 ?c30 ?k30) (DL.bX ?a31 ?l31 ?c31 ?k31) (DL.bX ?a32 ?l32 ?c32 ?k32) (DL.bX ?a33 ?l33 ?c33 ?k33) (DL.bX ?a34 ?l34 ?c34 ?k34) ?a35 ?l35 ?c35 ?k35 ?z0 ?z1 ?z2 ?z3 ?z4 ?z5 ?z6 ?z7 ?z8 ?z9 ?z10 ?z11 ?z12 ?gMOST_SMALL
  case a0 | l0 | c0 | k0 | a1 | l1 | c1 | k1 | a2 | l2 | c2 | k2 | a3 | l3 | c3 | k3 | a4 | l4 | c4 | k4 | a5 | l5 | c5 | k5 | a6 | l6 | c6 | k6 | a7 | l7 | c7 | k7 | a8 | l8 | c8 | k8 | a9 | l9 | c9 | k9 | a10 | l10 | c10 | k10 | a11 | l11 | c11 | k11 | a12 | l12 | c12 | k12 | a13 | l13 | c13 | k13 | a14 | l14 | c14 | k14 | a15 | l15 | c15 | k15 | a16 | l16 | c16 | k16 | a17 | l17 | c17 | k17 | a18 | l18 | c18 | k18 | a19 | l19 | c19 | k19 | a20 | l20 | c20 | k20 | lT20 | a21 | l21 | c21 | k21 | a22 | l22 | c22 | k22 | a23 | l23 | c23 | k23 | a24 | l24 | c24 | k24 | a25 | l25 | c25 | k25 | a26 | l26 | c26 | k26 | a27 | l27 | c27 | k27 | a28 | l28 | c28 | k28 | a29 | l29 | c29 | k29 | a30 | l30 | c30 | k30 | a31 | l31 | c31 | k31 | a32 | l32 | c32 | k32 | a33 | l33 | c33 | k33 | a34 | l34 | c34 | k34 | a35 | l35 | c35 | k35 | z0 | z1 | z2 | z3 | z4 | z5 | z6 | z7 | z8 | z9 | z10 | z11 | z12 | gMOST_SMALL=>k_is
