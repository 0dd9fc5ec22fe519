import PyProof.Rows.All
import Wide.All
import OpenK.AllK
import Wide.FinOn
import Lean
import PyProof.EqAt
import PyProof.EqKinds
import PyProof.TupleCall
import KE.KIsAll
import PyProof.ExcAttrAll.ValueError
import PyProof.NeKinds
import PyProof.InstStoreFacts
import KE.KUnpackStar
import KE.KSortTup
import PyProof.TupleOfSeq
import PyProof.Rows.SortWalk
import PyProof.EnumFor
import PyProof.EnumStmt
import PyProof.ListRange
import PyProof.TupleKey
import PyProof.SetKind
import PyProof.Rows.SetFrom
import PyProof.SetRoads
import PyProof.CollectWalk
import PyProof.WalksMore
import PyProof.DictKinds
import PyProof.DictCompW
import PyProof.DictRoadsH
import PyProof.DictWalks
import PyProof.StrBlock
import PyProof.StrBlockI
import PyProof.StrLawsIdx
import KE.KSortKey
import PySem.Challenge.RW_pickalike_k66_more_letters_part_no_later
noncomputable section
open And renaming intro->aan
open Array renaming length_toList->TY,getElem?_toList->U4,getElem?_eq_some_iff->Vc,getD->VA,getElem?_eq_getElem->VF,forIn_toList->XX,mem_toList_iff->YK,getD_eq_getD_getElem?->YX,getElem?_eq_none->Z3,toList->Z6,size_append->abo,toList_push->abx
open Array.Perm renaming mem_iff->W3,refl->aev
open Bool renaming and_eq_true->Tt,false_eq_true->TJ,false_ne_true->T_,eq_iff_iff->Uw,not_true->VZ,or_eq_true->WC,and_false->WX,eq_false_iff->Xf,true_and->Xj,and_eq_true_iff->aaG,not_false->aaJ,false_and->acB,or_false->adg,and_self->adi,false_or->adm
open Classical renaming byContradiction->VE,propDecidable->adt
open False renaming elim->Xd
open ForInStep renaming yield->V4
open Function renaming comp_def->Zw
open Iff renaming rfl->ad5
open Int renaming toNat_natCast->U8,emod_lt_of_pos->XR,emod_nonneg->XZ,ofNat_le->YB,fdiv_eq_ediv_of_nonneg->Za,ediv_nonneg->aat,le_trans->abH,le_of_lt->abK,le_refl->acw
open List renaming length_map->Tp,mem_cons_of_mem->Tq,mem_map->Tr,mem_cons_self->Tu,range->Tw,size_toArray->Tz,mem_singleton->TL,mem_range->TM,length_append->TQ,getElem?_eq_getElem->TR,map_cons->TV,mem_cons->TZ,getElem?_eq_some_iff->T7,all_eq_true->T8,mem_append->Ub,map_append->Ue,getElem?_map->Uh,map_map->Uj,mem_filter->Uq,mem_append_right->Uu,getElem?_set_ne->Uz,length_filter_le->UA,length_cons->UB,mem_of_getElem?->UJ,any_eq_true->UL,pairwise_iff_getElem->UX,length_take->U6,pairwise_map->U9,getElem?_append_right->Va,getD_eq_getElem?_getD->Vb,mem_iff_getElem->Ve,getElem?_set_self->Vh,replicate->Vj,lookup_cons->Vn,length->Vo,pairwise_singleton->Vs,getElem_map->Vw,getElem?_append_left->VD,nodup_cons->VI,length_replicate->VJ,find?_range_eq_some->VP,length_drop->VQ,mem_flatMap->VR,mem_append_left->VU,length_eq_zero_iff->V2,idxOf_lt_length_of_mem->V6,not_mem_nil->V9,getElem_mem->Wb,nodup_range->Wc,all_cons->Wi,eq_nil_or_concat->Wk,concat_eq_append->Wl,drop_eq_getElem_cons->Ws,getElem?_zip_eq_some->Wu,pairwise_append->Wv,append_nil->Wz,length_range->WG,filter_eq_self->WS,map_congr_left->WT,take_length->WW,nodup_nil->WY,mem_filterMap->W0,pairwise_cons->W2,map_flatMap->Xx,filterMap_cons->Xy,getElem?_range->Xz,getElem?_replicate->XG,zip_cons_cons->XN,find?_eq_none->XS,range_succ_eq_map->X5,drop_eq_nil_of_le->X6,take_sublist->X8,nodup_append->Yi,append_assoc->Yk,eraseIdx_eq_take_drop_succ->Yl,take_succ->Yq,length_singleton->Yt,any_map->Yv,eq_nil_of_length_eq_zero->YD,ext_getElem->YG,filter_cons->YI,any_cons->YL,map_take->YN,range'->YY,range_succ->YZ,getD->Y6,length_nil->Y7,length_zip->Y8,all_map->Zf,getElem_idxOf->Zh,getLast?_eq_none_iff->Zk,getElem_append_left->Zt,filter_cons_of_pos->ZH,filter_cons_of_neg->ZI,map_drop->ZJ,take_of_length_le->Z0,filter_eq_nil_iff->Z4,of_mem_zip->Z8,map_nil->Z_,foldl_cons->aac,take_append_drop->aaj,mem_iff_getElem?->aak,pairwise_flatMap->aao,range_eq_range'->aaD,length_eraseIdx->aaE,getLast?_concat->aaF,replicate_succ->aaS,getD_cons_zero->aaU,filterMap_map->aa3,contains_cons->aa7,eraseIdx_nil->abr,getElem_drop->abv,idxOf_append->abw,mem_range'_1->abC,getElem_inj->abP,le_antisymm->abT,range'_succ->abV,perm_middle->abW,filter_map->acv,drop_zero->acI,filterMap->acL,lookup->adY,map->aef,foldl->aem
open List.Nodup renaming length_le_of_subset->Uv
open List.Pairwise renaming nil->WB,and_mem->Yx,imp->abA,of_map->adK,and->aen,map->aep
open List.Perm renaming append_left->adF,of_eq->aex
open List.Sublist renaming refl->Zx
open List.cons renaming inj->adn,injEq->aey
open Nat renaming le_refl->Tv,le_trans->T6,lt_of_lt_of_le->T9,ne_of_lt->Ua,zero_le->Uc,lt_irrefl->US,not_lt_zero->UU,pow_le_pow_right->Vt,lt_succ_self->Vv,lt_succ_of_lt->Vy,mul_le_mul_right->VV,mul_le_mul->Wr,le_of_succ_le->WE,ne_of_gt->WJ,lt_trans->WL,lt_trichotomy->Xh,le_add_right->Xv,zero_add->XD,le_succ->Yc,le_of_lt_succ->Yh,pow_succ->Yw,le_of_lt->Zc,lt_of_le_of_lt->Zg,le_of_not_lt->ZR,div_div_eq_div_mul->ZZ,mod_lt->aax,lt_or_eq_of_le->aba,le_of_eq->abF,succ_mul->abG,mul_comm->abI,add_mul->acr,add_assoc->ado,mul_assoc->adw,succ_pos->adC,mul_two->ad7
open Ne renaming symm->VG
open Option renaming isSome_iff_exists->U1,isNone_iff_eq_none->Zm,bind_some->ZS,isSome_some->aa_,getD_none->abR,map_some->ab7,none->adX
open Option.some renaming inj->U3,injEq->Vz
open Or renaming inr->WV,inl->Yu
open Prod renaming fst->UG
open PyProof.Rows renaming slot_tuple_getitem->UN,seqObj->Vf,listUpdate_at->WR,callWith_type1->W8,IntsAre->W_,get?_update_seq->XM,subscriptTail_builtinR->X4,seqEpoch_at->YW,envOfC->Ze,callWith_kw->Zs,AllBare->Zy,kws_cons->aae,listItems_at->aaf,entry_list_sort->aai,kws_nil->aaB,slot_list_sort->aaM,entry_tuple_getitem->aaQ,args_tuple_getitem->aa4,callWith_builtin1->abE,list_sort_plain->ace,slicePart_none->acD,args_list_sort->acJ,boot_range->acU,sortedHeap->ac1,boot_sorted->ac5,tupleItemsOf_->adb,subscriptTail->adf,sortedHeap_at->adl,IsTup->adx,boot_max->adD,lt_int->ad0,lt_str->ad1,le_int->ad4,keyKind'->aed,failedOf->aee
open PyProof.Rows.F renaming plain_set_update_loop->Vl,entry_set_update_loop->Xp
open PyProof.Rows.IsTup renaming new->adz
open PySem renaming wpAny_bind->Tf,wpAny_pure->Th,Value->Ti,Shared->Tj,starEach->TF,Program->TU,wpAny->TX,Addr->T3,model->T5,FuncData->Ud,mainGlobals->Ug,wpAny_newObj_type->Ui,World->Uk,wpAny_holding->Ul,Around->Um,Expr->Uo,wpAny_call_entry->Uy,wpAny_mono->UD,sizeLine_eq->UH,cellsFrom->UI,wpAny_truthy_bool->UM,bootBuiltins->UP,wpAny_callSpecial?_slot->UT,behindInMarks->UZ,foldedSetIterable->U7,backTo->U_,Heap->Vd,compareOp->Vi,codeAny_builtin->Vk,cLine->Vm,SetTable->Vx,wpAny_setState_of->VB,codeAny->VH,wpAny_typeNameOfWhole_keyiter->VS,wpAny_typeNameOfWhole_valiter->VT,NameKind->VX,plainId_quiet->VY,letOwnedTupleGo->V3,wpAny_loadPart'->V5,sysModules->V8,wpAny_forIn_list->Wa,wpAny_askSetting->We,wpAny_Call_Name_kw->Wf,attributeBase->Wg,wpAny_attempt->Wh,Stmt->Wm,assignEach->Wx,wpAny_passesOwn->Wy,wpAny_updateSeq->WD,wpAny_dictEntries->WH,codeAny_mono->WK,wpAny_standAt->WM,binaryOp->WN,mem_of_lookup->WO,wpAny_getItem_str_slice->WU,Builtin->WZ,Scope->W5,standAt->W6,pyNext->W7,wpAny_dictEpoch->Xc,wpAny_pyIter_list->Xg,wpAny_seqItems->Xo,isSubtype_type->Xq,wpAny_fieldsOf->Xs,firstArgMember->Xu,wpAny_isInstance->Xw,mem_of_lookup->XQ,wpAny_specialOf->XU,typeIs_str->X_,sliceBounds->Yb,wpAny_of_eq->Yd,wpAny_pyIter_slot->Ym,wpAny_tryCatch->Yo,compTurn->Yp,wpAny_typeOf->Ys,builtinLookup_eq_fast->Yy,wpAny_isOneOf_valiter->YA,checkBuiltinCall->YC,codeAny_call_builtin->YJ,wpAny_newList->YM,wpAny_rule->YQ,wpAny_execs_nil->YR,swapsWith->YS,wpAny_setEntries_of->Y0,codeAny_of_tree->Y5,post_val_or_str->Y9,pyIter->Zd,wpAny_setField_rec->Zi,wpAny_setField->Zl,Paired->Zn,DictEntry->Zp,searchCouldBeSeen->Zu,swapsWithSole->Zz,keywordEach->ZC,Keyword->ZD,wpAny_letGo->ZG,Comprehension->ZL,rawInt->ZP,noFill_tuple_add->ZQ,richCompare_meets_room->ZY,codeAny_compStart_list->Z1,codeAny_compStart_dict->Z2,wpAny_isTrue_Compare1->Z5,inplaceOp->Z7,concat_meets->Z9,seqItems?->aad,typeLookup_type->aal,isSubtype->aam,wpAny_notOrdered_dict->aap,wpAny_isOneOf_keyiter->aaq,bindArgs->aau,wpAny_call->aav,wpAny_loadName_local->aay,isTrue->aaH,wpAny_newTuple->aaK,wpAny_runValue->aaL,isSubtype_stop->aaN,wpAny_loadName_cell->aaO,wpAny_field->aaP,richCompare->aaV,swappedStores->aaY,seq_tuple_add->aa1,IsPart->aa2,seqIndex?->aa5,wpAny_pyIter_tuple->aa9,wpAny_handled->abb,slot_dict_contains->abd,getItem->abg,wpAny_sequenceKey->abh,slot_list_getitem->abi,call_meets->abk,callerA->abl,ofAClassStatement->aby,wpAny_storeSet_of->abz,Result->abD,argsOk->abJ,wpAny_pyHash_int->abO,wpAny_execs_cons->abQ,backToKw->ab0,PassesOwn->ab3,BindsTo->ab4,updateSeq->ab8,Fin->acd,pushCells->acg,pushCells_keeps->ach,pickOrder->acj,wpAny_throw->acn,noteFrame->acp,theTreesLotGoes->acq,compStart->acs,theWindowsPlace->acu,recursionLimit->acC,boot_len->acH,newFunctionEnv->acK,entryFor_alias->acN,entryOfKey->acQ,builtinsNs->acR,wpAny_Name->acS,wpAny_load->acT,typeIs_int->acV,call->acW,isInstance->acY,reduceHash->acZ,setsByText->ac3,rangeSize_one->ac_,intBits_le_64->ada,evalPart_none->ade,setSearchFrom->adq,wpAny_notedAt->ads,atKey->adu,setField->adv,storeName->ady,Model->adL,bindL->adN,bindC->adO,CellsOk->ad2,GenState->ad8,Operator->ad9,Params->aeb,entryFor->aeg,newExc->aeh,newTuple->aei,raiseNew->aej
open PySem.Around renaming under_plainId->UK
open PySem.AutoSeq1 renaming sub_tuple_tuple->XC
open PySem.Bind renaming checkArgs->acG
open PySem.Builtin.Builtins renaming bindParams->YV
open PySem.Builtin.Dict renaming showsAll->Xb,dictSlotNone->acO,noArgs->ad6
open PySem.Builtin.Dict_items renaming ownsTuple->Vr,newIterator->abN,dictOf->acP
open PySem.Builtin.Frozenset renaming sizeOf->Zv,updateFrom->ab1,newClass->acz
open PySem.Builtin.List renaming listTooLong->VO,listLengthHint->Y3,listExtendWith->Y4,listSameRef->ac4
open PySem.Builtin.Range renaming rangeSize->ZA
open PySem.Builtin.Slice renaming slicePlaces->Wo,sliceAdjust->Xm,sliceApplied->Zb,slicePartIndex->abZ,sliceFields->acE
open PySem.Builtin.Str renaming occurrences->ZF,tooLong->aaT
open PySem.Builtin.Tuple renaming tupleHashOf->UW,tupleExact->WA,tupleItemsOf->Xl,tupleCompareSizes->Ye,tupleIsExact->acy
open PySem.Calls renaming Name_function_global->Y_
open PySem.Challenge renaming rw_pickalike_k66_more_letters_part_no_later->Us,pw_pickalike_k66_more_letters_part_no_later->UO
open PySem.CmpOp renaming NotIn->adM,In->aez
open PySem.Env renaming kindOf->ael
open PySem.Expr renaming Call->aew
open PySem.F renaming slot_dict_valueiterator_next->Vg,slot_dict_keyiterator_next->Vq,plain_max_loop->V_,slot_str_getitem->WI,plainAttrs_list->WQ,called_set->Xa,slot_tuple_hash->Xi,args_tuple_add_2->XA,entry_tuple_add->XH,args_dict_valueiterator_next_1->X0,slot_tuple_add->X3,plain_list_iadd->Yg,entry_dict_valueiterator_next->Yn,args_dict_keyiterator_next_1->Yz,entry_dict_keyiterator_next->YH,attrBase_ValueError->YU,slot_list_append->Zq,type_list_append->Zr,plainAttrs_dict->ZN,slot_dict_values_iter->ZO,entry_max_loop->ZT,entry_proto_collect->aag,plain_proto_collect->aah,slot_str_find->aas,args_list_extend_2->aaz,entry_list_extend->aaR,slot_list_extend->aa6,entry_list_iadd->abu,slot_dict_iter->abY,slot_set_iter->ack,plain_set_new->aco
open PySem.Heap renaming get?_push_of_some->Tn,get?_push_size->TH,lt_size->TN,get?_update_self->UQ,get?_update_other->UY,get?_update_ne->Vp,SameBut->Vu,size_push->Wt,size_update->ZU,ExtBut->acm
open PySem.Heap.IsList renaming push->abU
open PySem.Heap.IsSliceOf renaming new->ad_
open PySem.Heap.SameBut renaming update->VC,refl->aeo
open PySem.IsL renaming update->aeq
open PySem.Moved renaming trans->ad3
open PySem.NameKind renaming free->U0,cell->XJ
open PySem.Obj renaming mapSeq->UR,data_mapFields->XY,mapFields->YO,isFreed_of_fields->aar,cls_mapFields->abB,putSet->ac2
open PySem.Paired renaming length->ac6
open PySem.PassesOwn renaming leaving->abt,never->ab9
open PySem.SeqAt renaming EqAt->VN,ne_of_list_tuple->ZX
open PySem.SeqAt.EqAt renaming same->aaa,int_str->aaW,str_int->aaX,int_int->aa0,of_refs->aa8,tuple_list->adA,list_tuple->adB,none_bool->adG,bool_none->adH,bool_bool->adI,none_int->adP,none_str->adQ,bool_int->adR,bool_str->adS,int_none->adT,int_bool->adU,str_none->adV,str_bool->adW,str_str->aea
open PySem.SeqAt.RcAt renaming tuples->abn,lists->abS,lists_lengths->ac0
open PySem.SeqAt.RcNeAt renaming tuples->adZ,lists->aec
open PySem.SetTable renaming sizeAbove->W4,below->Xr,insertAt->Yj,advance->ZV,tooFull->abX,runEnd->aci,turns->acM,fill->adp
open PySem.Shared renaming TypeIs->ZK
open PySem.Str renaming ofString->W9,length->abj
open PySem.StrLaws renaming sliceText_from->ab2,sliceText_to->acA
open PySem.Txt renaming slice->VM,slice_le->Zj
open PySem.Value renaming none->Ux,bool->V7,ref->Ww,type->X7,int->Yr,builtin->ZE,notImplemented->aaC,str->aet
open PySem.Value.ref renaming inj->aeA
open PySem.W renaming Frag->Tg,nsIn->Ur,mg_none_of->UC,fnOf->UE,keepIn->U5,kia_one->VL,kas_desc->V0,kas_sort->V1,kas_place->Wj,codeIn->Wn,findIn->Wq,mroIn->Xe,mg_of->Xk,InstAt->Xn,clsIn->XI,kas_rev->YE,kas_asc->YF,findObj->YT,methodObj->Zo,cellsFrom_some->ZW,OpenLaw->aab,looks_findIn->aaA,kitOne->aaI,callWith_K->aaZ,specialIn->abm,kitx_dict->abp,kas_descPart->abL,takesIn->ab5,kitMeta->ab6,kas_count->ab_,notCls->acF,WalkO->adh,kas_bin->adj,kat_cons->adk,kas_tail3->adE
open PySem.W.Hook renaming obs->aer,val->aes
open PySem.W.OpenLaw renaming wellSaid->acX
open PySem.W.RowW renaming records->adJ
open PySem.W.WData renaming int->aeu
open PySem.W.WShape renaming has->aek
open PySem.Walks renaming list->abq
open PySem.pickOrder renaming go->abM
open StateT renaming run_pure->acf
open Subtype renaming ext->ZM
open Sum renaming inl->abe,inr->abf
open True renaming intro->aaw
set_option Elab.async false
set_option linter.all false
set_option autoImplicit true
set_option relaxedAutoImplicit true
set_option maxRecDepth 100000
namespace L2
open PySem PySem.Spec PyProof.Rows
abbrev Key:=Sum Int Str
noncomputable def Ij:Key->Ti->Bool
 | .inl k,v=>Value.isInt k v
 | .inr x,v=>Value.isStrOf x v
noncomputable def O1 (w:Uk):Key->Int
 | .inl k=>hashInt k
 | .inr x=>hashStr w x
theorem dF:∀{k:Key}{v:Ti},Ij k v=true->(∃i t,k=abe i/\v=Yr i t)\/(∃x t,k=abf x/\v=aet x t)
 | .inl i,v,h=>by obtain ⟨t,e⟩:=Value.isInt_shape (k:=i) (v:=v) h;exact .inl ⟨i,t,rfl,e⟩
 | .inr x,v,h=>by obtain ⟨t,e⟩:=Value.isStrOf_shape (x:=x) (v:=v) h;exact .inr ⟨x,t,rfl,e⟩
theorem Ma (a b:Int):decide ((abe a:Key)=abe b)=(a == b):=by
 by_cases e:a=b
 ·subst e;simp
 ·have h:¬(abe a:Key)=abe b:=λq=>e (Sum.inl.inj q);rw [decide_eq_false h];exact (beq_eq_false_iff_ne.mpr e).symm
theorem Me (a b:Str):decide ((abf a:Key)=abf b)=decide (a=b):=by
 by_cases e:a=b
 ·subst e;simp
 ·have h:¬(abf a:Key)=abf b:=λq=>e (Sum.inr.inj q);rw [decide_eq_false h,decide_eq_false e]
theorem Mb (a:Int) (b:Str):decide ((abe a:Key)=abf b)=false:=decide_eq_false (λq=>nomatch q)
theorem Mc (a:Str) (b:Int):decide ((abf a:Key)=abe b)=false:=decide_eq_false (λq=>nomatch q)
noncomputable def vt (prog:TU) (w:Uk):PySem.KeyKind prog w Key where
 is:=Ij
 hash:=O1 w
 inj:=λv a b ha hb=>by
  rcases dF ha with ⟨i,t,rfl,rfl⟩ | ⟨x,t,rfl,rfl⟩
  ·rcases dF hb with ⟨j,u,rfl,e⟩ | ⟨y,u,rfl,e⟩
   ·injection e with e1 _;rw [e1]
   ·exact nomatch e
  ·rcases dF hb with ⟨j,u,rfl,e⟩ | ⟨y,u,rfl,e⟩
   ·exact nomatch e
   ·injection e with e1 _;rw [e1]
 byValue:=λk v h=>by rcases dF h with ⟨i,t,rfl,rfl⟩ | ⟨x,t,rfl,rfl⟩ <;> rfl
 pyHash:=λhv h=>by
  rcases dF hv with ⟨i,t,rfl,rfl⟩ | ⟨x,t,rfl,rfl⟩
  ·exact abO h
  ·exact wpAny_pyHash_str h
 eqBool:=λhu hv h=>by
  rcases dF hu with ⟨i,t,rfl,rfl⟩ | ⟨x,t,rfl,rfl⟩
  ·rcases dF hv with ⟨j,u,rfl,rfl⟩ | ⟨y,u,rfl,rfl⟩
   ·rw [Ma] at h;exact wpAny_eqBool_int h
   ·rw [Mb] at h;exact aaW i t y u _ _ _ _ h
  ·rcases dF hv with ⟨j,u,rfl,rfl⟩ | ⟨y,u,rfl,rfl⟩
   ·rw [Mc] at h;exact aaX x t j u _ _ _ _ h
   ·rw [Me] at h;exact wpAny_eqBool_str h
 «strs»:=λk x t v h=>by
  rcases dF h with ⟨i,u,rfl,e⟩ | ⟨y,u,rfl,e⟩
  ·exact nomatch e
  ·injection e with e1 _
   subst e1;cases v <;> rfl
inductive V where
 | non | bl (b:Bool) | int (i:Int) | str (x:Str) | byt (b:Array UInt8) | flt (b:UInt64) | ref (a:T3) | ty (n:String)
 deriving DecidableEq
noncomputable def RelV:V->Ti->Prop
 | .non,u=>u=Ux
 | .bl b,u=>u=V7 b
 | .int i,u=>∃t,u=Yr i t
 | .str x,u=>∃t,u=aet x t
 | .byt b,u=>∃t,u=Value.bytes b t
 | .flt b,u=>∃t,u=Value.float b t
 | .ref a,u=>u=Ww a
 | .ty n,u=>u=X7 n
abbrev Vals:List V->List Ti->Prop:=Zn RelV
theorem Vals.length {xs:List V}{us:List Ti}(r:Vals xs us):xs.length=us.length:=ac6 r
theorem Vals.get:∀{xs:List V}{us:List Ti}{i:Nat}{x:V},Vals xs us->xs[i]?=some x->∃u,us[i]?=some u/\RelV x u
 | _,_,_,_,.nil,e=>by simp at e
 | _,_,0,_,.cons r _,e=>by simp at e;subst e;exact ⟨_,rfl,r⟩
 | _,_,i + 1,x,.cons _ t,e=>by obtain ⟨u,h1,h2⟩:=Vals.get (i:=i) (x:=x) t (by simpa using e);exact ⟨u,by simpa using h1,h2⟩
theorem Vals.set {x:V}{u:Ti}(r:RelV x u):∀{xs:List V}{us:List Ti}(i:Nat),Vals xs us->Vals (xs.set i x) (us.set i u)
 | _,_,_,.nil=>.nil
 | _,_,0,.cons _ t=>.cons r t
 | _,_,i + 1,.cons q t=>.cons q (Vals.set r i t)
theorem Vals.append:∀{xs ys:List V}{us ws:List Ti},Vals xs us->Vals ys ws->Vals (xs++ys) (us++ws)
 | _,_,_,_,.nil,s=>s
 | _,_,_,_,.cons r t,s=>.cons r (Vals.append t s)
theorem Vals.take:∀{xs:List V}{us:List Ti}(n:Nat),Vals xs us->Vals (xs.take n) (us.take n)
 | _,_,0,_=>.nil
 | _,_,_ + 1,.nil=>.nil
 | _,_,n + 1,.cons r t=>.cons r (Vals.take n t)
theorem Vals.drop:∀{xs:List V}{us:List Ti}(n:Nat),Vals xs us->Vals (xs.drop n) (us.drop n)
 | _,_,0,r=>r
 | _,_,_ + 1,.nil=>.nil
 | _,_,n + 1,.cons _ t=>Vals.drop n t
noncomputable def Lf:Option V->Option Ti->Prop
 | some v,some u=>RelV v u
 | none,none=>True
 | _,_=>False
def KV {κ:Type}:List (κ×V)->List (κ×Ti)->Prop:=Zn λ(p:κ×V) (q:κ×Ti)=>p.1=q.1/\RelV p.2 q.2
noncomputable def kV:Key->V
 | .inl i=>.int i
 | .inr x=>.str x
inductive HO where
  | lst (xs:List V)
  | tup (xs:List V)
  | dK (Td:List (Key×V)) | dT (Td:List (List Key×V))
  | set (S:Int->Bool) (n:Nat)
  | ins (C dx:T3) (fs:List (Str×V))
  | own (x:T3)
  | xd (fs:List (Str×V))
  | met (f x:T3)
  | rng (lo hi:Int)
  | frz (o:Obj) (u:HO)
  | tbl (ps:Array Ti)
  | ext (φ:Vd->Prop)
abbrev Hp:=T3->Option HO
def upd (H:Hp) (a:T3) (o:HO):Hp:=λb=>if b=a then some o else H b
theorem b9 {H:Hp}:upd H a o a=some o:=by unfold upd;rw [if_pos rfl]
theorem bA {H:Hp}(h:b≠a):upd H a o b=H b:=by unfold upd;rw [if_neg h]
theorem fc {H:Hp}(h:H a=some o) (h':H b=none):a≠b:=by intro e;subst e;rw [h] at h';cases h'
section
variable (P:TU) (w:Uk)
noncomputable def cj (H:Hp) (h:Vd) (a:T3):HO->Prop
 | .lst xs=>xs.length<=sizeLine/\∃(S7:List Ti) (n:Nat),Vals xs S7/\h.get? a=some {cls:=.type "list",data:=.seq S7.toArray n}
 | .tup xs=>xs.length<=sizeLine/\∃S7:List Ti,Vals xs S7/\adx h a S7.toArray
 | .dK Td=>Td.length<=sizeLine/\(a == V8)=false/\∃vs,KV Td vs/\h.DictOf (vt P w) a vs
 | .dT Td=>Td.length<=sizeLine/\(a == V8)=false/\∃xs:List (List Key×T3×Ti),
   Zn (λ(p:List Key×V) (q:List Key×T3×Ti)=>p.1=q.1/\H q.2.1=some (.tup (p.1.map kV))/\RelV p.2 q.2.2) Td xs/\
   ∃o es ep,h.get? a=some o/\o.ExactDict/\o.data=.dict es ep/\es.toList=xs.map (acQ (tupleKind (vt P w)))/\(xs.map (·.1)).Nodup
 | .set S n=>h.SetOf (intKind P w) a S n
 | .ins C dx fs=>H dx=some (.own a)/\fs.length<=1000/\dx≠a/\h.get? a=some (W.instObj C dx)/\
   ∃mA,h.Ns1 dx mA/\(∀f,Lf (fs.lookup f) (mA f))/\PySem.Within mA (fs.map (·.1))
 | .own _=>∃o,h.get? a=some o
 | .xd fs=>∃mA,h.Ns1 a mA/\∀f,Lf (fs.lookup f) (mA f)
 | .rng lo hi=>∃t u v,h.get? a=some {cls:=.type "range",data:=.fields #[.int lo t,.int hi u,.int 1 v]}
 | .frz o u=>h.get? a=some o/\cj H h a u
 | .tbl ps=>h.get? a=some {cls:=.none,data:=.fields ps}
 | .met f x=>h.get? a=some (Zo (.ref f) (.ref x))
 | .ext φ=>φ h/\(∃o,h.get? a=some o)/\∀h1 h2:Vd,φ h1->(∀o,h1.get? a=some o->h2.get? a=some o)->φ h2
def fW (H:Hp) (h:Vd):Prop:=∀a o,H a=some o->cj P w H h a o
end
section
variable {P:TU}{w:Uk}{H H':Hp}{h h':Vd}{a:T3}{o:HO}
theorem cj.lt (x:cj P w H h a o):a < h.objs.size:=by
 cases o with
 | lst xs=>obtain ⟨_,_,_,_,e⟩:=x;exact TN e
 | tup xs=>obtain ⟨_,_,_,p⟩:=x;exact p.lt
 | dK Td=>obtain ⟨_,_,_,_,o,_,_,e,_⟩:=x;exact TN e
 | dT Td=>obtain ⟨_,_,_,_,o,_,_,e,_⟩:=x;exact TN e
 | set S n=>obtain ⟨o,_,_,_,e,_⟩:=x;exact TN e
 | ins C dx fs=>obtain ⟨_,_,_,e,_⟩:=x;exact TN e
 | own y=>obtain ⟨_,e⟩:=x;exact TN e
 | xd fs=>obtain ⟨_,⟨_,_,_,e,_⟩,_⟩:=x;exact TN e
 | rng lo hi=>obtain ⟨_,_,_,e⟩:=x;exact TN e
 | frz ob u=>obtain ⟨e,_⟩:=x;exact TN e
 | tbl ps=>exact TN (show h.get? a=some _ from x)
 | met f y=>exact TN (show h.get? a=some _ from x)
 | ext φ=>obtain ⟨_,⟨_,e⟩,_⟩:=x;exact TN e
theorem Zn.mapP {α β:Type}{F G:α->β->Prop}:∀{l₁:List α}{l₂:List β},Zn F l₁ l₂->(∀a b,F a b->G a b)->Zn G l₁ l₂
 | _,_,.nil,_=>.nil
 | _,_,.cons r t,f=>.cons (f _ _ r) (Zn.mapP t f)
theorem cj.stay (x:cj P w H h a o) (k:∀b u,(b=a\/H b=some (.own a))->h.get? b=some u->h'.get? b=some u)
  (ho:∀b,H b=some (.own a)->H' b=some (.own a)) (ht:∀b xs,H b=some (.tup xs)->H' b=some (.tup xs)):cj P w H' h' a o:=by
 induction o with
 | lst xs=>obtain ⟨z,S7,n,r,e⟩:=x;exact ⟨z,S7,n,r,k _ _ (.inl rfl) e⟩
 | tup xs=>obtain ⟨z,S7,r,ob,e,c⟩:=x;exact ⟨z,S7,r,ob,k _ _ (.inl rfl) e,c⟩
 | dK Td=>obtain ⟨z,y,vs,r,ob,es,ep,e,c⟩:=x;exact ⟨z,y,vs,r,ob,es,ep,k _ _ (.inl rfl) e,c⟩
 | dT Td=>
  obtain ⟨z,y,xs,r,ob,es,ep,e,c⟩:=x;exact ⟨z,y,xs,Zn.mapP r λp q z=>⟨z.1,ht _ _ z.2.1,z.2.2⟩,ob,es,ep,k _ _ (.inl rfl) e,c⟩
 | set S n=>obtain ⟨ob,es,ep,t,e,c⟩:=x;exact ⟨ob,es,ep,t,k _ _ (.inl rfl) e,c⟩
 | ins C dx fs=>
  obtain ⟨d,z,ne,e,mA,⟨od,es,ep,e2,c⟩,r⟩:=x;exact ⟨ho _ d,z,ne,k _ _ (.inl rfl) e,mA,⟨od,es,ep,k _ _ (.inr d) e2,c⟩,r⟩
 | own y=>obtain ⟨ob,e⟩:=x;exact ⟨ob,k _ _ (.inl rfl) e⟩
 | xd fs=>obtain ⟨mA,⟨od,es,ep,e,c⟩,r⟩:=x;exact ⟨mA,⟨od,es,ep,k _ _ (.inl rfl) e,c⟩,r⟩
 | rng lo hi=>obtain ⟨t,u,v,e⟩:=x;exact ⟨t,u,v,k _ _ (.inl rfl) e⟩
 | frz ob u ih=>obtain ⟨e,q⟩:=x;exact ⟨k _ _ (.inl rfl) e,ih q⟩
 | tbl ps=>
  have e:h.get? a=some {cls:=.none,data:=.fields ps}:=x;show h'.get? a=some {cls:=.none,data:=.fields ps};exact k a _ (.inl rfl) e
 | met f y=>
  have e:h.get? a=some (Zo (.ref f) (.ref y)):=x;show h'.get? a=some (Zo (.ref f) (.ref y));exact k a _ (.inl rfl) e
 | ext φ=>obtain ⟨p,⟨o,e⟩,st⟩:=x;exact ⟨st _ _ p λo q=>k _ _ (.inl rfl) q,⟨o,k _ _ (.inl rfl) e⟩,st⟩
theorem fW.lt (x:fW P w H h) (e:H a=some o):a < h.objs.size:=(x a o e).lt
theorem fW.fresh (x:fW P w H h) (e:h.objs.size<=a):H a=none:=by
 cases q:H a with
 | none=>rfl
 | some u=>exact absurd (T9 (x.lt q) e) (US _)
theorem fW.kept (x:fW P w H h) (k:∀b u,h.get? b=some u->h'.get? b=some u):fW P w H h':=λa o e=>
 (x a o e).stay (λb u _ q=>k b u q) (λ_ q=>q) λ_ _ q=>q
theorem fW.laid (x:fW P w H h) (k:∀b u,h.get? b=some u->h'.get? b=some u) (hp:h.objs.size<=a) (new:cj P w (upd H a o) h' a o):fW P w (upd H a o) h':=λb u e=>by
 have hn:=x.fresh hp;by_cases hb:b=a
 ·subst hb;rw [b9] at e;cases e;exact new
 ·rw [bA hb] at e;exact (x b u e).stay (λc v _ q=>k c v q) (λc q=>by rw [bA (fc q hn)];exact q) λc xs q=>by rw [bA (fc q hn)];exact q
end
def Rd (H:Hp) (a:T3) (u:HO):Prop:=H a=some u\/∃o,H a=some (.frz o u)
theorem Rd.ok {H:Hp}(r:Rd H a u) (x:fW P w H h):cj P w H h a u:=by
 rcases r with r | ⟨o,r⟩
 ·exact x a u r
 ·obtain ⟨_,q⟩:=x a _ r;exact q
noncomputable def HQ:Option HO->Prop
 | some (.lst _)=>True
 | some (.dK _)=>True
 | some (.dT _)=>True
 | some (.set _ _)=>True
 | some (.ins _ _ _)=>True
 | some (.ext _)=>True
 | _=>False
section
variable {P:TU}{w:Uk}{H:Hp}{h h':Vd}{x e:T3}{o':HO}
theorem fW.write (ok:fW P w H h) (mu:HQ (H x)) (he:e=x\/H e=some (.own x)) (k:∀b u,b≠e->h.get? b=some u->h'.get? b=some u) (Rl:∃u,h'.get? e=some u)
  (new:cj P w (upd H x o') h' x o'):fW P w (upd H x o') h':=λb u q=>by
 have nown:∀c y,H c=some (.own y)->c≠x:=λc y r z=>by subst z;rw [r] at mu;exact mu
 have ntup:∀c xs,H c=some (.tup xs)->c≠x:=λc xs r z=>by subst z;rw [r] at mu;exact mu
 by_cases hb:b=x
 ·subst hb;rw [b9] at q;cases q;exact new
 ·rw [bA hb] at q;by_cases Rh:b=e
  ·have q':H b=some (.own x):=by
    rcases he with z | z
    ·exact absurd (Rh.trans z) hb
    ·rw [Rh];exact z
   rw [q] at q';cases q';obtain ⟨v,hv⟩:=Rl;exact ⟨v,by rw [Rh];exact hv⟩
  ·refine (ok b u q).stay (λc v hc r=>k c v ?_ r) (λc r=>by rw [bA (nown c b r)];exact r) λc xs r=>by rw [bA (ntup c xs r)];exact r
   rcases hc with rfl | hc
   ·exact Rh
   ·rintro rfl;rcases he with z | z
    ·exact nown c b hc z
    ·rw [hc] at z;cases z;exact hb rfl
end
structure Un (fs ex:List T3) (H H':Hp) (h h':Vd):Prop where
 keep:∀b o,h.get? b=some o->H b=none->b∉fs->b∉ex->h'.get? b=some o
 slot:∀b o,h.get? b=some o->H b=none->b∈fs->b∉ex->∃sl,h'.get? b=some {o with slots:=sl}
 free:∀b o,h.get? b=some o->H b=none->b∉ex->H' b=none
 there:∀b o,h.get? b=some o->b∉ex->∃o',h'.get? b=some o'
 tups:∀b xs,H b=some (.tup xs)->H' b=some (.tup xs)
 frzs:∀b o u,H b=some (.frz o u)->H' b=some (.frz o u)
 tbls:∀b ps,H b=some (.tbl ps)->∃more,H' b=some (.tbl (ps++more))
section
variable {fs fs' ex ex':List T3}{H H1 H2:Hp}{h h1 h2 h':Vd}{a x e:T3}{o:HO}
theorem Un.any (u:Un fs ex H H1 h h1) (q:h.get? b=some ob) (n:H b=none) (hx:b∉ex):∃sl,h1.get? b=some {ob with slots:=sl}:=by
 by_cases hb:b∈fs
 ·exact u.slot b ob q n hb hx
 ·exact ⟨ob.slots,u.keep b ob q n hb hx⟩
theorem Un.kept (k:∀b u,h.get? b=some u->h'.get? b=some u):Un fs ex H H h h':=
 ⟨λb ob q _ _ _=>k b ob q,λb ob q _ _ _=>⟨ob.slots,k b ob q⟩,λ_ _ _ n _=>n,λb ob q _=>⟨ob,k b ob q⟩,λ_ _ q=>q,λ_ _ _ q=>q,λ_ ps q=>⟨#[],by rw [q];simp⟩⟩
theorem Un.refl:Un fs ex H H h h:=Un.kept λ_ _ q=>q
theorem Un.laid (k:∀b u,h.get? b=some u->h'.get? b=some u) (hp:h.objs.size<=a) (hn:H a=none):Un fs ex H (upd H a o) h h' where
 keep:=λb u q _ _ _=>k b u q
 slot:=λb u q _ _ _=>⟨u.slots,k b u q⟩
 free:=λb u q n _=>by rw [bA (Ua (T9 (TN q) hp))];exact n
 there:=λb u q _=>⟨u,k b u q⟩
 tups:=λb xs q=>by rw [bA (fc q hn)];exact q
 frzs:=λb u xs q=>by rw [bA (fc q hn)];exact q
 tbls:=λb ps q=>⟨#[],by rw [bA (fc q hn),q];simp⟩
theorem Un.write (mu:HQ (H x)) (he:e=x\/H e=some (.own x)) (k:∀b u,b≠e->h.get? b=some u->h'.get? b=some u) (Rl:∃u,h'.get? e=some u):Un fs ex H (upd H x o) h h':=by
 have hx:∀b,H b=none->b≠x:=λb n z=>by subst z;rw [n] at mu;exact mu
 have hb:∀b,H b=none->b≠e:=λb n z=>by
  subst z;rcases he with r | r
  ·exact hx b n r
  ·rw [n] at r;cases r
 have hm:∀b u,H b=some u->¬HQ (some u)->b≠x:=λb u q nm z=>by subst z;rw [q] at mu;exact nm mu
 refine ⟨λb u q n _ _=>k b u (hb b n) q,λb u q n _ _=>⟨u.slots,k b u (hb b n) q⟩,λb u q n _=>by rw [bA (hx b n)];exact n,λb u q _=>?_,
  λb xs q=>by rw [bA (hm b _ q λz=>z)];exact q,λb u xs q=>by rw [bA (hm b _ q λz=>z)];exact q,λb ps q=>⟨#[],by rw [bA (hm b _ q λz=>z),q];simp⟩⟩
 by_cases Rh:b=e
 ·subst Rh;exact Rl
 ·exact ⟨u,k b u Rh q⟩
end
def Fp (h:Vd) (H:Hp):List T3:=(Tw h.objs.size).filter λa=>(H a).isSome
def nO (h:Vd) (H:Hp):Vd:=W.hideAll h (Fp h H)
theorem D9 (h:Vd) (H:Hp):(nO h H).objs.size=h.objs.size:=W.hideAll_size _ _
theorem Ge {h:Vd}{H:Hp}(e:h.get? b=some o) (n:H b=none):(nO h H).get? b=some o:=
 W.hideAll_get _ e λhm=>by have q:(H b).isSome=true:=(Uq.mp hm).2;rw [n] at q;simp at q
theorem JO {h:Vd}{H:Hp}(e:(nO h H).get? b=some o):h.get? b=some o/\H b=none:=by
 have e':h.get? b=some o:=W.of_hideAll (Fp h H) e;refine ⟨e',?_⟩;cases q:H b with
 | none=>rfl
 | some x=>
  have hm:b∈Fp h H:=Uq.mpr ⟨TM.mpr (TN e'),by simp [q]⟩;have z:(nO h H).get? b=none:=W.hideAll_none (Fp h H) hm;rw [z] at e;cases e
def I0 (g h:Vd) (L:T3):List (T3×Obj):=(Tw h.objs.size).filterMap λa=>if a=L\/(g.get? a).isSome=true then none else (h.get? a).map λo=>(a,o)
def rest (g h:Vd) (L d:T3):List (T3×Obj):=(I0 g h L).filter λp=>decide (p.1≠d)
structure Mod (K:Tg) (mg:Str->Option Ti) (base:Vd):Prop where
 kin:K.In base
 glob:base.Ns Ug mg
 blt:∃mb,base.Ns acR mb/\∀x:Str,x≠"__name__"->mb x=UP x
 nolimit:base.NoLimit
structure Cx where
 prog:TU
 w:Uk
 K:Tg
 mg:Str->Option Ti
 base:Vd
 A:Um
 N:List Str
 s₀:Tj
 H₀:Hp
 env:Env
 outer:List Env
 stack:List Env
 ex:List T3
 fn:Str->Bool
 calm:Bool
 pn:List (T3×Obj)
 xe:Ti->Tj->Prop
def frs (l:List Env):List T3:=l.filterMap (·.frame)
abbrev Cx.fs (X:Cx):List T3:=frs X.outer
def qY (sc:W5) (x:Str):Prop:=sc.names.lookup x=some .local\/sc.names.lookup x=some .cell\/sc.names.lookup x=some .free
def Loc (sc:W5) (x:Str):Prop:=sc.names.lookup x=some .local\/sc.names.lookup x=some .cell
noncomputable def Look (env:Env) (h:Vd) (m:Str->Option Ti) (x:Str) (u:Ti):Prop:=
 (env.kindOf x=some .local/\m x=some u)\/((env.kindOf x=some .cell\/env.kindOf x=some .free)/\∃c,env.cells.lookup x=some c/\h.IsCell c (some u))
structure Cx.Ok (X:Cx):Prop where
 mod:Mod X.K X.mg X.base
 kind:X.env.scope.kind=.function
 glob:X.env.globals=Ug
 blt:X.env.builtins=acR
 above:X.s₀.heap.objs.size<=X.env.locals
 inj:∀x y c,X.env.cells.lookup x=some c->X.env.cells.lookup y=some c->x=y
 has:∀x,(X.env.kindOf x=some .cell\/X.env.kindOf x=some .free)->∃c,X.env.cells.lookup x=some c
 cab:∀x c,X.fn x=true->X.env.cells.lookup x=some c->X.s₀.heap.objs.size<=c
 hd:X.calm=true->X.A.handled=none
 frames:X.A.frames=some X.stack
 stk:X.stack=X.outer\/(X.stack=X.env::X.outer/\X.env.frame=some X.env.locals)
 exf:∀b∈X.ex,b≠X.env.locals/\∀x c,X.env.cells.lookup x=some c->c≠b
 bs:∀b o,X.base.get? b=some o->X.s₀.heap.get? b=some o/\X.H₀ b=none
 bsz:X.base.objs.size<=X.s₀.heap.objs.size
 noex:∀b o,X.base.get? b=some o->b∉X.ex
 exfs:∀b∈X.ex,b∉X.fs
 funs:X.s₀.heap.FunFrames X.base X.outer
 frf:∀b∈X.fs,X.H₀ b=none
structure Inv (X:Cx) (S6:List (T3×Obj)) (σ:List (Option V)) (H:Hp) (s:Tj):Prop where
 ok:X.Ok
 os:s.os=X.s₀.os
 bare:Zy s.gens
 base:Un X.fs X.ex X.H₀ H X.s₀.heap s.heap
 loc:∃m,s.heap.Ns X.env.locals m/\∀(i:Nat) (x:Str) (v:V),X.N[i]?=some x->σ[i]?=some (some v)->qY X.env.scope x->∃u,RelV v u/\Look X.env s.heap m x u
 cell:∀x c,X.env.cells.lookup x=some c->∃v,s.heap.IsCell c v
 free:H X.env.locals=none
 freeC:∀x c,X.env.cells.lookup x=some c->H c=none
 pin:∀p∈X.pn++S6,s.heap.get? p.1=some p.2/\H p.1=none/\p.1≠X.env.locals/\p.1∉X.fs/\∀v,p.2.data≠.cell v
 hok:fW X.prog X.w H s.heap
 len:σ.length=X.N.length
section
variable {X:Cx}{S6:List (T3×Obj)}{σ:List (Option V)}{H H':Hp}{s:Tj}{h':Vd}
theorem Cx.Ok.nofr (ok:X.Ok) (e:X.base.get? b=some o):b∉X.fs:=λhb=>by have:=(ok.funs.mem hb).1;rw [e] at this;cases this
theorem Inv.bs (I:Inv X S6 σ H s):∀b o,X.base.get? b=some o->s.heap.get? b=some o/\H b=none:=λb o e=>
 ⟨I.base.keep b o (I.ok.bs b o e).1 (I.ok.bs b o e).2 (I.ok.nofr e) (I.ok.noex b o e),I.base.free b o (I.ok.bs b o e).1 (I.ok.bs b o e).2 (I.ok.noex b o e)⟩
theorem Inv.bk (I:Inv X S6 σ H s):∀b o,X.base.get? b=some o->s.heap.get? b=some o:=λb o e=>(I.bs b o e).1
theorem Inv.mod (I:Inv X S6 σ H s):Mod X.K X.mg X.base:=I.ok.mod
theorem Inv.kIn (I:Inv X S6 σ H s):X.K.In s.heap:=I.ok.mod.kin.keeps I.bk
theorem Inv.lt (I:Inv X S6 σ H s):X.env.locals < s.heap.objs.size:=let ⟨_,hn,_⟩:=I.loc;hn.lt
theorem Inv.sz (I:Inv X S6 σ H s):X.s₀.heap.objs.size<=s.heap.objs.size:=T6 I.ok.above (Zc I.lt)
theorem Inv.nofs (I:Inv X S6 σ H s) (h:s.heap.objs.size<=a):a∉X.fs:=λhb=>by obtain ⟨_,o,ho,_⟩:=I.ok.funs.mem hb;exact absurd (T9 (TN ho) (T6 I.sz h)) (US _)
theorem Inv.cne (I:Inv X S6 σ H s):∀x c,X.env.cells.lookup x=some c->c≠X.env.locals:=λx c e z=>by obtain ⟨v,o,ho,hd⟩:=I.cell x c e;obtain ⟨m,⟨o',es,ep,ho',hd',_⟩,_⟩:=I.loc;rw [z,ho'] at ho;cases ho;rw [hd'] at hd;cases hd
theorem Inv.funs (I:Inv X S6 σ H s):s.heap.FunFrames X.base X.outer:=by
 have all:∀(l:List Env),(∀b∈frs l,b∈X.fs)->X.s₀.heap.FunFrames X.base l->s.heap.FunFrames X.base l:=by
  intro l
  induction l with
  | nil=>intro _ _;trivial
  | cons env r ih=>
   intro hs hl;obtain ⟨hk,⟨L,o,hf,hn,ho,hd⟩,hr⟩:=hl;have hL:L∈X.fs:=hs L (by unfold frs;rw [Xy,hf];exact Tu);obtain ⟨sl,e⟩:=I.base.slot L o ho (I.ok.frf L hL) hL λz=>I.ok.exfs L z hL;exact ⟨hk,⟨L,_,hf,hn,e,hd⟩,ih (λb hb=>hs b (by unfold frs;rw [Xy,hf];exact Tq _ hb)) hr⟩
 exact all X.outer (λ_ hb=>hb) I.ok.funs
theorem Inv.stack (I:Inv X S6 σ H s):s.heap.FunFrames X.base X.stack:=by
 rcases I.ok.stk with e | ⟨e,hf⟩
 ·rw [e];exact I.funs
 ·rw [e];obtain ⟨m,hn,_⟩:=I.loc;refine .cons (by rw [I.ok.kind];decide) hf hn ?_ I.funs;exact Heap.get?_none_of_le (T6 I.ok.bsz I.ok.above)
theorem Inv.stkSub (I:Inv X S6 σ H s):∀b∈frs X.stack,b∈X.env.locals::X.fs:=λb hb=>by
 rcases I.ok.stk with e | ⟨e,hf⟩
 ·rw [e] at hb;exact Tq _ hb
 ·rw [e] at hb;unfold frs at hb;rw [Xy,hf] at hb;exact hb
theorem Inv.stkFree (I:Inv X S6 σ H s):∀b∈frs X.stack,H b=none:=λb hb=>by
 rcases TZ.mp (I.stkSub b hb) with e | hb
 ·rw [e];exact I.free
 ·obtain ⟨_,o,ho,_⟩:=I.ok.funs.mem hb;exact I.base.free b o ho (I.ok.frf b hb) λz=>I.ok.exfs b z hb
theorem Inv.step {g':Array ad8}{t':Nat}{d':Drawn}{ch:List T3}(I:Inv X S6 σ H s)
  (hch:∀b∈ch,(b∈X.ex\/X.s₀.heap.objs.size<=b)/\b≠X.env.locals/\(∀x c,X.env.cells.lookup x=some c->c≠b)/\∀p∈X.pn++S6,p.1≠b)
  (keep:∀b o,b≠X.env.locals->b∉X.fs->b∉ch->s.heap.get? b=some o->H b=none->h'.get? b=some o)
  (slot:∀b o,b≠X.env.locals->b∈X.fs->b∉ch->s.heap.get? b=some o->H b=none->∃sl,h'.get? b=some {o with slots:=sl}) (free:∀b o,b∉ch->s.heap.get? b=some o->H b=none->H' b=none)
  (there:∀b o,b∉ch->s.heap.get? b=some o->∃o',h'.get? b=some o')
  (tups:∀b xs,H b=some (.tup xs)->H' b=some (.tup xs)) (frzs:∀b o u,H b=some (.frz o u)->H' b=some (.frz o u)) (tbls:∀b ps,H b=some (.tbl ps)->∃more,H' b=some (.tbl (ps++more)))
  (ns:∀m,s.heap.Ns X.env.locals m->h'.Ns X.env.locals m) (hok:fW X.prog X.w H' h') (hg:Zy g'):
  Inv X S6 σ H' {s with heap:=h',gens:=g',drawn:=d',toks:=t'}:=by
 have neL:∀b o,X.s₀.heap.get? b=some o->b≠X.env.locals:=λb o e=>Ua (T9 (TN e) I.ok.above);have neC:∀b o,X.s₀.heap.get? b=some o->b∉X.ex->b∉ch:=λb o e hx hb=>by
  rcases (hch b hb).1 with z | z
  ·exact hx z
  ·exact absurd (T9 (TN e) z) (US _)
 have cellK:∀x c,X.env.cells.lookup x=some c->∀v,s.heap.IsCell c v->h'.IsCell c v:=λx c e v ⟨o,ho,hd⟩=>by
  have nch:c∉ch:=λz=>(hch c z).2.2.1 x c e rfl;by_cases hc:c∈X.fs
  ·obtain ⟨sl,q⟩:=slot c o (I.cne x c e) hc nch ho (I.freeC x c e);exact ⟨_,q,hd⟩
  ·exact ⟨o,keep c o (I.cne x c e) hc nch ho (I.freeC x c e),hd⟩
 refine ⟨I.ok,I.os,hg,⟨λb o e n hb hx=>?_,λb o e n hb hx=>?_,λb o e n hx=>?_,λb o e hx=>?_,λb xs e=>tups b xs (I.base.tups b xs e),λb o xs e=>frzs b o xs (I.base.frzs b o xs e),λb ps e=>?_⟩,?_,λx c e=>?_,?_,λx c e=>?_,λp hp=>?_,hok,I.len⟩
 ·exact keep b o (neL b o e) hb (neC b o e hx) (I.base.keep b o e n hb hx) (I.base.free b o e n hx)
 ·obtain ⟨sl,e1⟩:=I.base.slot b o e n hb hx;obtain ⟨sl',e2⟩:=slot b _ (neL b o e) hb (neC b o e hx) e1 (I.base.free b o e n hx);exact ⟨sl',e2⟩
 ·obtain ⟨o',e1⟩:=I.base.there b o e hx;exact free b o' (neC b o e hx) e1 (I.base.free b o e n hx)
 ·obtain ⟨o',e1⟩:=I.base.there b o e hx;exact there b o' (neC b o e hx) e1
 ·obtain ⟨m1,e1⟩:=I.base.tbls b ps e;obtain ⟨m2,e2⟩:=tbls b _ e1;exact ⟨m1++m2,by rw [e2,Array.append_assoc]⟩
 ·obtain ⟨m,hn,hl⟩:=I.loc;refine ⟨m,ns m hn,λi x v e1 e2 e3=>?_⟩;obtain ⟨u,r,l⟩:=hl i x v e1 e2 e3;refine ⟨u,r,?_⟩;rcases l with l | ⟨k,c,e,z⟩
  ·exact .inl l
  ·exact .inr ⟨k,c,e,cellK x c e _ z⟩
 ·obtain ⟨v,z⟩:=I.cell x c e;exact ⟨v,cellK x c e v z⟩
 ·obtain ⟨m,⟨o,_,_,ho,_⟩,_⟩:=I.loc;exact free _ o (λz=>(hch _ z).2.1 rfl) ho I.free
 ·obtain ⟨v,o,ho,hd⟩:=I.cell x c e;exact free c o (λz=>(hch c z).2.2.1 x c e rfl) ho (I.freeC x c e)
 ·obtain ⟨e,n,ne,nf,d⟩:=I.pin p hp;have nch:p.1∉ch:=λz=>(hch p.1 z).2.2.2 p hp rfl;exact ⟨keep p.1 p.2 ne nf nch e n,free p.1 p.2 nch e n,ne,nf,d⟩
theorem Inv.un (I:Inv X S6 σ H s) (u:Un X.fs [] H H' s.heap h') (hok:fW X.prog X.w H' h'):Inv X S6 σ H' {s with heap:=h',toks:=t'}:=by
 obtain ⟨m,⟨o,es,ep,ho,r⟩,_⟩:=id I.loc;obtain ⟨sl,hL⟩:=u.any ho I.free (by simp);exact I.step (g':=s.gens) (d':=s.drawn) (ch:=[]) (λ_ z=>nomatch z) (λb o _ hb _ e n=>u.keep b o e n hb (by simp)) (λb o _ hb _ e n=>u.slot b o e n hb (by simp)) (λb o _ e n=>u.free b o e n (by simp)) (λb o _ e=>u.there b o e (by simp)) u.tups u.frzs u.tbls (λm' hm=>by
  obtain ⟨o',es',ep',ho',r'⟩:=hm;rw [ho] at ho';cases ho';exact ⟨_,es',ep',hL,r'⟩) hok I.bare
theorem Inv.call (I:Inv X S6 σ H s) (u:Un (frs X.stack) ch H H' s.heap h') (hok:fW X.prog X.w H' h') (hg:Zy g')
 (hch:∀b∈ch,(b∈X.ex\/X.s₀.heap.objs.size<=b)/\b≠X.env.locals/\(∀x c,X.env.cells.lookup x=some c->c≠b)/\∀p∈X.pn++S6,p.1≠b):
  Inv X S6 σ H' {s with heap:=h',gens:=g',drawn:=d',toks:=t'}:=by
 obtain ⟨m,⟨o,es,ep,ho,r⟩,_⟩:=id I.loc;obtain ⟨sl,hL⟩:=u.any ho I.free λz=>(hch _ z).2.1 rfl;exact I.step (ch:=ch) hch (λb o hL hb hc e n=>u.keep b o e n (λz=>(TZ.mp (I.stkSub b z)).elim hL hb) hc) (λb o _ _ hc e n=>u.any e n hc) (λb o hc e n=>u.free b o e n hc) (λb o hc e=>u.there b o e hc) u.tups u.frzs u.tbls (λm' hm=>by
  obtain ⟨o',es',ep',ho',r'⟩:=hm;rw [ho] at ho';cases ho';exact ⟨_,es',ep',hL,r'⟩) hok hg
theorem Inv.turned {t':Nat}{it:T3}(I:Inv X S6 σ H s) (k:∀b o,b≠it->s.heap.get? b=some o->h'.get? b=some o) (hn:H it=none) (hL:it≠X.env.locals)
  (h1:it∈X.ex\/X.s₀.heap.objs.size<=it) (h2:∀x c,X.env.cells.lookup x=some c->c≠it) (h3:∀p∈X.pn++S6,p.1≠it):Inv X S6 σ H {s with heap:=h',toks:=t'}:=by
 have nit:∀b u,H b=some u->b≠it:=λb u e z=>by rw [z,hn] at e;cases e
 refine I.step (g':=s.gens) (d':=s.drawn) (ch:=[it]) (λb hb=>?_) (λb o _ _ hc e _=>k b o (λz=>hc (by simp [z])) e) (λb o _ _ hc e _=>⟨o.slots,k b o (λz=>hc (by simp [z])) e⟩) (λ_ _ _ _ n=>n)
  (λb o hc e=>⟨o,k b o (λz=>hc (by simp [z])) e⟩) (λ_ _ e=>e) (λ_ _ _ e=>e) (λb ps e=>⟨#[],by rw [e];simp⟩) (λm hm=>?_) (λb u e=>?_) I.bare
 ·have e:b=it:=by simpa using hb
  subst e;exact ⟨h1,hL,h2,h3⟩
 ·obtain ⟨o,es,ep,ho,r⟩:=hm;exact ⟨o,es,ep,k _ o (VG hL) ho,r⟩
 ·refine (I.hok b u e).stay (λc v hc q=>k c v ?_ q) (λ_ q=>q) λ_ _ q=>q;rcases hc with z | z
  ·rw [z];exact nit b u e
  ·exact nit c _ z
theorem Inv.tok (I:Inv X S6 σ H s) (t:Nat):Inv X S6 σ H {s with toks:=t}:=I.un (h':=s.heap) (t':=t) Un.refl I.hok
theorem Inv.kept (I:Inv X S6 σ H s) (k:∀b u,s.heap.get? b=some u->h'.get? b=some u):Inv X S6 σ H {s with heap:=h',toks:=t'}:=I.un (Un.kept k) (I.hok.kept k)
theorem Inv.laid (I:Inv X S6 σ H s) (k:∀b u,s.heap.get? b=some u->h'.get? b=some u) (hp:s.heap.objs.size<=a) (new:cj X.prog X.w (upd H a o) h' a o):
  Inv X S6 σ (upd H a o) {s with heap:=h',toks:=t'}:=I.un (Un.laid k hp (I.hok.fresh hp)) (I.hok.laid k hp new)
theorem Inv.write (I:Inv X S6 σ H s) (mu:HQ (H x)) (he:e=x\/H e=some (.own x)) (k:∀b u,b≠e->s.heap.get? b=some u->h'.get? b=some u) (Rl:∃u,h'.get? e=some u)
 (new:cj X.prog X.w (upd H x o) h' x o):Inv X S6 σ (upd H x o) {s with heap:=h',toks:=t'}:=I.un (Un.write mu he k Rl) (I.hok.write mu he k Rl new)
theorem Inv.pins_of (I:Inv X S6 σ H s) (h:∀p∈pins',s.heap.get? p.1=some p.2/\H p.1=none/\p.1≠X.env.locals/\p.1∉X.fs/\∀v,p.2.data≠.cell v):Inv X pins' σ H s:=
 ⟨I.ok,I.os,I.bare,I.base,I.loc,I.cell,I.free,I.freeC,λp hp=>(Ub.mp hp).elim (λz=>I.pin p (VU _ z)) (h p),I.hok,I.len⟩
theorem zA {N:List Str}(hN:N.Nodup){i j:Nat}{x:Str}(a:N[i]?=some x) (b:N[j]?=some x):i=j:=by obtain ⟨h1,e1⟩:=T7.mp a;obtain ⟨h2,e2⟩:=T7.mp b;exact (abP hN).mp (e1.trans e2.symm)
theorem xr {M:adL}{E:Ti->Tj->Prop}{Q:Unit->Tj->Prop}(I:Inv X S6 σ H s) (hN:X.N.Nodup) (hi:X.N[i]?=some x) (hx:Loc X.env.scope x) (r:RelV v u)
 (h:∀s',Inv X S6 (σ.set i (some v)) H s'->(∃a,Vu a s.heap s'.heap/\(a=X.env.locals\/X.env.cells.lookup x=some a))->Q () s') (hf:X.fn x=true\/X.env.scope.names.lookup x=some .local:=by first | exact .inl rfl | exact .inr rfl | assumption):TX M A (ady X.env x u) Q E s:=by
 obtain ⟨m,hn,hl⟩:=id I.loc;have hcls:(X.env.scope.kind == .class || (X.env.scope.kind == .module && X.env.locals != X.env.globals))=false:=by rw [I.ok.kind];rfl
 have hiσ:i < σ.length:=by rw [I.len];exact (T7.mp hi).1
 have cne:=I.cne;have tracked:∀{a:T3}{h':Vd},(∃o,s.heap.get? a=some o/\H a=none)->Vu a s.heap h'->fW X.prog X.w H h':=fun {a h'} ha hs b ob e=>by
  obtain ⟨_,_,hfree⟩:=ha;refine (I.hok b ob e).stay (λc w' hc q=>(hs.2 c ?_).trans q) (λ_ q=>q) λ_ _ q=>q;rintro rfl;rcases hc with rfl | hc
  ·rw [hfree] at e;cases e
  ·rw [hfree] at hc;cases hc
 rcases hx with hk | hk
 ·refine wpAny_storeName_local hk hn (λh' hn' hs=>?_) hcls;obtain ⟨oL,_,_,SA,_⟩:=id hn;refine h _ ⟨I.ok,I.os,I.bare,⟨λb o e n hb hx=>?_,λb o e n hb hx=>?_,I.base.free,λb o e hx=>?_,I.base.tups,I.base.frzs,I.base.tbls⟩,⟨_,hn',λj y v' e1 e2 e3=>?_⟩,λy c e=>?_,I.free,I.freeC,λp hp=>?_,tracked ⟨oL,SA,I.free⟩ hs,by simpa using I.len⟩ ⟨_,hs,.inl rfl⟩
  ·exact (hs.2 b (Ua (T9 (TN e) I.ok.above))).trans (I.base.keep b o e n hb hx)
  ·obtain ⟨sl,e1⟩:=I.base.slot b o e n hb hx;exact ⟨sl,(hs.2 b (Ua (T9 (TN e) I.ok.above))).trans e1⟩
  ·obtain ⟨o',e1⟩:=I.base.there b o e hx;exact ⟨o',(hs.2 b (Ua (T9 (TN e) I.ok.above))).trans e1⟩
  ·by_cases hj:j=i
   ·subst hj;rw [hi] at e1;cases e1;rw [Vh hiσ] at e2;cases e2;exact ⟨u,r,.inl ⟨hk,by simp⟩⟩
   ·rw [Uz (VG hj)] at e2;obtain ⟨u',r',q⟩:=hl j y v' e1 e2 e3;refine ⟨u',r',?_⟩;rcases q with ⟨k,e⟩ | ⟨k,c,e,z⟩
    ·refine .inl ⟨k,?_⟩;have:y≠x:=λe=>hj (zA hN e1 (e▸hi));simp [this,e]
    ·exact .inr ⟨k,c,e,z.sameBut hs (cne y c e)⟩
  ·obtain ⟨w',z⟩:=I.cell y c e;exact ⟨w',z.sameBut hs (cne y c e)⟩
  ·obtain ⟨e,n,ne,nf,d⟩:=I.pin p hp;exact ⟨(hs.2 p.1 ne).trans e,n,ne,nf,d⟩
 ·have hfn:X.fn x=true:=by
   rcases hf with z | z
   ·exact z
   ·rw [z] at hk;cases hk
  obtain ⟨c,hc⟩:=I.ok.has x (.inl hk);obtain ⟨w',z⟩:=I.cell x c hc;refine wpAny_storeName_cell I.ok.kind hk hc z (λh' hc' hs=>?_);obtain ⟨oc,hoc,RP⟩:=id z;refine h {s with heap:=h'} ⟨I.ok,I.os,I.bare,⟨λb o e n hb hx=>?_,λb o e n hb hx=>?_,I.base.free,λb o e hx=>?_,I.base.tups,I.base.frzs,I.base.tbls⟩,⟨m,hn.sameBut hs (VG (cne x c hc)),λj y v' e1 e2 e3=>?_⟩,λy c' e=>?_,I.free,I.freeC,λp hp=>?_,tracked ⟨oc,hoc,I.freeC x c hc⟩ hs,by simpa using I.len⟩ ⟨c,hs,.inr hc⟩
  ·exact (hs.2 b (Ua (T9 (TN e) (I.ok.cab x c hfn hc)))).trans (I.base.keep b o e n hb hx)
  ·obtain ⟨sl,e1⟩:=I.base.slot b o e n hb hx;exact ⟨sl,(hs.2 b (Ua (T9 (TN e) (I.ok.cab x c hfn hc)))).trans e1⟩
  ·obtain ⟨o',e1⟩:=I.base.there b o e hx;exact ⟨o',(hs.2 b (Ua (T9 (TN e) (I.ok.cab x c hfn hc)))).trans e1⟩
  ·by_cases hj:j=i
   ·subst hj;rw [hi] at e1;cases e1;rw [Vh hiσ] at e2;cases e2;exact ⟨u,r,.inr ⟨.inl hk,c,hc,hc'⟩⟩
   ·rw [Uz (VG hj)] at e2;obtain ⟨u',r',q⟩:=hl j y v' e1 e2 e3;refine ⟨u',r',?_⟩;rcases q with q | ⟨k,c',e,z'⟩
    ·exact .inl q
    ·refine .inr ⟨k,c',e,z'.sameBut hs ?_⟩;rintro rfl;exact hj (zA hN e1 (I.ok.inj _ _ _ e hc▸hi))
  ·by_cases hcc:c'=c
   ·subst hcc;exact ⟨_,hc'⟩
   ·obtain ⟨w2,z2⟩:=I.cell y c' e;exact ⟨w2,z2.sameBut hs hcc⟩
  ·obtain ⟨e,n,ne,nf,d⟩:=I.pin p hp;refine ⟨(hs.2 p.1 ?_).trans e,n,ne,nf,d⟩;intro q;rw [q,hoc] at e;have q':oc=p.2:=U3 e;exact d w' (by rw [<-q'];exact RP)
theorem sU {M:adL}{E:Ti->Tj->Prop}{Q:Unit->Tj->Prop}(I:Inv X S6 σ H s) (hN:X.N.Nodup) (hi:X.N[i]?=some x) (hx:Loc X.env.scope x) (r:RelV v u)
 (h:∀s',Inv X S6 (σ.set i (some v)) H s'->Q () s') (hf:X.fn x=true\/X.env.scope.names.lookup x=some .local:=by first | exact .inl rfl | exact .inr rfl | assumption):TX M A (ady X.env x u) Q E s:=
 xr I hN hi hx r (λs' I' _=>h s' I') hf
theorem Inv.call' {s':Tj}(I:Inv X S6 σ H s) (ho:s'.os=s.os) (u:Un (frs X.stack) ch H H' s.heap s'.heap) (hok:fW X.prog X.w H' s'.heap) (hg:Zy s'.gens)
 (hch:∀b∈ch,(b∈X.ex\/X.s₀.heap.objs.size<=b)/\b≠X.env.locals/\(∀x c,X.env.cells.lookup x=some c->c≠b)/\∀p∈X.pn++S6,p.1≠b):Inv X S6 σ H' s':=by obtain ⟨h',g',d',t',o'⟩:=s';have e:o'=s.os:=ho;subst e;exact I.call (g':=g') (t':=t') (d':=d') u hok hg hch
end
abbrev XK:=Ti->Option T3->Hp->Prop
abbrev St:=List (Option V)
abbrev VK:=V->Hp->Prop
abbrev TE:=St->Hp->VK->Prop
abbrev TT:=St->Hp->(Bool->Hp->Prop)->Prop
abbrev TA:=St->Hp->(List V->Hp->Prop)->Prop
structure Ends where
 nx:St->Hp->Prop
 rt:VK
 bk:St->Hp->Prop:=λ_ _=>False
 ct:St->Hp->Prop:=λ_ _=>False
abbrev TS:=Ends->St->Hp->Prop
def EP (X:Cx) (S6:List (T3×Obj)) (σ:St) (Q:VK) (u:Ti) (s':Tj):Prop:=∃v H',Inv X S6 σ H' s'/\RelV v u/\Q v H'
def TP (X:Cx) (S6:List (T3×Obj)) (σ:St) (Q:Bool->Hp->Prop) (b:Bool) (s':Tj):Prop:=∃H',Inv X S6 σ H' s'/\Q b H'
def AP (X:Cx) (S6:List (T3×Obj)) (σ:St) (Q:List V->Hp->Prop) (us:List Ti) (s':Tj):Prop:=∃vs H',Inv X S6 σ H' s'/\Vals vs us/\Q vs H'
noncomputable def SP (X:Cx) (S6:List (T3×Obj)) (D:Ends) (f:Flow) (s':Tj):Prop:=
 match f with
 | .next=>∃σ' H',Inv X S6 σ' H' s'/\D.nx σ' H'
 | .brk=>∃σ' H',Inv X S6 σ' H' s'/\D.bk σ' H'
 | .cont=>∃σ' H',Inv X S6 σ' H' s'/\D.ct σ' H'
 | .ret u=>∃v σ' H',Inv X S6 σ' H' s'/\RelV v u/\D.rt v H'
noncomputable def PE (X:Cx) (e:Uo) (t:TE):Prop:=
 ∀(S6:List (T3×Obj)) (s:Tj) (σ:St) (H:Hp) (Q:VK),Inv X S6 σ H s->t σ H Q->TX (T5 X.prog X.w) X.A (eval e X.env) (EP X S6 σ Q) X.xe s
noncomputable def PT (X:Cx) (e:Uo) (t:TT):Prop:=
 ∀(S6:List (T3×Obj)) (s:Tj) (σ:St) (H:Hp) (Q:Bool->Hp->Prop),Inv X S6 σ H s->t σ H Q->TX (T5 X.prog X.w) X.A (aaH e X.env (eval e X.env)) (TP X S6 σ Q) X.xe s
noncomputable def PW (X:Cx) (e:Uo) (t:TT):Prop:=
 ∀(whole:Sem Ti) (S6:List (T3×Obj)) (s:Tj) (σ:St) (H:Hp) (Q:Bool->Hp->Prop),Inv X S6 σ H s->t σ H Q->TX (T5 X.prog X.w) X.A (aaH e X.env whole) (TP X S6 σ Q) X.xe s
theorem PW.pt (h:PW X e t):PT X e t:=h _
noncomputable def PA (X:Cx) (es:List Uo) (t:TA):Prop:=
 ∀(pos:Pos) (S6:List (T3×Obj)) (s:Tj) (σ:St) (H:Hp) (Q:List V->Hp->Prop),Inv X S6 σ H s->t σ H Q->TX (T5 X.prog X.w) X.A (spliced (U_ pos (TF es X.env))) (AP X S6 σ Q) X.xe s
noncomputable def PS (X:Cx) (st:Wm) (t:TS):Prop:=
 ∀(S6:List (T3×Obj)) (s:Tj) (σ:St) (H:Hp) (D:Ends),Inv X S6 σ H s->t D σ H->TX (T5 X.prog X.w) X.A (exec st X.env) (SP X S6 D) X.xe s
noncomputable def kc (X:Cx) (st:List Wm) (t:TS):Prop:=
 ∀(S6:List (T3×Obj)) (s:Tj) (σ:St) (H:Hp) (D:Ends),Inv X S6 σ H s->t D σ H->TX (T5 X.prog X.w) X.A (execs st X.env) (SP X S6 D) X.xe s
theorem bI {α:Type}{t:Sem α}{Q Q':α->Tj->Prop}{M:adL}{A:Um}{E:Ti->Tj->Prop}{s:Tj}(h:TX M A t Q E s) (hQ:∀a s,Q a s->Q' a s):TX M A t Q' E s:=UD h hQ λ_ _ x=>x
section
variable {X:Cx}
theorem bin {a b:Uo}{ta tb:TE}(ha:PE X a ta) (hb:PE X b tb){S6:List (T3×Obj)}{s:Tj}{σ:St}{H:Hp}{R:V->V->Hp->Prop}(I:Inv X S6 σ H s) (h:ta σ H λx H1=>tb σ H1 λy H2=>R x y H2)
  {α:Type}{Q:α->Tj->Prop}{f:Ti->Ti->Sem α}
  (hf:∀v u s2 x y H2,Inv X S6 σ H2 s2->RelV x v->RelV y u->R x y H2->TX (T5 X.prog X.w) X.A (f v u) Q X.xe s2):
  TX (T5 X.prog X.w) X.A (eval a X.env) (λv s₁=>TX (T5 X.prog X.w) X.A (eval b X.env) (λu s₂=>TX (T5 X.prog X.w) X.A (f v u) Q X.xe s₂) X.xe s₁) X.xe s:=by refine bI (ha S6 s σ H _ I h) λv s1 ⟨x,H1,I1,r1,q1⟩=>?_;refine bI (hb S6 s1 σ H1 _ I1 q1) λu s2 ⟨y,H2,I2,r2,q2⟩=>?_;exact hf v u s2 x y H2 I2 r1 r2 q2
def Nc (i:Nat):TE:=λσ H Q=>∃v,σ[i]?=some (some v)/\Q v H
def tC (v:V):TE:=λ_ H Q=>Q v H
theorem k8 {pos:Pos}(hN:X.N[i]?=some x) (hv:qY X.env.scope x) (hd:(x == ("__debug__":Str))=false:=by decide) (hcd:(x == ("__classdict__":Str))=false:=by decide):PE X (.Name x pos) (Nc i):=by
 intro S6 s σ H Q I h;obtain ⟨v,e,h⟩:=h;obtain ⟨m,hn,hl⟩:=I.loc;obtain ⟨u,r,l⟩:=hl i x v hN e hv;have fin:EP X S6 σ Q u s:=⟨v,H,I,r,h⟩;rcases l with ⟨hk,hm⟩ | ⟨hk,c,hc,hcell⟩
 ·exact acS (aay I.ok.kind hk hn hm fin) hd
 ·rcases hk with hk | hk
  ·exact acS (aaO I.ok.kind hk hc hcell fin) hd
  ·exact acS (wpAny_loadName_free I.ok.kind hk hc hcell fin hcd) hd
theorem EF {i j pos}:PE X (.Constant (.int i) j pos) (tC (.int i)):=λ_ _ _ H _ I h=>wpAny_Constant_int ⟨.int i,H,I.tok _,⟨_,rfl⟩,h⟩
theorem NT {b j pos}:PE X (.Constant (.bool b) j pos) (tC (.bl b)):=λ_ _ _ H _ I h=>Constant_bool ⟨.bl b,H,I,rfl,h⟩
theorem MD {j pos}:PE X (.Constant .none j pos) (tC .non):=λ_ _ _ H _ I h=>Constant_none ⟨.non,H,I,rfl,h⟩
theorem MG {x j pos}:PE X (.Constant (.str x) j pos) (tC (.str x)):=λ_ _ _ H _ I h=>Calls.Constant_str ⟨.str x,H,I.tok _,⟨_,rfl⟩,h⟩
def Gl (X:Cx) (x:Str):Prop:=X.env.kindOf x=some .globalImplicit
theorem A7 {E:Ti->Tj->Prop}{H:Hp}{pos:Pos}{Q:Ti->Tj->Prop}(I:Inv X S6 σ H s) (hg:Gl X x) (hm:X.mg x=some u) (h:Q u s)
 (hd:(x == ("__debug__":Str))=false:=by decide):TX (T5 X.prog X.w) X.A (eval (.Name x pos) X.env) Q E s:=
 Y_ I.ok.kind hg (Calls.loadGlobal_global (by rw [I.ok.glob];exact I.mod.glob.keeps I.bk) hm h) hd
theorem jS {E:Ti->Tj->Prop}{H:Hp}{pos:Pos}{Q:Ti->Tj->Prop}(I:Inv X S6 σ H s) (hg:Gl X x) (hm:X.mg x=none) (hv:UP x=some u) (h:Q u s)
 (hn:x≠"__name__":=by decide) (hd:(x == ("__debug__":Str))=false:=by decide):TX (T5 X.prog X.w) X.A (eval (.Name x pos) X.env) Q E s:=by obtain ⟨mb,h1,h2⟩:=I.mod.blt;exact Y_ I.ok.kind hg (Calls.loadGlobal_builtin (by rw [I.ok.glob];exact I.mod.glob.keeps I.bk) hm (by rw [I.ok.blt];exact h1.keeps I.bk) ((h2 x hn).trans hv) h) hd
theorem Be {pos:Pos}(hg:Gl X x) (hm:X.mg x=some u) (r:RelV v u) (hd:(x == ("__debug__":Str))=false:=by decide):PE X (.Name x pos) (tC v):=
 λ_ _ _ H _ I h=>A7 I hg hm ⟨v,H,I,r,h⟩ hd
theorem J6 {pos:Pos}(hg:Gl X x) (hm:X.mg x=none) (hv:UP x=some u) (r:RelV v u) (hn:x≠"__name__":=by decide) (hd:(x == ("__debug__":Str))=false:=by decide):PE X (.Name x pos) (tC v):=
 λ_ _ _ H _ I h=>jS I hg hm hv ⟨v,H,I,r,h⟩ hn hd
variable {a b:Uo}{ta tb:TE}{pos:Pos}
noncomputable def PC (X:Cx) (op:CmpOp) (a b:Uo) (t:TE):Prop:=
 ∀(S6:List (T3×Obj)) (s:Tj) (σ:St) (H:Hp) (Q:VK),Inv X S6 σ H s->t σ H Q->
  TX (T5 X.prog X.w) X.A (eval a X.env) (λv s₁=>TX (T5 X.prog X.w) X.A (eval b X.env) (λu s₂=>TX (T5 X.prog X.w) X.A (Vi op v u) (EP X S6 σ Q) X.xe s₂) X.xe s₁) X.xe s
theorem GD (b:Uo) (h:op≠.In) (h2:op≠.NotIn):UZ op b=false:=by
 have e1:(op == aez)=false:=by cases op <;> first | rfl | exact absurd rfl h
 have e2:(op == adM)=false:=by cases op <;> first | rfl | exact absurd rfl h2
 cases b <;> simp [UZ,e1,e2]
def tB (t:TE):TT:=λσ H Q=>t σ H λx H1=>∃c,x=.bl c/\Q c H1
theorem PV {op:CmpOp}{t:TE}(h:PC X op a b t) (h1:UZ op b=false:=by first | exact GD _ (by decide) (by decide) | rfl):PT X (.Compare a [op] [b] pos) (tB t):=by intro S6 s σ H Q I hw;refine Z5 (bI (h S6 s σ H _ I hw) λv s1 h1=>bI h1 λu s2 h2=>bI h2 λc s3 ⟨x,H1,I1,r1,q1⟩=>?_) h1;obtain ⟨d,rfl,q⟩:=q1;cases r1;exact UM ⟨H1,I1,q⟩
theorem MT {e:Uo}{t:TE}(h:PE X e t) (he:∀whole,aaH e X.env whole=(do let v <-whole;W6 e.pos;holding [v] (truthy v)):=by intro _;rfl):PT X e (tB t):=by intro S6 s σ H Q I hw;refine isTrue_plain (bI (h S6 s σ H _ I hw) λv s1 ⟨x,H1,I1,r1,q1⟩=>?_) (he _);obtain ⟨d,rfl,q⟩:=q1;cases r1;exact UM ⟨H1,I1,q⟩
variable {tA tB':TT}{rest:List Uo}
def Pf (t u:TT):TT:=λσ H Q=>t σ H λc H1=>if c=true then u σ H1 Q else Q false H1
def P1 (t u:TT):TT:=λσ H Q=>t σ H λc H1=>if c=true then Q true H1 else u σ H1 Q
def Po (t:TT):TT:=λσ H Q=>t σ H λc H1=>Q (!c) H1
theorem Kl (ha:PT X a tA):PW X (.BoolOp .And [a] pos) tA:=by
 intro wh S6 s σ H Q I h;refine isTrue_and (bI (ha S6 s σ H Q I h) λc s1 e=>?_);cases c with
 | true=>exact isTrue_and_nil e
 | false=>exact e
theorem MV (ha:PT X a tA):PW X (.BoolOp .Or [a] pos) tA:=by
 intro wh S6 s σ H Q I h;refine isTrue_or (bI (ha S6 s σ H Q I h) λc s1 e=>?_);cases c with
 | false=>exact isTrue_or_nil e
 | true=>exact e
theorem MU (ha:PT X a tA) (hb:PW X (.BoolOp .And (b::rest) pos) tB'):PW X (.BoolOp .And (a::b::rest) pos) (Pf tA tB'):=by
 intro wh S6 s σ H Q I h;refine isTrue_and (bI (ha S6 s σ H _ I h) λc s1 ⟨H1,I1,q1⟩=>?_);cases c with
 | true=>exact hb wh S6 s1 σ H1 Q I1 q1
 | false=>exact ⟨H1,I1,q1⟩
theorem N1 (ha:PT X a tA) (hb:PW X (.BoolOp .Or (b::rest) pos) tB'):PW X (.BoolOp .Or (a::b::rest) pos) (P1 tA tB'):=by
 intro wh S6 s σ H Q I h;refine isTrue_or (bI (ha S6 s σ H _ I h) λc s1 ⟨H1,I1,q1⟩=>?_);cases c with
 | true=>exact ⟨H1,I1,q1⟩
 | false=>exact hb wh S6 s1 σ H1 Q I1 q1
theorem MS (ha:PT X a tA):PT X (.UnaryOp .Not a pos) (Po tA):=by intro S6 s σ H Q I h;exact isTrue_not (ha S6 s σ H (λc H1=>Q (!c) H1) I h)
def Od (ta tb:TE):TE:=λσ H Q=>ta σ H λx H1=>∃c,x=.bl c/\if c=true then tb σ H1 Q else Q (.bl false) H1
def Pp (ta tb:TE):TE:=λσ H Q=>ta σ H λx H1=>∃c,x=.bl c/\if c=true then Q (.bl true) H1 else tb σ H1 Q
def Oh (ta:TE):TE:=λσ H Q=>ta σ H λx H1=>∃c,x=.bl c/\Q (.bl (!c)) H1
theorem MF {op}{t:TE}(h:PE X a t):PE X (.BoolOp op [a] pos) t:=λS6 s σ H Q I hw=>BoolOp_one (h S6 s σ H Q I hw)
theorem MB (ha:PE X a ta) (hb:PE X (.BoolOp .And (b::rest) pos) tb):PE X (.BoolOp .And (a::b::rest) pos) (Od ta tb):=by
 intro S6 s σ H Q I h;refine BoolOp_and (bI (ha S6 s σ H _ I h) λv s1 ⟨x,H1,I1,r1,q1⟩=>?_);obtain ⟨c,rfl,q1⟩:=q1;cases r1;refine UM ?_;cases c with
 | true=>exact hb S6 s1 σ H1 Q I1 q1
 | false=>exact ⟨.bl false,H1,I1,rfl,q1⟩
theorem NW (ha:PE X a ta) (hb:PE X (.BoolOp .Or (b::rest) pos) tb):PE X (.BoolOp .Or (a::b::rest) pos) (Pp ta tb):=by
 intro S6 s σ H Q I h;refine BoolOp_or (bI (ha S6 s σ H _ I h) λv s1 ⟨x,H1,I1,r1,q1⟩=>?_);obtain ⟨c,rfl,q1⟩:=q1;cases r1;refine UM ?_;cases c with
 | false=>exact hb S6 s1 σ H1 Q I1 q1
 | true=>exact ⟨.bl true,H1,I1,rfl,q1⟩
theorem ME (ha:PE X a ta):PE X (.UnaryOp .Not a pos) (Oh ta):=by intro S6 s σ H Q I h;refine UnaryOp_ (bI (ha S6 s σ H _ I h) λv s1 ⟨x,H1,I1,r1,q1⟩=>?_);obtain ⟨c,rfl,q1⟩:=q1;cases r1;exact not_of (UM ⟨.bl (!c),H1,I1,rfl,q1⟩)
end
noncomputable def bY (K:Tg) (H:Hp) (a:T3) (xs:List V):Prop:=
 Rd H a (.lst xs)\/
  ∃(o:Obj) (S7:Array Ti) (n:Nat),K.lookup a=some o/\o.cls=.type "list"/\o.dict=none/\o.data=.seq S7 n/\S7.size<=sizeLine/\Vals xs S7.toList
noncomputable def cZ (K:Tg) (H:Hp) (a:T3) (xs:List V):Prop:=
 Rd H a (.tup xs)\/
  ∃(o:Obj) (S7:Array Ti) (n:Nat),K.lookup a=some o/\o.cls=.type "tuple"/\o.data=.seq S7 n/\S7.size<=sizeLine/\Vals xs S7.toList
noncomputable def OU:Ti->Option V
 | .none=>some .non
 | .bool b=>some (.bl b)
 | .int i _=>some (.int i)
 | .str x _=>some (.str x)
 | .bytes b _=>some (.byt b)
 | .float b _=>some (.flt b)
 | .ref a=>some (.ref a)
 | .type n=>some (.ty n)
 | _=>none
theorem RelV.abs (r:RelV x u):OU u=some x:=by
 cases x with
 | non=>cases r;rfl
 | bl _=>cases r;rfl
 | int _=>obtain ⟨t,rfl⟩:=r;rfl
 | str _=>obtain ⟨t,rfl⟩:=r;rfl
 | byt _=>obtain ⟨t,rfl⟩:=r;rfl
 | flt _=>obtain ⟨t,rfl⟩:=r;rfl
 | ref _=>cases r;rfl
 | ty _=>cases r;rfl
theorem RelV.inj (r:RelV x u) (q:RelV y u):x=y:=U3 (r.abs.symm.trans q.abs)
theorem Vals.inj:∀{xs ys:List V}{us:List Ti},Vals xs us->Vals ys us->xs=ys
 | _,_,_,.nil,.nil=>rfl
 | _,_,_,.cons r t,.cons r' t'=>by rw [r.inj r',Vals.inj t t']
section
variable {X:Cx}{S6:List (T3×Obj)}{σ:St}{H:Hp}{s:Tj}{a:T3}{xs ys:List V}
theorem bY.of {K:Tg}(h:H a=some (.lst xs)):bY K H a xs:=.inl (.inl h)
theorem Inv.list (I:Inv X S6 σ H s) (h:bY X.K H a xs):∃S7:List Ti,Vals xs S7/\PlainL s.heap a S7.toArray/\xs.length<=sizeLine:=by
 rcases h with h | ⟨o,S7,n,hk,hc,hd,hs,hz,r⟩
 ·obtain ⟨z,S7,n,r,e⟩:=h.ok I.hok;exact ⟨S7,r,⟨_,n,e,rfl,rfl,rfl⟩,z⟩
 ·refine ⟨S7.toList,r,⟨o,n,I.kIn a o hk,hc,hd,by simpa using hs⟩,?_⟩;have e:=r.length;simp only [TY] at e;omega
theorem Inv.tuple (I:Inv X S6 σ H s) (h:cZ X.K H a xs):∃S7:List Ti,Vals xs S7/\adx s.heap a S7.toArray/\xs.length<=sizeLine:=by
 rcases h with h | ⟨o,S7,n,hk,hc,hs,hz,r⟩
 ·obtain ⟨z,S7,r,p⟩:=h.ok I.hok;exact ⟨S7,r,p,z⟩
 ·refine ⟨S7.toList,r,⟨o,I.kIn a o hk,hc,n,by simpa using hs⟩,?_⟩;have e:=r.length;simp only [TY] at e;omega
theorem Inv.list_inj (I:Inv X S6 σ H s) (h:bY X.K H a xs) (h':bY X.K H a ys):xs=ys:=by
 obtain ⟨S7,r,⟨o,n,e,_,_,d⟩,_⟩:=I.list h;obtain ⟨its',r',⟨o',n',e',_,_,d'⟩,_⟩:=I.list h';rw [e] at e';cases e';rw [d] at d';injection d' with d1 _
 have:S7=its':=by simpa using congrArg Z6 d1
 subst this;exact r.inj r'
theorem Inv.tuple_inj (I:Inv X S6 σ H s) (h:cZ X.K H a xs) (h':cZ X.K H a ys):xs=ys:=by
 obtain ⟨S7,r,⟨o,e,_,n,d⟩,_⟩:=I.tuple h;obtain ⟨its',r',⟨o',e',_,n',d'⟩,_⟩:=I.tuple h';rw [e] at e';cases e';rw [d] at d';injection d' with d1 _
 have:S7=its':=by simpa using congrArg Z6 d1
 subst this;exact r.inj r'
end
abbrev Cx.wish (X:Cx) (E:Ti->Tj->Prop):Cx:={X with xe:=E}
abbrev Cx.nox (X:Cx):Cx:=X.wish λ_ _=>False
theorem Cx.Ok.wish {X:Cx}(ok:X.Ok) (E:Ti->Tj->Prop):(X.wish E).Ok:=
 ⟨ok.mod,ok.kind,ok.glob,ok.blt,ok.above,ok.inj,ok.has,ok.cab,ok.hd,ok.frames,ok.stk,ok.exf,ok.bs,ok.bsz,ok.noex,ok.exfs,ok.funs,ok.frf⟩
theorem Cx.Ok.unwish {X:Cx}{E:Ti->Tj->Prop}(ok:(X.wish E).Ok):X.Ok:=
 ⟨ok.mod,ok.kind,ok.glob,ok.blt,ok.above,ok.inj,ok.has,ok.cab,ok.hd,ok.frames,ok.stk,ok.exf,ok.bs,ok.bsz,ok.noex,ok.exfs,ok.funs,ok.frf⟩
section
variable {X:Cx}{S6:List (T3×Obj)}{σ:St}{H:Hp}{s:Tj}{E:Ti->Tj->Prop}
theorem Inv.wish (I:Inv X S6 σ H s) (E:Ti->Tj->Prop):Inv (X.wish E) S6 σ H s:=⟨I.ok.wish E,I.os,I.bare,I.base,I.loc,I.cell,I.free,I.freeC,I.pin,I.hok,I.len⟩
theorem Inv.unwish (I:Inv (X.wish E) S6 σ H s):Inv X S6 σ H s:=⟨I.ok.unwish,I.os,I.bare,I.base,I.loc,I.cell,I.free,I.freeC,I.pin,I.hok,I.len⟩
theorem SP.unwish {D:Ends}(h:SP (X.wish E) S6 D f s'):SP X S6 D f s':=by
 cases f with
 | next=>obtain ⟨σ',H',I,q⟩:=h;exact ⟨σ',H',I.unwish,q⟩
 | brk=>obtain ⟨σ',H',I,q⟩:=h;exact ⟨σ',H',I.unwish,q⟩
 | cont=>obtain ⟨σ',H',I,q⟩:=h;exact ⟨σ',H',I.unwish,q⟩
 | ret u=>obtain ⟨v,σ',H',I,r,q⟩:=h;exact ⟨v,σ',H',I.unwish,r,q⟩
theorem kc.nox {st:List Wm}{t:TS}(h:kc X.nox st t):kc X st t:=λS6 s σ H D I hw=>
 UD (h S6 s σ H D (I.wish _) hw) (λ_ _ q=>q.unwish) λ_ _ z=>Xd z
end
section
variable {X:Cx}{st:Wm}{rest:List Wm}{t u:TS}{e:Uo}{te:TE}{pos:Pos}
def Og:TS:=λD σ H=>D.nx σ H
def Pu (t u:TS):TS:=λD σ H=>t {D with nx:=u D} σ H
theorem Kf:kc X [] Og:=λ_ _ σ H _ I h=>YR ⟨σ,H,I,h⟩
theorem G0 (h1:PS X st t) (h2:kc X rest u):kc X (st::rest) (Pu t u):=by
 intro S6 s σ H D I h;refine abQ (bI (h1 S6 s σ H {D with nx:=u D} I h) λf s1 q=>?_);cases f with
 | next=>
  obtain ⟨σ',H',I',q⟩:=q;exact h2 S6 s1 σ' H' D I' q
 | ret v=>exact q
 | brk=>exact q
 | cont=>exact q
theorem Kg (h1:PS X st t):kc X [st] t:=by
 intro S6 s σ H D I h;refine abQ (bI (h1 S6 s σ H D I h) λf s1 q=>?_);cases f with
 | next=>exact YR q
 | ret v=>exact q
 | brk=>exact q
 | cont=>exact q
theorem Inv.quiet {H:Hp}(I:Inv X S6 σ H s):interactive X.env=false:=by simp [interactive,I.ok.kind]
def Of (te:TE):TS:=λD σ H=>te σ H λ_ H1=>D.nx σ H1
theorem qF (he:PE X e te) (hs:YS e none pos.line X.env=pure false:=by rfl):PS X (.Expr e pos) (Of te):=by intro S6 s σ H D I h;exact wpAny_Expr_any (bI (he S6 s σ H _ I h) λv s1 ⟨x,H1,I1,r1,q1⟩=>⟨σ,H1,I1,q1⟩) I.quiet hs
def Pq (te:TE):TS:=λD σ H=>te σ H D.rt
theorem MQ (he:PE X e te):PS X (.Return (some e) pos) (Pq te):=by intro S6 s σ H D I h;exact wpAny_Return_some (bI (he S6 s σ H _ I h) λv s1 ⟨x,H1,I1,r1,q1⟩=>⟨x,σ,H1,I1,r1,q1⟩)
def Pj (c:TT) (t u:TS):TS:=λD σ H=>c σ H λb H1=>if b=true then t D σ H1 else u D σ H1
theorem NY {c:Uo}{a b:List Wm}{tc:TT}(hc:PT X c tc) (ha:kc X a t) (hb:kc X b u):PS X (.If c a b pos) (Pj tc t u):=by
 intro S6 s σ H D I h;refine wpAny_If (bI (hc S6 s σ H _ I h) λd s1 ⟨H1,I1,q1⟩=>?_);cases d with
 | true=>exact ha S6 s1 σ H1 D I1 q1
 | false=>exact hb S6 s1 σ H1 D I1 q1
end
abbrev TG:=V->St->Hp->(St->Hp->Prop)->Prop
abbrev vW:=List V->St->Hp->(St->Hp->Prop)->Prop
noncomputable def PG (X:Cx) (S8:Uo) (t:TG):Prop:=
 ∀(S6:List (T3×Obj)) (s:Tj) (σ:St) (H:Hp) (v:V) (u:Ti) (Q:St->Hp->Prop),Inv X S6 σ H s->RelV v u->t v σ H Q->
  TX (T5 X.prog X.w) X.A (assign S8 X.env u) (λ_ s'=>∃σ' H',Inv X S6 σ' H' s'/\Q σ' H') X.xe s
noncomputable def yv (X:Cx) (ts:List Uo) (t:vW):Prop:=
 ∀(S6:List (T3×Obj)) (s:Tj) (σ:St) (H:Hp) (vs:List V) (us:List Ti) (Q:St->Hp->Prop),Inv X S6 σ H s->Vals vs us->t vs σ H Q->
  TX (T5 X.prog X.w) X.A (assignInOrder ((Wx ts X.env).map (·.2)) us) (λ_ s'=>∃σ' H',Inv X S6 σ' H' s'/\Q σ' H') X.xe s
abbrev BJ:=V->V->V->Hp->(Hp->Prop)->Prop
noncomputable def Le (X:Cx) (t:BJ):Prop:=
 ∀(S6:List (T3×Obj)) (s:Tj) (σ:St) (H:Hp) (o i v:V) (ov iv u:Ti) (Q:Hp->Prop),Inv X S6 σ H s->RelV o ov->RelV i iv->RelV v u->t o i v H Q->
  TX (T5 X.prog X.w) X.A (setItem ov iv u) (λ_ s'=>∃H',Inv X S6 σ H' s'/\Q H') X.xe s
abbrev Lg:=V->V->Hp->VK->Prop
noncomputable def PK (X:Cx) (op:ad9) (t:Lg):Prop:=
 ∀(S6:List (T3×Obj)) (s:Tj) (σ:St) (H:Hp) (x y:V) (v u:Ti) (Q:VK),Inv X S6 σ H s->RelV x v->RelV y u->t x y H Q->
  TX (T5 X.prog X.w) X.A (Z7 op v u) (EP X S6 σ Q) X.xe s
section
variable {X:Cx}{pos:Pos}
def Ig (i:Nat):TG:=λv σ H Q=>Q (σ.set i (some v)) H
theorem Ka (hN:X.N.Nodup) (hi:X.N[i]?=some x) (hx:Loc X.env.scope x) (hf:X.fn x=true\/X.env.scope.names.lookup x=some .local:=by first | exact .inl rfl | exact .inr rfl | assumption):PG X (.Name x pos) (Ig i):=by intro S6 s σ H v u Q I r h;exact wpAny_assign_Name (sU I hN hi hx r (λs' I'=>⟨_,H,I',h⟩) hf)
def aF:vW:=λvs σ H Q=>vs=[]/\Q σ H
def ao (t:TG) (u:vW):vW:=λvs σ H Q=>∃v r,vs=v::r/\t v σ H λσ' H'=>u r σ' H' Q
theorem Kc:yv X [] aF:=by intro S6 s σ H vs us Q I r h;obtain ⟨e,h⟩:=h;subst e;cases r;exact assignInOrder_nil ⟨σ,H,I,h⟩
theorem GW {e:Uo}{es:List Uo}{t:TG}{u:vW}(h1:PG X e t) (h2:yv X es u)
  (hs:(Wx (e::es) X.env).map (·.2)=assign e X.env::(Wx es X.env).map (·.2):=by rfl):yv X (e::es) (ao t u):=by
 intro S6 s σ H vs us Q I r h;obtain ⟨v,vr,e1,h⟩:=h;subst e1;cases r with
 | cons r rr=>
  rw [hs];refine assignInOrder_cons (bI (h1 S6 s σ H _ _ _ I r h) λ_ s1 ⟨σ1,H1,I1,q1⟩=>?_);exact h2 S6 s1 σ1 H1 _ _ Q I1 rr q1
def bO (K:Tg) (n:Nat) (t:vW):TG:=λv σ H Q=>∃a xs,v=.ref a/\cZ K H a xs/\xs.length=n/\t xs σ H Q
theorem MJ (hc:X.calm=true) (h:yv X es t)
 (hn:(Wx es X.env).length=n:=by rfl) (hst:(Wx es X.env).findIdx? (·.1)=none:=by rfl):PG X (.Tuple es k pos) (bO X.K n t):=by intro S6 s σ H v u Q I r hw;obtain ⟨a,xs,e1,hq,hl,hw⟩:=hw;subst e1;cases r;obtain ⟨S7,rv,ht,hz⟩:=I.tuple hq;refine assign_Tuple_tuple (I.ok.hd hc) ht (by simp [hn,<-hl,rv.length]) hst λh' hx=>?_;have I1:Inv X S6 σ H {s with heap:=h'}:=I.kept (t':=s.toks) λb o e=>hx b o (Ua (TN e)) e;exact h S6 _ σ H xs _ Q I1 (by simpa using rv) hw
def OY (to ti:TE) (t:BJ):TG:=λv σ H Q=>to σ H λo H1=>ti σ H1 λi H2=>t o i v H2 λH3=>Q σ H3
theorem MI {o i:Uo}{to ti:TE}{t:BJ}(ho:PE X o to) (hi:PE X i ti) (hs:Le X t)
  (ha:∀v,assign (.Subscript o i pos) X.env v=(do
   let ov <-holding [v] (eval o X.env)
   let iv <-holding [v,ov] (eval i X.env)
   W6 pos
   holding [v,ov,iv] (setItem ov iv v)
   release [v,ov,iv] []):=by intro _;rfl):PG X (.Subscript o i pos) (OY to ti t):=by intro S6 s σ H v u Q I r h;rw [ha];refine Tf (Ul (bI (ho S6 s σ H _ I h) λov s1 ⟨x,H1,I1,r1,q1⟩=>?_));refine Tf (Ul (bI (hi S6 s1 σ H1 _ I1 q1) λiv s2 ⟨y,H2,I2,r2,q2⟩=>?_));refine Tf (WM (Tf (Ul (bI (hs S6 s2 σ H2 x y v ov iv u _ I2 r1 r2 r q2) λ_ s3 ⟨H3,I3,q3⟩=>?_))));exact wpAny_release ⟨σ,H3,I3,q3⟩
def Hz (te:TE) (g:TG):TS:=λD σ H=>te σ H λx H1=>g x σ H1 D.nx
theorem EN {tg e:Uo}{te:TE}{g:TG}(he:PE X e te) (hg:PG X tg g) (hs:Zz [tg] e pos.line X.env=pure false:=by rfl) (hw:aaY [tg] e X.env=pure none:=by rfl)
  (h1:(Wx [tg] X.env).map (·.2)=[assign tg X.env]:=by rfl):PS X (.Assign [tg] e pos) (Hz te g):=by intro S6 s σ H D I h;refine wpAny_Assign_stores (bI (he S6 s σ H _ I h) λv s1 ⟨x,H1,I1,r1,q1⟩=>?_) hs hw;rw [h1];exact bI (hg S6 s1 σ H1 x v _ I1 r1 q1) λ_ s2 q=>q
theorem MR {i:Nat}{x:Str}{e:Uo}{te:TE}{pos':Pos}(hN:X.N.Nodup) (hi:X.N[i]?=some x) (hx:Loc X.env.scope x) (he:PE X e te) (hs:YS e (some (.Name x pos')) pos.line X.env=pure false:=by rfl) (hf:X.fn x=true\/X.env.scope.names.lookup x=some .local:=by first | exact .inl rfl | exact .inr rfl | assumption):
  PS X (.Assign [.Name x pos'] e pos) (Hz te (Ig i)):=by intro S6 s σ H D I h;refine wpAny_Assign_Name (bI (he S6 s σ H _ I h) λv s1 ⟨y,H1,I1,r1,q1⟩=>?_) hs;exact sU I1 hN hi hx r1 (λs2 I2=>⟨_,H1,I2,q1⟩) hf
def Pg (i:Nat) (te:TE) (ti:Lg):TS:=λD σ H=>∃x,σ[i]?=some (some x)/\te σ H λy H1=>ti x y H1 λz H2=>D.nx (σ.set i (some z)) H2
theorem MN {i:Nat}{x:Str}{e:Uo}{te:TE}{op:ad9}{ti:Lg}{pos':Pos}(hN:X.N.Nodup) (hi:X.N[i]?=some x) (hx:Loc X.env.scope x) (he:PE X e te) (ho:PK X op ti) (hf:X.fn x=true\/X.env.scope.names.lookup x=some .local:=by first | exact .inl rfl | exact .inr rfl | assumption):
  PS X (.AugAssign (.Name x pos') op e pos) (Pg i te ti):=by
 intro S6 s σ H D I h;obtain ⟨v,e1,h⟩:=h;obtain ⟨m,hn,hl⟩:=I.loc;have vis:qY X.env.scope x:=by rcases hx with k | k;exact .inl k;exact .inr (.inl k)
 obtain ⟨u,r,l⟩:=hl i x v hi e1 vis;refine wpAny_AugAssign_Name ?_;have go:TX (T5 X.prog X.w) X.A (eval e X.env) (λw s₂=>TX (T5 X.prog X.w) X.A (Z7 op u w) (λr s₃=>TX (T5 X.prog X.w) X.A (ady X.env x r) (λ_=>SP X S6 D .next) X.xe s₃) X.xe s₂) X.xe s:=by refine bI (he S6 s σ H _ I h) λw s1 ⟨y,H1,I1,r1,q1⟩=>?_;refine bI (ho S6 s1 σ H1 v y u w _ I1 r r1 q1) λz s2 ⟨zv,H2,I2,r2,q2⟩=>?_;exact sU I2 hN hi hx r2 (λs3 I3=>⟨_,H2,I3,q2⟩) hf
 rcases l with ⟨hk,hm⟩ | ⟨hk,c,hc,hcell⟩
 ·exact aay I.ok.kind hk hn hm go
 ·rcases hk with hk | hk
  ·exact aaO I.ok.kind hk hc hcell go
  ·rcases hx with k | k
   ·have:X.env.scope.names.lookup x=some .free:=hk;rw [k] at this;cases this
   ·have:X.env.scope.names.lookup x=some .free:=hk;rw [k] at this;cases this
noncomputable def Nd (c:TT) (tb:TS):TS:=λD σ H=>∃W:Nat->St->Hp->Prop,(∃m,W m σ H)/\∀m σ H,W m σ H->
 c σ H λb H1=>if b=true then ∃N:St->Hp->Prop,(∀σ' H',N σ' H'->∃m',m' < m/\W m' σ' H')/\tb {D with nx:=N,ct:=N,bk:=D.nx} σ H1 else D.nx σ H1
theorem GZ {c:Uo}{body:List Wm}{tc:TT}{tb:TS}(hp:ab3 (T5 X.prog X.w) X.A X.env X.xe) (hc:PT X c tc) (hb:kc X body tb):PS X (.While c body [] pos) (Nd tc tb):=by
 intro S6 s σ H D I h;obtain ⟨W,⟨m0,w0⟩,turn⟩:=h;refine wpAny_While (codeAny_whileLoop (λn s'=>∃σ' H',Inv X S6 σ' H' s'/\W n σ' H') ?_ m0 ⟨σ,H,I,w0⟩);rintro n s1 ⟨σ1,H1,I1,w1⟩;refine Wy hp (bI (hc S6 s1 σ1 H1 _ I1 (turn n σ1 H1 w1)) λb s2 ⟨H2,I2,q2⟩=>?_);cases b with
 | true=>
  obtain ⟨N,hN,q2⟩:=q2;rw [if_pos rfl];refine Wy hp (bI (hb S6 s2 σ1 H2 _ I2 q2) λf s3 q3=>?_);cases f with
  | next=>
   obtain ⟨σ3,H3,I3,n3⟩:=q3;obtain ⟨m',hm,w3⟩:=hN σ3 H3 n3;exact ⟨m',hm,σ3,H3,I3,w3⟩
  | cont=>
   obtain ⟨σ3,H3,I3,n3⟩:=q3;obtain ⟨m',hm,w3⟩:=hN σ3 H3 n3;exact ⟨m',hm,σ3,H3,I3,w3⟩
  | brk=>exact q3
  | ret v=>exact q3
 | false=>
  rw [if_neg T_];exact YR ⟨σ1,H2,I2,q2⟩
end
structure It where
 go:Nat->Hp->Prop
 yld:Nat->Hp->V->Hp->Prop
 stop:Nat->Hp->Prop
noncomputable def jW (X:Cx) (S6:List (T3×Obj)) (H:Hp) (b:T3):Prop:=
 H b=none/\b≠X.env.locals/\b∉X.fs/\(b∈X.ex\/X.s₀.heap.objs.size<=b)/\(∀x c,X.env.cells.lookup x=some c->c≠b)/\∀p∈X.pn++S6,p.1≠b
theorem Inv.fpOk {H H':Hp}{s:Tj}(I:Inv X S6 σ H s) (hb:s.heap.objs.size<=b) (hn:H' b=none):jW X S6 H' b:=by
 refine ⟨hn,WJ (T9 I.lt hb),I.nofs hb,.inr (T6 I.sz hb),λx c e z=>?_,λp hp z=>?_⟩
 ·obtain ⟨v,q⟩:=I.cell x c e;exact absurd (T9 q.lt (by rw [z];exact hb)) (US _)
 ·exact absurd (T9 (TN (I.pin p hp).1) (by rw [z];exact hb)) (US _)
structure Turn (P:TU) (w:Uk) (K:Tg) (tg:Uo) (J:It) (fp:List T3) (it:T3) (tn:Nat->Vd->Prop):Prop where
 mem:it∈fp
 obj:∀i h,tn i h->∀b∈fp,∃o,h.get? b=some o/\∀v,o.data≠.cell v
 keep:∀i h h',tn i h->(∀b∈fp,∀o,h.get? b=some o->h'.get? b=some o)->tn i h'
 item:∀(X:Cx),X.prog=P->X.w=w->X.K=K->X.calm=true->∀(i:Nat) (S6:List (T3×Obj)) (s:Tj) (σ:St) (H:Hp) (E:Ti->Tj->Prop),Inv X S6 σ H s->(∀b∈fp,jW X S6 H b)->tn i s.heap->J.go i H->
  TX (T5 P w) X.A (W7 (.ref it)) (λr s1=>∃u,r=some u/\
   TX (T5 P w) X.A (V3 tg (.ref it) u) (λ_ s2=>∃x H',Inv X S6 σ H' s2/\RelV x u/\J.yld i H x H'/\tn (i + 1) s2.heap/\∀b∈fp,H' b=none) E s1) E s
 done:∀(X:Cx),X.prog=P->X.w=w->X.K=K->X.calm=true->∀(i:Nat) (S6:List (T3×Obj)) (s:Tj) (σ:St) (H:Hp) (E:Ti->Tj->Prop),Inv X S6 σ H s->(∀b∈fp,jW X S6 H b)->tn i s.heap->J.stop i H->
  TX (T5 P w) X.A (W7 (.ref it)) (λr s1=>r=none/\Inv X S6 σ H s1) E s
 self:∀(A:Um) (i:Nat) (s:Tj) (Q:Ti->Tj->Prop) (E:Ti->Tj->Prop),tn i s.heap->Q (.ref it) s->TX (T5 P w) A (Zd (.ref it)) Q E s
abbrev TI:=St->Hp->(It->Hp->Prop)->Prop
noncomputable def OB (X:Cx) (S6:List (T3×Obj)) (σ:St) (tg:Uo) (R:It->Hp->Prop) (itv:Ti) (s2:Tj):Prop:=
 ∃(it:T3) (fp:List T3) (tn:Nat->Vd->Prop) (J:It) (H':Hp),itv=.ref it/\Inv X S6 σ H' s2/\Turn X.prog X.w X.K tg J fp it tn/\tn 0 s2.heap/\(∀b∈fp,jW X S6 H' b)/\R J H'
noncomputable def PI (X:Cx) (tg S9:Uo) (wi:TI):Prop:=
 ∀(S6:List (T3×Obj)) (s:Tj) (σ:St) (H:Hp) (R:It->Hp->Prop),Inv X S6 σ H s->wi σ H R->
  TX (T5 X.prog X.w) X.A (eval S9 X.env) (λv s1=>TX (T5 X.prog X.w) X.A (Zd v) (OB X S6 σ tg R) X.xe s1) X.xe s
theorem ud {M:adL}{E:Ti->Tj->Prop}{s:Tj}{o:Obj}{Q:Unit->Tj->Prop}(ho:s.heap.get? it=some o) (hc:o.cls=.type n) (hd:o.data=.fields vs)
 (hn:["enumerate","zip","dict_itemiterator","dict_reverseitemiterator","odict_iterator","itertools.zip_longest","itertools.pairwise"].contains n=false) (hQ:Q () s):TX M A (V3 tg (.ref it) u) Q E s:=by
 unfold V3;cases tg <;> first
  | exact Th hQ
  | (cases u <;> first
    | exact Th hQ
    | (refine Tf (acT ho ?_);rw [hc,hd];show TX M A (if (["enumerate","zip","dict_itemiterator","dict_reverseitemiterator","odict_iterator","itertools.zip_longest","itertools.pairwise"].contains n && vs[0]? == some (ZP _))=true then _ else _) Q E s;rw [if_neg (by intro h;rw [hn,acB] at h;cases h)];exact Th hQ))
noncomputable def HJ (K:Tg) (a:T3):It:=
 ⟨λi H=>∃xs x,bY K H a xs/\xs[i]?=some x,λi H x H'=>H'=H/\∀xs,bY K H a xs->xs[i]?=some x,λi H=>∃xs,bY K H a xs/\xs.length<=i⟩
noncomputable def HL (K:Tg) (a:T3):It:=
 ⟨λi H=>∃xs x,cZ K H a xs/\xs[i]?=some x,λi H x H'=>H'=H/\∀xs,cZ K H a xs->xs[i]?=some x,λi H=>∃xs,cZ K H a xs/\xs.length<=i⟩
def De (lo:Int) (n:Nat):It:=⟨λi _=>i < n,λi H x H'=>H'=H/\x=.int (lo + i),λi _=>n<=i⟩
theorem Ft {P:TU}{w:Uk}{K:Tg}{tg:Uo}(a it:T3):Turn P w K tg (HJ K a) [it] it (λi h=>h.IsListIter it a i) where
 mem:=by simp
 obj:=λi h st b hb=>by
  have e:b=it:=by simpa using hb
  subst e;obtain ⟨o,e,c,d⟩:=st;exact ⟨o,e,λv z=>by rw [d] at z;cases z⟩
 keep:=λi h h' st k=>st.at λo e=>k it (by simp) o e
 item:=by intro X hP hw hK hc i S6 s σ H E I hf st hg;subst hP hw hK;obtain ⟨xs,x,hq,hx⟩:=hg;obtain ⟨S7,rv,p,hz⟩:=I.list hq;obtain ⟨u,hu,ru⟩:=rv.get hx;obtain ⟨f0,f1,f2,f3,f4,f5⟩:=hf it (by simp);refine wpAny_pyNext_list_item st p.isList (x:=u) (by simpa using hu) λh' st' sb=>?_;have I1:Inv X S6 σ H {s with heap:=h'}:=I.turned (t':=s.toks) (λb o hb e=>(sb.2 b hb).trans e) f0 f1 f3 f4 f5;obtain ⟨o,e,c,d⟩:=id st';exact ⟨u,rfl,ud (s:={s with heap:=h'}) e c d (by decide) ⟨x,H,I1,ru,⟨rfl,λys hy=>by rw [I.list_inj hy hq];exact hx⟩,st',λb hb=>(hf b hb).1⟩⟩
 done:=by intro X hP hw hK hc i S6 s σ H E I hf st hg;subst hP hw hK;obtain ⟨xs,hq,hx⟩:=hg;obtain ⟨S7,rv,p,hz⟩:=I.list hq;obtain ⟨f0,f1,f2,f3,f4,f5⟩:=hf it (by simp);have hl:=rv.length;exact wpAny_pyNext_list_end (I.ok.hd hc) st p.isList (by simp;omega) λh' eb=>⟨rfl,I.turned (t':=s.toks) (λb o hb e=>eb b o hb e) f0 f1 f3 f4 f5⟩
 self:=λ_ _ _ _ _ st h=>wpAny_pyIter_listiter st h
theorem CU {P:TU}{w:Uk}{K:Tg}{tg:Uo}(a it:T3):Turn P w K tg (HL K a) [it] it (λi h=>h.IsTupleIter it a i) where
 mem:=by simp
 obj:=λi h st b hb=>by
  have e:b=it:=by simpa using hb
  subst e;obtain ⟨o,e,c,d⟩:=st;exact ⟨o,e,λv z=>by rw [d] at z;cases z⟩
 keep:=λi h h' st k=>st.at λo e=>k it (by simp) o e
 item:=by intro X hP hw hK hc i S6 s σ H E I hf st hg;subst hP hw hK;obtain ⟨xs,x,hq,hx⟩:=hg;obtain ⟨S7,rv,p,hz⟩:=I.tuple hq;obtain ⟨u,hu,ru⟩:=rv.get hx;obtain ⟨f0,f1,f2,f3,f4,f5⟩:=hf it (by simp);refine wpAny_pyNext_tuple_item st (show s.heap.IsTuple a S7.toArray from p) (x:=u) (by simpa using hu) λh' st' sb=>?_;have I1:Inv X S6 σ H {s with heap:=h'}:=I.turned (t':=s.toks) (λb o hb e=>(sb.2 b hb).trans e) f0 f1 f3 f4 f5;obtain ⟨o,e,c,d⟩:=id st';exact ⟨u,rfl,ud (s:={s with heap:=h'}) e c d (by decide) ⟨x,H,I1,ru,⟨rfl,λys hy=>by rw [I.tuple_inj hy hq];exact hx⟩,st',λb hb=>(hf b hb).1⟩⟩
 done:=by intro X hP hw hK hc i S6 s σ H E I hf st hg;subst hP hw hK;obtain ⟨xs,hq,hx⟩:=hg;obtain ⟨S7,rv,p,hz⟩:=I.tuple hq;obtain ⟨f0,f1,f2,f3,f4,f5⟩:=hf it (by simp);have hl:=rv.length;exact wpAny_pyNext_tuple_end (I.ok.hd hc) st (show s.heap.IsTuple a S7.toArray from p) (by simp;omega) λh' eb=>⟨rfl,I.turned (t':=s.toks) (λb o hb e=>eb b o hb e) f0 f1 f3 f4 f5⟩
 self:=λ_ _ _ _ _ st h=>wpAny_pyIter_tupleiter st h
theorem CT {P:TU}{w:Uk}{K:Tg}{tg:Uo}(it:T3) (lo:Int) (n:Nat):Turn P w K tg (De lo n) [it] it (λi h=>IsRangeIter h it (lo + (i:Nat) * 1) ((n:Int) - (i:Nat)) 1) where
 mem:=by simp
 obj:=λi h st b hb=>by
  have e:b=it:=by simpa using hb
  subst e;exact ⟨_,st,λv z=>by
   have z':Data.fields _=Data.cell v:=z;cases z'⟩
 keep:=λi h h' st k=>k it (by simp) _ st
 item:=by intro X hP hw hK hc i S6 s σ H E I hf st hg;subst hP hw hK;obtain ⟨f0,f1,f2,f3,f4,f5⟩:=hf it (by simp);have W:=Walks.range (prog:=X.prog) (w:=X.w) (I.ok.hd hc) it lo 1 n;refine W.item i s _ _ hg st λv h' tk hv st' kk=>?_;obtain ⟨t,rfl⟩:=hv;have I1:Inv X S6 σ H {s with heap:=h',toks:=tk}:=I.turned (λb o hb e=>kk b o (by simpa using hb) e) f0 f1 f3 f4 f5;refine ⟨_,rfl,ud (s:={s with heap:=h',toks:=tk}) (n:="range_iterator") st' rfl rfl (by decide) ⟨.int (lo + i),H,I1,⟨t,?_⟩,⟨rfl,rfl⟩,st',λb hb=>(hf b hb).1⟩⟩;rw [Int.mul_one]
 done:=by intro X hP hw hK hc i S6 s σ H E I hf st hg;subst hP hw hK;obtain ⟨f0,f1,f2,f3,f4,f5⟩:=hf it (by simp);exact wpAny_pyNext_range_end (I.ok.hd hc) st (by have:n<=i:=hg;omega) λh' eb=>⟨rfl,I.turned (t':=s.toks) (λb o hb e=>eb b o hb e) f0 f1 f3 f4 f5⟩
 self:=λ_ _ _ _ _ st h=>wpAny_pyIter_rangeiter st h
section
variable {X:Cx}{tg:Uo}
theorem zK {S6:List (T3×Obj)}{σ:St}{H:Hp}{s:Tj}{R:It->Hp->Prop}{E:Ti->Tj->Prop}{lo hi:Int}{t u v:Tok}{tk:Nat}(I:Inv X S6 σ H s) (h1:-(2 ^ 62)<=lo) (h2:lo < 2 ^ 62) (h3:-(2 ^ 62)<=hi) (h4:hi < 2 ^ 62)
  (q:R (De lo (hi - lo).toNat) H):TX (T5 X.prog X.w) X.A (Zd (.ref s.heap.objs.size)) (OB X S6 σ tg R) E {s with heap:=s.heap.push {cls:=.type "range",data:=.fields #[.int lo t,.int hi u,.int 1 v]},toks:=tk}:=by
 refine wpAny_pyIter_range (IsRange.new ..) (small_one h1 h2 h3 h4) ?_;have I1:Inv X S6 σ H {s with heap:=s.heap.push {cls:=.type "range",data:=.fields #[.int lo t,.int hi u,.int 1 v]},toks:=tk}:=I.kept λb o e=>Tn _ e;refine ⟨(s.heap.push {cls:=.type "range",data:=.fields #[.int lo t,.int hi u,.int 1 v]}).objs.size,[(s.heap.push {cls:=.type "range",data:=.fields #[.int lo t,.int hi u,.int 1 v]}).objs.size],_,_,H,rfl,
  I1.kept (t':=tk) λb o e=>Tn _ e,CT _ lo (hi - lo).toNat,?_,λb hb=>?_,q⟩
 ·have e1:lo + ((0:Nat):Int) * 1=lo:=by simp
  have e2:(((hi - lo).toNat:Nat):Int) - ((0:Nat):Int)=ZA lo hi 1:=by rw [ac_];split <;> omega
  show IsRangeIter _ _ (lo + ((0:Nat):Int) * 1) ((((hi - lo).toNat:Nat):Int) - ((0:Nat):Int)) 1;rw [e1,e2];exact TH _ rfl
 ·have e:b=(s.heap.push {cls:=.type "range",data:=.fields #[.int lo t,.int hi u,.int 1 v]}).objs.size:=by simpa using hb
  subst e;exact I1.fpOk (Tv _) (I1.hok.fresh (Tv _))
def ND (ta:TA):TI:=λσ H R=>ta σ H λvs H1=>∃j:Int,vs=[.int j]/\-(2 ^ 62)<=j/\j < 2 ^ 62/\R (De 0 j.toNat) H1
noncomputable def NF (ta:TA):TI:=λσ H R=>ta σ H λvs H1=>∃i j:Int,vs=[.int i,.int j]/\(-(2 ^ 62)<=i/\i < 2 ^ 62/\-(2 ^ 62)<=j/\j < 2 ^ 62)/\R (De i (j - i).toNat) H1
theorem EI {a:Uo}{ta:TA}{p pos:Pos}(hg:Gl X "range") (hm:X.mg "range"=none) (ha:PA X [a] ta) (hs:TF [a] X.env=[(false,eval a X.env)]:=by rfl):PI X tg (.Call (.Name "range" p) [a] [] pos) (ND ta):=by
 intro S6 s σ H R I h;refine Call_ (jS I hg hm acU (W8 (bI (ha pos S6 s σ H _ I h) λus s1 ⟨vs,H1,I1,r1,q1⟩=>?_) hs rfl));obtain ⟨j,e,q1,q2,q⟩:=q1;subst e;cases r1 with
 | cons r rr=>
  cases rr;obtain ⟨t,rfl⟩:=r;exact call_range_1 (zK I1 (by omega) (by omega) q1 q2 (by simpa using q))
theorem EJ {a b:Uo}{ta:TA}{p pos:Pos}(hg:Gl X "range") (hm:X.mg "range"=none) (ha:PA X [a,b] ta) (hs:TF [a,b] X.env=[(false,eval a X.env),(false,eval b X.env)]:=by rfl) (hs2:TF [b] X.env=[(false,eval b X.env)]:=by rfl):
  PI X tg (.Call (.Name "range" p) [a,b] [] pos) (NF ta):=by
 intro S6 s σ H R I h;refine Call_ (jS I hg hm acU (W8 (bI (ha pos S6 s σ H _ I h) λus s1 ⟨vs,H1,I1,r1,q1⟩=>?_) (by rw [hs,hs2]) (by rw [hs2];rfl)));obtain ⟨i,j,e,⟨q1,q2,q3,q4⟩,q⟩:=q1;subst e;cases r1 with
 | cons r rr=>
  cases rr with
  | cons r' rr=>
   cases rr;obtain ⟨t,rfl⟩:=r;obtain ⟨t',rfl⟩:=r';exact call_range_2 (zK I1 q1 q2 q3 q4 q)
noncomputable def Ph (wi:TI) (g:TG) (tb:TS):TS:=λD σ H=>wi σ H λJ H1=>∃W:Nat->Nat->St->Hp->Prop,(∃m,W 0 m σ H1)/\∀i m σ H,W i m σ H->
 (J.stop i H/\D.nx σ H)\/(J.go i H/\∃N:St->Hp->Prop,(∀σ' H',N σ' H'->∃m',m' < m/\W (i + 1) m' σ' H')/\∀x H',J.yld i H x H'->g x σ H' λσ2 H2=>tb {D with nx:=N,ct:=N,bk:=D.nx} σ2 H2)
def pT (fp:List T3) (h:Vd):List (T3×Obj):=fp.filterMap λb=>(h.get? b).map λo=>(b,o)
theorem kC {h:Vd}(hb:b∈fp) (e:h.get? b=some o):(b,o)∈pT fp h:=W0.mpr ⟨b,hb,by rw [e];rfl⟩
theorem Er {h:Vd}{p:T3×Obj}(hp:p∈pT fp h):p.1∈fp/\h.get? p.1=some p.2:=by
 obtain ⟨b,hb,e⟩:=W0.mp hp;cases q:h.get? b with
 | none=>rw [q] at e;cases e
 | some o=>
  rw [q] at e;have e':(b,o)=p:=U3 e;subst e';exact ⟨hb,q⟩
theorem Inv.pinned {H:Hp}{s:Tj}(I:Inv X S6 σ H s) (hf:∀b∈fp,jW X S6 H b) (ho:∀b∈fp,∃o,s.heap.get? b=some o/\∀v,o.data≠.cell v):Inv X (S6++pT fp s.heap) σ H s:=
 I.pins_of λp hp=>(Ub.mp hp).elim (λz=>I.pin p (Uu _ z)) λz=>by obtain ⟨hb,e⟩:=Er z;obtain ⟨f0,f1,f2,_⟩:=hf p.1 hb;obtain ⟨o,e',d⟩:=ho p.1 hb;rw [e] at e';cases e';exact ⟨e,f0,f1,f2,d⟩
theorem Inv.unpinned {H:Hp}(I:Inv X (S6++pl) σ H s):Inv X S6 σ H s:=I.pins_of λp hp=>I.pin p (Uu _ (VU _ hp))
theorem MP {S9:Uo}{body:List Wm}{wi:TI}{g:TG}{tb:TS}{pos:Pos}(hp:ab3 (T5 X.prog X.w) X.A X.env X.xe) (hc:X.calm=true) (hi:PI X tg S9 wi) (hg:PG X tg g) (hb:kc X body tb)
  (hs:∀x,U7 S9 X.env x=pure x:=by intro _;rfl):PS X (.For tg S9 body [] pos) (Ph wi g tb):=by
 intro S6 s σ H D I h;refine wpAny_For (bI (hi S6 s σ H _ I h) λv s1 h1=>bI h1 λitv s2 h2=>?_) hs;obtain ⟨it,fp,tn,J,H2,e,I2,T,st2,f2,W,⟨m0,w0⟩,turn⟩:=h2;subst e;have stat:∀{H':Hp},(∀b∈fp,H' b=none)->∀b∈fp,jW X S6 H' b:=λhn b hb=>⟨hn b hb,(f2 b hb).2⟩;refine codeAny_forLoop_any (λn s'=>∃i σ' H',Inv X S6 σ' H' s'/\tn i s'.heap/\(∀b∈fp,H' b=none)/\W i n σ' H') ?_ m0 ⟨0,σ,H2,I2,st2,λb hb=>(f2 b hb).1,w0⟩;rintro n s3 ⟨i,σ3,H3,I3,st3,fr3,w3⟩;rcases turn i n σ3 H3 w3 with ⟨stop,qn⟩ | ⟨go,N,hN,step⟩
 ·refine Wy hp (bI (T.done X rfl rfl rfl hc i S6 s3 σ3 H3 X.xe I3 (stat fr3) st3 stop) λr s4 ⟨hr,I4⟩=>?_);subst hr;exact YR ⟨σ3,H3,I4,qn⟩
 ·refine Wy hp (bI (T.item X rfl rfl rfl hc i S6 s3 σ3 H3 X.xe I3 (stat fr3) st3 go) λr s4 ⟨u,hr,h4⟩=>?_);subst hr;refine Wy hp (bI h4 λ_ s5 ⟨x,H5,I5,r5,y5,st5,fr5⟩=>?_);have I5':=I5.pinned (stat fr5) (T.obj _ _ st5);refine Wy hp (bI (hg _ s5 σ3 H5 x u _ I5' r5 (step x H5 y5)) λ_ s6 ⟨σ6,H6,I6,q6⟩=>?_);refine Wy hp (bI (hb _ s6 σ6 H6 _ I6 q6) λf s7 q7=>?_);have again:∀{σ7:St}{H7:Hp},Inv X (S6++pT fp s5.heap) σ7 H7 s7->N σ7 H7->∃m,m < n/\∃i σ' H',Inv X S6 σ' H' s7/\tn i s7.heap/\(∀b∈fp,H' b=none)/\W i m σ' H':=fun {σ7 H7} I7 n7=>by obtain ⟨m',hm,w7⟩:=hN σ7 H7 n7;refine ⟨m',hm,i + 1,σ7,H7,I7.unpinned,T.keep _ _ _ st5 λb hb o e=>(I7.pin (b,o) (Uu _ (Uu _ (kC hb e)))).1,λb hb=>?_,w7⟩;obtain ⟨o,e,d⟩:=T.obj _ _ st5 b hb;exact (I7.pin (b,o) (Uu _ (Uu _ (kC hb e)))).2.1
  cases f with
  | next=>obtain ⟨σ7,H7,I7,n7⟩:=q7;exact again I7 n7
  | cont=>obtain ⟨σ7,H7,I7,n7⟩:=q7;exact again I7 n7
  | brk=>obtain ⟨σ7,H7,I7,q7⟩:=q7;exact ⟨σ7,H7,I7.unpinned,q7⟩
  | ret v=>obtain ⟨x7,σ7,H7,I7,r7,q7⟩:=q7;exact ⟨x7,σ7,H7,I7.unpinned,r7,q7⟩
end
abbrev R2:=V->V->Hp->VK->Prop
noncomputable def cS (X:Cx) (f:Ti->Ti->Sem Ti) (r:R2):Prop:=
 ∀(S6:List (T3×Obj)) (s:Tj) (σ:St) (H:Hp) (x y:V) (v u:Ti) (Q:VK),Inv X S6 σ H s->RelV x v->RelV y u->r x y H Q->
  TX (T5 X.prog X.w) X.A (f v u) (EP X S6 σ Q) X.xe s
noncomputable def Lh (X:Cx) (f:Ti->Sem Ti) (r:V->Hp->VK->Prop):Prop:=
 ∀(S6:List (T3×Obj)) (s:Tj) (σ:St) (H:Hp) (x:V) (v:Ti) (Q:VK),Inv X S6 σ H s->RelV x v->r x H Q->
  TX (T5 X.prog X.w) X.A (f v) (EP X S6 σ Q) X.xe s
noncomputable def cJ (X:Cx) (f:Ti) (r:List V->Hp->VK->Prop):Prop:=
 ∀(S6:List (T3×Obj)) (s:Tj) (σ:St) (H:Hp) (xs:List V) (us:List Ti) (Q:VK),Inv X S6 σ H s->Vals xs us->r xs H Q->
  TX (T5 X.prog X.w) X.A (call f us) (EP X S6 σ Q) X.xe s
noncomputable def OS (X:Cx) (r:V->Hp->(Bool->Hp->Prop)->Prop):Prop:=
 ∀(S6:List (T3×Obj)) (s:Tj) (σ:St) (H:Hp) (x:V) (v:Ti) (Q:Bool->Hp->Prop),Inv X S6 σ H s->RelV x v->r x H Q->
  TX (T5 X.prog X.w) X.A (truthy v) (TP X S6 σ Q) X.xe s
def Fg (r:R2) (ta tb:TE):TE:=λσ H Q=>ta σ H λx H1=>tb σ H1 λy H2=>r x y H2 Q
def P6 (r:V->Hp->VK->Prop) (ta:TE):TE:=λσ H Q=>ta σ H λx H1=>r x H1 Q
def rI (C:Int->Int->Prop) (g:Int->Int->V):R2:=λx y H Q=>∃i j,x=.int i/\y=.int j/\C i j/\Q (g i j) H
def pV (g:Int->Int->V):R2:=λx y H Q=>∃i j,x=.int i/\y=.int j/\Q (g i j) H
def rU (g:Int->V):V->Hp->VK->Prop:=λx H Q=>∃i,x=.int i/\Q (g i) H
section
variable {X:Cx}{a b c:Uo}{ta tb tc:TE}{pos:Pos}
theorem FO (ha:PE X a ta) (hb:PE X b tb){S6:List (T3×Obj)}{s:Tj}{σ:St}{H:Hp}{R:V->V->Hp->Prop}(I:Inv X S6 σ H s)
  (h:ta σ H λx H1=>tb σ H1 λy H2=>R x y H2){Q:Ti->Tj->Prop}{f:Ti->Ti->Sem Ti}
  (hf:∀v u s2 x y H2,Inv X S6 σ H2 s2->RelV x v->RelV y u->R x y H2->TX (T5 X.prog X.w) X.A (f v u) Q X.xe s2):
  TX (T5 X.prog X.w) X.A (eval a X.env) (λv s₁=>TX (T5 X.prog X.w) X.A (eval b X.env) (λu s₂=>TX (T5 X.prog X.w) X.A (f v u) Q X.xe s₂) X.xe s₁) X.xe s:=by refine bI (ha S6 s σ H _ I h) λv s1 ⟨x,H1,I1,r1,q1⟩=>?_;refine bI (hb S6 s1 σ H1 _ I1 q1) λu s2 ⟨y,H2,I2,r2,q2⟩=>?_;exact hf v u s2 x y H2 I2 r1 r2 q2
theorem NV (ho:cS X (WN op) r) (ha:PE X a ta) (hb:PE X b tb):PE X (.BinOp a op b pos) (Fg r ta tb):=by intro S6 s σ H Q I h;exact wpAny_BinOp (FO ha hb I h λv u s2 x y H2 I2 rx ry q=>ho S6 s2 σ H2 x y v u Q I2 rx ry q)
theorem NX {r:V->Hp->VK->Prop}(ho:Lh X (unaryOp op) r) (ha:PE X a ta):PE X (.UnaryOp op a pos) (P6 r ta):=by intro S6 s σ H Q I h;exact UnaryOp_ (bI (ha S6 s σ H _ I h) λv s1 ⟨x,H1,I1,r1,q1⟩=>ho S6 s1 σ H1 x v Q I1 r1 q1)
theorem OV (ho:cS X (Z7 op) r){H:Hp}{Q:VK}(I:Inv X S6 σ H s)
 (rx:RelV x v) (ry:RelV y u) (q:r x y H Q):TX (T5 X.prog X.w) X.A (Z7 op v u) (EP X S6 σ Q) X.xe s:=ho S6 s σ H x y v u Q I rx ry q
theorem Es {f:Ti->Ti->Sem Ti}{C:Int->Int->Prop}{g:Int->Int->Int}
  (rule:∀(i j:Int) (t u:Tok) (s:Tj) (Q:Ti->Tj->Prop) (E:Ti->Tj->Prop),C i j->Q (.int (g i j) s.toks) {s with toks:=s.toks + 1}->TX (T5 X.prog X.w) X.A (f (.int i t) (.int j u)) Q E s):
  cS X f (rI C λi j=>.int (g i j)):=by intro S6 s σ H x y v u Q I rx ry h;obtain ⟨i,j,rfl,rfl,hc,q⟩:=h;obtain ⟨t,rfl⟩:=rx;obtain ⟨t',rfl⟩:=ry;exact rule i j t t' s _ _ hc ⟨.int (g i j),H,I.tok _,⟨_,rfl⟩,q⟩
theorem GP {f:Ti->Ti->Sem Ti}{g:Int->Int->Int}
  (rule:∀(i j:Int) (t u:Tok) (s:Tj) (Q:Ti->Tj->Prop) (E:Ti->Tj->Prop),Q (.int (g i j) s.toks) {s with toks:=s.toks + 1}->TX (T5 X.prog X.w) X.A (f (.int i t) (.int j u)) Q E s):
  cS X f (pV λi j=>.int (g i j)):=by intro S6 s σ H x y v u Q I rx ry h;obtain ⟨i,j,rfl,rfl,q⟩:=h;obtain ⟨t,rfl⟩:=rx;obtain ⟨t',rfl⟩:=ry;exact rule i j t t' s _ _ ⟨.int (g i j),H,I.tok _,⟨_,rfl⟩,q⟩
theorem GN {f:Ti->Ti->Sem Ti}{g:Int->Int->Bool}
  (rule:∀(i j:Int) (t u:Tok) (s:Tj) (Q:Ti->Tj->Prop) (E:Ti->Tj->Prop),Q (.bool (g i j)) s->TX (T5 X.prog X.w) X.A (f (.int i t) (.int j u)) Q E s):
  cS X f (pV λi j=>.bl (g i j)):=by intro S6 s σ H x y v u Q I rx ry h;obtain ⟨i,j,rfl,rfl,q⟩:=h;obtain ⟨t,rfl⟩:=rx;obtain ⟨t',rfl⟩:=ry;exact rule i j t t' s _ _ ⟨.bl (g i j),H,I,rfl,q⟩
def OJ (i j:Int):Prop:=0 < j/\j < 1073741824
def OL (i j:Int):Prop:=0<=j/\j<=1000000/\i.natAbs < 2 ^ 64
def Bx (i j:Int):Prop:=(-(2 ^ 64) < i/\i < 2 ^ 64)\/(-(2 ^ 64) < j/\j < 2 ^ 64)
theorem Bx.ok (h:Bx i j):IntMulOk i j:=by
 rcases h with ⟨h1,h2⟩ | ⟨h1,h2⟩
 ·exact .of_left (ada h1 h2)
 ·exact .of_right (ada h1 h2)
theorem Et:cS X (WN .Add) (pV λi j=>.int (i + j)):=GP λ_ _ _ _ _ _ _ q=>add_int q
theorem Mw:cS X (WN .Sub) (pV λi j=>.int (i - j)):=GP λ_ _ _ _ _ _ _ q=>sub_int q
theorem Mt:cS X (WN .Mult) (rI Bx λi j=>.int (i * j)):=Es λ_ _ _ _ _ _ _ hc q=>mul_int q hc.ok
theorem JR:cS X (WN .FloorDiv) (rI OJ λi j=>.int (i / j)):=Es λi j _ _ _ _ _ hc q=>by have h1:(0:Int) < j:=hc.1;have h2:j < 1073741824:=hc.2;exact floordiv_int (by omega) (by rw [Za i (by omega)];exact q) (.inl (PyProof.noPylong_small (by omega)))
theorem Ms:cS X (WN .Mod) (rI (λ_ j=>0 < j) λi j=>.int (i % j)):=Es λi j _ _ _ _ _ hc q=>by have h1:(0:Int) < j:=hc;exact mod_int' (by omega) (by rw [Int.fmod_eq_emod_of_nonneg i (by omega)];exact q)
theorem Mv:cS X (WN .Pow) (rI OL λi j=>.int (i ^ j.toNat)):=Es λ_ _ _ _ _ _ _ hc q=>pow_int_small hc.1 hc.2.1 hc.2.2 q
theorem Jv:cS X (Z7 .Add) (pV λi j=>.int (i + j)):=GP λ_ _ _ _ _ _ _ q=>iadd_int q
theorem P7 {f:Ti->Sem Ti}{g:Int->Int}
  (rule:∀(i:Int) (t:Tok) (s:Tj) (Q:Ti->Tj->Prop) (E:Ti->Tj->Prop),Q (.int (g i) s.toks) {s with toks:=s.toks + 1}->TX (T5 X.prog X.w) X.A (f (.int i t)) Q E s):
  Lh X f (rU λi=>.int (g i)):=by intro S6 s σ H x v Q I rx h;obtain ⟨i,rfl,q⟩:=h;obtain ⟨t,rfl⟩:=rx;exact rule i t s _ _ ⟨.int (g i),H,I.tok _,⟨_,rfl⟩,q⟩
theorem Nl:Lh X (unaryOp .USub) (rU λi=>.int (-i)):=P7 λ_ _ _ _ _ q=>neg_int q
theorem uv:cS X (Vi .Lt) (pV λi j=>.bl (decide (i < j))):=GN λ_ _ _ _ _ _ _ q=>lt_int q
theorem NR:cS X (Vi .LtE) (pV λi j=>.bl (decide (i<=j))):=GN λ_ _ _ _ _ _ _ q=>le_int q
theorem uu:cS X (Vi .Gt) (pV λi j=>.bl (decide (j < i))):=GN λ_ _ _ _ _ _ _ q=>gt_int q
theorem cS.or {f:Ti->Ti->Sem Ti}{r r':R2}(h:cS X f r) (h':cS X f r'):cS X f (λx y H Q=>r x y H Q\/r' x y H Q):=by
 intro S6 s σ H x y v u Q I rx ry q;rcases q with q | q
 ·exact h S6 s σ H x y v u Q I rx ry q
 ·exact h' S6 s σ H x y v u Q I rx ry q
theorem zB (b:Uo) (h:op≠.In:=by decide) (h2:op≠.NotIn:=by decide):UZ op b=false:=by
 have e1:(op == aez)=false:=by cases op <;> first | rfl | exact absurd rfl h
 have e2:(op == adM)=false:=by cases op <;> first | rfl | exact absurd rfl h2
 cases b <;> simp [UZ,e1,e2]
theorem J_ (ho:cS X (Vi op) r) (ha:PE X a ta) (hb:PE X b tb) (hm:UZ op b=false):PE X (.Compare a [op] [b] pos) (Fg r ta tb):=by intro S6 s σ H Q I h;exact wpAny_Compare1 (FO ha hb I h λv u s2 x y H2 I2 rx ry q=>ho S6 s2 σ H2 x y v u Q I2 rx ry q) hm
def Oj (t:TE):TT:=λσ H Q=>t σ H λx H'=>∃k,x=.bl k/\Q k H'
theorem Kh {op:CmpOp}{r:R2}(ho:cS X (Vi op) r) (ha:PE X a ta) (hb:PE X b tb) (hm:UZ op b=false):PT X (.Compare a [op] [b] pos) (Oj (Fg r ta tb)):=by
 intro S6 s σ H Q I h;refine Z5 (bI (ha S6 s σ H _ I h) λv s1 ⟨x,H1,I1,r1,q1⟩=>bI (hb S6 s1 σ H1 _ I1 q1) λu s2 ⟨y,H2,I2,r2,q2⟩=>
  bI (ho S6 s2 σ H2 x y v u _ I2 r1 r2 q2) λc s3 ⟨z,H3,I3,r3,k,e,q3⟩=>?_) hm
 subst e;cases r3;exact UM ⟨H3,I3,q3⟩
noncomputable def FJ (K:Tg) (x:V) (H:Hp) (k:Bool):Prop:=
 match x with
 | .non=>k=false
 | .bl b=>k=b
 | .int i=>k=(i != 0)
 | .str y=>y.length<=sizeLine/\k=((y.length:Int) != 0)
 | .byt y=>y.size<=sizeLine/\k=((y.size:Int) != 0)
 | .ref p=>(∃xs,bY K H p xs/\k=!xs.isEmpty)\/(∃xs,cZ K H p xs/\k=!xs.isEmpty)\/∃Td,H p=some (.dK Td)/\k=!Td.isEmpty
 | _=>False
theorem Ce {κ:Type}{Td:List (κ×V)}{vs:List (κ×Ti)}(r:KV Td vs):(!vs.isEmpty)=!Td.isEmpty:=by cases r <;> rfl
theorem um {xs:List V}{S7:List Ti}(r:Vals xs S7):(!S7.toArray.isEmpty)=!xs.isEmpty:=by cases r <;> simp
theorem kZ:(sizeLine:Nat) < 2 ^ 63:=by rw [UH];decide
theorem Nf:OS X (λx H Q=>∃k,FJ X.K x H k/\Q k H):=by
 intro S6 s σ H x v Q I rx h;obtain ⟨k,e,q⟩:=h;have hl:=kZ;have hs:sizeLine=16777216:=UH;cases x with
 | non=>
  cases rx;have e':k=false:=e;subst e';exact truthy_none ⟨H,I,q⟩
 | bl b=>
  cases rx;have e':k=b:=e;subst e';exact UM ⟨H,I,q⟩
 | int i=>
  obtain ⟨t,rfl⟩:=rx;have e':k=(i != 0):=e;subst e';exact PySem.P.truthy_int ⟨H,I,q⟩
 | str y=>
  obtain ⟨t,rfl⟩:=rx;obtain ⟨hy,e'⟩:y.length<=sizeLine/\k=((y.length:Int) != 0):=e;subst e';exact PySem.P.truthy_str (by omega) ⟨H,I.tok _,q⟩
 | byt y=>
  obtain ⟨t,rfl⟩:=rx;obtain ⟨hy,e'⟩:y.size<=sizeLine/\k=((y.size:Int) != 0):=e;subst e';exact W.truthy_bytes (by omega) ⟨H,I.tok _,q⟩
 | ref p=>
  cases rx;have e':(∃xs,bY X.K H p xs/\k=!xs.isEmpty)\/(∃xs,cZ X.K H p xs/\k=!xs.isEmpty)\/∃Td,H p=some (.dK Td)/\k=!Td.isEmpty:=e;rcases e' with ⟨xs,hx,e'⟩ | ⟨xs,hx,e'⟩ | ⟨Td,hx,e'⟩
  ·subst e';obtain ⟨S7,r,pl,hz⟩:=I.list hx;have hlen:=r.length;exact wpAny_truthy_list pl.isList (by simp only [Tz];omega) ⟨H,I.tok _,by rw [um r];exact q⟩
  ·subst e';obtain ⟨S7,r,pl,hz⟩:=I.tuple hx;have hlen:=r.length;exact truthy_tuple pl (by simp only [Tz];omega) ⟨H,I.tok _,by rw [um r];exact q⟩
  ·subst e';obtain ⟨hz,hS,vs,r,m⟩:Td.length<=sizeLine/\(p == V8)=false/\∃vs,KV Td vs/\s.heap.DictOf (vt X.prog X.w) p vs:=I.hok p _ hx;have hlen:Td.length=vs.length:=ac6 r;exact wpAny_truthy_dict hS m (by omega) ⟨H,I.tok _,by rw [Ce r];exact q⟩
 | _=>exact (show False from e).elim
theorem G1 (ha:PE X a ta) (he:∀whole,aaH a X.env whole=(do let v <-whole;W6 a.pos;holding [v] (truthy v))):
  PT X a (λσ H Q=>ta σ H λx H'=>∃k,FJ X.K x H' k/\Q k H'):=by intro S6 s σ H Q I h;exact isTrue_plain (bI (ha S6 s σ H _ I h) λv s1 ⟨x,H1,I1,r1,q1⟩=>Nf S6 s1 σ H1 x v Q I1 r1 q1) (he _)
theorem ur:cS X (WN .Add) (λx y H Q=>∃i j,x=.str i/\y=.str j/\i.length + j.length<=sizeLine/\Q (.str (i++j)) H):=by intro S6 s σ H x y v u Q I rx ry h;obtain ⟨i,j,rfl,rfl,hz,q⟩:=h;obtain ⟨t,rfl⟩:=rx;obtain ⟨t',rfl⟩:=ry;exact add_str (λt' tk=>⟨.str (i++j),H,I.tok _,⟨_,rfl⟩,q⟩) hz
theorem vals1 (r:Vals [x] us):∃u,us=[u]/\RelV x u:=by
 cases r with
 | cons r1 r2=>cases r2;exact ⟨_,rfl,r1⟩
theorem vals2 (r:Vals [x,y] us):∃u w',us=[u,w']/\RelV x u/\RelV y w':=by
 cases r with
 | cons r1 r2=>
  cases r2 with
  | cons r3 r4=>cases r4;exact ⟨_,_,rfl,r1,r3⟩
theorem DF (hc:X.calm=true):cJ X (.builtin "max") (λxs H Q=>∃i j,xs=[.int i,.int j]/\Q (.int (if j > i then j else i)) H):=by
 intro S6 s σ H xs us Q I r h;obtain ⟨i,j,rfl,q⟩:=h;obtain ⟨u,w',rfl,⟨t,rfl⟩,⟨t',rfl⟩⟩:=vals2 r;refine max_two_ints (I.ok.hd hc) λh' tk k=>⟨_,H,I.kept k,?_,q⟩;by_cases hj:j > i
 ·rw [if_pos hj,if_pos hj];exact ⟨_,rfl⟩
 ·rw [if_neg hj,if_neg hj];exact ⟨_,rfl⟩
theorem DE:cJ X (.type "int") (λxs H Q=>(∃i,xs=[.int i]/\Q (.int i) H)\/∃k,xs=[.bl k]/\Q (.int (if k then 1 else 0)) H):=by
 intro S6 s σ H xs us Q I r h;rcases h with ⟨i,rfl,q⟩ | ⟨k,rfl,q⟩
 ·obtain ⟨u,rfl,t,rfl⟩:=vals1 r;exact call_int_int ⟨.int i,H,I,⟨_,rfl⟩,q⟩
 ·obtain ⟨u,rfl,r1⟩:=vals1 r;cases r1;exact call_int_bool ⟨.int (if k then 1 else 0),H,I.tok _,⟨_,rfl⟩,q⟩
end
structure cY (k:Nat) (A:Um):Prop where
 hd:A.handled=none
 dp:A.depth + 3 * k + 5 < acC
 un:A.units + 16 * k + 200 < Vm
theorem cY.mono (r:cY k A) (h:j<=k):cY j A:=⟨r.hd,by have:=r.dp;omega,by have:=r.un;omega⟩
theorem cY.deeper {A:Um}(r:cY (k + 1) A) (env:Env):cY k (A.deeper env):=
 ⟨r.hd,by have:=r.dp;show A.depth + 1 + 3 * k + 5 < _;omega,by have:=r.un;show A.units + 3 + 16 * k + 200 < _;omega⟩
theorem cY.depth {A:Um}(r:cY k A):A.depth < acC:=by have:=r.dp;omega
theorem cY.units {A:Um}(r:cY k A):A.units + 64 < Vm:=by have:=r.un;omega
def CP:TA:=λ_ H Q=>Q [] H
def Oe (ta:TE) (tr:TA):TA:=λσ H Q=>ta σ H λx H1=>tr σ H1 λxs H2=>Q (x::xs) H2
section
variable {X:Cx}{e:Uo}{es:List Uo}{te:TE}{t:TA}{pos:Pos}
theorem gr:PA X [] CP:=λ_ _ _ _ H Q I h=>Calls.spliced_nil ⟨[],H,I,.nil,h⟩
theorem dM (ha:PE X e te) (hr:PA X es t) (hs:TF (e::es) X.env=(false,eval e X.env)::TF es X.env:=by rfl):PA X (e::es) (Oe te t):=by intro pos S6 s σ H Q I h;rw [hs];show TX _ _ (spliced ((false,eval e X.env)::U_ pos (TF es X.env))) _ _ s;refine Calls.spliced_cons (bI (ha S6 s σ H _ I h) λu s1 ⟨x,H1,I1,r1,q1⟩=>?_);exact bI (hr pos S6 s1 σ H1 _ I1 q1) λus s2 ⟨xs,H2,I2,r2,q2⟩=>⟨x::xs,H2,I2,.cons r1 r2,q2⟩
def Pw (t:TA):TE:=λσ H Q=>t σ H λxs H1=>xs.length<=sizeLine/\∀p,H1 p=none->Q (.ref p) (upd H1 p (.tup xs))
def Pk (t:TA):TE:=λσ H Q=>t σ H λxs H1=>xs.length<=sizeLine/\∀p,H1 p=none->Q (.ref p) (upd H1 p (.lst xs))
theorem MH {x1}(h:PA X es t):PE X (.Tuple es x1 pos) (Pw t):=by intro S6 s σ H Q I hq;refine wpAny_Tuple_spliced (bI (h pos S6 s σ H _ I hq) λus s1 ⟨xs,H1,I1,r,z,q⟩=>⟨by rw [<-r.length];exact z,?_⟩);have hf:H1 s1.heap.objs.size=none:=I1.hok.fresh (Tv _);refine ⟨.ref s1.heap.objs.size,upd H1 s1.heap.objs.size (.tup xs),I1.laid (t':=s1.toks) (λb u e=>Tn _ e) (Tv _) ?_,rfl,q _ hf⟩;exact ⟨z,us,r,⟨_,TH _ rfl,rfl,_,rfl⟩⟩
theorem MC (h:PA X es t):PE X (.List es pos) (Pk t):=by intro S6 s σ H Q I hq;refine wpAny_List_spliced (bI (h pos S6 s σ H _ I hq) λus s1 ⟨xs,H1,I1,r,z,q⟩=>⟨by rw [<-r.length];exact z,?_⟩);have hf:H1 s1.heap.objs.size=none:=I1.hok.fresh (Tv _);refine ⟨.ref s1.heap.objs.size,upd H1 s1.heap.objs.size (.lst xs),I1.laid (t':=s1.toks) (λb u e=>Tn _ e) (Tv _) ?_,rfl,q _ hf⟩;exact ⟨z,us,0,r,TH _ rfl⟩
end
abbrev Sp:=List V->Hp->VK->XK->Prop
abbrev sX:=List Env->Hp->Tj->XK->Ti->Tj->Prop
structure BA (P:TU) (w:Uk) (K:Tg) (mg:Str->Option Ti) (base:Vd) (A:Um) (outer:List Env) (s:Tj) (H:Hp):Prop where
 frames:A.frames=some outer
 mod:Mod K mg base
 bs:∀b o,base.get? b=some o->s.heap.get? b=some o/\H b=none
 bsz:base.objs.size<=s.heap.objs.size
 funs:s.heap.FunFrames base outer
 frf:∀b∈frs outer,H b=none
 hok:fW P w H s.heap
 bare:Zy s.gens
noncomputable def CE (outer:List Env) (P:TU) (w:Uk) (H:Hp) (s:Tj) (Q:VK) (u:Ti) (s':Tj):Prop:=
 ∃v H',s'.os=s.os/\Zy s'.gens/\Un (frs outer) [] H H' s.heap s'.heap/\fW P w H' s'.heap/\RelV v u/\Q v H'
noncomputable def CR (CX:sX) (outer:List Env) (P:TU) (w:Uk) (H:Hp) (s:Tj) (Q:VK) (E:XK) (r:abD) (s':Tj):Prop:=
 match r with
 | .ok (.ret u)=>CE outer P w H s Q u s'
 | .ok _=>False
 | .error e=>CX outer H s E e s'
structure fF (P:TU) (w:Uk) (K:Tg) (mg:Str->Option Ti) (base:Vd) (CX:sX) (k:Nat) (f:T3) (fd:Ud) (ps:List Str) (sp:Sp):Prop where
 len:∀vs H Q E,sp vs H Q E->vs.length=ps.length
 run:∀(A:Um) (outer:List Env) (s:Tj) (H:Hp) (args:Args) (us:List Ti) (vs:List V) (Q:VK) (E:XK),cY k A->BA P w K mg base A outer s H->ab4 s fd args (ps.zip us)->Vals vs us->sp vs H Q E->
  VH (T5 P w) A (.call (.ref f) args) (CR CX outer P w H s Q E) s
section
variable {X:Cx}{S6:List (T3×Obj)}{σ:St}{H:Hp}{s s':Tj}
theorem Inv.env0 (I:Inv X S6 σ H s):BA X.prog X.w X.K X.mg X.base X.A X.stack s H:=
 ⟨I.ok.frames,I.ok.mod,I.bs,T6 I.ok.bsz I.sz,I.stack,I.stkFree,I.hok,I.bare⟩
theorem Inv.after {Q:VK}(I:Inv X S6 σ H s) (h:CE X.stack X.prog X.w H s Q u s'):EP X S6 σ Q u s':=by obtain ⟨v,H',os,bare,un,hok,r,q⟩:=h;obtain ⟨hh,g,d,t,os'⟩:=s';obtain rfl:os'=s.os:=os;exact ⟨v,H',I.call (h':=hh) (g':=g) (d':=d) (t':=t) (ch:=[]) un hok bare (λb z=>absurd z (by simp)),r,q⟩
end
def II (sp:Sp) (dvs:List V) (E:XK) (t:TA):TE:=λσ H Q=>t σ H λvs H1=>sp (vs++dvs) H1 Q E
noncomputable def Binds (K:Tg) (fd:Ud) (ps:List Str) (ds:List Ti):Prop:=
 ∀(s:Tj) (us:List Ti),K.In s.heap->(us++ds).length=ps.length->ab4 s fd ⟨us,[]⟩ (ps.zip (us++ds))
theorem Binds.all {K:Tg}{fd:Ud}{ps:List Str}(h:∀us:List Ti,us.length=ps.length->aau fd ⟨us,[]⟩=pure (ps.zip us)):Binds K fd ps []:=λs us _ hl=>by rw [Wz] at hl ⊢;exact .of_eq (h us hl)
def Passes (CX:sX) (X:Cx) (E:XK):Prop:=∀(S6:List (T3×Obj)) (σ:St) (H:Hp) (s:Tj) (e:Ti) (s':Tj),Inv X S6 σ H s->CX X.stack H s E e s'->X.xe e s'
section
variable {X:Cx}{CX:sX}{k:Nat}{f C:T3}{fd:Ud}{ps:List Str}{sp:Sp}{dvs:List V}{ds:List Ti}{E:XK}{x m:Str}{p pos apos:Pos}{e o:Uo}{es:List Uo}{ta:TE}{t:TA}
theorem E5 {H:Hp}{Q:VK}(F:fF X.prog X.w X.K X.mg X.base CX k f fd ps sp) (hr:cY k X.A) (hb:Binds X.K fd ps ds) (hd:Vals dvs ds) (hx:Passes CX X E)
 (I:Inv X S6 σ H s) (r:Vals vs us) (h:sp (vs++dvs) H Q E):TX (T5 X.prog X.w) X.A (call (.ref f) us) (EP X S6 σ Q) X.xe s:=by
 have r2:Vals (vs++dvs) (us++ds):=r.append hd;have hl:(us++ds).length=ps.length:=by rw [<-r2.length];exact F.len _ _ _ _ h
 refine aav (WK (F.run X.A X.stack s H ⟨us,[]⟩ (us++ds) (vs++dvs) Q E hr I.env0 (hb s us I.kIn hl) r2 h) λr s' hq=>?_);cases r with
 | error e=>exact hx S6 σ H s e s' I hq
 | ok fl=>
  cases fl with
  | ret u=>exact I.after hq
  | next=>exact Xd hq
  | brk=>exact Xd hq
  | cont=>exact Xd hq
theorem vz (F:fF X.prog X.w X.K X.mg X.base CX k f fd ps sp) (hr:cY k X.A) (hg:Gl X x) (hm:X.mg x=some (.ref f)) (hk:U5 X.K (.ref f)=true) (hb:Binds X.K fd ps ds) (hd:Vals dvs ds) (hx:Passes CX X E)
  (ha:PA X (e::es) t) (hdb:(x == ("__debug__":Str))=false:=by decide) (he:TF (e::es) X.env=(false,eval e X.env)::TF es X.env:=by rfl) (hpl:(U_ pos (TF es X.env)).any (·.1)=false:=by rfl):
  PE X (.Call (.Name x p) (e::es) [] pos) (II sp dvs E t):=by intro S6 s σ H Q I h;refine Wf (A7 I hg hm ?_ hdb);refine aaZ (h₀:=X.base) I.ok.mod.kin hk (bI (ha pos S6 s σ H _ I h) λus s1 ⟨vs,H1,I1,r,q⟩=>⟨I1.kIn,?_⟩) he hpl;exact E5 F hr hb hd hx I1 r q
end
structure fG (N P:List Str) (sc:W5):Prop where
 kind:sc.kind=.function
 co:sc.isCoroutine=false
 gen:sc.isGenerator=false
 nd:N.Nodup
 pre:N.take P.length=P
 par:∀x∈P,sc.names.lookup x=some .local\/sc.names.lookup x=some .cell
 nofree:∀y∈sc.names,y.2≠.free
theorem v5 {kindOf:Str->Option VX}:∀{binds:List (Str×Ti)}{m:Str->Option Ti},(∀v,(x,v)∉binds)->adN kindOf binds m x=m x
 | [],_,_=>rfl
 | (n,v)::r,m,h=>by
  unfold adN;rw [v5 λw hw=>h w (Tq _ hw)];split
  ·have:x≠n:=by rintro rfl;exact h v Tu
   simp [this]
  ·rfl
theorem vY {kindOf:Str->Option VX}:∀{binds:List (Str×Ti)}{m:Str->Option Ti},(∀v,(x,v)∉binds)->adO kindOf binds m x=m x
 | [],_,_=>rfl
 | (n,v)::r,m,h=>by
  unfold adO;rw [vY λw hw=>h w (Tq _ hw)];split
  ·rfl
  ·have:x≠n:=by rintro rfl;exact h v Tu
   simp [this]
theorem vZ {kindOf:Str->Option VX}{x:Str}{v:Ti}:∀{P:List Str}{vs:List Ti}{i:Nat}{m:Str->Option Ti},P.Nodup->P[i]?=some x->vs[i]?=some v->kindOf x=some .local->
  adN kindOf (P.zip vs) m x=some v
 | [],_,_,_,_,h,_,_=>by simp at h
 | _::_,[],_,_,_,_,h,_=>by simp at h
 | p::P,w::vs,0,m,nd,h1,h2,hk=>by simp at h1 h2;subst h1;subst h2;show adN kindOf ((p,w)::P.zip vs) m p=_;unfold adN;rw [v5 λv hv=>(VI.mp nd).1 (Z8 hv).1,if_pos hk];simp
 | p::P,w::vs,i + 1,m,nd,h1,h2,hk=>by show adN kindOf ((p,w)::P.zip vs) m x=_;unfold adN;exact vZ (i:=i) (VI.mp nd).2 (by simpa using h1) (by simpa using h2) hk
theorem vX {kindOf:Str->Option VX}{x:Str}{v:Ti}:∀{P:List Str}{vs:List Ti}{i:Nat}{m:Str->Option Ti},P.Nodup->P[i]?=some x->vs[i]?=some v->kindOf x≠some .local->
  adO kindOf (P.zip vs) m x=some v
 | [],_,_,_,_,h,_,_=>by simp at h
 | _::_,[],_,_,_,_,h,_=>by simp at h
 | p::P,w::vs,0,m,nd,h1,h2,hk=>by simp at h1 h2;subst h1;subst h2;show adO kindOf ((p,w)::P.zip vs) m p=_;unfold adO;rw [vY λv hv=>(VI.mp nd).1 (Z8 hv).1,if_neg hk];simp
 | p::P,w::vs,i + 1,m,nd,h1,h2,hk=>by show adO kindOf ((p,w)::P.zip vs) m x=_;unfold adO;exact vX (i:=i) (VI.mp nd).2 (by simpa using h1) (by simpa using h2) hk
def start (N:List Str) (vs:List V):St:=vs.map some++Vj (N.length - vs.length) none
noncomputable def pg (CX:sX) (P:TU) (w:Uk) (K:Tg) (mg:Str->Option Ti) (base:Vd) (N:List Str) (S_:Str) (S5:W5) (f:T3) (cd:Ti) (A:Um) (outer:List Env) (s:Tj) (H:Hp) (E:XK):Cx where
 prog:=P
 w:=w
 K:=K
 mg:=mg
 base:=base
 A:=A.deeper (Ze S_ S5 s.heap.objs.size f cd)
 N:=N
 s₀:=s
 H₀:=H
 env:=Ze S_ S5 s.heap.objs.size f cd
 outer:=outer
 stack:=Ze S_ S5 s.heap.objs.size f cd::outer
 ex:=[]
 calm:=true
 fn:=λ_=>true
 pn:=[]
 xe:=λe s'=>TX (T5 P w) (A.deeper (Ze S_ S5 s.heap.objs.size f cd)) (leaving (Ze S_ S5 s.heap.objs.size f cd) e) (λ_ s''=>CX outer H s E e s'') (λe' s''=>CX outer H s E e' s'') s'
theorem yO {sc:W5}(h:sc.names.lookup x=some .cell):∃c,(UI n sc.names []).lookup x=some c:=by have q:=ZW sc.names n [] (.inl h);exact U1.mp q
theorem Ec {CX:sX}{P:TU}{w:Uk}{K:Tg}{mg:Str->Option Ti}{base:Vd}{N ps:List Str}{S_:Str}{S5:W5}{f:T3}{cd:Ti}{A:Um}{outer:List Env}{s s1:Tj}{H:Hp}{E:XK}{us:List Ti}{vs:List V}
  (S:fG N ps S5) (hd:A.handled=none) (e0:BA P w K mg base A outer s H) (hl:vs.length=ps.length) (r:Vals vs us)
  (x:InCallC s s.heap.objs.size (adN (Ze S_ S5 s.heap.objs.size f cd).kindOf (ps.zip us) λ_=>none) (UI (s.heap.objs.size + 1) S5.names []) (adO (Ze S_ S5 s.heap.objs.size f cd).kindOf (ps.zip us) λ_=>none) s1):
  Inv (pg CX P w K mg base N S_ S5 f cd A outer s H E) [] (start N vs) H s1:=by
 have hpl:ps.length<=N.length:=by have:=congrArg Vo S.pre;rw [U6] at this;omega
 obtain ⟨h1,tk,rfl,hk⟩:=x.done;have noA:∀b:T3,b∉(pg CX P w K mg base N S_ S5 f cd A outer s H E).ex:=λb z=>absurd (show b∈([]:List T3) from z) (by simp);refine ⟨⟨e0.mod,S.kind,rfl,rfl,Tv _,λy z c h1 h2=>?_,λy hy=>?_,λy c _ h=>?_,λ_=>hd,Around.frames_deeper e0.frames,.inr ⟨rfl,rfl⟩,λb z=>absurd z (noA b),e0.bs,e0.bsz,λb _ _=>noA b,λb z=>absurd z (noA b),e0.funs,e0.frf⟩,
  rfl,e0.bare,Un.kept hk,⟨_,x.toInCall.ns,λi y v h1 h2 h3=>?_⟩,λy c h=>⟨_,x.cell y c h⟩,e0.hok.fresh (Tv _),λy c h=>?_,λp hp=>absurd (show p∈([]:List (T3×Obj)) from hp) (by simp),e0.hok.kept hk,?_⟩
 ·exact name_of_addr x.apart (WO h1) (WO h2)
 ·have hy:S5.names.lookup y=some .cell\/S5.names.lookup y=some .free:=hy;rcases hy with hy | hy
  ·exact yO hy
  ·exact absurd rfl (S.nofree _ (WO hy))
 ·exact Zc (x.above y c (WO h))
 ·have hi:i < vs.length:=by
   unfold start at h2;by_cases hi:i < vs.length
   ·exact hi
   ·rw [Va (by simpa using hi)] at h2;rw [XG] at h2;split at h2 <;> cases h2
  have ha:vs[i]?=some v:=by
   unfold start at h2;rw [VD (by simpa using hi),Uh] at h2;cases e:vs[i]? with
   | none=>rw [e] at h2;cases h2
   | some a=>rw [e] at h2;cases h2;rfl
  obtain ⟨u,hu,rv⟩:=r.get ha;have hp:ps[i]?=some y:=by rw [<-S.pre,List.getElem?_take_of_lt (by omega)];exact h1
  have ndP:ps.Nodup:=by rw [<-S.pre];exact S.nd.sublist (X8 _ _)
  refine ⟨u,rv,?_⟩;rcases S.par y (UJ hp) with k | k
  ·exact .inl ⟨k,vZ ndP hp hu k⟩
  ·obtain ⟨c,e⟩:=yO (n:=s.heap.objs.size + 1) k;refine .inr ⟨.inl k,c,e,?_⟩;have q:=x.cell y c e;rw [vX ndP hp hu (by show S5.names.lookup y≠_;rw [k];decide)] at q;exact q
 ·exact e0.hok.fresh (Zc (x.above y c (WO h)))
 ·unfold start;show _=N.length;rw [TQ,Tp,VJ];omega
theorem Ia {K:Tg}{mg:Str->Option Ti}{dV kV doc pm cdv ct oc:Ti}
 {N ps:List Str}{sp:Sp}(lk:K.lookup f=some ⟨oc,od,.func (UE name S_ params body S5 dV kV doc pm an cdv ct),osl⟩) (hcd:Wn K cdv S_=true) (S:fG N ps S5)
 (len:∀vs H Q E,sp vs H Q E->vs.length=ps.length)
 (hbody:∀(A:Um) (outer:List Env) (s:Tj) (H:Hp) (vs:List V) (Q:VK) (E:XK),cY k (A.deeper (Ze S_ S5 s.heap.objs.size f cdv))->sp vs H Q E->
 ∃t,kc (pg CX P w K mg base N S_ S5 f cdv A outer s H E) body t/\t {nx:=λ_ H'=>Q .non H',rt:=Q} (start N vs) H):
  fF P w K mg base CX (k + 1) f (UE name S_ params body S5 dV kV doc pm an cdv ct) ps sp:=by
 refine ⟨len,λA outer s H args us vs Q E hr e0 hb r Q6=>?_⟩;have hl:=len _ _ _ _ Q6;have KX:K.In s.heap:=e0.mod.kin.keeps λb o e=>(e0.bs b o e).1;have lim:s.heap.NoLimit:=e0.mod.nolimit.keeps λb o e=>(e0.bs b o e).1;have hkind:∀y∈ps.zip us,S5.names.lookup y.1=some .local\/(S5.names.lookup y.1=some .cell/\((UI (s.heap.objs.size + 1) S5.names []).lookup y.1).isSome=true):=λ⟨n,v⟩ hy=>by
  rcases S.par n (Z8 hy).1 with q | q
  ·exact .inl q
  ·exact .inr ⟨q,ZW _ _ _ (.inl q)⟩
 refine codeAny_call_function hr.depth (KX _ _ lk) rfl S.co S.gen rfl (W.codeRec_of KX hcd) (hb _ _ _ _ ?_);refine wpAny_newFunctionEnv_cells S.kind hkind λenv he s1 x=>?_;subst he;refine ⟨lim.keeps x.toInCall.keep,codeAny_func ?_⟩;obtain ⟨t,ht,hq⟩:=hbody A outer s H vs Q E (hr.deeper _) Q6;have I:Inv (pg CX P w K mg base N S_ S5 f cdv A outer s H E) [] (start N vs) H s1:=Ec S hr.hd e0 hl r x;refine UD (ht [] s1 (start N vs) H _ I hq) (λfl s' hs=>?_) λe s' hs=>hs;have fin:∀{σ':St}{H':Hp}{v:V}{u:Ti},Inv (pg CX P w K mg base N S_ S5 f cdv A outer s H E) [] σ' H' s'->RelV v u->Q v H'->CE outer P w H s Q u s':=
  fun {σ' H' v u} J rv q=>⟨v,H',J.os,J.bare,J.base,J.hok,rv,q⟩
 cases fl with
 | ret u=>
  obtain ⟨v,σ',H',J,rv,q⟩:=hs;exact fin J rv q
 | next=>
  obtain ⟨σ',H',J,q⟩:=hs;exact fin (v:=V.non) (u:=Ux) J rfl q
 | brk=>
  obtain ⟨_,_,_,q⟩:=hs;exact Xd q
 | cont=>
  obtain ⟨_,_,_,q⟩:=hs;exact Xd q
section
variable {X:Cx}{x:Str}{p pos:Pos}{e:Uo}{es:List Uo}{t:TA}{id T:String}{r:List V->Hp->VK->Prop}
def OH (r:List V->Hp->VK->Prop) (t:TA):TE:=λσ H Q=>t σ H λvs H1=>r vs H1 Q
theorem sL (hc:cJ X (.builtin id) r) (hg:Gl X x) (hm:X.mg x=none) (hv:UP x=some (.builtin id)) (ha:PA X (e::es) t) (hn:x≠"__name__":=by decide) (hdb:(x == ("__debug__":Str))=false:=by decide)
  (he:TF (e::es) X.env=(false,eval e X.env)::TF es X.env:=by rfl) (hpl:(U_ pos (TF es X.env)).any (·.1)=false:=by rfl):PE X (.Call (.Name x p) (e::es) [] pos) (OH r t):=by intro S6 s σ H Q I h;refine Wf (jS I hg hm hv ?_ hn hdb);exact abE (bI (ha pos S6 s σ H _ I h) λus s1 ⟨vs,H1,I1,r1,q1⟩=>hc S6 s1 σ H1 vs us Q I1 r1 q1) he hpl
theorem lU (hc:cJ X (.type T) r) (hg:Gl X x) (hm:X.mg x=none) (hv:UP x=some (.type T)) (ha:PA X (e::es) t) (hn:x≠"__name__":=by decide) (hdb:(x == ("__debug__":Str))=false:=by decide)
  (he:TF (e::es) X.env=(false,eval e X.env)::TF es X.env:=by rfl) (hpl:(U_ pos (TF es X.env)).any (·.1)=false:=by rfl):PE X (.Call (.Name x p) (e::es) [] pos) (OH r t):=by intro S6 s σ H Q I h;refine Wf (jS I hg hm hv ?_ hn hdb);exact W8 (bI (ha pos S6 s σ H _ I h) λus s1 ⟨vs,H1,I1,r1,q1⟩=>hc S6 s1 σ H1 vs us Q I1 r1 q1) he hpl
end
end L2
namespace HT
open PySem PyProof.Rows
theorem F3 (A:Um) (s:Tj) (a:Int) (t:Tok) (c:Int) (u:Tok):∃e,VN A s (.int a t) (.int c u) e/\(e=true↔a=c):=
 ⟨(a == c),aa0 a t c u,by simp⟩
section
open PySem.SeqAt
open PySem.AutoSeq1 (wpAny_loadPart')
open PySem.MeetsSeq PySem.MeetsSeq2 PySem.MeetsSeq3
end
section
variable {prog:TU}{w:Uk}{A:Um}{E:Ti->Tj->Prop}{s:Tj}
theorem Jd {vs ws:List Ti}{Q:Ti->Tj->Prop}(ht:adx s.heap t vs.toArray) (hb:adx s.heap b ws.toArray) (hv:vs≠[])
 (h1:ws=[]->Q (.ref t) s) (h2:ws≠[]->Q (.ref s.heap.objs.size) {s with heap:=s.heap.push {cls:=.type "tuple",data:=.seq (vs++ws).toArray}})
 (hsz:vs.length + ws.length<=sizeLine):TX (T5 prog w) A (WN .Add (.ref t) (.ref b)) Q E s:=by
 obtain ⟨⟨cls,dd,data,sl⟩,ho,hc,n,hd⟩:=id ht;obtain ⟨⟨cls2,dd2,data2,sl2⟩,ho2,hc2,n2,hd2⟩:=id hb;simp only at hc hd hc2 hd2;subst hc hd hc2 hd2;have e:vs.toArray++ws.toArray=(vs++ws).toArray:=by simp
 by_cases hw:ws=[]
 ·exact Z9 ⟨_,ho,rfl⟩ ⟨_,ho2,rfl⟩ ZQ aa1 X3 XH (XA _ _)
   (tuple_addW1 t b vs.toArray ws.toArray n n2 dd dd2 sl sl2 (by simpa using hv) (by simp [hw])) ⟨ho,ho2,h1 hw⟩
 ·refine Z9 ⟨_,ho,rfl⟩ ⟨_,ho2,rfl⟩ ZQ aa1 X3 XH (XA _ _)
   (tuple_addW2 t b vs.toArray ws.toArray n n2 dd dd2 sl sl2 (by simpa using hv) (by simpa using hw) (by rw [Tz,Tz];exact hsz)) ⟨ho,ho2,?_⟩
  rw [e];exact h2 hw
noncomputable def bJ (n d:Nat):Option Int->Nat
 | none=>d
 | some v=>if v < 0 then (v + (n:Int)).toNat else min v.toNat n
theorem Hq (n d:Nat):bJ n d none=d:=rfl
theorem KG (n d k:Nat):bJ n d (some (k:Int))=min k n:=by show (if (k:Int) < 0 then ((k:Int) + (n:Int)).toNat else min (k:Int).toNat n)=min k n;rw [if_neg (by omega),U8]
theorem M6 (n d:Nat) (hd:d<=n) (o:Option Int):bJ n d o<=n:=by
 cases o with
 | none=>exact hd
 | some v=>
  show (if v < 0 then (v + (n:Int)).toNat else min v.toNat n)<=n;by_cases hv:v < 0
  ·rw [if_pos hv];omega
  ·rw [if_neg hv];exact Nat.min_le_right _ _
theorem AQ (v:Int) (n d:Nat):(if v < 0 then max (v + (n:Int)) 0 else min v (n:Int))=((bJ n d (some v):Nat):Int):=by
 show (if v < 0 then max (v + (n:Int)) 0 else min v (n:Int))=(((if v < 0 then (v + (n:Int)).toNat else min v.toNat n):Nat):Int);by_cases hv:v < 0
 ·simp only [if_pos hv];omega
 ·simp only [if_neg hv];omega
theorem BO (lo hi:Option Int) (n:Nat):Xm lo hi 1 (n:Int)=(((bJ n 0 lo:Nat):Int),((bJ n n hi:Nat):Int)):=by
 have h1:¬((1:Int) < 0):=by omega
 unfold Xm;simp only [h1,if_false];refine Prod.ext ?_ ?_
 ·cases lo with
  | none=>rfl
  | some v=>exact AQ v n 0
 ·cases hi with
  | none=>rfl
  | some v=>exact AQ v n n
theorem CA (i j:Nat):Wo (i:Int) (j:Int) 1=j - i:=by
 unfold Wo;have h1:(1:Int) > 0:=by omega
 simp only [h1,if_true,Int.ediv_one];split <;> omega
theorem uG {Q:Option Int->Tj->Prop}(p:aa2 v o) (h:Q o s):TX (T5 prog w) A (abZ v) Q E s:=by
 cases p with
 | none=>exact acD h
 | int i t=>exact slicePart_int h
theorem lq {sl:T3}{vl vu:Ti}{lo hi:Option Int}{n:Nat}{Q:Int×Int×Nat->Tj->Prop}(hs:s.heap.IsSliceOf sl vl vu .none) (pl:aa2 vl lo) (pu:aa2 vu hi)
  (h:Q (((bJ n 0 lo:Nat):Int),1,bJ n n hi - bJ n 0 lo) s):TX (T5 prog w) A (Zb (.ref sl) (pure (n:Int))) Q E s:=by obtain ⟨os,hos,hcs,hds⟩:=id hs;unfold Zb acE;refine Tf (Tf (aaP hos hds (x:=vl) rfl (Tf (aaP hos hds (x:=vu) rfl (Tf (aaP hos hds (x:=.none) rfl (Th ?_)))))));refine Tf (acD ?_);show TX _ _ (if ((1:Int) == 0)=true then _ else _) _ _ s;rw [if_neg (by decide)];refine Tf (uG pl (Tf (uG pu (Tf (Th ?_)))));show TX _ _ (match Xm lo hi 1 (n:Int) with | (lo,hi)=>pure (lo,(1:Int),Wo lo hi 1)) _ _ s;rw [BO lo hi n];show TX _ _ (pure (((bJ n 0 lo:Nat):Int),(1:Int),Wo ((bJ n 0 lo:Nat):Int) ((bJ n n hi:Nat):Int) 1)) _ _ s;rw [CA];exact Th h
theorem GY (xs:Array Ti) (i k:Nat):((Tw k).filterMap λ(m:Nat)=>xs[((i:Int) + (m:Int) * 1).toNat]?).toArray=((xs.toList.drop i).take k).toArray:=by
 have e:(λ(m:Nat)=>xs[((i:Int) + (m:Int) * 1).toNat]?)=λm=>xs[i + m]?:=by
  funext m;have:((i:Int) + (m:Int) * 1).toNat=i + m:=by omega
  rw [this]
 rw [e];have:=pick_run xs i k;rw [aa3] at this;have e2:((λx=>xs[x]?) ∘ λx=>i + x)=λm=>xs[i + m]?:=rfl;rw [e2] at this;rw [this]
theorem qM {t sl:T3}{items:Array Ti}{vl vu:Ti}{lo hi:Option Int}{Q:Ti->Tj->Prop}(ht:adx s.heap t items) (hs:s.heap.IsSliceOf sl vl vu .none) (pl:aa2 vl lo) (pu:aa2 vu hi)
  (hw:¬(bJ items.size 0 lo=0/\bJ items.size items.size hi=items.size))
  (h:Q (.ref s.heap.objs.size) {s with heap:=s.heap.push {cls:=.type "tuple",data:=.seq ((items.toList.drop (bJ items.size 0 lo)).take (bJ items.size items.size hi - bJ items.size 0 lo)).toArray}})
  (hsz:items.size<=sizeLine):TX (T5 prog w) A (abg (.ref t) (.ref sl)) Q E s:=by
 have QU:sizeOk (.seq ((items.toList.drop (bJ items.size 0 lo)).take (bJ items.size items.size hi - bJ items.size 0 lo)).toArray):=by show ((items.toList.drop (bJ items.size 0 lo)).take (bJ items.size items.size hi - bJ items.size 0 lo)).toArray.size<=sizeLine;rw [Tz,U6,VQ,TY];omega
 have hj:bJ items.size items.size hi<=items.size:=M6 _ _ (Tv _) hi;obtain ⟨os,hos,hcs,hds⟩:=id hs;have Rz:s.TypeIs (.ref sl) "slice":=⟨os,hos,hcs⟩;unfold abg
 try with_reducible refine Ul ?_
 first | refine Tf (Th ?_) | skip
 refine Tf (abh ht.typeIs (by decide) ?_);refine Tf (UT (name:=W9 "__getitem__") ht.typeIs UN
  (Uy UN ht.typeIs aaQ ?_ (aa4 _ _)))
 show TX _ _ (Xl (.ref t) >>= _) _ _ s;refine Tf (adb ht ?_);refine Tf (Ys Rz ?_);rw [if_pos (by decide)];refine Tf (lq hs pl pu ?_);have hno:¬((((bJ items.size 0 lo:Nat):Int) == 0 && (1:Int) == 1 && (bJ items.size items.size hi - bJ items.size 0 lo) == items.size)=true):=by intro q;rw [Tt,Tt] at q;have q1:((bJ items.size 0 lo:Nat):Int)=0:=eq_of_beq q.1.1;have q2:bJ items.size items.size hi - bJ items.size 0 lo=items.size:=eq_of_beq q.2;exact hw ⟨by omega,by omega⟩
 show TX _ _ (if (((bJ items.size 0 lo:Nat):Int) == 0 && (1:Int) == 1 && (bJ items.size items.size hi - bJ items.size 0 lo) == items.size)=true then _ else _) _ _ s;rw [if_neg hno,GY]
 first
  | exact Tf (m:=WA _) (Ui (Th ⟨_,rfl,Th h⟩) QU)
  | exact Tf (m:=WA _) (Ui (Tf (Th (Th ⟨_,rfl,Th h⟩))) QU)
  | exact Tf (Tf (m:=WA _) (Ui (Th (Th ⟨_,rfl,Th h⟩)) QU))
  | exact Tf (Tf (m:=WA _) (Ui (Th ⟨_,rfl,Th h⟩) QU))
end
end HT
namespace L2
open PySem PySem.Spec PyProof.Rows
abbrev TO:=St->Hp->(Option Int->Hp->Prop)->Prop
noncomputable def PO (X:Cx) (e:Option Uo) (t:TO):Prop:=
 ∀(S6:List (T3×Obj)) (s:Tj) (σ:St) (H:Hp) (Q:Option Int->Hp->Prop),Inv X S6 σ H s->t σ H Q->
  TX (T5 X.prog X.w) X.A (evalPart e X.env) (λu s'=>∃o H',Inv X S6 σ H' s'/\aa2 u o/\Q o H') X.xe s
def KS:TO:=λ_ H Q=>Q none H
def Oi (t:TE):TO:=λσ H Q=>t σ H λx H1=>∃i,x=.int i/\Q (some i) H1
theorem intsAre_of {ns:List Int}:∀{us:List Ti},Vals (ns.map V.int) us->W_ us ns:=by
 induction ns with
 | nil=>intro us r;rw [Z_] at r;cases r;exact .nil
 | cons n ns ih=>
  intro us r;rw [TV] at r;cases r with
  | cons r1 r2=>
   obtain ⟨t,e⟩:=r1;subst e;exact .cons n t (ih r2)
section
variable {X:Cx}{e:Uo}{te:TE}{lo hi:Option Uo}{tl th:TO}{pos p2:Pos}
theorem Kd:PO X none KS:=by intro S6 s σ H Q I h;rw [ade];exact Th ⟨none,H,I,.none,h⟩
theorem Ke (h:PE X e te):PO X (some e) (Oi te):=by intro S6 s σ H Q I hw;rw [evalPart_some];refine bI (h S6 s σ H _ I hw) λu s1 ⟨x,H1,I1,r1,q1⟩=>?_;obtain ⟨i,rfl,q⟩:=q1;obtain ⟨t,rfl⟩:=r1;exact ⟨some i,H1,I1,.int i t,q⟩
noncomputable def qX (X:Cx) (r:V->Option Int->Option Int->Hp->VK->Prop):Prop:=
 ∀(S6:List (T3×Obj)) (s:Tj) (σ:St) (H:Hp) (x:V) (v vl vu:Ti) (lo hi:Option Int) (sl:T3) (Q:VK),Inv X S6 σ H s->RelV x v->s.heap.IsSliceOf sl vl vu .none->aa2 vl lo->aa2 vu hi->r x lo hi H Q->
  ∃T id,typeLookup (.type T) "__getitem__"=pure (some (.builtin id))/\s.TypeIs v T/\TX (T5 X.prog X.w) X.A (abg v (.ref sl)) (EP X S6 σ Q) X.xe s
theorem qX.or {r r':V->Option Int->Option Int->Hp->VK->Prop}(h:qX X r) (h':qX X r'):qX X (λx lo hi H Q=>r x lo hi H Q\/r' x lo hi H Q):=by
 intro S6 s σ H x v vl vu lo hi sl Q I rx hs pl pu q;rcases q with q | q
 ·exact h S6 s σ H x v vl vu lo hi sl Q I rx hs pl pu q
 ·exact h' S6 s σ H x v vl vu lo hi sl Q I rx hs pl pu q
def P4 (r:V->Option Int->Option Int->Hp->VK->Prop) (te:TE) (tl th:TO):TE:=λσ H Q=>te σ H λx H1=>tl σ H1 λl H2=>th σ H2 λu H3=>r x l u H3 Q
theorem GV {r:V->Option Int->Option Int->Hp->VK->Prop}(hr:qX X r) (he:PE X e te) (hl:PO X lo tl) (hu:PO X hi th):PE X (.Subscript e (.Slice lo hi none p2) pos) (P4 r te tl th):=by intro S6 s σ H Q I h;refine Subscript_ (bI (he S6 s σ H _ I h) λv s1 ⟨x,H1,I1,r1,q1⟩=>?_);refine wpAny_Slice (bI (hl S6 s1 σ H1 _ I1 q1) λvl s2 ⟨l,H2,I2,pl,q2⟩=>bI (hu S6 s2 σ H2 _ I2 q2) λvu s3 ⟨u,H3,I3,pu,q3⟩=>?_);rw [ade];refine Th ?_;have I4:Inv X S6 σ H3 {s3 with heap:=s3.heap.push {cls:=.type "slice",data:=.fields #[vl,vu,.none]}}:=I3.kept (t':=s3.toks) λb ob q=>Tn _ q;obtain ⟨T,id,hT,ht,hg⟩:=hr S6 {s3 with heap:=s3.heap.push {cls:=.type "slice",data:=.fields #[vl,vu,.none]}} σ H3 x v vl vu l u s3.heap.objs.size Q I4 r1 (ad_ ..) pl pu q3;show TX (T5 X.prog X.w) X.A (adf e (.Slice lo hi none p2) v (.ref s3.heap.objs.size)) (EP X S6 σ Q) X.xe {s3 with heap:=s3.heap.push {cls:=.type "slice",data:=.fields #[vl,vu,.none]}};exact tail_any (ops:=[.ref s3.heap.objs.size,v]) ht hT hg (by with_unfolding_all rfl)
def mj (xs:List V) (lo hi:Option Int):List V:=(xs.drop (HT.bJ xs.length 0 lo)).take (HT.bJ xs.length xs.length hi - HT.bJ xs.length 0 lo)
theorem q_ (xs:List V) (lo hi:Option Int):(mj xs lo hi).length<=xs.length:=by unfold mj;rw [U6,VQ];omega
noncomputable def O8 (K:Tg):V->Option Int->Option Int->Hp->VK->Prop:=λx lo hi H Q=>∃a xs,x=.ref a/\cZ K H a xs/\
 ¬(HT.bJ xs.length 0 lo=0/\HT.bJ xs.length xs.length hi=xs.length)/\∀p,H p=none->Q (.ref p) (upd H p (.tup (mj xs lo hi)))
theorem M8:qX X (O8 X.K):=by
 intro S6 s σ H x v vl vu lo hi sl Q I rx hs pl pu h;obtain ⟨a,xs,rfl,hx,hw,q⟩:=h;cases rx;obtain ⟨S7,r,ht,hz⟩:=I.tuple hx;have hlen:S7.toArray.size=xs.length:=by rw [Tz];exact r.length.symm
 refine ⟨"tuple",_,UN.lookup,ht.typeIs,?_⟩;refine HT.qM ht hs pl pu (by rw [hlen];exact hw) ?_ (by rw [hlen];exact hz);rw [hlen];refine ⟨.ref s.heap.objs.size,_,I.laid (t':=s.toks) (o:=.tup (mj xs lo hi)) (λb ob q=>Tn _ q) (Tv _) ?_,rfl,q _ (I.hok.fresh (Tv _))⟩;exact ⟨T6 (q_ xs lo hi) hz,_,(r.drop (HT.bJ xs.length 0 lo)).take (HT.bJ xs.length xs.length hi - HT.bJ xs.length 0 lo),adz _ _⟩
noncomputable def N3 (K:Tg):R2:=λx y H Q=>∃a b xs ys,x=.ref a/\y=.ref b/\cZ K H a xs/\cZ K H b ys/\xs≠[]/\xs.length + ys.length<=sizeLine/\
 (ys=[]->Q (.ref a) H)/\(ys≠[]->∀p,H p=none->Q (.ref p) (upd H p (.tup (xs++ys))))
theorem Vals.nil_iff (r:Vals xs us):us=[]↔xs=[]:=by
 cases r with
 | nil=>simp
 | cons _ _=>simp
theorem JQ:cS X (WN .Add) (N3 X.K):=by intro S6 s σ H x y v u Q I rx ry h;obtain ⟨a,b,xs,ys,rfl,rfl,ha,hb,hx,hz,q1,q2⟩:=h;cases rx;cases ry;obtain ⟨S7,r1,p1,_⟩:=I.tuple ha;obtain ⟨its2,r2,p2,_⟩:=I.tuple hb;refine HT.Jd p1 p2 (λz=>hx (r1.nil_iff.mp z)) (λz=>⟨.ref a,H,I,rfl,q1 (r2.nil_iff.mp z)⟩) (λz=>?_) (by rw [<-r1.length,<-r2.length];exact hz);refine ⟨.ref s.heap.objs.size,_,I.laid (t':=s.toks) (o:=.tup (xs++ys)) (λb ob q=>Tn _ q) (Tv _) ?_,rfl,q2 (λw=>z (r2.nil_iff.mpr w)) _ (I.hok.fresh (Tv _))⟩;exact ⟨by rw [TQ];exact hz,_,r1.append r2,adz _ _⟩
end
def zh (n:Nat) (i:Int):Option Nat:=if 0<=i then (if i < n then some i.toNat else none) else if -(n:Int)<=i then some (i + n).toNat else none
def lM {α:Type}(xs:List α) (i:Int):Option α:=(zh xs.length i).bind λj=>xs[j]?
theorem Jx (h:zh n i=some j):aa5 i n=some j/\j < n/\-(n:Int)<=i/\i < n:=by
 unfold zh at h;by_cases h0:0<=i
 ·rw [if_pos h0] at h;by_cases h1:i < n
  ·rw [if_pos h1] at h;have e:i.toNat=j:=U3 h;exact ⟨by rw [seqIndex_of h0 h1,e],by omega,by omega,h1⟩
  ·rw [if_neg h1] at h;cases h
 ·rw [if_neg h0] at h;by_cases h1:-(n:Int)<=i
  ·rw [if_pos h1] at h;have e:(i + n).toNat=j:=U3 h;exact ⟨by rw [seqIndex_neg (by omega) h1,e],by omega,h1,by omega⟩
  ·rw [if_neg h1] at h;cases h
theorem uU {α:Type}{xs:List α}{i:Int}{v:α}(h:lM xs i=some v):∃j,aa5 i xs.length=some j/\xs[j]?=some v/\j < xs.length/\-(xs.length:Int)<=i/\i < xs.length:=by
 unfold lM at h;cases e:zh xs.length i with
 | none=>rw [e] at h;cases h
 | some j=>
  rw [e] at h;obtain ⟨h1,h2,h3,h4⟩:=Jx e;exact ⟨j,h1,h,h2,h3,h4⟩
def qm (b:Uo):Prop:=∀o i,subscripted b false o i=operate [o,i] (abg o i)
noncomputable def oU (X:Cx) (r:R2):Prop:=
 ∀(value slice:Uo) (S6:List (T3×Obj)) (s:Tj) (σ:St) (H:Hp) (x y:V) (v u:Ti) (Q:VK),Inv X S6 σ H s->RelV x v->RelV y u->r x y H Q->
  subscripted slice false v u=operate [v,u] (abg v u)->TX (T5 X.prog X.w) X.A (adf value slice v u) (EP X S6 σ Q) X.xe s
noncomputable def Pz (X:Cx) (id:String) (r:V->List V->Hp->VK->Prop):Prop:=
 ∀(S6:List (T3×Obj)) (s:Tj) (σ:St) (H:Hp) (x:V) (xs:List V) (v:Ti) (us:List Ti) (Q:VK),Inv X S6 σ H s->RelV x v->Vals xs us->r x xs H Q->
  TX (T5 X.prog X.w) X.A (call (.builtin id) (v::us)) (EP X S6 σ Q) X.xe s
section
variable {X:Cx}{a b:Uo}{ta tb:TE}{pos:Pos}
theorem oU.or {r r':R2}(h:oU X r) (h':oU X r'):oU X (λx y H Q=>r x y H Q\/r' x y H Q):=by
 intro value slice S6 s σ H x y v u Q I rx ry q hs;rcases q with q | q
 ·exact h value slice S6 s σ H x y v u Q I rx ry q hs
 ·exact h' value slice S6 s σ H x y v u Q I rx ry q hs
theorem NU (hr:oU X r) (ha:PE X a ta) (hb:PE X b tb) (hs:qm b):PE X (.Subscript a b pos) (Fg r ta tb):=by intro S6 s σ H Q I h;exact Subscript_ (FO ha hb I h λv u s2 x y H2 I2 rx ry q=>hr a b S6 s2 σ H2 x y v u Q I2 rx ry q (hs _ _))
def MX (K:Tg):R2:=λx y H Q=>∃p xs i v,x=.ref p/\y=.int i/\bY K H p xs/\lM xs i=some v/\Q v H
def MZ (K:Tg):R2:=λx y H Q=>∃p xs i v,x=.ref p/\y=.int i/\cZ K H p xs/\lM xs i=some v/\Q v H
def MY:R2:=λx y H Q=>∃z i c,x=.str z/\y=.int i/\z.length<=sizeLine/\lM z.cps.toList i=some c/\Q (.str ⟨#[c]⟩) H
theorem Jy:oU X (MX X.K):=by
 intro value slice S6 s σ H x y v u Q I rx ry h hs;obtain ⟨p,xs,i,z,rfl,rfl,hq,he,q⟩:=h;cases rx;obtain ⟨t,rfl⟩:=ry;obtain ⟨S7,r,pl,hz⟩:=I.list hq;obtain ⟨j,h1,h2,h3,h4,h5⟩:=uU he;obtain ⟨w,ew,rw'⟩:=r.get h2;have hl:=r.length;have hn:=kZ;have fin:EP X S6 σ Q w s:=⟨z,H,I,rw',q⟩;by_cases h0:0<=i
 ·have hj:i.toNat=j:=by rw [seqIndex_of h0 h5] at h1;exact U3 h1
  exact item_listR pl.isList h0 (by omega) (by rw [hj];simpa using ew) fin hs
 ·have hj:(i + (S7.toArray.size:Int)).toNat=j:=by rw [seqIndex_neg (by omega) h4] at h1;rw [Tz,<-hl];exact U3 h1
  exact X4 (x:=w) pl.isList.typeIs abi.lookup
   (wpAny_getItem_list_neg (Q:=λr s'=>r=w/\EP X S6 σ Q r s') pl.isList (by omega) (by rw [Tz] <;> omega) (by omega) (by rw [hj];simpa using ew) ⟨rfl,fin⟩) hs
theorem L8:oU X (MZ X.K):=by
 intro value slice S6 s σ H x y v u Q I rx ry h hs;obtain ⟨p,xs,i,z,rfl,rfl,hq,he,q⟩:=h;cases rx;obtain ⟨t,rfl⟩:=ry;obtain ⟨S7,r,pl,hz⟩:=I.tuple hq;obtain ⟨j,h1,h2,h3,h4,h5⟩:=uU he;obtain ⟨w,ew,rw'⟩:=r.get h2;have hl:=r.length;have hn:=kZ;have fin:EP X S6 σ Q w s:=⟨z,H,I,rw',q⟩;exact X4 (x:=w) pl.typeIs slot_tuple_getitem.lookup
  (getItem_tuple (j:=j) (Q:=λr s'=>r=w/\EP X S6 σ Q r s') pl (by omega) (by omega) (by rw [Tz,<-hl];exact h1) (by simpa using ew) ⟨rfl,fin⟩) hs
theorem L7:oU X MY:=by
 intro value slice S6 s σ H x y v u Q I rx ry h hs;obtain ⟨z,i,c,rfl,rfl,hz,he,q⟩:=h;obtain ⟨t,rfl⟩:=rx;obtain ⟨t',rfl⟩:=ry;obtain ⟨j,h1,h2,h3,h4,h5⟩:=uU he;have hl:z.cps.toList.length=z.length:=by simp [abj]
 rw [hl] at h1 h4 h5;have hn:=kZ;exact tail_any (X_ s z t) slot_str_getitem.lookup (getItem_str (c:=c) (by
  have e1:decide (i < -(2 ^ 63:Int))=false:=decide_eq_false (by omega);have e2:decide (i ≥ 2 ^ 63)=false:=decide_eq_false (by omega);rw [e1,e2,adg]) (by rw [h1];simpa using h2) ⟨.str ⟨#[c]⟩,H,I.tok _,⟨_,rfl⟩,q⟩) hs
def PX (K:Tg):R2:=λx y H Q=>MX K x y H Q\/MZ K x y H Q\/MY x y H Q
theorem L6:oU X (PX X.K):=Jy.or (L8.or L7)
theorem Inv.lst {H:Hp}{s:Tj}{xs:List V}(I:Inv X S6 σ H s) (h:H p=some (.lst xs)):
  ∃(S7:List Ti) (n:Nat),Vals xs S7/\s.heap.get? p=some {cls:=.type "list",data:=.seq S7.toArray n}/\xs.length<=sizeLine:=by obtain ⟨z,S7,n,r,e⟩:=I.hok p _ h;exact ⟨S7,n,r,e,z⟩
theorem zU (lo hi:Option Int) (n:Nat):(Yb lo hi none n).1=((HT.bJ n 0 lo:Nat):Int)/\(Yb lo hi none n).2.1=((HT.bJ n n hi:Nat):Int)/\(Yb lo hi none n).2.2=1:=by
 refine ⟨?_,?_,rfl⟩
 ·cases lo with
  | none=>simp [Yb,HT.bJ]
  | some i=>
   simp only [Yb,HT.bJ,abR,show (1:Int) > 0 by decide,if_true];by_cases h:i < 0
   ·simp only [h,if_true] <;> omega
   ·simp only [h,if_false] <;> omega
 ·cases hi with
  | none=>simp [Yb,HT.bJ]
  | some i=>
   simp only [Yb,HT.bJ,abR,show (1:Int) > 0 by decide,if_true];by_cases h:i < 0
   ·simp only [h,if_true] <;> omega
   ·simp only [h,if_false] <;> omega
theorem xR (S7:List Ti) (lo hi:Option Int):slicePick S7.toArray lo hi none=((S7.drop (HT.bJ S7.length 0 lo)).take (HT.bJ S7.length S7.length hi - HT.bJ S7.length 0 lo)).toArray:=by obtain ⟨h1,h2,h3⟩:=zU lo hi S7.toArray.size;unfold slicePick;rw [h1,h2,h3];simp only [sliceRange_one,pick_run,Tz] <;> rfl
noncomputable def O7 (K:Tg):V->Option Int->Option Int->Hp->VK->Prop:=λx lo hi H Q=>∃a xs,x=.ref a/\bY K H a xs/\∀p,H p=none->Q (.ref p) (upd H p (.lst (mj xs lo hi)))
theorem KJ:qX X (O7 X.K):=by intro S6 s σ H x v vl vu lo hi sl Q I rx hs pl pu h;obtain ⟨a,xs,rfl,hx,q⟩:=h;cases rx;obtain ⟨S7,r,ht,hz⟩:=I.list hx;have hlen:=r.length;refine ⟨"list",_,abi.lookup,ht.isList.typeIs,?_⟩;refine wpAny_getItem_list_slice ht.isList hs pl pu .none (by simp) ?_ (by rw [Tz] <;> omega);rw [xR,<-hlen];refine ⟨.ref s.heap.objs.size,_,I.laid (t':=s.toks) (o:=.lst (mj xs lo hi)) (λb ob q=>Tn _ q) (Tv _) ?_,rfl,q _ (I.hok.fresh (Tv _))⟩;exact ⟨T6 (q_ xs lo hi) hz,_,0,(r.drop (HT.bJ xs.length 0 lo)).take (HT.bJ xs.length xs.length hi - HT.bJ xs.length 0 lo),TH _ rfl⟩
noncomputable def t6:V->Bool
 | .non=>true
 | .bl _=>true
 | .int _=>true
 | .str _=>true
 | _=>false
noncomputable def LB:V->V->Bool
 | .non,.non=>true
 | .bl a,.bl b=>a == b
 | .bl a,.int b=>(if a then 1 else 0) == b
 | .int a,.bl b=>a == (if b then 1 else 0)
 | .int a,.int b=>a == b
 | .str a,.str b=>a == b
 | _,_=>false
theorem LA (ry:RelV y u) (rx:RelV x v) (fy:t6 y=true) (fx:t6 x=true):VN A s u v (LB y x):=by
 cases y with
 | non=>
  cases ry;cases x with
  | non=>cases rx;exact aaa _
  | bl b=>cases rx;exact adG b
  | int b=>obtain ⟨t,rfl⟩:=rx;exact adP b t
  | str b=>obtain ⟨t,rfl⟩:=rx;exact adQ b t
  | _=>exact absurd (show false=true from fx) T_
 | bl a=>
  cases ry;cases x with
  | non=>cases rx;exact adH a
  | bl b=>cases rx;exact adI a b
  | int b=>obtain ⟨t,rfl⟩:=rx;exact adR a b t
  | str b=>obtain ⟨t,rfl⟩:=rx;exact adS a b t
  | _=>exact absurd (show false=true from fx) T_
 | int a=>
  obtain ⟨t',rfl⟩:=ry;cases x with
  | non=>cases rx;exact adT a t'
  | bl b=>cases rx;exact adU a t' b
  | int b=>obtain ⟨t,rfl⟩:=rx;exact aa0 a t' b t
  | str b=>obtain ⟨t,rfl⟩:=rx;exact aaW a t' b t
  | _=>exact absurd (show false=true from fx) T_
 | str a=>
  obtain ⟨t',rfl⟩:=ry;cases x with
  | non=>cases rx;exact adV a t'
  | bl b=>cases rx;exact adW a t' b
  | int b=>obtain ⟨t,rfl⟩:=rx;exact aaX a t' b t
  | str b=>obtain ⟨t,rfl⟩:=rx;exact aea a t' b t
  | _=>exact absurd (show false=true from fx) T_
 | _=>exact absurd (show false=true from fy) T_
theorem yI:cJ X (.builtin "len") (λxs H Q=>∃p ys,xs=[.ref p]/\(bY X.K H p ys\/cZ X.K H p ys)/\Q (.int ys.length) H):=by
 intro S6 s σ H xs us Q I r h;obtain ⟨p,ys,rfl,hq,q⟩:=h;obtain ⟨u,rfl,rx⟩:=vals1 r;cases rx;have hn:=kZ;rcases hq with hq | hq
 ·obtain ⟨S7,r',pl,hz⟩:=I.list hq;have hlen:=r'.length;exact Calls.call_len_list pl.isList (by simp only [Tz] <;> omega) ⟨.int ys.length,H,I.tok _,⟨s.toks + 1,by rw [Tz,hlen]⟩,q⟩
 ·obtain ⟨S7,r',pl,hz⟩:=I.tuple hq;have hlen:=r'.length;exact len_tuple pl (by simp only [Tz] <;> omega) ⟨.int ys.length,H,I.tok _,⟨s.toks + 1,by rw [Tz,hlen]⟩,q⟩
theorem yJ:cJ X (.builtin "len") (λxs H Q=>∃z,xs=[.str z]/\z.length<=sizeLine/\Q (.int z.length) H):=by intro S6 s σ H xs us Q I r h;obtain ⟨z,rfl,hz,q⟩:=h;obtain ⟨u,rfl,t,rfl⟩:=vals1 r;have hn:=kZ;exact len_str (by omega) ⟨.int z.length,H,I.tok _,⟨_,rfl⟩,q⟩
theorem cJ.or {r r':List V->Hp->VK->Prop}(h:cJ X f r) (h':cJ X f r'):cJ X f (λxs H Q=>r xs H Q\/r' xs H Q):=by
 intro S6 s σ H xs us Q I rs q;rcases q with q | q
 ·exact h S6 s σ H xs us Q I rs q
 ·exact h' S6 s σ H xs us Q I rs q
theorem xJ:cJ X (.type "tuple") (λxs H Q=>∃p ys,xs=[.ref p]/\((bY X.K H p ys/\∀l,H l=none->Q (.ref l) (upd H l (.tup ys)))\/(cZ X.K H p ys/\Q (.ref p) H))):=by
 intro S6 s σ H xs us Q I r h;obtain ⟨p,ys,rfl,h⟩:=h;obtain ⟨u,rfl,rx⟩:=vals1 r;cases rx;rcases h with ⟨hq,q⟩ | ⟨hq,q⟩
 ·obtain ⟨S7,r',pl,hz⟩:=I.list hq;have hlen:=r'.length;refine call_tuple_list pl.isList (λh' kp=>?_) (by simp only [Tz] <;> omega);have I1:Inv X S6 σ H {s with heap:=h'}:=I.kept (t':=s.toks) kp;have I2:Inv X S6 σ (upd H h'.objs.size (.tup ys)) {s with heap:=h'.push {cls:=.type "tuple",data:=.seq S7.toArray}}:=
   I1.laid (t':=s.toks) (λb o e=>Tn _ e) (Tv _) (show cj X.prog X.w _ _ _ (.tup ys) from ⟨hz,S7,r',adz _ _⟩)
  exact ⟨.ref h'.objs.size,_,I2,rfl,q _ (I1.hok.fresh (Tv _))⟩
 ·obtain ⟨S7,r',pl,hz⟩:=I.tuple hq;exact call_tuple_same pl ⟨.ref p,H,I,rfl,q⟩
noncomputable def OI (K:Tg) (T:String) (x:V) (H:Hp):Prop:=match x with
 | .str _=>T="str"
 | .int _=>T="int"
 | .ref p=>(T="list"/\∃xs,bY K H p xs)\/(T="tuple"/\∃o,K.lookup p=some o/\o.cls=.type "tuple"/\o.dict=none)\/
   (T="dict"/\((∃Td,H p=some (.dK Td))\/∃Td,H p=some (.dT Td)))\/(T="set"/\∃S n,H p=some (.set S n))
 | _=>False
theorem Nk {H:Hp}{s:Tj}(I:Inv X S6 σ H s) (r:RelV x v) (ty:OI X.K T x H):
  s.TypeIs v T/\∀a,v=.ref a->∃ob,s.heap.get? a=some ob/\ob.dict=none:=by
 cases x with
 | str z=>
  obtain ⟨t,rfl⟩:=r;cases (show T="str" from ty);exact ⟨X_ s z t,λ_ e=>nomatch e⟩
 | int i=>
  obtain ⟨t,rfl⟩:=r;cases (show T="int" from ty);exact ⟨acV s i t,λ_ e=>nomatch e⟩
 | ref p=>
  cases r;rcases ty with ⟨rfl,xs,hq⟩ | ⟨rfl,o,hk,hc,hd⟩ | ⟨rfl,hk⟩ | ⟨rfl,S,n,hk⟩
  ·obtain ⟨S7,_,pl,_⟩:=I.list hq;refine ⟨pl.isList.typeIs,λa e=>?_⟩;cases e;obtain ⟨o,n,e,c,hd,_⟩:=pl;exact ⟨o,e,hd⟩
  ·refine ⟨⟨o,I.kIn p o hk,hc⟩,λa e=>?_⟩;cases e;exact ⟨o,I.kIn _ o hk,hd⟩
  ·have z:∃o,s.heap.get? p=some o/\o.ExactDict:=by
    rcases hk with ⟨Td,hk⟩ | ⟨Td,hk⟩
    ·obtain ⟨_,_,_,_,o,_,_,e,ex,_⟩:=I.hok p _ hk;exact ⟨o,e,ex⟩
    ·obtain ⟨_,_,_,_,o,_,_,e,ex,_⟩:=I.hok p _ hk;exact ⟨o,e,ex⟩
   obtain ⟨o,e,ex⟩:=z;refine ⟨⟨o,e,ex.1⟩,λa e2=>?_⟩;cases e2;exact ⟨o,e,ex.2.1⟩
  ·obtain ⟨o,_,_,_,e,ex,_⟩:=I.hok p _ hk;refine ⟨⟨o,e,ex.1⟩,λa e2=>?_⟩;cases e2;exact ⟨o,e,ex.2.1⟩
 | _=>exact Xd ty
def PZ (K:Tg) (T:String) (r:V->List V->Hp->VK->Prop) (to:TE) (t:TA):TE:=λσ H Q=>to σ H λx H1=>OI K T x H1/\t σ H1 λxs H2=>r x xs H2 Q
variable {o e:Uo}{es:List Uo}{to:TE}{t:TA}{name:Str}{apos cpos:Pos}{T id:String}{r:V->List V->Hp->VK->Prop}
theorem ye (pa:PlainAttrs T) (slot:Slot T name id) (hty:typeOf (.builtin id)=pure (.type "method_descriptor")) (hm:Pz X id r) (ho:PE X o to) (ha:PA X (e::es) t)
  (hbase:Wg o name X.env (eval o X.env)=eval o X.env:=by rfl)
  (hfew:((U_ cpos (TF (e::es) X.env)).all (λx=>!x.1) && (ab0 cpos (ZC [] X.env)).all (λx=>x.1.isSome)
   && decide ((e::es).length + ([]:List ZD).length + (if ([]:List ZD).isEmpty then 0 else 1) < 30))=true:=by rfl)
  (hline:(apos.endLine == cpos.line)=true:=by rfl) (hs:TF (e::es) X.env=(false,eval e X.env)::TF es X.env:=by rfl) (hplain:(U_ cpos (TF es X.env)).any (·.1)=false:=by rfl):
  PE X (.Call (.Attribute o name apos) (e::es) [] cpos) (PZ X.K T r to t):=by intro S6 s σ H Q I h;refine wpAny_Call_method_late hbase hfew hline rfl (bI (ho S6 s σ H _ I h) λv s1 ⟨x,H1,I1,r1,ty,q1⟩=>?_);obtain ⟨h1,h2⟩:=Nk I1 r1 ty;refine ⟨T,id,pa,slot,hty,h1,h2,?_⟩;have hA:=ha cpos S6 s1 σ H1 _ I1 q1;rw [hs] at hA ⊢;refine Calls.callWith_builtin (by show (false || (U_ cpos (TF es X.env)).any (·.1))=false;rw [hplain] <;> rfl) (Calls.evalArgs_plain ?_);exact bI hA λus s2 ⟨vs,H2,I2,r2,q2⟩=>hm S6 s2 σ H2 x vs v us Q I2 r1 r2 q2
end
noncomputable def HP (X:Cx) (id:String) (r:V->List V->Hp->VK->Prop):Prop:=
 ∀(S6:List (T3×Obj)) (s:Tj) (σ:St) (H:Hp) (x:V) (xs:List V) (v:Ti) (us:List Ti) (Q:VK),Inv X S6 σ H s->RelV x v->Vals xs us->r x xs H Q->
  TX (T5 X.prog X.w) X.A (call (.builtin id) (v::us)) (EP X S6 σ Q) X.xe s
theorem Vals.one:∀{x:V}{us:List Ti},Vals [x] us->∃u,us=[u]/\RelV x u
 | _,_,.cons r .nil=>⟨_,rfl,r⟩
theorem Vals.eraseIdx:∀{xs:List V}{us:List Ti}(i:Nat),Vals xs us->Vals (xs.eraseIdx i) (us.eraseIdx i)
 | _,_,_,.nil=>.nil
 | _,_,0,.cons _ t=>t
 | _,_,i + 1,.cons r t=>.cons r (Vals.eraseIdx i t)
theorem wI {α:Type}:∀(l:List α) (i:Nat),(l.eraseIdx i).length<=l.length
 | [],_=>Tv _
 | _::_,0=>Yc _
 | _::r,i + 1=>Nat.succ_le_succ (wI r i)
section
variable {X:Cx}{S6:List (T3×Obj)}{σ:St}{H:Hp}{s:Tj}{l b:T3}{xs ys zs:List V}
theorem Inv.lset {S7 its':List Ti}{f:Array Ti->Array Ti}(I:Inv X S6 σ H s) (hH:H l=some (.lst xs))
 (e:s.heap.get? l=some {cls:=.type "list",data:=.seq S7.toArray n}) (hf:f S7.toArray=its'.toArray) (hv:Vals ys its') (hz:ys.length<=sizeLine):
  Inv X S6 σ (upd H l (.lst ys)) {s with heap:=s.heap.update l (UR f),toks:=t'}:=by have q:=aeq e f;rw [hf] at q;refine I.write (x:=l) (e:=l) (by rw [hH];exact trivial) (.inl rfl) (λb' u hb hu=>(UY s.heap (UR f) (VG hb)).trans hu) ⟨_,q⟩ ?_;exact ⟨hz,its',_,hv,q⟩
theorem Inv.lnew {S7:List Ti}(I:Inv X S6 σ H s) (hv:Vals ys S7) (hz:ys.length<=sizeLine):
  Inv X S6 σ (upd H s.heap.objs.size (.lst ys)) {s with heap:=s.heap.push {cls:=.type "list",data:=.seq S7.toArray},toks:=t'}:=
 I.laid (λ_ _ q=>Tn _ q) (Tv _) ⟨hz,S7,0,hv,TH _ rfl⟩
theorem Inv.fresh (I:Inv X S6 σ H s):H s.heap.objs.size=none:=I.hok.fresh (Tv _)
theorem Inv.lstM (I:Inv X S6 σ H s) (hH:H l=some (.lst xs)):xs.length<=sizeLine/\∃(S7:List Ti) (n:Nat),Vals xs S7/\xs.length=S7.length/\s.heap.get? l=some {cls:=.type "list",data:=.seq S7.toArray n}:=by obtain ⟨z,S7,n,r,e⟩:=I.hok l _ hH;exact ⟨z,S7,n,r,r.length,e⟩
theorem zC (h:n<=sizeLine):VO n=false:=by unfold VO;exact decide_eq_false (by omega)
end
section
variable {X:Cx}
noncomputable def Ky:V->List V->Hp->VK->Prop:=λx vs H Q=>∃l xs y,x=.ref l/\vs=[y]/\H l=some (.lst xs)/\xs.length < sizeLine/\Q .non (upd H l (.lst (xs++[y])))
theorem pP:HP X "list.append" Ky:=by intro S6 s σ H x vs v us Q I rx rv h;obtain ⟨l,xs,y,rfl,rfl,hH,hz,q⟩:=h;cases rx;obtain ⟨u,rfl,ru⟩:=rv.one;obtain ⟨z,S7,n,r,hl,e⟩:=I.lstM hH;refine abk F.slot_list_append ⟨_,e,rfl⟩ F.entry_list_append (F.args_list_append_2 _ _) (PySem.list_append l S7.toArray n u (by rw [Tz];omega)) ⟨e,?_⟩;refine ⟨.non,_,I.lset (its':=S7++[u]) hH e (by simp) (r.append (.cons ru .nil)) ?_,rfl,q⟩;rw [TQ,Yt];omega
noncomputable def Kz:V->List V->Hp->VK->Prop:=λx vs H Q=>∃l b xs zs,x=.ref l/\vs=[.ref b]/\H l=some (.lst xs)/\H b=some (.lst zs)/\xs.length + zs.length<=sizeLine/\Q .non (upd H l (.lst (xs++zs)))
theorem OG:HP X "list.extend" Kz:=by
 intro S6 s σ H x vs v us Q I rx rv h;obtain ⟨l,b,xs,zs,rfl,rfl,hH,hB,hz,q⟩:=h;cases rx;obtain ⟨u,rfl,ru⟩:=rv.one;cases ru;obtain ⟨z,S7,n,r,hl,e⟩:=I.lstM hH;obtain ⟨z2,its2,n2,r2,hl2,e2⟩:=I.lstM hB;have hsz:S7.toArray.size + its2.toArray.size<=sizeLine:=by rw [Tz,Tz];omega
 have Q3:¬(!S7.toArray.isEmpty && VO (S7.toArray.size + its2.toArray.size))=true:=by rw [zC hsz,WX];exact T_
 refine abk aa6 ⟨_,e,rfl⟩ aaR (aaz _ _)
  (AutoSeq1.list_extend_list_list_0 l S7.toArray n b its2.toArray n2 Q3 (by rw [Tz];omega) (by omega)) ⟨e,e2,?_⟩
 refine ⟨.non,_,I.lset (its':=S7++its2) hH e (by simp) (r.append r2) ?_,rfl,q⟩;rw [TQ];omega
noncomputable def M0:V->List V->Hp->VK->Prop:=λx vs H Q=>∃l xs i k y,x=.ref l/\vs=[.int i]/\H l=some (.lst xs)/\-(2 ^ 63)<=i/\i < 2 ^ 63/\aa5 i xs.length=some k/\xs[k]?=some y/\Q y (upd H l (.lst (xs.eraseIdx k)))
theorem Gz:HP X "list.pop" M0:=by
 intro S6 s σ H x vs v us Q I rx rv h;obtain ⟨l,xs,i,k,y,rfl,rfl,hH,h1,h2,hk,hy,q⟩:=h;cases rx;obtain ⟨u,rfl,ru⟩:=rv.one;obtain ⟨t,rfl⟩:=ru;obtain ⟨z,S7,n,r,hl,e⟩:=I.lstM hH;obtain ⟨w,hw,rw'⟩:=r.get hy;refine abk F.slot_list_pop ⟨_,e,rfl⟩ F.entry_list_pop (F.args_list_pop_2 _ _)
  (MeetsSeq.list_pop_at l S7.toArray n i t k w (fitsIndex_both h1 h2) (by rw [Tz,<-hl];exact hk) (by rw [<-U4];exact hw) (by rw [Tz];omega)) ⟨e,?_⟩
 refine ⟨y,_,I.lset (its':=S7.eraseIdx k) hH e ?_ (r.eraseIdx k) ?_,rw',q⟩
 ·show S7.toArray.eraseIdxIfInBounds k=(S7.eraseIdx k).toArray;rw [List.eraseIdxIfInBounds_toArray]
 ·have:=wI xs k;omega
noncomputable def O5:R2:=λx y H Q=>∃l b xs zs,x=.ref l/\y=.ref b/\H l=some (.lst xs)/\H b=some (.lst zs)/\xs.length + zs.length<=sizeLine/\∀p,H p=none->Q (.ref p) (upd H p (.lst (xs++zs)))
theorem Eu:cS X (WN .Add) O5:=by
 intro S6 s σ H x y v u Q I rx ry h;obtain ⟨l,b,xs,zs,rfl,rfl,hH,hB,hz,q⟩:=h;cases rx;cases ry;obtain ⟨z,S7,n,r,hl,e⟩:=I.lstM hH;obtain ⟨z2,its2,n2,r2,hl2,e2⟩:=I.lstM hB;refine PySem.P.add_list e e2 ?_ (by rw [Tz,Tz];omega);have ea:S7.toArray++its2.toArray=(S7++its2).toArray:=by simp
 rw [ea];exact ⟨.ref _,_,I.lnew (t':=s.toks) (r.append r2) (by rw [TQ];omega),rfl,q _ I.fresh⟩
end
end L2
namespace Att
open PySem PySem.W PySem.Calls PyProof.Rows
theorem uh:∀(ns:List Int) (vs:List Ti),WellAll P h vs (ns.map aeu)->W_ vs ns:=by
 intro ns
 induction ns with
 | nil=>
  intro vs w;rw [Z_] at w;cases w;exact .nil
 | cons n ns ih=>
  intro vs w;rw [TV] at w;cases w with
  | cons a b=>
   cases a;exact .cons _ _ (ih _ b)
theorem E8 {l:OpenLaw}(hn:l.most=some n){h:Vd}
 (hpre:l.row.toRowW.claim.pre args=true) (hwl:WellAll P h vals args):
  ∃a vs ns,vals=[Ww a]/\args=[WData.list (ns.map aeu)]/\h.get? a=some {cls:=.type "list",data:=.seq vs.toArray}/\W_ vs ns/\ns.length<=n:=by
 have hsh:WShape.hasAll [] args [.list .int]=true:=(pre_splitW hpre).1;have hc:l.pre.holds [] {args:=args}=true:=(pre_splitW hpre).2;obtain ⟨d,r,rfl,h1,h2⟩:=hasAllW_cons hsh;obtain rfl:=hasAllW_nil h2;obtain ⟨xs,rfl,h3⟩:=hasW_list h1;obtain ⟨ns,rfl⟩:=items_int h3;have hlen:ns.length<=n:=by
  unfold OpenLaw.pre at hc;have h4:(WTm.not (.lt (.lit (.int (n:Int))) (.len (.arg 0)))).holds [] {args:=[.list (ns.map .int)]}=true:=by have h4:=(holds_andW hc).1;rw [hn] at h4;exact h4
  have h5:=condW_of h4 (w_not (w_lt w_lit (w_len_list (w_arg rfl))));rw [Tp] at h5;refine ZR λq=>?_;have q':(n:Int) < ((ns.length:Nat):Int):=by omega
  first
   | (rw [decide_eq_true q'] at h5;exact absurd h5 (by decide))
   | (simp at h5;omega)
 cases hwl with
 | cons w1 w2=>
  cases w2;cases w1 with
  | list ho hall=>exact ⟨_,_,ns,rfl,rfl,ho,uh ns _ hall,hlen⟩
theorem EL (l:OpenLaw) (args:List WData):l.row.toRowW.claim.post args (.bool true) args=true:=
 postW_of (r:=l.row.toRowW) (X:=(true == true))
  (show aek [] (.bool true) .bool=true by first | rfl | decide | simp [aek,WShape.arms,WShape.armsAll])
  (show (WTm.eq .res (.lit (.bool true))).value [] {args:=args,res:=some (.bool true),after:=args}=some (.bool (true == true)) from w_eq_bool (w_res rfl) w_lit) rfl
theorem Ag {l:OpenLaw}{XP:(Str->Option Ti)->Vd->Prop}{YP:Uk->Vd->Prop}{d:DefRec}
 (hn:l.most=some n) (hdf:d.params.defaults=[])
 (call:∀(w:Uk) (s₀ s₁:Tj) (mg mb:Str->Option Ti) (fa:T3) (o:Obj) (pm cd doc:Ti) (a:T3) (vs:List Ti) (ns:List Int),
 Ground q loose [] XP w s₀ mg mb s₁.heap->YP w s₁.heap->
 s₁.heap.get? fa=some o->o.data=.func (docDef d.name d.params d.body d.scope pm cd doc)->s₁.heap.CodeRec cd d.name->mg d.name=some (.ref fa)->
 s₁.heap.get? a=some {cls:=.type "list",data:=.seq vs.toArray}->W_ vs ns->ns.length<=n->s₁.gens=#[]->
 VH (T5 l.prog w) abl (.call (.ref fa) ⟨[.ref a],[]⟩) (λr s'=>r=.ok (.ret (.bool true))/\OldK s₁.heap s'.heap/\s'.os=s₁.os/\Zy s'.gens) s₁):
  WalkO q loose XP YP l.row.toRowW d [] (λf vs=>acW f vs):=by intro w s₀ s₁ mg mb G Y fa o pm cd doc dV kV ho hd hcd hD hmg hg args vals as hpre hlay hrd hwl hlo;obtain rfl:dV=.none:=Dflts.none hD hdf;obtain rfl:kV=.none:=Dflts.noKw hD;obtain ⟨a,vs,ns,rfl,rfl,hobj,hints,hlen⟩:=E8 hn hpre hwl;refine enter_call (WK (call w s₀ s₁ mg mb fa o pm cd doc a vs ns G Y ho (fd_plain hd) hcd hmg hobj hints hlen hg) λr s' hq=>?_);obtain ⟨rfl,h2,h3,h4⟩:=hq;exact ⟨.inl ⟨.bool true,.bool true,[],rfl,λ_=>rfl,.bool true,EL l _,λ_=>⟨WB,λ_ hm=>(nomatch hm)⟩⟩,h2,h3,h4⟩
end Att
namespace L2
open PySem PySem.Spec PyProof.Rows
theorem xu:∀{vs:List Ti}{ns:List Int},W_ vs ns->Vals (ns.map V.int) vs
 | _,_,.nil=>.nil
 | _,_,.cons n t h=>.cons ⟨t,rfl⟩ (xu h)
def BF (H:Hp):Prop:=∀b,H b=none\/∃o xs,H b=some (.frz o (.lst xs))
theorem Gs {K:Tg}{mg mb:Str->Option Ti}{fd:Ud}{sp:Sp}{s₁:Tj}{vs:List Ti}{ns:List Int}
 (KX:K.In s₁.heap) (hns:s₁.heap.Ns Ug mg) (hb:s₁.heap.Ns acR mb) (Si:∀x:Str,x≠"__name__"->mb x=UP x) (hlim:s₁.heap.NoLimit) (hg:s₁.gens=#[])
 (ha:s₁.heap.get? a=some {cls:=.type "list",data:=.seq vs.toArray}) (hi:W_ vs ns) (hl:ns.length<=sizeLine) (hr:cY k abl)
 (F:∀base:Vd,K.In base->base.Ns Ug mg->fF P w K mg base CX k fa fd [x] sp) (hbind:∀(s:Tj) (u:Ti),ab4 s fd ⟨[u],[]⟩ [(x,u)])
 (Q6:∀H:Hp,BF H->bY K H a (ns.map V.int)->sp [.ref a] H (λv _=>v=.bl true) λ_ _ _=>False)
 (Rx:∀H e s',CX [] H s₁ (λ_ _ _=>False) e s'->False):
  VH (T5 P w) abl (.call (.ref fa) ⟨[.ref a],[]⟩) (λr s'=>r=.ok (.ret (.bool true))/\OldK s₁.heap s'.heap/\s'.os=s₁.os/\Zy s'.gens) s₁:=by
 have rv:=xu hi;have lenV:=hi.length;have core:∀H:Hp,BF H->bY K H a (ns.map V.int)->fW P w H s₁.heap->(∀b,H b≠none->b=a)->(H a≠none->K.lookup a=none)->
   VH (T5 P w) abl (.call (.ref fa) ⟨[.ref a],[]⟩) (λr s'=>r=.ok (.ret (.bool true))/\OldK s₁.heap s'.heap/\s'.os=s₁.os/\Zy s'.gens) s₁:=by
  intro H hO hS hok hA hK;have base_of:∀{b:T3}{o:Obj},s₁.heap.get? b=some o->H b=none->(nO s₁.heap H).get? b=some o:=λe n=>Ge e n;have noA:∀{b:T3}{o:Obj}{es:Array Zp}{ep:Nat},s₁.heap.get? b=some o->o.data=.dict es ep->H b=none:=fun {b o es ep} e d=>by
   cases q:H b with
   | none=>rfl
   | some u=>
    have e':b=a:=hA b (by rw [q];simp);subst e';rw [ha] at e;cases e;have d':Data.seq vs.toArray _=Data.dict es ep:=d;cases d'
  have nsK:∀{b:T3}{m:Str->Option Ti},s₁.heap.Ns b m->(nO s₁.heap H).Ns b m:=fun {b m} ⟨o,es,ep,e,d,r⟩=>⟨o,es,ep,base_of e (noA e d),d,r⟩;have R5:K.In (nO s₁.heap H):=λb o e=>base_of (KX b o e) (by
   cases q:H b with
   | none=>rfl
   | some u=>
    have e':b=a:=hA b (by rw [q];simp);subst e';rw [hK (by rw [q];simp)] at e;cases e)
  have hM:Mod K mg (nO s₁.heap H):=⟨R5,nsK hns,⟨mb,nsK hb,Si⟩,let ⟨mc,h1,h2⟩:=hlim;⟨mc,nsK h1,h2⟩⟩;have e0:BA P w K mg (nO s₁.heap H) abl [] s₁ H:=⟨rfl,hM,λb o e=>JO e,abF (D9 _ _),trivial,λb hb=>absurd (show b∈([]:List T3) from hb) (by simp),hok,.of_eq hg⟩;refine WK ((F _ R5 (nsK hns)).run abl [] s₁ H ⟨[.ref a],[]⟩ [.ref a] [.ref a] _ _ hr e0 (hbind s₁ (.ref a)) (.cons rfl .nil) (Q6 H hO hS)) λr s' h=>?_;cases r with
  | error e=>exact (Rx H e s' h).elim
  | ok fl=>
   cases fl with
   | next=>exact Xd h
   | brk=>exact Xd h
   | cont=>exact Xd h
   | ret u=>
    obtain ⟨v,H',os,bare,un,RQ,r',q⟩:=h;have q':v=.bl true:=q;subst q';obtain rfl:u=V7 true:=r';refine ⟨rfl,OldK.of_keep λb o e=>?_,os,bare⟩;cases q:H b with
    | none=>exact un.keep b o e q (by intro z;exact absurd (show b∈([]:List T3) from z) (by simp)) (by simp)
    | some u=>
     rcases hO b with z | ⟨ob,xs,z⟩
     ·rw [q] at z;cases z
     ·have z2:=un.frzs b ob _ z;obtain ⟨e1,_⟩:=hok b _ z;obtain ⟨e2,_⟩:=RQ b _ z2;rw [e] at e1;cases e1;exact e2
 cases hk:K.lookup a with
 | some o=>
  have e:=KX a o hk;rw [ha] at e;cases e;refine core (λ_=>none) (λ_=>.inl rfl) (.inr ⟨_,vs.toArray,_,hk,rfl,rfl,rfl,by rw [Tz,lenV];exact hl,by simpa using rv⟩) (λb u z=>by have z':(none:Option HO)=some u:=z;cases z') (λb z=>absurd rfl z) λz=>absurd rfl z
 | none=>
  refine core (λb=>if b=a then some (.frz {cls:=.type "list",data:=.seq vs.toArray} (.lst (ns.map V.int))) else none) (λb=>?_) (.inl (.inr ⟨{cls:=.type "list",data:=.seq vs.toArray},if_pos rfl⟩)) (λb u z=>?_) (λb z=>?_) λ_=>hk
  ·by_cases hb:b=a
   ·exact .inr ⟨_,_,if_pos hb⟩
   ·exact .inl (if_neg hb)
  ·by_cases hb:b=a
   ·have z':=(if_pos hb).symm.trans z;cases z';subst hb;exact ⟨ha,by rw [Tp];exact hl,vs,_,rv,ha⟩
   ·have z':=(if_neg hb).symm.trans z;cases z'
  ·by_cases hb:b=a
   ·exact hb
   ·exact absurd (if_neg hb) z
abbrev Qd {K:Tg}{h:Vd}(_:K.In h):Tg:=K
theorem K1 {l:aab}{XP:(Str->Option Ti)->Vd->Prop}{YP:Uk->Vd->Prop}{d:DefRec}{K:aeb->Tg}{CX:Uk->sX}{sp:Uk->Sp}
 (hn:l.most=some n) (hn2:n<=sizeLine) (hdf:d.params.defaults=[]) (hr:cY k abl)
 (hY:∀(w:Uk) (h:Vd),YP w h->(K w.params).In h)
 (F:∀(w:Uk) (mg:Str->Option Ti) (fa:T3) (h:Vd),(K w.params).In h->h.Ns Ug mg->mg d.name=some (.ref fa)->
 ∃fd:Ud,(∀(s:Tj) (u:Ti),ab4 s fd ⟨[u],[]⟩ [(x,u)])/\
 ∀base:Vd,(K w.params).In base->base.Ns Ug mg->fF l.prog w (K w.params) mg base (CX w) k fa fd [x] (sp w))
 (Q6:∀(w:Uk) (H:Hp) (a:T3) (ns:List Int),ns.length<=n->BF H->bY (K w.params) H a (ns.map V.int)->sp w [.ref a] H (λv _=>v=.bl true) λ_ _ _=>False)
 (Rx:∀(w:Uk) (H:Hp) (s:Tj) (e:Ti) (s':Tj),CX w [] H s (λ_ _ _=>False) e s'->False):
  adh q loose XP YP l.row.toRowW d [] (λf vs=>acW f vs):=by refine Att.Ag hn hdf λw s₀ s₁ mg mb fa o pm cd doc a vs ns G Y ho hd hcd hmg hobj hints hlen hg=>?_;have KX:=hY w _ Y;obtain ⟨fd,hb,hF⟩:=F w mg fa _ KX G.T.g hmg;exact Gs KX G.T.g G.T.b G.T.builtins G.T.nolimit hg hobj hints (T6 hlen hn2) hr hF hb (λH hO hS=>Q6 w H a ns hlen hO hS) λH e s'=>Rx w H s₁ e s'
noncomputable def cP (s:Wm):Arguments:=match s with
 | .FunctionDef _ a _ _ _ _ _ _ _ _=>a
 | _=>{posonlyargs:=[],args:=[],vararg:=none,kwonlyargs:=[],kw_defaults:=[],kwarg:=none,defaults:=[]}
noncomputable def bU (s:Wm):List Wm:=match s with
 | .FunctionDef _ _ b _ _ _ _ _ _ _=>b
 | _=>[]
noncomputable def aY (s:Wm):W5:=match s with
 | .FunctionDef _ _ _ _ _ _ sc _ _ _=>sc
 | _=>{kind:=.function,names:=[],isGenerator:=false,isCoroutine:=false}
abbrev oh:sX:=λ_ _ _ _ _ _=>False
abbrev E0:XK:=λ_ _ _=>False
theorem Cz:Passes oh X E0:=λ_ _ _ _ _ _ _ h=>h.elim
structure oj (K:Tg) (x S_:Str) (st:Wm) (f:T3) (fd:Ud):Prop where
 ex:∃(oc:Ti) (od:Option T3) (kV doc pm:Ti) (an:Option T3) (cdv ct:Ti) (osl:Array (Option Ti)),
  fd=UE x S_ (cP st) (bU st) (aY st) .none kV doc pm an cdv ct/\K.lookup f=some ⟨oc,od,.func fd,osl⟩/\Wn K cdv S_=true
 kp:U5 K (.ref f)=true
section
variable {P:TU}{w:Uk}{K:Tg}{mg:Str->Option Ti}{base:Vd}
theorem oj.ok {st:Wm}{fd:Ud}{N ps:List Str}{sp:Sp}(F:oj K x S_ st f fd) (S:fG N ps (aY st)) (len:∀vs H Q E,sp vs H Q E->vs.length=ps.length)
 (hbody:∀(cdv:Ti) (A:Um) (outer:List Env) (s:Tj) (H:Hp) (vs:List V) (Q:VK) (E:XK),cY k (A.deeper (Ze S_ (aY st) s.heap.objs.size f cdv))->sp vs H Q E->
 ∃t,kc (pg oh P w K mg base N S_ (aY st) f cdv A outer s H E).nox (bU st) t/\t {nx:=λ_ H'=>Q .non H',rt:=Q} (start N vs) H):fF P w K mg base oh (k + 1) f fd ps sp:=by obtain ⟨oc,od,kV,doc,pm,an,cdv,ct,osl,rfl,lk,hcd⟩:=F.ex;refine Ia lk hcd S len λA outer s H vs Q E hr Q6=>?_;obtain ⟨t,h,q⟩:=hbody cdv A outer s H vs Q E hr Q6;exact ⟨t,h.nox,q⟩
theorem oj.binds {st:Wm}{fd:Ud}{ps:List Str}(F:oj K x S_ st f fd)
 (h:∀(kV doc pm:Ti) (an:Option T3) (cdv ct:Ti) (us:List Ti),us.length=ps.length->aau (UE x S_ (cP st) (bU st) (aY st) .none kV doc pm an cdv ct) ⟨us,[]⟩=pure (ps.zip us)):Binds K fd ps []:=by obtain ⟨oc,od,kV,doc,pm,an,cdv,ct,osl,rfl,lk,hcd⟩:=F.ex;exact .all (h kV doc pm an cdv ct)
theorem D3 {st:Wm}{kV doc pm cdv ct:Ti}(l:K.lookup f=some ⟨oc,od,.func (UE x S_ (cP st) (bU st) (aY st) .none kV doc pm an cdv ct),osl⟩)
 (c:Wn K cdv S_=true) (k:U5 K (.ref f)=true):oj K x S_ st f (UE x S_ (cP st) (bU st) (aY st) .none kV doc pm an cdv ct):=⟨⟨oc,od,kV,doc,pm,an,cdv,ct,osl,rfl,l,c⟩,k⟩
end
theorem LX {A B:Prop}(h:B):if false=true then A else B:=by rw [if_neg T_];exact h
theorem L3 {A B:Prop}(h:A):if true=true then A else B:=by rw [if_pos rfl];exact h
def aS (H H':Hp):Prop:=∀b o,H b=some o->H' b=some o
theorem aS.refl (H:Hp):aS H H:=λ_ _ h=>h
theorem aS.trans {H H1 H2:Hp}(a:aS H H1) (b:aS H1 H2):aS H H2:=λc o h=>b c o (a c o h)
theorem aS.free {H H':Hp}(e:aS H H') (h:H' l=adX):H l=adX:=by
 cases q:H l with
 | none=>rfl
 | some o=>
  rw [e l o q] at h;cases h
theorem aS.seq {K:Tg}{H H':Hp}{a:T3}{xs:List V}(e:aS H H') (h:bY K H a xs):bY K H' a xs:=by
 rcases h with (h | ⟨o,h⟩) | h
 ·exact .inl (.inl (e _ _ h))
 ·exact .inl (.inr ⟨o,e _ _ h⟩)
 ·exact .inr h
end L2
set_option maxHeartbeats 4000000
namespace K66
open PySem
def top (i:Nat):Wm:=UO.main.body.getD i (.Pass ⟨0,0,0,0⟩)
end K66
namespace K66
open PySem PySem.Spec PyProof.Rows L2
abbrev E (P:aeb) (k:Str) (t:Nat) (v:Ti):Zp:=⟨PyData.keyHash P k,.str k t,v⟩
abbrev cI (P:aeb) (k:Str) (t r:Nat):Zp:=E P k t (.ref r)
noncomputable def OF (n:Str) (t l k a:Nat) (v w:Ti) (r u:Nat):Obj:=⟨.type "code",none,.fields #[.str n t,.str n (t + 1),.str "/claim/cut.py" (t + 2),.int l 0,.int k 0,.int 0 0,.int 0 0,.int 3 0,.ref a,.bool true,.int 181 0,.ref (a + 1),.none,v,w,.ref r,.int u 0,.int l 0,.str "/claim/cut.py" (u + 1)],#[]⟩
def iW (n:Str) (t l k a u:Nat):Obj:=OF n t l k a (.ref (a + 2)) (.ref (a + 3)) (a + 4) u
def jh (n:Str) (t l k a u:Nat):Obj:=OF n t l k a .none .none (a + 2) u
noncomputable def c_ (n:Str) (k:Nat) (m:Ti) (c:Nat):Obj:=⟨.type "function",none,.func (UE n n (cP (top k)) (bU (top k)) (aY (top k)) .none .none .none m none (.ref c) .none),#[]⟩
def Ga:Ti:=.str "pickalike.worlds" 273
def Gb:Ti:=.str "pickalike.checks" 296
def vf:Ti:=.str "pickalike.pairings" 325
def mq:Ti:=.str "pickalike.layers" 373
def Gd:Ti:=.str "pickalike.few" 450
def jz:Ti:=.str "law_pickalike_k66_more_letters_part_no_later" 474
def KF (P:aeb):Tg:=
(nat_lit 2,⟨.none,none,(.dict #[] 0),#[]⟩)::
(nat_lit 3,⟨(.type "dict"),none,(.dict #[E P "__name__" 165 (.str "law_pickalike_k66_more_letters_part_no_later" 474),E P "__doc__" 166 .none,E P "__package__" 167 .none,E P "__loader__" 168 (.builtin "__main__.__loader__#opaque"),E P "__spec__" 169 .none,cI P "__annotations__" 170 6,cI P "__builtins__" 171 4,E P "__file__" 173 (.str "/claim/cut.py" 172),E P "__cached__" 174 .none,cI P "PickError" 206 24,cI P "NoTongue" 222 37,cI P "TooMany" 247 56,cI P "NoCount" 272 75,cI P "is_whole" 281 84,cI P "tongue_of" 287 89,cI P "need_tongue" 295 96,E P "MOST_SMALL" 299 (.int 4 298),cI P "need_few_points" 307 103,cI P "need_small" 315 110,cI P "need_count" 324 117,cI P "rising" 333 124,cI P "view" 339 129,cI P "views" 345 134,cI P "agree" 355 141,cI P "goes_behind" 366 148,cI P "pairings" 372 153,cI P "added" 382 160,cI P "pairs_with" 388 165,cI P "picks_of" 394 170,cI P "outcomes" 400 175,cI P "answered_still" 406 180,cI P "peeled" 412 185,cI P "pairings_with" 418 190,cI P "parting_depths" 424 195,cI P "in_layer" 433 202,cI P "layers_of" 439 207,cI P "parted" 449 215,cI P "FEW_LETTERS" 455 216,cI P "parts_below" 461 221,cI P "few_depths" 467 226,cI P "few_rounds" 473 231,cI P "_law_cell_at" 483 238,cI P "_law_more" 494 245,cI P "_law_freed" 502 252,cI P "_law_names" 508 257,cI P "_law_world" 526 264,cI P "_law_flipped" 536 271,cI P "_law_turned" 542 276,cI P "_law_two" 559 283,cI P "_law_at" 570 290,cI P "_law_fit" 586 297,cI P "_law_alone" 592 302,cI P "_law_first" 598 307,cI P "law" 610 314] 54),#[]⟩)::
(nat_lit 83,iW "is_whole" 275 17 1 78 279)::
(nat_lit 84,c_ "is_whole" 6 Ga 83)::
(nat_lit 88,jh "tongue_of" 282 19 1 85 285)::
(nat_lit 89,c_ "tongue_of" 7 Ga 88)::
(nat_lit 95,iW "need_tongue" 288 22 2 90 293)::
(nat_lit 96,c_ "need_tongue" 8 Ga 95)::
(nat_lit 102,iW "need_few_points" 300 27 1 97 305)::
(nat_lit 103,c_ "need_few_points" 11 Gb 102)::
(nat_lit 109,iW "need_small" 308 31 2 104 313)::
(nat_lit 110,c_ "need_small" 12 Gb 109)::
(nat_lit 116,iW "need_count" 316 34 3 111 322)::
(nat_lit 117,c_ "need_count" 13 Gb 116)::
(nat_lit 123,iW "rising" 327 38 1 118 331)::
(nat_lit 124,c_ "rising" 15 vf 123)::
(nat_lit 128,jh "view" 334 42 3 125 337)::
(nat_lit 129,c_ "view" 16 vf 128)::
(nat_lit 133,jh "views" 340 47 1 130 343)::
(nat_lit 134,c_ "views" 17 vf 133)::
(nat_lit 140,iW "agree" 346 49 4 135 353)::
(nat_lit 141,c_ "agree" 18 vf 140)::
(nat_lit 147,iW "goes_behind" 356 51 4 142 364)::
(nat_lit 148,c_ "goes_behind" 19 vf 147)::
(nat_lit 152,jh "pairings" 367 58 3 149 370)::
(nat_lit 153,c_ "pairings" 20 vf 152)::
(nat_lit 159,iW "added" 375 71 2 154 380)::
(nat_lit 160,c_ "added" 22 mq 159)::
(nat_lit 164,jh "pairs_with" 383 73 4 161 386)::
(nat_lit 165,c_ "pairs_with" 23 mq 164)::
(nat_lit 169,jh "picks_of" 389 77 2 166 392)::
(nat_lit 170,c_ "picks_of" 24 mq 169)::
(nat_lit 174,jh "outcomes" 395 79 4 171 398)::
(nat_lit 175,c_ "outcomes" 25 mq 174)::
(nat_lit 179,jh "answered_still" 401 82 2 176 404)::
(nat_lit 180,c_ "answered_still" 26 mq 179)::
(nat_lit 184,jh "peeled" 407 84 2 181 410)::
(nat_lit 185,c_ "peeled" 27 mq 184)::
(nat_lit 189,jh "pairings_with" 413 94 3 186 416)::
(nat_lit 190,c_ "pairings_with" 28 mq 189)::
(nat_lit 194,jh "parting_depths" 419 96 3 191 422)::
(nat_lit 195,c_ "parting_depths" 29 mq 194)::
(nat_lit 201,iW "in_layer" 425 100 3 196 431)::
(nat_lit 202,c_ "in_layer" 30 mq 201)::
(nat_lit 206,jh "layers_of" 434 102 2 203 437)::
(nat_lit 207,c_ "layers_of" 31 mq 206)::
(nat_lit 208,⟨(.type "tuple"),none,(.seq #[.none] 0),#[]⟩)::
(nat_lit 214,iW "parted" 440 104 3 209 447)::
(nat_lit 215,⟨(.type "function"),none,(.func (UE "parted" "parted" (cP (top 32)) (bU (top 32)) (aY (top 32)) (.ref 208) .none .none (.str "pickalike.layers" 373) none (.ref 214) .none)),#[]⟩)::
(nat_lit 216,⟨(.type "tuple"),none,(.seq #[(.str "x" 452),(.str "y" 453),(.str "z" 454)] 0),#[]⟩)::
(nat_lit 220,jh "parts_below" 456 110 2 217 459)::
(nat_lit 221,c_ "parts_below" 35 Gd 220)::
(nat_lit 225,jh "few_depths" 462 115 3 222 465)::
(nat_lit 226,c_ "few_depths" 36 Gd 225)::
(nat_lit 230,jh "few_rounds" 468 120 3 227 471)::
(nat_lit 231,c_ "few_rounds" 37 Gd 230)::
(nat_lit 237,iW "_law_cell_at" 476 126 2 232 481)::
(nat_lit 238,c_ "_law_cell_at" 39 jz 237)::
(nat_lit 244,iW "_law_more" 484 130 2 239 492)::
(nat_lit 245,c_ "_law_more" 40 jz 244)::
(nat_lit 251,iW "_law_freed" 495 143 2 246 500)::
(nat_lit 252,c_ "_law_freed" 41 jz 251)::
(nat_lit 256,jh "_law_names" 503 149 2 253 506)::
(nat_lit 257,c_ "_law_names" 42 jz 256)::
(nat_lit 263,iW "_law_world" 509 164 4 258 524)::
(nat_lit 264,c_ "_law_world" 43 jz 263)::
(nat_lit 270,iW "_law_flipped" 527 183 2 265 534)::
(nat_lit 271,c_ "_law_flipped" 44 jz 270)::
(nat_lit 275,jh "_law_turned" 537 190 2 272 540)::
(nat_lit 276,c_ "_law_turned" 45 jz 275)::
(nat_lit 282,iW "_law_two" 543 203 2 277 557)::
(nat_lit 283,c_ "_law_two" 46 jz 282)::
(nat_lit 289,iW "_law_at" 560 221 3 284 568)::
(nat_lit 290,c_ "_law_at" 47 jz 289)::
(nat_lit 296,iW "_law_fit" 571 226 3 291 584)::
(nat_lit 297,c_ "_law_fit" 48 jz 296)::
(nat_lit 301,jh "_law_alone" 587 238 2 298 590)::
(nat_lit 302,c_ "_law_alone" 49 jz 301)::
(nat_lit 306,jh "_law_first" 593 246 1 303 596)::
(nat_lit 307,c_ "_law_first" 50 jz 306)::
(nat_lit 313,iW "law" 599 251 1 308 608)::
(nat_lit 314,c_ "law" 51 jz 313)::[]
noncomputable def VW:TU:={UO with main:={UO.main with body:=[top 1,top 2,top 3,top 4,top 6,top 7,top 8,top 10,top 11,top 12,top 13,top 15,top 16,top 17,top 18,top 19,top 20,top 22,top 23,top 24,top 25,top 26,top 27,top 28,top 29,top 30,top 31,top 34,top 35,top 36,top 37,top 39,top 40,top 41,top 42,top 43,top 44,top 45,top 46,top 47,top 48,top 49,top 50,top 51]}}
noncomputable def HK:W.Hook:=W.kHook KF [2,3,83,84,88,89,95,96,102,103,109,110,116,117,123,124,128,129,133,134,140,141,147,148,152,153,159,160,164,165,169,170,174,175,179,180,184,185,189,190,194,195,201,202,206,207,208,214,215,216,220,221,225,226,230,231,237,238,244,245,251,252,256,257,263,264,270,271,275,276,282,283,289,290,296,297,301,302,306,307,313,314] (λ_=>by kernel_rfl)
def XT:Tj->Bool:=λs=>W.xlAt VW [] s && W.recOk (adJ Us.row.toRowW) s
theorem look:acX Us=true:=by decide +kernel
theorem left:W.LeftO Us.row.prog VW ["parted"] XT (aer HK) (aes HK) 4356:=λw=>by kernel_rfl
end K66
namespace DX
open PySem PySem.Spec
open Sem (wp)
abbrev PN (C t:T3) (dx:Option T3):Obj:={cls:=.ref C,dict:=dx,data:=.fields #[.ref t,.none,.none,.none,.bool false,.none]}
end DX
namespace DX
open PySem PySem.Spec
section
variable {M:adL}{A:Um}{E:Ti->Tj->Prop}{s:Tj}
noncomputable def Py (e C:T3) (dx:Option T3) (T:T3) (h:Vd):Prop:=
 ∃oe vs oT ts,h.get? e=some oe/\oe.cls=.ref C/\oe.dict=dx/\oe.data=.fields vs/\vs[1]?=some (.ref T)/\T≠e/\h.get? T=some oT/\oT.data=.fields ts/\ts[3]?=some .none
end
end DX
namespace DX
open PySem PySem.Spec PyProof.Rows L2
def Nu (a C:T3) (dx:Option T3):Vd->Prop:=λh=>∃oe vs,h.get? a=some oe/\oe.cls=.ref C/\oe.dict=dx/\oe.data=.fields vs
abbrev XO (a C:T3) (dx:Option T3):HO:=.ext (Nu a C dx)
noncomputable def Fl (e C:T3) (dx:Option T3):Option T3->Vd->Prop
 | none,h=>∃t,h.get? e=some (PN C t dx)
 | some T,h=>Py e C dx T h
structure OO (P:TU) (w:Uk) (fs ex:List T3) (H:Hp) (s:Tj) (E:XK) (e C:T3) (dx To:Option T3) (H':Hp) (s':Tj):Prop where
 os:s'.os=s.os
 bare:Zy s'.gens
 un:Un fs ex H H' s.heap s'.heap
 hok:fW P w H' s'.heap
 fl:Fl e C dx To s'.heap
 newE:s.heap.objs.size<=e
 newT:∀T∈To.toList,s.heap.objs.size<=T
 Fp:H' e=some (XO e C dx)
 free:∀T∈To.toList,H' T=none
 wish:E (.ref e) dx H'
def vN (P:TU) (w:Uk):sX:=λouter H s E v s'=>∃e C dx T H',v=.ref e/\OO P w (frs outer) [] H s E e C dx (some T) H' s'
end DX
namespace DX
open PySem PySem.Spec PyProof.Rows
open Sem (wp)
section
variable {prog:TU}{w:Uk}{A:Um}{E:Ti->Tj->Prop}{s:Tj}{K:Tg}{x C:T3}{ox:Obj}{od:Option Obj}{name:Str}
theorem FW {M:adL}{Q:Unit->Tj->Prop}(X:K.In s.heap) (I:Xn s.heap x ox C od) (hm:Xe K C (.type "BaseException")=some true) (hq:Q () s):TX M A (YC "BaseException.__getattribute__" ⟨[.ref x,nameV],[]⟩) Q E s:=by
 have hk:builtinKind "BaseException.__getattribute__"=some .slot:=by decide +kernel
 have Q6:splitId "BaseException.__getattribute__"=some ("BaseException","__getattribute__"):=by decide +kernel
 have ha:=F.args_bexc_ga (.ref x) nameV;have L1:=I.type (M:=M);have L2:=W.looks_mroIn (M:=M) X hm;simp only [YC,hk,Q6];have L:W.Looks M s.heap (acY (.ref x) (.type "BaseException")) true:=L1.andThen L2;refine Tf (L.here ?_);obtain ⟨h,g,d,t,os⟩:=s
 repeat (any_goals (first | assumption | wp_step))
theorem entry_class {Q:Fin->Tj->Prop}(X:K.In s.heap) (I:Xn s.heap x ox C od) (hf:YT K C od "__class__"=some (.bind (.builtin "getset_descriptor.__get__") (.builtin "object.__class__"))) (hm:Xe K C (.type "object")=some true) (h:Q (.done (.ret (.ref C))) s):
  TX (T5 prog w) A (WZ.«object.__getattribute__» ⟨[.ref x,.str "__class__" tk],[]⟩) Q E s:=by obtain ⟨hh,g,d,t,os⟩:=s;have L0:=I.type (M:=T5 prog w);have L1:=W.looks_find (M:=T5 prog w) X I hf;refine Tf (Th (Tf (Th (Tf (L0.at (Tf (L1.at ?_)))))));show TX _ _ (holding [_] (call _ [_,.ref x,.ref C]) >>= ret) _ _ _;exact Tf (Ul (aav (W.class_get (ox:=ox) (od:=od) X I hm (Th h))))
theorem LK {tk:Tok}{fill expr:Bool}{Q:Ti->Tj->Prop}(X:K.In s.heap) (I:Xn s.heap x ox C od) (hga:Wq K (.ref C) "__getattribute__"=some (some (.builtin "BaseException.__getattribute__"))) (hgt:Wq K (.ref C) "__getattr__"=some none)
  (h:VH (T5 prog w) A (.call (.builtin "BaseException.__getattribute__") ⟨[.ref x,.str name tk],[]⟩) (λr s'=>match r with | .ok (.ret v)=>TX (T5 prog w) A (handedOut v) Q E s' | _=>False) s):TX (T5 prog w) A (getAttrBy (.ref x) (.str name tk) fill expr) Q E s:=by
 obtain ⟨hh,g,d,t,os⟩:=s;have L0:=I.type (M:=T5 prog w);have L1:=aaA (M:=T5 prog w) X hga;have L2:=aaA (M:=T5 prog w) X hgt;have SQ:(ZE "BaseException.__getattribute__" == ZE "object.__getattribute__")=false:=by decide +kernel
 unfold getAttrBy;refine Ul (Tf (L0.at (Tf (L1.at ?_))));dsimp only;rw [SQ,WX,if_neg (by decide)];unfold getAttrByItsOwn;refine Tf (L2.at ?_);have h0:(expr && onTheHeap (ZE "BaseException.__getattribute__"))=false:=by cases expr <;> rfl
 refine Tf (Wh (Ul ?_));unfold callGetattribute;rw [h0,if_neg (by decide)];unfold boundAndCalled;rw [YU.ga.bind (.ref x)];refine Tf (Th (aav (WK h λr s' q=>?_)))
 match r,q with
 | .ok (.ret v),q=>exact q
theorem get_class {Q:Option Ti->Tj->Prop}(X:K.In s.heap) (I:Xn s.heap x ox C od) (hga:Wq K (.ref C) "__getattribute__"=some (some (.builtin "BaseException.__getattribute__"))) (hgt:Wq K (.ref C) "__getattr__"=some none)
  (hm:Xe K C (.type "BaseException")=some true) (hf:YT K C od "__class__"=some (.bind (.builtin "getset_descriptor.__get__") (.builtin "object.__class__"))) (ho:Xe K C (.type "object")=some true) (h:Q (some (.ref C)) {s with toks:=s.toks + 1}):
  TX (T5 prog w) A (getAttr? (.ref x) "__class__") Q E s:=by obtain ⟨hp,g,d,t,os⟩:=s;unfold getAttr? getAttrBy?;refine Tf (wpAny_mkText (Tf (Wh (LK (s:=⟨hp,g,d,t + 1,os⟩) X I hga hgt ?_))));refine YJ YU.ga.plain F.entry_bexc_ga (FW (s:=⟨hp,g,d,t + 1,os⟩) X I hm (entry_class (s:=⟨hp,g,d,t + 1,os⟩) X I hf ho ?_));exact Th (Th h)
end
end DX
namespace DX
open PySem PySem.Spec PyProof.Rows L2
abbrev Ad:List Ti:=[.type "ValueError",.type "Exception",.type "BaseException",.type "object"]
def quiet:List Str:=["__init__","__setattr__","name","letter","many","told","point","row"]
structure GX (K:Tg) (P:T3):Prop where
 gt:abm K (.builtin "object.__class__") "__get__"=some (some (.builtin "getset_descriptor.__get__"))
 tk:ab5 K (.builtin "object.__class__")=some true
 lk:∃nm q N bs sn sub ab col dd k0 k1 k2 k3 k5,K.lookup P=some (excClassObj nm q P N bs Ad true sn sub ab col dd k0 k1 k2 k3 k5 "ValueError.__new__")/\∀h,K.In h->∃m,h.Ns N m/\∀n∈quiet,m n=none
structure XE (K:Tg) (P C:T3):Prop where
 lk:∃nm q N bs sn sub ab col dd k0 k1 k2 k3 k5,K.lookup C=some (excClassObj nm q C N bs (.ref P::Ad) true sn sub ab col dd k0 k1 k2 k3 k5 "ValueError.__new__")
 ga:Wq K (.ref C) "__getattribute__"=some (some (.builtin "BaseException.__getattribute__"))
 gt:Wq K (.ref C) "__getattr__"=some none
 cl:Wq K (.ref C) "__class__"=some (some (.builtin "object.__class__"))
section
variable {K:Tg}{P C:T3}
theorem DR (X:XE K P C):∃cd,XI K C=some cd/\cd.mro=.ref C::.ref P::Ad/\cd.hasDict=true/\W.typeIn K (.ref C)=some (.type "type"):=by
 obtain ⟨nm,q,N,bs,sn,sub,ab,col,dd,k0,k1,k2,k3,k5,l⟩:=X.lk;have h1:XI K C=some {name:=nm,bases:=bs,mro:=.ref C::.ref P::Ad,ns:=N,qualname:=q,hasDict:=true,slotNames:=sn,subclasses:=sub,abstract:=ab,collection:=col,hasDel:=false}:=by unfold XI;rw [l]
 refine ⟨_,h1,rfl,rfl,?_⟩;show (K.lookup C).map (·.cls)=_;rw [l];rfl
theorem zx (X:XE K P C) (b:Ti):Xe K C b=some ((Ww C::.ref P::Ad).contains b):=by obtain ⟨cd,h1,h2,_⟩:=DR X;unfold Xe;rw [h1,ZS,h2];rfl
end
theorem Mf {K:Tg}{P C:T3}(X:XE K P C){T:String}(h1:ab6 T=true) (h2:Ad.contains (.type T)=false):aaI K (.ref C) (.type T)=some false:=by unfold aaI W.kitCls;rw [if_neg (by simp)];simp only [h1,if_true];show Xe K C _=_;rw [zx X,aa7,aa7,h2];rfl
theorem Jr {K:Tg}{C:T3}{od:Option Obj}{name:Str}{a g:Ti}(hc:(XI K C).isSome=true) (ha:Wq K (.ref C) name=some (some a)) (hg:abm K a "__get__"=some (some g)) (ht:ab5 K a=some true):YT K C od name=some (.bind g a):=by obtain ⟨cd,hc⟩:=U1.mp hc;unfold YT;rw [hc,ZS,ha,ZS];simp [hg,ht]
theorem Gq {K:Tg}{e P C:T3}(G:GX K P) (E:XE K P C):W.KitX K (.ref e) (.ref C) (λh=>∃ox od,Xn h e ox C od):=by
 obtain ⟨cd,hc,hm,hd,ht⟩:=DR E;refine ⟨λM h _ ⟨ox,od,I⟩=>I.type,λM h X _=>?_,λh tp dd S7 n sl X htp=>?_,λX ⟨ox,od,I⟩ k=>?_⟩
 ·unfold XI at hc;split at hc
  ·rename_i ho;intro A' Q' E' s' k q;unfold isType loadHead;exact Tf (wpAny_loadPart (k _ _ (X _ _ ho)) (Th q))
  ·cases hc
 ·refine Xf.mpr λq=>?_;obtain rfl:C=tp:=aeA (beq_iff_eq.mp q);unfold XI at hc;split at hc
  ·rename_i ho;have z:=(X _ _ ho).symm.trans htp;cases z
  ·cases hc
 ·exact get_class X I E.ga E.gt (by rw [zx E];simp) (Jr (by rw [hc];rfl) E.cl G.gt G.tk) (by rw [zx E];simp) k
end DX
namespace DL
open PySem PySem.Spec PyProof.Rows L2
inductive D where
 | non | bl (b:Bool) | int (i:Int) | str (x:Str) | tup (xs:List D) | lst (xs:List D) | emp
 | exn (cls:Str) (ns:List Str) (ds:List D)
  | dct (ks vs:List D)
mutual
noncomputable def isKey:D->Bool
 | .int _=>true
 | .tup xs=>areKeys xs
 | _=>false
noncomputable def areKeys:List D->Bool
 | []=>true
 | x::xs=>isKey x && areKeys xs
end
mutual
noncomputable def bT:D->Int
 | .int i=>hashInt i
 | .tup xs=>acZ (UW (bZ xs))
 | _=>0
noncomputable def bZ:List D->List Int
 | []=>[]
 | x::xs=>bT x::bZ xs
end
mutual
noncomputable def dep:D->Nat
 | .tup xs=>deps xs + 1
 | .lst xs=>deps xs + 1
 | .emp=>5000
 | .exn _ _ _=>5000
 | .dct _ _=>5000
 | _=>0
noncomputable def deps:List D->Nat
 | []=>0
 | x::xs=>max (dep x) (deps xs)
end
structure Lb (ks:List D):Prop where
 key:areKeys ks=true
 nd:ks.Nodup
 dp:deps ks<=8
 tp:∀k∈ks,∃xs,k=.tup xs
def yl (p:Int×V×V) (e:Zp):Prop:=e.hash=p.1/\RelV p.2.1 e.key/\RelV p.2.2 e.val
abbrev iA (a:T3) (ep:Nat) (Td:List (Int×V×V)):HO:=.ext λh=>∃o es,h.get? a=some o/\o.ExactDict/\o.data=.dict es ep/\Zn yl Td es.toList
noncomputable def XF (J:Hp) (dx:Option T3) (ns:List Str) (vs:List V):Prop:=(dx=none/\ns=[]/\vs=[])\/∃d,dx=some d/\ns.length=vs.length/\J d=some (.xd (ns.zip vs))
theorem XF.mono {J J':Hp}(e:aS J J') (h:XF J dx ns vs):XF J' dx ns vs:=by
 rcases h with h | ⟨d,h1,h2,h3⟩
 ·exact .inl h
 ·exact .inr ⟨d,h1,h2,e _ _ h3⟩
mutual
inductive Rep (K:Tg) (J:Hp):D->V->Prop
 | non:Rep K J .non .non
 | bl (b:Bool):Rep K J (.bl b) (.bl b)
 | int (i:Int):Rep K J (.int i) (.int i)
 | str (x:Str):Rep K J (.str x) (.str x)
 | emp {a:T3}:J a=some (.dK [])->Rep K J .emp (.ref a)
 | tup {a:T3}{vs:List V}{ds:List D}:cZ K J a vs->aJ K J ds vs->Rep K J (.tup ds) (.ref a)
 | lst {a:T3}{vs:List V}{ds:List D}:bY K J a vs->aJ K J ds vs->Rep K J (.lst ds) (.ref a)
 | exn {a C:T3}{dx:Option T3}{cls:Str}{ns:List Str}{vs:List V}{ds:List D}:J a=some (DX.XO a C dx)->Ur K Ug cls=some (some (.ref C))->XF J dx ns vs->aJ K J ds vs->(∃P,DX.GX K P/\DX.XE K P C)->Rep K J (.exn cls ns ds) (.ref a)
 | dct {a:T3}{ep:Nat}{ks vs:List D}{us ws:List V}:J a=some (iA a ep ((bZ ks).zip (us.zip ws)))->aJ K J ks us->aJ K J vs ws->Lb ks->(a == V8)=false/\ks.length=vs.length->Rep K J (.dct ks vs) (.ref a)
inductive aJ (K:Tg) (J:Hp):List D->List V->Prop
 | nil:aJ K J [] []
 | cons {d:D}{v:V}{ds:List D}{vs:List V}:Rep K J d v->aJ K J ds vs->aJ K J (d::ds) (v::vs)
end
theorem fD {K:Tg}{H H':Hp}{a:T3}{xs:List V}(e:aS H H') (h:cZ K H a xs):cZ K H' a xs:=by
 rcases h with (h | ⟨o,h⟩) | h
 ·exact .inl (.inl (e _ _ h))
 ·exact .inl (.inr ⟨o,e _ _ h⟩)
 ·exact .inr h
mutual
theorem Rep.mono {K:Tg}{J J':Hp}(e:aS J J'):∀{d:D}{v:V},Rep K J d v->Rep K J' d v
 | _,_,.non=>.non
 | _,_,.bl b=>.bl b
 | _,_,.int i=>.int i
 | _,_,.str x=>.str x
 | _,_,.emp h=>.emp (e _ _ h)
 | _,_,.tup h hs=>.tup (fD e h) (aJ.mono e hs)
 | _,_,.lst h hs=>.lst (e.seq h) (aJ.mono e hs)
 | _,_,.exn h1 h2 h3 hs hx=>.exn (e _ _ h1) h2 (h3.mono e) (aJ.mono e hs) hx
 | _,_,.dct h h1 h2 h3 h4=>.dct (e _ _ h) (aJ.mono e h1) (aJ.mono e h2) h3 h4
theorem aJ.mono {K:Tg}{J J':Hp}(e:aS J J'):∀{ds:List D}{vs:List V},aJ K J ds vs->aJ K J' ds vs
 | _,_,.nil=>.nil
 | _,_,.cons h hs=>.cons (Rep.mono e h) (aJ.mono e hs)
end
section
variable {K:Tg}{J:Hp}
theorem aJ.length:∀{ds:List D}{vs:List V},aJ K J ds vs->ds.length=vs.length
 | _,_,.nil=>rfl
 | _,_,.cons _ hs=>congrArg (· + 1) (aJ.length hs)
theorem aJ.get:∀{ds:List D}{vs:List V}{i:Nat}{d:D},aJ K J ds vs->ds[i]?=some d->∃v,vs[i]?=some v/\Rep K J d v
 | _,_,_,_,.nil,e=>by simp at e
 | _,_,0,_,.cons r _,e=>by simp at e;subst e;exact ⟨_,rfl,r⟩
 | _,_,i + 1,d,.cons _ t,e=>by obtain ⟨v,h1,h2⟩:=aJ.get (i:=i) (d:=d) t (by simpa using e);exact ⟨v,by simpa using h1,h2⟩
theorem aJ.append:∀{ds es:List D}{vs us:List V},aJ K J ds vs->aJ K J es us->aJ K J (ds++es) (vs++us)
 | _,_,_,_,.nil,s=>s
 | _,_,_,_,.cons r t,s=>.cons r (aJ.append t s)
theorem aJ.take:∀{ds:List D}{vs:List V}(n:Nat),aJ K J ds vs->aJ K J (ds.take n) (vs.take n)
 | _,_,0,_=>.nil
 | _,_,_ + 1,.nil=>.nil
 | _,_,n + 1,.cons r t=>.cons r (aJ.take n t)
theorem aJ.drop:∀{ds:List D}{vs:List V}(n:Nat),aJ K J ds vs->aJ K J (ds.drop n) (vs.drop n)
 | _,_,0,r=>r
 | _,_,_ + 1,.nil=>.nil
 | _,_,n + 1,.cons _ t=>aJ.drop n t
end
noncomputable def dI (K:Tg) (J H:Hp) (a:T3) (ks vs:List D):Prop:=∃us ws ep,H a=some (iA a ep ((bZ ks).zip (us.zip ws)))/\aJ K J ks us/\aJ K J vs ws/\Lb ks/\(a == V8)=false/\ks.length=vs.length
theorem dI.mono {K:Tg}{J J' H H':Hp}{a:T3}{ks vs:List D}(e:aS J J') (e':aS H H'):dI K J H a ks vs->dI K J' H' a ks vs
 | ⟨us,ws,ep,h1,h2,h3,h4⟩=>⟨us,ws,ep,e' _ _ h1,h2.mono e,h3.mono e,h4⟩
theorem dI.ne {K:Tg}{J H:Hp}{a:T3}{ks vs:List D}:dI K J H a ks vs->H a≠none
 | ⟨us,ws,ep,h1,_⟩=>by rw [h1];intro z;cases z
theorem dI.rep {K:Tg}{J H:Hp}{a:T3}{ks vs:List D}(e:aS J H):dI K J H a ks vs->Rep K H (.dct ks vs) (.ref a)
 | ⟨us,ws,ep,h1,h2,h3,h4,h5⟩=>.dct h1 (h2.mono e) (h3.mono e) h4 h5
structure Exc where
 cls:Str
 ns:List Str
 ds:List D
inductive M (α:Type) where
 | bad | ok (a:α) | exc (x:Exc)
noncomputable def M.bind {α β:Type}:M α->(α->M β)->M β
 | .bad,_=>.bad
 | .ok a,f=>f a
 | .exc x,_=>.exc x
instance:Monad M where
 pure:=M.ok
 bind:=M.bind
@[simp] theorem aL {α β:Type}(a:α) (f:α->M β):(M.ok a >>= f)=f a:=rfl
noncomputable def cg {α:Type}(m:M α) (Q:α->Prop) (T:Exc->Prop):Prop:=match m with
 | .bad=>False
 | .ok a=>Q a
 | .exc x=>T x
theorem aH {α β:Type}{m:M α}{f:α->M β}{Q:β->Prop}{T:Exc->Prop}(h:cg (m >>= f) Q T):cg m (λa=>cg (f a) Q T) T:=by
 cases m with
 | bad=>exact h
 | ok a=>exact h
 | exc x=>exact h
theorem aD {α:Type}{m:M α}{Q Q':α->Prop}{T:Exc->Prop}(h:cg m Q T) (k:∀a,Q a->Q' a):cg m Q' T:=by
 cases m with
 | bad=>exact h
 | ok a=>exact k a h
 | exc x=>exact h
inductive Md where
 | fresh | own | bor
inductive R where
 | d (x:D) | l (m:Md) (xs:List D)
  | mo (ks vs:List D) | mb (ks vs:List D) | mf (ks vs:List D)
inductive S where
 | d (x:D) | own (xs:List D) | bor (xs:List D) | dk (ks vs:List D) | db (ks vs:List D)
  | fn (x:Str)
abbrev Ev:=List (Option S)
abbrev Mn:=List D ⊕ (List D×List D)
noncomputable def mS:Mn->S
 | .inl xs=>.own xs
 | .inr p=>.dk p.1 p.2
structure C where
 K:Tg
 H0:Hp
 J0:Hp
 T:Exc->Prop
structure HI (c:C) (J H:Hp):Prop where
 sub:aS J H
 ent:aS c.H0 H
 entJ:aS c.J0 J
 frz:∀a,c.H0 a≠none->c.J0 a=none->J a=none
structure Ext (J H J' H':Hp):Prop where
 h:aS H H'
 j:aS J J'
 sub:aS J' H'
 frz:∀a,H a≠none->J a=none->J' a=none
theorem aS.ne {H H':Hp}(e:aS H H') (h:H a≠none):H' a≠none:=by
 cases q:H a with
 | none=>exact absurd q h
 | some o=>rw [e a o q];intro z;cases z
theorem Ext.refl {J H:Hp}(h:aS J H):Ext J H J H:=⟨aS.refl H,aS.refl J,h,λ_ _ q=>q⟩
theorem Ext.trans {J H J1 H1 J2 H2:Hp}(a:Ext J H J1 H1) (b:Ext J1 H1 J2 H2):Ext J H J2 H2:=
 ⟨a.h.trans b.h,a.j.trans b.j,b.sub,λp h q=>b.frz p (aS.ne a.h h) (a.frz p h q)⟩
theorem HI.ext {J H J' H':Hp}(h:HI c J H) (e:Ext J H J' H'):HI c J' H':=
 ⟨e.sub,h.ent.trans e.h,h.entJ.trans e.j,λa h0 j0=>e.frz a (aS.ne h.ent h0) (h.frz a h0 j0)⟩
theorem cO {H:Hp}(h:H p=none) (o:HO):aS H (upd H p o):=λb u q=>by rw [bA (fc q h)];exact q
theorem Ext.new {J H:Hp}(h:aS J H) (e:H p=none) (o:HO):Ext J H J (upd H p o):=
 ⟨cO e o,aS.refl J,λb u q=>cO e o b u (h b u q),λ_ _ q=>q⟩
theorem Ext.newJ {J H:Hp}(h:aS J H) (e:H p=none) (o:HO):Ext J H (upd J p o) (upd H p o):=
 ⟨cO e o,cO (h.free e) o,λb u q=>by
  by_cases hb:b=p
  ·subst hb;rw [b9] at q ⊢;exact q
  ·rw [bA hb] at q ⊢;exact h b u q,λa ha q=>by
  have:a≠p:=λz=>ha (z▸e);rw [bA this];exact q⟩
noncomputable def se (c:C) (J H:Hp):S->V->Prop
 | .d x,v=>Rep c.K J x v
 | .own xs,v=>∃a vs,v=.ref a/\H a=some (.lst vs)/\J a=none/\c.H0 a=none/\aJ c.K J xs vs
 | .bor xs,v=>∃a vs,v=.ref a/\bY c.K c.H0 a vs/\aJ c.K J xs vs
 | .dk ks vs,v=>∃a,v=.ref a/\dI c.K J H a ks vs/\J a=none/\c.H0 a=none
 | .db ks vs,v=>∃a,v=.ref a/\dI c.K J c.H0 a ks vs
 | .fn x,v=>∃f,v=.ref f/\Ur c.K Ug x=some (some (.ref f))
theorem se.ext {c:C}{J H J' H':Hp}(e:Ext J H J' H'):∀{x:S}{v:V},se c J H x v->se c J' H' x v
 | .d x,v,h=>Rep.mono e.j h
 | .own xs,v,⟨a,vs,h1,h2,h3,h4,h5⟩=>⟨a,vs,h1,e.h _ _ h2,e.frz a (by rw [h2];intro z;cases z) h3,h4,aJ.mono e.j h5⟩
 | .bor xs,v,⟨a,vs,h1,h2,h3⟩=>⟨a,vs,h1,h2,aJ.mono e.j h3⟩
 | .dk _ _,v,⟨a,h1,h2,h3,h4⟩=>⟨a,h1,h2.mono e.j e.h,e.frz a h2.ne h3,h4⟩
 | .db _ _,v,⟨a,h1,h2⟩=>⟨a,h1,h2.mono e.j (aS.refl _)⟩
 | .fn _,v,h=>h
structure SR (c:C) (J H:Hp) (σ:L2.St) (env:Ev):Prop where
 hp:HI c J H
 len:env.length=σ.length
 at_:∀(i:Nat) (x:S),env[i]?=some (some x)->∃v,σ[i]?=some (some v)/\se c J H x v
 sep:∀(i j:Nat) (xs ys:Mn) (v:V),i≠j->env[i]?=some (some (mS xs))->env[j]?=some (some (mS ys))->σ[i]?=some (some v)->σ[j]?≠some (some v)
theorem SR.ext {J H J' H':Hp}(h:SR c J H σ env) (e:Ext J H J' H'):SR c J' H' σ env:=
 ⟨h.hp.ext e,h.len,λi x q=>let ⟨v,q1,q2⟩:=h.at_ i x q;⟨v,q1,q2.ext e⟩,h.sep⟩
theorem SR.mine {c:C}{J H:Hp}{σ:L2.St}{env:Ev}(sr:SR c J H σ env){i:Nat}:∀{x:Mn},env[i]?=some (some (mS x))->∃p,σ[i]?=some (some (.ref p))/\H p≠none/\J p=none/\c.H0 p=none
 | .inl xs,h=>let ⟨_,k1,p,vs,e,k2,k3,k4,_⟩:=sr.at_ i (.own xs) h;⟨p,e▸k1,by rw [k2];exact λz=>(by cases z),k3,k4⟩
 | .inr q,h=>let ⟨_,k1,p,e,k2,k3,k4⟩:=sr.at_ i (.dk q.1 q.2) h;⟨p,e▸k1,k2.ne,k3,k4⟩
noncomputable def RR (c:C) (He J H:Hp):R->V->Prop
 | .d x,v=>Rep c.K J x v
 | .l .fresh xs,v=>∃a vs,v=.ref a/\H a=some (.lst vs)/\J a=none/\He a=none/\aJ c.K J xs vs
 | .l .own xs,v=>∃a vs,v=.ref a/\H a=some (.lst vs)/\J a=none/\c.H0 a=none/\aJ c.K J xs vs
 | .l .bor xs,v=>∃a vs,v=.ref a/\bY c.K c.H0 a vs/\aJ c.K J xs vs
 | .mo ks vs,v=>∃a,v=.ref a/\dI c.K J H a ks vs/\J a=none/\c.H0 a=none
 | .mb ks vs,v=>∃a,v=.ref a/\dI c.K J c.H0 a ks vs
 | .mf ks vs,v=>∃a,v=.ref a/\dI c.K J H a ks vs/\J a=none/\He a=none
theorem RR.ext {c:C}{He J H J' H':Hp}(e:Ext J H J' H'):∀{x:R}{v:V},RR c He J H x v->RR c He J' H' x v
 | .d x,v,h=>Rep.mono e.j h
 | .l .fresh xs,v,⟨a,vs,h1,h2,h3,h4,h5⟩=>⟨a,vs,h1,e.h _ _ h2,e.frz a (by rw [h2];intro z;cases z) h3,h4,aJ.mono e.j h5⟩
 | .l .own xs,v,⟨a,vs,h1,h2,h3,h4,h5⟩=>⟨a,vs,h1,e.h _ _ h2,e.frz a (by rw [h2];intro z;cases z) h3,h4,aJ.mono e.j h5⟩
 | .l .bor xs,v,⟨a,vs,h1,h2,h3⟩=>⟨a,vs,h1,h2,aJ.mono e.j h3⟩
 | .mo _ _,v,⟨a,h1,h2,h3,h4⟩=>⟨a,h1,h2.mono e.j e.h,e.frz a h2.ne h3,h4⟩
 | .mb _ _,v,⟨a,h1,h2⟩=>⟨a,h1,h2.mono e.j (aS.refl _)⟩
 | .mf _ _,v,⟨a,h1,h2,h3,h4⟩=>⟨a,h1,h2.mono e.j e.h,e.frz a h2.ne h3,h4⟩
theorem RR.from {c:C}{He He' J H:Hp}(e:aS He He'):∀{x:R}{v:V},RR c He' J H x v->RR c He J H x v
 | .d x,v,h=>h
 | .l .fresh xs,v,⟨a,vs,h1,h2,h3,h4,h5⟩=>⟨a,vs,h1,h2,h3,e.free h4,h5⟩
 | .l .own xs,v,h=>h
 | .l .bor xs,v,h=>h
 | .mo _ _,v,h=>h
 | .mb _ _,v,h=>h
 | .mf _ _,v,⟨a,h1,h2,h3,h4⟩=>⟨a,h1,h2,h3,e.free h4⟩
noncomputable def iU:R->M (List D)
 | .d (.lst xs)=>.ok xs
 | .l _ xs=>.ok xs
 | _=>.bad
noncomputable def toD:R->M D
 | .d x=>.ok x
 | .l .fresh xs=>.ok (.lst xs)
 | .mf ks vs=>.ok (.dct ks vs)
 | _=>.bad
theorem RR.list {c:C}{He J H:Hp}(hp:HI c J H):∀{r:R}{v:V}{xs:List D},RR c He J H r v->iU r=.ok xs->∃a vs,v=.ref a/\bY c.K H a vs/\aJ c.K J xs vs
 | .d (.lst ys),v,xs,h,e=>by
  cases e;cases h with
  | lst h hs=>exact ⟨_,_,rfl,hp.sub.seq h,hs⟩
 | .l .fresh ys,v,xs,⟨a,vs,h1,h2,h3,h4,h5⟩,e=>by cases e;exact ⟨a,vs,h1,bY.of h2,h5⟩
 | .l .own ys,v,xs,⟨a,vs,h1,h2,h3,h4,h5⟩,e=>by cases e;exact ⟨a,vs,h1,bY.of h2,h5⟩
 | .l .bor ys,v,xs,⟨a,vs,h1,h2,h3⟩,e=>by cases e;exact ⟨a,vs,h1,hp.ent.seq h2,h3⟩
 | .d .non,_,_,_,e=>nomatch e
 | .d (.bl _),_,_,_,e=>nomatch e
 | .d (.int _),_,_,_,e=>nomatch e
 | .d (.str _),_,_,_,e=>nomatch e
 | .d (.tup _),_,_,_,e=>nomatch e
 | .d .emp,_,_,_,e=>nomatch e
 | .d (.dct _ _),_,_,_,e=>nomatch e
 | .mo _ _,_,_,_,e=>nomatch e
 | .mb _ _,_,_,_,e=>nomatch e
 | .mf _ _,_,_,_,e=>nomatch e
theorem AY {Je He J H:Hp}(x:Ext Je He J H) (h2:H a=some o) (h3:J a=none) (h4:He a=none):Ext Je He (upd J a o) H:=by
 refine ⟨x.h,x.j.trans (cO h3 _),λb u q=>?_,λb hb q=>?_⟩
 ·by_cases hb:b=a
  ·subst hb;rw [b9] at q;cases q;exact h2
  ·rw [bA hb] at q;exact x.sub b u q
 ·have:b≠a:=λz=>hb (z▸h4);rw [bA this];exact x.frz b hb q
theorem freeze {c:C}{Je He J H:Hp}(x:Ext Je He J H):∀{r:R}{v:V}{d:D},RR c He J H r v->toD r=.ok d->∃J',Ext Je He J' H/\aS J J'/\Rep c.K J' d v
 | .d y,v,d,h,e=>by cases e;exact ⟨J,x,aS.refl J,h⟩
 | .l .fresh ys,v,d,⟨a,vs,h1,h2,h3,h4,h5⟩,e=>by cases e;subst h1;exact ⟨_,AY x h2 h3 h4,cO h3 _,.lst (.inl (.inl b9)) (aJ.mono (cO h3 _) h5)⟩
 | .mf ks vs,v,d,⟨a,h1,⟨us,ws,ep,h2,m1,m2,m3⟩,h3,h4⟩,e=>by cases e;subst h1;exact ⟨_,AY x h2 h3 h4,cO h3 _,.dct b9 (m1.mono (cO h3 _)) (m2.mono (cO h3 _)) m3.1 m3.2⟩
 | .l .own _,_,_,_,e=>nomatch e
 | .l .bor _,_,_,_,e=>nomatch e
 | .mo _ _,_,_,_,e=>nomatch e
 | .mb _ _,_,_,_,e=>nomatch e
abbrev G (α:Type):=Ev->M α
def tD (c:C) (g:G R):TE:=λσ H Q=>∃J env,SR c J H σ env/\cg (g env) (λr=>∀v J' H',Ext J H J' H'->RR c H J' H' r v->Q v H') c.T
def PD (X:Cx) (c:C) (e:Uo) (g:G R):Prop:=PE X e (tD c g)
def tB (c:C) (g:G Bool):TT:=λσ H Q=>∃J env,SR c J H σ env/\cg (g env) (λb=>∀J' H',Ext J H J' H'->Q b H') c.T
def PB (X:Cx) (c:C) (e:Uo) (g:G Bool):Prop:=PT X e (tB c g)
noncomputable def kg (c:C) (He J H:Hp):List R->List V->Prop
 | [],vs=>vs=[]
 | r::rs,vs=>∃v us,vs=v::us/\RR c He J H r v/\kg c He J H rs us
def tA (c:C) (g:G (List R)):TA:=λσ H Q=>∃J env,SR c J H σ env/\cg (g env) (λrs=>∀vs J' H',Ext J H J' H'->kg c H J' H' rs vs->Q vs H') c.T
def Dj (X:Cx) (c:C) (es:List Uo) (g:G (List R)):Prop:=PA X es (tA c g)
def PY (c:C) (g:G (List D)):TA:=λσ H Q=>∃J env,SR c J H σ env/\cg (g env) (λds=>∀vs J' H',Ext J H J' H'->aJ c.K J' ds vs->Q vs H') c.T
def PF (X:Cx) (c:C) (es:List Uo) (g:G (List D)):Prop:=PA X es (PY c g)
inductive O where
 | nx (e:Ev) | rt (r:R) | bk (e:Ev) | ct (e:Ev)
noncomputable def RF (c:C) (J H:Hp):R->V->Prop
 | .d x,v=>Rep c.K J x v
 | .l _ xs,v=>∃a vs,v=.ref a/\H a=some (.lst vs)/\J a=none/\c.H0 a=none/\aJ c.K J xs vs
 | .mf ks vs,v=>∃a,v=.ref a/\dI c.K J H a ks vs/\J a=none/\c.H0 a=none
 | _,_=>False
noncomputable def oP (c:C) (J:Hp) (E:Ends):O->Prop
 | .nx e=>∀σ' J' H',aS J J'->SR c J' H' σ' e->E.nx σ' H'
 | .rt r=>∀v J' H',aS J J'->HI c J' H'->RF c J' H' r v->E.rt v H'
 | .bk e=>∀σ' J' H',aS J J'->SR c J' H' σ' e->E.bk σ' H'
 | .ct e=>∀σ' J' H',aS J J'->SR c J' H' σ' e->E.ct σ' H'
def tS (c:C) (g:G O):TS:=λE σ H=>∃J env,SR c J H σ env/\cg (g env) (oP c J E) c.T
def Lc (X:Cx) (c:C) (st:Wm) (g:G O):Prop:=PS X st (tS c g)
def HS (X:Cx) (c:C) (st:List Wm) (g:G O):Prop:=kc X st (tS c g)
theorem oP.mono {c:C}{J J1:Hp}{E:Ends}(e:aS J J1):∀{o:O},oP c J E o->oP c J1 E o
 | .nx _,h=>λσ' J' H' q r=>h σ' J' H' (e.trans q) r
 | .rt _,h=>λσ' J' H' q r=>h σ' J' H' (e.trans q) r
 | .bk _,h=>λσ' J' H' q r=>h σ' J' H' (e.trans q) r
 | .ct _,h=>λσ' J' H' q r=>h σ' J' H' (e.trans q) r
theorem fC {t t':TE}(h:PE X e t) (k:∀σ H Q,t' σ H Q->t σ H Q):PE X e t':=λS6 s σ H Q I q=>h S6 s σ H Q I (k σ H Q q)
theorem yg (h:PT X e t) (k:∀σ H Q,t' σ H Q->t σ H Q):PT X e t':=λS6 s σ H Q I q=>h S6 s σ H Q I (k σ H Q q)
theorem yd (h:PA X es t) (k:∀σ H Q,t' σ H Q->t σ H Q):PA X es t':=λpos S6 s σ H Q I q=>h pos S6 s σ H Q I (k σ H Q q)
theorem iH {st:Wm}{t t':TS}(h:PS X st t) (k:∀D σ H,t' D σ H->t D σ H):PS X st t':=λS6 s σ H D I q=>h S6 s σ H D I (k D σ H q)
theorem EO {st:List Wm}{t t':TS}(h:kc X st t) (k:∀D σ H,t' D σ H->t D σ H):kc X st t':=λS6 s σ H D I q=>h S6 s σ H D I (k D σ H q)
section
variable {X:Cx}{c:C}{e a b:Uo}{ga gb:G R}{pos:Pos}
noncomputable def S.rd:S->M R
 | .d x=>.ok (.d x)
 | .own xs=>.ok (.l .own xs)
 | .bor xs=>.ok (.l .bor xs)
 | .dk ks vs=>.ok (.mo ks vs)
 | .db ks vs=>.ok (.mb ks vs)
 | .fn _=>.bad
noncomputable def af (i:Nat):G R:=λenv=>match env[i]? with
 | some (some x)=>x.rd
 | _=>.bad
theorem JZ (h:PE X (.Name x pos) (Nc i)):PD X c (.Name x pos) (af i):=fC h λσ H Q ⟨J,env,sr,w⟩=>by
 unfold af at w;cases q:env[i]? with
 | none=>rw [q] at w;exact w.elim
 | some o=>
  cases o with
  | none=>rw [q] at w;exact w.elim
  | some x=>
   rw [q] at w;obtain ⟨v,h1,h2⟩:=sr.at_ i x q;refine ⟨v,h1,?_⟩;cases x with
   | fn _=>exact w.elim
   | _=>exact w v J H (Ext.refl sr.hp.sub) h2
def gC (d:D):G R:=λ_=>.ok (.d d)
theorem uw (hr:∀J,Rep c.K J d v) (h:PE X e (tC v)):PD X c e (gC d):=fC h λσ H Q ⟨J,env,sr,w⟩=>w v J H (Ext.refl sr.hp.sub) (hr J)
noncomputable def BD (c:C) (r:R2) (f:R->R->M R):Prop:=∀(He He' J H:Hp) (x y:R) (u v:V) (Q:VK),HI c J H->RR c He J H x u->RR c He' J H y v->
 cg (f x y) (λz=>∀w J' H',Ext J H J' H'->RR c H J' H' z w->Q w H') c.T->r u v H Q
def g2 (f:R->R->M R) (ga gb:G R):G R:=λenv=>ga env >>= λx=>gb env >>= λy=>f x y
theorem two {P:R->R->M R}{σ:L2.St}{H:Hp}{k:V->V->Hp->Prop}{Q:VK}{J:Hp}{env:Ev}(sr:SR c J H σ env)
  (w:cg (g2 P ga gb env) (λr=>∀v J' H',Ext J H J' H'->RR c H J' H' r v->Q v H') c.T)
  (hk:∀x y u v J2 H2,SR c J2 H2 σ env->Ext J H J2 H2->RR c H J2 H2 x u->RR c H J2 H2 y v->cg (P x y) (λz=>∀w J' H',Ext J2 H2 J' H'->RR c H2 J' H' z w->Q w H') c.T->k u v H2):
  tD c ga σ H λu H1=>tD c gb σ H1 λv H2=>k u v H2:=by refine ⟨J,env,sr,aD (aH w) λx wx u J1 H1 e1 r1=>?_⟩;have sr1:=sr.ext e1;refine ⟨J1,env,sr1,aD (aH wx) λy wy v J2 H2 e2 r2=>?_⟩;exact hk x y u v J2 H2 (sr1.ext e2) (e1.trans e2) (r1.ext e2) (RR.from e1.h r2) (aD wy λz q w J' H' e3 r3=>q w J' H' ((e1.trans e2).trans e3) (RR.from (e1.h.trans e2.h) r3))
theorem GS {t:TE}{f:R->R->M R}(ht:PE X e t) (heq:t=Fg r (tD c ga) (tD c gb)) (hf:BD c r f):PD X c e (g2 f ga gb):=by subst heq;exact fC ht λσ H Q ⟨J,env,sr,w⟩=>two (k:=λu v H2=>r u v H2 Q) sr w λx y u v J2 H2 sr2 e2 r1 r2 q=>hf H H J2 H2 x y u v Q sr2.hp r1 r2 q
theorem kD {f:R->R->M R}(ho:cS X (WN op) r) (hf:BD c r f) (ha:PD X c a ga) (hb:PD X c b gb):PD X c (.BinOp a op b pos) (g2 f ga gb):=GS (NV ho ha hb) rfl hf
theorem pS {f:R->R->M R}(ho:cS X (Vi op) r) (hf:BD c r f) (ha:PD X c a ga) (hb:PD X c b gb) (hm:UZ op b=false:=by first | exact zB _ | rfl):PD X c (.Compare a [op] [b] pos) (g2 f ga gb):=GS (J_ ho ha hb hm) rfl hf
theorem Iu {f:R->R->M R}(ho:oU X r) (hf:BD c r f) (ha:PD X c a ga) (hb:PD X c b gb) (hs:qm b:=by exact λ_ _=>rfl):PD X c (.Subscript a b pos) (g2 f ga gb):=GS (NU ho ha hb hs) rfl hf
theorem BD.or {r r':R2}{f f':R->R->M R}(p:R->R->Bool) (h:BD c r f) (h':BD c r' f'):BD c (λx y H Q=>r x y H Q\/r' x y H Q) (λx y=>if p x y then f x y else f' x y):=by
 intro He He' J H x y u v Q hp rx ry w;simp only at w;cases q:p x y with
 | true=>rw [q] at w;exact .inl (h He He' J H x y u v Q hp rx ry w)
 | false=>rw [q] at w;exact .inr (h' He He' J H x y u v Q hp rx ry w)
noncomputable def fI (C:Int->Int->Bool) (f:Int->Int->D):R->R->M R
 | .d (.int i),.d (.int j)=>if C i j then .ok (.d (f i j)) else .bad
 | _,_=>.bad
noncomputable def iB (f:Int->Int->D):R->R->M R
 | .d (.int i),.d (.int j)=>.ok (.d (f i j))
 | _,_=>.bad
theorem yE {P:Int->Int->Prop}{Cb:Int->Int->Bool}{g:Int->Int->V}{f:Int->Int->D}(hC:∀i j,Cb i j=true->P i j) (hr:∀i j J,Rep c.K J (f i j) (g i j)):BD c (rI P g) (fI Cb f):=by
 intro He He' J H x y u v Q hp rx ry w;unfold fI at w;split at w
 ·cases rx;cases ry;rename_i i j;cases q:Cb i j with
  | true=>rw [q] at w;exact ⟨i,j,rfl,rfl,hC i j q,w _ J H (Ext.refl hp.sub) (hr i j J)⟩
  | false=>rw [q] at w;exact w.elim
 ·exact w.elim
theorem f7 {g:Int->Int->V}{f:Int->Int->D}(hr:∀i j J,Rep c.K J (f i j) (g i j)):BD c (pV g) (iB f):=by
 intro He He' J H x y u v Q hp rx ry w;unfold iB at w;split at w
 ·cases rx;cases ry;rename_i i j;exact ⟨i,j,rfl,rfl,w _ J H (Ext.refl hp.sub) (hr i j J)⟩
 ·exact w.elim
def below (n:Nat) (j:Int):Bool:=Nat.blt j.natAbs n
theorem cH:below n j=true↔-(n:Int) < j/\j < n:=by unfold below;rw [Nat.blt_eq];omega
def Cj (_ j:Int):Bool:=decide (0 < j) && below 1073741824 j
def L_ (_ j:Int):Bool:=decide (0 < j)
def zj (i j:Int):Bool:=below 18446744073709551616 i || below 18446744073709551616 j
theorem JB (h:zj i j=true):(-(2 ^ 64) < i/\i < 2 ^ 64)\/(-(2 ^ 64) < j/\j < 2 ^ 64):=by unfold zj at h;rw [WC] at h;exact h.imp cH.mp cH.mp
theorem JA (h:Cj i j=true):0 < j/\j < 1073741824:=by unfold Cj at h;rw [Tt] at h;exact ⟨of_decide_eq_true h.1,(cH.mp h.2).2⟩
def Gm (i j:Int):Bool:=decide (0<=j) && below 1000001 j && below 18446744073709551616 i
theorem JC {i j:Int}(h:Gm i j=true):0<=j/\j<=1000000/\i.natAbs < 2 ^ 64:=by unfold Gm at h;rw [Tt,Tt] at h;have h2:=cH.mp h.1.2;have h3:=cH.mp h.2;exact ⟨of_decide_eq_true h.1.1,by omega,by omega⟩
abbrev u_:R->R->M R:=iB λi j=>.int (i + j)
abbrev yZ:R->R->M R:=iB λi j=>.int (i - j)
abbrev LC:R->R->M R:=fI zj λi j=>.int (i * j)
abbrev ie:R->R->M R:=fI Cj λi j=>.int (i / j)
abbrev dQ:R->R->M R:=fI L_ λi j=>.int (i % j)
abbrev jy:R->R->M R:=fI Gm λi j=>.int (i ^ j.toNat)
noncomputable def tV:R->R->M R
 | .d (.str i),.d (.str j)=>if i.length + j.length<=sizeLine then .ok (.d (.str (i++j))) else .bad
 | _,_=>.bad
theorem KC {K:Tg}{J:Hp}{ds:List D}{vs:List V}{i:Int}{d:D}(h:aJ K J ds vs) (e:lM ds i=some d):∃v,lM vs i=some v/\Rep K J d v:=by
 unfold lM at e ⊢;rw [h.length] at e;cases q:zh vs.length i with
 | none=>rw [q] at e;cases e
 | some j=>rw [q] at e;exact h.get e
theorem iZ {f:List D->M R}{Q:R->Prop}{T:Exc->Prop}(w:cg (iU x >>= f) Q T):∃xs,iU x=.ok xs/\cg (f xs) Q T:=by
 cases q:iU x with
 | bad=>rw [q] at w;exact w.elim
 | ok xs=>rw [q] at w;exact ⟨xs,rfl,w⟩
 | exc z=>unfold iU at q;split at q <;> cases q
noncomputable def zg:R->Bool
 | .l .fresh _=>true
 | .l .own _=>true
 | _=>false
noncomputable def tX (x y:R):M R:=if zg x && zg y then iU x >>= λxs=>iU y >>= λys=>if xs.length + ys.length<=sizeLine then .ok (.l .fresh (xs++ys)) else .bad else .bad
theorem RR.made {He J H:Hp}:∀{r:R}{v:V},zg r=true->RR c He J H r v->∃a vs xs,iU r=.ok xs/\v=.ref a/\H a=some (.lst vs)/\aJ c.K J xs vs
 | .l .fresh xs,v,_,⟨a,vs,h1,h2,h3,h4,h5⟩=>⟨a,vs,xs,rfl,h1,h2,h5⟩
 | .l .own xs,v,_,⟨a,vs,h1,h2,h3,h4,h5⟩=>⟨a,vs,xs,rfl,h1,h2,h5⟩
 | .l .bor _,_,e,_=>nomatch e
 | .mo _ _,_,e,_=>nomatch e
 | .mb _ _,_,e,_=>nomatch e
 | .mf _ _,_,e,_=>nomatch e
 | .d _,_,e,_=>nomatch e
theorem gW {J H:Hp}(hp:HI c J H) (e:H p=none) (h:aJ c.K J xs vs):RR c H J (upd H p (.lst vs)) (.l .fresh xs) (.ref p):=
 ⟨p,vs,rfl,b9,hp.sub.free e,e,h⟩
noncomputable def CD (c:C) (r:List V->Hp->VK->Prop) (f:List R->M R):Prop:=∀(He J H:Hp) (xs:List R) (vs:List V) (Q:VK),HI c J H->kg c He J H xs vs->
 cg (f xs) (λz=>∀w J' H',Ext J H J' H'->RR c H J' H' z w->Q w H') c.T->r vs H Q
def gN (f:List R->M R) (gs:G (List R)):G R:=λenv=>gs env >>= f
theorem GU {t:TE}{ta:TA}{r:List V->Hp->VK->Prop}{f:List R->M R}{gs:G (List R)}(ht:PE X e t) (heq:t=λσ H Q=>tA c gs σ H λvs H1=>r vs H1 Q) (hf:CD c r f):PD X c e (gN f gs):=by subst heq;refine fC ht λσ H Q ⟨J,env,sr,w⟩=>⟨J,env,sr,aD (aH w) λrs w vs J1 H1 e1 r1=>?_⟩;exact hf H J1 H1 rs vs Q (sr.hp.ext e1) r1 (aD w λz q v J' H' e2 r2=>q v J' H' (e1.trans e2) (RR.from e1.h r2))
def aF:G (List R):=λ_=>.ok []
def ao (g:G R) (gs:G (List R)):G (List R):=λenv=>g env >>= λx=>gs env >>= λxs=>.ok (x::xs)
theorem kg.from {He He' J H:Hp}(e:aS He He'):∀{xs:List R}{vs:List V},kg c He' J H xs vs->kg c He J H xs vs
 | [],_,h=>h
 | _::_,_,⟨v,us,h1,h2,h3⟩=>⟨v,us,h1,RR.from e h2,kg.from e h3⟩
theorem iL {id:String}{x:Str}{p:Pos}{es:List Uo}{r:List V->Hp->VK->Prop}{f:List R->M R}{gs:G (List R)}(hc:cJ X (.builtin id) r) (hf:CD c r f) (hv:UP x=some (.builtin id)) (hm:X.mg x=none) (ha:Dj X c (e::es) gs)
  (hg:Gl X x:=by rfl) (hn:x≠"__name__":=by decide) (hdb:(x == ("__debug__":Str))=false:=by decide)
  (he:TF (e::es) X.env=(false,eval e X.env)::TF es X.env:=by rfl) (hpl:(U_ pos (TF es X.env)).any (·.1)=false:=by rfl):PD X c (.Call (.Name x p) (e::es) [] pos) (gN f gs):=
 GU (ta:=CP) (sL hc hg hm hv ha hn hdb he hpl) rfl hf
theorem wL {r:List V->Hp->VK->Prop}{f:List R->M R}{gs:G (List R)}(hc:cJ X (.type T) r) (hf:CD c r f) (hv:UP x=some (.type T)) (hm:X.mg x=none) (ha:Dj X c (e::es) gs)
 (hg:Gl X x:=by rfl) (hn:x≠"__name__":=by decide) (hdb:(x == ("__debug__":Str))=false:=by decide)
 (he:TF (e::es) X.env=(false,eval e X.env)::TF es X.env:=by rfl) (hpl:(U_ pos (TF es X.env)).any (·.1)=false:=by rfl):PD X c (.Call (.Name x p) (e::es) [] pos) (gN f gs):=
 GU (ta:=CP) (lU hc hg hm hv ha hn hdb he hpl) rfl hf
end
section
variable {X:Cx}{c:C}{e a b:Uo}{es:List Uo}{ga gb g:G R}{pos:Pos}
def aW:G (List D):=λ_=>.ok []
def aE (g:G R) (gs:G (List D)):G (List D):=λenv=>g env >>= λx=>toD x >>= λd=>gs env >>= λds=>.ok (d::ds)
theorem i6 {α:Type}{f:D->M α}{Q:α->Prop}{T:Exc->Prop}(w:cg (toD x >>= f) Q T):∃d,toD x=.ok d/\cg (f d) Q T:=by
 cases q:toD x with
 | bad=>rw [q] at w;exact w.elim
 | ok xs=>rw [q] at w;exact ⟨xs,rfl,w⟩
 | exc z=>unfold toD at q;split at q <;> cases q
def bO (gs:G (List D)):G R:=λenv=>gs env >>= λds=>if ds.length<=sizeLine then .ok (.d (.tup ds)) else .bad
def d_ (gs:G (List D)):G R:=λenv=>gs env >>= λds=>if ds.length<=sizeLine then .ok (.l .fresh ds) else .bad
theorem pW {J H:Hp}(hp:HI c J H) (e:H p=none) (h:aJ c.K J xs vs):Rep c.K (upd J p (.tup vs)) (.tup xs) (.ref p):=
 .tup (.inl (.inl b9)) (h.mono (cO (hp.sub.free e) _))
noncomputable def g9:R->M (List D)
 | .d (.tup xs)=>.ok xs
 | .d (.lst xs)=>.ok xs
 | .l _ xs=>.ok xs
 | _=>.bad
theorem mF {He J H:Hp}(hp:HI c J H):∀{r:R}{v:V}{xs:List D},RR c He J H r v->g9 r=.ok xs->∃a vs,v=.ref a/\(bY c.K H a vs\/cZ c.K H a vs)/\aJ c.K J xs vs
 | .d (.tup ys),v,xs,h,e=>by
  cases e;cases h with
  | tup h hs=>exact ⟨_,_,rfl,.inr (fD hp.sub h),hs⟩
 | .d (.lst ys),v,xs,h,e=>let ⟨a,vs,h1,h2,h3⟩:=RR.list hp h e;⟨a,vs,h1,.inl h2,h3⟩
 | .l m ys,v,xs,h,e=>let ⟨a,vs,h1,h2,h3⟩:=RR.list hp h e;⟨a,vs,h1,.inl h2,h3⟩
 | .d .non,_,_,_,e=>nomatch e
 | .d (.bl _),_,_,_,e=>nomatch e
 | .d (.int _),_,_,_,e=>nomatch e
 | .d (.str _),_,_,_,e=>nomatch e
 | .d .emp,_,_,_,e=>nomatch e
 | .d (.dct _ _),_,_,_,e=>nomatch e
theorem jK {α:Type}{f:List D->M α}{Q:α->Prop}{T:Exc->Prop}(w:cg (g9 x >>= f) Q T):∃xs,g9 x=.ok xs/\cg (f xs) Q T:=by
 cases q:g9 x with
 | bad=>rw [q] at w;exact w.elim
 | ok xs=>rw [q] at w;exact ⟨xs,rfl,w⟩
 | exc z=>unfold g9 at q;split at q <;> cases q
noncomputable def fL:List R->M R
 | [.d (.str z)]=>if z.length<=sizeLine then .ok (.d (.int z.length)) else .bad
 | [r]=>g9 r >>= λxs=>.ok (.d (.int xs.length))
 | _=>.bad
theorem kg.one {He J H:Hp}(h:kg c He J H [r] vs):∃v,vs=[v]/\RR c He J H r v:=by obtain ⟨v,us,rfl,h1,h2⟩:=h;cases h2;exact ⟨v,rfl,h1⟩
theorem kg.two {He J H:Hp}{r r':R}{vs:List V}(h:kg c He J H [r,r'] vs):∃v v',vs=[v,v']/\RR c He J H r v/\RR c He J H r' v':=by obtain ⟨v,us,rfl,h1,v2,us2,rfl,h2,h3⟩:=h;cases h3;exact ⟨v,v2,rfl,h1,h2⟩
noncomputable def d9:List R->M R
 | [r]=>g9 r >>= λxs=>.ok (.d (.tup xs))
 | _=>.bad
theorem Ah:UP "tuple"=some (.type "tuple"):=by decide +kernel
theorem BX:UP "list"=some (.type "list"):=by decide +kernel
noncomputable def bG (g:G R):G Bool:=λenv=>g env >>= λr=>match r with
 | .d (.bl k)=>.ok k
 | _=>.bad
theorem jk {f:R->R->M R}(ho:cS X (Vi op) r) (hf:BD c r f) (ha:PD X c a ga) (hb:PD X c b gb) (hm:UZ op b=false:=by first | exact zB _ | rfl):PB X c (.Compare a [op] [b] pos) (bG (g2 f ga gb)):=
 yg (Kh ho ha hb hm) λσ H Q ⟨J,env,sr,w⟩=>by
  have w2:=aH w;refine two (k:=λu v H2=>r u v H2 λz H3=>∃k,z=.bl k/\Q k H3) (Q:=λz H3=>∃k,z=.bl k/\Q k H3) sr (aD w2 λr0 wr v J1 H1 e1 r1=>?_)
   λx y u v J2 H2 sr2 e2 r1 r2 q=>hf H H J2 H2 x y u v _ sr2.hp r1 r2 q
  split at wr
  ·cases r1;exact ⟨_,rfl,wr J1 H1 e1⟩
  ·exact wr.elim
def jZ (g h:G Bool):G Bool:=λenv=>g env >>= λk=>if k=true then h env else .ok false
def oB (g h:G Bool):G Bool:=λenv=>g env >>= λk=>if k=true then .ok true else h env
def gF (g:G Bool):G Bool:=λenv=>g env >>= λk=>.ok (!k)
def PJ (X:Cx) (c:C) (e:Uo) (g:G Bool):Prop:=PW X e (tB c g)
variable {t u:G Bool}{rest:List Uo}
theorem IA {X:Cx}{e:Uo}{t t':TT}(h:PW X e t) (k:∀σ H Q,t' σ H Q->t σ H Q):PW X e t':=λwh S6 s σ H Q I q=>h wh S6 s σ H Q I (k σ H Q q)
noncomputable def xY (g h:G R):G R:=λenv=>g env >>= λr=>match r with
 | .d (.bl true)=>h env
 | .d (.bl false)=>.ok (.d (.bl false))
 | _=>.bad
noncomputable def j3 (g h:G R):G R:=λenv=>g env >>= λr=>match r with
 | .d (.bl false)=>h env
 | .d (.bl true)=>.ok (.d (.bl true))
 | _=>.bad
noncomputable def t8 (g:G R):G R:=λenv=>g env >>= λr=>match r with
 | .d (.bl k)=>.ok (.d (.bl (!k)))
 | _=>.bad
end
section
variable {X:Cx}{c:C}{e a b tg:Uo}{es:List Uo}{ga gb g:G R}{pos:Pos}{st:Wm}{rest:List Wm}{t u:G O}{tb:G Bool}
def c9:G O:=λenv=>.ok (.nx env)
noncomputable def aK (t u:G O):G O:=λenv=>t env >>= λo=>match o with
 | .nx e=>u e
 | o=>.ok o
def jN (g:G R):G O:=λenv=>g env >>= λ_=>.ok (.nx env)
noncomputable def rF:R->M R
 | .d x=>.ok (.d x)
 | .l .fresh xs=>.ok (.l .fresh xs)
 | .l .own xs=>.ok (.l .fresh xs)
 | .l .bor _=>.bad
 | .mo ks vs=>.ok (.mf ks vs)
 | .mf ks vs=>.ok (.mf ks vs)
 | .mb _ _=>.bad
def bu (g:G R):G O:=λenv=>g env >>= λr=>rF r >>= λr=>.ok (.rt r)
theorem RR.rf {J H J1 H1:Hp}(hp:HI c J H):∀{r r':R}{v:V},RR c H J1 H1 r v->rF r=.ok r'->RF c J1 H1 r' v
 | .d x,r',v,h,e=>by cases e;exact h
 | .l .fresh xs,r',v,⟨a,vs,h1,h2,h3,h4,h5⟩,e=>by cases e;exact ⟨a,vs,h1,h2,h3,hp.ent.free h4,h5⟩
 | .l .own xs,r',v,⟨a,vs,h1,h2,h3,h4,h5⟩,e=>by cases e;exact ⟨a,vs,h1,h2,h3,h4,h5⟩
 | .l .bor _,_,_,_,e=>nomatch e
 | .mo _ _,_,v,⟨a,h1,h2,h3,h4⟩,e=>by cases e;exact ⟨a,h1,h2,h3,h4⟩
 | .mb _ _,_,_,_,e=>nomatch e
 | .mf _ _,_,v,⟨a,h1,h2,h3,h4⟩,e=>by cases e;exact ⟨a,h1,h2,h3,hp.ent.free h4⟩
def bQ (b:G Bool) (t u:G O):G O:=λenv=>b env >>= λk=>if k=true then t env else u env
noncomputable def toS:R->M S
 | .d x=>.ok (.d x)
 | .l .fresh xs=>.ok (.own xs)
 | .l .bor xs=>.ok (.bor xs)
 | .l .own _=>.bad
 | .mb ks vs=>.ok (.db ks vs)
 | .mf ks vs=>.ok (.dk ks vs)
 | .mo _ _=>.bad
theorem gw {α:Type}{l:List (Option α)}{i j:Nat}{x y:α}(h:(l.set i (some x))[j]?=some (some y)):(j=i/\i < l.length/\y=x)\/(j≠i/\l[j]?=some (some y)):=by
 by_cases e:j=i
 ·subst e;have hj:j < l.length:=by have:=(T7.mp h).1;simpa using this
  rw [Vh hj] at h;cases h;exact .inl ⟨rfl,hj,rfl⟩
 ·rw [Uz (VG e)] at h;exact .inr ⟨e,h⟩
theorem SR.setD {J H:Hp}{σ:L2.St}{env:Ev}(sr:SR c J H σ env){i:Nat}{x:S}{v:V}(h:se c J H x v) (hx:∀xs,x≠mS xs):SR c J H (σ.set i (some v)) (env.set i (some x)):=by
 refine ⟨sr.hp,by simpa using sr.len,λj y q=>?_,λj k xs ys w hjk q1 q2 q3 q4=>?_⟩
 ·rcases gw q with ⟨rfl,hl,rfl⟩ | ⟨hj,q⟩
  ·exact ⟨v,by rw [Vh (by rw [<-sr.len];exact hl)],h⟩
  ·obtain ⟨w,h1,h2⟩:=sr.at_ j y q;exact ⟨w,by rw [Uz (VG hj)];exact h1,h2⟩
 ·rcases gw q1 with ⟨rfl,hl,e⟩ | ⟨hj,q1⟩
  ·exact hx xs e.symm
  ·rcases gw q2 with ⟨rfl,hl,e⟩ | ⟨hk,q2⟩
   ·exact hx ys e.symm
   ·rw [Uz (VG hj)] at q3;rw [Uz (VG hk)] at q4;exact sr.sep j k xs ys w hjk q1 q2 q3 q4
theorem SR.setM {J He:Hp}{σ:L2.St}{env:Ev}(sr:SR c J He σ env){J1 H1:Hp}(e1:Ext J He J1 H1){i:Nat}{y:Mn}{p:T3}(h3:He p=none) (h:se c J1 H1 (mS y) (.ref p)):SR c J1 H1 (σ.set i (some (.ref p))) (env.set i (some (mS y))):=by
 have sr1:=sr.ext e1;have old:∀(j:Nat) (ys:Mn),env[j]?=some (some (mS ys))->σ[j]?≠some (some (.ref p)):=λj ys qj z=>by obtain ⟨a,k1,k2,_⟩:=sr.mine qj;rw [z] at k1;cases k1;exact k2 h3
 refine ⟨sr1.hp,by simpa using sr.len,λj y q=>?_,λj k ys zs w hjk q1 q2 q3 q4=>?_⟩
 ·rcases gw q with ⟨rfl,hl,rfl⟩ | ⟨hj,q⟩
  ·exact ⟨.ref p,by rw [Vh (by rw [<-sr.len];exact hl)],h⟩
  ·obtain ⟨w,k1,k2⟩:=sr1.at_ j y q;exact ⟨w,by rw [Uz (VG hj)];exact k1,k2⟩
 ·rcases gw q1 with ⟨rfl,hl,e⟩ | ⟨hj,q1'⟩
  ·rcases gw q2 with ⟨rfl,_,_⟩ | ⟨hk,q2⟩
   ·exact hjk rfl
   ·rw [Vh (by rw [<-sr.len];exact hl)] at q3;cases q3;rw [Uz (VG hk)] at q4;exact old k zs q2 q4
  ·rw [Uz (VG hj)] at q3;rcases gw q2 with ⟨rfl,hl,e⟩ | ⟨hk,q2⟩
   ·rw [Vh (by rw [<-sr.len];exact hl)] at q4;cases q4;exact old j ys q1' q3
   ·rw [Uz (VG hk)] at q4;exact sr.sep j k ys zs w hjk q1' q2 q3 q4
theorem SR.set {J He:Hp}{σ:L2.St}{env:Ev}(sr:SR c J He σ env){J1 H1:Hp}(e1:Ext J He J1 H1) (h:RR c He J1 H1 r v) (q:toS r=.ok x):SR c J1 H1 (σ.set i (some v)) (env.set i (some x)):=by
 have sr1:=sr.ext e1;cases r with
 | d y=>cases q;exact sr1.setD h (λx z=>by cases x <;> cases z)
 | mb _ _=>cases q;exact sr1.setD h (λx z=>by cases x <;> cases z)
 | mf ks vs=>cases q;obtain ⟨p,rfl,h1,h2,h3⟩:=h;exact sr.setM (y:=.inr (ks,vs)) e1 h3 ⟨p,rfl,h1,h2,sr.hp.ent.free h3⟩
 | mo _ _=>cases q
 | l m xs=>
  cases m with
  | own=>cases q
  | bor=>cases q;exact sr1.setD h (λx z=>by cases x <;> cases z)
  | fresh=>
   cases q;obtain ⟨p,vs,rfl,h1,h2,h3,h4⟩:=h;exact sr.setM (y:=.inl xs) e1 h3 ⟨p,vs,rfl,h1,h2,sr.hp.ent.free h3,h4⟩
theorem vL {α:Type}{f:S->M α}{Q:α->Prop}{T:Exc->Prop}(w:cg (toS x >>= f) Q T):∃d,toS x=.ok d/\cg (f d) Q T:=by
 cases q:toS x with
 | bad=>rw [q] at w;exact w.elim
 | ok xs=>rw [q] at w;exact ⟨xs,rfl,w⟩
 | exc z=>unfold toS at q;split at q <;> cases q
def bh (i:Nat) (g:G R):G O:=λenv=>g env >>= λr=>toS r >>= λx=>.ok (.nx (env.set i (some x)))
abbrev GT:=D->Ev->M Ev
def KO (env:Ev) (σ:L2.St) (e:Ev) (σ':L2.St):Prop:=∀(j:Nat) (xs:Mn),e[j]?=some (some (mS xs))->env[j]?=some (some (mS xs))/\σ'[j]?=σ[j]?
theorem KO.refl:KO env σ env σ:=λ_ _ h=>⟨h,rfl⟩
theorem KO.trans (a:KO env σ e1 s1) (b:KO e1 s1 e2 s2):KO env σ e2 s2:=λj xs h=>by obtain ⟨h1,h2⟩:=b j xs h;obtain ⟨h3,h4⟩:=a j xs h1;exact ⟨h3,h2.trans h4⟩
def tT (c:C) (g:GT):TG:=λv σ H Q=>∃J env d,SR c J H σ env/\Rep c.K J d v/\cg (g d env) (λe=>∀σ',SR c J H σ' e->KO env σ e σ'->Q σ' H) c.T
def Dk (X:Cx) (c:C) (tg:Uo) (g:GT):Prop:=PG X tg (tT c g)
abbrev sY:=List D->Ev->M Ev
def P5 (c:C) (g:sY):vW:=λvs σ H Q=>∃J env ds,SR c J H σ env/\aJ c.K J ds vs/\cg (g ds env) (λe=>∀σ',SR c J H σ' e->KO env σ e σ'->Q σ' H) c.T
def OR (X:Cx) (c:C) (tgs:List Uo) (g:sY):Prop:=yv X tgs (P5 c g)
theorem Iw {t t':TG}(h:PG X e t) (k:∀v σ H Q,t' v σ H Q->t v σ H Q):PG X e t':=λS6 s σ H v u Q I r q=>h S6 s σ H v u Q I r (k v σ H Q q)
theorem EG {X:Cx}{e:List Uo}{t t':vW}(h:yv X e t) (k:∀v σ H Q,t' v σ H Q->t v σ H Q):yv X e t':=λS6 s σ H vs us Q I r q=>h S6 s σ H vs us Q I r (k vs σ H Q q)
def az (i:Nat):GT:=λd env=>.ok (env.set i (some (.d d)))
noncomputable def dc:sY:=λds env=>match ds with
 | []=>.ok env
 | _=>.bad
noncomputable def bx (t:GT) (u:sY):sY:=λds env=>match ds with
 | d::r=>t d env >>= λe=>u r e
 | []=>.bad
noncomputable def c7 (n:Nat) (u:sY):GT:=λd env=>match d with
 | .tup ds=>if ds.length=n then u ds env else .bad
 | _=>.bad
def sD (t:GT) (g:G R):G O:=λenv=>g env >>= λr=>toD r >>= λd=>t d env >>= λe=>.ok (.nx e)
theorem JV {t:GT}(h:PD X c e g) (ht:Dk X c tg t)
  (hq:PS X (.Assign [tg] e pos) (Hz (tD c g) (tT c t))):Lc X c (.Assign [tg] e pos) (sD t g):=iH hq λE σ H ⟨J,env,sr,w⟩=>by refine ⟨J,env,sr,aD (aH w) λr wr v J1 H1 e1 r1=>?_⟩;obtain ⟨d,q,wr⟩:=i6 wr;obtain ⟨J1',e1',s1,rd⟩:=freeze e1 r1 q;refine ⟨J1',env,d,sr.ext e1',rd,aD (aH wr) λe2 w2 σ' sr' _=>?_⟩;exact w2 σ' J1' H1 e1'.j sr'
noncomputable def Walk (c:C) (It:It) (ds:List D) (J1:Hp) (U:Hp->Hp->Prop):Prop:=∀(i:Nat) (J H:Hp),HI c J H->U J H->
 (ds.length<=i->It.stop i H)/\∀d,ds[i]?=some d->It.go i H/\∀x H2,It.yld i H x H2->∃J2,Ext J H J2 H2/\Rep c.K J2 d x
noncomputable def tI (c:C) (g:G (List D)):TI:=λσ H Q=>∃J env,SR c J H σ env/\cg (g env) (λds=>∀It J1 H1,Ext J H J1 H1->Walk c It ds J1 (λJ' _=>aS J1 J')->Q It H1) c.T
def OD (X:Cx) (c:C) (tg S9:Uo) (g:G (List D)):Prop:=PI X tg S9 (tI c g)
theorem nV {X:Cx}{tg it:Uo}{t t':TI}(h:PI X tg it t) (k:∀σ H Q,t' σ H Q->t σ H Q):PI X tg it t':=λS6 s σ H Q I q=>h S6 s σ H Q I (k σ H Q q)
noncomputable def dG (t:GT) (u:G O):List D->Ev->M O
 | [],env=>.ok (.nx env)
 | d::ds,env=>t d env >>= λe=>u e >>= λo=>match o with
  | .nx e=>dG t u ds e
  | .ct e=>dG t u ds e
  | .bk e=>.ok (.nx e)
  | .rt r=>.ok (.rt r)
def cG (g:G (List D)) (t:GT) (u:G O):G O:=λenv=>g env >>= λds=>dG t u ds env
noncomputable def Qa (g:G R):G (List D):=λenv=>g env >>= λr=>match r with
 | .d (.tup xs)=>.ok xs
 | _=>.bad
theorem qd {J1:Hp}{a:T3}{vs:List V}{ds:List D}(h:bY c.K J1 a vs\/bY c.K c.H0 a vs) (hs:aJ c.K J1 ds vs):Walk c (HJ c.K a) ds J1 (λJ' _=>aS J1 J'):=by intro i J H hp u;have h':bY c.K H a vs:=h.elim (λh=>hp.sub.seq (u.seq h)) λh=>hp.ent.seq h;refine ⟨λhl=>⟨vs,h',by rw [<-hs.length];exact hl⟩,λd hd=>?_⟩;obtain ⟨v,h1,h2⟩:=hs.get hd;refine ⟨⟨vs,v,h',h1⟩,λx H2 ⟨e,hy⟩=>?_⟩;subst e;have:=hy vs h';rw [h1] at this;cases this;exact ⟨J,Ext.refl hp.sub,h2.mono u⟩
def fz (lo:Int) (n:Nat):List D:=(Tw n).map λ(k:Nat)=>.int (lo + (k:Int))
theorem uO {J1:Hp}{lo:Int}{n:Nat}{Ut:Hp->Hp->Prop}:Walk c (De lo n) (fz lo n) J1 Ut:=by
 intro i J H hp u;refine ⟨λhl=>(show n<=i by simpa [fz] using hl),λd hd=>?_⟩;have hi:i < n:=by have:=(T7.mp hd).1;simpa [fz] using this
 have hd':d=.int (lo + i):=by unfold fz at hd;rw [Uh,Xz hi] at hd;exact (U3 hd).symm
 subst hd';exact ⟨hi,λx H2 ⟨e,hx⟩=>by subst e hx;exact ⟨J,Ext.refl hp.sub,.int _⟩⟩
noncomputable def bW (gs:G (List R)):G (List D):=λenv=>gs env >>= λrs=>match rs with
 | [.d (.int j)]=>if below 4611686018427387904 j then .ok (fz 0 j.toNat) else .bad
 | _=>.bad
noncomputable def Cc (gs:G (List R)):G (List D):=λenv=>gs env >>= λrs=>match rs with
 | [.d (.int i),.d (.int j)]=>if below 4611686018427387904 i && below 4611686018427387904 j then .ok (fz i (j - i).toNat) else .bad
 | _=>.bad
noncomputable def P0 (c:C) (g:G (List D)):TI:=λσ H Q=>∃J env,SR c J H σ env/\cg (g env) (λds=>∀It J1 H1,Ext J H J1 H1->Walk c It ds J1 (λJ' H'=>aS J1 J'/\aS H1 H')->Q It H1) c.T
def OC (X:Cx) (c:C) (tg S9:Uo) (g:G (List D)):Prop:=PI X tg S9 (P0 c g)
end
section
variable {X:Cx}{c:C}{e a b tg:Uo}{es:List Uo}{ga gb g:G R}{pos:Pos}
theorem SR.updM {J H:Hp}{σ:L2.St}{env:Ev}(sr:SR c J H σ env){i:Nat}{x y:Mn}{p:T3}{o:HO}(hi:env[i]?=some (some (mS x))) (hs:σ[i]?=some (some (.ref p))) (hJ:J p=none) (h0:c.H0 p=none)
  (h:se c J (L2.upd H p o) (mS y) (.ref p)):SR c J (L2.upd H p o) σ (env.set i (some (mS y))):=by
 refine ⟨⟨λb o q=>?_,λb o q=>?_,sr.hp.entJ,sr.hp.frz⟩,by simpa using sr.len,λj y q=>?_,λj k ys zs w hjk q1 q2 q3 q4=>?_⟩
 ·have:b≠p:=λz=>by rw [z,hJ] at q;cases q
  rw [bA this];exact sr.hp.sub b o q
 ·have:b≠p:=λz=>by rw [z,h0] at q;cases q
  rw [bA this];exact sr.hp.ent b o q
 ·rcases gw q with ⟨rfl,hl,rfl⟩ | ⟨hj,q⟩
  ·exact ⟨.ref p,hs,h⟩
  ·obtain ⟨w,k1,k2⟩:=sr.at_ j y q;refine ⟨w,k1,?_⟩;have hne:∀(z:Mn) p',y=mS z->w=.ref p'->p'≠p:=λz p' e ew ep=>sr.sep i j x z (.ref p) (VG hj) hi (e▸q) hs (ep▸ew▸k1);cases y with
   | d x=>exact k2
   | bor zs=>exact k2
   | db _ _=>exact k2
   | fn _=>exact k2
   | dk ks zs=>
    obtain ⟨p',rfl,⟨us,ws,ep,m1,mr⟩,m2⟩:=k2;exact ⟨p',rfl,⟨us,ws,ep,by rw [bA (hne (.inr (ks,zs)) p' rfl rfl)];exact m1,mr⟩,m2⟩
   | own zs=>
    obtain ⟨p',us,rfl,m1,m2,m3,m4⟩:=k2;exact ⟨p',us,rfl,by rw [bA (hne (.inl zs) p' rfl rfl)];exact m1,m2,m3,m4⟩
 ·have f:∀(k:Nat) (ys:Mn),(env.set i (some (mS y)))[k]?=some (some (mS ys))->∃ys',env[k]?=some (some (mS ys')):=λk ys q=>by
   rcases gw q with ⟨rfl,_,_⟩ | ⟨_,q⟩
   ·exact ⟨x,hi⟩
   ·exact ⟨ys,q⟩
  obtain ⟨ys',r1⟩:=f j ys q1;obtain ⟨zs',r2⟩:=f k zs q2;exact sr.sep j k ys' zs' w hjk r1 r2 q3 q4
theorem SR.upd {J H:Hp}{env:Ev}(sr:SR c J H σ env) (hi:env[i]?=some (some (.own xs))) (hs:σ[i]?=some (some (.ref p))) (hH:H p=some (.lst vs)) (hJ:J p=none) (h0:c.H0 p=none)
 (h:aJ c.K J xs' vs'):SR c J (L2.upd H p (.lst vs')) σ (env.set i (some (.own xs'))):=sr.updM (x:=.inl xs) (y:=.inl xs') hi hs hJ h0 ⟨p,vs',rfl,b9,hJ,h0,h⟩
noncomputable def iK (i:Nat) (g:G R):G O:=λenv=>match env[i]? with
 | some (some (.own xs))=>g env >>= λr=>toD r >>= λd=>if xs.length < sizeLine then .ok (.nx (env.set i (some (.own (xs++[d]))))) else .bad
 | _=>.bad
noncomputable def d7:R->S
 | .d x=>.d x
 | .l _ xs=>.bor xs
 | .mo ks vs=>.db ks vs
 | .mb ks vs=>.db ks vs
 | .mf ks vs=>.db ks vs
noncomputable def jr (K:Tg) (J H:Hp):List S->List V->Prop
 | [],vs=>vs=[]
 | s::ss,vs=>∃v us,vs=v::us/\(match s with
  | .d x=>Rep K J x v
  | .bor xs=>∃a ws,v=.ref a/\bY K H a ws/\aJ K J xs ws
  | .db ks ws=>∃a,v=.ref a/\dI K J H a ks ws
  | .fn x=>∃f,v=.ref f/\Ur K Ug x=some (some (.ref f))
  | _=>False)/\jr K J H ss us
theorem jr.length {K:Tg}{J H:Hp}:∀{ss:List S}{vs:List V},jr K J H ss vs->vs.length=ss.length
 | [],_,h=>by cases h;rfl
 | _::_,_,⟨_,_,h,_,h2⟩=>by subst h;exact congrArg (· + 1) h2.length
theorem jr.get {K:Tg}{J H:Hp}:∀{ss:List S}{vs:List V}{i:Nat}{s:S},jr K J H ss vs->ss[i]?=some s->∃v,vs[i]?=some v/\(match s with
  | .d x=>Rep K J x v
  | .bor xs=>∃a ws,v=.ref a/\bY K H a ws/\aJ K J xs ws
  | .db ks ws=>∃a,v=.ref a/\dI K J H a ks ws
  | .fn x=>∃f,v=.ref f/\Ur K Ug x=some (some (.ref f))
  | _=>False)
 | [],_,_,_,_,e=>by simp at e
 | _::_,_,0,_,⟨v,us,h,h1,h2⟩,e=>by simp at e;subst e;subst h;exact ⟨v,rfl,h1⟩
 | _::_,_,i + 1,s,⟨v,us,h,h1,h2⟩,e=>by subst h;obtain ⟨v,k1,k2⟩:=jr.get (i:=i) (s:=s) h2 (by simpa using e);exact ⟨v,by simpa using k1,k2⟩
noncomputable def FR (K:Tg) (H J' H':Hp):R->V->Prop
 | .d x,v=>Rep K J' x v
 | .l _ xs,v=>∃a vs,v=.ref a/\H' a=some (.lst vs)/\J' a=none/\H a=none/\aJ K J' xs vs
 | .mf ks vs,v=>∃a,v=.ref a/\dI K J' H' a ks vs/\J' a=none/\H a=none
 | _,_=>False
noncomputable def p7 (K:Tg) (n:Nat) (F:List S->M R):Sp:=λvs H Q _=>∃J as,aS J H/\as.length=n/\jr K J H as vs/\cg (F as) (λr=>∀v J' H',Ext J H J' H'->FR K H J' H' r v->Q v H') (λ_=>False)
noncomputable def fin:M O->M R
 | .ok (.rt r)=>.ok r
 | .ok (.nx _)=>.ok (.d .non)
 | .exc x=>.exc x
 | _=>.bad
def aV (N:List Str) (as:List S):Ev:=as.map some++Vj (N.length - as.length) none
theorem xq {N:List Str}{as:List S}{i:Nat}{x:S}(h:(aV N as)[i]?=some (some x)):as[i]?=some x:=by
 unfold aV at h;by_cases hi:i < as.length
 ·rw [VD (by simpa using hi),Uh] at h;cases q:as[i]? with
  | none=>rw [q] at h;cases h
  | some y=>rw [q] at h;cases h;rfl
 ·rw [Va (by simpa using hi),XG] at h;split at h <;> cases h
theorem Hy {N:List Str}{vs:List V}{i:Nat}{v:V}(h:vs[i]?=some v):(L2.start N vs)[i]?=some (some v):=by unfold L2.start;have hi:i < vs.length:=(T7.mp h).1;rw [VD (by simpa using hi),Uh,h];rfl
theorem zX {K:Tg}{J H:Hp}{T:Exc->Prop}{N:List Str}{as:List S}{vs:List V}(hs:aS J H) (h:jr K J H as vs):SR ⟨K,H,J,T⟩ J H (L2.start N vs) (aV N as):=by
 have own:∀(i:Nat) (xs:Mn),(aV N as)[i]?≠some (some (mS xs)):=λi xs q=>by obtain ⟨v,_,k⟩:=h.get (xq q);cases xs <;> exact k
 refine ⟨⟨hs,aS.refl H,aS.refl J,λ_ _ q=>q⟩,?_,λi x q=>?_,λi j xs ys v _ q=>absurd q (own i xs)⟩
 ·unfold aV L2.start;rw [TQ,TQ,Tp,Tp,VJ,VJ,h.length]
 ·obtain ⟨v,k1,k2⟩:=h.get (xq q);refine ⟨v,Hy k1,?_⟩;cases x with
  | d y=>exact k2
  | own y=>exact k2.elim
  | bor y=>exact k2
  | dk _ _=>exact k2.elim
  | db _ _=>exact k2
  | fn _=>exact k2
abbrev DU (P:TU) (w:Uk) (K:Tg) (mg:Str->Option Ti) (base:Vd) (N:List Str) (S_:Str) (sc:W5) (f:T3) (cd:Ti) (A:Um) (outer:List Env) (s:Tj) (H:Hp) (E:XK):Cx:=(pg oh P w K mg base N S_ sc f cd A outer s H E).nox
theorem DZ {P:TU}{w:Uk}{K:Tg}{mg:Str->Option Ti}{base:Vd}{x S_:Str}{st:Wm}{f:T3}{fd:Ud}{N ps:List Str}{k:Nat}{Fm:List S->M R}(F:oj K x S_ st f fd) (Sc:fG N ps (aY st)){gB:G O}
  (hb:∀(cdv:Ti) (A:Um) (outer:List Env) (s:Tj) (H:Hp) (E:XK) (J:Hp) (T:Exc->Prop),cY k (A.deeper (Ze S_ (aY st) s.heap.objs.size f cdv))->
   HS (DU P w K mg base N S_ (aY st) f cdv A outer s H E) ⟨K,H,J,T⟩ (bU st) gB)
  (hF:∀as r,as.length=ps.length->Fm as=.ok r->fin (gB (aV N as))=.ok r):fF P w K mg base oh (k + 1) f fd ps (p7 K ps.length Fm):=by
 refine F.ok Sc (λvs H Q E h=>?_) (λcdv A outer s H vs Q E hr h=>?_)
 ·obtain ⟨J,as,h1,h2,h3,h4⟩:=h;rw [h3.length,h2]
 ·obtain ⟨J,as,h1,h2,h3,h4⟩:=h;refine ⟨_,hb cdv A outer s H E J (λ_=>False) hr,J,aV N as,zX h1 h3,?_⟩;cases q:Fm as with
  | bad=>rw [q] at h4;exact h4.elim
  | exc x=>rw [q] at h4;exact h4.elim
  | ok r=>
   rw [q] at h4;have z:=hF as r h2 q;have ext:∀{J' H':Hp},HI ⟨K,H,J,λ_=>False⟩ J' H'->Ext J H J' H':=λhp=>⟨hp.ent,hp.entJ,hp.sub,hp.frz⟩;cases qg:gB (aV N as) with
   | bad=>rw [qg] at z;cases z
   | exc x=>rw [qg] at z;cases z
   | ok o=>
    rw [qg] at z;cases o with
    | bk _=>cases z
    | ct _=>cases z
    | nx env=>cases z;exact λσ' J' H' _ sr=>h4 .non J' H' (ext sr.hp) .non
    | rt r'=>
     cases z;exact λv J' H' _ hp rf=>h4 v J' H' (ext hp) (by
      cases r with
      | d x=>exact rf
      | l m xs=>exact rf
      | mo _ _=>exact rf
      | mf _ _=>exact rf
      | mb _ _=>exact rf)
noncomputable def jq:R->R
 | .d x=>.d x
 | .l _ xs=>.l .fresh xs
 | .mo ks vs=>.mo ks vs
 | .mb ks vs=>.mb ks vs
 | .mf ks vs=>.mf ks vs
noncomputable def aQ (n:Nat) (F:List S->M R):List R->M R:=λrs=>if rs.length=n then (match F (rs.map d7) with
 | .ok r=>.ok (jq r)
 | _=>.bad) else .bad
theorem kg.args {He J H:Hp}(hp:HI c J H):∀{rs:List R}{vs:List V},kg c He J H rs vs->jr c.K J H (rs.map d7) vs
 | [],_,h=>h
 | r::rs,_,⟨v,us,h,h1,h2⟩=>by
  refine ⟨v,us,h,?_,kg.args hp h2⟩;cases r with
  | d x=>exact h1
  | l m xs=>exact RR.list hp h1 rfl
  | mo _ _=>obtain ⟨a,h1,h2,_⟩:=h1;exact ⟨a,h1,h2⟩
  | mb _ _=>obtain ⟨a,h1,h2⟩:=h1;exact ⟨a,h1,h2.mono (aS.refl _) hp.ent⟩
  | mf _ _=>obtain ⟨a,h1,h2,_⟩:=h1;exact ⟨a,h1,h2⟩
theorem IE {F:List S->M R}{J H J1 H1:Hp}{Q:VK}{as:List S}{T:Exc->Prop}(hT:c.K=X.K) (e1:Ext J H J1 H1) (ar:jr c.K J1 H1 as vs) (hl:as.length=n)
 (wr:cg (match F as with
 | .ok r=>.ok (jq r)
 | _=>.bad) (λr=>∀v J' H',Ext J H J' H'->RR c H J' H' r v->Q v H') T):p7 X.K n F (vs++[]) H1 Q E0:=by
 rw [hT] at ar;refine ⟨J1,as,e1.sub,hl,by rw [Wz];exact ar,?_⟩;cases q:F as with
 | bad=>rw [q] at wr;exact wr
 | exc x=>rw [q] at wr;exact wr
 | ok r=>
  rw [q] at wr;intro v J' H' e2 fr;refine wr v J' H' (e1.trans e2) ?_;cases r with
  | d y=>exact (show Rep c.K J' y v from hT▸fr)
  | mo _ _=>exact fr.elim
  | mb _ _=>exact fr.elim
  | mf _ _=>obtain ⟨a,h1,h2,h3,h4⟩:=fr;exact ⟨a,h1,hT▸h2,h3,e1.h.free h4⟩
  | l m ys=>
   obtain ⟨a,us,h1,h2,h3,h4,h5⟩:=fr;exact ⟨a,us,h1,h2,h3,e1.h.free h4,hT▸h5⟩
theorem yH {n:Nat}{F:List S->M R}{gs:G (List R)}(hT:c.K=X.K):∀σ H Q,tD c (gN (aQ n F) gs) σ H Q->II (p7 X.K n F) [] E0 (tA c gs) σ H Q:=λσ H Q ⟨J,env,sr,w⟩=>by
 refine ⟨J,env,sr,aD (aH w) λrs wr vs J1 H1 e1 r1=>?_⟩;unfold aQ at wr;split at wr
 ·rename_i hl;exact IE hT e1 (r1.args (sr.hp.ext e1)) (by simpa using hl) wr
 ·exact wr.elim
theorem JX {fd:Ud}{F:List S->M R}{gs:G (List R)}(G:fF X.prog X.w X.K X.mg X.base oh k f fd ps (p7 X.K n F)) (hr:cY k X.A) (hm:X.mg x=some (.ref f)) (hk:U5 X.K (.ref f)=true)
 (hb:Binds X.K fd ps []) (ha:Dj X c (e::es) gs) (hT:c.K=X.K:=by rfl) (hg:Gl X x:=by rfl) (hdb:(x == ("__debug__":Str))=false:=by decide) (he:TF (e::es) X.env=(false,eval e X.env)::TF es X.env:=by rfl)
 (hpl:(U_ pos (TF es X.env)).any (·.1)=false:=by rfl):PD X c (.Call (.Name x p) (e::es) [] pos) (gN (aQ n F) gs):=
 fC (vz (E:=E0) G hr hg hm hk hb .nil Cz ha hdb he hpl) (yH hT)
end
noncomputable def dD (cells:List (Str×T3)):List (Str×VX)->List (Str×T3)->Option (List (Str×T3))
 | [],cs=>some cs
 | (n,k)::r,cs=>if k == .free then (match cells.lookup n with
  | some a=>dD cells r ((n,a)::cs)
  | none=>none) else dD cells r cs
theorem mh {env:Env}:∀(names:List (Str×VX)) (cs cl:List (Str×T3)),dD env.cells names cs=some cl->
  (forIn names cs λ(x:Str×VX) (r:List (Str×T3))=>(if (x.2 == .free)=true then do let a <-cellOf env x.1;pure (V4 ((x.1,a)::r)) else pure (V4 r):Sem (ForInStep (List (Str×T3)))))=(pure cl:Sem (List (Str×T3)))
 | [],cs,cl,h=>by cases h;rfl
 | (n,k)::r,cs,cl,h=>by
  unfold dD at h;rw [List.forIn_cons];cases hk:(k == U0) with
  | true=>
   rw [hk,if_pos rfl] at h;cases hc:env.cells.lookup n with
   | none=>rw [hc] at h;cases h
   | some a=>
    rw [hc] at h;have e:cellOf env n=pure a:=by unfold cellOf;rw [hc]
    simp only [hk,if_true,e];exact mh r ((n,a)::cs) cl h
  | false=>
   rw [hk,if_neg (by decide)] at h;simp only [hk];exact mh r cs cl h
theorem xP {S5:W5}{env:Env}{cl:List (Str×T3)}(h:dD env.cells S5.names []=some cl):closureFor S5 env=pure cl:=by have q:=mh (env:=env) S5.names [] cl h;unfold closureFor;show ((forIn S5.names [] λ(x:Str×VX) (r:List (Str×T3))=>(if (x.2 == .free)=true then do let a <-cellOf env x.1;pure (V4 ((x.1,a)::r)) else pure (V4 r):Sem (ForInStep (List (Str×T3))))) >>= λz=>pure z)=pure cl;rw [q];rfl
theorem gO {cells:List (Str×T3)}:∀(names:List (Str×VX)) (cs cl:List (Str×T3)),dD cells names cs=some cl->(∀x c,cs.lookup x=some c->cells.lookup x=some c)->
  (∀x c,cl.lookup x=some c->cells.lookup x=some c)/\(∀x,((cs.lookup x).isSome=true\/(x,U0)∈names)->(cl.lookup x).isSome=true)
 | [],cs,cl,h,k=>by cases h;exact ⟨k,λx hx=>hx.elim id λz=>by cases z⟩
 | (n,kd)::r,cs,cl,h,k=>by
  unfold dD at h;cases hk:(kd == U0) with
  | true=>
   rw [hk,if_pos rfl] at h;cases hc:cells.lookup n with
   | none=>rw [hc] at h;cases h
   | some a=>
    rw [hc] at h;obtain ⟨h1,h2⟩:=gO r ((n,a)::cs) cl h (λx c q=>by
     rw [Vn] at q;cases e:x == n with
     | true=>
      rw [e] at q;cases q;have:x=n:=by simpa using e
      rw [this];exact hc
     | false=>rw [e] at q;exact k x c q)
    refine ⟨h1,λx hx=>h2 x ?_⟩;by_cases e:x=n
    ·left;subst e;rw [Vn];simp
    ·have e':(x == n)=false:=by simpa using e
     rcases hx with hx | hx
     ·left;rw [Vn,e'];exact hx
     ·right;rcases TZ.mp hx with z | z
      ·cases z;exact absurd rfl e
      ·exact z
  | false=>
   rw [hk,if_neg (by decide)] at h;obtain ⟨h1,h2⟩:=gO r cs cl h k;refine ⟨h1,λx hx=>h2 x ?_⟩;rcases hx with hx | hx
   ·exact .inl hx
   ·rcases TZ.mp hx with z | z
    ·cases z;simp at hk
    ·exact .inr z
section
variable {X:Cx}
def cN (X:Cx) (own:List Str) (cap:List Nat):List Str:=own++cap.map λ(j:Nat)=>(X.N[j]?).getD ("":Str)
noncomputable def Ly (X:Cx) (own:List Str) (cap:List Nat) (S5:W5) (cl:List (Str×T3)) (C:T3) (s:Tj) (H:Hp) (fp:List T3):Cx where
 prog:=X.prog
 w:=X.w
 K:=X.K
 mg:=X.mg
 base:=X.base
 A:=X.A
 N:=cN X own cap
 s₀:=s
 H₀:=H
 env:=compEnvC S5 cl C X.env
 outer:=X.stack
 stack:=X.stack
 ex:=fp
 fn:=λ_=>false
 calm:=X.calm
 pn:=[]
 xe:=λ_ _=>False
noncomputable def qq (X:Cx) (cap:List Nat):Bool:=cap.all λj=>match X.N[j]? with
 | some x=>(match X.env.scope.names.lookup x with
  | some .cell=>true
  | some .free=>true
  | _=>false)
 | none=>false
theorem zN {S5:W5}(hc:∀y∈S5.names,y.2≠.cell):∀{x:Str},((relabel S5 env).names.lookup x=some .cell\/(relabel S5 env).names.lookup x=some .free)->(x,U0)∈S5.names:=by
 unfold relabel;have main:∀(names:List (Str×VX)),(∀y∈names,y.2≠.cell)->∀x,((names.map λ(n,k)=>if (k == U0 && env.scope.kind == .function && env.kindOf n == some .cell) then (n,XJ) else (n,k)).lookup x=some .cell\/
   (names.map λ(n,k)=>if (k == U0 && env.scope.kind == .function && env.kindOf n == some .cell) then (n,XJ) else (n,k)).lookup x=some .free)->(x,U0)∈names:=by
  intro names
  induction names with
  | nil=>intro _ x h;simp at h
  | cons p r ih=>
   obtain ⟨n,k⟩:=p;intro hc x h;rw [TV] at h;simp only at h;by_cases hx:x=n
   ·subst hx;have hk:k≠.cell:=hc (x,k) Tu;have:k=.free:=by
     by_cases q:(k == U0 && env.scope.kind == .function && env.kindOf x == some .cell)=true
     ·rw [Tt,Tt] at q;simpa using q.1.1
     ·rw [if_neg q,Vn] at h;simp at h;rcases h with h | h
      ·exact absurd h hk
      ·exact h
    subst this;exact Tu
   ·have hx':(x == n)=false:=by simpa using hx
    refine Tq _ (ih (λy hy=>hc y (Tq _ hy)) x ?_);have red:∀(q:Str×VX) (l:List (Str×VX)),q.1=n->adY x (q::l)=adY x l:=λq l hq=>by obtain ⟨q1,q2⟩:=q;simp only at hq;subst hq;rw [Vn,hx']
    have hq:(if (k == U0 && env.scope.kind == .function && env.kindOf n == some .cell) then (n,XJ) else (n,k)).1=n:=by split <;> rfl
    rw [red _ _ hq] at h;exact h
 intro x h;exact main S5.names hc x h
end
section
variable {X:Cx}{c:C}
noncomputable def BG (X:Cx) (c:C) (ifs:List Uo) (g:G Bool):Prop:=
 ∀(S6:List (T3×Obj)) (s:Tj) (σ:L2.St) (H:Hp) (Q:Bool->Hp->Prop),Inv X S6 σ H s->tB c g σ H Q->
  TX (T5 X.prog X.w) X.A (forIn ifs true λc r=>if r=true then do let ok <-aaH c X.env (eval c X.env);pure (V4 ok) else pure (V4 r)) (TP X S6 σ Q) X.xe s
def b_:G Bool:=λ_=>.ok true
noncomputable def fB (gt:GT) (gts:G Bool) (ge:G R):List D->Ev->M (List D)
 | [],_=>.ok []
 | d::ds,env=>gt d env >>= λe=>gts e >>= λk=>if k=true then ge e >>= λr=>toD r >>= λy=>fB gt gts ge ds e >>= λys=>.ok (y::ys) else fB gt gts ge ds e
def cE (n:Nat) (cap:List Nat) (env:Ev):Ev:=Vj n none++cap.map λ(j:Nat)=>(env[j]?).getD none
noncomputable def bK (n:Nat) (cap:List Nat) (gi:G (List D)) (gt:GT) (gts:G Bool) (ge:G R):G R:=λenv=>gi env >>= λds=>if ds.length<=sizeLine then fB gt gts ge ds (cE n cap env) >>= λys=>.ok (.l .fresh ys) else .bad
theorem kj {α:Type}{n:Nat}{cap:List Nat}{env:List (Option α)}{i:Nat}{x:α}(h:(Vj n none++cap.map λ(j:Nat)=>(env[j]?).getD none)[i]?=some (some x)):∃j,n<=i/\cap[i - n]?=some j/\env[j]?=some (some x):=by
 by_cases hi:i < n
 ·rw [VD (by simpa using hi),XG] at h;split at h <;> cases h
 ·rw [Va (by simpa using hi),VJ,Uh] at h;cases q:cap[i - n]? with
  | none=>rw [q] at h;cases h
  | some j=>
   rw [q] at h;refine ⟨j,by omega,rfl,?_⟩;have h':(env[j]?).getD none=some x:=U3 h;cases z:env[j]? with
   | none=>rw [z] at h';cases h'
   | some o=>rw [z] at h';exact congrArg some h'
theorem Nz {α:Type}{n:Nat}{cap:List Nat}{env:List (Option α)}{i j:Nat}{x:α}(h1:n<=i) (h2:cap[i - n]?=some j) (h3:env[j]?=some (some x)):(Vj n none++cap.map λ(j:Nat)=>(env[j]?).getD none)[i]?=some (some x):=by rw [Va (by simpa using h1),VJ,Uh,h2];simp [h3]
theorem SR.cap {J H:Hp}{σ:L2.St}{env:Ev}(sr:SR c J H σ env) (n:Nat) (cap:List Nat) (hnd:cap.Nodup):SR c J H (Vj n none++cap.map λ(j:Nat)=>(σ[j]?).getD none) (cE n cap env):=by
 refine ⟨sr.hp,by simp [cE],λi x q=>?_,λi j xs ys v hij q1 q2 q3 q4=>?_⟩
 ·obtain ⟨j,h1,h2,h3⟩:=kj q;obtain ⟨v,k1,k2⟩:=sr.at_ j x h3;exact ⟨v,Nz h1 h2 k1,k2⟩
 ·obtain ⟨a,h1,h2,h3⟩:=kj q1;obtain ⟨b,h4,h5,h6⟩:=kj q2;obtain ⟨a',h7,h8,h9⟩:=kj q3;obtain ⟨b',SS,h11,h12⟩:=kj q4;rw [h2] at h8;cases h8;rw [h5] at h11;cases h11;have hab:a≠b:=λz=>by subst z;have e1:=(T7.mp h2);have e2:=(T7.mp h5);have:=(abP hnd).mp (e1.2.trans e2.2.symm);omega
  exact sr.sep a b xs ys v hab h3 h6 h9 h12
theorem SR.other {J H:Hp}(sr:SR c J H σ env) (hJ:J p=none) (h0:c.H0 p=none) (hn:∀(j:Nat) (xs:Mn),env[j]?=some (some (mS xs))->σ[j]?≠some (some (.ref p))):SR c J (L2.upd H p o) σ env:=by
 refine ⟨⟨λb u q=>?_,λb u q=>?_,sr.hp.entJ,sr.hp.frz⟩,sr.len,λj y q=>?_,sr.sep⟩
 ·have:b≠p:=λz=>by rw [z,hJ] at q;cases q
  rw [bA this];exact sr.hp.sub b u q
 ·have:b≠p:=λz=>by rw [z,h0] at q;cases q
  rw [bA this];exact sr.hp.ent b u q
 ·obtain ⟨w,k1,k2⟩:=sr.at_ j y q;refine ⟨w,k1,?_⟩;cases y with
  | d x=>exact k2
  | bor zs=>exact k2
  | db _ _=>exact k2
  | fn _=>exact k2
  | dk ks zs=>
   obtain ⟨p',rfl,⟨us,ws,ep,m1,mr⟩,m2⟩:=k2;have hne:p'≠p:=λz=>hn j (.inr (ks,zs)) q (z▸k1);exact ⟨p',rfl,⟨us,ws,ep,by rw [bA hne];exact m1,mr⟩,m2⟩
  | own zs=>
   obtain ⟨p',us,rfl,m1,m2,m3,m4⟩:=k2;have hne:p'≠p:=λz=>hn j (.inl zs) q (z▸k1);exact ⟨p',us,rfl,by rw [bA hne];exact m1,m2,m3,m4⟩
theorem Ext.other {J H J' H':Hp}(e:Ext J H J' H') (h:H p=none) (hJ:J' p=none):Ext J H J' (L2.upd H' p o):=
 ⟨λb u q=>by rw [bA (fc q h)];exact e.h b u q,e.j,λb u q=>by
  have:b≠p:=λz=>by rw [z,hJ] at q;cases q
  rw [bA this];exact e.sub b u q,e.frz⟩
theorem Aw {H:Hp}(x:fW P w H h) (hn:H a=none) (sb:Vu a h h'):fW P w H h':=λb u e=>by
 refine (x b u e).stay (λd v hd q=>(sb.2 d ?_).trans q) (λ_ q=>q) λ_ _ q=>q;rintro rfl;rcases hd with rfl | hd
 ·rw [hn] at e;cases e
 ·rw [hn] at hd;cases hd
theorem Px {S6:List (T3×Obj)}{σ:L2.St}{H:Hp}{s:Tj}{own:List Str}{cap:List Nat}{S5:W5}{cl:List (Str×T3)}{fp:List T3}{h1:Vd}{m:Str->Option Ti}{tk:Nat}(I:Inv X S6 σ H s) (ok:(Ly X own cap S5 cl s.heap.objs.size s H fp).Ok)
  (hcl:dD X.env.cells S5.names []=some cl) (hcell:∀y∈S5.names,y.2≠.cell) (hcap:qq X cap=true) (QT:∀j∈cap,∀x,X.N[j]?=some x->(relabel S5 X.env).names.lookup x≠some .local)
  (hns:h1.Ns s.heap.objs.size m) (old:∀b o,s.heap.get? b=some o->h1.get? b=some o):
  Inv (Ly X own cap S5 cl s.heap.objs.size s H fp) [] (Vj own.length none++cap.map λ(j:Nat)=>(σ[j]?).getD none) H {s with heap:=h1,toks:=tk}:=by
 obtain ⟨m1,m2⟩:=gO S5.names [] cl hcl (λx c h=>by simp at h);refine ⟨ok,rfl,I.bare,Un.kept old,⟨m,hns,λi x v q1 q2 q3=>?_⟩,λx d h=>?_,I.hok.fresh (Tv _),λx d h=>I.freeC x d (m1 x d h),λp hp=>absurd (show p∈([]:List (T3×Obj)) from hp) (by simp),I.hok.kept old,?_⟩
 ·obtain ⟨j,h2,h3,h4⟩:=kj q2;have q1':(own++cap.map λ(j:Nat)=>(X.N[j]?).getD ("":Str))[i]?=some x:=q1;rw [Va (by exact h2),Uh,h3] at q1';have hj:j∈cap:=UJ h3;have hc:(match X.N[j]? with
   | some x=>(match X.env.scope.names.lookup x with
    | some .cell=>true
    | some .free=>true
    | _=>false)
   | none=>false)=true:=by unfold qq at hcap;exact T8.mp hcap j hj
  cases hx:X.N[j]? with
  | none=>rw [hx] at hc;cases hc
  | some y=>
   rw [ab7,hx] at q1';rw [hx] at hc;have e:y=x:=by simpa using q1'
   subst e;have kd:X.env.kindOf y=some .cell\/X.env.kindOf y=some .free:=by
    unfold ael;simp only at hc;split at hc
    ·rename_i z;exact .inl z
    ·rename_i z;exact .inr z
    ·cases hc
   obtain ⟨mX,nX,lX⟩:=I.loc;obtain ⟨u,ru,lu⟩:=lX j y v hx h4 (kd.elim (λz=>.inr (.inl z)) λz=>.inr (.inr z));refine ⟨u,ru,.inr ?_⟩;have kd':(relabel S5 X.env).names.lookup y=some .cell\/(relabel S5 X.env).names.lookup y=some .free:=by
    rcases q3 with z | z | z
    ·exact absurd z (QT j hj y hx)
    ·exact .inl z
    ·exact .inr z
   refine ⟨kd',?_⟩;obtain ⟨d,hd⟩:=U1.mp (m2 y (.inr (zN hcell kd')));refine ⟨d,hd,?_⟩;rcases lu with ⟨z,_⟩ | ⟨_,d',hd',z⟩
   ·rcases kd with k | k <;> (rw [k] at z;cases z)
   ·have:=m1 y d hd;rw [hd'] at this;cases this;obtain ⟨o,ho,hod⟩:=z;exact ⟨o,old _ _ ho,hod⟩
 ·obtain ⟨v,o,ho,hod⟩:=I.cell x d (m1 x d h);exact ⟨v,o,old _ _ ho,hod⟩
 ·show _=(own++cap.map λ(j:Nat)=>(X.N[j]?).getD ("":Str)).length;simp
noncomputable def DO (X:Cx) (cap:List Nat) (S5:W5):Bool:=cap.all λj=>match X.N[j]? with
 | some x=>!((relabel S5 X.env).names.lookup x == some .local)
 | none=>true
noncomputable def zy:List Nat->Bool
 | []=>true
 | x::r=>!(r.contains x) && zy r
theorem Bb:∀{l:List Nat},zy l=true->l.Nodup
 | [],_=>WY
 | x::r,h=>by unfold zy at h;rw [Tt] at h;refine VI.mpr ⟨λz=>?_,Bb h.2⟩;have:=h.1;simp [z] at this
theorem Lk {X:Cx}{H:Hp}{s:Tj}(I:L2.Inv X S6 σ H s) (h:s.heap.objs.size<=T):(T∈X.ex\/X.s₀.heap.objs.size<=T)/\T≠X.env.locals/\(∀x c,X.env.cells.lookup x=some c->c≠T)/\∀p∈X.pn++S6,p.1≠T:=by have ne:∀b,b < s.heap.objs.size->b≠T:=λb hb z=>absurd (T9 (z▸hb) h) (US _);refine ⟨.inr (T6 I.sz h),(ne _ I.lt).symm,λx c hc=>?_,λp hp=>ne _ (TN (I.pin p hp).1)⟩;obtain ⟨v,o,hv,_⟩:=I.cell x c hc;exact ne _ (TN hv)
theorem ED {X:Cx}{H:Hp}{s:Tj}{C:T3}{o0:Obj}(I:L2.Inv X S6 σ H s) (ap:(C∈X.ex\/X.s₀.heap.objs.size<=C)/\C≠X.env.locals/\(∀x c,X.env.cells.lookup x=some c->c≠C)/\∀p∈X.pn++S6,p.1≠C) (hf:H C=none) (sb:Vu C s.heap h'):L2.Inv X S6 σ H {s with heap:=h'}:=by
 refine I.call' (ch:=[C]) rfl ⟨λb o hb hn _ hx=>?_,λb o hb hn _ hx=>⟨o.slots,?_⟩,λ_ _ _ n _=>n,λb o hb hx=>⟨o,?_⟩,λ_ _ q=>q,λ_ _ _ q=>q,λ_ ps q=>⟨#[],by rw [q];simp⟩⟩ (λa o ha=>?_) I.bare (λb hb=>by rw [TL.mp hb];exact ap)
 ·exact (sb.2 b λz=>hx (by simp [z])).trans hb
 ·exact (sb.2 b λz=>hx (by simp [z])).trans hb
 ·exact (sb.2 b λz=>hx (by simp [z])).trans hb
 ·refine (I.hok a o ha).stay (λb u hb q=>(sb.2 b λz=>?_).trans q) (λ_ q=>q) λ_ _ q=>q;rcases hb with rfl | hb
  ·rw [z,hf] at ha;cases ha
  ·rw [z,hf] at hb;cases hb
end
mutual
noncomputable def aZ:D->D->Bool
 | .non,.non=>true
 | .bl p,.bl q=>p == q
 | .bl p,.int q=>(if p then 1 else 0) == q
 | .int p,.bl q=>p == (if q then 1 else 0)
 | .int p,.int q=>p == q
 | .str p,.str q=>p == q
 | .tup p,.tup q=>cC p q
 | .lst p,.lst q=>cC p q
 | .emp,.emp=>true
 | .exn _ _ _,.exn _ _ _=>true
 | .dct _ _,.dct _ _=>true
 | _,_=>false
noncomputable def cC:List D->List D->Bool
 | [],[]=>true
 | x::xs,y::ys=>aZ x y && cC xs ys
 | _,_=>false
end
mutual
theorem fk:∀d:D,aZ d d=true
 | .non=>by simp [aZ]
 | .bl _=>by simp [aZ]
 | .int _=>by simp [aZ]
 | .str _=>by simp [aZ]
 | .tup xs=>by simp only [aZ];exact pA xs
 | .lst xs=>by simp only [aZ];exact pA xs
 | .emp=>by simp [aZ]
 | .exn _ _ _=>by simp [aZ]
 | .dct _ _=>by simp [aZ]
theorem pA:∀ds:List D,cC ds ds=true
 | []=>by simp [cC]
 | x::xs=>by simp only [cC,fk x,pA xs,adi]
end
theorem nF:∀{xs ys:List D},xs.length≠ys.length->cC xs ys=false
 | [],[],h=>absurd rfl h
 | [],_::_,_=>by simp [cC]
 | _::_,[],_=>by simp [cC]
 | x::xs,y::ys,h=>by simp only [cC,nF (xs:=xs) (ys:=ys) (λz=>h (congrArg (· + 1) z)),WX]
noncomputable def nT (xs ys:List D) (j:Nat):Bool:=match xs[j]?,ys[j]? with
 | some x,some y=>aZ x y
 | _,_=>false
theorem nG:∀{xs ys:List D},xs.length=ys.length->(Tw xs.length).all (nT xs ys)=cC xs ys
 | [],[],_=>by simp [cC]
 | x::xs,y::ys,h=>by have ih:=nG (xs:=xs) (ys:=ys) (by simpa using h);rw [UB,X5,Wi,Zf];simp only [cC];rw [<-ih];rfl
theorem yT (xs ys:List D):((Tw (min xs.length ys.length)).all (nT xs ys) && xs.length == ys.length)=cC xs ys:=by
 by_cases h:xs.length=ys.length
 ·rw [<-h,Nat.min_self,nG h];simp
 ·rw [nF h,beq_eq_false_iff_ne.mpr h,WX]
section
structure HF (K:Tg) (J:Hp) (s:Tj):Prop where
 t:∀a xs,cZ K J a xs->∃S7:List Ti,Vals xs S7/\s.heap.IsTuple a S7.toArray
 l:∀a xs,bY K J a xs->∃S7:List Ti,Vals xs S7/\s.heap.IsList a S7.toArray
 e:∀a,J a=some (.dK [])->∃o,s.heap.get? a=some o/\o.cls=.type "dict"
 d:∀a ep Td,J a=some (iA a ep Td)->∃o es,s.heap.get? a=some o/\o.ExactDict/\o.data=.dict es ep/\Zn yl Td es.toList
variable {K:Tg}{J:Hp}{s:Tj}
theorem HF.of {X:Cx}{c:C}{H:Hp}(I:Inv X S6 σ H s) (hs:aS J H):HF X.K J s:=
 ⟨λa xs h=>let ⟨S7,r,p,_⟩:=I.tuple (fD hs h);⟨S7,r,p⟩,λa xs h=>let ⟨S7,r,p,_⟩:=I.list (hs.seq h);⟨S7,r,p.isList⟩,λa h=>by
  obtain ⟨_,_,vs,_,p⟩:=(show cj X.prog X.w H s.heap a (.dK []) from I.hok a _ (hs _ _ h));obtain ⟨o,es,ep,h1,h2,_⟩:=p;exact ⟨o,h1,h2.1⟩,λa ep Td h=>(show cj X.prog X.w H s.heap a (iA a ep Td) from I.hok a _ (hs _ _ h)).1⟩
theorem Ef {xs ys:List Ti}(h:s.heap.IsTuple a xs.toArray) (h':s.heap.IsTuple a ys.toArray):xs=ys:=by
 obtain ⟨o,ho,_,n,hd⟩:=h;obtain ⟨o',ho',_,n',hd'⟩:=h';rw [ho] at ho';cases ho';rw [hd] at hd';injection hd' with h1 _
 simpa using congrArg Z6 h1
theorem Cf {xs ys:List Ti}(h:s.heap.IsList a xs.toArray) (h':s.heap.IsList a ys.toArray):xs=ys:=by
 obtain ⟨o,ho,_,n,hd⟩:=h;obtain ⟨o',ho',_,n',hd'⟩:=h';rw [ho] at ho';cases ho';rw [hd] at hd';injection hd' with h1 _
 simpa using congrArg Z6 h1
mutual
theorem Rep.inj (F:HF K J s):∀{d e:D}{v:V},Rep K J d v->Rep K J e v->dep d<=1000->dep e<=1000->d=e
 | _,_,_,.emp _,_,h,_=>by unfold dep at h;omega
 | _,_,_,.exn _ _ _ _ _,_,h,_=>by unfold dep at h;omega
 | _,_,_,.dct _ _ _ _ _,_,h,_=>by unfold dep at h;omega
 | _,_,_,.non,.non,_,_=>rfl
 | _,_,_,.bl _,.bl _,_,_=>rfl
 | _,_,_,.int _,.int _,_,_=>rfl
 | _,_,_,.str _,.str _,_,_=>rfl
 | _,_,_,.tup _ _,.emp _,_,h=>by unfold dep at h;omega
 | _,_,_,.lst _ _,.emp _,_,h=>by unfold dep at h;omega
 | _,_,_,.tup _ _,.exn _ _ _ _ _,_,h=>by unfold dep at h;omega
 | _,_,_,.tup _ _,.dct _ _ _ _ _,_,h=>by unfold dep at h;omega
 | _,_,_,.lst _ _,.exn _ _ _ _ _,_,h=>by unfold dep at h;omega
 | _,_,_,.lst _ _,.dct _ _ _ _ _,_,h=>by unfold dep at h;omega
 | _,_,_,.tup h hs,.tup h' hs',k,k'=>by obtain ⟨S7,r,p⟩:=F.t _ _ h;obtain ⟨its',r',p'⟩:=F.t _ _ h';have:=Ef p p';subst this;have:=r.inj r';subst this;rw [aJ.inj F hs hs' (by unfold dep at k;omega) (by unfold dep at k';omega)]
 | _,_,_,.lst h hs,.lst h' hs',k,k'=>by obtain ⟨S7,r,p⟩:=F.l _ _ h;obtain ⟨its',r',p'⟩:=F.l _ _ h';have:=Cf p p';subst this;have:=r.inj r';subst this;rw [aJ.inj F hs hs' (by unfold dep at k;omega) (by unfold dep at k';omega)]
 | _,_,_,.tup h _,.lst h' _,_,_=>by obtain ⟨S7,r,p⟩:=F.t _ _ h;obtain ⟨its',r',p'⟩:=F.l _ _ h';exact absurd rfl (ZX p' p)
 | _,_,_,.lst h _,.tup h' _,_,_=>by obtain ⟨S7,r,p⟩:=F.l _ _ h;obtain ⟨its',r',p'⟩:=F.t _ _ h';exact absurd rfl (ZX p p')
theorem aJ.inj (F:HF K J s):∀{ds es:List D}{vs:List V},aJ K J ds vs->aJ K J es vs->deps ds<=1000->deps es<=1000->ds=es
 | _,_,_,.nil,.nil,_,_=>rfl
 | _,_,_,.cons h hs,.cons h' hs',k,k'=>by rw [Rep.inj F h h' (by unfold deps at k;omega) (by unfold deps at k';omega),aJ.inj F hs hs' (by unfold deps at k;omega) (by unfold deps at k';omega)]
end
theorem jn {A:Um}(h:s.heap.IsTuple a S7) (r:RelV v u) (f:t6 v=true) (hu:A.units < Vm):VN A s (.ref a) u false/\VN A s u (.ref a) false:=by
 cases v with
 | non=>cases r;exact ⟨.tuple_none h hu,.none_tuple h hu⟩
 | bl b=>cases r;exact ⟨.tuple_bool b h hu,.bool_tuple b h hu⟩
 | int i=>obtain ⟨t,rfl⟩:=r;exact ⟨.tuple_int i t h hu,.int_tuple i t h hu⟩
 | str x=>obtain ⟨t,rfl⟩:=r;exact ⟨.tuple_str x t h hu,.str_tuple x t h hu⟩
 | _=>exact absurd (show false=true from f) T_
theorem jU {A:Um}(h:s.heap.IsList a S7) (r:RelV v u) (f:t6 v=true) (hu:A.units < Vm):VN A s (.ref a) u false/\VN A s u (.ref a) false:=by
 cases v with
 | non=>cases r;exact ⟨.list_none h hu,.none_list h hu⟩
 | bl b=>cases r;exact ⟨.list_bool b h hu,.bool_list b h hu⟩
 | int i=>obtain ⟨t,rfl⟩:=r;exact ⟨.list_int i t h hu,.int_list i t h hu⟩
 | str x=>obtain ⟨t,rfl⟩:=r;exact ⟨.list_str x t h hu,.str_list x t h hu⟩
 | _=>exact absurd (show false=true from f) T_
noncomputable def pL:D->Bool
 | .tup _=>false
 | .lst _=>false
 | .emp=>false
 | .exn _ _ _=>false
 | .dct _ _=>false
 | _=>true
theorem Rep.flat (h:Rep K J d v) (f:pL d=true):t6 v=true:=by cases h <;> first | rfl | cases f
theorem F4 (h:Rep K J d v) (h':Rep K J e w) (f:pL d=true) (f':pL e=true):LB v w=aZ d e:=by cases h <;> cases h' <;> first | rfl | cases f | cases f' | simp [LB,aZ]
theorem in1_units (A:Um):A.in1.units=A.units + 1:=rfl
theorem tZ (F:HF K J s) (A:Um) (hd:Rep K J d v) (he:Rep K J e w) (rv:RelV v u) (rw':RelV w u') (f:pL d=true) (hu:A.units < Vm) (hu':dep e<=1000):VN A s u u' (aZ d e):=by
 cases q:pL e with
 | true=>rw [<-F4 hd he f q];exact LA rv rw' (hd.flat f) (he.flat q)
 | false=>
  cases he with
  | tup h' hs'=>
   cases rw';obtain ⟨its',r',p'⟩:=F.t _ _ h';have:=(jn p' rv (hd.flat f) hu).2;cases hd <;> first | exact this | cases f
  | lst h' hs'=>
   cases rw';obtain ⟨its',r',p'⟩:=F.l _ _ h';have:=(jU p' rv (hd.flat f) hu).2;cases hd <;> first | exact this | cases f
  | emp _=>unfold dep at hu';omega
  | exn _ _ _ _ _=>unfold dep at hu';omega
  | dct _ _ _ _ _=>unfold dep at hu';omega
  | _=>cases q
mutual
theorem mJ (F:HF K J s):∀{d e:D}{v w:V}{u u':Ti}(A:Um),Rep K J d v->Rep K J e w->RelV v u->RelV w u'->A.units + dep d < Vm->dep d<=1000->dep e<=1000->VN A s u u' (aZ d e)
 | .tup ds,e,_,w,u,u',A,.tup h hs,he,rv,rw',hu,hd1,hu'=>by
  cases rv;obtain ⟨S7,r,p⟩:=F.t _ _ h;have Qg:A.units < Vm:=by unfold dep at hu;omega
  cases he with
  | tup h' hs'=>
   cases rw';obtain ⟨its',r',p'⟩:=F.t _ _ h';rename_i a vs b ws es;by_cases q:a=b
   ·subst q;have:=Rep.inj F (.tup h hs) (.tup h' hs') hd1 hu';rw [<-this,fk];exact aaa _
   ·have l1:S7.length=ds.length:=by rw [<-r.length,hs.length]
    have l2:its'.length=es.length:=by rw [<-r'.length,hs'.length]
    simp only [aZ];rw [<-yT,<-l1,<-l2];refine aa8 q ?_;have:=abn (e:=nT ds es) p p' Qg λj j1 j2=>by
     have k1:j < ds.length:=by rw [<-l1];simpa using j1
     have k2:j < es.length:=by rw [<-l2];simpa using j2
     have:=mK F A.in1 hs hs' r r' (by rw [in1_units];unfold dep at hu;omega) (by unfold dep at hd1;omega) (by unfold dep at hu';omega) j k1 k2;have m1:j < S7.length:=by simpa using j1
     have m2:j < its'.length:=by simpa using j2
     simpa [m1,m2] using this
    simpa using this
  | lst h' hs'=>
   cases rw';obtain ⟨its',r',p'⟩:=F.l _ _ h';exact adA p p' Qg
  | non=>exact (jn p rw' rfl Qg).1
  | bl _=>exact (jn p rw' rfl Qg).1
  | int _=>exact (jn p rw' rfl Qg).1
  | str _=>exact (jn p rw' rfl Qg).1
  | emp _=>unfold dep at hu';omega
  | exn _ _ _ _ _=>unfold dep at hu';omega
  | dct _ _ _ _ _=>unfold dep at hu';omega
 | .lst ds,e,_,w,u,u',A,.lst h hs,he,rv,rw',hu,hd1,hu'=>by
  cases rv;obtain ⟨S7,r,p⟩:=F.l _ _ h;have Qg:A.units < Vm:=by unfold dep at hu;omega
  cases he with
  | lst h' hs'=>
   cases rw';obtain ⟨its',r',p'⟩:=F.l _ _ h';rename_i a vs b ws es;by_cases q:a=b
   ·subst q;have:=Rep.inj F (.lst h hs) (.lst h' hs') hd1 hu';rw [<-this,fk];exact aaa _
   ·have l1:S7.length=ds.length:=by rw [<-r.length,hs.length]
    have l2:its'.length=es.length:=by rw [<-r'.length,hs'.length]
    simp only [aZ];refine aa8 q ?_;by_cases z:ds.length=es.length
    ·rw [<-nG z,<-l1];have:=abS (e:=nT ds es) p p' (by simp;omega) Qg λj j1 j2=>by
      have k1:j < ds.length:=by rw [<-l1];simpa using j1
      have k2:j < es.length:=by rw [<-l2];simpa using j2
      have:=mK F A.in1 hs hs' r r' (by rw [in1_units];unfold dep at hu;omega) (by unfold dep at hd1;omega) (by unfold dep at hu';omega) j k1 k2;have m1:j < S7.length:=by simpa using j1
      have m2:j < its'.length:=by simpa using j2
      simpa [m1,m2] using this
     simpa using this
    ·rw [nF z];exact ac0 p p' (by simp;omega) Qg
  | tup h' hs'=>
   cases rw';obtain ⟨its',r',p'⟩:=F.t _ _ h';exact adB p p' Qg
  | non=>exact (jU p rw' rfl Qg).1
  | bl _=>exact (jU p rw' rfl Qg).1
  | int _=>exact (jU p rw' rfl Qg).1
  | str _=>exact (jU p rw' rfl Qg).1
  | emp _=>unfold dep at hu';omega
  | exn _ _ _ _ _=>unfold dep at hu';omega
  | dct _ _ _ _ _=>unfold dep at hu';omega
 | .non,e,v,w,u,u',A,hd,he,rv,rw',hu,_,hu'=>tZ F A hd he rv rw' rfl (by omega) hu'
 | .bl _,e,v,w,u,u',A,hd,he,rv,rw',hu,_,hu'=>tZ F A hd he rv rw' rfl (by omega) hu'
 | .int _,e,v,w,u,u',A,hd,he,rv,rw',hu,_,hu'=>tZ F A hd he rv rw' rfl (by omega) hu'
 | .emp,e,v,w,u,u',A,hd,he,rv,rw',hu,hd1,hu'=>by unfold dep at hd1;omega
 | .exn _ _ _,e,v,w,u,u',A,hd,he,rv,rw',hu,hd1,hu'=>by unfold dep at hd1;omega
 | .dct _ _,e,v,w,u,u',A,hd,he,rv,rw',hu,hd1,hu'=>by unfold dep at hd1;omega
 | .str _,e,v,w,u,u',A,hd,he,rv,rw',hu,_,hu'=>tZ F A hd he rv rw' rfl (by omega) hu'
theorem mK (F:HF K J s):∀{ds es:List D}{vs ws:List V}{us us':List Ti}(A:Um),aJ K J ds vs->aJ K J es ws->Vals vs us->Vals ws us'->A.units + deps ds < Vm->deps ds<=1000->deps es<=1000->
  ∀(j:Nat) (h1:j < ds.length) (h2:j < es.length),VN A s (us.getD j .none) (us'.getD j .none) (nT ds es j)
 | _,_,_,_,_,_,A,.cons h hs,.cons h' hs',.cons r rs,.cons r' rs',hu,k1,k2,0,_,_=>mJ F A h h' r r' (by unfold deps at hu;omega) (by unfold deps at k1;omega) (by unfold deps at k2;omega)
 | _,_,_,_,_,_,A,.cons h hs,.cons h' hs',.cons r rs,.cons r' rs',hu,k1,k2,j + 1,h1,h2=>mK F A hs hs' rs rs' (by unfold deps at hu;omega) (by unfold deps at k1;omega) (by unfold deps at k2;omega) j (by simpa using h1) (by simpa using h2)
end
end
section
variable {K:Tg}{J:Hp}{s:Tj}
theorem E2 (F:HF K J s) (A:Um) (hd:Rep K J d v) (he:Rep K J e w) (rv:RelV v u) (rw':RelV w u') (hu:A.units + dep d < Vm) (hd1:dep d<=1000) (hu':dep e<=1000):SeqAt.RcAt A s u u' (aZ d e)/\SeqAt.RcNeAt A s u u' (!aZ d e):=by
 have Qg:A.units < Vm:=by omega
 cases hd with
 | non=>
  cases rv;cases he with
  | non=>cases rw';exact ⟨.none_none,.none_none⟩
  | bl b=>cases rw';exact ⟨.none_bool b,.none_bool b⟩
  | int i=>obtain ⟨t,rfl⟩:=rw';exact ⟨.none_int i t,.none_int i t⟩
  | str x=>obtain ⟨t,rfl⟩:=rw';exact ⟨.none_str x t,.none_str x t⟩
  | tup h hs=>cases rw';obtain ⟨S7,r,p⟩:=F.t _ _ h;exact ⟨.none_tuple p Qg,.none_tuple p Qg⟩
  | lst h hs=>cases rw';obtain ⟨S7,r,p⟩:=F.l _ _ h;exact ⟨.none_list p Qg,.none_list p Qg⟩
  | emp _=>unfold dep at hu';omega
  | exn _ _ _ _ _=>unfold dep at hu';omega
  | dct _ _ _ _ _=>unfold dep at hu';omega
 | bl a=>
  cases rv;cases he with
  | non=>cases rw';exact ⟨.bool_none a,.bool_none a⟩
  | bl b=>cases rw';exact ⟨.bool_bool a b,.bool_bool a b⟩
  | int i=>obtain ⟨t,rfl⟩:=rw';exact ⟨.bool_int a i t,.bool_int a i t⟩
  | str x=>obtain ⟨t,rfl⟩:=rw';exact ⟨.bool_str a x t,.bool_str a x t⟩
  | tup h hs=>cases rw';obtain ⟨S7,r,p⟩:=F.t _ _ h;exact ⟨.bool_tuple a p Qg,.bool_tuple a p Qg⟩
  | lst h hs=>cases rw';obtain ⟨S7,r,p⟩:=F.l _ _ h;exact ⟨.bool_list a p Qg,.bool_list a p Qg⟩
  | emp _=>unfold dep at hu';omega
  | exn _ _ _ _ _=>unfold dep at hu';omega
  | dct _ _ _ _ _=>unfold dep at hu';omega
 | int a=>
  obtain ⟨t0,rfl⟩:=rv;cases he with
  | non=>cases rw';exact ⟨.int_none a t0,.int_none a t0⟩
  | bl b=>cases rw';exact ⟨.int_bool a t0 b,.int_bool a t0 b⟩
  | int i=>obtain ⟨t,rfl⟩:=rw';exact ⟨.int_int a t0 i t,.int_int a t0 i t⟩
  | str x=>obtain ⟨t,rfl⟩:=rw';exact ⟨.int_str a t0 x t,.int_str a t0 x t⟩
  | tup h hs=>cases rw';obtain ⟨S7,r,p⟩:=F.t _ _ h;exact ⟨.int_tuple a t0 p Qg,.int_tuple a t0 p Qg⟩
  | lst h hs=>cases rw';obtain ⟨S7,r,p⟩:=F.l _ _ h;exact ⟨.int_list a t0 p Qg,.int_list a t0 p Qg⟩
  | emp _=>unfold dep at hu';omega
  | exn _ _ _ _ _=>unfold dep at hu';omega
  | dct _ _ _ _ _=>unfold dep at hu';omega
 | str a=>
  obtain ⟨t0,rfl⟩:=rv;cases he with
  | non=>cases rw';exact ⟨.str_none a t0,.str_none a t0⟩
  | bl b=>cases rw';exact ⟨.str_bool a t0 b,.str_bool a t0 b⟩
  | int i=>obtain ⟨t,rfl⟩:=rw';exact ⟨.str_int a t0 i t,.str_int a t0 i t⟩
  | str x=>obtain ⟨t,rfl⟩:=rw';exact ⟨.str_str a t0 x t,.str_str a t0 x t⟩
  | tup h hs=>cases rw';obtain ⟨S7,r,p⟩:=F.t _ _ h;exact ⟨.str_tuple a t0 p Qg,.str_tuple a t0 p Qg⟩
  | lst h hs=>cases rw';obtain ⟨S7,r,p⟩:=F.l _ _ h;exact ⟨.str_list a t0 p Qg,.str_list a t0 p Qg⟩
  | emp _=>unfold dep at hu';omega
  | exn _ _ _ _ _=>unfold dep at hu';omega
  | dct _ _ _ _ _=>unfold dep at hu';omega
 | tup h hs=>
  cases rv;obtain ⟨S7,r,p⟩:=F.t _ _ h;cases he with
  | non=>cases rw';exact ⟨.tuple_none p Qg,.tuple_none p Qg⟩
  | bl b=>cases rw';exact ⟨.tuple_bool b p Qg,.tuple_bool b p Qg⟩
  | int i=>obtain ⟨t,rfl⟩:=rw';exact ⟨.tuple_int i t p Qg,.tuple_int i t p Qg⟩
  | str x=>obtain ⟨t,rfl⟩:=rw';exact ⟨.tuple_str x t p Qg,.tuple_str x t p Qg⟩
  | lst h' hs'=>cases rw';obtain ⟨its',r',p'⟩:=F.l _ _ h';exact ⟨.tuple_list p p' Qg,.tuple_list p p' Qg⟩
  | emp _=>unfold dep at hu';omega
  | exn _ _ _ _ _=>unfold dep at hu';omega
  | dct _ _ _ _ _=>unfold dep at hu';omega
  | tup h' hs'=>
   cases rw';obtain ⟨its',r',p'⟩:=F.t _ _ h';rename_i a vs ds b ws es;have l1:S7.length=ds.length:=by rw [<-r.length,hs.length]
   have l2:its'.length=es.length:=by rw [<-r'.length,hs'.length]
   have it:∀(j:Nat) (j1:j < S7.toArray.size) (j2:j < its'.toArray.size),VN A.in1 s S7.toArray[j] its'.toArray[j] (nT ds es j):=λj j1 j2=>by
    have k1:j < ds.length:=by rw [<-l1];simpa using j1
    have k2:j < es.length:=by rw [<-l2];simpa using j2
    have:=mK F A.in1 hs hs' r r' (by rw [in1_units];unfold dep at hu;omega) (by unfold dep at hd1;omega) (by unfold dep at hu';omega) j k1 k2;have m1:j < S7.length:=by simpa using j1
    have m2:j < its'.length:=by simpa using j2
    simpa [m1,m2] using this
   simp only [aZ];rw [<-yT,<-l1,<-l2];have q1:=abn p p' Qg it;have q2:=adZ p p' Qg it;exact ⟨by simpa using q1,by simpa using q2⟩
 | emp _=>unfold dep at hd1;omega
 | exn _ _ _ _ _=>unfold dep at hd1;omega
 | dct _ _ _ _ _=>unfold dep at hd1;omega
 | lst h hs=>
  cases rv;obtain ⟨S7,r,p⟩:=F.l _ _ h;cases he with
  | non=>cases rw';exact ⟨.list_none p Qg,.list_none p Qg⟩
  | bl b=>cases rw';exact ⟨.list_bool b p Qg,.list_bool b p Qg⟩
  | int i=>obtain ⟨t,rfl⟩:=rw';exact ⟨.list_int i t p Qg,.list_int i t p Qg⟩
  | str x=>obtain ⟨t,rfl⟩:=rw';exact ⟨.list_str x t p Qg,.list_str x t p Qg⟩
  | tup h' hs'=>cases rw';obtain ⟨its',r',p'⟩:=F.t _ _ h';exact ⟨.list_tuple p p' Qg,.list_tuple p p' Qg⟩
  | emp _=>unfold dep at hu';omega
  | exn _ _ _ _ _=>unfold dep at hu';omega
  | dct _ _ _ _ _=>unfold dep at hu';omega
  | lst h' hs'=>
   cases rw';obtain ⟨its',r',p'⟩:=F.l _ _ h';rename_i a vs ds b ws es;have l1:S7.length=ds.length:=by rw [<-r.length,hs.length]
   have l2:its'.length=es.length:=by rw [<-r'.length,hs'.length]
   have it:∀(j:Nat) (j1:j < S7.toArray.size) (j2:j < its'.toArray.size),VN A.in1 s S7.toArray[j] its'.toArray[j] (nT ds es j):=λj j1 j2=>by
    have k1:j < ds.length:=by rw [<-l1];simpa using j1
    have k2:j < es.length:=by rw [<-l2];simpa using j2
    have:=mK F A.in1 hs hs' r r' (by rw [in1_units];unfold dep at hu;omega) (by unfold dep at hd1;omega) (by unfold dep at hu';omega) j k1 k2;have m1:j < S7.length:=by simpa using j1
    have m2:j < its'.length:=by simpa using j2
    simpa [m1,m2] using this
   simp only [aZ];by_cases z:ds.length=es.length
   ·rw [<-nG z,<-l1];have q1:=abS p p' (by simp;omega) Qg it;have q2:=aec p p' (by simp;omega) Qg it;exact ⟨by simpa using q1,by simpa using q2⟩
   ·rw [nF z];exact ⟨.lists_lengths p p' (by simp;omega) Qg,.lists_lengths p p' (by simp;omega) Qg⟩
end
section
variable {X:Cx}{c:C}{e a b tg:Uo}{es:List Uo}{ga gb g:G R}{pos:Pos}
theorem RR.rep {He J H:Hp}(hp:HI c J H):∀{r:R}{v:V}{d:D},RR c He J H r v->(∀xs,r=.l .fresh xs\/r=.l .own xs\/r=.l .bor xs->d=.lst xs)->(∀x,r=.d x->d=x)->(∀ks vs,r≠.mo ks vs/\r≠.mb ks vs/\r≠.mf ks vs)->Rep c.K H d v
 | .mo _ _,_,_,_,_,_,n=>((n _ _).1 rfl).elim
 | .mb _ _,_,_,_,_,_,n=>((n _ _).2.1 rfl).elim
 | .mf _ _,_,_,_,_,_,n=>((n _ _).2.2 rfl).elim
 | .d x,v,d,h,_,k,_=>by rw [k x rfl];exact Rep.mono hp.sub h
 | .l m xs,v,d,h,k,_,_=>by have e:d=.lst xs:=k xs (by cases m;exact .inl rfl;exact .inr (.inl rfl);exact .inr (.inr rfl));obtain ⟨a,vs,rfl,h1,h2⟩:=RR.list hp h rfl;rw [e];exact .lst h1 (h2.mono hp.sub)
noncomputable def R.dat:R->D
 | .d x=>x
 | .l _ xs=>.lst xs
 | .mo ks vs=>.dct ks vs
 | .mb ks vs=>.dct ks vs
 | .mf ks vs=>.dct ks vs
theorem RR.dat {He J H:Hp}(hp:HI c J H){r:R}(h:RR c He J H r v):Rep c.K H r.dat v:=by
 by_cases hm:∃ks vs,r=.mo ks vs
 ·obtain ⟨ks,vs,rfl⟩:=hm;obtain ⟨a,rfl,h,_⟩:=h;exact h.rep hp.sub
 by_cases hb:∃ks vs,r=.mb ks vs
 ·obtain ⟨ks,vs,rfl⟩:=hb;obtain ⟨a,rfl,h⟩:=h;exact (h.mono (aS.refl _) hp.ent).rep hp.sub
 by_cases hf:∃ks vs,r=.mf ks vs
 ·obtain ⟨ks,vs,rfl⟩:=hf;obtain ⟨a,rfl,h,_⟩:=h;exact h.rep hp.sub
 refine h.rep hp (λxs q=>?_) (λx q=>by rw [q];rfl) λks vs=>⟨λz=>hm ⟨_,_,z⟩,λz=>hb ⟨_,_,z⟩,λz=>hf ⟨_,_,z⟩⟩;rcases q with q | q | q <;> (rw [q];rfl)
def G8 (K:Tg) (neg:Bool):R2:=λx y H Q=>∃d e,Rep K H d x/\Rep K H e y/\dep d<=60/\dep e<=60/\Q (.bl (if neg then !aZ d e else aZ d e)) H
theorem fN {H:Hp}(I:Inv X S6 σ H s):HF X.K H s:=HF.of (c:=⟨X.K,H,H,λ_=>True⟩) I (aS.refl H)
theorem Ex (hu:X.A.units + 64 < Vm):cS X (Vi .Eq) (G8 X.K false):=by intro S6 s σ H x y v u Q I rx ry h;obtain ⟨d,e,h1,h2,h3,h4,q⟩:=h;exact (E2 (fN I) X.A h1 h2 rx ry (by omega) (by omega) (by omega)).1 X.prog X.w X.xe _ ⟨.bl _,H,I,rfl,q⟩
theorem Mu (hu:X.A.units + 64 < Vm):cS X (Vi .NotEq) (G8 X.K true):=by intro S6 s σ H x y v u Q I rx ry h;obtain ⟨d,e,h1,h2,h3,h4,q⟩:=h;exact (E2 (fN I) X.A h1 h2 rx ry (by omega) (by omega) (by omega)).2 X.prog X.w X.xe _ ⟨.bl _,H,I,rfl,q⟩
def cT (neg:Bool) (x y:R):M R:=if dep x.dat<=60/\dep y.dat<=60 then .ok (.d (.bl (if neg then !aZ x.dat y.dat else aZ x.dat y.dat))) else .bad
theorem BR (neg:Bool) (hK:X.K=c.K):BD c (G8 X.K neg) (cT neg):=by
 intro He He' J H x y u v Q hp rx ry w;unfold cT at w;split at w
 ·rename_i hd;exact ⟨x.dat,y.dat,by rw [hK];exact rx.dat hp,by rw [hK];exact ry.dat hp,hd.1,hd.2,w _ J H (Ext.refl hp.sub) (.bl _)⟩
 ·exact w.elim
def inD (d:D) (xs:List D):Bool:=xs.any λx=>aZ x d
noncomputable def G9 (K:Tg) (neg:Bool):R2:=λx y H Q=>∃d p vs ds,Rep K H d x/\dep d<=60/\y=.ref p/\(bY K H p vs\/cZ K H p vs)/\aJ K H ds vs/\deps ds<=60/\Q (.bl (if neg then !inD d ds else inD d ds)) H
theorem wQ {K:Tg}{H:Hp}{y:Ti}:∀{ds:List D}{vs:List V}{us:List Ti},aJ K H ds vs->Vals vs us->deps ds<=60->y∈us->∃d' v',Rep K H d' v'/\RelV v' y/\dep d'<=60
 | _,_,_,.nil,.nil,_,hy=>nomatch hy
 | _,_,_,.cons r hs,.cons q rs,hd,hy=>by
  unfold deps at hd;rcases TZ.mp hy with rfl | hy
  ·exact ⟨_,_,r,q,by omega⟩
  ·exact wQ hs rs (by omega) hy
open Classical in
noncomputable def BP (K:Tg) (H:Hp) (d:D) (y:Ti):Bool:=decide (∃d' v',Rep K H d' v'/\RelV v' y/\dep d'<=1000/\aZ d' d=true)
theorem AN {K:Tg}{H:Hp}{s:Tj}(F:HF K H s){d d':D}{v':V}{y:Ti}(r':Rep K H d' v') (q':RelV v' y) (hd:dep d'<=1000):BP K H d y=aZ d' d:=by
 classical
 unfold BP;cases z:aZ d' d with
 | true=>exact decide_eq_true ⟨d',v',r',q',hd,z⟩
 | false=>
  refine decide_eq_false ?_;rintro ⟨d2,v2,r2,q2,hd2,z2⟩;have:v2=v':=q2.inj q';subst this;rw [Rep.inj F r2 r' hd2 hd] at z2;rw [z] at z2;cases z2
theorem yy {K:Tg}{H:Hp}{s:Tj}(F:HF K H s){d:D}:∀{ds:List D}{vs:List V}{us:List Ti},aJ K H ds vs->Vals vs us->deps ds<=1000->us.any (BP K H d)=inD d ds
 | _,_,_,.nil,.nil,_=>rfl
 | _,_,_,.cons r hs,.cons q rs,hd=>by unfold deps at hd;unfold inD;rw [YL,YL,yy F hs rs (by omega),AN F r q (by omega)];rfl
theorem tG {A:Um}{s:Tj}{K:Tg}{H:Hp}(F:HF K H s){d:D}{x:V}{u:Ti}(h:Rep K H d x) (rx:RelV x u) (QH:dep d<=60) (hA:A.units + 60 < Vm){ds:List D}{vs:List V}{us:List Ti}(hs:aJ K H ds vs) (rs:Vals vs us) (hd:deps ds<=60):
  ∃e:Ti->Bool,(∀y∈us,VN A s y u (e y))/\us.any e=inD d ds:=by refine ⟨BP K H d,λy hy=>?_,yy F hs rs (by omega)⟩;obtain ⟨d',v',r',q',hd'⟩:=wQ hs rs hd hy;rw [AN F r' q' (by omega)];exact mJ F A r' h q' rx (by omega) (by omega) (by omega)
theorem Ey (hu:X.A.units + 64 < Vm):cS X (Vi .In) (G9 X.K false):=by
 intro S6 s σ H x y v u Q I rx ry h;obtain ⟨d,p,vs,ds,h1,QH,rfl,h2,h3,h4,q⟩:=h;cases ry;have F:=fN I;rcases h2 with h2 | h2
 ·obtain ⟨S7,r,pl⟩:=F.l _ _ h2;obtain ⟨e,he,hany⟩:=tG (A:=X.A.in1) F h1 rx QH (by rw [in1_units];omega) h3 r h4;exact SeqAt.in_listAt e pl (λz hz=>he z (by simpa using hz)) ⟨.bl _,H,I,rfl,by rw [show S7.toArray.any e=S7.any e by simp,hany];exact q⟩
 ·obtain ⟨S7,r,pl⟩:=F.t _ _ h2;obtain ⟨e,he,hany⟩:=tG (A:=X.A.in1) F h1 rx QH (by rw [in1_units];omega) h3 r h4;exact SeqAt.in_tupleAt e pl (λz hz=>he z (by simpa using hz)) ⟨.bl _,H,I,rfl,by rw [show S7.toArray.any e=S7.any e by simp,hany];exact q⟩
theorem EC (hu:X.A.units + 64 < Vm):cS X (Vi .NotIn) (G9 X.K true):=by
 intro S6 s σ H x y v u Q I rx ry h;obtain ⟨d,p,vs,ds,h1,QH,rfl,h2,h3,h4,q⟩:=h;cases ry;have F:=fN I;rcases h2 with h2 | h2
 ·obtain ⟨S7,r,pl⟩:=F.l _ _ h2;obtain ⟨e,he,hany⟩:=tG (A:=X.A.in1) F h1 rx QH (by rw [in1_units];omega) h3 r h4;exact SeqAt.notIn_listAt e pl (λz hz=>he z (by simpa using hz)) ⟨.bl _,H,I,rfl,by rw [show S7.toArray.any e=S7.any e by simp,hany];exact q⟩
 ·obtain ⟨S7,r,pl⟩:=F.t _ _ h2;obtain ⟨e,he,hany⟩:=tG (A:=X.A.in1) F h1 rx QH (by rw [in1_units];omega) h3 r h4;exact SeqAt.notIn_tupleAt e pl (λz hz=>he z (by simpa using hz)) ⟨.bl _,H,I,rfl,by rw [show S7.toArray.any e=S7.any e by simp,hany];exact q⟩
noncomputable def gp (neg:Bool) (x y:R):M R:=g9 y >>= λys=>if deps ys<=60/\dep x.dat<=60 then .ok (.d (.bl (if neg then !inD x.dat ys else inD x.dat ys))) else .bad
theorem BS (neg:Bool) (hK:X.K=c.K):BD c (G9 X.K neg) (gp neg):=by
 intro He He' J H x y u v Q hp rx ry w;obtain ⟨ys,q,w⟩:=jK w;obtain ⟨p,vs,rfl,h1,h2⟩:=mF hp ry q;split at w
 ·rename_i hd;exact ⟨x.dat,p,vs,ys,by rw [hK];exact rx.dat hp,hd.2,rfl,by rw [hK];exact h1,by rw [hK];exact h2.mono hp.sub,hd.1,w _ J H (Ext.refl hp.sub) (.bl _)⟩
 ·exact w.elim
abbrev GO:=G (Option Int)
def tO (c:C) (g:GO):TO:=λσ H Q=>∃J env,SR c J H σ env/\cg (g env) (λo=>∀J' H',Ext J H J' H'->Q o H') c.T
def Ld (X:Cx) (c:C) (e:Option Uo) (g:GO):Prop:=PO X e (tO c g)
theorem Iz {X:Cx}{e:Option Uo}{t t':TO}(h:PO X e t) (k:∀σ H Q,t' σ H Q->t σ H Q):PO X e t':=λS6 s σ H Q I q=>h S6 s σ H Q I (k σ H Q q)
def t7:GO:=λ_=>.ok none
noncomputable def pC (g:G R):GO:=λenv=>g env >>= λr=>match r with
 | .d (.int i)=>.ok (some i)
 | _=>.bad
def cutD (xs:List D) (lo hi:Option Int):List D:=(xs.drop (HT.bJ xs.length 0 lo)).take (HT.bJ xs.length xs.length hi - HT.bJ xs.length 0 lo)
theorem aJ.cut {K:Tg}{J:Hp}{xs:List D}{vs:List V}(h:aJ K J xs vs) (lo hi:Option Int):aJ K J (cutD xs lo hi) (mj vs lo hi):=by unfold cutD mj;rw [h.length];exact (h.drop _).take _
def mP (f:R->Option Int->Option Int->M R) (g:G R) (lo hi:GO):G R:=λenv=>g env >>= λx=>lo env >>= λl=>hi env >>= λu=>f x l u
theorem Iv {r:V->Option Int->Option Int->Hp->VK->Prop}{f:R->Option Int->Option Int->M R}{lo hi:Option Uo}{gl gh:GO}{p2:Pos}(hr:qX X r) (hf:∀(He J H:Hp) (x:R) (v:V) (l u:Option Int) (Q:VK),HI c J H->RR c He J H x v->
   cg (f x l u) (λz=>∀w J' H',Ext J H J' H'->RR c H J' H' z w->Q w H') c.T->r v l u H Q) (h:PD X c e g) (hl:Ld X c lo gl) (hh:Ld X c hi gh):PD X c (.Subscript e (.Slice lo hi none p2) pos) (mP f g gl gh):=
 fC (GV hr h hl hh) λσ H Q ⟨J,env,sr,w⟩=>by refine ⟨J,env,sr,aD (aH w) λx wx v J1 H1 e1 r1=>?_⟩;refine ⟨J1,env,sr.ext e1,aD (aH wx) λl wl J2 H2 e2=>?_⟩;refine ⟨J2,env,(sr.ext e1).ext e2,aD (aH wl) λu wu J3 H3 e3=>?_⟩;have ee:=(e1.trans e2).trans e3;exact hf H J3 H3 x v l u Q (sr.hp.ext ee) ((r1.ext e2).ext e3) (aD wu λz q w J' H' e4 r4=>q w J' H' (ee.trans e4) (RR.from ee.h r4))
def OX (x:R) (l u:Option Int):M R:=iU x >>= λxs=>.ok (.l .fresh (cutD xs l u))
theorem CO {ss:List Str}:∀{us:List Ti},Vals (ss.map V.str) us->StrsAre us ss:=by
 induction ss with
 | nil=>intro us h;cases h;exact .nil
 | cons x r ih=>
  intro us h;cases h with
  | cons q rs=>
   obtain ⟨t,rfl⟩:=q;exact .cons x t (ih rs)
theorem xw:∀{us:List Ti}{ss:List Str},StrsAre us ss->Vals (ss.map V.str) us
 | _,_,.nil=>.nil
 | _,_,.cons y t h=>.cons ⟨t,rfl⟩ (xw h)
def jT (x y:Str):Bool:=decide (x.cps.toList<=y.cps.toList)
def lZ (ss:List Str):List Str:=ss.mergeSort jT
theorem wH (x y z:Str) (h1:jT x y=true) (h2:jT y z=true):jT x z=true:=by unfold jT at *;exact decide_eq_true (List.le_trans (of_decide_eq_true h1) (of_decide_eq_true h2))
theorem Em (x y:Str):(jT x y || jT y x)=true:=by
 unfold jT;rw [WC];rcases List.le_total x.cps.toList y.cps.toList with h | h
 ·exact .inl (decide_eq_true h)
 ·exact .inr (decide_eq_true h)
theorem Gu (h1:jT x y=true) (h2:jT y x=true):x=y:=by unfold jT at *;have:=abT (of_decide_eq_true h1) (of_decide_eq_true h2);obtain ⟨⟨cx⟩⟩:=x;obtain ⟨⟨cy⟩⟩:=y;simp only at this;rw [this]
theorem zV (ss:List Str):(lZ ss).Pairwise λx y=>jT x y=true:=List.pairwise_mergeSort wH Em ss
theorem n8 (ss:List Str):(lZ ss).Perm ss:=List.mergeSort_perm ss jT
theorem uB:∀(x:Str) (r:List Str),risingS x r=true->(x::r).Pairwise λx y=>jT x y=true
 | x,[],_=>by simp
 | x,y::r,h=>by
  unfold risingS at h;rw [Tt] at h;have hy:=uB y r h.2;have hxy:jT x y=true:=by
   have h1:=h.1;rw [ltCps_eq] at h1;unfold jT;refine decide_eq_true ?_;have:¬y.cps.toList < x.cps.toList:=by simpa using h1
   exact this
  refine W2.mpr ⟨λz hz=>?_,hy⟩;rcases TZ.mp hz with rfl | hz
  ·exact hxy
  ·exact wH x y z hxy ((W2.mp hy).1 z hz)
theorem CM {ss ss':List Str}(hp:ss'.Perm ss) (hs:sortedS ss'=true):ss'=lZ ss:=by
 have pw:ss'.Pairwise λx y=>jT x y=true:=by
  cases ss' with
  | nil=>exact WB
  | cons x r=>exact uB x r hs
 exact (hp.trans (n8 ss).symm).eq_of_pairwise (λx y _ _ h1 h2=>Gu h1 h2) pw (zV ss)
theorem yK:cJ X (.builtin "sorted") (λxs H Q=>∃p ss,xs=[.ref p]/\bY X.K H p (ss.map V.str)/\ss.length < 64/\∀ss',ss'.Perm ss->sortedS ss'=true->∀l,H l=none->Q (.ref l) (upd H l (.lst (ss'.map V.str)))):=by
 intro S6 s σ H xs us Q I r h;obtain ⟨p,ss,rfl,hq,hl,q⟩:=h;obtain ⟨u,rfl,rx⟩:=vals1 r;cases rx;obtain ⟨S7,r',pl,hz⟩:=I.list hq;have hlen:=r'.length;refine sorted_strs pl.isList (CO r') (by rw [<-hlen,Tp];exact hl) λout ss' a1 a2 a3=>?_;obtain ⟨n,hn⟩:=sortedAll_at s.heap S7 out;have kp:∀b o,s.heap.get? b=some o->(sortedAll s.heap S7 out).get? b=some o:=λb o e=>sortedAll_old e;have fr:H (s.heap.objs.size + 1)=none:=I.hok.fresh (Yc _);have ll:(ss'.map V.str).length=(ss.map V.str).length:=by rw [Tp,Tp,a2.length_eq]
 refine ⟨.ref (s.heap.objs.size + 1),_,I.laid (t':=s.toks) kp (Yc _) (show cj X.prog X.w _ _ _ (.lst (ss'.map V.str)) from ⟨by rw [ll];exact hz,out.toList,n,xw a1,by simpa [Vf] using hn⟩),rfl,q ss' a2 a3 _ fr⟩
noncomputable def strsOf:List D->Option (List Str)
 | []=>some []
 | .str x::r=>(strsOf r).map (x::·)
 | _::_=>none
theorem uJ {K:Tg}{J:Hp}:∀{ds:List D}{vs:List V}{ss:List Str},strsOf ds=some ss->aJ K J ds vs->vs=ss.map V.str
 | [],_,_,h,.nil=>by cases h;rfl
 | .str x::r,_,ss,h,.cons q rs=>by
  unfold strsOf at h;cases z:strsOf r with
  | none=>rw [z] at h;cases h
  | some ss'=>
   rw [z] at h;cases h;cases q;rw [uJ z rs];rfl
theorem wU {K:Tg}{J:Hp}:∀(ss:List Str),aJ K J (ss.map D.str) (ss.map V.str)
 | []=>.nil
 | x::r=>.cons (.str x) (wU r)
noncomputable def kM:List R->M R
 | [r]=>iU r >>= λxs=>match strsOf xs with
  | some ss=>if ss.length < 64 then .ok (.l .fresh ((lZ ss).map .str)) else .bad
  | none=>.bad
 | _=>.bad
theorem kU:UP "sorted"=some (.builtin "sorted"):=by decide +kernel
theorem foldl_size (c:Array Nat):∀(k:Nat) (acc:Array Nat),((Vj k c).foldl (·++·) acc).size=acc.size + k * c.size
 | 0,acc=>by simp
 | k + 1,acc=>by rw [aaS,aac,foldl_size c k,abo,abG];omega
def sO (x:Str) (n:Nat):Str:=⟨(Vj n x.cps).foldl (·++·) #[]⟩
theorem Av (x:Str) (n:Nat):(sO x n).length=n * x.length:=by unfold sO abj;simp only;rw [foldl_size];simp
theorem JS:cS X (WN .Mult) (λx y H Q=>∃z n,x=.str z/\y=.int n/\0<=n/\n<=1000/\z.length<=1000/\Q (.str (sO z n.toNat)) H):=by
 intro S6 s σ H x y v u Q I rx ry h;obtain ⟨z,n,rfl,rfl,h0,h1,h2,q⟩:=h;obtain ⟨t,rfl⟩:=rx;obtain ⟨t',rfl⟩:=ry;have hz:aaT (z.length * n.toNat)=false:=by have:z.length * n.toNat<=1000 * 1000:=Wr h2 (by omega);unfold aaT;exact decide_eq_false (by have:=UH;omega)
 refine PySem.P.mul_str (by
  rw [decide_eq_false (by omega:¬n < -(2 ^ 63:Int)),decide_eq_false (by omega:¬n ≥ 2 ^ 63)];rfl) (λhn _=>?_) (λ_ _=>hz) ?_
 ·have:(2 ^ 63 - 1:Int) / 1000<=(2 ^ 63 - 1) / n:=by refine (Int.le_ediv_iff_mul_le (by omega)).mpr ?_;have:(2 ^ 63 - 1:Int) / 1000 * n<=(2 ^ 63 - 1:Int) / 1000 * 1000:=Int.mul_le_mul_of_nonneg_left h1 (by decide);exact abH this (by decide)
  have e:(2 ^ 63 - 1:Int) / 1000=9223372036854775:=by decide
  omega
 ·split
  ·rename_i hn;have e:n=0:=by omega
   subst e;exact ⟨by decide,.str _,H,I.tok _,⟨_,rfl⟩,q⟩
  ·split
   ·rename_i hn hc;have e:sO z n.toNat=z:=by
     unfold sO;rw [WC] at hc;rcases hc with hc | hc
     ·have e:n=1:=by simpa using hc
      subst e;simp
     ·have e:z.length=0:=by simpa using hc
      have e2:z.cps=#[]:=by unfold abj at e;exact Array.eq_empty_of_size_eq_zero e
      obtain ⟨cz⟩:=z;simp only at e2;subst e2;congr 1;generalize n.toNat=k
      induction k with
      | zero=>rfl
      | succ k ih=>rw [aaS,aac];exact ih
    rw [e] at q;exact ⟨.str z,H,I,⟨_,rfl⟩,q⟩
   ·exact ⟨by
     have:=Av z n.toNat
     unfold sO at this;rw [this,abI];have:z.length * n.toNat<=1000 * 1000:=Wr h2 (by omega);rw [UH];omega,.str _,H,I.tok _,⟨_,rfl⟩,q⟩
noncomputable def B9:R->R->M R
 | .d (.str z),.d (.int n)=>if 0<=n/\n<=1000/\z.length<=1000 then .ok (.d (.str (sO z n.toNat))) else .bad
 | _,_=>.bad
noncomputable def oO:D->String
 | .non=>"NoneType"
 | .bl _=>"bool"
 | .int _=>"int"
 | .str _=>"str"
 | .tup _=>"tuple"
 | .lst _=>"list"
 | .emp=>"dict"
 | .exn _ _ _=>"exc"
 | .dct _ _=>"dict"
def zZ (t T:String):Bool:=t == T || (t == "bool" && T == "int")
noncomputable def Ed:R->Bool
 | .d (.int _)=>true
 | _=>false
noncomputable def LU:R->Bool
 | .d (.str _)=>true
 | _=>false
def g7 (x y:R):M R:=if Ed x then u_ x y else if LU x then tV x y else tX x y
def iC (x y:R):M R:=if Ed x then LC x y else B9 x y
noncomputable def a_ (x y:R):M R:=match x,y with
 | .d (.str z),.d (.int i)=>if z.length<=sizeLine then (match lM z.cps.toList i with
  | some k=>.ok (.d (.str ⟨#[k]⟩))
  | none=>.bad) else .bad
 | x,.d (.int i)=>g9 x >>= λxs=>(match lM xs i with
  | some d=>.ok (.d d)
  | none=>.bad)
 | _,_=>.bad
noncomputable def bz (P:TU) (w:Uk) (K:Tg) (mg:Str->Option Ti) (base:Vd) (k n:Nat) (x:Str) (Fm:List S->M R):Prop:=
 ∃f fd ps,fF P w K mg base oh k f fd ps (p7 K n Fm)/\mg x=some (.ref f)/\U5 K (.ref f)=true/\Binds K fd ps []
theorem Lq {P:TU}{w:Uk}{K:Tg}{mg:Str->Option Ti}{base:Vd}{x S_:Str}{st:Wm}{f:T3}{fd:Ud}{N ps:List Str}{k:Nat}{Fm:List S->M R}(F:oj K x S_ st f fd) (hm:mg x=some (.ref f)) (Sc:fG N ps (aY st))
  (hbi:∀(kV doc pm:Ti) (an:Option T3) (cdv ct:Ti) (us:List Ti),us.length=ps.length->aau (UE x S_ (cP st) (bU st) (aY st) .none kV doc pm an cdv ct) ⟨us,[]⟩=pure (ps.zip us)){gB:G O}
  (hb:∀(cdv:Ti) (A:Um) (outer:List Env) (s:Tj) (H:Hp) (E:XK) (J:Hp) (T:Exc->Prop),cY k (A.deeper (Ze S_ (aY st) s.heap.objs.size f cdv))->
   HS (DU P w K mg base N S_ (aY st) f cdv A outer s H E) ⟨K,H,J,T⟩ (bU st) gB)
  (hF:∀as r,as.length=ps.length->Fm as=.ok r->fin (gB (aV N as))=.ok r):bz P w K mg base (k + 1) ps.length x Fm:=
 ⟨f,fd,ps,DZ F Sc hb hF,hm,F.kp,F.binds hbi⟩
noncomputable def GF:List Str->Bool
 | []=>true
 | x::r=>!(r.contains x) && GF r
theorem bM:∀{l:List Str},GF l=true->l.Nodup
 | [],_=>WY
 | x::r,h=>by unfold GF at h;rw [Tt] at h;refine VI.mpr ⟨λz=>?_,bM h.2⟩;have:=h.1;simp [z] at this
theorem F5 {H:Hp}{s:Tj}{a C:T3}{dx:Option T3}(I:L2.Inv X S6 σ H s) (h:H a=some (DX.XO a C dx)) (xf:XF H dx ns vs):∃ox od,Xn s.heap a ox C od/\od.isSome=dx.isSome/\(∀d,dx=some d->∃o,od=some o/\s.heap.get? d=some o):=by
 obtain ⟨⟨oe,fs,h1,h2,h3,h4⟩,_⟩:=I.hok a _ h;have hn:acF oe=true:=by unfold acF;rw [h4]
 rcases xf with ⟨rfl,_⟩ | ⟨d,rfl,_,hd⟩
 ·exact ⟨oe,none,⟨h1,h2,hn,by rw [h3];exact aaw⟩,rfl,λd z=>by cases z⟩
 ·obtain ⟨m,⟨o,es,ep,k1,_⟩,_⟩:=I.hok d _ hd;exact ⟨oe,some o,⟨h1,h2,hn,by rw [h3];exact k1⟩,rfl,λd' z=>by cases z;exact ⟨o,rfl,k1⟩⟩
noncomputable def HM (T:String):Prop:=(∀(K:Tg) (t:String),t∈["NoneType","bool","int","str","tuple","list","dict"]->aaI K (.type t) (.type T)=some (zZ t T))/\ab6 T=true/\DX.Ad.contains (.type T)=false/\zZ "exc" T=false
theorem JF:HM "int":=⟨λK t h=>by
 simp only [TZ,V9,or_false] at h;rcases h with rfl | rfl | rfl | rfl | rfl | rfl | rfl <;> rfl,by decide +kernel,by decide,by decide⟩
theorem Gp:HM "bool":=⟨λK t h=>by
 simp only [TZ,V9,or_false] at h;rcases h with rfl | rfl | rfl | rfl | rfl | rfl | rfl <;> rfl,by decide +kernel,by decide,by decide⟩
theorem Am {T:String}(kit:HM T):
  cJ X (.builtin "isinstance") (λxs H Q=>∃d x,xs=[x,.ty T]/\Rep X.K H d x/\Q (.bl (zZ (oO d) T)) H):=by
 intro S6 s σ H xs us Q I r h;obtain ⟨d,x,rfl,hd,q⟩:=h;obtain ⟨u,w',rfl,rx,ry⟩:=vals2 r;cases ry;have fin:∀tk,EP X S6 σ Q (.bool (zZ (oO d) T)) {s with toks:=tk}:=λtk=>⟨.bl _,H,I.tok tk,rfl,q⟩;have F:=fN I;cases hd with
 | non=>cases rx;exact VL W.kitx_none I.kIn aaw (kit.1 X.K _ (by simp [oO])) (λz=>nomatch z) fin
 | bl y=>cases rx;exact VL W.kitx_bool I.kIn aaw (kit.1 X.K _ (by simp [oO])) (λz=>nomatch z) fin
 | int i=>obtain ⟨t,rfl⟩:=rx;exact VL W.kitx_int I.kIn aaw (kit.1 X.K _ (by simp [oO])) (λz=>nomatch z) fin
 | str y=>obtain ⟨t,rfl⟩:=rx;exact VL W.kitx_str I.kIn aaw (kit.1 X.K _ (by simp [oO])) (λz=>nomatch z) fin
 | tup h hs=>
  cases rx;obtain ⟨S7,r,o,h1,h2,_⟩:=F.t _ _ h;exact VL W.kitx_tuple I.kIn ⟨o,h1,h2⟩ (kit.1 X.K _ (by simp [oO])) (λz=>nomatch z) fin
 | lst h hs=>
  cases rx;obtain ⟨S7,r,o,h1,h2,_⟩:=F.l _ _ h;exact VL W.kitx_list I.kIn ⟨o,h1,h2⟩ (kit.1 X.K _ (by simp [oO])) (λz=>nomatch z) fin
 | emp h=>
  cases rx;obtain ⟨o,h1,h2⟩:=F.e _ h;exact VL abp I.kIn ⟨o,h1,h2⟩ (kit.1 X.K _ (by simp [oO])) (λz=>nomatch z) fin
 | dct h _ _ _ _=>
  cases rx;obtain ⟨o,es,h1,h2,_⟩:=F.d _ _ _ h;exact VL abp I.kIn ⟨o,h1,h2.1⟩ (kit.1 X.K _ (by simp [oO])) (λz=>nomatch z) fin
 | exn h1 h2 h3 hs hx=>
  cases rx;obtain ⟨P,G,E⟩:=hx;obtain ⟨ox,od,J,_⟩:=F5 I h1 h3;simp only [oO,kit.2.2.2] at fin;exact VL (DX.Gq G E) I.kIn ⟨ox,od,J⟩ (DX.Mf E kit.2.1 kit.2.2.1) (λz=>nomatch z) fin
def LI (T:String) (g:G R):G R:=λenv=>g env >>= λr=>.ok (.d (.bl (zZ (oO r.dat) T)))
noncomputable def iF:List D->Option (List Bool)
 | []=>some []
 | .bl k::r=>(iF r).map (k::·)
 | _::_=>none
theorem o_ {K:Tg}{J:Hp}:∀{ds:List D}{vs:List V}{ks:List Bool},iF ds=some ks->aJ K J ds vs->vs=ks.map V.bl
 | [],_,_,h,.nil=>by cases h;rfl
 | .bl x::r,_,ks,h,.cons q rs=>by
  unfold iF at h;cases z:iF r with
  | none=>rw [z] at h;cases h
  | some ks'=>
   rw [z] at h;cases h;cases q;rw [o_ z rs];rfl
theorem sV:∀{ks:List Bool}{us:List Ti},Vals (ks.map V.bl) us->us=ks.map V7
 | [],_,.nil=>rfl
 | k::ks,_,.cons r rs=>by cases r;rw [sV rs];rfl
theorem all_range (ks:List Bool):(Tw ks.length).all (λi=>ks.getD i true)=ks.all id:=by
 induction ks with
 | nil=>rfl
 | cons k r ih=>
  rw [UB,X5,Wi,Zf,Wi];simp only [aaU];rw [<-ih];rfl
theorem DB (hc:X.calm=true):cJ X (.builtin "all") (λxs H Q=>∃(p:T3) (ks:List Bool),xs=[.ref p]/\bY X.K H p (ks.map V.bl)/\Q (.bl (ks.all id)) H):=by
 intro S6 s σ H xs us Q I r h;obtain ⟨p,ks,rfl,hq,q⟩:=h;obtain ⟨u,rfl,rx⟩:=vals1 r;cases rx;obtain ⟨S7,r',pl,hz⟩:=I.list hq;have hi:=sV r';subst hi;have RU:p≠s.heap.objs.size:=by obtain ⟨o,h1,_⟩:=pl.isList;exact Ua (TN h1)
 refine call_all_walk (Xg pl.isList ⟨s.heap.objs.size,_,_,_,_,_,(λi=>ks.getD i true),rfl,abq (A:=X.A.in1) (show X.A.in1.handled=none from I.ok.hd hc) s.heap.objs.size p RU (ks.map V7).toArray,⟨⟨_,TH _ rfl,rfl,rfl⟩,abU pl.isList _⟩,?_,λh' tk k=>?_⟩)
 ·intro i v s' Q' E' hP hQ;have e:∃k,ks[i]?=some k/\v=.bool k:=by
   have hP':(ks.map V7)[i]?=some v:=by simpa using hP
   rw [Uh] at hP';cases z:ks[i]? with
   | none=>rw [z] at hP';cases hP'
   | some k=>rw [z] at hP';cases hP';exact ⟨k,rfl,rfl⟩
  obtain ⟨k,e1,rfl⟩:=e;simp only at hQ;rw [Vb,e1] at hQ;exact UM hQ
 ·have sz:(ks.map V7).toArray.size=ks.length:=by simp
  rw [sz,all_range];refine ⟨.bl (ks.all id),H,?_,rfl,q⟩;refine I.kept λb o e=>k b o (λz=>?_) (Tn _ e);have:b=s.heap.objs.size:=by simpa using z
  exact absurd (this▸TN e) (US _)
noncomputable def sA:List R->M R
 | [r]=>iU r >>= λxs=>match iF xs with
  | some ks=>.ok (.d (.bl (ks.all id)))
  | none=>.bad
 | _=>.bad
theorem Du:UP "all"=some (.builtin "all"):=by decide +kernel
noncomputable def P9 (neg:Bool):R->R->M R
 | .d (.str i),.d (.str j)=>.ok (.d (.bl (if neg then !(!(ZF j i 0 j.length 1).isEmpty) else !(ZF j i 0 j.length 1).isEmpty)))
 | _,_=>.bad
noncomputable def Qe (p q:Int->Int->Bool) (ga gb gc:G R):G R:=λenv=>ga env >>= λx=>gb env >>= λy=>match x,y with
 | .d (.int i),.d (.int j)=>if p i j then (gc env >>= λz=>match z with
  | .d (.int k)=>.ok (.d (.bl (q j k)))
  | _=>.bad) else .ok (.d (.bl false))
 | _,_=>.bad
noncomputable def B8:List R->M R
 | [.d (.int i),.d (.int j)]=>.ok (.d (.int (if j > i then j else i)))
 | _=>.bad
theorem JY (hm:X.mg x=some u) (r:RelV v u) (hr:∀J,Rep c.K J d v) (hg:Gl X x:=by rfl) (hd:(x == ("__debug__":Str))=false:=by decide):PD X c (.Name x pos) (gC d):=uw hr (Be hg hm r hd)
theorem Ln {H:Hp}{s:Tj}(I:Inv X S6 σ H s):V8 < s.heap.objs.size:=by have h:Ug < s.heap.objs.size:=(I.mod.glob.keeps I.bk).lt;exact WL (by decide) h
theorem Ew:cS X (WN .Add) (λx y H Q=>∃a b xs ys,x=.ref a/\y=.ref b/\cZ X.K H a xs/\cZ X.K H b ys/\xs.length + ys.length<=sizeLine/\
  (xs=[]->Q (.ref b) H)/\(ys=[]->Q (.ref a) H)/\∀p,H p=none->Q (.ref p) (upd H p (.tup (xs++ys)))):=by
 intro S6 s σ H x y v u Q I rx ry h;obtain ⟨a,b,xs,ys,rfl,rfl,ha,hb,hz,q0,q1,q2⟩:=h;by_cases hx:xs=[]
 ·cases rx;cases ry;obtain ⟨S7,r1,p1,_⟩:=I.tuple ha;obtain ⟨its2,r2,p2,_⟩:=I.tuple hb;have he:S7=[]:=r1.nil_iff.mpr hx;subst he;obtain ⟨⟨cls,dd,data,sl⟩,ho,hc,n,hd⟩:=id p1;obtain ⟨⟨cls2,dd2,data2,sl2⟩,ho2,hc2,n2,hd2⟩:=id p2;simp only at hc hd hc2 hd2;subst hc hd hc2 hd2;exact Z9 ⟨_,ho,rfl⟩ ⟨_,ho2,rfl⟩ ZQ aa1 X3 XH (XA _ _) (tuple_addW0 a b _ _ n n2 dd dd2 sl sl2 rfl) ⟨ho,ho2,⟨.ref b,H,I,rfl,q0 hx⟩⟩
 ·exact JQ S6 s σ H (.ref a) (.ref b) v u Q I rx ry ⟨a,b,xs,ys,rfl,rfl,ha,hb,hx,hz,q1,λ_=>q2⟩
noncomputable def B7:R->R->M R
 | .d (.tup xs),.d (.tup ys)=>if xs.length + ys.length<=sizeLine then .ok (.d (.tup (xs++ys))) else .bad
 | _,_=>.bad
theorem Ja (hK:X.K=c.K):BD c (λx y H Q=>∃a b xs ys,x=.ref a/\y=.ref b/\cZ X.K H a xs/\cZ X.K H b ys/\xs.length + ys.length<=sizeLine/\
  (xs=[]->Q (.ref b) H)/\(ys=[]->Q (.ref a) H)/\∀p,H p=none->Q (.ref p) (upd H p (.tup (xs++ys)))) B7:=by
 intro He He' J H x y u v Q hp rx ry w;unfold B7 at w;split at w
 ·rename_i ds es;cases rx with
  | tup h1 s1=>
   cases ry with
   | tup h2 s2=>
    split at w
    ·rename_i hz;rw [s1.length,s2.length] at hz;refine ⟨_,_,_,_,rfl,rfl,by rw [hK];exact fD hp.sub h1,by rw [hK];exact fD hp.sub h2,hz,λe=>?_,λe=>?_,λp hp'=>w _ _ _ (Ext.newJ hp.sub hp' _) (pW hp hp' (s1.append s2))⟩
     ·have e':ds=[]:=YD (by rw [s1.length,e];rfl);subst e';exact w _ J H (Ext.refl hp.sub) (.tup h2 s2)
     ·have e':es=[]:=YD (by rw [s2.length,e];rfl);subst e';rw [Wz] at w;exact w _ J H (Ext.refl hp.sub) (.tup h1 s1)
    ·exact w.elim
 ·exact w.elim
noncomputable def LV:R->Bool
 | .d (.tup _)=>true
 | _=>false
def dX (x y:R):M R:=if LV x then B7 x y else g7 x y
noncomputable def intsOf:List D->Option (List Int)
 | []=>some []
 | .int i::r=>(intsOf r).map (i::·)
 | _::_=>none
theorem ku {K:Tg}{J:Hp}:∀{ds:List D}{vs:List V}{ns:List Int},intsOf ds=some ns->aJ K J ds vs->vs=ns.map V.int
 | [],_,_,h,.nil=>by cases h;rfl
 | .int x::r,_,ks,h,.cons q rs=>by
  unfold intsOf at h;cases z:intsOf r with
  | none=>rw [z] at h;cases h
  | some ks'=>
   rw [z] at h;cases h;cases q;rw [ku z rs];rfl
def signs (x:Str):List D:=x.cps.toList.map λk=>.str ⟨#[k]⟩
noncomputable def P_ (g:G R):G (List D):=λenv=>g env >>= λr=>match r with
 | .d (.str x)=>.ok (signs x)
 | _=>.bad
theorem Ay {prog:TU}{w:Uk}{A:Um}{E:Ti->Tj->Prop}{s:Tj}{t sl:T3}{items:Array Ti}{vl vu:Ti}{lo hi:Option Int}{Q:Ti->Tj->Prop}(ht:adx s.heap t items) (hs:s.heap.IsSliceOf sl vl vu .none) (pl:aa2 vl lo) (pu:aa2 vu hi)
  (hw:HT.bJ items.size 0 lo=0/\HT.bJ items.size items.size hi=items.size) (h:Q (.ref t) s):TX (T5 prog w) A (abg (.ref t) (.ref sl)) Q E s:=by
 obtain ⟨os,hos,hcs,hds⟩:=id hs;have Rz:s.TypeIs (.ref sl) "slice":=⟨os,hos,hcs⟩;unfold abg
 try with_reducible refine Ul ?_
 first | refine Tf (Th ?_) | skip
 refine Tf (abh ht.typeIs (by decide) ?_);refine Tf (UT (name:=W9 "__getitem__") ht.typeIs UN
  (Uy UN ht.typeIs aaQ ?_ (aa4 _ _)))
 show TX _ _ (Xl (.ref t) >>= _) _ _ s;refine Tf (adb ht ?_);refine Tf (Ys Rz ?_);rw [if_pos (by decide)];refine Tf (HT.lq hs pl pu ?_);have hyes:(((HT.bJ items.size 0 lo:Nat):Int) == 0 && (1:Int) == 1 && (HT.bJ items.size items.size hi - HT.bJ items.size 0 lo) == items.size)=true:=by rw [hw.1,hw.2];simp
 show TX _ _ (if (((HT.bJ items.size 0 lo:Nat):Int) == 0 && (1:Int) == 1 && (HT.bJ items.size items.size hi - HT.bJ items.size 0 lo) == items.size)=true then _ else _) _ _ s;rw [if_pos hyes];unfold acy;refine Tf (Tf (Ys ht.typeIs (Th ?_)));rw [if_pos (by decide)];exact Tf (YQ (Th ⟨_,rfl,Th h⟩))
theorem E9:qX X (λx lo hi H Q=>∃a xs,x=.ref a/\cZ X.K H a xs/\((HT.bJ xs.length 0 lo=0/\HT.bJ xs.length xs.length hi=xs.length)->Q (.ref a) H)/\∀p,H p=none->Q (.ref p) (upd H p (.tup (mj xs lo hi)))):=by
 intro S6 s σ H x v vl vu lo hi sl Q I rx hs pl pu h;obtain ⟨a,xs,rfl,hx,q0,q1⟩:=h;by_cases hw:HT.bJ xs.length 0 lo=0/\HT.bJ xs.length xs.length hi=xs.length
 ·cases rx;obtain ⟨S7,r,ht,hz⟩:=I.tuple hx;have hlen:S7.toArray.size=xs.length:=by rw [Tz];exact r.length.symm
  exact ⟨"tuple",_,UN.lookup,ht.typeIs,Ay ht hs pl pu (by rw [hlen];exact hw) ⟨.ref a,H,I,rfl,q0 hw⟩⟩
 ·exact M8 S6 s σ H (.ref a) v vl vu lo hi sl Q I rx hs pl pu ⟨a,xs,rfl,hx,hw,q1⟩
theorem B4 {xs:List D}{lo hi:Option Int}(h:HT.bJ xs.length 0 lo=0/\HT.bJ xs.length xs.length hi=xs.length):cutD xs lo hi=xs:=by unfold cutD;rw [h.1,h.2];simp
noncomputable def F7:R->Option Int->Option Int->M R
 | .d (.tup xs),l,u=>.ok (.d (.tup (cutD xs l u)))
 | _,_,_=>.bad
theorem Pe (hK:X.K=c.K) (He J H:Hp) (x:R) (v:V) (l u:Option Int) (Q:VK) (hp:HI c J H) (rx:RR c He J H x v) (w:cg (F7 x l u) (λz=>∀w J' H',Ext J H J' H'->RR c H J' H' z w->Q w H') c.T):
  ∃a xs,v=.ref a/\cZ X.K H a xs/\((HT.bJ xs.length 0 l=0/\HT.bJ xs.length xs.length u=xs.length)->Q (.ref a) H)/\∀p,H p=none->Q (.ref p) (upd H p (.tup (mj xs l u))):=by
 unfold F7 at w;split at w
 ·rename_i ds;cases rx with
  | tup h1 s1=>
   refine ⟨_,_,rfl,by rw [hK];exact fD hp.sub h1,λhw=>?_,λp hp'=>w _ _ _ (Ext.newJ hp.sub hp' _) (pW hp hp' (s1.cut _ _))⟩;rw [<-s1.length] at hw;rw [B4 hw] at w;exact w _ J H (Ext.refl hp.sub) (.tup h1 s1)
 ·exact w.elim
def yW (x:R) (l u:Option Int):M R:=if LV x then F7 x l u else OX x l u
def BB (K:Tg) (mg:Str->Option Ti) (x:Str) (d:D):Prop:=∃u v,mg x=some u/\RelV v u/\∀J,Rep K J d v
theorem Dy:UP "int"=some (.type "int"):=by decide +kernel
theorem BW:UP "bool"=some (.type "bool"):=by decide +kernel
end
section
variable {X:Cx}{c:C}{e a b tg:Uo}{es:List Uo}{ga gb g:G R}{pos:Pos}{st:Wm}{t u:G O}{tb:G Bool}
def x6:G O:=λ_=>.bad
noncomputable def F9 (g:G R):G R:=λenv=>g env >>= λr=>match r with
 | .d (.int i)=>.ok (.d (.int (-i)))
 | _=>.bad
noncomputable def HA:R->M Bool
 | .d .non=>.ok false
 | .d (.bl b)=>.ok b
 | .d (.int i)=>.ok (i != 0)
 | .d (.str y)=>if y.length<=sizeLine then .ok ((y.length:Int) != 0) else .bad
 | .d (.tup xs)=>.ok (!xs.isEmpty)
 | .d (.lst xs)=>.ok (!xs.isEmpty)
 | .d .emp=>.ok false
 | .d (.exn _ _ _)=>.bad
 | .d (.dct _ _)=>.bad
 | .l _ xs=>.ok (!xs.isEmpty)
 | _=>.bad
theorem LS {K:Tg}{J:Hp}{ds:List D}{vs:List V}(h:aJ K J ds vs):ds.isEmpty=vs.isEmpty:=by cases h <;> rfl
theorem KW {He J H:Hp}(hp:HI c J H){Q:Bool->Prop}{T:Exc->Prop}:∀{r:R}{v:V},RR c He J H r v->cg (HA r) Q T->∃k,FJ c.K v H k/\Q k
 | .d .non,_,h,w=>by cases h;exact ⟨_,rfl,w⟩
 | .d (.bl b),_,h,w=>by cases h;exact ⟨_,rfl,w⟩
 | .d (.int i),_,h,w=>by cases h;exact ⟨_,rfl,w⟩
 | .d (.str y),_,h,w=>by
  cases h;unfold HA at w;simp only at w;split at w
  ·rename_i hz;exact ⟨_,⟨hz,rfl⟩,w⟩
  ·exact w.elim
 | .d (.tup xs),_,h,w=>by
  cases h with
  | tup h1 h2=>exact ⟨_,.inr (.inl ⟨_,fD hp.sub h1,rfl⟩),by rw [<-LS h2];exact w⟩
 | .d (.lst xs),_,h,w=>by
  cases h with
  | lst h1 h2=>exact ⟨_,.inl ⟨_,hp.sub.seq h1,rfl⟩,by rw [<-LS h2];exact w⟩
 | .d .emp,_,h,w=>by
  cases h with
  | emp h1=>exact ⟨_,.inr (.inr ⟨_,hp.sub _ _ h1,rfl⟩),w⟩
 | .d (.exn _ _ _),_,_,w=>w.elim
 | .d (.dct _ _),_,_,w=>w.elim
 | .mo _ _,_,_,w=>w.elim
 | .mb _ _,_,_,w=>w.elim
 | .mf _ _,_,_,w=>w.elim
 | .l m xs,_,h,w=>by obtain ⟨a,vs,rfl,h1,h2⟩:=RR.list hp h rfl;exact ⟨_,.inl ⟨_,h1,rfl⟩,by rw [<-LS h2];exact w⟩
def vd (g:G R):G Bool:=λenv=>g env >>= HA
noncomputable def lE (tb:G Bool) (u:G O):Nat->Ev->M O
 | 0,_=>.bad
 | n + 1,env=>tb env >>= λk=>if k=true then u env >>= λo=>(match o with
  | .nx e=>lE tb u n e
  | .ct e=>lE tb u n e
  | .bk e=>.ok (.nx e)
  | .rt r=>.ok (.rt r)) else .ok (.nx env)
def t_ (n:Nat) (tb:G Bool) (u:G O):G O:=λenv=>lE tb u n env
theorem aJ.eraseIdx {K:Tg}{J:Hp}:∀{ds:List D}{vs:List V}(k:Nat),aJ K J ds vs->aJ K J (ds.eraseIdx k) (vs.eraseIdx k)
 | _,_,_,.nil=>by rw [abr,abr];exact .nil
 | _,_,0,.cons _ t=>t
 | _,_,k + 1,.cons r t=>.cons r (aJ.eraseIdx k t)
noncomputable def Qc (i j:Nat):G O:=λenv=>match env[j]? with
 | some (some (.own xs))=>(match xs[xs.length - 1]? with
  | some d=>.ok (.nx ((env.set j (some (.own xs.dropLast))).set i (some (.d d))))
  | none=>.bad)
 | _=>.bad
noncomputable def mO (i j:Nat) (g:G R):G O:=λenv=>match env[i]?,env[j]? with
 | some (some (.own zs)),some (some (.own xs))=>if i=j then .bad else g env >>= λr=>(match r with
  | .d (.int k)=>if 0<=k/\k.toNat < xs.length/\zs.length < sizeLine/\xs.length<=sizeLine then (match xs[k.toNat]? with
   | some d=>.ok (.nx ((env.set j (some (.own (xs.eraseIdx k.toNat)))).set i (some (.own (zs++[d])))))
   | none=>.bad) else .bad
  | _=>.bad)
 | _,_=>.bad
theorem Ob {k:Int}{n:Nat}(h0:0<=k) (h:k.toNat < n):aa5 k n=some k.toNat:=by
 unfold aa5;have h1:¬k < 0:=by omega
 have h2:k < n:=by omega
 simp [h1,h0,h2]
theorem MA {J H:Hp}{σ:L2.St}{env:Ev}(sr:SR c J H σ env){i j:Nat}{xs ys:List D}{p q:T3}(hij:i≠j) (hi:env[i]?=some (some (.own xs))) (hj:env[j]?=some (some (.own ys))) (h1:σ[i]?=some (some (.ref p))) (h2:σ[j]?=some (some (.ref q))):p≠q:=λz=>
 sr.sep i j (.inl xs) (.inl ys) (.ref p) hij hi hj h1 (z▸h2)
end
open PySem.AutoSeq1 in
theorem DY (T:String) (hT:T="tuple"\/T="list") (l b:T3) (xs ys:Array Ti) (n m:Nat) (dd:Option T3) (sl:Array (Option Ti)) (z0:¬(!xs.isEmpty && VO (xs.size + ys.size))=true) (z1:xs.size<=sizeLine) (z2:xs.size + ys.size<=sizeLine + 1):
  Meets (WZ.«list.extend» ⟨[.ref l,.ref b],[]⟩) λ_ R s=>s.heap.get? l=some {cls:=.type "list",dict:=none,data:=.seq xs n,slots:=#[]}/\
   s.heap.get? b=some {cls:=.type T,dict:=dd,data:=.seq ys m,slots:=sl}/\R (.ok (.ret Ux)) {s with heap:=s.heap.update l (UR λx=>x++ys),toks:=s.toks}:=
 .of_wp λprog w A R s h=>by
  obtain ⟨hp,gs,dr,tk,os⟩:=s;obtain ⟨h1,h2,h3⟩:=h;have t1:=AutoSeq1.idx_int;have t2:=XC;have t3:=AutoSeq1.sub_list_list;have t4:=AutoSeq1.sub_tuple_list;have t5:=AutoSeq1.sub_list_tuple;have z3:(xs++ys).size<=sizeLine + 1:=by rw [abo];exact z2
  rcases hT with rfl | rfl
  ·wp_walk using (WD h1 rfl (hz:=z1) (_hz':=z3)),V5 h1,V5 h2
   exact ⟨_,rfl,h3⟩
  ·wp_walk using (WD h1 rfl (hz:=z1) (_hz':=z3)),V5 h1,V5 h2
   exact ⟨_,rfl,h3⟩
section
variable {X:Cx}{c:C}{e a b tg:Uo}{es:List Uo}{ga gb g:G R}{pos:Pos}
noncomputable def O6 (K:Tg):V->List V->Hp->VK->Prop:=λx vs H Q=>∃l b xs zs,x=.ref l/\vs=[.ref b]/\H l=some (.lst xs)/\(bY K H b zs\/cZ K H b zs)/\xs.length + zs.length<=sizeLine/\Q .non (upd H l (.lst (xs++zs)))
theorem Ml:HP X "list.extend" (O6 X.K):=by
 intro S6 s σ H x vs v us Q I rx rv h;obtain ⟨l,b,xs,zs,rfl,rfl,hH,hB,hz,q⟩:=h;cases rx;obtain ⟨u,rfl,ru⟩:=rv.one;cases ru;obtain ⟨z,S7,n,r,hl,e⟩:=I.lstM hH;have obj:∃T its2,(T="tuple"\/T="list")/\Vals zs its2/\∃dd m sl,s.heap.get? b=some {cls:=.type T,dict:=dd,data:=.seq its2.toArray m,slots:=sl}:=by
  rcases hB with hB | hB
  ·obtain ⟨its2,r2,pl,_⟩:=I.list hB;obtain ⟨⟨cls,dd,data,sl⟩,ho,hc,m,hd⟩:=pl.isList;simp only at hc hd;subst hc hd;exact ⟨"list",its2,.inr rfl,r2,dd,m,sl,ho⟩
  ·obtain ⟨its2,r2,pl,_⟩:=I.tuple hB;obtain ⟨⟨cls,dd,data,sl⟩,ho,hc,m,hd⟩:=pl;simp only at hc hd;subst hc hd;exact ⟨"tuple",its2,.inl rfl,r2,dd,m,sl,ho⟩
 obtain ⟨T,its2,hT,r2,dd,m,sl,e2⟩:=obj;have hl2:=r2.length;have hsz:S7.toArray.size + its2.toArray.size<=sizeLine:=by rw [Tz,Tz];omega
 have Q3:¬(!S7.toArray.isEmpty && VO (S7.toArray.size + its2.toArray.size))=true:=by rw [zC hsz,WX];exact T_
 refine abk aa6 ⟨_,e,rfl⟩ aaR (aaz _ _) (DY T hT l b S7.toArray its2.toArray n m dd sl Q3 (by rw [Tz];omega) (by omega)) ⟨e,e2,?_⟩;refine ⟨.non,_,I.lset (its':=S7++its2) hH e (by simp) (r.append r2) ?_,rfl,q⟩;rw [TQ];omega
noncomputable def za (i:Nat) (g:G R):G O:=λenv=>match env[i]? with
 | some (some (.own xs))=>g env >>= λr=>g9 r >>= λys=>if xs.length + ys.length<=sizeLine then .ok (.nx (env.set i (some (.own (xs++ys))))) else .bad
 | _=>.bad
noncomputable def sJ:V->Option (Option Bool)
 | .non=>some none
 | .bl k=>some (some k)
 | _=>none
theorem zQ (rx:RelV x v) (ry:RelV y u) (h:sJ y=some o):isSame v u=pure (sJ x == some o):=by
 cases y with
 | non=>
  cases h;cases ry;cases x with
  | non=>cases rx;rfl
  | bl k=>cases rx;rfl
  | int i=>obtain ⟨t,rfl⟩:=rx;rfl
  | str z=>obtain ⟨t,rfl⟩:=rx;rfl
  | byt z=>obtain ⟨t,rfl⟩:=rx;rfl
  | flt z=>obtain ⟨t,rfl⟩:=rx;rfl
  | ref p=>cases rx;rfl
  | ty n=>cases rx;rfl
 | bl k'=>
  cases h;cases ry;cases x with
  | non=>cases rx;rfl
  | bl k=>cases rx;cases k <;> cases k' <;> rfl
  | int i=>obtain ⟨t,rfl⟩:=rx;rfl
  | str z=>obtain ⟨t,rfl⟩:=rx;rfl
  | byt z=>obtain ⟨t,rfl⟩:=rx;rfl
  | flt z=>obtain ⟨t,rfl⟩:=rx;rfl
  | ref p=>cases rx;rfl
  | ty n=>cases rx;rfl
 | _=>cases h
theorem EA:cS X (Vi .Is) (λx y H Q=>∃o,sJ y=some o/\Q (.bl (sJ x == some o)) H):=by intro S6 s σ H x y v u Q I rx ry h;obtain ⟨o,ho,q⟩:=h;show TX _ _ (do return V7 (<-isSame v u)) _ _ s;rw [zQ rx ry ho];exact Tf (Th (Th ⟨.bl _,H,I,rfl,q⟩))
theorem EB:cS X (Vi .IsNot) (λx y H Q=>∃o,sJ y=some o/\Q (.bl (!(sJ x == some o))) H):=by intro S6 s σ H x y v u Q I rx ry h;obtain ⟨o,ho,q⟩:=h;show TX _ _ (do return V7 (!(<-isSame v u))) _ _ s;rw [zQ rx ry ho];exact Tf (Th (Th ⟨.bl _,H,I,rfl,q⟩))
noncomputable def Cw:R->Option (Option Bool)
 | .d .non=>some none
 | .d (.bl k)=>some (some k)
 | _=>none
noncomputable def kW (neg:Bool) (x y:R):M R:=match Cw y with
 | some o=>.ok (.d (.bl (if neg then !(Cw x == some o) else Cw x == some o)))
 | none=>.bad
theorem kO {He J H:Hp}:∀{r:R}{v:V},RR c He J H r v->sJ v=Cw r
 | .d .non,_,h=>by cases h;rfl
 | .d (.bl _),_,h=>by cases h;rfl
 | .d (.int _),_,h=>by cases h;rfl
 | .d (.str _),_,h=>by cases h;rfl
 | .d (.tup _),_,h=>by cases h;rfl
 | .d (.lst _),_,h=>by cases h;rfl
 | .d .emp,_,h=>by cases h;rfl
 | .d (.exn _ _ _),_,h=>by cases h;rfl
 | .d (.dct _ _),_,h=>by cases h;rfl
 | .l .fresh _,_,h=>by obtain ⟨_,_,rfl,_⟩:=h;rfl
 | .l .own _,_,h=>by obtain ⟨_,_,rfl,_⟩:=h;rfl
 | .l .bor _,_,h=>by obtain ⟨_,_,rfl,_⟩:=h;rfl
 | .mo _ _,_,h=>by obtain ⟨_,rfl,_⟩:=h;rfl
 | .mb _ _,_,h=>by obtain ⟨_,rfl,_⟩:=h;rfl
 | .mf _ _,_,h=>by obtain ⟨_,rfl,_⟩:=h;rfl
end
def jj (m:Int) (ns:List Int):Int:=ns.foldl (λm b=>if b > m then b else m) m
section
variable {prog:TU}{w:Uk}{A:Um}{R:abD->Tj->Prop}{I:T3}{fp wr:List T3}{St:Nat->Vd->Prop}{us:Array Ti}{ns:List Int}{S:T3}{dv:Ti}
theorem uq:(toString "max"++toString ".loop":String)="max.loop":=by decide
theorem LM {a b:Int}{t u:Tok}{s:Tj}{Q:Ti->Tj->Prop}{E:Ti->Tj->Prop}(h:Q (.bool (decide (a > b))) s):TX (T5 prog w) A (aaV .Gt (.int a t) (.int b u)) Q E s:=
 richCompare_gives (op:=.Gt) (acV s a t) (acV s b u) F.slot_int_gt F.entry_int_gt (F.args_int_gt_2 _ _) (gives_int_gt _ _ t u) (λz=>nomatch z) h
theorem JM (W:Walks prog w A.in1 I fp wr us.size (λi v=>us[i]?=some v) St) (hSf:S∉fp) (hu:∀(i:Nat) (v:Ti),us[i]?=some v->∃t,v=.int (ns.getD i 0) t) (hl:us.size=ns.length):
  ∀(k j:Nat) (s:Tj) (m:Int) (t:Tok) (c:Nat),ns.length - (j + 1)=k->j + 1<=ns.length->St (j + 1) s.heap->s.heap.get? S=some {cls:=.type "list",dict:=none,data:=.seq #[.int m t,.int m t] c,slots:=#[]}->
  (∀(t':Tok) (h':Vd) (tk:Nat),(∀b o,b∉wr->b≠S->s.heap.get? b=some o->h'.get? b=some o)->R (.ok (.ret (.int (jj m (ns.drop (j + 1))) t'))) {s with heap:=h',toks:=tk})->
  VH (T5 prog w) A (.builtin "max.loop" ⟨[.ref I,.none,.ref S],[("default",dv)]⟩) R s:=by
 have Rc:S∉wr:=λz=>hSf (W.sub _ z);intro k
 induction k with
 | zero=>
  intro j s m t c hk hj hst hS hR;have hin:j + 1=us.size:=by omega
  (refine Vk ZT ?_);rw [UK V_ _]
  (show TX _ A.in1 (aad (.ref S) >>= _) _ _ s);refine Tf (Xo hS rfl ?_)
  (show TX _ A.in1 (tryCatch (W7 (.ref I)) _ >>= _) _ _ s);refine Tf (Yo (W.done s _ _ (hin▸hst) λh1 tk k1=>?_))
  have Ra:=k1 S _ Rc hS
  (show TX _ A.in1 (ab8 S (λ_=>#[]) >>= _) _ _ _);refine Tf (WD Ra rfl (Tf (ZG (Th ?_))))
  have z:=hR t (h1.update S (UR λ_=>#[])) tk λb o hb Q7 e=>(UY _ _ (VG Q7)).trans (k1 b o hb e);rw [X6 (by omega)] at z;exact z
 | succ k ih=>
  intro j s m t c hk hj hst hS hR;have hlt:j + 1 < us.size:=by omega
  (refine Vk ZT ?_);rw [UK V_ _]
  (show TX _ A.in1 (aad (.ref S) >>= _) _ _ s);refine Tf (Xo hS rfl ?_)
  (show TX _ A.in1 (tryCatch (W7 (.ref I)) _ >>= _) _ _ s);refine Tf (Yo (W.item (j + 1) s _ _ hlt hst λv h1 tk hP Q_ k1=>?_))
  have Ra:=k1 S _ Rc hS;obtain ⟨t1,rfl⟩:=hu _ _ hP;have hd:ns.drop (j + 1)=ns.getD (j + 1) 0::ns.drop (j + 1 + 1):=by rw [Ws (by omega:j + 1 < ns.length),Vb,TR (by omega:j + 1 < ns.length)];rfl
  rw [hd] at hR;generalize ns.getD (j + 1) 0=y at hR hP ⊢
  (show TX _ A.in1 (tryCatch (holding [Yr y t1,Yr y t1] (aaV .Gt (Yr y t1) (Yr m t) >>= _)) _ >>= _) _ _ _);refine Tf (Yo (Ul (Tf (LM ?_))))
  (refine Tf (Ul (UM ?_)));refine Tf (ZG (Th ?_))
  by_cases hb:y > m
  ·rw [decide_eq_true hb];simp only [if_true]
   (refine Tf (WD Ra rfl (Tf (ZG ?_))));rw [uq]
   refine Th ⟨VY V_ _,ih (j + 1) _ y t1 _ (by omega) (by omega) (W.frame _ _ _ Q_ λb RB o e=>?_) (UQ _ Ra rfl) λt2 h2 tk2 k2=>?_⟩
   ·exact (UY _ _ (λz:S=b=>hSf (z▸RB))).trans e
   ·have q:=hR t2 h2 tk2 λb o Rb Q7 e=>k2 b o Rb Q7 ((UY _ _ (VG Q7)).trans (k1 b o Rb e));have e:jj m (y::ns.drop (j + 1 + 1))=jj y (ns.drop (j + 1 + 1)):=by show aem _ (if y > m then y else m) _=_;rw [if_pos hb];rfl
    rw [e] at q;exact q
  ·rw [decide_eq_false hb]
   (simp only [TJ,if_false]);(refine Tf (ZG ?_));rw [uq]
   refine Th ⟨VY V_ _,ih (j + 1) _ m t c (by omega) (by omega) Q_ Ra λt2 h2 tk2 k2=>?_⟩;have q:=hR t2 h2 tk2 λb o Rb Q7 e=>k2 b o Rb Q7 (k1 b o Rb e);have e:jj m (y::ns.drop (j + 1 + 1))=jj m (ns.drop (j + 1 + 1)):=by show aem _ (if y > m then y else m) _=_;rw [if_neg hb];rfl
   rw [e] at q;exact q
noncomputable def pO (d:Int):List Int->Int
 | []=>d
 | n::r=>jj n r
theorem Cu (W:Walks prog w A.in1 I fp wr us.size (λi v=>us[i]?=some v) St) (hSf:S∉fp) (hu:∀(i:Nat) (v:Ti),us[i]?=some v->∃t,v=.int (ns.getD i 0) t) (hl:us.size=ns.length){d:Int}{td:Tok}{s:Tj}{c:Nat}(hst:St 0 s.heap)
  (hS:s.heap.get? S=some {cls:=.type "list",dict:=none,data:=.seq #[] c,slots:=#[]})
  (hR:∀(t':Tok) (h':Vd) (tk:Nat),(∀b o,b∉wr->b≠S->s.heap.get? b=some o->h'.get? b=some o)->R (.ok (.ret (.int (pO d ns) t'))) {s with heap:=h',toks:=tk}):
  VH (T5 prog w) A (.builtin "max.loop" ⟨[.ref I,.none,.ref S],[("default",.int d td)]⟩) R s:=by
 have Rc:S∉wr:=λz=>hSf (W.sub _ z)
 (refine Vk ZT ?_);rw [UK V_ _]
 (show TX _ A.in1 (aad (.ref S) >>= _) _ _ s);refine Tf (Xo hS rfl ?_)
 (show TX _ A.in1 (tryCatch (W7 (.ref I)) _ >>= _) _ _ s)
 cases ns with
 | nil=>
  have h0:(0:Nat)=us.size:=hl.symm;refine Tf (Yo (W.done s _ _ (h0▸hst) λh1 tk k1=>?_));refine Tf (YQ (Th ?_));exact hR td h1 tk λb o hb _ e=>k1 b o hb e
 | cons y r=>
  have hn:0 < us.size:=by rw [hl];exact adC _
  refine Tf (Yo (W.item 0 s _ _ hn hst λv h1 tk hP Q_ k1=>?_));have Ra:=k1 S _ Rc hS;obtain ⟨t1,rfl⟩:=hu _ _ hP
  (show TX _ A.in1 (ab8 S (λ_=>#[Yr ((y::r).getD 0 0) t1,Yr ((y::r).getD 0 0) t1]) >>= _) _ _ _);refine Tf (WD Ra rfl ?_)
  rw [uq];refine Th ⟨VY V_ _,JM W hSf hu hl _ 0 _ y t1 _ rfl (adC _) (W.frame _ _ _ Q_ λb RB o e=>?_) (UQ _ Ra rfl) λt2 h2 tk2 k2=>?_⟩
  ·exact (UY _ _ (λz:S=b=>hSf (z▸RB))).trans e
  ·exact hR t2 h2 tk2 λb o Rb Q7 e=>k2 b o Rb Q7 ((UY _ _ (VG Q7)).trans (k1 b o Rb e))
end
section
variable {prog:TU}{w:Uk}{A:Um}{E:Ti->Tj->Prop}{s:Tj}{l:T3}{us:Array Ti}{ns:List Int}
theorem Dm (a d:Ti):abJ "max" ⟨[a],[("default",d)]⟩:=by
 unfold abJ
 kernel_rfl
theorem DG {d:Int}{td:Tok}{Q:Ti->Tj->Prop}(hh:A.handled=none) (hl:s.heap.IsList l us) (hu:∀(i:Nat) (v:Ti),us[i]?=some v->∃t,v=.int (ns.getD i 0) t) (hn:us.size=ns.length)
  (h:∀(t':Tok) (h':Vd) (tk:Nat),(∀b o,s.heap.get? b=some o->h'.get? b=some o)->Q (.int (pO d ns) t') {s with heap:=h',toks:=tk}):TX (T5 prog w) A (call (.builtin "max") [.ref l] [("default",.int d td)]) Q E s:=by
 have ha:=Dm (.ref l) (.int d td);refine aav (YJ F.plain_max F.entry_max ?_);have core:TX (T5 prog w) A.in1 (WZ.«max» ⟨[.ref l],[("default",.int d td)]⟩) (λfin s'=>match fin with
   | .done f=>(match (Except.ok f:abD) with | .ok (.ret v)=>Q v s' | .ok _=>False | .error e=>E e s')
   | .again c'=>c'.quiet=true/\VH (T5 prog w) A c' (λr s'=>match r with | .ok (.ret v)=>Q v s' | .ok _=>False | .error e=>E e s') s') E s:=by
  show TX _ A.in1 (YV "max" ["key","default"] 0 ⟨[],[("default",.int d td)]⟩ >>= _) _ _ s;refine Tf (Yd (show YV "max" ["key","default"] 0 ⟨[],[("default",.int d td)]⟩=pure [none,some (.int d td)] by rfl) ?_);refine Tf (Th ?_);have hlt:l < s.heap.objs.size:=by obtain ⟨_,e,_⟩:=hl;exact TN e
  refine Tf (Xg hl ?_);refine Tf (Ui ?_);rw [uq];generalize hs2:s.heap.push {cls:=.type "list_iterator",data:=.fields #[.ref l,.int 0 0]}=H2;have hI:H2.IsListIter s.heap.objs.size l 0:=by rw [<-hs2];exact ⟨_,TH _ rfl,rfl,rfl⟩
  have hL:H2.IsList l us:=by rw [<-hs2];exact hl.push _
  have sz:H2.objs.size=s.heap.objs.size + 1:=by rw [<-hs2,Wt]
  have W:=abq (prog:=prog) (w:=w) (A:=A.in1) (show A.in1.handled=none from hh) s.heap.objs.size l (Ua hlt) us;have hSf:H2.objs.size∉[s.heap.objs.size,l]:=λz=>by
   rcases TZ.mp z with z | z
   ·exact absurd (sz.symm.trans z) (Nat.succ_ne_self _)
   ·rw [TL] at z;exact absurd z.symm (Ua (by rw [sz];exact Vy hlt))
  refine Th ⟨VY V_ _,Cu W hSf hu hn (W.frame _ _ _ ⟨hI,hL⟩ λb _ o e=>Tn _ e) (TH _ rfl) λt' h' tk k=>?_⟩;refine h t' h' tk λb o e=>?_;have e2:H2.get? b=some o:=by rw [<-hs2];exact Tn _ e
  have lt:=TN e;exact k b o (λz=>absurd (TL.mp z) (Ua lt)) (Ua (by rw [sz];exact Vy lt)) (Tn _ e2)
 simp only [YC,F.kind_max];cases RY:Manifest.signature? "max" with
 | none=>exact Th core
 | some sig=>
  simp only [abJ,RY] at ha;have h2:acG "max" sig ⟨[.ref l],[("default",.int d td)]⟩=pure ():=ha;show TX _ A.in1 (acG "max" sig ⟨[.ref l],[("default",.int d td)]⟩) _ _ s;rw [h2];exact Th core
end
section
variable {X:Cx}{c:C}{e a b tg i:Uo}{es:List Uo}{ga gb g:G R}{pos:Pos}
noncomputable def Ie (d:Int) (g:G R):G R:=λenv=>g env >>= λr=>iU r >>= λxs=>match intsOf xs with
 | some ns=>.ok (.d (.int (pO d ns)))
 | none=>.bad
theorem K0 {ns:List Int}{S7:List Ti}(r:Vals (ns.map V.int) S7) (i:Nat) (v:Ti) (h:S7.toArray[i]?=some v):∃t,v=.int (ns.getD i 0) t:=by
 have h':S7[i]?=some v:=by simpa using h
 have hl:=r.length;rw [Tp] at hl;have hi:i < ns.length:=by rw [hl];exact (T7.mp h').1
 obtain ⟨u,hu,ru⟩:=r.get (show (ns.map V.int)[i]?=some (.int ns[i]) by rw [Uh,TR hi];rfl);rw [h'] at hu;cases hu;obtain ⟨t,rfl⟩:=ru;exact ⟨t,by rw [Vb,TR hi];rfl⟩
end
section
variable {X:Cx}{c:C}{e a b d tg:Uo}{es:List Uo}{ga gb g:G R}{pos:Pos}
def OZ (K:Tg) (tl:TE):TI:=λσ H R=>tl σ H λx H1=>∃a,x=.ref a/\(((∃xs,bY K H1 a xs)/\R (HJ K a) H1)\/((∃xs,cZ K H1 a xs)/\R (HL K a) H1))
theorem EH {tl:TE}(hl:PE X e tl):PI X tg e (OZ X.K tl):=λS6 s σ H R I h=>bI (hl S6 s σ H _ I h) λv s1 ⟨x,H1,I1,r1,a,ex,q1⟩=>by
 subst ex;cases r1;have fp:∀b∈[s1.heap.objs.size],jW X S6 H1 b:=λb hb=>by rw [TL] at hb;subst hb;exact I1.fpOk (Tv _) (I1.hok.fresh (Tv _))
 rcases q1 with ⟨⟨xs,hq⟩,q⟩ | ⟨⟨xs,hq⟩,q⟩
 ·obtain ⟨S7,rv,p,hz⟩:=I1.list hq;exact Xg p.isList ⟨s1.heap.objs.size,[s1.heap.objs.size],_,_,H1,rfl,I1.kept (t':=s1.toks) (λb o e=>Tn _ e),Ft a _,⟨_,TH _ rfl,rfl,rfl⟩,fp,q⟩
 ·obtain ⟨S7,rv,p,hz⟩:=I1.tuple hq;exact aa9 (show s1.heap.IsTuple a S7.toArray from p) ⟨s1.heap.objs.size,[s1.heap.objs.size],_,_,H1,rfl,I1.kept (t':=s1.toks) (λb o e=>Tn _ e),CU a _,⟨_,TH _ rfl,rfl,rfl⟩,fp,q⟩
theorem xy {J1:Hp}{a:T3}{vs:List V}{ds:List D}{U:Hp->Hp->Prop}(hU:∀J H,U J H->aS J1 J) (h:cZ c.K J1 a vs) (hs:aJ c.K J1 ds vs):Walk c (HL c.K a) ds J1 U:=by intro i J H hp u;have h':=fD hp.sub (fD (hU J H u) h);refine ⟨λhl=>⟨vs,h',by rw [<-hs.length];exact hl⟩,λd hd=>?_⟩;obtain ⟨v,k1,k2⟩:=hs.get hd;refine ⟨⟨vs,v,h',k1⟩,λx H2 ⟨e,hy⟩=>?_⟩;subst e;have:=hy vs h';rw [k1] at this;cases this;exact ⟨J,Ext.refl hp.sub,k2.mono (hU J _ u)⟩
noncomputable def fM (g:G R):G (List D):=λenv=>g env >>= λr=>match r with
 | .d (.tup xs)=>.ok xs
 | .d (.lst xs)=>.ok xs
 | .l .fresh xs=>.ok xs
 | .l .bor xs=>.ok xs
 | _=>.bad
def fq (g:G R):G (List D):=λenv=>g env >>= g9
end
section
variable {X:Cx}{c:C}{st:Wm}{g:G O}
theorem SR.frz {J H:Hp}{σ:L2.St}{env:Ev}(sr:SR c J H σ env){i:Nat}{x:Mn}{a:T3}{o:HO}{d:D}(hi:env[i]?=some (some (mS x))) (h1:σ[i]?=some (some (.ref a))) (h2:H a=some o) (h3:J a=none) (h4:c.H0 a=none) (h5:Rep c.K (L2.upd J a o) d (.ref a)):∃J',aS J J'/\SR c J' H σ (env.set i (some (.d d))):=by
 have s1:aS J (L2.upd J a o):=cO h3 _;refine ⟨L2.upd J a o,s1,⟨⟨λb o q=>?_,sr.hp.ent,sr.hp.entJ.trans s1,λb k1 k2=>?_⟩,by simpa using sr.len,λj y q=>?_,λj k ys zs w hjk q1 q2 q3 q4=>?_⟩⟩
 ·by_cases hb:b=a
  ·subst hb;rw [b9] at q;cases q;exact h2
  ·rw [bA hb] at q;exact sr.hp.sub b o q
 ·have:b≠a:=λz=>k1 (z▸h4);rw [bA this];exact sr.hp.frz b k1 k2
 ·rcases gw q with ⟨rfl,hl,rfl⟩ | ⟨hj,q⟩
  ·exact ⟨.ref a,h1,h5⟩
  ·obtain ⟨w,k1,k2⟩:=sr.at_ j y q;refine ⟨w,k1,?_⟩;have hne:∀(z:Mn) p',y=mS z->w=.ref p'->p'≠a:=λz p' e ew ep=>sr.sep i j x z (.ref a) (VG hj) hi (e▸q) h1 (ep▸ew▸k1);cases y with
   | d x=>exact Rep.mono s1 k2
   | bor zs=>obtain ⟨p,us,m1,m2,m3⟩:=k2;exact ⟨p,us,m1,m2,m3.mono s1⟩
   | db _ _=>obtain ⟨p,m1,m2⟩:=k2;exact ⟨p,m1,m2.mono s1 (aS.refl _)⟩
   | fn _=>exact k2
   | dk ks zs=>
    obtain ⟨p,rfl,m1,m2,m3⟩:=k2;exact ⟨p,rfl,m1.mono s1 (aS.refl _),by rw [bA (hne (.inr (ks,zs)) p rfl rfl)];exact m2,m3⟩
   | own zs=>
    obtain ⟨p,us,rfl,m1,m2,m3,m4⟩:=k2;exact ⟨p,us,rfl,m1,by rw [bA (hne (.inl zs) p rfl rfl)];exact m2,m3,m4.mono s1⟩
 ·have f:∀(k:Nat) (ys:Mn),(env.set i (some (.d d)))[k]?=some (some (mS ys))->env[k]?=some (some (mS ys)):=λk ys q=>by
   rcases gw q with ⟨rfl,_,z⟩ | ⟨_,q⟩
   ·cases ys <;> cases z
   ·exact q
  exact sr.sep j k ys zs w hjk (f j ys q1) (f k zs q2) q3 q4
noncomputable def jg (i:Nat) (g:G O):G O:=λenv=>match env[i]? with
 | some (some (.own xs))=>g (env.set i (some (.d (.lst xs))))
 | some (some (.dk ks vs))=>g (env.set i (some (.d (.dct ks vs))))
 | _=>g env
end
structure QD (X:Cx) (c:C) (x0:Uo) (x1:G R):Prop where
 h:PD X c x0 x1
structure QB (X:Cx) (c:C) (x0:Uo) (x1:G Bool):Prop where
 h:PB X c x0 x1
structure jd (X:Cx) (c:C) (x0:List Uo) (x1:G (List R)):Prop where
 h:Dj X c x0 x1
structure Dl (X:Cx) (c:C) (x0:List Uo) (x1:G (List D)):Prop where
 h:PF X c x0 x1
structure jo (X:Cx) (c:C) (x0:Wm) (x1:G O):Prop where
 h:Lc X c x0 x1
structure ow (X:Cx) (c:C) (x0:List Wm) (x1:G O):Prop where
 h:HS X c x0 x1
structure yw (X:Cx) (c:C) (x0:Uo) (x1:G Bool):Prop where
 h:PJ X c x0 x1
structure o8 (X:Cx) (c:C) (x0:Uo) (x1:GT):Prop where
 h:Dk X c x0 x1
structure BH (X:Cx) (c:C) (x0:List Uo) (x1:sY):Prop where
 h:OR X c x0 x1
structure yx (X:Cx) (c:C) (x0:Uo) (x1:Uo) (x2:G (List D)):Prop where
 h:OD X c x0 x1 x2
structure vV (X:Cx) (c:C) (x0:Uo) (x1:Uo) (x2:G (List D)):Prop where
 h:OC X c x0 x1 x2
structure o7 (X:Cx) (c:C) (x0:List Uo) (x1:G Bool):Prop where
 h:BG X c x0 x1
structure AH (X:Cx) (c:C) (x0:Option Uo) (x1:GO):Prop where
 h:Ld X c x0 x1
section
variable {X:Cx}{c:C}{e a b:Uo}{ga gb:G R}{pos:Pos}
theorem aa (i:Nat) (hN:X.N[i]?=some x:=by rfl) (hv:qY X.env.scope x:=by first | exact Yu rfl | exact WV (Yu rfl) | exact WV (WV rfl)) (hd:(x == ("__debug__":Str))=false:=by decide)
 (hcd:(x == ("__classdict__":Str))=false:=by decide):QD X c (.Name x pos) (af i):=⟨JZ (k8 hN hv hd hcd)⟩
theorem aq:QD X c (.Constant (.int i) j pos) (gC (.int i)):=⟨uw (λ_=>.int i) EF⟩
theorem dg:QD X c (.Constant (.bool i) j pos) (gC (.bl i)):=⟨uw (λ_=>.bl i) NT⟩
theorem jF:QD X c (.Constant .none j pos) (gC .non):=⟨uw (λ_=>.non) MD⟩
theorem eN:QD X c (.Constant (.str x) j pos) (gC (.str x)):=⟨uw (λ_=>.str x) MG⟩
theorem vE (ha:QD X c a ga) (hb:QD X c b gb):QD X c (.BinOp a .Sub b pos) (g2 yZ ga gb):=have ha:=ha.h;have hb:=hb.h;⟨kD Mw (f7 λ_ _ _=>.int _) ha hb⟩
theorem eK (ha:QD X c a ga) (hb:QD X c b gb):QD X c (.BinOp a .FloorDiv b pos) (g2 ie ga gb):=have ha:=ha.h;have hb:=hb.h;⟨kD JR (yE (λi j h=>JA h) λ_ _ _=>.int _) ha hb⟩
theorem cA (ha:QD X c a ga) (hb:QD X c b gb):QD X c (.BinOp a .Mod b pos) (g2 dQ ga gb):=have ha:=ha.h;have hb:=hb.h;⟨kD Ms (yE (λi j h=>by unfold L_ at h;exact of_decide_eq_true h) λ_ _ _=>.int _) ha hb⟩
theorem fU (ha:QD X c a ga) (hb:QD X c b gb):QD X c (.BinOp a .Pow b pos) (g2 jy ga gb):=have ha:=ha.h;have hb:=hb.h;⟨kD Mv (yE (λi j h=>JC h) λ_ _ _=>.int _) ha hb⟩
theorem EU (ha:QD X c a ga) (hb:QD X c b gb):QD X c (.Compare a [.Gt] [b] pos) (g2 (iB λi j=>.bl (decide (j < i))) ga gb):=have ha:=ha.h;have hb:=hb.h;⟨pS uu (f7 λ_ _ _=>.bl _) ha hb⟩
theorem au:jd X c [] aF:=⟨yd gr λσ H Q ⟨J,env,sr,w⟩=>w [] J H (Ext.refl sr.hp.sub) rfl⟩
theorem ak {es:List Uo}{g:G R}{gs:G (List R)}(h:QD X c e g) (hs:jd X c es gs) (hst:TF (e::es) X.env=(false,eval e X.env)::TF es X.env:=by rfl):jd X c (e::es) (ao g gs):=have h:=h.h;have hs:=hs.h;⟨
 yd (dM h hs hst) λσ H Q ⟨J,env,sr,w⟩=>by
  refine ⟨J,env,sr,aD (aH w) λx wx u J1 H1 e1 r1=>?_⟩;refine ⟨J1,env,sr.ext e1,aD (aH wx) λxs wy us J2 H2 e2 r2=>?_⟩;exact wy (u::us) J2 H2 (e1.trans e2) ⟨u,us,rfl,r1.ext e2,kg.from e1.h r2⟩⟩
end
section
variable {X:Cx}{c:C}{e a b:Uo}{es:List Uo}{ga gb g:G R}{pos:Pos}
theorem aN:Dl X c [] aW:=⟨yd gr λσ H Q ⟨J,env,sr,w⟩=>w [] J H (Ext.refl sr.hp.sub) .nil⟩
theorem av {gs:G (List D)}(h:QD X c e g) (hs:Dl X c es gs) (hst:TF (e::es) X.env=(false,eval e X.env)::TF es X.env:=by rfl):Dl X c (e::es) (aE g gs):=have h:=h.h;have hs:=hs.h;⟨
 yd (dM h hs hst) λσ H Q ⟨J,env,sr,w⟩=>by
  refine ⟨J,env,sr,aD (aH w) λx wx u J1 H1 e1 r1=>?_⟩;obtain ⟨d,q,wx⟩:=i6 wx;obtain ⟨J1',e1',s1,rd⟩:=freeze e1 r1 q;refine ⟨J1',env,sr.ext e1',aD (aH wx) λxs wy us J2 H2 e2 r2=>?_⟩;exact wy (u::us) J2 H2 (e1'.trans e2) (.cons (rd.mono e2.j) r2)⟩
theorem br {k}{gs:G (List D)}(h:Dl X c es gs):QD X c (.Tuple es k pos) (bO gs):=have h:=h.h;⟨fC (MH h) λσ H Q ⟨J,env,sr,w⟩=>by
 refine ⟨J,env,sr,aD (aH w) λds wd vs J1 H1 e1 r1=>?_⟩;split at wd
 ·rename_i hz;rw [r1.length] at hz;exact ⟨hz,λp hp=>wd _ _ _ (e1.trans (Ext.newJ e1.sub hp _)) (pW (sr.hp.ext e1) hp r1)⟩
 ·exact wd.elim⟩
theorem cu {gs:G (List D)}(h:Dl X c es gs):QD X c (.List es pos) (d_ gs):=have h:=h.h;⟨fC (MC h) λσ H Q ⟨J,env,sr,w⟩=>by
 refine ⟨J,env,sr,aD (aH w) λds wd vs J1 H1 e1 r1=>?_⟩;split at wd
 ·rename_i hz;rw [r1.length] at hz;exact ⟨hz,λp hp=>wd _ _ _ (e1.trans (Ext.new e1.sub hp _)) (RR.from e1.h (gW (sr.hp.ext e1) hp r1))⟩
 ·exact wd.elim⟩
theorem fT {p:Pos}{gs:G (List R)}(ha:jd X c (e::es) gs) (hm:X.mg "len"=none) (hK:X.K=c.K:=by rfl) (hg:Gl X "len":=by rfl)
  (he:TF (e::es) X.env=(false,eval e X.env)::TF es X.env:=by rfl) (hpl:(U_ pos (TF es X.env)).any (·.1)=false:=by rfl):QD X c (.Call (.Name "len" p) (e::es) [] pos) (gN fL gs):=have ha:=ha.h;⟨
 iL (yJ.or yI) (by
  intro He J H xs vs Q hp rs w;unfold fL at w;split at w
  ·obtain ⟨v,rfl,r⟩:=rs.one;cases r;split at w
   ·rename_i hz;exact .inl ⟨_,rfl,hz,w _ J H (Ext.refl hp.sub) (.int _)⟩
   ·exact w.elim
  ·obtain ⟨v,rfl,r⟩:=rs.one;obtain ⟨xs,q,w⟩:=jK w;obtain ⟨p,vs,rfl,hq,hs⟩:=mF hp r q;have w':=w (.int vs.length) J H (Ext.refl hp.sub) (by rw [hs.length];exact .int _);exact .inr ⟨p,vs,rfl,by rw [hK];exact hq,w'⟩
  ·exact w.elim) acH hm ha hg (by decide) (by decide) he hpl⟩
theorem cV {gs:G (List R)}(ha:jd X c (e::es) gs) (hm:X.mg "tuple"=none) (hK:X.K=c.K:=by rfl) (hg:Gl X "tuple":=by rfl)
 (he:TF (e::es) X.env=(false,eval e X.env)::TF es X.env:=by rfl) (hpl:(U_ pos (TF es X.env)).any (·.1)=false:=by rfl):QD X c (.Call (.Name "tuple" p) (e::es) [] pos) (gN d9 gs):=have ha:=ha.h;⟨
 wL xJ (by
  intro He J H xs vs Q hp rs w;unfold d9 at w;split at w
  ·obtain ⟨v,rfl,r⟩:=rs.one;rename_i r0;obtain ⟨xs,q,w⟩:=jK w;cases r0 with
   | d y=>
    cases y with
    | tup ys=>
     cases q;cases r with
     | tup h hs=>exact ⟨_,_,rfl,.inr ⟨by rw [hK];exact fD hp.sub h,w _ J H (Ext.refl hp.sub) (.tup h hs)⟩⟩
    | lst ys=>
     cases q;obtain ⟨p,vs,rfl,hq,hs⟩:=RR.list hp r rfl;exact ⟨p,vs,rfl,.inl ⟨by rw [hK];exact hq,λl hl=>w _ _ _ (Ext.newJ hp.sub hl _) (pW hp hl hs)⟩⟩
    | _=>cases q
   | mo _ _=>cases q
   | mb _ _=>cases q
   | mf _ _=>cases q
   | l m ys=>
    cases q;obtain ⟨p,vs,rfl,hq,hs⟩:=RR.list hp r rfl;exact ⟨p,vs,rfl,.inl ⟨by rw [hK];exact hq,λl hl=>w _ _ _ (Ext.newJ hp.sub hl _) (pW hp hl hs)⟩⟩
  ·exact w.elim) Ah hm ha hg (by decide) (by decide) he hpl⟩
theorem fR (h:QD X c e g) (he:∀whole,aaH e X.env whole=(do let v <-whole;W6 e.pos;holding [v] (truthy v)):=by intro _;rfl):QB X c e (bG g):=have h:=h.h;⟨yg (MT h he) λσ H Q ⟨J,env,sr,w⟩=>by
 refine ⟨J,env,sr,aD (aH w) λr wr v J1 H1 e1 r1=>?_⟩;split at wr
 ·cases r1;exact ⟨_,rfl,wr J1 H1 e1⟩
 ·exact wr.elim⟩
theorem gD {f:R->R->M R}(ho:cS X (Vi op) r) (hf:BD c r f) (ha:QD X c a ga) (hb:QD X c b gb) (hm:UZ op b=false:=by first | exact zB _ | rfl):QB X c (.Compare a [op] [b] pos) (bG (g2 f ga gb)):=⟨jk ho hf ha.h hb.h hm⟩
variable {t u:G Bool}{rest:List Uo}
theorem jC (h:yw X c e t):QB X c e t:=have h:=h.h;⟨PW.pt h⟩
theorem nW (h:QB X c a t):yw X c (.BoolOp .And [a] pos) t:=have h:=h.h;⟨Kl h⟩
theorem vB (h:QB X c a t):yw X c (.BoolOp .Or [a] pos) t:=have h:=h.h;⟨MV h⟩
theorem qH (h:QB X c a t) (h':yw X c (.BoolOp .And (b::rest) pos) u):yw X c (.BoolOp .And (a::b::rest) pos) (jZ t u):=have h:=h.h;have h':=h'.h;⟨IA (MU h h') λσ H Q ⟨J,env,sr,w⟩=>by
 refine ⟨J,env,sr,aD (aH w) λk wk J1 H1 e1=>?_⟩;cases k with
 | true=>
  rw [if_pos rfl] at wk ⊢;exact ⟨J1,env,sr.ext e1,aD wk λk q J2 H2 e2=>q J2 H2 (e1.trans e2)⟩
 | false=>
  rw [if_neg (by decide)] at wk ⊢;exact wk J1 H1 e1⟩
theorem ux (h:QB X c a t) (h':yw X c (.BoolOp .Or (b::rest) pos) u):yw X c (.BoolOp .Or (a::b::rest) pos) (oB t u):=have h:=h.h;have h':=h'.h;⟨IA (N1 h h') λσ H Q ⟨J,env,sr,w⟩=>by
 refine ⟨J,env,sr,aD (aH w) λk wk J1 H1 e1=>?_⟩;cases k with
 | true=>
  rw [if_pos rfl] at wk ⊢;exact wk J1 H1 e1
 | false=>
  rw [if_neg (by decide)] at wk ⊢;exact ⟨J1,env,sr.ext e1,aD wk λk q J2 H2 e2=>q J2 H2 (e1.trans e2)⟩⟩
theorem jD (h:QB X c a t):QB X c (.UnaryOp .Not a pos) (gF t):=have h:=h.h;⟨yg (MS h) λσ H Q ⟨J,env,sr,w⟩=>⟨J,env,sr,aD (aH w) λk wk J1 H1 e1=>wk J1 H1 e1⟩⟩
theorem nZ {op}(h:QD X c a ga):QD X c (.BoolOp op [a] pos) ga:=have h:=h.h;⟨MF h⟩
theorem Bl (h:QD X c a ga) (h':QD X c (.BoolOp .And (b::rest) pos) gb):QD X c (.BoolOp .And (a::b::rest) pos) (xY ga gb):=have h:=h.h;have h':=h'.h;⟨fC (MB h h') λσ H Q ⟨J,env,sr,w⟩=>by
 refine ⟨J,env,sr,aD (aH w) λr wr v J1 H1 e1 r1=>?_⟩;split at wr
 ·cases r1;exact ⟨true,rfl,L3 ⟨J1,env,sr.ext e1,aD wr λz q v J2 H2 e2 r2=>q v J2 H2 (e1.trans e2) (RR.from e1.h r2)⟩⟩
 ·cases r1;exact ⟨false,rfl,LX (wr _ J1 H1 e1 (.bl _))⟩
 ·exact wr.elim⟩
theorem EW (h:QD X c a ga) (h':QD X c (.BoolOp .Or (b::rest) pos) gb):QD X c (.BoolOp .Or (a::b::rest) pos) (j3 ga gb):=have h:=h.h;have h':=h'.h;⟨fC (NW h h') λσ H Q ⟨J,env,sr,w⟩=>by
 refine ⟨J,env,sr,aD (aH w) λr wr v J1 H1 e1 r1=>?_⟩;split at wr
 ·cases r1;exact ⟨false,rfl,LX ⟨J1,env,sr.ext e1,aD wr λz q v J2 H2 e2 r2=>q v J2 H2 (e1.trans e2) (RR.from e1.h r2)⟩⟩
 ·cases r1;exact ⟨true,rfl,L3 (wr _ J1 H1 e1 (.bl _))⟩
 ·exact wr.elim⟩
theorem Bo (h:QD X c a ga):QD X c (.UnaryOp .Not a pos) (t8 ga):=have h:=h.h;⟨fC (ME h) λσ H Q ⟨J,env,sr,w⟩=>by
 refine ⟨J,env,sr,aD (aH w) λr wr v J1 H1 e1 r1=>?_⟩;split at wr
 ·cases r1;exact ⟨_,rfl,wr _ J1 H1 e1 (.bl _)⟩
 ·exact wr.elim⟩
end
section
variable {X:Cx}{c:C}{e a b tg:Uo}{es:List Uo}{ga gb g:G R}{pos:Pos}{st:Wm}{rest:List Wm}{t u:G O}{tb:G Bool}
theorem bE:ow X c [] c9:=⟨EO Kf λE σ H ⟨J,env,sr,w⟩=>w σ J H (aS.refl J) sr⟩
theorem ay (h:jo X c st t) (h':ow X c rest u):ow X c (st::rest) (aK t u):=have h:=h.h;have h':=h'.h;⟨EO (G0 h h') λE σ H ⟨J,env,sr,w⟩=>by
 refine ⟨J,env,sr,aD (aH w) λo wo=>?_⟩;cases o with
 | nx e=>exact λσ' J' H' s' sr'=>⟨J',e,sr',aD wo λo q=>q.mono s'⟩
 | rt r=>exact wo
 | bk e=>exact wo
 | ct e=>exact wo⟩
theorem aC (h:jo X c st t):ow X c [st] t:=have h:=h.h;⟨Kg h⟩
theorem gT (h:QD X c e g) (hs:YS e none pos.line X.env=pure false:=by rfl):jo X c (.Expr e pos) (jN g):=have h:=h.h;⟨iH (qF h hs) λE σ H ⟨J,env,sr,w⟩=>
 ⟨J,env,sr,aD (aH w) λr wr v J1 H1 e1 r1=>wr σ J1 H1 e1.j (sr.ext e1)⟩⟩
theorem aO (h:QD X c e g):jo X c (.Return (some e) pos) (bu g):=have h:=h.h;⟨iH (MQ h) λE σ H ⟨J,env,sr,w⟩=>by
 refine ⟨J,env,sr,aD (aH w) λr wr v J1 H1 e1 r1=>?_⟩;cases q:rF r with
 | bad=>rw [q] at wr;exact wr.elim
 | exc x=>cases r with
  | d _=>cases q
  | l m _=>cases m <;> cases q
  | mo _ _=>cases q
  | mb _ _=>cases q
  | mf _ _=>cases q
 | ok r'=>rw [q] at wr;exact wr v J1 H1 e1.j (sr.hp.ext e1) (RR.rf sr.hp r1 q)⟩
theorem bL {x:Uo}{as bs:List Wm}(hx:QB X c x tb) (h:ow X c as t) (h':ow X c bs u):jo X c (.If x as bs pos) (bQ tb t u):=have hx:=hx.h;have h:=h.h;have h':=h'.h;⟨iH (NY hx h h') λE σ H ⟨J,env,sr,w⟩=>by
 refine ⟨J,env,sr,aD (aH w) λk wk J1 H1 e1=>?_⟩;cases k with
 | true=>
  rw [if_pos rfl] at wk ⊢;exact ⟨J1,env,sr.ext e1,aD wk λo q=>q.mono e1.j⟩
 | false=>
  rw [if_neg (by decide)] at wk ⊢;exact ⟨J1,env,sr.ext e1,aD wk λo q=>q.mono e1.j⟩⟩
theorem aP (i:Nat){x:Str}{pos':Pos}(hN:X.N.Nodup) (h:QD X c e g) (hi:X.N[i]?=some x:=by rfl) (hx:Loc X.env.scope x:=by first | exact Yu rfl | exact WV rfl) (hs:YS e (some (.Name x pos')) pos.line X.env=pure false:=by rfl)
  (hf:X.fn x=true\/X.env.scope.names.lookup x=some .local:=by first | exact .inl rfl | exact .inr rfl):jo X c (.Assign [.Name x pos'] e pos) (bh i g):=have h:=h.h;⟨iH (MR hN hi hx h hs hf) λE σ H ⟨J,env,sr,w⟩=>by
 refine ⟨J,env,sr,aD (aH w) λr wr v J1 H1 e1 r1=>?_⟩;obtain ⟨x,q,wr⟩:=vL wr;exact wr (σ.set i (some v)) J1 H1 e1.j (sr.set e1 r1 q)⟩
theorem aA (i:Nat){x:Str}(hN:X.N.Nodup) (hi:X.N[i]?=some x:=by rfl) (hx:Loc X.env.scope x:=by first | exact Yu rfl | exact WV rfl) (hf:X.fn x=true\/X.env.scope.names.lookup x=some .local:=by first | exact .inl rfl | exact .inr rfl):o8 X c (.Name x pos) (az i):=⟨
 Iw (Ka hN hi hx hf) λv σ H Q ⟨J,env,d,sr,rd,w⟩=>w _ (sr.setD (x:=.d d) rd λx z=>by cases x <;> cases z) λj xs q=>by
  rcases gw q with ⟨_,_,e⟩ | ⟨hj,q⟩
  ·cases xs <;> cases e
  ·exact ⟨q,Uz (VG hj)⟩⟩
theorem cB:BH X c [] dc:=⟨EG Kc λvs σ H Q ⟨J,env,ds,sr,rd,w⟩=>by
 cases rd with
 | nil=>exact ⟨rfl,w σ sr KO.refl⟩
 | cons _ _=>exact w.elim⟩
theorem aU {t:GT}{u:sY}(h:o8 X c e t) (h':BH X c es u) (hs:(Wx (e::es) X.env).map (·.2)=assign e X.env::(Wx es X.env).map (·.2):=by rfl):BH X c (e::es) (bx t u):=have h:=h.h;have h':=h'.h;⟨
 EG (GW h h' hs) λvs σ H Q ⟨J,env,ds,sr,rd,w⟩=>by
  cases rd with
  | nil=>exact w.elim
  | cons r rs=>
   refine ⟨_,_,rfl,J,env,_,sr,r,aD (aH w) λe1 w1 σ' sr' ko=>?_⟩;exact ⟨J,e1,_,sr',rs,aD w1 λe2 q σ2 sr2 ko2=>q σ2 sr2 (ko.trans ko2)⟩⟩
theorem cM {k:Nat}{u:sY}{n:Nat}(h:BH X c es u) (hc:X.calm=true:=by rfl) (hK:X.K=c.K:=by rfl) (hn:(Wx es X.env).length=n:=by rfl) (hst:(Wx es X.env).findIdx? (·.1)=none:=by rfl):o8 X c (.Tuple es k pos) (c7 n u):=have h:=h.h;⟨
 Iw (MJ hc h hn hst) λv σ H Q ⟨J,env,d,sr,rd,w⟩=>by
  cases rd with
  | tup h1 h2=>
   unfold c7 at w;simp only at w;split at w
   ·rename_i hl;exact ⟨_,_,rfl,by rw [hK];exact fD sr.hp.sub h1,by rw [<-h2.length];exact hl,J,env,_,sr,h2,w⟩
   ·exact w.elim
  | _=>exact w.elim⟩
theorem bH {S9:Uo}{body:List Wm}{gi:G (List D)}{t:GT}(hi:yx X c tg S9 gi) (ht:o8 X c tg t) (hb:ow X c body u) (hp:ab3 (T5 X.prog X.w) X.A X.env X.xe:=by first | exact ab9 | exact abt) (hc:X.calm=true:=by rfl)
  (hs:∀x,U7 S9 X.env x=pure x:=by intro _;rfl):jo X c (.For tg S9 body [] pos) (cG gi t u):=have hi:=hi.h;have ht:=ht.h;have hb:=hb.h;⟨iH (MP hp hc hi ht hb hs) λE σ H ⟨J,env,sr,w⟩=>by
 refine ⟨J,env,sr,aD (aH w) λds wd It J1 H1 e1 wk=>?_⟩;refine ⟨λi m σ H=>m=ds.length - i/\∃J' env,aS J1 J'/\SR c J' H σ env/\cg (dG t u (ds.drop i) env) (oP c J' E) c.T,
  ⟨ds.length,by simp,J1,env,aS.refl J1,sr.ext e1,by rw [acI];exact aD wd λo q=>q.mono e1.j⟩,?_⟩
 rintro i m σ H ⟨rfl,J',env,s',sr',w'⟩;obtain ⟨w1,w2⟩:=wk i J' H sr'.hp s';by_cases hlt:i < ds.length
 ·obtain ⟨g1,y1⟩:=w2 ds[i] (by simp [hlt]);rw [Ws hlt] at w';refine .inr ⟨g1,λσ2 H2=>∃J2 env2,aS J' J2/\SR c J2 H2 σ2 env2/\cg (dG t u (ds.drop (i + 1)) env2) (oP c J2 E) c.T,?_,?_⟩
  ·rintro σ2 H2 ⟨J2,env2,s2,sr2,w2⟩;exact ⟨ds.length - (i + 1),by omega,rfl,J2,env2,s'.trans s2,sr2,w2⟩
  ·intro x H2 hy;obtain ⟨J2,e2,rx⟩:=y1 x H2 hy;refine ⟨J2,env,ds[i],sr'.ext e2,rx,aD (aH w') λenv3 w3 σ3 sr3 _=>?_⟩;refine ⟨J2,env3,sr3,aD (aH w3) λo wo=>?_⟩;cases o with
   | nx env4=>exact λσ4 J4 H4 s4 sr4=>⟨J4,env4,e2.j.trans s4,sr4,aD wo λo q=>q.mono (e2.j.trans s4)⟩
   | ct env4=>exact λσ4 J4 H4 s4 sr4=>⟨J4,env4,e2.j.trans s4,sr4,aD wo λo q=>q.mono (e2.j.trans s4)⟩
   | bk env4=>exact λσ4 J4 H4 s4 sr4=>wo σ4 J4 H4 (e2.j.trans s4) sr4
   | rt r=>exact λv J4 H4 s4 h4 r4=>wo v J4 H4 (e2.j.trans s4) h4 r4
 ·rw [X6 (by omega)] at w';exact .inl ⟨w1 (by omega),w' σ J' H (aS.refl J') sr'⟩⟩
theorem bg {p:Pos}{gs:G (List R)}(ha:jd X c [a] gs) (hm:X.mg "range"=none) (hg:Gl X "range":=by rfl) (hs:TF [a] X.env=[(false,eval a X.env)]:=by rfl):yx X c tg (.Call (.Name "range" p) [a] [] pos) (bW gs):=have ha:=ha.h;⟨
 nV (EI hg hm ha hs) λσ H Q ⟨J,env,sr,w⟩=>by
  refine ⟨J,env,sr,aD (aH w) λrs wr vs J1 H1 e1 r1=>?_⟩;split at wr
  ·split at wr
   ·rename_i h;obtain ⟨v,rfl,r⟩:=r1.one;cases r;have h:=cH.mp h;exact ⟨_,rfl,abK h.1,h.2,wr _ J1 H1 e1 uO⟩
   ·exact wr.elim
  ·exact wr.elim⟩
theorem rN {p:Pos}{gs:G (List R)}(ha:jd X c [a,b] gs) (hm:X.mg "range"=none) (hg:Gl X "range":=by rfl) (hs:TF [a,b] X.env=[(false,eval a X.env),(false,eval b X.env)]:=by rfl) (hs2:TF [b] X.env=[(false,eval b X.env)]:=by rfl):yx X c tg (.Call (.Name "range" p) [a,b] [] pos) (Cc gs):=have ha:=ha.h;⟨
 nV (EJ hg hm ha hs hs2) λσ H Q ⟨J,env,sr,w⟩=>by
  refine ⟨J,env,sr,aD (aH w) λrs wr vs J1 H1 e1 r1=>?_⟩;split at wr
  ·split at wr
   ·rename_i h;obtain ⟨v,v2,rfl,r,r2⟩:=r1.two;cases r;cases r2;rw [Tt] at h;have h1:=cH.mp h.1;have h2:=cH.mp h.2;exact ⟨_,_,rfl,⟨abK h1.1,h1.2,abK h2.1,h2.2⟩,wr _ J1 H1 e1 uO⟩
   ·exact wr.elim
  ·exact wr.elim⟩
theorem dR {gi:G (List D)}(h:yx X c tg e gi):vV X c tg e gi:=have h:=h.h;⟨nV h λσ H Q ⟨J,env,sr,w⟩=>
 ⟨J,env,sr,aD w λds q It J1 H1 e1 wk=>q It J1 H1 e1 λi J' H' hp u=>wk i J' H' hp u.1⟩⟩
end
section
variable {X:Cx}{c:C}{e a b tg:Uo}{es:List Uo}{ga gb g:G R}{pos:Pos}
theorem cX (i:Nat){x:Str}{p1 p2 pos':Pos}(h:QD X c e g) (hN:X.N[i]?=some x:=by rfl) (hv:qY X.env.scope x:=by first | exact Yu rfl | exact WV (Yu rfl) | exact WV (WV rfl)) (hd:(x == ("__debug__":Str))=false:=by decide)
  (hcd:(x == ("__classdict__":Str))=false:=by decide)
  (hbase:Wg (.Name x p1) "append" X.env (eval (.Name x p1) X.env)=eval (.Name x p1) X.env:=by rfl)
  (hfew:((U_ pos' (TF [e] X.env)).all (λx=>!x.1) && (ab0 pos' (ZC [] X.env)).all (λx=>x.1.isSome)
   && decide (([e]:List Uo).length + ([]:List ZD).length + (if ([]:List ZD).isEmpty then 0 else 1) < 30))=true:=by rfl)
  (hline:(p2.endLine == pos'.line)=true:=by rfl) (hst:TF [e] X.env=(false,eval e X.env)::TF [] X.env:=by rfl) (hplain:(U_ pos' (TF [] X.env)).any (·.1)=false:=by rfl)
  (hs:YS (.Call (.Attribute (.Name x p1) "append" p2) [e] [] pos') none pos.line X.env=pure false:=by rfl):jo X c (.Expr (.Call (.Attribute (.Name x p1) "append" p2) [e] [] pos') pos) (iK i g):=have h:=h.h;⟨
 iH (qF (ye WQ Zq Zr pP (k8 hN hv hd hcd) (dM h gr hst) hbase hfew hline hst hplain) hs) λE σ H ⟨J,env,sr,w⟩=>by
  unfold iK at w;split at w
  ·rename_i xs hi;obtain ⟨v,h1,a,vs,rfl,h2,h3,h4,h5⟩:=sr.at_ i _ hi;refine ⟨.ref a,h1,.inl ⟨rfl,vs,bY.of h2⟩,?_⟩;refine ⟨J,env,sr,aD (aH w) λr wr y J1 H1 e1 r1=>?_⟩;obtain ⟨d,q,wr⟩:=i6 wr;obtain ⟨J2,e2,s2,rd⟩:=freeze e1 r1 q;split at wr
   ·rename_i hz;refine ⟨a,vs,y,rfl,rfl,e2.h _ _ h2,by rw [<-h5.length];exact hz,?_⟩;refine wr σ J2 _ e2.j ?_;exact (sr.ext e2).upd hi h1 (e2.h _ _ h2) (e2.frz a (by rw [h2];intro z;cases z) h3) h4 ((h5.mono e2.j).append (.cons rd .nil))
   ·exact wr.elim
  ·exact w.elim⟩
end
section
variable {X:Cx}{c:C}
theorem bf:o7 X c [] b_:=⟨λS6 s σ H Q I ⟨J,env,sr,w⟩=>wpAny_tests_nil ⟨H,I,w J H (Ext.refl sr.hp.sub)⟩⟩
theorem dJ {g:G Bool}(h:QB X c x g):o7 X c [x] g:=have h:=h.h;⟨λS6 s σ H Q I q=>wpAny_tests_one (h S6 s σ H Q I q)⟩
end
section
variable {K:Tg}{J:Hp}{s:Tj}
variable {X:Cx}{c:C}{e a b tg:Uo}{es:List Uo}{ga gb g:G R}{pos:Pos}
theorem pU (hu:X.A.units + 64 < Vm) (ha:QD X c a ga) (hb:QD X c b gb) (hK:X.K=c.K:=by rfl):QD X c (.Compare a [.Eq] [b] pos) (g2 (cT false) ga gb):=have ha:=ha.h;have hb:=hb.h;⟨pS (Ex hu) (BR false hK) ha hb⟩
theorem gS (hu:X.A.units + 64 < Vm) (ha:QD X c a ga) (hb:QD X c b gb) (hK:X.K=c.K:=by rfl):QB X c (.Compare a [.Eq] [b] pos) (bG (g2 (cT false) ga gb)):=have ha:=ha.h;have hb:=hb.h;⟨jk (Ex hu) (BR false hK) ha hb⟩
theorem m9 (hu:X.A.units + 64 < Vm) (ha:QD X c a ga) (hb:QD X c b gb) (hK:X.K=c.K:=by rfl):QB X c (.Compare a [.NotEq] [b] pos) (bG (g2 (cT true) ga gb)):=have ha:=ha.h;have hb:=hb.h;⟨jk (Mu hu) (BR true hK) ha hb⟩
theorem m_ (hu:X.A.units + 64 < Vm) (ha:QD X c a ga) (hb:QD X c b gb) (hK:X.K=c.K:=by rfl) (hm:UZ .In b=false:=by rfl):QD X c (.Compare a [.In] [b] pos) (g2 (gp false) ga gb):=have ha:=ha.h;have hb:=hb.h;⟨pS (Ey hu) (BS false hK) ha hb hm⟩
theorem MW (hu:X.A.units + 64 < Vm) (ha:QD X c a ga) (hb:QD X c b gb) (hK:X.K=c.K:=by rfl) (hm:UZ .In b=false:=by rfl):QB X c (.Compare a [.In] [b] pos) (bG (g2 (gp false) ga gb)):=have ha:=ha.h;have hb:=hb.h;⟨jk (Ey hu) (BS false hK) ha hb hm⟩
theorem ES (hu:X.A.units + 64 < Vm) (ha:QD X c a ga) (hb:QD X c b gb) (hK:X.K=c.K:=by rfl) (hm:UZ .NotIn b=false:=by rfl):QB X c (.Compare a [.NotIn] [b] pos) (bG (g2 (gp true) ga gb)):=have ha:=ha.h;have hb:=hb.h;⟨jk (EC hu) (BS true hK) ha hb hm⟩
end
section
variable {X:Cx}{c:C}{e a b tg:Uo}{es:List Uo}{ga gb g:G R}{pos:Pos}
theorem gU:AH X c none t7:=⟨Iz Kd λσ H Q ⟨J,env,sr,w⟩=>w J H (Ext.refl sr.hp.sub)⟩
theorem gV (h:QD X c e g):AH X c (some e) (pC g):=have h:=h.h;⟨Iz (Ke h) λσ H Q ⟨J,env,sr,w⟩=>by
 refine ⟨J,env,sr,aD (aH w) λr wr v J1 H1 e1 r1=>?_⟩;split at wr
 ·cases r1;exact ⟨_,rfl,wr J1 H1 e1⟩
 ·exact wr.elim⟩
theorem uz {p:Pos}{gs:G (List R)}(ha:jd X c (e::es) gs) (hm:X.mg "sorted"=none) (hK:X.K=c.K:=by rfl) (hg:Gl X "sorted":=by rfl)
  (he:TF (e::es) X.env=(false,eval e X.env)::TF es X.env:=by rfl) (hpl:(U_ pos (TF es X.env)).any (·.1)=false:=by rfl):QD X c (.Call (.Name "sorted" p) (e::es) [] pos) (gN kM gs):=have ha:=ha.h;⟨
 iL yK (by
  intro He J H xs vs Q hp rs w;unfold kM at w;split at w
  ·obtain ⟨v,rfl,r⟩:=rs.one;obtain ⟨xs,q,w⟩:=iZ w;obtain ⟨p,vs,rfl,h1,h2⟩:=RR.list hp r q;split at w
   ·rename_i ss z;split at w
    ·rename_i hl;have:=uJ z h2;subst this;refine ⟨p,ss,rfl,by rw [hK];exact h1,hl,λss' hp' hs' l hl'=>?_⟩;rw [CM hp' hs'];exact w _ _ _ (Ext.new hp.sub hl' _) (gW hp hl' (wU _))
    ·exact w.elim
   ·exact w.elim
  ·exact w.elim) kU hm ha hg (by decide) (by decide) he hpl⟩
theorem gf (ha:QD X c a ga) (hb:QD X c b gb):QD X c (.BinOp a .Add b pos) (g2 g7 ga gb):=by
 have ha:=ha.h;have hb:=hb.h;refine ⟨?_⟩;have h1:BD c (pV λi j=>.int (i + j)) u_:=f7 λ_ _ _=>.int _;have q:=kD (pos:=pos) (Et.or (ur.or Eu)) (BD.or (c:=c) (λx _=>Ed x) h1 (BD.or (c:=c) (λx _=>LU x) (f:=tV) (f':=tX) (by
  intro He He' J H x y u v Q hp rx ry w;unfold tV at w;split at w
  ·cases rx;cases ry;split at w
   ·rename_i h;exact ⟨_,_,rfl,rfl,h,w _ J H (Ext.refl hp.sub) (.str _)⟩
   ·exact w.elim
  ·exact w.elim) (by
  intro He He' J H x y u v Q hp rx ry w;unfold tX at w;split at w
  ·rename_i hm;rw [Tt] at hm;obtain ⟨p,vs,xs,e1,rfl,h1,s1⟩:=rx.made hm.1;obtain ⟨p2,vs2,ys,e2,rfl,h2,s2⟩:=ry.made hm.2;rw [e1,e2] at w;simp only [aL] at w;split at w
   ·rename_i hz;rw [s1.length,s2.length] at hz;exact ⟨p,p2,vs,vs2,rfl,rfl,h1,h2,hz,λq hq=>w _ J _ (Ext.new hp.sub hq _) (gW hp hq (s1.append s2))⟩
   ·exact w.elim
  ·exact w.elim))) ha hb
 exact q
theorem fY (ha:QD X c a ga) (hb:QD X c b gb):QD X c (.BinOp a .Mult b pos) (g2 iC ga gb):=by
 have ha:=ha.h;have hb:=hb.h;refine ⟨?_⟩;have h1:BD c (rI Bx λi j=>.int (i * j)) LC:=yE (λi j h=>JB h) λ_ _ _=>.int _;exact kD (pos:=pos) (Mt.or JS) (BD.or (c:=c) (λx _=>Ed x) h1 (f':=B9) (by
  intro He He' J H x y u v Q hp rx ry w;unfold B9 at w;split at w
  ·cases rx;cases ry;split at w
   ·rename_i h;exact ⟨_,_,rfl,rfl,h.1,h.2.1,h.2.2,w _ J H (Ext.refl hp.sub) (.str _)⟩
   ·exact w.elim
  ·exact w.elim)) ha hb
theorem aG (ha:QD X c a ga) (hb:QD X c b gb) (hK:X.K=c.K:=by rfl) (hs:qm b:=by exact λ_ _=>rfl):QD X c (.Subscript a b pos) (g2 a_ ga gb):=have ha:=ha.h;have hb:=hb.h;⟨Iu L6 (by
 intro He He' J H x y u v Q hp rx ry w;rw [hK];unfold a_ at w;split at w
 ·cases rx;cases ry;split at w
  ·rename_i h;split at w
   ·rename_i k hk;exact .inr (.inr ⟨_,_,k,rfl,rfl,h,hk,w _ J H (Ext.refl hp.sub) (.str _)⟩)
   ·exact w.elim
  ·exact w.elim
 ·cases ry;obtain ⟨xs,q,w⟩:=jK w;obtain ⟨p,vs,rfl,hl,hs⟩:=mF hp rx q;split at w
  ·rename_i d hd;obtain ⟨z,h1,h2⟩:=KC hs hd;have fin:=w z J H (Ext.refl hp.sub) h2;rcases hl with hl | hl
   ·exact .inl ⟨p,vs,_,z,rfl,rfl,hl,h1,fin⟩
   ·exact .inr (.inl ⟨p,vs,_,z,rfl,rfl,hl,h1,fin⟩)
  ·exact w.elim
 ·exact w.elim) ha hb hs⟩
theorem aT {F:List S->M R}{gs:G (List R)}(G:bz X.prog X.w X.K X.mg X.base k n x F) (hr:cY k' X.A) (ha:jd X c (e::es) gs) (hk:k<=k':=by decide) (hT:c.K=X.K:=by rfl) (hg:Gl X x:=by rfl) (hdb:(x == ("__debug__":Str))=false:=by decide)
 (he:TF (e::es) X.env=(false,eval e X.env)::TF es X.env:=by rfl) (hpl:(U_ pos (TF es X.env)).any (·.1)=false:=by rfl):QD X c (.Call (.Name x p) (e::es) [] pos) (gN (aQ n F) gs):=by have ha:=ha.h;refine ⟨?_⟩;obtain ⟨f,fd,ps,h1,h2,h3,h4⟩:=G;exact JX h1 (hr.mono hk) h2 h3 h4 ha hT hg hdb he hpl
theorem sN (h:QD X c e g) (ht:o8 X c tg t) (hs:Zz [tg] e pos.line X.env=pure false:=by rfl) (hw:aaY [tg] e X.env=pure none:=by rfl)
 (h1:(Wx [tg] X.env).map (·.2)=[assign tg X.env]:=by rfl):jo X c (.Assign [tg] e pos) (sD t g):=have h:=h.h;have ht:=ht.h;⟨JV h ht (EN h ht hs hw h1)⟩
theorem uy {T:String}{Ts:Str}{p p2:Pos}(kit:HM T) (hT:UP Ts=some (.type T)) (mT:X.mg Ts=none)
  (h:QD X c a g) (hm:X.mg "isinstance"=none) (hK:X.K=c.K:=by rfl) (hg:Gl X "isinstance":=by rfl) (Su:Gl X Ts:=by rfl) (hn:Ts≠"__name__":=by decide) (Sn:(Ts == ("__debug__":Str))=false:=by decide)
  (he:TF [a,.Name Ts p2] X.env=(false,eval a X.env)::TF [.Name Ts p2] X.env:=by rfl) (Rn:TF [.Name Ts p2] X.env=(false,eval (.Name Ts p2) X.env)::TF [] X.env:=by rfl)
  (hpl:(U_ pos (TF [.Name Ts p2] X.env)).any (·.1)=false:=by rfl):QD X c (.Call (.Name "isinstance" p) [a,.Name Ts p2] [] pos) (LI T g):=have h:=h.h;⟨
 fC (sL (Am kit) hg hm (by decide +kernel) (dM h (dM (J6 Su mT hT (v:=.ty T) rfl hn Sn) gr Rn) he) (by decide) (by decide) he hpl) λσ H Q ⟨J,env,sr,w⟩=>by
  refine ⟨J,env,sr,aD (aH w) λr wr v J1 H1 e1 r1=>?_⟩;exact ⟨r.dat,v,rfl,by rw [hK];exact r1.dat (sr.hp.ext e1),wr _ J1 H1 e1 (.bl _)⟩⟩
theorem Bk {p:Pos}{gs:G (List R)}(ha:jd X c (e::es) gs) (hm:X.mg "all"=none) (hK:X.K=c.K:=by rfl) (hc:X.calm=true:=by rfl) (hg:Gl X "all":=by rfl)
  (he:TF (e::es) X.env=(false,eval e X.env)::TF es X.env:=by rfl) (hpl:(U_ pos (TF es X.env)).any (·.1)=false:=by rfl):QD X c (.Call (.Name "all" p) (e::es) [] pos) (gN sA gs):=have ha:=ha.h;⟨
 iL (DB hc) (by
  intro He J H xs vs Q hp rs w;unfold sA at w;split at w
  ·obtain ⟨v,rfl,r⟩:=rs.one;obtain ⟨xs,q,w⟩:=iZ w;obtain ⟨p,vs,rfl,h1,h2⟩:=RR.list hp r q;split at w
   ·rename_i ks z;have:=o_ z h2;subst this;exact ⟨p,ks,rfl,by rw [hK];exact h1,w _ J H (Ext.refl hp.sub) (.bl _)⟩
   ·exact w.elim
  ·exact w.elim) Du hm ha hg (by decide) (by decide) he hpl⟩
theorem Kv {p:Pos}{gs:G (List R)}(ha:jd X c (e::es) gs) (hm:X.mg "max"=none) (hc:X.calm=true:=by rfl) (hg:Gl X "max":=by rfl)
  (he:TF (e::es) X.env=(false,eval e X.env)::TF es X.env:=by rfl) (hpl:(U_ pos (TF es X.env)).any (·.1)=false:=by rfl):QD X c (.Call (.Name "max" p) (e::es) [] pos) (gN B8 gs):=have ha:=ha.h;⟨
 iL (DF hc) (by
  intro He J H xs vs Q hp rs w;unfold B8 at w;split at w
  ·obtain ⟨v,v',rfl,r,r'⟩:=rs.two;cases r;cases r';exact ⟨_,_,rfl,w _ J H (Ext.refl hp.sub) (.int _)⟩
  ·exact w.elim) (by decide +kernel) hm ha hg (by decide) (by decide) he hpl⟩
theorem dS (ha:QD X c a ga) (hb:QD X c b gb) (hK:X.K=c.K:=by rfl):QD X c (.BinOp a .Add b pos) (g2 dX ga gb):=by
 have ha:=ha.h;have hb:=hb.h;refine ⟨?_⟩;have h1:BD c (pV λi j=>.int (i + j)) u_:=f7 λ_ _ _=>.int _;exact kD (pos:=pos) (Ew.or (Et.or (ur.or Eu))) (BD.or (c:=c) (λx _=>LV x) (Ja hK) (BD.or (c:=c) (λx _=>Ed x) h1 (BD.or (c:=c) (λx _=>LU x) (f:=tV) (f':=tX) (by
  intro He He' J H x y u v Q hp rx ry w;unfold tV at w;split at w
  ·cases rx;cases ry;split at w
   ·rename_i h;exact ⟨_,_,rfl,rfl,h,w _ J H (Ext.refl hp.sub) (.str _)⟩
   ·exact w.elim
  ·exact w.elim) (by
  intro He He' J H x y u v Q hp rx ry w;unfold tX at w;split at w
  ·rename_i hm;rw [Tt] at hm;obtain ⟨p,vs,xs,e1,rfl,h1,s1⟩:=rx.made hm.1;obtain ⟨p2,vs2,ys,e2,rfl,h2,s2⟩:=ry.made hm.2;rw [e1,e2] at w;simp only [aL] at w;split at w
   ·rename_i hz;rw [s1.length,s2.length] at hz;exact ⟨p,p2,vs,vs2,rfl,rfl,h1,h2,hz,λq hq=>w _ J _ (Ext.new hp.sub hq _) (gW hp hq (s1.append s2))⟩
   ·exact w.elim
  ·exact w.elim)))) ha hb
theorem Bp {lo hi:Option Uo}{gl gh:GO}{p2:Pos}(h:QD X c e g) (hl:AH X c lo gl) (hh:AH X c hi gh) (hK:X.K=c.K:=by rfl):QD X c (.Subscript e (.Slice lo hi none p2) pos) (mP yW g gl gh):=have h:=h.h;have hl:=hl.h;have hh:=hh.h;⟨Iv (E9.or KJ) (by
 intro He J H x v l u Q hp rx w;unfold yW at w;split at w
 ·exact .inl (Pe hK He J H x v l u Q hp rx w)
 ·obtain ⟨xs,q,w⟩:=iZ w;obtain ⟨p,vs,rfl,h1,h2⟩:=rx.list hp q;exact .inr ⟨p,vs,rfl,by rw [hK];exact h1,λp' hp'=>w _ _ _ (Ext.new hp.sub hp' _) (gW hp hp' (h2.cut l u))⟩) h hl hh⟩
theorem lV (h:BB X.K X.mg x d) (hK:X.K=c.K:=by rfl) (hg:Gl X x:=by rfl) (hd:(x == ("__debug__":Str))=false:=by decide):QD X c (.Name x pos) (gC d):=by refine ⟨?_⟩;obtain ⟨u,v,h1,h2,h3⟩:=h;exact JY h1 h2 (λJ=>hK▸h3 J) hg hd
end
section
variable {X:Cx}{c:C}{e a b tg:Uo}{es:List Uo}{ga gb g:G R}{pos:Pos}{st:Wm}{t u:G O}{tb:G Bool}
theorem nY:jo X c st x6:=⟨λS6 s σ H D I ⟨J,env,sr,w⟩=>w.elim⟩
theorem Kw (h:QD X c a g):QD X c (.UnaryOp .USub a pos) (F9 g):=have h:=h.h;⟨fC (NX Nl h) λσ H Q ⟨J,env,sr,w⟩=>by
 refine ⟨J,env,sr,aD (aH w) λr wr v J1 H1 e1 r1=>?_⟩;split at wr
 ·cases r1;exact ⟨_,rfl,wr _ J1 H1 e1 (.int _)⟩
 ·exact wr.elim⟩
theorem vC (h:QD X c e g) (hK:X.K=c.K:=by rfl) (he:∀whole,aaH e X.env whole=(do let v <-whole;W6 e.pos;holding [v] (truthy v)):=by intro _;rfl):QB X c e (vd g):=have h:=h.h;⟨yg (G1 h he) λσ H Q ⟨J,env,sr,w⟩=>by
 refine ⟨J,env,sr,aD (aH w) λr wr v J1 H1 e1 r1=>?_⟩;rw [hK];obtain ⟨k,k1,k2⟩:=KW (sr.hp.ext e1) r1 wr;exact ⟨k,k1,k2 J1 H1 e1⟩⟩
theorem CC (n:Nat){body:List Wm}(ht:QB X c e tb) (hb:ow X c body u) (hp:ab3 (T5 X.prog X.w) X.A X.env X.xe:=by first | exact ab9 | exact abt):jo X c (.While e body [] pos) (t_ n tb u):=have ht:=ht.h;have hb:=hb.h;⟨iH (GZ hp ht hb) λE σ H ⟨J,env,sr,w⟩=>by
 refine ⟨λm σ H=>∃J' env,aS J J'/\SR c J' H σ env/\cg (lE tb u m env) (oP c J' E) c.T,⟨n,J,env,aS.refl J,sr,w⟩,?_⟩;rintro m σ H ⟨J',env,s',sr',w'⟩;cases m with
 | zero=>exact w'.elim
 | succ m=>
  refine ⟨J',env,sr',aD (aH w') λk wk J1 H1 e1=>?_⟩;cases k with
  | false=>
   rw [if_neg (by decide)] at wk ⊢;exact wk σ J1 H1 e1.j (sr'.ext e1)
  | true=>
   rw [if_pos rfl] at wk ⊢;refine ⟨λσ2 H2=>∃J2 env2,aS J1 J2/\SR c J2 H2 σ2 env2/\cg (lE tb u m env2) (oP c J2 E) c.T,?_,?_⟩
   ·rintro σ2 H2 ⟨J2,env2,s2,sr2,w2⟩;exact ⟨m,Vv m,J2,env2,(s'.trans e1.j).trans s2,sr2,w2⟩
   ·refine ⟨J1,env,sr'.ext e1,aD (aH wk) λo wo=>?_⟩;cases o with
    | nx env4=>exact λσ4 J4 H4 s4 sr4=>⟨J4,env4,s4,sr4,aD wo λo q=>q.mono (e1.j.trans s4)⟩
    | ct env4=>exact λσ4 J4 H4 s4 sr4=>⟨J4,env4,s4,sr4,aD wo λo q=>q.mono (e1.j.trans s4)⟩
    | bk env4=>exact λσ4 J4 H4 s4 sr4=>wo σ4 J4 H4 (e1.j.trans s4) sr4
    | rt r=>exact λv J4 H4 s4 h4 r4=>wo v J4 H4 (e1.j.trans s4) h4 r4⟩
theorem As (i j:Nat){x y:Str}{p1 p2 pos' q1 q2 q3:Pos}(h:QD X c e g) (hi:X.N[i]?=some x:=by rfl) (SK:qY X.env.scope x:=by first | exact Yu rfl | exact WV (Yu rfl) | exact WV (WV rfl)) (hdx:(x == ("__debug__":Str))=false:=by decide) (Sk:(x == ("__classdict__":Str))=false:=by decide)
  (hj:X.N[j]?=some y:=by rfl) (SM:qY X.env.scope y:=by first | exact Yu rfl | exact WV (Yu rfl) | exact WV (WV rfl)) (RC:(y == ("__debug__":Str))=false:=by decide) (Sl:(y == ("__classdict__":Str))=false:=by decide)
  (hbase:Wg (.Name x p1) "append" X.env (eval (.Name x p1) X.env)=eval (.Name x p1) X.env:=by rfl)
  (hfew:((U_ pos' (TF [.Call (.Attribute (.Name y q1) "pop" q2) [e] [] q3] X.env)).all (λx=>!x.1) && (ab0 pos' (ZC [] X.env)).all (λx=>x.1.isSome)
   && decide (([.Call (.Attribute (.Name y q1) "pop" q2) [e] [] q3]:List Uo).length + ([]:List ZD).length + (if ([]:List ZD).isEmpty then 0 else 1) < 30))=true:=by rfl)
  (hline:(p2.endLine == pos'.line)=true:=by rfl)
  (hst:TF [.Call (.Attribute (.Name y q1) "pop" q2) [e] [] q3] X.env=(false,eval (.Call (.Attribute (.Name y q1) "pop" q2) [e] [] q3) X.env)::TF [] X.env:=by rfl) (hplain:(U_ pos' (TF [] X.env)).any (·.1)=false:=by rfl)
  (Rg:Wg (.Name y q1) "pop" X.env (eval (.Name y q1) X.env)=eval (.Name y q1) X.env:=by rfl)
  (Ro:((U_ q3 (TF [e] X.env)).all (λx=>!x.1) && (ab0 q3 (ZC [] X.env)).all (λx=>x.1.isSome)
   && decide (([e]:List Uo).length + ([]:List ZD).length + (if ([]:List ZD).isEmpty then 0 else 1) < 30))=true:=by rfl)
  (Ri:(q2.endLine == q3.line)=true:=by rfl) (Rr:TF [e] X.env=(false,eval e X.env)::TF [] X.env:=by rfl) (Q9:(U_ q3 (TF [] X.env)).any (·.1)=false:=by rfl)
  (hs:YS (.Call (.Attribute (.Name x p1) "append" p2) [.Call (.Attribute (.Name y q1) "pop" q2) [e] [] q3] [] pos') none pos.line X.env=pure false:=by rfl):jo X c (.Expr (.Call (.Attribute (.Name x p1) "append" p2) [.Call (.Attribute (.Name y q1) "pop" q2) [e] [] q3] [] pos') pos) (mO i j g):=have h:=h.h;⟨
 iH (qF (ye WQ Zq Zr pP (k8 hi SK hdx Sk) (dM (ye WQ PySem.F.slot_list_pop PySem.F.type_list_pop Gz (k8 hj SM RC Sl) (dM h gr Rr) Rg Ro Ri Rr Q9) gr hst) hbase hfew hline hst hplain) hs) λE σ H ⟨J,env,sr,w⟩=>by
  unfold mO at w;split at w
  ·rename_i zs xs RI RK;split at w
   ·exact w.elim
   ·rename_i hij;obtain ⟨_,k1,p,us,rfl,k2,k3,k4,k5⟩:=sr.at_ i _ RI;obtain ⟨_,l1,q,vs,rfl,l2,l3,l4,l5⟩:=sr.at_ j _ RK;refine ⟨.ref p,k1,.inl ⟨rfl,us,bY.of k2⟩,?_⟩;refine ⟨.ref q,l1,.inl ⟨rfl,vs,bY.of l2⟩,?_⟩;refine ⟨J,env,sr,aD (aH w) λr wr v J1 H1 e1 r1=>?_⟩;split at wr
    ·rename_i k;cases r1;split at wr
     ·rename_i hk;split at wr
      ·rename_i d hd;obtain ⟨z,hz,rz⟩:=l5.get hd;have m2:=e1.h _ _ l2;have n2:=e1.h _ _ k2;have hpq:q≠p:=λzz=>MA sr hij RI RK k1 l1 zz.symm;refine ⟨q,vs,k,k.toNat,z,rfl,rfl,m2,by omega,?_,Ob hk.1 (by rw [<-l5.length];exact hk.2.1),hz,?_⟩
       ·have z1:=hk.2.1;have z2:=hk.2.2.2;have z3:sizeLine=16777216:=UH;omega
       ·refine ⟨p,us,z,rfl,rfl,by rw [bA (VG hpq)];exact n2,by rw [<-k5.length];exact hk.2.2.1,?_⟩;have sr1:=sr.ext e1;have J1p:J1 p=none:=e1.frz p (by rw [k2];intro z;cases z) k3;have J1q:J1 q=none:=e1.frz q (by rw [l2];intro z;cases z) l3;have sr2:=sr1.upd (xs':=xs.eraseIdx k.toNat) (vs':=vs.eraseIdx k.toNat) RK l1 m2 J1q l4 ((l5.mono e1.j).eraseIdx _);have RJ:(env.set j (some (.own (xs.eraseIdx k.toNat))))[i]?=some (some (.own zs)):=by rw [Uz (VG hij)];exact RI
        have sr3:=sr2.upd (xs':=zs++[d]) (vs':=us++[z]) RJ k1 (by rw [bA (VG hpq)];exact n2) J1p k4 ((k5.mono e1.j).append (.cons (rz.mono e1.j) .nil));exact wr σ J1 _ e1.j sr3
      ·exact wr.elim
     ·exact wr.elim
    ·exact wr.elim
  ·exact w.elim⟩
end
section
variable {X:Cx}{c:C}{e a b tg:Uo}{es:List Uo}{ga gb g:G R}{pos:Pos}
theorem Au (i:Nat){x:Str}{p1 p2 pos':Pos}(h:QD X c e g) (hN:X.N[i]?=some x:=by rfl) (hv:qY X.env.scope x:=by first | exact Yu rfl | exact WV (Yu rfl) | exact WV (WV rfl)) (hd:(x == ("__debug__":Str))=false:=by decide)
  (hcd:(x == ("__classdict__":Str))=false:=by decide)
  (hbase:Wg (.Name x p1) "extend" X.env (eval (.Name x p1) X.env)=eval (.Name x p1) X.env:=by rfl)
  (hfew:((U_ pos' (TF [e] X.env)).all (λx=>!x.1) && (ab0 pos' (ZC [] X.env)).all (λx=>x.1.isSome)
   && decide (([e]:List Uo).length + ([]:List ZD).length + (if ([]:List ZD).isEmpty then 0 else 1) < 30))=true:=by rfl)
  (hline:(p2.endLine == pos'.line)=true:=by rfl) (hst:TF [e] X.env=(false,eval e X.env)::TF [] X.env:=by rfl) (hplain:(U_ pos' (TF [] X.env)).any (·.1)=false:=by rfl)
  (hs:YS (.Call (.Attribute (.Name x p1) "extend" p2) [e] [] pos') none pos.line X.env=pure false:=by rfl) (hK:X.K=c.K:=by rfl):jo X c (.Expr (.Call (.Attribute (.Name x p1) "extend" p2) [e] [] pos') pos) (za i g):=have h:=h.h;⟨
 iH (qF (ye WQ PySem.F.slot_list_extend PySem.F.type_list_extend Ml (k8 hN hv hd hcd) (dM h gr hst) hbase hfew hline hst hplain) hs) λE σ H ⟨J,env,sr,w⟩=>by
  unfold za at w;split at w
  ·rename_i xs hi;obtain ⟨v,h1,a,vs,rfl,h2,h3,h4,h5⟩:=sr.at_ i _ hi;refine ⟨.ref a,h1,.inl ⟨rfl,vs,bY.of h2⟩,?_⟩;refine ⟨J,env,sr,aD (aH w) λr wr y J1 H1 e1 r1=>?_⟩;obtain ⟨ys,q,wr⟩:=jK wr;split at wr
   ·rename_i hz;obtain ⟨p,ws,rfl,hq,hs⟩:=mF (sr.hp.ext e1) r1 q;refine ⟨a,p,vs,ws,rfl,rfl,e1.h _ _ h2,by rw [hK];exact hq,by rw [<-h5.length,<-hs.length];exact hz,?_⟩;refine wr σ J1 _ e1.j ?_;exact (sr.ext e1).upd hi h1 (e1.h _ _ h2) (e1.frz a (by rw [h2];intro z;cases z) h3) h4 ((h5.mono e1.j).append hs)
   ·exact wr.elim
  ·exact w.elim⟩
theorem EV (ha:QD X c a ga) (hb:QD X c b gb):QD X c (.Compare a [.Is] [b] pos) (g2 (kW false) ga gb):=have ha:=ha.h;have hb:=hb.h;⟨pS EA (by
 intro He He' J H x y u v Q hp rx ry w;unfold kW at w;split at w
 ·rename_i o ho;refine ⟨o,by rw [kO ry];exact ho,?_⟩;rw [kO rx];exact w _ J H (Ext.refl hp.sub) (.bl _)
 ·exact w.elim) ha hb⟩
theorem zH (ha:QD X c a ga) (hb:QD X c b gb):QB X c (.Compare a [.Is] [b] pos) (bG (g2 (kW false) ga gb)):=have ha:=ha.h;have hb:=hb.h;⟨jk EA (by
 intro He He' J H x y u v Q hp rx ry w;unfold kW at w;split at w
 ·rename_i o ho;refine ⟨o,by rw [kO ry];exact ho,?_⟩;rw [kO rx];exact w _ J H (Ext.refl hp.sub) (.bl _)
 ·exact w.elim) ha hb⟩
theorem ER (ha:QD X c a ga) (hb:QD X c b gb):QB X c (.Compare a [.IsNot] [b] pos) (bG (g2 (kW true) ga gb)):=have ha:=ha.h;have hb:=hb.h;⟨jk EB (by
 intro He He' J H x y u v Q hp rx ry w;unfold kW at w;split at w
 ·rename_i o ho;refine ⟨o,by rw [kO ry];exact ho,?_⟩;rw [kO rx];exact w _ J H (Ext.refl hp.sub) (.bl _)
 ·exact w.elim) ha hb⟩
end
section
variable {prog:TU}{w:Uk}{A:Um}{E:Ti->Tj->Prop}{s:Tj}{l:T3}{us:Array Ti}{ns:List Int}
variable {X:Cx}{c:C}{e a b tg i:Uo}{es:List Uo}{ga gb g:G R}{pos:Pos}
theorem G6 {d:Int}{j:Nat}{p kp vp:Pos}(ha:QD X c e g) (hm:X.mg "max"=none) (hK:X.K=c.K:=by rfl) (hc:X.calm=true:=by rfl) (hg:Gl X "max":=by rfl)
  (he:U_ pos (TF [e] X.env)=(false,eval e X.env)::U_ pos (TF [] X.env):=by rfl) (hst:TF [e] X.env=(false,eval e X.env)::TF [] X.env:=by rfl)
  (hplain:(U_ pos (TF [e] X.env)).any (·.1)=false:=by rfl):QD X c (.Call (.Name "max" p) [e] [⟨some "default",.Constant (.int d) j vp,kp⟩] pos) (Ie d g):=by
 have ha:=ha.h;refine ⟨?_⟩;intro S6 s σ H Q I ⟨J,env,sr,w⟩;refine Wf (jS I hg hm adD ?_ (by decide) (by decide));refine Zs (bI ((dM ha gr hst) pos S6 s σ H (λvs H1=>∃p ns J1,vs=[.ref p]/\bY X.K H1 p (ns.map V.int)/\Ext J H J1 H1/\∀v J' H',Ext J H J' H'->RR c H J' H' (.d (.int (pO d ns))) v->Q v H') I ⟨J,env,sr,aD (aH w) λr wr v J1 H1 e1 r1=>?_⟩) λus s1 ⟨vs,H1,I1,rv,p,ns,J1,hvs,hq,e1,q⟩=>?_) he hplain rfl rfl
 ·obtain ⟨xs,hx,wr⟩:=iZ wr;obtain ⟨p,ws,rfl,hl,hs⟩:=RR.list (sr.hp.ext e1) r1 hx;split at wr
  ·rename_i ns hns;have:=ku hns hs;subst this;exact ⟨p,ns,J1,rfl,by rw [hK];exact hl,e1,wr⟩
  ·exact wr.elim
 ·subst hvs;obtain ⟨u,rfl,ru⟩:=rv.one;cases ru;refine aae (bI (EF S6 s1 σ H1 (λv H2=>v=.int d/\H2=H1) I1 ⟨rfl,rfl⟩) λdv s2 ⟨v2,H2,I2,r2,hv2,Sd⟩=>aaB ?_);subst hv2 Sd;obtain ⟨td,rfl⟩:=r2;obtain ⟨S7,r',pl,hz⟩:=I2.list hq;have hlen:=r'.length;rw [Tp] at hlen;show TX _ _ (call (.builtin "max") [.ref p] [("default",.int d td)]) _ _ s2;refine DG (I2.ok.hd hc) pl.isList (K0 r') (by simp [hlen]) λt' h' tk k=>?_;exact ⟨.int _,H2,I2.kept k,⟨t',rfl⟩,q _ J1 H2 e1 (.int _)⟩
end
section
variable {X:Cx}{c:C}{e a b d tg:Uo}{es:List Uo}{ga gb g:G R}{pos:Pos}
theorem cL (h:QD X c e g) (hK:X.K=c.K:=by rfl):yx X c tg e (fM g):=have h:=h.h;⟨nV (EH h) λσ H Q ⟨J,env,sr,w⟩=>by
 refine ⟨J,env,sr,aD (aH w) λr wr v J1 H1 e1 r1=>?_⟩;rw [hK];split at wr
 ·cases r1 with
  | tup h1 h2=>exact ⟨_,rfl,.inr ⟨⟨_,fD e1.sub h1⟩,wr _ J1 H1 e1 (xy (λJ H u=>u) h1 h2)⟩⟩
 ·cases r1 with
  | lst h1 h2=>exact ⟨_,rfl,.inl ⟨⟨_,e1.sub.seq h1⟩,wr _ J1 H1 e1 (qd (.inl h1) h2)⟩⟩
 ·obtain ⟨J2,e2,s2,rd⟩:=freeze e1 r1 rfl;cases rd with
  | lst h1 h2=>exact ⟨_,rfl,.inl ⟨⟨_,e2.sub.seq h1⟩,wr _ J2 H1 e2 (qd (.inl h1) h2)⟩⟩
 ·obtain ⟨a,vs,rfl,h1,h2⟩:=r1;exact ⟨_,rfl,.inl ⟨⟨_,(sr.hp.ext e1).ent.seq h1⟩,wr _ J1 H1 e1 (qd (.inr h1) h2)⟩⟩
 ·exact wr.elim⟩
theorem cD (h:QD X c e g) (hK:X.K=c.K:=by rfl):vV X c tg e (fq g):=have h:=h.h;⟨nV (EH h) λσ H Q ⟨J,env,sr,w⟩=>by
 refine ⟨J,env,sr,aD (aH w) λr wr v J1 H1 e1 r1=>?_⟩;rw [hK];have lst:∀{xs:List D},iU r=.ok xs->(∀It J1' H1',Ext J H J1' H1'->Walk c It xs J1' (λJ' H'=>aS J1' J'/\aS H1' H')->Q It H1')->∃a,v=.ref a/\(((∃xs,bY c.K H1 a xs)/\Q (HJ c.K a) H1)\/((∃xs,cZ c.K H1 a xs)/\Q (HL c.K a) H1)):=fun {xs} q wr=>by obtain ⟨a,vs,rfl,h1,h2⟩:=RR.list (sr.hp.ext e1) r1 q;refine ⟨a,rfl,.inl ⟨⟨_,h1⟩,wr _ J1 H1 e1 λi J' H' hp u=>?_⟩⟩;have h':=u.2.seq h1;refine ⟨λhl=>⟨vs,h',by rw [<-h2.length];exact hl⟩,λd hd=>?_⟩;obtain ⟨v,k1,k2⟩:=h2.get hd;refine ⟨⟨vs,v,h',k1⟩,λx H2 ⟨e,hy⟩=>?_⟩;subst e;have:=hy vs h';rw [k1] at this;cases this;exact ⟨J',Ext.refl hp.sub,k2.mono u.1⟩
 cases r with
 | d y=>
  cases y with
  | tup xs=>
   cases r1 with
   | tup h1 h2=>exact ⟨_,rfl,.inr ⟨⟨_,fD e1.sub h1⟩,wr _ J1 H1 e1 (xy (λJ H u=>u.1) h1 h2)⟩⟩
  | lst xs=>exact lst rfl wr
  | _=>exact wr.elim
 | l m xs=>exact lst rfl wr
 | mo _ _=>exact wr.elim
 | mb _ _=>exact wr.elim
 | mf _ _=>exact wr.elim⟩
end
section
variable {X:Cx}{c:C}{st:Wm}{g:G O}
theorem k9 (i:Nat) (h:jo X c st g):jo X c st (jg i g):=have h:=h.h;⟨λS6 s σ H D I ⟨J,env,sr,w⟩=>by
 unfold jg at w;split at w
 ·rename_i xs hi;obtain ⟨v,h1,a,vs,rfl,h2,h3,h4,h5⟩:=sr.at_ i _ hi;obtain ⟨J',s1,sr'⟩:=sr.frz (x:=.inl xs) hi h1 h2 h3 h4 (.lst (.inl (.inl b9)) (h5.mono (cO h3 _)));exact h S6 s σ H D I ⟨J',_,sr',aD w λo q=>q.mono s1⟩
 ·rename_i ks vs hi;obtain ⟨v,h1,a,rfl,⟨us,ws,ep,h2,m1,m2,m3,m4⟩,h3,h4⟩:=sr.at_ i _ hi;obtain ⟨J',s1,sr'⟩:=sr.frz (x:=.inr (ks,vs)) hi h1 h2 h3 h4 (.dct b9 (m1.mono (cO h3 _)) (m2.mono (cO h3 _)) m3 m4);exact h S6 s σ H D I ⟨J',_,sr',aD w λo q=>q.mono s1⟩
 ·exact h S6 s σ H D I ⟨J,env,sr,w⟩⟩
end
section
variable {X:Cx}{c:C}
theorem Km {P:TU}{w:Uk}{K:Tg}{mg:Str->Option Ti}{base:Vd}{x S_:Str}{st:Wm}{f:T3}{fd:Ud}{N ps:List Str}{k:Nat}{Fm:List S->M R}(F:oj K x S_ st f fd) (hm:mg x=some (.ref f)) (Sc:fG N ps (aY st))
  (hbi:∀(kV doc pm:Ti) (an:Option T3) (cdv ct:Ti) (us:List Ti),us.length=ps.length->aau (UE x S_ (cP st) (bU st) (aY st) .none kV doc pm an cdv ct) ⟨us,[]⟩=pure (ps.zip us)){gB:G O}
  (hb:∀(cdv:Ti) (A:Um) (outer:List Env) (s:Tj) (H:Hp) (E:XK) (J:Hp) (T:Exc->Prop),cY k (A.deeper (Ze S_ (aY st) s.heap.objs.size f cdv))->
   ow (DU P w K mg base N S_ (aY st) f cdv A outer s H E) ⟨K,H,J,T⟩ (bU st) gB)
  (hF:∀as r,as.length=ps.length->Fm as=.ok r->fin (gB (aV N as))=.ok r):bz P w K mg base (k + 1) ps.length x Fm:=
 Lq F hm Sc hbi (λcdv A outer s H E J T hr=>(hb cdv A outer s H E J T hr).h) hF
theorem Kn {P:TU}{w:Uk}{K:Tg}{mg:Str->Option Ti}{base:Vd}{x S_:Str}{st:Wm}{f:T3}{fd:Ud}{N ps:List Str}{k:Nat}{Fm:List S->M R}(F:oj K x S_ st f fd) (Sc:fG N ps (aY st)){gB:G O}
  (hb:∀(cdv:Ti) (A:Um) (outer:List Env) (s:Tj) (H:Hp) (E:XK) (J:Hp) (T:Exc->Prop),cY k (A.deeper (Ze S_ (aY st) s.heap.objs.size f cdv))->
   ow (DU P w K mg base N S_ (aY st) f cdv A outer s H E) ⟨K,H,J,T⟩ (bU st) gB)
  (hF:∀as r,as.length=ps.length->Fm as=.ok r->fin (gB (aV N as))=.ok r):fF P w K mg base oh (k + 1) f fd ps (p7 K ps.length Fm):=
 DZ F Sc (λcdv A outer s H E J T hr=>(hb cdv A outer s H E J T hr).h) hF
end
end DL
namespace K01
open PySem DL
def vQ:List Str:=["thing"]
def wB:G O:=(bu (xY (LI "int" (af 0)) (t8 (LI "bool" (af 0)))))
def oR (as:List S):M R:=fin (wB (aV vQ as))
theorem fu (h:n<=1000):n<=sizeLine:=T6 h (by decide)
theorem uW (f:D->Bool):∀(ds:List D),iF (ds.map λd=>.bl (f d))=some (ds.map f)
 | []=>rfl
 | d::r=>by simp only [TV,iF,uW f r];rfl
theorem all_map (f:D->Bool) (ds:List D):sA [.l .fresh (ds.map λd=>.bl (f d))]=.ok (.d (.bl (ds.all f))):=by unfold sA;simp only [iU,aL,uW];congr 3;simp [Zf]
theorem qp {α:Type}{xs:List α}{k:Nat}{x:α}(h:xs[k]?=some x):L2.lM xs (k:Int)=some x:=by have hk:k < xs.length:=(T7.mp h).1;unfold L2.lM L2.zh;rw [if_pos (by omega),if_pos (by omega)];simpa using h
theorem qy {xs:List D}{k:Nat}{x:D}(h:xs[k]?=some x):a_ (.d (.tup xs)) (.d (.int k))=.ok (.d x):=by unfold a_;simp only [g9,aL,qp h]
theorem eZ {m:Md}{xs:List D}{k:Nat}{x:D}(h:xs[k]?=some x):a_ (.l m xs) (.d (.int k))=.ok (.d x):=by unfold a_;simp only [g9,aL,qp h]
theorem AW {z:Str}{k:Nat}{c:Nat}(hz:z.length<=1000) (h:z.cps.toList[k]?=some c):a_ (.d (.str z)) (.d (.int k))=.ok (.d (.str ⟨#[c]⟩)):=by unfold a_;simp only [fu hz,if_true,qp h]
theorem A8 (xs:List D):fL [.d (.tup xs)]=.ok (.d (.int xs.length)):=rfl
theorem eq_int (neg:Bool) (i j:Int):cT neg (.d (.int i)) (.d (.int j))=.ok (.d (.bl (if neg then !(i == j) else i == j))):=rfl
theorem ji (a:D) (r:List D):a_ (.d (.tup (a::r))) (.d (.int 0))=.ok (.d a):=qy (k:=0) rfl
theorem Eg (a b:D) (r:List D):a_ (.d (.tup (a::b::r))) (.d (.int 1))=.ok (.d b):=qy (k:=1) rfl
theorem L4 (a b c:D) (r:List D):a_ (.d (.tup (a::b::c::r))) (.d (.int 2))=.ok (.d c):=qy (k:=2) rfl
theorem O9 (n:Nat) (h:n<=1000):below 4611686018427387904 (n:Int)=true:=cH.mpr ⟨by omega,by omega⟩
def IB (j:Int):M (List D):=if below 4611686018427387904 j then .ok (fz 0 j.toNat) else .bad
theorem M5 (j:Int) (h:below 4611686018427387904 j=true):IB j=.ok (fz 0 j.toNat):=by unfold IB;exact if_pos h
theorem M4 {gs:G (List R)}(hg:gs env=.ok [.d (.int j)]):bW gs env=IB j:=by unfold bW IB;rw [hg];rfl
theorem lg {gs:G (List R)}{env:Ev}{n:Nat}(hg:gs env=.ok [.d (.int (n:Int))]) (h:n<=1000):bW gs env=.ok (fz 0 n):=by rw [M4 hg,M5 _ (O9 n h)];exact congrArg (λk=>M.ok (fz 0 k)) (U8 n)
theorem LD {g:G (List D)}{u:G O}(h:g env=.ok ds):cG g t u env=dG t u ds env:=by unfold cG;rw [h];rfl
theorem lC (i j:Int):g7 (.d (.int i)) (.d (.int j))=.ok (.d (.int (i + j))):=rfl
theorem IJ (i j:Int):yZ (.d (.int i)) (.d (.int j))=.ok (.d (.int (i - j))):=rfl
theorem xX {C:Int->Int->Bool}{f:Int->Int->D}(h:C i j=true):fI C f (.d (.int i)) (.d (.int j))=.ok (.d (f i j)):=by show (if C i j=true then M.ok (R.d (f i j)) else M.bad)=_;rw [if_pos h]
theorem iY (i j:Int) (h1:-(2 ^ 64) < j) (h2:j < 2 ^ 64):iC (.d (.int i)) (.d (.int j))=.ok (.d (.int (i * j))):=xX (C:=zj) (f:=λi j=>.int (i * j)) (by unfold zj;rw [WC];exact WV (cH.mpr ⟨h1,h2⟩))
theorem iI (i j:Int) (h1:0 < j) (h2:j < 1073741824):ie (.d (.int i)) (.d (.int j))=.ok (.d (.int (i / j))):=xX (by
 unfold Cj;rw [Tt];exact ⟨decide_eq_true h1,cH.mpr ⟨by omega,h2⟩⟩)
theorem dO (i j:Int) (h1:0 < j):dQ (.d (.int i)) (.d (.int j))=.ok (.d (.int (i % j))):=xX (decide_eq_true h1)
theorem Ol (x y:Str) (h:x.length + y.length<=1000):g7 (.d (.str x)) (.d (.str y))=.ok (.d (.str (x++y))):=by show (if x.length + y.length<=sizeLine then M.ok (R.d (D.str (x++y))) else M.bad)=_;rw [if_pos (fu h)]
def Li:Str:="abcdefghijklmnopqrstuvwxyz"
theorem Lj:∀k:Fin 26,Li.cps.toList[k.val]?=some (97 + k.val):=by decide +kernel
theorem IW:Li.length<=1000:=by decide +kernel
theorem Eh (i:Int) (h0:0<=i) (h:i < 26):a_ (.d (.str "abcdefghijklmnopqrstuvwxyz")) (.d (.int i))=.ok (.d (.str ⟨#[97 + i.toNat]⟩)):=by
 have e:i=((i.toNat:Nat):Int):=by omega
 have:=AW (z:=Li) (k:=i.toNat) IW (Lj ⟨i.toNat,by omega⟩);rw [e];exact this
theorem kJ (x y:Str):(x++y).cps.toList=x.cps.toList++y.cps.toList:=by show (x.cps++y.cps).toList=_;simp
theorem c8 (x:Str):x.length=x.cps.toList.length:=by show x.cps.size=_;simp
theorem strs_map:∀(ss:List Str),strsOf (ss.map .str)=some ss
 | []=>rfl
 | s::r=>by simp only [TV,strsOf,strs_map r];rfl
theorem sorted_strs (m:Md) (ss:List Str) (h:ss.length < 64):kM [.l m (ss.map .str)]=.ok (.l .fresh ((lZ ss).map .str)):=by unfold kM;simp only [iU,aL,strs_map,h,if_true]
theorem pK {b:G Bool}{t u:G O}(h:b env=.ok false):bQ b t u env=u env:=by unfold bQ;rw [h];rfl
theorem mR {b:G Bool}{t u:G O}(h:b env=.ok true):bQ b t u env=t env:=by unfold bQ;rw [h];rfl
theorem NK {g:G R}{f:List R->M R}(h:g env=.ok r) (hf:f [r]=.ok r'):gN f (ao g aF) env=.ok r':=by unfold gN ao;rw [h];exact hf
theorem E4 {g:G R}(h:g env=.ok r) (h2:rF r=.ok r'):bu g env=.ok (.rt r'):=by unfold bu;rw [h,aL,h2];rfl
abbrev dN (k:Nat):D:=.int k
abbrev dP (p:Nat×Nat):D:=.tup [.int p.1,.int p.2]
def rM (p q:Nat×Nat):Prop:=p.1 < q.1\/(p.1=q.1/\p.2 < q.2)
structure Wd where
 m:Nat
 ms:List (Str×List Nat)
 ar:List (Str×List (Nat×Nat))
abbrev j_ (r:Str×List Nat):D:=.tup [.str r.1,.tup (r.2.map dN)]
abbrev n5 (r:Str×List (Nat×Nat)):D:=.tup [.str r.1,.tup (r.2.map dP)]
def Wd.d (w:Wd):D:=.tup [.int w.m,.tup (w.ms.map j_),.tup (w.ar.map n5)]
theorem wR {K:Tg}{J:L2.Hp}:∀(ns:List Int),aJ K J (ns.map D.int) (ns.map L2.V.int)
 | []=>.nil
 | n::r=>.cons (.int n) (wR r)
end K01
namespace DX
open PySem PySem.Spec
open Builtin Builtin.ObjectAttr
end DX
namespace DX
open PySem PySem.Spec
end DX
namespace DX
open PySem PySem.Spec PyProof.Rows L2
end DX
namespace DL
open PySem PySem.Spec PyProof.Rows L2 DX
noncomputable def OT (K:Tg) (J:Hp) (x:Exc) (v:Ti) (dx:Option T3):Prop:=
 ∃a C vs,v=.ref a/\J a=some (XO a C dx)/\Ur K Ug x.cls=some (some (.ref C))/\XF J dx x.ns vs/\aJ K J x.ds vs/\∃P,GX K P/\XE K P C
def XW (K:Tg) (J H:Hp) (E:XK) (x:Exc):Prop:=∀v dx J' H',Ext J H J' H'->OT K J' x v dx->E v dx H'
noncomputable def zW (K:Tg) (n:Nat) (F:List S->M R):Sp:=λvs H Q E=>∃J as,aS J H/\as.length=n/\jr K J H as vs/\cg (F as) (λr=>∀v J' H',Ext J H J' H'->FR K H J' H' r v->Q v H') (XW K J H E)
abbrev PM (P:TU) (w:Uk) (K:Tg) (mg:Str->Option Ti) (base:Vd) (N:List Str) (S_:Str) (sc:W5) (f:T3) (cd:Ti) (A:Um) (outer:List Env) (s:Tj) (H:Hp) (E:XK):Cx:=pg (vN P w) P w K mg base N S_ sc f cd A outer s H E
noncomputable def LH (n:Nat) (F:List S->M R):List R->M R:=λrs=>if rs.length=n then (match F (rs.map d7) with
 | .ok r=>.ok (jq r)
 | .exc x=>.exc x
 | .bad=>.bad) else .bad
end DL
namespace DX
open PySem PySem.Spec PyProof.Rows L2
end DX
namespace DL
open PySem PySem.Spec PyProof.Rows L2 DX
end DL
namespace DX
open PySem PySem.Spec PyProof.Rows L2
end DX
namespace DL
open PySem PySem.Spec PyProof.Rows L2 DX
end DL
namespace DX
open PySem PySem.Spec PyProof.Rows L2
open Sem (wp)
end DX
namespace DL
open PySem PySem.Spec PyProof.Rows L2 DX
noncomputable def K2 (P:TU) (w:Uk) (K:Tg) (mg:Str->Option Ti) (base:Vd) (k n:Nat) (x:Str) (Fm:List S->M R):Prop:=
 ∃f fd ps,fF P w K mg base (vN P w) k f fd ps (zW K n Fm)/\mg x=some (.ref f)/\U5 K (.ref f)=true/\Binds K fd ps []
structure nq (K:Tg) (x S_:Str) (st:Wm) (f:T3) (fd:Ud):Prop where
 ex:∃(oc:Ti) (od:Option T3) (T:T3) (o:Obj) (n:Nat) (kV doc pm:Ti) (an:Option T3) (cdv ct:Ti) (osl:Array (Option Ti)),
  fd=UE x S_ (cP st) (bU st) (aY st) (.ref T) kV doc pm an cdv ct/\K.lookup f=some ⟨oc,od,.func fd,osl⟩/\Wn K cdv S_=true/\K.lookup T=some o/\o.data=.seq #[.none] n
 kp:U5 K (.ref f)=true
theorem yz {K:Tg}{J H:Hp}:∀{as:List S}{vs:List V},jr K J H as vs->jr K J H (as++[.d .non]) (vs++[.non])
 | [],_,h=>by cases h;exact ⟨.non,[],rfl,.non,rfl⟩
 | a::as,_,h=>by obtain ⟨v,us,rfl,h1,h2⟩:=h;exact ⟨v,us++[.non],rfl,h1,yz h2⟩
section
variable {P:TU}{w:Uk}{K:Tg}{mg:Str->Option Ti}{base:Vd}
theorem Jq {st:Wm}{fd:Ud}{N ps:List Str}{Fm:List S->M R}(F:nq K x S_ st f fd) (Sc:fG N ps (aY st)){gB:G O}
 (hb:∀(cdv:Ti) (A:Um) (outer:List Env) (s:Tj) (H:Hp) (E:XK) (J:Hp),cY k (A.deeper (Ze S_ (aY st) s.heap.objs.size f cdv))->HS (PM P w K mg base N S_ (aY st) f cdv A outer s H E) ⟨K,H,J,XW K J H E⟩ (bU st) gB)
 (hF:∀as,as.length=ps.length->Fm as≠.bad->fin (gB (aV N as))=Fm as):fF P w K mg base (vN P w) (k + 1) f fd ps (zW K ps.length Fm):=by
 obtain ⟨oc,od,T,o,n,kV,doc,pm,an,cdv,ct,osl,rfl,lk,hcd,lT,dT⟩:=F.ex;refine Ia lk hcd Sc (λvs H Q E ⟨J,as,h1,h2,h3,h4⟩=>by rw [h3.length,h2]) λA outer s H vs Q E hr ⟨J,as,h1,h2,h3,h4⟩=>?_;refine ⟨_,hb cdv A outer s H E J hr,J,aV N as,zX h1 h3,?_⟩;have z:=hF as h2 (λq=>by rw [q] at h4;exact h4);rw [<-z] at h4;have ext:∀{J' H':Hp},HI ⟨K,H,J,XW K J H E⟩ J' H'->Ext J H J' H':=λhp=>⟨hp.ent,hp.entJ,hp.sub,hp.frz⟩;cases qg:gB (aV N as) with
 | bad=>rw [qg] at h4;exact h4
 | exc x=>rw [qg] at h4;exact h4
 | ok o=>
  rw [qg] at h4;cases o with
  | bk _=>exact h4.elim
  | ct _=>exact h4.elim
  | nx env=>exact λσ' J' H' _ sr=>h4 .non J' H' (ext sr.hp) .non
  | rt r=>exact λv J' H' _ hp rf=>h4 v J' H' (ext hp) (by
    cases r with
    | d x=>exact rf
    | mo _ _=>exact rf
    | mf _ _=>exact rf
    | mb _ _=>exact rf
    | l m xs=>exact rf)
noncomputable def Fy (P:TU) (w:Uk) (K:Tg) (mg:Str->Option Ti) (base:Vd) (k n:Nat) (x:Str) (Fm:List S->M R):Prop:=
 ∃f fd ps,fF P w K mg base (vN P w) k f fd ps (zW K (n + 1) Fm)/\mg x=some (.ref f)/\U5 K (.ref f)=true/\Binds K fd ps [.none]
theorem nq.bindsAll {st:Wm}{fd:Ud}{ps:List Str}(F:nq K x S_ st f fd)
 (h:∀(T:T3) (kV doc pm:Ti) (an:Option T3) (cdv ct:Ti) (us:List Ti),us.length=ps.length->∃k:Option (Array Ti)->Sem (List (Str×Ti)),
 aau (UE x S_ (cP st) (bU st) (aY st) (.ref T) kV doc pm an cdv ct) ⟨us,[]⟩=aad (.ref T) >>= k/\k (some #[.none])=pure (ps.zip us)):Binds K fd ps []:=by obtain ⟨oc,od,T,o,n,kV,doc,pm,an,cdv,ct,osl,rfl,lk,hcd,lT,dT⟩:=F.ex;intro s us hK hl;rw [Wz] at hl ⊢;obtain ⟨k,h1,h2⟩:=h T kV doc pm an cdv ct us hl;exact .of_defaults (T:=T) (items:=#[.none]) rfl (hK _ _ lT) dT h1 h2
theorem nq.bindsOne {st:Wm}{fd:Ud}{ps:List Str}(F:nq K x S_ st f fd)
 (h:∀(T:T3) (kV doc pm:Ti) (an:Option T3) (cdv ct:Ti) (us:List Ti),us.length + 1=ps.length->∃k:Option (Array Ti)->Sem (List (Str×Ti)),
 aau (UE x S_ (cP st) (bU st) (aY st) (.ref T) kV doc pm an cdv ct) ⟨us,[]⟩=aad (.ref T) >>= k/\k (some #[.none])=pure (ps.zip (us++[.none]))):Binds K fd ps [.none]:=by obtain ⟨oc,od,T,o,n,kV,doc,pm,an,cdv,ct,osl,rfl,lk,hcd,lT,dT⟩:=F.ex;intro s us hK hl;obtain ⟨k,h1,h2⟩:=h T kV doc pm an cdv ct us (by simpa using hl);exact .of_defaults (T:=T) (items:=#[.none]) rfl (hK _ _ lT) dT h1 h2
end
section
variable {X:Cx}{c:C}{e:Uo}{es:List Uo}{pos:Pos}
theorem EE {k n:Nat}{f:T3}{fd:Ud}{ps:List Str}{F:List S->M R}{x:Str}{p:Pos}{gs:G (List R)}(G:fF X.prog X.w X.K X.mg X.base (vN X.prog X.w) k f fd ps (zW X.K (n + 1) F)) (hr:cY k X.A) (hm:X.mg x=some (.ref f)) (hk:U5 X.K (.ref f)=true)
  (hb:Binds X.K fd ps [.none]) (ha:Dj X c (e::es) gs) (hT:c.K=X.K:=by rfl) (hg:Gl X x:=by rfl) (hdb:(x == ("__debug__":Str))=false:=by decide) (he:TF (e::es) X.env=(false,eval e X.env)::TF es X.env:=by rfl)
  (hpl:(U_ pos (TF es X.env)).any (·.1)=false:=by rfl):PD X c (.Call (.Name x p) (e::es) [] pos) (gN (aQ n (λas=>F (as++[.d .non]))) gs):=by
 refine fC (vz (E:=λ_ _ _=>False) G hr hg hm hk hb (dvs:=[.non]) (.cons rfl .nil) (λS6 σ H s v s' I ⟨e,C,dx,T,H',ev,f⟩=>f.wish.elim) ha hdb he hpl) λσ H Q ⟨J,env,sr,w⟩=>?_;refine ⟨J,env,sr,aD (aH w) λrs wr vs J1 H1 e1 r1=>?_⟩;unfold aQ at wr;split at wr
 ·rename_i hl;have h1:=sr.hp.ext e1;have ar:=r1.args h1;rw [hT] at ar;refine ⟨J1,rs.map d7++[.d .non],e1.sub,by simpa using hl,yz ar,?_⟩;dsimp only at wr;cases q:F (rs.map d7++[.d .non]) with
  | bad=>rw [q] at wr;exact wr
  | exc x=>rw [q] at wr;exact wr.elim
  | ok r=>
   rw [q] at wr;intro v J' H' e2 fr;refine wr v J' H' (e1.trans e2) ?_;cases r with
   | d y=>exact (show Rep c.K J' y v from hT▸fr)
   | mo _ _=>exact fr.elim
   | mb _ _=>exact fr.elim
   | mf _ _=>obtain ⟨a,h1,h2,h3,h4⟩:=fr;exact ⟨a,h1,hT▸h2,h3,e1.h.free h4⟩
   | l m ys=>
    obtain ⟨a,us,h1,h2,h3,h4,h5⟩:=fr;exact ⟨a,us,h1,h2,h3,e1.h.free h4,hT▸h5⟩
 ·exact wr.elim
theorem G3 {k k' n:Nat}{F:List S->M R}{x:Str}{p:Pos}{gs:G (List R)}(G:Fy X.prog X.w X.K X.mg X.base k n x F) (hr:cY k' X.A) (ha:jd X c (e::es) gs) (hk:k<=k':=by decide) (hT:c.K=X.K:=by rfl) (hg:Gl X x:=by rfl) (hdb:(x == ("__debug__":Str))=false:=by decide)
  (he:TF (e::es) X.env=(false,eval e X.env)::TF es X.env:=by rfl) (hpl:(U_ pos (TF es X.env)).any (·.1)=false:=by rfl):QD X c (.Call (.Name x p) (e::es) [] pos) (gN (aQ n (λas=>F (as++[.d .non]))) gs):=by obtain ⟨f,fd,ps,h1,h2,h3,h4⟩:=G;exact ⟨EE h1 (hr.mono hk) h2 h3 h4 ha.h hT hg hdb he hpl⟩
end
end DL
namespace DL
open PySem PySem.Spec PyProof.Rows L2
noncomputable def uR (A:Um) (s:Tj) (y x:Ti) (b:Bool):Prop:=
 ∀(prog:TU) (w:Uk) (E:Ti->Tj->Prop) (Q:Ti->Tj->Prop),Q (.bool b) s->TX (T5 prog w) A (aaV .Lt y x) Q E s
inductive gA (A:Um) (s:Tj) (fin:Bool):List (Ti×Ti)->Bool->Prop
 | nil:gA A s fin [] fin
 | yes {x y:Ti}{r:List (Ti×Ti)}{b:Bool}:VN A s x y true->gA A s fin r b->gA A s fin ((x,y)::r) b
 | no {x y:Ti}{r:List (Ti×Ti)}{b:Bool}:VN A s x y false->uR A s x y b->gA A s fin ((x,y)::r) b
section
open PySem.SeqAt
open PySem.AutoSeq1 (wpAny_loadPart')
open PySem.MeetsSeq PySem.MeetsSeq2 PySem.MeetsSeq3
theorem Fq (l b:T3) (items Tc:Array Ti) (n n2:Nat) (dd dd2:Option T3) (sl sl2:Array (Option Ti)) (ans:Bool):
  Meets (WZ.«tuple.__lt__» ⟨[.ref l,.ref b],[]⟩)
   (λA R s=>s.heap.get? l=some {cls:=.type "tuple",dict:=dd,data:=.seq items n,slots:=sl}/\s.heap.get? b=some {cls:=.type "tuple",dict:=dd2,data:=.seq Tc n2,slots:=sl2}/\
    gA A.in1 s (decide (items.size < Tc.size)) (items.toList.zip Tc.toList) ans/\R (.ok (.ret (.bool ans))) s):=
 .of_wp λprog w A R s h=>by
  obtain ⟨hp,g,d,tk,os⟩:=s;obtain ⟨hl,hb,hP,h⟩:=h;have f2:=XC
  wp_walk using V5 hl,V5 hb,Wa _ (λrest b s'=>b.1=none/\s'=⟨hp,g,d,tk,os⟩/\gA A.in1 ⟨hp,g,d,tk,os⟩ (decide (items.size < Tc.size)) rest ans) _
  case turn=>
   rintro ⟨y,x⟩ rest b s' ⟨hb',rfl,hq⟩;cases hq with
   | yes he hr=>
    refine Tf (he prog w _ _ ?_)
    wp_walk
    exact ⟨rfl,rfl,hr⟩
   | no he hlt=>
    refine Tf (he prog w _ _ ?_);have RV:=hlt prog w
    wp_walk using RV
    exact ⟨_,rfl,by simpa using h⟩
  case fin=>
   rintro ⟨b1,b2⟩ s' ⟨hb',rfl,hq⟩;simp only at hb';subst hb';cases hq
   wp_walk
   exact ⟨_,rfl,by simpa [Ye] using h⟩
  case h=>
   exact ⟨rfl,rfl,hP⟩
end
section
variable {K:Tg}{J:Hp}{s:Tj}
theorem JJ {A:Um}{items Tc:Array Ti}(hl:s.heap.IsTuple l items) (hb:s.heap.IsTuple b Tc) (hP:gA A.in1 s (decide (items.size < Tc.size)) (items.toList.zip Tc.toList) ans)
 (hu:A.units < Vm):uR A s (.ref l) (.ref b) ans:=λprog w E Q h=>by
 obtain ⟨⟨cls,dd,data,sl⟩,ho,hc,n,hd⟩:=id hl;obtain ⟨⟨cls2,dd2,data2,sl2⟩,ho2,hc2,n2,hd2⟩:=id hb;simp only at hc hd hc2 hd2;subst hc hd hc2 hd2;exact ZY (op:=.Lt) ⟨_,ho,rfl⟩ ⟨_,ho2,rfl⟩ PySem.F.slot_tuple_lt PySem.F.entry_tuple_lt (PySem.F.args_tuple_lt_2 _ _) (Fq l b items Tc n n2 dd dd2 sl sl2 ans)
  ⟨ho,ho2,hP,show V7 ans≠aaC/\Q (.bool ans) s from ⟨(λx=>nomatch x),h⟩⟩ hu
mutual
noncomputable def eu:D->D->Option Bool
 | .bl p,y=>match y with
  | .bl q=>some (!p && q)
  | _=>none
 | .int i,y=>match y with
  | .int j=>some (decide (i < j))
  | _=>none
 | .str x,y=>match y with
  | .str z=>some (decide (x.cps.toList < z.cps.toList))
  | _=>none
 | .tup xs,y=>match y with
  | .tup ys=>j6 xs ys
  | _=>none
 | _,_=>none
noncomputable def j6:List D->List D->Option Bool
 | [],ys=>some (!ys.isEmpty)
 | x::xs,ys=>match ys with
  | []=>some false
  | y::ys=>if aZ x y=true then j6 xs ys else eu x y
end
theorem JI (A:Um) (h:eu (.bl p) e=some b) (re:Rep K J e w) (rw':RelV w u'):uR A s (.bool p) u' b:=by
 unfold eu at h;cases e with
 | bl q=>
  cases re;cases rw';simp only [Vz] at h;subst h;intro prog w E Q hq;refine (lt_bool (p:=p) (q:=q) ?_:TX (T5 prog w) A (Vi .Lt (.bool p) (.bool q)) Q E s);cases p <;> cases q <;> exact hq
 | _=>cases h
theorem Gv (A:Um) (h:eu (.int p) e=some b) (re:Rep K J e w) (rw':RelV w u'):uR A s (.int p t) u' b:=by
 unfold eu at h;cases e with
 | int q=>
  cases re;obtain ⟨t',rfl⟩:=rw';simp only [Vz] at h;subst h;intro prog w E Q hq;exact (ad0 hq:TX (T5 prog w) A (Vi .Lt (.int p t) (.int q t')) Q E s)
 | _=>cases h
theorem Gw (A:Um) (h:eu (.str p) e=some b) (re:Rep K J e w) (rw':RelV w u'):uR A s (.str p t) u' b:=by
 unfold eu at h;cases e with
 | str q=>
  cases re;obtain ⟨t',rfl⟩:=rw';simp only [Vz] at h;subst h;intro prog w E Q hq;exact (ad1 hq:TX (T5 prog w) A (Vi .Lt (.str p t) (.str q t')) Q E s)
 | _=>cases h
noncomputable def FI (K:Tg) (J:Hp) (s:Tj) (d:D):Prop:=∀{e:D}{v w:V}{u u':Ti}{b:Bool}(A:Um),eu d e=some b->Rep K J d v->Rep K J e w->RelV v u->RelV w u'->A.units + dep d < Vm->dep d<=1000->dep e<=1000->uR A s u u' b
noncomputable def tu (K:Tg) (J:Hp) (s:Tj) (ds:List D):Prop:=∀{es:List D}{vs ws:List V}{us us':List Ti}{b:Bool}{n1 n2:Nat}(A:Um),j6 ds es=some b->aJ K J ds vs->aJ K J es ws->Vals vs us->Vals ws us'->A.units + deps ds < Vm->deps ds<=1000->deps es<=1000->
  us.length + n2=us'.length + n1->gA A s (decide (n1 < n2)) (us.zip us') b
theorem Gx (F:HF K J s) (ih:tu K J s ds):FI K J s (.tup ds):=by
 intro e v w u u' b A h rd re rv rw' hu k1 k2;unfold eu at h;cases e with
 | tup es=>
  simp only at h;cases rd with
  | tup h1 hs=>
   cases re with
   | tup h2 hs'=>
    cases rv;cases rw';obtain ⟨S7,r,p⟩:=F.t _ _ h1;obtain ⟨its',r',p'⟩:=F.t _ _ h2;refine JJ p p' ?_ (by unfold dep at hu;omega);have:=ih A.in1 (n1:=S7.length) (n2:=its'.length) h hs hs' r r' (by rw [in1_units];unfold dep at hu;omega) (by unfold dep at k1;omega) (by unfold dep at k2;omega) (by omega);simpa using this
 | _=>cases h
theorem Eo:tu K J s []:=by
 intro es vs ws us us' b n1 n2 A h rd re rv rw' hu k1 k2 hl;cases rd;cases rv;cases re with
 | nil=>
  cases rw';simp only [j6,List.isEmpty_nil,VZ,Vz] at h;subst h;have:decide (n1 < n2)=false:=decide_eq_false (by simp at hl;omega);rw [this];exact .nil
 | cons _ _=>
  cases rw';simp only [j6,List.isEmpty_cons,aaJ,Vz] at h;subst h;have:decide (n1 < n2)=true:=decide_eq_true (by simp at hl;omega);rw [this];exact .nil
theorem Cr (F:HF K J s) (ix:FI K J s x) (ih:tu K J s xs):tu K J s (x::xs):=by
 intro es vs ws us us' b n1 n2 A h rd re rv rw' hu k1 k2 hl;cases rd with
 | cons q1 r1=>
  cases rv with
  | cons t1 u1=>
   cases re with
   | nil=>
    cases rw';simp only [j6,Vz] at h;subst h;have:decide (n1 < n2)=false:=decide_eq_false (by simp at hl;omega);rw [this];exact .nil
   | cons q2 r2=>
    cases rw' with
    | cons t2 u2=>
     unfold deps at hu k1 k2;rename_i y v' ys ws' u0 us0;have he:=mJ F A q1 q2 t1 t2 (by omega) (by omega) (by omega);simp only [j6] at h;cases z:aZ x y with
     | true=>
      rw [z,if_pos rfl] at h;rw [z] at he;exact .yes he (ih A h r1 r2 u1 u2 (by omega) (by omega) (by omega) (by simp at hl;omega))
     | false=>
      rw [z,if_neg T_] at h;rw [z] at he;exact .no he (ix A h q1 q2 t1 t2 (by omega) (by omega) (by omega))
mutual
theorem O4 (F:HF K J s):∀d:D,FI K J s d
 | .bl p=>λA h rd re rv rw' _ _ _=>by cases rd;cases rv;exact JI A h re rw'
 | .int p=>λA h rd re rv rw' _ _ _=>by cases rd;obtain ⟨t,rfl⟩:=rv;exact Gv A h re rw'
 | .str p=>λA h rd re rv rw' _ _ _=>by cases rd;obtain ⟨t,rfl⟩:=rv;exact Gw A h re rw'
 | .tup ds=>Gx F (yc F ds)
 | .non=>λA h _ _ _ _ _ _ _=>by unfold eu at h;cases h
 | .lst _=>λA h _ _ _ _ _ _ _=>by unfold eu at h;cases h
 | .emp=>λA h _ _ _ _ _ _ _=>by unfold eu at h;cases h
 | .exn _ _ _=>λA h _ _ _ _ _ _ _=>by unfold eu at h;cases h
 | .dct _ _=>λA h _ _ _ _ _ _ _=>by unfold eu at h;cases h
theorem yc (F:HF K J s):∀ds:List D,tu K J s ds
 | []=>Eo
 | x::xs=>Cr F (O4 F x) (yc F xs)
end
end
end DL
namespace DL
open PySem PySem.Spec PyProof.Rows L2
open PySem.W (KasT kas_sort kas_asc kas_desc kas_rev kas_tail3 kas_descPart kas_count kas_place kas_bin)
noncomputable def aX {α:Type}(q:Nat->Nat->Bool):KasT α->α
 | .ret a=>a
 | .ask i j k=>aX q (k (q i j))
inductive fE (n:Nat){α:Type}(P:α->Prop):KasT α->Prop
 | ret {a:α}:P a->fE n P (.ret a)
 | ask {i j:Nat}{k:Bool->KasT α}:i < n->j < n->(∀b,fE n P (k b))->fE n P (.ask i j k)
theorem fE.bind {α β:Type}{P:α->Prop}{R:β->Prop}{f:α->KasT β}{t:KasT α}(h:fE n P t) (hf:∀a,P a->fE n R (f a)):fE n R (t.bind f):=by
 induction h with
 | ret p=>exact hf _ p
 | ask h1 h2 _ ih=>exact .ask h1 h2 ih
theorem fE.run {n:Nat}{α:Type}{P:α->Prop}{t:KasT α}(q:Nat->Nat->Bool) (h:fE n P t):P (aX q t):=by
 induction h with
 | ret p=>exact p
 | ask _ _ _ ih=>exact ih _
theorem fE.wp {α:Type}{P:α->Prop}{t:KasT α}{q:Nat->Nat->Bool}{cmp:Nat->Nat->(Bool->Tj->Prop)->Tj->Prop}{G:α->Tj->Prop}(h:fE n P t)
 (hc:∀i j C,i < n->j < n->C (q i j) s->cmp i j C s) (hG:G (aX q t) s):t.kasWp cmp G s:=by
 induction h with
 | ret p=>exact hG
 | ask h1 h2 _ ih=>exact hc _ _ _ h1 h2 (ih _ hG)
def eS (n:Nat) (p:Array Nat):Prop:=p.Perm (Tw n).toArray
theorem eS.lt {p:Array Nat}(h:eS n p) (hn:0 < n) (k:Nat):p.getD k 0 < n:=by
 by_cases hk:k < p.size
 ·have e:p.getD k 0=p[k]:=by simp [VA,hk]
  rw [e];have hm:p[k]∈p:=Array.getElem_mem hk;have:=(W3 h).mp hm;simpa using this
 ·have e:p.getD k 0=0:=by simp [VA,hk]
  rw [e];exact hn
theorem eS.rev (h:eS n p) (i j:Nat):eS n (YE p i j):=(mirror_perm _ _ _ _).trans h
theorem eS.bub (h:eS n p) (i j:Nat):eS n (bubble p i j):=(bubble_perm _ _ _).trans h
variable {n:Nat}
theorem BQ {p:Array Nat}(hn:0 < n) (h:eS n p):∀f m,fE n (λ_:Nat=>True) (YF p f m)
 | 0,m=>.ret trivial
 | f + 1,m=>.ask (h.lt hn _) (h.lt hn _) λb=>by cases b with
  | true=>exact .ret trivial
  | false=>exact BQ hn h f (m + 1)
theorem tK (hn:0 < n):∀f {p:Array Nat} m q,eS n p->fE n (λr:Array Nat×Nat×Nat=>eS n r.1) (V0 f p m q)
 | 0,p,m,q,h=>.ret h
 | f + 1,p,m,q,h=>.ask (h.lt hn _) (h.lt hn _) λb=>by
  cases b with
  | true=>
   simp only [if_true];by_cases hq:q > 0
   ·rw [if_pos hq];exact tK hn f _ _ (h.rev _ _)
   ·rw [if_neg hq];exact tK hn f _ _ h
  | false=>
   simp only [TJ,if_false];refine .ask (h.lt hn _) (h.lt hn _) λb=>?_;cases b with
   | true=>exact .ret h
   | false=>exact tK hn f _ _ h
theorem Dq (hn:0 < n) (h:eS n p) (m k:Nat):fE n (λr:Nat×Array Nat=>eS n r.2) (adE m k p):=(BQ hn (h.rev 0 m) _ _).bind λa _=>.ret (h.rev _ _)
theorem AO (hn:0 < n) (h:eS n p) (m k:Nat):fE n (λr:Nat×Array Nat=>eS n r.2) (abL m k p):=(tK hn _ _ _ h).bind λr hr=>by
 split
 ·exact Dq hn (hr.rev _ _) _ _
 ·exact Dq hn hr _ _
theorem I_ (hn:0 < n) (h:eS n p) (k:Nat):fE n (λr:Nat×Array Nat=>eS n r.2) (ab_ k p):=(BQ hn h _ _).bind λm _=>by
 split
 ·exact .ret h
 ·split
  ·refine .ask (h.lt hn _) (h.lt hn _) λb=>?_;cases b with
   | true=>exact .ret h
   | false=>exact AO hn (h.rev _ _) _ _
  ·exact AO hn h _ _
theorem uV (hn:0 < n){p:Array Nat}(h:eS n p) (k:Nat):∀f l r,fE n (λ_:Nat=>True) (Wj p k f l r)
 | 0,l,r=>.ret trivial
 | f + 1,l,r=>by
  unfold Wj;split
  ·exact .ret trivial
  ·refine .ask (h.lt hn _) (h.lt hn _) λb=>?_;cases b with
   | true=>exact uV hn h k f _ _
   | false=>exact uV hn h k f _ _
theorem HX (hn:0 < n):∀f {p:Array Nat} k,eS n p->fE n (eS n) (adj f p k)
 | 0,p,k,h=>.ret h
 | f + 1,p,k,h=>(uV hn h k _ _ _).bind λl _=>HX hn f _ (h.bub _ _)
theorem eV (hn:0 < n):fE n (eS n) (V1 n):=(I_ hn (show eS n _ from aev _) n).bind λr hr=>by
 split
 ·exact HX hn _ _ hr
 ·exact .ret hr
end DL
namespace DL
open PySem PySem.Spec PyProof.Rows L2
open PySem.W (KasT kas_sort kas_ask kas_item kat_run kat_snds KatLex kat_cons kat_yes kat_no kat_lt kat_one KatTups kat_kind Looks)
section
variable {prog:TU}{w:Uk}{A:Um}{E:Ti->Tj->Prop}{s:Tj}
def pQ (q:Nat->Nat->Bool) (vs:List Ti):List Ti:=(aX q (V1 vs.length)).toList.map λi=>vs.getD i Ux
theorem zF (q:Nat->Nat->Bool){vs:List Ti}(h:0 < vs.length):(pQ q vs).length=vs.length:=by unfold pQ;rw [Tp,TY];have:=((eV h).run q:eS _ _).size_eq;simpa using this
theorem Co {vs:List Ti}{q:Nat->Nat->Bool}{P:acd->Tj->Prop}(ho:s.heap.get? a=some (Vf "list" vs.toArray n)) (h2:2<=vs.length) (h64:vs.length < 64)
 (hk:∀h' C,(∀b o,b≠a->s.heap.get? b=some o->h'.get? b=some o)->C κ {s with heap:=h'}->TX (T5 prog w) A (aed vs.toArray) C (λ_ _=>False) {s with heap:=h'})
 (hc:∀h',(∀b o,b≠a->s.heap.get? b=some o->h'.get? b=some o)->∀i j C,i < vs.length->j < vs.length->C (q i j) {s with heap:=h'}->kas_ask prog w A κ vs i j C {s with heap:=h'})
 (h:P (.done (.ret .none)) {s with heap:=ac1 s.heap a vs (pQ q vs).toArray}):TX (T5 prog w) A (WZ.«list.sort» ⟨[.ref a],[]⟩) P E s:=by
 have la:a < s.heap.objs.size:=TN ho;have sl:vs.length<=sizeLine:=by rw [UH];omega
 obtain ⟨e1,g1⟩:∃e1,(s.heap.update a (UR λ_=>(#[]:Array Ti))).get? a=some (Vf "list" #[] e1):=⟨_,(XM ho λ_=>#[])⟩;have z1:(s.heap.update a (UR λ_=>(#[]:Array Ti))).objs.size=s.heap.objs.size:=(ZU _ _ _);have g3:(((s.heap.update a (UR λ_=>(#[]:Array Ti))).push (Vf "tuple" vs.toArray 0)).push (Vf "list" #[] 0)).get? a=some (Vf "list" #[] e1):=(Tn _ ((Tn _ g1)));have kp:∀b o,b≠a->s.heap.get? b=some o->(((s.heap.update a (UR λ_=>(#[]:Array Ti))).push (Vf "tuple" vs.toArray 0)).push (Vf "list" #[] 0)).get? b=some o:=λb o nb q=>
  Tn _ (Tn _ (by rw [Vp _ _ _ _ nb];exact q))
 rw [ace];refine Tf ((aaf ho rfl ?_));refine Tf (WR ho rfl ?_ (by rw [Tz];exact sl) (Uc _));refine Tf ((YW g1 rfl ?_));refine Tf (aaK ?_ (show vs.length<=_ from sl));refine Tf ((YM ?_ (Uc _)));refine (Ul ?_);dsimp only;have n2:¬vs.toArray.size < 2:=by (rw [Tz]);omega
 rw [if_neg n2,if_neg n2];refine Tf (UD (hk _ (λk s'=>k=κ/\s'=_) kp ⟨rfl,rfl⟩) ?_ λ_ _ x=>x.elim);rintro _ _ ⟨rfl,rfl⟩;refine Tf (UD (kat_run (E:=E) (Q:=λst' s'=>∃p:Array Nat,p.size=vs.length/\arrOf st'=p.map (kas_item (vs.toArray.zip vs.toArray))/\aee st'=none/\p=aX q (V1 vs.length)/\s'=_)
  rfl h2 h64 (λp' st' s' a1 a2 a3 a4=>⟨p',a1,a2,a3,a4⟩) ((eV (by omega)).wp (q:=q) (hc _ kp) ⟨rfl,rfl⟩)) ?_ λ_ _ e=>e)
 rintro ⟨⟨⟩,st'⟩ s' ⟨p,hp,har,hf,rfl,rfl⟩;dsimp only;have ou:(arrOf st').map (·.2)=(pQ q vs).toArray:=kat_snds rfl har;rw [ou];refine Tf ((YW g3 rfl ?_));refine Tf (WR g3 rfl ?_ (Uc _) (T6 (abF (Tz.trans (zF q (T9 Nat.zero_lt_two h2)))) (Nat.le_succ_of_le sl)));rw [hf];simp only [bne_self_eq_false,TJ,if_false];exact Th h
end
end DL
namespace DL
open PySem PySem.Spec PyProof.Rows L2
open PySem.W (KasT kas_sort kas_ask KatLex kat_nil kat_cons kat_yes kat_no kat_lt kat_one KatTups kat_kind Looks)
section
variable {prog:TU}{w:Uk}{A:Um}{E:Ti->Tj->Prop}{s:Tj}{K:Tg}{J:Hp}
theorem wG {fin ans:Bool}{Q:Bool->Tj->Prop}(h:gA A s fin zs ans) (hq:Q ans s):∀{i:Nat},(b && i == 0)=false->KatLex prog w A b fin Q zs i s:=by
 induction h with
 | nil=>intro i _;exact kat_nil hq
 | yes he _ ih=>intro i _;exact adk (he prog w _ _ (kat_yes (ih hq (by cases b <;> rfl))))
 | no he hl=>
  intro i hb;refine adk (he prog w _ _ (kat_no ?_));rw [hb];exact kat_one _ _ (hl prog w _ _ hq)
theorem JD {fin ans e:Bool}{Q:Bool->Tj->Prop}(he:VN A s u u' e) (h1:e=true->gA A s fin zs ans)
 (h2:e=false->TX (T5 prog w) A (oneLt' true u u') Q (λ_ _=>False) s) (hq:Q ans s):KatLex prog w A true fin Q ((u,u')::zs) 0 s:=by
 cases e with
 | true=>exact adk (he prog w _ _ (kat_yes (wG (h1 rfl) hq rfl)))
 | false=>exact adk (he prog w _ _ (kat_no (h2 rfl)))
inductive Hd where
 | t | i | x
noncomputable def gP:D->Option Hd
 | .tup (.tup _::_)=>some .t
 | .tup (.int _::_)=>some .i
 | .tup (.str _::_)=>some .x
 | _=>none
noncomputable def Hd.flag:Hd->Bool
 | .t=>false
 | _=>true
noncomputable def Hd.ty:Hd->Ti
 | .t=>.type "tuple"
 | .i=>.type "int"
 | .x=>.type "str"
theorem GL {k:Hd}{C:Bool->Tj->Prop}(hd:gP (.tup (x::xs))=some k) (he:gP (.tup (y::ys))=some k) (hf:k.flag=true) (h:eu x y=some b) (rd:Rep K J x v) (re:Rep K J y v') (rv:RelV v u) (rv':RelV v' u') (c:C b s):
  TX (T5 prog w) A (oneLt' true u u') C E s:=by
 cases x with
 | int x=>
  cases hd;cases y with
  | int y=>
   cases rd;cases re;obtain ⟨tk,rfl⟩:=rv;obtain ⟨tk',rfl⟩:=rv';unfold eu at h;simp only [Vz] at h;refine oneLt_int ?_;rw [h];exact c
  | _=>cases he
 | str x=>
  cases hd;cases y with
  | str y=>
   cases rd;cases re;obtain ⟨tk,rfl⟩:=rv;obtain ⟨tk',rfl⟩:=rv';unfold eu at h;simp only [Vz] at h;refine oneLt_str ?_;rw [h];exact c
  | _=>cases he
 | tup _=>cases hd;cases hf
 | _=>cases hd
theorem JE (F:HF K J s){k:Hd}{C:Bool->Tj->Prop}(hd:gP d=some k) (he:gP e=some k) (h:eu d e=some b) (rd:Rep K J d v) (re:Rep K J e v') (rv:RelV v u) (rv':RelV v' u')
 (hu:A.units + dep d < Vm) (k1:dep d<=1000) (k2:dep e<=1000) (c:C b s):TX (T5 prog w) A (keyLt' (tuples' k.flag) u u') C E s:=by
 cases d with
 | tup ds=>
  cases e with
  | tup es=>
   unfold eu at h;simp only at h;cases rd with
   | tup h1 hs=>
    cases re with
    | tup h2 hs'=>
     cases rv;cases rv';obtain ⟨S7,r,p⟩:=F.t _ _ h1;obtain ⟨its',r',p'⟩:=F.t _ _ h2;obtain ⟨o,ho,hc,m,dm⟩:=id p;obtain ⟨o',ho',hc',m',dm'⟩:=id p';refine kat_lt ho dm ho' dm' ?_;simp only [Tz];cases hf:k.flag with
     | false=>
      exact wG (yc F ds A (n1:=S7.length) (n2:=its'.length) h hs hs' r r' (by unfold dep at hu;omega) (by unfold dep at k1;omega) (by unfold dep at k2;omega) (by omega)) c rfl
     | true=>
      cases hs with
      | nil=>cases hd
      | cons q1 t1=>
       cases hs' with
       | nil=>cases he
       | cons q2 t2=>
        cases r with
        | cons a1 b1=>
         cases r' with
         | cons a2 b2=>
          unfold dep deps at hu k1 k2;rw [XN];unfold j6 at h;simp only at h;refine JD (ans:=b) (mJ F A q1 q2 a1 a2 (by omega) (by omega) (by omega)) (λz=>?_) (λz=>?_) c
          ·rw [z,if_pos rfl] at h;exact yc F _ A h t1 t2 b1 b2 (by omega) (by omega) (by omega) (by simp;omega)
          ·rw [z,if_neg T_] at h;exact GL hd he hf h q1 q2 a1 a2 c
  | _=>cases he
 | _=>cases hd
noncomputable def gI (k:Hd):List D->Bool
 | []=>true
 | d::r=>(match gP d,k with
  | some .t,.t=>true
  | some .i,.i=>true
  | some .x,.x=>true
  | _,_=>false) && gI k r
theorem lK {k:Hd}:∀{ds:List D},gI k ds=true->∀d∈ds,gP d=some k
 | [],_,_,hm=>nomatch hm
 | x::r,h,d,hm=>by
  unfold gI at h;rw [Tt] at h;rcases TZ.mp hm with rfl | hm
  ·cases q:gP d with
   | none=>rw [q] at h;cases h.1
   | some k'=>rw [q] at h;cases k' <;> cases k <;> first | rfl | cases h.1
  ·exact lK h.2 d hm
theorem D8 (F:HF K J s){k:Hd}(hd:gP d=some k) (rd:Rep K J d v) (rv:RelV v u):∃a o xs n f,u=.ref a/\s.heap.get? a=some o/\o.cls=.type "tuple"/\o.data=.seq xs n/\xs[0]?=some f/\Looks (T5 prog w) s.heap (typeOf f) k.ty:=by
 cases d with
 | tup ds=>
  cases rd with
  | tup h1 hs=>
   cases rv;obtain ⟨S7,r,p⟩:=F.t _ _ h1;obtain ⟨o,ho,hc,m,dm⟩:=id p;cases hs with
   | nil=>cases hd
   | cons q1 t1=>
    cases r with
    | cons a1 b1=>
     refine ⟨_,o,_,m,_,rfl,ho,hc,dm,rfl,?_⟩;rename_i x v' ds' vs' u us;cases x with
     | tup _=>
      cases hd;cases q1 with
      | tup h2 _=>
       cases a1;obtain ⟨its2,_,p2⟩:=F.t _ _ h2;obtain ⟨o2,ho2,hc2,_,_⟩:=id p2;have:=(Looks.ld (M:=T5 prog w) (part:=none) ho2).andThen (f:=λo=>pure o.cls) (b:=o2.cls) .now;rw [hc2] at this;exact this
     | int _=>
      cases hd;cases q1;obtain ⟨tk,rfl⟩:=a1;exact .now
     | str _=>
      cases hd;cases q1;obtain ⟨tk,rfl⟩:=a1;exact .now
     | _=>cases hd
 | _=>cases hd
theorem ug (F:HF K J s){k:Hd}:∀{ds:List D}{vs:List V}{us:List Ti},gI k ds=true->aJ K J ds vs->Vals vs us->∃fs,KatTups s.heap us fs/\fs.length=us.length/\∀v∈fs,Looks (T5 prog w) s.heap (typeOf v) k.ty
 | _,_,_,_,.nil,.nil=>⟨[],trivial,rfl,λ_ h=>nomatch h⟩
 | d::ds,_,_,h,.cons q rs,.cons a b=>by
  have hd:=lK h d (Tu ..);unfold gI at h;rw [Tt] at h;obtain ⟨fs,h1,h2,h3⟩:=ug F h.2 rs b;obtain ⟨p,o,xs,n,f,rfl,e1,e2,e3,e4,e5⟩:=D8 (prog:=prog) (w:=w) F hd q a;refine ⟨f::fs,⟨⟨p,o,xs,n,rfl,e1,e2,e3,e4⟩,h1⟩,by simp [h2],λv hv=>?_⟩;rcases TZ.mp hv with rfl | hv
  ·exact e5
  ·exact h3 v hv
theorem Jp (k:Hd):(k.ty != X7 "tuple")=k.flag:=by cases k <;> decide
theorem Ei (F:HF K J s){k:Hd}{us:List Ti}(h:gI k ds=true) (rs:aJ K J ds vs) (rv:Vals vs us) (hl:0 < us.length){C:SortKind->Tj->Prop}(c:C (tuples' k.flag) s):TX (T5 prog w) A (aed us.toArray) C E s:=by obtain ⟨fs,h1,h2,h3⟩:=ug (prog:=prog) (w:=w) F h rs rv;refine kat_kind h1 (by omega) h3 (by cases k <;> decide) ?_;rw [Jp];exact c
end
end DL
namespace DL
open PySem PySem.Spec PyProof.Rows L2
open PySem.W (KasT kas_sort kas_ask)
section
variable {prog:TU}{w:Uk}{A:Um}{E:Ti->Tj->Prop}{s:Tj}
theorem Cn {vs:List Ti}{P:acd->Tj->Prop}(ho:s.heap.get? a=some (Vf "list" vs.toArray n)) (h2:vs.length < 2)
 (h:P (.done (.ret .none)) {s with heap:=ac1 s.heap a vs vs.toArray}):TX (T5 prog w) A (WZ.«list.sort» ⟨[.ref a],[]⟩) P E s:=by
 have sl:vs.length<=sizeLine:=by rw [UH];omega
 obtain ⟨e1,g1⟩:∃e1,(s.heap.update a (UR λ_=>(#[]:Array Ti))).get? a=some (Vf "list" #[] e1):=⟨_,(XM ho λ_=>#[])⟩;have g3:(((s.heap.update a (UR λ_=>(#[]:Array Ti))).push (Vf "tuple" vs.toArray 0)).push (Vf "list" #[] 0)).get? a=some (Vf "list" #[] e1):=(Tn _ ((Tn _ g1)));rw [ace];refine Tf ((aaf ho rfl ?_));refine Tf (WR ho rfl ?_ (by rw [Tz];exact sl) (Uc _));refine Tf ((YW g1 rfl ?_));refine Tf (aaK ?_ (show vs.length<=_ from sl));refine Tf ((YM ?_ (Uc _)));refine (Ul ?_);dsimp only;have n2:vs.toArray.size < 2:=by (rw [Tz]);omega
 rw [if_pos n2,if_pos n2];refine (Tf (Th ?_));rw [acf];refine (Tf (Th ?_));dsimp only;have ou:(arrOf (SortSt.mk' general' (vs.toArray.zip vs.toArray) #[] 7 none)).map (·.2)=vs.toArray:=by
  show (vs.toArray.zip vs.toArray).map (·.2)=vs.toArray
  match vs,h2 with
  | [],_=>simp
  | [_],_=>simp
 rw [ou];refine Tf ((YW g3 rfl ?_));refine Tf (WR g3 rfl ?_ (Uc _) (by rw [Tz];omega));simp only [bne_self_eq_false,TJ,if_false];exact Th h
abbrev Kp (h h':Vd):Prop:=∀b o,h.get? b=some o->h'.get? b=some o
noncomputable def yj (prog:TU) (w:Uk) (A:Um) (s:Tj) (vs:List Ti) (q:Nat->Nat->Bool):Prop:=2<=vs.length->∃κ,∀h' tk,Kp s.heap h'->
 (∀C:SortKind->Tj->Prop,C κ {s with heap:=h',toks:=tk}->TX (T5 prog w) A (aed vs.toArray) C (λ_ _=>False) {s with heap:=h',toks:=tk})/\
 ∀i j (C:Bool->Tj->Prop),i < vs.length->j < vs.length->C (q i j) {s with heap:=h',toks:=tk}->kas_ask prog w A κ vs i j C {s with heap:=h',toks:=tk}
noncomputable def Coll (prog:TU) (w:Uk) (A:Um) (s:Tj) (x:Ti) (vs:List Ti):Prop:=∀(E:Ti->Tj->Prop) (C:List Ti->Tj->Prop),(∀h1 tk,Kp s.heap h1->s.heap.objs.size<=h1.objs.size->C vs {s with heap:=h1,toks:=tk})->TX (T5 prog w) A (collect x) C E s
theorem AR {o:Obj}{vs:List Ti}(hT:T="list"\/T="tuple") (ho:s.heap.get? a=some o) (hc:o.cls=.type T) (hd:o.data=.seq vs.toArray n) (sl:vs.length<=sizeLine):Coll prog w A s (.ref a) vs:=by
 intro E C h;generalize hh:(s.heap.push (Vf "list" #[] 0)).update s.heap.objs.size (UR (·++vs.toArray))=h1;have hS:(s.heap.push (Vf "list" #[] 0)).get? s.heap.objs.size=some (Vf "list" #[] 0):=TH _ rfl;have Rv:=UQ (UR (·++vs.toArray)) hS rfl;rw [hh] at Rv;have k1:Kp s.heap h1:=λb o e=>by rw [<-hh,Vp _ _ _ _ (Ua (TN e))];exact Tn _ e
 have z1:s.heap.objs.size<=h1.objs.size:=by rw [<-hh,ZU,size_push'];exact Yc _
 have fin:=h h1 s.toks k1 z1;unfold collect;refine Tf (aaL (Vk aag ?_));rw [UK aah _];show TX _ A.in1 (newList [] >>= λl=>again (.builtin "list.__iadd__" ⟨[l,.ref a],[]⟩)) _ _ s;refine Tf (Ui ?_);refine Th ⟨VY Yg _,Vk abu ?_⟩;rw [UK Yg _];have fin':TX (T5 prog w) A (load s.heap.objs.size >>= λo=>match o.data with
   | .seq xs _=>pure xs.toList
   | _=>unsupported "internal:collect") C E {s with heap:=h1}:=by
  refine Tf (acT Rv (Th ?_));have e:((#[]:Array Ti)++vs.toArray).toList=vs:=by simp
  show C ((#[]:Array Ti)++vs.toArray).toList _;rw [e];exact fin
 refine UD (wpAny_extend_seq (hsz:=by rw [Tz];exact sl) (A:=A) (R:=λr s'=>r=.ok (.ret (.ref s.heap.objs.size))/\s'={s with heap:=h1})
  (s:={s with heap:=s.heap.push (Vf "list" #[] 0)}) _ a _ 0 hT hS (Tn _ ho) hc hd ⟨rfl,by rw [<-hh]⟩) (λf s' q=>?_) (λe s' q=>absurd q.1 (by simp))
 cases f with
 | done f=>
  obtain ⟨e,rfl⟩:=q;cases e;exact fin'
 | again c'=>exact ⟨q.1,WK q.2 λr s'' hr=>by obtain ⟨rfl,rfl⟩:=hr;exact fin'⟩
theorem KN {q:Nat->Nat->Bool}{Q:Ti->Tj->Prop}{vs:List Ti}(QO:Coll prog w A.in1 s x vs) (h64:vs.length < 64) (ha:yj prog w A.in1.in1 s vs q)
 (h:∀h' tk l n,Kp s.heap h'->s.heap.objs.size<=l->h'.get? l=some (Vf "list" (if vs.length < 2 then vs else pQ q vs).toArray n)->Q (.ref l) {s with heap:=h',toks:=tk}):TX (T5 prog w) A (call (.builtin "sorted") [x]) Q E s:=by
 have sl:vs.length<=sizeLine:=by rw [UH];omega
 refine (Calls.call_function_entry kind_sorted plain_sorted entry_sorted (args_sorted1 _) ?_);unfold WZ.«sorted»;refine Tf (m:=checkCount "sorted" 1 1 _) ((Th ?_));refine Tf (QO _ _ λh1 tk1 k1 le1=>?_);refine Tf (YM ?_ sl);have gL:(h1.push (Vf "list" vs.toArray 0)).get? h1.objs.size=some (Vf "list" vs.toArray 0):=TH _ rfl;have kp:∀b o,s.heap.get? b=some o->b≠h1.objs.size/\(h1.push (Vf "list" vs.toArray 0)).get? b=some o:=λb o e=>by have e1:=k1 b o e;exact ⟨Ua (TN e1),Tn _ e1⟩
 have kend:∀out,Kp s.heap (ac1 (h1.push (Vf "list" vs.toArray 0)) h1.objs.size vs out):=λout b o e=>by obtain ⟨g1,g2'⟩:=kp b o e;rw [sortedHeap_old g1 (TN g2')];exact g2'
 dsimp only;by_cases h2:vs.length < 2
 ·refine Tf (Ul (Uy aaM ⟨_,gL,rfl⟩ aai (Cn gL h2 ⟨_,rfl,?_⟩) (acJ _)));obtain ⟨n,hn'⟩:=adl (out:=vs.toArray) gL;rw [if_pos h2] at h;exact Th ⟨_,rfl,h _ tk1 _ n (kend _) le1 hn'⟩
 ·obtain ⟨κ,ask⟩:=ha (by omega);refine Tf (Ul (Uy aaM ⟨_,gL,rfl⟩ aai (Co (κ:=κ) (q:=q) gL (by omega) h64 (λh' C k c=>?_) (λh' k i j C hi hj c=>?_) ⟨_,rfl,?_⟩) (acJ _)))
  ·exact (ask h' tk1 λb o e=>k b o (kp b o e).1 (kp b o e).2).1 C c
  ·exact (ask h' tk1 λb o e=>k b o (kp b o e).1 (kp b o e).2).2 i j C hi hj c
  ·obtain ⟨n,hn'⟩:=adl (out:=(pQ q vs).toArray) gL;rw [if_neg h2] at h;exact Th ⟨_,rfl,h _ tk1 _ n (kend _) le1 hn'⟩
end
def c5 (ds:List D) (i:Nat):D:=ds.getD i .non
def ltB (ds:List D) (i j:Nat):Bool:=(eu (c5 ds i) (c5 ds j)).getD false
def bR (ds:List D):List D:=if ds.length < 2 then ds else (aX (ltB ds) (V1 ds.length)).toList.map (c5 ds)
def yP (ds:List D):Bool:=ds.all λx=>ds.all λy=>(eu x y).isSome
noncomputable def GJ (ds:List D):Bool:=match ds with
 | []=>false
 | d::_=>match gP d with
  | some k=>gI k ds
  | none=>false
def wK (ds:List D):Bool:=decide (ds.length < 2) || (decide (ds.length < 64) && (decide (deps ds<=60) && (GJ ds && yP ds)))
section
variable {K:Tg}{J:Hp}
theorem jH {ds:List D}{vs:List V}(h:aJ K J ds vs):∀{i:Nat},i < ds.length->Rep K J (c5 ds i) (vs.getD i V.non):=by
 induction ds generalizing vs with
 | nil=>intro i hi;exact absurd hi (UU _)
 | cons x r ih=>
  intro i hi;cases h with
  | cons q rs=>
   cases i with
   | zero=>simpa [c5] using q
   | succ i=>simpa [c5] using ih rs (i:=i) (by simpa using hi)
theorem jJ {vs:List V}{us:List Ti}(h:Vals vs us):∀{i:Nat},i < vs.length->RelV (vs.getD i V.non) (us.getD i Ux):=by
 induction vs generalizing us with
 | nil=>intro i hi;exact absurd hi (UU _)
 | cons x r ih=>
  intro i hi;cases h with
  | cons q rs=>
   cases i with
   | zero=>simpa using q
   | succ i=>simpa using ih rs (i:=i) (by simpa using hi)
theorem vG {ds:List D}{vs:List V}(h:aJ K J ds vs):∀ix:List Nat,(∀i∈ix,i < ds.length)->aJ K J (ix.map (c5 ds)) (ix.map λi=>vs.getD i V.non)
 | [],_=>.nil
 | i::r,hi=>.cons (jH h (hi i (Tu ..))) (vG h r λj hj=>hi j (Tq _ hj))
theorem vK {vs:List V}{us:List Ti}(h:Vals vs us):∀ix:List Nat,(∀i∈ix,i < vs.length)->Vals (ix.map λi=>vs.getD i V.non) (ix.map λi=>us.getD i Ux)
 | [],_=>.nil
 | i::r,hi=>.cons (jJ h (hi i (Tu ..))) (vK h r λj hj=>hi j (Tq _ hj))
theorem Jj {ds:List D}:∀{i:Nat},i < ds.length->dep (c5 ds i)<=deps ds:=by
 induction ds with
 | nil=>intro i hi;exact absurd hi (UU _)
 | cons x r ih=>
  intro i hi;unfold deps;cases i with
  | zero=>show dep x<=_;omega
  | succ i=>
   have:=ih (i:=i) (by simpa using hi);have e:c5 (x::r) (i + 1)=c5 r i:=rfl;rw [e];omega
theorem g5 {ds:List D}(hi:i < ds.length):c5 ds i∈ds:=by
 have e:c5 ds i=ds[i]:=by simp [c5,hi]
 rw [e];exact Wb hi
theorem HF.keep {s s':Tj}(F:HF K J s) (k:∀b o,s.heap.get? b=some o->s'.heap.get? b=some o):HF K J s':=
 ⟨λa xs h=>let ⟨S7,r,o,ho,p⟩:=F.t a xs h;⟨S7,r,o,k _ _ ho,p⟩,λa xs h=>let ⟨S7,r,o,ho,p⟩:=F.l a xs h;⟨S7,r,o,k _ _ ho,p⟩,λa h=>let ⟨o,ho,p⟩:=F.e a h;⟨o,k _ _ ho,p⟩,λa ep Td h=>let ⟨o,es,ho,p⟩:=F.d a ep Td h;⟨o,es,k _ _ ho,p⟩⟩
theorem Dn {A:Um}(F:HF K J s) (rs:aJ K J ds vs) (rv:Vals vs S7) (hk:∀d∈ds,gP d=some k/\dep d<=60) (hk':gI k ds=true) (hc:∀x∈ds,∀y∈ds,(eu x y).isSome=true) (hu:A.units + 62 < Vm):yj prog w A s S7 (ltB ds):=by
 intro h2;have l1:vs.length=S7.length:=rv.length;have l2:ds.length=vs.length:=rs.length;refine ⟨tuples' k.flag,λh' tk kp=>⟨λC cc=>Ei (F.keep kp) hk' rs rv (by omega) cc,λi j C hi hj cc=>?_⟩⟩;have hi':i < ds.length:=by omega
 have hj':j < ds.length:=by omega
 obtain ⟨a1,d1⟩:=hk _ (g5 hi');obtain ⟨a2,d2⟩:=hk _ (g5 hj');have hb:eu (c5 ds i) (c5 ds j)=some (ltB ds i j):=by
  have:=hc _ (g5 hi') _ (g5 hj');unfold ltB;cases z:eu (c5 ds i) (c5 ds j) with
  | none=>rw [z] at this;cases this
  | some b=>rfl
 exact JE (F.keep kp) a1 a2 hb (jH rs hi') (jH rs hj') (jJ rv (by omega)) (jJ rv (by omega)) (by omega) (by omega) (by omega) cc
end
noncomputable def isInt:D->Bool
 | .int _=>true
 | _=>false
def zD (ds:List D):Bool:=decide (ds.length < 64) && ds.all isInt
theorem A6 {K:Tg}{J:Hp}:∀{ds:List D}{vs:List V}{us:List Ti},ds.all isInt=true->aJ K J ds vs->Vals vs us->∃ns,W_ us ns
 | _,_,_,_,.nil,.nil=>⟨[],.nil⟩
 | d::ds,_,_,h,.cons r rs,.cons v vs=>by
  (rw [Wi,Tt] at h)
  obtain ⟨ns,hn⟩:=A6 h.2 rs vs;cases d with
  | int i=>
   cases r;obtain ⟨t,rfl⟩:=v;exact ⟨i::ns,.cons i t hn⟩
  | _=>cases h.1
theorem Lm {K:Tg}{J:Hp}{prog:TU}{w:Uk}{A:Um}{s:Tj}{ds:List D}{vs:List V}{S7:List Ti}(rs:aJ K J ds vs) (rv:Vals vs S7) (hi:ds.all isInt=true):yj prog w A s S7 (ltB ds):=by
 intro h2;have l1:vs.length=S7.length:=rv.length;have l2:ds.length=vs.length:=rs.length;obtain ⟨ns,hI⟩:=A6 hi rs rv;refine ⟨oneType',λh' tk kp=>⟨λC cc=>?_,λi j C hi' hj' cc=>?_⟩⟩
 ·clear l1 rv
  match S7,hI,h2 with
  | v1::v2::r,hI,_=>rw [keyKind_ints hI];exact Th cc
 ·have ai:=T8.mp hi _ (g5 (i:=i) (by omega));have aj:=T8.mp hi _ (g5 (i:=j) (by omega));have r1:=jH rs (i:=i) (by omega);have r2:=jH rs (i:=j) (by omega);have v1:=jJ rv (i:=i) (by omega);have v2:=jJ rv (i:=j) (by omega);show TX _ _ (keyLt' oneType' (S7.getD i Ux) (S7.getD j Ux)) _ _ _;rw [keyLt'_oneType];have e:ltB ds i j=(eu (c5 ds i) (c5 ds j)).getD false:=rfl;rw [e] at cc;generalize c5 ds i=di at ai r1 cc;generalize c5 ds j=dj at aj r2 cc;generalize vs.getD i V.non=wi at r1 v1;generalize vs.getD j V.non=wj at r2 v2;cases di with
  | int a=>
   cases dj with
   | int b=>
    cases r1;cases r2;obtain ⟨t1,q1⟩:=v1;obtain ⟨t2,q2⟩:=v2;rw [q1,q2];refine oneLt_int ?_;unfold eu at cc;exact cc
   | _=>cases aj
  | _=>cases ai
section
variable {X:Cx}{c:C}{e:Uo}{es:List Uo}{pos:Pos}
theorem p6 {H:Hp}{Q:VK}{E:Ti->Tj->Prop}{vs:List V}{ds:List D}(I:Inv X S6 σ H s) (QO:Coll X.prog X.w X.A.in1 s x S7) (rv:Vals vs S7) (l2:ds.length=vs.length) (l64:ds.length < 64)
 (ha:yj X.prog X.w X.A.in1.in1 s S7 (ltB ds)) (q:∀l vs',H l=none->(∀J,aJ X.K J ds vs->aJ X.K J (bR ds) vs')->Q (.ref l) (upd H l (.lst vs'))):TX (T5 X.prog X.w) X.A (call (.builtin "sorted") [x]) (EP X S6 σ Q) E s:=by
 have l1:vs.length=S7.length:=rv.length;refine KN QO (by omega) ha λh' tk l n kp hl hg=>?_;have fin:∀(ot:List Ti) (vs':List V),vs'.length=vs.length->Vals vs' ot->(∀J,aJ X.K J ds vs->aJ X.K J (bR ds) vs')->h'.get? l=some (Vf "list" ot.toArray n)->EP X S6 σ Q (.ref l) {s with heap:=h',toks:=tk}:=λot vs' lv rv' rr hg=>
  ⟨.ref l,_,I.laid (t':=tk) kp hl (show cj X.prog X.w _ _ _ (.lst vs') from ⟨by rw [lv,UH];omega,ot,n,rv',by simpa [Vf] using hg⟩),rfl,q l vs' (I.hok.fresh hl) rr⟩
 by_cases h2:S7.length < 2
 ·rw [if_pos h2] at hg;refine fin S7 vs rfl rv (λJ rj=>?_) hg;unfold bR;rw [if_pos (by omega)];exact rj
 ·rw [if_neg h2] at hg;have ib:∀i∈(aX (ltB ds) (V1 ds.length)).toList,i < ds.length:=λi hi=>by have:=((eV (n:=ds.length) (by omega)).run (ltB ds):eS _ _);have:=(W3 this).mp (YK.mp hi);simpa using this
  have e1:pQ (ltB ds) S7=(aX (ltB ds) (V1 ds.length)).toList.map λi=>S7.getD i Ux:=by unfold pQ;rw [l2,l1]
  rw [e1] at hg;refine fin _ _ ?_ (vK rv _ λi hi=>l2▸ib i hi) (λJ rj=>?_) hg
  ·rw [Tp,<-l2];have:=((eV (n:=ds.length) (by omega)).run (ltB ds):eS _ _).size_eq;simpa using this
  ·unfold bR;rw [if_neg (by omega)];exact vG rj _ ib
theorem zf {H:Hp}(I:Inv X S6 σ H s) (h:bY X.K H p vs\/cZ X.K H p vs):∃S7,Vals vs S7/\Coll X.prog X.w A s (.ref p) S7:=by
 rcases h with h | h
 ·obtain ⟨S7,r,⟨o,n,ho,hc,_,hd⟩,hz⟩:=I.list h;exact ⟨S7,r,AR (.inl rfl) ho hc hd (r.length▸hz)⟩
 ·obtain ⟨S7,r,pt,hz⟩:=I.tuple h;obtain ⟨o,ho,hc,n,hd⟩:=pt;exact ⟨S7,r,AR (.inr rfl) ho hc hd (r.length▸hz)⟩
theorem GK {H:Hp}{ds:List D}(hu:X.A.units + 64 < Vm) (I:Inv X S6 σ H s) (rs:aJ X.K H ds vs) (rv:Vals vs S7) (ok:wK ds=true):ds.length < 64/\yj X.prog X.w X.A.in1.in1 s S7 (ltB ds):=by
 have l1:vs.length=S7.length:=rv.length;have l2:ds.length=vs.length:=rs.length;by_cases h2:ds.length < 2
 ·exact ⟨by omega,λh=>absurd h (by omega)⟩
 ·unfold wK at ok;rw [decide_eq_false h2,adm,Tt,Tt,Tt] at ok;obtain ⟨o1,o2,o3,o4⟩:=ok;have o2:=of_decide_eq_true o2;obtain ⟨k,hk⟩:∃k,gI k ds=true:=by
   unfold GJ at o3;cases ds with
   | nil=>cases o3
   | cons d r=>
    simp only at o3;cases z:gP d with
    | none=>rw [z] at o3;cases o3
    | some k=>rw [z] at o3;exact ⟨k,o3⟩
  refine ⟨of_decide_eq_true o1,Dn (fN I) rs rv (k:=k) (λd hd=>⟨lK hk d hd,?_⟩) hk (λx hx y hy=>T8.mp (T8.mp o4 _ hx) _ hy) hu⟩;obtain ⟨i,hi,rfl⟩:=Ve.mp hd;have:=Jj hi;have e:c5 ds i=ds[i]:=by simp [c5,hi]
  rw [e] at this;omega
theorem yL (hu:X.A.units + 64 < Vm):cJ X (.builtin "sorted") (λxs H Q=>∃p vs ds,xs=[.ref p]/\(bY X.K H p vs\/cZ X.K H p vs)/\aJ X.K H ds vs/\(wK ds=true\/zD ds=true)/\∀l vs',H l=none->(∀J,aJ X.K J ds vs->aJ X.K J (bR ds) vs')->Q (.ref l) (upd H l (.lst vs'))):=by
 intro S6 s σ H xs us Q I r h;obtain ⟨p,vs,ds,rfl,hq,rs,ok,q⟩:=h;obtain ⟨u,rfl,rx⟩:=vals1 r;cases rx;obtain ⟨S7,rv,col⟩:=zf I hq;rcases ok with ok | ok
 ·obtain ⟨l64,ha⟩:=GK hu I rs rv ok;exact p6 I col rv rs.length l64 ha q
 ·unfold zD at ok;rw [Tt] at ok;exact p6 I col rv rs.length (of_decide_eq_true ok.1) (Lm rs rv ok.2) q
end
end DL
namespace DL
open PySem PySem.Spec PyProof.Rows L2
section
variable {X:Cx}{c:C}{e:Uo}{g:G R}{pos:Pos}
noncomputable def sE (i:Nat) (f:R->R->M R) (g:G R):G O:=λenv=>match env[i]? with
 | some (some (.d d))=>g env >>= λy=>f (.d d) y >>= λz=>toS z >>= λx=>.ok (.nx (env.set i (some x)))
 | _=>.bad
theorem JW (i:Nat){x:Str}{pos':Pos}{op:ad9}{r:R2}{f:R->R->M R}(hN:X.N.Nodup) (ho:cS X (Z7 op) r) (hb:BD c r f) (h:PD X c e g) (hi:X.N[i]?=some x:=by rfl) (hx:Loc X.env.scope x:=by first | exact Yu rfl | exact WV rfl)
  (hf:X.fn x=true\/X.env.scope.names.lookup x=some .local:=by first | exact .inl rfl | exact .inr rfl):Lc X c (.AugAssign (.Name x pos') op e pos) (sE i f g):=
 iH (MN hN hi hx h (λS6 s σ H x y v u Q I rx ry q=>OV ho I rx ry q) hf) λE σ H ⟨J,env,sr,w⟩=>by
 unfold sE at w;split at w
 ·rename_i d hd;obtain ⟨v,h1,h2⟩:=sr.at_ i _ hd;refine ⟨v,h1,J,env,sr,aD (aH w) λy wr v' J1 H1 e1 r1=>?_⟩;have sr1:=sr.ext e1;refine hb H H J1 H1 (.d d) y v v' _ sr1.hp (Rep.mono e1.j h2) r1 (aD (aH wr) λz wz w' J2 H2 e2 r2=>?_);obtain ⟨x,q,wz⟩:=vL wz;exact wz (σ.set i (some w')) J2 H2 (e1.j.trans e2.j) (sr1.set e2 r2 q)
 ·exact w.elim
end
section
variable {X:Cx}{c:C}{e:Uo}{es:List Uo}{pos:Pos}
noncomputable def F6:List R->M R
 | [.d (.int i)]=>.ok (.d (.int i))
 | [.d (.bl k)]=>.ok (.d (.int (if k then 1 else 0)))
 | _=>.bad
theorem Dw:UP "int"=some (.type "int"):=by decide +kernel
end
end DL
namespace DL
open PySem PySem.Spec PyProof.Rows L2 DX
section
variable {M:adL}{A:Um}{E:Ti->Tj->Prop}{s:Tj}
theorem Cv {S5:W5}{globals:T3}{closure:List (Str×T3)}{S_:Str}{func:Option T3}{code:Ti}{outer:Env}{builtins:T3}{Q:Env->Tj->Prop}
  (hQ:Q (newEnv S5 s.heap.objs.size globals (UI (s.heap.objs.size + 1) S5.names closure) S_ func code (some outer) builtins) {s with heap:=acg (s.heap.push {cls:=.type "dict",data:=.dict #[]}) S5.names}):
  TX M A (acK S5 globals closure [] S_ func code (some outer) builtins) Q E s:=by simp only [acK,aa_,if_true];refine Tf (wpAny_alloc ?_);refine Tf (wpAny_layCells _ (λname kind cells=>by cases hkc:kind == XJ <;> simp [hkc]) _ _ _ _ ?_);rw [show ({s with heap:=s.heap.push {cls:=.type "dict",data:=.dict #[]}}:Tj).heap.objs.size=s.heap.objs.size + 1 from Wt ..];simp only [List.forIn_nil];exact Tf (Th (Th hQ))
theorem jv:∀(names:List (Str×VX)) (n:Nat) (acc:List (Str×T3)) (x:Str),(∀y∈names,y.2=.cell->y.1≠x)->(UI n names acc).lookup x=acc.lookup x
 | [],_,_,_,_=>by unfold UI;rfl
 | (y,k)::r,n,acc,x,h=>by
  have hr:∀z∈r,z.2=.cell->z.1≠x:=λz hz=>h z (Tq _ hz);unfold UI;split
  ·rename_i hk;rw [jv r _ _ x hr];have hy:y≠x:=h (y,k) (Tu ..) (by simpa using hk);have:(x == y)=false:=by
    cases q:x == y with
    | false=>rfl
    | true=>exact absurd (eq_of_beq q).symm hy
   rw [Vn,this]
  ·exact jv r _ _ x hr
end
theorem xO:∀(names:List (Str×VX)) (n:Nat) (acc:List (Str×T3)),UI n names acc=UI n names []++acc:=by
 intro names
 suffices ∀(n:Nat) (a b:List (Str×T3)),UI n names (a++b)=UI n names a++b by intro n acc;exact this n [] acc
 induction names with
 | nil=>intro n a b;unfold UI;rfl
 | cons p r ih=>
  obtain ⟨y,k⟩:=p;intro n a b;unfold UI;split
  ·exact ih _ (_::a) b
  ·exact ih _ a b
def cU (names:List (Str×VX)) (x:Str):Bool:=names.any λy=>y.1 == x && y.2 == .cell
theorem gn:∀(names:List (Str×VX)) (n:Nat) (acc:List (Str×T3)) (x:Str),((acc.lookup x).isSome=true\/cU names x=true)->((UI n names acc).lookup x).isSome=true
 | [],_,_,_,h=>by
  unfold UI;rcases h with h | h
  ·exact h
  ·cases h
 | (y,k)::r,n,acc,x,h=>by
  unfold UI;have e:cU ((y,k)::r) x=((y == x && k == .cell) || cU r x):=rfl;rw [e] at h;split
  ·rename_i hk;refine gn r _ _ x ?_;by_cases hx:x=y
   ·left;subst hx;rw [Vn];simp
   ·rcases h with h | h
    ·left;rw [Vn];cases q:x == y with
     | true=>exact absurd (eq_of_beq q) hx
     | false=>exact h
    ·rw [WC,Tt] at h;rcases h with h | h
     ·exact absurd (eq_of_beq h.1).symm hx
     ·exact .inr h
  ·rename_i hk;refine gn r _ _ x ?_;rcases h with h | h
   ·exact .inl h
   ·rw [WC,Tt] at h;rcases h with h | h
    ·exact absurd h.2 hk
    ·exact .inr h
theorem fX {cl:List (Str×T3)}(h:(UI n names cl).lookup x=some d):
  (UI n names []).lookup x=some d\/(cU names x=false/\cl.lookup x=some d):=by
 rw [xO,List.lookup_append] at h;cases q:(UI n names []).lookup x with
 | some e=>rw [q] at h;left;simpa using h
 | none=>
  rw [q] at h;right;refine ⟨?_,by simpa using h⟩;cases z:cU names x with
  | false=>rfl
  | true=>
   have:=gn names n [] x (.inr z);rw [q] at this;cases this
theorem oK {S5:W5}(h:(relabel S5 env).names.lookup x=some .cell\/(relabel S5 env).names.lookup x=some .free):(x,U0)∈S5.names\/cU S5.names x=true:=by
 unfold relabel at h;revert h;generalize S5.names=names
 induction names with
 | nil=>intro h;simp at h
 | cons p r ih=>
  obtain ⟨n,k⟩:=p;intro h;rw [TV] at h;simp only at h;by_cases hx:x=n
  ·subst hx;cases k with
   | free=>exact .inl (Tu ..)
   | cell=>right;unfold cU;simp
   | _=>simp [Vn] at h
  ·have e:(x == n)=false:=by simpa using hx
   have h':(r.map λ(n,k)=>if (k == U0 && env.scope.kind == .function && env.kindOf n == some .cell) then (n,XJ) else (n,k)).lookup x=some .cell\/(r.map λ(n,k)=>if (k == U0 && env.scope.kind == .function && env.kindOf n == some .cell) then (n,XJ) else (n,k)).lookup x=some .free:=by split at h <;> simpa [Vn,e] using h
   rcases ih h' with z | z
   ·exact .inl (Tq _ z)
   ·right;unfold cU at z ⊢;rw [YL,z,Bool.or_true]
section
variable {X:Cx}
noncomputable def cR (X:Cx) (own:List Str) (cap:List Nat) (S5:W5) (cl:List (Str×T3)) (C:T3) (s:Tj) (H:Hp) (fp:List T3):Cx:=
 {Ly X own cap S5 (UI (C + 1) S5.names cl) C s H fp with fn:=cU S5.names}
theorem Jg {H:Hp}{s:Tj}{S5:W5}(I:Inv X S6 σ H s) (hk:S5.kind=.function)
 (hcl:dD X.env.cells S5.names []=some cl) (ck:ad2 h1 (s.heap.objs.size + 1) (UI (s.heap.objs.size + 1) S5.names [])) (hfp:∀b∈fp,jW X S6 H b) (hin:∀b∈fp,b < s.heap.objs.size):(cR X own cap S5 cl s.heap.objs.size s H fp).Ok:=by
 obtain ⟨m1,m2⟩:=gO S5.names [] cl hcl (λx c h=>by simp at h);have lo:∀{x:Str}{d:T3},(UI (s.heap.objs.size + 1) S5.names []).lookup x=some d->s.heap.objs.size + 1<=d:=fun {x d} h=>(ck.empty _ _ (XQ h)).2;have old:∀{x:Str}{d:T3},cl.lookup x=some d->d < s.heap.objs.size:=fun {x d} h=>by obtain ⟨v,z⟩:=I.cell x d (m1 x d h);exact z.lt
 refine ⟨I.ok.mod,hk,I.ok.glob,I.ok.blt,Tv _,λx y d h1 h2=>?_,λx hx=>?_,λx d hf h=>?_,λhc=>I.ok.hd hc,I.ok.frames,.inl rfl,λb hb=>⟨Ua (hin b hb),λx d h=>?_⟩,
  I.bs,T6 I.ok.bsz I.sz,λb o h hb=>?_,λb hb hf=>?_,I.stack,I.stkFree⟩
 ·rcases fX h1 with h1 | ⟨_,h1⟩
  ·rcases fX h2 with h2 | ⟨_,h2⟩
   ·exact name_of_addr ck.apart (XQ h1) (XQ h2)
   ·exact absurd (T9 (old h2) (WE (lo h1))) (US _)
  ·rcases fX h2 with h2 | ⟨_,h2⟩
   ·exact absurd (T9 (old h1) (WE (lo h2))) (US _)
   ·exact I.ok.inj x y d (m1 x d h1) (m1 y d h2)
 ·refine U1.mp (gn _ _ _ x ?_);rcases oK hx with z | z
  ·exact .inl (m2 x (.inr z))
  ·exact .inr z
 ·rcases fX h with h | ⟨z,h⟩
  ·exact WE (lo h)
  ·have hf':cU S5.names x=true:=hf;rw [z] at hf';cases hf'
 ·rcases fX h with h | ⟨_,h⟩
  ·exact WJ (T9 (hin b hb) (WE (lo h)))
  ·exact (hfp b hb).2.2.2.2.1 x d (m1 x d h)
 ·rcases (hfp b hb).2.2.2.1 with z | z
  ·exact I.ok.noex b o h z
  ·exact absurd (T9 (TN (I.ok.bs b o h).1) z) (US _)
 ·rcases TZ.mp (I.stkSub b hf) with e | e
  ·exact (hfp b hb).2.1 e
  ·exact (hfp b hb).2.2.1 e
end
theorem zu {cl:List (Str×T3)}(h:cU names x=false):(UI n names cl).lookup x=cl.lookup x:=
 jv names n cl x λy hy hk e=>by unfold cU at h;have:=List.any_eq_false.mp h y hy;simp [hk,e] at this
section
variable {X:Cx}
theorem F1 {S6:List (T3×Obj)}{σ:L2.St}{H:Hp}{s:Tj}{own:List Str}{cap:List Nat}{S5:W5}{cl:List (Str×T3)}{fp:List T3}{h1:Vd}{m:Str->Option Ti}{tk:Nat}(I:Inv X S6 σ H s) (ok:(cR X own cap S5 cl s.heap.objs.size s H fp).Ok)
  (hcl:dD X.env.cells S5.names []=some cl) (ck:ad2 h1 (s.heap.objs.size + 1) (UI (s.heap.objs.size + 1) S5.names [])) (hcap:qq X cap=true) (QT:∀j∈cap,∀x,X.N[j]?=some x->(relabel S5 X.env).names.lookup x≠some .local)
  (hno:∀j∈cap,∀x,X.N[j]?=some x->cU S5.names x=false) (hns:h1.Ns s.heap.objs.size m) (old:∀b o,s.heap.get? b=some o->h1.get? b=some o):
  Inv (cR X own cap S5 cl s.heap.objs.size s H fp) [] (Vj own.length none++cap.map λ(j:Nat)=>(σ[j]?).getD none) H {s with heap:=h1,toks:=tk}:=by
 obtain ⟨m1,m2⟩:=gO S5.names [] cl hcl (λx c h=>by simp at h);refine ⟨ok,rfl,I.bare,Un.kept old,⟨m,hns,λi x v q1 q2 q3=>?_⟩,λx d h=>?_,I.hok.fresh (Tv _),λx d h=>?_,λp hp=>absurd (show p∈([]:List (T3×Obj)) from hp) (by simp),I.hok.kept old,?_⟩
 ·obtain ⟨j,h2,h3,h4⟩:=kj q2;have q1':(own++cap.map λ(j:Nat)=>(X.N[j]?).getD ("":Str))[i]?=some x:=q1;rw [Va (by exact h2),Uh,h3] at q1';have hj:j∈cap:=UJ h3;have hc:(match X.N[j]? with
   | some x=>(match X.env.scope.names.lookup x with
    | some .cell=>true
    | some .free=>true
    | _=>false)
   | none=>false)=true:=by unfold qq at hcap;exact T8.mp hcap j hj
  cases hx:X.N[j]? with
  | none=>rw [hx] at hc;cases hc
  | some y=>
   rw [ab7,hx] at q1';rw [hx] at hc;have e:y=x:=by simpa using q1'
   subst e;have kd:X.env.kindOf y=some .cell\/X.env.kindOf y=some .free:=by
    unfold ael;simp only at hc;split at hc
    ·rename_i z;exact .inl z
    ·rename_i z;exact .inr z
    ·cases hc
   obtain ⟨mX,nX,lX⟩:=I.loc;obtain ⟨u,ru,lu⟩:=lX j y v hx h4 (kd.elim (λz=>.inr (.inl z)) λz=>.inr (.inr z));refine ⟨u,ru,.inr ?_⟩;have kd':(relabel S5 X.env).names.lookup y=some .cell\/(relabel S5 X.env).names.lookup y=some .free:=by
    rcases q3 with z | z | z
    ·exact absurd z (QT j hj y hx)
    ·exact .inl z
    ·exact .inr z
   refine ⟨kd',?_⟩;have no:=hno j hj y hx;have fr:(y,U0)∈S5.names:=by
    rcases oK kd' with z | z
    ·exact z
    ·rw [no] at z;cases z
   obtain ⟨d,hd⟩:=U1.mp (m2 y (.inr fr));refine ⟨d,(zu no).trans hd,?_⟩;rcases lu with ⟨z,_⟩ | ⟨_,d',hd',z⟩
   ·rcases kd with k | k <;> (rw [k] at z;cases z)
   ·have:=m1 y d hd;rw [hd'] at this;cases this;obtain ⟨o,ho,hod⟩:=z;exact ⟨o,old _ _ ho,hod⟩
 ·rcases fX h with h | ⟨_,h⟩
  ·exact ⟨none,(ck.empty _ _ (XQ h)).1⟩
  ·obtain ⟨v,o,ho,hod⟩:=I.cell x d (m1 x d h);exact ⟨v,o,old _ _ ho,hod⟩
 ·rcases fX h with h | ⟨_,h⟩
  ·exact I.hok.fresh (WE (ck.empty _ _ (XQ h)).2)
  ·exact I.freeC x d (m1 x d h)
 ·show _=(own++cap.map λ(j:Nat)=>(X.N[j]?).getD ("":Str)).length;simp
end
theorem Mp (h:Vd) (names:List (Str×VX)):(acg (h.push {cls:=.type "dict",data:=.dict #[]}) names).Ns h.objs.size (λ_=>none):=
 (Heap.Ns.new h (.type "dict")).keeps λb o e=>ach _ _ _ _ e
theorem DP (h:Vd) (names:List (Str×VX)):ad2 (acg (h.push {cls:=.type "dict",data:=.dict #[]}) names) (h.objs.size + 1) (UI (h.objs.size + 1) names []):=by have:=cellsFrom_ok names (h.push {cls:=.type "dict",data:=.dict #[]}) (h.objs.size + 1) [] ⟨λ_ _ hm=>(nomatch hm),WB⟩ (by rw [Wt];exact Tv _);rw [Wt] at this;exact this
noncomputable def HY (X:Cx) (cap:List Nat) (S5:W5):Bool:=cap.all λj=>match X.N[j]? with
 | some x=>!cU S5.names x
 | none=>true
section
variable {X:Cx}{c:C}
theorem mH {names names2:List (Str×VX)}(h:dD cells names []=some cl)
 (hn:(names2.all λy=>!(y.2 == .free) || ((names.any λz=>z.1 == y.1 && z.2 == .free) || cU names y.1))=true):(dD (UI n names cl) names2 []).isSome=true:=by
 obtain ⟨_,m2⟩:=gO names [] cl h (λx c h=>by simp at h);have go:∀(l:List (Str×VX)) (cs:List (Str×T3)),(l.all λy=>!(y.2 == .free) || ((names.any λz=>z.1 == y.1 && z.2 == .free) || cU names y.1))=true->(dD (UI n names cl) l cs).isSome=true:=by
  intro l
  induction l with
  | nil=>intro cs _;rfl
  | cons y r ih=>
   obtain ⟨y,k⟩:=y;intro cs hl;rw [Wi,Tt] at hl;unfold dD;split
   ·rename_i hk;have h1:=hl.1;simp only [hk,VZ,adm,WC] at h1;have:((UI n names cl).lookup y).isSome=true:=by
     refine gn names n cl y ?_;rcases h1 with z | z
     ·obtain ⟨q,hq,e⟩:=UL.mp z;rw [Tt] at e;have e1:q=(y,U0):=by
       obtain ⟨q1,q2⟩:=q;have a1:q1=y:=eq_of_beq e.1;have a2:q2=U0:=by simpa using e.2
       rw [a1,a2]
      exact .inl (m2 y (.inr (e1▸hq)))
     ·exact .inr z
    obtain ⟨a,ha⟩:=U1.mp this;rw [ha];exact ih _ hl.2
   ·exact ih _ hl.2
 exact go names2 [] hn
end
section
variable {X:Cx}{c:C}{e:Uo}{es:List Uo}{g:G R}{pos:Pos}
theorem EZ {p:Pos}{gs:G (List R)}(ha:jd X c (e::es) gs) (hm:X.mg "int"=none) (hg:Gl X "int":=by rfl)
  (he:TF (e::es) X.env=(false,eval e X.env)::TF es X.env:=by rfl) (hpl:(U_ pos (TF es X.env)).any (·.1)=false:=by rfl):QD X c (.Call (.Name "int" p) (e::es) [] pos) (gN F6 gs):=have ha:=ha.h;⟨
 wL DE (by
  intro He J H xs vs Q hp rs w;unfold F6 at w;split at w
  ·obtain ⟨v,rfl,r⟩:=rs.one;cases r;exact .inl ⟨_,rfl,w _ J H (Ext.refl hp.sub) (.int _)⟩
  ·obtain ⟨v,rfl,r⟩:=rs.one;cases r;exact .inr ⟨_,rfl,w _ J H (Ext.refl hp.sub) (.int _)⟩
  ·exact w.elim) Dw hm ha hg (by decide) (by decide) he hpl⟩
theorem ET (i:Nat) (hN:X.N.Nodup) (h:QD X c e g) (hi:X.N[i]?=some x:=by rfl) (hx:Loc X.env.scope x:=by first | exact Yu rfl | exact WV rfl) (hf:X.fn x=true\/X.env.scope.names.lookup x=some .local:=by first | exact .inl rfl | exact .inr rfl):
  jo X c (.AugAssign (.Name x pos') .Add e pos) (sE i u_ g):=have h:=h.h;⟨JW i hN Jv (f7 λ_ _ _=>.int _) h hi hx hf⟩
theorem Jt {K:Tg}{st:Wm}{kV doc pm cdv ct:Ti}(l:K.lookup f=some ⟨oc,od,.func (UE x S_ (cP st) (bU st) (aY st) (.ref T) kV doc pm an cdv ct),osl⟩)
 (cd:Wn K cdv S_=true) (k:U5 K (.ref f)=true) (lT:K.lookup T=some ⟨oT,dT,.seq #[.none] n,sT⟩):nq K x S_ st f (UE x S_ (cP st) (bU st) (aY st) (.ref T) kV doc pm an cdv ct):=
 ⟨⟨oc,od,T,_,n,kV,doc,pm,an,cdv,ct,osl,rfl,l,cd,lT,rfl⟩,k⟩
end
end DL
namespace K51
open PySem DL
end K51
namespace WP
open PySem DL K01
def Wp {α:Type}(m:M α) (P:α->Prop):Prop:=∃a,m=.ok a/\P a
section
variable {α β:Type}{m:M α}{P P':α->Prop}{a:α}{env:Ev}{Q:O->Prop}{t u:G O}{g:G R}{r r':R}{i:Nat}{b:G Bool}
theorem Wp.of (h:m=.ok a) (p:P a):Wp m P:=⟨a,h,p⟩
theorem Wp.mono (h:Wp m P) (k:∀a,P a->P' a):Wp m P':=let ⟨a,h1,h2⟩:=h;⟨a,h1,k a h2⟩
theorem Wp.eq (h:Wp m (·=a)):m=.ok a:=let ⟨_,h1,h2⟩:=h;h2▸h1
theorem n_ {P:R->Prop}(h:Wp (t env) λo=>∃r,o=.rt r/\P r):Wp (fin (t env)) P:=by obtain ⟨_,h1,r,rfl,h2⟩:=h;exact ⟨r,by rw [h1];rfl,h2⟩
theorem uN (h:Wp (t env) λo=>∃e,o=.nx e):fin (t env)=.ok (.d .non):=by obtain ⟨_,h1,r,rfl⟩:=h;rw [h1];rfl
theorem bX (h:Wp (t env) (·=.rt r)):fin (t env)=.ok r:=by rw [h.eq];rfl
theorem cF (h:Wp (t env) λo=>match o with
 | .nx e=>Wp (u e) Q
 | o=>Q o):Wp (aK t u env) Q:=by
 obtain ⟨o,h1,h2⟩:=h;show Wp (t env >>= _) Q;rw [h1];cases o with
 | nx e=>exact h2
 | rt r=>exact ⟨_,rfl,h2⟩
 | bk e=>exact ⟨_,rfl,h2⟩
 | ct e=>exact ⟨_,rfl,h2⟩
theorem gJ (h:g env=.ok r) (h2:toS r=.ok x) (k:Q (.nx (env.set i (some x)))):Wp (bh i g env) Q:=⟨_,by show (g env >>= _)=_;rw [h,aL,h2];rfl,k⟩
theorem bB (h:g env=.ok r) (h2:toS r=.ok x) (k:Wp (u (env.set i (some x))) Q):Wp (aK (bh i g) u env) Q:=cF (gJ h h2 k)
theorem bC (h:g env=.ok r) (h2:rF r=.ok r') (k:Q (.rt r')):Wp (bu g env) Q:=⟨_,E4 h h2,k⟩
theorem N8 (h:g env=.ok r) (h2:rF r=.ok r') (k:Q (.rt r')):Wp (aK (bu g) u env) Q:=cF (bC h h2 k)
theorem fP (k:Q (.nx env)):Wp (c9 env) Q:=⟨_,rfl,k⟩
theorem Pd (k:Wp (u env) Q):Wp (aK c9 u env) Q:=cF (fP k)
theorem qB (h:b env=.ok true) (k:Wp (t env) Q):Wp (bQ b t u env) Q:=by rw [mR h];exact k
theorem pN (h:b env=.ok false) (k:Wp (u env) Q):Wp (bQ b t u env) Q:=by rw [pK h];exact k
theorem j5 (h:b env=.ok c) (k1:c=true->Wp (t env) Q) (k2:c=false->Wp (u env) Q):Wp (bQ b t u env) Q:=by
 cases c with
 | true=>exact qB h (k1 rfl)
 | false=>exact pN h (k2 rfl)
theorem N9 {v:G O}(h:b env=.ok true) (k:Wp (aK t v env) Q):Wp (aK (bQ b t u) v env) Q:=by
 have:aK (bQ b t u) v env=aK t v env:=by unfold aK;rw [mR h]
 rw [this];exact k
theorem Pc {v:G O}(h:b env=.ok false) (k:Wp (aK u v env) Q):Wp (aK (bQ b t u) v env) Q:=by
 have:aK (bQ b t u) v env=aK u v env:=by unfold aK;rw [pK h]
 rw [this];exact k
theorem gu {v:G O}(h:b env=.ok false) (k:Wp (v env) Q):Wp (aK (bQ b t c9) v env) Q:=Pc h (Pd k)
theorem iG {xs:List D}(h0:env[i]?=some (some (.own xs))) (h:g env=.ok r) (h2:toD r=.ok d) (hl:xs.length<=1000) (k:Q (.nx (env.set i (some (.own (xs++[d])))))):Wp (iK i g env) Q:=by refine ⟨_,?_,k⟩;unfold iK;rw [h0];show (g env >>= _)=_;rw [h,aL,h2,aL,if_pos (Zg hl (by decide))]
theorem N6 {xs:List D}{d:D}(h0:env[i]?=some (some (.own xs))) (h:g env=.ok r) (h2:toD r=.ok d) (hl:xs.length<=1000) (k:Wp (u (env.set i (some (.own (xs++[d]))))) Q):Wp (aK (iK i g) u env) Q:=cF (iG h0 h h2 hl k)
theorem uo {gi:G (List D)}(h:gi env=.ok ds) (k:Wp (dG tg u ds env) Q):Wp (cG gi tg u env) Q:=by rw [LD h];exact k
theorem dH {gi:G (List D)}{v:G O}(h:gi env=.ok ds) (k:Wp (dG tg t ds env) λo=>match o with
 | .nx e=>Wp (v e) Q
 | o=>Q o):Wp (aK (cG gi tg t) v env) Q:=cF (uo h k)
theorem lD {tg:GT}(I:Nat->Ev->Prop) (ds:List D) (h0:I 0 env) (step:∀(k:Nat) (hk:k < ds.length) (env:Ev),I k env->∃e,tg ds[k] env=.ok e/\Wp (u e) λo=>∃e,o=.nx e/\I (k + 1) e)
  (k:∀e,I ds.length e->Q (.nx e)):Wp (dG tg u ds env) Q:=by
 have key:∀(es:List D) (i:Nat) (env:Ev),ds.drop i=es->i<=ds.length->I i env->Wp (dG tg u es env) Q:=by
  intro es
  induction es with
  | nil=>
   intro i env hd hi hI;have:i=ds.length:=by have:=congrArg Vo hd;rw [VQ] at this;simp at this;omega
   subst this;exact ⟨_,rfl,k _ hI⟩
  | cons d es ih=>
   intro i env hd hi hI;have hlt:i < ds.length:=by have:=congrArg Vo hd;rw [VQ] at this;simp at this;omega
   have e1:=Ws hlt;rw [hd] at e1;obtain ⟨q1,q2⟩:=adn e1;obtain ⟨e,h1,_,h2,e2,rfl,h3⟩:=step i hlt env hI;unfold dG;rw [q1,h1,aL,h2,aL];exact ih (i + 1) e2 q2.symm (by omega) h3
 exact key ds 0 env rfl (Uc _) h0
theorem jO {tg:GT}(I:Nat->Ev->Prop) (h0:I 0 env) (step:∀(k:Nat),k < n->∀env,I k env->∃e,tg (.int k) env=.ok e/\Wp (u e) λo=>∃e,o=.nx e/\I (k + 1) e)
 (k:∀e,I n e->Q (.nx e)):Wp (dG tg u (fz 0 n) env) Q:=by
 have hl:(fz 0 n).length=n:=by simp [fz]
 refine lD I (fz 0 n) h0 (λj hj env hI=>?_) (by rw [hl];exact k);obtain ⟨e,h1,h2⟩:=step j (by rw [hl] at hj;exact hj) env hI;refine ⟨e,?_,h2⟩;rw [<-h1];simp [fz]
theorem n1 {f:List R->M R}(hx:g env=.ok x) (hf:f [x]=.ok z):gN f (ao g aF) env=.ok z:=NK hx hf
theorem two {f:R->R->M R}{h:G R}{x y z:R}(hx:g env=.ok x) (hy:h env=.ok y) (hf:f x y=.ok z):g2 f g h env=.ok z:=by show (g env >>= _)=_;rw [hx,aL,hy,aL,hf]
theorem c1 {F:List S->M R}(hx:g env=.ok x) (hF:F [d7 x]=.ok z):gN (aQ 1 F) (ao g aF) env=.ok (jq z):=by show (ao g aF env >>= _)=_;unfold ao aF;rw [hx];show (match F [d7 x] with | .ok r=>M.ok (jq r) | _=>M.bad)=_;rw [hF]
theorem c2 {F:List S->M R}{h:G R}(hx:g env=.ok x) (hy:h env=.ok y) (hF:F [d7 x,d7 y]=.ok z):gN (aQ 2 F) (ao g (ao h aF)) env=.ok (jq z):=by show (ao g (ao h aF) env >>= _)=_;unfold ao aF;rw [hx,hy];show (match F [d7 x,d7 y] with | .ok r=>M.ok (jq r) | _=>M.bad)=_;rw [hF]
theorem c3 {F:List S->M R}{h k:G R}(hx:g env=.ok x) (hy:h env=.ok y) (hw:k env=.ok w) (hF:F [d7 x,d7 y,d7 w]=.ok z):gN (aQ 3 F) (ao g (ao h (ao k aF))) env=.ok (jq z):=by show (ao g (ao h (ao k aF)) env >>= _)=_;unfold ao aF;rw [hx,hy,hw];show (match F [d7 x,d7 y,d7 w] with | .ok r=>M.ok (jq r) | _=>M.bad)=_;rw [hF]
theorem c4 {F:List S->M R}{h k l:G R}(hx:g env=.ok x) (hy:h env=.ok y) (hw:k env=.ok w) (hv:l env=.ok v) (hF:F [d7 x,d7 y,d7 w,d7 v]=.ok z):gN (aQ 4 F) (ao g (ao h (ao k (ao l aF)))) env=.ok (jq z):=by show (ao g (ao h (ao k (ao l aF))) env >>= _)=_;unfold ao aF;rw [hx,hy,hw,hv];show (match F [d7 x,d7 y,d7 w,d7 v] with | .ok r=>M.ok (jq r) | _=>M.bad)=_;rw [hF]
theorem x3 {F:List S->M R}{h k:G R}{x y w z:R}(hx:g env=.ok x) (hy:h env=.ok y) (hw:k env=.ok w) (hF:F [d7 x,d7 y,d7 w]=.ok z):gN (LH 3 F) (ao g (ao h (ao k aF))) env=.ok (jq z):=by show (ao g (ao h (ao k aF)) env >>= _)=_;unfold ao aF;rw [hx,hy,hw];show (match F [d7 x,d7 y,d7 w] with | .ok r=>M.ok (jq r) | .exc x=>.exc x | .bad=>M.bad)=_;rw [hF]
theorem kK (h:g env=.ok r) (k:Wp (u env) Q):Wp (aK (jN g) u env) Q:=cF ⟨.nx env,by show (g env >>= _)=_;rw [h];rfl,k⟩
theorem Lu {n:Nat}{cap:List Nat}{gi:G (List D)}{tg:GT}{ge:G R}{gts:G Bool}{α:Type}{xs:List α}{h:α->D}(o:α->Ev) (p:α->Bool) (f:α->D) (hi:gi env=.ok (xs.map h)) (hl:xs.length<=1000000)
  (ho:∀x,(o x).length=n) (ht:∀x (e:Ev),e.length=n->tg (h x) (e++cE 0 cap env)=.ok (o x++cE 0 cap env))
  (hb:∀x∈xs,gts (o x++cE 0 cap env)=.ok (p x)/\(p x=true->∃r,ge (o x++cE 0 cap env)=.ok r/\toD r=.ok (f x))):bK n cap gi tg gts ge env=.ok (.l .fresh ((xs.filter p).map f)):=by
 have key:∀(es:List α) (x:Ev),x.length=n->(∀d∈es,d∈xs)->fB tg gts ge (es.map h) (x++cE 0 cap env)=.ok ((es.filter p).map f):=by
  intro es
  induction es with
  | nil=>exact λ_ _ _=>rfl
  | cons d es ih=>
   intro x hx hm;obtain ⟨h0,h1⟩:=hb d (hm d Tu);have ih:=ih (o d) (ho d) λe he=>hm e (Tq _ he);rw [TV];unfold fB;rw [ht d x hx,aL,h0,aL];cases q:p d with
   | true=>
    obtain ⟨r,h1,h2⟩:=h1 q;rw [if_pos rfl,h1,aL,h2,aL,ih,ZH q];rfl
   | false=>
    rw [if_neg (by decide),ZI (by simp [q])];exact ih
 unfold bK;rw [hi,aL,if_pos (by rw [UH,Tp];omega)];show (fB tg gts ge _ (Vj n none++cE 0 cap env) >>= _)=_;rw [key xs _ VJ λ_ h=>h];rfl
theorem HW {α:Type}(xs:List α):xs.filter (λ_=>true)=xs:=WS.mpr λ_ _=>rfl
theorem kq {gi:G (List D)}{ge:G R}{gts:G Bool}{α:Type}{xs:List α}{h:α->D}(p:α->Bool) (f:α->D) (hi:gi env=.ok (xs.map h)) (hl:xs.length<=1000000)
 (hb:∀x∈xs,gts (some (.d (h x))::cE 0 cap env)=.ok (p x)/\(p x=true->∃r,ge (some (.d (h x))::cE 0 cap env)=.ok r/\toD r=.ok (f x))):bK 1 cap gi (az 0) gts ge env=.ok (.l .fresh ((xs.filter p).map f)):=
 Lu (λx=>[some (.d (h x))]) p f hi hl (λ_=>rfl) (λ_ e he=>match e,he with | [_],_=>rfl) hb
theorem jw {gi:G (List D)}{ge:G R}{α:Type}{xs:List α}{h:α->D}(f:α->D) (hi:gi env=.ok (xs.map h)) (hl:xs.length<=1000000)
 (hb:∀x∈xs,∃r,ge (some (.d (h x))::cE 0 cap env)=.ok r/\toD r=.ok (f x)):bK 1 cap gi (az 0) b_ ge env=.ok (.l .fresh (xs.map f)):=by
 have:=kq (gts:=b_) (λ_=>true) f hi hl λx hx=>⟨rfl,λ_=>hb x hx⟩
 rwa [HW] at this
theorem Lv {cap:List Nat}{gi:G (List D)}{ge:G R}{gts:G Bool}{α:Type}{xs:List α}(a b:α->D) (p:α->Bool) (f:α->D) (hi:gi env=.ok (xs.map λx=>.tup [a x,b x])) (hl:xs.length<=1000)
  (h:∀x∈xs,gts (some (.d (a x))::some (.d (b x))::cE 0 cap env)=.ok (p x)/\(p x=true->∃r,ge (some (.d (a x))::some (.d (b x))::cE 0 cap env)=.ok r/\toD r=.ok (f x))):bK 2 cap gi (c7 2 (bx (az 0) (bx (az 1) dc))) gts ge env=.ok (.l .fresh ((xs.filter p).map f)):=
 Lu (λx=>[some (.d (a x)),some (.d (b x))]) p f hi (by omega) (λ_=>rfl) (λ_ e he=>match e,he with | [_,_],_=>rfl) h
theorem qu {gi:G (List D)}{ge:G R}{α:Type}{xs:List α}(a b:α->D) (f:α->D) (hi:gi env=.ok (xs.map λx=>.tup [a x,b x])) (hl:xs.length<=1000)
 (h:∀x∈xs,∃r,ge (some (.d (a x))::some (.d (b x))::cE 0 cap env)=.ok r/\toD r=.ok (f x)):bK 2 cap gi (c7 2 (bx (az 0) (bx (az 1) dc))) b_ ge env=.ok (.l .fresh (xs.map f)):=by
 have:=Lv (gts:=b_) a b (λ_=>true) f hi hl λx hx=>⟨rfl,λ_=>h x hx⟩
 rwa [HW] at this
theorem M3 (n:Nat):fz 0 n=(Tw n).map dN:=by simp [fz]
theorem iu {gs:G (List R)}{n:Nat}(hg:gs env=.ok [.d (.int (n:Int))]) (h:n<=1000):bW gs env=.ok ((Tw n).map dN):=by rw [lg hg h,M3]
theorem b8 (h:g env=.ok x):ao g aF env=.ok [x]:=by show (g env >>= _)=_;rw [h];rfl
theorem bw:aW env=.ok []:=rfl
theorem aI {gs:G (List D)}(h:g env=.ok r) (h2:toD r=.ok d) (k:gs env=.ok ds):aE g gs env=.ok (d::ds):=by show (g env >>= _)=_;rw [h,aL,h2,aL,k];rfl
theorem bF {gs:G (List D)}{ds:List D}(h:gs env=.ok ds) (hl:ds.length<=1000):bO gs env=.ok (.d (.tup ds)):=by show (gs env >>= _)=_;rw [h,aL,if_pos (fu hl)]
theorem gQ {gs:G (List D)}{ds:List D}(h:gs env=.ok ds) (hl:ds.length<=1000):d_ gs env=.ok (.l .fresh ds):=by show (gs env >>= _)=_;rw [h,aL,if_pos (fu hl)]
theorem pM {α:Type}{xs:List α}{h:α->D}(f:R) (hf:g9 f=.ok (xs.map h)) (i:Int) (h0:0<=i) (hi:i < xs.length):∃x∈xs,a_ f (.d (.int i))=.ok (.d (h x)):=by
 obtain ⟨k,rfl⟩:=Int.eq_ofNat_of_zero_le h0;have hk:k < xs.length:=by omega
 refine ⟨xs[k],Wb hk,?_⟩;have h1:(xs.map h)[k]?=some (h xs[k]):=by rw [Uh,TR hk];rfl
 cases f with
 | d x=>
  cases x with
  | tup ys=>cases hf;exact qy h1
  | lst ys=>cases hf;unfold a_;simp only [g9,aL,qp h1]
  | _=>cases hf
 | l m x=>cases hf;exact eZ h1
 | mo _ _=>cases hf
 | mb _ _=>cases hf
 | mf _ _=>cases hf
theorem yh (h:env[i]?=some (some (.own xs))) (k:Wp (t (env.set i (some (.d (.lst xs))))) Q):Wp (jg i t env) Q:=by
 have:jg i t env=t (env.set i (some (.d (.lst xs)))):=by unfold jg;rw [h]
 rw [this];exact k
theorem NG (h:g env=.ok r) (h2:toD r=.ok d) (h3:tg d env=.ok e) (k:Q (.nx e)):Wp (sD tg g env) Q:=⟨_,by show (g env >>= _)=_;rw [h,aL,h2,aL,h3];rfl,k⟩
theorem CI (h:g env=.ok r) (h2:toD r=.ok d) (h3:tg d env=.ok e) (k:Wp (u e) Q):Wp (aK (sD tg g) u env) Q:=cF (NG h h2 h3 k)
theorem FN {α:Type}(xs:List α) (z:α):L2.lM (xs++[z]) (-1)=some z:=by unfold L2.lM L2.zh;rw [if_neg (by decide),if_pos (by simp;omega)];rw [show ((-1:Int) + ((xs++[z]).length:Nat)).toNat=xs.length by simp;omega];simp
theorem Jz (xs:List D) (z:D):a_ (.d (.tup (xs++[z]))) (.d (.int (-1)))=.ok (.d z):=by unfold a_;simp only [g9,aL,FN]
theorem yb (neg:Bool) (x:D) (ys:List D) (h:deps ys<=60) (hx:dep x<=60):gp neg (.d x) (.d (.tup ys))=.ok (.d (.bl (if neg then !inD x ys else inD x ys))):=by show (if deps ys<=60/\dep x<=60 then M.ok (R.d (.bl (if neg then !inD x ys else inD x ys))) else M.bad)=_;rw [if_pos ⟨h,hx⟩]
theorem lO (neg:Bool) (x y:R) (h:dep x.dat<=60) (hx:dep y.dat<=60):cT neg x y=.ok (.d (.bl (if neg then !aZ x.dat y.dat else aZ x.dat y.dat))):=by unfold cT;rw [if_pos ⟨h,hx⟩]
theorem fK:∀{xs:List D},(∀x∈xs,dep x<=n)->deps xs<=n
 | [],_=>Uc _
 | x::xs,h=>by have h1:=h x Tu;have h2:=fK (xs:=xs) λy hy=>h y (Tq _ hy);simp only [deps];omega
theorem DV (xs:List Nat):deps (xs.map dN)<=60:=fK λx hx=>by obtain ⟨k,_,rfl⟩:=Tr.mp hx;exact Uc _
theorem yQ (xs:List (Nat×Nat)):deps (xs.map dP)<=60:=fK λx hx=>by obtain ⟨k,_,rfl⟩:=Tr.mp hx;exact (by decide:(1:Nat)<=60)
theorem Bw {tb:G Bool}(I:Nat->Ev->Prop) (step:∀d env,I d env->(tb env=.ok false/\Q (.nx env))\/(tb env=.ok true/\Wp (t env) λo=>match o with
  | .nx e=>∃d',d' < d/\I d' e
  | .rt r=>Q (.rt r)
  | _=>False)):∀(n d:Nat) (env:Ev),I d env->d < n->Wp (lE tb t n env) Q
 | 0,d,env,_,h=>absurd h (UU _)
 | n + 1,d,env,hI,h=>by
  unfold lE;rcases step d env hI with ⟨h1,h2⟩ | ⟨h1,o,h2,h3⟩
  ·rw [h1];exact ⟨_,rfl,h2⟩
  ·rw [h1,aL,if_pos rfl,h2,aL];cases o with
   | nx e=>
    obtain ⟨d',hd,hI'⟩:=h3;exact Bw I step n d' e hI' (by omega)
   | rt r=>exact ⟨_,rfl,h3⟩
   | bk e=>exact h3.elim
   | ct e=>exact h3.elim
theorem KH {tb:G Bool}(I:Nat->Ev->Prop) (d:Nat) (hd:d < n) (h0:I d env) (step:∀d env,I d env->(tb env=.ok false/\Wp (u env) Q)\/(tb env=.ok true/\Wp (t env) λo=>match o with
 | .nx e=>∃d',d' < d/\I d' e
 | .rt r=>Q (.rt r)
 | _=>False)):Wp (aK (t_ n tb t) u env) Q:=cF (Bw I (λd env h=>by
  rcases step d env h with h | ⟨h1,h2⟩
  ·exact .inl h
  ·refine .inr ⟨h1,h2.mono λo ho=>?_⟩;cases o <;> exact ho) n d env h0 hd)
theorem NH {f:R->R->M R}(h0:env[i]?=some (some (.d d))) (h:g env=.ok y) (hf:f (.d d) y=.ok z) (h2:toS z=.ok x) (k:Q (.nx (env.set i (some x)))):Wp (sE i f g env) Q:=by refine ⟨_,?_,k⟩;unfold sE;rw [h0];show (g env >>= _)=_;rw [h,aL,hf,aL,h2];rfl
end
end WP
namespace K51
open PySem DL K01 WP
structure AI (w:Wd):Prop where
 lo:1<=w.m
 hi:w.m<=8
 ml:w.ms.length<=3
 al:w.ar.length<=3
theorem CQ (xs ys:List D) (h:xs.length + ys.length<=1000):dX (.d (.tup xs)) (.d (.tup ys))=.ok (.d (.tup (xs++ys))):=by show (if xs.length + ys.length<=sizeLine then M.ok (R.d (.tup (xs++ys))) else M.bad)=_;rw [if_pos (fu h)]
theorem O0 (l:Nat) (xs:List Nat):gp false (.d (dN l)) (.d (.tup (xs.map dN)))=.ok (.d (.bl (inD (dN l) (xs.map dN)))):=yb false _ _ (DV xs) (Uc _)
theorem LQ (l:Nat×Nat) (xs:List (Nat×Nat)):gp false (.d (dP l)) (.d (.tup (xs.map dP)))=.ok (.d (.bl (inD (dP l) (xs.map dP)))):=yb false _ _ (yQ xs) (by show (1:Nat)<=60;decide)
theorem t2:(2:Nat)<=1000:=by decide
end K51
namespace K51
open PySem DL K01 WP
open PySem.W (kas_sort)
theorem Fb (ds:List D):(bR ds).length=ds.length:=by
 unfold bR;by_cases h:ds.length < 2
 ·rw [if_pos h]
 ·rw [if_neg h,Tp];have:=(eV (n:=ds.length) (by omega)).run (ltB ds);have:=this.size_eq;simpa using this
theorem Fc {ds:List D}{x:D}(hx:x∈bR ds):x∈ds:=by
 unfold bR at hx;by_cases h:ds.length < 2
 ·rwa [if_pos h] at hx
 ·rw [if_neg h] at hx;have hp:=(eV (n:=ds.length) (by omega)).run (ltB ds);obtain ⟨i,hi,rfl⟩:=Tr.mp hx;have hi:i∈aX (ltB ds) (V1 ds.length):=by simpa using hi
  have:=(W3 hp).mp hi;exact g5 (by simpa using this)
end K51
namespace K51
open PySem DL K01 WP
end K51
namespace DL
open PySem PySem.Spec PyProof.Rows L2
open PySem.W (KasT kas_sort kas_asc kas_desc kas_rev kas_tail3 kas_descPart kas_count kas_place kas_bin)
theorem run_bind {α β:Type}(q:Nat->Nat->Bool) (f:α->KasT β):∀t:KasT α,aX q (t.bind f)=aX q (f (aX q t))
 | .ret _=>rfl
 | .ask i j k=>run_bind q f (k (q i j))
theorem Ho {n:Nat}{α:Type}{P:α->Prop}{t:KasT α}{q q':Nat->Nat->Bool}(h:fE n P t) (e:∀i j,i < n->j < n->q i j=q' i j):aX q t=aX q' t:=by
 induction h with
 | ret _=>rfl
 | @ask i j k h1 h2 _ ih=>
  show aX q (k (q i j))=aX q' (k (q' i j));rw [e _ _ h1 h2];exact ih _
structure Ord (q:Nat->Nat->Bool):Prop where
 asy:∀a b,q a b=true->q b a=false
 tra:∀a b c,q b a=false->q c b=false->q c a=false
section
variable {q:Nat->Nat->Bool}{n:Nat}
abbrev bD (p:Array Nat) (k:Nat):Nat:=p.getD k 0
def Up (q:Nat->Nat->Bool) (p:Array Nat) (k:Nat):Prop:=∀i j,i<=j->j < k->q (bD p j) (bD p i)=false
def Down (q:Nat->Nat->Bool) (p:Array Nat) (k:Nat):Prop:=∀i j,i<=j->j < k->q (bD p i) (bD p j)=false
theorem Ord.irr (O:Ord q) (a:Nat):q a a=false:=by
 cases h:q a a with
 | false=>rfl
 | true=>rw [<-h];exact (O.asy a a h)
theorem getD_eq (h:p[i]?=p'[j]?):bD p i=bD p' j:=by show p.getD i 0=p'.getD j 0;rw [YX,YX,h]
theorem jf {p:Array Nat}(hj:j<=p.size) (k:Nat):bD (YE p i j) k=if i<=k/\k < j then bD p (i + j - 1 - k) else bD p k:=by
 have e:=getElem?_mirror_all (xs:=p) (i:=i) hj k;by_cases c:i<=k/\k < j
 ·rw [if_pos c] at e ⊢;exact getD_eq e
 ·rw [if_neg c] at e ⊢;exact getD_eq e
theorem Dp {p:Array Nat}(hs:src < p.size) (hd:d<=src) (k:Nat):bD (bubble p src d) k=if k=src - d then bD p src else if src - d < k/\k<=src then bD p (k - 1) else bD p k:=by
 have e:=getElem?_bubble hs d hd k;by_cases c:k=src - d
 ·rw [if_pos c] at e ⊢;exact getD_eq e
 ·rw [if_neg c] at e ⊢;by_cases c':src - d < k/\k<=src
  ·rw [if_pos c'] at e ⊢;exact getD_eq e
  ·rw [if_neg c'] at e ⊢;exact getD_eq e
theorem iO (p:Array Nat) (i j:Nat):(YE p i j).size=p.size:=mirror_size _ _ _ _
theorem Up.one (O:Ord q) (p:Array Nat):Up q p 1:=λi j h1 h2=>by
 have:i=j:=by omega
 rw [this];exact O.irr _
theorem Up.more (O:Ord q) (h:Up q p k) (h1:1<=k) (e:q (bD p k) (bD p (k - 1))=false):Up q p (k + 1):=λi j hi hj=>by
 by_cases c:j < k
 ·exact h i j hi c
 ·have:j=k:=by omega
  subst this;by_cases c':i=j
  ·rw [c'];exact O.irr _
  ·exact O.tra _ _ _ (h i (j - 1) (by omega) (by omega)) e
theorem Down.more (O:Ord q) (h:Down q p k) (h1:1<=k) (e:q (bD p (k - 1)) (bD p k)=false):Down q p (k + 1):=λi j hi hj=>by
 by_cases c:j < k
 ·exact h i j hi c
 ·have:j=k:=by omega
  subst this;by_cases c':i=j
  ·rw [c'];exact O.irr _
  ·exact O.tra _ _ _ e (h i (j - 1) (by omega) (by omega))
theorem yD (O:Ord q) (p:Array Nat):∀(f m:Nat),1<=m->Up q p m->m<=aX q (YF p f m)/\aX q (YF p f m)<=m + f/\Up q p (aX q (YF p f m))/\(aX q (YF p f m)=m + f\/q (bD p (aX q (YF p f m))) (bD p (aX q (YF p f m) - 1))=true)
 | 0,m,h1,h=>⟨Tv _,Tv _,h,.inl rfl⟩
 | f + 1,m,h1,h=>by
  have e:aX q (YF p (f + 1) m)=if q (bD p m) (bD p (m - 1))=true then m else aX q (YF p f (m + 1)):=by
   show aX q (if q (bD p m) (bD p (m - 1))=true then KasT.ret m else YF p f (m + 1))=_;by_cases c:q (bD p m) (bD p (m - 1))=true
   ·rw [if_pos c,if_pos c];rfl
   ·rw [if_neg c,if_neg c]
  rw [e];by_cases c:q (bD p m) (bD p (m - 1))=true
  ·rw [if_pos c];exact ⟨Tv _,by omega,h,.inr c⟩
  ·rw [if_neg c];obtain ⟨a1,a2,a3,a4⟩:=yD O p f (m + 1) (by omega) (h.more O h1 (by simpa using c));refine ⟨by omega,by omega,a3,?_⟩;rcases a4 with a4 | a4
   ·exact .inl (by omega)
   ·exact .inr a4
def Alike (q:Nat->Nat->Bool) (p:Array Nat) (i j:Nat):Prop:=∀a b,i<=a->a < j->i<=b->b < j->q (bD p a) (bD p b)=false
theorem wV {p:Array Nat}{i j k:Nat}(hj:j<=p.size) (ha:Alike q p i j) (hd:Down q p j) (O:Ord q):Down q (YE p i j) j:=λa b h1 h2=>by
 rw [jf hj,jf hj];by_cases c:i<=a/\a < j
 ·rw [if_pos c];by_cases c':i<=b/\b < j
  ·rw [if_pos c'];exact ha _ _ (by omega) (by omega) (by omega) (by omega)
  ·omega
 ·rw [if_neg c];by_cases c':i<=b/\b < j
  ·rw [if_pos c'];exact hd _ _ (by omega) (by omega)
  ·rw [if_neg c'];exact hd _ _ h1 h2
theorem M1 {p:Array Nat}(hj:j<=p.size) (hd:Down q p j):Up q (YE p 0 j) j:=λa b h1 h2=>by rw [jf hj,jf hj,if_pos (by omega),if_pos (by omega)];exact hd _ _ (by omega) (by omega)
theorem uA {p:Array Nat}(hj:j<=p.size) (h:j<=k):bD (YE p i j) k=bD p k:=by rw [jf hj,if_neg (by omega)]
theorem lN (O:Ord q):∀(f:Nat) (p:Array Nat) (m e:Nat),1<=m->e + 1<=m->m + f<=p.size->Down q p m->Alike q p (m - (e + 1)) m->
  (aX q (V0 f p m e)).1.size=p.size/\m<=(aX q (V0 f p m e)).2.1/\(aX q (V0 f p m e)).2.1<=m + f/\(aX q (V0 f p m e)).2.2 + 1<=(aX q (V0 f p m e)).2.1/\
  Down q (aX q (V0 f p m e)).1 (aX q (V0 f p m e)).2.1/\Alike q (aX q (V0 f p m e)).1 ((aX q (V0 f p m e)).2.1 - ((aX q (V0 f p m e)).2.2 + 1)) (aX q (V0 f p m e)).2.1
 | 0,p,m,e,h1,h2,h3,h4,h5=>⟨rfl,Tv _,Tv _,h2,h4,h5⟩
 | f + 1,p,m,e,h1,h2,h3,h4,h5=>by
  have solo:∀(p:Array Nat) (m:Nat),Alike q p (m + 1 - (0 + 1)) (m + 1):=λp m a b c1 c2 c3 c4=>by
   have:a=b:=by omega
   rw [this];exact O.irr _
  cases c:q (bD p m) (bD p (m - 1)) with
  | true=>
   have c2:=O.asy _ _ c;by_cases he:e > 0
   ·have er:aX q (V0 (f + 1) p m e)=aX q (V0 f (YE p (m - (e + 1)) m) (m + 1) 0):=by show aX q (if q (bD p m) (bD p (m - 1))=true then _ else _)=_;rw [if_pos c,if_pos he]
    rw [er];have hr:=wV (k:=0) (i:=m - (e + 1)) (by omega:m<=p.size) h5 h4 O;have hl:bD (YE p (m - (e + 1)) m) (m - 1)=bD p (m - (e + 1)):=by rw [jf (by omega),if_pos (by omega)];congr 1;omega
    obtain ⟨a0,a1,a2,a3,a4,a5⟩:=lN O f (YE p (m - (e + 1)) m) (m + 1) 0 (by omega) (by omega) (by rw [iO];omega)
     (hr.more O h1 (by
      rw [hl,uA (by omega) (Tv _)];exact O.tra _ _ _ c2 (h5 _ _ (by omega) (by omega) (by omega) (by omega)))) (solo _ _)
    rw [iO] at a0;exact ⟨a0,by omega,by omega,a3,a4,a5⟩
   ·have er:aX q (V0 (f + 1) p m e)=aX q (V0 f p (m + 1) 0):=by show aX q (if q (bD p m) (bD p (m - 1))=true then _ else _)=_;rw [if_pos c,if_neg he]
    rw [er];obtain ⟨a0,a1,a2,a3,a4,a5⟩:=lN O f p (m + 1) 0 (by omega) (by omega) (by omega) (h4.more O h1 c2) (solo _ _);exact ⟨a0,by omega,by omega,a3,a4,a5⟩
  | false=>
   cases c2:q (bD p (m - 1)) (bD p m) with
   | true=>
    have er:aX q (V0 (f + 1) p m e)=(p,m,e):=by show aX q (if q (bD p m) (bD p (m - 1))=true then _ else _)=_;rw [if_neg (by rw [c];decide)];show aX q (if q (bD p (m - 1)) (bD p m)=true then _ else _)=_;rw [if_pos c2];rfl
    rw [er];exact ⟨rfl,Tv _,Xv _ _,h2,h4,h5⟩
   | false=>
    have er:aX q (V0 (f + 1) p m e)=aX q (V0 f p (m + 1) (e + 1)):=by show aX q (if q (bD p m) (bD p (m - 1))=true then _ else _)=_;rw [if_neg (by rw [c];decide)];show aX q (if q (bD p (m - 1)) (bD p m)=true then _ else _)=_;rw [if_neg (by rw [c2];decide)]
    rw [er];have hal:Alike q p (m + 1 - (e + 1 + 1)) (m + 1):=λa b d1 d2 d3 d4=>by
     by_cases ea:a=m
     ·subst ea;by_cases eb:b=a
      ·rw [eb];exact O.irr _
      ·exact O.tra _ _ _ (h5 (a - 1) b (by omega) (by omega) (by omega) (by omega)) c
     ·by_cases eb:b=m
      ·subst eb;exact O.tra _ _ _ c2 (h5 a (b - 1) (by omega) (by omega) (by omega) (by omega))
      ·exact h5 a b (by omega) (by omega) (by omega) (by omega)
    obtain ⟨a0,a1,a2,a3,a4,a5⟩:=lN O f p (m + 1) (e + 1) (by omega) (by omega) (by omega) (h4.more O h1 c2) hal;exact ⟨a0,by omega,by omega,a3,a4,a5⟩
def Got (q:Nat->Nat->Bool) (N s:Nat) (r:Nat×Array Nat):Prop:=r.2.size=s/\1<=r.1/\r.1<=N/\Up q r.2 r.1
theorem Bs (O:Ord q){p:Array Nat}(h1:1<=m) (hm:m<=N) (hN:N<=p.size) (hd:Down q p m):Got q N p.size (aX q (adE m N p)):=by unfold adE;rw [run_bind];obtain ⟨a1,a2,a3,_⟩:=yD O (YE p 0 m) (N - m) m h1 (M1 (by omega) hd);exact ⟨iO _ _ _,by show 1<=aX q (YF _ _ _);omega,by show aX q (YF _ _ _)<=N;omega,a3⟩
theorem Bd (O:Ord q){p:Array Nat}(h1:1<=m) (hm:m + 1<=N) (hN:N<=p.size) (hd:Down q p (m + 1)):Got q N p.size (aX q (abL m N p)):=by
 unfold abL;rw [run_bind];obtain ⟨a0,a1,a2,a3,a4,a5⟩:=lN O (N - (m + 1)) p (m + 1) 0 (by omega) (by omega) (by omega) hd (λa b c1 c2 c3 c4=>by
  have:a=b:=by omega
  rw [this];exact O.irr _)
 generalize aX q (V0 (N - (m + 1)) p (m + 1) 0)=r at *;obtain ⟨p',m',e'⟩:=r;simp only at *;by_cases c:e' > 0
 ·rw [if_pos c];have:=Bs (N:=N) O (p:=YE p' (m' - (e' + 1)) m') (m:=m') (by omega) (by omega) (by rw [iO];omega) (wV (k:=0) (by omega) a5 a4 O);rw [iO,a0] at this;exact this
 ·rw [if_neg c];have:=Bs (N:=N) O (p:=p') (m:=m') (by omega) (by omega) (by omega) a4;rw [a0] at this;exact this
theorem FZ (O:Ord q){p:Array Nat}(h1:1<=N) (hN:N<=p.size):Got q N p.size (aX q (ab_ N p)):=by
 unfold ab_;rw [run_bind];obtain ⟨a1,a2,a3,a4⟩:=yD O p (N - 1) 1 (Tv _) (Up.one O p);generalize aX q (YF p (N - 1) 1)=m at *;by_cases c:(m == N)=true
 ·rw [if_pos c];exact ⟨rfl,a1,by show m<=N;omega,a3⟩
 ·rw [if_neg c];have hm:m + 1<=N:=by
   have:m≠N:=by simpa using c
   omega
  have a4:q (bD p m) (bD p (m - 1))=true:=by
   rcases a4 with h | h
   ·omega
   ·exact h
  have a5:=O.asy _ _ a4;by_cases c':m > 1
  ·rw [if_pos c'];show Got q N p.size (aX q (if q (bD p 0) (bD p (m - 1))=true then _ else _));by_cases d:q (bD p 0) (bD p (m - 1))=true
   ·rw [if_pos d];exact ⟨rfl,a1,by show m<=N;omega,a3⟩
   ·rw [if_neg d];have d:q (bD p 0) (bD p (m - 1))=false:=by simpa using d
    have all:∀a b,a < m->b < m->q (bD p a) (bD p b)=false:=λa b ha hb=>O.tra _ _ _ (O.tra _ _ _ (a3 b (m - 1) (by omega) (by omega)) d) (a3 0 a (by omega) (by omega));have hd:Down q (YE p 0 m) m:=λa b h1 h2=>by rw [jf (by omega),jf (by omega),if_pos (by omega),if_pos (by omega)];exact all _ _ (by omega) (by omega)
    have:=Bd O (p:=YE p 0 m) (m:=m) (N:=N) (by omega) hm (by rw [iO];exact hN) (hd.more O (by omega) (by
     rw [uA (by omega) (Tv _),jf (by omega),if_pos (by omega),show 0 + m - 1 - (m - 1)=0 by omega];exact O.tra _ _ _ a5 d))
    rw [iO] at this;exact this
  ·rw [if_neg c'];have:m=1:=by omega
   subst this;refine Bd O (Tv _) hm hN ?_;exact Down.more O (λi j h1 h2=>by
    have:i=j:=by omega
    rw [this];exact O.irr _) (Tv _) a5
theorem sM (O:Ord q) (hs:Up q p k):∀(f l r:Nat),l<=r->r<=k->r - l<=f->(∀i,i < l->q (bD p k) (bD p i)=false)->(∀i,r<=i->i < k->q (bD p k) (bD p i)=true)->
  aX q (Wj p k f l r)<=k/\(∀i,i < aX q (Wj p k f l r)->q (bD p k) (bD p i)=false)/\∀i,aX q (Wj p k f l r)<=i->i < k->q (bD p k) (bD p i)=true
 | 0,l,r,h1,h2,h3,h4,h5=>⟨by show l<=k;omega,h4,λi hi=>h5 i (by show r<=i;have:l<=i:=hi;omega)⟩
 | f + 1,l,r,h1,h2,h3,h4,h5=>by
  by_cases c:l ≥ r
  ·have e:aX q (Wj p k (f + 1) l r)=l:=by unfold Wj;rw [if_pos c];rfl
   rw [e];exact ⟨by omega,h4,λi hi=>h5 i (by omega)⟩
  ·cases d:q (bD p k) (bD p ((l + r) / 2)) with
   | true=>
    have e:aX q (Wj p k (f + 1) l r)=aX q (Wj p k f l ((l + r) / 2)):=by rw [Wj,if_neg c];show aX q (if q (bD p k) (bD p ((l + r) / 2))=true then _ else _)=_;rw [if_pos d]
    rw [e];refine sM O hs f l ((l + r) / 2) (by omega) (by omega) (by omega) h4 λi i1 i2=>?_;by_cases ci:r<=i
    ·exact h5 i ci i2
    ·cases dd:q (bD p k) (bD p i) with
     | true=>rfl
     | false=>
      have:=O.tra _ _ _ (hs ((l + r) / 2) i i1 i2) dd;rw [d] at this;cases this
   | false=>
    have e:aX q (Wj p k (f + 1) l r)=aX q (Wj p k f ((l + r) / 2 + 1) r):=by rw [Wj,if_neg c];show aX q (if q (bD p k) (bD p ((l + r) / 2))=true then _ else _)=_;rw [if_neg (by rw [d];decide)]
    rw [e];refine sM O hs f ((l + r) / 2 + 1) r (by omega) (by omega) (by omega) (λi hi=>?_) h5;exact O.tra _ _ _ (hs i ((l + r) / 2) (by omega) (by omega)) d
theorem Lp (O:Ord q){p:Array Nat}(hk:k < p.size) (hl:l<=k) (hs:Up q p k) (h1:∀i,i < l->q (bD p k) (bD p i)=false) (h2:∀i,l<=i->i < k->q (bD p k) (bD p i)=true):Up q (bubble p k (k - l)) (k + 1):=λi j hi hj=>by
 rw [Dp hk (by omega),Dp hk (by omega),show k - (k - l)=l by omega];by_cases a:i=l
 ·rw [if_pos a];by_cases b:j=l
  ·rw [if_pos b];exact O.irr _
  ·rw [if_neg b,if_pos (by omega)];exact O.asy _ _ (h2 (j - 1) (by omega) (by omega))
 ·rw [if_neg a];by_cases b:j=l
  ·rw [if_pos b,if_neg (by omega)];exact h1 i (by omega)
  ·rw [if_neg b];by_cases a':l < i/\i<=k
   ·rw [if_pos a',if_pos (by omega)];exact hs _ _ (by omega) (by omega)
   ·rw [if_neg a'];by_cases b':l < j/\j<=k
    ·rw [if_pos b'];exact hs _ _ (by omega) (by omega)
    ·rw [if_neg b'];exact hs _ _ hi (by omega)
theorem Ds (O:Ord q):∀(f:Nat) (p:Array Nat) (k:Nat),k + f<=p.size->Up q p k->Up q (aX q (adj f p k)) (k + f)
 | 0,p,k,_,h=>h
 | f + 1,p,k,hs,h=>by
  have e:aX q (adj (f + 1) p k)=aX q (adj f (bubble p k (k - aX q (Wj p k k 0 k))) (k + 1)):=by rw [adj,run_bind]
  rw [e];obtain ⟨a1,a2,a3⟩:=sM O h k 0 k (Uc _) (Tv _) (by omega) (λi hi=>by omega) (λi h1 h2=>by omega);have:=Ds O f (bubble p k (k - aX q (Wj p k k 0 k))) (k + 1) (by rw [bubble_size];omega) (Lp O (by omega) a1 h a2 a3);rw [show k + (f + 1)=k + 1 + f by omega];exact this
theorem KL (O:Ord q) (n:Nat) (hn:1<=n):Up q (aX q (V1 n)) n:=by
 unfold V1;rw [run_bind];obtain ⟨a0,a1,a2,a3⟩:=FZ O (p:=(Tw n).toArray) (N:=n) hn (by simp);generalize aX q (ab_ n (Tw n).toArray)=r at *;have a0:r.2.size=n:=by simpa using a0
 by_cases c:r.1 < n
 ·rw [if_pos c];have:=Ds O (n - max r.1 1) r.2 (max r.1 1) (by omega) (by rw [show max r.1 1=r.1 by omega];exact a3)
  rwa [show max r.1 1 + (n - max r.1 1)=n by omega] at this
 ·rw [if_neg c];have:r.1=n:=by omega
  rw [this] at a3;exact a3
end
end DL
namespace DL
open PySem PySem.Spec PyProof.Rows L2
open PySem.W (kas_sort)
def eE (x y:D):Bool:=(eu x y).getD false
structure f6 (P:D->Prop):Prop where
 eq:∀x y,P x->P y->(aZ x y=true↔x=y)
 lt:∀x y,P x->P y->(eu x y).isSome=true
 asy:∀x y,P x->P y->eE x y=true->eE y x=false
 tri:∀x y,P x->P y->eE x y=false->eE y x=false->x=y
 tra:∀x y z,P x->P y->P z->eE x y=true->eE y z=true->eE x z=true
def ir (xs ys:List D):Bool:=eE (.tup xs) (.tup ys)
theorem jA (x y:D) (xs ys:List D):ir (x::xs) (y::ys)=if aZ x y=true then ir xs ys else eE x y:=by
 show (if aZ x y=true then j6 xs ys else eu x y).getD false=_;by_cases h:aZ x y=true
 ·rw [if_pos h,if_pos h];rfl
 ·rw [if_neg h,if_neg h];rfl
variable {P R:D->Prop}
theorem kL (xs ys:List D):aZ (.tup xs) (.tup ys)=cC xs ys:=by rw [aZ]
theorem g6 (x y:D) (xs ys:List D):cC (x::xs) (y::ys)=(aZ x y && cC xs ys):=by rw [cC]
structure kT (Q:List D->Prop):Prop where
 eq:∀x y,Q x->Q y->(cC x y=true↔x=y)
 lt:∀x y,Q x->Q y->(j6 x y).isSome=true
 asy:∀x y,Q x->Q y->ir x y=true->ir y x=false
 tri:∀x y,Q x->Q y->ir x y=false->ir y x=false->x=y
 tra:∀x y z,Q x->Q y->Q z->ir x y=true->ir y z=true->ir x z=true
theorem kT.tot {Q:List D->Prop}(h:kT Q):f6 λd=>∃xs,d=.tup xs/\Q xs where
 eq:=by rintro _ _ ⟨x,rfl,hx⟩ ⟨y,rfl,hy⟩;rw [kL,h.eq x y hx hy];exact ⟨λe=>e▸rfl,λe=>by cases e;rfl⟩
 lt:=by rintro _ _ ⟨x,rfl,hx⟩ ⟨y,rfl,hy⟩;exact h.lt x y hx hy
 asy:=by rintro _ _ ⟨x,rfl,hx⟩ ⟨y,rfl,hy⟩;exact h.asy x y hx hy
 tri:=by rintro _ _ ⟨x,rfl,hx⟩ ⟨y,rfl,hy⟩ h1 h2;rw [h.tri x y hx hy h1 h2]
 tra:=by rintro _ _ _ ⟨x,rfl,hx⟩ ⟨y,rfl,hy⟩ ⟨z,rfl,hz⟩;exact h.tra x y z hx hy hz
theorem A9 (p:f6 P) (px:P x) (py:P y) (pz:P z) (h:ir r s=true->ir s t=true->ir r t=true) (h1:ir (x::r) (y::s)=true) (h2:ir (y::s) (z::t)=true):ir (x::r) (z::t)=true:=by
 rw [jA] at h1 h2 ⊢;by_cases e:x=y
 ·subst e;rw [if_pos ((p.eq x x px px).mpr rfl)] at h1;by_cases f:x=z
  ·subst f;rw [if_pos ((p.eq x x px px).mpr rfl)] at h2 ⊢;exact h h1 h2
  ·rw [if_neg λq=>f ((p.eq x z px pz).mp q)] at h2 ⊢;exact h2
 ·rw [if_neg λq=>e ((p.eq x y px py).mp q)] at h1;by_cases f:y=z
  ·subst f;rw [if_neg λq=>e ((p.eq x y px py).mp q)];exact h1
  ·rw [if_neg λq=>f ((p.eq y z py pz).mp q)] at h2;have h3:=p.tra x y z px py pz h1 h2;by_cases g:x=z
   ·subst g;have:=p.asy x x px px h3;rw [h3] at this;cases this
   ·rw [if_neg λq=>g ((p.eq x z px pz).mp q)];exact h3
theorem kT.cons {Q:List D->Prop}(p:f6 P) (h:kT Q):kT λxs=>∃x r,xs=x::r/\P x/\Q r where
 eq:=by rintro _ _ ⟨x,r,rfl,px,qr⟩ ⟨y,s,rfl,py,qs⟩;rw [g6,Tt,p.eq x y px py,h.eq r s qr qs];exact ⟨λe=>by rw [e.1,e.2],λe=>by cases e;exact ⟨rfl,rfl⟩⟩
 lt:=by
  rintro _ _ ⟨x,r,rfl,px,qr⟩ ⟨y,s,rfl,py,qs⟩;show (if aZ x y=true then j6 r s else eu x y).isSome=true;split
  ·exact h.lt r s qr qs
  ·exact p.lt x y px py
 asy:=by
  rintro _ _ ⟨x,r,rfl,px,qr⟩ ⟨y,s,rfl,py,qs⟩ hl;rw [jA] at hl ⊢;by_cases e:x=y
  ·subst e;rw [if_pos ((p.eq x x px px).mpr rfl)] at hl ⊢;exact h.asy r s qr qs hl
  ·rw [if_neg λz=>e ((p.eq x y px py).mp z)] at hl;rw [if_neg λz=>e ((p.eq y x py px).mp z).symm];exact p.asy x y px py hl
 tri:=by
  rintro _ _ ⟨x,r,rfl,px,qr⟩ ⟨y,s,rfl,py,qs⟩ h1 h2;rw [jA] at h1 h2;by_cases e:x=y
  ·subst e;rw [if_pos ((p.eq x x px px).mpr rfl)] at h1 h2;rw [h.tri r s qr qs h1 h2]
  ·rw [if_neg λz=>e ((p.eq x y px py).mp z)] at h1;rw [if_neg λz=>e ((p.eq y x py px).mp z).symm] at h2;exact absurd (p.tri x y px py h1 h2) e
 tra:=by rintro _ _ _ ⟨x,r,rfl,px,qr⟩ ⟨y,s,rfl,py,qs⟩ ⟨z,t,rfl,pz,qt⟩ h1 h2;exact A9 p px py pz (h.tra r s t qr qs qt) h1 h2
theorem kT.nil:kT λxs=>xs=[] where
 eq:=by rintro _ _ rfl rfl;simp [cC]
 lt:=by rintro _ _ rfl rfl;rfl
 asy:=by rintro _ _ rfl rfl h;cases h
 tri:=by rintro _ _ rfl rfl _ _;rfl
 tra:=by rintro _ _ _ rfl rfl rfl h;cases h
theorem f6.list (p:f6 P):kT λxs=>∀x∈xs,P x where
 eq:=by
  intro xs
  induction xs with
  | nil=>intro ys _ _;cases ys <;> simp [cC]
  | cons x xs ih=>
   intro ys hx hy;cases ys with
   | nil=>simp [cC]
   | cons y ys=>
    rw [g6,Tt,p.eq x y (hx x Tu) (hy y Tu),ih ys (λz hz=>hx z (Tq _ hz)) λz hz=>hy z (Tq _ hz)];exact ⟨λe=>by rw [e.1,e.2],λe=>by cases e;exact ⟨rfl,rfl⟩⟩
 lt:=by
  intro xs
  induction xs with
  | nil=>intro ys _ _;rfl
  | cons x xs ih=>
   intro ys hx hy;cases ys with
   | nil=>rfl
   | cons y ys=>
    show (if aZ x y=true then j6 xs ys else eu x y).isSome=true;split
    ·exact ih ys (λz hz=>hx z (Tq _ hz)) λz hz=>hy z (Tq _ hz)
    ·exact p.lt x y (hx x Tu) (hy y Tu)
 asy:=by
  intro xs
  induction xs with
  | nil=>
   intro ys _ _ h;cases ys with
   | nil=>cases h
   | cons y ys=>rfl
  | cons x xs ih=>
   intro ys hx hy hl;cases ys with
   | nil=>cases hl
   | cons y ys=>
    have px:=hx x Tu;have py:=hy y Tu;rw [jA] at hl ⊢;by_cases e:x=y
    ·subst e;rw [if_pos ((p.eq x x px px).mpr rfl)] at hl ⊢;exact ih ys (λz hz=>hx z (Tq _ hz)) (λz hz=>hy z (Tq _ hz)) hl
    ·rw [if_neg λz=>e ((p.eq x y px py).mp z)] at hl;rw [if_neg λz=>e ((p.eq y x py px).mp z).symm];exact p.asy x y px py hl
 tri:=by
  intro xs
  induction xs with
  | nil=>
   intro ys _ _ h1 h2;cases ys with
   | nil=>rfl
   | cons y ys=>cases h1
  | cons x xs ih=>
   intro ys hx hy h1 h2;cases ys with
   | nil=>cases h2
   | cons y ys=>
    have px:=hx x Tu;have py:=hy y Tu;rw [jA] at h1 h2;by_cases e:x=y
    ·subst e;rw [if_pos ((p.eq x x px px).mpr rfl)] at h1 h2;rw [ih ys (λz hz=>hx z (Tq _ hz)) (λz hz=>hy z (Tq _ hz)) h1 h2]
    ·rw [if_neg λz=>e ((p.eq x y px py).mp z)] at h1;rw [if_neg λz=>e ((p.eq y x py px).mp z).symm] at h2;exact absurd (p.tri x y px py h1 h2) e
 tra:=by
  intro xs
  induction xs with
  | nil=>
   intro ys zs _ _ _ h1 h2;cases ys with
   | nil=>cases h1
   | cons y ys=>
    cases zs with
    | nil=>cases h2
    | cons z zs=>rfl
  | cons x xs ih=>
   intro ys zs hx hy hz h1 h2;cases ys with
   | nil=>cases h1
   | cons y ys=>
    cases zs with
    | nil=>cases h2
    | cons z zs=>
     have px:=hx x Tu;have py:=hy y Tu;have pz:=hz z Tu;exact A9 p px py pz (ih ys zs (λz hz=>hx z (Tq _ hz)) (λz hz=>hy z (Tq _ hz)) λw hw=>hz w (Tq _ hw)) h1 h2
theorem Oo:f6 λd=>∃k,d=.bl k where
 eq:=by rintro _ _ ⟨x,rfl⟩ ⟨y,rfl⟩;simp [aZ]
 lt:=by rintro _ _ ⟨x,rfl⟩ ⟨y,rfl⟩;rfl
 asy:=by rintro _ _ ⟨x,rfl⟩ ⟨y,rfl⟩;revert x y;decide
 tri:=by
  rintro _ _ ⟨x,rfl⟩ ⟨y,rfl⟩ h1 h2;revert h1 h2;cases x <;> cases y <;> intro h1 h2
  ·rfl
  ·exact absurd h1 (by decide)
  ·exact absurd h2 (by decide)
  ·rfl
 tra:=by rintro _ _ _ ⟨x,rfl⟩ ⟨y,rfl⟩ ⟨z,rfl⟩;revert x y z;decide
theorem mV (x y:Int):eE (.int x) (.int y)=decide (x < y):=rfl
theorem Oq:f6 λd=>∃k,d=.int k where
 eq:=by rintro _ _ ⟨x,rfl⟩ ⟨y,rfl⟩;simp [aZ]
 lt:=by rintro _ _ ⟨x,rfl⟩ ⟨y,rfl⟩;rfl
 asy:=by rintro _ _ ⟨x,rfl⟩ ⟨y,rfl⟩ h;rw [mV,decide_eq_true_eq] at h;rw [mV,decide_eq_false_iff_not];omega
 tri:=by rintro _ _ ⟨x,rfl⟩ ⟨y,rfl⟩ h1 h2;rw [mV,decide_eq_false_iff_not] at h1 h2;rw [show x=y by omega]
 tra:=by rintro _ _ _ ⟨x,rfl⟩ ⟨y,rfl⟩ ⟨z,rfl⟩ h1 h2;rw [mV,decide_eq_true_eq] at h1 h2 ⊢;omega
theorem qC (x y:Str):eE (.str x) (.str y)=decide (x.cps.toList < y.cps.toList):=rfl
theorem KR {x y:Str}(h:x.cps.toList=y.cps.toList):x=y:=by obtain ⟨⟨cx⟩⟩:=x;obtain ⟨⟨cy⟩⟩:=y;simp only at h;rw [h]
theorem Ot:f6 λd=>∃k,d=.str k where
 eq:=by rintro _ _ ⟨x,rfl⟩ ⟨y,rfl⟩;simp [aZ]
 lt:=by rintro _ _ ⟨x,rfl⟩ ⟨y,rfl⟩;rfl
 asy:=by rintro _ _ ⟨x,rfl⟩ ⟨y,rfl⟩ h;rw [qC,decide_eq_true_eq] at h;rw [qC,decide_eq_false_iff_not];exact List.lt_asymm h
 tri:=by rintro _ _ ⟨x,rfl⟩ ⟨y,rfl⟩ h1 h2;rw [qC,decide_eq_false_iff_not] at h1 h2;rw [KR (abT h2 h1)]
 tra:=by rintro _ _ _ ⟨x,rfl⟩ ⟨y,rfl⟩ ⟨z,rfl⟩ h1 h2;rw [qC,decide_eq_true_eq] at h1 h2 ⊢;exact List.lt_trans h1 h2
inductive Fm where
 | b | i | s | hom (t:Fm) | tn | tc (x r:Fm)
noncomputable def l_:Fm->D->Prop
 | .b,d=>∃k,d=.bl k
 | .i,d=>∃k,d=.int k
 | .s,d=>∃k,d=.str k
 | .hom t,d=>∃xs,d=.tup xs/\∀x∈xs,l_ t x
 | .tn,d=>∃xs,d=.tup xs/\xs=[]
 | .tc x r,d=>∃xs,d=.tup xs/\∃y ys,xs=y::ys/\l_ x y/\l_ r (.tup ys)
theorem f6.tail {Q:List D->Prop}(h:f6 R) (k:∀xs,Q xs->R (.tup xs)):kT Q where
 eq:=λx y hx hy=>by have:=h.eq _ _ (k x hx) (k y hy);rw [kL] at this;rw [this];exact ⟨λe=>by cases e;rfl,λe=>e▸rfl⟩
 lt:=λx y hx hy=>h.lt _ _ (k x hx) (k y hy)
 asy:=λx y hx hy=>h.asy _ _ (k x hx) (k y hy)
 tri:=λx y hx hy h1 h2=>by have:=h.tri _ _ (k x hx) (k y hy) h1 h2;cases this;rfl
 tra:=λx y z hx hy hz=>h.tra _ _ _ (k x hx) (k y hy) (k z hz)
theorem jm:∀t:Fm,f6 (l_ t)
 | .b=>Oo
 | .i=>Oq
 | .s=>Ot
 | .hom t=>(jm t).list.tot
 | .tn=>kT.nil.tot
 | .tc x r=>(kT.cons (jm x) (f6.tail (Q:=λys=>l_ r (.tup ys)) (jm r) λ_ h=>h)).tot
theorem Oc (ds:List D):(bR ds).length=ds.length:=by
 unfold bR;by_cases h:ds.length < 2
 ·rw [if_pos h]
 ·rw [if_neg h,Tp];have:=((eV (n:=ds.length) (by omega)).run (ltB ds)).size_eq;simpa using this
theorem JL (ds:List D):(Tw ds.length).map (c5 ds)=ds:=by refine YG (by simp) λi h1 h2=>?_;rw [Vw,List.getElem_range];unfold c5;rw [Vb,TR h2];rfl
theorem jl (ds:List D):(bR ds).Perm ds:=by
 unfold bR;by_cases h:ds.length < 2
 ·rw [if_pos h]
 ·rw [if_neg h];have hp:=(eV (n:=ds.length) (by omega)).run (ltB ds);have hq:(aX (ltB ds) (V1 ds.length)).toList.Perm (Tw ds.length):=by have:=Array.perm_iff_toList_perm.mp hp;simpa using this
  have:=hq.map (c5 ds)
  rwa [JL] at this
theorem Hv (p:f6 P) (ds:List D) (h:∀x∈ds,P x):(bR ds).Pairwise λx y=>eE y x=false:=by
 unfold bR;by_cases h2:ds.length < 2
 ·rw [if_pos h2]
  match ds,h2 with
  | [],_=>exact .nil
  | [x],_=>exact Vs _ _
 ·rw [if_neg h2];have hn:0 < ds.length:=by omega
  have hb:=eV (n:=ds.length) hn;have at_P:∀i,i < ds.length->P (c5 ds i):=λi hi=>h _ (g5 hi)
  let q':Nat->Nat->Bool:=λi j=>if i < ds.length then (if j < ds.length then ltB ds i j else true) else false
  have hq:aX (ltB ds) (V1 ds.length)=aX q' (V1 ds.length):=Ho hb λi j hi hj=>by simp [q',hi,hj]
  have O:Ord q':=by
   constructor
   ·intro a b hab;by_cases ha:a < ds.length <;> by_cases hb:b < ds.length <;> simp [q',ha,hb] at hab ⊢
    exact p.asy _ _ (at_P a ha) (at_P b hb) hab
   ·intro a b c hab hbc;by_cases ha:a < ds.length <;> by_cases hb:b < ds.length <;> by_cases hc:c < ds.length <;> simp [q',ha,hb,hc] at hab hbc ⊢
    have h1:eE (c5 ds b) (c5 ds a)=false:=hab;have h2:eE (c5 ds c) (c5 ds b)=false:=hbc;show eE (c5 ds c) (c5 ds a)=false;cases g:eE (c5 ds c) (c5 ds a) with
    | false=>rfl
    | true=>
     have pa:=at_P a ha;have pb:=at_P b hb;have pc:=at_P c hc;cases g2:eE (c5 ds a) (c5 ds b) with
     | true=>
      have:=p.tra _ _ _ pc pa pb g g2;rw [this] at h2;cases h2
     | false=>
      rw [<-p.tri _ _ pb pa h1 g2] at g;rw [g] at h2;cases h2
  have up:=KL O ds.length (by omega);have hs:=(hb.run (ltB ds));rw [hq] at hs ⊢;have hsz:(aX q' (V1 ds.length)).size=ds.length:=by simpa using hs.size_eq
  generalize aX q' (V1 ds.length)=A at *;rw [U9,UX];intro i j hi hj hij;rw [TY] at hi hj;have:=up i j (by omega) (by omega);have e:∀k (hk:k < A.size),bD A k=A.toList[k]'(by rw [TY];exact hk):=λk hk=>by show A.getD k 0=_;simp [VA,hk]
  rw [e i hi,e j hj] at this;have l:∀k (hk:k < A.size),A.toList[k]'(by rw [TY];exact hk) < ds.length:=λk hk=>by rw [<-e k hk];exact hs.lt hn k
  have li:=l i hi;have lj:=l j hj;simp only [q',li,lj,if_true] at this;exact this
end DL
namespace K52
open PySem DL
end K52
namespace K52
open PySem DL K01 WP K51
variable {P:D->Prop}
end K52
namespace DL
open PySem PySem.Spec PyProof.Rows L2
section
variable {X:Cx}{c:C}{e a b:Uo}{es elts:List Uo}{pos tp:Pos}{kk:Nat}
noncomputable def Ll:R->M (List D)
 | .d (.tup xs)=>.ok xs
 | .d (.lst xs)=>.ok xs
 | _=>.bad
noncomputable def P8 (gs:G (List R)):G (List D):=λenv=>gs env >>= λrs=>match rs with
 | [x,y]=>Ll x >>= λxs=>Ll y >>= λys=>.ok (List.zipWith (λa b=>.tup [a,b]) xs ys)
 | _=>.bad
theorem FT:cJ X (.type "range") (λxs H Q=>∃j:Int,xs=[.int j]/\∀p,H p=none->Q (.ref p) (upd H p (.rng 0 j))):=by intro S6 s σ H xs us Q I r h;obtain ⟨j,rfl,q⟩:=h;obtain ⟨u,rfl,t,rfl⟩:=vals1 r;refine call_range_1 ⟨.ref s.heap.objs.size,_,I.laid (λb o e=>Tn _ e) (Tv _) (show cj X.prog X.w _ _ _ (.rng 0 j) from ⟨_,_,_,TH _ rfl⟩),rfl,q _ (I.hok.fresh (Tv _))⟩
def lS (n:Nat):List V:=(Tw n).map λ(k:Nat)=>V.int k
theorem HE {acc:Array Ti}(h:ItemsOf (λi v=>∃t,v=.int (0 + (i:Int) * 1) t) acc n):Vals (lS n) acc.toList:=by
 have key:∀(us:List Ti) (i:Nat),(∀j v,us[j]?=some v->∃t:Tok,v=Yr ((i + j:Nat):Int) t)->Vals ((YY i us.length).map λ(k:Nat)=>V.int k) us:=by
  intro us
  induction us with
  | nil=>exact λi _=>.nil
  | cons u us ih=>
   intro i hj;obtain ⟨t,e⟩:=hj 0 u rfl;rw [UB,abV,TV];refine .cons ⟨t,by rw [e];rfl⟩ (ih (i + 1) λj v hv=>?_);obtain ⟨t,e⟩:=hj (j + 1) v (by simpa using hv);exact ⟨t,by rw [e];congr 2;omega⟩
 have e:acc.toList.length=n:=by rw [TY];exact h.1
 unfold lS;rw [aaD,<-e];refine key acc.toList 0 λj v hv=>?_;obtain ⟨t,q⟩:=h.2 j v (by simpa using hv);exact ⟨t,by rw [q];congr 1;omega⟩
theorem xH (hc:X.calm=true):cJ X (.type "list") (λxs H Q=>∃(p:T3) (j:Int),xs=[.ref p]/\H p=some (.rng 0 j)/\-(2 ^ 24)<=j/\j<=2 ^ 24/\∀l,H l=none->Q (.ref l) (upd H l (.lst (lS j.toNat)))):=by
 intro S6 s σ H xs us Q I r h;obtain ⟨p,j,rfl,hp,h0,h1,q⟩:=h;obtain ⟨u,rfl,rx⟩:=vals1 r;cases rx;obtain ⟨t,u,v,ho⟩:=I.hok p _ hp;have hn:ZA 0 j 1=(j.toNat:Int):=by rw [ac_];split <;> omega
 refine call_list_range (I.ok.hd hc) ho (small_one (by decide) (by decide) (by omega) (by omega)) hn (by omega) λh' tk acc' c' kp e hi=>?_;have hv:=HE hi;refine ⟨.ref s.heap.objs.size,_,I.laid kp (Tv _) (show cj X.prog X.w _ h' _ (.lst (lS j.toNat)) from ⟨?_,acc'.toList,c',hv,e⟩),rfl,q _ (I.hok.fresh (Tv _))⟩;unfold lS;rw [Tp,WG];show j.toNat<=2 ^ 24;omega
noncomputable def x_ (gs:G (List R)):G R:=λenv=>gs env >>= λrs=>match rs with
 | [.d (.int j)]=>if below 16777216 j then .ok (.l .fresh (fz 0 j.toNat)) else .bad
 | _=>.bad
theorem Hj {K:Tg}{J:Hp}(n:Nat):aJ K J (fz 0 n) (lS n):=by
 unfold fz lS;generalize Tw n=ks
 induction ks with
 | nil=>exact .nil
 | cons k ks ih=>
  rw [TV,TV,Int.zero_add];exact .cons (.int _) ih
end
end DL
namespace DL
open PySem PySem.Spec PyProof.Rows L2 DX
section
variable {X:Cx}{c:C}{e a:Uo}{es:List Uo}{ga g:G R}{pos:Pos}{L:List Str}{T:Str->Bool}
theorem CF {p p2 pos2:Pos}{gs:G (List R)}(ha:jd X c [a] gs) (hm:X.mg "range"=none) (hm2:X.mg "list"=none) (hc:X.calm=true:=by rfl) (hK:X.K=c.K:=by rfl) (hg:Gl X "range":=by rfl) (RH:Gl X "list":=by rfl)
  (hs:TF [a] X.env=(false,eval a X.env)::TF [] X.env:=by rfl) (hs0:(U_ pos (TF [] X.env)).any (·.1)=false:=by rfl) (hs2:TF [aew (.Name "range" p) [a] [] pos] X.env=(false,eval (aew (.Name "range" p) [a] [] pos) X.env)::TF [] X.env:=by rfl) (SG:(U_ pos2 (TF [] X.env)).any (·.1)=false:=by rfl):
  QD X c (.Call (.Name "list" p2) [.Call (.Name "range" p) [a] [] pos] [] pos2) (x_ gs):=by
 have ha:=ha.h;refine ⟨?_⟩;have h1:=lU (p:=p) (pos:=pos) FT hg hm acU ha (by decide) (by decide) hs hs0;have h2:=lU (p:=p2) (pos:=pos2) (xH hc) RH hm2 BX (dM h1 gr hs2) (by decide) (by decide) hs2 SG;refine fC h2 λσ H Q ⟨J,env,sr,w⟩=>?_;refine ⟨J,env,sr,aD (aH w) λrs wr vs J1 H1 e1 r1=>?_⟩;split at wr
 ·rename_i j;obtain ⟨v,rfl,r⟩:=r1.one;cases r;split at wr
  ·rename_i hb;obtain ⟨b1,b2⟩:=cH.mp hb;refine ⟨j,rfl,λq hq=>?_⟩;refine ⟨q,j,rfl,b9,by omega,by omega,λl hl=>?_⟩;have hp1:=sr.hp.ext e1;have e2:=Ext.new hp1.sub hq (.rng 0 j);have hp2:=hp1.ext e2;have hr:RR c H1 J1 (upd (upd H1 q (.rng 0 j)) l (.lst (lS j.toNat))) (.l .fresh (fz 0 j.toNat)) (.ref l):=by obtain ⟨a,us,x1,x2,x3,x4,x5⟩:=gW (c:=c) hp2 hl (Hj j.toNat);exact ⟨a,us,x1,x2,x3,e2.h.free x4,x5⟩
   exact wr _ _ _ ((e1.trans e2).trans (Ext.new hp2.sub hl _)) (by
    obtain ⟨a,us,x1,x2,x3,x4,x5⟩:=hr;exact ⟨a,us,x1,x2,x3,e1.h.free x4,x5⟩)
  ·exact wr.elim
 ·exact wr.elim
end
end DL
namespace DL
open PySem PySem.Spec PyProof.Rows L2
end DL
namespace DL
open PySem PySem.Spec PyProof.Rows L2 DX
open PySem.W (KasT kas_sort kas_ask)
section
variable {X:Cx}{c:C}{e:Uo}{es:List Uo}{pos:Pos}
noncomputable def mL:List R->M R
 | [r]=>g9 r >>= λxs=>if wK xs=true then .ok (.l .fresh (bR xs)) else if zD xs=true then .ok (.l .fresh (bR xs)) else .bad
 | _=>.bad
theorem wN {p:Pos}{gs:G (List R)}(hu:X.A.units + 64 < Vm) (ha:jd X c (e::es) gs) (hm:X.mg "sorted"=none) (hK:X.K=c.K:=by rfl) (hg:Gl X "sorted":=by rfl)
  (he:TF (e::es) X.env=(false,eval e X.env)::TF es X.env:=by rfl) (hpl:(U_ pos (TF es X.env)).any (·.1)=false:=by rfl):QD X c (.Call (.Name "sorted" p) (e::es) [] pos) (gN mL gs):=have ha:=ha.h;⟨
 iL (yL hu) (by
  intro He J H xs vs Q hp rs w;unfold mL at w;split at w
  ·obtain ⟨v,rfl,r⟩:=rs.one;obtain ⟨xs,q,w⟩:=jK w;obtain ⟨p,vs,rfl,h1,h2⟩:=mF hp r q;rw [hK];split at w
   ·rename_i ok;exact ⟨p,vs,xs,rfl,h1,h2.mono hp.sub,.inl ok,λl vs' hl rr=>w _ _ _ (Ext.new hp.sub hl _) (gW hp hl (rr _ h2))⟩
   ·split at w
    ·rename_i ok;exact ⟨p,vs,xs,rfl,h1,h2.mono hp.sub,.inr ok,λl vs' hl rr=>w _ _ _ (Ext.new hp.sub hl _) (gW hp hl (rr _ h2))⟩
    ·exact w.elim
  ·exact w.elim) kU hm ha hg (by decide) (by decide) he hpl⟩
end
end DL
namespace DL
open PySem PySem.Spec PyProof.Rows L2 DX
section
variable {X:Cx}{c:C}{e:Uo}{es:List Uo}{pos:Pos}
theorem any_range (ks:List Bool):(Tw ks.length).any (λi=>ks.getD i false)=ks.any id:=by
 induction ks with
 | nil=>rfl
 | cons k r ih=>
  rw [UB,X5,YL,Yv,YL];simp only [aaU];rw [<-ih];rfl
theorem DC (hc:X.calm=true):cJ X (.builtin "any") (λxs H Q=>∃(p:T3) (ks:List Bool),xs=[.ref p]/\bY X.K H p (ks.map V.bl)/\Q (.bl (ks.any id)) H):=by
 intro S6 s σ H xs us Q I r h;obtain ⟨p,ks,rfl,hq,q⟩:=h;obtain ⟨u,rfl,rx⟩:=vals1 r;cases rx;obtain ⟨S7,r',pl,hz⟩:=I.list hq;have hi:=sV r';subst hi;have RU:p≠s.heap.objs.size:=by obtain ⟨o,h1,_⟩:=pl.isList;exact Ua (TN h1)
 refine call_any_walk (Xg pl.isList ⟨s.heap.objs.size,_,_,_,_,_,(λi=>ks.getD i false),rfl,abq (A:=X.A.in1) (show X.A.in1.handled=none from I.ok.hd hc) s.heap.objs.size p RU (ks.map V7).toArray,⟨⟨_,TH _ rfl,rfl,rfl⟩,abU pl.isList _⟩,?_,λh' tk k=>?_⟩)
 ·intro i v s' Q' E' hP hQ;have e:∃k,ks[i]?=some k/\v=.bool k:=by
   have hP':(ks.map V7)[i]?=some v:=by simpa using hP
   rw [Uh] at hP';cases z:ks[i]? with
   | none=>rw [z] at hP';cases hP'
   | some k=>rw [z] at hP';cases hP';exact ⟨k,rfl,rfl⟩
  obtain ⟨k,e1,rfl⟩:=e;simp only at hQ;rw [Vb,e1] at hQ;exact UM hQ
 ·have sz:(ks.map V7).toArray.size=ks.length:=by simp
  rw [sz,any_range];refine ⟨.bl (ks.any id),H,?_,rfl,q⟩;refine I.kept λb o e=>k b o (λz=>?_) (Tn _ e);have:b=s.heap.objs.size:=by simpa using z
  exact absurd (this▸TN e) (US _)
noncomputable def nJ:List R->M R
 | [r]=>iU r >>= λxs=>match iF xs with
  | some ks=>.ok (.d (.bl (ks.any id)))
  | none=>.bad
 | _=>.bad
theorem Dv:UP "any"=some (.builtin "any"):=by decide +kernel
theorem vD {p:Pos}{gs:G (List R)}(ha:jd X c (e::es) gs) (hm:X.mg "any"=none) (hK:X.K=c.K:=by rfl) (hc:X.calm=true:=by rfl) (hg:Gl X "any":=by rfl)
  (he:TF (e::es) X.env=(false,eval e X.env)::TF es X.env:=by rfl) (hpl:(U_ pos (TF es X.env)).any (·.1)=false:=by rfl):QD X c (.Call (.Name "any" p) (e::es) [] pos) (gN nJ gs):=have ha:=ha.h;⟨
 iL (DC hc) (by
  intro He J H xs vs Q hp rs w;unfold nJ at w;split at w
  ·obtain ⟨v,rfl,r⟩:=rs.one;obtain ⟨xs,q,w⟩:=iZ w;obtain ⟨p,vs,rfl,h1,h2⟩:=RR.list hp r q;split at w
   ·rename_i ks z;have:=o_ z h2;subst this;exact ⟨p,ks,rfl,by rw [hK];exact h1,w _ J H (Ext.refl hp.sub) (.bl _)⟩
   ·exact w.elim
  ·exact w.elim) Dv hm ha hg (by decide) (by decide) he hpl⟩
end
end DL
namespace ST
open PySem PySem.SetTable
theorem ve (xs:Array Nat) (j:Nat) (hs:xs.toList.Pairwise (· < ·)):∀(f lo hi:Nat),hi<=xs.size->lo<=hi->hi - lo<=f->(∀i,i < lo->xs.getD i 0 < j)->(∀i,hi<=i->i < xs.size->j<=xs.getD i 0)->
  below.go xs j f lo hi<=xs.size/\(∀i,i < below.go xs j f lo hi->xs.getD i 0 < j)/\∀i,below.go xs j f lo hi<=i->i < xs.size->j<=xs.getD i 0
 | 0,lo,hi,h1,h2,h3,h4,h5=>by
  have:lo=hi:=by omega
  subst this;exact ⟨h1,h4,h5⟩
 | f + 1,lo,hi,h1,h2,h3,h4,h5=>by
  have mono:∀a b,a<=b->b < xs.size->xs.getD a 0<=xs.getD b 0:=λa b hab hb=>by
   rcases aba hab with h | h
   ·have:=UX.mp hs a b (by simpa using WL h hb) (by simpa using hb) h;simp [VA,WL h hb,hb] at this ⊢;omega
   ·rw [h];exact Tv _
  unfold below.go;by_cases c:lo < hi
  ·rw [if_pos c];have hm:(lo + hi) / 2 < xs.size:=by omega
   have e:xs.getD ((lo + hi) / 2) j=xs.getD ((lo + hi) / 2) 0:=by simp [VA,hm]
   by_cases d:xs.getD ((lo + hi) / 2) j < j
   ·simp only [d,if_true];rw [e] at d;exact ve xs j hs f _ hi h1 (by omega) (by omega) (λi hi'=>Zg (mono i ((lo + hi) / 2) (by omega) hm) d) h5
   ·simp only [d,if_false];rw [e] at d;exact ve xs j hs f lo _ (by omega) (by omega) (by omega) h4 (λi hi' hs'=>T6 (by omega) (mono ((lo + hi) / 2) i hi' hs'))
  ·rw [if_neg c];have:lo=hi:=by omega
   subst this;exact ⟨h1,h4,h5⟩
theorem ny (xs:Array Nat) (j:Nat) (hs:xs.toList.Pairwise (· < ·)):below xs j<=xs.size/\(∀i,i < below xs j->xs.getD i 0 < j)/\∀i,below xs j<=i->i < xs.size->j<=xs.getD i 0:=
 ve xs j hs xs.size 0 xs.size (Tv _) (Uc _) (by omega) (λi h=>absurd h (UU _)) (λi h1 h2=>by omega)
theorem below_at {xs:Array Nat}(hs:xs.toList.Pairwise (· < ·)) (h:xs[i]?=some j):below xs j=i:=by
 obtain ⟨hi,e⟩:=Vc.mp h;obtain ⟨b1,b2,b3⟩:=ny xs j hs;have g:xs.getD i 0=j:=by simp [VA,hi,e]
 rcases Xh (below xs j) i with c | c | c
 ·have h1:=b3 (below xs j) (Tv _) (by omega);have:=UX.mp hs (below xs j) i (by simpa using WL c hi) (by simpa using hi) c;simp [VA,WL c hi] at h1;simp at this;omega
 ·exact c
 ·have:=b2 i c;omega
theorem w_ {t:Vx}(hs:t.place.toList.Pairwise (· < ·)) (h:t.place[i]?=some j):t.slot j=.live i:=by unfold slot;rw [below_at hs h];show (if (t.place[i]? == some j)=true then Slot.live i else _)=_;rw [h];simp
theorem CK {t:Vx}(hd:t.dummies=#[]) (h:j∉t.place.toList):t.slot j=.empty:=by
 unfold slot;have h1:(t.place[below t.place j]? == some j)=false:=by
  rw [beq_eq_false_iff_ne];intro z;exact h (by
   obtain ⟨hi,e⟩:=Vc.mp z;rw [<-e];simp)
 have h2:has t.dummies j=false:=by rw [hd];rfl
 simp only [h1,h2,TJ,if_false]
noncomputable def st (mask:Nat) (h:Int):Nat->Probe
 | 0=>({mask:=mask,place:=#[],dummies:=#[],finger:=0,led:=true,moves:=0,plain:=true}:Vx).probeStart h
 | n + 1=>({mask:=mask,place:=#[],dummies:=#[],finger:=0,led:=true,moves:=0,plain:=true}:Vx).advance (st mask h n)
abbrev pos (mask:Nat) (h:Int) (n:Nat):Nat:=(st mask h n).j
theorem sS (mask:Nat) (h:Int):∀n,(st mask h n).dummy=none
 | 0=>rfl
 | n + 1=>by
  unfold st advance;split
  ·exact sS mask h n
  ·exact sS mask h n
noncomputable def tn (mask:Nat) (h:Int):Nat->Nat×Nat
 | 0=>(bits h % (mask + 1),bits h)
 | k + 1=>leap mask (tn mask h k).1 (tn mask h k).2
theorem wW (mask:Nat) (h:Int):∀(m n:Nat) (i p j:Nat),st mask h n={j:=j,more:=m,i:=i,perturb:=p,dummy:=none}->st mask h (n + m)={j:=j + m,more:=0,i:=i,perturb:=p,dummy:=none}
 | 0,n,i,p,j,e=>e
 | m + 1,n,i,p,j,e=>by
  have e1:st mask h (n + 1)={j:=j + 1,more:=m,i:=i,perturb:=p,dummy:=none}:=by show advance _ (st mask h n)=_;rw [e];unfold advance;simp
  have:=wW mask h m (n + 1) i p (j + 1) e1;rw [show n + (m + 1)=n + 1 + m by omega,this];congr 1;omega
theorem Bu (mask:Nat) (h:Int):∀k,∃n,n<=10 * k/\st mask h n={j:=(tn mask h k).1,more:=runEnd mask (tn mask h k).1 - (tn mask h k).1,i:=(tn mask h k).1,perturb:=(tn mask h k).2,dummy:=none}
 | 0=>⟨0,Tv _,rfl⟩
 | k + 1=>by
  obtain ⟨n,hn,e⟩:=Bu mask h k;have hm:runEnd mask (tn mask h k).1 - (tn mask h k).1<=9:=by unfold runEnd;split <;> omega
  have:=wW mask h _ n _ _ _ e;refine ⟨n + (runEnd mask (tn mask h k).1 - (tn mask h k).1) + 1,by omega,?_⟩;show advance _ (st mask h (n + (runEnd mask (tn mask h k).1 - (tn mask h k).1)))=_;rw [this];unfold advance;simp;exact ⟨rfl,rfl,rfl,rfl⟩
theorem uK (mask:Nat) (h:Int):∀k,(tn mask h k).2=bits h / 32 ^ k
 | 0=>by simp [tn]
 | k + 1=>by show (tn mask h k).2 / 32=_;rw [uK mask h k,ZZ,Yw]
theorem Jb (h:Int):bits h < 2 ^ 64:=by unfold bits;have:=XR h (b:=2 ^ 64) (by decide);omega
def El (mask i:Nat):Nat:=(i * 5 + 1) % (mask + 1)
noncomputable def ig (mask:Nat):Nat->Nat->Nat
 | 0,i=>i
 | r + 1,i=>El mask (ig mask r i)
theorem z_ (mask:Nat) (h:Int):∀r,(tn mask h (12 + r)).1=ig mask r (tn mask h 12).1
 | 0=>rfl
 | r + 1=>by
  show (leap mask (tn mask h (12 + r)).1 (tn mask h (12 + r)).2).1=El mask (ig mask r (tn mask h 12).1);rw [<-z_ mask h r,uK];unfold leap El;have:bits h / 32 ^ (12 + r) / 32=0:=by rw [ZZ,<-Yw];refine Nat.div_eq_of_lt (T9 (Jb h) ?_);refine T6 (show 2 ^ 64<=32 ^ 13 by decide) (Vt (by decide) (by omega))
  rw [this]
theorem OW:∀i:Fin 8,∀j:Fin 8,(Tw 8).any (λr=>ig 7 r i.val == j.val)=true:=by decide +kernel
theorem NB:∀i:Fin 32,∀j:Fin 32,(Tw 32).any (λr=>ig 31 r i.val == j.val)=true:=by decide +kernel
def Lz:List Nat:=(Tw 128).map λr=>ig 127 r 0
theorem AS:∀j:Fin 128,Lz.contains j.val=true:=by decide +kernel
theorem Jf:ig 127 128 0=0:=by decide +kernel
theorem nP (mask:Nat):∀a b i,ig mask (a + b) i=ig mask a (ig mask b i)
 | 0,b,i=>by rw [XD];rfl
 | a + 1,b,i=>by rw [show a + 1 + b=(a + b) + 1 by omega];show El mask (ig mask (a + b) i)=El mask (ig mask a (ig mask b i));rw [nP mask a b i]
def oW (mask:Nat):Prop:=mask=7\/mask=31\/mask=127
theorem DT {mask:Nat}(hm:oW mask) (i j:Nat) (hi:i<=mask) (hj:j<=mask):∃r,r<=mask/\ig mask r i=j:=by
 rcases hm with rfl | rfl | rfl
 ·have:=OW ⟨i,by omega⟩ ⟨j,by omega⟩;rw [UL] at this;obtain ⟨r,h1,h2⟩:=this;exact ⟨r,by have:=TM.mp h1;omega,by simpa using h2⟩
 ·have:=NB ⟨i,by omega⟩ ⟨j,by omega⟩;rw [UL] at this;obtain ⟨r,h1,h2⟩:=this;exact ⟨r,by have:=TM.mp h1;omega,by simpa using h2⟩
 ·have hi':=AS ⟨i,by omega⟩;have hj':=AS ⟨j,by omega⟩;rw [List.contains_iff_mem] at hi' hj';obtain ⟨a,ha,ea⟩:=Tr.mp hi';obtain ⟨b,hb,eb⟩:=Tr.mp hj';have ha:=TM.mp ha;have hb:=TM.mp hb;have ea:ig 127 a 0=i:=ea;have eb:ig 127 b 0=j:=eb;by_cases c:a<=b
  ·refine ⟨b - a,by omega,?_⟩;rw [<-ea,<-nP,show b - a + a=b by omega];exact eb
  ·refine ⟨128 + b - a,by omega,?_⟩;rw [<-ea,<-nP,show 128 + b - a + a=b + 128 by omega,nP,Jf];exact eb
theorem CS (mask:Nat) (h:Int) (k:Nat):(tn mask h k).1<=mask:=by
 cases k with
 | zero=>exact Yh (aax _ (by omega))
 | succ k=>exact Yh (aax _ (by omega))
theorem visits {mask:Nat}(hm:oW mask) (h:Int) (j:Nat) (hj:j<=mask):∃n,n<=10 * (mask + 12)/\pos mask h n=j:=by obtain ⟨r,hr,e⟩:=DT hm (tn mask h 12).1 j (CS mask h 12) hj;obtain ⟨n,hn,q⟩:=Bu mask h (12 + r);refine ⟨n,by omega,?_⟩;show (st mask h n).j=j;rw [q];show (tn mask h (12 + r)).1=j;rw [z_,e]
theorem B_ {mask:Nat}(hm:oW mask) (h:Int) (P:List Nat) (hP:P.length<=mask):∃n,n<=10 * (mask + 12)/\pos mask h n∉P/\∀m,m < n->pos mask h m∈P:=by
 have ex:∃j,j<=mask/\j∉P:=by
  by_cases c:∀j,j<=mask->j∈P
  ·exfalso;have:(Tw (mask + 1)).length<=P.length:=Uv Wc λj hj=>c j (by have:=TM.mp hj;omega);rw [WG] at this;omega
  ·exact VE λz=>c λj hj=>VE λy=>z ⟨j,hj,y⟩
 obtain ⟨j,hj,hn⟩:=ex;obtain ⟨n,hn1,hn2⟩:=visits hm h j hj;have key:∀k,k<=n->(∃m,m<=k/\pos mask h m∉P/\∀m',m' < m->pos mask h m'∈P)\/∀m,m<=k->pos mask h m∈P:=by
  intro k
  induction k with
  | zero=>
   intro _;by_cases c:pos mask h 0∈P
   ·exact .inr λm hm=>by rw [show m=0 by omega];exact c
   ·exact .inl ⟨0,Tv _,c,λm' h'=>absurd h' (UU _)⟩
  | succ k ih=>
   intro hk;rcases ih (by omega) with ⟨m,h1,h2⟩ | h1
   ·exact .inl ⟨m,by omega,h2⟩
   ·by_cases c:pos mask h (k + 1)∈P
    ·exact .inr λm hm=>by
      by_cases d:m<=k
      ·exact h1 m d
      ·rw [show m=k + 1 by omega];exact c
    ·exact .inl ⟨k + 1,Tv _,c,λm' h'=>h1 m' (by omega)⟩
 rcases key n (Tv _) with ⟨m,h1,h2,h3⟩ | h1
 ·exact ⟨m,by omega,h2,h3⟩
 ·exact absurd (h1 n (Tv _)) (by rw [hn2];exact hn)
def Reach (mask:Nat) (P:List Nat) (h:Int) (j:Nat):Prop:=∃n,pos mask h n=j/\∀m,m < n->pos mask h m∈P
theorem Reach.mono {mask:Nat}{P P':List Nat}{h:Int}{j:Nat}(r:Reach mask P h j) (s:∀x∈P,x∈P'):Reach mask P' h j:=
 let ⟨n,h1,h2⟩:=r;⟨n,h1,λm hm=>s _ (h2 m hm)⟩
structure Tab (t:Vx) (es:Array (Int×Ti)) (L:List (Nat×Int×Ti)):Prop where
 dm:t.dummies=#[]
 pl:t.place.toList=L.map (·.1)
 en:es.toList=L.map (·.2)
 so:(L.map (·.1)).Pairwise (· < ·)
 bd:∀e∈L,e.1<=t.mask
 mo:oW t.mask
 fl:L.length<=t.mask
 pr:∀e∈L,Reach t.mask (L.map (·.1)) e.2.1 e.1
section
variable {t:Vx}{es:Array (Int×Ti)}{L:List (Nat×Int×Ti)}
theorem Tab.at_ (T:Tab t es L){i:Nat}{e:Nat×Int×Ti}(h:L[i]?=some e):t.place[i]?=some e.1/\es[i]?=some e.2:=by
 constructor
 ·rw [<-U4,T.pl,Uh,h];rfl
 ·rw [<-U4,T.en,Uh,h];rfl
theorem Tab.sop (T:Tab t es L):t.place.toList.Pairwise (· < ·):=by rw [T.pl];exact T.so
theorem zG (T:Tab t es L) (hashAt:Nat->Int) (hA:∀i e,es[i]?=some e->hashAt i=e.1) (h:Int) (n0:Nat) (hf:pos t.mask h n0∉L.map (·.1)) (hb:∀m,m < n0->pos t.mask h m∈L.map (·.1)):
  ∀(d n F:Nat),n0 - n=d->n<=n0->d < F->∃m,n<=m/\m<=n0/\(∀k,n<=k->k < m->∀e∈L,e.1=pos t.mask h k->e.2.1≠h)/\
   ((m=n0/\probe.go t hashAt h F (st t.mask h n)=some (.empty (pos t.mask h n0) none))\/(m < n0/\∃i e,L[i]?=some e/\e.1=pos t.mask h m/\e.2.1=h/\probe.go t hashAt h F (st t.mask h n)=some (.candidate (pos t.mask h m) i (st t.mask h (m + 1)))))
 | d,n,0,_,_,h=>absurd h (UU _)
 | d,n,F + 1,hd,hn,hF=>by
  by_cases c:n=n0
  ·subst c;refine ⟨n,Tv _,Tv _,λk h1 h2=>by omega,.inl ⟨rfl,?_⟩⟩;unfold probe.go;rw [CK T.dm (by rw [T.pl];exact hf)];show some (Met.empty _ (st t.mask h n).dummy)=_;rw [sS]
  ·obtain ⟨e,he,ej⟩:=Tr.mp (hb n (by omega));obtain ⟨i,hi,rfl⟩:=Ve.mp he;have hL:L[i]?=some L[i]:=TR hi;obtain ⟨p1,p2⟩:=T.at_ hL;have hs:t.slot (pos t.mask h n)=.live i:=w_ T.sop (by rw [p1,ej]);have hh:=hA i _ p2;have uniq:∀e∈L,e.1=pos t.mask h n->e=L[i]:=λe he q=>by
    obtain ⟨k,hk,rfl⟩:=Ve.mp he;have:k=i:=by
     have sw:=UX.mp T.so;rcases Xh k i with c | c | c
     ·have:=sw k i (by simpa using hk) (by simpa using hi) c;simp at this;omega
     ·exact c
     ·have:=sw i k (by simpa using hi) (by simpa using hk) c;simp at this;omega
    subst this;rfl
   by_cases q:L[i].2.1=h
   ·refine ⟨n,Tv _,by omega,λk h1 h2=>by omega,.inr ⟨by omega,i,L[i],hL,ej,q,?_⟩⟩;unfold probe.go;rw [hs];show (if (hashAt i == h)=true then _ else _)=_;rw [hh,q,if_pos (by simp)];rfl
   ·obtain ⟨m,m1,m2,m3,m4⟩:=zG T hashAt hA h n0 hf hb (n0 - (n + 1)) (n + 1) F rfl (by omega) (by omega);have eg:probe.go t hashAt h (F + 1) (st t.mask h n)=probe.go t hashAt h F (st t.mask h (n + 1)):=by rw [probe.go,hs];show (if (hashAt i == h)=true then _ else _)=_;rw [hh,if_neg (by simpa using q)];rfl
    rw [eg];refine ⟨m,by omega,m2,λk h1 h2 e he' ek=>?_,m4⟩;by_cases z:k=n
    ·subst z;rw [uniq e he' ek];exact q
    ·exact m3 k (by omega) h2 e he' ek
theorem oG {α:Type}(xs:Array α) (p:Nat) (x:α) (hp:p<=xs.size):(insertAt xs p x).toList=xs.toList.take p++x::xs.toList.drop p:=by
 unfold insertAt;simp
 (exact Z0 (by simp))
theorem Tab.put (T:Tab t es L) (h:Int) (x:Ti) (n0:Nat) (hf:pos t.mask h n0∉L.map (·.1)) (hb:∀m,m < n0->pos t.mask h m∈L.map (·.1)) (hj:pos t.mask h n0<=t.mask) (hl:L.length + 1<=t.mask):
  ∃L',Tab (t.put (pos t.mask h n0)).1 (insertAt es (t.put (pos t.mask h n0)).2 (h,x)) L'/\L'.Perm ((pos t.mask h n0,h,x)::L):=by
 obtain ⟨b1,b2,b3⟩:=ny t.place (pos t.mask h n0) T.sop;generalize hp:below t.place (pos t.mask h n0)=p at b1 b2 b3;have hsz:t.place.size=L.length:=by rw [<-TY,T.pl,Tp]
 have hes:es.size=L.length:=by rw [<-TY,T.en,Tp]
 have perm:(L.take p++(pos t.mask h n0,h,x)::L.drop p).Perm ((pos t.mask h n0,h,x)::L):=by
  have:=abW (a:=(pos t.mask h n0,h,x)) (l₁:=L.take p) (l₂:=L.drop p)
  rwa [aaj] at this
 have e1:(t.put (pos t.mask h n0))=({t with place:=insertAt t.place p (pos t.mask h n0),dummies:=#[]},p):=by unfold SetTable.put;rw [hp,T.dm];rfl
 rw [e1];have getP:∀i (hi:i < L.length),t.place.getD i 0=L[i].1:=λi hi=>by
  have:=(T.at_ (TR hi)).1;have hi':i < t.place.size:=by omega
  simp [VA,hi'];rw [VF hi'] at this;exact U3 this
 refine ⟨L.take p++(pos t.mask h n0,h,x)::L.drop p,⟨rfl,?_,?_,?_,λe he=>?_,T.mo,?_,λe he=>?_⟩,perm⟩
 ·show (insertAt t.place p (pos t.mask h n0)).toList=_;rw [oG _ _ _ b1,T.pl];simp [YN,ZJ]
 ·show (insertAt es p (h,x)).toList=_;rw [oG _ _ _ (by omega),T.en];simp [YN,ZJ]
 ·rw [Ue,TV,Wv];refine ⟨?_,?_,?_⟩
  ·rw [YN];exact T.so.sublist (X8 _ _)
  ·rw [W2];refine ⟨λa ha=>?_,?_⟩
   ·obtain ⟨e,he,rfl⟩:=Tr.mp ha;obtain ⟨i,hi,rfl⟩:=Ve.mp he;rw [abv];rw [VQ] at hi;have:=b3 (p + i) (by omega) (by omega);rw [getP _ (by omega)] at this;rcases aba this with c | c
    ·exact c
    ·exact absurd (Tr.mpr ⟨L[p + i],Wb _,c.symm⟩) hf
   ·rw [ZJ];exact T.so.sublist (List.drop_sublist _ _)
  ·intro a ha b hb;obtain ⟨e,he,rfl⟩:=Tr.mp ha;obtain ⟨i,hi,rfl⟩:=Ve.mp he;rw [List.getElem_take];rw [U6] at hi;have h1:=b2 i (by omega);rw [getP _ (by omega)] at h1
   (rcases TZ.mp hb with rfl | hb)
   ·exact h1
   ·obtain ⟨e,he,rfl⟩:=Tr.mp hb;obtain ⟨k,hk,rfl⟩:=Ve.mp he;rw [abv];rw [VQ] at hk;have:=b3 (p + k) (by omega) (by omega);rw [getP _ (by omega)] at this;omega
 ·rcases TZ.mp (perm.mem_iff.mp he) with rfl | he
  ·exact hj
  ·exact T.bd e he
 ·rw [perm.length_eq];exact hl
 ·have sub:∀y∈L.map (·.1),y∈(L.take p++(pos t.mask h n0,h,x)::L.drop p).map (·.1):=λy hy=>by obtain ⟨e,he,rfl⟩:=Tr.mp hy;exact Tr.mpr ⟨e,perm.mem_iff.mpr (Tq _ he),rfl⟩
  rcases TZ.mp (perm.mem_iff.mp he) with rfl | he
  ·exact ⟨n0,rfl,λm hm=>sub _ (hb m hm)⟩
  ·exact (T.pr e he).mono sub
end
theorem nh (mask:Nat) (h:Int) (n i p m:Nat) (e:st mask h n={j:=i,more:=m,i:=i,perturb:=p,dummy:=none}):∀r,r<=m->st mask h (n + r)={j:=i + r,more:=m - r,i:=i,perturb:=p,dummy:=none}
 | 0,_=>e
 | r + 1,hr=>by show advance _ (st mask h (n + r))=_;rw [nh mask h n i p m e r (by omega)];unfold advance;rw [if_pos (by show m - r > 0;omega)];show Probe.mk _ _ _ _ _=_;congr 1
theorem Fv (mask:Nat) (h:Int) (k n:Nat) (e:st mask h n={j:=(tn mask h k).1,more:=runEnd mask (tn mask h k).1 - (tn mask h k).1,i:=(tn mask h k).1,perturb:=(tn mask h k).2,dummy:=none}):
  st mask h (n + (runEnd mask (tn mask h k).1 - (tn mask h k).1) + 1)={j:=(tn mask h (k + 1)).1,more:=runEnd mask (tn mask h (k + 1)).1 - (tn mask h (k + 1)).1,i:=(tn mask h (k + 1)).1,perturb:=(tn mask h (k + 1)).2,dummy:=none}:=by show advance _ (st mask h (n + (runEnd mask (tn mask h k).1 - (tn mask h k).1)))=_;rw [nh mask h n _ _ _ e _ (Tv _)];unfold advance;simp;exact ⟨rfl,rfl,rfl,rfl⟩
theorem we (mask:Nat) (h:Int) (owner:Array (Option Nat)) (G:List Nat) (ho:∀j,j<=mask->((owner.getD j (some 0)).isNone=true↔j∉G)):
  ∀(f k n:Nat),st mask h n={j:=(tn mask h k).1,more:=runEnd mask (tn mask h k).1 - (tn mask h k).1,i:=(tn mask h k).1,perturb:=(tn mask h k).2,dummy:=none}->(∀m,m < n->pos mask h m∈G)->
   (∃n',layClean.free mask owner f (tn mask h k).1 (tn mask h k).2=some (pos mask h n')/\pos mask h n'<=mask/\pos mask h n'∉G/\∀m,m < n'->pos mask h m∈G)\/(layClean.free mask owner f (tn mask h k).1 (tn mask h k).2=none/\∀r,r < f->(tn mask h (k + r)).1∈G)
 | 0,k,n,e,hb=>.inr ⟨rfl,λr hr=>absurd hr (UU _)⟩
 | f + 1,k,n,e,hb=>by
  have hi:=CS mask h k;have re:runEnd mask (tn mask h k).1<=mask/\(tn mask h k).1<=runEnd mask (tn mask h k).1:=by unfold runEnd;split <;> omega
  unfold layClean.free;cases q:(Tw (runEnd mask (tn mask h k).1 + 1 - (tn mask h k).1)).find? λr=>(owner.getD ((tn mask h k).1 + r) (some 0)).isNone with
  | some r=>
   have h1:=List.find?_some q;have h2:=TM.mp (List.mem_of_find?_eq_some q);have h3:pos mask h (n + r)=(tn mask h k).1 + r:=by show (st mask h (n + r)).j=_;rw [nh mask h n _ _ _ e r (by omega)]
   refine .inl ⟨n + r,?_,?_,?_,?_⟩
   ·show some _=_;rw [h3]
   ·rw [h3];omega
   ·rw [h3];exact (ho _ (by omega)).mp h1
   ·intro m hm;by_cases c:m < n
    ·exact hb m c
    ·obtain ⟨s,rfl⟩:∃s,m=n + s:=⟨m - n,by omega⟩;have h4:pos mask h (n + s)=(tn mask h k).1 + s:=by show (st mask h (n + s)).j=_;rw [nh mask h n _ _ _ e s (by omega)]
     rw [h4];refine VE λz=>?_;have z':=(ho ((tn mask h k).1 + s) (by omega)).mpr z;rw [List.find?_eq_some_iff_append] at q;obtain ⟨_,as,bs,eq,hall⟩:=q;have hs:s∈as:=by
      have hlen:as.length=r:=by
       have hl:as.length < (Tw (runEnd mask (tn mask h k).1 + 1 - (tn mask h k).1)).length:=by rw [eq];simp
       have e3:(Tw (runEnd mask (tn mask h k).1 + 1 - (tn mask h k).1))[as.length]?=some r:=by rw [eq];simp
       rw [WG] at hl;rw [Xz hl] at e3;exact U3 e3
      have e4:(Tw (runEnd mask (tn mask h k).1 + 1 - (tn mask h k).1))[s]?=some s:=Xz (by omega);rw [eq,VD (by omega)] at e4;exact UJ e4
     have:=hall s hs;rw [z'] at this;exact absurd this (by decide)
  | none=>
   have hall:=XS.mp q;have occ:∀s,s<=runEnd mask (tn mask h k).1 - (tn mask h k).1->(tn mask h k).1 + s∈G:=λs hs=>VE λz=>by have z':=(ho ((tn mask h k).1 + s) (by omega)).mpr z;exact hall s (TM.mpr (by omega)) z'
   have nb:∀m,m < n + (runEnd mask (tn mask h k).1 - (tn mask h k).1) + 1->pos mask h m∈G:=λm hm=>by
    by_cases c:m < n
    ·exact hb m c
    ·obtain ⟨s,rfl⟩:∃s,m=n + s:=⟨m - n,by omega⟩;have h4:pos mask h (n + s)=(tn mask h k).1 + s:=by show (st mask h (n + s)).j=_;rw [nh mask h n _ _ _ e s (by omega)]
     rw [h4];exact occ s (by omega)
   rcases we mask h owner G ho f (k + 1) _ (Fv mask h k n e) nb with ⟨n',g1,g2',g3⟩ | ⟨g1,g2'⟩
   ·exact .inl ⟨n',g1,g2',g3⟩
   ·refine .inr ⟨g1,λr hr=>?_⟩;cases r with
    | zero=>have:=occ 0 (Uc _);exact this
    | succ r=>have:=g2' r (by omega);rwa [show k + (r + 1)=k + 1 + r by omega]
theorem Js {mask:Nat}(hm:oW mask) (h:Int) (owner:Array (Option Nat)) (G:List Nat) (hG:G.length<=mask) (ho:∀j,j<=mask->((owner.getD j (some 0)).isNone=true↔j∉G)):
  ∃n',layClean.free mask owner (turns mask) (bits h % (mask + 1)) (bits h)=some (pos mask h n')/\pos mask h n'<=mask/\pos mask h n'∉G/\∀m,m < n'->pos mask h m∈G:=by
 rcases we mask h owner G ho (turns mask) 0 0 rfl (λm hm=>absurd hm (UU _)) with a | ⟨_,b⟩
 ·exact a
 ·exfalso;have all:∀j,j<=mask->j∈G:=λj hj=>by obtain ⟨r,hr,e⟩:=DT hm (tn mask h 12).1 j (CS mask h 12) hj;have:=b (12 + r) (by unfold turns;omega);rw [XD,z_,e] at this;exact this
  have:(Tw (mask + 1)).length<=G.length:=Uv Wc λj hj=>all j (by have:=TM.mp hj;omega);rw [WG] at this;omega
structure Own (mask:Nat) (owner:Array (Option Nat)) (G:List Nat) (hs:List Int):Prop where
 sz:owner.size=mask + 1
 ln:G.length=hs.length
 nd:G.Nodup
 bd:∀j∈G,j<=mask
 at_:∀j,j<=mask->owner.getD j none=if j∈G then some (G.idxOf j) else none
 pr:∀k (h1:k < G.length) (h2:k < hs.length),Reach mask G hs[k] G[k]
theorem Own.occ {mask:Nat}{owner:Array (Option Nat)}{G:List Nat}{hs:List Int}(O:Own mask owner G hs):∀j,j<=mask->((owner.getD j (some 0)).isNone=true↔j∉G):=λj hj=>by
 have e:owner.getD j (some 0)=owner.getD j none:=by
  have:j < owner.size:=by rw [O.sz];omega
  simp [VA,this]
 rw [e,O.at_ j hj];split <;> simp_all
theorem Own.step {mask:Nat}{owner:Array (Option Nat)}{G:List Nat}{hs:List Int}(O:Own mask owner G hs) (hm:oW mask) (hl:hs.length<=mask) (h:Int):
  ∃j,layClean.free mask owner (turns mask) (bits h % (mask + 1)) (bits h)=some j/\Own mask (owner.setIfInBounds j (some hs.length)) (G++[j]) (hs++[h]):=by
 obtain ⟨n',e,b,f,r⟩:=Js hm h owner G (by rw [O.ln];exact hl) O.occ;refine ⟨_,e,⟨by rw [Array.size_setIfInBounds,O.sz],by simp [O.ln],?_,λj hj=>?_,λj hj=>?_,λk h1 h2=>?_⟩⟩
 ·rw [Yi];refine ⟨O.nd,by simp,λa ha b hb=>?_⟩;rw [TL] at hb;subst hb;intro z;subst z;exact f ha
 ·rcases Ub.mp hj with h1 | h1
  ·exact O.bd j h1
  ·rw [TL.mp h1];exact b
 ·have hsz:j < owner.size:=by rw [O.sz];omega
  by_cases c:j=pos mask h n'
  ·subst c;rw [if_pos (by simp)];simp [VA,hsz];rw [abw,if_neg f];simp [O.ln]
  ·have e1:(owner.setIfInBounds (pos mask h n') (some hs.length)).getD j none=owner.getD j none:=by simp [VA,hsz];rw [Array.getElem_setIfInBounds_ne];exact λz=>c z.symm
   rw [e1,O.at_ j hj];by_cases d:j∈G
   ·rw [if_pos d,if_pos (VU _ d),abw,if_pos d]
   ·rw [if_neg d,if_neg (by simp [d,c])]
 ·have sub:∀x∈G,x∈G++[pos mask h n']:=λx hx=>VU _ hx;by_cases c:k < G.length
  ·have:=(O.pr k c (by rw [<-O.ln];exact c)).mono sub;rw [Zt c,Zt (by rw [<-O.ln];exact c)];exact this
  ·have hk:k=G.length:=by simp at h1;omega
   subst hk;have e1:(G++[pos mask h n'])[G.length]=pos mask h n':=by simp
   have e2:(hs++[h])[G.length]=h:=by simp [O.ln]
   rw [e1,e2];exact ⟨n',rfl,λm hm=>sub _ (r m hm)⟩
theorem zm {mask:Nat}(hm:oW mask):∀(rest hs:List Int) (owner:Array (Option Nat)) (G:List Nat),Own mask owner G hs->(hs++rest).length<=mask->∃owner' G',rest.foldl (λacc h=>do
  let (owner,k) <-acc
  let j <-layClean.free mask owner (turns mask) (bits h % (mask + 1)) (bits h)
  pure (owner.setIfInBounds j (some k),k + 1)) (some (owner,hs.length))=some (owner',(hs++rest).length)/\Own mask owner' G' (hs++rest)
 | [],hs,owner,G,O,_=>⟨owner,G,by simp,by simpa using O⟩
 | h::rest,hs,owner,G,O,hl=>by
  obtain ⟨j,e,O'⟩:=O.step hm (by simp at hl;omega) h;obtain ⟨owner',G',e2,O2⟩:=zm hm rest (hs++[h]) _ _ O' (by simpa using hl);refine ⟨owner',G',?_,by simpa using O2⟩;rw [aac];have e3:(do
   let (owner,k) <-some (owner,hs.length)
   let j <-layClean.free mask owner (turns mask) (bits h % (mask + 1)) (bits h)
   pure (owner.setIfInBounds j (some k),k + 1):Option (Array (Option Nat)×Nat))=some (owner.setIfInBounds j (some hs.length),(hs++[h]).length):=by show Option.bind (layClean.free mask owner (turns mask) (bits h % (mask + 1)) (bits h)) _=_;rw [e];simp
  rw [e3];simpa using e2
theorem JU (mask:Nat):Own mask (Array.replicate (mask + 1) none) [] []:=
 ⟨by simp,rfl,WY,λj h=>absurd h (by simp),λj hj=>by simp [VA],λk h1=>absurd h1 (by simp)⟩
theorem Mh {mask:Nat}(hm:oW mask) (hs:Array Int) (hl:hs.size<=mask):∃owner G,layClean mask hs=some owner/\Own mask owner G hs.toList:=by obtain ⟨owner,G,e,O⟩:=zm hm hs.toList [] _ [] (JU mask) (by simpa using hl);refine ⟨owner,G,?_,by simpa using O⟩;unfold layClean;rw [<-Array.foldl_toList];have e':=congrArg (Option.map (·.1)) e;exact e'
theorem JG {t:Vx}{es:Array (Int×Ti)}{mask:Nat}(hm:oW mask) (finger moves:Nat) (led plain:Bool) (hl:es.size<=mask):
  ∃t' Te L',laid mask finger moves led plain (es.map (·.1))=some (t',Te)/\t'.mask=mask/\t'.led=led/\t'.plain=plain/\Tab t' (Te.filterMap (es[·]?)) L'/\(Te.filterMap (es[·]?)).toList.Perm es.toList:=by
 obtain ⟨owner,G,e,O⟩:=Mh hm (es.map (·.1)) (by simpa using hl);have hlen:G.length=es.size:=by rw [O.ln];simp
 (let live:=(Tw (mask + 1)).filterMap λj=>(owner.getD j none).map (j,·))
 have lv:∀p,p∈live↔p.1∈G/\p.2=G.idxOf p.1:=λp=>by
  show p∈(Tw (mask + 1)).filterMap _↔_;rw [W0];constructor
  ·rintro ⟨j,hj,q⟩;have hj':j<=mask:=by have:=TM.mp hj;omega
   rw [O.at_ j hj'] at q;by_cases c:j∈G
   ·rw [if_pos c] at q;have q:(j,G.idxOf j)=p:=by simpa using q
    subst q;exact ⟨c,rfl⟩
   ·rw [if_neg c] at q;exact absurd q (by simp)
  ·rintro ⟨h1,h2⟩;refine ⟨p.1,TM.mpr (by have:=O.bd _ h1;omega),?_⟩;rw [O.at_ _ (O.bd _ h1),if_pos h1];show some (p.1,G.idxOf p.1)=some p;rw [<-h2]
 have so1:live.Pairwise λa b=>a.1 < b.1:=by
  show ((Tw (mask + 1)).filterMap _).Pairwise _;rw [List.pairwise_filterMap];refine List.pairwise_lt_range.imp ?_;intro a b hab x hx y hy;cases q1:owner.getD a none with
  | none=>rw [q1] at hx;exact absurd hx (by simp)
  | some k1=>cases q2:owner.getD b none with
   | none=>rw [q2] at hy;exact absurd hy (by simp)
   | some k2=>
    rw [q1] at hx;rw [q2] at hy;have hx:(a,k1)=x:=by simpa using hx
    have hy:(b,k2)=y:=by simpa using hy
    subst hx;subst hy;exact hab
 have ord:(live.map (·.2)).Perm (Tw es.size):=by
  rw [List.perm_ext_iff_of_nodup _ Wc]
  ·intro k;rw [Tr,TM];constructor
   ·rintro ⟨p,hp,rfl⟩;obtain ⟨h1,h2⟩:=(lv p).mp hp;rw [h2,<-hlen];exact V6 h1
   ·intro hk;rw [<-hlen] at hk;exact ⟨(G[k],k),(lv _).mpr ⟨Wb _,(O.nd.idxOf_getElem k hk).symm⟩,rfl⟩
  ·show (live.map (·.2)).Pairwise _;rw [U9];refine (Yx.mp so1).imp ?_;rintro a b ⟨ha,hb,hab⟩ z;obtain ⟨a1,a2⟩:=(lv a).mp ha;obtain ⟨b1,b2⟩:=(lv b).mp hb;rw [a2,b2] at z;have ga:=Zh (V6 a1);have gb:=Zh (V6 b1);have:a.1=b.1:=by rw [<-ga,<-gb];congr 1
   omega
 have inR:∀p∈live,∃h:p.2 < es.size,True:=λp hp=>by have:p.2∈live.map (·.2):=Tr.mpr ⟨p,hp,rfl⟩;exact ⟨TM.mp (ord.mem_iff.mp this),trivial⟩
 let L':=live.map λp=>(p.1,es.getD p.2 default)
 have eL:(live.map (·.2)).toArray.filterMap (es[·]?)=(L'.map (·.2)).toArray:=by
  rw [List.filterMap_toArray];congr 1;show acL _ (live.map _)=(live.map _).map _;rw [aa3,Uj];have:∀(l:List (Nat×Nat)),(∀p∈l,p∈live)->acL ((λx=>es[x]?) ∘ λx=>x.snd) l=aef ((λx=>x.snd) ∘ λp=>(p.fst,es.getD p.snd default)) l:=by
   intro l
   induction l with
   | nil=>intro _;rfl
   | cons p l ih=>
    intro hl;obtain ⟨hp,_⟩:=inR p (hl p (by simp));rw [List.filterMap_cons_some (b:=es.getD p.2 default)]
    ·rw [TV,ih λq hq=>hl q (by simp [hq])];rfl
    ·show es[p.2]?=_;simp [VA,hp]
  exact this live λp hp=>hp
 have eP:L'.map (·.1)=live.map (·.1):=by show (live.map _).map _=_;rw [Uj];rfl
 have memP:∀j,j∈live.map (·.1)↔j∈G:=λj=>by
  rw [Tr];constructor
  ·rintro ⟨p,hp,rfl⟩;exact ((lv p).mp hp).1
  ·intro h;exact ⟨(j,G.idxOf j),(lv _).mpr ⟨h,rfl⟩,rfl⟩
 have lenL:L'.length=es.size:=by have:=ord.length_eq;rw [Tp,WG] at this;show (live.map _).length=_;rw [Tp,this]
 refine ⟨{mask,place:=(live.map (·.1)).toArray,dummies:=#[],finger,led,moves,plain},(live.map (·.2)).toArray,L',?_,rfl,rfl,rfl,⟨rfl,?_,?_,?_,λx hx=>?_,hm,?_,λx hx=>?_⟩,?_⟩
 ·unfold laid;rw [e];rfl
 ·show (live.map (·.1)).toArray.toList=_;rw [eP]
 ·rw [eL]
 ·rw [eP,U9];exact so1
 ·obtain ⟨p,hp,rfl⟩:=Tr.mp hx;exact O.bd _ ((lv p).mp hp).1
 ·show L'.length<=mask;rw [lenL];exact hl
 ·obtain ⟨p,hp,rfl⟩:=Tr.mp hx;obtain ⟨h1,h2⟩:=(lv p).mp hp;obtain ⟨hs,_⟩:=inR p hp;have r:=O.pr p.2 (by omega) (by simpa using hs);have e1:G[p.2]'(by omega)=p.1:=by have:=Zh (V6 h1);rw [<-this];congr 1
  have e2:((es.map (·.1)).toList[p.2]'(by simpa using hs))=(es.getD p.2 default).1:=by simp [VA,hs]
  rw [e1,e2] at r;show Reach mask (L'.map (·.1)) (es.getD p.2 default).1 p.1;refine r.mono λy hy=>?_;rw [eP];exact (memP y).mpr hy
 ·rw [eL];show (L'.map (·.2)).Perm es.toList;have e1:(live.map (·.2)).map (λk=>es.getD k default)=L'.map (·.2):=by show _=(live.map _).map _;rw [Uj,Uj];rfl
  rw [<-e1];refine (ord.map _).trans ?_;have:(Tw es.size).map (λk=>es.getD k default)=es.toList:=by refine YG (by simp) λi h1 h2=>?_;simp at h1;simp [VA,h1]
  rw [this]
theorem E3 {t:Vx}{es:Array (Int×Ti)}(hm:oW (sizeAbove w - 1)) (hl:es.size<=sizeAbove w - 1):
  ∃t' Te L',t.relaid (es.map (·.1)) w=some (t',Te)/\t'.mask=sizeAbove w - 1/\t'.led=t.led/\t'.plain=t.plain/\Tab t' (Te.filterMap (es[·]?)) L'/\(Te.filterMap (es[·]?)).toList.Perm es.toList:=
 JG (t:=t) hm t.finger (t.movedTo (sizeAbove w - 1)) t.led t.plain hl
end ST
namespace DL
open PySem PySem.Spec PyProof.Rows L2
mutual
noncomputable def kr:D->Nat
 | .int _=>1
 | .tup xs=>eX xs + 1
 | _=>0
noncomputable def eX:List D->Nat
 | []=>0
 | x::xs=>kr x + eX xs
end
theorem q9:∀{ds:List D},areKeys ds=true->∀d∈ds,isKey d=true
 | [],_,_,h=>nomatch h
 | x::xs,h,d,hm=>by
  unfold areKeys at h;rw [Tt] at h
  (rcases TZ.mp hm with rfl | hm)
  ·exact h.1
  ·exact q9 h.2 d hm
mutual
theorem zl:∀{d e:D},isKey d=true->isKey e=true->aZ d e=true->d=e
 | .int i,.int j,_,_,h=>by simp [aZ] at h;rw [h]
 | .tup xs,.tup ys,hd,he,h=>by unfold isKey at hd he;simp only [aZ] at h;rw [keys_eq hd he h]
 | .int _,.tup _,_,_,h=>by simp [aZ] at h
 | .tup _,.int _,_,_,h=>by simp [aZ] at h
theorem keys_eq:∀{ds es:List D},areKeys ds=true->areKeys es=true->cC ds es=true->ds=es
 | [],[],_,_,_=>rfl
 | x::xs,y::ys,hd,he,h=>by unfold areKeys at hd he;rw [Tt] at hd he;simp only [cC,Tt] at h;rw [zl hd.1 he.1 h.1,keys_eq hd.2 he.2 h.2]
 | [],_::_,_,_,h=>by simp [cC] at h
 | _::_,[],_,_,h=>by simp [cC] at h
end
theorem vh (hd:isKey d=true) (he:isKey e=true):aZ d e=true↔d=e:=⟨zl hd he,λh=>by rw [h];exact fk _⟩
section
variable {prog:TU}{w:Uk}{E:Ti->Tj->Prop}{K:Tg}{J:Hp}
noncomputable def Dc (prog:TU) (w:Uk) (A:Um) (K:Tg) (J:Hp) (d:D) (u:Ti):Prop:=
 ∀(E:Ti->Tj->Prop) (s:Tj) (Q:Int->Tj->Prop),HF K J s->Q (bT d) {s with toks:=s.toks + kr d}->TX (T5 prog w) A (pyHash u) Q E s
inductive kH (prog:TU) (w:Uk) (A:Um) (K:Tg) (J:Hp):List D->List Ti->Prop
 | nil:kH prog w A K J [] []
 | cons {d:D}{u:Ti}{ds:List D}{us:List Ti}:Dc prog w A K J d u->kH prog w A K J ds us->kH prog w A K J (d::ds) (u::us)
theorem uf:∀(a b:List D),bZ (a++b)=bZ a++bZ b
 | [],b=>rfl
 | x::a,b=>by show bT x::bZ (a++b)=_;rw [uf a b];rfl
theorem tQ:∀(a b:List D),eX (a++b)=eX a + eX b
 | [],b=>by show eX b=0 + _;omega
 | x::a,b=>by show kr x + eX (a++b)=kr x + eX a + eX b;rw [tQ a b];omega
theorem F_ {A:Um}{s:Tj}{o:Obj}{S7:List Ti}{Q:Int->Tj->Prop}(N:HF K J s) (ho:s.heap.get? a=some o) (hc:o.cls=.type "tuple") (hd:o.data=.seq S7.toArray n) (hu:A.units < Vm)
 (hl:kH prog w A.in1 K J ds S7) (h:Q (acZ (UW (bZ ds))) {s with toks:=s.toks + (eX ds + 1)}):TX (T5 prog w) A (pyHash (.ref a)) Q E s:=by
 have hT:s.TypeIs (.ref a) "tuple":=⟨o,ho,hc⟩;unfold pyHash
 (first | unfold pyHashByItsType | skip)
 (first | refine Tf (wpAny_cRoomFor_or (.inr hu) ?_) | skip)
 (refine Tf (XU hT Xi.lookup ?_))
 (show TX _ _ (if (some (ZE "tuple.__hash__") == some Ux)=true then _ else _) Q E s)
 (rw [if_neg (by rw [beq_builtin_none];exact T_)])
 (refine Tf (XU hT Xi.lookup ?_))
 (show TX _ _ (callSpecialIfBoundUnlessNone? (.ref a) "__hash__" _ >>= _) Q E s)
 (refine Tf (wpAny_callSpecialIfBoundUnlessNone?_slot hT Xi (Uy Xi hT F.entry_tuple_hash ?_ (F.args_tuple_hash_1 _))))
 (show TX _ _ (Xl (.ref a) >>= _) _ _ s)
 (refine Tf (wpAny_tupleItemsOf ho hd ?_))
 refine Tf ?_;rw [<-XX];refine Wa _
  (λrest (b:Array Int) s'=>∃done left,ds=done++left/\kH prog w A.in1 K J left rest/\b.toList=bZ done/\s'={s with toks:=s.toks + eX done})
  _ ?_ ?_ _ _ ⟨[],ds,rfl,hl,rfl,rfl⟩
 ·(rintro x rest b s' ⟨done,left,rfl,hl,hb,rfl⟩)
  cases hl with
  | @cons k _ ks' _ h1 hl'=>
   refine Tf (h1 _ _ _ ⟨N.t,N.l,N.e,N.d⟩ ?_);have e1:(b.push (bT k)).toList=bZ (done++[k]):=by rw [abx,uf,hb];rfl
   have e2:s.toks + eX done + kr k=s.toks + eX (done++[k]):=by rw [tQ];show _=s.toks + (eX done + (kr k + 0));omega
   first
    | exact Th ⟨done++[k],ks',by simp,hl',e1,by rw [e2]⟩
    | exact Tf (Th (Th ⟨done++[k],ks',by simp,hl',e1,by rw [e2]⟩))
 ·(rintro b s' ⟨done,left,rfl,hl,hb,rfl⟩)
  cases hl;rw [Wz] at h
  (show TX _ _ (retInt (UW b.toList)) _ _ _)
  rw [hb];refine wpAny_ret_mkInt ?_;show TX _ _ (if (decide (-(2:Int) ^ 63<=UW (bZ done)) && decide (UW (bZ done) < 2 ^ 63))=true then _ else _) Q E _;unfold acZ at h;by_cases hr:(decide (-(2:Int) ^ 63<=UW (bZ done)) && decide (UW (bZ done) < 2 ^ 63))=true
  ·rw [if_pos hr];rw [if_pos hr] at h
   (exact Th (by simpa [ado] using h))
  ·rw [if_neg hr];rw [if_neg hr] at h
   (exact Tf (YQ (Th (by simpa [ado] using h))))
mutual
theorem vM:∀(d:D) (v:V) (u:Ti) (A:Um) (s:Tj),HF K J s->isKey d=true->Rep K J d v->RelV v u->A.units + dep d < Vm->Dc prog w A K J d u
 | .int i,v,u,A,s,N,hk,hr,rv,hu=>λE s' Q N' h=>by cases hr;obtain ⟨t,rfl⟩:=rv;exact abO h
 | .tup ds,v,u,A,s,N,hk,hr,rv,hu=>λE s' Q N' h=>by
  cases hr with
  | tup h1 hs=>
   cases rv;obtain ⟨S7,r,o,ho,hc,n,hd⟩:=N'.t _ _ h1;exact F_ N' ho hc hd (by unfold dep at hu;omega) (Af ds _ _ A.in1 s N hk hs r (by rw [in1_units];unfold dep at hu;omega)) h
 | .non,v,u,A,s,N,hk,hr,rv,hu=>nomatch hk
 | .bl _,v,u,A,s,N,hk,hr,rv,hu=>nomatch hk
 | .str _,v,u,A,s,N,hk,hr,rv,hu=>nomatch hk
 | .lst _,v,u,A,s,N,hk,hr,rv,hu=>nomatch hk
 | .emp,v,u,A,s,N,hk,hr,rv,hu=>nomatch hk
 | .exn _ _ _,v,u,A,s,N,hk,hr,rv,hu=>nomatch hk
 | .dct _ _,v,u,A,s,N,hk,hr,rv,hu=>nomatch hk
theorem Af:∀(ds:List D) (vs:List V) (us:List Ti) (A:Um) (s:Tj),HF K J s->areKeys ds=true->aJ K J ds vs->Vals vs us->A.units + deps ds < Vm->kH prog w A K J ds us
 | [],vs,us,A,s,N,hk,hr,rv,hu=>by cases hr;cases rv;exact .nil
 | d::ds,vs,us,A,s,N,hk,hr,rv,hu=>by
  unfold areKeys at hk;rw [Tt] at hk;unfold deps at hu;cases hr with
  | cons a b=>
   cases rv with
   | cons c e=>exact .cons (vM d _ _ A s N hk.1 a c (by omega)) (Af ds _ _ A s N hk.2 b e (by omega))
end
end
def iJ (K:Tg) (J:Hp) (n:Nat) (u:Ti):Prop:=∃d v,isKey d=true/\dep d<=n/\Rep K J d v/\RelV v u
section
variable {prog:TU}{w:Uk}{E:Ti->Tj->Prop}{K:Tg}{J:Hp}{A:Um}{s:Tj}
theorem zk {n:Nat}:∀{ds:List D}{vs:List V}{us:List Ti},areKeys ds=true->deps ds<=n->aJ K J ds vs->Vals vs us->∀u∈us,iJ K J n u
 | _,_,_,_,_,.nil,.nil=>λu h=>nomatch h
 | d::ds,_,_,hk,hn,.cons a b,.cons c e=>λu h=>by
  unfold areKeys at hk;rw [Tt] at hk;unfold deps at hn
  (rcases TZ.mp h with rfl | h)
  ·exact ⟨d,_,hk.1,by omega,a,c⟩
  ·exact zk hk.2 (by omega) b e u h
theorem iJ.cases' (N:HF K J s) (h:iJ K J n u):(∃i t,u=.int i t)\/∃a o S7 m k,u=.ref a/\s.heap.get? a=some o/\o.cls=.type "tuple"/\o.data=.seq S7 m/\n=k + 1/\∀y∈S7.toList,iJ K J k y:=by
 obtain ⟨d,v,hk,hn,hr,rv⟩:=h;cases d with
 | int i=>
  cases hr;obtain ⟨t,rfl⟩:=rv;exact .inl ⟨_,_,rfl⟩
 | tup ds=>
  cases hr with
  | tup h1 hs=>
   cases rv;obtain ⟨S7,r,o,ho,hc,m,hd⟩:=N.t _ _ h1;unfold dep at hn;obtain ⟨k,rfl⟩:∃k,n=k + 1:=⟨n - 1,by omega⟩;exact .inr ⟨_,o,_,m,k,rfl,ho,hc,hd,rfl,zk hk (by omega) hs r⟩
 | _=>cases hk
theorem ng:∀(n:Nat){u:Ti}{Q:Bool->Tj->Prop},HF K J s->iJ K J n u->Q true s->TX (T5 prog w) A (eqIsQuiet n u) Q E s
 | n,u,Q,N,hk,h=>by
  rcases hk.cases' N with ⟨i,t,rfl⟩ | ⟨a,o,S7,m,k,rfl,ho,hc,hd,rfl,hi⟩
  ·rw [eqIsQuiet_byValue _ rfl];exact Th h
  ·have hT:s.TypeIs (.ref a) "tuple":=⟨o,ho,hc⟩;unfold eqIsQuiet
   (refine Tf (XU hT F.slot_tuple_eq.lookup ?_))
   (show TX _ _ (acY (.ref a) (.type "tuple") >>= _) _ _ s)
   (refine Tf (Xw hT isSubtype_tuple_tuple ?_))
   (simp only [VZ,TJ,if_false])
   (refine Tf (Xo ho hd ?_))
   refine Tf ?_;show TX _ _ (forIn S7 _ _) _ _ s;rw [<-XX];refine Wa _ (λrest r s'=>r.1=none/\s=s'/\∀v∈rest,iJ K J k v) _ ?_ ?_ _ _ ⟨rfl,rfl,hi⟩
   ·(rintro v rest r s' ⟨hr,rfl,hall⟩)
    refine Tf (ng k N (hall v Tu) ?_)
    (simp only [VZ,TJ,if_false])
    (exact Th ⟨rfl,rfl,λu hu'=>hall u (Tq _ hu')⟩)
   ·(rintro ⟨r1,r2⟩ s' ⟨hr,rfl,_⟩)
    simp only at hr;subst hr;exact Th h
theorem EK:∀(n:Nat){u:Ti}{Q:Bool->Tj->Prop},HF K J s->iJ K J n u->Q true s->TX (T5 prog w) A (hashByValue n u) Q E s
 | n,u,Q,N,hk,h=>by
  rcases hk.cases' N with ⟨i,t,rfl⟩ | ⟨a,o,S7,m,k,rfl,ho,hc,hd,rfl,hi⟩
  ·cases n <;> exact Th h
  ·have hT:s.TypeIs (.ref a) "tuple":=⟨o,ho,hc⟩;unfold hashByValue
   (refine Tf (XU hT Xi.lookup ?_))
   show TX _ _ (aad (.ref a) >>= _) _ _ s
   (refine Tf (Xo ho hd ?_))
   refine Tf ?_;show TX _ _ (forIn S7 _ _) _ _ s;rw [<-XX];refine Wa _ (λrest r s'=>r.1=none/\s=s'/\∀v∈rest,iJ K J k v) _ ?_ ?_ _ _ ⟨rfl,rfl,hi⟩
   ·(rintro v rest r s' ⟨hr,rfl,hall⟩)
    refine Tf (EK k N (hall v Tu) ?_)
    (simp only [VZ,TJ,if_false])
    (exact Th ⟨rfl,rfl,λu hu'=>hall u (Tq _ hu')⟩)
   ·(rintro ⟨r1,r2⟩ s' ⟨hr,rfl,_⟩)
    simp only at hr;subst hr;exact Th h
theorem mY:∀(n:Nat){u:Ti}{Q:Bool->Tj->Prop},HF K J s->iJ K J n u->Q false s->TX (T5 prog w) A (aby n u) Q E s
 | n,u,Q,N,hk,h=>by
  rcases hk.cases' N with ⟨i,t,rfl⟩ | ⟨a,o,S7,m,k,rfl,ho,hc,hd,rfl,hi⟩
  ·cases n <;> exact Th h
  ·have hT:s.TypeIs (.ref a) "tuple":=⟨o,ho,hc⟩;unfold aby
   (refine Tf (Ys hT ?_))
   dsimp only
   (refine Tf (Th ?_))
   (simp only [VZ,TJ,if_false])
   (refine Tf (Xo ho hd ?_))
   dsimp only;refine Tf ?_;show TX _ _ (forIn S7 _ _) _ _ s;rw [<-XX];refine Wa _ (λrest r s'=>r.1=none/\s=s'/\∀v∈rest,iJ K J k v) _ ?_ ?_ _ _ ⟨rfl,rfl,hi⟩
   ·(rintro v rest r s' ⟨hr,rfl,hall⟩)
    refine Tf (mY k N (hall v Tu) ?_)
    (simp only [TJ,if_false])
    (exact Th ⟨rfl,rfl,λu hu'=>hall u (Tq _ hu')⟩)
   ·(rintro ⟨r1,r2⟩ s' ⟨hr,rfl,_⟩)
    simp only at hr;subst hr;exact Th h
theorem Nm {Q:Bool->Tj->Prop}(N:HF K J s) (hx:iJ K J 8 x) (hy:∀y∈ys,iJ K J 8 y) (h:Q false s):TX (T5 prog w) A (Zu x ys) Q E s:=by
 unfold Zu;refine Tf ?_;refine Wa _ (λrest r s'=>r.1=none/\s=s'/\∀v∈rest,iJ K J 8 v) _ ?_ ?_ _ _ ⟨rfl,rfl,hy⟩
 ·(rintro v rest r s' ⟨hr,rfl,hall⟩)
  have nx:∀u∈rest,iJ K J 8 u:=λu hu'=>hall u (Tq _ hu');dsimp only;have hv:=hall v Tu;split
  ·split
   ·exact Th ⟨rfl,rfl,nx⟩
   ·refine Tf (ng 8 N hx ?_)
    (simp only [VZ,TJ,if_false])
    refine Tf (ng 8 N hv ?_)
    (simp only [VZ,TJ,if_false])
    refine Tf (mY 8 N hx ?_)
    (simp only [TJ,if_false])
    refine Tf (mY 8 N hv ?_)
    (simp only [TJ,if_false])
    exact Th ⟨rfl,rfl,nx⟩
  ·split
   ·exact Th ⟨rfl,rfl,nx⟩
   ·refine Tf (ng 8 N hx ?_)
    (simp only [VZ,TJ,if_false])
    refine Tf (ng 8 N hv ?_)
    (simp only [VZ,TJ,if_false])
    refine Tf (mY 8 N hx ?_)
    (simp only [TJ,if_false])
    refine Tf (mY 8 N hv ?_)
    (simp only [TJ,if_false])
    exact Th ⟨rfl,rfl,nx⟩
 ·(rintro ⟨r1,r2⟩ s' ⟨hr,rfl,_⟩)
  simp only at hr;subst hr;exact Th h
end
end DL
namespace DL
open PySem PySem.Spec PyProof.Rows L2 ST
def KV (K:Tg) (J:Hp) (u:Ti) (d:D):Prop:=(∃a,u=.ref a)/\isKey d=true/\dep d<=8/\∃v,Rep K J d v/\RelV v u
theorem KV.key {K:Tg}{J:Hp}{u:Ti}{d:D}(h:KV K J u d):iJ K J 8 u:=let ⟨_,a,b,v,c,e⟩:=h;⟨d,v,a,b,c,e⟩
inductive fh (K:Tg) (J:Hp):List (Int×Ti)->List D->Prop
 | nil:fh K J [] []
 | cons {h:Int}{x:Ti}{d:D}{es:List (Int×Ti)}{ks:List D}:h=bT d->KV K J x d->fh K J es ks->fh K J ((h,x)::es) (d::ks)
section
variable {K:Tg}{J:Hp}
theorem fh.length {es:List (Int×Ti)}{ks:List D}(h:fh K J es ks):es.length=ks.length:=by
 induction h with
 | nil=>rfl
 | cons _ _ _ ih=>simp [ih]
theorem fh.at_ (h:fh K J es ks):∀{i:Nat}{e:Int×Ti},es[i]?=some e->∃d,ks[i]?=some d/\KV K J e.2 d/\e.1=bT d:=by
 induction h with
 | nil=>intro i e q;simp at q
 | @cons hh x d es ks h1 h2 _ ih=>
  intro i e q;cases i with
  | zero=>simp at q;subst q;exact ⟨d,rfl,h2,h1⟩
  | succ i=>simp at q;obtain ⟨d',a,b⟩:=ih q;exact ⟨d',by simpa using a,b⟩
theorem fh.mem (h:fh K J es ks):∀e∈es,∃d∈ks,KV K J e.2 d/\e.1=bT d:=λe he=>by obtain ⟨i,hi⟩:=aak.mp he;obtain ⟨d,h1,h2⟩:=h.at_ hi;exact ⟨d,UJ h1,h2⟩
theorem fh.back {es:List (Int×Ti)}{ks:List D}(h:fh K J es ks){i:Nat}{d:D}(q:ks[i]?=some d):∃e,es[i]?=some e/\KV K J e.2 d/\e.1=bT d:=by
 have hi:i < es.length:=by rw [h.length];exact (T7.mp q).1
 obtain ⟨d',h1,h2⟩:=h.at_ (TR hi);rw [q] at h1;cases h1;exact ⟨_,TR hi,h2⟩
theorem fh.perm {es es':List (Int×Ti)}(p:es.Perm es'):∀{ks:List D},fh K J es ks->∃ks',ks.Perm ks'/\fh K J es' ks':=by
 induction p with
 | nil=>intro ks h;exact ⟨ks,.refl _,h⟩
 | cons x _ ih=>
  intro ks h;cases h with
  | cons h1 h2 h3=>obtain ⟨ks',a,b⟩:=ih h3;exact ⟨_,a.cons _,.cons h1 h2 b⟩
 | swap x y l=>
  intro ks h;cases h with
  | cons h1 h2 h3=>cases h3 with
   | cons h4 h5 h6=>exact ⟨_,.swap _ _ _,.cons h4 h5 (.cons h1 h2 h6)⟩
 | trans _ _ ih1 ih2=>
  intro ks h;obtain ⟨k1,a,b⟩:=ih1 h;obtain ⟨k2,c,d⟩:=ih2 b;exact ⟨k2,a.trans c,d⟩
end
theorem dU {t:Vx}{es:Array (Int×Ti)}(T:Tab t es L):t.fits es.size=true:=by
 have h1:t.place.size=L.length:=by rw [<-TY,T.pl,Tp]
 have h2:es.size=L.length:=by rw [<-TY,T.en,Tp]
 have h3:t.fill=L.length:=by unfold adp;rw [T.dm,h1];rfl
 unfold SetTable.fits;rw [h1,h2,h3];simp [T.fl]
theorem KU {t:Vx}(T:Tab t es L):t.gaveWay=false:=by unfold SetTable.gaveWay;rcases T.mo with h | h | h <;> rw [h] <;> rfl
section
variable {prog:TU}{w:Uk}{E:Ti->Tj->Prop}{K:Tg}{J:Hp}{A:Um}{s:Tj}
theorem search {a:T3}{o:Obj}{es:Array (Int×Ti)}{ep:Nat}{t:Vx}{L:List (Nat×Int×Ti)}{ks:List D}{x:Ti}{d:D}{Q:SetFound->Tj->Prop}(N:HF K J s) (ho:s.heap.get? a=some o) (hd:o.data=.set es ep t) (T:Tab t es L) (en:fh K J es.toList ks)
  (hx:KV K J x d) (hu:A.units + 8 < Vm) (n0:Nat) (hf:pos t.mask (bT d) n0∉L.map (·.1)) (hb:∀m,m < n0->pos t.mask (bT d) m∈L.map (·.1)) (hn0:n0<=10 * (t.mask + 12))
  (q1:d∈ks->Q (.there none) s) (q2:d∉ks->Q (.free (pos t.mask (bT d) n0) false) s):
  ∀(fuel n:Nat) (stand:Option SetTable.Probe),n<=n0->n0 - n < fuel->stand.getD (t.probeStart (bT d))=st t.mask (bT d) n->(∀k,k < n->∀(i:Nat) (e:Nat×Int×Ti),L[i]?=some e->e.1=pos t.mask (bT d) k->ks[i]?≠some d)->
   TX (T5 prog w) A (adq a x (bT d) true fuel stand) Q E s
 | 0,n,stand,h1,h2,h3,h4=>absurd h2 (UU _)
 | fuel + 1,n,stand,h1,h2,h3,h4=>by
  have esL:∀i,es[i]?=(L[i]?).map (λe:Nat×Int×Ti=>e.2):=λi=>by rw [<-U4,T.en,Uh]
  unfold adq;refine Tf (VB ho hd (dU T) ?_);dsimp only;rw [KU T]
  (simp only [TJ,if_false])
  rw [h3];obtain ⟨m,m1,m2,m3,m4⟩:=zG T (λi=>(es[i]?.map (·.1)).getD 0) (λi e q=>by rw [q];rfl) (bT d) n0 hf hb (n0 - n) n (10 * acM t.mask) rfl h1 (by unfold acM;omega);generalize hP:SetTable.probe t _ (bT d) (st t.mask (bT d) n)=r;rcases m4 with ⟨rfl,m4⟩ | ⟨m5,i,e,m6,m7,m8,m4⟩
  ·have:r=_:=hP.symm.trans m4;subst this;dsimp only;refine Th (q2 λhm=>?_);obtain ⟨i,hi⟩:=aak.mp hm;obtain ⟨e,e1,e2,e3⟩:=en.back hi;rw [U4,esL] at e1;obtain ⟨e',e4,rfl⟩:=Option.map_eq_some_iff.mp e1;have hm':=UJ e4;obtain ⟨k,k1,k2⟩:=T.pr _ hm';rw [e3] at k1 k2;have kl:k < m:=by
    rcases Xh k m with c | c | c
    ·exact c
    ·subst c;rw [k1] at hf;exact absurd (Tr.mpr ⟨_,hm',rfl⟩) hf
    ·exact absurd (k2 m c) hf
   by_cases c:k < n
   ·exact h4 k c i e' e4 k1.symm hi
   ·exact m3 k (by omega) kl e' hm' k1.symm e3
  ·have:r=_:=hP.symm.trans m4;subst this;dsimp only;have hei:es[i]?=some e.2:=by rw [esL,m6];rfl
   obtain ⟨d',f1,f2,f3⟩:=en.at_ (by rw [U4];exact hei);obtain ⟨⟨ya,g0⟩,g1,g2',v',g3,g4⟩:=id f2;obtain ⟨_,x1,x2,v,x3,x4⟩:=id hx;obtain ⟨j,hh,y⟩:=e;dsimp only at g0 g4 m7 m8 hei;subst g0;have cmp:=mJ N A g3 x3 g4 x4 (by omega) (by omega) (by omega);have pass:∀(k:Sem SetFound),TX (T5 prog w) A k Q E s->TX (T5 prog w) A (if (!t.led)=true then do
     let c <-Zu x (aef (λx=>x.snd) (Array.filter (λx=>x.fst == bT d) es).toList)
     if c=true then do unsupported "set:the-search-would-show-the-table";k else k
     else k) Q E s:=λk hk=>by
    split
    ·refine Tf (Nm N hx.key (λy hy=>?_) ?_)
     ·obtain ⟨e',he',rfl⟩:=Tr.mp hy;have:e'∈es.toList:=by rw [Array.toList_filter] at he';exact (Uq.mp he').1
      obtain ⟨d2,_,h2,_⟩:=en.mem e' this;exact h2.key
     ·(simp only [TJ,if_false])
      exact hk
    ·exact hk
   refine pass _ ?_;rw [hei];dsimp only;refine Tf (Ul (cmp _ _ _ _ ?_));refine Tf (VB ho hd (dU T) ?_);dsimp only;by_cases c:aZ d' d=true
   ·rw [c]
    (simp only [adi,if_true])
    refine Th (q1 ?_);rw [<-zl g1 x1 c];exact UJ f1
   ·rw [Bool.not_eq_true] at c;rw [c];have sm:t.sameMemory t.moves t.mask=some true:=by unfold SetTable.sameMemory;simp
    have sl:t.slot (pos t.mask (bT d) m)=.live i:=w_ T.sop (by rw [<-m7];exact (T.at_ m6).1);rw [sm];simp only [WX,TJ,if_false,if_true];rw [sl];dsimp only;rw [hei];dsimp only;refine Tf (wpAny_isSame_ref_self ?_);simp only [if_true]
    (refine Tf (Th ?_))
    dsimp only;refine search N ho hd T en hx hu n0 hf hb hn0 q1 q2 fuel (m + 1) _ (by omega) (by omega) rfl λk hk i2 e2 z1 z2 z3=>?_;by_cases c1:k < n
    ·exact h4 k c1 i2 e2 z1 z2 z3
    ·by_cases c2:k < m
     ·obtain ⟨dd,w1,_,w3⟩:=en.at_ (i:=i2) (e:=e2.2) (by rw [U4,esL,z1];rfl);rw [z3] at w1;cases w1;exact m3 k (by omega) c2 e2 (UJ z1) z2 w3
     ·obtain rfl:k=m:=by omega
      have hi2:i2=i:=by
       obtain ⟨p1,p2⟩:=T7.mp z1;obtain ⟨p3,p4⟩:=T7.mp m6;have sw:=UX.mp T.so;rcases Xh i2 i with c | c | c
       ·have:=sw i2 i (by simpa using p1) (by simpa using p3) c;simp [p2,p4] at this;omega
       ·exact c
       ·have:=sw i i2 (by simpa using p3) (by simpa using p1) c;simp [p2,p4] at this;omega
      subst hi2;rw [f1] at z3;cases z3;rw [fk] at c;exact absurd c (by decide)
end
structure gK (K:Tg) (J:Hp) (h:Vd) (a:T3) (led:Bool) (ks:List D) (es:Array (Int×Ti)) (ep:Nat) (t:Vx):Prop where
 at_:h.get? a=some {cls:=.type "set",dict:=none,data:=.set es ep t}
 tab:∃L,Tab t es L
 pl:t.plain=true
 ld:t.led=led
 rm:ks.length * 5 < t.mask * 3
 en:fh K J es.toList ks
 nd:ks.Nodup
theorem DW (mask i:Nat) (h:i<=mask):i + (aci mask i - i)<=mask:=by unfold aci;split <;> omega
theorem IF (mask:Nat) (h:Int):∀n,(ST.st mask h n).j + (ST.st mask h n).more<=mask
 | 0=>DW mask _ (Yh (aax _ (by omega)))
 | n + 1=>by
  have ih:=IF mask h n;show (ZV _ (ST.st mask h n)).j + (ZV _ (ST.st mask h n)).more<=mask;unfold ZV;split
  ·dsimp only;omega
  ·exact DW mask _ (Yh (aax _ (by omega)))
theorem MM (mask:Nat) (h:Int) (n:Nat):ST.pos mask h n<=mask:=by have:=IF mask h n;show (ST.st mask h n).j<=mask;omega
theorem IX:W4 20=32:=by decide +kernel
theorem IY:W4 76=128:=by decide +kernel
theorem vI {es:Array (Int×Ti)}{L:List (Nat×Int×Ti)}(T:Tab t es L):L.length=es.size:=by rw [<-TY,T.en,Tp]
section
variable {prog:TU}{w:Uk}{E:Ti->Tj->Prop}{K:Tg}{J:Hp}{A:Um}{s:Tj}
theorem N5 {es:Array (Int×Ti)}{t:Vx}{ks:List D}{Q:Unit->Tj->Prop}(ho:s.heap.get? a=some {cls:=.type "set",dict:=none,data:=.set es ep t}) (T:Tab t es L) (hp:t.plain=true) (hl:t.led=led)
 (en:fh K J es.toList ks) (nd:ks.Nodup) (W:Nat) (hW:(W4 W=32/\ks.length=5)\/(W4 W=128/\ks.length=19))
 (h:∀(h':Vd) ks' es' ep' t',Vu a s.heap h'->ks.Perm ks'->gK K J h' a led ks' es' ep' t'->Q () {s with heap:=h'}):TX (T5 prog w) A (setRelay a W) Q E s:=by
 have hsz:es.size=ks.length:=by rw [<-TY,en.length]
 have hm:oW (W4 W - 1):=by rcases hW with ⟨h,_⟩ | ⟨h,_⟩ <;> rw [h];exact .inr (.inl rfl);exact .inr (.inr rfl)
 obtain ⟨t',Te,L',e1,e2,e3,e4,e5,e6⟩:=E3 (t:=t) (es:=es) hm (by rcases hW with ⟨h,_⟩ | ⟨h,_⟩ <;> rw [h] <;> omega);unfold setRelay;refine Tf (VB ho rfl (dU T) ?_);dsimp only;rw [if_neg (by rw [UH];rcases hW with ⟨h,_⟩ | ⟨h,_⟩ <;> rw [h] <;> omega)];have sz':(Te.filterMap (es[·]?)).size=es.size:=by rw [<-TY,e6.length_eq,TY]
 rw [e1];have cnd:((Te.filterMap (es[·]?)).size != es.size)=false:=by rw [sz'];simp
 refine Tf (Yd (a:=(Te.filterMap (es[·]?),t')) ?_ ?_)
 ·show (if ((Te.filterMap (es[·]?)).size != es.size)=true then _ else pure (Te.filterMap (es[·]?),t'))=_;rw [cnd];rfl
 ·dsimp only;obtain ⟨ks',p1,p2⟩:=en.perm e6.symm;refine abz ho rfl ?_ (by rw [sz',UH];rcases hW with ⟨_,h⟩ | ⟨_,h⟩ <;> omega);have hg:=UQ (ac2 (Te.filterMap (es[·]?)) t') ho rfl;refine h _ ks' _ _ _ (VC _ _ _) p1 ⟨hg,⟨L',e5⟩,e4.trans hp,e3.trans hl,?_,p2,p1.nodup_iff.mp nd⟩;rw [<-p1.length_eq,e2];rcases hW with ⟨h,h'⟩ | ⟨h,h'⟩ <;> rw [h,h'] <;> omega
theorem IZ {a:T3}{es:Array (Int×Ti)}{ep:Nat}{t:Vx}{led:Bool}{ks:List D}{x:Ti}{d:D}{Q:Bool->Tj->Prop}(N:HF K J s) (S:gK K J s.heap a led ks es ep t) (hx:KV K J x d) (hu:A.units + 8 < Vm) (hl:ks.length < 76)
  (q1:d∈ks->Q false s) (q2:d∉ks->∀(h':Vd) ks' es' ep' t',Vu a s.heap h'->(d::ks).Perm ks'->gK K J h' a led ks' es' ep' t'->Q true {s with heap:=h'}):
  TX (T5 prog w) A (setAddHashed a x (bT d)) Q E s:=by
 obtain ⟨L,T⟩:=S.tab;have lenL:L.length=ks.length:=by rw [vI T,<-TY,S.en.length]
 obtain ⟨n0,b1,b2,b3⟩:=B_ T.mo (bT d) (L.map (·.1)) (by rw [Tp];exact T.fl);have hj:pos t.mask (bT d) n0<=t.mask:=MM _ _ _
 (unfold setAddHashed setAddHashedIn)
 refine Ul (Tf (VB S.at_ rfl (dU T) ?_));dsimp only;have ns:byScan x es=false:=by obtain ⟨⟨xa,rfl⟩,_⟩:=hx;rfl
 rw [ns]
 (simp only [TJ,if_false])
 unfold setSearch;refine Tf (search N S.at_ rfl T S.en hx hu n0 b2 b3 b1 (λhm=>?_) (λhm=>?_) 100000 0 none (Uc _) (by rcases T.mo with h | h | h <;> rw [h] at b1 <;> omega) rfl (λk hk=>absurd hk (UU _)))
 ·exact Th (q1 hm)
 ·dsimp only;refine Tf (VB S.at_ rfl (dU T) ?_);dsimp only;obtain ⟨L',T',pm⟩:=T.put (bT d) x n0 b2 b3 hj (by have:=S.rm;rcases T.mo with h | h | h <;> rw [h] at this <;> omega);have fl:(t.put (pos t.mask (bT d) n0)).1.mask=t.mask/\(t.put (pos t.mask (bT d) n0)).1.plain=t.plain/\(t.put (pos t.mask (bT d) n0)).1.led=t.led:=⟨rfl,rfl,rfl⟩;generalize t.put (pos t.mask (bT d) n0)=tp at T' fl ⊢;obtain ⟨t',p⟩:=tp;dsimp only at T' fl ⊢;obtain ⟨f1,f2,f3⟩:=fl;have en':∃ks',(d::ks).Perm ks'/\fh K J (Yj es p (bT d,x)).toList ks':=by refine fh.perm (es:=(bT d,x)::es.toList) ?_ (.cons rfl hx S.en);rw [T'.en,T.en];have:=pm.map (·.2);exact this.symm
  obtain ⟨ks',p1,p2⟩:=en';have nd':ks'.Nodup:=p1.nodup_iff.mp (VI.mpr ⟨hm,S.nd⟩);have lk:ks'.length=ks.length + 1:=by rw [<-p1.length_eq];rfl
  rw [f2,S.pl];simp only [if_true];refine Tf (EK 8 N hx.key ?_);simp only [if_true];have esz:(Yj es p (bT d,x)).size=ks'.length:=by rw [<-TY,p2.length]
  refine Tf (abz S.at_ rfl ?_ (by rw [esz,UH];omega));have hg:=UQ (ac2 (Yj es p (bT d,x)) t') S.at_ rfl;have hfill:t'.fill=ks'.length:=by unfold adp;rw [T'.dm,<-TY,T'.pl,Tp,vI T',esz];rfl
  have hes:es.size=ks.length:=by rw [<-TY,S.en.length]
  split
  ·rename_i c;simp only [aaJ,Xj] at c;unfold abX at c;rw [hfill,f1,decide_eq_true_eq] at c;have rm:=S.rm;refine Tf (N5 (s:={s with heap:=s.heap.update a (ac2 (Yj es p (bT d,x)) t')}) hg T' (f2.trans S.pl) (f3.trans S.ld) p2 nd' _ ?_ λh' ks2 es2 ep2 t2 g1 g2' g3=>?_)
   ·rw [hes];unfold SetTable.grown;rw [if_neg (by omega)];rcases T.mo with h | h | h
    ·rw [h] at c rm;have:ks.length + 1=5:=by omega
     rw [this];exact .inl ⟨IX,by omega⟩
    ·rw [h] at c rm;have:ks.length + 1=19:=by omega
     rw [this];exact .inr ⟨IY,by omega⟩
    ·rw [h] at c;omega
   ·exact Th (q2 hm h' ks2 es2 ep2 t2 ((VC _ _ _).trans g1) (p1.trans g2') g3)
  ·rename_i c;simp only [aaJ,Xj] at c;unfold abX at c;rw [hfill,f1,decide_eq_true_eq] at c;exact Th (q2 hm _ ks' _ _ _ (VC _ _ _) p1 ⟨hg,⟨L',T'⟩,f2.trans S.pl,f3.trans S.ld,by rw [f1];omega,p2,nd'⟩)
end
theorem gK.keep {K:Tg}{J:Hp}{h h':Vd}{a:T3}{led:Bool}{ks:List D}{es:Array (Int×Ti)}{ep:Nat}{t:Vx}(S:gK K J h a led ks es ep t) (e:∀o,h.get? a=some o->h'.get? a=some o):gK K J h' a led ks es ep t:=
 ⟨e _ S.at_,S.tab,S.pl,S.ld,S.rm,S.en,S.nd⟩
section
variable {prog:TU}{w:Uk}{A:Um}{R:abD->Tj->Prop}{I:T3}{fp wr:List T3}{G:Array ad8->Array ad8->Prop}{n:Nat}{P:Nat->Ti->Prop}{St:Nat->Tj->Prop}{K:Tg}{J:Hp}
theorem HD (W:WalksS prog w A.in1 I fp wr G n P St) (S:T3) (hSf:S∉fp) (val:Nat->D) (hval:∀i v,P i v->KV K J v (val i)){s0:Tj}(N0:HF K J s0) (hnew:∀b∈S::wr,s0.heap.get? b=none) (hu:A.in1.units + 8 < Vm) (hn:n<=76){led:Bool}:
  ∀(k i:Nat) (s:Tj) (ks:List D) (es:Array (Int×Ti)) (ep:Nat) (t:Vx),n - i=k->i<=n->St i s->(∀b o,s0.heap.get? b=some o->s.heap.get? b=some o)->gK K J s.heap S led ks es ep t->(∀d,d∈ks↔d∈(Tw i).map val)->
   (∀s' ks' es' ep' t',Moved (S::wr) G s s'->gK K J s'.heap S led ks' es' ep' t'->(∀d,d∈ks'↔d∈(Tw n).map val)->R (.ok (.ret .none)) s')->
   (VH (T5 prog w) A (.builtin "set.update.loop" ⟨[.ref S,.ref I],[]⟩) R s):=by
 (have Rc:S∉wr:=λh=>hSf (W.sub _ h))
 (have hsub:∀b∈wr,b∈S::wr:=λb hb=>Tq _ hb)
 have old:∀b o,s0.heap.get? b=some o->b∉S::wr:=λb o e hm=>by rw [hnew b hm] at e;cases e
 intro k
 induction k with
 | zero=>
  intro i s ks es ep t hk hi hst hb hS hm hR;have hin:i=n:=by omega
  subst hin;refine Vk Xp ?_;rw [UK Vl _]
  (show TX _ A.in1 (W7 (.ref I) >>= _) _ _ s)
  refine Tf (W.done s _ _ hst λs' Rj=>?_)
  (show TX _ A.in1 (ret Ux) _ _ s')
  exact Th (hR s' ks es ep t (Rj.mono hsub) (hS.keep λo e=>Rj.heap S o Rc e) hm)
 | succ k ih=>
  intro i s ks es ep t hk hi hst hb hS hm hR;have hlt:i < n:=by omega
  have hlen:ks.length<=i:=by have:=Uv hS.nd (λd hd=>(hm d).mp hd);simpa using this
  refine Vk Xp ?_;rw [UK Vl _]
  (show TX _ A.in1 (W7 (.ref I) >>= _) _ _ s)
  refine Tf (W.item i s _ _ hlt hst λv s' hP Rq Rj=>?_);have hx:=hval i v hP;obtain ⟨_,x1,x2,vv,x3,x4⟩:=id hx;have hS':=hS.keep (h':=s'.heap) λo e=>Rj.heap S o Rc e;have hb':∀b o,s0.heap.get? b=some o->s'.heap.get? b=some o:=λb o e=>Rj.heap b o (λhm=>old b o e (hsub b hm)) (hb b o e);have N':HF K J s':=N0.keep hb';have mem':∀(ks':List D),(∀d,d∈ks'↔d=val i\/d∈ks)->∀d,d∈ks'↔d∈(Tw (i + 1)).map val:=λks' h d=>by rw [h d,hm d,YZ,Ue,Ub];simp only [TV,Z_,TL];exact Or.comm
  show TX _ A.in1 (holding [v] (setAdd S v) >>= _) _ _ s'
  (refine Tf (Ul ?_))
  unfold setAdd;refine Ul ?_;refine Tf (vM (val i) vv v A.in1 s' N' x1 x3 x4 (by omega) _ _ _ N' ?_);refine IZ (s:={s' with toks:=s'.toks + kr (val i)}) (⟨N'.t,N'.l,N'.e,N'.d⟩:HF K J {s' with toks:=s'.toks + kr (val i)}) hS' hx hu (by omega) (λhin=>?_) (λhin h' ks' es' ep' t' RX SD Rv=>?_)
  ·refine Th ⟨VY Vl _,ih (i + 1) _ ks es ep t (by omega) hlt (W.frame _ s' _ _ Rq (Xv _ _) λb hb o e=>e) hb' hS' (mem' ks λd=>⟨.inr,λh=>h.elim (λh=>h▸hin) id⟩) λs'' ks'' es'' ep'' t'' hm'' hS'' Rm=>?_⟩;exact hR s'' ks'' es'' ep'' t'' (ad3 W.gtrans ((Rj.mono hsub).then_heap (Xv _ _) λb o hb e=>e) hm'') hS'' Rm
  ·refine Th ⟨VY Vl _,ih (i + 1) _ ks' es' ep' t' (by omega) hlt (W.frame _ s' _ _ Rq (Xv _ _) λb hb o e=>?_) (λb o e=>?_) Rv (mem' ks' λd=>?_) λs'' ks'' es'' ep'' t'' hm'' hS'' Rm=>?_⟩
   ·(rw [RX.2 b (λh:b=S=>hSf (by rw [<-h];exact hb))];exact e)
   ·show h'.get? b=some o;rw [RX.2 b (λh:b=S=>old b o e (by rw [h];exact Tu))];exact hb' b o e
   ·rw [<-SD.mem_iff,TZ]
   ·refine hR s'' ks'' es'' ep'' t'' (ad3 W.gtrans ((Rj.mono hsub).then_heap (Xv _ _) λb o hb e=>?_) hm'') hS'' Rm
    (rw [RX.2 b (λh:b=S=>hb (by rw [h];exact Tu))];exact e)
end
theorem CJ {K:Tg}{J:Hp}{h:Vd}{a:T3}{led:Bool}(e:h.get? a=some {cls:=.type "set",dict:=none,data:=.set #[] 0 (.fresh 0 0 led)}):gK K J h a led [] #[] 0 (.fresh 0 0 led):=
 ⟨e,⟨[],⟨rfl,rfl,rfl,WB,(λ_ h=>nomatch h),.inl rfl,Uc _,(λ_ h=>nomatch h)⟩⟩,rfl,rfl,(show 0 * 5 < 7 * 3 by decide),.nil,WY⟩
end DL
namespace ST
open PySem PySem.SetTable
theorem yF {xs:Array Nat}(hs:xs.toList.Pairwise (· < ·)) (hi:i<=xs.size) (h1:∀k,k < i->xs.getD k 0 < j) (h2:∀k,i<=k->k < xs.size->j<=xs.getD k 0):below xs j=i:=by
 obtain ⟨b1,b2,b3⟩:=ny xs j hs;rcases Xh (below xs j) i with c | c | c
 ·have:=h1 _ c;have:=b3 _ (Tv _) (by omega);omega
 ·exact c
 ·have:=b2 _ c;have:=h2 i (Tv _) (by omega);omega
theorem BV {xs:Array Nat}(hs:xs.toList.Pairwise (· < ·)):below xs 0=0:=yF hs (Uc _) (λk h=>absurd h (UU _)) λk _ _=>Uc _
theorem BU {xs:Array Nat}(hs:xs.toList.Pairwise (· < ·)) (h:xs[i]?=some j):below xs (j + 1)=i + 1:=by
 obtain ⟨hi,e⟩:=Vc.mp h;have sw:=UX.mp hs;have gd:∀k (hk:k < xs.size),xs.getD k 0=xs[k]:=λk hk=>by simp [VA,hk]
 refine yF hs (by omega) (λk hk=>?_) (λk h1 h2=>?_)
 ·rw [gd k (by omega)];by_cases c:k=i
  ·subst c;omega
  ·have:=sw k i (by simp;omega) (by simpa using hi) (by omega);simp at this;omega
 ·rw [gd k h2];have:=sw i k (by simpa using hi) (by simpa using h2) (by omega);simp at this;omega
theorem wM {α:Type}(next:Nat->Nat):∀(f k:Nat) (left:List α) (out:Array α),f=left.length->(abM next f k left out).toList.Perm (out.toList++left)
 | 0,k,left,out,h=>by have:left=[]:=V2.mp h.symm;subst this;unfold abM;simp
 | f + 1,k,left,out,h=>by
  have hl:next k % left.length < left.length:=aax _ (by omega);unfold abM;rw [TR hl];dsimp only;refine (wM next f (k + 1) _ _ (by rw [aaE];simp [hl];omega)).trans ?_;rw [abx,Yk]
  (refine adF _ ?_)
  have e1:left.eraseIdx (next k % left.length)=left.take (next k % left.length)++left.drop (next k % left.length + 1):=Yl _ _;have e2:left=left.take (next k % left.length)++left[next k % left.length]::left.drop (next k % left.length + 1):=by rw [List.getElem_cons_drop,aaj]
  rw [e1,List.singleton_append];exact (abW.symm).trans (aex e2.symm)
theorem Cy {α:Type}(next:Nat->Nat) (xs:Array α):(acj next xs).toList.Perm xs.toList:=by have h:=wM next xs.size 0 xs.toList #[] (by simp);rw [show (#[]:Array α).toList++xs.toList=xs.toList from rfl] at h;exact h
end ST
namespace DL
open PySem PySem.Spec PyProof.Rows L2 ST
structure jX (h:Vd) (a:T3) (led:Bool) (es:Array (Int×Ti)) (ep:Nat) (t:Vx):Prop where
 at_:h.get? a=some {cls:=.type "set",dict:=none,data:=.set es ep t}
 tab:∃L,Tab t es L
 pl:t.plain=true
 ld:t.led=led
theorem jX.keep {h h':Vd}(S:jX h a led es ep t) (e:∀o,h.get? a=some o->h'.get? a=some o):jX h' a led es ep t:=⟨e _ S.at_,S.tab,S.pl,S.ld⟩
theorem gK.wk {K:Tg}{J:Hp}{h:Vd}{a:T3}{led:Bool}{ks:List D}{es:Array (Int×Ti)}{ep:Nat}{t:Vx}(S:gK K J h a led ks es ep t):jX h a led es ep t:=⟨S.at_,S.tab,S.pl,S.ld⟩
abbrev nQ (w:Uk):Bool:=!w.params.followText "set-order"
noncomputable def gx (w:Uk) (a ep:Nat) (es:Array (Int×Ti)):Array (Int×Ti):=if w.params.followText "set-order"=true then acj (w.params.setOrder a ep) es else es
theorem rZ (w:Uk) (a ep:Nat) (es:Array (Int×Ti)):(gx w a ep es).toList.Perm es.toList:=by
 unfold gx;split
 ·exact Cy _ _
 ·exact .refl _
theorem mC (w:Uk) (a ep:Nat) (es:Array (Int×Ti)):(gx w a ep es).size=es.size:=by rw [<-TY,(rZ w a ep es).length_eq,TY]
abbrev oH (a:T3) (slot i n ep:Nat):Obj:={cls:=.type "set_iterator",data:=.fields #[.int slot 0,.int i 0,.ref a,.int n 0,.int ep 0]}
theorem tR:aeg table "set.__iter__"=some WZ.«frozenset.__iter__»:=
 (acN (id':="frozenset.__iter__") (by kernel_rfl) rfl (by decide +kernel) (by kernel_rfl))
theorem fV:Slot "set_iterator" "__next__" "set_iterator.__next__":=
 (.of (owner:="set_iterator") (n:="__next__") (by rw [aal,Yy];kernel_rfl) (by decide +kernel) (by decide +kernel) (by decide +kernel)
  (by first | exact .inl (by decide +kernel) | exact .inr (by decide +kernel)) (by rw [Xq];kernel_rfl))
theorem oA:aeg table "set_iterator.__next__"=some WZ.«set_iterator.__next__»:=(entryFor_of_tree (by kernel_rfl))
theorem o9 (a:Ti):abJ "set_iterator.__next__" ⟨[a],[]⟩:=by unfold abJ;kernel_rfl
section
variable {prog:TU}{w:Uk}{A:Um}{E:Ti->Tj->Prop}{s:Tj}
theorem Gi {es:Array (Int×Ti)}{Q:Ti->Tj->Prop}(S:jX s.heap a led es ep t)
 (hQ:Q (.ref s.heap.objs.size) {s with heap:=s.heap.push (oH a 0 0 es.size ep)}):TX (T5 prog w) A (Zd (.ref a)) Q E s:=by
 obtain ⟨L,T⟩:=S.tab;have hT:s.TypeIs (.ref a) "set":=⟨_,S.at_,rfl⟩;refine Ym hT ack (Uy ack hT tR ?_ (F.args_set_iter_1 _));show TX _ _ (Zv a >>= _) _ _ s;unfold Zv;refine Tf (Tf (Y0 S.at_ rfl (dU T) (Th ?_)));unfold setDrawn ac3;refine Tf (Tf (VB S.at_ rfl (dU T) (Tf (Tf (We (Th (Th ?_)))))));dsimp only;split
 ·rename_i c;have c:(!w.params.followText "set-order" && (!t.plain && decide (es.size > 1)))=true:=c;rw [S.pl] at c;simp at c
 ·(refine Tf (Th ?_))
  refine Tf (wpAny_setEpoch_of S.at_ rfl (dU T) ?_)
  (refine Tf (Ui ?_))
  exact Th ⟨_,rfl,"set_iterator",_,⟨_,TH _ rfl,rfl⟩,fV.lookup,hQ⟩
theorem zS {t:Vx}{Q:Option (Ti×Nat)->Tj->Prop}(S:jX s.heap a (nQ w) es ep t) (hb:w.params.followText "set-order"=false->Xr t.place slot=i)
 (q1:∀e slot',(gx w a ep es)[i]?=some e->(w.params.followText "set-order"=false->Xr t.place slot'=i + 1)->Q (some (e.2,slot')) s) (q2:(gx w a ep es)[i]?=none->Q none s):
  TX (T5 prog w) A (setNext a slot i ep) Q E s:=by
 obtain ⟨L,T⟩:=S.tab;unfold setNext ac3;refine Tf (VB S.at_ rfl (dU T) ?_);dsimp only
 (refine Tf (Tf (We (Th ?_))))
 dsimp only;cases bt:w.params.followText "set-order" with
 | true=>
  rw [show (T5 prog w).w.params.followText "set-order"=true from bt];simp only [if_true,bne_self_eq_false,TJ,if_false];unfold setWalk ac3;refine Tf (Tf (VB S.at_ rfl (dU T) ?_));dsimp only
  (refine Tf (Tf (We (Th ?_))))
  dsimp only;rw [show (T5 prog w).w.params.followText "set-order"=true from bt];simp only [if_true];refine Tf (We (Th ?_));dsimp only;have ew:gx w a ep es=acj ((T5 prog w).w.params.setOrder a ep) es:=by unfold gx;rw [if_pos bt];rfl
  rw [ew] at q1 q2;cases q:(acj ((T5 prog w).w.params.setOrder a ep) es)[i]? with
  | none=>exact Th (q2 q)
  | some e=>exact Th (q1 e slot q λz=>absurd (bt.symm.trans z) (by decide))
 | false=>
  rw [show (T5 prog w).w.params.followText "set-order"=false from bt]
  (simp only [TJ,if_false])
  have ew:gx w a ep es=es:=by unfold gx;rw [if_neg (by rw [bt];decide)]
  rw [ew] at q1 q2;have RN:t.led=true:=by rw [S.ld];show (!w.params.followText "set-order")=true;rw [bt];rfl
  split
  ·rename_i c;have c:(!t.plain && decide (es.size > 1))=true:=c;rw [S.pl] at c;simp at c
  ·refine Tf (Yd (a:=()) ?_ ?_)
   ·show (if (!t.led && !es.isEmpty)=true then _ else pure ())=pure ();rw [RN];rfl
   ·rw [hb bt];cases q:es[i]? with
    | none=>exact Th (q2 q)
    | some e=>
     have hlen:i < t.place.size:=by
      have h1:=(Vc.mp q).1;have h2:t.place.size=es.size:=by rw [<-TY,T.pl,Tp,vI T]
      omega
     have ep':t.place[i]?=some t.place[i]:=VF hlen;rw [ep'];exact Th (q1 e _ q λ_=>BU T.sop ep')
theorem GB {es:Array (Int×Ti)}{t:Vx}{Q:Option Ti->Tj->Prop}(hne:a≠I) (S:jX s.heap a (nQ w) es ep t) (hI:s.heap.get? I=some (oH a slot i es.size ep)) (hb:w.params.followText "set-order"=false->Xr t.place slot=i) (hi:i < es.size)
 (hQ:∀h' slot' e,(gx w a ep es)[i]?=some e->h'.get? I=some (oH a slot' (i + 1) es.size ep)->(w.params.followText "set-order"=false->Xr t.place slot'=i + 1)->Vu I s.heap h'->Q (some e.2) {s with heap:=h'}):
  TX (T5 prog w) A (W7 (.ref I)) Q E s:=by
 obtain ⟨L,T⟩:=S.tab;have hT:s.TypeIs (.ref I) "set_iterator":=⟨_,hI,rfl⟩;unfold W7;refine Tf (Wh (UT (name:=W9 "__next__") hT fV (Uy fV hT oA ?_ (o9 _))));show TX _ _ (fieldsOf (.ref I) >>= _) _ _ s;refine Tf (Xs hI rfl ?_);dsimp only;refine Tf (Y0 S.at_ rfl (dU T) ?_);simp only [bne_self_eq_false,TJ,if_false,U8];refine Tf (zS S hb (λe slot' q1 q2=>?_) λq=>?_)
 ·dsimp only;refine Tf (Zi hI (by simp) λh1 g1 b1=>?_);refine Tf (Zi (s:={s with heap:=h1}) g1 (by simp) λh2 g2' b2=>?_);exact Th ⟨_,rfl,Th (hQ h2 slot' e q1 (g2'.trans (by simp [ZP])) q2 (b1.trans b2))⟩
 ·exfalso;have:=(Array.getElem?_eq_none_iff.mp q);rw [mC] at this;omega
theorem Jl {es:Array (Int×Ti)}{t:Vx}{Q:Option Ti->Tj->Prop}(hh:A.handled=none) (S:jX s.heap a (nQ w) es ep t) (hI:s.heap.get? I=some (oH a slot es.size es.size ep)) (hb:w.params.followText "set-order"=false->Xr t.place slot=es.size)
 (hQ:∀h',acm I s.heap h'->Q none {s with heap:=h'}):TX (T5 prog w) A (W7 (.ref I)) Q E s:=by
 obtain ⟨L,T⟩:=S.tab;have hT:s.TypeIs (.ref I) "set_iterator":=⟨_,hI,rfl⟩;unfold W7;refine Tf (Wh (UT (name:=W9 "__next__") hT fV (Uy fV hT oA ?_ (o9 _))));show TX _ _ (fieldsOf (.ref I) >>= _) _ _ s;refine Tf (Xs hI rfl ?_);dsimp only;refine Tf (Y0 S.at_ rfl (dU T) ?_);simp only [bne_self_eq_false,TJ,if_false,U8];refine Tf (zS S hb (λe slot' q1 q2=>?_) λq=>?_)
 ·exfalso;have:=(Vc.mp q1).1;rw [mC] at this;omega
 ·dsimp only;refine Tf (Zi hI (by simp) λh1 g1 b1=>?_);refine Tf ?_;simp only [aeh,aei]
  (refine Tf (Ui ?_ (by size_fits)))
  (refine Tf (m:=Xu _ _) (Yd (a:=Ux) (by first | rfl | (simp only [Xu];rfl)) ?_))
  (refine Ui ?_ (by size_fits))
  simp only [aej]
  (refine Tf (abb ?_))
  (first | rw [show A.in1.handled=none from hh] | rw [hh])
  (refine Tf (Th (acn ?_)))
  (refine Tf (Xw (T:="StopIteration") (b:=true) ⟨_,TH _ rfl,rfl⟩ aaN ?_))
  exact Th (hQ _ ((b1.extBut.push _).push _))
end
theorem xS:typeLookup (.type "set") "__len__"=pure (some (.builtin "set.__len__")):=by rw [aal,Yy];kernel_rfl
theorem Fx {M:adL}{A:Um}{E:Ti->Tj->Prop}{s:Tj}{α:Type}{c:Prop} [Decidable c] {m1 m2:Sem α}{Q:α->Tj->Prop}(hc:c) (h:TX M A m1 Q E s):TX M A (if c then m1 else m2) Q E s:=by rw [if_pos hc];exact h
theorem Gf {prog:TU}{w:Uk}{A:Um}{E:Ti->Tj->Prop}{s:Tj}{a:T3}{Q:Bool->Tj->Prop}(hT:s.TypeIs (.ref a) "set") (hQ:Q false s):TX (T5 prog w) A (Y3 (.ref a)) Q E s:=by
 have sp:splitId "set.__len__"=some ("set","__len__"):=by decide +kernel
 (unfold Y3)
 refine Tf (XU hT xS ?_);dsimp -zeta only;rw [sp];dsimp -zeta only;refine Tf (m:=acY (.ref a) (.type "set")) (Xw hT sub_set_self ?_)
 (show TX _ _ (if (!true)=true then _ else _) _ _ _)
 rw [if_neg (by decide)];refine Fx (by decide +kernel) ?_
 (refine Tf (Ys hT ?_))
 exact Th hQ
theorem pZ:Slot "set_iterator" "__iter__" "set_iterator.__iter__":=
 ((.of (owner:="set_iterator") (n:="__iter__") (by rw [aal,Yy];kernel_rfl) (by decide +kernel) (by decide +kernel) (by decide +kernel)
  ((by first | exact .inl (by decide +kernel) | exact .inr (by decide +kernel))) (by rw [Xq];kernel_rfl)))
theorem xQ:aeg table "set_iterator.__iter__"=some WZ.«dict_keyiterator.__iter__»:=
 (acN (id':="dict_keyiterator.__iter__") (by kernel_rfl) rfl (by decide +kernel) (by kernel_rfl))
theorem yC (a:Ti):abJ "set_iterator.__iter__" ⟨[a],[]⟩:=by unfold abJ;kernel_rfl
section
variable {prog:TU}{w:Uk}{A:Um}{E:Ti->Tj->Prop}{s:Tj}
def kG (w:Uk) (a ep:Nat) (es:Array (Int×Ti)):List Ti:=(gx w a ep es).toList.map (·.2)
theorem Fw (hh:A.handled=none) (I a:T3) (hne:a≠I){es:Array (Int×Ti)}{t:Vx}:
  Walks prog w A I [I,a] [I] es.size (λi v=>(kG w a ep es)[i]?=some v) (λi h=>∃slot,h.get? I=some (oH a slot i es.size ep)/\jX h a (nQ w) es ep t/\(w.params.followText "set-order"=false->Xr t.place slot=i)) where
 sub:=λ_ hb=>by simp at hb;simp [hb]
 frame:=λ_ _ _ ⟨slot,h1,h2,h3⟩ hk=>⟨slot,hk I (by simp) _ h1,h2.keep λo e=>hk a (by simp) o e,h3⟩
 item:=λi s Q E hi ⟨slot,h1,h2,h3⟩ hQ=>by
  refine GB hne h2 h1 h3 hi λh' slot' e q1 q2 q3 q4=>?_;refine hQ e.2 h' s.toks ?_ ⟨slot',q2,h2.keep λo e=>?_,q3⟩ λb o hb e=>?_
  ·unfold kG;rw [Uh,U4,q1];rfl
  ·rw [q4.2 a hne];exact e
  ·exact q4.extBut b o (λh=>hb (by simp [h])) e
 done:=λs Q E ⟨slot,h1,h2,h3⟩ hQ=>Jl hh h2 h1 h3 λh' he=>hQ h' s.toks λb o hb e=>he b o (λh=>hb (by simp [h])) e
 self:=λi s Q E ⟨slot,h1,h2,h3⟩ hQ=>by have hT:s.TypeIs (.ref I) "set_iterator":=⟨_,h1,rfl⟩;refine Ym hT pZ (Uy pZ hT xQ ?_ (yC _));show TX _ _ (ret (.ref I)) _ _ s;exact Th ⟨_,rfl,"set_iterator",_,hT,fV.lookup,hQ⟩
theorem Ar {a:T3}{es:Array (Int×Ti)}{ep:Nat}{t:Vx}{Q:List Ti->Tj->Prop}(hh:A.handled=none) (S:jX s.heap a (nQ w) es ep t) (hn:es.size<=76)
  (hQ:∀(h':Vd) (tk:Nat),(∀b o,s.heap.get? b=some o->h'.get? b=some o)->s.heap.objs.size < h'.objs.size->Q (kG w a ep es) {s with heap:=h',toks:=tk}):TX (T5 prog w) A (collect (.ref a)) Q E s:=by
 have ha:a < s.heap.objs.size:=TN S.at_;have hT:s.TypeIs (.ref a) "set":=⟨_,S.at_,rfl⟩;unfold collect
 (refine Tf (aaL (Vk aag ?_)))
 (rw [UK aah _])
 show TX _ A.in1 (newList [] >>= λl=>again (.builtin "list.__iadd__" ⟨[l,.ref a],[]⟩)) _ _ s
 (refine Tf (Ui ?_))
 (refine Th ⟨VY Yg _,Vk abu ?_⟩)
 (rw [UK Yg _])
 generalize RM:({cls:=.type "list",data:=.seq ([]:List Ti).toArray}:Obj)=l0;have S1:jX (s.heap.push l0) a (nQ w) es ep t:=S.keep λo e=>Tn _ e;have hT1:ZK {s with heap:=s.heap.push l0} (.ref a) "set":=⟨_,S1.at_,rfl⟩;show TX _ A.in1 (Y4 (.ref s.heap.objs.size) (.ref a) (.ref s.heap.objs.size)) _ _ _
 (unfold Y4)
 refine Tf (Ys hT1 ?_);have h1:ac4 (.ref s.heap.objs.size) (.ref a)=false:=by show (s.heap.objs.size == a)=false;exact beq_eq_false_iff_ne.mpr (WJ ha)
 have h2:(X7 "set" == X7 "list")=false:=by decide
 have h3:(X7 "set" == X7 "tuple")=false:=by decide
 (simp only [h1,h2,h3,adg,TJ,if_false])
 refine Tf (Gi S1 ?_)
 (refine Tf (Ul ?_))
 have z1:(s.heap.push l0).objs.size=s.heap.objs.size + 1:=Wt _ _;rw [z1];have S2:jX ((s.heap.push l0).push (oH a 0 0 es.size ep)) a (nQ w) es ep t:=S1.keep λo e=>Tn _ e;have hT2:ZK {s with heap:=(s.heap.push l0).push (oH a 0 0 es.size ep)} (.ref a) "set":=⟨_,S2.at_,rfl⟩;refine Gf hT2 ?_;refine Fx (by decide +kernel) ?_
 (refine Tf (YQ ?_))
 subst RM;have hI:((s.heap.push {cls:=.type "list",data:=.seq ([]:List Ti).toArray}).push (oH a 0 0 es.size ep)).get? (s.heap.objs.size + 1)=some (oH a 0 0 es.size ep):=by rw [<-z1];exact TH _ rfl
 have hS₁:((s.heap.push {cls:=.type "list",data:=.seq ([]:List Ti).toArray}).push (oH a 0 0 es.size ep)).get? s.heap.objs.size=some {cls:=.type "list",data:=.seq ([]:List Ti).toArray}:=Tn _ (TH _ rfl);refine Tf ?_
 (show TX _ A.in1 (ab8 s.heap.objs.size (·.push .none) >>= λ_=>ab8 s.heap.objs.size (·.pop)) _ _ _)
 (refine Tf (WD hS₁ rfl ?_))
 (have hS₂:=UQ (UR (·.push Ux)) hS₁ rfl)
 (refine WD hS₂ rfl ?_)
 (have hS₃:=UQ (UR (·.pop)) hS₂ rfl)
 have oth:∀b o,b≠s.heap.objs.size->((s.heap.push {cls:=.type "list",data:=.seq ([]:List Ti).toArray}).push (oH a 0 0 es.size ep)).get? b=some o->
   ((((s.heap.push {cls:=.type "list",data:=.seq ([]:List Ti).toArray}).push (oH a 0 0 es.size ep)).update s.heap.objs.size (UR (·.push Ux))).update s.heap.objs.size (UR (·.pop))).get? b=some o:=
  (λb o hb e=>(UY _ _ (VG hb)).trans ((UY _ _ (VG hb)).trans e))
 have hne:a≠s.heap.objs.size + 1:=Ua (Vy ha);have hSf:s.heap.objs.size∉[s.heap.objs.size + 1,a]:=by simp only [TZ,V9,or_false,not_or];exact ⟨Ua (Vv _),WJ ha⟩
 obtain ⟨L,T⟩:=S.tab;refine Th ⟨VY F.plain_extend_loop _,codeAny_extend_loopS ((Fw (A:=A.in1) (prog:=prog) (w:=w) (es:=es) (ep:=ep) (t:=t) hh (s.heap.objs.size + 1) a hne).toS) (by rw [UH];omega) _ hSf _ es.size 0 _ _ _ rfl (Uc _)
  ⟨0,oth _ _ (WJ (Vv _)) hI,S2.keep λo e=>oth _ _ (Ua ha) e,λ_=>BV T.sop⟩ hS₃ (ItemsOf.nil _) λs' acc' c' hm hS' hacc=>?_⟩
 (show TX _ A (load s.heap.objs.size >>= _) _ _ s')
 (refine Tf (acT hS' ?_))
 have eacc:acc'.toList=kG w a ep es:=by
  obtain ⟨z,q⟩:=hacc;have lw:(kG w a ep es).length=es.size:=by unfold kG;rw [Tp,TY,mC]
  refine YG (by rw [TY,z,lw]) λi x1 x2=>?_;have this:(kG w a ep es)[i]?=some (acc'[i]'(by simpa using x1)):=q i _ (VF (by simpa using x1));rw [TR x2] at this
  (exact (U3 this).symm)
 refine Th ?_;rw [eacc]
 (obtain ⟨h',g',d',tk',os'⟩:=s')
 (have eg:g'=s.gens:=hm.gens)
 (have ed:d'=s.drawn:=hm.drawn)
 have eo:os'=s.os:=hm.os;subst eg;subst ed;subst eo;refine hQ h' tk' (λb o e=>?_) (TN hS');have lb:=TN e;refine hm.heap b o ?_ (oth b o (Ua lb) (Tn _ (Tn _ e)));simp only [TZ,V9,or_false,not_or];exact ⟨Ua lb,Ua (Vy lb)⟩
end
theorem Fj:aam (.type "tuple") (.type "set")=pure false:=by rw [Xq];kernel_rfl
theorem Fi:aam (.type "tuple") (.type "frozenset")=pure false:=by rw [Xq];kernel_rfl
theorem Ek:aam (.type "list") (.type "set")=pure false:=by rw [Xq];kernel_rfl
theorem Ej:aam (.type "list") (.type "frozenset")=pure false:=by rw [Xq];kernel_rfl
abbrev f9 (led:Bool):Obj:={cls:=.type "set",dict:=none,data:=.set #[] 0 (.fresh 0 0 led)}
abbrev dz (w:Uk):Bool:=!w.params.followText "set-order"
section
variable {prog:TU}{w:Uk}{A:Um}{E:Ti->Tj->Prop}{s:Tj}{K:Tg}{J:Hp}
theorem Ht (a:Ti){Q₁:Ti->Tj->Prop}(h:Q₁ (.ref s.heap.objs.size) {s with heap:=s.heap.push (f9 (dz w))}):
  (VH (T5 prog w) A (.call (.builtin "set.__new__") ⟨[.type "set",a],[]⟩) (wants Q₁ E) s):=by
 refine (Y5 ?_)
 (show TX _ A.in1 (do YC "set.__new__" ⟨[.type "set",a],[]⟩;again (.builtin "set.__new__" ⟨[.type "set",a],[]⟩)) _ _ s)
 refine Tf (Yd (PySem.F.newCall_set_1 a) (Th ⟨VY aco _,Vk F.entry_set_new ?_⟩))
 (rw [UK aco _])
 (unfold WZ.«set.__new__» acz)
 have hsub:=sub_set_self
 (obtain ⟨hp,g,d,tk,os⟩:=s)
 dsimp only
 wp_walk
 (refine We (Th ?_))
 dsimp only;simp only [newObj]
 (refine Tf (wpAny_alloc (Th ?_)))
 exact Th h
noncomputable def FG (prog:TU) (w:Uk) (A:Um) (E:Ti->Tj->Prop) (s:Tj) (l:T3) (items:Array Ti):Prop:=
 ∃(I:T3) (fp:List T3) (St:Nat->Tj->Prop) (h2:Vd),WalksS prog w A.in1.in1.in1 I fp [I] (λa b=>b=a) items.size (λi v=>items[i]?=some v) St/\s.heap.objs.size∉fp/\s.heap.objs.size < I/\St 0 {s with heap:=h2}/\(∀b o,(s.heap.push (f9 (dz w))).get? b=some o->h2.get? b=some o)/\
  ∀R:Ti->Tj->Prop,R (.ref I) {s with heap:=h2}->TX (T5 prog w) A.in1.in1 (Zd (.ref l)) R E {s with heap:=s.heap.push (f9 (dz w))}
theorem zR {ol:Obj}{Q:Ti->Tj->Prop}{items:Array Ti}(P:Vd->Prop) (Q4:s.heap.get? l=some ol) (hcl:ol.cls=.type T) (SI:aam (.type T) (.type "set")=pure false) (SH:aam (.type T) (.type "frozenset")=pure false) (hne:(X7 T == X7 "dict")=false)
 (it:FG prog w A E s l items)
 (loop:∀{I:T3}{fp:List T3}{St:Nat->Tj->Prop}{h2:Vd}{R:_->Tj->Prop},WalksS prog w A.in1.in1.in1 I fp [I] (λa b=>b=a) items.size (λi v=>items[i]?=some v) St->s.heap.objs.size∉fp->s.heap.objs.size < I->St 0 {s with heap:=h2}->(∀b o,(s.heap.push (f9 (dz w))).get? b=some o->h2.get? b=some o)->
 (∀s',Moved [s.heap.objs.size,I] (λa b=>b=a) {s with heap:=h2} s'->P s'.heap->R (.ok (.ret .none)) s')->VH (T5 prog w) A.in1.in1 (.builtin "set.update.loop" ⟨[.ref s.heap.objs.size,.ref I],[]⟩) R {s with heap:=h2})
 (h:∀(h':Vd) (tk:Nat),P h'->(∀b o,b < s.heap.objs.size->s.heap.get? b=some o->h'.get? b=some o)->Q (.ref s.heap.objs.size) {s with heap:=h',toks:=tk}):
  (TX (T5 prog w) A (call (.type "set") [.ref l]) Q E s):=by
 (obtain ⟨c,tl,Sz⟩:=Xa.mro)
 (have hmade:=Xa.made)
 have hsub:=Xa.sub
 (refine aav (Y5 ?_))
 (show TX _ _ (callAny (.type "set") _) _ _ _)
 (refine Th ⟨Code.quiet_builtin _ (by decide +kernel),Vk F.entry_type_call ?_⟩)
 (rw [Around.under_plain (weight_type_call_type "set" [.ref l] []) rfl])
 (have h1:=Xa.notType)
 (have h2:=Xa.canCreate)
 have hct:=PySem.F.typeCall_set_1 (.ref l)
 (repeat (any_goals (first | assumption | wp_step)))
 refine WK (Ht (.ref l) (E:=E) (Q₁:=λobj s₁=>obj=.ref s.heap.objs.size/\s₁={s with heap:=s.heap.push (f9 (dz w))}) ⟨rfl,rfl⟩) λr s₁ hr=>?_;cases r with
 | error e=>exact hr
 | ok fl=>
  cases fl with
  | ret obj=>
   obtain ⟨rfl,rfl⟩:=hr;have hS:(s.heap.push (f9 (dz w))).get? s.heap.objs.size=some (f9 (dz w)):=TH _ rfl;have hT:ZK {s with heap:=s.heap.push (f9 (dz w))} (.ref s.heap.objs.size) "set":=⟨_,hS,rfl⟩
   (have hli:=Xa.init.lookup)
   (have hbi:=Xa.init.bind (.ref s.heap.objs.size))
   (repeat (any_goals (first | assumption | wp_step)))
   refine WK (YJ (R:=wants (λr s₂=>r=.none/\∃h' tk,s₂={s with heap:=h',toks:=tk}/\P h'/\
     (∀b o,b < s.heap.objs.size->s.heap.get? b=some o->h'.get? b=some o)) E) Xa.init.plain F.entry_set_init ((check_set_init_1 hT ?_))) λr₂ s₂ hr₂=>?_
   ·have RS:(s.heap.push (f9 (dz w))).get? l=some ol:=Tn _ Q4;have SV:ZK {s with heap:=s.heap.push (f9 (dz w))} (.ref l) T:=⟨_,RS,hcl⟩
    (unfold WZ.«set.__init__» noKeywords ab1)
    generalize Sf:Zd=PI
    wp_walk
    subst Sf;obtain ⟨I,fp,St,h2,W,hSf,hSI,st,hk,hit⟩:=it;refine hit _ (Tf (aaL (loop W hSf hSI st hk λs' hm hp=>?_)))
    (obtain ⟨h',g',d',tk',os'⟩:=s')
    (have eg:g'=s.gens:=hm.gens)
    (have ed:d'=s.drawn:=hm.drawn)
    have eo:os'=s.os:=hm.os;subst eg;subst ed;subst eo;show TX _ _ _ _ _ _;refine Th ?_
    (show TX _ _ (ret Ux) _ _ _)
    refine Th ⟨rfl,h',tk',rfl,hp,λb o hb e=>hm.heap b o ?_ (hk b o (Tn _ e))⟩;simp only [TZ,V9,or_false,not_or];exact ⟨Ua hb,Ua (WL hb hSI)⟩
   ·cases r₂ with
    | error e=>exact hr₂
    | ok fl₂=>
     cases fl₂ with
     | ret r=>
      obtain ⟨rfl,h',tk,rfl,hp,hk'⟩:=hr₂
      (repeat (any_goals (first | assumption | wp_step)))
      exact h _ _ hp hk'
     | _=>exact hr₂.elim
  | _=>exact hr.elim
theorem Gg (hh:A.handled=none) (hl:s.heap.IsTuple l items):FG prog w A E s l items:=by
 obtain ⟨ol,Q4,hcl,nl,hdl⟩:=id hl;have hl1:(s.heap.push (f9 (dz w))).IsTuple l items:=⟨_,Tn _ Q4,hcl,nl,hdl⟩;have hlS:l < s.heap.objs.size:=TN Q4;have z1:(s.heap.push (f9 (dz w))).objs.size=s.heap.objs.size + 1:=Wt _ _;have Rk:l≠(s.heap.push (f9 (dz w))).objs.size:=by rw [z1];exact Ua (Vy hlS)
 refine ⟨_,_,_,_,(Walks.tuple (A:=A.in1.in1.in1) (by simp [hh]) (s.heap.push (f9 (dz w))).objs.size l Rk items).toS,?_,?_,⟨⟨_,TH _ rfl,rfl,rfl⟩,hl1.push _⟩,λb o e=>Tn _ e,λR q=>aa9 hl1 q⟩
 ·rw [z1];simp only [TZ,V9,or_false,not_or];exact ⟨Ua (Vv _),WJ hlS⟩
 ·rw [z1];exact Vv _
theorem Jw {l:T3}{items:Array Ti}(hh:A.handled=none) (hl:s.heap.IsList l items):FG prog w A E s l items:=by
 obtain ⟨ol,Q4,hcl,nl,hdl⟩:=id hl;have hl1:(s.heap.push (f9 (dz w))).IsList l items:=⟨_,Tn _ Q4,hcl,nl,hdl⟩;have hlS:l < s.heap.objs.size:=TN Q4;have z1:(s.heap.push (f9 (dz w))).objs.size=s.heap.objs.size + 1:=Wt _ _;have Rk:l≠(s.heap.push (f9 (dz w))).objs.size:=by rw [z1];exact Ua (Vy hlS)
 refine ⟨_,_,_,_,(abq (A:=A.in1.in1.in1) (by simp [hh]) (s.heap.push (f9 (dz w))).objs.size l Rk items).toS,?_,?_,⟨⟨_,TH _ rfl,rfl,rfl⟩,hl1.push _⟩,λb o e=>Tn _ e,λR q=>Xg hl1 q⟩
 ·rw [z1];simp only [TZ,V9,or_false,not_or];exact ⟨Ua (Vv _),WJ hlS⟩
 ·rw [z1];exact Vv _
theorem En {items:Array Ti}{ds:List D}(N:HF K J s) (hz:items.size=ds.length) (hi:∀i v,items[i]?=some v->KV K J v (ds.getD i .non)) (hn:ds.length<=76) (hu:A.units + 16 < Vm){St:Nat->Tj->Prop}{h2:Vd}{R:_->Tj->Prop}(W:WalksS prog w A.in1.in1.in1 I fp [I] (λa b=>b=a) items.size (λi v=>items[i]?=some v) St) (hSf:s.heap.objs.size∉fp) (hSI:s.heap.objs.size < I) (st:St 0 {s with heap:=h2})
 (hk:∀b o,(s.heap.push (f9 (dz w))).get? b=some o->h2.get? b=some o) (hR:∀s',Moved [s.heap.objs.size,I] (λa b=>b=a) {s with heap:=h2} s'->(∃ks es ep t,gK K J s'.heap s.heap.objs.size (dz w) ks es ep t/\∀d,d∈ks↔d∈ds)->R (.ok (.ret .none)) s'):VH (T5 prog w) A.in1.in1 (.builtin "set.update.loop" ⟨[.ref s.heap.objs.size,.ref I],[]⟩) R {s with heap:=h2}:=by
 have all:(Tw items.size).map (λi=>ds.getD i .non)=ds:=by refine YG (by simp [hz]) λi a b=>?_;simp [b]
 have hno:∀b,s.heap.objs.size<=b->s.heap.get? b=none:=λb hb=>by
  cases q:s.heap.get? b with
  | none=>rfl
  | some o=>exact absurd (TN q) (Nat.not_lt.mpr hb)
 refine HD (A:=A.in1.in1) (K:=K) (J:=J) (s0:=s) (led:=dz w) W s.heap.objs.size hSf (λi=>ds.getD i .non) hi N (λb hb=>hno b ?_) (by simp only [in1_units];omega) (by omega) items.size 0 _ [] #[] 0 (.fresh 0 0 (dz w)) (by omega) (Uc _) st (λb o e=>hk b o (Tn _ e)) (CJ (hk _ _ (TH _ rfl))) (λd=>by simp) λs' ks es ep t hm hS' hmem=>hR s' hm ⟨ks,es,ep,t,hS',by rw [all] at hmem;exact hmem⟩;rcases TZ.mp hb with rfl | hb
 ·exact Tv _
 ·rw [TL.mp hb];exact Zc hSI
theorem zT {items:Array Ti}{ds:List D}{Q:Ti->Tj->Prop}(N:HF K J s) (hh:A.handled=none) (hl:s.heap.IsTuple l items) (hz:items.size=ds.length) (hi:∀i v,items[i]?=some v->KV K J v (ds.getD i .non)) (hn:ds.length<=76) (hu:A.units + 16 < Vm)
 (h:∀(h':Vd) (tk:Nat) ks es ep t,gK K J h' s.heap.objs.size (dz w) ks es ep t->(∀d,d∈ks↔d∈ds)->(∀b o,b < s.heap.objs.size->s.heap.get? b=some o->h'.get? b=some o)->Q (.ref s.heap.objs.size) {s with heap:=h',toks:=tk}):
  (TX (T5 prog w) A (call (.type "set") [.ref l]) Q E s):=by obtain ⟨ol,Q4,hcl,_⟩:=id hl;exact zR (λh'=>∃ks es ep t,gK K J h' s.heap.objs.size (dz w) ks es ep t/\∀d,d∈ks↔d∈ds) Q4 hcl Fj Fi (by decide) (Gg hh hl) (λW a b c d e=>En N hz hi hn hu W a b c d e) λh' tk ⟨ks,es,ep,t,a,b⟩=>h h' tk ks es ep t a b
theorem Ax {l:T3}{items:Array Ti}{ds:List D}{Q:Ti->Tj->Prop}(N:HF K J s) (hh:A.handled=none) (hl:s.heap.IsList l items) (hz:items.size=ds.length) (hi:∀i v,items[i]?=some v->KV K J v (ds.getD i .non)) (hn:ds.length<=76) (hu:A.units + 16 < Vm)
  (h:∀(h':Vd) (tk:Nat) ks es ep t,gK K J h' s.heap.objs.size (dz w) ks es ep t->(∀d,d∈ks↔d∈ds)->(∀b o,b < s.heap.objs.size->s.heap.get? b=some o->h'.get? b=some o)->Q (.ref s.heap.objs.size) {s with heap:=h',toks:=tk}):
  (TX (T5 prog w) A (call (.type "set") [.ref l]) Q E s):=by obtain ⟨ol,Q4,hcl,_⟩:=id hl;exact zR (λh'=>∃ks es ep t,gK K J h' s.heap.objs.size (dz w) ks es ep t/\∀d,d∈ks↔d∈ds) Q4 hcl Ek Ej (by decide) (Jw hh hl) (λW a b c d e=>En N hz hi hn hu W a b c d e) λh' tk ⟨ks,es,ep,t,a,b⟩=>h h' tk ks es ep t a b
end
end DL
namespace DL
open PySem PySem.Spec PyProof.Rows L2 ST
open PySem.W (KasT kas_sort kas_ask)
mutual
noncomputable def formOf:D->Fm
 | .int _=>.i
 | .tup xs=>AX xs
 | _=>.b
noncomputable def AX:List D->Fm
 | []=>.tn
 | x::xs=>.tc (formOf x) (AX xs)
end
noncomputable def qA:Fm->D->Bool
 | .i,.int _=>true
 | .tn,.tup xs=>xs.isEmpty
 | .tc x r,.tup (y::ys)=>qA x y && qA r (.tup ys)
 | _,_=>false
theorem sG:∀(f:Fm) (d:D),qA f d=true->l_ f d
 | .i,.int k,_=>⟨k,rfl⟩
 | .tn,.tup [],_=>⟨[],rfl,rfl⟩
 | .tc x r,.tup (y::ys),h=>by unfold qA at h;rw [Tt] at h;exact ⟨_,rfl,y,ys,rfl,sG x y h.1,sG r (.tup ys) h.2⟩
noncomputable def Iq:List D->Bool
 | []=>true
 | d::r=>(match gP d with
  | some k=>gI k (d::r)
  | none=>false) && (d::r).all (qA (formOf d))
def mZ (ds:List D):Bool:=decide (ds.length < 64) && (areKeys ds && (decide (deps ds<=8) && Iq ds))
theorem GI (h:Iq ds=true):∃k f,∀d∈ds,gP d=some k/\l_ f d:=by
 cases ds with
 | nil=>exact ⟨.i,.i,λ_ h=>nomatch h⟩
 | cons d r=>
  unfold Iq at h;rw [Tt] at h;cases q:gP d with
  | none=>rw [q] at h;cases h.1
  | some k=>
   rw [q] at h;exact ⟨k,formOf d,λx hx=>⟨lK h.1 x hx,sG _ _ (T8.mp h.2 x hx)⟩⟩
theorem sy {n:Nat}:∀{ds:List D},deps ds<=n->∀d∈ds,dep d<=n
 | [],_,_,h=>nomatch h
 | x::r,hn,d,h=>by
  unfold deps at hn
  (rcases TZ.mp h with rfl | h)
  ·omega
  ·exact sy (ds:=r) (by omega) d h
theorem nu {k:Hd}:∀{ds:List D},(∀d∈ds,gP d=some k)->gI k ds=true
 | [],_=>rfl
 | x::r,h=>by unfold gI;rw [h x (Tu ..),nu λd hd=>h d (Tq _ hd)];cases k <;> rfl
structure OA (ds:List D) (k:Hd) (f:Fm):Prop where
 ln:ds.length < 64
 ky:areKeys ds=true
 dp:deps ds<=8
 al:∀d∈ds,gP d=some k/\l_ f d
theorem sI (h:mZ ds=true):∃k f,OA ds k f:=by unfold mZ at h;rw [Tt,Tt,Tt] at h;obtain ⟨h1,h2,h3,h4⟩:=h;obtain ⟨k,f,h5⟩:=GI h4;exact ⟨k,f,of_decide_eq_true h1,h2,of_decide_eq_true h3,h5⟩
abbrev kF (X:Cx) (H0:Hp) (a:T3) (ds:List D):HO:=.ext λh=>∃ks es ep t,gK X.K H0 h a (dz X.w) ks es ep t/\∀d,d∈ks↔d∈ds
section
variable {X:Cx}
theorem Ik {K:Tg}{J:Hp}{k:Hd}{f:Fm}{ds:List D}{vs:List V}{us:List Ti}(o:OA ds k f) (rs:aJ K J ds vs) (rv:Vals vs us):∀i v,us.toArray[i]?=some v->KV K J v (ds.getD i .non):=λi v q=>by
 have l1:vs.length=us.length:=rv.length;have l2:ds.length=vs.length:=rs.length;have hi:i < us.length:=by have:=(Vc.mp q).1;simpa using this
 have e:us.getD i Ux=v:=by simp at q;simp [Y6,q]
 have r1:=jH rs (i:=i) (by omega);have r2:=jJ rv (i:=i) (by omega);rw [e] at r2;have m:=g5 (ds:=ds) (i:=i) (by omega);refine ⟨?_,q9 o.ky _ m,sy o.dp _ m,_,r1,r2⟩;have hh:=(o.al _ m).1;generalize c5 ds i=d at r1 hh;generalize vs.getD i V.non=vv at r1 r2;cases d with
 | tup xs=>cases r1 with
  | tup _ _=>cases r2;exact ⟨_,rfl⟩
 | _=>cases hh
theorem DJ (hu:X.A.units + 64 < Vm) (hc:X.calm=true):cJ X (.type "set") (λxs H Q=>∃p vs ds J0,xs=[.ref p]/\cZ X.K H p vs/\aS J0 H/\aJ X.K J0 ds vs/\mZ ds=true/\∀l,H l=none->Q (.ref l) (upd H l (kF X J0 l ds))):=by intro S6 s σ H xs us Q I r h;obtain ⟨p,vs,ds,J0,rfl,hq,sm,rs,oks,q⟩:=h;obtain ⟨u,rfl,rx⟩:=vals1 r;cases rx;obtain ⟨k,f,o⟩:=sI oks;have N:HF X.K J0 s:=HF.of (c:=⟨X.K,H,H,λ_=>True⟩) I sm;obtain ⟨S7,r',pt,hz⟩:=I.tuple hq;refine zT N (I.ok.hd hc) pt (by simp [<-r'.length,rs.length]) (Ik o rs r') (by have:=o.ln;omega) (by omega) λh' tk ks es ep t S hm kp=>?_;exact ⟨.ref s.heap.objs.size,_,I.laid (t':=tk) (λb o e=>kp b o (TN e) e) (Tv _) (show cj X.prog X.w _ _ _ (kF X J0 s.heap.objs.size ds) from ⟨⟨ks,es,ep,t,S,hm⟩,⟨_,S.at_⟩,λh1 h2 ⟨ks,es,ep,t,S,hm⟩ e=>⟨ks,es,ep,t,S.keep e,hm⟩⟩),rfl,q _ (I.hok.fresh (Tv _))⟩
theorem DI (hu:X.A.units + 64 < Vm) (hc:X.calm=true):cJ X (.type "set") (λxs H Q=>∃p vs ds J0,xs=[.ref p]/\bY X.K H p vs/\aS J0 H/\aJ X.K J0 ds vs/\mZ ds=true/\∀l,H l=none->Q (.ref l) (upd H l (kF X J0 l ds))):=by intro S6 s σ H xs us Q I r h;obtain ⟨p,vs,ds,J0,rfl,hq,sm,rs,oks,q⟩:=h;obtain ⟨u,rfl,rx⟩:=vals1 r;cases rx;obtain ⟨k,f,o⟩:=sI oks;have N:HF X.K J0 s:=HF.of (c:=⟨X.K,H,H,λ_=>True⟩) I sm;obtain ⟨S7,r',pl,hz⟩:=I.list hq;refine Ax N (I.ok.hd hc) pl.isList (by simp [<-r'.length,rs.length]) (Ik o rs r') (by have:=o.ln;omega) (by omega) λh' tk ks es ep t S hm kp=>?_;exact ⟨.ref s.heap.objs.size,_,I.laid (t':=tk) (λb o e=>kp b o (TN e) e) (Tv _) (show cj X.prog X.w _ _ _ (kF X J0 s.heap.objs.size ds) from ⟨⟨ks,es,ep,t,S,hm⟩,⟨_,S.at_⟩,λh1 h2 ⟨ks,es,ep,t,S,hm⟩ e=>⟨ks,es,ep,t,S.keep e,hm⟩⟩),rfl,q _ (I.hok.fresh (Tv _))⟩
theorem DH (hu:X.A.units + 64 < Vm) (hc:X.calm=true):cJ X (.type "set") (λxs H Q=>∃p vs ds J0,xs=[.ref p]/\(cZ X.K H p vs\/bY X.K H p vs)/\aS J0 H/\aJ X.K J0 ds vs/\mZ ds=true/\∀l,H l=none->Q (.ref l) (upd H l (kF X J0 l ds))):=λS6 s σ H xs us Q I r ⟨p,vs,ds,J0,h1,h2,h3⟩=>
 h2.elim (λh2=>DJ hu hc S6 s σ H xs us Q I r ⟨p,vs,ds,J0,h1,h2,h3⟩) λh2=>DI hu hc S6 s σ H xs us Q I r ⟨p,vs,ds,J0,h1,h2,h3⟩
end
noncomputable def dd:List D->List D
 | []=>[]
 | x::xs=>if (dd xs).any (aZ x)=true then dd xs else x::dd xs
def gg (ds:List D):List D:=bR (dd ds)
section
variable {P:D->Prop}
theorem xW (p:f6 P):∀(ds:List D),(∀x∈ds,P x)->(dd ds).Nodup/\∀y,y∈dd ds↔y∈ds
 | [],_=>⟨WY,λ_=>.rfl⟩
 | x::xs,h=>by
  obtain ⟨h1,h2⟩:=xW p xs λy hy=>h y (Tq _ hy);have px:=h x (Tu ..);have eqv:(dd xs).any (aZ x)=true↔x∈xs:=by
   rw [UL];constructor
   ·rintro ⟨z,hz,e⟩;have hz':=(h2 z).mp hz;rw [(p.eq x z px (h z (Tq _ hz'))).mp e];exact hz'
   ·intro hx;exact ⟨x,(h2 x).mpr hx,(p.eq x x px px).mpr rfl⟩
  unfold dd;by_cases c:(dd xs).any (aZ x)=true
  ·rw [if_pos c];refine ⟨h1,λy=>?_⟩;rw [h2 y,TZ];exact ⟨.inr,λz=>z.elim (λe=>e▸eqv.mp c) id⟩
  ·rw [if_neg c];refine ⟨VI.mpr ⟨λz=>c (eqv.mpr ((h2 x).mp z)),h1⟩,λy=>?_⟩;rw [TZ,TZ,h2 y]
theorem Ac (p:f6 P):∀{A B:List D},(∀x∈A,P x)->A.Pairwise (λa b=>eE a b=true)->B.Pairwise (λa b=>eE a b=true)->(∀y,y∈A↔y∈B)->A=B
 | [],[],_,_,_,_=>rfl
 | [],b::B,_,_,_,h=>by cases (h b).mpr Tu
 | a::A,[],_,_,_,h=>by cases (h a).mp Tu
 | a::A,b::B,hp,hA,hB,h=>by
  obtain ⟨a1,a2⟩:=W2.mp hA;obtain ⟨b1,b2⟩:=W2.mp hB;have pa:=hp a Tu;have pb:=hp b ((h b).mpr Tu);have no:∀z,P z->eE z z=true->False:=λz pz q=>by have:=p.asy z z pz pz q;rw [q] at this;cases this
  have e:a=b:=by
   rcases TZ.mp ((h a).mp Tu) with e | e
   ·exact e
   ·rcases TZ.mp ((h b).mpr Tu) with f | f
    ·exact f.symm
    ·exact (no a pa (p.tra _ _ _ pa pb pa (a1 b f) (b1 a e))).elim
  subst e;have:A=B:=by
   refine Ac p (λx hx=>hp x (Tq _ hx)) a2 b2 λy=>⟨λhy=>?_,λhy=>?_⟩
   ·rcases TZ.mp ((h y).mp (Tq _ hy)) with e | e
    ·subst e;exact (no y pa (a1 y hy)).elim
    ·exact e
   ·rcases TZ.mp ((h y).mpr (Tq _ hy)) with e | e
    ·subst e;exact (no y pa (b1 y hy)).elim
    ·exact e
  rw [this]
theorem vH (p:f6 P){ds:List D}(h:∀x∈ds,P x) (nd:ds.Nodup):(bR ds).Pairwise λa b=>eE a b=true:=by
 have up:=Hv p ds h;have pm:=jl ds;have nd':(bR ds).Nodup:=pm.nodup_iff.mpr nd;have both:=aen up nd';refine (Yx.mp both).imp ?_;rintro a b ⟨ha,hb,h1,h2⟩;cases q:eE a b with
 | true=>rfl
 | false=>exact absurd (p.tri a b (h a (pm.mem_iff.mp ha)) (h b (pm.mem_iff.mp hb)) q h1) h2
theorem Hw (p:f6 P){ds ks:List D}(h:∀x∈ds,P x) (nd:ks.Nodup) (hm:∀d,d∈ks↔d∈ds):bR ks=gg ds:=by
 obtain ⟨h1,h2⟩:=xW p ds h;have hk:∀x∈ks,P x:=λx hx=>h x ((hm x).mp hx);have hd:∀x∈dd ds,P x:=λx hx=>h x ((h2 x).mp hx);exact Ac p (λx hx=>hk x ((jl ks).mem_iff.mp hx)) (vH p hk nd) (vH p hd h1) λy=>by rw [(jl ks).mem_iff,hm y];show _↔y∈bR (dd ds);rw [(jl (dd ds)).mem_iff,h2 y]
theorem sQ (p:f6 P) (h:∀x∈ds,P x):(gg ds).Pairwise (λa b=>eE a b=true)/\∀d,d∈gg ds↔d∈ds:=by obtain ⟨h1,h2⟩:=xW p ds h;exact ⟨vH p (λx hx=>h x ((h2 x).mp hx)) h1,λd=>by show d∈bR (dd ds)↔_;rw [(jl (dd ds)).mem_iff,h2 d]⟩
end
theorem fh.reps {K:Tg}{J:Hp}{es:List (Int×Ti)}{ks:List D}(h:fh K J es ks):∃vs,aJ K J ks vs/\Vals vs (es.map (·.2)):=by
 induction h with
 | nil=>exact ⟨_,.nil,.nil⟩
 | cons _ hk _ ih=>
  obtain ⟨vs,h1,h2⟩:=ih;obtain ⟨_,_,_,v,r,rv⟩:=hk;exact ⟨v::vs,.cons r h1,.cons rv h2⟩
section
variable {X:Cx}
theorem B3 (hu:X.A.units + 64 < Vm) (hc:X.calm=true):cJ X (.builtin "sorted") (λxs H Q=>∃p ds J0,xs=[.ref p]/\H p=some (kF X J0 p ds)/\aS J0 H/\mZ ds=true/\∀l vs',H l=none->aJ X.K J0 (gg ds) vs'->Q (.ref l) (upd H l (.lst vs'))):=by
 intro S6 s σ H xs us Q I r h;obtain ⟨p,ds,J0,rfl,hp,sm,oks,q⟩:=h;obtain ⟨u,rfl,rx⟩:=vals1 r;cases rx;obtain ⟨k,f,o⟩:=sI oks;have hh:X.A.handled=none:=I.ok.hd hc;have N:HF X.K J0 s:=HF.of (c:=⟨X.K,H,H,λ_=>True⟩) I sm;obtain ⟨⟨ks,es,ep,t,S,hm⟩,_⟩:=(show cj X.prog X.w H s.heap p (kF X J0 p ds) from I.hok p _ hp);obtain ⟨ks',pm,en'⟩:=S.en.perm (rZ X.w p ep es).symm;have nd':ks'.Nodup:=pm.nodup_iff.mp S.nd;have hm':∀d,d∈ks'↔d∈ds:=λd=>by rw [<-pm.mem_iff,hm d]
 obtain ⟨vs,rs,rv⟩:=en'.reps;have hv:kG X.w p ep es=(gx X.w p ep es).toList.map (·.2):=rfl;rw [<-hv] at rv;generalize hits:kG X.w p ep es=S7 at rv;have l1:vs.length=S7.length:=rv.length;have l2:ks'.length=vs.length:=rs.length;have len:ks'.length<=ds.length:=Uv nd' λd hd=>(hm' d).mp hd;have l64:=o.ln;have les:es.size=ks'.length:=by rw [<-TY,S.en.length,pm.length_eq]
 have out:=Hw (jm f) (λx hx=>(o.al x hx).2) nd' hm';refine p6 I (λE C h=>Ar hh S.wk (by omega) λh1 tk k1 le=>hits▸h h1 tk k1 (Zc le)) rv l2 (by omega) (Dn (N.keep λ_ _ e=>e) rs rv (k:=k) (λd hd=>⟨(o.al d ((hm' d).mp hd)).1,T6 (sy o.dp d ((hm' d).mp hd)) (by decide)⟩) (nu λd hd=>(o.al d ((hm' d).mp hd)).1) (λx hx y hy=>(jm f).lt _ _ (o.al _ ((hm' x).mp hx)).2 (o.al _ ((hm' y).mp hy)).2) hu) λl vs' hl rr=>q l vs' hl (out▸rr _ rs)
end
end DL
namespace DL
open PySem PySem.Spec PyProof.Rows L2 ST
section
variable {X:Cx}{c:C}{e:Uo}{pos pos2:Pos}
theorem Dz:UP "set"=some (.type "set"):=by decide +kernel
noncomputable def yX:List R->M R
 | [r]=>g9 r >>= λxs=>if mZ xs=true then .ok (.l .fresh (gg xs)) else .bad
 | _=>.bad
noncomputable def Hf (X:Cx):List V->Hp->VK->Prop:=λxs H Q=>∃p vs ds J0,xs=[.ref p]/\(cZ X.K H p vs\/bY X.K H p vs)/\aS J0 H/\aJ X.K J0 ds vs/\mZ ds=true/\∀l,H l=none->Q (.ref l) (upd H l (kF X J0 l ds))
noncomputable def Hg (X:Cx):List V->Hp->VK->Prop:=λxs H Q=>∃p ds J0,xs=[.ref p]/\H p=some (kF X J0 p ds)/\aS J0 H/\mZ ds=true/\∀l vs',H l=none->aJ X.K J0 (gg ds) vs'->Q (.ref l) (upd H l (.lst vs'))
theorem vF {J H:Hp}{p:T3}{vs:List V}{ds:List D}{Q:VK}(hq:cZ X.K H p vs\/bY X.K H p vs) (sm:aS J H) (rs:aJ X.K J ds vs) (ok:mZ ds=true) (q:∀l o l2 vs',H l=none->upd H l o l2=none->aJ X.K J (gg ds) vs'->Q (.ref l2) (upd (upd H l o) l2 (.lst vs'))):
  Hf X [.ref p] H λv H2=>Hg X [v] H2 Q:=
 ⟨p,vs,ds,J,rfl,hq,sm,rs,ok,λl hl=>⟨l,ds,J,rfl,b9,(Ext.new sm hl _).sub,ok,λl2 vs' h2 rr=>q l _ l2 vs' hl h2 rr⟩⟩
end
end DL
namespace DL
open PySem PySem.Spec PyProof.Rows L2 DX
end DL
namespace DL
open PySem PySem.Spec PyProof.Rows L2 ST PySem.SetTable
end DL
namespace DL
open PySem PySem.Spec PyProof.Rows L2 ST
end DL
namespace DL
open PySem PySem.Spec PyProof.Rows L2 ST DX
open PySem.W (KasT kas_sort kas_ask)
end DL
namespace DL
open PySem PySem.Spec PyProof.Rows L2 ST DX
section
variable {X:Cx}{c:C}{e:Uo}{pos pos2:Pos}
def yY:List R->M R:=yX
theorem EY {gs:G (List R)}(hu:X.A.units + 64 < Vm) (ha:jd X c [e] gs) (hm:X.mg "sorted"=none) (hm2:X.mg "set"=none) (hK:X.K=c.K:=by rfl) (hc:X.calm=true:=by rfl) (hg:Gl X "sorted":=by rfl) (RH:Gl X "set":=by rfl)
 (he:TF [.Call (.Name "set" p2) [e] [] pos2] X.env=(false,eval (.Call (.Name "set" p2) [e] [] pos2) X.env)::TF [] X.env:=by rfl) (hpl:(U_ pos (TF [] X.env)).any (·.1)=false:=by rfl)
 (Rn:TF [e] X.env=(false,eval e X.env)::TF [] X.env:=by rfl) (RT:(U_ pos2 (TF [] X.env)).any (·.1)=false:=by rfl):
  QD X c (.Call (.Name "sorted" p) [.Call (.Name "set" p2) [e] [] pos2] [] pos) (gN yY gs):=by
 have ha:=ha.h;refine ⟨?_⟩;have h1:=lU (p:=p2) (pos:=pos2) (show cJ X (.type "set") (Hf X) from DH hu hc) RH hm2 Dz ha (by decide) (by decide) Rn RT;have h2:=sL (p:=p) (pos:=pos) (show cJ X (.builtin "sorted") (Hg X) from B3 hu hc) hg hm kU (dM h1 gr he) (by decide) (by decide) he hpl;refine GU (ta:=CP) (f:=yX) (r:=λvs H1 Q=>Hf X vs H1 λv H2=>Hg X [v] H2 Q) h2 rfl ?_;intro He J H xs vs Q hp rs w;unfold yX at w;split at w
 ·obtain ⟨v,rfl,r⟩:=rs.one;rename_i r0;obtain ⟨xs,q,w⟩:=jK w;split at w
  ·rename_i ok;have fin:∀(vs:List V),aJ c.K J xs vs->∀l o l2 vs',H l=none->upd H l o l2=none->aJ X.K J (gg xs) vs'->Q (.ref l2) (upd (upd H l o) l2 (.lst vs')):=λvs _ l o l2 vs' hl h2 rr=>by rw [hK] at rr;have e1:=Ext.new hp.sub hl o;have e2:=Ext.new e1.sub h2 (.lst vs');exact w _ _ _ (e1.trans e2) (RR.from e1.h (gW (hp.ext e1) h2 rr))
   cases r0 with
   | d y=>
    cases y with
    | tup ys=>
     cases q;cases r with
     | tup h hs=>exact vF (.inl (by rw [hK];exact fD hp.sub h)) hp.sub (by rw [hK];exact hs) ok (fin _ hs)
    | lst ys=>
     cases q;obtain ⟨p,vs,rfl,hq,hs⟩:=RR.list hp r rfl;exact vF (.inr (by rw [hK];exact hq)) hp.sub (by rw [hK];exact hs) ok (fin _ hs)
    | _=>cases q
   | mo _ _=>cases q
   | mb _ _=>cases q
   | mf _ _=>cases q
   | l m ys=>
    cases q;obtain ⟨p,vs,rfl,hq,hs⟩:=RR.list hp r rfl;exact vF (.inr (by rw [hK];exact hq)) hp.sub (by rw [hK];exact hs) ok (fin _ hs)
  ·exact w.elim
 ·exact w.elim
end
end DL
namespace DL
open PySem PySem.Spec PyProof.Rows L2 DX
end DL
namespace K55
open PySem DL
def qU:List Str:=["told","least","most"]
noncomputable def rH:G O:=(bQ (oB (gF (bG (gN (aQ 1 K01.oR) (ao (af 0) aF)))) (oB (bG (g2 (iB λi j=>.bl (decide (i < j))) (af 0) (af 1))) (bG (g2 (iB λi j=>.bl (decide (j < i))) (af 0) (af 2))))) x6 c9)
def fj (as:List S):M R:=fin (rH (aV qU as))
end K55
namespace K55
open PySem DL K01 WP K51 K52
theorem tU (a b:Nat):aZ (dN a) (dN b)=(a == b):=by
 show ((a:Int) == (b:Int))=_;by_cases h:a=b
 ·subst h;simp
 ·rw [beq_eq_false_iff_ne.mpr h,beq_eq_false_iff_ne.mpr (by omega)]
structure Dd (n:Nat) (w:Wd):Prop where
 mp:∀r∈w.ms,r.2.length<=n/\∀p∈r.2,p < w.m
 ap:∀r∈w.ar,r.2.length<=n/\∀p∈r.2,p.1 < w.m/\p.2 < w.m
def em (m:Nat) (x:Nat×Nat):Nat:=if x.1=0 then x.2 else x.2 + m
theorem inN (l:Nat) (xs:List Nat):inD (dN l) (xs.map dN)=decide (l∈xs):=by
 unfold inD;rw [Yv,Uw,UL,decide_eq_true_eq];constructor
 ·rintro ⟨x,hx,e⟩;have e:aZ (dN x) (dN l)=true:=e;rw [tU] at e;rw [<-eq_of_beq e];exact hx
 ·intro h;exact ⟨l,h,by show aZ (dN l) (dN l)=true;rw [tU];simp⟩
theorem wc (a b:Nat×Nat):aZ (dP a) (dP b)=decide (a=b):=by
 have:aZ (dP a) (dP b)=(aZ (dN a.1) (dN b.1) && (aZ (dN a.2) (dN b.2) && true)):=by show aZ (.tup [dN a.1,dN a.2]) (.tup [dN b.1,dN b.2])=_;rw [kL,g6,g6,cC]
 rw [this,tU,tU,Uw];obtain ⟨a1,a2⟩:=a;obtain ⟨b1,b2⟩:=b;simp
theorem LO (l:Nat×Nat) (xs:List (Nat×Nat)):inD (dP l) (xs.map dP)=decide (l∈xs):=by
 unfold inD;rw [Yv,Uw,UL,decide_eq_true_eq];constructor
 ·rintro ⟨x,hx,e⟩;have e:aZ (dP x) (dP l)=true:=e;rw [wc,decide_eq_true_eq] at e;rw [<-e];exact hx
 ·intro h;exact ⟨l,h,by show aZ (dP l) (dP l)=true;rw [wc];simp⟩
theorem Gr {env:Ev}{Q:O->Prop}{g:G R}{i j k:Nat}{xs zs:List D}(h1:env[i]?=some (some (.own zs))) (h2:env[j]?=some (some (.own xs))) (hij:i≠j) (h:g env=.ok (.d (.int k))) (hk:k < xs.length) (lz:zs.length < 1000) (lx:xs.length<=1000)
  (c:Q (.nx ((env.set j (some (.own (xs.eraseIdx k)))).set i (some (.own (zs++[xs[k]])))))):Wp (mO i j g env) Q:=by refine ⟨_,?_,c⟩;unfold mO;rw [h1,h2];show (if i=j then M.bad else (g env >>= _))=_;rw [if_neg hij,h,aL];show (if 0<=(k:Int)/\(k:Int).toNat < xs.length/\zs.length < sizeLine/\xs.length<=sizeLine then _ else _)=_;rw [if_pos ⟨by omega,by simpa using hk,T9 lz (fu (Tv _)),fu lx⟩];rw [U8,TR hk]
noncomputable def Bv:D->Nat
 | .int i=>i.toNat
 | _=>0
noncomputable def Ab:D->Nat×Nat
 | .tup [x,y]=>(Bv x,Bv y)
 | _=>(0,0)
theorem Ov (n:Nat):Bv (dN n)=n:=rfl
theorem uM (n:Nat×Nat):Ab (dP n)=n:=rfl
theorem back {α:Type}(h:α->D) (u:D->α) (hu:∀x,u (h x)=x){l:List D}(hl:∀d∈l,∃x,d=h x):(l.map u).map h=l:=by rw [Uj];refine (WT (g:=id) λd hd=>?_).trans (List.map_id _);obtain ⟨x,rfl⟩:=hl d hd;show h (u (h x))=h x;rw [hu]
theorem xh {α:Type}(h:α->D) (u:D->α) (hu:∀x,u (h x)=x) (xs:List α):((bR (xs.map h)).map u).map h=bR (xs.map h):=back h u hu λd hd=>by obtain ⟨x,_,rfl⟩:=Tr.mp (Fc hd);exact ⟨x,rfl⟩
def pF:Fm:=.tc .i (.tc .i .tn)
theorem ze (p:Nat×Nat):l_ pF (dP p):=⟨_,rfl,_,_,rfl,⟨_,rfl⟩,_,rfl,_,_,rfl,⟨_,rfl⟩,[],rfl,rfl⟩
theorem NN (xs:List Nat) (hl:xs.length < 64):zD (xs.map dN)=true:=by unfold zD;rw [Tp,decide_eq_true hl,Xj,T8];intro d hd;obtain ⟨x,_,rfl⟩:=Tr.mp hd;rfl
theorem LN (xs:List (Nat×Nat)):∀d∈xs.map dP,gP d=some .i:=λd hd=>by obtain ⟨x,_,rfl⟩:=Tr.mp hd;rfl
theorem NP (xs:List (Nat×Nat)) (hl:xs.length < 64):wK (xs.map dP)=true:=by
 have So:=yQ xs;have hc:yP (xs.map dP)=true:=by unfold yP;rw [T8];intro x hx;rw [T8];intro y hy;obtain ⟨a,_,rfl⟩:=Tr.mp hx;obtain ⟨b,_,rfl⟩:=Tr.mp hy;exact (jm pF).lt _ _ (ze a) (ze b)
 unfold wK;rw [hc,decide_eq_true So,Tp,decide_eq_true hl];cases xs with
 | nil=>rfl
 | cons x xs=>
  have hh:GJ ((x::xs).map dP)=true:=by show gI .i ((x::xs).map dP)=true;exact nu (LN (x::xs))
  rw [hh];simp
theorem O_ (xs:List Nat) (hl:xs.length < 64):mL [.l .fresh (xs.map dN)]=.ok (.l .fresh (bR (xs.map dN))):=by show (if wK (xs.map dN)=true then M.ok (R.l .fresh (bR (xs.map dN))) else if zD (xs.map dN)=true then M.ok (R.l .fresh (bR (xs.map dN))) else .bad)=_;rw [if_pos (NN xs hl)];split <;> rfl
theorem Pa (xs:List (Nat×Nat)) (hl:xs.length < 64):mL [.l .fresh (xs.map dP)]=.ok (.l .fresh (bR (xs.map dP))):=by show (if wK (xs.map dP)=true then M.ok (R.l .fresh (bR (xs.map dP))) else if zD (xs.map dP)=true then M.ok (R.l .fresh (bR (xs.map dP))) else .bad)=_;rw [if_pos (NP xs hl)]
noncomputable def h_ (w:Wd) (ps:List Nat):Wd:=⟨w.m,w.ms.map λr=>(r.1,(bR ((r.2.map λp=>ps.getD p 0).map dN)).map Bv),w.ar.map λr=>(r.1,(bR ((r.2.map λp=>(ps.getD p.1 0,ps.getD p.2 0)).map dP)).map Ab)⟩
theorem NO (xs:List (Nat×Nat)) (hl:xs.length < 64):mZ (xs.map dP)=true:=by
 have h1:areKeys (xs.map dP)=true:=by
  induction xs with
  | nil=>rfl
  | cons x xs ih=>
   rw [TV];show (isKey (dP x) && areKeys (xs.map dP))=true;rw [ih (by simp at hl;omega)];rfl
 have h2:deps (xs.map dP)<=8:=fK λd hd=>by obtain ⟨x,_,rfl⟩:=Tr.mp hd;exact (by decide:(1:Nat)<=8)
 have h3:Iq (xs.map dP)=true:=by
  cases xs with
  | nil=>rfl
  | cons x xs=>
   show (gI .i ((x::xs).map dP) && ((x::xs).map dP).all (qA pF))=true;rw [nu (LN (x::xs)),Xj,T8];intro d hd;obtain ⟨y,_,rfl⟩:=Tr.mp hd;rfl
 unfold mZ;rw [h1,h3,decide_eq_true h2,Tp,decide_eq_true hl];rfl
theorem Pb (xs:List (Nat×Nat)) (hl:xs.length < 64):yY [.d (.tup (xs.map dP))]=.ok (.l .fresh (gg (xs.map dP))):=by show (if mZ (xs.map dP)=true then M.ok (R.l .fresh (gg (xs.map dP))) else _)=_;rw [if_pos (NO xs hl)]
theorem xg {P:D->Prop}(p:f6 P){ds:List D}(h:∀x∈ds,P x):(gg ds).length<=ds.length/\∀d∈gg ds,d∈ds:=by obtain ⟨h1,h2⟩:=xW p ds h;refine ⟨?_,λd hd=>((sQ p h).2 d).mp hd⟩;show (bR (dd ds)).length<=_;rw [Fb];exact Uv h1 λd hd=>(h2 d).mp hd
theorem Lx (xs:List D) (k:Nat) (hk:k<=xs.length):cutD xs none (some (k:Int))=xs.take k:=by unfold cutD;rw [HT.Hq,HT.KG,Nat.min_eq_left hk];simp
theorem Mm {i:Int}(h:0<=i):∃k:Nat,i=k:=⟨i.toNat,by omega⟩
end K55
namespace DL
open PySem PySem.Spec PyProof.Rows L2 DX
noncomputable def bN (gt:GT) (gts:G Bool) (act:Ev->M (List D×Ev)):List D->Ev->M (List D×Ev)
 | [],env=>.ok ([],env)
 | d::ds,env=>gt d env >>= λe=>gts e >>= λk=>if k=true then act e >>= λr=>bN gt gts act ds r.2 >>= λz=>.ok (r.1++z.1,z.2) else bN gt gts act ds e
def yu (env:Ev) (σ:L2.St) (p:T3):Prop:=∀(j:Nat) (xs:Mn),env[j]?=some (some (mS xs))->σ[j]?≠some (some (.ref p))
structure yi (Acc:Hp->Hp->List D->Prop):Prop where
 ext:∀{J H J' H':Hp}{ys:List D},Acc J H ys->Ext J H J' H'->Acc J' H' ys
noncomputable def uS (X:Cx) (c:C) (p:T3) (Acc:Hp->Hp->List D->Prop) (J2 H2:Hp) (N:Nat) (m:Sem Unit) (act:Ev->M (List D×Ev)):Prop:=
 ∀(S6:List (T3×Obj)) (s:Tj) (σ:L2.St) (H J:Hp) (env:Ev) (ys:List D) (Qf:List D×Ev->Prop),Inv X S6 σ H s->Ext J2 H2 J H->SR c J H σ env->yu env σ p->Acc J H ys->ys.length + N<=sizeLine->cg (act env) Qf c.T->
  TX (T5 X.prog X.w) X.A m (λ_ s'=>∃σ' H' J' r,Inv X S6 σ' H' s'/\Ext J2 H2 J' H'/\aS J J'/\SR c J' H' σ' r.2/\yu r.2 σ' p/\Acc J' H' (ys++r.1)/\r.1.length<=N/\Qf r) (λ_ _=>False) s
abbrev Fo (ifs:List Uo) (env:Env):Sem Bool:=forIn ifs true λc r=>if r=true then do let ok <-aaH c env (eval c env);pure (V4 ok) else pure (V4 r)
abbrev l7 (S8 S9:Uo) (ifs:List Uo) (it:Ti) (env:Env) (act:Sem Unit) (again':Sem Fin):Sem Fin:=do
 W6 S9.pos
 match <-W7 it with
 | none=>pure (.done .next)
 | some v=>
  V3 S8 it v
  assign S8 env v
  let mut ok:=true
  for c in ifs do
   if ok then ok <-aaH c env (eval c env)
  if ok then
   act
  again'
noncomputable def s_ (prog:TU) (w:Uk) (A:Um) (e:Uo) (depth:Nat) (it acc:Ti) (env:Env) (S8:Uo) (ifs:List Uo) (m:Sem Unit):Prop:=
 ∀(R:abD->Tj->Prop) (I:Nat->Tj->Prop),(∀n s,I n s->TX (T5 prog w) A (W7 it) (λr s₁=>match r with
   | none=>R (.ok .next) s₁
   | some v=>TX (T5 prog w) A (V3 S8 it v) (λ_ s₁=>TX (T5 prog w) A (assign S8 env v) (λ_ s₂=>
     TX (T5 prog w) A (Fo ifs env) (λok s₃=>if ok=true then TX (T5 prog w) A m (λ_ s₅=>∃m,m < n/\I m s₅) (λ_ _=>False) s₃ else ∃m,m < n/\I m s₃) (λ_ _=>False) s₂) (λ_ _=>False) s₁) (λ_ _=>False) s₁) (λ_ _=>False) s)->
  ∀(n:Nat) (s:Tj),I n s->VH (T5 prog w) A (.compLoop e depth it acc env) R s
section
variable {prog:TU}{w:Uk}{A:Um}{S8 S9:Uo}{ifs:List Uo}{S5:W5}{pos:Pos}{it acc:Ti}{env:Env}{depth:Nat}{gens:List ZL}{act:Sem Unit}
theorem Aa {R:abD->Tj->Prop}{I:Nat->Tj->Prop}{E:Ti->Tj->Prop}{code:Code}{n:Nat}{s:Tj}{Q:Fin->Tj->Prop}
  (Sg:∀s,R (.ok .next) s->Q (.done .next) s) (R6:∀s,(∃m,m < n/\I m s)->TX (T5 prog w) A (again code) Q E s)
  (t:TX (T5 prog w) A (W7 it) (λr s₁=>match r with
   | none=>R (.ok .next) s₁
   | some v=>TX (T5 prog w) A (V3 S8 it v) (λ_ s₁=>TX (T5 prog w) A (assign S8 env v) (λ_ s₂=>
     TX (T5 prog w) A (Fo ifs env) (λok s₃=>if ok=true then TX (T5 prog w) A act (λ_ s₅=>∃m,m < n/\I m s₅) (λ_ _=>False) s₃ else ∃m,m < n/\I m s₃) (λ_ _=>False) s₂) (λ_ _=>False) s₁) (λ_ _=>False) s₁) (λ_ _=>False) s):
  TX (T5 prog w) A (l7 S8 S9 ifs it env act (again code)) Q E s:=by
 refine Tf (WM (Tf (UD t (λr s₁ h₁=>?_) λ_ _ f=>f.elim)));cases r with
 | none=>exact Th (Sg _ h₁)
 | some v=>
  refine Tf (UD h₁ (λ_ s₁' h₁'=>?_) λ_ _ f=>f.elim);refine Tf (UD h₁' (λ_ s₂ h₂=>Tf (UD h₂ (λok s₃ h₃=>?_) λ_ _ f=>f.elim)) λ_ _ f=>f.elim);cases ok with
  | false=>exact R6 _ h₃
  | true=>exact Tf (UD h₃ (λ_ s₅ h₅=>R6 _ h₅) λ_ _ f=>f.elim)
theorem Cq {elt:Uo}(ht:Yp (.ListComp elt gens S5 pos) depth it acc env=l7 S8 S9 ifs it env act (again (.compLoop (.ListComp elt gens S5 pos) depth it acc env))):s_ prog w A (.ListComp elt gens S5 pos) depth it acc env S8 ifs act:=by intro R I turn n s h;refine codeAny_loop rfl I (λn s hI=>?_) n h;show TX _ A ((Yp (.ListComp elt gens S5 pos) depth it acc env).onRaise (λx=>do acp x env;acq x)) _ _ s;refine wpAny_noted ?_;rw [ht];exact Aa (λ_ h=>h) (λ_ h=>Th ⟨rfl,h⟩) (turn n s hI)
theorem Cp {kx vx:Uo}(ht:Yp (.DictComp kx vx gens S5 pos) depth it acc env=l7 S8 S9 ifs it env act (again (.compLoop (.DictComp kx vx gens S5 pos) depth it acc env))):s_ prog w A (.DictComp kx vx gens S5 pos) depth it acc env S8 ifs act:=by intro R I turn n s h;refine codeAny_loop rfl I (λn s hI=>?_) n h;show TX _ A ((Yp (.DictComp kx vx gens S5 pos) depth it acc env).onRaise (λx=>do acp x env;acq x)) _ _ s;refine wpAny_noted ?_;rw [ht];exact Aa (λ_ h=>h) (λ_ h=>Th ⟨rfl,h⟩) (turn n s hI)
end
section
variable {X:Cx}{c:C}{p:T3}{Acc:Hp->Hp->List D->Prop}{J2 H2:Hp}{N:Nat}{m:Sem Unit}{act:Ev->M (List D×Ev)}{S8:Uo}{ifs:List Uo}{gt:GT}{gts:G Bool}{e:Uo}{depth:Nat}{acc:Ti}{it:T3}{fp:List T3}{tn:Nat->Vd->Prop}{It:It}{ds:List D}{J1:Hp}
theorem zw (aR:yi Acc) (hc:X.calm=true) (hx:∀v s,X.xe v s->False) (LP:s_ X.prog X.w X.A e depth (.ref it) acc X.env S8 ifs m) (hT:Dk X c S8 gt) (hIf:BG X c ifs gts) (hA:uS X c p Acc J2 H2 N m act) (T:Turn X.prog X.w X.K S8 It fp it tn)
 (U:Hp->Hp->Prop) (wk:Walk c It ds J1 U){s:Tj}{H J:Hp}{ys:List D}{Qf:List D×Ev->Prop}(hU:∀J' H',Ext J2 H2 J' H'->aS J J'->U J' H') (I:Inv X S6 σ H s) (st:tn 0 s.heap) (fr:∀b∈fp,jW X S6 H b) (e2:Ext J2 H2 J H) (sr:SR c J H σ env) (no:yu env σ p) (ac:Acc J H ys)
 (hl:ys.length + ds.length * N<=sizeLine) (w:cg (bN gt gts act ds env) Qf c.T):
  VH (T5 X.prog X.w) X.A (.compLoop e depth (.ref it) acc X.env) (λr s'=>r=.ok .next/\∃σ' H' J' r',Inv X S6 σ' H' s'/\Ext J2 H2 J' H'/\aS J J'/\SR c J' H' σ' r'.2/\yu r'.2 σ' p/\Acc J' H' (ys++r'.1)/\r'.1.length<=ds.length * N/\Qf r') s:=by
 refine LP _ (λn s'=>∃(i:Nat) (σ':L2.St) (H' J':Hp) (env':Ev) (zs:List D),n=ds.length - i/\i<=ds.length/\Inv X S6 σ' H' s'/\tn i s'.heap/\(∀b∈fp,H' b=none)/\Ext J2 H2 J' H'/\aS J J'/\SR c J' H' σ' env'/\yu env' σ' p/\Acc J' H' (ys++zs)/\zs.length<=i * N/\
  cg (bN gt gts act (ds.drop i) env') (λr=>Qf (zs++r.1,r.2)) c.T) ?_ ds.length s ⟨0,σ,H,J,env,[],rfl,Uc _,I,st,λb hb=>(fr b hb).1,e2,aS.refl J,sr,no,by rw [Wz];exact ac,by simp,by rw [acI];exact w⟩
 rintro n s' ⟨i,σ',H',J',env',zs,rfl,hi,I',st',fr',e',sj,sr',no',ac',hz,w'⟩;have stat:∀{H':Hp},(∀b∈fp,H' b=none)->∀b∈fp,jW X S6 H' b:=λhn b hb=>⟨hn b hb,(fr b hb).2⟩;obtain ⟨wk1,wk2⟩:=wk i J' H' sr'.hp (hU J' H' e' sj);by_cases hlt:i < ds.length
 ·obtain ⟨g1,y1⟩:=wk2 ds[i] (by simp [hlt]);rw [Ws hlt] at w';refine UD (T.item X rfl rfl rfl hc i S6 s' σ' H' (λ_ _=>False) I' (stat fr') st' g1) (λr s4 ⟨u,hr,h4⟩=>?_) λ_ _ f=>f.elim;subst hr;refine UD h4 (λ_ s5 ⟨x,H5,I5,r5,y5,st5,fr5⟩=>?_) λ_ _ f=>f.elim;obtain ⟨J5,e5,rx⟩:=y1 x H5 y5;have I5':=I5.pinned (stat fr5) (T.obj _ _ st5);have again:∀{σ7:L2.St}{H7:Hp}{s7:Tj},Inv X (S6++pT fp s5.heap) σ7 H7 s7->Inv X S6 σ7 H7 s7/\tn (i + 1) s7.heap/\(∀b∈fp,H7 b=none):=fun {σ7 H7 s7} I7=>by refine ⟨I7.unpinned,T.keep _ _ _ st5 λb hb o e=>(I7.pin (b,o) (Uu _ (Uu _ (kC hb e)))).1,λb hb=>?_⟩;obtain ⟨o,e,d⟩:=T.obj _ _ st5 b hb;exact (I7.pin (b,o) (Uu _ (Uu _ (kC hb e)))).2.1
  refine UD (hT _ s5 σ' H5 x u (λσ6 H6=>∃e6,H6=H5/\SR c J5 H5 σ6 e6/\KO env' σ' e6 σ6/\cg (gts e6 >>= λk=>if k=true then act e6 >>= λr=>bN gt gts act (ds.drop (i + 1)) r.2 >>= λz=>.ok (r.1++z.1,z.2) else bN gt gts act (ds.drop (i + 1)) e6)
   (λr=>Qf (zs++r.1,r.2)) c.T) I5' r5 ⟨J5,env',ds[i],sr'.ext e5,rx,aD (aH w') λe6 w6 σ6 sr6 ko=>⟨e6,rfl,sr6,ko,w6⟩⟩) (λ_ s6 ⟨σ6,H6,I6,e6,Se,sr6,ko,w6⟩=>?_) λ_ _ f=>(hx _ _ f).elim
  subst Se;have no6:yu e6 σ6 p:=λj xs q z=>by obtain ⟨k1,k2⟩:=ko j xs q;exact no' j xs k1 (k2▸z)
  refine UD (hIf _ s6 σ6 H6 (λk H7=>∃J7,Ext J5 H6 J7 H7/\cg (if k=true then act e6 >>= λr=>bN gt gts act (ds.drop (i + 1)) r.2 >>= λz=>.ok (r.1++z.1,z.2) else bN gt gts act (ds.drop (i + 1)) e6)
   (λr=>Qf (zs++r.1,r.2)) c.T) I6 ⟨J5,e6,sr6,aD (aH w6) λk wk J7 H7 e7=>⟨J7,e7,wk⟩⟩) (λk s7 ⟨H7,I7,J7,e7,w7⟩=>?_) λ_ _ f=>(hx _ _ f).elim
  have sr7:=sr6.ext e7;have ac7:=aR.ext (aR.ext ac' e5) e7;have x7:=(e'.trans e5).trans e7;have j7:=(sj.trans e5.j).trans e7.j;have hm:(i + 1) * N=i * N + N:=by rw [acr,Nat.one_mul]
  cases k with
  | false=>
   rw [if_neg (by decide)] at w7 ⊢;obtain ⟨a1,a2,a3⟩:=again I7;exact ⟨ds.length - (i + 1),by omega,i + 1,σ6,H7,J7,e6,zs,rfl,hlt,a1,a2,a3,x7,j7,sr7,no6,ac7,by omega,w7⟩
  | true=>
   rw [if_pos rfl] at w7 ⊢;have hN:(i + 1) * N<=ds.length * N:=VV N hlt;refine UD (hA _ s7 σ6 H7 J7 e6 (ys++zs) _ I7 x7 sr7 no6 ac7 (by rw [TQ];omega) (aH w7)) (λ_ s8 ⟨σ8,H8,J8,r,I8,x8,j8,sr8,no8,ac8,l8,w8⟩=>?_) λ_ _ f=>f.elim;obtain ⟨a1,a2,a3⟩:=again I8;refine ⟨ds.length - (i + 1),by omega,i + 1,σ8,H8,J8,r.2,zs++r.1,rfl,hlt,a1,a2,a3,x8,j7.trans j8,sr8,no8,by rw [<-Yk];exact ac8,by rw [TQ];omega,?_⟩;refine aD (aH w8) λz q=>?_;rw [Yk];exact q
 ·have Sy:i=ds.length:=by omega
  subst Sy;rw [X6 (Tv _)] at w';refine UD (T.done X rfl rfl rfl hc _ S6 s' σ' H' (λ_ _=>False) I' (stat fr') st' (wk1 (Tv _))) (λr s4 ⟨hr,I9⟩=>?_) λ_ _ f=>f.elim;subst hr;have w9:Qf (zs++[],env'):=w';rw [Wz] at w9;exact ⟨rfl,σ',H',J',(zs,env'),I9,e',sj,sr',no',ac',hz,w9⟩
end
section
variable {prog:TU}{w:Uk}{A:Um}{R:abD->Tj->Prop}{s:Tj}{it acc:Ti}{env:Env}{S5:W5}{pos:Pos}{g0:ZL}{S8 S9:Uo}{ifs:List Uo}{rest:List ZL}
theorem Nb (h0:VH (T5 prog w) A (.compLoop (.ListComp elt (g0::⟨S8,S9,ifs,0⟩::rest) S5 pos) 1 it acc env) R s)
 (h:TX (T5 prog w) A (Zd it) (λit' s'=>VH (T5 prog w) A (.compLoop (.ListComp elt (g0::⟨S8,S9,ifs,0⟩::rest) S5 pos) 1 it' acc env) R s') (λ_ _=>False) s):
  VH (T5 prog w) A (.compStart (.ListComp elt (g0::⟨S8,S9,ifs,0⟩::rest) S5 pos) 1 it acc env) R s:=by
 refine Y5 ?_;show TX _ _ ((acs (.ListComp elt (g0::⟨S8,S9,ifs,0⟩::rest) S5 pos) 1 it acc env).onRaise (λx=>do acp x env;W6 acu)) _ _ s;refine ads ?_;unfold acs;show TX _ _ (ask >>= _) _ _ s;refine Tf (We (wpAny_ite ?_));split
 ·first
   | exact Tf (Th (Th (aan rfl h0)))
   | exact Th (aan rfl h0)
 ·refine Tf (YQ ?_);show TX _ _ (W6 S9.pos >>= _) _ _ s;exact Tf (WM (Tf (UD h (λit' s' h'=>Th (aan rfl h')) λ_ _ x=>x.elim)))
theorem Na (h0:VH (T5 prog w) A (.compLoop (.DictComp kx vx (g0::⟨S8,S9,ifs,0⟩::rest) S5 pos) 1 it acc env) R s)
 (h:TX (T5 prog w) A (Zd it) (λit' s'=>VH (T5 prog w) A (.compLoop (.DictComp kx vx (g0::⟨S8,S9,ifs,0⟩::rest) S5 pos) 1 it' acc env) R s') (λ_ _=>False) s):
  VH (T5 prog w) A (.compStart (.DictComp kx vx (g0::⟨S8,S9,ifs,0⟩::rest) S5 pos) 1 it acc env) R s:=by
 refine Y5 ?_;show TX _ _ ((acs (.DictComp kx vx (g0::⟨S8,S9,ifs,0⟩::rest) S5 pos) 1 it acc env).onRaise (λx=>do acp x env;W6 acu)) _ _ s;refine ads ?_;unfold acs;show TX _ _ (ask >>= _) _ _ s;refine Tf (We (wpAny_ite ?_));split
 ·first
   | exact Tf (Th (Th (aan rfl h0)))
   | exact Th (aan rfl h0)
 ·refine Tf (YQ ?_);show TX _ _ (W6 S9.pos >>= _) _ _ s;exact Tf (WM (Tf (UD h (λit' s' h'=>Th (aan rfl h')) λ_ _ x=>x.elim)))
end
noncomputable def je (gi:G (List D)) (gt:GT) (gts:G Bool) (act:Ev->M (List D×Ev)):Ev->M (List D×Ev):=λenv=>gi env >>= λds=>if ds.length<=1000 then bN gt gts act ds env else .bad
abbrev sC (e S9:Uo) (acc:Ti) (env:Env):Sem Unit:=do
 let x <-eval S9 env
 W6 S9.pos
 let x <-U7 S9 env x
 let _ <-runOwn (.compStart e 1 (<-holding [x] (Zd x)) acc env) env
section
variable {X:Cx}{c:C}{p:T3}{Acc:Hp->Hp->List D->Prop}{J2 H2:Hp}{N:Nat}{m:Sem Unit}{act:Ev->M (List D×Ev)}{S8 S9:Uo}{ifs:List Uo}{gi:G (List D)}{gt:GT}{gts:G Bool}{e:Uo}{acc:Ti}
theorem AK (aR:yi Acc) (hc:X.calm=true) (hx:∀v s,X.xe v s->False) (hs:∀x,U7 S9 X.env x=pure x)
  (start:∀(it:T3) (R:abD->Tj->Prop) (s:Tj),VH (T5 X.prog X.w) X.A (.compLoop e 1 (.ref it) acc X.env) R s->TX (T5 X.prog X.w) X.A (Zd (.ref it)) (λit' s'=>VH (T5 X.prog X.w) X.A (.compLoop e 1 it' acc X.env) R s') (λ_ _=>False) s->VH (T5 X.prog X.w) X.A (.compStart e 1 (.ref it) acc X.env) R s)
  (LP:∀it:T3,s_ X.prog X.w X.A e 1 (.ref it) acc X.env S8 ifs m) (hi:OD X c S8 S9 gi) (hT:Dk X c S8 gt) (hIf:BG X c ifs gts) (hA:uS X c p Acc J2 H2 N m act):
  uS X c p Acc J2 H2 (1000 * N) (sC e S9 acc X.env) (je gi gt gts act):=by
 intro S6 s σ H J env ys Qf I x2 sr no ac hl w;refine Tf (UD (hi S6 s σ H (λIt H1=>∃ds J1,Ext J H J1 H1/\Walk c It ds J1 (λJ' _=>aS J1 J')/\cg (if ds.length<=1000 then bN gt gts act ds env else .bad) Qf c.T) I ⟨J,env,sr,aD (aH w) λds wd It J1 H1 e1 wk=>⟨ds,J1,e1,wk,wd⟩⟩) (λxv s1 h1=>?_) λv s f=>(hx v s f).elim);refine Tf (WM ?_);rw [hs xv];refine Tf (Th (Tf (Ul (UD h1 (λitv s2 h2=>?_) λv s f=>(hx v s f).elim))));obtain ⟨it,fp,tn,It,H1,rfl,I1,T,st1,f1,ds,J1,e1,wk,w1⟩:=h2;have hsz:ds.length<=1000:=by
  by_cases z:ds.length<=1000
  ·exact z
  ·rw [if_neg z] at w1;exact w1.elim
 rw [if_pos hsz] at w1;have hm:ds.length * N<=1000 * N:=VV N hsz;have hb:ys.length + ds.length * N<=sizeLine:=T6 (Nat.add_le_add_left hm _) hl;have run:=zw aR hc hx (LP it) hT hIf hA T (λJ' _=>aS J1 J') wk (λ_ _ _ h=>h) I1 st1 f1 (x2.trans e1) (sr.ext e1) no (aR.ext ac e1) hb w1;have run':VH (T5 X.prog X.w) X.A (.compLoop e 1 (.ref it) acc X.env) (λr s'=>match r with | .ok f=>TX (T5 X.prog X.w) X.A (pure ()) (λ_ s'=>∃σ' H' J' r,Inv X S6 σ' H' s'/\Ext J2 H2 J' H'/\aS J J'/\SR c J' H' σ' r.2/\yu r.2 σ' p/\Acc J' H' (ys++r.1)/\r.1.length<=1000 * N/\Qf r) (λ_ _=>False) s' | .error e=>cameBackBy (T5 X.prog X.w) X.A X.env (λ_ _=>False) e s') s2:=WK run λr s' ⟨hr,σ',H',J',r',q1,q2,q3,q4,q5,q6,q7,q8⟩=>by subst hr;exact Th ⟨σ',H',J',r',q1,q2,e1.j.trans q3,q4,q5,q6,T6 q7 hm,q8⟩
 exact Tf (wpAny_runOwn (h:=none) (start it _ _ run' (T.self _ 0 _ _ _ st1 run')))
end
def gM (ge:G R):Ev->M (List D×Ev):=λe=>ge e >>= λr=>toD r >>= λy=>.ok ([y],e)
def BL (c:C) (p:T3):Hp->Hp->List D->Prop:=λJ H ys=>∃us,H p=some (.lst us)/\J p=none/\aJ c.K J ys us
theorem sq:yi (BL c p):=⟨fun {J H J' H' ys} ⟨us,h1,h2,h3⟩ e=>⟨us,e.h _ _ h1,e.frz _ (by rw [h1];intro z;cases z) h2,h3.mono e.j⟩⟩
section
variable {X:Cx}{c:C}{p:T3}{J2 H2:Hp}{elt:Uo}{ge:G R}
theorem AJ (hx:∀v s,X.xe v s->False) (hp2:H2 p=none) (hp0:c.H0 p=none) (hE:PD X c elt ge):uS X c p (BL c p) J2 H2 1 (do let _ <-call (.builtin "list.append") [.ref p,<-eval elt X.env]) (gM ge):=by
 intro S6 s σ H J env ys Qf I x2 sr no ⟨us,h1,h2,h3⟩ hl w;have hlen:ys.length=us.length:=h3.length;refine Tf (UD (hE _ s σ H (λv H8=>∃J8 y,Ext J H J8 H8/\Rep c.K J8 y v/\Qf ([y],env)) I ⟨J,env,sr,aD (aH w) λr wr v J8 H8 e8 r8=>?_⟩) (λu8 s8 ⟨v8,H8,I8,r8,J8,y,e8,ry,w8⟩=>?_) λv s f=>(hx v s f).elim)
 ·obtain ⟨y,q,wr⟩:=i6 wr;obtain ⟨J9,e9,_,ry⟩:=freeze e8 r8 q;exact ⟨J9,y,e9,ry,wr⟩
 have p8:H8 p=some (.lst us):=e8.h _ _ h1;have J8p:J8 p=none:=e8.frz _ (by rw [h1];intro z;cases z) h2;refine Tf (UD (pP (X:=X) _ s8 σ H8 (.ref p) [v8] (.ref p) [u8] (λ_ H9=>H9=L2.upd H8 p (.lst (us++[v8]))) I8 rfl (.cons r8 .nil) ⟨_,us,v8,rfl,rfl,p8,by omega,rfl⟩) (λ_ s9 ⟨_,H9,I9,_,h9⟩=>?_) λv s f=>(hx v s f).elim);subst h9;exact Th ⟨σ,_,J8,([y],env),I9,(x2.trans e8).other hp2 J8p,e8.j,(sr.ext e8).other J8p hp0 no,no,⟨us++[v8],b9,J8p,(h3.mono e8.j).append (.cons ry .nil)⟩,Tv _,w8⟩
end
noncomputable def iD (lim n:Nat) (cap:List Nat) (gi:G (List D)) (gt:GT) (gts:G Bool) (act:Ev->M (List D×Ev)) (fin:List D->M R):G R:=λenv=>gi env >>= λds=>if ds.length<=lim then bN gt gts act ds (cE n cap env) >>= λr=>fin r.1 else .bad
section
variable {X:Cx}{c:C}
structure Az (X:Cx) (S5:W5) (cap:List Nat) (S9:Uo):Prop where
 hk:S5.kind=.function
 hno:HY X cap S5=true
 hnames:(S5.names.all λx=>!(x.2 == .local) || (S5.names.lookup x.1 == some .local))=true
 hcl:(dD X.env.cells S5.names []).isSome=true
 hcap:qq X cap=true
 hloc:DO X cap S5=true
 hnd:zy cap=true
 hcalm:X.calm=true
 hs:∀x,U7 S9 X.env x=pure x
theorem tP {S5:W5}{cap:List Nat}{S9:Uo}(hcl:(dD X.env.cells S5.names []).isSome=true) (hk:S5.kind=.function:=by rfl) (hno:HY X cap S5=true:=by rfl) (hnames:(S5.names.all λx=>!(x.2 == .local) || (S5.names.lookup x.1 == some .local))=true:=by rfl)
  (hcap:qq X cap=true:=by rfl) (hloc:DO X cap S5=true:=by rfl) (hnd:zy cap=true:=by rfl) (hcalm:X.calm=true:=by rfl) (hs:∀x,U7 S9 X.env x=pure x:=by intro _;rfl):Az X S5 cap S9:=⟨hk,hno,hnames,hcl,hcap,hloc,hnd,hcalm,hs⟩
noncomputable def CV (X:Cx) (c:C) (cm:Option (Ti->Sem Unit)->Sem Ti) (g:G R):Prop:=
 ∀{S6:List (T3×Obj)}{s:Tj}{σ:L2.St}{H:Hp}{Q:VK}{use:Option (Ti->Sem Unit)}{Q0:Ti->Tj->Prop},Inv X S6 σ H s->tD c g σ H Q->
  (∀(acc C:T3) (m:Str->Option Ti) (s':Tj) (H':Hp) (fl:Flow),s'.heap.Ns C m->((C∈X.ex\/X.s₀.heap.objs.size<=C)/\C≠X.env.locals/\(∀x c,X.env.cells.lookup x=some c->c≠C)/\∀p∈X.pn++S6,p.1≠C)->H' C=none->(∀h'',Vu C s'.heap h''->Inv X S6 σ H' {s' with heap:=h''})->Q (.ref acc) H'->compPost (T5 X.prog X.w) X.A X.xe use Q0 (.ref acc) C (.ok fl) s')->
  TX (T5 X.prog X.w) X.A (cm use) Q0 X.xe s
theorem nC (own:List Str) (cap:List Nat){e S8 S9:Uo}{ifs:List Uo}{gs:List ZL}{S5:W5}{gi:G (List D)}{gt:GT}{gts:G Bool}{act:Ev->M (List D×Ev)}{fin:List D->M R}{newAcc:Sem Ti}{ob:Obj}{o0:T3->HO}{Acc:T3->Hp->Hp->List D->Prop}{N lim:Nat}{m:T3->Env->Sem Unit}
  (hcls:clausesOf e=⟨S8,S9,ifs,0⟩::gs) (hi:OC X c S8 S9 gi)
  (hnew:∀(s:Tj) (Q:Ti->Tj->Prop) (E:Ti->Tj->Prop),Q (.ref s.heap.objs.size) {s with heap:=s.heap.push ob}->TX (T5 X.prog X.w) X.A newAcc Q E s)
  (hob:∀(h:Vd) (H:Hp),cj X.prog X.w H (h.push ob) h.objs.size (o0 h.objs.size))
  (aR:∀p,yi (Acc p)) (a0:∀(p:T3) (J H:Hp),V8 < p->H p=some (o0 p)->J p=none->Acc p J H [])
  (hN:lim * N<=sizeLine) (LP:∀(it p:T3) (env:Env),s_ X.prog X.w X.A e 0 (.ref it) (.ref p) env S8 ifs (m p env))
  (start:∀(it:T3) (acc:Ti) (env:Env) (R:abD->Tj->Prop) (s:Tj),VH (T5 X.prog X.w) X.A (.compLoop e 0 (.ref it) acc env) R s->TX (T5 X.prog X.w) X.A (Zd (.ref it)) (λit' s'=>VH (T5 X.prog X.w) X.A (.compLoop e 0 it' acc env) R s') (notedBy (T5 X.prog X.w) X.A env λx s'=>R (.error x) s') s->VH (T5 X.prog X.w) X.A (.compStart e 0 (.ref it) acc env) R s)
  (nofin:∀ys z,fin ys≠.exc z) (hend:∀{p:T3}{J H J' H':Hp}{ys:List D}{r:R},H p=none->Ext J H J' H'->Acc p J' H' ys->fin ys=.ok r->∃J'',Ext J H J'' H'/\RR c H J'' H' r (.ref p))
  (hbody:∀(cl:List (Str×T3)) (C:T3) (s:Tj) (H:Hp) (fp:List T3),dD X.env.cells S5.names []=some cl->Dk (cR X own cap S5 cl C s H fp) c S8 gt/\BG (cR X own cap S5 cl C s H fp) c ifs gts/\∀(p:T3) (J2 H2:Hp),H2 p=none->c.H0 p=none->uS (cR X own cap S5 cl C s H fp) c p (Acc p) J2 H2 N (m p (cR X own cap S5 cl C s H fp).env) act)
  (a:Az X S5 cap S9){pos':Pos}:CV X c (λuse=>comprehension e S5 X.env pos' newAcc false (eval S9 X.env) use) (iD lim own.length cap gi gt gts act fin):=by
 obtain ⟨hk,hno,hnames,hcl,hcap,hloc,hnd,hcalm,hs⟩:=a;intro S6 s σ H Q use Q0 I h RG;obtain ⟨J,env,sr,w⟩:=h;obtain ⟨cl,hcl⟩:=U1.mp hcl;have RO:∀j∈cap,∀x,X.N[j]?=some x->cU S5.names x=false:=λj hj x hx=>by have:=T8.mp hno j hj;rw [hx] at this;simpa using this
 have Q8:∀x∈S5.names,x.2=.local->S5.names.lookup x.1=some .local:=λy hy z=>by have:=T8.mp hnames y hy;rw [z] at this;simpa using this
 have Rp:∀j∈cap,∀x,X.N[j]?=some x->(relabel S5 X.env).names.lookup x≠some .local:=λj hj x hx z=>by have:=T8.mp hloc j hj;rw [hx] at this;simp only at this;rw [z] at this;cases this
 refine wpAny_comprehension_free (use:=use) hcls hs (xP hcl) hk Q8 ?_;refine bI (hi S6 s σ H (λIt H1=>∃ds J1,Ext J H J1 H1/\Walk c It ds J1 (λJ' H'=>aS J1 J'/\aS H1 H')/\
  cg (if ds.length<=lim then bN gt gts act ds (cE own.length cap env) >>= λr=>fin r.1 else .bad) (λr=>∀v J' H',Ext J H J' H'->RR c H J' H' r v->Q v H') c.T) I ⟨J,env,sr,aD (aH w) λds wd It J1 H1 e1 wk=>⟨ds,J1,e1,wk,wd⟩⟩) λxv s1 h1=>bI h1 λitv s2 h2=>?_
 obtain ⟨it,fp,tn,It,H2,rfl,I2,T,st2,f2,ds,J2,e2,wk,w2⟩:=h2;have hsz:ds.length<=lim:=by
  by_cases z:ds.length<=lim
  ·exact z
  ·rw [if_neg z] at w2;exact w2.elim
 rw [if_pos hsz] at w2;have w3:=aH w2;refine hnew s2 _ _ (Cv ?_);dsimp only;generalize Ry:s2.heap.push ob=Hs;have hC:Hs.objs.size=s2.heap.objs.size + 1:=by rw [<-Ry,Wt]
 have hp2:H2 s2.heap.objs.size=none:=I2.hok.fresh (Tv _);have kHs:∀b o,s2.heap.get? b=some o->Hs.get? b=some o:=λb o e=>by rw [<-Ry];exact Tn _ e
 have I3:Inv X S6 σ (L2.upd H2 s2.heap.objs.size (o0 s2.heap.objs.size)) {s2 with heap:=Hs,toks:=s2.toks}:=I2.laid (t':=s2.toks) kHs (Tv _) (by rw [<-Ry];exact hob _ _);have f3:∀b∈fp,jW X S6 (L2.upd H2 s2.heap.objs.size (o0 s2.heap.objs.size)) b:=λb hb=>by obtain ⟨o,ho,_⟩:=T.obj _ _ st2 b hb;exact ⟨by rw [bA (Ua (TN ho))];exact (f2 b hb).1,(f2 b hb).2⟩
 have hin:∀b∈fp,b < Hs.objs.size:=λb hb=>by obtain ⟨o,ho,_⟩:=T.obj _ _ st2 b hb;exact WL (TN ho) (by rw [hC];exact Vv _)
 obtain ⟨h₁,eh₁⟩:∃h₁,h₁=acg (Hs.push {cls:=.type "dict",data:=.dict #[]}) S5.names:=⟨_,rfl⟩;rw [<-eh₁];have hns₁:h₁.Ns Hs.objs.size (λ_=>none):=by rw [eh₁];exact Mp Hs S5.names
 have ck:ad2 h₁ (Hs.objs.size + 1) (UI (Hs.objs.size + 1) S5.names []):=by rw [eh₁];exact DP Hs S5.names
 have okC:=Jg (own:=own) (cap:=cap) I3 hk hcl ck f3 hin;have old1:∀b o,Hs.get? b=some o->h₁.get? b=some o:=λb o e=>by rw [eh₁];exact ach _ _ _ _ (Tn _ e)
 have I4:=F1 (tk:=s2.toks) I3 okC hcl ck hcap Rp RO hns₁ old1;have sr2:=sr.ext e2;have srA:SR c J2 (L2.upd H2 s2.heap.objs.size (o0 s2.heap.objs.size)) σ env:=sr2.ext (Ext.new e2.sub hp2 _);have J2p:J2 s2.heap.objs.size=none:=e2.sub.free hp2;have H0p:c.H0 s2.heap.objs.size=none:=sr2.hp.ent.free hp2;have nown:∀(j:Nat) (xs:Mn),(cE own.length cap env)[j]?=some (some (mS xs))->(Vj own.length none++cap.map λ(j:Nat)=>(σ[j]?).getD none)[j]?≠some (some (.ref s2.heap.objs.size)):=λj xs q z=>by obtain ⟨a,h1,h2,h3⟩:=kj q;obtain ⟨a',h4,h5,h6⟩:=kj z;rw [h2] at h5;cases h5;obtain ⟨p,k1,k2,_⟩:=sr2.mine h3;rw [h6] at k1;cases k1;exact k2 hp2
 obtain ⟨hT,hIf,hE⟩:=hbody cl Hs.objs.size {s2 with heap:=Hs,toks:=s2.toks} (L2.upd H2 s2.heap.objs.size (o0 s2.heap.objs.size)) fp hcl;have fpC:∀{H':Hp},(∀b∈fp,H' b=none)->∀b∈fp,jW (cR X own cap S5 cl Hs.objs.size {s2 with heap:=Hs,toks:=s2.toks} (L2.upd H2 s2.heap.objs.size (o0 s2.heap.objs.size)) fp) [] H' b:=fun {H'} hn b hb=>by
  obtain ⟨m1,_⟩:=gO S5.names [] cl hcl (λx c h=>by simp at h);refine ⟨hn b hb,Ua (hin b hb),λz=>?_,.inl hb,λx d h=>(fX h).elim (λh=>WJ (T9 (hin b hb) (WE (ck.empty _ _ (XQ h)).2))) (λh=>(f2 b hb).2.2.2.2.1 x d (m1 x d h.2)),λp hp=>absurd (show p∈([]:List (T3×Obj)) from hp) (by simp)⟩;rcases TZ.mp (I2.stkSub b z) with e | e
  ·exact (f2 b hb).2.1 e
  ·exact (f2 b hb).2.2.1 e
 have back:∀{pi:List (T3×Obj)}{σ':L2.St}{H':Hp}{s':Tj}{h'':Vd},Inv (cR X own cap S5 cl Hs.objs.size {s2 with heap:=Hs,toks:=s2.toks} (L2.upd H2 s2.heap.objs.size (o0 s2.heap.objs.size)) fp) pi σ' H' s'->Vu Hs.objs.size s'.heap h''->Inv X S6 σ H' {s' with heap:=h''}:=fun {pi σ' H' s' h''} I' sb=>by
  have B:Un (frs X.stack) fp (L2.upd H2 s2.heap.objs.size (o0 s2.heap.objs.size)) H' Hs s'.heap:=I'.base;have ne2:∀{b:T3}{o:Obj},s2.heap.get? b=some o->b≠s2.heap.objs.size/\b≠Hs.objs.size:=fun {b o} e=>
   ⟨Ua (TN e),Ua (WL (TN e) (by rw [hC];exact Vv _))⟩
  have nH:∀{b:T3}{o:HO},H2 b=some o->L2.upd H2 s2.heap.objs.size (o0 s2.heap.objs.size) b=some o:=fun {b o} e=>by rw [bA (fc e hp2)];exact e
  refine Inv.call' (ch:=fp) (s':={s' with heap:=h''}) I2 I'.os ⟨λb o e n hf hx=>?_,λb o e n hf hx=>?_,λb o e n hx=>?_,λb o e hx=>?_,λb xs e=>B.tups b xs (nH e),λb o u e=>B.frzs b o u (nH e),λb ps e=>B.tbls b ps (nH e)⟩ (Aw I'.hok I'.free sb) I'.bare λb hb=>⟨(f2 b hb).2.2.2.1,(f2 b hb).2.1,(f2 b hb).2.2.2.2.1,(f2 b hb).2.2.2.2.2⟩
  ·exact (sb.2 b (ne2 e).2).trans (B.keep b o (kHs b o e) (by rw [bA (ne2 e).1];exact n) hf hx)
  ·obtain ⟨sl,z⟩:=B.slot b o (kHs b o e) (by rw [bA (ne2 e).1];exact n) hf hx;exact ⟨sl,(sb.2 b (ne2 e).2).trans z⟩
  ·exact B.free b o (kHs b o e) (by rw [bA (ne2 e).1];exact n) hx
  ·obtain ⟨o',z⟩:=B.there b o (kHs b o e) hx;exact ⟨o',(sb.2 b (ne2 e).2).trans z⟩
 have run:=λ(s4:Tj) (I4:Inv (cR X own cap S5 cl Hs.objs.size {s2 with heap:=Hs,toks:=s2.toks} (L2.upd H2 s2.heap.objs.size (o0 s2.heap.objs.size)) fp) [] _ _ s4) (st4:tn 0 s4.heap)=>zw (X:=cR X own cap S5 cl Hs.objs.size {s2 with heap:=Hs,toks:=s2.toks} (L2.upd H2 s2.heap.objs.size (o0 s2.heap.objs.size)) fp) (e:=e) (depth:=0) (acc:=.ref s2.heap.objs.size) (aR _) hcalm (λ_ _ f=>f) (LP it _ _) hT hIf (hE s2.heap.objs.size J2 H2 hp2 H0p) T (λJ' H'=>aS J2 J'/\aS H2 H') wk (λJ' H' x _=>⟨x.j,x.h⟩) I4 st4 (fpC λb hb=>(f3 b hb).1) (Ext.new e2.sub hp2 _) (srA.cap own.length cap (Bb hnd)) nown (a0 _ _ _ (Ln I2) b9 J2p) (T6 (by rw [Y7,XD];exact VV N hsz) hN) w3;have st4:=T.keep _ _ _ st2 (λb hb o e=>old1 b o (kHs b o e));have go:=WK (run _ I4 st4) (R':=compPost (T5 X.prog X.w) X.A X.xe use Q0 (.ref s2.heap.objs.size) Hs.objs.size) λr s' ⟨hr,σ',H',J',r',I9,x9,j9,sr9,no9,ac9,l9,w9⟩=>by
  subst hr;obtain ⟨mm,hm,_⟩:=I9.loc;refine RG s2.heap.objs.size Hs.objs.size mm _ H' _ hm (Lk I2 (by rw [hC];exact Yc _)) I9.free (λh'' sb=>back I9 sb) ?_;cases q:fin r'.1 with
  | bad=>rw [q] at w9;exact w9.elim
  | exc z=>rw [q] at w9;exact (nofin _ z q).elim
  | ok z=>
   rw [q] at w9;obtain ⟨J9,x10,rr⟩:=hend (e2.h.free hp2) (e2.trans x9) ac9 q;exact w9 _ J9 H' x10 rr
 exact start it _ _ _ _ go (T.self _ 0 _ _ _ st4 go)
def qe (X:Cx) (c:C) (e:Uo) (g:G R):Prop:=∃cm,CV X c cm g/\eval e X.env=cm none/\∀use,evalThenUse e X.env use=(do let _ <-cm (some use))
theorem bP {e:Uo}{g:G R}(h:qe X c e g):QD X c e g:=by obtain ⟨cm,core,hev,_⟩:=h;refine ⟨λS6 s σ H Q I h=>?_⟩;rw [hev];exact core I h λacc C m s' H' fl hm hz hf hb q=>⟨m,hm,λh'' sb=>⟨.ref acc,H',hb h'' sb,rfl,q⟩⟩
theorem kP (i:Nat){e:Uo}{g:G R}{x:Str}{pos' pos2:Pos}(hN:X.N.Nodup) (h:qe X c e g) (hx:X.N[i]?=some x:=by rfl) (R_:X.env.scope.names.lookup x=some .local:=by rfl)
  (hsw:YS e (some (.Name x pos')) pos2.line X.env=pure true:=by rfl):jo X c (.Assign [.Name x pos'] e pos2) (bh i g):=by
 obtain ⟨cm,core,_,RD⟩:=h;refine ⟨λS6 s σ H D I ⟨J,env,sr,w⟩=>?_⟩;rw [arm_exec_Assign];refine Tf (WM ?_);rw [show Zz [.Name x pos'] e pos2.line X.env=pure true from hsw];refine Tf (Th ?_);rw [if_pos rfl,RD];refine Tf (Tf (core (Q:=λv H1=>∃J1 r xx,Ext J H J1 H1/\RR c H J1 H1 r v/\toS r=.ok xx/\oP c J D (.nx (env.set i (some xx)))) I ⟨J,env,sr,aD (aH w) λr wr v J1 H1 e1 r1=>?_⟩ λacc C m s' H' fl hm ap hf hb ⟨J1,r,xx,e1,r1,q1,w1⟩=>?_))
 ·obtain ⟨xx,q,wr⟩:=vL wr;exact ⟨J1,r,xx,e1,r1,q,wr⟩
 ·have I1:L2.Inv X S6 σ H' s':=hb s'.heap (aeo ..);show TX _ _ (do W6 pos';bindName X.env x (.ref acc)) _ _ _;refine Tf (WM (wpAny_bindName ?_));refine xr I1 hN hx (.inl R_) (v:=.ref acc) (u:=.ref acc) rfl (λs2 I2 ⟨a,sb,ha⟩=>?_) (.inr R_);have hac:C≠a:=λz=>by
   rcases ha with e | e
   ·exact ap.2.1 (z.trans e)
   ·exact ap.2.2.1 _ _ e z.symm
  refine ⟨m,hm.sameBut sb hac,λh2 sb2=>?_⟩;refine Th (Th ⟨σ.set i (some (.ref acc)),H',ED I2 ap hf sb2 (o0:=default),?_⟩);exact w1 _ J1 H' e1.j (sr.set e1 r1 q1)
end
noncomputable def pB (n:Nat) (cap:List Nat) (gi0:G (List D)) (gt0:GT) (gts0:G Bool) (gi1:G (List D)) (gt1:GT) (gts1:G Bool) (ge:G R):G R:=iD 10000 n cap gi0 gt0 gts0 (je gi1 gt1 gts1 (gM ge)) (λys=>.ok (.l .fresh ys))
theorem KZ (elt t0 i0 t1 i1:Uo) (f0 f1:List Uo) (S5:W5) (pos:Pos) (it acc:Ti) (env:Env):
  Yp (.ListComp elt [⟨t0,i0,f0,0⟩,⟨t1,i1,f1,0⟩] S5 pos) 0 it acc env=(do
   W6 i0.pos
   match <-W7 it with
   | none=>pure (.done .next)
   | some v=>
    V3 t0 it v
    assign t0 env v
    let mut ok:=true
    for c in f0 do
     if ok then ok <-aaH c env (eval c env)
    if ok then
     let x <-eval i1 env
     W6 i1.pos
     let x <-U7 i1 env x
     let _ <-runOwn (.compStart (.ListComp elt [⟨t0,i0,f0,0⟩,⟨t1,i1,f1,0⟩] S5 pos) 1 (<-holding [x] (Zd x)) acc env) env
    again (.compLoop (.ListComp elt [⟨t0,i0,f0,0⟩,⟨t1,i1,f1,0⟩] S5 pos) 0 it acc env)):=by rfl
theorem Ni (elt t0 i0 t1 i1:Uo) (f0 f1:List Uo) (S5:W5) (pos:Pos) (it acc:Ti) (env:Env):
  Yp (.ListComp elt [⟨t0,i0,f0,0⟩,⟨t1,i1,f1,0⟩] S5 pos) 0 it acc env=l7 t0 i0 f0 it env (sC (.ListComp elt [⟨t0,i0,f0,0⟩,⟨t1,i1,f1,0⟩] S5 pos) i1 acc env) (again (.compLoop (.ListComp elt [⟨t0,i0,f0,0⟩,⟨t1,i1,f1,0⟩] S5 pos) 0 it acc env)):=by
 rw [KZ];refine bind_congr λ_=>bind_congr λr=>?_;cases r with
 | none=>rfl
 | some v=>
  refine bind_congr λ_=>bind_congr λ_=>bind_congr λok=>?_;cases ok with
  | false=>rfl
  | true=>simp only [sC,bind_assoc,pure_bind,if_true]
theorem Nj (elt t0 i0 t1 i1:Uo) (f0 f1:List Uo) (S5:W5) (pos:Pos) (it acc:Ti) (env:Env):
  Yp (.ListComp elt [⟨t0,i0,f0,0⟩,⟨t1,i1,f1,0⟩] S5 pos) 1 it acc env=l7 t1 i1 f1 it env (do let _ <-call (.builtin "list.append") [acc,<-eval elt env]) (again (.compLoop (.ListComp elt [⟨t0,i0,f0,0⟩,⟨t1,i1,f1,0⟩] S5 pos) 1 it acc env)):=by rfl
section
variable {X:Cx}{c:C}
theorem F0 (own:List Str) (cap:List Nat){elt t0 i0 t1 i1:Uo}{f0 f1:List Uo}{S5:W5}{pos:Pos}{gi0 gi1:G (List D)}{gt0 gt1:GT}{gts0 gts1:G Bool}{ge:G R}(hi:vV X c t0 i0 gi0)
  (hbody:∀(cl:List (Str×T3)) (C:T3) (s:Tj) (H:Hp) (fp:List T3),dD X.env.cells S5.names []=some cl->o8 (cR X own cap S5 cl C s H fp) c t0 gt0/\o7 (cR X own cap S5 cl C s H fp) c f0 gts0/\yx (cR X own cap S5 cl C s H fp) c t1 i1 gi1/\o8 (cR X own cap S5 cl C s H fp) c t1 gt1/\o7 (cR X own cap S5 cl C s H fp) c f1 gts1/\QD (cR X own cap S5 cl C s H fp) c elt ge)
  (a:Az X S5 cap i0:=by exact tP rfl) (hs1:∀(en:Env) x,U7 i1 en x=pure x:=by intro _ _;rfl):qe X c (.ListComp elt [⟨t0,i0,f0,0⟩,⟨t1,i1,f1,0⟩] S5 pos) (pB own.length cap gi0 gt0 gts0 gi1 gt1 gts1 ge):=by
 refine ⟨_,?_,rfl,λ_=>rfl⟩;refine nC (e:=.ListComp elt [⟨t0,i0,f0,0⟩,⟨t1,i1,f1,0⟩] S5 pos) (ob:={cls:=.type "list",dict:=none,data:=.seq ([]:List Ti).toArray}) (o0:=λ_=>.lst []) (Acc:=BL c) (N:=1000 * 1) (lim:=10000) (m:=λp env=>sC (.ListComp elt [⟨t0,i0,f0,0⟩,⟨t1,i1,f1,0⟩] S5 pos) i1 (.ref p) env) own cap rfl hi.h
  (λs Q E q=>Ui q) (λh H=>⟨Uc _,[],0,.nil,TH _ rfl⟩) (λp=>sq) (λp J H _ h1 h2=>⟨[],h1,h2,.nil⟩) (by decide) (λit p env=>Cq (Ni ..)) (λit acc env R s h0 h=>Z1 h0 h) (λys z q=>by cases q)
  (fun {p J H J' H' ys r} hp e ⟨us,h1,h2,h3⟩ q=>by cases q;exact ⟨J',e,⟨p,us,rfl,h1,h2,hp,h3⟩⟩) (λcl C s H fp hcc=>?_) a
 obtain ⟨b1,b2,b3,b4,b5,b6⟩:=hbody cl C s H fp hcc;exact ⟨b1.h,b2.h,λp J2 H2 hp2 hp0=>AK sq a.hcalm (λ_ _ f=>f) (λx=>hs1 _ x) (λit R s h0 h=>Nb h0 h) (λit=>Cq (Nj ..)) b3.h b4.h b5.h (AJ (λ_ _ f=>f) hp2 hp0 b6.h)⟩
end
noncomputable def CG:Ti->Option V
 | .int i _=>some (.int i)
 | .ref a=>some (.ref a)
 | _=>none
noncomputable def kE:List Ti->Option (List V)
 | []=>some []
 | u::us=>match CG u,kE us with
  | some v,some vs=>some (v::vs)
  | _,_=>none
open Classical in
noncomputable def k_ (h:Vd):Hp:=λa=>match h.get? a with
 | some o=>if o.cls=.type "tuple" then (match o.data with
  | .seq S7 _=>(kE S7.toList).map .tup
  | _=>none) else none
 | none=>none
theorem Hh (h:CG u=some v):RelV v u:=by
 cases u with
 | int i t=>cases h;exact ⟨t,rfl⟩
 | ref a=>cases h;exact rfl
 | _=>cases h
theorem wO:∀{us:List Ti}{vs:List V},kE us=some vs->Vals vs us
 | [],vs,h=>by cases h;exact .nil
 | u::us,vs,h=>by
  unfold kE at h;cases q:CG u with
  | none=>rw [q] at h;cases h
  | some v=>
   cases q2:kE us with
   | none=>rw [q,q2] at h;cases h
   | some ws=>rw [q,q2] at h;cases h;exact .cons (Hh q) (wO q2)
theorem iN {h:Vd}(q:k_ h a=some o):∃vs ob S7 n,o=.tup vs/\h.get? a=some ob/\ob.cls=.type "tuple"/\ob.data=.seq S7 n/\Vals vs S7.toList:=by
 unfold k_ at q;split at q
 ·rename_i ob hob;split at q
  ·rename_i hc;split at q
   ·rename_i S7 n hd;cases z:kE S7.toList with
    | none=>rw [z] at q;cases q
    | some vs=>rw [z] at q;cases q;exact ⟨vs,ob,S7,n,rfl,hob,hc,hd,wO z⟩
   ·cases q
  ·cases q
 ·cases q
theorem KA {h:Vd}{S7:List Ti}(p:h.IsTuple a S7.toArray) (q:kE S7=some vs):k_ h a=some (.tup vs):=by obtain ⟨o,ho,hc,n,hd⟩:=p;unfold k_;rw [ho];simp only [hc,if_true,hd];rw [q];rfl
theorem pJ {s:Tj}:HF [] (k_ s.heap) s:=by
 refine ⟨λa xs h=>?_,λa xs h=>?_,λa h=>?_,λa ep Td h=>?_⟩
 ·rcases h with (h | ⟨o,h⟩) | ⟨o,S7,n,h,_⟩
  ·obtain ⟨vs,ob,S7,n,e,h1,h2,h3,h4⟩:=iN h;cases e;exact ⟨S7.toList,h4,ob,h1,h2,n,by rw [h3]⟩
  ·obtain ⟨vs,ob,S7,n,e,_⟩:=iN h;cases e
  ·cases h
 ·rcases h with (h | ⟨o,h⟩) | ⟨o,S7,n,h,_⟩
  ·obtain ⟨vs,ob,S7,n,e,_⟩:=iN h;cases e
  ·obtain ⟨vs,ob,S7,n,e,_⟩:=iN h;cases e
  ·cases h
 ·obtain ⟨vs,ob,S7,n,e,_⟩:=iN h;cases e
 ·obtain ⟨vs,ob,S7,n,e,_⟩:=iN h;cases e
theorem zL {K:Tg}{J:Hp}:∀{ds:List D}{vs:List V}{us:List Ti},areKeys ds=true->aJ K J ds vs->Vals vs us->kE us=some vs
 | _,_,_,_,.nil,.nil=>rfl
 | d::ds,v::vs,u::us,h,.cons r rs,.cons q qs=>by
  unfold areKeys at h;rw [Tt] at h;have ih:=zL h.2 rs qs;have e:CG u=some v:=by
   cases d with
   | int i=>cases r;obtain ⟨t,rfl⟩:=q;rfl
   | tup xs=>cases r;cases q;rfl
   | _=>cases h.1
  unfold kE;rw [e,ih]
mutual
theorem jG {K:Tg}{J:Hp}{s:Tj}(F:HF K J s):∀{d:D}{v:V},isKey d=true->Rep K J d v->Rep [] (k_ s.heap) d v
 | .int i,_,_,.int _=>.int i
 | .tup ds,_,hk,.tup (a:=a) (vs:=vs) h hs=>by obtain ⟨S7,r,p⟩:=F.t _ _ h;exact .tup (.inl (.inl (KA p (zL hk hs r)))) (zM F hk hs)
 | .non,_,hk,_=>nomatch hk
 | .bl _,_,hk,_=>nomatch hk
 | .str _,_,hk,_=>nomatch hk
 | .lst _,_,hk,_=>nomatch hk
 | .emp,_,hk,_=>nomatch hk
 | .exn _ _ _,_,hk,_=>nomatch hk
 | .dct _ _,_,hk,_=>nomatch hk
theorem zM {K:Tg}{J:Hp}{s:Tj}(F:HF K J s):∀{ds:List D}{vs:List V},areKeys ds=true->aJ K J ds vs->aJ [] (k_ s.heap) ds vs
 | [],_,_,.nil=>.nil
 | d::ds,_,h,.cons r rs=>by unfold areKeys at h;rw [Tt] at h;exact .cons (jG F h.1 r) (zM F h.2 rs)
end
theorem E1 {h h':Vd}{o:Obj} {es ep}(ho:h.get? d=some o) (hd:o.data=.dict es ep) (sb:Vu d h h'):aS (k_ h) (k_ h'):=λa x q=>by
 obtain ⟨vs,ob,S7,n,rfl,h1,h2,h3,h4⟩:=iN q;have hne:a≠d:=by rintro rfl;rw [ho] at h1;cases h1;rw [hd] at h3;cases h3
 unfold k_ at q ⊢;rw [sb.2 a hne];exact q
def KD:Type:={d:D // isKey d=true/\dep d<=8}
noncomputable instance:DecidableEq KD:=λa b=>adt (a=b)
def CH (A:Um):Prop:=A.units + 16 < Vm
noncomputable def mw (prog:TU) (w:Uk):HeapKind prog w KD where
 is:=λh k a=>Rep [] (k_ h) k.1 (.ref a)
 hash:=λk=>bT k.1
 draws:=λk=>kr k.1
 room:=CH
 inj:=fun {h a x y} hx hy=>ZM (Rep.inj (s:=({heap:=h}:Tj)) pJ hx hy (by have:=x.2.2;omega) (by have:=y.2.2;omega))
 keeps:=λhx ho hd sb=>Rep.mono (E1 ho hd sb) hx
 pyHash:=fun {A E s k a Q} hu hx q=>vM k.1 (.ref a) (.ref a) A s pJ k.2.1 hx rfl (by have:=k.2.2;unfold CH at hu;omega) E s Q pJ q
 eqBool:=fun {A E s x y a b Q} hu hx hy q=>by
  have h:=mJ (s:=s) pJ A hx hy rfl rfl (u:=.ref a) (u':=.ref b) (by have:=x.2.2;unfold CH at hu;omega) (by have:=x.2.2;omega) (by have:=y.2.2;omega);refine h _ _ _ _ ?_;have e:aZ x.1 y.1=decide (x=y):=by rw [Uw,vh x.2.1 y.2.1,decide_eq_true_eq];exact ⟨λz=>ZM z,λz=>congrArg Subtype.val z⟩
  rw [e];exact q
 quiet:=fun {A E s k a Q} hx q=>ng 8 pJ ⟨k.1,.ref a,k.2.1,k.2.2,hx,rfl⟩ q
noncomputable def gq:List D->List D->D->Option D
 | k::ks,v::vs,x=>if aZ k x=true then some v else gq ks vs x
 | _,_,_=>none
section
variable {K:Tg}{J:Hp}{s:Tj}{P:TU}{w:Uk}
theorem AV (F:HF K J s):∀{ks:List D}{us ws:List V}{es:List Zp},areKeys ks=true->(∀k∈ks,∃xs,k=.tup xs)->deps ks<=8->aJ K J ks us->ws.length=us.length->Zn yl ((bZ ks).zip (us.zip ws)) es->
  ∃xs:List (KD×T3×Ti),es=xs.map (acQ (mw P w))/\xs.map (λx=>x.1.1)=ks/\(∀x∈xs,(mw P w).is s.heap x.1 x.2.1)/\Vals ws (xs.map λx=>x.2.2)/\Vals us (xs.map λx=>Ww x.2.1)
 | _,_,[],_,_,_,_,.nil,_,h=>by cases h;exact ⟨[],rfl,rfl,λ_ h=>(nomatch h),.nil,.nil⟩
 | k::ks,u::us,v::ws,es,hk,ht,hd,.cons r rs,hl,h=>by
  unfold areKeys at hk;rw [Tt] at hk;unfold deps at hd;have h:Zn yl ((bT k,u,v)::(bZ ks).zip (us.zip ws)) es:=h;cases h with
  | @cons _ e _ es' h1 h2=>
   obtain ⟨xs,e1,e2,e3,e4,e5⟩:=AV F hk.2 (λk hk=>ht k (Tq _ hk)) (by omega) rs (by simpa using hl) h2;obtain ⟨xs',rfl⟩:=ht k Tu;obtain ⟨q1,q2,q3⟩:=h1;obtain ⟨eh,ek,ev⟩:=e;cases r with
   | tup t1 t2=>
    rename_i a vs;have q2:ek=.ref a:=q2;have q1:eh=bT (.tup xs'):=q1;subst q2;subst q1;refine ⟨(⟨.tup xs',hk.1,by omega⟩,a,ev)::xs,by rw [e1];rfl,by rw [TV,e2],λx hx=>?_,.cons q3 e4,.cons rfl e5⟩
    (rcases TZ.mp hx with rfl | hx)
    ·exact jG F hk.1 (.tup t1 t2)
    ·exact e3 x hx
 | [],us,v::ws,_,_,_,_,rs,hl,_=>by cases rs;cases hl
 | k::ks,us,[],_,_,_,_,rs,hl,_=>by cases rs;cases hl
theorem GG {xs:List (KD×T3×Ti)}{ks:List D}(e:xs.map (λx=>x.1.1)=ks) (nd:ks.Nodup):(xs.map (·.1)).Nodup:=by
 rw [<-e] at nd;have this:((xs.map (·.1)).map (λk:KD=>k.1)).Nodup:=by rw [Uj];exact nd
 exact adK (λk:KD=>k.1) (λa b h e=>h (congrArg (λk:KD=>k.1) e)) this
theorem tH:∀{xs:List (KD×T3×Ti)}{ks vs:List D}{ws:List V}(k:KD),xs.map (λx=>x.1.1)=ks->aJ K J vs ws->Vals ws (xs.map λx=>x.2.2)->
  (∀d,gq ks vs k.1=some d->∃p v,adu xs k=some p/\RelV v p.2/\Rep K J d v)/\(gq ks vs k.1=none->adu xs k=none)
 | [],_,vs,ws,k,e,rs,rv=>by subst e;exact ⟨λd h=>(nomatch h),λ_=>rfl⟩
 | x::xs,_,_,_,k,e,.cons r rs,.cons q rv=>by
  subst e;obtain ⟨i1,i2⟩:=tH (xs:=xs) k rfl rs rv;rw [TV];unfold gq;by_cases c:x.1=k
  ·have:aZ x.1.1 k.1=true:=by rw [c];exact fk _
   rw [if_pos this];have ek:adu (x::xs) k=some x.2:=by unfold adu;rw [List.find?_cons_of_pos (by simpa using c)];rfl
   exact ⟨λd h=>by cases h;exact ⟨x.2,_,ek,q,r⟩,λh=>nomatch h⟩
  ·have:¬aZ x.1.1 k.1=true:=λh=>c (ZM ((vh x.1.2.1 k.2.1).mp h));rw [if_neg this];have ek:adu (x::xs) k=adu xs k:=by unfold adu;rw [List.find?_cons_of_neg (by simpa using c)]
   rw [ek];exact ⟨i1,i2⟩
theorem nE {H:Hp}(F:HF K J s) (F':HF K H s) (h:dI K J H a ks vs):∃(xs:List (KD×T3×Ti)) (us ws:List V),s.heap.DictOfH (mw P w) a xs/\xs.map (λx=>x.1.1)=ks/\aJ K J ks us/\aJ K J vs ws/\Vals ws (xs.map λx=>x.2.2)/\Vals us (xs.map λx=>Ww x.2.1)/\(a == V8)=false:=by obtain ⟨us,ws,ep,h,hk,hv,ok,hs⟩:=h;obtain ⟨o,es,h1,h2,h3,h4⟩:=F'.d _ _ _ h;obtain ⟨xs,e1,e2,e3,e4,e5⟩:=AV (P:=P) (w:=w) F ok.key ok.tp ok.dp hk (by rw [<-hv.length,<-hk.length,hs.2]) h4;exact ⟨xs,us,ws,⟨o,es,ep,h1,h2,h3,e1,e3,GG e2 ok.nd⟩,e2,hk,hv,e4,e5,hs.1⟩
end
noncomputable def c6:D->Bool
 | .tup xs=>areKeys xs && decide (deps xs + 1<=8)
 | _=>false
theorem g8 (h:c6 k=true):∃xs,k=.tup xs/\isKey k=true/\dep k<=8:=by
 cases k with
 | tup xs=>
  unfold c6 at h;rw [Tt] at h;exact ⟨xs,rfl,h.1,of_decide_eq_true h.2⟩
 | _=>cases h
noncomputable def oz:R->Option (List D×List D)
 | .d (.dct ks vs)=>some (ks,vs)
 | .mo ks vs=>some (ks,vs)
 | .mb ks vs=>some (ks,vs)
 | .mf ks vs=>some (ks,vs)
 | _=>none
noncomputable def fm (x y:R):M R:=match oz x,y with
 | some z,.d k=>if c6 k=true then (match gq z.1 z.2 k with
  | some d=>.ok (.d d)
  | none=>.bad) else .bad
 | _,_=>.bad
section
variable {X:Cx}{c:C}{a b:Uo}{ga gb:G R}{pos:Pos}
theorem RR.dk {He J H:Hp}(hp:HI c J H):∀{r:R}{v:V}{z:List D×List D},RR c He J H r v->oz r=some z->∃a,v=.ref a/\dI c.K J H a z.1 z.2
 | .d (.dct ks vs),v,z,h,e=>by
  cases e;cases h with
  | dct h1 h2 h3 h4 h5=>exact ⟨_,rfl,_,_,_,hp.sub _ _ h1,h2,h3,h4,h5⟩
 | .mo ks vs,v,z,⟨a,h1,h2,_⟩,e=>by cases e;exact ⟨a,h1,h2⟩
 | .mf ks vs,v,z,⟨a,h1,h2,_⟩,e=>by cases e;exact ⟨a,h1,h2⟩
 | .mb ks vs,v,z,⟨a,h1,h2⟩,e=>by cases e;exact ⟨a,h1,h2.mono (aS.refl _) hp.ent⟩
 | .d .non,_,_,_,e=>nomatch e
 | .d (.bl _),_,_,_,e=>nomatch e
 | .d (.int _),_,_,_,e=>nomatch e
 | .d (.str _),_,_,_,e=>nomatch e
 | .d (.tup _),_,_,_,e=>nomatch e
 | .d (.lst _),_,_,_,e=>nomatch e
 | .d .emp,_,_,_,e=>nomatch e
 | .d (.exn _ _ _),_,_,_,e=>nomatch e
 | .l _ _,_,_,_,e=>nomatch e
theorem L5 (hu:X.A.units + 64 < Vm):oU X (λx y H Q=>∃J p ks vs k d,aS J H/\x=.ref p/\dI X.K J H p ks vs/\Rep X.K J k y/\c6 k=true/\gq ks vs k=some d/\∀v,Rep X.K J d v->Q v H):=by
 intro value slice S6 s σ H x y v u Q I rx ry h hs;obtain ⟨J,p,ks,vs,k,d,sm,rfl,hd,hk,ok,lk,q⟩:=h;have F:HF X.K J s:=HF.of (c:=⟨X.K,H,H,λ_=>True⟩) I sm;obtain ⟨kx,rfl,k1,k2⟩:=g8 ok;obtain ⟨r,rfl⟩:∃r,y=.ref r:=by cases hk;exact ⟨_,rfl⟩
 cases rx;cases ry;obtain ⟨xs,us,ws,hm,e2,_,hv,e4,_,hsm⟩:=nE (P:=X.prog) (w:=X.w) F (fN I) hd;obtain ⟨pp,v,ea,rv,rd⟩:=(tH ⟨.tup kx,k1,k2⟩ e2 hv e4).1 d lk;have room:(mw X.prog X.w).room X.A.in1:=by show X.A.units + 1 + 16 < Vm;omega
 exact X4 (x:=pp.2) hm.typeIs slot_dict_getitem.lookup (wpAny_getItem_heap (Q:=λr s'=>r=pp.2/\EP X S6 σ Q r s') room (jG F k1 hk) hm ea ⟨rfl,v,H,I.tok _,rv,q v rd⟩) hs
theorem fS (hu:X.A.units + 64 < Vm) (ha:QD X c a ga) (hb:QD X c b gb) (hK:X.K=c.K:=by rfl) (hs:qm b:=by exact λ_ _=>rfl):QD X c (.Subscript a b pos) (g2 fm ga gb):=have ha:=ha.h;have hb:=hb.h;⟨Iu (L5 hu) (by
 intro He He' J H x y u v Q hp rx ry w;unfold fm at w;split at w
 ·rename_i hz;obtain ⟨p,rfl,hd⟩:=rx.dk hp hz;split at w
  ·rename_i ok;split at w
   ·rename_i d hl;exact ⟨J,p,_,_,_,d,hp.sub,rfl,by rw [hK];exact hd,by rw [hK];exact ry,ok,hl,λv rd=>w v J H (Ext.refl hp.sub) (by rw [hK] at rd;exact rd)⟩
   ·exact w.elim
  ·exact w.elim
 ·exact w.elim) ha hb hs⟩
end
noncomputable def vA:List D->List D->D->D->List D
 | k::ks,v::vs,x,d=>(if aZ k x=true then d else v)::vA ks vs x d
 | _,vs,_,_=>vs
def dput (z:List D×List D) (k d:D):List D×List D:=if (gq z.1 z.2 k).isSome=true then (z.1,vA z.1 z.2 k d) else (z.1++[k],z.2++[d])
noncomputable def g_ (ys:List D):List D×List D:=ys.foldl (λz y=>match y with
 | .tup [k,d]=>dput z k d
 | _=>z) ([],[])
theorem nD (ys:List D) (k d:D):g_ (ys++[.tup [k,d]])=dput (g_ ys) k d:=by unfold g_;rw [List.foldl_append];rfl
inductive cK (K:Tg) (J:Hp):List (KD×T3×Ti)->List D->List V->List D->List V->Prop
 | nil:cK K J [] [] [] [] []
 | cons {x:KD×T3×Ti}{xs:List (KD×T3×Ti)}{ks vs:List D}{us ws:List V}{d:D}{v:V}:RelV v x.2.2->Rep K J d v->cK K J xs ks us vs ws->cK K J (x::xs) (x.1.1::ks) (.ref x.2.1::us) (d::vs) (v::ws)
section
variable {K:Tg}{J:Hp}{P:TU}{w:Uk}
theorem cK.of:∀{xs:List (KD×T3×Ti)}{us:List V}{vs:List D}{ws:List V},aJ K J vs ws->Vals ws (xs.map λx=>x.2.2)->Vals us (xs.map λx=>Ww x.2.1)->cK K J xs (xs.map λx=>x.1.1) us vs ws
 | [],_,_,_,.nil,.nil,.nil=>.nil
 | x::xs,u::us,_,_,.cons r rs,.cons q qs,.cons p ps=>by
  have:u=.ref x.2.1:=by
   cases u with
   | ref a=>cases p;rfl
   | int i=>obtain ⟨t,h⟩:=p;cases h
   | str i=>obtain ⟨t,h⟩:=p;cases h
   | byt i=>obtain ⟨t,h⟩:=p;cases h
   | flt i=>obtain ⟨t,h⟩:=p;cases h
   | non=>cases p
   | bl b=>cases p
   | ty n=>cases p
  subst this;exact .cons q r (cK.of rs qs ps)
theorem cK.put {k:KD}(rv:RelV v u) (rd:Rep K J d v):∀{xs:List (KD×T3×Ti)}{ks vs:List D}{us ws:List V},cK K J xs ks us vs ws->∃ws',cK K J (xs.map (putAt k u)) ks us (vA ks vs k.1 d) ws'
 | _,_,_,_,_,.nil=>⟨[],.nil⟩
 | x::xs,_,_,_,_,.cons q r t=>by
  obtain ⟨ws',ih⟩:=cK.put rv rd t;rw [TV];unfold vA;by_cases c:x.1=k
  ·have:aZ x.1.1 k.1=true:=by rw [c];exact fk _
   rw [if_pos this];have e:putAt k u x=(x.1,x.2.1,u):=by unfold putAt;rw [if_pos c]
   rw [e];exact ⟨v::ws',.cons (x:=(x.1,x.2.1,u)) rv rd ih⟩
  ·have:¬aZ x.1.1 k.1=true:=λh=>c (ZM ((vh x.1.2.1 k.2.1).mp h));rw [if_neg this];have e:putAt k u x=x:=by unfold putAt;rw [if_neg c]
   rw [e];exact ⟨_,.cons q r ih⟩
theorem cK.snoc {k:KD}{a:T3}{u:Ti}{d:D}{v:V}(rv:RelV v u) (rd:Rep K J d v):∀{xs:List (KD×T3×Ti)}{ks vs:List D}{us ws:List V},cK K J xs ks us vs ws->cK K J (xs++[(k,a,u)]) (ks++[k.1]) (us++[.ref a]) (vs++[d]) (ws++[v])
 | _,_,_,_,_,.nil=>.cons (x:=(k,a,u)) rv rd .nil
 | _,_,_,_,_,.cons q r t=>.cons q r (cK.snoc rv rd t)
theorem cK.ents:∀{xs:List (KD×T3×Ti)}{ks vs:List D}{us ws:List V},cK K J xs ks us vs ws->Zn yl ((bZ ks).zip (us.zip ws)) (xs.map (acQ (mw P w)))
 | _,_,_,_,_,.nil=>.nil
 | _,_,_,_,_,.cons q r t=>.cons ⟨rfl,rfl,q⟩ t.ents
theorem cK.reps:∀{xs:List (KD×T3×Ti)}{ks vs:List D}{us ws:List V},cK K J xs ks us vs ws->aJ K J vs ws
 | _,_,_,_,_,.nil=>.nil
 | _,_,_,_,_,.cons q r t=>.cons r t.reps
theorem cK.keys:∀{xs:List (KD×T3×Ti)}{ks vs:List D}{us ws:List V},cK K J xs ks us vs ws->xs.map (λx=>x.1.1)=ks
 | _,_,_,_,_,.nil=>rfl
 | _,_,_,_,_,.cons q r t=>by rw [TV,t.keys]
theorem cK.len:∀{xs:List (KD×T3×Ti)}{ks vs:List D}{us ws:List V},cK K J xs ks us vs ws->ks.length=vs.length
 | _,_,_,_,_,.nil=>rfl
 | _,_,_,_,_,.cons q r t=>by rw [UB,UB,t.len]
theorem qZ:∀{xs ys:List D},areKeys (xs++ys)=(areKeys xs && areKeys ys)
 | [],_=>rfl
 | x::xs,ys=>by show (isKey x && areKeys (xs++ys))=((isKey x && areKeys xs) && areKeys ys);rw [qZ,Bool.and_assoc]
theorem yR:∀{xs ys:List D}{n:Nat},deps xs<=n->deps ys<=n->deps (xs++ys)<=n
 | [],_,_,_,h=>h
 | x::xs,ys,n,h1,h2=>by unfold deps at h1;have:=yR (xs:=xs) (ys:=ys) (n:=n) (by omega) h2;show max (dep x) (deps (xs++ys))<=n;omega
theorem aJ.snoc (h:aJ K J ds vs) (r:Rep K J d v):aJ K J (ds++[d]) (vs++[v]):=h.append (.cons r .nil)
end
section
variable {X:Cx}
theorem Bh {s:Tj}{H J:Hp}(I:Inv X S6 σ H s) (sub:aS J H){ks vs:List D}(h:dI X.K J H p ks vs):
  ∃xs:List (KD×T3×Ti),s.heap.DictOfH (mw X.prog X.w) p xs/\xs.length=ks.length/\∀{kxs:List D}{a:T3}{d:D}{v:V}{u:Ti}(k1:isKey (.tup kxs)=true) (k2:dep (.tup kxs)<=8),Rep X.K J (.tup kxs) (.ref a)->Rep X.K J d v->RelV v u->
   ∀(h':Vd) (tk:Nat),h'.DictOfH (mw X.prog X.w) p (storedH xs ⟨.tup kxs,k1,k2⟩ a u)->Vu p s.heap h'->
    ∃o,Inv X S6 σ (upd H p o) {s with heap:=h',toks:=tk}/\dI X.K J (upd H p o) p (dput (ks,vs) (.tup kxs) d).1 (dput (ks,vs) (.tup kxs) d).2/\(dput (ks,vs) (.tup kxs) d).1.length<=ks.length + 1:=by
 have F:HF X.K J s:=HF.of (c:=⟨X.K,H,H,λ_=>True⟩) I sub;obtain ⟨xs,us,ws,hm,q2,h3,h4,q4,q5,h7⟩:=nE (P:=X.prog) (w:=X.w) F (fN I) h;obtain ⟨_,_,_,p9,_,_,h5,_⟩:=h;have rows:cK X.K J xs ks us vs ws:=by have:=cK.of h4 q4 q5;rw [q2] at this;exact this
 refine ⟨xs,hm,by rw [<-q2,Tp],fun {kxs a d v u} k1 k2 rk rd r9 h' tk hm' sb=>?_⟩;obtain ⟨o',es',ep',g1',g2'',g3',g4',g5',g6'⟩:=hm';obtain ⟨l1,l2⟩:=tH (K:=X.K) (J:=J) ⟨.tup kxs,k1,k2⟩ q2 h4 q4;have key:∃us' ws',cK X.K J (storedH xs ⟨.tup kxs,k1,k2⟩ a u) (dput (ks,vs) (.tup kxs) d).1 us' (dput (ks,vs) (.tup kxs) d).2 ws'/\aJ X.K J (dput (ks,vs) (.tup kxs) d).1 us'/\areKeys (dput (ks,vs) (.tup kxs) d).1=true/\deps (dput (ks,vs) (.tup kxs) d).1<=8/\(∀k∈(dput (ks,vs) (.tup kxs) d).1,∃xs,k=.tup xs)/\(dput (ks,vs) (.tup kxs) d).1.length<=ks.length + 1:=by
  unfold dput;cases lk:gq ks vs (.tup kxs) with
  | some z=>
   obtain ⟨pp,v,ea,_,_⟩:=l1 z lk;rw [storedH_old ea];obtain ⟨ws',t⟩:=cK.put (k:=⟨.tup kxs,k1,k2⟩) r9 rd rows;exact ⟨us,ws',t,h3,h5.key,h5.dp,h5.tp,Yc _⟩
  | none=>
   rw [storedH_new (l2 lk)];refine ⟨us++[.ref a],ws++[v],cK.snoc (k:=⟨.tup kxs,k1,k2⟩) r9 rd rows,h3.snoc rk,?_,yR h5.dp (by show max (dep (.tup kxs)) 0<=8;omega),λk hk=>?_,by simp⟩
   ·show areKeys (ks++[.tup kxs])=true;rw [qZ,h5.key];show (true && (isKey (.tup kxs) && true))=true;rw [k1];rfl
   ·rcases Ub.mp hk with h | h
    ·exact h5.tp k h
    ·exact ⟨kxs,TL.mp h⟩
 obtain ⟨us',ws',t,tk',kk,kd,kt,kl⟩:=key;have nd':(dput (ks,vs) (.tup kxs) d).1.Nodup:=by rw [<-t.keys];have:((storedH xs ⟨.tup kxs,k1,k2⟩ a u).map (·.1)).Nodup:=g6';have h:=aep (S:=(·≠·)) (λk:KD=>k.1) (λa b (h:a≠b) e=>h (ZM e)) this;rw [Uj] at h;exact h
 refine ⟨iA p ep' ((bZ (dput (ks,vs) (.tup kxs) d).1).zip (us'.zip ws')),I.write (e:=p) (by rw [p9];trivial) (.inl rfl) (λb u hb q=>by rw [sb.2 b hb];exact q) ⟨_,g1'⟩ ⟨⟨o',es',g1',g2'',g3',by rw [g4'];exact t.ents⟩,⟨_,g1'⟩,?_⟩,⟨us',ws',ep',b9,tk',t.reps,⟨kk,nd',kd,kt⟩,h7,t.len⟩,kl⟩;rintro h1 h2 ⟨o,es,a1,a2⟩ e;exact ⟨o,es,e o a1,a2⟩
end
def BK (c:C) (p:T3):Hp->Hp->List D->Prop:=λJ H ys=>dI c.K J H p (g_ ys).1 (g_ ys).2/\J p=none/\(g_ ys).1.length<=ys.length
theorem sf:yi (BK c p):=⟨fun {J H J' H' ys} ⟨h1,h2,h3⟩ e=>⟨h1.mono e.j e.h,e.frz _ h1.ne h2,h3⟩⟩
noncomputable def nt (gk gv:G R):Ev->M (List D×Ev):=λe=>gk e >>= λr=>toD r >>= λk=>gv e >>= λr2=>toD r2 >>= λd=>if c6 k=true then .ok ([.tup [k,d]],e) else .bad
abbrev CB (kx vx:Uo) (p:T3) (env:Env):Sem Unit:=do
 let kv <-eval kx env
 let vv <-holding [kv] (eval vx env)
 W6 {kx.pos with endLine:=vx.pos.endLine,endCol:=vx.pos.endCol}
 holding [kv,vv] (dictSet p kv vv)
section
variable {X:Cx}{c:C}{p:T3}{J2 H2:Hp}{kx vx:Uo}{gk gv:G R}
theorem AL (hu:X.A.units + 64 < Vm) (hK:X.K=c.K) (hx:∀v s,X.xe v s->False) (hp2:H2 p=none) (hp0:c.H0 p=none) (hk:PD X c kx gk) (hv:PD X c vx gv):uS X c p (BK c p) J2 H2 1 (CB kx vx p X.env) (nt gk gv):=by
 intro S6 s σ H J env ys Qf I x2 sr no ⟨h1,h2,h8⟩ hl w;refine Tf (UD (hk _ s σ H (λv H8=>∃J8 k,Ext J H J8 H8/\Rep c.K J8 k v/\cg (gv env >>= λr2=>toD r2 >>= λd=>if c6 k=true then M.ok ([.tup [k,d]],env) else .bad) Qf c.T) I ⟨J,env,sr,aD (aH w) λr wr v J8 H8 e8 r8=>?_⟩) (λu8 s8 ⟨v8,H8,I8,r8,J8,k,e8,rk,w8⟩=>?_) λv s f=>(hx v s f).elim)
 ·obtain ⟨y,q,wr⟩:=i6 wr;obtain ⟨J9,e9,_,ry⟩:=freeze e8 r8 q;exact ⟨J9,y,e9,ry,wr⟩
 refine Tf (Ul (UD (hv _ s8 σ H8 (λv H9=>∃J9 d,Ext J8 H8 J9 H9/\Rep c.K J9 d v/\cg (if c6 k=true then M.ok ([.tup [k,d]],env) else .bad) Qf c.T) I8 ⟨J8,env,sr.ext e8,aD (aH w8) λr wr v J9 H9 e9 r9=>?_⟩) (λu9 s9 ⟨v9,H9,I9,r9,J9,d,e9,rd,w9⟩=>?_) λv s f=>(hx v s f).elim))
 ·obtain ⟨y,q,wr⟩:=i6 wr;obtain ⟨J9',e9',_,ry⟩:=freeze e9 r9 q;exact ⟨J9',y,e9',ry,wr⟩
 refine Tf (WM (Ul ?_));by_cases ok:c6 k=true
 case neg=>rw [if_neg ok] at w9;exact w9.elim
 rw [if_pos ok] at w9;have w9:Qf ([.tup [k,d]],env):=w9;obtain ⟨kxs,rfl,k1,k2⟩:=g8 ok;have ee:=e8.trans e9;have rk9:=rk.mono e9.j;obtain ⟨a,rfl⟩:∃a,v8=.ref a:=by cases rk;exact ⟨_,rfl⟩
 cases r8;have J9p:J9 p=none:=ee.frz _ h1.ne h2;rw [<-hK] at rk9 rd;have h9:=h1.mono ee.j ee.h;rw [<-hK] at h9;obtain ⟨xs,hm,lx,put⟩:=Bh I9 ee.sub h9;refine wpAny_dictSet_heap (knd:=mw X.prog X.w) (k:=⟨.tup kxs,k1,k2⟩) (show X.A.units + 16 < Vm by omega) (jG (HF.of (c:=⟨X.K,H9,H9,λ_=>True⟩) I9 ee.sub) k1 rk9) hm (λh' hm' sb=>?_) (by rw [lx];omega);obtain ⟨o,W,hd,kl⟩:=put k1 k2 rk9 rd r9 h' _ hm' sb;refine ⟨σ,_,J9,([.tup [.tup kxs,d]],env),W,(x2.trans ee).other hp2 J9p,ee.j,(sr.ext ee).other J9p hp0 no,no,⟨by rw [nD,<-hK];exact hd,J9p,?_⟩,Tv _,w9⟩;rw [nD,TQ];exact T6 kl (Nat.add_le_add_right h8 1)
end
noncomputable def qz (n:Nat) (cap:List Nat) (gi0:G (List D)) (gt0:GT) (gts0:G Bool) (gi1:G (List D)) (gt1:GT) (gts1:G Bool) (gk gv:G R):G R:=iD 10000 n cap gi0 gt0 gts0 (je gi1 gt1 gts1 (nt gk gv)) (λys=>.ok (.d (.dct (g_ ys).1 (g_ ys).2)))
theorem KY (kx vx t0 i0 t1 i1:Uo) (f0 f1:List Uo) (S5:W5) (pos:Pos) (it acc:Ti) (env:Env):
  Yp (.DictComp kx vx [⟨t0,i0,f0,0⟩,⟨t1,i1,f1,0⟩] S5 pos) 0 it acc env=(do
   W6 i0.pos
   match <-W7 it with
   | none=>pure (.done .next)
   | some v=>
    V3 t0 it v
    assign t0 env v
    let mut ok:=true
    for c in f0 do
     if ok then ok <-aaH c env (eval c env)
    if ok then
     let x <-eval i1 env
     W6 i1.pos
     let x <-U7 i1 env x
     let _ <-runOwn (.compStart (.DictComp kx vx [⟨t0,i0,f0,0⟩,⟨t1,i1,f1,0⟩] S5 pos) 1 (<-holding [x] (Zd x)) acc env) env
    again (.compLoop (.DictComp kx vx [⟨t0,i0,f0,0⟩,⟨t1,i1,f1,0⟩] S5 pos) 0 it acc env)):=by rfl
theorem Ng (kx vx t0 i0 t1 i1:Uo) (f0 f1:List Uo) (S5:W5) (pos:Pos) (it acc:Ti) (env:Env):
  Yp (.DictComp kx vx [⟨t0,i0,f0,0⟩,⟨t1,i1,f1,0⟩] S5 pos) 0 it acc env=l7 t0 i0 f0 it env (sC (.DictComp kx vx [⟨t0,i0,f0,0⟩,⟨t1,i1,f1,0⟩] S5 pos) i1 acc env) (again (.compLoop (.DictComp kx vx [⟨t0,i0,f0,0⟩,⟨t1,i1,f1,0⟩] S5 pos) 0 it acc env)):=by
 rw [KY];refine bind_congr λ_=>bind_congr λr=>?_;cases r with
 | none=>rfl
 | some v=>
  refine bind_congr λ_=>bind_congr λ_=>bind_congr λok=>?_;cases ok with
  | false=>rfl
  | true=>simp only [sC,bind_assoc,pure_bind,if_true]
theorem Nh (kx vx t0 i0 t1 i1:Uo) (f0 f1:List Uo) (S5:W5) (pos:Pos) (it:Ti) (p:T3) (env:Env):
  Yp (.DictComp kx vx [⟨t0,i0,f0,0⟩,⟨t1,i1,f1,0⟩] S5 pos) 1 it (.ref p) env=l7 t1 i1 f1 it env (CB kx vx p env) (again (.compLoop (.DictComp kx vx [⟨t0,i0,f0,0⟩,⟨t1,i1,f1,0⟩] S5 pos) 1 it (.ref p) env)):=by rfl
section
variable {X:Cx}{c:C}
theorem Lw (hu:X.A.units + 64 < Vm) (own:List Str) (cap:List Nat){kx vx t0 i0 t1 i1:Uo}{f0 f1:List Uo}{S5:W5}{pos:Pos}{gi0 gi1:G (List D)}{gt0 gt1:GT}{gts0 gts1:G Bool}{gk gv:G R}(hi:vV X c t0 i0 gi0)
  (hbody:∀(cl:List (Str×T3)) (C:T3) (s:Tj) (H:Hp) (fp:List T3),dD X.env.cells S5.names []=some cl->o8 (cR X own cap S5 cl C s H fp) c t0 gt0/\o7 (cR X own cap S5 cl C s H fp) c f0 gts0/\yx (cR X own cap S5 cl C s H fp) c t1 i1 gi1/\o8 (cR X own cap S5 cl C s H fp) c t1 gt1/\o7 (cR X own cap S5 cl C s H fp) c f1 gts1/\QD (cR X own cap S5 cl C s H fp) c kx gk/\QD (cR X own cap S5 cl C s H fp) c vx gv)
  (a:Az X S5 cap i0:=by exact tP rfl) (hs1:∀(en:Env) x,U7 i1 en x=pure x:=by intro _ _;rfl) (hK:X.K=c.K:=by rfl):qe X c (.DictComp kx vx [⟨t0,i0,f0,0⟩,⟨t1,i1,f1,0⟩] S5 pos) (qz own.length cap gi0 gt0 gts0 gi1 gt1 gts1 gk gv):=by
 refine ⟨_,?_,rfl,λ_=>rfl⟩;refine nC (e:=.DictComp kx vx [⟨t0,i0,f0,0⟩,⟨t1,i1,f1,0⟩] S5 pos) (ob:={cls:=.type "dict",data:=.dict #[]}) (o0:=λa=>iA a 0 []) (Acc:=BK c) (N:=1000 * 1) (lim:=10000) (m:=λp env=>sC (.DictComp kx vx [⟨t0,i0,f0,0⟩,⟨t1,i1,f1,0⟩] S5 pos) i1 (.ref p) env) own cap rfl hi.h
  (λs Q E q=>Ui q) (λh H=>⟨⟨_,#[],TH _ rfl,⟨rfl,rfl,rfl⟩,rfl,.nil⟩,⟨_,TH _ rfl⟩,λh1 h2 ⟨o,es,a1,a2⟩ e=>⟨o,es,e o a1,a2⟩⟩) (λp=>sf) (λp J H hsm h1 h2=>⟨⟨[],[],0,h1,.nil,.nil,⟨rfl,WY,Uc _,λ_ h=>(nomatch h)⟩,beq_eq_false_iff_ne.mpr (VG (Ua hsm)),rfl⟩,h2,Tv _⟩) (by decide) (λit p env=>Cp (Ng ..)) (λit acc env R s h0 h=>Z2 h0 h) (λys z q=>by cases q)
  (fun {p J H J' H' ys r} hp e ⟨⟨us,ws,ep,h1,h3,h4,h5,h7⟩,h2,h8⟩ q=>by
   cases q;have s1:aS J' (upd J' p (iA p ep ((bZ (g_ ys).1).zip (us.zip ws)))):=cO h2 _;refine ⟨upd J' p (iA p ep ((bZ (g_ ys).1).zip (us.zip ws))),⟨e.h,e.j.trans s1,λa o q=>?_,λa ha ja=>?_⟩,.dct b9 (h3.mono s1) (h4.mono s1) h5 h7⟩
   ·by_cases z:a=p
    ·subst z;rw [b9] at q;cases q;exact h1
    ·rw [bA z] at q;exact e.sub _ _ q
   ·have:a≠p:=λz=>ha (z▸hp);rw [bA this];exact e.frz a ha ja) (λcl C s H fp hcc=>?_) a
 obtain ⟨b1,b2,b3,b4,b5,b6,b7⟩:=hbody cl C s H fp hcc;exact ⟨b1.h,b2.h,λp J2 H2 hp2 hp0=>AK sf a.hcalm (λ_ _ f=>f) (λx=>hs1 _ x) (λit R s h0 h=>Na h0 h) (λit=>Cp (Nh ..)) b3.h b4.h b5.h (AL hu hK (λ_ _ f=>f) hp2 hp0 b6.h b7.h)⟩
end
noncomputable def lexLe:List Int->List Int->Bool
 | [],_=>true
 | _::_,[]=>false
 | x::xs,y::ys=>if x=y then lexLe xs ys else decide (x<=y)
theorem kB (x y:Int) (xs ys:List Int):lexLe (x::xs) (y::ys)=if x=y then lexLe xs ys else decide (x<=y):=rfl
theorem oJ:lexLe [] []=true:=rfl
theorem vn (y:Int) (ys:List Int):lexLe [] (y::ys)=true:=rfl
theorem vm (x:Int) (xs:List Int):lexLe (x::xs) []=false:=rfl
theorem Hi (A:Um) (s:Tj) (a:Int) (t:Tok) (c:Int) (u:Tok) (prog:TU) (w:Uk) (E:Ti->Tj->Prop) (Q:Ti->Tj->Prop) (h:Q (.bool (decide (a<=c))) s):
  TX (T5 prog w) A (aaV .LtE (.int a t) (.int c u)) Q E s:=
 (ad4 h:TX (T5 prog w) A (Vi .LtE (.int a t) (.int c u)) Q E s)
section
open PySem.SeqAt
open PySem.AutoSeq1 (wpAny_loadPart')
open PySem.MeetsSeq PySem.MeetsSeq2 PySem.MeetsSeq3
theorem xT (l b:T3) (items Tc:Array Ti) (n n2:Nat) (dd dd2:Option T3) (sl sl2:Array (Option Ti)) (ns ms:List Int) (hi:W_ items.toList ns) (hj:W_ Tc.toList ms):
  Meets (WZ.«tuple.__le__» ⟨[.ref l,.ref b],[]⟩)
   (λ_ R s=>s.heap.get? l=some {cls:=.type "tuple",dict:=dd,data:=.seq items n,slots:=sl}/\s.heap.get? b=some {cls:=.type "tuple",dict:=dd2,data:=.seq Tc n2,slots:=sl2}/\
    R (.ok (.ret (.bool (lexLe ns ms)))) s):=
 .of_wp λprog w A R s h=>by
  obtain ⟨hp,g,d,tk,os⟩:=s;obtain ⟨hl,hb,h⟩:=h;have f2:=XC;have z1:items.size=ns.length:=by rw [<-hi.length];simp
  have z2:Tc.size=ms.length:=by rw [<-hj.length];simp
  wp_walk using V5 hl,V5 hb,Wa _ (λrest b s'=>b.1=none/\s'=⟨hp,g,d,tk,os⟩/\∃(vs ws:List Ti) (ns' ms':List Int),rest=vs.zip ws/\
   W_ vs ns'/\W_ ws ms'/\ns'.length + Tc.size=ms'.length + items.size/\R (.ok (.ret (.bool (lexLe ns' ms')))) ⟨hp,g,d,tk,os⟩) _
  case turn=>
   rintro ⟨y,x⟩ rest b s' ⟨hb',rfl,vs,ws,ns',ms',hz,RZ,hwi,hlen,hR⟩;cases RZ with
   | nil=>rw [List.zip_nil_left] at hz;cases hz
   | cons a t R1=>
    cases hwi with
    | nil=>rw [List.zip_nil_right] at hz;cases hz
    | cons c u R4=>
     rw [XN] at hz;injection hz with hyx hrest
     injection hyx with hy hx
     subst hy hx;rw [kB] at hR;simp only [UB] at hlen;obtain ⟨e,he,hiff⟩:=HT.F3 A.in1 ⟨hp,g,d,tk,os⟩ a t c u;refine Tf (he prog w _ _ ?_);cases e with
     | true=>
      rw [if_pos (hiff.mp rfl)] at hR
      wp_walk
      exact ⟨rfl,rfl,_,_,_,_,hrest,R1,R4,by omega,hR⟩
     | false=>
      rw [if_neg (λq=>absurd (hiff.mpr q) T_)] at hR;have RV:=Hi A.in1 ⟨hp,g,d,tk,os⟩ a t c u prog w
      wp_walk using RV
      exact ⟨_,rfl,by simpa using hR⟩
  case fin=>
   rintro ⟨b1,b2⟩ s' ⟨hb',rfl,vs,ws,ns',ms',hz,RZ,hwi,hlen,hR⟩;simp only at hb';subst hb';have hv:lexLe ns' ms'=decide (items.size<=Tc.size):=by
    cases RZ with
    | nil=>
     cases hwi with
     | nil=>
      simp only [Y7] at hlen;rw [oJ];exact (decide_eq_true (by omega)).symm
     | cons c u hw=>
      simp only [Y7,UB] at hlen;rw [vn];exact (decide_eq_true (by omega)).symm
    | cons a t hv=>
     cases hwi with
     | nil=>
      simp only [Y7,UB] at hlen;rw [vm];exact (decide_eq_false (by omega)).symm
     | cons c u hw=>
      rw [XN] at hz;cases hz
   rw [hv] at hR
   wp_walk
   exact ⟨_,rfl,by simpa [Ye] using hR⟩
  case h=>
   exact ⟨rfl,rfl,items.toList,Tc.toList,ns,ms,rfl,hi,hj,by omega,h⟩
end
section
variable {prog:TU}{w:Uk}{A:Um}{E:Ti->Tj->Prop}{s:Tj}
theorem Cm {items Tc:Array Ti}{Q:Ti->Tj->Prop}(hl:adx s.heap l items) (hb:adx s.heap b Tc) (hi:W_ items.toList ns) (hj:W_ Tc.toList ms)
 (hu:A.units < Vm) (h:Q (.bool (lexLe ns ms)) s):TX (T5 prog w) A (Vi .LtE (.ref l) (.ref b)) Q E s:=by
 obtain ⟨⟨cls,dd,data,sl⟩,ho,hc,n,hd⟩:=id hl;obtain ⟨⟨cls2,dd2,data2,sl2⟩,ho2,hc2,n2,hd2⟩:=id hb;simp only at hc hd hc2 hd2;subst hc hd hc2 hd2;exact ZY (op:=.LtE) ⟨_,ho,rfl⟩ ⟨_,ho2,rfl⟩ PySem.F.slot_tuple_le PySem.F.entry_tuple_le (PySem.F.args_tuple_le_2 _ _) (xT l b items Tc n n2 dd dd2 sl sl2 ns ms hi hj)
  ⟨ho,ho2,show V7 (lexLe ns ms)≠aaC/\Q (.bool (lexLe ns ms)) s from ⟨(λx=>nomatch x),h⟩⟩ hu
end
section
variable {X:Cx}{c:C}{a b e:Uo}{ga gb:G R}{pos pos2:Pos}
theorem Mr (hu:X.A.units < Vm):cS X (Vi .LtE) (λx y H Q=>∃a b ns ms,x=.ref a/\y=.ref b/\cZ X.K H a (ns.map V.int)/\cZ X.K H b (ms.map V.int)/\Q (.bl (lexLe ns ms)) H):=by intro S6 s σ H x y v u Q I rx ry h;obtain ⟨a,b,ns,ms,rfl,rfl,ha,hb,q⟩:=h;cases rx;cases ry;obtain ⟨S7,r1,p1,_⟩:=I.tuple ha;obtain ⟨its2,r2,p2,_⟩:=I.tuple hb;exact Cm p1 p2 (L2.intsAre_of r1:W_ S7.toArray.toList ns) (L2.intsAre_of r2:W_ its2.toArray.toList ms) hu ⟨.bl (lexLe ns ms),H,I,rfl,q⟩
noncomputable def yV:R->R->M R
 | .d (.tup xs),.d (.tup ys)=>match intsOf xs,intsOf ys with
  | some ns,some ms=>.ok (.d (.bl (lexLe ns ms)))
  | _,_=>.bad
 | _,_=>.bad
theorem Kq (hu:X.A.units + 64 < Vm) (ha:QD X c a ga) (hb:QD X c b gb) (hK:X.K=c.K:=by rfl):QB X c (.Compare a [.LtE] [b] pos) (bG (g2 yV ga gb)):=have ha:=ha.h;have hb:=hb.h;⟨jk (Mr (by omega)) (by
 intro He He' J H x y u v Q hp rx ry w;unfold yV at w;split at w
 ·cases rx with
  | tup h1 s1=>
   cases ry with
   | tup h2 s2=>
    split at w
    ·rename_i ns ms z1 z2;have e1:=ku z1 s1;have e2:=ku z2 s2;subst e1 e2;exact ⟨_,_,ns,ms,rfl,rfl,by rw [hK];exact fD hp.sub h1,by rw [hK];exact fD hp.sub h2,w _ J H (Ext.refl hp.sub) (.bl _)⟩
    ·exact w.elim
 ·exact w.elim) ha hb⟩
end
theorem u6 (gt:GT) (gts:G Bool) (ge:G R):∀(ds:List D) (env:Ev) (k:List D->M R),(bN gt gts (gM ge) ds env >>= λr=>k r.1)=(fB gt gts ge ds env >>= k)
 | [],env,k=>rfl
 | d::ds,env,k=>by
  unfold bN fB;cases gt d env with
  | bad=>rfl
  | exc z=>rfl
  | ok e=>
   show ((gts e >>= λk=>if k=true then gM ge e >>= λr=>bN gt gts (gM ge) ds r.2 >>= λz=>.ok (r.1++z.1,z.2) else bN gt gts (gM ge) ds e) >>= _)=((gts e >>= λk=>if k=true then ge e >>= λr=>toD r >>= λy=>fB gt gts ge ds e >>= λys=>.ok (y::ys) else fB gt gts ge ds e) >>= _);cases gts e with
   | bad=>rfl
   | exc z=>rfl
   | ok b=>
    cases b with
    | false=>exact u6 gt gts ge ds e k
    | true=>
     show ((gM ge e >>= λr=>bN gt gts (gM ge) ds r.2 >>= λz=>.ok (r.1++z.1,z.2)) >>= _)=((ge e >>= λr=>toD r >>= λy=>fB gt gts ge ds e >>= λys=>.ok (y::ys)) >>= _);unfold gM;cases ge e with
     | bad=>rfl
     | exc z=>rfl
     | ok r=>
      show (((toD r >>= λy=>M.ok ([y],e)) >>= λr=>bN gt gts (gM ge) ds r.2 >>= λz=>.ok (r.1++z.1,z.2)) >>= _)=((toD r >>= λy=>fB gt gts ge ds e >>= λys=>.ok (y::ys)) >>= _);cases toD r with
      | bad=>rfl
      | exc z=>rfl
      | ok y=>
       have ih:=u6 gt gts ge ds e λys=>k (y::ys);show ((bN gt gts (gM ge) ds e >>= λz=>.ok ([y]++z.1,z.2)) >>= λr=>k r.1)=((fB gt gts ge ds e >>= λys=>M.ok (y::ys)) >>= k);have e1:((bN gt gts (gM ge) ds e >>= λz=>M.ok ([y]++z.1,z.2)) >>= λr=>k r.1)=(bN gt gts (gM ge) ds e >>= λr=>k (y::r.1)):=by cases bN gt gts (gM ge) ds e <;> rfl
       have e2:((fB gt gts ge ds e >>= λys=>M.ok (y::ys)) >>= k)=(fB gt gts ge ds e >>= λys=>k (y::ys)):=by cases fB gt gts ge ds e <;> rfl
       rw [e1,e2,ih]
theorem Ju (n:Nat) (cap:List Nat) (gi:G (List D)) (gt:GT) (gts:G Bool) (ge:G R):bK n cap gi gt gts ge=iD sizeLine n cap gi gt gts (gM ge) (λys=>.ok (.l .fresh ys)):=by
 funext env;unfold bK iD;cases gi env with
 | bad=>rfl
 | exc z=>rfl
 | ok ds=>
  show (if ds.length<=sizeLine then _ else _)=(if ds.length<=sizeLine then _ else _);by_cases c:ds.length<=sizeLine
  ·rw [if_pos c,if_pos c];exact (u6 gt gts ge ds _ λys=>.ok (.l .fresh ys)).symm
  ·rw [if_neg c,if_neg c]
section
variable {X:Cx}{c:C}
theorem fJ (own:List Str) (cap:List Nat){elt S8 S9:Uo}{ifs:List Uo}{S5:W5}{pos:Pos}{gi:G (List D)}{gt:GT}{gts:G Bool}{ge:G R}(hi:vV X c S8 S9 gi)
  (hbody:∀(cl:List (Str×T3)) (C:T3) (s:Tj) (H:Hp) (fp:List T3),dD X.env.cells S5.names []=some cl->o8 (cR X own cap S5 cl C s H fp) c S8 gt/\o7 (cR X own cap S5 cl C s H fp) c ifs gts/\QD (cR X own cap S5 cl C s H fp) c elt ge) (a:Az X S5 cap S9:=by exact tP rfl):qe X c (.ListComp elt [⟨S8,S9,ifs,0⟩] S5 pos) (bK own.length cap gi gt gts ge):=by
 refine ⟨_,?_,rfl,λ_=>rfl⟩;rw [Ju];refine nC (e:=.ListComp elt [⟨S8,S9,ifs,0⟩] S5 pos) (ob:={cls:=.type "list",dict:=none,data:=.seq ([]:List Ti).toArray}) (o0:=λ_=>.lst []) (Acc:=BL c) (N:=1) (lim:=sizeLine) (m:=λp env=>do let _ <-call (.builtin "list.append") [.ref p,<-eval elt env]) own cap rfl hi.h
  (λs Q E q=>Ui q) (λh H=>⟨Uc _,[],0,.nil,TH _ rfl⟩) (λp=>sq) (λp J H _ h1 h2=>⟨[],h1,h2,.nil⟩) (by rw [Nat.mul_one];exact Tv _) (λit p env=>Cq (compTurn_list ..)) (λit acc env R s h0 h=>Z1 h0 h) (λys z q=>by cases q)
  (fun {p J H J' H' ys r} hp e ⟨us,h1,h2,h3⟩ q=>by cases q;exact ⟨J',e,⟨p,us,rfl,h1,h2,hp,h3⟩⟩) (λcl C s H fp hcc=>?_) a
 obtain ⟨b1,b2,b3⟩:=hbody cl C s H fp hcc;exact ⟨b1.h,b2.h,λp J2 H2 hp2 hp0=>AJ (λ_ _ f=>f) hp2 hp0 b3.h⟩
end
end DL
namespace K23
open PySem DL
def tF:List Str:=["world","many","marks","arrows"]
noncomputable def ue:G O:=(aK (sD (c7 3 (bx (az 1) (bx (az 2) (bx (az 3) dc)))) (af 0))
 (bu (bO (aE (gN d9 (ao (bK 2 [] (fq (af 2)) (c7 2 (bx (az 0) (bx (az 1) dc))) b_ (af 0)) aF)) (aE (gN d9 (ao (bK 2 [] (fq (af 3)) (c7 2 (bx (az 0) (bx (az 1) dc))) b_ (af 0)) aF)) aW)))))
def jc (as:List S):M R:=fin (ue (aV tF as))
def o5:List Str:=["one","other"]
def pH:G O:=(bQ (bG (g2 (cT true) (gN (aQ 1 K23.jc) (ao (af 0) aF)) (gN (aQ 1 K23.jc) (ao (af 1) aF)))) x6 c9)
def i_ (as:List S):M R:=fin (pH (aV o5 as))
def kR:List Str:=["worlds","world"]
def kY:G O:=(cG (fM (af 0)) (az 1) (bQ (bG (g2 (iB λi j=>.bl (decide (j < i))) (g2 a_ (af 1) (gC (.int 0))) (gC (.int 4)))) x6 c9))
def fZ (as:List S):M R:=fin (kY (aV kR as))
def qV:List Str:=["one","other"]
noncomputable def rJ:G O:=(aK (jN (gN (aQ 2 K23.i_) (ao (af 0) (ao (af 1) aF))))
 (jN (gN (aQ 1 K23.fZ) (ao (bO (aE (af 0) (aE (af 1) aW))) aF))))
def dY (as:List S):M R:=fin (rJ (aV qV as))
def AG:List Str:=["pairs"]
noncomputable def A3:G O:=(aK (bQ (bG (g2 (kW false) (af 0) (gC .non))) (bu (bO aW)) c9)
 (bu (gN d9 (ao (gN yY (ao (af 0) aF)) aF))))
def fH (as:List S):M R:=fin (A3 (aV AG as))
def HR:List Str:=["world","one","other","many","marks","arrows","bearing","leading"]
noncomputable def Ii:G O:=(aK (sD (c7 3 (bx (az 3) (bx (az 4) (bx (az 5) dc)))) (af 0))
 (aK (bh 6 (gN d9 (ao (bK 2 [1] (fq (af 4)) (c7 2 (bx (az 0) (bx (az 1) dc))) b_ (g2 (gp false) (af 2) (af 1))) aF)))
 (aK (bh 7 (gN d9 (ao (bK 2 [1,2] (fq (af 5)) (c7 2 (bx (az 0) (bx (az 1) dc))) b_ (g2 (gp false) (bO (aE (af 2) (aE (af 3) aW))) (af 1))) aF)))
 (bu (bO (aE (g2 (cT false) (af 1) (af 2)) (aE (af 6) (aE (af 7) aW))))))))
def xU (as:List S):M R:=fin (Ii (aV HR as))
def Di:List Str:=["world"]
noncomputable def D7:G O:=(bu (qz 2 [0] (bW (ao (g2 a_ (af 0) (gC (.int 0))) aF)) (az 0) b_ (bW (ao (g2 a_ (af 2) (gC (.int 0))) aF)) (az 1) b_ (bO (aE (af 0) (aE (af 1) aW))) (gN (aQ 3 K23.xU) (ao (af 2) (ao (af 0) (ao (af 1) aF))))))
def oS (as:List S):M R:=fin (D7 (aV Di as))
def Dh:List Str:=["first","second","pair","again"]
noncomputable def D6:G O:=(bu (g2 (cT false) (g2 fm (af 0) (bO (aE (g2 a_ (af 2) (gC (.int 0))) (aE (g2 a_ (af 3) (gC (.int 0))) aW)))) (g2 fm (af 1) (bO (aE (g2 a_ (af 2) (gC (.int 1))) (aE (g2 a_ (af 3) (gC (.int 1))) aW))))))
def eO (as:List S):M R:=fin (D6 (aV Dh as))
def oY:List Str:=["first","second","pairing","pair","again"]
noncomputable def pG:G O:=(aK (bQ (jZ (vd (af 2)) (bG (g2 yV (af 3) (g2 a_ (af 2) (F9 (gC (.int 1))))))) (bu (gC (.bl false))) c9)
 (aK (cG (fM (af 2)) (az 4) (bQ (oB (gF (bG (gN (aQ 4 K23.eO) (ao (af 0) (ao (af 1) (ao (af 3) (ao (af 4) aF))))))) (gF (bG (gN (aQ 4 K23.eO) (ao (af 0) (ao (af 1) (ao (af 4) (ao (af 3) aF)))))))) (bu (gC (.bl false))) c9))
 (bu (gC (.bl true)))))
def i9 (as:List S):M R:=fin (pG (aV oY as))
def vS:List Str:=["one","other","most","first","second","pairs","longest","told","step"]
noncomputable def wD:G O:=(aK (jN (gN (aQ 2 K23.dY) (ao (af 0) (ao (af 1) aF))))
 (aK (jN (gN (aQ 3 K55.fj) (ao (af 2) (ao (gC (.int 0)) (ao (gC (.int 4)) aF)))))
 (aK (bh 3 (gN (aQ 1 K23.oS) (ao (af 0) aF)))
 (aK (bh 4 (gN (aQ 1 K23.oS) (ao (af 1) aF)))
 (aK (bh 5 (pB 2 [1,3,4] (bW (ao (g2 a_ (af 0) (gC (.int 0))) aF)) (az 0) b_ (bW (ao (g2 a_ (af 2) (gC (.int 0))) aF)) (az 1) (bG (gN (aQ 4 K23.eO) (ao (af 3) (ao (af 4) (ao (bO (aE (af 0) (aE (af 1) aW))) (ao (bO (aE (af 0) (aE (af 1) aW))) aF)))))) (bO (aE (af 0) (aE (af 1) aW)))))
 (aK (jg 5 (bh 6 (d_ (aE (bO aW) aW))))
 (aK (bh 7 (d_ (aE (bO aW) aW)))
 (aK (cG (bW (ao (af 2) aF)) (az 8) (aK (jg 5 (bh 6 (pB 2 [5,3,4] (fq (af 6)) (az 0) b_ (fM (af 2)) (az 1) (bG (gN (aQ 4 K23.i9) (ao (af 3) (ao (af 4) (ao (af 0) (ao (af 1) aF)))))) (g2 dX (af 0) (bO (aE (af 1) aW))))))
 (za 7 (af 6))))
 (bu (af 7))))))))))
def iS (as:List S):M R:=fin (wD (aV vS as))
end K23
namespace K23
open PySem DL K01 WP K51 K52 K55
section
variable {α β:Type}
theorem HZ {gts:G Bool}{act:Ev->M (List D×Ev)}{h':β->D}{rest:Ev}(p:β->Bool) (f:β->D):∀(ys:List β),(∀y∈ys,gts (a0::some (.d (h' y))::rest)=.ok (p y)/\(p y=true->act (a0::some (.d (h' y))::rest)=.ok ([f y],a0::some (.d (h' y))::rest)))->
  ∀z:Option S,∃z',bN (az 1) gts act (ys.map h') (a0::z::rest)=.ok ((ys.filter p).map f,a0::z'::rest)
 | [],_,z=>⟨z,rfl⟩
 | y::ys,H,z=>by
  obtain ⟨h1,h2⟩:=H y Tu;obtain ⟨z',ih⟩:=HZ p f ys (λy hy=>H y (Tq _ hy)) (some (.d (h' y)));refine ⟨z',?_⟩;rw [TV];unfold bN;show (gts (a0::some (.d (h' y))::rest) >>= λk=>if k=true then act (a0::some (.d (h' y))::rest) >>= λr=>bN (az 1) gts act (ys.map h') r.2 >>= λz=>.ok (r.1++z.1,z.2) else bN (az 1) gts act (ys.map h') (a0::some (.d (h' y))::rest))=_;rw [h1,aL];cases q:p y with
  | true=>
   rw [if_pos rfl,h2 q,aL];show (bN (az 1) gts act (ys.map h') (a0::some (.d (h' y))::rest) >>= _)=_;rw [ih,aL,ZH q];rfl
  | false=>
   rw [if_neg (by decide),ih,ZI (by simp [q])]
theorem DQ {gi1:G (List D)}{gts:G Bool}{act:Ev->M (List D×Ev)}{h:α->D}{h':β->D}{rest:Ev}(ys:α->List β) (p:α->β->Bool) (f:α->β->D):∀(xs:List α),(∀x∈xs,(ys x).length<=1000/\(∀z:Option S,gi1 (some (.d (h x))::z::rest)=.ok ((ys x).map h'))/\∀y∈ys x,gts (some (.d (h x))::some (.d (h' y))::rest)=.ok (p x y)/\(p x y=true->act (some (.d (h x))::some (.d (h' y))::rest)=.ok ([f x y],some (.d (h x))::some (.d (h' y))::rest)))->
  ∀z0 z:Option S,∃z0' z',bN (az 0) b_ (je gi1 (az 1) gts act) (xs.map h) (z0::z::rest)=.ok (xs.flatMap λx=>((ys x).filter (p x)).map (f x),z0'::z'::rest)
 | [],_,z0,z=>⟨z0,z,rfl⟩
 | x::xs,H,z0,z=>by obtain ⟨h1,h2,h3⟩:=H x Tu;obtain ⟨z1,e1⟩:=HZ (a0:=some (.d (h x))) (p x) (f x) (ys x) h3 z;obtain ⟨z0',z',ih⟩:=DQ ys p f xs (λy hy=>H y (Tq _ hy)) (some (.d (h x))) z1;refine ⟨z0',z',?_⟩;rw [TV];unfold bN;show (je gi1 (az 1) gts act (some (.d (h x))::z::rest) >>= _)=_;unfold je;rw [h2 z,aL,if_pos (by rw [Tp];exact h1),e1,aL];show (bN (az 0) b_ (je gi1 (az 1) gts act) (xs.map h) (some (.d (h x))::z1::rest) >>= _)=_;rw [ih];rfl
theorem qv {gi0 gi1:G (List D)}{gts:G Bool}{act:Ev->M (List D×Ev)}{fin:List D->M R}{h:α->D}{h':β->D}{xs:List α}(ys:α->List β) (p:α->β->Bool) (f:α->β->D) (hi:gi0 env=.ok (xs.map h)) (hl:xs.length<=10000)
 (H:∀x∈xs,(ys x).length<=1000/\(∀z:Option S,gi1 (some (.d (h x))::z::cE 0 cap env)=.ok ((ys x).map h'))/\∀y∈ys x,gts (some (.d (h x))::some (.d (h' y))::cE 0 cap env)=.ok (p x y)/\(p x y=true->act (some (.d (h x))::some (.d (h' y))::cE 0 cap env)=.ok ([f x y],some (.d (h x))::some (.d (h' y))::cE 0 cap env))):
  iD 10000 2 cap gi0 (az 0) b_ (je gi1 (az 1) gts act) fin env=fin (xs.flatMap λx=>((ys x).filter (p x)).map (f x)):=by unfold iD;rw [hi,aL,if_pos (by rw [Tp];exact hl)];obtain ⟨z0',z',e⟩:=DQ ys p f xs H none none;show (bN (az 0) b_ (je gi1 (az 1) gts act) (xs.map h) (none::none::cE 0 cap env) >>= _)=_;rw [e];rfl
theorem qo {ge:G R}(h:ge env=.ok r) (h2:toD r=.ok d):gM ge env=.ok ([d],env):=by unfold gM;rw [h,aL,h2];rfl
theorem mE {gk gv:G R}(h:gk env=.ok r) (h2:toD r=.ok k) (h3:gv env=.ok r2) (h4:toD r2=.ok d) (ok:c6 k=true):nt gk gv env=.ok ([.tup [k,d]],env):=by unfold nt;rw [h,aL,h2,aL,h3,aL,h4,aL,if_pos ok]
end
noncomputable def eG (u:Wd) (a c:Nat):D:=.tup [.bl (aZ (dN a) (dN c)),.tup (u.ms.map λr=>.bl (inD (dN a) (r.2.map dN))),.tup (u.ar.map λr=>.bl (inD (dP (a,c)) (r.2.map dP)))]
theorem K_ (u:Wd) (hu:AI u) (a c:Nat):xU [.d u.d,.d (dN a),.d (dN c)]=.ok (.d (eG u a c)):=by have ml:=hu.ml;have al:=hu.al;refine bX (CI rfl rfl rfl ?_);refine bB (n1 (qu (xs:=u.ms) (λr=>.str r.1) (λr=>.tup (r.2.map dN)) (λr=>.bl (inD (dN a) (r.2.map dN))) rfl (by omega) λr _=>⟨_,two rfl rfl (O0 a r.2),rfl⟩) rfl) rfl ?_;refine bB (n1 (qu (xs:=u.ar) (λr=>.str r.1) (λr=>.tup (r.2.map dP)) (λr=>.bl (inD (dP (a,c)) (r.2.map dP))) rfl (by omega) λr _=>⟨_,two (bF (aI rfl rfl (aI rfl rfl bw)) t2) rfl (LQ (a,c) r.2),rfl⟩) rfl) rfl ?_;exact bC (bF (aI rfl rfl (aI rfl rfl (aI rfl rfl bw))) (by show 3<=1000;decide)) rfl rfl
def dh (m n:Nat):List (Nat×Nat):=(Tw m).flatMap λa=>(Tw n).map λb=>(a,b)
theorem k6 {p:Nat×Nat}:p∈dh m n↔p.1 < m/\p.2 < n:=by
 unfold dh;simp only [VR,TM,Tr];constructor
 ·rintro ⟨a,ha,b,hb,rfl⟩;exact ⟨ha,hb⟩
 ·rintro ⟨h1,h2⟩;exact ⟨p.1,h1,p.2,h2,rfl⟩
theorem nS (m n:Nat):(dh m n).Nodup:=by unfold dh;refine aao.mpr ⟨λa _=>U9.mpr (abA (λh e=>h (by cases e;rfl)) (Wc (n:=n))),?_⟩;refine abA ?_ (Wc (n:=m));intro a b hab p h1 q h2 e;subst e;obtain ⟨x,_,rfl⟩:=Tr.mp h1;obtain ⟨y,_,e⟩:=Tr.mp h2;cases e;exact hab rfl
theorem zq (m n:Nat):(dh m n).length=m * n:=by
 induction m with
 | zero=>simp [dh]
 | succ m ih=>
  unfold dh at ih ⊢;rw [YZ,List.flatMap_append,TQ,ih,acr];simp
theorem JH (h:∀x∈ks,aZ x k=false):gq ks vs k=none:=by
 induction ks generalizing vs with
 | nil=>cases vs <;> rfl
 | cons x ks ih=>
  cases vs with
  | nil=>rfl
  | cons v vs=>
   unfold gq;rw [h x Tu,if_neg (by decide)];exact ih λy hy=>h y (Tq _ hy)
theorem v_ (f:Nat×Nat->D):∀(n:Nat) (ps:List (Nat×Nat)),ps.length=n->ps.Nodup->g_ (ps.map λp=>D.tup [dP p,f p])=(ps.map dP,ps.map f)
 | 0,ps,h,_=>by have:=V2.mp h;subst this;rfl
 | n + 1,ps,h,nd=>by
  rcases Wk ps with rfl | ⟨qs,p,rfl⟩
  ·cases h
  ·rw [Wl] at h nd ⊢;have nd':=Yi.mp nd;have ih:=v_ f n qs (by simpa using h) nd'.1;have hn:gq (qs.map dP) (qs.map f) (dP p)=none:=JH λx hx=>by obtain ⟨q,hq,rfl⟩:=Tr.mp hx;rw [wc,decide_eq_false_iff_not];rintro rfl;exact nd'.2.2 q hq q Tu rfl
   rw [Ue,List.map_singleton,nD,ih];unfold dput;rw [hn];simp
abbrev ia (u:Wd):List D:=(dh u.m u.m).map dP
abbrev ic (u:Wd):List D:=(dh u.m u.m).map λp=>eG u p.1 p.2
theorem AE (u:Wd) (hu:AI u):oS [.d u.d]=.ok (.d (.dct (ia u) (ic u))):=by
 have hi:=hu.hi;refine bX (bC (r:=.d (.dct (ia u) (ic u))) ?_ rfl rfl);refine (qv (xs:=Tw u.m) (h:=dN) (h':=dN) (λ_=>Tw u.m) (λ_ _=>true) (λa b=>.tup [dP (a,b),eG u a b]) ?_ (by simp;omega) λa _=>⟨by simp;omega,λz=>?_,λb _=>⟨rfl,λ_=>mE (bF (aI rfl rfl (aI rfl rfl bw)) t2) rfl (c3 rfl rfl rfl (K_ u hu a b)) rfl rfl⟩⟩).trans ?_
 ·exact iu (b8 (two rfl rfl (ji _ _))) (by omega)
 ·exact iu (b8 (two rfl rfl (ji _ _))) (by omega)
 ·have ef:(Tw u.m).filter (λ_=>true)=Tw u.m:=WS.mpr λ_ _=>rfl;have e:((Tw u.m).flatMap λa=>((Tw u.m).filter λ_=>true).map λb=>D.tup [dP (a,b),eG u a b])=(dh u.m u.m).map λp=>D.tup [dP p,eG u p.1 p.2]:=by rw [ef];unfold dh;rw [Xx];simp [Uj,Zw]
  rw [e];have h:=v_ (λp=>eG u p.1 p.2) _ (dh u.m u.m) rfl (nS _ _);show M.ok (R.d (.dct (g_ ((dh u.m u.m).map λp=>D.tup [dP p,eG u p.1 p.2])).1 (g_ ((dh u.m u.m).map λp=>D.tup [dP p,eG u p.1 p.2])).2))=_;rw [h]
theorem A_ (u:Wd):∀(ps:List (Nat×Nat)) (p:Nat×Nat),p∈ps->gq (ps.map dP) (ps.map λp=>eG u p.1 p.2) (dP p)=some (eG u p.1 p.2)
 | q::ps,p,h=>by
  rw [TV,TV];unfold gq;by_cases c:q=p
  ·subst c;rw [if_pos (by rw [wc];simp)]
  ·rw [if_neg (by rw [wc];simpa using c)];rcases TZ.mp h with e | e
   ·exact absurd e.symm c
   ·exact A_ u ps p e
theorem yS (u:Wd) (a c:Nat) (ha:a < u.m) (hc:c < u.m):fm (.d (.dct (ia u) (ic u))) (.d (dP (a,c)))=.ok (.d (eG u a c)):=by
 show (if c6 (dP (a,c))=true then (match gq (ia u) (ic u) (dP (a,c)) with
  | some d=>M.ok (R.d d)
  | none=>.bad) else .bad)=_
 rw [if_pos (show c6 (dP (a,c))=true from rfl),A_ u (dh u.m u.m) (a,c) (k6.mpr ⟨ha,hc⟩)]
theorem Ae (u:Wd) (a c:Nat):dep (eG u a c)<=60:=by
 have h1:deps (u.ms.map λr=>D.bl (inD (dN a) (r.2.map dN)))<=0:=fK λx hx=>by obtain ⟨r,_,rfl⟩:=Tr.mp hx;exact Uc _
 have h2:deps (u.ar.map λr=>D.bl (inD (dP (a,c)) (r.2.map dP)))<=0:=fK λx hx=>by obtain ⟨r,_,rfl⟩:=Tr.mp hx;exact Uc _
 unfold eG;simp only [dep,deps];omega
def iT (v w:Wd) (p q:Nat×Nat):Bool:=aZ (eG v p.1 q.1) (eG w p.2 q.2)
def lH (v w:Wd) (p:Nat×Nat):Prop:=p.1 < v.m/\p.2 < w.m
theorem uP (v w:Wd) (p q:Nat×Nat) (hp:lH v w p) (hq:lH v w q):eO [.d (.dct (ia v) (ic v)),.d (.dct (ia w) (ic w)),.d (dP p),.d (dP q)]=.ok (.d (.bl (iT v w p q))):=by refine bX (bC (two (x:=.d (eG v p.1 q.1)) (y:=.d (eG w p.2 q.2)) (two rfl (bF (aI (two rfl rfl (ji _ _)) rfl (aI (two rfl rfl (ji _ _)) rfl bw)) t2) (yS v p.1 q.1 hp.1 hq.1)) (two rfl (bF (aI (two rfl rfl (Eg _ _ _)) rfl (aI (two rfl rfl (Eg _ _ _)) rfl bw)) t2) (yS w p.2 q.2 hp.2 hq.2)) (lO _ _ _ (Ae v p.1 q.1) (Ae w p.2 q.2))) rfl rfl)
def rL (p q:Nat×Nat):Bool:=lexLe [p.1,p.2] [q.1,q.2]
theorem PR (p q:Nat×Nat):yV (.d (dP p)) (.d (dP q))=.ok (.d (.bl (rL p q))):=rfl
noncomputable def gb (v w:Wd) (ps:List (Nat×Nat)) (q:Nat×Nat):Bool:=(match ps.getLast? with
 | some l=>!rL q l
 | none=>true) && ps.all λr=>iT v w q r && iT v w r q
theorem gG {g:G R}(h:g env=.ok (.d (.bl b))):bG g env=.ok b:=by show (g env >>= _)=_;rw [h];rfl
theorem gj {g:G R}(h:g env=.ok (jq (.d (.bl b)))):bG g env=.ok b:=gG h
theorem bq {f:R->R->M R}{g h:G R}(hx:g env=.ok x) (hy:h env=.ok y) (hf:f x y=.ok (.d (.bl b))):bG (g2 f g h) env=.ok b:=gG (two hx hy hf)
theorem f_ {g:G Bool}(h:g env=.ok b):gF g env=.ok (!b):=by show (g env >>= _)=_;rw [h];rfl
theorem eU {a b:G Bool}(h:a env=.ok false):jZ a b env=.ok false:=by unfold jZ;rw [h];rfl
theorem dw {a b:G Bool}(h:a env=.ok true) (h2:b env=.ok k):jZ a b env=.ok k:=by unfold jZ;rw [h];exact h2
theorem My {a b:G Bool}(h:a env=.ok (!x)) (h2:b env=.ok (!y)):oB a b env=.ok (!(x && y)):=by
 unfold oB;rw [h];cases x with
 | true=>exact h2
 | false=>rfl
theorem OM (v w:Wd) (ps:List (Nat×Nat)) (q:Nat×Nat) (hp:∀p∈ps,lH v w p) (hq:lH v w q):i9 [.d (.dct (ia v) (ic v)),.d (.dct (ia w) (ic w)),.d (.tup (ps.map dP)),.d (dP q)]=.ok (.d (.bl (gb v w ps q))):=by
 have loop:(match ps.getLast? with
   | some l=>!rL q l
   | none=>true)=true->Wp (aK (cG (fM (af 2)) (az 4) (bQ (oB (gF (bG (gN (aQ 4 K23.eO) (ao (af 0) (ao (af 1) (ao (af 3) (ao (af 4) aF))))))) (gF (bG (gN (aQ 4 K23.eO) (ao (af 0) (ao (af 1) (ao (af 4) (ao (af 3) aF)))))))) (bu (gC (.bl false))) c9))
 (bu (gC (.bl true))) [some (.d (.dct (ia v) (ic v))),some (.d (.dct (ia w) (ic w))),some (.d (.tup (ps.map dP))),some (.d (dP q)),none]) (·=.rt (.d (.bl (gb v w ps q)))):=by
  intro hl;refine dH (ds:=ps.map dP) rfl ?_;have key:∀(rs:List (Nat×Nat)),(∀p∈rs,lH v w p)->∀x:Option S,Wp (dG (az 4) (bQ (oB (gF (bG (gN (aQ 4 K23.eO) (ao (af 0) (ao (af 1) (ao (af 3) (ao (af 4) aF))))))) (gF (bG (gN (aQ 4 K23.eO) (ao (af 0) (ao (af 1) (ao (af 4) (ao (af 3) aF)))))))) (bu (gC (.bl false))) c9) (rs.map dP) [some (.d (.dct (ia v) (ic v))),some (.d (.dct (ia w) (ic w))),some (.d (.tup (ps.map dP))),some (.d (dP q)),x])
    (λo=>((∃e,o=.nx e)/\(rs.all λr=>iT v w q r && iT v w r q)=true)\/(o=.rt (.d (.bl false))/\(rs.all λr=>iT v w q r && iT v w r q)=false)):=by
   intro rs
   induction rs with
   | nil=>intro _ x;exact ⟨_,rfl,.inl ⟨⟨_,rfl⟩,rfl⟩⟩
   | cons r rs ih=>
    intro hr x;have h1:=uP v w q r hq (hr r Tu);have h2:=uP v w r q (hr r Tu) hq;have ht:(oB (gF (bG (gN (aQ 4 K23.eO) (ao (af 0) (ao (af 1) (ao (af 3) (ao (af 4) aF))))))) (gF (bG (gN (aQ 4 K23.eO) (ao (af 0) (ao (af 1) (ao (af 4) (ao (af 3) aF)))))))) [some (.d (.dct (ia v) (ic v))),some (.d (.dct (ia w) (ic w))),some (.d (.tup (ps.map dP))),some (.d (dP q)),some (.d (dP r))]=.ok (!(iT v w q r && iT v w r q)):=My (f_ (gj (c4 rfl rfl rfl rfl h1))) (f_ (gj (c4 rfl rfl rfl rfl h2)));rw [TV,Wi];unfold dG;show Wp ((bQ _ _ _ [some (.d (.dct (ia v) (ic v))),some (.d (.dct (ia w) (ic w))),some (.d (.tup (ps.map dP))),some (.d (dP q)),some (.d (dP r))]) >>= _) _;cases hc:(iT v w q r && iT v w r q) with
    | true=>
     rw [hc] at ht;rw [pK ht];exact ih (λp hp=>hr p (Tq _ hp)) _
    | false=>
     rw [hc] at ht;rw [mR ht];exact ⟨_,rfl,.inr ⟨rfl,rfl⟩⟩
  refine (key ps hp none).mono ?_;rintro o (⟨⟨e,rfl⟩,h⟩ | ⟨rfl,h⟩)
  ·refine bC rfl rfl ?_;unfold gb;rw [hl,h];rfl
  ·show O.rt _=_;unfold gb;rw [h,WX]
 refine bX ?_;cases q':ps.getLast? with
 | none=>
  have:ps=[]:=Zk.mp q';subst this;exact gu (eU rfl) (loop rfl)
 | some l=>
  obtain ⟨rs,rfl⟩:∃rs,ps=rs++[l]:=by
   rcases Wk ps with rfl | ⟨ys,y,rfl⟩
   ·cases q'
   ·rw [Wl] at q' ⊢;rw [aaF] at q';cases q';exact ⟨ys,rfl⟩
  have hix:a_ (.d (.tup ((rs++[l]).map dP))) (.d (.int (-1)))=.ok (.d (dP l)):=by rw [Ue];exact Jz _ _
  have ht:jZ (vd (af 2)) (bG (g2 yV (af 3) (g2 a_ (af 2) (F9 (gC (.int 1)))))) [some (.d (.dct (ia v) (ic v))),some (.d (.dct (ia w) (ic w))),some (.d (.tup ((rs++[l]).map dP))),some (.d (dP q)),none]=.ok (rL q l):=by refine dw ?_ (gG (two rfl (two rfl rfl hix) (PR q l)));show M.ok (!((rs++[l]).map dP).isEmpty)=_;simp
  cases hc:rL q l with
  | true=>
   rw [hc] at ht;refine cF (qB ht (bC rfl rfl ?_));show O.rt _=_;unfold gb;rw [q'];simp [hc]
  | false=>
   rw [hc] at ht;exact gu ht (loop (by rw [q'];simp [hc]))
section
variable {env:Ev}{Q:O->Prop}{g:G R}{t:G O}{r:R}{i:Nat}
theorem Im {xs ys:List D}(h0:env[i]?=some (some (.own xs))) (h:g env=.ok r) (h2:g9 r=.ok ys) (hl:xs.length + ys.length<=16777216) (k:Q (.nx (env.set i (some (.own (xs++ys)))))):Wp (za i g env) Q:=by refine ⟨_,?_,k⟩;unfold za;rw [h0];show (g env >>= _)=_;rw [h,aL,h2,aL,if_pos (by rw [UH];exact hl)]
theorem Mg (h:g env=.ok r) (k:Q (.nx env)):Wp (jN g env) Q:=⟨.nx env,by show (g env >>= _)=_;rw [h];rfl,k⟩
theorem Nn (h:env[i]?=some (some (.d d))) (k:Wp (t env) Q):Wp (jg i t env) Q:=by
 have:jg i t env=t env:=by unfold jg;rw [h]
 rw [this];exact k
end
structure Pr (v w:Wd):Prop where
 vo:AI v
 wo:AI w
 v4:v.m<=4
 w4:w.m<=4
 mn:v.ms.map UG=w.ms.map UG
 an:v.ar.map UG=w.ar.map UG
def jI (u:Wd):D:=.tup [.tup ((u.ms.map UG).map .str),.tup ((u.ar.map UG).map .str)]
theorem yk (u:Wd) (hu:AI u):jc [.d u.d]=.ok (.d (jI u)):=by have ml:=hu.ml;have al:=hu.al;refine bX (CI rfl rfl rfl (bC (bF (aI (n1 (qu (xs:=u.ms) (λr=>.str r.1) (λr=>.tup (r.2.map dN)) (λr=>.str r.1) rfl (by omega) λr _=>⟨_,rfl,rfl⟩) rfl) rfl (aI (n1 (qu (xs:=u.ar) (λr=>.str r.1) (λr=>.tup (r.2.map dP)) (λr=>.str r.1) rfl (by omega) λr _=>⟨_,rfl,rfl⟩) rfl) rfl bw)) t2) rfl ?_));unfold jI;rw [Uj,Uj];rfl
theorem Bt (u:Wd):dep (jI u)<=60:=by
 have h:∀ss:List Str,deps (ss.map D.str)<=0:=λss=>fK λx hx=>by obtain ⟨r,_,rfl⟩:=Tr.mp hx;exact Uc _
 have h1:=h (u.ms.map UG);have h2:=h (u.ar.map UG);unfold jI;simp only [dep,deps];omega
theorem jt {v w:Wd}(t:Pr v w):dY [.d v.d,.d w.d]=.ok (.d .non):=by
 have ht:i_ [.d v.d,.d w.d]=.ok (.d .non):=by
  refine uN (pN (bq (b:=false) (c1 rfl (yk v t.vo)) (c1 rfl (yk w t.wo)) ?_) (fP ⟨_,rfl⟩));show cT true (.d (jI v)) (.d (jI w))=_;rw [lO true (.d (jI v)) (.d (jI w)) (Bt v) (Bt w)];have e:jI v=jI w:=by unfold jI;rw [t.mn,t.an]
  show M.ok (R.d (.bl (!aZ (jI v) (jI w))))=_;rw [e,fk];rfl
 have hf:fZ [.d (.tup [v.d,w.d])]=.ok (.d .non):=by
  have v4:=t.v4;have w4:=t.w4;have one:∀(u:Wd),u.m<=4->bG (g2 (iB λi j=>.bl (decide (j < i))) (g2 a_ (af 1) (gC (.int 0))) (gC (.int 4))) [some (.d (.tup [v.d,w.d])),some (.d u.d)]=.ok false:=λu hu=>by refine bq (two rfl rfl (ji _ _)) rfl ?_;show M.ok (R.d (.bl (decide ((4:Int) < (u.m:Int)))))=_;rw [decide_eq_false (by omega)]
  refine uN (uo (ds:=[v.d,w.d]) rfl (lD (λk env=>∃x,env=[some (.d (.tup [v.d,w.d])),x]) [v.d,w.d] ⟨none,rfl⟩ ?_ λe _=>⟨e,rfl⟩));rintro k hk _ ⟨x,rfl⟩
  match k,hk with
  | 0,_=>exact ⟨_,rfl,pN (one v v4) (fP ⟨_,rfl,_,rfl⟩)⟩
  | 1,_=>exact ⟨_,rfl,pN (one w w4) (fP ⟨_,rfl,_,rfl⟩)⟩
 refine uN (kK (c2 rfl rfl ht) ?_);exact Mg (c1 (bF (aI rfl rfl (aI rfl rfl bw)) t2) hf) ⟨_,rfl⟩
theorem Nq (d:Nat) (hd:d<=4):K55.fj [.d (.int d),.d (.int 0),.d (.int 4)]=.ok (.d .non):=by refine uN (pN ?_ (fP ⟨_,rfl⟩));show (if decide ((d:Int) < 0)=true then M.ok true else M.ok (decide ((4:Int) < d)))=M.ok false;rw [decide_eq_false (show ¬(d:Int) < 0 by omega),decide_eq_false (show ¬(4:Int) < d by omega)];rfl
def prs (v w:Wd):List (Nat×Nat):=(dh v.m w.m).filter λp=>iT v w p p
noncomputable def LG (v w:Wd):Nat->List (List (Nat×Nat))
 | 0=>[[]]
 | j + 1=>(LG v w j).flatMap λah=>((prs v w).filter (gb v w ah)).map λq=>ah++[q]
noncomputable def told (v w:Wd):Nat->List (List (Nat×Nat))
 | 0=>[[]]
 | j + 1=>told v w j++LG v w (j + 1)
abbrev aM (ps:List (Nat×Nat)):D:=.tup (ps.map dP)
theorem EM (h:p∈prs v w):lH v w p:=k6.mp (Uq.mp h).1
theorem Bf (t:Pr v w):(prs v w).length<=16:=by have h1:=UA (λp=>iT v w p p) (dh v.m w.m);rw [zq] at h1;have h2:=Wr t.v4 t.w4;unfold prs;omega
theorem qh:∀(j:Nat){ps:List (Nat×Nat)},ps∈LG v w j->ps.length=j/\∀p∈ps,lH v w p
 | 0,ps,h=>by rw [show ps=[] from TL.mp h];exact ⟨rfl,λ_ h=>by cases h⟩
 | j + 1,ps,h=>by
  obtain ⟨ah,h1,h2⟩:=VR.mp h;obtain ⟨q,h3,rfl⟩:=Tr.mp h2;obtain ⟨l,k⟩:=qh j h1;refine ⟨by rw [TQ,l];rfl,λp hp=>?_⟩;rcases Ub.mp hp with h | h
  ·exact k p h
  ·rw [TL.mp h];exact EM (Uq.mp h3).1
theorem nM {α β:Type}(f:α->List β) (n:Nat):∀(xs:List α),(∀x∈xs,(f x).length<=n)->(xs.flatMap f).length<=xs.length * n
 | [],_=>by simp
 | x::xs,h=>by have h1:=h x Tu;have h2:=nM f n xs λy hy=>h y (Tq _ hy);rw [List.flatMap_cons,TQ,UB,acr];omega
theorem oV (t:Pr v w):∀j,(LG v w j).length<=16 ^ j
 | 0=>Tv _
 | j + 1=>by
  have h:=nM (λah=>((prs v w).filter (gb v w ah)).map λq=>ah++[q]) 16 (LG v w j) λah _=>by rw [Tp];exact T6 (UA _ _) (Bf t)
  have h2:=VV 16 (oV t j);rw [Yw];exact T6 h h2
theorem n9 (t:Pr v w):∀j,j<=4->(told v w j).length<=(j + 1) * 65536
 | 0,_=>by show 1<=_;omega
 | j + 1,h=>by
  have h1:=n9 t j (by omega);have h2:=oV t (j + 1);have h3:(16:Nat) ^ (j + 1)<=16 ^ 4:=Vt (by decide) h;have h4:(16:Nat) ^ 4=65536:=by decide
  show (told v w j++LG v w (j + 1)).length<=_;rw [TQ];omega
theorem gE:∀(n:Nat){ps:List (Nat×Nat)},ps∈told v w n↔∃j,j<=n/\ps∈LG v w j
 | 0,ps=>by
  constructor
  ·exact λh=>⟨0,Tv _,h⟩
  ·rintro ⟨j,hj,h⟩;have:j=0:=by omega
   subst this;exact h
 | n + 1,ps=>by
  show ps∈told v w n++LG v w (n + 1)↔_;rw [Ub,gE n];constructor
  ·rintro (⟨j,hj,h⟩ | h)
   ·exact ⟨j,by omega,h⟩
   ·exact ⟨n + 1,Tv _,h⟩
  ·rintro ⟨j,hj,h⟩;by_cases c:j=n + 1
   ·subst c;exact .inr h
   ·exact .inl ⟨j,by omega,h⟩
theorem i7 {v w:Wd}(t:Pr v w) (n:Nat) (hn:n<=4):iS [.d v.d,.d w.d,.d (.int n)]=.ok (.l .fresh ((told v w n).map aM)):=by
 have v4:=t.v4;have w4:=t.w4;refine bX (kK (c2 rfl rfl (jt t)) (kK (c3 rfl rfl rfl (Nq n hn)) (bB (c1 rfl (AE v t.vo)) rfl (bB (c1 rfl (AE w t.wo)) rfl ?_))));have hp:pB 2 [1,3,4] (bW (ao (g2 a_ (af 0) (gC (.int 0))) aF)) (az 0) b_ (bW (ao (g2 a_ (af 2) (gC (.int 0))) aF)) (az 1) (bG (gN (aQ 4 K23.eO) (ao (af 3) (ao (af 4) (ao (bO (aE (af 0) (aE (af 1) aW))) (ao (bO (aE (af 0) (aE (af 1) aW))) aF)))))) (bO (aE (af 0) (aE (af 1) aW)))
   [some (.d v.d),some (.d w.d),some (.d (.int n)),some (.d (.dct (ia v) (ic v))),some (.d (.dct (ia w) (ic w))),none,none,none,none]=.ok (.l .fresh ((prs v w).map dP)):=by
  refine (qv (xs:=Tw v.m) (h:=dN) (h':=dN) (λ_=>Tw w.m) (λa b=>iT v w (a,b) (a,b)) (λa b=>dP (a,b)) (iu (b8 (two rfl rfl (ji _ _))) (by omega)) (by simp;omega) λa ha=>⟨by simp;omega,λz=>iu (b8 (two rfl rfl (ji _ _))) (by omega),λb hb=>⟨?_,λ_=>qo (bF (aI rfl rfl (aI rfl rfl bw)) t2) rfl⟩⟩).trans ?_
  ·have ha:a < v.m:=by simpa using ha
   have hb:b < w.m:=by simpa using hb
   exact gj (c4 rfl rfl (bF (aI rfl rfl (aI rfl rfl bw)) t2) (bF (aI rfl rfl (aI rfl rfl bw)) t2) (uP v w (a,b) (a,b) ⟨ha,hb⟩ ⟨ha,hb⟩))
  ·have e:((Tw v.m).flatMap λa=>((Tw w.m).filter λb=>iT v w (a,b) (a,b)).map λb=>dP (a,b))=(prs v w).map dP:=by unfold prs dh;rw [List.filter_flatMap,Xx];congr 1;funext a;rw [acv,Uj];rfl
   rw [e]
 refine bB hp rfl ?_;refine cF (yh rfl (gJ (gQ (aI (bF bw (by decide)) rfl bw) (by show 1<=1000;decide)) rfl ?_));refine bB (gQ (aI (bF bw (by decide)) rfl bw) (by show 1<=1000;decide)) rfl ?_;refine dH (lg (n:=n) rfl (by omega)) ?_;refine jO (λk env=>∃x:Option S,env=[some (.d v.d),some (.d w.d),some (.d (.int n)),some (.d (.dct (ia v) (ic v))),some (.d (.dct (ia w) (ic w))),some (.d (.lst ((prs v w).map dP))),some (.own ((LG v w k).map aM)),some (.own ((told v w k).map aM)),x]) ⟨none,rfl⟩ ?_ ?_
 ·rintro k hk _ ⟨x,rfl⟩;have l1:=oV t k;have l2:=oV t (k + 1);have l3:=n9 t k (by omega);have p1:(16:Nat) ^ k<=16 ^ 3:=Vt (by decide) (by omega);have p2:(16:Nat) ^ (k + 1)<=16 ^ 4:=Vt (by decide) (by omega);have p3:(16:Nat) ^ 3=4096:=by decide
  have p4:(16:Nat) ^ 4=65536:=by decide
  refine ⟨_,rfl,cF (Nn rfl (gJ (r:=.l .fresh ((LG v w (k + 1)).map aM)) ?_ rfl (Im rfl rfl rfl (by simp only [Tp];omega) ⟨_,rfl,some (.d (.int k)),?_⟩)))⟩
  ·refine (qv (xs:=LG v w k) (h:=aM) (h':=dP) (λ_=>prs v w) (λah q=>gb v w ah q) (λah q=>aM (ah++[q])) rfl (by omega) λah R7=>⟨by have:=Bf t;omega,λz=>rfl,λq hq=>⟨?_,λ_=>qo (two rfl (bF (aI rfl rfl bw) (by show 1<=1000;decide)) (CQ _ _ ?_)) ?_⟩⟩).trans ?_
   ·exact gj (c4 rfl rfl rfl rfl (OM v w ah q (qh k R7).2 (EM hq)))
   ·have:=(qh k R7).1;simp;omega
   ·show M.ok (D.tup (ah.map dP++[dP q]))=M.ok (D.tup ((ah++[q]).map dP));rw [Ue];rfl
   ·show M.ok (R.l .fresh _)=_;show _=M.ok (R.l .fresh (((LG v w k).flatMap λah=>((prs v w).filter (gb v w ah)).map λq=>ah++[q]).map aM));rw [Xx];simp only [Uj];rfl
  ·show _=[_,_,_,_,_,_,_,some (S.own ((told v w k++LG v w (k + 1)).map aM)),_];rw [Ue];rfl
 ·rintro _ ⟨x,rfl⟩;exact bC rfl rfl rfl
theorem allM {α:Type}(f:α->Bool) (xs:List α):sA [.l .fresh (xs.map λx=>.bl (f x))]=.ok (.d (.bl (xs.all f))):=by
 have:=all_map (λd=>match d with
  | .bl b=>b
  | _=>false) (xs.map λx=>.bl (f x))
 rw [Uj,Zf] at this;exact this
theorem jP:fH [.d .non]=.ok (.d (aM [])):=rfl
theorem yU:∀{xs ys:List Bool},cC (xs.map D.bl) (ys.map D.bl)=true↔xs=ys
 | [],[]=>by simp [cC]
 | [],_::_=>by simp [cC]
 | _::_,[]=>by simp [cC]
 | x::xs,y::ys=>by rw [TV,TV,g6,Tt,yU];simp [aZ]
structure sW (v w:Wd) (p q:Nat×Nat):Prop where
 eq:p.1=q.1↔p.2=q.2
 ms:v.ms.map (λr=>decide (p.1∈r.2))=w.ms.map λr=>decide (p.2∈r.2)
 ar:v.ar.map (λr=>decide ((p.1,q.1)∈r.2))=w.ar.map λr=>decide ((p.2,q.2)∈r.2)
theorem kI (v w:Wd) (p q:Nat×Nat):iT v w p q=true↔sW v w p q:=by
 have e:iT v w p q=((p.1 == q.1) == (p.2 == q.2) && (cC ((v.ms.map λr=>decide (p.1∈r.2)).map D.bl) ((w.ms.map λr=>decide (p.2∈r.2)).map D.bl) && (cC ((v.ar.map λr=>decide ((p.1,q.1)∈r.2)).map D.bl) ((w.ar.map λr=>decide ((p.2,q.2)∈r.2)).map D.bl) && true))):=by unfold iT eG;rw [kL,g6,g6,g6,kL,kL,cC];simp only [K55.inN,K55.LO,Uj,K55.tU];rfl
 rw [e,Tt,Tt,Tt,yU,yU];have e1:((p.1 == q.1) == (p.2 == q.2))=true↔(p.1=q.1↔p.2=q.2):=by rw [beq_iff_eq,Uw,beq_iff_eq,beq_iff_eq]
 rw [e1];exact ⟨λ⟨a,b,c,_⟩=>⟨a,b,c⟩,λ⟨a,b,c⟩=>⟨a,b,c,rfl⟩⟩
theorem Mj {p q:Nat×Nat}(h:rL p q=false):q.1 < p.1\/(q.1=p.1/\q.2 < p.2):=by
 unfold rL at h;rw [kB] at h;by_cases c:(p.1:Int)=q.1
 ·rw [if_pos c,kB] at h;by_cases c2:(p.2:Int)=q.2
  ·rw [if_pos c2,oJ] at h;cases h
  ·rw [if_neg c2,decide_eq_false_iff_not] at h;exact .inr ⟨by omega,by omega⟩
 ·rw [if_neg c,decide_eq_false_iff_not] at h;exact .inl (by omega)
theorem Mi {p q:Nat×Nat}(h:q.1 < p.1):rL p q=false:=by unfold rL;rw [kB,if_neg (by omega),decide_eq_false_iff_not];omega
structure Good (v w:Wd) (ps:List (Nat×Nat)):Prop where
 up:ps.Pairwise λp q=>p.1 < q.1
 ag:∀p∈ps,∀q∈ps,sW v w p q
 rg:∀p∈ps,lH v w p
theorem vj {α:Type}{ps:List α}{l:α}(h:ps.getLast?=some l):∃rs,ps=rs++[l]:=by
 rcases Wk ps with rfl | ⟨ys,y,rfl⟩
 ·cases h
 ·rw [Wl] at h ⊢;rw [aaF] at h;cases h;exact ⟨ys,rfl⟩
theorem vq:p∈prs v w↔lH v w p/\sW v w p p:=by unfold prs;rw [Uq,k6,kI];exact ad5
theorem zd {v w:Wd}{ps:List (Nat×Nat)}(g:Good v w ps){q:Nat×Nat}(hq:q∈prs v w):gb v w ps q=true↔Good v w (ps++[q]):=by
 obtain ⟨h1,h2⟩:=vq.mp hq;unfold gb;rw [Tt,T8];constructor
 ·rintro ⟨a,b⟩;have ag:∀r∈ps,sW v w q r/\sW v w r q:=λr hr=>by have:=b r hr;rw [Tt,kI,kI] at this;exact this
  have lt:∀r∈ps,r.1 < q.1:=by
   cases e:ps.getLast? with
   | none=>rw [Zk.mp e];exact λ_ h=>by cases h
   | some l=>
    rw [e] at a;have hl:l.1 < q.1:=by
     obtain ⟨rs,rfl⟩:=vj e;rcases Mj (by simpa using a) with h | ⟨h,h'⟩
     ·exact h
     ·have:=(ag l (by simp)).1.eq;omega
    obtain ⟨rs,rfl⟩:=vj e;intro r hr;rcases Ub.mp hr with h | h
    ·have:=(Wv.mp g.up).2.2 r h l (by simp);omega
    ·rw [TL.mp h];exact hl
  refine ⟨Wv.mpr ⟨g.up,Vs _ _,λr hr x hx=>by rw [TL.mp hx];exact lt r hr⟩,λr hr x hx=>?_,λr hr=>?_⟩
  ·rcases Ub.mp hr with hr | hr <;> rcases Ub.mp hx with hx | hx
   ·exact g.ag r hr x hx
   ·rw [TL.mp hx];exact (ag r hr).2
   ·rw [TL.mp hr];exact (ag x hx).1
   ·rw [TL.mp hr,TL.mp hx];exact h2
  ·rcases Ub.mp hr with hr | hr
   ·exact g.rg r hr
   ·rw [TL.mp hr];exact h1
 ·intro h;refine ⟨?_,λr hr=>?_⟩
  ·cases e:ps.getLast? with
   | none=>rfl
   | some l=>
    have hl:l∈ps:=by obtain ⟨rs,rfl⟩:=vj e;simp
    have:=(Wv.mp h.up).2.2 l hl q (by simp);show (!rL q l)=true;rw [Mi this];rfl
  ·rw [Tt,kI,kI];exact ⟨h.ag q (by simp) r (by simp [hr]),h.ag r (by simp [hr]) q (by simp)⟩
theorem e_:∀(j:Nat){ps:List (Nat×Nat)},ps∈LG v w j↔ps.length=j/\Good v w ps
 | 0,ps=>by
  constructor
  ·intro h;rw [show ps=[] from TL.mp h];exact ⟨rfl,.nil,(λ_ h=>nomatch h),(λ_ h=>nomatch h)⟩
  ·rintro ⟨h,_⟩;rw [V2.mp h];exact TL.mpr rfl
 | j + 1,ps=>by
  constructor
  ·intro h;obtain ⟨ah,h1,h2⟩:=VR.mp h;obtain ⟨q,h3,rfl⟩:=Tr.mp h2;obtain ⟨l,g⟩:=(e_ j).mp h1;obtain ⟨h4,h5⟩:=Uq.mp h3;exact ⟨by rw [TQ,l];rfl,(zd g h4).mp h5⟩
  ·rintro ⟨h,g⟩;rcases Wk ps with rfl | ⟨ah,q,rfl⟩
   ·cases h
   ·rw [Wl] at h g ⊢;have ga:Good v w ah:=⟨(Wv.mp g.up).1,λp hp x hx=>g.ag p (by simp [hp]) x (by simp [hx]),λp hp=>g.rg p (by simp [hp])⟩;have hq:q∈prs v w:=vq.mpr ⟨g.rg q (by simp),g.ag q (by simp) q (by simp)⟩;exact VR.mpr ⟨ah,(e_ j).mpr ⟨by simpa using h,ga⟩,Tr.mpr ⟨q,Uq.mpr ⟨hq,(zd ga hq).mpr g⟩,rfl⟩⟩
theorem Ip (a b:Nat):eE (dN a) (dN b)=true↔a < b:=by rw [mV,decide_eq_true_eq];omega
theorem Ct (a b:Nat×Nat):eE (dP a) (dP b)=true↔rM a b:=by
 have e:eE (dP a) (dP b)=ir [dN a.1,dN a.2] [dN b.1,dN b.2]:=rfl;rw [e,jA,K55.tU];unfold rM;by_cases c:a.1=b.1
 ·rw [if_pos (by simpa using c),jA,K55.tU];by_cases c2:a.2=b.2
  ·rw [if_pos (by simpa using c2)];constructor
   ·intro h;cases h
   ·intro h;omega
  ·rw [if_neg (by simpa using c2)];rw [show eE (D.int a.2) (D.int b.2)=eE (dN a.2) (dN b.2) from rfl,Ip];omega
 ·rw [if_neg (by simpa using c)];rw [show eE (D.int a.1) (D.int b.1)=eE (dN a.1) (dN b.1) from rfl,Ip];omega
theorem Mk {α β:Type}{f:α->β}{xs:List α}(nd:xs.Nodup) (inj:∀a∈xs,∀b∈xs,f a=f b->a=b):(xs.map f).Nodup:=by refine U9.mpr ((Yx.mp nd).imp ?_);rintro a b ⟨ha,hb,h⟩ e;exact h (inj a ha b hb e)
end K23
namespace DL
open PySem PySem.Spec PyProof.Rows L2 DX
section
variable {X:Cx}{c:C}{e ke a b:Uo}{g gk ga gb:G R}{pos:Pos}
noncomputable def N4 (K:Tg):BJ:=λo i v H Q=>∃J p ks vs kxs d,aS J H/\o=.ref p/\dI K J H p ks vs/\c6 (.tup kxs)=true/\Rep K J (.tup kxs) i/\Rep K J d v/\ks.length<=sizeLine/\∀o,dI K J (upd H p o) p (dput (ks,vs) (.tup kxs) d).1 (dput (ks,vs) (.tup kxs) d).2->Q (upd H p o)
theorem set_dict (hu:X.A.units + 64 < Vm):Le X (N4 X.K):=by
 intro S6 s σ H o i v ov iv u Q I ro ri rv h;obtain ⟨J,p,ks,vs,kxs,d,sm,rfl,hd,ok,rk,rd,hl,q⟩:=h;obtain ⟨_,_,k1,k2⟩:=g8 ok;obtain ⟨r,rfl⟩:∃r,i=.ref r:=by cases rk;exact ⟨_,rfl⟩
 cases ro;cases ri;obtain ⟨xs,hm,lx,put⟩:=Bh I sm hd;refine wpAny_setItem_heap (knd:=mw X.prog X.w) (k:=⟨.tup kxs,k1,k2⟩) (show X.A.units + 1 + 16 < Vm by omega) (jG (HF.of (c:=⟨X.K,H,H,λ_=>True⟩) I sm) k1 rk) hm (λh' hm' sb=>?_) (by rw [lx];exact hl);obtain ⟨o,W,hd,_⟩:=put k1 k2 rk rd rv h' _ hm' sb;exact ⟨_,W,q o hd⟩
noncomputable def vc (i:Nat) (gk g:G R):G O:=λenv=>match env[i]? with
 | some (some (.dk ks vs))=>g env >>= λr=>toD r >>= λd=>gk env >>= λr2=>toD r2 >>= λk=>if c6 k=true/\ks.length<=1000000 then .ok (.nx (env.set i (some (.dk (dput (ks,vs) k d).1 (dput (ks,vs) k d).2)))) else .bad
 | _=>.bad
theorem DS {prog:TU}{w:Uk}{K:Type} [DecidableEq K] {knd:HeapKind prog w K}{A:Um}{E:Ti->Tj->Prop}{s:Tj}{d a:T3}{k:K}{xs:List (K×T3×Ti)}{Q:Bool->Tj->Prop}(hu:knd.room A.in1) (hkey:knd.is s.heap k a) (hd:(d == V8)=false)
  (hm:s.heap.DictOfH knd d xs) (h:Q (adu xs k).isSome {s with toks:=s.toks + knd.draws k}):TX (T5 prog w) A (contains (.ref d) (.ref a)) Q E s:=by
 refine wpAny_contains_slot hm.typeIs abd (Uy abd hm.typeIs entry_dict_contains ?_ (args_dict_contains _ _));show TX _ _ (dictGet d (.ref a) >>= λ_=>_) _ _ s;refine Tf (wpAny_dictGet_heap hu hkey hm ?_);cases q:adu xs k with
 | some p=>rw [q] at h;exact Th ⟨_,rfl,UM h⟩
 | none=>rw [q] at h;exact Tf (wpAny_pendingKey_other hd (Th ⟨_,rfl,UM h⟩))
noncomputable def G_ (K:Tg) (neg:Bool):R2:=λx y H Q=>∃J p ks vs k,aS J H/\y=.ref p/\dI K J H p ks vs/\Rep K J k x/\c6 k=true/\Q (.bl (if neg then !(gq ks vs k).isSome else (gq ks vs k).isSome)) H
theorem FY (hu:X.A.units + 64 < Vm){S6:List (T3×Obj)}{s:Tj}{σ:L2.St}{H:Hp}{x y:V}{v u:Ti}{Q:VK}{neg:Bool}(I:Inv X S6 σ H s) (rx:RelV x v) (ry:RelV y u) (h:G_ X.K neg x y H Q):TX (T5 X.prog X.w) X.A (contains u v) (λr s'=>EP X S6 σ Q (.bool (if neg then !r else r)) s') X.xe s:=by
 obtain ⟨J,p,ks,vs,k,sm,rfl,hd,hk,ok,q⟩:=h;have F:HF X.K J s:=HF.of (c:=⟨X.K,H,H,λ_=>True⟩) I sm;obtain ⟨kx,rfl,k1,k2⟩:=g8 ok;obtain ⟨r,rfl⟩:∃r,x=.ref r:=by cases hk;exact ⟨_,rfl⟩
 cases rx;cases ry;obtain ⟨xs,us,ws,hm,e2,_,hv,e4,_,hsm⟩:=nE (P:=X.prog) (w:=X.w) F (fN I) hd;have e:(adu xs ⟨.tup kx,k1,k2⟩).isSome=(gq ks vs (.tup kx)).isSome:=by
  obtain ⟨l1,l2⟩:=tH (K:=X.K) (J:=J) ⟨.tup kx,k1,k2⟩ e2 hv e4;cases z:gq ks vs (.tup kx) with
  | some d=>obtain ⟨p,_,e,_⟩:=l1 d z;rw [e];rfl
  | none=>rw [l2 z];rfl
 exact DS (k:=⟨.tup kx,k1,k2⟩) (show X.A.units + 1 + 16 < Vm by omega) (jG F k1 hk) hsm hm ⟨.bl _,H,I.tok _,by rw [e];rfl,q⟩
theorem Ez (hu:X.A.units + 64 < Vm):cS X (Vi .In) (G_ X.K false):=λS6 s σ H x y v u Q I rx ry h=>Tf (UD (FY hu I rx ry h) (λ_ _ h=>Th h) λ_ _ f=>f)
noncomputable def nK (neg:Bool) (x y:R):M R:=match oz y,x with
 | some z,.d k=>if c6 k=true then .ok (.d (.bl (if neg then !(gq z.1 z.2 k).isSome else (gq z.1 z.2 k).isSome))) else .bad
 | _,_=>.bad
theorem Dr (neg:Bool) (hK:X.K=c.K):BD c (G_ X.K neg) (nK neg):=by
 intro He He' J H x y u v Q hp rx ry w;unfold nK at w;split at w
 ·rename_i hz;obtain ⟨p,rfl,hd⟩:=ry.dk hp hz;split at w
  ·rename_i ok;exact ⟨J,p,_,_,_,hp.sub,rfl,by rw [hK];exact hd,by rw [hK];exact rx,ok,w _ J H (Ext.refl hp.sub) (.bl _)⟩
  ·exact w.elim
 ·exact w.elim
theorem G2 (i:Nat){x:Str}{p1 p2:Pos}(hu:X.A.units + 64 < Vm) (h:QD X c e g) (hk:QD X c ke gk) (hN:X.N[i]?=some x:=by rfl) (hv:qY X.env.scope x:=by first | exact Yu rfl | exact WV (Yu rfl) | exact WV (WV rfl)) (hd:(x == ("__debug__":Str))=false:=by decide)
  (hcd:(x == ("__classdict__":Str))=false:=by decide)
  (ha:∀v,assign (.Subscript (.Name x p1) ke p2) X.env v=(do
   let ov <-holding [v] (eval (.Name x p1) X.env)
   let iv <-holding [v,ov] (eval ke X.env)
   W6 p2
   (holding [v,ov,iv] (setItem ov iv v))
   release [v,ov,iv] []):=by intro _;rfl)
  (hs:Zz [.Subscript (.Name x p1) ke p2] e pos.line X.env=pure false:=by rfl) (hw:aaY [.Subscript (.Name x p1) ke p2] e X.env=pure none:=by rfl)
  (h1:(Wx [.Subscript (.Name x p1) ke p2] X.env).map (·.2)=[assign (.Subscript (.Name x p1) ke p2) X.env]:=by rfl) (hK:X.K=c.K:=by rfl):
  jo X c (.Assign [.Subscript (.Name x p1) ke p2] e pos) (vc i gk g):=have h:=h.h;have hk:=hk.h;⟨
 iH (EN h (MI (k8 hN hv hd hcd) hk (set_dict hu) ha) hs hw h1) λE σ H ⟨J,env,sr,w⟩=>by
  unfold vc at w;split at w
  ·rename_i ks vs hi;obtain ⟨v,q1,p,rfl,h2,h3,h4⟩:=sr.at_ i _ hi;refine ⟨J,env,sr,aD (aH w) λr wr y J1 H1 e1 r1=>?_⟩;obtain ⟨d,q,wr⟩:=i6 wr;obtain ⟨J2,e2,s2,rd⟩:=freeze e1 r1 q;refine ⟨.ref p,q1,?_⟩;refine ⟨J2,env,sr.ext e2,aD (aH wr) λrk wk vk J3 H3 e3 r3=>?_⟩;obtain ⟨k,qk,wk⟩:=i6 wk;obtain ⟨J4,e4,s4,rk⟩:=freeze e3 r3 qk;have e5:=e2.trans e4;split at wk
   ·rename_i ok;obtain ⟨kxs,rfl,_⟩:=g8 ok.1;have h2':=h2.mono e5.j e5.h;have h3':=e5.frz p h2.ne h3;refine ⟨J4,p,ks,vs,kxs,d,e5.sub,rfl,by rw [hK];exact h2',ok.1,by rw [hK];exact rk,by rw [hK];exact rd.mono e4.j,T6 ok.2 (by decide),λo ho=>?_⟩;rw [hK] at ho;exact wk σ J4 _ e5.j ((sr.ext e5).updM (x:=.inr (ks,vs)) (y:=.inr (dput (ks,vs) (.tup kxs) d)) hi q1 h3' h4 ⟨p,rfl,ho,h3',h4⟩)
   ·exact wk.elim
  ·exact w.elim⟩
theorem Ku (hu:X.A.units + 64 < Vm) (ha:QD X c a ga) (hb:QD X c b gb) (hK:X.K=c.K:=by rfl) (hm:UZ .In b=false:=by rfl):QD X c (.Compare a [.In] [b] pos) (g2 (nK false) ga gb):=⟨pS (Ez hu) (Dr false hK) ha.h hb.h hm⟩
theorem Ko (hu:X.A.units + 64 < Vm) (ha:QD X c a ga) (hb:QD X c b gb) (hK:X.K=c.K:=by rfl) (hm:UZ .In b=false:=by rfl):QB X c (.Compare a [.In] [b] pos) (bG (g2 (nK false) ga gb)):=⟨jk (Ez hu) (Dr false hK) ha.h hb.h hm⟩
end
end DL
namespace K22
open PySem DL
end K22
namespace K22
open PySem DL K01 WP K51 K52 K55 K23
section
variable {env:Ev}{tg:GT}{u t:G O}{α:Type}{h:α->D}{Q:O->Prop}{gi:G (List D)}
theorem w_all (I:Ev->Prop) (f:α->Bool):∀(xs:List α) (env:Ev),I env->(∀x∈xs,∀env,I env->∃e,tg (h x) env=.ok e/\Wp (u e) λo=>(f x=true/\∃e',o=.nx e'/\I e')\/(f x=false/\o=.rt (.d (.bl false))))->
  Wp (dG tg u (xs.map h) env) λo=>(xs.all f=true/\∃e',o=.nx e'/\I e')\/(xs.all f=false/\o=.rt (.d (.bl false)))
 | [],env,hI,_=>⟨.nx env,rfl,.inl ⟨rfl,env,rfl,hI⟩⟩
 | x::xs,env,hI,step=>by
  obtain ⟨e,h1,o,ho,hP⟩:=step x Tu env hI;rw [TV,Wi];show Wp (tg (h x) env >>= _) _;rw [h1,aL,ho,aL];rcases hP with ⟨hf,e',rfl,hI'⟩ | ⟨hf,rfl⟩
  ·rw [hf,Xj];exact w_all I f xs e' hI' λx hx=>step x (Tq _ hx)
  ·rw [hf];exact ⟨_,rfl,.inr ⟨rfl,rfl⟩⟩
theorem IC (I:Ev->Prop) (f:α->Bool) (xs:List α) (hg:gi env=.ok (xs.map h)) (h0:I env) (step:∀x∈xs,∀env,I env->∃e,tg (h x) env=.ok e/\Wp (u e) λo=>(f x=true/\∃e',o=.nx e'/\I e')\/(f x=false/\o=.rt (.d (.bl false))))
  (k1:xs.all f=true->∀e,I e->Wp (t e) Q) (k2:xs.all f=false->Q (.rt (.d (.bl false)))):Wp (aK (cG gi tg u) t env) Q:=by
 refine dH hg ((w_all I f xs env h0 step).mono ?_);rintro o (⟨z,e,rfl,hI⟩ | ⟨z,rfl⟩)
 ·exact k1 z e hI
 ·exact k2 z
theorem Il (I:Ev->Prop) (f:α->Bool) (xs:List α) (hg:gi env=.ok (xs.map h)) (h0:I env) (step:∀x∈xs,∀env,I env->∃e,tg (h x) env=.ok e/\Wp (u e) λo=>(f x=true/\∃e',o=.nx e'/\I e')\/(f x=false/\o=.rt (.d (.bl false)))):
  Wp (cG gi tg u env) λo=>(xs.all f=true/\∃e',o=.nx e'/\I e')\/(xs.all f=false/\o=.rt (.d (.bl false))):=uo hg (w_all I f xs env h0 step)
end
theorem B5 (neg a b:Bool):cT neg (.d (.bl a)) (.d (.bl b))=.ok (.d (.bl (if neg then !(a == b) else a == b))):=by cases neg <;> cases a <;> cases b <;> rfl
def mB (v w:Wd) (p:Nat×Nat):Bool:=(v.ms.zip w.ms).all λr=>decide (p.1∈r.1.2) == decide (p.2∈r.2.2)
def aB (v w:Wd) (p q:Nat×Nat):Bool:=(v.ar.zip w.ar).all λr=>decide ((p.1,q.1)∈r.1.2) == decide ((p.2,q.2)∈r.2.2)
def eB (p q:Nat×Nat):Bool:=(p.1 == q.1) == (p.2 == q.2)
def jY (v w:Wd) (ps:List (Nat×Nat)):Bool:=ps.all λp=>mB v w p && ps.all λq=>eB p q && aB v w p q
theorem nj {α β:Type}(f:α->Bool) (g:β->Bool):∀{xs:List α}{ys:List β},xs.length=ys.length->(((xs.zip ys).all λr=>f r.1 == g r.2)=true↔xs.map f=ys.map g)
 | [],[],_=>by simp
 | x::xs,y::ys,h=>by have ih:=nj f g (xs:=xs) (ys:=ys) (by simpa using h);rw [XN,Wi,Tt,ih,TV,TV,aey,beq_iff_eq]
theorem Jo {v w:Wd}(t:Pr v w) (ps:List (Nat×Nat)):jY v w ps=true↔∀p∈ps,∀q∈ps,sW v w p q:=by
 have l1:v.ms.length=w.ms.length:=by have:=congrArg Vo t.mn;simpa using this
 have l2:v.ar.length=w.ar.length:=by have:=congrArg Vo t.an;simpa using this
 have e1:∀p q:Nat×Nat,eB p q=true↔(p.1=q.1↔p.2=q.2):=λp q=>by unfold eB;rw [beq_iff_eq,Uw,beq_iff_eq,beq_iff_eq]
 unfold jY;rw [T8];constructor
 ·intro h p hp q hq;have h1:=h p hp;rw [Tt,T8] at h1;have h2:=h1.2 q hq;rw [Tt] at h2;exact ⟨(e1 p q).mp h2.1,(nj (λr:Str×List Nat=>decide (p.1∈r.2)) (λr:Str×List Nat=>decide (p.2∈r.2)) l1).mp h1.1,(nj (λr:Str×List (Nat×Nat)=>decide ((p.1,q.1)∈r.2)) (λr:Str×List (Nat×Nat)=>decide ((p.2,q.2)∈r.2)) l2).mp h2.2⟩
 ·intro h p hp;rw [Tt,T8];refine ⟨(nj (λr:Str×List Nat=>decide (p.1∈r.2)) (λr:Str×List Nat=>decide (p.2∈r.2)) l1).mpr (h p hp p hp).ms,λq hq=>?_⟩;rw [Tt];exact ⟨(e1 p q).mpr (h p hp q hq).eq,(nj (λr:Str×List (Nat×Nat)=>decide ((p.1,q.1)∈r.2)) (λr:Str×List (Nat×Nat)=>decide ((p.2,q.2)∈r.2)) l2).mpr (h p hp q hq).ar⟩
theorem dW (ps:List (Nat×Nat)):c6 (aM ps)=true:=by
 have h1:∀qs:List (Nat×Nat),areKeys (qs.map dP)=true:=λqs=>by
  induction qs with
  | nil=>rfl
  | cons q qs ih=>rw [TV];unfold areKeys;rw [ih];rfl
 have h2:deps (ps.map dP)<=1:=fK λx hx=>by obtain ⟨q,_,rfl⟩:=Tr.mp hx;exact Tv _
 show (areKeys (ps.map dP) && decide (deps (ps.map dP) + 1<=8))=true;rw [h1,decide_eq_true (by omega)];rfl
section
variable {env:Ev}{g gk:G R}{r r2:R}{u:G O}{Q:O->Prop}{i:Nat}
theorem NI {ks vs:List D}(h0:env[i]?=some (some (.dk ks vs))) (h:g env=.ok r) (h2:toD r=.ok d) (h3:gk env=.ok r2) (h4:toD r2=.ok k) (ok:c6 k=true) (hl:ks.length<=1000000) (q:Q (.nx (env.set i (some (.dk (dput (ks,vs) k d).1 (dput (ks,vs) k d).2))))):Wp (vc i gk g env) Q:=by refine ⟨_,?_,q⟩;unfold vc;rw [h0];simp only;rw [h,aL,h2,aL,h3,aL,h4,aL,if_pos ⟨ok,hl⟩]
theorem JT {a b:G R}(h:a env=.ok (.d (.bl true))):j3 a b env=.ok (.d (.bl true)):=by unfold j3;rw [h];rfl
theorem Mx {a b:G R}(h:a env=.ok (.d (.bl false))) (h2:b env=.ok r):j3 a b env=.ok r:=by unfold j3;rw [h];exact h2
theorem zE {a b:G Bool}(h1:a env=.ok false) (h2:b env=.ok k):oB a b env=.ok k:=by unfold oB;rw [h1];exact h2
end
theorem MO (ps:List (Nat×Nat)):dep (aM ps)<=60:=by
 have h2:deps (ps.map dP)<=1:=fK λx hx=>by obtain ⟨q,_,rfl⟩:=Tr.mp hx;exact Tv _
 show deps (ps.map dP) + 1<=60;omega
end K22
namespace DL
open PySem PySem.Spec PyProof.Rows L2 DX
section
variable {X:Cx}{c:C}
noncomputable def eH (n:Nat) (cap:List Nat) (gi:G (List D)) (gt:GT) (gts:G Bool) (gk gv:G R):G R:=iD 1000000 n cap gi gt gts (nt gk gv) (λys=>.ok (.mf (g_ ys).1 (g_ ys).2))
theorem Ou (kx vx t0 i0:Uo) (f0:List Uo) (S5:W5) (pos:Pos) (it:Ti) (p:T3) (env:Env):
  Yp (.DictComp kx vx [⟨t0,i0,f0,0⟩] S5 pos) 0 it (.ref p) env=l7 t0 i0 f0 it env (CB kx vx p env) (again (.compLoop (.DictComp kx vx [⟨t0,i0,f0,0⟩] S5 pos) 0 it (.ref p) env)):=by rfl
theorem u7 (hu:X.A.units + 64 < Vm) (own:List Str) (cap:List Nat){kx vx t0 i0:Uo}{f0:List Uo}{S5:W5}{pos:Pos}{gi0:G (List D)}{gt0:GT}{gts0:G Bool}{gk gv:G R}(hi:vV X c t0 i0 gi0)
  (hbody:∀(cl:List (Str×T3)) (C:T3) (s:Tj) (H:Hp) (fp:List T3),dD X.env.cells S5.names []=some cl->o8 (cR X own cap S5 cl C s H fp) c t0 gt0/\o7 (cR X own cap S5 cl C s H fp) c f0 gts0/\QD (cR X own cap S5 cl C s H fp) c kx gk/\QD (cR X own cap S5 cl C s H fp) c vx gv) (a:Az X S5 cap i0:=by exact tP rfl) (hK:X.K=c.K:=by rfl):
  qe X c (.DictComp kx vx [⟨t0,i0,f0,0⟩] S5 pos) (eH own.length cap gi0 gt0 gts0 gk gv):=by
 refine ⟨_,?_,rfl,λ_=>rfl⟩;refine nC (e:=.DictComp kx vx [⟨t0,i0,f0,0⟩] S5 pos) (ob:={cls:=.type "dict",data:=.dict #[]}) (o0:=λa=>iA a 0 []) (Acc:=BK c) (N:=1) (lim:=1000000) (m:=λp env=>CB kx vx p env) own cap rfl hi.h
  (λs Q E q=>Ui q) (λh H=>⟨⟨_,#[],TH _ rfl,⟨rfl,rfl,rfl⟩,rfl,.nil⟩,⟨_,TH _ rfl⟩,λh1 h2 ⟨o,es,a1,a2⟩ e=>⟨o,es,e o a1,a2⟩⟩) (λp=>sf) (λp J H hsm h1 h2=>⟨⟨[],[],0,h1,.nil,.nil,⟨rfl,WY,Uc _,λ_ h=>(nomatch h)⟩,beq_eq_false_iff_ne.mpr (VG (Ua hsm)),rfl⟩,h2,Tv _⟩) (by decide) (λit p env=>Cp (Ou ..)) (λit acc env R s h0 h=>Z2 h0 h) (λys z q=>by cases q)
  (fun {p J H J' H' ys r} hp e ⟨h1,h2,h8⟩ q=>by cases q;exact ⟨J',e,⟨p,rfl,h1,h2,hp⟩⟩) (λcl C s H fp hcc=>?_) a
 obtain ⟨b1,b2,b3,b4⟩:=hbody cl C s H fp hcc;exact ⟨b1.h,b2.h,λp J2 H2 hp2 hp0=>AL hu hK (λ_ _ f=>f) hp2 hp0 b3.h b4.h⟩
end
end DL
namespace DL
open PySem PySem.Spec PyProof.Rows L2 DX
open Sem (wp)
section
variable {prog:TU}{w:Uk}{A:Um}{E:Ti->Tj->Prop}{s:Tj}{d it:T3}{o:Obj}{es:Array Zp}{ep i:Nat}
theorem Gh {Q:Ti->Tj->Prop}(hd:(d == V8)=false) (ho:s.heap.get? d=some o) (hc:o.ExactDict) (hdat:o.data=.dict es ep)
  (hQ:Q (.ref s.heap.objs.size) {s with heap:=s.heap.push {cls:=.type "dict_keyiterator",data:=.fields #[.ref d,.int 0 0,.int es.size 0,.int ep 0]}}):TX (T5 prog w) A (Zd (.ref d)) Q E s:=by have hT:s.TypeIs (.ref d) "dict":=⟨o,ho,hc.1⟩;refine Ym hT abY (Uy abY hT F.entry_dict_iter ?_ (F.args_dict_iter_1 _));unfold WZ.«dict.__iter__»;refine Tf ?_;unfold acO;refine Tf (aap hT (Th ?_));show TX _ _ (Bind.bind (Xb d) _) _ _ s;unfold Xb;rw [if_neg (by rw [hd];decide)];refine Tf (Th (Tf (WH ho hdat (Tf (Xc ho hdat ?_)))));exact Tf (Ui (Th ⟨_,rfl,"dict_keyiterator",_,⟨_,TH _ rfl,rfl⟩,Vq.lookup,by simpa [ZP] using hQ⟩))
theorem GA {Q:Option Ti->Tj->Prop}(hit:s.heap.IsKeyIter it d i es.size ep) (hod:s.heap.get? d=some o) (QH:o.data=.dict es ep) (hi:i < es.size)
  (hQ:∀h',h'.IsKeyIter it d (i + 1) es.size ep->Vu it s.heap h'->Q (some es[i].key) {s with heap:=h'}):TX (T5 prog w) A (W7 (.ref it)) Q E s:=by
 obtain ⟨oi,ho,hc,hd⟩:=id hit;unfold W7;refine Tf (Wh (UT (name:=W9 "__next__") hit.typeIs Vq (Uy Vq hit.typeIs YH ?_ (Yz _))));refine Tf (Th (Tf (Tf ?_)));refine Tf (VS hit.typeIs (Th (Tf (Xs ho hd ?_))));have hown:Vr "dict_keyiterator"=false:=by decide
 simp only [hown,TJ,if_false];show TX _ _ (ite ((Ww d == Ux)=true) _ _) _ _ s;rw [if_neg (show ¬((Ww d == Ux)=true) from T_)];refine Tf (Th (Tf (WH hod QH ?_)));rw [if_neg (by simp)];refine Tf (Th (Tf (Xc hod QH ?_)));rw [if_neg (by simp)];refine Th ?_;simp only [show ¬((i:Int) < 0) from by omega,if_false,U8,VF hi];refine Tf (Tf (VS hit.typeIs (Th ?_)));refine Tf (aaq hit.typeIs ?_);refine Tf (m:=adv (.ref it) 1 (ZP ((i:Int) + 1))) (Zl ho hd (by simp) ?_);have QY:(s.heap.update it (YO (·.setIfInBounds 1 (ZP ((i:Int) + 1))))).IsKeyIter it d (i + 1) es.size ep:=⟨_,UQ _ ho (aar (XY hd _)),(abB ..).trans hc,by rw [XY hd];simp [ZP]⟩;refine Tf (Ul (Tf (aaq (s:={s with heap:=s.heap.update it (YO (·.setIfInBounds 1 (ZP ((i:Int) + 1))))}) QY.typeIs ?_)));exact Th (Th ⟨_,rfl,Th (hQ _ QY (VC ..))⟩)
theorem Jk {Q:Option Ti->Tj->Prop}(hh:A.handled=none) (hit:s.heap.IsKeyIter it d i es.size ep) (hod:s.heap.get? d=some o) (QH:o.data=.dict es ep) (hi:es.size<=i)
  (hQ:∀h',acm it s.heap h'->Q none {s with heap:=h'}):TX (T5 prog w) A (W7 (.ref it)) Q E s:=by
 obtain ⟨oi,ho,hc,hd⟩:=id hit;unfold W7;refine Tf (Wh (UT (name:=W9 "__next__") hit.typeIs Vq (Uy Vq hit.typeIs YH ?_ (Yz _))));refine Tf (Th (Tf (Tf ?_)));refine Tf (VS hit.typeIs (Th (Tf (Xs ho hd ?_))));have hown:Vr "dict_keyiterator"=false:=by decide
 simp only [hown,TJ,if_false];show TX _ _ (ite ((Ww d == Ux)=true) _ _) _ _ s;rw [if_neg (show ¬((Ww d == Ux)=true) from T_)];refine Tf (Th (Tf (WH hod QH ?_)));rw [if_neg (by simp)];refine Tf (Th (Tf (Xc hod QH ?_)));rw [if_neg (by simp)];refine Th ?_;simp only [show ¬((i:Int) < 0) from by omega,if_false,U8,Z3 hi];refine Tf (Tf (VS hit.typeIs (Th ?_)));refine Tf (m:=adv (.ref it) 0 .none) (Zl ho hd (by simp) ?_);refine Tf (m:=aeh (.type "StopIteration") []) ?_;simp only [aeh,aei];refine Tf (Ui ?_ (by size_fits));refine Tf (m:=Xu _ _) (Yd (a:=Ux) (by first | rfl | (simp only [Xu];rfl)) (Ui ?_ (by size_fits)));simp only [aej];refine Tf (abb ?_);rw [show A.in1.handled=none from hh];refine Tf (Th (acn ?_));exact Tf (Xw (T:="StopIteration") (b:=true) ⟨_,TH _ rfl,rfl⟩ aaN (Th (hQ _ (((VC ..).extBut.push _).push _))))
end
end DL
namespace DL
open PySem PySem.Spec PyProof.Rows L2 DX
noncomputable def Ox (a:T3) (ep:Nat) (Td:List (Int×V×V)):It:=⟨λi H=>H a=some (iA a ep Td)/\i < Td.length,λi H x H'=>H'=H/\∃p,Td[i]?=some p/\x=p.2.1,λi H=>H a=some (iA a ep Td)/\Td.length<=i⟩
theorem pR {α β:Type}{F:α->β->Prop}:∀{xs:List α}{ys:List β}{i:Nat}(hi:i < ys.length),Zn F xs ys->∃p,xs[i]?=some p/\F p ys[i]
 | _,_,0,_,.cons h _=>⟨_,rfl,h⟩
 | _,_,i + 1,hi,.cons _ t=>pR (i:=i) (by simpa using hi) t
theorem HC {P:TU}{w:Uk}{K:Tg}{tg:Uo}(a it:T3) (ep:Nat) (Td:List (Int×V×V)):Turn P w K tg (Ox a ep Td) [it] it (λi h=>h.IsKeyIter it a i Td.length ep) where
 mem:=by simp
 obj:=λi h st b hb=>by cases TL.mp hb;obtain ⟨o,e,c,d⟩:=st;exact ⟨o,e,λv z=>by rw [d] at z;cases z⟩
 keep:=λi h h' st k=>st.at λo e=>k it (by simp) o e
 item:=by
  rintro X rfl rfl rfl hc i S6 s σ H E I hf st ⟨hq,hi⟩;obtain ⟨o,es,h1,h2,h3,h4⟩:=(show cj X.prog X.w H s.heap a (iA a ep Td) from I.hok a _ hq).1;have hl:Td.length=es.size:=by have:=h4.length;simpa using this
  obtain ⟨p,hp,er⟩:=pR (i:=i) (by simp;omega) h4;obtain ⟨f0,f1,f2,f3,f4,f5⟩:=hf it (by simp);refine GA (es:=es) (ep:=ep) (hl▸st) h1 h3 (by omega) λh' st' sb=>?_;have I1:Inv X S6 σ H {s with heap:=h'}:=I.turned (t':=s.toks) (λb o hb e=>(sb.2 b hb).trans e) f0 f1 f3 f4 f5;obtain ⟨oi,e,c,d⟩:=id st';exact ⟨_,rfl,ud (s:={s with heap:=h'}) e c d (by decide) ⟨p.2.1,H,I1,by simpa using er.2.1,⟨rfl,p,hp,rfl⟩,by rw [hl];exact st',λb hb=>(hf b hb).1⟩⟩
 done:=by
  rintro X rfl rfl rfl hc i S6 s σ H E I hf st ⟨hq,hi⟩;obtain ⟨o,es,h1,h2,h3,h4⟩:=(show cj X.prog X.w H s.heap a (iA a ep Td) from I.hok a _ hq).1;have hl:Td.length=es.size:=by have:=h4.length;simpa using this
  obtain ⟨f0,f1,f2,f3,f4,f5⟩:=hf it (by simp);exact Jk (es:=es) (ep:=ep) (I.ok.hd hc) (hl▸st) h1 h3 (by omega) λh' eb=>⟨rfl,I.turned (t':=s.toks) (λb o hb e=>eb b o hb e) f0 f1 f3 f4 f5⟩
 self:=λ_ _ _ _ _ st h=>wpAny_pyIter_keyiter st h
section
variable {X:Cx}{c:C}{e tg:Uo}{g:G R}
noncomputable def kX (g:G R):G (List D):=λenv=>g env >>= λr=>match oz r with
 | some z=>.ok z.1
 | none=>.bad
theorem MK {tl:TE}(hl:PE X e tl):PI X tg e (λσ H Q=>tl σ H λx H1=>∃a ep Td,x=.ref a/\(a == V8)=false/\H1 a=some (iA a ep Td)/\Q (Ox a ep Td) H1):=λS6 s σ H R I h=>bI (hl S6 s σ H _ I h) λv s1 ⟨x,H1,I1,r1,a,ep,Td,ex,hsm,hq,q⟩=>by
 subst ex;cases r1;obtain ⟨o,es,h1,h2,h3,h4⟩:=(show cj X.prog X.w H1 s1.heap a (iA a ep Td) from I1.hok a _ hq).1;have hl:Td.length=es.size:=by have:=h4.length;simpa using this
 refine Gh hsm h1 h2 h3 ⟨s1.heap.objs.size,[s1.heap.objs.size],_,_,H1,rfl,I1.kept (t':=s1.toks) (λb o e=>Tn _ e),HC a _ ep Td,⟨_,TH _ rfl,rfl,by rw [hl];rfl⟩,λb hb=>?_,q⟩;cases TL.mp hb;exact I1.fpOk (Tv _) (I1.hok.fresh (Tv _))
theorem iM (h:QD X c e g) (hK:X.K=c.K:=by rfl):vV X c tg e (kX g):=have h:=h.h;⟨nV (MK h) λσ H Q ⟨J,env,sr,w⟩=>by
 refine ⟨J,env,sr,aD (aH w) λr wr v J1 H1 e1 r1=>?_⟩;cases hz:oz r with
 | none=>rw [hz] at wr;exact wr.elim
 | some z=>
  rw [hz] at wr;obtain ⟨a,rfl,us,ws,ep,h1,h2,h3,h4,h5,h6⟩:=r1.dk (sr.hp.ext e1) hz;have hh:∀ds:List D,(bZ ds).length=ds.length:=λds=>by induction ds with
   | nil=>rfl
   | cons d ds ih=>show (bZ ds).length + 1=_;rw [ih];rfl
  have lk:((bZ z.1).zip (us.zip ws)).length=z.1.length:=by rw [Y8,Y8,hh,<-h2.length,<-h3.length,<-h6];omega
  refine ⟨a,ep,_,rfl,h5,h1,wr _ J1 H1 e1 λi J' H' hp u=>⟨λhl=>⟨u.2 _ _ h1,by omega⟩,λd hd=>?_⟩⟩;have hi:i < z.1.length:=(T7.mp hd).1;obtain ⟨x,k1,k2⟩:=h2.get hd;refine ⟨⟨u.2 _ _ h1,by omega⟩,λy H2 ⟨e,p,hp',hy⟩=>⟨J',by subst e;exact Ext.refl hp.sub,?_⟩⟩;have:p.2.1=x:=by rw [Wu,] at hp';have:=(Wu.mp hp'.2).1;rw [k1] at this;cases this;rfl
  rw [hy,this];exact k2.mono u.1⟩
end
end DL
namespace DL
open PySem PySem.Spec PyProof.Rows L2
section
variable {X:Cx}{c:C}{e:Uo}{es:List Uo}{g:G R}{pos p:Pos}{x y:Str}
def FF (K:Tg) (mg:Str->Option Ti) (x:Str):Prop:=∃f,Ur K Ug x=some (some (.ref f))/\mg x=some (.ref f)
noncomputable def y_ (y:Str) (F:List S->M R) (g:G R):G R:=λenv=>g env >>= λr=>match F [d7 r,.fn y] with
 | .ok r=>.ok (jq r)
 | _=>.bad
theorem zI {k k':Nat}{F:List S->M R}{q:Pos}(G:bz X.prog X.w X.K X.mg X.base k 2 x F) (hv:FF X.K X.mg y) (hr:cY k' X.A) (ha:QD X c e g) (hk:k<=k':=by decide) (hT:c.K=X.K:=by rfl) (hg:Gl X x:=by rfl) (Sw:Gl X y:=by rfl)
  (hdb:(x == ("__debug__":Str))=false:=by decide) (RC:(y == ("__debug__":Str))=false:=by decide) (he:TF [e,.Name y q] X.env=(false,eval e X.env)::TF [.Name y q] X.env:=by rfl) (Rn:TF [.Name y q] X.env=(false,eval (.Name y q) X.env)::TF [] X.env:=by rfl)
  (hpl:(U_ pos (TF [.Name y q] X.env)).any (·.1)=false:=by rfl):QD X c (.Call (.Name x p) [e,.Name y q] [] pos) (y_ y F g):=by obtain ⟨f,fd,ps,h1,h2,h3,h4⟩:=G;obtain ⟨f',h5,h6⟩:=hv;refine ⟨fC (vz (E:=E0) h1 (hr.mono hk) hg h2 h3 h4 .nil Cz (dM ha.h (dM (Be (v:=.ref f') Sw h6 rfl RC) gr Rn) he) hdb he hpl) λσ H Q ⟨J,env,sr,w⟩=>?_⟩;refine ⟨J,env,sr,aD (aH w) λr wr v J1 H1 e1 r1=>IE hT e1 ?_ rfl wr⟩;obtain ⟨_,_,e,a1,_⟩:=kg.args (rs:=[r]) (vs:=[v]) (sr.hp.ext e1) ⟨v,[],rfl,r1,rfl⟩;cases e;exact ⟨v,_,rfl,a1,_,_,rfl,⟨f',rfl,hT▸h5⟩,rfl⟩
noncomputable def zb (i:Nat) (x:Str) (g g':G R):G R:=λenv=>match env[i]? with
 | some (some (.fn z))=>if z=x then g env else g' env
 | _=>.bad
def xZ:G R:=λ_=>.bad
theorem Bm:QD X c e xZ:=⟨λ_ _ _ _ _ _ ⟨_,_,_,w⟩=>w.elim⟩
theorem zJ (i:Nat){F:List S->M R}{gs:G (List R)}(G:bz X.prog X.w X.K X.mg X.base k n x F) (hv:FF X.K X.mg x) (hr:cY k' X.A) (ha:jd X c (e::es) gs) (rest:QD X c (.Call (.Name y p) (e::es) [] pos) g) (hk:k<=k':=by decide) (hT:c.K=X.K:=by rfl)
 (hN:X.N[i]?=some y:=by rfl) (hvs:qY X.env.scope y:=by first | exact Yu rfl | exact WV (Yu rfl) | exact WV (WV rfl)) (hd:(y == ("__debug__":Str))=false:=by decide) (hcd:(y == ("__classdict__":Str))=false:=by decide)
 (he:TF (e::es) X.env=(false,eval e X.env)::TF es X.env:=by rfl) (hpl:(U_ pos (TF es X.env)).any (·.1)=false:=by rfl):QD X c (.Call (.Name y p) (e::es) [] pos) (zb i x (gN (aQ n F) gs) g):=by
 refine ⟨λS6 s σ H Q I ⟨J,env,sr,w⟩=>?_⟩;obtain ⟨f,fd,ps,h1,h2,h3,h4⟩:=G;obtain ⟨f',h5,h6⟩:=hv;have ef:f'=f:=by rw [h2] at h6;cases h6;rfl
 subst ef;unfold zb at w;split at w
 ·rename_i z hz;split at w
  ·rename_i ez;subst ez;obtain ⟨_,hv,_,rfl,q⟩:=sr.at_ i _ hz;rw [hT,h5] at q;cases q;refine Wf (bI (k8 hN hvs hd hcd S6 s σ H (λv H1=>v=.ref f'/\H1=H) I ⟨_,hv,rfl,rfl⟩) λu s1 ⟨x',H1,I1,rx,ev,eh⟩=>?_);subst ev eh;cases rx;refine aaZ (h₀:=X.base) I1.ok.mod.kin h3 (bI (ha.h pos S6 s1 σ H1 _ I1 (yH hT σ H1 Q ⟨J,env,sr,w⟩)) λus s2 ⟨vs,H2,I2,r,q⟩=>⟨I2.kIn,?_⟩) he hpl;exact E5 h1 (hr.mono hk) h4 .nil Cz I2 r q
  ·exact rest.h S6 s σ H Q I ⟨J,env,sr,w⟩
 ·exact w.elim
end
end DL
namespace K33
open PySem DL
def Dg:List Str:=["pairing","pair"]
def D5:G O:=(bu (gN (aQ 1 K23.fH) (ao (g2 dX (af 0) (bO (aE (af 1) aW))) aF)))
def oQ (as:List S):M R:=fin (D5 (aV Dg as))
def qW:List Str:=["one","other","side","point"]
noncomputable def rK:G O:=(aK (bQ (bG (g2 (cT false) (af 2) (gC (.int 0)))) (bu (bK 1 [3] (bW (ao (g2 a_ (af 1) (gC (.int 0))) aF)) (az 0) b_ (bO (aE (af 1) (aE (af 0) aW))))) c9)
 (bu (bK 1 [3] (bW (ao (g2 a_ (af 0) (gC (.int 0))) aF)) (az 0) b_ (bO (aE (af 0) (aE (af 1) aW))))))
def gz (as:List S):M R:=fin (rK (aV qW as))
def vU:List Str:=["one","other"]
noncomputable def wF:G O:=(bu (g2 g7 (bK 1 [] (bW (ao (g2 a_ (af 0) (gC (.int 0))) aF)) (az 0) b_ (bO (aE (gC (.int 0)) (aE (af 0) aW)))) (bK 1 [] (bW (ao (g2 a_ (af 1) (gC (.int 0))) aF)) (az 0) b_ (bO (aE (gC (.int 1)) (aE (af 0) aW))))))
def lG (as:List S):M R:=fin (wF (aV vU as))
def vR:List Str:=["one","other","pairing","known","grown"]
noncomputable def wC:G O:=(aK (bh 4 (qz 2 [0,1,2] (bW (ao (g2 a_ (af 0) (gC (.int 0))) aF)) (az 0) b_ (fM (gN (aQ 4 K33.gz) (ao (af 2) (ao (af 3) (ao (gC (.int 0)) (ao (af 0) aF)))))) (az 1) b_ (af 1) (gN (aQ 2 K33.oQ) (ao (af 4) (ao (af 1) aF)))))
 (bu (bK 2 [0,1,4,3] (fq (gN (aQ 2 K33.lG) (ao (af 0) (ao (af 1) aF)))) (c7 2 (bx (az 0) (bx (az 1) dc))) b_ (bK 1 [4,5] (fq (gN (aQ 4 K33.gz) (ao (af 2) (ao (af 3) (ao (af 0) (ao (af 1) aF)))))) (az 0) (bG (g2 (nK false) (g2 fm (af 1) (af 0)) (af 2))) (g2 fm (af 1) (af 0))))))
def iR (as:List S):M R:=fin (wC (aV vR as))
def lI:List Str:=["rows","depths"]
noncomputable def lQ:G O:=(bu (gN sA (ao (bK 1 [1] (fq (af 0)) (az 0) b_ (gN nJ (ao (bK 1 [1] (fq (af 0)) (az 0) b_ (g2 (kW false) (g2 fm (af 1) (af 0)) (gC .non))) aF))) aF)))
def bV (as:List S):M R:=fin (lQ (aV lI as))
def ql:List Str:=["rows","stays","depths","depth","gone","pairing"]
noncomputable def A2:G O:=(aK (bh 2 (eH 1 [] (kX (af 0)) (az 0) b_ (af 0) (gC .non)))
 (aK (bh 3 (gC (.int 1)))
 (aK (bh 4 (bK 1 [1,0,2] (kX (af 0)) (az 0) (gF (bG (zb 1 "answered_still" (gN (aQ 2 K33.bV) (ao (g2 fm (af 2) (af 0)) (ao (af 3) aF))) xZ))) (af 0)))
 (aK (t_ 400000 (vd (af 4)) (aK (jg 4 (cG (fM (af 4)) (az 5) (vc 2 (af 5) (af 3))))
 (aK (sE 3 u_ (gC (.int 1)))
 (bh 4 (bK 1 [2,1,0] (kX (af 0)) (az 0) (jZ (bG (g2 (kW false) (g2 fm (af 1) (af 0)) (gC .non))) (gF (bG (zb 2 "answered_still" (gN (aQ 2 K33.bV) (ao (g2 fm (af 3) (af 0)) (ao (af 1) aF))) xZ)))) (af 0))))))
 (bu (af 2))))))
def gZ (as:List S):M R:=fin (A2 (aV ql as))
def mD:List Str:=["one","other","base"]
noncomputable def mQ:G O:=(bu (bK 1 [2] (fq (gN (aQ 3 K23.iS) (ao (af 0) (ao (af 1) (ao (gC (.int 4)) aF))))) (az 0) (bG (gN sA (ao (bK 1 [0] (fq (af 1)) (az 0) b_ (g2 (gp false) (af 0) (af 1))) aF))) (af 0)))
def gX (as:List S):M R:=fin (mQ (aV mD as))
def lJ:List Str:=["one","other","base","known","rows"]
noncomputable def lR:G O:=(aK (bh 3 (eH 1 [] (fq (gN (aQ 3 K33.gX) (ao (af 0) (ao (af 1) (ao (af 2) aF))))) (az 0) b_ (af 0) (gC (.bl true))))
 (aK (bh 4 (eH 1 [0,1,3] (kX (af 3)) (az 0) b_ (af 0) (gN (aQ 4 K33.iR) (ao (af 1) (ao (af 2) (ao (af 0) (ao (af 3) aF)))))))
 (bu (y_ "answered_still" K33.gZ (af 4)))))
def gH (as:List S):M R:=fin (lR (aV lJ as))
def oZ:List Str:=["depths","pairing","depth"]
noncomputable def wA:G O:=(bu (xY (g2 (nK false) (af 1) (af 0)) (j3 (g2 (kW false) (g2 fm (af 0) (af 1)) (gC .non)) (g2 (iB λi j=>.bl (decide (j < i))) (g2 fm (af 0) (af 1)) (af 2)))))
def lF (as:List S):M R:=fin (wA (aV oZ as))
def tE:List Str:=["depths","depth"]
noncomputable def uc:G O:=(bu (bK 1 [0] (bW (ao (g2 g7 (af 1) (gC (.int 1))) aF)) (az 0) b_ (bK 1 [1,0] (kX (af 1)) (az 0) (bG (gN (aQ 3 K33.lF) (ao (af 1) (ao (af 0) (ao (af 2) aF))))) (af 0))))
def ki (as:List S):M R:=fin (uc (aV tE as))
end K33
namespace K33
open PySem DL K01 WP K51 K52 K55 K23
abbrev Ps:=List (Nat×Nat)
section
variable {κ:Type}{rows:κ->List (List κ)}{st:(κ->Bool)->κ->Bool}{i j d e:Nat}{k:κ}{ks:List κ}
noncomputable def LZ (st:(κ->Bool)->κ->Bool):Nat->κ->Bool
 | 0,_=>true
 | j + 1,k=>LZ st j k && st (LZ st j) k
abbrev zO (rows:κ->List (List κ)) (L:κ->Bool) (k:κ):Bool:=(rows k).all λr=>r.any L
abbrev LY (rows:κ->List (List κ)):Nat->κ->Bool:=LZ (zO rows)
theorem yp:LZ st (j + 1) k=true↔LZ st j k=true/\st (LZ st j) k=true:=by show (LZ st j k && _)=true↔_;rw [Tt]
theorem BE:LY rows (j + 1) k=true↔LY rows j k=true/\∀r∈rows k,∃x∈r,LY rows j x=true:=by rw [yp];simp only [T8,UL]
theorem qi (h:i<=j) (q:LZ st j k=true):LZ st i k=true:=by
 induction h with
 | refl=>exact q
 | step _ ih=>exact ih (yp.mp q).1
def dZ (st:(κ->Bool)->κ->Bool) (d:Nat) (k:κ):Option Nat:=(Tw (d + 1)).find? λj=>!LZ st j k
abbrev dA (rows:κ->List (List κ)):Nat->κ->Option Nat:=dZ (zO rows)
theorem iV:dZ st d k=none↔LZ st d k=true:=by
 unfold dZ;rw [XS];constructor
 ·intro h;simpa using h d (by simp)
 ·intro h j hj;rw [qi (by have:=TM.mp hj;omega) h];decide
theorem AU (h:dZ st d k=some e):LZ st e k=false/\e<=d/\∀i,i < e->LZ st i k=true:=by obtain ⟨h1,h3,h2⟩:=VP.mp h;exact ⟨by simpa using h1,by have:=TM.mp h3;omega,λi hi=>by simpa using h2 i hi⟩
theorem Jh:dZ st (d + 1) k=if (LZ st d k && !LZ st (d + 1) k)=true then some (d + 1) else dZ st d k:=by
 have e:dZ st (d + 1) k=(dZ st d k).or ([d + 1].find? λj=>!LZ st j k):=by show (Tw (d + 1 + 1)).find? _=_;rw [YZ,List.find?_append];rfl
 rw [e];cases q:dZ st d k with
 | none=>
  rw [iV.mp q];cases z:LZ st (d + 1) k <;> simp [List.find?,z]
 | some e=>
  have:LZ st d k=false:=by
   cases z:LZ st d k with
   | false=>rfl
   | true=>rw [iV.mpr z] at q;cases q
  rw [this];rfl
theorem CN (hm:∀(L L':κ->Bool),∀k∈ks,(∀x∈ks,L x=true->L' x=true)->st L k=true->st L' k=true) (h:∀k∈ks,LZ st d k=true->LZ st (d + 1) k=true):∀j,∀k∈ks,LZ st d k=true->LZ st j k=true
 | 0,_,_,_=>rfl
 | j + 1,k,hk,q=>yp.mpr ⟨CN hm h j k hk q,hm _ _ k hk (CN hm h j) (yp.mp (h k hk q)).2⟩
theorem M_ (hc:∀k∈ks,∀r∈rows k,∀x∈r,x∈ks) (h:∀k∈ks,LY rows d k=true->LY rows (d + 1) k=true):∀j,∀k∈ks,LY rows d k=true->LY rows j k=true:=
 CN (λL L' k hk hx=>by
  simp only [T8,UL];exact λg r hr=>let ⟨x,h1,h2⟩:=g r hr;⟨x,h1,hx x (hc k hk r hr x h1) h2⟩) h
noncomputable def fO (o:Option Nat) (j:Nat):Bool:=match o with
 | none=>true
 | some e=>decide (j < e)
theorem D_ (hs:∀j,LZ st d k=true->LZ st j k=true):fO (dZ st d k) j=LZ st j k:=by
 cases q:dZ st d k with
 | none=>exact (hs j (iV.mp q)).symm
 | some e=>
  obtain ⟨h1,_,h2⟩:=AU q;show decide (j < e)=_;by_cases c:j < e
  ·rw [h2 j c,decide_eq_true c]
  ·cases z:LZ st j k with
   | false=>exact decide_eq_false c
   | true=>rw [qi (by omega) z] at h1;cases h1
theorem xV {rows':κ->List (List κ)}(hc:∀k∈ks,∀r∈rows k,∀x∈r,x∈ks) (he:∀k∈ks,rows k=rows' k):∀j,∀k∈ks,LY rows j k=LY rows' j k
 | 0,_,_=>rfl
 | j + 1,k,hk=>by
  rw [Uw,BE,BE,xV hc he j k hk,<-he k hk];refine and_congr ad5 ⟨λh r hr=>?_,λh r hr=>?_⟩ <;> obtain ⟨x,h1,h2⟩:=h r hr <;> refine ⟨x,h1,?_⟩
  ·rw [<-xV hc he j x (hc k hk r hr x h1)];exact h2
  ·rw [xV hc he j x (hc k hk r hr x h1)];exact h2
end
def zY (ps:Ps):Ps:=(gg (ps.map dP)).map Ab
theorem uL (ps:Ps):∀d∈ps.map dP,l_ pF d:=λd hd=>by obtain ⟨x,_,rfl⟩:=Tr.mp hd;exact ze x
theorem uH (ps:Ps):(zY ps).map dP=gg (ps.map dP):=back dP Ab uM λd hd=>by obtain ⟨x,_,rfl⟩:=Tr.mp ((xg (jm pF) (uL ps)).2 d hd);exact ⟨x,rfl⟩
theorem H_ {ps:Ps}:dP p∈ps.map dP↔p∈ps:=by rw [Tr];exact ⟨λ⟨q,h,e⟩=>by rw [<-uM p,<-e,uM];exact h,λh=>⟨p,h,rfl⟩⟩
theorem qD:q∈zY ps↔q∈ps:=by rw [<-H_,uH,(sQ (jm pF) (uL ps)).2,H_]
theorem Fd (ps:Ps):(zY ps).Pairwise rM:=by have:=(sQ (jm pF) (uL ps)).1;rw [<-uH,U9] at this;exact this.imp fun {a b} h=>(Ct a b).mp h
theorem Nv {A B:Ps}(hA:A.Pairwise rM) (hB:B.Pairwise rM) (h:∀y,y∈A↔y∈B):A=B:=by
 have up:∀{C:Ps},C.Pairwise rM->(C.map dP).Pairwise λa b=>eE a b=true:=fun {C} hC=>U9.mpr (hC.imp fun {a b} h=>(Ct a b).mpr h);have e:=Ac (jm pF) (uL A) (up hA) (up hB) λy=>by rw [Tr,Tr];exact ⟨λ⟨q,a,b⟩=>⟨q,(h q).mp a,b⟩,λ⟨q,a,b⟩=>⟨q,(h q).mpr a,b⟩⟩
 have:=congrArg (aef Ab) e;simpa only [Uj,Zw,uM,List.map_id'] using this
section
variable {v w:Wd}{ps qs S:Ps}{p:Nat×Nat}{n j:Nat}
structure ym (v w:Wd) (S:Ps):Prop where
 ag:∀p∈S,∀q∈S,sW v w p q
 rg:∀p∈S,lH v w p
theorem ym.sub (h:ym v w S) (hs:∀p∈ps,p∈S):ym v w ps:=⟨λp hp q hq=>h.ag p (hs p hp) q (hs q hq),λp hp=>h.rg p (hs p hp)⟩
theorem AZ (g:Good v w ps):ps.Pairwise rM:=g.up.imp λh=>.inl h
theorem nN (hu:ps.Pairwise rM):Good v w ps↔ym v w ps:=⟨λg=>⟨g.ag,g.rg⟩,λf=>⟨hu.imp_of_mem fun {a b} ha hb h=>by
 have:=(f.ag a ha b hb).eq;unfold rM at h;omega,f.ag,f.rg⟩⟩
theorem sF (g:Good v w ps):ps.length<=v.m:=by
 have h:=Uv (l₁:=ps.map UG) (l₂:=Tw v.m) (U9.mpr (g.up.imp λh=>by omega)) λx hx=>by obtain ⟨p,hp,rfl⟩:=Tr.mp hx;exact TM.mpr (g.rg p hp).1
 simpa using h
abbrev T4 (v w:Wd):List Ps:=told v w 4
theorem nR (t:Pr v w):ps∈T4 v w↔Good v w ps:=by
 rw [gE];constructor
 ·rintro ⟨j,_,h⟩;exact ((e_ j).mp h).2
 ·intro g;exact ⟨ps.length,T6 (sF g) t.v4,(e_ _).mpr ⟨rfl,g⟩⟩
theorem HN (v w:Wd):∀j,(LG v w j).Nodup
 | 0=>Vs _ _
 | j + 1=>by
  refine aao.mpr ⟨λah _=>U9.mpr ?_,(HN v w j).imp_of_mem fun {a b} _ _ hab x hx y hy e=>?_⟩
  ·exact (((nS v.m w.m).filter _).filter _).imp λh e=>h (by simpa using e)
  ·obtain ⟨p,_,rfl⟩:=Tr.mp hx;obtain ⟨q,_,rfl⟩:=Tr.mp hy;exact hab (List.append_inj' e rfl).1
theorem vJ (v w:Wd):∀j,(told v w j).Nodup
 | 0=>Vs _ _
 | j + 1=>Yi.mpr ⟨vJ v w j,HN v w (j + 1),λa ha b hb e=>by
  obtain ⟨i,hi,h⟩:=(gE j).mp ha;have h1:=(qh i h).1;have h2:=(qh (j + 1) hb).1;rw [e] at h1;omega⟩
def cQ (ps:Ps) (p:Nat×Nat):Ps:=zY (ps++[p])
theorem mW:q∈cQ ps p↔q∈ps\/q=p:=by unfold cQ;rw [qD];simp
theorem BN (t:Pr v w):cQ ps p∈T4 v w↔ym v w (ps++[p]):=by rw [nR t,cQ,nN (Fd _)];exact ⟨λh=>h.sub λq hq=>qD.mpr hq,λh=>h.sub λq hq=>qD.mp hq⟩
def kn (v w:Wd) (B:Ps):List Ps:=(T4 v w).filter λps=>B.all λq=>decide (q∈ps)
theorem k7:ps∈kn v w B↔ps∈T4 v w/\∀q∈B,q∈ps:=by unfold kn;rw [Uq,T8];simp
def picks (v w:Wd):Ps:=(Tw v.m).map (λa=>(0,a))++(Tw w.m).map λb=>(1,b)
def jV (v w:Wd) (k:Nat×Nat):Ps:=if k.1=0 then (Tw w.m).map λb=>(k.2,b) else (Tw v.m).map λa=>(a,k.2)
def RW (v w:Wd) (B ps:Ps):List (List Ps):=(picks v w).map λk=>((jV v w k).map (cQ ps)).filter λx=>decide (x∈kn v w B)
theorem BI:∀k∈kn v w B,∀r∈RW v w B k,∀x∈r,x∈kn v w B:=λk _ r hr x hx=>by obtain ⟨_,_,rfl⟩:=Tr.mp hr;simpa using (Uq.mp hx).2
theorem Nx:∀k∈kn v w B,RW v w B k=RW v w [] k:=λk hk=>WT λa _=>List.filter_congr λx hx=>by obtain ⟨p,_,rfl⟩:=Tr.mp hx;rw [Uw,decide_eq_true_eq,decide_eq_true_eq,k7,k7];exact ⟨λh=>⟨h.1,λ_ h=>nomatch h⟩,λh=>⟨h.1,λq hq=>mW.mpr (.inl ((k7.mp hk).2 q hq))⟩⟩
def La (v w:Wd) (j:Nat) (ps:Ps):Bool:=LY (RW v w []) j ps
theorem OP (h:ps∈kn v w B):LY (RW v w B) j ps=La v w j ps:=xV BI Nx j ps h
theorem r_:La v w (j + 1) ps=true↔La v w j ps=true/\∀k∈picks v w,∃p∈jV v w k,cQ ps p∈T4 v w/\La v w j (cQ ps p)=true:=by
 show LY _ (j + 1) ps=true↔_;rw [BE];refine and_congr ad5 ⟨λh k hk=>?_,λh r hr=>?_⟩
 ·obtain ⟨x,h1,h2⟩:=h _ (Tr.mpr ⟨k,hk,rfl⟩);obtain ⟨h3,h4⟩:=Uq.mp h1;obtain ⟨p,h5,rfl⟩:=Tr.mp h3;exact ⟨p,h5,(k7.mp (of_decide_eq_true h4)).1,h2⟩
 ·obtain ⟨k,hk,rfl⟩:=Tr.mp hr;obtain ⟨p,h1,h2,h3⟩:=h k hk;exact ⟨_,Uq.mpr ⟨Tr.mpr ⟨p,h1,rfl⟩,decide_eq_true (k7.mpr ⟨h2,λ_ h=>nomatch h⟩)⟩,h3⟩
end
end K33
namespace K33
open PySem DL K01 WP K51 K52 K55 K23 K22
section
variable {α:Type} [DecidableEq α] {e:α->D}{f:α->D}{ks:List α}{k:α}{d:D}
theorem mU (he:∀a b,aZ (e a) (e b)=decide (a=b)) (f:α->D):∀(ks:List α) (k:α),gq (ks.map e) (ks.map f) (e k)=if k∈ks then some (f k) else none
 | [],_=>rfl
 | a::ks,k=>by
  rw [TV,TV,gq,he,mU he f ks k];by_cases h:a=k
  ·subst h;simp
  ·rw [if_neg (by simpa using h)];simp [VG h]
theorem Bj (he:∀a b,aZ (e a) (e b)=decide (a=b)) (f:α->D) (k:α) (d:D):∀ks:List α,vA (ks.map e) (ks.map f) (e k) d=ks.map λx=>if x=k then d else f x
 | []=>rfl
 | a::ks=>by rw [TV,TV,vA,he,Bj he f k d ks,TV];simp only [decide_eq_true_eq]
theorem F2 (he:∀a b,aZ (e a) (e b)=decide (a=b)) (hk:k∈ks):dput (ks.map e,ks.map f) (e k) d=(ks.map e,ks.map λx=>if x=k then d else f x):=by unfold dput;simp only;rw [mU he,if_pos hk,Bj he];rfl
theorem qw (he:∀a b,aZ (e a) (e b)=decide (a=b)) (f:α->D):∀(n:Nat) (ks:List α),ks.length=n->ks.Nodup->g_ (ks.map λk=>D.tup [e k,f k])=(ks.map e,ks.map f)
 | 0,ks,h,_=>by rw [V2.mp h];rfl
 | n + 1,ks,h,nd=>by
  rcases Wk ks with rfl | ⟨qs,p,rfl⟩
  ·cases h
  ·rw [Wl] at h nd ⊢;have nd':=Yi.mp nd;have hp:p∉qs:=λhq=>nd'.2.2 p hq p (by simp) rfl;rw [Ue,Ue,Ue,TV,Z_,nD,qw he f n qs (by simpa using h) nd'.1];unfold dput;simp only;rw [mU he,if_neg hp];rfl
end
theorem eY (a b:Ps):aZ (aM a) (aM b)=decide (a=b):=by
 show cC (a.map dP) (b.map dP)=_
 induction a generalizing b with
 | nil=>cases b <;> simp [cC]
 | cons x a ih=>
  cases b with
  | nil=>simp [cC]
  | cons y b=>rw [TV,TV,g6,ih,K55.wc,Uw];simp
theorem LR {m:Md}(p:Ps) (L:List Ps) (x:R) (hx:g9 x=.ok (L.map aM)):gp false (.d (aM p)) x=.ok (.d (.bl (decide (p∈L)))):=by
 have h1:∀q:Ps,dep (aM q)<=60:=MO;unfold gp;rw [hx,aL,if_pos ⟨fK λd hd=>by obtain ⟨q,_,rfl⟩:=Tr.mp hd;exact h1 q,h1 p⟩];have:inD (aM p) (L.map aM)=decide (p∈L):=by unfold inD;rw [Yv,Uw,UL,decide_eq_true_eq];simp only [Zw,eY,decide_eq_true_eq];exact ⟨λ⟨x,h,e⟩=>e▸h,λh=>⟨p,h,rfl⟩⟩
 show M.ok (R.d (.bl (inD (aM p) (L.map aM))))=_;rw [this]
theorem Nt (ps:Ps) (hl:ps.length < 64):fH [.d (aM ps)]=.ok (.d (aM (zY ps))):=by refine bX (gu (bq (b:=false) rfl rfl rfl) (bC (n1 (n1 (x:=.d (aM ps)) (z:=.l .fresh (gg (ps.map dP))) rfl (Pb ps hl)) rfl) rfl ?_));rw [<-uH]
theorem M9 {ps:Ps}(h:ps.Pairwise rM):zY ps=ps:=Nv (Fd ps) h λ_=>qD
theorem Lr (ps:Ps) (p:Nat×Nat) (hl:ps.length < 63):dX (.d (aM ps)) (.d (.tup [dP p]))=.ok (.d (aM (ps++[p]))):=by rw [aM,CQ _ _ (by simp;omega),aM,Ue];rfl
theorem IL (ps:Ps) (p:Nat×Nat) (hl:ps.length < 63):oQ [.d (aM ps),.d (dP p)]=.ok (.d (aM (cQ ps p))):=
 bX (bC (c1 (two rfl (bF (aI rfl rfl bw) (by show 1<=1000;decide)) (Lr ps p hl)) (Nt _ (by simp;omega))) rfl rfl)
section
variable {v w:Wd}
theorem K7 (hv:v.m<=1000) (hw:w.m<=1000) (s x:Nat):gz [.d v.d,.d w.d,.d (.int s),.d (.int x)]=.ok (.l .fresh ((jV v w (s,x)).map dP)):=by
 have hb:cT false (.d (.int (s:Int))) (.d (.int 0))=.ok (.d (.bl (decide (s=0)))):=by rw [K01.eq_int];congr 3;rw [Uw];simp
 unfold jV;by_cases h:s=0
 ·rw [if_pos h,Uj];exact bX (cF (qB (bq rfl rfl (hb.trans (by rw [decide_eq_true h]))) (bC (jw (λb=>dP (x,b)) (iu (b8 (two rfl rfl (ji _ _))) hw) (by simp;omega) λb _=>⟨_,bF (aI rfl rfl (aI rfl rfl bw)) t2,rfl⟩) rfl rfl)))
 ·rw [if_neg h,Uj];exact bX (gu (bq rfl rfl (hb.trans (by rw [decide_eq_false h]))) (bC (jw (λa=>dP (a,x)) (iu (b8 (two rfl rfl (ji _ _))) hv) (by simp;omega) λb _=>⟨_,bF (aI rfl rfl (aI rfl rfl bw)) t2,rfl⟩) rfl rfl))
theorem IT (hv:v.m<=1000) (hw:w.m<=1000):lG [.d v.d,.d w.d]=.ok (.l .fresh ((picks v w).map dP)):=by refine bX (bC (two (jw (λa=>dP (0,a)) (iu (b8 (two rfl rfl (ji _ _))) hv) (by simp;omega) λb _=>⟨_,bF (aI rfl rfl (aI rfl rfl bw)) t2,rfl⟩) (jw (λa=>dP (1,a)) (iu (b8 (two rfl rfl (ji _ _))) hw) (by simp;omega) λb _=>⟨_,bF (aI rfl rfl (aI rfl rfl bw)) t2,rfl⟩) (z:=.l .fresh ((picks v w).map dP)) ?_) rfl rfl);unfold picks;rw [Ue,Uj,Uj];show (if _<=sizeLine then _ else M.bad)=_;rw [if_pos (by rw [UH];simp;omega)];rfl
end
section
variable {α:Type} [DecidableEq α] {e f:α->D}{ks:List α}{k:α}{env:Ev}
theorem OE {act:Ev->M (List D×Ev)}{h f:α->D}{rest:Ev}:∀(ys:List α),(∀y∈ys,act (some (.d (h y))::rest)=.ok ([f y],some (.d (h y))::rest))->∀z:Option S,∃z',bN (az 0) b_ act (ys.map h) (z::rest)=.ok (ys.map f,z'::rest)
 | [],_,z=>⟨z,rfl⟩
 | y::ys,H,z=>by obtain ⟨z',ih⟩:=OE ys (λy hy=>H y (Tq _ hy)) (some (.d (h y)));refine ⟨z',?_⟩;rw [TV];unfold bN;show (act (some (.d (h y))::rest) >>= _)=_;rw [H y Tu,aL];show (bN (az 0) b_ act (ys.map h) (some (.d (h y))::rest) >>= _)=_;rw [ih];rfl
theorem pq {gi:G (List D)}{gk gv:G R}(he:∀a b,aZ (e a) (e b)=decide (a=b)) (nd:ks.Nodup) (hi:gi env=.ok (ks.map e)) (hl:ks.length<=1000000)
 (hb:∀k∈ks,c6 (e k)=true/\gk (some (.d (e k))::cE 0 cap env)=.ok (.d (e k))/\∃r,gv (some (.d (e k))::cE 0 cap env)=.ok r/\toD r=.ok (f k)):eH 1 cap gi (az 0) b_ gk gv env=.ok (.mf (ks.map e) (ks.map f)):=by
 obtain ⟨z,h⟩:=OE (act:=nt gk gv) (h:=e) (f:=λk=>.tup [e k,f k]) (rest:=cE 0 cap env) ks (λk hk=>by
  obtain ⟨h1,h2,r,h3,h4⟩:=hb k hk;exact mE h2 rfl h3 h4 h1) none
 unfold eH iD;rw [hi,aL,if_pos (by rw [Tp];exact hl)];show (bN (az 0) b_ (nt gk gv) (ks.map e) (none::cE 0 cap env) >>= _)=_;rw [h];show M.ok (R.mf (g_ _).1 (g_ _).2)=_;rw [qw he f _ ks rfl nd]
theorem jx (he:∀a b,aZ (e a) (e b)=decide (a=b)) (hx:oz x=some (ks.map e,ks.map f)) (ok:c6 (e k)=true) (hk:k∈ks):fm x (.d (e k))=.ok (.d (f k)):=by unfold fm;rw [hx];simp only;rw [if_pos ok,mU he,if_pos hk]
theorem A4 (he:∀a b,aZ (e a) (e b)=decide (a=b)) (hx:oz x=some (ks.map e,ks.map f)) (ok:c6 (e k)=true):nK false (.d (e k)) x=.ok (.d (.bl (@decide (k∈ks) q))):=by unfold nK;rw [hx];simp only;rw [if_pos ok,mU he];by_cases h:k∈ks <;> simp [h]
end
theorem anyM {α:Type}(f:α->Bool) (xs:List α):nJ [.l .fresh (xs.map λx=>.bl (f x))]=.ok (.d (.bl (xs.any f))):=by
 have:=uW (λd=>match d with
  | .bl b=>b
  | _=>false) (xs.map λx=>.bl (f x))
 rw [Uj,Uj] at this;unfold nJ;show (match iF (xs.map λx=>.bl (f x)) with
  | some ks=>M.ok (R.d (.bl (ks.any id)))
  | none=>.bad)=_
 rw [show iF (xs.map λx=>.bl (f x))=some (xs.map f) from this];simp [Yv]
section
variable {v w:Wd}
abbrev iP (r:List Ps):D:=.lst (r.map aM)
theorem HH (t:Pr v w) (ks:List Ps) (ps:Ps) (hl:ps.length < 63):iR [.d v.d,.d w.d,.d (aM ps),.db (ks.map aM) (ks.map λ_=>.bl true)]=.ok (.l .fresh (((picks v w).map λk=>((jV v w k).map (cQ ps)).filter λx=>decide (x∈ks)).map iP)):=by
 have v4:=t.v4;have w4:=t.w4;have hg:qz 2 [0,1,2] (bW (ao (g2 a_ (af 0) (gC (.int 0))) aF)) (az 0) b_ (fM (gN (aQ 4 K33.gz) (ao (af 2) (ao (af 3) (ao (gC (.int 0)) (ao (af 0) aF)))))) (az 1) b_ (af 1) (gN (aQ 2 K33.oQ) (ao (af 4) (ao (af 1) aF)))
   [some (.d v.d),some (.d w.d),some (.d (aM ps)),some (.db (ks.map aM) (ks.map λ_=>.bl true)),none]=.ok (.d (.dct ((dh v.m w.m).map dP) ((dh v.m w.m).map λq=>aM (cQ ps q)))):=by
  refine (qv (xs:=Tw v.m) (h:=dN) (h':=dP) (λa=>(Tw w.m).map λb=>(a,b)) (λ_ _=>true) (λ_ q=>.tup [dP q,aM (cQ ps q)]) (iu (b8 (two rfl rfl (ji _ _))) (by omega)) (by simp;omega) λa ha=>⟨by simp;omega,λz=>?_,λq hq=>⟨rfl,λ_=>mE rfl rfl (c2 rfl rfl (IL ps q hl)) rfl rfl⟩⟩).trans ?_
  ·show (gN _ _ _ >>= _)=_;rw [c4 rfl rfl rfl rfl (K7 (v:=v) (w:=w) (by omega) (by omega) 0 a)];rfl
  ·have e:((Tw v.m).flatMap λa=>(((Tw w.m).map λb=>(a,b)).filter λ_=>true).map λq=>D.tup [dP q,aM (cQ ps q)])=(dh v.m w.m).map λq=>D.tup [dP q,aM (cQ ps q)]:=by unfold dh;rw [Xx];congr 1;funext a;rw [WS.mpr λ_ _=>rfl]
   rw [e];show M.ok (R.d (.dct (g_ _).1 (g_ _).2))=_;rw [qw K55.wc _ _ _ rfl (nS v.m w.m)]
 refine bX (bB hg rfl (bC (qu (xs:=picks v w) (λk=>dN k.1) (λk=>dN k.2) (λk=>iP (((jV v w k).map (cQ ps)).filter λx=>decide (x∈ks))) ?_ (by unfold picks;simp;omega) λk hk=>?_) rfl (by rw [Uj];rfl)))
 ·show (gN _ _ _ >>= _)=_;rw [c2 rfl rfl (IT (v:=v) (w:=w) (by omega) (by omega))];rfl
 ·have hin:∀q∈jV v w k,q∈dh v.m w.m:=λq hq=>by
   rw [k6];have hk:(k.1=0/\k.2 < v.m)\/(k.1≠0/\k.2 < w.m):=by
    unfold picks at hk;simp only [Ub,Tr,TM] at hk;rcases hk with ⟨a,h,rfl⟩ | ⟨a,h,rfl⟩
    ·exact .inl ⟨rfl,h⟩
    ·exact .inr ⟨Nat.one_ne_zero,h⟩
   unfold jV at hq;rcases hk with ⟨h1,h2⟩ | ⟨h1,h2⟩
   ·rw [if_pos h1] at hq;obtain ⟨b,hb,rfl⟩:=Tr.mp hq;exact ⟨h2,TM.mp hb⟩
   ·rw [if_neg h1] at hq;obtain ⟨b,hb,rfl⟩:=Tr.mp hq;exact ⟨TM.mp hb,h2⟩
  refine ⟨.l .fresh (((((jV v w k).map (cQ ps)).filter λx=>decide (x∈ks))).map aM),?_,rfl⟩;rw [acv,Uj];refine kq (xs:=jV v w k) (h:=dP) (λq=>decide (cQ ps q∈ks)) (λq=>aM (cQ ps q)) ?_ (by unfold jV;split <;> simp <;> omega) λq hq=>?_
  ·show (gN _ _ _ >>= _)=_;rw [c4 rfl rfl rfl rfl (K7 (v:=v) (w:=w) (by omega) (by omega) k.1 k.2)];rfl
  ·have hd:=jx (e:=dP) (f:=λq=>aM (cQ ps q)) K55.wc (x:=.d (.dct ((dh v.m w.m).map dP) ((dh v.m w.m).map λq=>aM (cQ ps q)))) rfl (k:=q) rfl (hin q hq);exact ⟨bq (two rfl rfl hd) rfl (A4 (ks:=ks) (f:=λ_=>.bl true) eY (x:=.mb (ks.map aM) (ks.map λ_=>.bl true)) rfl (dW (cQ ps q))),λ_=>⟨_,two rfl rfl hd,rfl⟩⟩
end
noncomputable def dV:Option Nat->D
 | none=>.non
 | some e=>.int e
theorem Ci (o:Option Nat):kW false (.d (dV o)) (.d .non)=.ok (.d (.bl o.isNone)):=by cases o <;> rfl
theorem AD (rs:List (List Ps)) (ks:List Ps) (f:Ps->Option Nat) (h:∀r∈rs,∀x∈r,x∈ks) (h1:rs.length<=1000) (h2:∀r∈rs,r.length<=1000):bV [.d (.lst (rs.map iP)),.db (ks.map aM) (ks.map λk=>dV (f k))]=.ok (.d (.bl (rs.all λr=>r.any λx=>(f x).isNone))):=by refine bX (bC (n1 (jw (xs:=rs) (h:=iP) (λr=>.bl (r.any λx=>(f x).isNone)) rfl (by omega) λr hr=>⟨_,n1 (jw (xs:=r) (h:=aM) (λx=>.bl (f x).isNone) rfl (by have:=h2 r hr;omega) λx hx=>⟨_,two (two rfl rfl (jx (f:=λk=>dV (f k)) eY rfl (dW x) (h r hr x hx))) rfl (Ci (f x)),rfl⟩) (anyM _ r),rfl⟩) (allM _ rs)) rfl rfl)
theorem part {κ:Type}{p q:κ->Bool}(h:∀k,q k=true->p k=true):∀l:List κ,(l.filter p).length=(l.filter q).length + (l.filter λk=>p k && !q k).length
 | []=>rfl
 | a::l=>by
  have ih:=part h l;cases hq:q a with
  | true=>simp [h a hq,hq];omega
  | false=>cases hp:p a <;> simp [hp,hq] <;> omega
abbrev kh (rows:Ps->List (List Ps)) (k:Ps):D:=.lst ((rows k).map iP)
abbrev eP (x:Str) (ks:List Ps) (val:Ps->D) (f:Ps->Option Nat) (d:Nat) (g z:Option S):Ev:=[some (.db (ks.map aM) (ks.map val)),some (.fn x),some (.dk (ks.map aM) (ks.map λk=>dV (f k))),some (.d (.int d)),g,z]
noncomputable def Ih (c1 c2:G R):G O:=(aK (bh 2 (eH 1 [] (kX (af 0)) (az 0) b_ (af 0) (gC .non)))
 (aK (bh 3 (gC (.int 1)))
 (aK (bh 4 (bK 1 [1,0,2] (kX (af 0)) (az 0) (gF (bG c1)) (af 0)))
 (aK (t_ 400000 (vd (af 4)) (aK (jg 4 (cG (fM (af 4)) (az 5) (vc 2 (af 5) (af 3))))
 (aK (sE 3 u_ (gC (.int 1)))
 (bh 4 (bK 1 [2,1,0] (kX (af 0)) (az 0) (jZ (bG (g2 (kW false) (g2 fm (af 1) (af 0)) (gC .non))) (gF (bG c2))) (af 0))))))
 (bu (af 2))))))
abbrev Ir (i r d:Nat) (x:Str) (F:List S->M R):G R:=zb i x (gN (aQ 2 F) (ao (g2 fm (af r) (af 0)) (ao (af d) aF))) xZ
section
variable {ks:List Ps}{rows:Ps->List (List Ps)}{st:(Ps->Bool)->Ps->Bool}{val:Ps->D}{c1 c2:G R}{x:Str}
theorem CZ (ok:Nat->Prop) (o0:ok 0) (os:∀d,ok d->∀k∈ks,LZ st d k=true->LZ st (d + 1) k=false->ok (d + 1)) (nd:ks.Nodup) (hl:ks.length<=390000)
  (h1:∀k∈ks,∀d,ok d->c1 [some (.d (aM k)),some (.fn x),some (.db (ks.map aM) (ks.map val)),some (.dk (ks.map aM) (ks.map λk=>dV (dZ st d k)))]=.ok (.d (.bl (st (LZ st d) k))))
  (h2:∀k∈ks,∀d,ok d->c2 [some (.d (aM k)),some (.dk (ks.map aM) (ks.map λk=>dV (dZ st d k))),some (.fn x),some (.db (ks.map aM) (ks.map val))]=.ok (.d (.bl (st (LZ st d) k)))):
  ∃d,ok d/\fin (Ih c1 c2 (aV ql [.db (ks.map aM) (ks.map val),.fn x]))=.ok (.mf (ks.map aM) (ks.map λk=>dV (dZ st d k)))/\∀k∈ks,LZ st d k=true->LZ st (d + 1) k=true:=by
 have key:Wp (Ih c1 c2 (aV ql [.db (ks.map aM) (ks.map val),.fn x])) λo=>∃r,o=.rt r/\∃d,ok d/\r=.mf (ks.map aM) (ks.map λk=>dV (dZ st d k))/\∀k∈ks,LZ st d k=true->LZ st (d + 1) k=true:=by
  refine bB (pq (e:=aM) (f:=λk=>dV (dZ st 0 k)) (ks:=ks) eY nd rfl (by omega) λk hk=>⟨dW k,rfl,_,rfl,by rw [iV.mpr rfl];rfl⟩) rfl (bB rfl rfl (bB (kq (xs:=ks) (h:=aM) (λk=>LZ st 0 k && !LZ st 1 k) aM rfl (by omega) λk hk=>⟨?_,λ_=>⟨_,rfl,rfl⟩⟩) rfl ?_))
  ·exact f_ (b:=LZ st 1 k) (gG (h1 k hk 0 o0))
  ·refine KH (λn env=>∃d z,ok d/\env=eP x ks val (dZ st d) (d + 1) (some (.own ((ks.filter λk=>LZ st d k && !LZ st (d + 1) k).map aM))) z/\n=(ks.filter (LZ st d)).length) (ks.filter (LZ st 0)).length (by have:=UA (LZ st 0) ks;omega) ⟨0,none,o0,rfl,rfl⟩ ?_;rintro n _ ⟨d,z,od,rfl,rfl⟩;obtain ⟨g,hg⟩:∃g,g=ks.filter λk=>LZ st d k && !LZ st (d + 1) k:=⟨_,rfl⟩;rw [<-hg];have hm:∀k,k∈g↔k∈ks/\LZ st d k=true/\LZ st (d + 1) k=false:=λk=>by rw [hg,Uq];simp
   by_cases h0:g=[]
   ·refine .inl ⟨by rw [h0];rfl,bC rfl rfl ⟨_,rfl,d,od,rfl,λk hk q=>?_⟩⟩;cases z:LZ st (d + 1) k with
    | true=>rfl
    | false=>have:=(hm k).mpr ⟨hk,q,z⟩;rw [h0] at this;cases this
   ·have od1:ok (d + 1):=by obtain ⟨y,hy⟩:=List.exists_mem_of_ne_nil g h0;obtain ⟨a,b,c⟩:=(hm y).mp hy;exact os d od y a b c
    refine .inr ⟨?_,?_⟩
    ·show M.ok (!(g.map aM).isEmpty)=_;cases g with
     | nil=>exact absurd rfl h0
     | cons _ _=>rfl
    have SE:=part (p:=LZ st d) (q:=LZ st (d + 1)) (λk h=>qi (Yc d) h) ks;rw [<-hg] at SE;have g0:0 < g.length:=List.length_pos_iff.mpr h0;refine cF (yh rfl (uo (ds:=g.map aM) rfl (lD (λi env=>∃z,env=eP x ks val (λk=>if k∈g.take i then some (d + 1) else dZ st d k) (d + 1) (some (.d (.lst (g.map aM)))) z) (g.map aM) ⟨z,by simp⟩ ?_ ?_)))
    ·rintro i hi _ ⟨z,rfl⟩;have hi':i < g.length:=by simpa using hi
     have e:(g.map aM)[i]=aM g[i]:=Vw ..;have hk:g[i]∈ks:=((hm _).mp (Wb hi')).1;rw [e];have ev:dput (ks.map aM,ks.map λk=>dV (if k∈g.take i then some (d + 1) else dZ st d k)) (aM g[i]) (.int ((d + 1:Nat):Int))=(ks.map aM,ks.map λk=>dV (if k∈g.take (i + 1) then some (d + 1) else dZ st d k)):=by
      rw [F2 eY hk,Yq,TR hi'];congr 1;refine WT λk _=>?_;simp only [Ub,Option.toList_some,TL];by_cases c:k=g[i]
      ·rw [if_pos c,if_pos (.inr c)];rfl
      ·simp only [c,if_false,or_false]
     exact ⟨_,rfl,NI (ks:=ks.map aM) (vs:=ks.map λk=>dV (if k∈g.take i then some (d + 1) else dZ st d k)) rfl rfl rfl rfl rfl (dW g[i]) (by rw [Tp];omega) ⟨_,rfl,some (.d (aM g[i])),by rw [ev];rfl⟩⟩
    ·rintro _ ⟨z,rfl⟩;have ev:(ks.map λk=>dV (if k∈g.take (g.map aM).length then some (d + 1) else dZ st d k))=ks.map λk=>dV (dZ st (d + 1) k):=WT λk hk=>by
      rw [Tp,WW,Jh];congr 1;by_cases c:k∈g
      ·rw [if_pos c,if_pos (by obtain ⟨_,a,b⟩:=(hm k).mp c;rw [a,b];rfl)]
      ·rw [if_neg c,if_neg λz=>c ((hm k).mpr ⟨hk,by simpa using z⟩)]
     show Wp _ _;unfold eP;rw [ev];refine cF (NH rfl rfl rfl rfl (gJ (kq (xs:=ks) (h:=aM) (λk=>LZ st (d + 1) k && !LZ st (d + 1 + 1) k) aM rfl (by omega) λk hk=>⟨?_,λ_=>⟨_,rfl,rfl⟩⟩) rfl ⟨(ks.filter (LZ st (d + 1))).length,by omega,d + 1,z,od1,rfl,rfl⟩));have q1:=jx (f:=λk=>dV (dZ st (d + 1) k)) (ks:=ks) (k:=k) (e:=aM) eY (x:=.mo (ks.map aM) (ks.map λk=>dV (dZ st (d + 1) k))) rfl (dW k) hk;cases c:LZ st (d + 1) k with
     | false=>
      refine eU (bq (two rfl rfl q1) rfl ((Ci _).trans ?_));cases z:dZ st (d + 1) k with
      | none=>rw [iV.mp z] at c;cases c
      | some _=>rfl
     | true=>
      rw [iV.mpr c] at q1;refine dw (bq (two rfl rfl q1) rfl (Ci none)) (f_ (b:=LZ st (d + 1 + 1) k) (gG ((h2 k hk (d + 1) od1).trans ?_)));show M.ok (R.d (.bl _))=M.ok (R.d (.bl (LZ st (d + 1) k && _)));rw [c];rfl
 obtain ⟨r,h,d,od,rfl,hs⟩:=n_ key;exact ⟨d,od,h,hs⟩
theorem FE (nd:ks.Nodup) (hl:ks.length<=390000) (hc:∀k∈ks,∀r∈rows k,∀x∈r,x∈ks) (h1:∀k∈ks,(rows k).length<=1000) (h2:∀k∈ks,∀r∈rows k,r.length<=1000):
  ∃d,gZ [.db (ks.map aM) (ks.map (kh rows)),.fn "answered_still"]=.ok (.mf (ks.map aM) (ks.map λk=>dV (dA rows d k)))/\∀k∈ks,LY rows d k=true->LY rows (d + 1) k=true:=by
 have st:∀d k,k∈ks->bV [.d (kh rows k),.db (ks.map aM) (ks.map λk=>dV (dA rows d k))]=.ok (.d (.bl (zO rows (LY rows d) k))):=λd k hk=>by rw [AD (rows k) ks (dA rows d) (hc k hk) (h1 k hk) (h2 k hk)];congr 4;funext r;congr 1;funext x;rw [Uw,Zm,iV]
 have dx:∀k∈ks,∀x:R,oz x=some (ks.map aM,ks.map (kh rows))->fm x (.d (aM k))=.ok (.d (kh rows k)):=λk hk x hx=>jx eY hx (dW k) hk;obtain ⟨d,_,h,hs⟩:=CZ (ks:=ks) (val:=kh rows) (x:="answered_still") (st:=zO rows) (c1:=Ir 1 2 3 "answered_still" bV) (c2:=Ir 2 3 1 "answered_still" bV) (λ_=>True) trivial (λ_ _ _ _ _ _=>trivial) nd hl
  (λk hk d _=>(c2 (two rfl rfl (dx k hk _ rfl)) rfl (st d k hk)).trans rfl) (λk hk d _=>(c2 (two rfl rfl (dx k hk _ rfl)) rfl (st d k hk)).trans rfl)
 exact ⟨d,h,hs⟩
end
section
variable {v w:Wd}{B:Ps}
theorem HV (t:Pr v w):(T4 v w).length<=327680:=n9 t 4 (Tv _)
theorem PL (t:Pr v w){ps:Ps}(h:ps∈T4 v w):ps.length<=4:=T6 (sF ((nR t).mp h)) t.v4
theorem IU (t:Pr v w) (hB:B.length<=100):gX [.d v.d,.d w.d,.d (aM B)]=.ok (.l .fresh ((kn v w B).map aM)):=by
 have tl:=HV t;refine bX (bC (kq (xs:=T4 v w) (h:=aM) (λps=>B.all λq=>decide (q∈ps)) aM ?_ (by omega) λps _=>⟨?_,λ_=>⟨_,rfl,rfl⟩⟩) rfl rfl)
 ·show (gN _ _ _ >>= _)=_;rw [c3 rfl rfl rfl (i7 t 4 (Tv _))];rfl
 ·refine gG (n1 (jw (xs:=B) (h:=dP) (λq=>.bl (decide (q∈ps))) rfl (by omega) λq _=>⟨_,two rfl rfl (LQ q ps),by rw [K55.LO];rfl⟩) (allM _ B))
theorem ON (t:Pr v w) (hB:B.length<=100):∃f:Ps->Option Nat,gH [.d v.d,.d w.d,.d (aM B)]=.ok (.mf ((kn v w B).map aM) ((kn v w B).map λk=>dV (f k)))/\∀j,∀k∈kn v w B,fO (f k) j=La v w j k:=by
 have v4:=t.v4;have w4:=t.w4;have tl:=HV t;have kl:(kn v w B).length<=(T4 v w).length:=UA _ _;have nd:(kn v w B).Nodup:=(vJ v w 4).filter _;have pl:(picks v w).length<=8:=by unfold picks;simp;omega
 obtain ⟨d,h1,h2⟩:=FE (ks:=kn v w B) (rows:=RW v w B) nd (by omega) BI (λk _=>by unfold RW;rw [Tp];omega) (λk _ r hr=>by
  obtain ⟨q,_,rfl⟩:=Tr.mp hr;refine T6 (UA _ _) ?_;rw [Tp];unfold jV;split <;> simp <;> omega)
 refine ⟨dA (RW v w B) d,?_,λj k hk=>(D_ λj q=>M_ BI h2 j k hk q).trans (OP hk)⟩;refine bX (bB (pq (e:=aM) (f:=λ_=>.bl true) (ks:=kn v w B) eY nd ?_ (by omega) λk hk=>⟨dW k,rfl,_,rfl,rfl⟩) rfl (bB (pq (e:=aM) (f:=kh (RW v w B)) (ks:=kn v w B) eY nd rfl (by omega) λk hk=>⟨dW k,rfl,_,c4 rfl rfl rfl rfl (HH t (kn v w B) k (by have:=PL t (k7.mp hk).1;omega)),rfl⟩) rfl (bC (r:=.mf ((kn v w B).map aM) ((kn v w B).map λk=>dV (dA (RW v w B) d k))) ?_ rfl rfl)))
 ·show (gN _ _ _ >>= _)=_;rw [c3 rfl rfl rfl (IU t hB)];rfl
 ·show (match gZ [.db ((kn v w B).map aM) ((kn v w B).map (kh (RW v w B))),.fn "answered_still"] with
   | .ok r=>M.ok (jq r)
   | _=>.bad)=_
  rw [h1];rfl
theorem Nr (ks:List Ps) (f:Ps->Option Nat) (p:Ps) (j:Nat):lF [.db (ks.map aM) (ks.map λk=>dV (f k)),.d (aM p),.d (.int j)]=.ok (.d (.bl (decide (p∈ks) && fO (f p) j))):=by
 have hi:=A4 (ks:=ks) (f:=λk=>dV (f k)) eY (x:=.mb (ks.map aM) (ks.map λk=>dV (f k))) rfl (dW p) (q:=inferInstance);refine bX (bC (r:=.d (.bl (decide (p∈ks) && fO (f p) j))) ?_ rfl rfl);unfold xY;rw [show g2 (nK false) (af 1) (af 0) (aV oZ [.db (ks.map aM) (ks.map λk=>dV (f k)),.d (aM p),.d (.int j)])=_ from two rfl rfl hi,aL];by_cases h:p∈ks
 ·rw [decide_eq_true h];have hd:=jx (ks:=ks) (f:=λk=>dV (f k)) eY (x:=.mb (ks.map aM) (ks.map λk=>dV (f k))) rfl (dW p) h;show j3 _ _ _=M.ok (R.d (.bl (fO (f p) j)));cases q:f p with
  | none=>rw [q] at hd;exact JT (two (two rfl rfl hd) rfl rfl)
  | some e=>
   rw [q] at hd;refine Mx (two (two rfl rfl hd) rfl rfl) (two (two rfl rfl hd) rfl ?_);show M.ok (R.d (.bl (decide ((j:Int) < (e:Int)))))=M.ok (R.d (.bl (decide (j < e))));rw [show decide ((j:Int) < (e:Int))=decide (j < e) by rw [Uw];simp]
 ·rw [decide_eq_false h];rfl
end
end K33
namespace K33
open PySem DL K01 WP K51 K52 K55 K23
section
variable {v w:Wd}{ps qs:Ps}{n j:Nat}
def sd (s:Nat) (p:Nat×Nat):Nat:=if s=0 then p.1 else p.2
theorem Oa {k p:Nat×Nat}(h:p∈jV v w k):sd k.1 p=k.2:=by
 unfold jV at h;unfold sd;split at h <;> rename_i c <;> obtain ⟨b,_,rfl⟩:=Tr.mp h
 ·rw [if_pos c]
 ·rw [if_neg c]
theorem chain (t:Pr v w) (s:Nat):∀(xs:List Nat) (n:Nat) (ps:Ps),(∀x∈xs,(s,x)∈picks v w)->Good v w ps->xs.length<=n->La v w n ps=true->∃qs,Good v w qs/\(∀p∈ps,p∈qs)/\∀x∈xs,∃p∈qs,sd s p=x
 | [],_,ps,_,g,_,_=>⟨ps,g,λ_ h=>h,λ_ h=>nomatch h⟩
 | x::xs,0,_,_,_,h,_=>nomatch h
 | x::xs,n + 1,ps,hx,g,hl,h=>by
  obtain ⟨p,h1,h2,h3⟩:=(r_.mp h).2 _ (hx x Tu);obtain ⟨qs,a,b,c⟩:=chain t s xs n (cQ ps p) (λy hy=>hx y (Tq _ hy)) ((nR t).mp h2) (by simpa using hl) h3;refine ⟨qs,a,λq hq=>b q (mW.mpr (.inl hq)),λy hy=>?_⟩;rcases TZ.mp hy with rfl | hy
  ·exact ⟨p,b p (mW.mpr (.inr rfl)),Oa h1⟩
  ·exact c y hy
theorem cover {l:List Nat}(nd:l.Nodup) (h:∀x∈l,x < m) (hm:m<=l.length):∀b,b < m->b∈l:=λb hb=>VE λz=>by
 have:=Uv (l₁:=b::l) (l₂:=Tw m) (VI.mpr ⟨z,nd⟩) λx hx=>by
  rcases TZ.mp hx with rfl | hx
  ·exact TM.mpr hb
  ·exact TM.mpr (h x hx)
 simp at this;omega
theorem many (h:∀x,x < m->∃p∈qs,sd s p=x):m<=qs.length:=by
 have:=Uv (l₁:=Tw m) (l₂:=qs.map (sd s)) Wc λx hx=>by obtain ⟨p,hp,e⟩:=h x (TM.mp hx);exact Tr.mpr ⟨p,hp,e⟩
 simpa using this
structure Ow (v w:Wd) (qs:Ps):Prop where
 g:Good v w qs
 a:∀x,x < v.m->∃p∈qs,p.1=x
 b:∀x,x < w.m->∃p∈qs,p.2=x
theorem LW (t:Pr v w) (g:Good v w ps) (hv:v.m<=n) (hw:w.m<=n) (h:La v w n ps=true):∃qs,Ow v w qs/\∀p∈ps,p∈qs:=by
 by_cases c:w.m<=v.m
 ·obtain ⟨qs,a,b,d⟩:=chain t 0 (Tw v.m) n ps (λx hx=>VU _ (Tr.mpr ⟨x,hx,rfl⟩)) g (by simpa using hv) h;have d':∀x,x < v.m->∃p∈qs,p.1=x:=λx hx=>d x (TM.mpr hx);have hl:=many (s:=0) d';have nd:(qs.map Prod.snd).Nodup:=U9.mpr (a.up.imp_of_mem fun {p q} hp hq hlt e=>by have:=(a.ag p hp q hq).eq;omega);refine ⟨qs,⟨a,d',λx hx=>?_⟩,b⟩;obtain ⟨p,hp,e⟩:=Tr.mp (cover nd (λy hy=>by obtain ⟨p,hp,rfl⟩:=Tr.mp hy;exact (a.rg p hp).2) (by rw [Tp];omega) x hx);exact ⟨p,hp,e⟩
 ·obtain ⟨qs,a,b,d⟩:=chain t 1 (Tw w.m) n ps (λx hx=>Uu _ (Tr.mpr ⟨x,hx,rfl⟩)) g (by simpa using hw) h;have hl:=many (s:=1) λx hx=>d x (TM.mpr hx);have:=sF a;omega
theorem yq (t:Pr v w) (i:Ow v w qs):∀(j:Nat) (ps:Ps),(∀p∈ps,p∈qs)->La v w j ps=true
 | 0,_,_=>rfl
 | j + 1,ps,h=>by
  have add:∀p∈qs,cQ ps p∈T4 v w/\La v w j (cQ ps p)=true:=λp hp=>
   ⟨(BN t).mpr (ym.sub ⟨i.g.ag,i.g.rg⟩ λq hq=>by rcases Ub.mp hq with hq | hq;exact h q hq;rw [TL.mp hq];exact hp),yq t i j _ λq hq=>by rcases mW.mp hq with hq | rfl;exact h q hq;exact hp⟩
  refine r_.mpr ⟨yq t i j ps h,λk hk=>?_⟩;rcases Ub.mp hk with hk | hk <;> obtain ⟨x,hx,rfl⟩:=Tr.mp hk
  ·obtain ⟨p,hp,rfl⟩:=i.a x (TM.mp hx);exact ⟨p,Tr.mpr ⟨p.2,TM.mpr (i.g.rg p hp).2,rfl⟩,add p hp⟩
  ·obtain ⟨p,hp,rfl⟩:=i.b x (TM.mp hx);exact ⟨p,Tr.mpr ⟨p.1,TM.mpr (i.g.rg p hp).1,rfl⟩,add p hp⟩
theorem Df (t:Pr v w) (g:Good v w ps) (hv:v.m<=n) (hw:w.m<=n) (h:La v w n ps=true) (j:Nat):La v w j ps=true:=by obtain ⟨qs,i,hs⟩:=LW t g hv hw h;exact yq t i j ps hs
end
end K33
namespace K33
open PySem DL K01 WP K51 K52 K55 K23 K22
theorem qE (i:Int) (m:Nat) (h:0 < m):∃k:Nat,i % (m:Int)=k/\k < m:=by obtain ⟨k,hk⟩:=Mm (XZ i (b:=m) (by omega));have:=XR i (b:=m) (by omega);exact ⟨k,hk,by omega⟩
end K33
namespace DL
open PySem PySem.Spec PyProof.Rows L2
section
variable {X:Cx}{c:C}{o a b:Uo}{go ga gb:G R}{apos cpos:Pos}
noncomputable def F8 (go ga gb:G R):G R:=λenv=>go env >>= λr=>match oz r with
 | some z=>ga env >>= λk=>gb env >>= λe=>(match k,e with
  | .d k,.d e=>if c6 k=true then .ok (.d ((gq z.1 z.2 k).getD e)) else .bad
  | _,_=>.bad)
 | none=>.bad
theorem Ks (hu:X.A.units + 64 < Vm) (ho:QD X c o go) (ha:QD X c a ga) (hb:QD X c b gb) (hK:X.K=c.K:=by rfl) (hbase:Wg o "get" X.env (eval o X.env)=eval o X.env:=by rfl) (hline:(apos.endLine == cpos.line)=true:=by rfl)
  (htr:U_ cpos (TF [a,b] X.env)=[(false,eval a X.env),(false,eval b X.env)]:=by rfl):QD X c (.Call (.Attribute o "get" apos) [a,b] [] cpos) (F8 go ga gb):=by
 refine ⟨λS6 s σ H Q I ⟨J,env,sr,w⟩=>?_⟩;refine wpAny_Call_method2_late hbase hline htr (bI (ho.h S6 s σ H (λx H1=>∃J1 r,Ext J H J1 H1/\RR c H J1 H1 r x/\cg _ _ _) I ⟨J,env,sr,aD (aH w) λr wr v J1 H1 e1 r1=>⟨J1,r,e1,r1,wr⟩⟩) λov s1 ⟨x,H1,I1,rx,J1,r,e1,r1,wr⟩=>?_);split at wr
 ·rename_i z hz;obtain ⟨p,rfl,hd⟩:=r1.dk (sr.hp.ext e1) hz;cases rx;obtain ⟨us,ws,ep,h1,_,_,_,hsm,_⟩:=id hd;obtain ⟨ob,es,g1,g2,_⟩:=(fN I1).d _ _ _ h1;refine ⟨"dict","dict.get",ZN,PySem.F.slot_dict_get,PySem.F.type_dict_get,⟨ob,g1,g2.1⟩,λq e=>⟨ob,by cases e;exact g1,g2.2.1⟩,?_⟩;refine wpAny_dict_get2_heap (knd:=mw X.prog X.w) (by show X.A.units + 1 + 16 < Vm;omega) hsm (bI (ha.h S6 s1 σ H1 (λx H2=>∃J2 r,Ext J1 H1 J2 H2/\RR c H1 J2 H2 r x/\cg _ _ _) I1 ⟨J1,env,sr.ext e1,aD (aH wr) λr wr v J2 H2 e2 r2=>⟨J2,r,e2,r2,wr⟩⟩) λkv s2 ⟨y,H2,I2,ry,J2,r',e2,r2,wr⟩=>?_);refine bI (hb.h S6 s2 σ H2 (λx H3=>∃J3 r,Ext J2 H2 J3 H3/\RR c H2 J3 H3 r x/\cg _ _ _) I2 ⟨J2,env,(sr.ext e1).ext e2,aD (aH wr) λr wr v J3 H3 e3 r3=>⟨J3,r,e3,r3,wr⟩⟩) λdv s3 ⟨y',H3,I3,ry',J3,r'',e3,r3,wr⟩=>?_;have e4:=e1.trans (e2.trans e3);split at wr
  ·rename_i k e _ _;split at wr
   ·rename_i ok;have F:HF X.K J3 s3:=HF.of (c:=⟨X.K,H3,H3,λ_=>True⟩) I3 e3.sub;have Sm:dI X.K J3 H3 p z.1 z.2:=hK▸hd.mono (e2.j.trans e3.j) (e2.h.trans e3.h);have hk:Rep X.K J3 k y:=hK▸Rep.mono e3.j r2;obtain ⟨kx,rfl,k1,k2⟩:=g8 ok;obtain ⟨q,rfl⟩:∃q,y=.ref q:=by cases hk;exact ⟨_,rfl⟩
    cases ry;obtain ⟨xs,us,ws,hm,m2,_,hv,m4,_,_⟩:=nE (P:=X.prog) (w:=X.w) F (fN I3) Sm;obtain ⟨l1,l2⟩:=tH (K:=X.K) (J:=J3) ⟨.tup kx,k1,k2⟩ m2 hv m4;refine ⟨q,⟨.tup kx,k1,k2⟩,xs,rfl,jG F k1 hk,hm,?_⟩;cases q2:gq z.1 z.2 (.tup kx) with
    | none=>rw [l2 q2];exact ⟨y',H3,I3.tok _,ry',wr y' J3 H3 e4 (by rw [q2];exact r3)⟩
    | some d=>
     obtain ⟨pp,v,ea,rv,rd⟩:=l1 d q2;rw [ea];exact ⟨v,H3,I3.tok _,rv,wr v J3 H3 e4 (by rw [q2];show Rep c.K J3 d v;rw [<-hK];exact rd)⟩
   ·exact wr.elim
  ·exact wr.elim
 ·exact wr.elim
end
def FA (K:Tg) (x:Str) (st:Wm):Prop:=∃f fd,Ur K Ug x=some (some (.ref f))/\oj K x x st f fd
theorem NC {K:Tg}{st:Wm}(a:Ur K Ug x=some (some (.ref f)))
 (l:K.lookup f=some ⟨u,o,.func (UE x x (cP st) (bU st) (aY st) .none v d p n q r),s⟩) (c:Wn K q x=true) (k:U5 K (.ref f)=true):FA K x st:=⟨f,_,a,D3 l c k⟩
def FB (K:Tg) (mg:Str->Option Ti) (x:Str) (st:Wm):Prop:=∃f fd,mg x=some (.ref f)/\oj K x x st f fd
theorem bS {K:Tg}{h:Vd}{mg:Str->Option Ti}(X:K.In h) (G:h.Ns Ug mg){x:Str}{st:Wm}(e:FA K x st):FB K mg x st:=let ⟨f,fd,a,F⟩:=e;⟨f,fd,Xk X G a,F⟩
theorem qc {P:TU}{w:Uk}{K:Tg}{mg:Str->Option Ti}{base:Vd}{x:Str}{st:Wm}{k:Nat}{Fm:List S->M R}(gB:G O) (N:List Str) (n:Nat) (e:FB K mg x st)
  (hb:N.Nodup->∀(f:T3) (cdv:Ti) (A:Um) (outer:List Env) (s:Tj) (H:Hp) (E:XK) (J:Hp) (T:Exc->Prop),cY k (A.deeper (Ze x (aY st) s.heap.objs.size f cdv))->
   ow (DU P w K mg base N x (aY st) f cdv A outer s H E) ⟨K,H,J,T⟩ (bU st) gB)
  (Sc:fG N (N.take n) (aY st):=by exact ⟨rfl,rfl,rfl,by decide +kernel,rfl,by decide +kernel,by decide +kernel⟩)
  (hbi:∀(kV doc pm:Ti) (an:Option T3) (cdv ct:Ti) (us:List Ti),us.length=(N.take n).length->aau (UE x x (cP st) (bU st) (aY st) .none kV doc pm an cdv ct) ⟨us,[]⟩=pure ((N.take n).zip us):=by
   intro _ _ _ _ _ _ us hl;rcases us with _ | ⟨_,_ | ⟨_,_ | ⟨_,_ | ⟨_,_ | ⟨_,_ | ⟨_,_ | ⟨_,_⟩⟩⟩⟩⟩⟩⟩ <;> first | exact rfl | (cases hl;done) | exact nomatch hl)
  (hF:∀as r,as.length=(N.take n).length->Fm as=.ok r->fin (gB (aV N as))=.ok r:=by intro _ _ _ h;exact h):bz P w K mg base (k + 1) (N.take n).length x Fm:=
 let ⟨f,_,hm,F⟩:=e;Km F hm Sc hbi (hb Sc.nd f) hF
end DL
namespace K32
open PySem DL
def IV:List Str:=["one","other","pairs","base"]
noncomputable def A1:G O:=(aK (jN (gN (aQ 2 K23.dY) (ao (af 0) (ao (af 1) aF))))
 (aK (bh 3 (gN (aQ 1 K23.fH) (ao (af 2) aF)))
 (bu (F8 (gN (aQ 3 K33.gH) (ao (af 0) (ao (af 1) (ao (af 3) aF)))) (af 3) (gC (.int 0))))))
def gY (as:List S):M R:=fin (A1 (aV IV as))
end K32
namespace K32
open PySem DL K01 WP K51 K52 K55 K23 K22 K33
theorem GH {x y:R}{b:Bool}(h:gp false x y=.ok (.d (.bl b))):gp true x y=.ok (.d (.bl (!b))):=by
 unfold gp at h ⊢;cases q:g9 y with
 | bad=>rw [q] at h;cases h
 | exc z=>rw [q] at h;cases h
 | ok ys=>
  rw [q,aL] at h;rw [aL];split at h
  ·rename_i c;rw [if_pos c];have:inD x.dat ys=b:=by simpa using h
   rw [this];rfl
  ·cases h
section
variable {v w:Wd}
def pv (v w:Wd) (n:Nat) (B:Ps):Option Nat:=(Tw (n + 1)).find? λj=>!(decide (B∈T4 v w) && La v w j B)
theorem FD (t:Pr v w) (n:Nat) (hv:v.m<=n) (hw:w.m<=n) (d:D) (B:Ps) (hr:fH [.d d]=.ok (.d (aM B))) (hB:B.length<=100):gY [.d v.d,.d w.d,.d d]=.ok (.d (dV (pv v w n B))):=by
 obtain ⟨f,h1,h2⟩:=ON (B:=B) t hB;refine bX (kK (c2 rfl rfl (jt t)) (bB (c1 rfl hr) rfl (bC (r:=.d (dV (pv v w n B))) ?_ rfl rfl)));unfold F8;rw [c3 rfl rfl rfl h1,aL];show (if c6 (aM B)=true then M.ok (R.d ((gq ((kn v w B).map aM) ((kn v w B).map λk=>dV (f k)) (aM B)).getD (.int 0))) else .bad)=_;rw [if_pos (dW B),mU eY];have hk:B∈kn v w B↔B∈T4 v w:=by rw [k7];exact ⟨λh=>h.1,λh=>⟨h,λ_ h=>h⟩⟩
 congr 3;by_cases hB:B∈T4 v w
 ·rw [if_pos (hk.mpr hB)];have h3:=λj=>h2 j B (hk.mpr hB);show dV (f B)=_;congr 1;unfold pv;cases q:f B with
  | none=>
   refine (XS.mpr λj _=>?_).symm;rw [decide_eq_true hB,<-h3 j,q];show ¬(!(true && true))=true;decide
  | some e=>
   rw [q] at h3;have he:e<=n:=ZR λc=>by have:=Df t ((nR t).mp hB) hv hw ((h3 n).symm.trans (decide_eq_true c)) e;rw [<-h3 e] at this;exact absurd (of_decide_eq_true this) (US _)
   refine (VP.mpr ⟨?_,TM.mpr (by omega),λj hj=>?_⟩).symm
   ·rw [<-h3 e,decide_eq_true hB];show (!(true && decide (e < e)))=true;simp
   ·rw [<-h3 j,decide_eq_true hB];show (!(!(true && decide (j < e))))=true;rw [decide_eq_true hj];rfl
 ·rw [if_neg λz=>hB (hk.mp z)];unfold pv;rw [decide_eq_false hB];have:(Tw (n + 1)).find? (λj=>!(false && La v w j B))=some 0:=VP.mpr ⟨rfl,TM.mpr (by omega),λj hj=>absurd hj (UU _)⟩;rw [this];rfl
end
theorem KQ (ps:Ps):(zY ps).length<=ps.length:=by have:=(xg (jm pF) (uL ps)).1;rw [<-uH] at this;simpa using this
end K32
namespace K23
open PySem DL K01 WP K51 K52 K55
theorem Lo {α:Type}(f:α->Bool):∀xs:List α,iF (xs.map λx=>D.bl (f x))=some (xs.map f)
 | []=>rfl
 | x::xs=>by rw [TV];simp only [iF,Lo f xs];rfl
theorem anyM {α:Type}(f:α->Bool) (xs:List α):nJ [.l .fresh (xs.map λx=>.bl (f x))]=.ok (.d (.bl (xs.any f))):=by unfold nJ;simp only [iU,aL,Lo];congr 3;simp [Yv]
end K23
namespace K22
open PySem DL K01 WP K51 K52 K55 K23
end K22
namespace K35
open PySem DL
end K35
namespace K35
open PySem DL K01 WP K51 K52 K55 K22 K33 K32
open K23 (Pr told gE e_ aM gj bq gG f_ Good sW lH eU dw jP fH)
section
variable {v w:Wd}{B C:Ps}{n j:Nat}
theorem yr (t:Pr v w):∀(j:Nat) (B C:Ps),(∀p∈B,p∈C)->La v w j C=true->La v w j B=true
 | 0,_,_,_,_=>rfl
 | j + 1,B,C,hs,h=>by
  obtain ⟨h1,h2⟩:=r_.mp h;refine r_.mpr ⟨yr t j B C hs h1,λk hk=>?_⟩;obtain ⟨p,hp,hT,hL⟩:=h2 k hk;have hs':∀q∈B++[p],q∈C++[p]:=λq hq=>by
   rcases Ub.mp hq with h | h
   ·exact VU _ (hs q h)
   ·exact Uu _ h
  refine ⟨p,hp,(BN t).mpr (((BN t).mp hT).sub hs'),yr t j _ _ (λq hq=>?_) hL⟩;rw [mW] at hq ⊢;exact hq.imp_left (hs q)
end
end K35
namespace DL
open PySem PySem.Spec PyProof.Rows L2
end DL
namespace K81
open PySem DL
end K81
namespace K81
open PySem DL K01 WP K51 K52 K55 K23 K33
end K81
namespace K81
open PySem DL K01 WP K51 K52 K55 K23 K22 K33
abbrev tN (xs:List Nat):D:=.tup (xs.map dN)
theorem Ff (xs:List Nat):dep (tN xs)<=60:=by
 have:deps (xs.map dN)<=0:=fK λx hx=>by obtain ⟨q,_,rfl⟩:=Tr.mp hx;exact Tv _
 show deps (xs.map dN) + 1<=60;omega
theorem O3 {gs:G (List R)}{env:Ev}{n:Nat}(hg:gs env=.ok [.d (.int (n:Int))]) (h:n<=1000):x_ gs env=.ok (.l .fresh ((Tw n).map dN)):=by unfold x_;rw [hg,aL];simp only;rw [if_pos (cH.mpr ⟨by omega,by omega⟩),U8,M3]
end K81
namespace DL
open PySem PySem.Spec PyProof.Rows L2
section
variable {X:Cx}{c:C}{o a e:Uo}{es:List Uo}{go ga:G R}{apos cpos pos:Pos}
theorem DA:cJ X (.builtin "abs") (λxs H Q=>∃i:Int,xs=[.int i]/\Q (.int (if i < 0 then -i else i)) H):=by intro S6 s σ H xs us Q I r h;obtain ⟨i,rfl,q⟩:=h;obtain ⟨u,rfl,t,rfl⟩:=vals1 r;exact call_abs_int λu tk=>⟨.int _,H,I.tok _,⟨_,rfl⟩,q⟩
noncomputable def B6:List R->M R
 | [.d (.int i)]=>.ok (.d (.int (if i < 0 then -i else i)))
 | _=>.bad
theorem Kr {p:Pos}{gs:G (List R)}(ha:jd X c (e::es) gs) (hm:X.mg "abs"=none) (hg:Gl X "abs":=by rfl)
  (he:TF (e::es) X.env=(false,eval e X.env)::TF es X.env:=by rfl) (hpl:(U_ pos (TF es X.env)).any (·.1)=false:=by rfl):QD X c (.Call (.Name "abs" p) (e::es) [] pos) (gN B6 gs):=
 ⟨iL DA (by
  intro He J H xs vs Q hp rs w;unfold B6 at w;split at w
  ·obtain ⟨v,rfl,r⟩:=rs.one;cases r;exact ⟨_,rfl,w _ J H (Ext.refl hp.sub) (.int _)⟩
  ·exact w.elim) (by decide +kernel) hm ha.h hg (by decide) (by decide) he hpl⟩
def Np (_ j:Int):Prop:=0 < j/\j < 2 ^ 200
theorem GQ:cS X (WN .FloorDiv) (rI Np λi j=>.int (i / j)):=Es λi j _ _ _ _ _ hc q=>by
 have h1:(0:Int) < j:=hc.1;have h2:j.natAbs < 2 ^ 200:=by have:=hc.2;omega
 exact floordiv_int (by omega) (by rw [Za i (by omega)];exact q) (.inl (PyProof.noPylong_of_log2 (WL ((Nat.log2_lt (by omega)).mpr h2) (by decide))))
def Ck (_ j:Int):Bool:=decide (0 < j) && below 1606938044258990275541962092341162602522202993782792835301376 j
abbrev lP:R->R->M R:=fI Ck λi j=>.int (i / j)
theorem jE (ha:QD X c a ga) (hb:QD X c o go):QD X c (.BinOp a .FloorDiv o pos) (g2 lP ga go):=⟨kD GQ (yE (λi j h=>by
 unfold Ck at h;rw [Tt] at h;exact ⟨of_decide_eq_true h.1,(cH.mp h.2).2⟩) λ_ _ _=>.int _) ha.h hb.h⟩
theorem M7:qX X (λx lo hi H Q=>∃z:Str,x=.str z/\z.length<=sizeLine/\Q (.str (VM z lo hi)) H):=by
 intro S6 s σ H x v vl vu lo hi sl Q I rx hs pl pu h;obtain ⟨z,rfl,hz,q⟩:=h;obtain ⟨t,rfl⟩:=rx;have fin:∀t' k,EP X S6 σ Q (.str (VM z lo hi) t') {s with toks:=k}:=λt' k=>⟨.str _,H,I.tok _,⟨_,rfl⟩,q⟩;cases pl <;> cases pu
 ·exact ⟨"str",_,WI.lookup,X_ _ _ _,WU (l:=none) (u:=none) (st:=none) hs rfl (Y9 ⟨T6 (Zj z _ _) hz,fin⟩)⟩
 ·exact ⟨"str",_,WI.lookup,X_ _ _ _,WU (l:=none) (u:=some (_,_)) (st:=none) hs rfl (Y9 ⟨T6 (Zj z _ _) hz,fin⟩)⟩
 ·exact ⟨"str",_,WI.lookup,X_ _ _ _,WU (l:=some (_,_)) (u:=none) (st:=none) hs rfl (Y9 ⟨T6 (Zj z _ _) hz,fin⟩)⟩
 ·exact ⟨"str",_,WI.lookup,X_ _ _ _,WU (l:=some (_,_)) (u:=some (_,_)) (st:=none) hs rfl (Y9 ⟨T6 (Zj z _ _) hz,fin⟩)⟩
noncomputable def nL:R->Option Int->Option Int->M R
 | .d (.str z),l,u=>if z.length<=sizeLine then .ok (.d (.str (VM z l u))) else .bad
 | _,_,_=>.bad
theorem nc {lo hi:Option Uo}{gl gh:GO}{p2:Pos}(h:QD X c o go) (hl:AH X c lo gl) (hh:AH X c hi gh):QD X c (.Subscript o (.Slice lo hi none p2) pos) (mP nL go gl gh):=⟨Iv M7 (by
 intro He J H x v l u Q hp rx w;unfold nL at w;split at w
 ·cases rx;split at w
  ·rename_i hz;exact ⟨_,rfl,hz,w _ J H (Ext.refl hp.sub) (.str _)⟩
  ·exact w.elim
 ·exact w.elim) h.h hl.h hh.h⟩
noncomputable def Ca (go ga:G R):G R:=λenv=>go env >>= λr=>match r with
 | .d (.str x)=>ga env >>= λk=>(match k with
  | .d (.str y)=>.ok (.d (.int (Txt.find x y)))
  | _=>.bad)
 | _=>.bad
theorem G5 (ho:QD X c o go) (ha:QD X c a ga) (hbase:Wg o "find" X.env (eval o X.env)=eval o X.env:=by rfl) (hline:(apos.endLine == cpos.line)=true:=by rfl)
  (htr:U_ cpos (TF [a] X.env)=[(false,eval a X.env)]:=by rfl):QD X c (.Call (.Attribute o "find" apos) [a] [] cpos) (Ca go ga):=by
 refine ⟨λS6 s σ H Q I ⟨J,env,sr,w⟩=>?_⟩;refine wpAny_Call_method1_late hbase hline htr (bI (ho.h S6 s σ H (λx H1=>∃J1 r,Ext J H J1 H1/\RR c H J1 H1 r x/\cg _ _ _) I ⟨J,env,sr,aD (aH w) λr wr v J1 H1 e1 r1=>⟨J1,r,e1,r1,wr⟩⟩) λov s1 ⟨x,H1,I1,rx,J1,r,e1,r1,wr⟩=>?_);split at wr
 ·rename_i x;cases r1;obtain ⟨t,rfl⟩:=rx;refine ⟨"str","str.find",PySem.F.plainAttrs_str,aas,PySem.F.type_str_find,X_ _ _ _,(λ_ e=>nomatch e),?_⟩;refine method1_gives aas PySem.F.entry_str_find (bI (ha.h S6 s1 σ H1 (λx H2=>∃J2 r,Ext J1 H1 J2 H2/\RR c H1 J2 H2 r x/\cg _ _ _) I1 ⟨J1,env,sr.ext e1,aD (aH wr) λr wr v J2 H2 e2 r2=>⟨J2,r,e2,r2,wr⟩⟩) λkv s2 ⟨y,H2,I2,ry,J2,r',e2,r2,wr⟩=>?_);split at wr
  ·rename_i y;cases r2;obtain ⟨t',rfl⟩:=ry;exact ⟨X_ _ _ _,PySem.F.args_str_find_2 _ _,_,gives_str_find x y t t',.int _,H2,I2.tok _,⟨_,rfl⟩,wr _ J2 H2 (e1.trans e2) (.int _)⟩
  ·exact wr.elim
 ·exact wr.elim
end
end DL
namespace K72
open PySem DL
def om:List Str:=["_law_script","_law_k"]
noncomputable def oE:G O:=(aK (bQ (bG (g2 (iB λi j=>.bl (decide (i < j))) (af 1) (gN fL (ao (af 0) aF)))) (bu (g2 a_ (af 0) (af 1))) c9)
 (bu (gC (.int 0))))
def iE (as:List S):M R:=fin (oE (aV om as))
def tw:List Str:=["_law_cell","_law_count","_law_found","_law_number","_law_k"]
noncomputable def ua:G O:=(aK (bh 2 (d_ aW))
 (aK (bh 3 (gN B6 (ao (g2 lP (af 0) (gC (.int 2))) aF)))
 (aK (bQ (bG (g2 (cT false) (g2 dQ (af 0) (gC (.int 2))) (gC (.int 1)))) (aK (cG (bW (ao (af 1) aF)) (az 4) (aK (iK 2 (g2 dQ (af 3) (g2 jy (gC (.int 10)) (gC (.int 20)))))
 (bh 3 (g2 lP (af 3) (g2 jy (gC (.int 10)) (gC (.int 20)))))))
 (bu (af 2))) c9)
 (aK (bh 3 (g2 g7 (g2 dQ (af 3) (g2 jy (gC (.int 10)) (gC (.int 50)))) (gC (.int 1234577))))
 (aK (cG (bW (ao (af 1) aF)) (az 4) (aK (bh 3 (g2 dQ (g2 g7 (g2 g7 (g2 iC (af 3) (gC (.int 30013))) (g2 lP (af 3) (g2 jy (gC (.int 10)) (gC (.int 30))))) (g2 iC (gC (.int 77)) (af 4))) (g2 g7 (g2 jy (gC (.int 10)) (gC (.int 50))) (gC (.int 151)))))
 (iK 2 (g2 lP (g2 iC (af 3) (g2 g7 (g2 lP (af 3) (g2 jy (gC (.int 10)) (gC (.int 40)))) (gC (.int 3)))) (g2 jy (gC (.int 10)) (gC (.int 9)))))))
 (bu (af 2)))))))
def i8 (as:List S):M R:=fin (ua (aV tw as))
def qP:List Str:=["_law_name","_law_ahead"]
noncomputable def rB:G O:=(aK (bQ (bG (g2 (gp false) (af 0) (d_ (aE (gC (.str "and")) (aE (gC (.str "or")) (aE (gC (.str "not")) (aE (gC (.str "some")) (aE (gC (.str "every")) (aE (gC (.str "least")) (aE (gC (.str "true")) (aE (gC (.str "false")) aW))))))))))) (aK (bQ (vd (af 1)) (bu (g2 dX (gC (.str "q")) (mP nL (af 0) (pC (gC (.int 1))) t7))) c9)
 (bu (g2 dX (af 0) (gC (.str "q"))))) c9)
 (bu (af 0)))
def iy (as:List S):M R:=fin (rB (aV qP as))
def qQ:List Str:=["_law_number","_law_many","_law_letters","_law_stem","_law_k","_law_at_here","_law_found","_law_sign"]
noncomputable def rC:G O:=(aK (bh 2 (gC (.str "abcdefghijklmnopqrstuvwxyz")))
 (aK (bh 3 (gC (.str "")))
 (aK (cG (bW (ao (gC (.int 7)) aF)) (az 4) (aK (bh 3 (g2 dX (af 3) (g2 a_ (af 2) (g2 dQ (af 0) (gC (.int 26))))))
 (bh 0 (g2 ie (af 0) (gC (.int 26))))))
 (aK (bQ (bG (g2 (cT false) (g2 dQ (af 0) (gC (.int 2))) (gC (.int 0)))) (bu (gN kM (ao (bK 1 [3] (bW (ao (af 1) aF)) (az 0) b_ (gN (aQ 2 K72.iy) (ao (mP nL (af 1) t7 (pC (g2 dX (gC (.int 2)) (af 0)))) (ao (gC (.bl true)) aF)))) aF))) c9)
 (aK (bh 3 (mP nL (af 3) t7 (pC (g2 dX (gC (.int 2)) (g2 dQ (g2 ie (af 0) (gC (.int 2))) (gC (.int 6)))))))
 (aK (bh 5 (g2 dQ (g2 ie (af 0) (gC (.int 12))) (gN fL (ao (af 3) aF))))
 (aK (bh 6 (d_ aW))
 (aK (cG (bW (ao (af 1) aF)) (az 4) (aK (bh 7 (g2 a_ (af 2) (g2 dQ (g2 dX (Ca (af 2) (g2 a_ (af 3) (af 5))) (g2 iC (gC (.int 5)) (af 4))) (gC (.int 26)))))
 (iK 6 (gN (aQ 2 K72.iy) (ao (g2 dX (g2 dX (mP nL (af 3) t7 (pC (af 5))) (af 7)) (mP nL (af 3) (pC (g2 dX (af 5) (gC (.int 1)))) t7)) (ao (gC (.bl false)) aF))))))
 (bu (gN kM (ao (af 6) aF)))))))))))
def gy (as:List S):M R:=fin (rC (aV qQ as))
noncomputable def qR:List Str:=["_law_many","_law_marks","_law_arrows","_law_number","_law_parts","_law_name","_law_points","_law_point","_law_more_here","_law_pairs","_law_one","_law_other"]
noncomputable def rD:G O:=(aK (bh 4 (d_ aW))
 (aK (cG (fM (af 1)) (az 5) (aK (bh 6 (d_ aW))
 (aK (cG (bW (ao (af 0) aF)) (az 7) (aK (bQ (bG (g2 (cT false) (g2 dQ (af 3) (gC (.int 2))) (gC (.int 1)))) (iK 6 (af 7)) c9)
 (bh 3 (g2 ie (af 3) (gC (.int 2))))))
 (iK 4 (bO (aE (af 5) (aE (gN d9 (ao (af 6) aF)) aW)))))))
 (aK (bh 8 (d_ aW))
 (aK (cG (fM (af 2)) (az 5) (aK (bh 9 (d_ aW))
 (aK (cG (bW (ao (af 0) aF)) (az 10) (cG (bW (ao (af 0) aF)) (az 11) (aK (bQ (bG (g2 (cT false) (g2 dQ (af 3) (gC (.int 2))) (gC (.int 1)))) (iK 9 (bO (aE (af 10) (aE (af 11) aW)))) c9)
 (bh 3 (g2 ie (af 3) (gC (.int 2)))))))
 (iK 8 (bO (aE (af 5) (aE (gN d9 (ao (af 9) aF)) aW)))))))
 (bu (bO (aE (af 0) (aE (gN d9 (ao (af 4) aF)) (aE (gN d9 (ao (af 8) aF)) aW)))))))))
def dB (as:List S):M R:=fin (rD (aV qR as))
def oq:List Str:=["_law_number","_law_at_here","_law_low","_law_k"]
noncomputable def oF:G O:=(aK (bh 2 (gC (.int 1)))
 (aK (cG (bW (ao (af 1) aF)) (az 3) (bh 2 (g2 iC (af 2) (gC (.int 2)))))
 (aK (bQ (bG (g2 (cT false) (g2 dQ (g2 lP (af 0) (af 2)) (gC (.int 2))) (gC (.int 1)))) (bu (g2 yZ (af 0) (af 2))) c9)
 (bu (g2 g7 (af 0) (af 2))))))
def gm (as:List S):M R:=fin (oF (aV oq as))
noncomputable def oX:List Str:=["_law_world_here","_law_number","_law_left","_law_order","_law_k","_law_marks","_law_name","_law_points","_law_arrows","_law_pairs"]
noncomputable def pD:G O:=(aK (bh 2 (x_ (ao (g2 a_ (af 0) (gC (.int 0))) aF)))
 (aK (bh 3 (d_ aW))
 (aK (cG (bW (ao (g2 a_ (af 0) (gC (.int 0))) aF)) (az 4) (aK (mO 3 2 (g2 dQ (af 1) (gN fL (ao (af 2) aF))))
 (bh 1 (g2 ie (af 1) (gC (.int 5))))))
 (aK (bh 5 (d_ aW))
 (aK (cG (fM (g2 a_ (af 0) (gC (.int 1)))) (c7 2 (bx (az 6) (bx (az 7) dc))) (iK 5 (bO (aE (af 6) (aE (gN d9 (ao (gN mL (ao (bK 1 [3] (fq (af 7)) (az 0) b_ (g2 a_ (af 1) (af 0))) aF)) aF)) aW)))))
 (aK (bh 8 (d_ aW))
 (aK (cG (fM (g2 a_ (af 0) (gC (.int 2)))) (c7 2 (bx (az 6) (bx (az 9) dc))) (iK 8 (bO (aE (af 6) (aE (gN d9 (ao (gN mL (ao (bK 2 [3] (fq (af 9)) (c7 2 (bx (az 0) (bx (az 1) dc))) b_ (bO (aE (g2 a_ (af 2) (af 0)) (aE (g2 a_ (af 2) (af 1)) aW)))) aF)) aF)) aW)))))
 (bu (bO (aE (g2 a_ (af 0) (gC (.int 0))) (aE (gN d9 (ao (af 5) aF)) (aE (gN d9 (ao (af 8) aF)) aW))))))))))))
def d8 (as:List S):M R:=fin (pD (aV oX as))
noncomputable def vP:List Str:=["_law_cell","_law_sizes","_law_xs","_law_marks","_law_arrows","_law_many","_law_fill","_law_one","_law_way","_law_bits","_law_other"]
noncomputable def wm:G O:=(aK (bh 2 (gN (aQ 2 K72.i8) (ao (af 0) (ao (gC (.int 7)) aF))))
 (aK (bh 3 (mP yW (gN (aQ 2 K72.gy) (ao (g2 a_ (af 2) (gC (.int 0))) (ao (gC (.int 3)) aF))) t7 (pC (g2 a_ (d_ (aE (gC (.int 0)) (aE (gC (.int 1)) (aE (gC (.int 1)) (aE (gC (.int 2)) (aE (gC (.int 1)) (aE (gC (.int 3)) aW))))))) (g2 dQ (g2 a_ (af 2) (gC (.int 1))) (gC (.int 6)))))))
 (aK (bh 4 (mP yW (gN (aQ 2 K72.gy) (ao (g2 a_ (d_ (aE (g2 a_ (af 2) (gC (.int 2))) (aE (g2 a_ (af 2) (gC (.int 0))) aW))) (g2 ie (g2 dQ (g2 ie (g2 a_ (af 2) (gC (.int 1))) (gC (.int 6))) (gC (.int 4))) (gC (.int 3)))) (ao (gC (.int 3)) aF))) t7 (pC (g2 a_ (d_ (aE (gC (.int 1)) (aE (gC (.int 1)) (aE (gC (.int 2)) (aE (gC (.int 0)) (aE (gC (.int 1)) (aE (gC (.int 3)) aW))))))) (g2 dQ (g2 ie (g2 a_ (af 2) (gC (.int 1))) (gC (.int 24))) (gC (.int 6)))))))
 (aK (bh 5 (g2 a_ (af 1) (g2 dQ (g2 ie (g2 a_ (af 2) (gC (.int 1))) (gC (.int 144))) (gN fL (ao (af 1) aF)))))
 (aK (bh 6 (g2 a_ (d_ (aE (gC (.int 0)) (aE (g2 yZ (g2 jy (gC (.int 2)) (gC (.int 60))) (gC (.int 1))) (aE (g2 a_ (af 2) (gC (.int 3))) (aE (g2 a_ (af 2) (gC (.int 3))) (aE (g2 a_ (af 2) (gC (.int 3))) (aE (g2 a_ (af 2) (gC (.int 3))) aW))))))) (g2 dQ (g2 ie (g2 a_ (af 2) (gC (.int 1))) (gC (.int 10000))) (gC (.int 6)))))
 (aK (jg 4 (jg 3 (bh 7 (gN (aQ 4 K72.dB) (ao (af 5) (ao (af 3) (ao (af 4) (ao (af 6) aF))))))))
 (aK (bh 8 (g2 dQ (g2 a_ (af 2) (gC (.int 4))) (gC (.int 5))))
 (aK (bQ (bG (g2 (cT false) (af 8) (gC (.int 0)))) (bu (bO (aE (af 7) (aE (gN (aQ 2 K72.d8) (ao (af 7) (ao (g2 a_ (af 2) (gC (.int 5))) aF))) aW)))) c9)
 (aK (bQ (bG (g2 (cT false) (af 8) (gC (.int 1)))) (aK (bh 9 (gN B8 (ao (gC (.int 1)) (ao (g2 g7 (g2 iC (af 5) (gN fL (ao (af 3) aF))) (g2 iC (g2 iC (af 5) (af 5)) (gN fL (ao (af 4) aF)))) aF))))
 (aK (bh 10 (gN (aQ 4 K72.dB) (ao (af 5) (ao (af 3) (ao (af 4) (ao (gN (aQ 2 K72.gm) (ao (af 6) (ao (g2 dQ (g2 ie (g2 a_ (af 2) (gC (.int 4))) (gC (.int 5))) (af 9)) aF))) aF))))))
 (bu (bO (aE (af 7) (aE (gN (aQ 2 K72.d8) (ao (af 10) (ao (g2 a_ (af 2) (gC (.int 5))) aF))) aW)))))) c9)
 (aK (bh 5 (g2 a_ (af 1) (g2 dQ (g2 a_ (af 2) (gC (.int 6))) (gN fL (ao (af 1) aF)))))
 (aK (bQ (bG (g2 (cT false) (af 8) (gC (.int 2)))) (bu (bO (aE (af 7) (aE (gN (aQ 4 K72.dB) (ao (af 5) (ao (af 3) (ao (af 4) (ao (af 6) aF))))) aW)))) c9)
 (bu (bO (aE (af 7) (aE (gN (aQ 4 K72.dB) (ao (af 5) (ao (af 3) (ao (af 4) (ao (g2 a_ (af 2) (gC (.int 5))) aF))))) aW)))))))))))))))
def iQ (as:List S):M R:=fin (wm (aV vP as))
def yt:List Str:=["_law_some","_law_name","_law_thing","_law_other","_law_things"]
noncomputable def zc:G O:=(aK (cG (fM (af 0)) (c7 2 (bx (az 3) (bx (az 4) dc))) (bQ (bG (g2 (cT false) (af 3) (af 1))) (bu (g2 (gp false) (af 2) (af 4))) c9))
 (bu (gC (.bl false))))
def kQ (as:List S):M R:=fin (zc (aV yt as))
def vO:List Str:=["_law_one","_law_other","_law_pairs","_law_a","_law_b","_law_name","_law_points","_law_c","_law_d","_law_arrows"]
noncomputable def wg:G O:=(aK (cG (fM (af 2)) (c7 2 (bx (az 3) (bx (az 4) dc))) (aK (cG (fM (g2 a_ (af 0) (gC (.int 1)))) (c7 2 (bx (az 5) (bx (az 6) dc))) (bQ (bG (g2 (cT true) (g2 (gp false) (af 3) (af 6)) (gN (aQ 3 K72.kQ) (ao (g2 a_ (af 1) (gC (.int 1))) (ao (af 5) (ao (af 4) aF)))))) (bu (gC (.bl false))) c9))
 (cG (fM (af 2)) (c7 2 (bx (az 7) (bx (az 8) dc))) (aK (bQ (bG (g2 (cT true) (g2 (cT false) (af 3) (af 7)) (g2 (cT false) (af 4) (af 8)))) (bu (gC (.bl false))) c9)
 (cG (fM (g2 a_ (af 0) (gC (.int 2)))) (c7 2 (bx (az 5) (bx (az 9) dc))) (bQ (bG (g2 (cT true) (g2 (gp false) (bO (aE (af 3) (aE (af 7) aW))) (af 9)) (gN (aQ 3 K72.kQ) (ao (g2 a_ (af 1) (gC (.int 2))) (ao (af 5) (ao (bO (aE (af 4) (aE (af 8) aW))) aF)))))) (bu (gC (.bl false))) c9))))))
 (bu (gC (.bl true))))
def jQ (as:List S):M R:=fin (wg (aV vO as))
end K72
namespace K72
open PySem DL K01 WP K51 K52 K55
open K23 (gG gj bq)
theorem Fz (ns:List Int) (k:Nat):iE [.bor (ns.map D.int),.d (.int k)]=.ok (.d (.int (ns.getD k 0))):=by
 refine bX (cF (j5 (c:=decide ((k:Int) < ((ns.map D.int).length:Nat))) rfl (λh=>?_) λh=>?_))
 ·have h:k < ns.length:=by simpa using h
  have e:(ns.map D.int)[k]?=some (.int ns[k]):=by rw [Uh,TR h];rfl
  exact bC (two rfl rfl (eZ e)) rfl (by simp [Y6,h])
 ·have h:ns.length<=k:=by simpa using h
  exact fP (bC rfl rfl (by simp [Y6,h]))
theorem qa (i j:Int) (h1:0 < j) (h2:j < 2 ^ 200):lP (.d (.int i)) (.d (.int j))=.ok (.d (.int (i / j))):=xX (by
 unfold Ck;rw [Tt];exact ⟨decide_eq_true h1,cH.mpr ⟨by omega,h2⟩⟩)
theorem K6 (c:Int):∃xs:List Int,i8 [.d (.int c),.d (.int 7)]=.ok (.l .fresh (xs.map .int))/\xs.length=7/\∀x∈xs,0<=x:=by
 have key:Wp (i8 [.d (.int c),.d (.int 7)]) λr=>∃xs:List Int,r=.l .fresh (xs.map .int)/\xs.length=7/\∀x∈xs,0<=x:=by
  obtain ⟨n,hn,hn0⟩:∃n:Int,B6 [.d (.int (c / 2))]=.ok (.d (.int n))/\0<=n:=⟨if c / 2 < 0 then -(c / 2) else c / 2,rfl,by split <;> omega⟩;have app:∀{xs:List Int}{y:Int},(∀x∈xs,0<=x)->0<=y->∀x∈xs++[y],0<=x:=λh hy x hx=>by
   rcases Ub.mp hx with q | q
   ·exact h x q
   ·rw [TL.mp q];exact hy
  refine n_ (bB rfl rfl (bB (n1 (two rfl rfl (iI c 2 (by decide) (by decide))) hn) rfl (cF (j5 (c:=aZ (.int (c % 2)) (.int 1)) (bq (two rfl rfl (dO c 2 (by decide))) rfl rfl) (λ_=>?_) λ_=>fP ?_))))
  ·refine dH (lg (n:=7) rfl (by decide)) ?_;refine jO (n:=7) (λk env=>∃(xs:List Int) (n:Int) (x:Option S),env=[some (.d (.int c)),some (.d (.int 7)),some (.own (xs.map .int)),some (.d (.int n)),x]/\xs.length=k/\0<=n/\∀x∈xs,0<=x) ⟨[],n,none,rfl,rfl,hn0,λ_ h=>nomatch h⟩ ?_ ?_
   ·rintro k hk _ ⟨xs,n,x,rfl,hl,h0,hx⟩;refine ⟨_,rfl,N6 rfl (two rfl rfl (dO n (10 ^ 20) (by decide))) rfl (by rw [Tp];omega) (gJ (two rfl rfl (qa n (10 ^ 20) (by decide) (by decide))) rfl ⟨_,rfl,xs++[n % 10 ^ 20],n / 10 ^ 20,_,by rw [Ue];rfl,by simp [hl],aat h0 (by decide),app hx (XZ _ (by decide))⟩)⟩
   ·rintro _ ⟨xs,n,x,rfl,hl,h0,hx⟩;exact bC rfl rfl ⟨_,rfl,xs,rfl,hl,hx⟩
  ·refine bB (two (two rfl rfl (dO n (10 ^ 50) (by decide))) rfl (lC _ _)) rfl (dH (lg (n:=7) rfl (by decide)) ?_);have hm:=XZ n (b:=10 ^ 50) (by decide);refine jO (n:=7) (λk env=>∃(xs:List Int) (n:Int) (x:Option S),env=[some (.d (.int c)),some (.d (.int 7)),some (.own (xs.map .int)),some (.d (.int n)),x]/\xs.length=k/\0<=n/\∀x∈xs,0<=x) ⟨[],n % 10 ^ 50 + 1234577,none,rfl,rfl,by omega,λ_ h=>nomatch h⟩ ?_ ?_
   ·rintro k hk _ ⟨xs,n,x,rfl,hl,h0,hx⟩;obtain ⟨n',hn'⟩:∃n',n'=(n * 30013 + n / 10 ^ 30 + 77 * k) % (10 ^ 50 + 151):=⟨_,rfl⟩;have p1:0<=n':=hn'▸XZ _ (by decide);have p2:n' < 10 ^ 50 + 151:=hn'▸XR _ (by decide);have p3:0<=n' / 10 ^ 40:=aat p1 (by decide);have p4:n' / 10 ^ 40 < 10 ^ 11:=Int.ediv_lt_of_lt_mul (by decide) (Int.lt_trans p2 (by decide));refine ⟨_,rfl,bB (r:=.d (.int n')) ((two (two (two (two rfl rfl (iY n 30013 (by decide) (by decide))) (two rfl rfl (qa n (10 ^ 30) (by decide) (by decide))) (lC _ _)) (two rfl rfl (iY 77 k (by omega) (by omega))) (lC _ _)) (two rfl rfl (lC (10 ^ 50) 151)) (dO _ _ (by decide))).trans (by rw [hn'])) rfl ?_⟩;refine iG rfl (two (two rfl (two (two rfl rfl (qa n' (10 ^ 40) (by decide) (by decide))) rfl (lC _ 3)) (iY _ _ (by omega) (by omega))) rfl (qa _ (10 ^ 9) (by decide) (by decide))) rfl (by rw [Tp];omega) ⟨_,rfl,xs++[n' * (n' / 10 ^ 40 + 3) / 10 ^ 9],n',_,by rw [Ue];rfl,by simp [hl],p1,app hx (aat (Int.mul_nonneg p1 (by omega)) (by decide))⟩
   ·rintro _ ⟨xs,n,x,rfl,hl,h0,hx⟩;exact bC rfl rfl ⟨_,rfl,xs,rfl,hl,hx⟩
 obtain ⟨_,h,xs,rfl,hl⟩:=key;exact ⟨xs,h,hl⟩
theorem ID (z:Str) (j:Nat) (h:j<=z.length):(VM z none (some (j:Int))).cps.toList=z.cps.toList.take j:=by rw [c8] at h;rw [show VM z none (some (j:Int))=_ from acA (x:=z) (j:=j) ⟨by omega,by omega⟩];simp
theorem KI (z:Str) (i:Nat) (h:i<=z.length):(VM z (some (i:Int)) none).cps.toList=z.cps.toList.drop i:=by rw [c8] at h;rw [show VM z (some (i:Int)) none=_ from ab2 (x:=z) (i:=i) ⟨by omega,by omega⟩];rw [show ((z.cps.toList.length:Int) - (i:Int)).toNat=(z.cps.toList.drop i).length by rw [VQ];omega];show ((z.cps.toList.drop i).take (z.cps.toList.drop i).length).toArray.toList=_;rw [WW]
def IK:List D:=[.str "and",.str "or",.str "not",.str "some",.str "every",.str "least",.str "true",.str "false"]
def jR (s:Str) (b:Bool):Str:=if inD (.str s) IK=true then (if b=true then ("q":Str)++VM s (some 1) none else s++"q") else s
theorem qb (x y:Str) (h:x.length + y.length<=1000):dX (.d (.str x)) (.d (.str y))=.ok (.d (.str (x++y))):=Ol x y h
theorem uE (s:Str) (l u:Option Int) (h:s.length<=900):nL (.d (.str s)) l u=.ok (.d (.str (VM s l u)))/\(VM s l u).length<=s.length:=by refine ⟨?_,Zj s l u⟩;show (if s.length<=sizeLine then _ else _)=_;rw [if_pos (fu (by omega))]
theorem AA (s:Str) (b:Bool) (h:s.length<=900):iy [.d (.str s),.d (.bl b)]=.ok (.d (.str (jR s b))):=by
 obtain ⟨h1,h2⟩:=uE s (some 1) none h;refine bX (cF (j5 (c:=inD (.str s) IK) ?_ (λe=>?_) λe=>fP (bC rfl rfl ?_)))
 ·refine bq rfl rfl ?_;show (if deps IK<=60/\dep (.str s)<=60 then M.ok (R.d (.bl (inD (.str s) IK))) else .bad)=_;rw [if_pos ⟨by decide,by show (0:Nat)<=60;decide⟩]
 ·cases b with
  | true=>
   refine cF (qB rfl (bC (two rfl (show mP nL (af 0) (pC (gC (.int 1))) t7 _=_ from h1) (qb _ _ (by show 1 + _<=1000;omega))) rfl ?_));unfold jR;rw [if_pos e];rfl
  | false=>
   refine gu rfl (bC (two rfl rfl (qb _ _ (by show _ + 1<=1000;omega))) rfl ?_);unfold jR;rw [if_pos e];rfl
 ·unfold jR;rw [if_neg (by rw [e];decide)]
theorem Ep {α β:Type}{f:α->β}:∀{xs:List α},(∀a∈xs,∀b∈xs,f a=f b->a=b)->xs.Nodup->(xs.map f).Nodup:=λh nd=>K23.Mk nd h
theorem Ic (s:Str) (h1:1<=s.length):(jR s true).length=s.length:=by
 unfold jR;split
 ·have h2:=c8 s;have h3:("q":Str).cps.toList.length=1:=rfl;rw [if_pos rfl,c8,kJ,TQ,show (1:Int)=((1:Nat):Int) from rfl,KI s 1 h1,VQ];omega
 ·rfl
theorem qJ (i j:Int):dX (.d (.int i)) (.d (.int j))=.ok (.d (.int (i + j))):=rfl
theorem qI {env:Ev}{f:R->Option Int->Option Int->M R}{g:G R}{lo hi:GO}{x z:R}{l u:Option Int}(h:g env=.ok x) (h2:lo env=.ok l) (h3:hi env=.ok u) (hf:f x l u=.ok z):mP f g lo hi env=.ok z:=by unfold mP;rw [h,aL,h2,aL,h3];exact hf
theorem qG {env:Ev}{g:G R}{i:Int}(h:g env=.ok (.d (.int i))):pC g env=.ok (some i):=by unfold pC;rw [h];rfl
theorem len_str (s:Str) (h:s.length<=1000):fL [.d (.str s)]=.ok (.d (.int (s.length:Nat))):=by show (if s.length<=sizeLine then _ else _)=_;rw [if_pos (fu h)]
theorem Ib (s:Str):(jR s false).cps.toList=s.cps.toList\/(jR s false).cps.toList=s.cps.toList++[113]:=by
 unfold jR;split
 ·rw [if_neg (by decide),kJ];exact .inr rfl
 ·exact .inl rfl
theorem AB (c:Int) (hc:0<=c):∃ss:List Str,gy [.d (.int c),.d (.int 3)]=.ok (.l .fresh (ss.map .str))/\ss.length=3/\ss.Nodup:=by
 have fin3:∀(f:Nat->Str),(∀a,a < 3->∀b,b < 3->f a=f b->a=b)->(lZ ((Tw 3).map f)).length=3/\(lZ ((Tw 3).map f)).Nodup:=λf h=>
  ⟨by rw [(n8 _).length_eq];simp,(n8 _).symm.nodup (Ep (λa ha b hb=>h a (TM.mp ha) b (TM.mp hb)) Wc)⟩
 have key:Wp (gy [.d (.int c),.d (.int 3)]) λr=>∃ss:List Str,r=.l .fresh (ss.map .str)/\ss.length=3/\ss.Nodup:=by
  refine n_ (bB rfl rfl (bB rfl rfl (dH (lg (n:=7) rfl (by decide)) ?_)));refine jO (n:=7) (λk env=>∃(n:Int) (st:Str) (x:Option S),env=[some (.d (.int n)),some (.d (.int 3)),some (.d (.str "abcdefghijklmnopqrstuvwxyz")),some (.d (.str st)),x,none,none,none]/\0<=n/\st.length=k) ⟨c,"",none,rfl,hc,rfl⟩ ?_ ?_
  ·rintro k hk _ ⟨n,st,x,rfl,hn,hl⟩;refine ⟨_,rfl,bB (two rfl (two rfl (two rfl rfl (dO n 26 (by decide))) (Eh _ (by omega) (by omega))) (qb st _ (by show st.length + 1<=1000;omega))) rfl (gJ (two rfl rfl (iI n 26 (by decide) (by decide))) rfl ⟨_,rfl,n / 26,_,_,rfl,by omega,?_⟩)⟩;rw [c8,kJ,TQ,<-c8,hl];rfl
  ·rintro _ ⟨n,st,x,rfl,hn,hl⟩;refine cF (j5 (c:=aZ (.int (n % 2)) (.int 0)) (bq (two rfl rfl (dO n 2 (by decide))) rfl rfl) (λ_=>?_) λ_=>fP ?_)
   ·have hs:∀k,k < 3->(VM st none (some ((2 + k:Nat):Int))).length=2 + k:=λk hk=>by rw [c8,ID _ _ (by omega),U6,<-c8];omega
    obtain ⟨h1,h2⟩:=fin3 (λk=>jR (VM st none (some ((2 + k:Nat):Int))) true) λa ha b hb e=>by have:=congrArg abj e;rw [Ic _ (by rw [hs a ha];omega),Ic _ (by rw [hs b hb];omega),hs a ha,hs b hb] at this;omega
    refine bC (n1 (z:=.l .fresh ((lZ ((Tw 3).map λk=>jR (VM st none (some ((2 + k:Nat):Int))) true)).map .str)) (jw (xs:=Tw 3) (h:=dN) (λk=>.str (jR (VM st none (some ((2 + k:Nat):Int))) true)) (iu (n:=3) rfl (by decide)) (by decide) λk hk=>?_) ?_) rfl ⟨_,rfl,_,rfl,h1,h2⟩
    ·obtain ⟨a,b⟩:=uE st none (some ((2 + k:Nat):Int)) (by omega);exact ⟨_,c2 (qI rfl rfl (qG ((two rfl rfl (qJ 2 k)).trans (by rw [show (2:Int) + (k:Int)=((2 + k:Nat):Int) by omega]))) a) rfl (AA _ true (by omega)),rfl⟩
    ·have:=sorted_strs .fresh ((Tw 3).map λk=>jR (VM st none (some ((2 + k:Nat):Int))) true) (by simp);rw [Uj] at this;exact this
   ·obtain ⟨q,hq,S4⟩:=K33.qE (n / 2) 6 (by decide);have hq:n / 2 % 6=(q:Int):=hq;obtain ⟨a,b⟩:=uE st none (some ((2 + q:Nat):Int)) (by omega);obtain ⟨s2,hs2⟩:∃s2,s2=VM st none (some ((2 + q:Nat):Int)):=⟨_,rfl⟩;have l2:s2.length=2 + q:=by rw [hs2,c8,ID _ _ (by omega),U6,<-c8];omega
    obtain ⟨at_,hat,RA⟩:=K33.qE (n / 12) s2.length (by omega);obtain ⟨ch,hch⟩:∃ch,s2.cps.toList[at_]?=some ch:=⟨_,TR (by rw [<-c8];exact RA)⟩;have hix:=AW (z:=s2) (k:=at_) (by omega) hch;obtain ⟨A,hA⟩:∃A,A=VM s2 none (some (at_:Int)):=⟨_,rfl⟩;obtain ⟨B,hB⟩:∃B,B=VM s2 (some ((at_ + 1:Nat):Int)) none:=⟨_,rfl⟩;obtain ⟨eA,lA⟩:=uE s2 none (some (at_:Int)) (by omega);obtain ⟨eB,lB⟩:=uE s2 (some ((at_ + 1:Nat):Int)) none (by omega);rw [<-hA] at eA lA;rw [<-hB] at eB lB;obtain ⟨F,hF⟩:∃F:Int,F=Txt.find "abcdefghijklmnopqrstuvwxyz" ⟨#[ch]⟩:=⟨_,rfl⟩;obtain ⟨sg,hsg⟩:∃sg:Nat->Nat,∀k:Nat,sg k=97 + ((F + 5 * (k:Int)) % 26).toNat:=⟨_,λ_=>rfl⟩;obtain ⟨nm,hnm⟩:∃nm:Nat->Str,∀k:Nat,nm k=A++⟨#[sg k]⟩++B:=⟨_,λ_=>rfl⟩;have cn:∀k,(nm k).cps.toList=A.cps.toList++sg k::B.cps.toList:=λk=>by rw [hnm,kJ,kJ,Yk];rfl
    have lnm:∀k,(nm k).length<=30:=λk=>by rw [c8,cn,TQ,UB,<-c8,<-c8];omega
    obtain ⟨h1,h2⟩:=fin3 (λk=>jR (nm k) false) λi hi j hj e=>by
     have e:=congrArg (λs:Str=>s.cps.toList) e;have e:(jR (nm i) false).cps.toList=(jR (nm j) false).cps.toList:=e;have ln:∀k,(nm k).cps.toList.length=A.cps.toList.length + (B.cps.toList.length + 1):=λk=>by rw [cn,TQ,UB]
     have li:=ln i;have lj:=ln j;have:(nm i).cps.toList=(nm j).cps.toList:=by
      rcases Ib (nm i) with p | p <;> rcases Ib (nm j) with q | q <;> rw [p,q] at e
      ·exact e
      ·have:=congrArg Vo e;simp only [TQ,Yt] at this;omega
      ·have:=congrArg Vo e;simp only [TQ,Yt] at this;omega
      ·exact List.append_cancel_right e
     rw [cn,cn] at this;have:=List.append_cancel_left this;have:=(adn this).1;rw [hsg,hsg] at this;omega
    rw [<-hs2] at a;refine bB (qI rfl rfl (qG ((two rfl (two (two rfl rfl (iI n 2 (by decide) (by decide))) rfl (dO _ 6 (by decide))) (qJ 2 _)).trans (by rw [hq,show (2:Int) + (q:Int)=((2 + q:Nat):Int) by omega]))) a) rfl ?_;refine bB (r:=.d (.int (at_:Int))) ((two (two rfl rfl (iI n 12 (by decide) (by decide))) (n1 rfl (len_str s2 (by omega))) (dO _ _ (by omega))).trans (by rw [hat])) rfl ?_;refine bB rfl rfl (dH (lg (n:=3) rfl (by decide)) ?_);refine jO (n:=3) (λk env=>∃(x y:Option S),env=[some (.d (.int n)),some (.d (.int 3)),some (.d (.str "abcdefghijklmnopqrstuvwxyz")),some (.d (.str s2)),x,some (.d (.int (at_:Int))),some (.own (((Tw k).map λk=>jR (nm k) false).map .str)),y]) ⟨_,_,rfl⟩ ?_ ?_
    ·rintro k hk _ ⟨x,y,rfl⟩;have R9:=Eh ((F + 5 * (k:Int)) % 26) (by omega) (by omega);rw [<-hsg] at R9;refine ⟨_,rfl,bB (two rfl (two (two (show Ca (af 2) (g2 a_ (af 3) (af 5)) _=.ok (.d (.int F)) from ?_) (two rfl rfl (iY 5 k (by omega) (by omega))) (qJ F _)) rfl (dO _ 26 (by decide))) R9) rfl ?_⟩
     ·show (g2 a_ (af 3) (af 5) _ >>= _)=_;rw [two (x:=.d (.str s2)) (y:=.d (.int (at_:Int))) rfl rfl hix,aL,hF]
     ·have e1:=qb A ⟨#[sg k]⟩ (by show A.length + 1<=1000;omega);have e2:=qb (A++⟨#[sg k]⟩) B (by
       rw [c8,kJ,TQ,<-c8];show A.length + 1 + B.length<=1000;omega)
      have e3:=AA (nm k) false (by have:=lnm k;omega);rw [<-hnm] at e2;refine iG rfl (c2 (two (two (qI rfl rfl (qG rfl) eA) rfl e1) (qI rfl (qG (i:=((at_ + 1:Nat):Int)) ((two rfl rfl (qJ _ 1)).trans (by rw [show ((at_:Int) + 1)=((at_ + 1:Nat):Int) by omega]))) rfl eB) e2) rfl e3) rfl (by simp;omega) ⟨_,rfl,some (.d (.int k)),some (.d (.str ⟨#[sg k]⟩)),?_⟩;rw [YZ,Ue,Ue];rfl
    ·rintro _ ⟨x,y,rfl⟩;exact bC (n1 rfl (sorted_strs _ _ (by simp))) rfl ⟨_,rfl,_,rfl,h1,h2⟩
 obtain ⟨_,h,ss,rfl,hl⟩:=key;exact ⟨ss,h,hl⟩
abbrev eW (m:Nat) (A B:List Str) (n:Int) (r:List (Option S)):Ev:=some (.d (.int m))::some (.d (.lst (A.map .str)))::some (.d (.lst (B.map .str)))::some (.d (.int n))::r
theorem Dt {env:Ev}{n:Int}(h:af 3 env=.ok (.d (.int n))):bG (g2 (cT false) (g2 dQ (af 3) (gC (.int 2))) (gC (.int 1))) env=.ok (aZ (.int (n % 2)) (.int 1)):=bq (two h rfl (dO n 2 (by decide))) rfl rfl
theorem half {env:Ev}{n:Int}(h:af 3 env=.ok (.d (.int n))):g2 ie (af 3) (gC (.int 2)) env=.ok (.d (.int (n / 2))):=two h rfl (iI n 2 (by decide) (by decide))
theorem AF (m:Nat) (hm:m<=4) (A B:List Str) (hA:A.length<=3) (hB:B.length<=3) (n:Int):
  ∃ms rs,dB [.d (.int m),.d (.lst (A.map .str)),.d (.lst (B.map .str)),.d (.int n)]=.ok (.d (Wd.d ⟨m,ms,rs⟩))/\ms.map UG=A/\rs.map UG=B/\Dd 16 ⟨m,ms,rs⟩:=by
 have Rm:m * m<=16:=Wr hm hm;have key:Wp (dB [.d (.int m),.d (.lst (A.map .str)),.d (.lst (B.map .str)),.d (.int n)]) λr=>∃ms rs,r=.d (Wd.d ⟨m,ms,rs⟩)/\ms.map UG=A/\rs.map UG=B/\Dd 16 ⟨m,ms,rs⟩:=by
  refine n_ (bB rfl rfl (dH (ds:=A.map .str) rfl ?_));refine lD (λk env=>∃(n:Int) (ms:List (Str×List Nat)) (x y z:Option S),env=eW m A B n [some (.own (ms.map j_)),x,y,z,none,none,none,none]/\ms.map UG=A.take k/\∀r∈ms,r.2.length<=16/\∀p∈r.2,p < m) _ ⟨n,[],none,none,none,rfl,rfl,λ_ h=>nomatch h⟩ ?_ ?_
  ·rintro k hk _ ⟨n,ms,x,y,z,rfl,hf,hp⟩;rw [Tp] at hk;have lm:ms.length<=3:=by have:=congrArg Vo hf;rw [Tp,U6] at this;omega
   rw [Vw];refine ⟨_,rfl,bB rfl rfl (dH (lg (n:=m) rfl (by omega)) ?_)⟩;refine jO (n:=m) (λj env=>∃(n:Int) (xs:List Nat) (z:Option S),env=eW m A B n [some (.own (ms.map j_)),some (.d (.str A[k])),some (.own (xs.map dN)),z,none,none,none,none]/\xs.length<=j/\∀x∈xs,x < m) ⟨n,[],z,rfl,Tv _,λ_ h=>nomatch h⟩ ?_ ?_
   ·rintro j hj _ ⟨n,xs,z,rfl,hl,hx⟩;refine ⟨_,rfl,cF (j5 (Dt (n:=n) rfl) (λ_=>iG rfl rfl rfl (by simp;omega) ?_) λ_=>fP ?_)⟩
    ·refine gJ (half (n:=n) rfl) rfl ⟨_,rfl,n / 2,xs++[j],some (.d (.int j)),by rw [Ue];rfl,by simp;omega,λx hx'=>?_⟩;rcases Ub.mp hx' with h | h
     ·exact hx x h
     ·rw [TL.mp h];exact hj
    ·exact gJ (half (n:=n) rfl) rfl ⟨_,rfl,n / 2,xs,some (.d (.int j)),rfl,by omega,hx⟩
   ·rintro _ ⟨n,xs,z,rfl,hl,hx⟩;refine iG rfl (bF (aI rfl rfl (aI (n1 rfl rfl) rfl bw)) t2) rfl (by simp;omega) ⟨_,rfl,n,ms++[(A[k],xs)],_,_,_,by rw [Ue];rfl,?_,λr hr=>?_⟩
    ·rw [Ue,hf,Yq,TR hk];rfl
    ·rcases Ub.mp hr with h | h
     ·exact hp r h
     ·rw [TL.mp h];exact ⟨by show xs.length<=16;omega,hx⟩
  rintro _ ⟨n,ms,x,y,z,rfl,hf,hp⟩;rw [Tp,WW] at hf;refine bB rfl rfl (dH (ds:=B.map .str) rfl ?_);refine lD (λk env=>∃(n:Int) (rs:List (Str×List (Nat×Nat))) (x a b c:Option S),env=eW m A B n [some (.own (ms.map j_)),x,y,z,some (.own (rs.map n5)),a,b,c]/\rs.map UG=B.take k/\∀r∈rs,r.2.length<=16/\∀p∈r.2,p.1 < m/\p.2 < m) _ ⟨n,[],x,none,none,none,rfl,rfl,λ_ h=>nomatch h⟩ ?_ ?_
  ·rintro k hk _ ⟨n,rs,x,a,b,c,rfl,hf,hp⟩;rw [Tp] at hk;have lm:rs.length<=3:=by have:=congrArg Vo hf;rw [Tp,U6] at this;omega
   rw [Vw];refine ⟨_,rfl,bB rfl rfl (dH (lg (n:=m) rfl (by omega)) ?_)⟩;refine jO (n:=m) (λi env=>∃(n:Int) (ps:List (Nat×Nat)) (b c:Option S),env=eW m A B n [some (.own (ms.map j_)),some (.d (.str B[k])),y,z,some (.own (rs.map n5)),some (.own (ps.map dP)),b,c]/\ps.length<=i * m/\∀p∈ps,p.1 < m/\p.2 < m) ⟨n,[],b,c,rfl,by simp,λ_ h=>nomatch h⟩ ?_ ?_
   ·rintro i hi _ ⟨n,ps,b,c,rfl,hl,hx⟩;have S0:i * m + m<=m * m:=by rw [<-abG];exact VV m hi
    refine ⟨_,rfl,uo (lg (n:=m) rfl (by omega)) ?_⟩;refine jO (n:=m) (λj env=>∃(n:Int) (ps:List (Nat×Nat)) (c:Option S),env=eW m A B n [some (.own (ms.map j_)),some (.d (.str B[k])),y,z,some (.own (rs.map n5)),some (.own (ps.map dP)),some (.d (.int i)),c]/\ps.length<=i * m + j/\∀p∈ps,p.1 < m/\p.2 < m) ⟨n,ps,c,rfl,hl,hx⟩ ?_ ?_
    ·rintro j hj _ ⟨n,ps,c,rfl,hl,hx⟩;refine ⟨_,rfl,cF (j5 (Dt (n:=n) rfl) (λ_=>iG rfl (bF (aI rfl rfl (aI rfl rfl bw)) t2) rfl (by simp;omega) ?_) λ_=>fP ?_)⟩
     ·refine gJ (half (n:=n) rfl) rfl ⟨_,rfl,n / 2,ps++[(i,j)],some (.d (.int j)),by rw [Ue];rfl,by simp;omega,λx hx'=>?_⟩;rcases Ub.mp hx' with h | h
      ·exact hx x h
      ·rw [TL.mp h];exact ⟨hi,hj⟩
     ·exact gJ (half (n:=n) rfl) rfl ⟨_,rfl,n / 2,ps,some (.d (.int j)),rfl,by omega,hx⟩
    ·rintro _ ⟨n,ps,c,rfl,hl,hx⟩;exact ⟨_,rfl,n,ps,_,c,rfl,by rw [abG];exact hl,hx⟩
   ·rintro _ ⟨n,ps,b,c,rfl,hl,hx⟩;refine iG rfl (bF (aI rfl rfl (aI (n1 rfl rfl) rfl bw)) t2) rfl (by simp;omega) ⟨_,rfl,n,rs++[(B[k],ps)],_,_,_,_,by rw [Ue];rfl,?_,λr hr=>?_⟩
    ·rw [Ue,hf,Yq,TR hk];rfl
    ·rcases Ub.mp hr with h | h
     ·exact hp r h
     ·rw [TL.mp h];exact ⟨by show ps.length<=16;omega,hx⟩
  rintro _ ⟨n,rs,x,a,b,c,rfl,hf2,hp2⟩;rw [Tp,WW] at hf2;exact bC (bF (aI rfl rfl (aI (n1 rfl rfl) rfl (aI (n1 rfl rfl) rfl bw))) (by show 3<=1000;decide)) rfl ⟨_,rfl,ms,rs,rfl,hf,hf2,⟨hp,hp2⟩⟩
 obtain ⟨_,h,ms,rs,rfl,hk⟩:=key;exact ⟨ms,rs,h,hk⟩
theorem K4 (n:Int) (k:Nat) (hk:k<=60):∃n',gm [.d (.int n),.d (.int k)]=.ok (.d (.int n')):=by
 have key:Wp (gm [.d (.int n),.d (.int k)]) λr=>∃n':Int,r=.d (.int n'):=by
  refine n_ (bB rfl rfl (dH (lg (n:=k) rfl (by omega)) ?_));refine jO (n:=k) (λj env=>∃x:Option S,env=[some (.d (.int n)),some (.d (.int k)),some (.d (.int (2 ^ j))),x]) ⟨none,rfl⟩ ?_ ?_
  ·rintro j hj _ ⟨x,rfl⟩;exact ⟨_,rfl,gJ (two rfl rfl (iY _ 2 (by decide) (by decide))) rfl ⟨_,rfl,some (.d (.int j)),by rw [Int.pow_succ];rfl⟩⟩
  ·rintro _ ⟨x,rfl⟩;have p0:(0:Int) < 2 ^ k:=Int.pow_pos (by decide);have p1:(2:Int) ^ k < 2 ^ 200:=by have:(2:Nat) ^ k < 2 ^ 200:=Nat.pow_lt_pow_right (by decide) (by omega);exact_mod_cast this
   exact cF (j5 (c:=aZ (.int (n / 2 ^ k % 2)) (.int 1)) (bq (two (two rfl rfl (qa n _ p0 p1)) rfl (dO _ 2 (by decide))) rfl rfl) (λ_=>bC (two rfl rfl (IJ _ _)) rfl ⟨_,rfl,_,rfl⟩) λ_=>fP (bC (two rfl rfl (lC _ _)) rfl ⟨_,rfl,_,rfl⟩))
 obtain ⟨_,h,n',rfl⟩:=key;exact ⟨n',h⟩
theorem Gk {ps:List Nat}{p:Nat}(hp:p < ps.length):a_ (.l .own (ps.map dN)) (.d (dN p))=.ok (.d (dN (ps.getD p 0))):=
 eZ (by rw [Uh,TR hp];simp [Y6,hp])
theorem K8 (u:Wd) (hu:AI u) (hb:Dd 16 u) (h4:u.m<=4) (n:Int):∃ps:List Nat,d8 [.d u.d,.d (.int n)]=.ok (.d (h_ u ps).d):=by
 have ml:=hu.ml;have al:=hu.al;have key:Wp (d8 [.d u.d,.d (.int n)]) λr=>∃ps:List Nat,r=.d (h_ u ps).d:=by
  refine n_ (bB (r:=.l .fresh ((Tw u.m).map dN)) (K81.O3 (b8 (two rfl rfl (ji _ _))) (by omega)) rfl (bB rfl rfl (dH (lg (n:=u.m) (b8 (two rfl rfl (ji _ _))) (by omega)) ?_)));refine jO (n:=u.m) (λk env=>∃(c:Int) (ls ps:List Nat) (x:Option S),env=[some (.d u.d),some (.d (.int c)),some (.own (ls.map dN)),some (.own (ps.map dN)),x,none,none,none,none,none]/\ls.length + k=u.m/\ps.length=k) ⟨n,Tw u.m,[],none,rfl,by simp,rfl⟩ ?_ ?_
  ·rintro k hk _ ⟨c,ls,ps,x,rfl,l1,l2⟩;have hlen:(0:Int) < ((ls.map dN).length:Nat):=by simp;omega
   obtain ⟨j,hj,hjl⟩:=K33.qE c (ls.map dN).length (by simp;omega);have RL:j < ls.length:=by simpa using hjl
   refine ⟨_,rfl,cF (Gr (k:=j) rfl rfl (by decide) ((two rfl (n1 rfl rfl) (dO _ _ hlen)).trans (by rw [hj])) hjl (by simp;omega) (by simp;omega) ?_)⟩;refine gJ (two rfl rfl (iI _ 5 (by decide) (by decide))) rfl ⟨_,rfl,c / 5,ls.eraseIdx j,ps++[ls[j]],some (.d (.int k)),?_,?_,?_⟩
   ·rw [Ue,Vw,show (ls.eraseIdx j).map dN=(ls.map dN).eraseIdx j by simp [Yl,YN,ZJ]];rfl
   ·rw [aaE,if_pos RL];omega
   ·rw [TQ];simp;omega
  rintro _ ⟨c,ls,ps,x,rfl,l1,l2⟩;refine bB rfl rfl (dH (ds:=u.ms.map j_) ?_ ?_)
  ·show (g2 a_ (af 0) (gC (.int 1)) _ >>= _)=_;rw [two (x:=.d u.d) rfl rfl (Eg _ _ _)];rfl
  refine lD (λk env=>∃(y z:Option S),env=[some (.d u.d),some (.d (.int c)),some (.own (ls.map dN)),some (.own (ps.map dN)),x,some (.own ((((h_ u ps).ms).take k).map j_)),y,z,none,none]) _ ⟨none,none,rfl⟩ ?_ ?_
  ·rintro k hk _ ⟨y,z,rfl⟩;rw [Tp] at hk;rw [Vw];obtain ⟨h1,h2⟩:=hb.mp u.ms[k] (Wb hk);refine ⟨_,rfl,iG rfl (bF (aI rfl rfl (aI (n1 (n1 (jw (xs:=u.ms[k].2) (h:=dN) (λp=>dN (ps.getD p 0)) rfl (by omega) λp hp=>⟨_,two rfl rfl (Gk (by rw [l2];exact h2 p hp)),rfl⟩) (x:=.l .fresh (u.ms[k].2.map λp=>dN (ps.getD p 0))) (z:=.l .fresh (bR ((u.ms[k].2.map λp=>ps.getD p 0).map dN))) ?_) rfl) rfl bw)) t2) rfl (by simp;omega) ⟨_,rfl,some (.d (.str u.ms[k].1)),some (.d (.tup (u.ms[k].2.map dN))),?_⟩⟩
   ·have:=O_ (u.ms[k].2.map λp=>ps.getD p 0) (by simp;omega);rw [Uj] at this ⊢;exact this
   ·have hk':k < (h_ u ps).ms.length:=by unfold h_;simpa using hk
    rw [Yq,TR hk',Ue];have e:(h_ u ps).ms[k]=(u.ms[k].1,(bR ((u.ms[k].2.map λp=>ps.getD p 0).map dN)).map Bv):=by unfold h_;simp
    show _=[_,_,_,_,_,some (S.own (_++[j_ (h_ u ps).ms[k]])),_,_,_,_];rw [e];unfold j_;rw [xh dN Bv Ov];rfl
  rintro _ ⟨y,z,rfl⟩;rw [Tp,show u.ms.length=(h_ u ps).ms.length by unfold h_;simp,WW];refine bB rfl rfl (dH (ds:=u.ar.map n5) ?_ ?_)
  ·show (g2 a_ (af 0) (gC (.int 2)) _ >>= _)=_;rw [two (x:=.d u.d) rfl rfl (L4 _ _ _ _)];rfl
  refine lD (λk env=>∃(y a:Option S),env=[some (.d u.d),some (.d (.int c)),some (.own (ls.map dN)),some (.own (ps.map dN)),x,some (.own ((h_ u ps).ms.map j_)),y,z,some (.own ((((h_ u ps).ar).take k).map n5)),a]) _ ⟨y,none,rfl⟩ ?_ ?_
  ·rintro k hk _ ⟨y,a,rfl⟩;rw [Tp] at hk;rw [Vw];obtain ⟨h1,h2⟩:=hb.ap u.ar[k] (Wb hk);refine ⟨_,rfl,iG rfl (bF (aI rfl rfl (aI (n1 (n1 (qu (xs:=u.ar[k].2) (λp=>dN p.1) (λp=>dN p.2) (λp=>dP (ps.getD p.1 0,ps.getD p.2 0)) rfl (by omega) λp hp=>⟨_,bF (aI (two rfl rfl (Gk (by rw [l2];exact (h2 p hp).1))) rfl (aI (two rfl rfl (Gk (by rw [l2];exact (h2 p hp).2))) rfl bw)) t2,rfl⟩) (x:=.l .fresh (u.ar[k].2.map λp=>dP (ps.getD p.1 0,ps.getD p.2 0))) (z:=.l .fresh (bR ((u.ar[k].2.map λp=>(ps.getD p.1 0,ps.getD p.2 0)).map dP))) ?_) rfl) rfl bw)) t2) rfl (by simp;omega) ⟨_,rfl,some (.d (.str u.ar[k].1)),some (.d (.tup (u.ar[k].2.map dP))),?_⟩⟩
   ·have:=Pa (u.ar[k].2.map λp=>(ps.getD p.1 0,ps.getD p.2 0)) (by simp;omega);rw [Uj] at this ⊢;exact this
   ·have hk':k < (h_ u ps).ar.length:=by unfold h_;simpa using hk
    rw [Yq,TR hk',Ue];have e:(h_ u ps).ar[k]=(u.ar[k].1,(bR ((u.ar[k].2.map λp=>(ps.getD p.1 0,ps.getD p.2 0)).map dP)).map Ab):=by unfold h_;simp
    show _=[_,_,_,_,_,_,_,_,some (S.own (_++[n5 (h_ u ps).ar[k]])),_];rw [e];unfold n5;rw [xh dP Ab uM];rfl
  rintro _ ⟨y,a,rfl⟩;rw [Tp,show u.ar.length=(h_ u ps).ar.length by unfold h_;simp,WW];exact bC (bF (aI (two rfl rfl (ji _ _)) rfl (aI (n1 rfl rfl) rfl (aI (n1 rfl rfl) rfl bw))) (by show 3<=1000;decide)) rfl ⟨_,rfl,ps,rfl⟩
 obtain ⟨_,h,ps,rfl⟩:=key;exact ⟨ps,h⟩
end K72
namespace K72
open PySem DL K01 WP K51 K52 K55 K22 K33
open K23 (Pr aM Good gG gj bq eU dw jt f_)
noncomputable def mb (ch:List (List Nat)):Nat->List Nat->Option (List Nat)
 | 0,ah=>some ah
 | r + 1,ah=>(ch.getD ah.length []).findSome? λp=>if p∈ah then none else mb ch r (ah++[p])
end K72
namespace K72
open PySem DL K01 WP K51 K52 K55 K22 K33
open K23 (Pr aM Good gG gj bq eU dw jt f_ jP fH)
end K72
namespace K72
open PySem DL K01 WP K51 K52 K55
open K23 (gG gj bq Pr)
structure Pn (v w:Wd):Prop where
 t:Pr v w
 mn:(v.ms.map UG).Nodup
 an:(v.ar.map UG).Nodup
theorem PU {f:List R->M R}{env:Ev}{g h:G R}{x y z:R}(hx:g env=.ok x) (hy:h env=.ok y) (hf:f [x,y]=.ok z):gN f (ao g (ao h aF)) env=.ok z:=by show (ao g (ao h aF) env >>= f)=_;unfold ao aF;rw [hx,hy];exact hf
theorem v7 (ss:List Str) (a:Nat) (h:a<=ss.length):yW (.l .fresh (ss.map .str)) none (some (a:Int))=.ok (.l .fresh ((ss.take a).map .str)):=by show M.ok (R.l .fresh (cutD (ss.map D.str) none (some (a:Int))))=_;rw [Lx _ _ (by simpa using h),YN]
theorem HB (u:Wd) (ps:List Nat):(h_ u ps).ms.map UG=u.ms.map UG/\(h_ u ps).ar.map UG=u.ar.map UG:=by unfold h_;simp only [Uj];exact ⟨rfl,rfl⟩
theorem yf {m m':Nat}{ms ms':List (Str×List Nat)}{rs rs':List (Str×List (Nat×Nat))}{A B:List Str}(h1:1<=m) (h2:m<=4) (h3:1<=m') (h4:m'<=4) (e1:ms.map UG=A) (e2:rs.map UG=B) (e3:ms'.map UG=A) (e4:rs'.map UG=B) (lA:A.length<=3) (lB:B.length<=3) (nA:A.Nodup) (nB:B.Nodup):Pn ⟨m,ms,rs⟩ ⟨m',ms',rs'⟩:=by have q1:=congrArg Vo e1;have q2:=congrArg Vo e2;have q3:=congrArg Vo e3;have q4:=congrArg Vo e4;rw [Tp] at q1 q2 q3 q4;exact ⟨⟨⟨h1,by show m<=8;omega,by show ms.length<=3;omega,by show rs.length<=3;omega⟩,⟨h3,by show m'<=8;omega,by show ms'.length<=3;omega,by show rs'.length<=3;omega⟩,h2,h4,e1.trans e3.symm,e2.trans e4.symm⟩,e1.symm▸nA,e2.symm▸nB⟩
theorem C_ (c:Int) (sz:List Nat) (hz:1<=sz.length) (hs:∀n∈sz,1<=n/\n<=4) (x:S) (r0:R) (SO:x.rd=.ok r0) (hr0:g9 r0=.ok (sz.map dN)) (RM:fL [r0]=.ok (.d (.int ((sz.map dN).length:Nat)))):∃v w:Wd,iQ [.d (.int c),x]=.ok (.d (.tup [v.d,w.d]))/\Pn v w/\v.m∈sz/\w.m∈sz:=by
 have key:Wp (iQ [.d (.int c),x]) λr=>∃v w:Wd,r=.d (.tup [v.d,w.d])/\Pn v w/\v.m∈sz/\w.m∈sz:=by
  obtain ⟨xs,hx,lx,px⟩:=K6 c;obtain ⟨X,hX⟩:∃X:Nat->Int,∀i,X i=xs.getD i 0:=⟨_,λ_=>rfl⟩;have xi:∀(i:Nat),i < 7->∀env:Ev,af 2 env=.ok (.l .own (xs.map .int))->g2 a_ (af 2) (gC (.int i)) env=.ok (.d (.int (X i))):=λi hi env he=>two he rfl (eZ (by rw [hX,Uh,TR (by omega)];simp [Y6,show i < xs.length by omega]));have xp:∀i,0<=X i:=λi=>by
   rw [hX,Vb];cases q:xs[i]? with
   | none=>exact acw _
   | some y=>exact px y (UJ q)
  have x0:=xp 0;have x2:=xp 2;refine n_ (bB (c2 rfl rfl hx) rfl ?_);obtain ⟨a,ha,RE⟩:=pM (xs:=[0,1,1,2,1,3]) (h:=dN) (.l .fresh (([0,1,1,2,1,3]:List Nat).map dN)) rfl (X 1 % 6) (by omega) (by show _ < (6:Int);omega);have SW:a<=3:=by simp at ha;omega
  obtain ⟨A0,Sa,lA0,nA0⟩:=AB (X 0) x0;refine bB (qI (c2 (xi 0 (by decide) _ rfl) rfl Sa) rfl (qG (two (gQ rfl (by show 6<=1000;decide)) (two (xi 1 (by decide) _ rfl) rfl (dO _ 6 (by decide))) RE)) (v7 A0 a (by omega))) rfl ?_;obtain ⟨A,hA⟩:∃A,A=A0.take a:=⟨_,rfl⟩;have lA:A.length<=3:=by rw [hA,U6];omega
  have nA:A.Nodup:=hA▸(X8 a A0).nodup nA0;rw [<-hA];obtain ⟨n2,_,hn2⟩:=pM (xs:=[X 2,X 0]) (h:=D.int) (.l .fresh [.int (X 2),.int (X 0)]) rfl (X 1 / 6 % 4 / 3) (by omega) (by show _ < (2:Int);omega);have n2p:0<=n2:=by
   rename_i h;simp at h;rcases h with rfl | rfl
   ·exact x2
   ·exact x0
  obtain ⟨b,hb,Ss⟩:=pM (xs:=[1,1,2,0,1,3]) (h:=dN) (.l .fresh (([1,1,2,0,1,3]:List Nat).map dN)) rfl (X 1 / 24 % 6) (by omega) (by show _ < (6:Int);omega);have SX:b<=3:=by simp at hb;omega
  obtain ⟨B0,Sb,lB0,nB0⟩:=AB n2 n2p;refine bB (qI (c2 (two (gQ (aI (xi 2 (by decide) _ rfl) rfl (aI (xi 0 (by decide) _ rfl) rfl bw)) (by show 2<=1000;decide)) (two (two (two (xi 1 (by decide) _ rfl) rfl (iI _ 6 (by decide) (by decide))) rfl (dO _ 4 (by decide))) rfl (iI _ 3 (by decide) (by decide))) hn2) rfl Sb) rfl (qG (two (gQ rfl (by show 6<=1000;decide)) (two (two (xi 1 (by decide) _ rfl) rfl (iI _ 24 (by decide) (by decide))) rfl (dO _ 6 (by decide))) Ss)) (v7 B0 b (by omega))) rfl ?_;obtain ⟨B,hB⟩:∃B,B=B0.take b:=⟨_,rfl⟩;have lB:B.length<=3:=by rw [hB,U6];omega
  have nB:B.Nodup:=hB▸(X8 b B0).nodup nB0;rw [<-hB];have zp:(0:Int) < (sz.length:Nat):=by omega
  have rd1:∀env:Ev,env[1]?=some (some x)->af 1 env=.ok r0:=λenv he=>by show (match env[1]? with | some (some s)=>s.rd | _=>M.bad)=_;rw [he];exact SO
  have len:∀env:Ev,env[1]?=some (some x)->gN fL (ao (af 1) aF) env=.ok (.d (.int (sz.length:Nat))):=λenv he=>n1 (rd1 _ he) (by rw [RM,Tp]);have pick:∀i:Int,∃m,m∈sz/\1<=m/\m<=4/\a_ r0 (.d (.int (i % (sz.length:Nat))))=.ok (.d (dN m)):=λi=>by obtain ⟨m,hm,e⟩:=pM (xs:=sz) (h:=dN) r0 hr0 (i % (sz.length:Nat)) (XZ _ (by omega)) (XR _ zp);exact ⟨m,hm,(hs m hm).1,(hs m hm).2,e⟩
  obtain ⟨m,mI,m1,m4,hm⟩:=pick (X 1 / 144);refine bB (two (rd1 _ rfl) (two (two (xi 1 (by decide) _ rfl) rfl (iI _ 144 (by decide) (by decide))) (len _ rfl) (dO _ _ zp)) hm) rfl ?_;obtain ⟨f,_,hf⟩:=pM (xs:=[0,2 ^ 60 - 1,X 3,X 3,X 3,X 3]) (h:=D.int) (.l .fresh (([0,2 ^ 60 - 1,X 3,X 3,X 3,X 3]:List Int).map D.int)) rfl (X 1 / 10000 % 6) (by omega) (by show _ < (6:Int);omega);refine bB (two (gQ (aI rfl rfl (aI (two rfl rfl (IJ (2 ^ 60) 1)) rfl (aI (xi 3 (by decide) _ rfl) rfl (aI (xi 3 (by decide) _ rfl) rfl (aI (xi 3 (by decide) _ rfl) rfl (aI (xi 3 (by decide) _ rfl) rfl bw)))))) (by show 6<=1000;decide)) (two (two (xi 1 (by decide) _ rfl) rfl (iI _ 10000 (by decide) (by decide))) rfl (dO _ 6 (by decide))) hf) rfl ?_;obtain ⟨ms,rs,hw,e1,e2,ib⟩:=AF m m4 A B lA lB f;have world:∀(m:Nat),1<=m->m<=4->∀n:Int,∃ms rs,dB [.d (.int m),.d (.lst (A.map .str)),.d (.lst (B.map .str)),.d (.int n)]=.ok (.d (Wd.d ⟨m,ms,rs⟩))/\ms.map UG=A/\rs.map UG=B/\Dd 16 ⟨m,ms,rs⟩:=λm _ h n=>AF m h A B lA lB n;have turn:∀{ms rs},ms.map UG=A->rs.map UG=B->Dd 16 ⟨m,ms,rs⟩->∃ms' rs',d8 [.d (Wd.d ⟨m,ms,rs⟩),.d (.int (X 5))]=.ok (.d (Wd.d ⟨m,ms',rs'⟩))/\ms'.map UG=A/\rs'.map UG=B:=fun {ms rs} h1 h2 h3=>by have q1:=congrArg Vo h1;have q2:=congrArg Vo h2;rw [Tp] at q1 q2;obtain ⟨ps,hp⟩:=K8 ⟨m,ms,rs⟩ ⟨m1,by show m<=8;omega,by show ms.length<=3;omega,by show rs.length<=3;omega⟩ h3 m4 (X 5);obtain ⟨t1,t2⟩:=HB ⟨m,ms,rs⟩ ps;exact ⟨_,_,hp,t1.trans h1,t2.trans h2⟩
  refine cF (yh rfl (yh rfl (gJ (c4 rfl rfl rfl rfl hw) rfl (bB (two (xi 4 (by decide) _ rfl) rfl (dO _ 5 (by decide))) rfl ?_))));refine cF (j5 (c:=aZ (.int (X 4 % 5)) (.int 0)) (bq rfl rfl rfl) (λ_=>?_) λ_=>fP ?_)
  ·obtain ⟨ms',rs',ht,t1,t2⟩:=turn e1 e2 ib;exact bC (bF (aI rfl rfl (aI (c2 rfl (xi 5 (by decide) _ rfl) ht) rfl bw)) (by show 2<=1000;decide)) rfl ⟨_,rfl,_,_,rfl,yf m1 m4 m1 m4 e1 e2 t1 t2 lA lB nA nB,mI,mI⟩
  refine cF (j5 (c:=aZ (.int (X 4 % 5)) (.int 1)) (bq rfl rfl rfl) (λ_=>?_) λ_=>fP ?_)
  ·have Rm:m * m<=16:=Wr m4 m4;have q1:m * A.length<=12:=Wr m4 lA;have q2:m * m * B.length<=48:=Wr Rm lB;obtain ⟨bt,Sj,b1,b60⟩:∃bt:Nat,B8 [.d (.int 1),.d (.int ((m:Int) * (A.length:Nat) + (m:Int) * m * (B.length:Nat)))]=.ok (.d (.int (bt:Int)))/\1<=bt/\bt<=60:=by refine ⟨max 1 (m * A.length + m * m * B.length),?_,by omega,by omega⟩;show M.ok (R.d (.int (if (m:Int) * (A.length:Nat) + (m:Int) * m * (B.length:Nat) > 1 then (m:Int) * (A.length:Nat) + (m:Int) * m * (B.length:Nat) else 1)))=_;rw [show (m:Int) * (A.length:Nat) + (m:Int) * m * (B.length:Nat)=((m * A.length + m * m * B.length:Nat):Int) by simp];congr 3;split <;> omega
   obtain ⟨k,hk,S3⟩:=K33.qE (X 4 / 5) bt (by omega);have hix:∀env:Ev,af 2 env=.ok (.l .own (xs.map .int))->af 9 env=.ok (.d (.int (bt:Int)))->g2 dQ (g2 ie (g2 a_ (af 2) (gC (.int 4))) (gC (.int 5))) (af 9) env=.ok (.d (.int (k:Int))):=λenv h2 h9=>(two (two (xi 4 (by decide) env h2) rfl (iI _ 5 (by decide) (by decide))) h9 (dO _ _ (by omega))).trans (by rw [hk]);obtain ⟨f',hf'⟩:=K4 f k (by omega);obtain ⟨ms2,rs2,Ru,g1,g2',ib2⟩:=world m m1 m4 f';obtain ⟨ms',rs',ht,t1,t2⟩:=turn g1 g2' ib2;have lnA:∀env:Ev,af 3 env=.ok (.d (.lst (A.map .str)))->gN fL (ao (af 3) aF) env=.ok (.d (.int (A.length:Nat))):=λenv he=>n1 he (by show M.ok (R.d (.int ((A.map D.str).length:Nat)))=_;rw [Tp]);have lnB:∀env:Ev,af 4 env=.ok (.d (.lst (B.map .str)))->gN fL (ao (af 4) aF) env=.ok (.d (.int (B.length:Nat))):=λenv he=>n1 he (by show M.ok (R.d (.int ((B.map D.str).length:Nat)))=_;rw [Tp]);exact bB (PU rfl (two (two rfl (lnA _ rfl) (iY _ _ (by omega) (by omega))) (two (two rfl rfl (iY _ _ (by omega) (by omega))) (lnB _ rfl) (iY _ _ (by omega) (by omega))) (lC _ _)) Sj) rfl (bB (c4 rfl rfl rfl (c2 rfl (hix _ rfl rfl) hf') Ru) rfl (bC (bF (aI rfl rfl (aI (c2 rfl (xi 5 (by decide) _ rfl) ht) rfl bw)) (by show 2<=1000;decide)) rfl ⟨_,rfl,_,_,rfl,yf m1 m4 m1 m4 e1 e2 t1 t2 lA lB nA nB,mI,mI⟩))
  obtain ⟨m',mI',m1',m4',hm'⟩:=pick (X 6);refine bB (two (rd1 _ rfl) (two (xi 6 (by decide) _ rfl) (len _ rfl) (dO _ _ zp)) hm') rfl ?_;refine cF (j5 (c:=aZ (.int (X 4 % 5)) (.int 2)) (bq rfl rfl rfl) (λ_=>?_) λ_=>fP ?_)
  ·obtain ⟨ms2,rs2,Ru,g1,g2',ib2⟩:=world m' m1' m4' f;exact bC (bF (aI rfl rfl (aI (c4 rfl rfl rfl rfl Ru) rfl bw)) (by show 2<=1000;decide)) rfl ⟨_,rfl,_,_,rfl,yf m1 m4 m1' m4' e1 e2 g1 g2' lA lB nA nB,mI,mI'⟩
  ·obtain ⟨ms2,rs2,Ru,g1,g2',ib2⟩:=world m' m1' m4' (X 5);exact bC (bF (aI rfl rfl (aI (c4 rfl rfl rfl (xi 5 (by decide) _ rfl) Ru) rfl bw)) (by show 2<=1000;decide)) rfl ⟨_,rfl,_,_,rfl,yf m1 m4 m1' m4' e1 e2 g1 g2' lA lB nA nB,mI,mI'⟩
 obtain ⟨_,h,v,w,rfl,hk⟩:=key;exact ⟨v,w,h,hk⟩
theorem K9 (c:Int) (sz:List Nat) (hz:1<=sz.length) (hs:∀n∈sz,1<=n/\n<=4) (x:S) (hx:x=.d (.lst (sz.map dN))\/x=.bor (sz.map dN)):∃v w:Wd,iQ [.d (.int c),x]=.ok (.d (.tup [v.d,w.d]))/\Pn v w/\v.m∈sz/\w.m∈sz:=by
 rcases hx with rfl | rfl
 ·exact C_ c sz hz hs _ _ rfl rfl rfl
 ·exact C_ c sz hz hs _ _ rfl rfl rfl
end K72
namespace K72
open PySem DL K01 WP K51 K52 K55 K22
open K23 (gG gj bq Pr aM eU dw Good lH prs gb LG told dh e_ qh oV zd vq k6 sW iT kI Ct Im)
section
variable {α:Type} [BEq α] [LawfulBEq α] {h:α->D}
noncomputable def mG (rows:List (Str×List α)) (nm:Str) (x:α):Bool:=match rows.find? λr=>decide (r.1=nm) with
 | some r=>decide (x∈r.2)
 | none=>false
theorem eq_str (a b:Str):aZ (.str a) (.str b)=decide (a=b):=by unfold aZ;rw [Uw,beq_iff_eq,decide_eq_true_eq]
theorem K3 (hin:∀(x:α) (xs:List α),gp false (.d (h x)) (.d (.tup (xs.map h)))=.ok (.d (.bl (decide (x∈xs))))) (rows:List (Str×List α)) (nm:Str) (x:α):
  kQ [.d (.tup (rows.map λr=>.tup [.str r.1,.tup (r.2.map h)])),.d (.str nm),.d (h x)]=.ok (.d (.bl (mG rows nm x))):=by
 refine bX (dH (ds:=rows.map λr=>.tup [.str r.1,.tup (r.2.map h)]) rfl ?_);obtain ⟨R0,Sh⟩:∃R0:S,R0=.d (.tup (rows.map λr=>.tup [.str r.1,.tup (r.2.map h)])):=⟨_,rfl⟩;have key:∀(rs:List (Str×List α)) (a b:Option S),Wp (dG (c7 2 (bx (az 3) (bx (az 4) dc))) (bQ (bG (g2 (cT false) (af 3) (af 1))) (bu (g2 (gp false) (af 2) (af 4))) c9) (rs.map λr=>.tup [.str r.1,.tup (r.2.map h)]) [some R0,some (.d (.str nm)),some (.d (h x)),a,b]) λo=>match rs.find? (λr=>decide (r.1=nm)) with
   | some r=>o=.rt (.d (.bl (decide (x∈r.2))))
   | none=>∃e,o=.nx e:=by
  intro rs
  induction rs with
  | nil=>exact λa b=>⟨_,rfl,_,rfl⟩
  | cons r rs ih=>
   intro a b;rw [TV,List.find?_cons];show Wp (c7 2 (bx (az 3) (bx (az 4) dc)) (.tup [.str r.1,.tup (r.2.map h)]) _ >>= _) _;rw [show c7 2 (bx (az 3) (bx (az 4) dc)) (.tup [.str r.1,.tup (r.2.map h)]) [some R0,some (.d (.str nm)),some (.d (h x)),a,b]=.ok [some R0,some (.d (.str nm)),some (.d (h x)),some (.d (.str r.1)),some (.d (.tup (r.2.map h)))] from rfl,aL];have ht:bG (g2 (cT false) (af 3) (af 1)) [some R0,some (.d (.str nm)),some (.d (h x)),some (.d (.str r.1)),some (.d (.tup (r.2.map h)))]=.ok (decide (r.1=nm)):=by refine bq rfl rfl ((lO false (.d (.str r.1)) (.d (.str nm)) (Uc _) (Uc _)).trans ?_);show M.ok (R.d (.bl (aZ (.str r.1) (.str nm))))=_;rw [eq_str]
   cases q:decide (r.1=nm) with
   | true=>
    rw [q] at ht;rw [mR ht,show bu (g2 (gp false) (af 2) (af 4)) [some R0,some (.d (.str nm)),some (.d (h x)),some (.d (.str r.1)),some (.d (.tup (r.2.map h)))]=.ok (.rt (.d (.bl (decide (x∈r.2))))) from E4 (two rfl rfl (hin x r.2)) rfl];exact ⟨_,rfl,rfl⟩
   | false=>
    rw [q] at ht;rw [pK ht];exact ih _ _
 have k0:=key rows none none;rw [Sh] at k0;refine k0.mono λo ho=>?_;unfold mG;cases q:rows.find? λr=>decide (r.1=nm) with
 | some r=>rw [q] at ho;rw [ho]
 | none=>
  rw [q] at ho;obtain ⟨e,rfl⟩:=ho;exact bC rfl rfl rfl
theorem Ny {rows:List (Str×List α)}(nd:(rows.map UG).Nodup){i:Nat}(hi:i < rows.length) (x:α):mG rows rows[i].1 x=decide (x∈rows[i].2):=by
 unfold mG;have:rows.find? (λr=>decide (r.1=rows[i].1))=some rows[i]:=by rw [List.find?_eq_some_iff_getElem];refine ⟨decide_eq_true rfl,i,hi,rfl,λj hj=>?_⟩;have:=(UX.mp nd) j i (by simp;omega) (by simpa using hi) hj;rw [Vw,Vw] at this;simpa using this
 rw [this]
theorem AM {A B:List (Str×List α)}(he:A.map UG=B.map UG) (nd:(A.map UG).Nodup) (x y:α):(A.all λr=>decide (x∈r.2) == mG B r.1 y)=(A.zip B).all λr=>decide (x∈r.1.2) == decide (y∈r.2.2):=by
 have hl:A.length=B.length:=by have:=congrArg Vo he;simpa using this
 rw [show (A.all λr=>decide (x∈r.2) == mG B r.1 y)=((A.zip B).map UG).all λr=>decide (x∈r.2) == mG B r.1 y by rw [List.map_fst_zip (by omega)],Zf,Uw,T8,T8];have e:∀r∈A.zip B,mG B r.1.1 y=decide (y∈r.2.2):=λr hr=>by
  obtain ⟨i,hi,rfl⟩:=Ve.mp hr;have Sx:i < A.length:=by simp at hi;omega
  have R8:i < B.length:=by omega
  rw [List.getElem_zip];have:A[i].1=B[i].1:=by have:=congrArg (λl:List Str=>l[i]?) he;simpa [Sx,R8] using this
  show mG B A[i].1 y=_;rw [this,Ny (he▸nd) R8]
 exact ⟨λh r hr=>by have:=h r hr;rw [<-e r hr];exact this,λh r hr=>by have:=h r hr;rw [<-e r hr] at this;exact this⟩
end
variable {v w:Wd}
theorem Ea (x:Nat) (xs:List Nat):gp false (.d (dN x)) (.d (.tup (xs.map dN)))=.ok (.d (.bl (decide (x∈xs)))):=(yb false (dN x) (xs.map dN) (DV _) (Uc _)).trans (by rw [K55.inN];rfl)
theorem Eb (x:Nat×Nat) (xs:List (Nat×Nat)):gp false (.d (dP x)) (.d (.tup (xs.map dP)))=.ok (.d (.bl (decide (x∈xs)))):=(yb false (dP x) (xs.map dP) (yQ _) (by show 1<=60;decide)).trans (by rw [K55.LO];rfl)
abbrev eT (v w:Wd) (ps:List (Nat×Nat)) (r:List (Option S)):Ev:=some (.d v.d)::some (.d w.d)::some (.d (aM ps))::r
theorem HG (t:Pn v w) (ps:List (Nat×Nat)):jQ [.d v.d,.d w.d,.d (aM ps)]=.ok (.d (.bl (jY v w ps))):=by
 refine bX (IC (h:=dP) (λenv=>∃a b c d e f g:Option S,env=eT v w ps [a,b,c,d,e,f,g]) (λp=>mB v w p && ps.all λq=>eB p q && aB v w p q) ps rfl ⟨none,none,none,none,none,none,none,rfl⟩ ?_ (λz e _=>bC rfl rfl (by unfold jY;rw [z])) (λz=>by unfold jY;rw [z]));rintro p _ _ ⟨_,_,c0,d0,e0,f0,g0,rfl⟩;refine ⟨eT v w ps [some (.d (dN p.1)),some (.d (dN p.2)),c0,d0,e0,f0,g0],rfl,?_⟩;have em:=AM t.t.mn t.mn p.1 p.2;refine IC (h:=j_) (λenv=>∃c d e f g:Option S,env=eT v w ps [some (.d (dN p.1)),some (.d (dN p.2)),c,d,e,f,g]) (λr=>decide (p.1∈r.2) == mG w.ms r.1 p.2) v.ms ?_ ⟨c0,d0,e0,f0,g0,rfl⟩ ?_ (λz e he=>?_) (λz=>.inr ⟨by show (mB v w p && _)=false;unfold mB;rw [<-em,z];rfl,rfl⟩)
 ·show (g2 a_ (af 0) (gC (.int 1)) _ >>= _)=_;rw [two (x:=.d v.d) rfl rfl (Eg _ _ _)];rfl
 ·rintro r _ _ ⟨_,_,e0,f0,g0,rfl⟩;refine ⟨eT v w ps [some (.d (dN p.1)),some (.d (dN p.2)),some (.d (.str r.1)),some (.d (.tup (r.2.map dN))),e0,f0,g0],rfl,?_⟩;refine j5 (c:=!(decide (p.1∈r.2) == mG w.ms r.1 p.2)) (bq (two rfl rfl (Ea _ _)) (c3 (two rfl rfl (Eg _ _ _)) rfl rfl (K3 (h:=dN) Ea w.ms r.1 p.2)) ((K22.B5 ..).trans rfl)) (λz=>bC rfl rfl (.inr ⟨by simpa using z,rfl⟩)) (λz=>fP (.inl ⟨by simpa using z,_,rfl,_,_,_,_,_,rfl⟩))
 ·obtain ⟨c0,d0,e0,f0,g0,rfl⟩:=he;have hm:mB v w p=true:=by unfold mB;rw [<-em];exact z
  refine (Il (h:=dP) (λenv=>∃c d e f g:Option S,env=eT v w ps [some (.d (dN p.1)),some (.d (dN p.2)),c,d,e,f,g]) (λq=>eB p q && aB v w p q) ps rfl ⟨c0,d0,e0,f0,g0,rfl⟩ ?_).mono ?_
  ·rintro q _ _ ⟨c0,d0,_,_,g0,rfl⟩;refine ⟨eT v w ps [some (.d (dN p.1)),some (.d (dN p.2)),c0,d0,some (.d (dN q.1)),some (.d (dN q.2)),g0],rfl,?_⟩;have he:bG (g2 (cT true) (g2 (cT false) (af 3) (af 7)) (g2 (cT false) (af 4) (af 8))) (eT v w ps [some (.d (dN p.1)),some (.d (dN p.2)),c0,d0,some (.d (dN q.1)),some (.d (dN q.2)),g0])=.ok (!eB p q):=by refine bq (two rfl rfl (lO false (.d (dN p.1)) (.d (dN q.1)) (Uc _) (Uc _))) (two rfl rfl (lO false (.d (dN p.2)) (.d (dN q.2)) (Uc _) (Uc _))) ?_;show cT true (.d (.bl (aZ (dN p.1) (dN q.1)))) (.d (.bl (aZ (dN p.2) (dN q.2))))=_;rw [K55.tU,K55.tU,K22.B5];rfl
   cases hc:eB p q with
   | false=>
    rw [hc] at he;exact N9 he (N8 rfl rfl (.inr ⟨rfl,rfl⟩))
   | true=>
    rw [hc] at he;refine gu he ?_;have ea:=AM t.t.an t.an (p.1,q.1) (p.2,q.2);refine (Il (h:=n5) (λenv=>∃c d g:Option S,env=eT v w ps [some (.d (dN p.1)),some (.d (dN p.2)),c,d,some (.d (dN q.1)),some (.d (dN q.2)),g]) (λr=>decide ((p.1,q.1)∈r.2) == mG w.ar r.1 (p.2,q.2)) v.ar ?_ ⟨c0,d0,g0,rfl⟩ ?_).mono ?_
    ·show (g2 a_ (af 0) (gC (.int 2)) _ >>= _)=_;rw [two (x:=.d v.d) rfl rfl (L4 _ _ _ _)];rfl
    ·rintro r _ _ ⟨_,d0,_,rfl⟩;refine ⟨eT v w ps [some (.d (dN p.1)),some (.d (dN p.2)),some (.d (.str r.1)),d0,some (.d (dN q.1)),some (.d (dN q.2)),some (.d (.tup (r.2.map dP)))],rfl,?_⟩;refine j5 (c:=!(decide ((p.1,q.1)∈r.2) == mG w.ar r.1 (p.2,q.2))) (bq (two (bF (aI rfl rfl (aI rfl rfl bw)) t2) rfl (Eb (p.1,q.1) r.2)) (c3 (two rfl rfl (L4 _ _ _ _)) rfl (bF (aI rfl rfl (aI rfl rfl bw)) t2) (K3 (h:=dP) Eb w.ar r.1 (p.2,q.2))) ((K22.B5 ..).trans rfl)) (λz=>bC rfl rfl (.inr ⟨by simpa using z,rfl⟩)) (λz=>fP (.inl ⟨by simpa using z,_,rfl,_,_,_,rfl⟩))
    ·rintro o (⟨z,e,rfl,c1,d1,g1,rfl⟩ | ⟨z,rfl⟩)
     ·exact .inl ⟨by show (true && aB v w p q)=true;unfold aB;rw [<-ea,z];rfl,_,rfl,c1,d1,_,_,g1,rfl⟩
     ·exact .inr ⟨by show (true && aB v w p q)=false;unfold aB;rw [<-ea,z];rfl,rfl⟩
  ·rintro o (⟨z,e,rfl,c1,d1,e1,f1,g1,rfl⟩ | ⟨z,rfl⟩)
   ·exact .inl ⟨by rw [hm,z];rfl,_,rfl,_,_,_,_,_,_,_,rfl⟩
   ·exact .inr ⟨by rw [hm,z];rfl,rfl⟩
end K72
namespace K72
open PySem DL K01 WP K51 K52 K55 K22 K33
open K23 (gG gj bq Pr aM eU dw Good lH LG told e_ f_ allM jP fH)
end K72
namespace DL
open PySem PySem.Spec PyProof.Rows L2
section
variable {X:Cx}{c:C}{a b:Uo}{ga gb:G R}{pos:Pos}
noncomputable def N2 (K:Tg):R2:=λx y H Q=>∃l b xs zs,x=.ref l/\y=.ref b/\bY K H l xs/\bY K H b zs/\xs.length + zs.length<=sizeLine/\∀p,H p=none->Q (.ref p) (upd H p (.lst (xs++zs)))
theorem JP:cS X (WN .Add) (N2 X.K):=by
 intro S6 s σ H x y v u Q I rx ry h;obtain ⟨l,b,xs,zs,rfl,rfl,hl,hb,hz,q⟩:=h;cases rx;cases ry;obtain ⟨S7,r,p1,z1⟩:=I.list hl;obtain ⟨its2,r2,p2,z2⟩:=I.list hb;obtain ⟨⟨cls,dd,data,sl⟩,ho,hc,n,hd⟩:=id p1.isList;obtain ⟨⟨cls2,dd2,data2,sl2⟩,ho2,hc2,n2,hd2⟩:=id p2.isList
 (simp only at hc hd hc2 hd2)
 subst hc hd hc2 hd2;have e1:=r.length;have e2:=r2.length;refine Z9 ⟨_,ho,rfl⟩ ⟨_,ho2,rfl⟩ noFill_list_add seq_list_add PySem.F.slot_list_add PySem.F.entry_list_add (PySem.F.args_list_add_2 _ _) (list_addW l b S7.toArray its2.toArray n n2 dd dd2 sl sl2 (by rw [Tz,Tz];omega)) ⟨ho,ho2,?_⟩;rw [show S7.toArray++its2.toArray=(S7++its2).toArray by simp];exact ⟨.ref _,_,I.lnew (t':=s.toks) (r.append r2) (by rw [TQ];omega),rfl,q _ I.fresh⟩
def tW (x y:R):M R:=iU x >>= λxs=>iU y >>= λys=>if xs.length + ys.length<=sizeLine then .ok (.l .fresh (xs++ys)) else .bad
theorem G4 (ha:QD X c a ga) (hb:QD X c b gb) (hK:X.K=c.K:=by rfl):QD X c (.BinOp a .Add b pos) (g2 tW ga gb):=⟨kD JP (by
 intro He He' J H x y u v Q hp rx ry w;unfold tW at w;obtain ⟨xs,q1,w⟩:=iZ w;obtain ⟨ys,q2,w⟩:=iZ w;obtain ⟨p,vs,rfl,h1,s1⟩:=RR.list hp rx q1;obtain ⟨p2,vs2,rfl,h2,s2⟩:=RR.list hp ry q2;split at w
 ·rename_i hz;rw [s1.length,s2.length] at hz;exact ⟨p,p2,vs,vs2,rfl,rfl,by rw [hK];exact h1,by rw [hK];exact h2,hz,λq hq=>w _ J _ (Ext.new hp.sub hq _) (gW hp hq (s1.append s2))⟩
 ·exact w.elim) ha.h hb.h⟩
end
end DL
namespace DL
open PySem PySem.Spec PyProof.Rows L2 DX
open Sem (wp)
section
variable {prog:TU}{w:Uk}{A:Um}{E:Ti->Tj->Prop}{s:Tj}{d it:T3}{o:Obj}{es:Array Zp}{ep i:Nat}
theorem Gj {v:T3}{Q:Ti->Tj->Prop}(hv:s.heap.IsValuesView v d) (ho:s.heap.get? d=some o) (hdat:o.data=.dict es ep)
  (hQ:Q (.ref s.heap.objs.size) {s with heap:=s.heap.push {cls:=.type "dict_valueiterator",data:=.fields #[.ref d,.int 0 0,.int es.size 0,.int ep 0]}}):TX (T5 prog w) A (Zd (.ref v)) Q E s:=by
 obtain ⟨ov,hov,SY,Sq⟩:=id hv;refine Ym hv.typeIs ZO (Uy ZO hv.typeIs F.entry_dict_values_iter ?_ (F.args_dict_values_iter_1 _));unfold WZ.«dict_values.__iter__»;refine Tf (Th (Tf ?_));unfold acP;refine Tf (aaP hov Sq (x:=.ref d) rfl (Th (Tf ?_)));unfold abN;refine Tf (WH ho hdat (Tf (Xc ho hdat ?_)));have hown:Vr "dict_valueiterator"=false:=by decide
 (simp only [hown,TJ,if_false])
 refine Ui (Th ⟨_,rfl,"dict_valueiterator",_,⟨_,TH _ rfl,rfl⟩,Vg.lookup,?_⟩);simpa [ZP] using hQ
theorem GC {Q:Option Ti->Tj->Prop}(hit:s.heap.IsValIter it d i es.size ep) (hod:s.heap.get? d=some o) (QH:o.data=.dict es ep) (hi:i < es.size)
  (hQ:∀h',h'.IsValIter it d (i + 1) es.size ep->Vu it s.heap h'->Q (some es[i].val) {s with heap:=h'}):TX (T5 prog w) A (W7 (.ref it)) Q E s:=by
 obtain ⟨oi,ho,hc,hd⟩:=id hit;unfold W7;refine Tf (Wh (UT (name:=W9 "__next__") hit.typeIs Vg (Uy Vg hit.typeIs Yn ?_ (X0 _))));refine Tf (Th (Tf (Tf ?_)));refine Tf (VT hit.typeIs (Th (Tf (Xs ho hd ?_))));have hown:Vr "dict_valueiterator"=false:=by decide
 simp only [hown,TJ,if_false];show TX _ _ (ite ((Ww d == Ux)=true) _ _) _ _ s;rw [if_neg (show ¬((Ww d == Ux)=true) from T_)];refine Tf (Th (Tf (WH hod QH ?_)));rw [if_neg (by simp)];refine Tf (Th (Tf (Xc hod QH ?_)));rw [if_neg (by simp)];refine Th ?_;simp only [show ¬((i:Int) < 0) from by omega,if_false,U8,VF hi];refine Tf (Tf (VT hit.typeIs (Th ?_)));refine Tf (YA hit.typeIs ?_);refine Tf (m:=adv (.ref it) 1 (ZP ((i:Int) + 1))) (Zl ho hd (by simp) ?_);have QY:(s.heap.update it (YO (·.setIfInBounds 1 (ZP ((i:Int) + 1))))).IsValIter it d (i + 1) es.size ep:=⟨_,UQ _ ho (aar (XY hd _)),(abB ..).trans hc,by rw [XY hd];simp [ZP]⟩;refine Tf (Ul (Tf (YA (s:={s with heap:=s.heap.update it (YO (·.setIfInBounds 1 (ZP ((i:Int) + 1))))}) QY.typeIs ?_)));refine Tf (YA (s:={s with heap:=s.heap.update it (YO (·.setIfInBounds 1 (ZP ((i:Int) + 1))))}) QY.typeIs ?_);exact Th (Th ⟨_,rfl,Th (hQ _ QY (VC ..))⟩)
theorem Jm {Q:Option Ti->Tj->Prop}(hh:A.handled=none) (hit:s.heap.IsValIter it d i es.size ep) (hod:s.heap.get? d=some o) (QH:o.data=.dict es ep) (hi:es.size<=i)
  (hQ:∀h',acm it s.heap h'->Q none {s with heap:=h'}):TX (T5 prog w) A (W7 (.ref it)) Q E s:=by
 obtain ⟨oi,ho,hc,hd⟩:=id hit;unfold W7;refine Tf (Wh (UT (name:=W9 "__next__") hit.typeIs Vg (Uy Vg hit.typeIs Yn ?_ (X0 _))));refine Tf (Th (Tf (Tf ?_)));refine Tf (VT hit.typeIs (Th (Tf (Xs ho hd ?_))));have hown:Vr "dict_valueiterator"=false:=by decide
 simp only [hown,TJ,if_false];show TX _ _ (ite ((Ww d == Ux)=true) _ _) _ _ s;rw [if_neg (show ¬((Ww d == Ux)=true) from T_)];refine Tf (Th (Tf (WH hod QH ?_)));rw [if_neg (by simp)];refine Tf (Th (Tf (Xc hod QH ?_)));rw [if_neg (by simp)];refine Th ?_;simp only [show ¬((i:Int) < 0) from by omega,if_false,U8,Z3 hi];refine Tf (Tf (VT hit.typeIs (Th ?_)));refine Tf (m:=adv (.ref it) 0 .none) (Zl ho hd (by simp) ?_);refine Tf (m:=aeh (.type "StopIteration") []) ?_;simp only [aeh,aei];refine Tf (Ui ?_ (by size_fits));refine Tf (m:=Xu _ _) (Yd (a:=Ux) (by first | rfl | (simp only [Xu];rfl)) (Ui ?_ (by size_fits)));simp only [aej];refine Tf (abb ?_);rw [show A.in1.handled=none from hh];refine Tf (Th (acn ?_));exact Tf (Xw (T:="StopIteration") (b:=true) ⟨_,TH _ rfl,rfl⟩ aaN (Th (hQ _ (((VC ..).extBut.push _).push _))))
end
end DL
namespace DL
open PySem PySem.Spec PyProof.Rows L2 DX
noncomputable def Oz (a:T3) (ep:Nat) (Td:List (Int×V×V)):It:=⟨λi H=>H a=some (iA a ep Td)/\i < Td.length,λi H x H'=>H'=H/\∃p,Td[i]?=some p/\x=p.2.2,λi H=>H a=some (iA a ep Td)/\Td.length<=i⟩
theorem turn_val {P:TU}{w:Uk}{K:Tg}{tg:Uo}(a it:T3) (ep:Nat) (Td:List (Int×V×V)):Turn P w K tg (Oz a ep Td) [it] it (λi h=>h.IsValIter it a i Td.length ep) where
 mem:=by simp
 obj:=λi h st b hb=>by cases TL.mp hb;obtain ⟨o,e,c,d⟩:=st;exact ⟨o,e,λv z=>by rw [d] at z;cases z⟩
 keep:=λi h h' st k=>st.at λo e=>k it (by simp) o e
 item:=by
  rintro X rfl rfl rfl hc i S6 s σ H E I hf st ⟨hq,hi⟩;obtain ⟨o,es,h1,h2,h3,h4⟩:=(show cj X.prog X.w H s.heap a (iA a ep Td) from I.hok a _ hq).1;have hl:Td.length=es.size:=by have:=h4.length;simpa using this
  obtain ⟨p,hp,er⟩:=pR (i:=i) (by simp;omega) h4;obtain ⟨f0,f1,f2,f3,f4,f5⟩:=hf it (by simp);refine GC (es:=es) (ep:=ep) (hl▸st) h1 h3 (by omega) λh' st' sb=>?_;have I1:Inv X S6 σ H {s with heap:=h'}:=I.turned (t':=s.toks) (λb o hb e=>(sb.2 b hb).trans e) f0 f1 f3 f4 f5;obtain ⟨oi,e,c,d⟩:=id st';exact ⟨_,rfl,ud (s:={s with heap:=h'}) e c d (by decide) ⟨p.2.2,H,I1,by simpa using er.2.2,⟨rfl,p,hp,rfl⟩,by rw [hl];exact st',λb hb=>(hf b hb).1⟩⟩
 done:=by
  rintro X rfl rfl rfl hc i S6 s σ H E I hf st ⟨hq,hi⟩;obtain ⟨o,es,h1,h2,h3,h4⟩:=(show cj X.prog X.w H s.heap a (iA a ep Td) from I.hok a _ hq).1;have hl:Td.length=es.size:=by have:=h4.length;simpa using this
  obtain ⟨f0,f1,f2,f3,f4,f5⟩:=hf it (by simp);exact Jm (es:=es) (ep:=ep) (I.ok.hd hc) (hl▸st) h1 h3 (by omega) λh' eb=>⟨rfl,I.turned (t':=s.toks) (λb o hb e=>eb b o hb e) f0 f1 f3 f4 f5⟩
 self:=λ_ _ _ _ _ st h=>wpAny_pyIter_valiter st h
section
variable {X:Cx}{c:C}{e tg:Uo}{g:G R}{apos cpos:Pos}
noncomputable def LJ (g:G R):G (List D):=λenv=>g env >>= λr=>match oz r with
 | some z=>.ok z.2
 | none=>.bad
theorem JN (d:T3) (o:Obj) (hd:(d == V8)=false) (hc:o.cls=.type "dict"):
  Meets (WZ.«dict.values» ⟨[.ref d],[]⟩) (λ_ R s=>s.heap.get? d=some o/\R (.ok (.ret (.ref s.heap.objs.size))) {s with heap:=s.heap.push {cls:=.type "dict_values",data:=.fields #[.ref d]}}):=
 .of_wp λprog w A R s ⟨ho,h⟩=>by have hT:s.TypeIs (.ref d) "dict":=⟨o,ho,hc⟩;refine Tf ?_;unfold ad6;refine Tf (aap hT ?_);show TX _ _ (pure d) _ _ s;refine Th ?_;show TX _ _ (Xb d >>= _) _ _ s;unfold Xb;rw [if_neg (by rw [hd];exact T_)];exact Tf (Th (Tf (Ui (Th ⟨_,rfl,h⟩))))
theorem ML {tl:TE}(hl:PE X e tl) (hbase:Wg e "values" X.env (eval e X.env)=eval e X.env) (hline:(apos.endLine == cpos.line)=true):PI X tg (.Call (.Attribute e "values" apos) [] [] cpos) (λσ H Q=>tl σ H λx H1=>∃a ep Td,x=.ref a/\(a == V8)=false/\H1 a=some (iA a ep Td)/\Q (Oz a ep Td) H1):=λS6 s σ H R I h=>wpAny_Call_method0_late hbase hline (bI (hl S6 s σ H _ I h) λv s1 ⟨x,H1,I1,r1,a,ep,Td,ex,hsm,hq,q⟩=>by
 subst ex;cases r1;obtain ⟨o,es,h1,h2,h3,h4⟩:=(show cj X.prog X.w H1 s1.heap a (iA a ep Td) from I1.hok a _ hq).1;have hl:Td.length=es.size:=by have:=h4.length;simpa using this
 refine ⟨"dict","dict.values",ZN,PySem.F.slot_dict_values,PySem.F.type_dict_values,⟨o,h1,h2.1⟩,λq e=>⟨o,by cases e;exact h1,h2.2.1⟩,?_⟩;refine seqMethod0_meets F.slot_dict_values F.entry_dict_values ⟨o,h1,h2.1⟩ (F.args_dict_values_1 _) (JN a o hsm h2.1) ⟨h1,?_⟩;have I2:Inv X S6 σ H1 {s1 with heap:=s1.heap.push {cls:=.type "dict_values",data:=.fields #[.ref a]}}:=I1.kept (t':=s1.toks) λb o e=>Tn _ e;refine Gj (d:=a) ⟨_,TH _ rfl,rfl,rfl⟩ (Tn _ h1) h3 ⟨_,[_],_,_,H1,rfl,I2.kept (t':=s1.toks) (λb o e=>Tn _ e),turn_val a _ ep Td,⟨_,TH _ rfl,rfl,by rw [hl];rfl⟩,λb hb=>?_,q⟩;cases TL.mp hb;exact I2.fpOk (Tv _) (I2.hok.fresh (Tv _)))
theorem G7 (h:QD X c e g) (hK:X.K=c.K:=by rfl) (hbase:Wg e "values" X.env (eval e X.env)=eval e X.env:=by rfl) (hline:(apos.endLine == cpos.line)=true:=by rfl):vV X c tg (.Call (.Attribute e "values" apos) [] [] cpos) (LJ g):=⟨nV (ML h.h hbase hline) λσ H Q ⟨J,env,sr,w⟩=>by
 refine ⟨J,env,sr,aD (aH w) λr wr v J1 H1 e1 r1=>?_⟩;cases hz:oz r with
 | none=>rw [hz] at wr;exact wr.elim
 | some z=>
  rw [hz] at wr;obtain ⟨a,rfl,us,ws,ep,h1,h2,h3,h4,h5,h6⟩:=r1.dk (sr.hp.ext e1) hz;have hh:∀ds:List D,(bZ ds).length=ds.length:=λds=>by induction ds with
   | nil=>rfl
   | cons d ds ih=>show (bZ ds).length + 1=_;rw [ih];rfl
  have lk:((bZ z.1).zip (us.zip ws)).length=z.2.length:=by rw [Y8,Y8,hh,<-h2.length,<-h3.length,<-h6];omega
  refine ⟨a,ep,_,rfl,h5,h1,wr _ J1 H1 e1 λi J' H' hp u=>⟨λhl=>⟨u.2 _ _ h1,by omega⟩,λd hd=>?_⟩⟩;have hi:i < z.2.length:=(T7.mp hd).1;obtain ⟨x,k1,k2⟩:=h3.get hd;refine ⟨⟨u.2 _ _ h1,by omega⟩,λy H2 ⟨e,p,hp',hy⟩=>⟨J',by subst e;exact Ext.refl hp.sub,?_⟩⟩;have:p.2.2=x:=by rw [Wu,] at hp';have:=(Wu.mp hp'.2).2;rw [k1] at this;cases this;rfl
  rw [hy,this];exact k2.mono u.1⟩
end
end DL
namespace DL
open PySem PySem.Spec PyProof.Rows L2
open PySem.W (KasT kas_sort kas_ask kas_item kat_run kat_snds)
section
variable {prog:TU}{w:Uk}{A:Um}{E:Ti->Tj->Prop}{s:Tj}
def j4 (kz:List Int) (i j:Nat):Bool:=decide (kz.getD i 0 < kz.getD j 0)
def jB (kz:List Int) (vs:List Ti):List Ti:=if vs.length < 2 then vs else (aX (j4 kz) (V1 vs.length)).toList.map λi=>vs.getD i Ux
theorem GR (kz:List Int) (vs:List Ti):(jB kz vs).length=vs.length:=by
 unfold jB;split
 ·rfl
 ·exact zF (j4 kz) (by omega)
theorem sH:∀{us:List Ti}{kz:List Int}{i:Nat},W_ us kz->i < us.length->∃t,us.getD i Ux=.int (kz.getD i 0) t
 | _,_,0,.cons n t h,_=>⟨t,rfl⟩
 | _,_,i + 1,.cons n t h,hi=>by obtain ⟨t,e⟩:=sH (i:=i) h (by simpa using hi);exact ⟨t,by simpa using e⟩
theorem E_ {a kS:T3}{vs:List Ti}{keys:List Ti}{kz:List Int}{e e1:Nat}{P:acd->Tj->Prop}(hka:kS≠a) (nk:s.heap.get? kS=some (Vf "list" keys.toArray e)) (na:s.heap.get? a=some (Vf "list" #[] e1)) (hk:W_ keys kz) (hlen:kz.length=vs.length) (h64:vs.length < 64)
  (h:∀h' c,(∀b o,b≠a->b≠kS->s.heap.get? b=some o->h'.get? b=some o)->h'.get? a=some (Vf "list" (jB kz vs).toArray c)->P (.done (.ret .none)) {s with heap:=h'}):
  TX (T5 prog w) A (ksk_end a false vs.toArray e1 (.ref kS) keys.toArray) P E s:=by
 have kl:keys.length=vs.length:=by have:=hk.length;omega
 have tail:∀st:SortSt,(arrOf st).map (·.2)=(jB kz vs).toArray->aee st=none->TX (T5 prog w) A (ksk_tail a false e1 (.ref kS) st) P E s:=λst ho hf=>by
  have na1:(s.heap.update kS (UR λ_=>(#[]:Array Ti))).get? a=some (Vf "list" #[] e1):=by rw [Vp _ _ _ _ hka.symm];exact na
  obtain ⟨c2,hc2⟩:∃c2,((s.heap.update kS (UR λ_=>(#[]:Array Ti))).update a (UR λ_=>(jB kz vs).toArray)).get? a=some (Vf "list" (jB kz vs).toArray c2):=⟨_,XM na1 λ_=>(jB kz vs).toArray⟩;unfold ksk_tail;dsimp only;rw [ho];refine Tf (WR nk rfl ?_ (by rw [Tz,kl,UH];omega) (Uc _));refine Tf (ZG (Tf (YW na1 rfl ?_)));refine Tf (WR na1 rfl ?_ (Uc _) (by show (jB kz vs).toArray.size<=_;rw [Tz,GR,UH];omega));rw [hf];simp only [bne_self_eq_false,TJ,if_false];refine Th (h _ c2 (λb o n1 n2 q=>?_) hc2);rw [Vp _ _ _ _ n1,Vp _ _ _ _ n2];exact q
 unfold ksk_end;dsimp only;rw [if_neg T_];by_cases h2:vs.toArray.size < 2
 ·rw [if_pos h2,if_pos h2];refine Tf (Th ?_);rw [acf];refine Tf (Th (tail _ ?_ rfl));have h2':vs.length < 2:=by rw [Tz] at h2;exact h2
  unfold jB;rw [if_pos h2',if_neg T_];show (keys.toArray.zip vs.toArray).map (·.2)=_;apply Array.toList_inj.mp;simp [List.map_snd_zip,kl]
 ·rw [if_neg h2,if_neg h2,if_neg T_];have h2':2<=vs.length:=by rw [Tz] at h2;omega
  rw [ksk_kind (by rw [List.toList_toArray];exact hk) (by rw [Tz];omega)];refine Tf (Th ?_);refine Tf (UD (kat_run (E:=E) (Q:=λst' s'=>∃p:Array Nat,p.size=vs.length/\arrOf st'=p.map (kas_item (keys.toArray.zip vs.toArray))/\aee st'=none/\p=aX (j4 kz) (V1 vs.length)/\s'=s)
   kl h2' h64 (λp' st' s' a1 a2 a3 a4=>⟨p',a1,a2,a3,a4⟩) ((eV (by omega)).wp (q:=j4 kz) (λi j C hi hj c=>?_) ⟨rfl,rfl⟩)) ?_ λ_ _ e=>e)
  ·obtain ⟨t1,q1⟩:=sH hk (i:=i) (by omega);obtain ⟨t2,q2⟩:=sH hk (i:=j) (by omega);show TX _ _ (keyLt' _ (keys.getD i Ux) (keys.getD j Ux)) _ _ _;rw [q1,q2];exact W.kat_lt_int c
  ·rintro ⟨⟨⟩,st'⟩ s' ⟨p,hp,har,hf,rfl,rfl⟩;refine tail st' ?_ hf;rw [kat_snds kl har];unfold jB;rw [if_neg (by omega)]
end
end DL
namespace DL
open PySem PySem.Spec PyProof.Rows L2
section
variable {prog:TU}{w:Uk}{A:Um}{E:Ti->Tj->Prop}{s:Tj}
noncomputable def FH (prog:TU) (w:Uk) (A:Um) (s:Tj) (f:Ti) (vs:List Ti) (kz:List Int):Prop:=kz.length=vs.length/\∀(i:Nat) (v:Ti) (k:Int),vs[i]?=some v->kz[i]?=some k->∀h tk,Kp s.heap h->∀(C:Ti->Tj->Prop) (E':Ti->Tj->Prop),(∀t tk',C (.int k t) {s with heap:=h,toks:=tk'})->TX (T5 prog w) A (call f [v]) C E' {s with heap:=h,toks:=tk}
theorem CL {a kS:T3}{s0:Tj}{f:Ti}{vs:List Ti}{kz:List Int}{e1 tk0:Nat}{h0:Vd}{P:acd->Tj->Prop}(K:FH prog w A s0 f vs kz) (k0:∀b o,s0.heap.get? b=some o->b≠a/\b≠kS/\h0.get? b=some o) (hka:kS≠a) (nk:h0.get? kS=some (Vf "list" #[] 0)) (na:h0.get? a=some (Vf "list" #[] e1)) (h64:vs.length < 64)
  (h:∀h' tk c,(∀b o,s0.heap.get? b=some o->h'.get? b=some o)->h'.get? a=some (Vf "list" (jB kz vs).toArray c)->P (.done (.ret .none)) {s0 with heap:=h',toks:=tk}):
  TX (T5 prog w) A (ksk_rest a f false vs.toArray e1 (.ref kS)) P E {s0 with heap:=h0,toks:=tk0}:=by
 have hlen:=K.1;unfold ksk_rest;refine Tf (YQ ?_);rw [List.forIn_toArray];refine Tf (ksk_fold (λi s'=>∃(h':Vd) (tk:Nat) (kA:List Ti) (e:Nat),s'={s0 with heap:=h',toks:=tk}/\(∀b o,s0.heap.get? b=some o->h'.get? b=some o)/\h'.get? a=some (Vf "list" #[] e1)/\h'.get? kS=some (Vf "list" kA.toArray e)/\W_ kA (kz.take i)) vs 0 _
  ⟨h0,tk0,[],0,rfl,λb o q=>(k0 b o q).2.2,na,nk,by simpa using IntsAre.nil⟩ ?_ ?_)
 ·rintro j x s' hx ⟨h',tk,kA,e,rfl,kp,na',nk',hk⟩;simp only [XD] at hk ⊢;have hj:j < vs.length:=(T7.mp hx).1;obtain ⟨k,hkj⟩:∃k,kz[j]?=some k:=⟨_,TR (by omega)⟩;have hz:kA.length<=vs.length:=by have h1:=hk.length;rw [U6] at h1;omega
  refine Tf (Wh (K.2 j x k hx hkj h' tk kp _ _ λt2 tk2=>?_));dsimp only;obtain ⟨c2,hc2⟩:∃c2,(h'.update kS (UR (·.push (.int k t2)))).get? kS=some (Vf "list" (kA.toArray.push (.int k t2)) c2):=⟨_,XM nk' (·.push (.int k t2))⟩;have ek:kz.take (j + 1)=kz.take j++[k]:=by rw [List.take_add_one,hkj];simp
  refine Tf (WR nk' rfl ?_ (by rw [Tz,UH];omega) (T6 (abF (Array.size_push ..)) (by rw [Tz,UH];omega)));refine Th ⟨rfl,_,_,kA++[.int k t2],c2,rfl,λb o q=>?_,?_,by rw [hc2];simp,by rw [ek];exact ksk_snoc hk⟩
  ·rw [Vp _ _ _ _ (k0 b o q).2.1];exact kp b o q
  ·rw [Vp _ _ _ _ hka.symm];exact na'
 ·rintro s' ⟨h',tk,kA,e,rfl,kp,na',nk',hk⟩;rw [XD,Z0 (by omega)] at hk;refine Tf (aaf nk' rfl ?_);exact E_ hka nk' na' hk hlen h64 λh2 c kp2 q=>h h2 tk c (λb o q=>kp2 b o (k0 b o q).1 (k0 b o q).2.1 (kp b o q)) q
theorem sortedK {x f:Ti}{kw:List (Str×Ti)}{vs:List Ti}{kz:List Int}{Q:Ti->Tj->Prop}(QO:Coll prog w A.in1 s x vs) (h64:vs.length < 64) (K:FH prog w A.in1.in1 s f vs kz)
  (ha1:abJ "sorted" ⟨[x],kw⟩) (ha2:∀x,abJ "list.sort" ⟨[.ref x],kw⟩) (ht:∀x,WZ.«list.sort» ⟨[.ref x],kw⟩=ksk_tree x f false)
  (h:∀h' tk l n,Kp s.heap h'->s.heap.objs.size<=l->h'.get? l=some (Vf "list" (jB kz vs).toArray n)->Q (.ref l) {s with heap:=h',toks:=tk}):TX (T5 prog w) A (call (.builtin "sorted") [x] kw) Q E s:=by
 have sl:vs.length<=sizeLine:=by rw [UH];omega
 refine call_function_entry_kw kind_sorted plain_sorted entry_sorted ha1 ?_;unfold WZ.«sorted»;refine Tf (m:=checkCount "sorted" 1 1 _) ((Th ?_));refine Tf (QO _ _ λh1 tk1 k1 le1=>?_);refine Tf (YM ?_ sl);have gL:(h1.push (Vf "list" vs.toArray 0)).get? h1.objs.size=some (Vf "list" vs.toArray 0):=TH _ rfl;have kp:∀b o,s.heap.get? b=some o->b≠h1.objs.size/\(h1.push (Vf "list" vs.toArray 0)).get? b=some o:=λb o e=>by have e1:=k1 b o e;exact ⟨Ua (TN e1),Tn _ e1⟩
 dsimp only;refine Tf (Ul (wpAny_call_entry_kw aaM ⟨_,gL,rfl⟩ aai ?_ (ha2 _)));show TX (T5 prog w) A.in1.in1 (WZ.«list.sort» ⟨[.ref h1.objs.size],kw⟩) _ _ _;rw [ht];generalize hh:h1.push (Vf "list" vs.toArray 0)=g0 at gL kp ⊢;have z0:h1.objs.size < g0.objs.size:=TN gL;obtain ⟨e1,g1⟩:∃e1,(g0.update h1.objs.size (UR λ_=>(#[]:Array Ti))).get? h1.objs.size=some (Vf "list" #[] e1):=⟨_,(XM gL λ_=>#[])⟩;have z1:((g0.update h1.objs.size (UR λ_=>(#[]:Array Ti))).push (Vf "tuple" vs.toArray 0)).objs.size=g0.objs.size + 1:=by rw [size_push',ZU]
 unfold ksk_tree;refine Tf ((aaf gL rfl ?_));refine Tf (WR gL rfl ?_ (by rw [Tz];exact sl) (Uc _));refine Tf ((YW g1 rfl ?_));refine Tf (aaK ?_ (show vs.length<=_ from sl));refine Tf ((YM ?_ (Uc _)));refine (Ul ?_);refine CL (s0:=s) (kS:=((g0.update h1.objs.size (UR λ_=>(#[]:Array Ti))).push (Vf "tuple" vs.toArray 0)).objs.size) K (λb o q=>⟨(kp b o q).1,?_,?_⟩) ?_ (TH _ rfl) (Tn _ (Tn _ g1)) h64 λh' tk c k2 q=>⟨_,rfl,Th ⟨_,rfl,h h' tk _ c k2 le1 q⟩⟩
 ·rw [z1];exact Ua (Vy (TN (kp b o q).2))
 ·exact Tn _ (Tn _ (by rw [Vp _ _ _ _ (kp b o q).1];exact (kp b o q).2))
 ·rw [z1];exact WJ (Vy z0)
end
end DL
namespace DL
open PySem PySem.Spec PyProof.Rows L2
open PySem.W (kas_sort)
section
variable {X:Cx}{c:C}{e:Uo}{g:G R}{pos:Pos}
noncomputable def mz:D->Int
 | .tup xs=>(xs.length:Nat)
 | _=>0
noncomputable def Cg:D->Bool
 | .tup _=>true
 | _=>false
def lY (ds:List D):List D:=if ds.length < 2 then ds else (aX (j4 (ds.map mz)) (V1 ds.length)).toList.map (c5 ds)
def D4 (g:G R):G R:=λenv=>g env >>= λr=>iU r >>= λds=>if (decide (ds.length < 64) && ds.all Cg)=true then .ok (.l .fresh (lY ds)) else .bad
theorem Gn {S6:List (T3×Obj)}{s:Tj}{σ:L2.St}{H:Hp}{A:Um}{ds:List D}{vs:List V}{S7:List Ti}(I:Inv X S6 σ H s) (rs:aJ X.K H ds vs) (rv:Vals vs S7) (ht:ds.all Cg=true):FH X.prog X.w A s (.builtin "len") S7 (ds.map mz):=by
 refine ⟨by rw [Tp,rs.length,rv.length],λi u k hu hk h tk kp C E' hC=>?_⟩;rw [Uh] at hk;cases hd:ds[i]? with
 | none=>rw [hd] at hk;cases hk
 | some d=>
  rw [hd] at hk;cases hk;obtain ⟨v,hv,r⟩:=rs.get hd;obtain ⟨u',hu',ru⟩:=rv.get hv;rw [hu] at hu';cases hu';have td:=T8.mp ht d (UJ hd);cases d with
  | tup xs=>
   cases r with
   | tup h1 h2=>
    cases ru;obtain ⟨js,r',p,z⟩:=I.tuple h1;have e:=h2.length;have e':=r'.length;have hn:=kZ;have p':adx (Shared.heap {s with heap:=h,toks:=tk}) _ js.toArray:=let ⟨o,h1,h2⟩:=p;⟨o,kp _ _ h1,h2⟩
    refine len_tuple p' (by simp only [Tz] <;> omega) ?_;have:=hC (tk + 1) (tk + 2);rw [show mz (.tup xs)=((xs.length:Nat):Int) from rfl,e,e',<-Tz] at this;exact this
  | _=>cases td
theorem EX {p vp kp:Pos}(ha:QD X c e g) (hm:X.mg "sorted"=none) (hml:X.mg "len"=none) (hK:X.K=c.K:=by rfl) (hg:Gl X "sorted":=by rfl) (Sv:Gl X "len":=by rfl)
  (he:U_ pos (TF [e] X.env)=(false,eval e X.env)::U_ pos (TF [] X.env):=by rfl) (hst:TF [e] X.env=(false,eval e X.env)::TF [] X.env:=by rfl)
  (hplain:(U_ pos (TF [e] X.env)).any (·.1)=false:=by rfl):
  QD X c (.Call (.Name "sorted" p) [e] [⟨some "key",.Name "len" vp,kp⟩] pos) (D4 g):=by
 refine ⟨λS6 s σ H Q I ⟨J,env,sr,w⟩=>?_⟩;refine Wf (jS I hg hm ac5 ?_ (by decide) (by decide));refine Zs (bI ((dM ha.h gr hst) pos S6 s σ H (λvs H1=>∃p ws ds J1,vs=[.ref p]/\bY X.K H1 p ws/\aJ X.K J1 ds ws/\Ext J H J1 H1/\ds.length < 64/\ds.all Cg=true/\∀v J' H',Ext J H J' H'->RR c H J' H' (.l .fresh (lY ds)) v->Q v H') I ⟨J,env,sr,aD (aH w) λr wr v J1 H1 e1 r1=>?_⟩) λus s1 ⟨vs,H1,I1,rv,p,ws,ds,J1,hvs,hq,hrs,e1,l64,ht,q⟩=>?_) he hplain rfl rfl
 ·obtain ⟨xs,hx,wr⟩:=iZ wr;obtain ⟨p,ws,rfl,hl,hs⟩:=RR.list (sr.hp.ext e1) r1 hx;split at wr
  ·rename_i hok;rw [Tt] at hok;exact ⟨p,ws,xs,J1,rfl,by rw [hK];exact hl,by rw [hK];exact hs,e1,of_decide_eq_true hok.1,hok.2,wr⟩
  ·exact wr.elim
 ·subst hvs;obtain ⟨u,rfl,ru⟩:=rv.one;cases ru;refine aae (jS I1 Sv hml acH (aaB ?_) (by decide) (by decide));obtain ⟨S7,r',QO⟩:=zf (A:=X.A.in1) I1 (.inl hq);have l1:=r'.length;have l2:=hrs.length;show TX _ _ (call (.builtin "sorted") [.ref p] [("key",.builtin "len")]) _ _ s1;refine sortedK QO (by omega) (Gn I1 (hrs.mono e1.sub) r' ht) (ksk_s1 _ _) (λx=>ksk_l1 _ _) (λx=>ksk_t4 _ x) λh' tk l n kp hl hg=>?_;have fin:∀(ot:List Ti) (vs':List V),vs'.length=ws.length->Vals vs' ot->aJ X.K J1 (lY ds) vs'->h'.get? l=some (Vf "list" ot.toArray n)->EP X S6 σ Q (.ref l) {s1 with heap:=h',toks:=tk}:=λot vs' lv rv' rr hg=>
   ⟨.ref l,_,I1.laid (t':=tk) kp hl (show cj X.prog X.w _ _ _ (.lst vs') from ⟨by rw [lv,UH];omega,ot,n,rv',by simpa [Vf] using hg⟩),rfl,q _ J1 _ (e1.trans (Ext.new e1.sub (I1.hok.fresh hl) _)) (RR.from e1.h (gW (sr.hp.ext e1) (I1.hok.fresh hl) (hK▸rr)))⟩
  unfold jB at hg;by_cases h2:S7.length < 2
  ·rw [if_pos h2] at hg;refine fin S7 ws rfl r' ?_ hg;unfold lY;rw [if_pos (by omega)];exact hrs
  ·rw [if_neg h2] at hg;have ib:∀i∈(aX (j4 (ds.map mz)) (V1 ds.length)).toList,i < ds.length:=λi hi=>by have:=((eV (n:=ds.length) (by omega)).run (j4 (ds.map mz)):eS _ _);have:=(W3 this).mp (YK.mp hi);simpa using this
   rw [<-l1,<-l2] at hg;refine fin _ _ ?_ (vK r' _ λi hi=>l2▸ib i hi) ?_ hg
   ·rw [Tp,<-l2];have:=((eV (n:=ds.length) (by omega)).run (j4 (ds.map mz)):eS _ _).size_eq;simpa using this
   ·unfold lY;rw [if_neg (by omega)];exact vG hrs _ ib
end
end DL
namespace K66
open PySem DL
def o6:List Str:=["pairing","letters","told","pair"]
noncomputable def pI:G O:=(aK (bh 2 (d_ (aE (bO aW) aW)))
 (aK (cG (fM (af 0)) (az 3) (bh 2 (g2 tW (af 2) (bK 1 [3] (fq (af 2)) (az 0) b_ (g2 dX (af 0) (bO (aE (af 1) aW)))))))
 (bu (D4 (bK 1 [1] (fq (af 2)) (az 0) (bG (g2 (iB λi j=>.bl (decide (i < j))) (gN fL (ao (af 0) aF)) (af 1))) (af 0))))))
def jb (as:List S):M R:=fin (pI (aV o6 as))
def qS:List Str:=["one","other","letters","known","rows","all_rows"]
noncomputable def rE:G O:=(aK (bh 3 (eH 1 [] (fq (gN (aQ 3 K23.iS) (ao (af 0) (ao (af 1) (ao (af 2) aF))))) (az 0) b_ (af 0) (gC (.bl true))))
 (aK (bh 4 (eH 1 [2,0,1,3] (kX (af 3)) (az 0) (bG (g2 (iB λi j=>.bl (decide (i < j))) (gN fL (ao (af 0) aF)) (af 1))) (af 0) (gN (aQ 4 K33.iR) (ao (af 2) (ao (af 3) (ao (af 0) (ao (af 4) aF)))))))
 (aK (bh 5 (eH 1 [2,4] (kX (af 3)) (az 0) b_ (af 0) (pB 2 [2] (fq (gN (aQ 2 K66.jb) (ao (af 0) (ao (af 1) aF)))) (az 0) b_ (fM (g2 fm (af 2) (af 0))) (az 1) b_ (af 1))))
 (bu (y_ "answered_still" K33.gZ (af 5))))))
def jM (as:List S):M R:=fin (rE (aV qS as))
def qT:List Str:=["one","other","letters","depths"]
noncomputable def rG:G O:=(aK (jN (gN (aQ 2 K23.dY) (ao (af 0) (ao (af 1) aF))))
 (aK (jN (gN (aQ 3 K55.fj) (ao (af 2) (ao (gC (.int 1)) (ao (gN fL (ao (gC (.tup [(.str "x"),(.str "y"),(.str "z")])) aF)) aF)))))
 (aK (bh 3 (gN (aQ 3 K66.jM) (ao (af 0) (ao (af 1) (ao (af 2) aF)))))
 (bu (gN (aQ 2 K33.ki) (ao (af 3) (ao (Ie 0 (bK 1 [] (LJ (af 3)) (az 0) (bG (g2 (kW true) (af 0) (gC .non))) (af 0))) aF)))))))
def iz (as:List S):M R:=fin (rG (aV qT as))
def qN:List Str:=["_law_one","_law_other","_law_a","_law_b"]
noncomputable def rq:G O:=(aK (cG (bW (ao (g2 a_ (af 0) (gC (.int 0))) aF)) (az 2) (bQ (gF (bG (gN nJ (ao (bK 1 [0,1,2] (bW (ao (g2 a_ (af 1) (gC (.int 0))) aF)) (az 0) b_ (gN (aQ 3 K72.jQ) (ao (af 1) (ao (af 2) (ao (bO (aE (bO (aE (af 3) (aE (af 0) aW))) aW)) aF))))) aF)))) (bu (gC (.bl false))) c9))
 (aK (cG (bW (ao (g2 a_ (af 1) (gC (.int 0))) aF)) (az 3) (bQ (gF (bG (gN nJ (ao (bK 1 [0,1,3] (bW (ao (g2 a_ (af 0) (gC (.int 0))) aF)) (az 0) b_ (gN (aQ 3 K72.jQ) (ao (af 1) (ao (af 2) (ao (bO (aE (bO (aE (af 0) (aE (af 3) aW))) aW)) aF))))) aF)))) (bu (gC (.bl false))) c9))
 (bu (gC (.bl true)))))
def jL (as:List S):M R:=fin (rq (aV qN as))
def qO:List Str:=["_law_rounds","_law_found"]
noncomputable def rA:G O:=(aK (bh 1 (bK 1 [0] (bW (ao (gN fL (ao (af 0) aF)) aF)) (az 0) (bG (g2 (gp true) (bO aW) (g2 a_ (af 1) (af 0)))) (af 0)))
 (aK (bQ (bG (g2 (cT false) (af 1) (d_ aW))) (bu (g2 jy (gC (.int 10)) (gC (.int 6)))) c9)
 (bu (g2 a_ (af 1) (gC (.int 0))))))
def iw (as:List S):M R:=fin (rA (aV qO as))
def OQ:List Str:=["_law_script","_law_one","_law_other","_law_firsts","_law_letters","_law_depth"]
noncomputable def LL:G O:=(aK (sD (c7 2 (bx (az 1) (bx (az 2) dc))) (gN (aQ 2 K72.iQ) (ao (gN (aQ 2 K72.iE) (ao (af 0) (ao (gC (.int 0)) aF))) (ao (d_ (aE (gC (.int 1)) (aE (gC (.int 2)) (aE (gC (.int 3)) (aE (gC (.int 3)) (aE (gC (.int 2)) (aE (gC (.int 3)) aW))))))) aF))))
 (aK (bh 3 (d_ (aE (gC (.int 0)) aW)))
 (aK (cG (Cc (ao (gC (.int 1)) (ao (gC (.int 4)) aF))) (az 4) (iK 3 (gN (aQ 1 K66.iw) (ao (gN (aQ 3 K66.iz) (ao (af 1) (ao (af 2) (ao (af 4) aF)))) aF))))
 (aK (bh 5 (gN (aQ 2 (λas=>K32.gY (as++[.d .non]))) (ao (af 1) (ao (af 2) aF))))
 (aK (bQ (bG (g2 (kW false) (af 5) (gC .non))) (bh 5 (g2 jy (gC (.int 10)) (gC (.int 6)))) c9)
 (aK (bQ (bG (g2 (cT true) (g2 a_ (af 3) (gC (.int 1))) (g2 a_ (d_ (aE (g2 jy (gC (.int 10)) (gC (.int 6))) (aE (gC (.int 1)) aW))) (gN F6 (ao (t8 (gN (aQ 2 K66.jL) (ao (af 1) (ao (af 2) aF)))) aF))))) (bu (gC (.bl false))) c9)
 (aK (cG (Cc (ao (gC (.int 1)) (ao (gC (.int 4)) aF))) (az 4) (aK (bQ (oB (bG (g2 (iB λi j=>.bl (decide (i < j))) (g2 a_ (af 3) (af 4)) (af 5))) (jZ (bG (g2 (iB λi j=>.bl (decide (j < i))) (af 4) (gC (.int 1)))) (bG (g2 (iB λi j=>.bl (decide (j < i))) (g2 a_ (af 3) (af 4)) (g2 a_ (af 3) (g2 yZ (af 4) (gC (.int 1)))))))) (bu (gC (.bl false))) c9)
 (bQ (jZ (bG (g2 (iB λi j=>.bl (decide (i<=j))) (af 5) (af 4))) (bG (g2 (cT true) (g2 a_ (af 3) (af 4)) (af 5)))) (bu (gC (.bl false))) c9)))
 (bu (j3 (g2 (iB λi j=>.bl (decide (j < i))) (af 5) (gC (.int 3))) (g2 (cT false) (g2 a_ (af 3) (gC (.int 3))) (af 5)))))))))))
def uQ (as:List S):M R:=fin (LL (aV OQ as))
end K66
namespace K66
open PySem PySem.Spec PyProof.Rows L2 DL DX
structure cW (w:Uk) (K:Tg) (mg:Str->Option Ti):Prop where
 abs:mg "abs"=none
 all:mg "all"=none
 any:mg "any"=none
 bool:mg "bool"=none
 int:mg "int"=none
 isinstance:mg "isinstance"=none
 len:mg "len"=none
 list:mg "list"=none
 max:mg "max"=none
 range:mg "range"=none
 set:mg "set"=none
 sorted:mg "sorted"=none
 tuple:mg "tuple"=none
 FEW_LETTERS:BB K mg "FEW_LETTERS" (.tup [(.str "x"),(.str "y"),(.str "z")])
 MOST_SMALL:BB K mg "MOST_SMALL" (.int 4)
 fv_answered_still:FF K mg "answered_still"
section
variable {P:TU}{w:Uk}{K:Tg}{mg:Str->Option Ti}{base:Vd}{f:T3}{fd:Ud}
abbrev w5:Wm:=top 6
theorem Al (m:cW w K mg) (e:FB K mg "is_whole" w5):bz P w K mg base 1 1 "is_whole" K01.oR:=
 qc K01.wB K01.vQ 1 e (λnd _ cdv A outer s H E J T hr=>
 (aC (aO (Bl (uy JF Dy m.int (aa 0) m.isinstance) (nZ (Bo (uy Gp BW m.bool (aa 0) m.isinstance)))))))
abbrev uI:Wm:=top 7
theorem yN (m:cW w K mg) (e:FB K mg "tongue_of" uI):bz P w K mg base 1 1 "tongue_of" K23.jc:=
 qc K23.ue K23.tF 1 e (λnd _ cdv A outer s H E J T hr=>
 (ay (sN (aa 0) (cM (aU (aA 1 nd) (aU (aA 2 nd) (aU (aA 3 nd) cB)))))
 (aC (aO (br (av (cV (ak (bP (fJ ["name","points"] [] (cD (aa 2)) (λ_ _ _ _ _ hc=>⟨(cM (aU (aA 0 (bM rfl)) (aU (aA 1 (bM rfl)) cB))),bf,(aa 0)⟩))) au) m.tuple) (av (cV (ak (bP (fJ ["name","pairs"] [] (cD (aa 3)) (λ_ _ _ _ _ hc=>⟨(cM (aU (aA 0 (bM rfl)) (aU (aA 1 (bM rfl)) cB))),bf,(aa 0)⟩))) au) m.tuple) aN)))))))
abbrev p5:Wm:=top 8
theorem uZ (m:cW w K mg) (Qv:bz P w K mg base 1 1 "tongue_of" K23.jc) (e:FB K mg "need_tongue" p5):bz P w K mg base 2 2 "need_tongue" K23.i_:=
 qc K23.pH K23.o5 2 e (λnd _ cdv A outer s H E J T hr=>
 (aC (bL (m9 hr.units (aT Qv hr (ak (aa 0) au)) (aT Qv hr (ak (aa 1) au))) (aC nY) bE)))
abbrev ly:Wm:=top 11
theorem pe (m:cW w K mg) (e:FB K mg "need_few_points" ly):bz P w K mg base 1 1 "need_few_points" K23.fZ:=
 qc K23.kY K23.kR 1 e (λnd _ cdv A outer s H E J T hr=>
 (aC (bH (cL (aa 0)) (aA 1 nd) (aC (bL (gD uu (f7 λ_ _ _=>.bl _) (aG (aa 1) aq) (lV m.MOST_SMALL)) (aC nY) bE)))))
abbrev rX:Wm:=top 12
theorem xM (m:cW w K mg) (QC:bz P w K mg base 2 2 "need_tongue" K23.i_) (Qm:bz P w K mg base 1 1 "need_few_points" K23.fZ) (e:FB K mg "need_small" rX):bz P w K mg base 3 2 "need_small" K23.dY:=
 qc K23.rJ K23.qV 2 e (λnd _ cdv A outer s H E J T hr=>
 (ay (gT (aT QC hr (ak (aa 0) (ak (aa 1) au))))
 (aC (gT (aT Qm hr (ak (br (av (aa 0) (av (aa 1) aN))) au))))))
abbrev rW:Wm:=top 13
theorem xK (m:cW w K mg) (QX:bz P w K mg base 1 1 "is_whole" K01.oR) (e:FB K mg "need_count" rW):bz P w K mg base 2 3 "need_count" K55.fj:=
 qc K55.rH K55.qU 3 e (λnd _ cdv A outer s H E J T hr=>
 (aC (bL (jC (ux (jD (fR (aT QX hr (ak (aa 0) au)))) (ux (gD uv (f7 λ_ _ _=>.bl _) (aa 0) (aa 1)) (vB (gD uu (f7 λ_ _ _=>.bl _) (aa 0) (aa 2)))))) (aC nY) bE)))
abbrev Br:Wm:=top 15
theorem DN (m:cW w K mg) (e:FB K mg "rising" Br):bz P w K mg base 1 1 "rising" K23.fH:=
 qc K23.A3 K23.AG 1 e (λnd _ cdv A outer s H E J T hr=>
 (ay (bL (zH (aa 0) jF) (aC (aO (br aN))) bE)
 (aC (aO (cV (ak (EY hr.units (ak (aa 0) au) m.sorted m.set) au) m.tuple)))))
abbrev IG:Wm:=top 16
theorem Jc (m:cW w K mg) (e:FB K mg "view" IG):bz P w K mg base 1 3 "view" K23.xU:=
 qc K23.Ii K23.HR 3 e (λnd _ cdv A outer s H E J T hr=>
 (ay (sN (aa 0) (cM (aU (aA 3 nd) (aU (aA 4 nd) (aU (aA 5 nd) cB)))))
 (ay (aP 6 nd (cV (ak (bP (fJ ["name","points"] [1] (cD (aa 4)) (λ_ _ _ _ _ hc=>⟨(cM (aU (aA 0 (bM rfl)) (aU (aA 1 (bM rfl)) cB))),bf,(m_ hr.units (aa 2) (aa 1))⟩))) au) m.tuple))
 (ay (aP 7 nd (cV (ak (bP (fJ ["name","pairs"] [1,2] (cD (aa 5)) (λ_ _ _ _ _ hc=>⟨(cM (aU (aA 0 (bM rfl)) (aU (aA 1 (bM rfl)) cB))),bf,(m_ hr.units (br (av (aa 2) (av (aa 3) aN))) (aa 1))⟩))) au) m.tuple))
 (aC (aO (br (av (pU hr.units (aa 1) (aa 2)) (av (aa 6) (av (aa 7) aN))))))))))
abbrev Fe:Wm:=top 17
theorem FU (m:cW w K mg) (Rt:bz P w K mg base 1 3 "view" K23.xU) (e:FB K mg "views" Fe):bz P w K mg base 2 1 "views" K23.oS:=
 qc K23.D7 K23.Di 1 e (λnd _ cdv A outer s H E J T hr=>
 (aC (aO (bP (Lw hr.units ["one","other"] [0] (dR (bg (ak (aG (aa 0) aq) au) m.range)) (λ_ _ _ _ _ hc=>⟨(aA 0 (bM rfl)),bf,(bg (ak (aG (aa 2) aq) au) m.range),(aA 1 (bM rfl)),bf,(br (av (aa 0) (av (aa 1) aN))),(aT Rt hr (ak (aa 2) (ak (aa 0) (ak (aa 1) au))))⟩))))))
abbrev E7:Wm:=top 18
theorem FQ (m:cW w K mg) (e:FB K mg "agree" E7):bz P w K mg base 1 4 "agree" K23.eO:=
 qc K23.D6 K23.Dh 4 e (λnd _ cdv A outer s H E J T hr=>
 (aC (aO (pU hr.units (fS hr.units (aa 0) (br (av (aG (aa 2) aq) (av (aG (aa 3) aq) aN)))) (fS hr.units (aa 1) (br (av (aG (aa 2) aq) (av (aG (aa 3) aq) aN))))))))
abbrev pY:Wm:=top 19
theorem uY (m:cW w K mg) (Qz:bz P w K mg base 1 4 "agree" K23.eO) (e:FB K mg "goes_behind" pY):bz P w K mg base 2 4 "goes_behind" K23.i9:=
 qc K23.pG K23.oY 4 e (λnd _ cdv A outer s H E J T hr=>
 (ay (bL (jC (qH (vC (aa 2)) (nW (Kq hr.units (aa 3) (aG (aa 2) (Kw aq)))))) (aC (aO dg)) bE)
 (ay (bH (cL (aa 2)) (aA 4 nd) (aC (bL (jC (ux (jD (fR (aT Qz hr (ak (aa 0) (ak (aa 1) (ak (aa 3) (ak (aa 4) au))))))) (vB (jD (fR (aT Qz hr (ak (aa 0) (ak (aa 1) (ak (aa 4) (ak (aa 3) au)))))))))) (aC (aO dg)) bE)))
 (aC (aO dg)))))
abbrev xm:Wm:=top 20
theorem Ao (m:cW w K mg) (Qh:bz P w K mg base 3 2 "need_small" K23.dY) (Qk:bz P w K mg base 2 3 "need_count" K55.fj) (Q5:bz P w K mg base 2 1 "views" K23.oS) (Qz:bz P w K mg base 1 4 "agree" K23.eO) (QA:bz P w K mg base 2 4 "goes_behind" K23.i9) (e:FB K mg "pairings" xm):bz P w K mg base 4 3 "pairings" K23.iS:=
 qc K23.wD K23.vS 3 e (λnd _ cdv A outer s H E J T hr=>
 (ay (gT (aT Qh hr (ak (aa 0) (ak (aa 1) au))))
 (ay (gT (aT Qk hr (ak (aa 2) (ak aq (ak (lV m.MOST_SMALL) au)))))
 (ay (aP 3 nd (aT Q5 hr (ak (aa 0) au)))
 (ay (aP 4 nd (aT Q5 hr (ak (aa 1) au)))
 (ay (aP 5 nd (bP (F0 ["a","b"] [1,3,4] (dR (bg (ak (aG (aa 0) aq) au) m.range)) (λ_ _ _ _ _ hc=>⟨(aA 0 (bM rfl)),bf,(bg (ak (aG (aa 2) aq) au) m.range),(aA 1 (bM rfl)),(dJ (fR (aT Qz hr (ak (aa 3) (ak (aa 4) (ak (br (av (aa 0) (av (aa 1) aN))) (ak (br (av (aa 0) (av (aa 1) aN))) au))))))),(br (av (aa 0) (av (aa 1) aN)))⟩))))
 (ay (k9 5 (aP 6 nd (cu (av (br aN) aN))))
 (ay (aP 7 nd (cu (av (br aN) aN)))
 (ay (bH (bg (ak (aa 2) au) m.range) (aA 8 nd) (ay (k9 5 (kP 6 nd (F0 ["ahead","pair"] [5,3,4] (cD (aa 6)) (λ_ _ _ _ _ hc=>⟨(aA 0 (bM rfl)),bf,(cL (aa 2)),(aA 1 (bM rfl)),(dJ (fR (aT QA hr (ak (aa 3) (ak (aa 4) (ak (aa 0) (ak (aa 1) au))))))),(dS (aa 0) (br (av (aa 1) aN)))⟩))))
 (aC (Au 7 (aa 6)))))
 (aC (aO (aa 7))))))))))))
abbrev E6:Wm:=top 22
theorem FP (m:cW w K mg) (QG:bz P w K mg base 1 1 "rising" K23.fH) (e:FB K mg "added" E6):bz P w K mg base 2 2 "added" K33.oQ:=
 qc K33.D5 K33.Dg 2 e (λnd _ cdv A outer s H E J T hr=>
 (aC (aO (aT QG hr (ak (dS (aa 0) (br (av (aa 1) aN))) au)))))
abbrev rY:Wm:=top 23
theorem xN (m:cW w K mg) (e:FB K mg "pairs_with" rY):bz P w K mg base 1 4 "pairs_with" K33.gz:=
 qc K33.rK K33.qW 4 e (λnd _ cdv A outer s H E J T hr=>
 (ay (bL (gS hr.units (aa 2) aq) (aC (aO (bP (fJ ["answer"] [3] (dR (bg (ak (aG (aa 1) aq) au) m.range)) (λ_ _ _ _ _ hc=>⟨(aA 0 (bM rfl)),bf,(br (av (aa 1) (av (aa 0) aN)))⟩))))) bE)
 (aC (aO (bP (fJ ["answer"] [3] (dR (bg (ak (aG (aa 0) aq) au) m.range)) (λ_ _ _ _ _ hc=>⟨(aA 0 (bM rfl)),bf,(br (av (aa 0) (av (aa 1) aN)))⟩)))))))
abbrev xo:Wm:=top 24
theorem Aq (m:cW w K mg) (e:FB K mg "picks_of" xo):bz P w K mg base 1 2 "picks_of" K33.lG:=
 qc K33.wF K33.vU 2 e (λnd _ cdv A outer s H E J T hr=>
 (aC (aO (gf (bP (fJ ["point"] [] (dR (bg (ak (aG (aa 0) aq) au) m.range)) (λ_ _ _ _ _ hc=>⟨(aA 0 (bM rfl)),bf,(br (av aq (av (aa 0) aN)))⟩))) (bP (fJ ["point"] [] (dR (bg (ak (aG (aa 1) aq) au) m.range)) (λ_ _ _ _ _ hc=>⟨(aA 0 (bM rfl)),bf,(br (av aq (av (aa 0) aN)))⟩)))))))
abbrev xj:Wm:=top 25
theorem An (m:cW w K mg) (Qs:bz P w K mg base 1 4 "pairs_with" K33.gz) (Rf:bz P w K mg base 2 2 "added" K33.oQ) (QZ:bz P w K mg base 1 2 "picks_of" K33.lG) (e:FB K mg "outcomes" xj):bz P w K mg base 3 4 "outcomes" K33.iR:=
 qc K33.wC K33.vR 4 e (λnd _ cdv A outer s H E J T hr=>
 (ay (aP 4 nd (bP (Lw hr.units ["a","pair"] [0,1,2] (dR (bg (ak (aG (aa 0) aq) au) m.range)) (λ_ _ _ _ _ hc=>⟨(aA 0 (bM rfl)),bf,(cL (aT Qs hr (ak (aa 2) (ak (aa 3) (ak aq (ak (aa 0) au)))))),(aA 1 (bM rfl)),bf,(aa 1),(aT Rf hr (ak (aa 4) (ak (aa 1) au)))⟩))))
 (aC (aO (bP (fJ ["side","point"] [0,1,4,3] (cD (aT QZ hr (ak (aa 0) (ak (aa 1) au)))) (λ_ _ _ _ _ hc=>⟨(cM (aU (aA 0 (bM rfl)) (aU (aA 1 (bM rfl)) cB))),bf,(bP (fJ ["pair"] [4,5] (cD (aT Qs hr (ak (aa 2) (ak (aa 3) (ak (aa 0) (ak (aa 1) au)))))) (λ_ _ _ _ _ hc=>⟨(aA 0 (bM rfl)),(dJ (Ko hr.units (fS hr.units (aa 1) (aa 0)) (aa 2))),(fS hr.units (aa 1) (aa 0))⟩) (tP (mH hc rfl))))⟩)))))))
abbrev lW:Wm:=top 26
theorem qK (m:cW w K mg) (e:FB K mg "answered_still" lW):bz P w K mg base 1 2 "answered_still" K33.bV:=
 qc K33.lQ K33.lI 2 e (λnd _ cdv A outer s H E J T hr=>
 (aC (aO (Bk (ak (bP (fJ ["row"] [1] (cD (aa 0)) (λ_ _ _ _ _ hc=>⟨(aA 0 (bM rfl)),bf,(vD (ak (bP (fJ ["pairing"] [1] (cD (aa 0)) (λ_ _ _ _ _ hc=>⟨(aA 0 (bM rfl)),bf,(EV (fS hr.units (aa 1) (aa 0)) jF)⟩) (tP (mH hc rfl)))) au) m.any)⟩))) au) m.all))))
abbrev Bq:Wm:=top 27
theorem DM (m:cW w K mg) (Qj:bz P w K mg base 1 2 "answered_still" K33.bV) (e:FB K mg "peeled" Bq):bz P w K mg base 2 2 "peeled" K33.gZ:=
 qc K33.A2 K33.ql 2 e (λnd _ cdv A outer s H E J T hr=>
 (ay (aP 2 nd (bP (u7 hr.units ["pairing"] [] (iM (aa 0)) (λ_ _ _ _ _ hc=>⟨(aA 0 (bM rfl)),bf,(aa 0),jF⟩))))
 (ay (aP 3 nd aq)
 (ay (kP 4 nd (fJ ["pairing"] [1,0,2] (iM (aa 0)) (λ_ _ _ _ _ hc=>⟨(aA 0 (bM rfl)),(dJ (jD (fR (zJ 1 Qj m.fv_answered_still hr (ak (fS hr.units (aa 2) (aa 0)) (ak (aa 3) au)) Bm)))),(aa 0)⟩)))
 (ay (CC 400000 (vC (aa 4)) (ay (k9 4 (bH (cL (aa 4)) (aA 5 nd) (aC (G2 2 hr.units (aa 3) (aa 5)))))
 (ay (ET 3 nd aq)
 (aC (kP 4 nd (fJ ["pairing"] [2,1,0] (iM (aa 0)) (λ_ _ _ _ _ hc=>⟨(aA 0 (bM rfl)),(dJ (jC (qH (zH (fS hr.units (aa 1) (aa 0)) jF) (nW (jD (fR (zJ 2 Qj m.fv_answered_still hr (ak (fS hr.units (aa 3) (aa 0)) (ak (aa 1) au)) Bm))))))),(aa 0)⟩)))))))
 (aC (aO (aa 2))))))))
abbrev ni:Wm:=top 28
theorem su (m:cW w K mg) (Qo:bz P w K mg base 4 3 "pairings" K23.iS) (e:FB K mg "pairings_with" ni):bz P w K mg base 5 3 "pairings_with" K33.gX:=
 qc K33.mQ K33.mD 3 e (λnd _ cdv A outer s H E J T hr=>
 (aC (aO (bP (fJ ["pairing"] [2] (cD (aT Qo hr (ak (aa 0) (ak (aa 1) (ak (lV m.MOST_SMALL) au))))) (λ_ _ _ _ _ hc=>⟨(aA 0 (bM rfl)),(dJ (fR (Bk (ak (bP (fJ ["pair"] [0] (cD (aa 1)) (λ_ _ _ _ _ hc=>⟨(aA 0 (bM rfl)),bf,(m_ hr.units (aa 0) (aa 1))⟩) (tP (mH hc rfl)))) au) m.all))),(aa 0)⟩))))))
abbrev l6:Wm:=top 29
theorem qL (m:cW w K mg) (Qu:bz P w K mg base 5 3 "pairings_with" K33.gX) (Qn:bz P w K mg base 3 4 "outcomes" K33.iR) (QF:bz P w K mg base 2 2 "peeled" K33.gZ) (e:FB K mg "parting_depths" l6):bz P w K mg base 6 3 "parting_depths" K33.gH:=
 qc K33.lR K33.lJ 3 e (λnd _ cdv A outer s H E J T hr=>
 (ay (aP 3 nd (bP (u7 hr.units ["pairing"] [] (cD (aT Qu hr (ak (aa 0) (ak (aa 1) (ak (aa 2) au))))) (λ_ _ _ _ _ hc=>⟨(aA 0 (bM rfl)),bf,(aa 0),dg⟩))))
 (ay (kP 4 nd (u7 hr.units ["pairing"] [0,1,3] (iM (aa 3)) (λ_ _ _ _ _ hc=>⟨(aA 0 (bM rfl)),bf,(aa 0),(aT Qn hr (ak (aa 1) (ak (aa 2) (ak (aa 0) (ak (aa 3) au)))))⟩)))
 (aC (aO (zI QF m.fv_answered_still hr (aa 4)))))))
abbrev wZ:Wm:=top 30
theorem Ak (m:cW w K mg) (e:FB K mg "in_layer" wZ):bz P w K mg base 1 3 "in_layer" K33.lF:=
 qc K33.wA K33.oZ 3 e (λnd _ cdv A outer s H E J T hr=>
 (aC (aO (Bl (Ku hr.units (aa 1) (aa 0)) (nZ (EW (EV (fS hr.units (aa 0) (aa 1)) jF) (nZ (EU (fS hr.units (aa 0) (aa 1)) (aa 2)))))))))
abbrev uF:Wm:=top 31
theorem yM (m:cW w K mg) (QW:bz P w K mg base 1 3 "in_layer" K33.lF) (e:FB K mg "layers_of" uF):bz P w K mg base 2 2 "layers_of" K33.ki:=
 qc K33.uc K33.tE 2 e (λnd _ cdv A outer s H E J T hr=>
 (aC (aO (bP (fJ ["step"] [0] (dR (bg (ak (gf (aa 1) aq) au) m.range)) (λ_ _ _ _ _ hc=>⟨(aA 0 (bM rfl)),bf,(bP (fJ ["pairing"] [1,0] (iM (aa 1)) (λ_ _ _ _ _ hc=>⟨(aA 0 (bM rfl)),(dJ (fR (aT QW hr (ak (aa 1) (ak (aa 0) (ak (aa 2) au)))))),(aa 0)⟩) (tP (mH hc rfl))))⟩))))))
abbrev iX:Wm:=top 32
theorem Hr:fG ["one","other","pairs","base"] ["one","other","pairs"] (aY iX):=⟨rfl,rfl,rfl,by decide +kernel,rfl,by decide +kernel,by decide +kernel⟩
theorem D0 (m:cW w K mg) (Qh:bz P w K mg base 3 2 "need_small" K23.dY) (QG:bz P w K mg base 1 1 "rising" K23.fH) (Qt:bz P w K mg base 6 3 "parting_depths" K33.gH) (F:nq K "parted" "parted" iX f fd):fF P w K mg base (vN P w) 7 f fd ["one","other","pairs"] (zW K 3 K32.gY):=
 have sc:=Hr
 Jq (k:=6) (gB:=K32.A1) F sc (λcdv A outer s H E J hr=>ow.h (
 (ay (gT (aT Qh hr (ak (aa 0) (ak (aa 1) au))))
 (ay (aP 3 sc.nd (aT QG hr (ak (aa 2) au)))
 (aC (aO (Ks hr.units (aT Qt hr (ak (aa 0) (ak (aa 1) (ak (aa 3) au)))) (aa 3) aq))))))) (λ_ _ _=>rfl)
theorem DK (G:fF P w K mg base (vN P w) 7 f fd ["one","other","pairs"] (zW K 3 K32.gY)) (F:nq K "parted" "parted" iX f fd) (hm:mg "parted"=some (.ref f)):K2 P w K mg base 7 3 "parted" K32.gY:=⟨f,fd,["one","other","pairs"],G,hm,F.kp,F.bindsAll (λT kV doc pm an cdv ct us hl=>match us,hl with | [_,_,_],_=>⟨_,rfl,rfl⟩)⟩
theorem BZ (G:fF P w K mg base (vN P w) 7 f fd ["one","other","pairs"] (zW K 3 K32.gY)) (F:nq K "parted" "parted" iX f fd) (hm:mg "parted"=some (.ref f)):Fy P w K mg base 7 2 "parted" K32.gY:=⟨f,fd,["one","other","pairs"],G,hm,F.kp,F.bindsOne (λT kV doc pm an cdv ct us hl=>match us,hl with | [_,_],_=>⟨_,rfl,rfl⟩)⟩
abbrev p_:Wm:=top 35
theorem u5 (m:cW w K mg) (e:FB K mg "parts_below" p_):bz P w K mg base 1 2 "parts_below" K66.jb:=
 qc K66.pI K66.o6 2 e (λnd _ cdv A outer s H E J T hr=>
 (ay (aP 2 nd (cu (av (br aN) aN)))
 (ay (bH (cL (aa 0)) (aA 3 nd) (aC (aP 2 nd (G4 (aa 2) (bP (fJ ["part"] [3] (cD (aa 2)) (λ_ _ _ _ _ hc=>⟨(aA 0 (bM rfl)),bf,(dS (aa 0) (br (av (aa 1) aN)))⟩)))))))
 (aC (aO (EX (bP (fJ ["part"] [1] (cD (aa 2)) (λ_ _ _ _ _ hc=>⟨(aA 0 (bM rfl)),(dJ (gD uv (f7 λ_ _ _=>.bl _) (fT (ak (aa 0) au) m.len) (aa 1))),(aa 0)⟩))) m.sorted m.len))))))
abbrev rT:Wm:=top 36
theorem xF (m:cW w K mg) (Qo:bz P w K mg base 4 3 "pairings" K23.iS) (Qn:bz P w K mg base 3 4 "outcomes" K33.iR) (QE:bz P w K mg base 1 2 "parts_below" K66.jb) (QF:bz P w K mg base 2 2 "peeled" K33.gZ) (e:FB K mg "few_depths" rT):bz P w K mg base 5 3 "few_depths" K66.jM:=
 qc K66.rE K66.qS 3 e (λnd _ cdv A outer s H E J T hr=>
 (ay (aP 3 nd (bP (u7 hr.units ["pairing"] [] (cD (aT Qo hr (ak (aa 0) (ak (aa 1) (ak (aa 2) au))))) (λ_ _ _ _ _ hc=>⟨(aA 0 (bM rfl)),bf,(aa 0),dg⟩))))
 (ay (aP 4 nd (bP (u7 hr.units ["pairing"] [2,0,1,3] (iM (aa 3)) (λ_ _ _ _ _ hc=>⟨(aA 0 (bM rfl)),(dJ (gD uv (f7 λ_ _ _=>.bl _) (fT (ak (aa 0) au) m.len) (aa 1))),(aa 0),(aT Qn hr (ak (aa 2) (ak (aa 3) (ak (aa 0) (ak (aa 4) au)))))⟩))))
 (ay (kP 5 nd (u7 hr.units ["pairing"] [2,4] (iM (aa 3)) (λ_ _ _ _ _ hc=>⟨(aA 0 (bM rfl)),bf,(aa 0),(bP (F0 ["part","row"] [2] (cD (aT QE hr (ak (aa 0) (ak (aa 1) au)))) (λ_ _ _ _ _ hc=>⟨(aA 0 (bM rfl)),bf,(cL (fS hr.units (aa 2) (aa 0))),(aA 1 (bM rfl)),bf,(aa 1)⟩) (tP (mH hc rfl))))⟩)))
 (aC (aO (zI QF m.fv_answered_still hr (aa 5))))))))
abbrev rV:Wm:=top 37
theorem xG (m:cW w K mg) (Qh:bz P w K mg base 3 2 "need_small" K23.dY) (Qk:bz P w K mg base 2 3 "need_count" K55.fj) (QL:bz P w K mg base 5 3 "few_depths" K66.jM) (QS:bz P w K mg base 2 2 "layers_of" K33.ki) (e:FB K mg "few_rounds" rV):bz P w K mg base 6 3 "few_rounds" K66.iz:=
 qc K66.rG K66.qT 3 e (λnd _ cdv A outer s H E J T hr=>
 (ay (gT (aT Qh hr (ak (aa 0) (ak (aa 1) au))))
 (ay (gT (aT Qk hr (ak (aa 2) (ak aq (ak (fT (ak (lV m.FEW_LETTERS) au) m.len) au)))))
 (ay (aP 3 nd (aT QL hr (ak (aa 0) (ak (aa 1) (ak (aa 2) au)))))
 (aC (aO (aT QS hr (ak (aa 3) (ak (G6 (bP (fJ ["depth"] [] (G7 (aa 3)) (λ_ _ _ _ _ hc=>⟨(aA 0 (bM rfl)),(dJ (ER (aa 0) jF)),(aa 0)⟩))) m.max) au)))))))))
abbrev oM:Wm:=top 39
theorem tL (m:cW w K mg) (e:FB K mg "_law_cell_at" oM):bz P w K mg base 1 2 "_law_cell_at" K72.iE:=
 qc K72.oE K72.om 2 e (λnd _ cdv A outer s H E J T hr=>
 (ay (bL (gD uv (f7 λ_ _ _=>.bl _) (aa 1) (fT (ak (aa 0) au) m.len)) (aC (aO (aG (aa 0) (aa 1)))) bE)
 (aC (aO aq))))
abbrev uD:Wm:=top 40
theorem yG (m:cW w K mg) (e:FB K mg "_law_more" uD):bz P w K mg base 1 2 "_law_more" K72.i8:=
 qc K72.ua K72.tw 2 e (λnd _ cdv A outer s H E J T hr=>
 (ay (aP 2 nd (cu aN))
 (ay (aP 3 nd (Kr (ak (jE (aa 0) aq) au) m.abs))
 (ay (bL (gS hr.units (cA (aa 0) aq) aq) (ay (bH (bg (ak (aa 1) au) m.range) (aA 4 nd) (ay (cX 2 (cA (aa 3) (fU aq aq)))
 (aC (aP 3 nd (jE (aa 3) (fU aq aq))))))
 (aC (aO (aa 2)))) bE)
 (ay (aP 3 nd (gf (cA (aa 3) (fU aq aq)) aq))
 (ay (bH (bg (ak (aa 1) au) m.range) (aA 4 nd) (ay (aP 3 nd (cA (gf (gf (fY (aa 3) aq) (jE (aa 3) (fU aq aq))) (fY aq (aa 4))) (gf (fU aq aq) aq)))
 (aC (cX 2 (jE (fY (aa 3) (gf (jE (aa 3) (fU aq aq)) aq)) (fU aq aq))))))
 (aC (aO (aa 2)))))))))
abbrev rQ:Wm:=top 41
theorem xC (m:cW w K mg) (e:FB K mg "_law_freed" rQ):bz P w K mg base 1 2 "_law_freed" K72.iy:=
 qc K72.rB K72.qP 2 e (λnd _ cdv A outer s H E J T hr=>
 (ay (bL (MW hr.units (aa 0) (cu (av eN (av eN (av eN (av eN (av eN (av eN (av eN (av eN aN)))))))))) (ay (bL (vC (aa 1)) (aC (aO (dS eN (nc (aa 0) (gV aq) gU)))) bE)
 (aC (aO (dS (aa 0) eN)))) bE)
 (aC (aO (aa 0)))))
abbrev rR:Wm:=top 42
theorem xD (m:cW w K mg) (Qp:bz P w K mg base 1 2 "_law_freed" K72.iy) (e:FB K mg "_law_names" rR):bz P w K mg base 2 2 "_law_names" K72.gy:=
 qc K72.rC K72.qQ 2 e (λnd _ cdv A outer s H E J T hr=>
 (ay (aP 2 nd eN)
 (ay (aP 3 nd eN)
 (ay (bH (bg (ak aq au) m.range) (aA 4 nd) (ay (aP 3 nd (dS (aa 3) (aG (aa 2) (cA (aa 0) aq))))
 (aC (aP 0 nd (eK (aa 0) aq)))))
 (ay (bL (gS hr.units (cA (aa 0) aq) aq) (aC (aO (uz (ak (bP (fJ ["_law_k"] [3] (dR (bg (ak (aa 1) au) m.range)) (λ_ _ _ _ _ hc=>⟨(aA 0 (bM rfl)),bf,(aT Qp hr (ak (nc (aa 1) gU (gV (dS aq (aa 0)))) (ak dg au)))⟩))) au) m.sorted))) bE)
 (ay (aP 3 nd (nc (aa 3) gU (gV (dS aq (cA (eK (aa 0) aq) aq)))))
 (ay (aP 5 nd (cA (eK (aa 0) aq) (fT (ak (aa 3) au) m.len)))
 (ay (aP 6 nd (cu aN))
 (ay (bH (bg (ak (aa 1) au) m.range) (aA 4 nd) (ay (aP 7 nd (aG (aa 2) (cA (dS (G5 (aa 2) (aG (aa 3) (aa 5))) (fY aq (aa 4))) aq)))
 (aC (cX 6 (aT Qp hr (ak (dS (dS (nc (aa 3) gU (gV (aa 5))) (aa 7)) (nc (aa 3) (gV (dS (aa 5) aq)) gU)) (ak dg au)))))))
 (aC (aO (uz (ak (aa 6) au) m.sorted))))))))))))
abbrev rS:Wm:=top 43
theorem xE (m:cW w K mg) (e:FB K mg "_law_world" rS):bz P w K mg base 1 4 "_law_world" K72.dB:=
 qc K72.rD K72.qR 4 e (λnd _ cdv A outer s H E J T hr=>
 (ay (aP 4 nd (cu aN))
 (ay (bH (cL (aa 1)) (aA 5 nd) (ay (aP 6 nd (cu aN))
 (ay (bH (bg (ak (aa 0) au) m.range) (aA 7 nd) (ay (bL (gS hr.units (cA (aa 3) aq) aq) (aC (cX 6 (aa 7))) bE)
 (aC (aP 3 nd (eK (aa 3) aq)))))
 (aC (cX 4 (br (av (aa 5) (av (cV (ak (aa 6) au) m.tuple) aN))))))))
 (ay (aP 8 nd (cu aN))
 (ay (bH (cL (aa 2)) (aA 5 nd) (ay (aP 9 nd (cu aN))
 (ay (bH (bg (ak (aa 0) au) m.range) (aA 10 nd) (aC (bH (bg (ak (aa 0) au) m.range) (aA 11 nd) (ay (bL (gS hr.units (cA (aa 3) aq) aq) (aC (cX 9 (br (av (aa 10) (av (aa 11) aN))))) bE)
 (aC (aP 3 nd (eK (aa 3) aq)))))))
 (aC (cX 8 (br (av (aa 5) (av (cV (ak (aa 9) au) m.tuple) aN))))))))
 (aC (aO (br (av (aa 0) (av (cV (ak (aa 4) au) m.tuple) (av (cV (ak (aa 8) au) m.tuple) aN)))))))))))
abbrev oN:Wm:=top 44
theorem tM (m:cW w K mg) (e:FB K mg "_law_flipped" oN):bz P w K mg base 1 2 "_law_flipped" K72.gm:=
 qc K72.oF K72.oq 2 e (λnd _ cdv A outer s H E J T hr=>
 (ay (aP 2 nd aq)
 (ay (bH (bg (ak (aa 1) au) m.range) (aA 3 nd) (aC (aP 2 nd (fY (aa 2) aq))))
 (ay (bL (gS hr.units (cA (jE (aa 0) (aa 2)) aq) aq) (aC (aO (vE (aa 0) (aa 2)))) bE)
 (aC (aO (gf (aa 0) (aa 2))))))))
abbrev pX:Wm:=top 45
theorem uX (m:cW w K mg) (e:FB K mg "_law_turned" pX):bz P w K mg base 1 2 "_law_turned" K72.d8:=
 qc K72.pD K72.oX 2 e (λnd _ cdv A outer s H E J T hr=>
 (ay (aP 2 nd (CF (ak (aG (aa 0) aq) au) m.range m.list))
 (ay (aP 3 nd (cu aN))
 (ay (bH (bg (ak (aG (aa 0) aq) au) m.range) (aA 4 nd) (ay (As 3 2 (cA (aa 1) (fT (ak (aa 2) au) m.len)))
 (aC (aP 1 nd (eK (aa 1) aq)))))
 (ay (aP 5 nd (cu aN))
 (ay (bH (cL (aG (aa 0) aq)) (cM (aU (aA 6 nd) (aU (aA 7 nd) cB))) (aC (cX 5 (br (av (aa 6) (av (cV (ak (wN hr.units (ak (bP (fJ ["_law_point"] [3] (cD (aa 7)) (λ_ _ _ _ _ hc=>⟨(aA 0 (bM rfl)),bf,(aG (aa 1) (aa 0))⟩))) au) m.sorted) au) m.tuple) aN))))))
 (ay (aP 8 nd (cu aN))
 (ay (bH (cL (aG (aa 0) aq)) (cM (aU (aA 6 nd) (aU (aA 9 nd) cB))) (aC (cX 8 (br (av (aa 6) (av (cV (ak (wN hr.units (ak (bP (fJ ["_law_a","_law_b"] [3] (cD (aa 9)) (λ_ _ _ _ _ hc=>⟨(cM (aU (aA 0 (bM rfl)) (aU (aA 1 (bM rfl)) cB))),bf,(br (av (aG (aa 2) (aa 0)) (av (aG (aa 2) (aa 1)) aN)))⟩))) au) m.sorted) au) m.tuple) aN))))))
 (aC (aO (br (av (aG (aa 0) aq) (av (cV (ak (aa 5) au) m.tuple) (av (cV (ak (aa 8) au) m.tuple) aN))))))))))))))
abbrev wY:Wm:=top 46
theorem Aj (m:cW w K mg) (QN:bz P w K mg base 1 2 "_law_more" K72.i8) (Qq:bz P w K mg base 2 2 "_law_names" K72.gy) (Qi:bz P w K mg base 1 4 "_law_world" K72.dB) (Ql:bz P w K mg base 1 2 "_law_turned" K72.d8) (Qx:bz P w K mg base 1 2 "_law_flipped" K72.gm) (e:FB K mg "_law_two" wY):bz P w K mg base 3 2 "_law_two" K72.iQ:=
 qc K72.wm K72.vP 2 e (λnd _ cdv A outer s H E J T hr=>
 (ay (aP 2 nd (aT QN hr (ak (aa 0) (ak aq au))))
 (ay (aP 3 nd (Bp (aT Qq hr (ak (aG (aa 2) aq) (ak aq au))) gU (gV (aG (cu (av aq (av aq (av aq (av aq (av aq (av aq aN))))))) (cA (aG (aa 2) aq) aq)))))
 (ay (aP 4 nd (Bp (aT Qq hr (ak (aG (cu (av (aG (aa 2) aq) (av (aG (aa 2) aq) aN))) (eK (cA (eK (aG (aa 2) aq) aq) aq) aq)) (ak aq au))) gU (gV (aG (cu (av aq (av aq (av aq (av aq (av aq (av aq aN))))))) (cA (eK (aG (aa 2) aq) aq) aq)))))
 (ay (aP 5 nd (aG (aa 1) (cA (eK (aG (aa 2) aq) aq) (fT (ak (aa 1) au) m.len))))
 (ay (aP 6 nd (aG (cu (av aq (av (vE (fU aq aq) aq) (av (aG (aa 2) aq) (av (aG (aa 2) aq) (av (aG (aa 2) aq) (av (aG (aa 2) aq) aN))))))) (cA (eK (aG (aa 2) aq) aq) aq)))
 (ay (k9 4 (k9 3 (aP 7 nd (aT Qi hr (ak (aa 5) (ak (aa 3) (ak (aa 4) (ak (aa 6) au))))))))
 (ay (aP 8 nd (cA (aG (aa 2) aq) aq))
 (ay (bL (gS hr.units (aa 8) aq) (aC (aO (br (av (aa 7) (av (aT Ql hr (ak (aa 7) (ak (aG (aa 2) aq) au))) aN))))) bE)
 (ay (bL (gS hr.units (aa 8) aq) (ay (aP 9 nd (Kv (ak aq (ak (gf (fY (aa 5) (fT (ak (aa 3) au) m.len)) (fY (fY (aa 5) (aa 5)) (fT (ak (aa 4) au) m.len))) au)) m.max))
 (ay (aP 10 nd (aT Qi hr (ak (aa 5) (ak (aa 3) (ak (aa 4) (ak (aT Qx hr (ak (aa 6) (ak (cA (eK (aG (aa 2) aq) aq) (aa 9)) au))) au))))))
 (aC (aO (br (av (aa 7) (av (aT Ql hr (ak (aa 10) (ak (aG (aa 2) aq) au))) aN))))))) bE)
 (ay (aP 5 nd (aG (aa 1) (cA (aG (aa 2) aq) (fT (ak (aa 1) au) m.len))))
 (ay (bL (gS hr.units (aa 8) aq) (aC (aO (br (av (aa 7) (av (aT Qi hr (ak (aa 5) (ak (aa 3) (ak (aa 4) (ak (aa 6) au))))) aN))))) bE)
 (aC (aO (br (av (aa 7) (av (aT Qi hr (ak (aa 5) (ak (aa 3) (ak (aa 4) (ak (aG (aa 2) aq) au))))) aN)))))))))))))))))
abbrev zP:Wm:=top 47
theorem BY (m:cW w K mg) (e:FB K mg "_law_at" zP):bz P w K mg base 1 3 "_law_at" K72.kQ:=
 qc K72.zc K72.yt 3 e (λnd _ cdv A outer s H E J T hr=>
 (ay (bH (cL (aa 0)) (cM (aU (aA 3 nd) (aU (aA 4 nd) cB))) (aC (bL (gS hr.units (aa 3) (aa 1)) (aC (aO (m_ hr.units (aa 2) (aa 4)))) bE)))
 (aC (aO dg))))
abbrev wX:Wm:=top 48
theorem Ai (m:cW w K mg) (QJ:bz P w K mg base 1 3 "_law_at" K72.kQ) (e:FB K mg "_law_fit" wX):bz P w K mg base 2 3 "_law_fit" K72.jQ:=
 qc K72.wg K72.vO 3 e (λnd _ cdv A outer s H E J T hr=>
 (ay (bH (cL (aa 2)) (cM (aU (aA 3 nd) (aU (aA 4 nd) cB))) (ay (bH (cL (aG (aa 0) aq)) (cM (aU (aA 5 nd) (aU (aA 6 nd) cB))) (aC (bL (m9 hr.units (m_ hr.units (aa 3) (aa 6)) (aT QJ hr (ak (aG (aa 1) aq) (ak (aa 5) (ak (aa 4) au))))) (aC (aO dg)) bE)))
 (aC (bH (cL (aa 2)) (cM (aU (aA 7 nd) (aU (aA 8 nd) cB))) (ay (bL (m9 hr.units (pU hr.units (aa 3) (aa 7)) (pU hr.units (aa 4) (aa 8))) (aC (aO dg)) bE)
 (aC (bH (cL (aG (aa 0) aq)) (cM (aU (aA 5 nd) (aU (aA 9 nd) cB))) (aC (bL (m9 hr.units (m_ hr.units (br (av (aa 3) (av (aa 7) aN))) (aa 9)) (aT QJ hr (ak (aG (aa 1) aq) (ak (aa 5) (ak (br (av (aa 4) (av (aa 8) aN))) au))))) (aC (aO dg)) bE)))))))))
 (aC (aO dg))))
abbrev rO:Wm:=top 49
theorem xA (m:cW w K mg) (Qy:bz P w K mg base 2 3 "_law_fit" K72.jQ) (e:FB K mg "_law_alone" rO):bz P w K mg base 3 2 "_law_alone" K66.jL:=
 qc K66.rq K66.qN 2 e (λnd _ cdv A outer s H E J T hr=>
 (ay (bH (bg (ak (aG (aa 0) aq) au) m.range) (aA 2 nd) (aC (bL (jD (fR (vD (ak (bP (fJ ["_law_b"] [0,1,2] (dR (bg (ak (aG (aa 1) aq) au) m.range)) (λ_ _ _ _ _ hc=>⟨(aA 0 (bM rfl)),bf,(aT Qy hr (ak (aa 1) (ak (aa 2) (ak (br (av (br (av (aa 3) (av (aa 0) aN))) aN)) au))))⟩))) au) m.any))) (aC (aO dg)) bE)))
 (ay (bH (bg (ak (aG (aa 1) aq) au) m.range) (aA 3 nd) (aC (bL (jD (fR (vD (ak (bP (fJ ["_law_a"] [0,1,3] (dR (bg (ak (aG (aa 0) aq) au) m.range)) (λ_ _ _ _ _ hc=>⟨(aA 0 (bM rfl)),bf,(aT Qy hr (ak (aa 1) (ak (aa 2) (ak (br (av (br (av (aa 0) (av (aa 3) aN))) aN)) au))))⟩))) au) m.any))) (aC (aO dg)) bE)))
 (aC (aO dg)))))
abbrev rP:Wm:=top 50
theorem xB (m:cW w K mg) (e:FB K mg "_law_first" rP):bz P w K mg base 1 1 "_law_first" K66.iw:=
 qc K66.rA K66.qO 1 e (λnd _ cdv A outer s H E J T hr=>
 (ay (kP 1 nd (fJ ["_law_k"] [0] (dR (bg (ak (fT (ak (aa 0) au) m.len) au) m.range)) (λ_ _ _ _ _ hc=>⟨(aA 0 (bM rfl)),(dJ (ES hr.units (br aN) (aG (aa 1) (aa 0)))),(aa 0)⟩)))
 (ay (bL (gS hr.units (aa 1) (cu aN)) (aC (aO (fU aq aq))) bE)
 (aC (aO (aG (aa 1) aq))))))
abbrev n6:Wm:=top 51
theorem N_:fG ["_law_script","_law_one","_law_other","_law_firsts","_law_letters","_law_depth"] ["_law_script"] (aY n6):=⟨rfl,rfl,rfl,by decide +kernel,rfl,by decide +kernel,by decide +kernel⟩
theorem NQ (m:cW w K mg) (Qw:bz P w K mg base 1 2 "_law_cell_at" K72.iE) (QV:bz P w K mg base 3 2 "_law_two" K72.iQ) (QM:bz P w K mg base 6 3 "few_rounds" K66.iz) (QK:bz P w K mg base 1 1 "_law_first" K66.iw) (Rw:K2 P w K mg base 7 3 "parted" K32.gY) (QI:bz P w K mg base 3 2 "_law_alone" K66.jL) (Q2:Fy P w K mg base 7 2 "parted" K32.gY) (F:oj K "law" "law" n6 f fd):fF P w K mg base oh 8 f fd ["_law_script"] (p7 K 1 K66.uQ):=
 have sc:=N_
 Kn (k:=7) (gB:=K66.LL) F sc (λcdv A outer s H E J T hr=>
 (ay (sN (aT QV hr (ak (aT Qw hr (ak (aa 0) (ak aq au))) (ak (cu (av aq (av aq (av aq (av aq (av aq (av aq aN))))))) au))) (cM (aU (aA 1 sc.nd) (aU (aA 2 sc.nd) cB))))
 (ay (aP 3 sc.nd (cu (av aq aN)))
 (ay (bH (rN (ak aq (ak aq au)) m.range) (aA 4 sc.nd) (aC (cX 3 (aT QK hr (ak (aT QM hr (ak (aa 1) (ak (aa 2) (ak (aa 4) au)))) au)))))
 (ay (aP 5 sc.nd (G3 Q2 hr (ak (aa 1) (ak (aa 2) au))))
 (ay (bL (zH (aa 5) jF) (aC (aP 5 sc.nd (fU aq aq))) bE)
 (ay (bL (m9 hr.units (aG (aa 3) aq) (aG (cu (av (fU aq aq) (av aq aN))) (EZ (ak (Bo (aT QI hr (ak (aa 1) (ak (aa 2) au)))) au) m.int))) (aC (aO dg)) bE)
 (ay (bH (rN (ak aq (ak aq au)) m.range) (aA 4 sc.nd) (ay (bL (jC (ux (gD uv (f7 λ_ _ _=>.bl _) (aG (aa 3) (aa 4)) (aa 5)) (vB (jC (qH (gD uu (f7 λ_ _ _=>.bl _) (aa 4) aq) (nW (gD uu (f7 λ_ _ _=>.bl _) (aG (aa 3) (aa 4)) (aG (aa 3) (vE (aa 4) aq))))))))) (aC (aO dg)) bE)
 (aC (bL (jC (qH (gD NR (f7 λ_ _ _=>.bl _) (aa 5) (aa 4)) (nW (m9 hr.units (aG (aa 3) (aa 4)) (aa 5))))) (aC (aO dg)) bE))))
 (aC (aO (EW (EU (aa 5) aq) (nZ (pU hr.units (aG (aa 3) aq) (aa 5)))))))))))))) (λas r _ h=>h)
end
end K66
namespace K66
open PySem DL K01 WP K51 K52 K55 K22 K33
open K23 (Pr aM Good told gE e_)
noncomputable def ff:Ps->List Ps->List Ps
 | [],T=>T
 | p::ps,T=>ff ps (T++T.map λq=>q++[p])
theorem wJ:∀{ps:Ps}{T:List Ps}{q:Ps},q∈ff ps T↔∃a∈T,∃b,b.Sublist ps/\q=a++b
 | [],T,q=>⟨λh=>⟨q,h,[],.slnil,by simp⟩,λ⟨a,ha,b,hb,e⟩=>by cases hb;simpa [e,ff] using ha⟩
 | p::ps,T,q=>by
  show q∈ff ps _↔_;rw [wJ];constructor
  ·rintro ⟨a,ha,b,hb,rfl⟩;rcases Ub.mp ha with h | h
   ·exact ⟨a,h,b,hb.cons _,rfl⟩
   ·obtain ⟨a',h',rfl⟩:=Tr.mp h;exact ⟨a',h',p::b,hb.cons₂ _,by simp⟩
  ·rintro ⟨a,ha,b,hb,rfl⟩;cases hb with
   | cons _ h=>exact ⟨a,Ub.mpr (.inl ha),b,h,rfl⟩
   | cons_cons _ h=>exact ⟨a++[p],Ub.mpr (.inr (Tr.mpr ⟨a,ha,rfl⟩)),_,h,by simp⟩
def ju (n:Nat) (ps:Ps) (L:List Ps):Prop:=∀q,q∈L↔q.Sublist ps/\q.length < n
section
variable {v w:Wd}{n j:Nat}
def uC (v w:Wd) (n:Nat) (q:Ps):List (List Ps):=(picks v w).map λk=>((jV v w k).map (cQ q)).filter λx=>decide (x∈told v w n)
def RF (v w:Wd) (n:Nat) (pt:Ps->List Ps) (ps:Ps):List (List Ps):=(pt ps).flatMap (uC v w n)
variable {pt:Ps->List Ps}
theorem HU:∀k,∀r∈RF v w n pt k,∀x∈r,x∈told v w n:=λk r hr x hx=>by obtain ⟨q,_,hr⟩:=VR.mp hr;obtain ⟨a,_,rfl⟩:=Tr.mp hr;exact of_decide_eq_true (Uq.mp hx).2
abbrev LF (v w:Wd) (n:Nat) (pt:Ps->List Ps):Nat->Ps->Bool:=LY (RF v w n pt)
theorem r6 (hp:∀ps,ju n ps (pt ps)){ps:Ps}:LF v w n pt (j + 1) ps=true↔LF v w n pt j ps=true/\∀q,q.Sublist ps->q.length < n->∀k∈picks v w,∃p∈jV v w k,cQ q p∈told v w n/\LF v w n pt j (cQ q p)=true:=by
 rw [BE];refine and_congr ad5 ⟨λh q h1 h2 k hk=>?_,λh r hr=>?_⟩
 ·obtain ⟨x,hx,hL⟩:=h _ (VR.mpr ⟨q,((hp ps) q).mpr ⟨h1,h2⟩,Tr.mpr ⟨k,hk,rfl⟩⟩);obtain ⟨hx,hd⟩:=Uq.mp hx;obtain ⟨p,hp,rfl⟩:=Tr.mp hx;exact ⟨p,hp,of_decide_eq_true hd,hL⟩
 ·obtain ⟨q,hq,hr⟩:=VR.mp hr;obtain ⟨k,hk,rfl⟩:=Tr.mp hr;obtain ⟨h1,h2⟩:=((hp ps) q).mp hq;obtain ⟨p,hp,h3,h4⟩:=h q h1 h2 k hk;exact ⟨cQ q p,Uq.mpr ⟨Tr.mpr ⟨p,hp,rfl⟩,decide_eq_true h3⟩,h4⟩
theorem eF (t:Pr v w){ps:Ps}:ps∈told v w n↔Good v w ps/\ps.length<=n:=by
 rw [gE];constructor
 ·rintro ⟨j,hj,h⟩;obtain ⟨h1,h2⟩:=(e_ j).mp h;exact ⟨h2,by omega⟩
 ·rintro ⟨g,h⟩;exact ⟨ps.length,h,(e_ _).mpr ⟨rfl,g⟩⟩
theorem uT (q:Ps) (p:Nat×Nat):(cQ q p).length<=q.length + 1:=by have:=K32.KQ (q++[p]);simpa [cQ] using this
theorem sZ (t:Pr v w) (hp:∀ps,ju n ps (pt ps)):∀(j:Nat) (ps:Ps),La v w j ps=true->LF v w n pt j ps=true
 | 0,_,_=>rfl
 | j + 1,ps,h=>by refine (r6 hp).mpr ⟨sZ t hp j ps (r_.mp h).1,λq h1 h2 k hk=>?_⟩;obtain ⟨p,a1,a2,a3⟩:=(r_.mp (K35.yr t (j + 1) q ps (λx hx=>h1.subset hx) h)).2 k hk;exact ⟨p,a1,(eF t).mpr ⟨(nR t).mp a2,T6 (uT q p) h2⟩,sZ t hp j _ a3⟩
theorem qf (t:Pr v w){n':Nat}{pt':Ps->List Ps}(hn:n<=n') (hp:∀ps,ju n ps (pt ps)) (hp':∀ps,ju n' ps (pt' ps)):∀(j:Nat) (ps:Ps),LF v w n' pt' j ps=true->LF v w n pt j ps=true
 | 0,_,_=>rfl
 | j + 1,ps,h=>by obtain ⟨h0,h⟩:=(r6 hp').mp h;refine (r6 hp).mpr ⟨qf t hn hp hp' j ps h0,λq h1 h2 k hk=>?_⟩;obtain ⟨p,a1,a2,a3⟩:=h q h1 (by omega) k hk;exact ⟨p,a1,(eF t).mpr ⟨((eF t).mp a2).1,T6 (uT q p) h2⟩,qf t hn hp hp' j _ a3⟩
theorem BC (t:Pr v w) (hp:∀ps,ju n ps (pt ps)):∀(j:Nat) (ps:Ps),ps.length + j<=n->LF v w n pt j ps=true->La v w j ps=true
 | 0,_,_,_=>rfl
 | j + 1,ps,hl,h=>by obtain ⟨h0,h⟩:=(r6 hp).mp h;refine r_.mpr ⟨BC t hp j ps (by omega) h0,λk hk=>?_⟩;obtain ⟨p,a1,a2,a3⟩:=h ps (Zx _) (by omega) k hk;exact ⟨p,a1,(nR t).mpr ((eF t).mp a2).1,BC t hp j _ (by have:=uT ps p;omega) a3⟩
theorem yo (t:Pr v w){pt:Ps->List Ps}(hp:∀ps,ju 1 ps (pt ps)) (h:LF v w 1 pt 1 []=true):∀(j:Nat) (ps:Ps),LF v w 1 pt j ps=true
 | 0,_=>rfl
 | j + 1,ps=>by refine (r6 hp).mpr ⟨yo t hp h j ps,λq h1 h2 k hk=>?_⟩;have:q=[]:=V2.mp (by omega);subst this;obtain ⟨p,a1,a2,_⟩:=((r6 hp).mp h).2 [] (Zx _) h2 k hk;exact ⟨p,a1,a2,yo t hp h j _⟩
end
end K66
namespace K66
open PySem DL K01 WP K51 K52 K55 K22 K33
open PySem.W (kas_sort)
open K23 (Pr aM Good told gE e_ gG gj bq eU dw f_)
def sR (L:List Ps):List Ps:=if L.length < 2 then L else (aX (j4 ((L.map aM).map mz)) (V1 L.length)).toList.map λi=>L.getD i []
theorem vg {L:List Ps}(h:0 < L.length) (i:Nat):i∈(aX (j4 ((L.map aM).map mz)) (V1 L.length)).toList↔i < L.length:=by have:=((eV (n:=L.length) h).run (j4 ((L.map aM).map mz)):eS _ _);rw [YK,W3 this];simp
theorem Hu (L:List Ps):lY (L.map aM)=(sR L).map aM:=by
 unfold lY sR;rw [Tp];by_cases h:L.length < 2
 ·rw [if_pos h,if_pos h]
 ·rw [if_neg h,if_neg h];refine Eq.trans (WT λi hi=>?_) (Uj (f:=λi=>L.getD i [])).symm;have hi:=(vg (by omega) i).mp hi;show (L.map aM).getD i .non=aM (L.getD i []);simp [Y6,hi]
theorem Gy {L:List Ps}{q:Ps}:q∈sR L↔q∈L:=by
 unfold sR;by_cases h:L.length < 2
 ·rw [if_pos h]
 ·rw [if_neg h,Tr];constructor
  ·rintro ⟨i,hi,rfl⟩;have hi:=(vg (by omega) i).mp hi;simp [Y6,hi]
  ·intro hq;obtain ⟨i,hi,rfl⟩:=Ve.mp hq;exact ⟨i,(vg (by omega) i).mpr hi,by simp [Y6,hi]⟩
theorem Hx (L:List Ps):(sR L).length=L.length:=by
 unfold sR;by_cases h:L.length < 2
 ·rw [if_pos h]
 ·rw [if_neg h,Tp];have:=((eV (n:=L.length) (by omega)).run (j4 ((L.map aM).map mz)):eS _ _).size_eq;simpa using this
def fQ (n:Nat) (ps:Ps):List Ps:=sR ((ff ps [[]]).filter λq=>decide (q.length < n))
theorem gR (n:Nat) (ps:Ps):ju n ps (fQ n ps):=λq=>by
 unfold fQ;rw [Gy,Uq,wJ,decide_eq_true_eq];constructor
 ·rintro ⟨⟨a,ha,b,hb,rfl⟩,hl⟩;cases TL.mp ha;exact ⟨hb,hl⟩
 ·rintro ⟨h,hl⟩;exact ⟨⟨[],by simp,q,h,rfl⟩,hl⟩
theorem nU:∀(ps:Ps) (T:List Ps),(ff ps T).length=T.length * 2 ^ ps.length
 | [],T=>by simp [ff]
 | p::ps,T=>by show (ff ps _).length=_;rw [nU,TQ,Tp,UB,Yw];rw [<-ad7,adw,abI 2]
theorem IQ (ps:Ps) (n:Nat) (hl:ps.length<=4):K66.jb [.d (aM ps),.d (.int n)]=.ok (.l .fresh ((fQ n ps).map aM)):=by
 refine bX (bB (gQ (aI (bF bw (by decide)) rfl bw) (by show 1<=1000;decide)) rfl ?_);refine dH (ds:=ps.map dP) rfl ?_;have key:∀(qs:Ps) (T:List Ps) (z:Option S),(∀q∈T,q.length + qs.length<=4)->T.length * 2 ^ qs.length<=16->Wp (dG (az 3) (bh 2 (g2 tW (af 2) (bK 1 [3] (fq (af 2)) (az 0) b_ (g2 dX (af 0) (bO (aE (af 1) aW)))))) (qs.map dP) [some (.d (aM ps)),some (.d (.int n)),some (.own (T.map aM)),z])
   λo=>∃z',o=.nx [some (.d (aM ps)),some (.d (.int n)),some (.own ((ff qs T).map aM)),z']:=by
  intro qs
  induction qs with
  | nil=>exact λT z _ _=>⟨_,rfl,z,rfl⟩
  | cons p qs ih=>
   intro T z h1 h2;have tl:T.length<=16:=by have:1<=2 ^ (p::qs).length:=Nat.one_le_two_pow;exact T6 (Nat.le_mul_of_pos_right _ this) h2
   rw [TV];show Wp (az 3 (dP p) _ >>= _) _;rw [show az 3 (dP p) [some (.d (aM ps)),some (.d (.int n)),some (.own (T.map aM)),z]=.ok [some (.d (aM ps)),some (.d (.int n)),some (.own (T.map aM)),some (.d (dP p))] from rfl,aL];have hs:bh 2 (g2 tW (af 2) (bK 1 [3] (fq (af 2)) (az 0) b_ (g2 dX (af 0) (bO (aE (af 1) aW))))) [some (.d (aM ps)),some (.d (.int n)),some (.own (T.map aM)),some (.d (dP p))]=.ok (.nx [some (.d (aM ps)),some (.d (.int n)),some (.own ((T++T.map λq=>q++[p]).map aM)),some (.d (dP p))]):=by
    show (g2 _ _ _ _ >>= _)=_;rw [two (x:=.l .own (T.map aM)) (z:=.l .fresh ((T++T.map λq=>q++[p]).map aM)) rfl (jw (xs:=T) (h:=aM) (λq=>aM (q++[p])) rfl (by omega) λq hq=>⟨_,two rfl (bF (aI rfl rfl bw) (by show 1<=1000;decide)) (CQ (q.map dP) [dP p] (by have:=h1 q hq;simp;omega)),?_⟩) ?_]
    ·rfl
    ·show (if (T.map aM).length + (T.map λq=>aM (q++[p])).length<=sizeLine then M.ok (R.l .fresh (T.map aM++T.map λq=>aM (q++[p]))) else .bad)=_;rw [if_pos (fu (by simp;omega)),Ue,Uj];rfl
    ·skip
     show _=M.ok (aM (q++[p]));rw [show aM (q++[p])=.tup (q.map dP++[dP p]) by simp [aM]];rfl
   rw [hs,aL];refine ih (T++T.map λq=>q++[p]) _ (λq hq=>?_) ?_
   ·rcases Ub.mp hq with h | h
    ·have:=h1 q h;simp at this;omega
    ·obtain ⟨q',h',rfl⟩:=Tr.mp h;have:=h1 q' h';simp at this ⊢;omega
   ·rw [TQ,Tp,<-ad7,adw,abI 2,<-Yw];exact h2
 refine (key ps [[]] none (by simpa using hl) (by simpa using Vt (by decide:0 < 2) hl)).mono λo ho=>?_;obtain ⟨z,rfl⟩:=ho;show Wp _ _;have ln:(ff ps [[]]).length<=16:=by rw [nU];simpa using Vt (by decide:0 < 2) hl
 refine bC (r:=.l .fresh ((fQ n ps).map aM)) ?_ rfl rfl;show (bK _ _ _ _ _ _ _ >>= _)=_;rw [kq (xs:=ff ps [[]]) (h:=aM) (λq=>decide (q.length < n)) aM rfl (by omega) λq hq=>⟨bq (n1 rfl (A8 _)) rfl ?_,λ_=>⟨_,rfl,rfl⟩⟩,aL]
 ·show (if (decide ((((ff ps [[]]).filter λq=>decide (q.length < n)).map aM).length < 64) && (((ff ps [[]]).filter λq=>decide (q.length < n)).map aM).all Cg)=true then M.ok (R.l .fresh (lY (((ff ps [[]]).filter λq=>decide (q.length < n)).map aM))) else .bad)=_;rw [if_pos ?_,Hu]
  ·rfl
  ·rw [Tt,decide_eq_true_eq,Tp];exact ⟨Zg (UA _ _) (by omega),T8.mpr λd hd=>by obtain ⟨q,_,rfl⟩:=Tr.mp hd;rfl⟩
 ·show M.ok (R.d (.bl (decide (((q.map dP).length:Int) < (n:Int)))))=_;rw [Tp];congr 4;simp
end K66
namespace K66
open PySem DL K01 WP K51 K52 K55 K22 K33
open K23 (Pr aM Good told gE e_ gG gj bq eU dw f_ i7 qv mE qo)
section
variable {α:Type} [DecidableEq α] {e f:α->D}{ks:List α}{k:α}{env:Ev}{p:α->Bool}
theorem Ls {act:Ev->M (List D×Ev)}{gts:G Bool}{h f:α->D}{rest:Ev}:∀(ys:List α),(∀y∈ys,gts (some (.d (h y))::rest)=.ok (p y)/\(p y=true->act (some (.d (h y))::rest)=.ok ([f y],some (.d (h y))::rest)))->∀z:Option S,∃z',bN (az 0) gts act (ys.map h) (z::rest)=.ok ((ys.filter p).map f,z'::rest)
 | [],_,z=>⟨z,rfl⟩
 | y::ys,H,z=>by
  obtain ⟨z',ih⟩:=Ls ys (λy hy=>H y (Tq _ hy)) (some (.d (h y)));obtain ⟨h1,h2⟩:=H y Tu;refine ⟨z',?_⟩;rw [TV];unfold bN;show (gts (some (.d (h y))::rest) >>= _)=_;rw [h1,aL,YI];cases q:p y with
  | false=>exact ih
  | true=>
   show (act (some (.d (h y))::rest) >>= _)=_;rw [h2 q,aL];show (bN (az 0) gts act (ys.map h) (some (.d (h y))::rest) >>= _)=_;rw [ih];rfl
theorem Ji {cap:List Nat}{gi:G (List D)}{gts:G Bool}{gk gv:G R}(p:α->Bool) (he:∀a b,aZ (e a) (e b)=decide (a=b)) (nd:ks.Nodup) (hi:gi env=.ok (ks.map e)) (hl:ks.length<=1000000)
  (hb:∀k∈ks,gts (some (.d (e k))::cE 0 cap env)=.ok (p k)/\(p k=true->c6 (e k)=true/\gk (some (.d (e k))::cE 0 cap env)=.ok (.d (e k))/\∃r,gv (some (.d (e k))::cE 0 cap env)=.ok r/\toD r=.ok (f k))):eH 1 cap gi (az 0) gts gk gv env=.ok (.mf ((ks.filter p).map e) ((ks.filter p).map f)):=by
 obtain ⟨z,h⟩:=Ls (p:=p) (act:=nt gk gv) (gts:=gts) (h:=e) (f:=λk=>.tup [e k,f k]) (rest:=cE 0 cap env) ks (λk hk=>⟨(hb k hk).1,λq=>by
  obtain ⟨h1,h2,r,h3,h4⟩:=(hb k hk).2 q;exact mE h2 rfl h3 h4 h1⟩) none
 unfold eH iD;rw [hi,aL,if_pos (by rw [Tp];exact hl)];show (bN (az 0) gts (nt gk gv) (ks.map e) (none::cE 0 cap env) >>= _)=_;rw [h];show M.ok (R.mf (g_ _).1 (g_ _).2)=_;rw [qw he f _ (ks.filter p) rfl (nd.filter _)]
end
section
variable {κ:Type} [DecidableEq κ] {st:(κ->Bool)->κ->Bool}{ks:List κ}
def Bc (st:(κ->Bool)->κ->Bool) (ks:List κ) (d:Nat):Prop:=d + (ks.filter (LZ st d)).length<=ks.length
theorem NL {d:Nat}{k:κ}(h:Bc st ks d) (hk:k∈ks) (h1:LZ st d k=true) (h2:LZ st (d + 1) k=false):Bc st ks (d + 1):=by
 have sub:∀(xs:List κ),(xs.filter (LZ st (d + 1))).length<=(xs.filter (LZ st d)).length/\(k∈xs->(xs.filter (LZ st (d + 1))).length < (xs.filter (LZ st d)).length):=by
  intro xs
  induction xs with
  | nil=>exact ⟨Tv _,λh=>nomatch h⟩
  | cons x xs ih=>
   have mono:LZ st (d + 1) x=true->LZ st d x=true:=λh=>(yp.mp h).1;rw [YI,YI];cases q1:LZ st (d + 1) x with
   | true=>
    rw [mono q1];simp only [if_true,UB];refine ⟨by omega,λhm=>?_⟩;rcases TZ.mp hm with rfl | hm
    ·rw [h2] at q1;cases q1
    ·have:=ih.2 hm;omega
   | false=>
    cases q2:LZ st d x with
    | true=>
     simp only [if_true,TJ,if_false,UB];exact ⟨by omega,λ_=>by omega⟩
    | false=>
     simp only [TJ,if_false];refine ⟨ih.1,λhm=>?_⟩;rcases TZ.mp hm with rfl | hm
     ·rw [h1] at q2;cases q2
     ·exact ih.2 hm
 have:=(sub ks).2 hk;unfold Bc at *;omega
end
section
variable {rows:Ps->List (List Ps)}{ks:List Ps}
theorem IS (nd:ks.Nodup) (hl:ks.length<=390000) (hc:∀k∈ks,∀r∈rows k,∀x∈r,x∈ks) (h1:∀k∈ks,(rows k).length<=1000) (h2:∀k∈ks,∀r∈rows k,r.length<=1000):
  ∃d,d<=ks.length/\gZ [.db (ks.map aM) (ks.map (kh rows)),.fn "answered_still"]=.ok (.mf (ks.map aM) (ks.map λk=>dV (dA rows d k)))/\∀k∈ks,LY rows d k=true->LY rows (d + 1) k=true:=by
 have st:∀d k,k∈ks->bV [.d (kh rows k),.db (ks.map aM) (ks.map λk=>dV (dA rows d k))]=.ok (.d (.bl (zO rows (LY rows d) k))):=λd k hk=>by rw [AD (rows k) ks (dA rows d) (hc k hk) (h1 k hk) (h2 k hk)];congr 4;funext r;congr 1;funext x;rw [Uw,Zm,iV]
 have dx:∀k∈ks,∀x:R,oz x=some (ks.map aM,ks.map (kh rows))->fm x (.d (aM k))=.ok (.d (kh rows k)):=λk hk x hx=>jx eY hx (dW k) hk;obtain ⟨d,hd,h,hs⟩:=CZ (ks:=ks) (val:=kh rows) (x:="answered_still") (st:=zO rows) (c1:=Ir 1 2 3 "answered_still" bV) (c2:=Ir 2 3 1 "answered_still" bV) (Bc (zO rows) ks) (by unfold Bc;rw [XD];exact UA _ _) (λd hd k hk q1 q2=>NL hd hk q1 q2) nd hl
  (λk hk d _=>(c2 (two rfl rfl (dx k hk _ rfl)) rfl (st d k hk)).trans rfl) (λk hk d _=>(c2 (two rfl rfl (dx k hk _ rfl)) rfl (st d k hk)).trans rfl)
 exact ⟨d,by unfold Bc at hd;omega,h,hs⟩
end
section
variable {v w:Wd}{n:Nat}
theorem Bg {ps:Ps}(h:ps.length<=4):(fQ n ps).length<=16:=by unfold fQ;rw [Hx];refine T6 (UA _ _) ?_;rw [nU];simpa using Vt (by decide:0 < 2) h
theorem CW (t:Pr v w) (hn:n<=4):∃d,d<=(told v w n).length/\K66.jM [.d v.d,.d w.d,.d (.int n)]=.ok (.mf ((told v w n).map aM) ((told v w n).map λk=>dV (dA (RF v w n (fQ n)) d k)))/\∀k∈told v w n,LF v w n (fQ n) d k=true->LF v w n (fQ n) (d + 1) k=true:=by
 have v4:=t.v4;have w4:=t.w4;have tl:=K23.n9 t n hn;have nd:=vJ v w n;have four:∀k∈told v w n,k.length<=4:=λk hk=>T6 ((eF t).mp hk).2 hn;have pl:(picks v w).length<=8:=by unfold picks;simp;omega
 have l1:∀q,(uC v w n q).length<=8:=λq=>by unfold uC;rw [Tp];exact pl
 have h1:∀k∈told v w n,(RF v w n (fQ n) k).length<=1000:=λk hk=>by have:=K23.nM (uC v w n) 8 (fQ n k) λq _=>l1 q;have:=Bg (n:=n) (four k hk);unfold RF;omega
 have h2:∀k∈told v w n,∀r∈RF v w n (fQ n) k,r.length<=1000:=λk _ r hr=>by obtain ⟨q,_,hr⟩:=VR.mp hr;obtain ⟨a,_,rfl⟩:=Tr.mp hr;refine T6 (UA _ _) ?_;rw [Tp];unfold jV;split <;> simp <;> omega
 obtain ⟨d,dl,h,hs⟩:=IS (ks:=told v w n) (rows:=RF v w n (fQ n)) nd (by omega) (λk _=>HU k) h1 h2;refine ⟨d,dl,?_,hs⟩;refine bX (bB (pq (e:=aM) (f:=λ_=>.bl true) (ks:=told v w n) eY nd ?_ (by omega) λk hk=>⟨dW k,rfl,_,rfl,rfl⟩) rfl (bB (Ji (e:=aM) (f:=kh (uC v w n)) (ks:=told v w n) (λk=>decide (k.length < n)) eY nd rfl (by omega) λk hk=>⟨?_,λ_=>⟨dW k,rfl,_,c4 rfl rfl rfl rfl (HH t (told v w n) k (by have:=four k hk;omega)),rfl⟩⟩) rfl (bB (pq (e:=aM) (f:=kh (RF v w n (fQ n))) (ks:=told v w n) eY nd rfl (by omega) λk hk=>⟨dW k,rfl,_,qv (xs:=fQ n k) (h:=aM) (h':=iP) (uC v w n) (λ_ _=>true) (λ_ r=>iP r) ?_ (by have:=Bg (n:=n) (four k hk);omega) λq hq=>⟨by have:=l1 q;omega,λz=>?_,λr hr=>⟨rfl,λ_=>qo rfl rfl⟩⟩,?_⟩) rfl (bC (r:=.mf ((told v w n).map aM) ((told v w n).map λk=>dV (dA (RF v w n (fQ n)) d k))) ?_ rfl rfl))))
 ·show (gN _ _ _ >>= _)=_;rw [c3 rfl rfl rfl (i7 t n hn)];rfl
 ·refine bq (n1 rfl (A8 _)) rfl ?_;show M.ok (R.d (.bl (decide (((k.map dP).length:Int) < (n:Int)))))=_;rw [Tp];congr 4;simp
 ·show (gN _ _ _ >>= _)=_;rw [c2 rfl rfl (IQ k n (four k hk))];rfl
 ·have hq':=(gR n k q).mp hq;have hm:q∈(told v w n).filter λk=>decide (k.length < n):=Uq.mpr ⟨(eF t).mpr ⟨(nN ((AZ ((eF t).mp hk).1).sublist hq'.1)).mpr (ym.sub ((nN (AZ ((eF t).mp hk).1)).mp ((eF t).mp hk).1) λx hx=>hq'.1.subset hx),by omega⟩,decide_eq_true hq'.2⟩;show (g2 fm _ _ _ >>= _)=_;rw [two rfl rfl (jx (f:=kh (uC v w n)) eY rfl (dW q) hm)];rfl
 ·show M.ok (D.lst ((fQ n k).flatMap λq=>((uC v w n q).filter λ_=>true).map iP))=M.ok (D.lst (((fQ n k).flatMap (uC v w n)).map iP));congr 2;rw [Xx];refine congrArg (λf=>(fQ n k).flatMap f) (funext λq=>?_);rw [WS.mpr λ_ _=>rfl]
 ·show (match K33.gZ [.db ((told v w n).map aM) ((told v w n).map (kh (RF v w n (fQ n)))),.fn "answered_still"] with
   | .ok r=>M.ok (jq r)
   | _=>.bad)=_
  rw [h];rfl
end
end K66
namespace K66
open PySem DL K01 WP K51 K52 K55 K22 K33 K72
open K23 (Pr aM Good told gE e_ gG gj bq eU dw f_ i7 LG prs jt anyM allM)
section
variable {v w:Wd}{n:Nat}
theorem K5 (ks:List Ps) (f:Ps->Option Nat) (n:Nat) (hn:n<=900) (hl:ks.length<=1000000):ki [.db (ks.map aM) (ks.map λk=>dV (f k)),.d (.int n)]=.ok (.l .fresh ((Tw (n + 1)).map λj=>iP (ks.filter λk=>fO (f k) j))):=by refine bX (bC (jw (xs:=Tw (n + 1)) (h:=dN) (λj=>iP (ks.filter λk=>fO (f k) j)) (iu (n:=n + 1) (b8 (two rfl rfl rfl)) (by omega)) (by simp;omega) λj _=>⟨_,kq (xs:=ks) (h:=aM) (λk=>fO (f k) j) aM rfl hl λk hk=>⟨gj ((c3 rfl rfl rfl (Nr ks f k j)).trans ?_),λ_=>⟨_,rfl,rfl⟩⟩,rfl⟩) rfl rfl);rw [decide_eq_true hk,Xj]
theorem Ba:∀(xs:List Int) (m:Int),m<=jj m xs/\(∀x∈xs,x<=jj m xs)/\(jj m xs=m\/jj m xs∈xs)
 | [],m=>⟨acw _,λ_ h=>(nomatch h),.inl rfl⟩
 | x::xs,m=>by
  obtain ⟨h1,h2,h3⟩:=Ba xs (if x > m then x else m);have e:jj m (x::xs)=jj (if x > m then x else m) xs:=rfl;rw [e];have hm:m<=(if x > m then x else m)/\x<=(if x > m then x else m):=by split <;> omega
  refine ⟨abH hm.1 h1,λy hy=>?_,?_⟩
  ·rcases TZ.mp hy with rfl | hy
   ·exact abH hm.2 h1
   ·exact h2 y hy
  ·rcases h3 with h | h
   ·rw [h];split
    ·exact .inr (by simp)
    ·exact .inl rfl
   ·exact .inr (Tq _ h)
def nI (e:Nat):Int:=e
theorem NJ (es:List Nat):∃m:Nat,pO 0 (es.map nI)=(m:Int)/\(∀e∈es,e<=m)/\(m=0\/m∈es):=by
 cases es with
 | nil=>exact ⟨0,rfl,(λ_ h=>nomatch h),.inl rfl⟩
 | cons x xs=>
  obtain ⟨h1,h2,h3⟩:=Ba (xs.map nI) (nI x);have e:pO 0 ((x::xs).map nI)=jj (nI x) (xs.map nI):=rfl;have key:∃m∈x::xs,jj (nI x) (xs.map nI)=nI m:=by
   rcases h3 with h | h
   ·exact ⟨x,by simp,h⟩
   ·obtain ⟨y,hy,q⟩:=Tr.mp h;exact ⟨y,Tq _ hy,q.symm⟩
  obtain ⟨m,hm,q⟩:=key;rw [q] at h1 h2 e;refine ⟨m,e,λy hy=>?_,.inr hm⟩;rcases TZ.mp hy with rfl | hy
  ·exact YB.mp h1
  ·exact YB.mp (h2 _ (Tr.mpr ⟨y,hy,rfl⟩))
theorem A5:∀es:List Nat,intsOf (es.map dN)=some (es.map nI)
 | []=>rfl
 | e::es=>by show (intsOf (es.map dN)).map (_::·)=_;rw [A5 es];rfl
theorem Om (t:Pr v w) (hv:v.m<=3) (hw:w.m<=3) (hn:n<=3):(told v w n).length<=820:=by
 have p9:(prs v w).length<=9:=by have h1:=UA (λp=>K23.iT v w p p) (K23.dh v.m w.m);rw [K23.zq] at h1;have h2:=Wr hv hw;unfold prs;omega
 have l9:∀j,(LG v w j).length<=9 ^ j:=by
  intro j
  induction j with
  | zero=>exact Tv _
  | succ j ih=>
   have h:=K23.nM (λah=>((prs v w).filter (K23.gb v w ah)).map λq=>ah++[q]) 9 (LG v w j) λah _=>by rw [Tp];exact T6 (UA _ _) p9
   have h2:=VV 9 ih;rw [Yw];exact T6 h h2
 have h1:=l9 1;have h2:=l9 2;have h3:=l9 3;have e:told v w 3=((told v w 0++LG v w 1)++LG v w 2)++LG v w 3:=rfl;have l3:(told v w 3).length<=820:=by rw [e,TQ,TQ,TQ];show 1 + _ + _ + _<=_;omega
 have sub:∀m k,(told v w m).length<=(told v w (m + k)).length:=by
  intro m k
  induction k with
  | zero=>exact Tv _
  | succ k ih=>exact T6 ih (by show _<=(told v w (m + k)++LG v w (m + k + 1)).length;rw [TQ];omega)
 have:=sub n (3 - n);rw [show n + (3 - n)=3 by omega] at this;omega
end
end K66
namespace K66
open PySem DL K01 WP K51 K52 K55 K22 K33 K72
open K23 (Pr aM Good told gE e_ gG gj bq eU dw f_ i7 LG prs jt allM)
section
variable {v w:Wd}{n:Nat}
theorem sP (f:Ps->Option Nat):∀ks:List Ps,(ks.filter λk=>(f k).isSome).map (λk=>dV (f k))=(ks.filterMap f).map dN
 | []=>rfl
 | k::ks=>by
  rw [YI,Xy];cases q:f k with
  | none=>exact sP f ks
  | some e=>
   simp only [aa_,if_true,TV];rw [sP f ks,q];rfl
theorem CY (t:Pr v w) (hv:v.m<=3) (hw:w.m<=3) (h1:1<=n) (h3:n<=3):∃(f:Ps->Option Nat) (mx:Nat),mx<=820/\K66.iz [.d v.d,.d w.d,.d (.int n)]=.ok (.l .fresh ((Tw (mx + 1)).map λj=>iP ((told v w n).filter λk=>fO (f k) j)))/\
  (∀j,∀k∈told v w n,fO (f k) j=LF v w n (fQ n) j k)/\∀k∈told v w n,∀e,f k=some e->e<=mx:=by
 obtain ⟨d,dl,hd,hs⟩:=CW t (show n<=4 by omega);have t9:=Om t hv hw h3;obtain ⟨f,hf⟩:∃f,f=dA (RF v w n (fQ n)) d:=⟨_,rfl⟩;obtain ⟨mx,m1,m2,m3⟩:=NJ ((told v w n).filterMap f);have mb:mx<=820:=by
  rcases m3 with rfl | hm
  ·omega
  ·obtain ⟨k,hk,q⟩:=W0.mp hm;rw [hf] at q;have:=(AU q).2.1;omega
 rw [<-hf] at hd;refine ⟨f,mx,mb,?_,λj k hk=>by rw [hf];exact D_ λj q=>M_ (λk _=>HU k) hs j k hk q,λk hk e q=>m2 e (W0.mpr ⟨k,hk,q⟩)⟩;have hc:K55.fj [.d (.int n),.d (.int 1),.d (.int 3)]=.ok (.d .non):=by
  have:n=1\/n=2\/n=3:=by omega
  rcases this with rfl | rfl | rfl <;> rfl
 refine bX (kK (c2 rfl rfl (jt t)) (kK (c3 rfl rfl (n1 rfl rfl) hc) (bB (c3 rfl rfl rfl hd) rfl (bC (c2 rfl (y:=.d (.int (mx:Int))) ?_ (K5 (told v w n) f mx (by omega) (by omega))) rfl rfl))));show (bK _ _ _ _ _ _ _ >>= _)=_;rw [kq (xs:=told v w n) (h:=λk=>dV (f k)) (λk=>(f k).isSome) (λk=>dV (f k)) rfl (by omega) λk hk=>⟨?_,λ_=>⟨_,rfl,rfl⟩⟩,aL,sP]
 ·show (match intsOf (((told v w n).filterMap f).map dN) with
   | some ns=>M.ok (R.d (.int (pO 0 ns)))
   | none=>.bad)=_
  rw [A5];show M.ok (R.d (.int (pO 0 _)))=_;rw [m1]
 ·cases q:f k <;> rfl
noncomputable def fd (o:Option Nat):Int:=match o with
 | none=>1000000
 | some e=>(e:Nat)
theorem Hl {e m:Nat}(h:e<=m):(Tw (m + 1)).filter (λj=>!decide (j < e))=e::YY (e + 1) (m - e):=by
 have e1:Tw (m + 1)=YY 0 e++YY e (m - e + 1):=by rw [aaD,show m + 1=e + (m - e + 1) by omega,<-List.range'_append_1,XD]
 rw [e1,List.filter_append,Z4.mpr ?_,WS.mpr ?_,List.nil_append,abV]
 ·intro x hx;have:=abC.mp hx;simp;omega
 ·intro x hx;have:=abC.mp hx;simp;omega
theorem IP (ks:List Ps) (f:Ps->Option Nat) (mx:Nat) (hm:mx<=820) (h0:[]∈ks) (hf:∀e,f []=some e->e<=mx):K66.iw [.bor ((Tw (mx + 1)).map λj=>iP (ks.filter λk=>fO (f k) j))]=.ok (.d (.int (fd (f [])))):=by
 have lenL:fL [.l .bor ((Tw (mx + 1)).map λj=>iP (ks.filter λk=>fO (f k) j))]=.ok (.d (.int ((mx + 1:Nat):Int))):=by show M.ok (R.d (.int (((Tw (mx + 1)).map _).length:Nat)))=_;rw [Tp,WG]
 refine bX (bB (r:=.l .fresh (((Tw (mx + 1)).filter λj=>!fO (f []) j).map dN)) (kq (xs:=Tw (mx + 1)) (h:=dN) (λj=>!fO (f []) j) dN (iu (n:=mx + 1) (b8 (n1 rfl lenL)) (by omega)) (by simp;omega) λj hj=>⟨bq (bF bw (by decide)) (two rfl rfl (eZ (by rw [Uh,Xz (TM.mp hj)];rfl))) ((K32.GH (LR (m:=.own) [] (ks.filter λk=>fO (f k) j) (.d (iP (ks.filter λk=>fO (f k) j))) rfl)).trans ?_),λ_=>⟨_,rfl,rfl⟩⟩) rfl ?_)
 ·congr 4;rw [Uw,decide_eq_true_eq,Uq];exact ⟨λh=>h.2,λh=>⟨h0,h⟩⟩
 cases q:f [] with
 | none=>
  have e:((Tw (mx + 1)).filter λj=>!fO none j)=[]:=Z4.mpr λj _=>by show ¬(!true)=true;decide
  rw [e];exact cF (qB rfl (bC rfl rfl rfl))
 | some e=>
  have e1:((Tw (mx + 1)).filter λj=>!fO (some e) j)=e::YY (e + 1) (mx - e):=Hl (hf e q);rw [e1];generalize YY (e + 1) (mx - e)=rest;exact gu (bq rfl (gQ bw (by decide)) ((lO false (.l .own ((e::rest).map dN)) (.l .fresh (([]:List Nat).map dN)) (K81.Ff _) (K81.Ff _)).trans rfl)) (bC (two rfl rfl (eZ rfl)) rfl rfl)
theorem Io {α:Type}{h:α->D}{tg:GT}{g:G Bool}(env:Option S->Ev) (p:α->Bool) (ht:∀x z,tg (h x) (env z)=.ok (env (some (.d (h x))))) (hg:∀x,g (env (some (.d (h x))))=.ok (p x)):∀(xs:List α) (z:Option S),Wp (dG tg (bQ (gF g) (bu (gC (.bl false))) c9) (xs.map h) (env z)) λo=>if xs.all p=true then ∃z',o=.nx (env z') else o=.rt (.d (.bl false)):=by
 intro xs
 induction xs with
 | nil=>exact λz=>⟨_,rfl,z,rfl⟩
 | cons x xs ih=>
  intro z;rw [TV,Wi];show Wp (tg (h x) (env z) >>= _) _;rw [ht,aL];cases q:p x with
  | true=>
   rw [pK (f_ (b:=true) ((hg x).trans (by rw [q])))];exact ih _
  | false=>
   rw [mR (f_ (b:=false) ((hg x).trans (by rw [q])))];exact ⟨_,rfl,rfl⟩
def alone (v w:Wd):Bool:=((Tw v.m).all λa=>(Tw w.m).any λb=>jY v w [(a,b)]) && (Tw w.m).all λb=>(Tw v.m).any λa=>jY v w [(a,b)]
theorem IM (t:Pn v w):K66.jL [.d v.d,.d w.d]=.ok (.d (.bl (alone v w))):=by
 have v4:=t.t.v4;have w4:=t.t.w4;refine bX (dH (iu (n:=v.m) (b8 (two rfl rfl (ji _ _))) (by omega)) ((Io (h:=dN) (λz=>[some (.d v.d),some (.d w.d),z,none]) (λa=>(Tw w.m).any λb=>jY v w [(a,b)]) (λx z=>rfl) (λa=>gj (n1 (jw (xs:=Tw w.m) (h:=dN) (λb=>.bl (jY v w [(a,b)])) (iu (b8 (two rfl rfl (ji _ _))) (by omega)) (by simp;omega) λb _=>⟨_,c3 rfl rfl (bF (aI (bF (aI rfl rfl (aI rfl rfl bw)) t2) rfl bw) (by show 1<=1000;decide)) (HG t [(a,b)]),rfl⟩) (K23.anyM _ (Tw w.m)))) (Tw v.m) none).mono λo ho=>?_));unfold alone;split at ho
 ·rename_i q1;obtain ⟨z,rfl⟩:=ho;rw [q1,Xj];refine (dH (iu (n:=w.m) (b8 (two rfl rfl (ji _ _))) (by omega)) ((Io (h:=dN) (λy=>[some (.d v.d),some (.d w.d),z,y]) (λb=>(Tw v.m).any λa=>jY v w [(a,b)]) (λx z=>rfl) (λb=>gj (n1 (jw (xs:=Tw v.m) (h:=dN) (λa=>.bl (jY v w [(a,b)])) (iu (b8 (two rfl rfl (ji _ _))) (by omega)) (by simp;omega) λa _=>⟨_,c3 rfl rfl (bF (aI (bF (aI rfl rfl (aI rfl rfl bw)) t2) rfl bw) (by show 1<=1000;decide)) (HG t [(a,b)]),rfl⟩) (K23.anyM _ (Tw v.m)))) (Tw w.m) none).mono λo ho=>?_));split at ho
  ·rename_i q2;obtain ⟨y,rfl⟩:=ho;rw [q2];exact bC rfl rfl rfl
  ·rename_i q2;rw [ho,Xf.mpr q2]
 ·rename_i q1;rw [ho,Xf.mpr q1,acB]
theorem FL (t:Pr v w):alone v w=LF v w 1 (fQ 1) 1 []:=by
 have fit:∀p:Nat×Nat,K23.lH v w p->(jY v w [p]=true↔cQ [] p∈told v w 1):=λp hp=>by
  have e:cQ [] p=[p]:=M9 (Vs _ _);rw [e,Jo t,eF t];constructor
  ·intro h;exact ⟨(nN (Vs _ _)).mpr ⟨h,λq hq=>by rw [TL.mp hq];exact hp⟩,Tv _⟩
  ·exact λh=>h.1.ag
 rw [Uw,r6 (gR 1)];unfold alone;rw [Tt,T8,T8];constructor
 ·rintro ⟨h1,h2⟩;refine ⟨rfl,λq hq hl k hk=>?_⟩;cases List.sublist_nil.mp hq;unfold picks at hk;rcases Ub.mp hk with h | h
  ·obtain ⟨a,ha,rfl⟩:=Tr.mp h;obtain ⟨b,hb,hf⟩:=UL.mp (h1 a ha);exact ⟨(a,b),Tr.mpr ⟨b,hb,rfl⟩,(fit _ ⟨TM.mp ha,TM.mp hb⟩).mp hf,rfl⟩
  ·obtain ⟨b,hb,rfl⟩:=Tr.mp h;obtain ⟨a,ha,hf⟩:=UL.mp (h2 b hb);exact ⟨(a,b),Tr.mpr ⟨a,ha,rfl⟩,(fit _ ⟨TM.mp ha,TM.mp hb⟩).mp hf,rfl⟩
 ·rintro ⟨_,h⟩;have h:=h [] (Zx _) (by decide);refine ⟨λa ha=>?_,λb hb=>?_⟩
  ·obtain ⟨p,hp,h1,_⟩:=h (0,a) (Ub.mpr (.inl (Tr.mpr ⟨a,ha,rfl⟩)));obtain ⟨b,hb,rfl⟩:=Tr.mp (show p∈(Tw w.m).map λb=>(a,b) from hp);exact UL.mpr ⟨b,hb,(fit _ ⟨TM.mp ha,TM.mp hb⟩).mpr h1⟩
  ·obtain ⟨p,hp,h1,_⟩:=h (1,b) (Ub.mpr (.inr (Tr.mpr ⟨b,hb,rfl⟩)));obtain ⟨a,ha,rfl⟩:=Tr.mp (show p∈(Tw v.m).map λa=>(a,b) from hp);exact UL.mpr ⟨a,ha,(fit _ ⟨TM.mp ha,TM.mp hb⟩).mpr h1⟩
end
end K66
namespace K66
open PySem DL K01 WP K51 K52 K55 K22 K33 K72
open K23 (Pr aM Good told)
section
variable {v w:Wd}{n:Nat}
theorem tY {o o':Option Nat}(h:∀j,fO o j=true->fO o' j=true) (ho:∀e,o=some e->e<=1000000):fd o<=fd o':=by
 cases o with
 | none=>
  cases o' with
  | none=>exact acw _
  | some e=>exact absurd (of_decide_eq_true (h e rfl)) (US _)
 | some e=>
  have he:=ho e rfl;cases o' with
  | none=>exact YB.mpr he
  | some e'=>
   refine YB.mpr (ZR λc=>?_);exact absurd (of_decide_eq_true (h e' (decide_eq_true c))) (US _)
theorem NZ (t:Pr v w) (j:Nat):fO (K32.pv v w 4 []) j=La v w j []:=by
 have g:Good v w []:=⟨WB,(λ_ h=>nomatch h),(λ_ h=>nomatch h)⟩;have hT:([]:Ps)∈T4 v w:=(nR t).mpr g;cases q:K32.pv v w 4 [] with
 | none=>
  have:=XS.mp q 4 (TM.mpr (by decide));rw [decide_eq_true hT] at this;exact (Df t g t.v4 t.w4 (by simpa using this) j).symm
 | some e=>
  obtain ⟨h1,h2,h3⟩:=VP.mp q;rw [decide_eq_true hT] at h1;show decide (j < e)=_;by_cases c:j < e
  ·have:=h3 j c;rw [decide_eq_true hT] at this;rw [decide_eq_true c];simpa using this.symm
  ·rw [decide_eq_false c];refine (Xf.mpr λz=>?_).symm;have:=qi (show e<=j by omega) z;rw [show La v w e []=true from this] at h1;cases h1
end
end K66
namespace K66
open PySem DL K01 WP K51 K52 K55 K22 K33 K72
open K23 (Pr aM Good told gG gj bq eU dw f_ jP)
section
variable {v w:Wd}{n:Nat}
theorem By (t:Pr v w) (hv:v.m<=3) (hw:w.m<=3) (h1:1<=n) (h3:n<=3):∃o:Option Nat,(∀e,o=some e->e<=820)/\(∀j,fO o j=LF v w n (fQ n) j [])/\∀(env:Ev) (g:G R),af 1 env=.ok (.d v.d)->af 2 env=.ok (.d w.d)->g env=.ok (.d (.int n))->
  gN (aQ 1 K66.iw) (ao (gN (aQ 3 K66.iz) (ao (af 1) (ao (af 2) (ao g aF)))) aF) env=.ok (.d (.int (fd o))):=by obtain ⟨f,mx,m8,hr,hi,hm⟩:=CY t hv hw h1 h3;have h0:([]:Ps)∈told v w n:=(eF t).mpr ⟨⟨WB,(λ_ h=>nomatch h),(λ_ h=>nomatch h)⟩,Uc _⟩;refine ⟨f [],λe q=>T6 (hm [] h0 e q) m8,λj=>hi j [] h0,λenv g e1 e2 e3=>?_⟩;exact c1 (z:=.d (.int (fd (f [])))) (c3 e1 e2 e3 hr) (IP (told v w n) f mx m8 h0 λe q=>hm [] h0 e q)
end
section
variable {v w:Wd}
theorem qx (i:Int):cT true (.d (.int i)) (.d (.int i))=.ok (.d (.bl false)):=by rw [lO true (.d (.int i)) (.d (.int i)) (by show (0:Nat)<=60;decide) (by show (0:Nat)<=60;decide),show aZ (R.dat (.d (.int i))) (R.dat (.d (.int i)))=true from fk _];rfl
theorem Mq (t:Pr v w){o:Option Nat}(h:∀j,fO o j=LF v w 1 (fQ 1) j []):fd o=if alone v w then 1000000 else 1:=by
 have a:=FL t;cases q:alone v w with
 | true=>
  rw [q] at a;cases o with
  | none=>rfl
  | some e=>
   have:=h e;rw [yo t (gR 1) a.symm e []] at this;exact absurd (of_decide_eq_true this) (US _)
 | false=>
  rw [q] at a;have h1:=(h 1).trans a.symm;have h0:fO o 0=true:=h 0;cases o with
  | none=>cases h1
  | some e=>
   have l1:=of_decide_eq_false h1;have l0:=of_decide_eq_true h0;have:e=1:=by omega
   subst this;rfl
theorem y9 (t:Pr v w){n:Nat}{o o':Option Nat}(h:∀j,fO o j=La v w j []) (h':∀j,fO o' j=LF v w n (fQ n) j []) (hle:fd o<=n) (hn:n<=3) (he:fd o<=fd o'):fd o'=fd o:=by
 cases o with
 | none=>exact absurd (show (1000000:Int)<=n from hle) (by omega)
 | some e=>
  have e3:e<=n:=YB.mp hle;have hf:LF v w n (fQ n) e []=false:=Xf.mpr λz=>by have:=BC t (gR n) e [] (by simpa using e3) z;rw [<-h e] at this;exact absurd (of_decide_eq_true this) (US _)
  rw [<-h' e] at hf;cases o' with
  | none=>cases hf
  | some e'=>
   have l1:=of_decide_eq_false hf;have l2:e<=e':=YB.mp he;have:e'=e:=by omega
   rw [this]
end
theorem kN {tg:GT}{u:G O}{d:D}{ds:List D}{env e:Ev}{Q:O->Prop}(h:tg d env=.ok e) (k:Wp (u e) λo=>∃e',o=.nx e'/\Wp (dG tg u ds e') Q):Wp (dG tg u (d::ds) env) Q:=by obtain ⟨_,h1,e',rfl,h2⟩:=k;unfold dG;rw [h,aL,h1,aL];exact h2
theorem nv {g:G R}{env:Ev}{b:Bool}(h:g env=.ok (jq (.d (.bl b)))):t8 g env=.ok (.d (.bl (!b))):=by unfold t8;rw [h];rfl
theorem NS {g h:G R}{env:Ev}{r:R}(h1:g env=.ok (.d (.bl false))) (h2:h env=.ok r):j3 g h env=.ok r:=by unfold j3;rw [h1,aL];exact h2
theorem Mz {g h:G R}{env:Ev}(h1:g env=.ok (.d (.bl true))):j3 g h env=.ok (.d (.bl true)):=by unfold j3;rw [h1];rfl
theorem Cs {x y:Int}(h:y<=x):iB (λi j=>.bl (decide (i < j))) (.d (.int x)) (.d (.int y))=.ok (.d (.bl false)):=by show M.ok (R.d (.bl (decide (x < y))))=_;rw [decide_eq_false (by omega)]
theorem Cd {x y:Int}(h:x<=y):iB (λi j=>.bl (decide (j < i))) (.d (.int x)) (.d (.int y))=.ok (.d (.bl false)):=by show M.ok (R.d (.bl (decide (y < x))))=_;rw [decide_eq_false (by omega)]
theorem zo {env:Ev}{g h:G R}{b:G Bool}{a n:Int}(h1:g env=.ok (.d (.int a))) (h2:h env=.ok (.d (.int n))) (k:a<=n->b env=.ok false):jZ (bG (g2 (iB λi j=>.bl (decide (i<=j))) g h)) b env=.ok false:=by
 by_cases c:a<=n
 ·refine dw (bq h1 h2 ?_) (k c);show M.ok (R.d (.bl (decide (a<=n))))=_;rw [decide_eq_true c]
 ·refine eU (bq h1 h2 ?_);show M.ok (R.d (.bl (decide (a<=n))))=_;rw [decide_eq_false c]
abbrev eM (ns:List Int) (v w:Wd) (xs:List Int) (a b:Option S):Ev:=[some (.bor (ns.map D.int)),some (.d v.d),some (.d w.d),some (.own (xs.map .int)),a,b]
theorem N7 {ns:List Int}{v w:Wd}{xs:List Int}{z:Option S}{o:Option Nat}{u:G O}{Q:O->Prop}(k:∀a:Int,a=fd o->Wp (u (eM ns v w xs z (some (.d (.int a))))) Q):
  Wp (aK (bQ (bG (g2 (kW false) (af 5) (gC .non))) (bh 5 (g2 jy (gC (.int 10)) (gC (.int 6)))) c9) u (eM ns v w xs z (some (.d (dV o))))) Q:=by
 cases o with
 | none=>exact cF (qB rfl (gJ rfl rfl (k 1000000 rfl)))
 | some e=>exact gu rfl (k e rfl)
theorem JK (ns:List Int) (h:ns.length<=63):uQ [.bor (ns.map .int)]=.ok (.d (.bl true)):=by
 obtain ⟨v,w,hw,t,SJ,SN⟩:=K9 (ns.getD 0 0) [1,2,3,3,2,3] (by decide) (by decide) (.bor (([1,2,3,3,2,3]:List Nat).map dN)) (.inr rfl);have tt:=t.t;have hv:v.m<=3:=by simp at SJ;omega
 have R3:w.m<=3:=by simp at SN;omega
 obtain ⟨o1,b1,i1,f1⟩:=By (n:=1) tt hv R3 (by decide) (by decide);obtain ⟨o2,b2,i2,f2⟩:=By (n:=2) tt hv R3 (by decide) (by decide);obtain ⟨o3,b3,i3,f3⟩:=By (n:=3) tt hv R3 (by decide) (by decide);obtain ⟨o,ho⟩:∃o,o=K32.pv v w 4 []:=⟨_,rfl⟩;have io:∀j,fO o j=La v w j []:=λj=>by rw [ho];exact NZ tt j
 have bo:∀e,o=some e->e<=1000000:=λe q=>by have:=(VP.mp (ho.symm.trans q)).2.1;have:=TM.mp this;omega
 have pd:=K32.FD tt 4 tt.v4 tt.w4 .non [] jP (by decide);rw [<-ho] at pd;have al:=IM t;have x1e:=Mq tt i1;have a1:fd o<=fd o1:=tY (λj q=>by rw [i1];rw [io] at q;exact sZ tt (gR 1) j [] q) bo;have a2:fd o<=fd o2:=tY (λj q=>by rw [i2];rw [io] at q;exact sZ tt (gR 2) j [] q) bo;have a3:fd o<=fd o3:=tY (λj q=>by rw [i3];rw [io] at q;exact sZ tt (gR 3) j [] q) bo;have l21:fd o2<=fd o1:=tY (λj q=>by rw [i1];rw [i2] at q;exact qf tt (by decide) (gR 1) (gR 2) j [] q) λe q=>by have:=b2 e q;omega
 have l32:fd o3<=fd o2:=tY (λj q=>by rw [i2];rw [i3] at q;exact qf tt (by decide) (gR 2) (gR 3) j [] q) λe q=>by have:=b3 e q;omega
 have e1:fd o<=1->fd o1=fd o:=λq=>y9 tt io i1 q (by decide) a1;have e2:fd o<=2->fd o2=fd o:=λq=>y9 tt io i2 q (by decide) a2;have e3:fd o<=3->fd o3=fd o:=λq=>y9 tt io i3 q (by decide) a3;refine bX (CI (c2 (c2 rfl rfl (Fz ns 0)) (gQ rfl (by show 6<=1000;decide)) hw) rfl rfl (bB (gQ rfl (by show 1<=1000;decide)) rfl (dH (ds:=[dN 1,dN 2,dN 3]) rfl ?_)));refine kN rfl (iG rfl (f1 _ _ rfl rfl rfl) rfl (by decide) ⟨_,rfl,kN rfl (iG rfl (f2 _ _ rfl rfl rfl) rfl (by show 2<=1000;decide) ⟨_,rfl,kN rfl (iG rfl (f3 _ _ rfl rfl rfl) rfl (by show 3<=1000;decide) ⟨_,rfl,Wp.of rfl ?_⟩)⟩)⟩);refine bB (c2 rfl rfl pd) rfl ?_;refine N7 (o:=o) (ns:=ns) (v:=v) (w:=w) (xs:=[0,fd o1,fd o2,fd o3]) (z:=some (.d (dN 3))) λa ha=>?_;rw [<-ha] at a1 a2 a3 e1 e2 e3;generalize fd o1=x1 at *;generalize fd o2=x2 at *;generalize fd o3=x3 at *;refine gu (bq (b:=false) (two rfl rfl (eZ (k:=1) rfl)) (two (y:=.d (.int (if alone v w then 0 else 1))) (z:=.d (.int x1)) (gQ (aI rfl rfl (aI rfl rfl bw)) (by show 2<=1000;decide)) (n1 (nv (c2 rfl rfl al)) ?_) ?_) (qx x1)) ?_
 ·cases alone v w <;> rfl
 ·rw [x1e];cases alone v w <;> rfl
 refine dH (ds:=[dN 1,dN 2,dN 3]) rfl (kN rfl (gu (zE (bq (two rfl rfl (eZ (k:=1) rfl)) rfl (Cs a1)) (eU rfl)) (pN (zo rfl rfl λq=>bq (two rfl rfl (eZ (k:=1) rfl)) rfl (by rw [e1 q];exact qx a)) (fP ⟨_,rfl,?_⟩))));refine kN rfl (gu (zE (bq (two rfl rfl (eZ (k:=2) rfl)) rfl (Cs a2)) (dw rfl (bq (two rfl rfl (eZ (k:=2) rfl)) (two rfl rfl (eZ (k:=1) rfl)) (Cd l21)))) (pN (zo rfl rfl λq=>bq (two rfl rfl (eZ (k:=2) rfl)) rfl (by rw [e2 q];exact qx a)) (fP ⟨_,rfl,?_⟩)));refine kN rfl (gu (zE (bq (two rfl rfl (eZ (k:=3) rfl)) rfl (Cs a3)) (dw rfl (bq (two rfl rfl (eZ (k:=3) rfl)) (two rfl rfl (eZ (k:=2) rfl)) (Cd l32)))) (pN (zo rfl rfl λq=>bq (two rfl rfl (eZ (k:=3) rfl)) rfl (by rw [e3 q];exact qx a)) (fP ⟨_,rfl,Wp.of rfl ?_⟩)));refine bC (r:=.d (.bl true)) ?_ rfl rfl;by_cases c:a<=3
 ·refine NS (two rfl rfl (Cd c)) (two rfl rfl ?_);rw [lO false (.d (.int x3)) (.d (.int a)) (by show (0:Nat)<=60;decide) (by show (0:Nat)<=60;decide),e3 c,show aZ (R.dat (.d (.int a))) (R.dat (.d (.int a)))=true from fk _];rfl
 ·refine Mz (two rfl rfl ?_);show M.ok (R.d (.bl (decide (3 < a))))=_;rw [decide_eq_true (by omega)]
end K66
namespace K66
open PySem PySem.Spec PyProof.Rows L2 DL DX
theorem all_mk {l:aab}{w:Uk}{K:Tg}{h:Vd}{mg:Str->Option Ti}{fa:T3}(X:K.In h) (G:h.Ns Ug mg) (RE:mg "law"=some (.ref fa))
  {f22 f38:T3}{o22 n22 o38 n38:Option T3}{s22 s38:Array (Option Ti)}{u22 v22 d22 p22 q22 r22 u38 v38 d38 p38 q38 r38:Ti}
  {T22:T3}{oT22:Ti}{dT22:Option T3}{nT22:Nat}{sT22:Array (Option Ti)}
  {f1c:T3}{od1c:Option T3}{sl1c:Array (Option Ti)}{n1c:Nat}{t2:Tok}{t3:Tok}{t4:Tok}
  {t5:Tok}
  (e0:FA K "is_whole" w5)
  (e1:FA K "tongue_of" uI)
  (e2:FA K "need_tongue" p5)
  (e3:FA K "need_few_points" ly)
  (e4:FA K "need_small" rX)
  (e5:FA K "need_count" rW)
  (e6:FA K "rising" Br)
  (e7:FA K "view" IG)
  (e8:FA K "views" Fe)
  (e9:FA K "agree" E7)
  (e10:FA K "goes_behind" pY)
  (e11:FA K "pairings" xm)
  (e12:FA K "added" E6)
  (e13:FA K "pairs_with" rY)
  (e14:FA K "picks_of" xo)
  (e15:FA K "outcomes" xj)
  (e16:FA K "answered_still" lW)
  (e17:FA K "peeled" Bq)
  (e18:FA K "pairings_with" ni)
  (e19:FA K "parting_depths" l6)
  (e20:FA K "in_layer" wZ)
  (e21:FA K "layers_of" uF)
  (a22:Ur K Ug "parted"=some (some (.ref f22)))
  (l22:K.lookup f22=some ⟨u22,o22,.func (UE "parted" "parted" (cP iX) (bU iX) (aY iX) (.ref T22) v22 d22 p22 n22 q22 r22),s22⟩)
  (c22:Wn K q22 "parted"=true)
  (k22:U5 K (.ref f22)=true)
  (lT22:K.lookup T22=some ⟨oT22,dT22,.seq #[.none] nT22,sT22⟩)
  (e23:FA K "parts_below" p_)
  (e24:FA K "few_depths" rT)
  (e25:FA K "few_rounds" rV)
  (e26:FA K "_law_cell_at" oM)
  (e27:FA K "_law_more" uD)
  (e28:FA K "_law_freed" rQ)
  (e29:FA K "_law_names" rR)
  (e30:FA K "_law_world" rS)
  (e31:FA K "_law_flipped" oN)
  (e32:FA K "_law_turned" pX)
  (e33:FA K "_law_two" wY)
  (e34:FA K "_law_at" zP)
  (e35:FA K "_law_fit" wX)
  (e36:FA K "_law_alone" rO)
  (e37:FA K "_law_first" rP)
  (a38:Ur K Ug "law"=some (some (.ref f38)))
  (l38:K.lookup f38=some ⟨u38,o38,.func (UE "law" "law" (cP n6) (bU n6) (aY n6) .none v38 d38 p38 n38 q38 r38),s38⟩)
  (c38:Wn K q38 "law"=true)
  (k38:U5 K (.ref f38)=true)
  (z0:Ur K Ug "abs"=some none)
  (z1:Ur K Ug "all"=some none)
  (z2:Ur K Ug "any"=some none)
  (z3:Ur K Ug "bool"=some none)
  (z4:Ur K Ug "int"=some none)
  (z5:Ur K Ug "isinstance"=some none)
  (z6:Ur K Ug "len"=some none)
  (z7:Ur K Ug "list"=some none)
  (z8:Ur K Ug "max"=some none)
  (z9:Ur K Ug "range"=some none)
  (z10:Ur K Ug "set"=some none)
  (z11:Ur K Ug "sorted"=some none)
  (z12:Ur K Ug "tuple"=some none)
  (gFEW_LETTERS:Ur K Ug "FEW_LETTERS"=some (some (.ref f1c)))
  (lc1:K.lookup f1c=some ⟨.type "tuple",od1c,.seq #[(.str "x" t2),(.str "y" t3),(.str "z" t4)] n1c,sl1c⟩)
  (gMOST_SMALL:Ur K Ug "MOST_SMALL"=some (some (.int 4 t5))):
  ∃fd:Ud,(∀(s:Tj) (v:Ti),ab4 s fd ⟨[v],[]⟩ [("_law_script",v)])/\∀base:Vd,K.In base->base.Ns Ug mg->fF l.prog w K mg base oh 8 fa fd ["_law_script"] (p7 K 1 K66.uQ):=by
 have e:=RE.symm.trans (Xk X G a38);cases e;obtain ⟨f16,d16,a16,F16⟩:=id e16;have F22:=Jt (st:=iX) l22 c22 k22 lT22;have F38:=D3 (st:=n6) l38 c38 k38;have m:cW w K mg:=⟨UC X G z0,
   UC X G z1,
   UC X G z2,
   UC X G z3,
   UC X G z4,
   UC X G z5,
   UC X G z6,
   UC X G z7,
   UC X G z8,
   UC X G z9,
   UC X G z10,
   UC X G z11,
   UC X G z12,
   ⟨_,(.ref f1c),Xk X G gFEW_LETTERS,rfl,λ_=>(.tup (vs:=[(L2.V.str "x"),(L2.V.str "y"),(L2.V.str "z")]) (.inr ⟨_,_,n1c,lc1,rfl,rfl,(by show 3<=sizeLine;decide),.cons ⟨_,rfl⟩ (.cons ⟨_,rfl⟩ (.cons ⟨_,rfl⟩ (.nil)))⟩) (.cons (.str _) (.cons (.str _) (.cons (.str _) (.nil)))))⟩,
   ⟨_,(.int 4),Xk X G gMOST_SMALL,⟨_,rfl⟩,λ_=>(.int _)⟩,
   ⟨_,a16,Xk X G a16⟩⟩
 refine ⟨UE "law" "law" (cP n6) (bU n6) (aY n6) .none v38 d38 p38 n38 q38 r38,λs v=>.of_eq rfl,λbase _ _=>?_⟩;have C0:=Al (P:=l.prog) (base:=base) m (bS X G e0);have C1:=yN (P:=l.prog) (base:=base) m (bS X G e1);have C2:=uZ (P:=l.prog) (base:=base) m C1 (bS X G e2);have C3:=pe (P:=l.prog) (base:=base) m (bS X G e3);have C4:=xM (P:=l.prog) (base:=base) m C2 C3 (bS X G e4);have C5:=xK (P:=l.prog) (base:=base) m C0 (bS X G e5);have C6:=DN (P:=l.prog) (base:=base) m (bS X G e6);have C7:=Jc (P:=l.prog) (base:=base) m (bS X G e7);have C8:=FU (P:=l.prog) (base:=base) m C7 (bS X G e8);have C9:=FQ (P:=l.prog) (base:=base) m (bS X G e9);have C10:=uY (P:=l.prog) (base:=base) m C9 (bS X G e10);have C11:=Ao (P:=l.prog) (base:=base) m C4 C5 C8 C9 C10 (bS X G e11);have C12:=FP (P:=l.prog) (base:=base) m C6 (bS X G e12);have C13:=xN (P:=l.prog) (base:=base) m (bS X G e13);have C14:=Aq (P:=l.prog) (base:=base) m (bS X G e14);have C15:=An (P:=l.prog) (base:=base) m C13 C12 C14 (bS X G e15);have C16:=qK (P:=l.prog) (base:=base) m (bS X G e16);have C17:=DM (P:=l.prog) (base:=base) m C16 (bS X G e17);have C18:=su (P:=l.prog) (base:=base) m C11 (bS X G e18);have C19:=qL (P:=l.prog) (base:=base) m C18 C15 C17 (bS X G e19);have C20:=Ak (P:=l.prog) (base:=base) m (bS X G e20);have C21:=yM (P:=l.prog) (base:=base) m C20 (bS X G e21);have O_parted:=D0 (P:=l.prog) (w:=w) (base:=base) m C4 C6 C19 F22;have C22:=DK O_parted F22 (Xk X G a22);have D_parted:=BZ O_parted F22 (Xk X G a22);have C23:=u5 (P:=l.prog) (base:=base) m (bS X G e23);have C24:=xF (P:=l.prog) (base:=base) m C11 C15 C23 C17 (bS X G e24);have C25:=xG (P:=l.prog) (base:=base) m C4 C5 C24 C21 (bS X G e25);have C26:=tL (P:=l.prog) (base:=base) m (bS X G e26);have C27:=yG (P:=l.prog) (base:=base) m (bS X G e27);have C28:=xC (P:=l.prog) (base:=base) m (bS X G e28);have C29:=xD (P:=l.prog) (base:=base) m C28 (bS X G e29);have C30:=xE (P:=l.prog) (base:=base) m (bS X G e30);have C31:=tM (P:=l.prog) (base:=base) m (bS X G e31);have C32:=uX (P:=l.prog) (base:=base) m (bS X G e32);have C33:=Aj (P:=l.prog) (base:=base) m C27 C29 C30 C32 C31 (bS X G e33);have C34:=BY (P:=l.prog) (base:=base) m (bS X G e34);have C35:=Ai (P:=l.prog) (base:=base) m C34 (bS X G e35);have C36:=xA (P:=l.prog) (base:=base) m C35 (bS X G e36);have C37:=xB (P:=l.prog) (base:=base) m (bS X G e37);exact NQ m C26 C33 C25 C37 C22 C36 D_parted F38
theorem KP (K:Tg) (H:Hp) (a:T3) (ns:List Int) (hl:ns.length<=63) (hO:BF H) (hS:bY K H a (ns.map V.int)):p7 K 1 K66.uQ [.ref a] H (λv _=>v=.bl true) λ_ _ _=>False:=by
 refine ⟨λ_=>none,[.bor (ns.map D.int)],λ_ _ z=>(by cases z),rfl,⟨_,[],rfl,⟨a,_,rfl,hS,?_⟩,rfl⟩,?_⟩
 ·exact K01.wR ns
 ·rw [JK ns hl];intro v J H2 _ r;cases r;rfl
theorem walk {l:aab}{q:TU}{loose:List Str}{XP:(Str->Option Ti)->Vd->Prop}{YP:Uk->Vd->Prop}{d:DefRec}{K:aeb->Tg}(hn:l.most=some 63) (hdf:d.params.defaults=[])
  (hY:∀(w:Uk) (h:Vd),YP w h->(K w.params).In h)
  (F:∀(w:Uk) (mg:Str->Option Ti) (fa:T3) (h:Vd),(K w.params).In h->h.Ns Ug mg->mg d.name=some (.ref fa)->
   ∃fd:Ud,(∀(s:Tj) (u:Ti),ab4 s fd ⟨[u],[]⟩ [("_law_script",u)])/\∀base:Vd,(K w.params).In base->base.Ns Ug mg->fF l.prog w (K w.params) mg base oh 8 fa fd ["_law_script"] (p7 (K w.params) 1 K66.uQ)):
  adh q loose XP YP l.row.toRowW d [] (λf vs=>acW f vs):=
 L2.K1 (n:=63) (k:=8) (x:="_law_script") (CX:=λ_=>oh) (sp:=λw=>p7 (K w.params) 1 K66.uQ) hn (by decide) hdf ⟨rfl,by decide,by decide⟩ hY F (λw H a ns hl hO hS=>KP _ H a ns hl hO hS) λ_ _ _ _ _ z=>z
end K66
open PySem PySem.W PyProof.Rows
set_option maxRecDepth 100000 in
set_option maxHeartbeats 0 in
theorem PySem.Challenge.cw_pickalike_k66_more_letters_part_no_later_holds : PySem.Challenge.rw_pickalike_k66_more_letters_part_no_later.Holds := by
 refine holds_law K66.look λsaid=>?_;refine holds_open (q:=K66.VW) (XP:=XL K66.VW []) (YP:=Hook.says K66.HK) K66.left (Hook.of K66.HK) (Hook.keeps K66.HK) (λs e=>xl_of s (aaG.mp e).1) XL.keeps (by rfl) (by rfl) (by rfl) (λs e=>recFacts_of (aaG.mp e).2) (by rfl) said (by decide +kernel) ⟨rfl,rfl,rfl,rfl,rfl,by decide +kernel⟩ ?hw ?hc
 (case hw=>w_witness2)
 delta K66.HK
 k_fill
 refine K66.walk (l:=Us) rfl rfl (K:=K66.KF) (λw h Y=>PySem.W.kIn_of Y) ?F
 case F=>
  intro w mg fa h KX G hmg;refine' K66.all_mk KX G hmg ..
  all_goals try first | k_is | (refine' DL.NC ?a ?l ?c ?k;case a | l | c | k=>k_is)
