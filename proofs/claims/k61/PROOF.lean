import PyProof.Rows.All
import Wide.All
import OpenK.AllK
import Wide.FinOn
import Lean
import PyProof.EqAt
import PyProof.EqKinds
import PyProof.TupleCall
import KE.KIsAll
import PyProof.ExcAttrAll.ValueError
import PyProof.NeKinds
import PyProof.InstStoreFacts
import KE.KUnpackStar
import KE.KSortTup
import PyProof.TupleOfSeq
import PyProof.Rows.SortWalk
import PyProof.EnumFor
import PyProof.EnumStmt
import PyProof.ListRange
import PyProof.TupleKey
import PyProof.SetKind
import PyProof.Rows.SetFrom
import PyProof.SetRoads
import PyProof.CollectWalk
import PyProof.WalksMore
import PyProof.DictKinds
import PyProof.DictCompW
import PyProof.DictRoadsH
import PyProof.DictWalks
import PyProof.StrBlock
import PyProof.StrBlockI
import PyProof.StrLawsIdx
import KE.KSortKey
import PySem.Challenge.RW_pickalike_k61_rounds_of_few
noncomputable section
open And renaming intro->aaM
open Array renaming length_toList->Ux,getElem?_toList->Vv,getElem?_eq_some_iff->VC,getD->V8,getElem?_eq_getElem->Wg,forIn_toList->Yv,mem_toList_iff->Zh,getD_eq_getD_getElem?->Zu,getElem?_eq_none->aaq,toList->aau,size_append->abQ,toList_push->abY
open Array.Perm renaming mem_iff->Xw,refl->aeV
open Bool renaming and_eq_true->Ub,false_eq_true->Um,false_ne_true->UH,eq_iff_iff->U_,not_true->Ww,and_eq_true_iff->W5,or_eq_true->W_,true_and->Xn,and_false->Xu,eq_false_iff->ZU,not_false->aa8,false_and->acZ,or_false->adD,and_self->adG,false_or->adK
open Classical renaming byContradiction->W3,propDecidable->adQ
open False renaming elim->XJ
open ForInStep renaming yield->WI
open Int renaming toNat_natCast->Vo,emod_lt_of_pos->Yt,emod_nonneg->Yx,fdiv_eq_ediv_of_nonneg->ZG,ediv_nonneg->aaT,le_trans->ab7,ofNat_le->ad3,le_refl->aet
open List renaming length_map->T8,mem_cons_of_mem->Ua,mem_cons_self->Uc,range->Ue,size_toArray->Ug,mem_map->Ui,getElem?_eq_getElem->Uk,mem_singleton->Ul,length_append->Uo,map_cons->Ur,map_append->Us,mem_cons->Uw,getElem?_eq_some_iff->Uy,all_eq_true->Uz,mem_append->UI,getElem?_map->UK,map_map->UM,getElem?_set_ne->UP,mem_range->UQ,length_filter_le->UR,mem_filter->UT,mem_of_getElem?->UX,length_cons->U4,getElem_map->U5,getElem?_set_self->U8,mem_append_right->U9,length_take->Vf,getElem_mem->Vm,any_eq_true->Vn,pairwise_iff_getElem->Vq,getElem?_append_right->VA,getD_eq_getElem?_getD->VB,mem_iff_getElem->VD,pairwise_append->VE,replicate->VL,lookup_cons->VO,not_mem_nil->VP,take_length->VQ,length->VT,eq_nil_or_concat->VV,concat_eq_append->VX,pairwise_singleton->V0,map_congr_left->Wa,getElem?_append_left->Wc,all_cons->We,drop_eq_getElem_cons->Wf,length_replicate->Wi,length_drop->Wn,mem_flatMap->Wo,nodup_nil->Wz,take_succ->WA,length_range->WC,append_assoc->WD,append_nil->WG,nodup_cons->WH,idxOf_lt_length_of_mem->WK,range_succ->WL,mem_filterMap->WS,pairwise_cons->WV,getElem?_zip_eq_some->W4,pairwise_map->Xc,filter_eq_self->Xm,length_eq_zero_iff->Xo,nodup_range->Xq,map_flatMap->Xr,nodup_append->XR,mem_append_left->XW,getLast?_concat->XX,filter_cons->Yb,filterMap_cons->Yc,getElem?_range->Yd,getElem?_replicate->Yj,zip_cons_cons->Yo,filter_cons_of_pos->Yr,filter_cons_of_neg->Ys,range_succ_eq_map->YB,drop_eq_nil_of_le->YC,take_sublist->YF,eraseIdx_eq_take_drop_succ->YQ,filter_congr->YS,length_singleton->YZ,all_map->Y0,getElem_inj->Y9,eq_nil_of_length_eq_zero->Za,ext_getElem->Zd,flatMap_def->Zf,any_cons->Zi,map_take->Zk,getD->Zz,length_nil->ZA,flatMap_append->ZC,length_zip->ZD,getElem_idxOf->ZK,filter_append->ZN,getLast?_eq_none_iff->ZO,getElem_append_left->ZY,map_drop->Z9,take_of_length_le->aao,flatMap_singleton->aar,of_mem_zip->aaw,map_nil->aay,foldl_cons->aaB,any_map->aaH,take_append_drop->aaI,mem_iff_getElem?->aaJ,pairwise_flatMap->aaN,filter_map->aaO,set_getElem_self->aaU,length_eraseIdx->aa4,drop_zero->aa7,replicate_succ->abh,getD_cons_zero->abj,filter_flatMap->abl,filterMap_map->abu,contains_cons->aby,find?_eq_none->abD,filter_filter->abG,eraseIdx_nil->abT,getElem_drop->abW,idxOf_append->abX,le_antisymm->ack,perm_middle->acn,filterMap->ada,set_set->ad4,lookup->ael,map->aeE,foldl->aeM
open List.Nodup renaming length_le_of_subset->VG
open List.Pairwise renaming nil->YJ,and_mem->Y5,imp->ab1,of_map->ad9,and->aeN,map->aeP
open List.Perm renaming append_left->ad2,of_eq->aeX
open List.cons renaming inj->adL,injEq->aeY
open Nat renaming le_refl->Ud,le_trans->UC,zero_le->UD,ne_of_lt->UE,lt_of_lt_of_le->UG,pow_le_pow_right->U3,not_lt_zero->Vw,mul_le_mul_right->V1,lt_succ_self->V4,lt_succ_of_lt->V6,lt_irrefl->Wb,mul_le_mul->W0,le_of_succ_le->Xb,ne_of_gt->Xf,lt_trans->Xh,lt_trichotomy->XQ,le_add_right->X8,lt_of_le_of_lt->Yq,le_succ->YI,le_of_lt_succ->YN,pow_succ->Y3,zero_add->Y4,le_of_lt->ZI,div_div_eq_div_mul->aan,mod_lt->aaY,lt_or_eq_of_le->abC,le_of_eq->ab5,succ_mul->ab6,mul_comm->ab8,succ_pos->ab9,add_mul->acT,add_assoc->adM,mul_assoc->adU,mul_one->aes,mul_two->aev
open Ne renaming symm->VS
open Option renaming isSome_iff_exists->Vu,bind_some->aaf,isSome_some->abB,getD_none->aci,map_some->acB,none->aek
open Option.some renaming inj->Vl,injEq->V7
open Or renaming inr->WW,inl->Yh
open Prod renaming fst->Va
open PyProof.Rows renaming slot_tuple_getitem->Vh,seqObj->VF,listUpdate_at->Xl,IntsAre->XD,get?_update_seq->Yn,subscriptTail_builtinR->YA,callWith_type1->Zp,seqEpoch_at->Zt,envOfC->ZS,callWith_kw->ZX,AllBare->aas,kws_cons->aaC,listItems_at->aaD,entry_list_sort->aaG,kws_nil->aa2,slot_list_sort->aba,entry_tuple_getitem->abf,args_tuple_getitem->abv,callWith_builtin1->ab4,list_sort_plain->acH,slicePart_none->ac1,args_list_sort->ac6,sortedHeap->ads,boot_sorted->adw,tupleItemsOf_->adA,subscriptTail->adC,sortedHeap_at->adJ,IsTup->adV,boot_max->ad0,lt_int->aen,lt_str->aeo,le_int->aer,keyKind'->aeC,failedOf->aeD
open PyProof.Rows.F renaming plain_set_update_loop->VN,entry_set_update_loop->X3
open PyProof.Rows.IsTup renaming new->adX
open PySem renaming wpAny_bind->T4,wpAny_pure->T6,Value->T7,Shared->T_,starEach->Uj,wpAny->Uu,Program->Uv,Addr->UA,model->UB,wpAny_newObj_type->UJ,mainGlobals->UL,wpAny_holding->UN,FuncData->UO,World->US,Expr->UU,Around->UW,wpAny_mono->UZ,wpAny_call_entry->U0,sizeLine_eq->U7,cellsFrom->Vb,bootBuiltins->Vd,wpAny_truthy_bool->Vg,wpAny_callSpecial?_slot->Vk,behindInMarks->Vs,backTo->Vx,foldedSetIterable->Vy,compareOp->Vz,cLine->VI,Heap->VJ,codeAny_builtin->VM,SetTable->V5,wpAny_setState_of->V9,codeAny->Wh,wpAny_typeNameOfWhole_keyiter->Wq,wpAny_typeNameOfWhole_valiter->Wr,NameKind->Ws,attributeBase->Wt,plainId_quiet->Wu,sysModules->WB,letOwnedTupleGo->WE,wpAny_loadPart'->WJ,Stmt->WM,wpAny_forIn_list->WQ,wpAny_askSetting->WR,wpAny_Call_Name_kw->WT,wpAny_attempt->WU,assignEach->W7,wpAny_passesOwn->W8,wpAny_updateSeq->Xa,wpAny_dictEntries->Xd,codeAny_mono->Xg,wpAny_standAt->Xi,binaryOp->Xj,mem_of_lookup->Xk,wpAny_getItem_str_slice->Xp,Builtin->Xv,Scope->Xy,standAt->Xz,pyNext->XA,wpAny_dictEpoch->XI,wpAny_pyIter_list->XN,wpAny_seqItems->X0,isSubtype_type->X4,wpAny_fieldsOf->X6,firstArgMember->X7,wpAny_isInstance->X_,swapsWith->Yi,mem_of_lookup->Yp,wpAny_specialOf->Yu,codeAny_compStart_list->YD,typeIs_str->YG,sliceBounds->YH,wpAny_of_eq->YK,wpAny_pyIter_slot->YR,wpAny_tryCatch->YV,compTurn->YW,wpAny_typeOf->YY,builtinLookup_eq_fast->Y6,wpAny_isOneOf_valiter->Y8,checkBuiltinCall->Y_,codeAny_call_builtin->Zg,wpAny_newList->Zj,wpAny_rule->Zn,wpAny_execs_nil->Zo,wpAny_setEntries_of->Zv,codeAny_of_tree->Zy,post_val_or_str->ZE,pyIter->ZJ,wpAny_setField_rec->ZL,wpAny_setField->ZP,Paired->ZQ,DictEntry->ZT,searchCouldBeSeen->ZZ,swapsWithSole->Z1,wpAny_Call_method0_late->Z3,keywordEach->Z4,Keyword->Z5,wpAny_letGo->Z8,Comprehension->aaa,rawInt->aad,noFill_tuple_add->aae,richCompare_meets_room->aam,codeAny_compStart_dict->aap,wpAny_isTrue_Compare1->aat,inplaceOp->aav,concat_meets->aax,typeLookup_type->aaK,isSubtype->aaL,wpAny_notOrdered_dict->aaP,wpAny_isOneOf_keyiter->aaQ,wpAny_call->aaV,call_meets->aaW,wpAny_loadName_local->aaZ,isTrue->aa5,wpAny_newTuple->aa9,wpAny_runValue->aa_,isSubtype_stop->abb,wpAny_loadName_cell->abd,wpAny_field->abe,richCompare->abk,swappedStores->abo,seq_tuple_add->abr,IsPart->abt,seqIndex?->abw,wpAny_pyIter_tuple->abA,wpAny_handled->abE,slot_dict_contains->abF,getItem->abJ,wpAny_sequenceKey->abK,slot_list_getitem->abL,callerA->abN,ofAClassStatement->abZ,wpAny_storeSet_of->ab0,Result->ab3,argsOk->ab_,wpAny_pyHash_int->acg,wpAny_execs_cons->ach,bindArgs->acq,backToKw->acs,PassesOwn->acw,BindsTo->acy,seqItems?->acC,updateSeq->acD,Fin->acG,pushCells->acJ,pushCells_keeps->acK,pickOrder->acM,wpAny_throw->acP,noteFrame->acR,theTreesLotGoes->acS,compStart->acU,theWindowsPlace->acV,recursionLimit->ac0,boot_len->ac5,newFunctionEnv->ac_,entryFor_alias->ade,entryOfKey->adh,builtinsNs->adi,wpAny_Name->adj,wpAny_load->adk,typeIs_int->adl,call->adm,isInstance->ado,reduceHash->adp,setsByText->adu,rangeSize_one->ady,intBits_le_64->adz,evalPart_none->adB,call_list_seq->adE,setSearchFrom->adO,wpAny_notedAt->adP,atKey->adR,compTurn_list->adS,setField->adT,storeName->adW,bindL->aea,bindC->aeb,CellsOk->aep,GenState->aew,Operator->aex,Params->aeA,entryFor->aeF,newExc->aeG,newTuple->aeH,raiseNew->aeI,Model->aeJ
open PySem.Around renaming under_plainId->Ve
open PySem.AutoSeq1 renaming sub_tuple_tuple->Yg
open PySem.Bind renaming checkArgs->ac4
open PySem.Builtin.Builtins renaming bindParams->Zs
open PySem.Builtin.Dict renaming showsAll->XH,dictSlotNone->adf,noArgs->aeu
open PySem.Builtin.Dict_items renaming ownsTuple->VZ,newIterator->acf,dictOf->adg
open PySem.Builtin.Frozenset renaming sizeOf->Z0,updateFrom->acu,newClass->acX
open PySem.Builtin.List renaming listTooLong->Wm,listLengthHint->Zw,listExtendWith->Zx,listSameRef->adv
open PySem.Builtin.Range renaming rangeSize->Z2
open PySem.Builtin.Slice renaming slicePlaces->WY,sliceAdjust->XY,sliceApplied->ZH,slicePartIndex->acr,sliceFields->ac2
open PySem.Builtin.Str renaming occurrences->Z7,tooLong->abi
open PySem.Builtin.Tuple renaming tupleHashOf->Vp,tupleExact->W9,tupleItemsOf->XU,tupleCompareSizes->YL,tupleIsExact->acW
open PySem.Calls renaming Name_function_global->ZF,callWith_builtin->aak
open PySem.Challenge renaming rw_pickalike_k61_rounds_of_few->Vc,pw_pickalike_k61_rounds_of_few->VR
open PySem.CmpOp renaming NotIn->ad_,In->aeZ
open PySem.Env renaming kindOf->aeL
open PySem.Expr renaming Call->aeW
open PySem.F renaming slot_dict_valueiterator_next->VH,slot_dict_keyiterator_next->VY,plainAttrs_list->Wv,plain_max_loop->WO,slot_str_getitem->Xe,called_set->XG,slot_tuple_hash->XS,args_tuple_add_2->Ye,entry_tuple_add->Yk,args_dict_valueiterator_next_1->Yy,slot_tuple_add->Yz,plain_list_iadd->YM,entry_dict_valueiterator_next->YT,args_dict_keyiterator_next_1->Y7,entry_dict_keyiterator_next->Ze,attrBase_ValueError->Zr,slot_list_append->ZV,type_list_append->ZW,slot_dict_values_iter->aac,entry_max_loop->aag,entry_proto_collect->aaE,plain_proto_collect->aaF,slot_str_find->aaS,args_list_extend_2->aa0,entry_list_extend->abg,slot_list_extend->abx,entry_list_iadd->abV,slot_dict_iter->acp,slot_set_iter->acN,plain_set_new->acQ
open PySem.Heap renaming get?_push_of_some->T9,get?_push_size->Uh,lt_size->Uq,get?_update_self->Vi,get?_update_other->Vr,get?_update_ne->VU,SameBut->V2,size_push->W2,size_update->aah,ExtBut->acO
open PySem.Heap.IsList renaming push->acm
open PySem.Heap.IsSliceOf renaming new->aey
open PySem.Heap.SameBut renaming update->V_,refl->aeO
open PySem.IsL renaming update->aeQ
open PySem.Moved renaming trans->aeq
open PySem.NameKind renaming free->Vt,cell->Ym
open PySem.Obj renaming mapSeq->Vj,data_mapFields->Yw,mapFields->Zl,isFreed_of_fields->aaR,cls_mapFields->ab2,putSet->adt
open PySem.Paired renaming length->adx
open PySem.PassesOwn renaming leaving->abU,never->acE
open PySem.SeqAt renaming EqAt->Wl,ne_of_list_tuple->aal
open PySem.SeqAt.EqAt renaming same->aaz,int_str->abm,str_int->abn,int_int->abq,of_refs->abz,tuple_list->adY,list_tuple->adZ,none_bool->ad5,bool_none->ad6,bool_bool->ad7,none_int->aec,none_str->aed,bool_int->aee,bool_str->aef,int_none->aeg,int_bool->aeh,str_none->aei,str_bool->aej,str_str->aez
open PySem.SeqAt.RcAt renaming tuples->abP,lists->acj,lists_lengths->adq
open PySem.SeqAt.RcNeAt renaming tuples->aem,lists->aeB
open PySem.SetTable renaming sizeAbove->Xx,below->X5,insertAt->YO,advance->aai,tooFull->aco,runEnd->acL,turns->adb,fill->adN
open PySem.Shared renaming TypeIs->Z_
open PySem.Str renaming ofString->XC,length->abM
open PySem.StrLaws renaming sliceText_from->acv,sliceText_to->acY
open PySem.Txt renaming slice->Wk,slice_le->ZM
open PySem.Value renaming none->UY,bool->WN,ref->W6,type->YE,int->YX,builtin->Z6,notImplemented->aa3,str->aeT
open PySem.Value.ref renaming inj->ae0
open PySem.W renaming Frag->T5,nsIn->U1,mg_none_of->U6,fnOf->V3,kia_one->Wj,kas_desc->Wx,kas_sort->Wy,kas_place->WX,findIn->WZ,keepIn->Xs,mroIn->XM,InstAt->XZ,clsIn->Yl,codeIn->YU,kas_rev->Zb,kas_asc->Zc,mg_of->Zm,findObj->Zq,methodObj->ZR,cellsFrom_some->aaj,OpenLaw->aaA,looks_findIn->aa1,kitOne->aa6,callWith_K->abp,specialIn->abO,kitx_dict->abR,kas_descPart->acd,takesIn->acz,kitMeta->acA,kas_count->acF,notCls->ac3,WalkO->adF,kas_bin->adH,kat_cons->adI,kas_tail3->ad1
open PySem.W.Hook renaming obs->aeR,val->aeS
open PySem.W.OpenLaw renaming wellSaid->adn
open PySem.W.RowW renaming records->ad8
open PySem.W.WData renaming int->aeU
open PySem.W.WShape renaming has->aeK
open PySem.Walks renaming list->abS
open PySem.pickOrder renaming go->ace
open StateT renaming run_pure->acI
open Subtype renaming ext->aab
open Sum renaming inl->abH,inr->abI
open True renaming intro->aaX
set_option Elab.async false
set_option linter.all false
set_option autoImplicit true
set_option relaxedAutoImplicit true
set_option maxRecDepth 100000
namespace L2
open PySem PySem.Spec PyProof.Rows
abbrev Key:=Sum Int Str
noncomputable def IU:Key->T7->Bool
 | .inl k,v=>Value.isInt k v
 | .inr x,v=>Value.isStrOf x v
noncomputable def PN (w:US):Key->Int
 | .inl k=>hashInt k
 | .inr x=>hashStr w x
theorem dU:∀{k:Key}{v:T7},IU k v=true->(∃i t,k=abH i/\v=YX i t)\/(∃x t,k=abI x/\v=aeT x t)
 | .inl i,v,h=>by obtain ⟨t,e⟩:=Value.isInt_shape (k:=i) (v:=v) h;exact .inl ⟨i,t,rfl,e⟩
 | .inr x,v,h=>by obtain ⟨t,e⟩:=Value.isStrOf_shape (x:=x) (v:=v) h;exact .inr ⟨x,t,rfl,e⟩
theorem MI (a b:Int):decide ((abH a:Key)=abH b)=(a == b):=by
 by_cases e:a=b
 ·subst e;simp
 ·have h:¬(abH a:Key)=abH b:=λq=>e (Sum.inl.inj q);rw [decide_eq_false h];exact (beq_eq_false_iff_ne.mpr e).symm
theorem ML (a b:Str):decide ((abI a:Key)=abI b)=decide (a=b):=by
 by_cases e:a=b
 ·subst e;simp
 ·have h:¬(abI a:Key)=abI b:=λq=>e (Sum.inr.inj q);rw [decide_eq_false h,decide_eq_false e]
theorem MJ (a:Int) (b:Str):decide ((abH a:Key)=abI b)=false:=decide_eq_false (λq=>nomatch q)
theorem MK (a:Str) (b:Int):decide ((abI a:Key)=abH b)=false:=decide_eq_false (λq=>nomatch q)
noncomputable def vY (prog:Uv) (w:US):PySem.KeyKind prog w Key where
 is:=IU
 hash:=PN w
 inj:=λv a b ha hb=>by
  rcases dU ha with ⟨i,t,rfl,rfl⟩ | ⟨x,t,rfl,rfl⟩
  ·rcases dU hb with ⟨j,u,rfl,e⟩ | ⟨y,u,rfl,e⟩
   ·injection e with e1 _;rw [e1]
   ·exact nomatch e
  ·rcases dU hb with ⟨j,u,rfl,e⟩ | ⟨y,u,rfl,e⟩
   ·exact nomatch e
   ·injection e with e1 _;rw [e1]
 byValue:=λk v h=>by rcases dU h with ⟨i,t,rfl,rfl⟩ | ⟨x,t,rfl,rfl⟩ <;> rfl
 pyHash:=λhv h=>by
  rcases dU hv with ⟨i,t,rfl,rfl⟩ | ⟨x,t,rfl,rfl⟩
  ·exact acg h
  ·exact wpAny_pyHash_str h
 eqBool:=λhu hv h=>by
  rcases dU hu with ⟨i,t,rfl,rfl⟩ | ⟨x,t,rfl,rfl⟩
  ·rcases dU hv with ⟨j,u,rfl,rfl⟩ | ⟨y,u,rfl,rfl⟩
   ·rw [MI] at h;exact wpAny_eqBool_int h
   ·rw [MJ] at h;exact abm i t y u _ _ _ _ h
  ·rcases dU hv with ⟨j,u,rfl,rfl⟩ | ⟨y,u,rfl,rfl⟩
   ·rw [MK] at h;exact abn x t j u _ _ _ _ h
   ·rw [ML] at h;exact wpAny_eqBool_str h
 «strs»:=λk x t v h=>by
  rcases dU h with ⟨i,u,rfl,e⟩ | ⟨y,u,rfl,e⟩
  ·exact nomatch e
  ·injection e with e1 _
   subst e1;cases v <;> rfl
inductive V where
 | non | bl (b:Bool) | int (i:Int) | str (x:Str) | byt (b:Array UInt8) | flt (b:UInt64) | ref (a:UA) | ty (n:String)
 deriving DecidableEq
noncomputable def RelV:V->T7->Prop
 | .non,u=>u=UY
 | .bl b,u=>u=WN b
 | .int i,u=>∃t,u=YX i t
 | .str x,u=>∃t,u=aeT x t
 | .byt b,u=>∃t,u=Value.bytes b t
 | .flt b,u=>∃t,u=Value.float b t
 | .ref a,u=>u=W6 a
 | .ty n,u=>u=YE n
abbrev Vals:List V->List T7->Prop:=ZQ RelV
theorem Vals.length {xs:List V}{us:List T7}(r:Vals xs us):xs.length=us.length:=adx r
theorem Vals.get:∀{xs:List V}{us:List T7}{i:Nat}{x:V},Vals xs us->xs[i]?=some x->∃u,us[i]?=some u/\RelV x u
 | _,_,_,_,.nil,e=>by simp at e
 | _,_,0,_,.cons r _,e=>by simp at e;subst e;exact ⟨_,rfl,r⟩
 | _,_,i + 1,x,.cons _ t,e=>by obtain ⟨u,h1,h2⟩:=Vals.get (i:=i) (x:=x) t (by simpa using e);exact ⟨u,by simpa using h1,h2⟩
theorem Vals.set {x:V}{u:T7}(r:RelV x u):∀{xs:List V}{us:List T7}(i:Nat),Vals xs us->Vals (xs.set i x) (us.set i u)
 | _,_,_,.nil=>.nil
 | _,_,0,.cons _ t=>.cons r t
 | _,_,i + 1,.cons q t=>.cons q (Vals.set r i t)
theorem Vals.append:∀{xs ys:List V}{us ws:List T7},Vals xs us->Vals ys ws->Vals (xs++ys) (us++ws)
 | _,_,_,_,.nil,s=>s
 | _,_,_,_,.cons r t,s=>.cons r (Vals.append t s)
theorem Vals.take:∀{xs:List V}{us:List T7}(n:Nat),Vals xs us->Vals (xs.take n) (us.take n)
 | _,_,0,_=>.nil
 | _,_,_ + 1,.nil=>.nil
 | _,_,n + 1,.cons r t=>.cons r (Vals.take n t)
theorem Vals.drop:∀{xs:List V}{us:List T7}(n:Nat),Vals xs us->Vals (xs.drop n) (us.drop n)
 | _,_,0,r=>r
 | _,_,_ + 1,.nil=>.nil
 | _,_,n + 1,.cons _ t=>Vals.drop n t
noncomputable def LM:Option V->Option T7->Prop
 | some v,some u=>RelV v u
 | none,none=>True
 | _,_=>False
def KV {κ:Type}:List (κ×V)->List (κ×T7)->Prop:=ZQ λ(p:κ×V) (q:κ×T7)=>p.1=q.1/\RelV p.2 q.2
noncomputable def kV:Key->V
 | .inl i=>.int i
 | .inr x=>.str x
inductive HO where
  | lst (xs:List V)
  | tup (xs:List V)
  | dK (TZ:List (Key×V)) | dT (TZ:List (List Key×V))
  | set (S:Int->Bool) (n:Nat)
  | ins (C dx:UA) (fs:List (Str×V))
  | own (x:UA)
  | xd (fs:List (Str×V))
  | met (f x:UA)
  | rng (lo hi:Int)
  | frz (o:Obj) (u:HO)
  | tbl (ps:Array T7)
  | ext (φ:VJ->Prop)
abbrev Hp:=UA->Option HO
def upd (H:Hp) (a:UA) (o:HO):Hp:=λb=>if b=a then some o else H b
theorem bO {H:Hp}:upd H a o a=some o:=by unfold upd;rw [if_pos rfl]
theorem aV {H:Hp}(h:b≠a):upd H a o b=H b:=by unfold upd;rw [if_neg h]
theorem fO {H:Hp}(h:H a=some o) (h':H b=none):a≠b:=by intro e;subst e;rw [h] at h';cases h'
section
variable (P:Uv) (w:US)
noncomputable def cF (H:Hp) (h:VJ) (a:UA):HO->Prop
 | .lst xs=>xs.length<=sizeLine/\∃(TR:List T7) (n:Nat),Vals xs TR/\h.get? a=some {cls:=.type "list",data:=.seq TR.toArray n}
 | .tup xs=>xs.length<=sizeLine/\∃TR:List T7,Vals xs TR/\adV h a TR.toArray
 | .dK TZ=>TZ.length<=sizeLine/\(a == WB)=false/\∃vs,KV TZ vs/\h.DictOf (vY P w) a vs
 | .dT TZ=>TZ.length<=sizeLine/\(a == WB)=false/\∃xs:List (List Key×UA×T7),
   ZQ (λ(p:List Key×V) (q:List Key×UA×T7)=>p.1=q.1/\H q.2.1=some (.tup (p.1.map kV))/\RelV p.2 q.2.2) TZ xs/\
   ∃o es ep,h.get? a=some o/\o.ExactDict/\o.data=.dict es ep/\es.toList=xs.map (adh (tupleKind (vY P w)))/\(xs.map (·.1)).Nodup
 | .set S n=>h.SetOf (intKind P w) a S n
 | .ins C dx fs=>H dx=some (.own a)/\fs.length<=1000/\dx≠a/\h.get? a=some (W.instObj C dx)/\
   ∃mA,h.Ns1 dx mA/\(∀f,LM (fs.lookup f) (mA f))/\PySem.Within mA (fs.map (·.1))
 | .own _=>∃o,h.get? a=some o
 | .xd fs=>∃mA,h.Ns1 a mA/\∀f,LM (fs.lookup f) (mA f)
 | .rng lo hi=>∃t u v,h.get? a=some {cls:=.type "range",data:=.fields #[.int lo t,.int hi u,.int 1 v]}
 | .frz o u=>h.get? a=some o/\cF H h a u
 | .tbl ps=>h.get? a=some {cls:=.none,data:=.fields ps}
 | .met f x=>h.get? a=some (ZR (.ref f) (.ref x))
 | .ext φ=>φ h/\(∃o,h.get? a=some o)/\∀h1 h2:VJ,φ h1->(∀o,h1.get? a=some o->h2.get? a=some o)->φ h2
def gy (H:Hp) (h:VJ):Prop:=∀a o,H a=some o->cF P w H h a o
end
section
variable {P:Uv}{w:US}{H H':Hp}{h h':VJ}{a:UA}{o:HO}
theorem cF.lt (x:cF P w H h a o):a < h.objs.size:=by
 cases o with
 | lst xs=>obtain ⟨_,_,_,_,e⟩:=x;exact Uq e
 | tup xs=>obtain ⟨_,_,_,p⟩:=x;exact p.lt
 | dK TZ=>obtain ⟨_,_,_,_,o,_,_,e,_⟩:=x;exact Uq e
 | dT TZ=>obtain ⟨_,_,_,_,o,_,_,e,_⟩:=x;exact Uq e
 | set S n=>obtain ⟨o,_,_,_,e,_⟩:=x;exact Uq e
 | ins C dx fs=>obtain ⟨_,_,_,e,_⟩:=x;exact Uq e
 | own y=>obtain ⟨_,e⟩:=x;exact Uq e
 | xd fs=>obtain ⟨_,⟨_,_,_,e,_⟩,_⟩:=x;exact Uq e
 | rng lo hi=>obtain ⟨_,_,_,e⟩:=x;exact Uq e
 | frz ob u=>obtain ⟨e,_⟩:=x;exact Uq e
 | tbl ps=>exact Uq (show h.get? a=some _ from x)
 | met f y=>exact Uq (show h.get? a=some _ from x)
 | ext φ=>obtain ⟨_,⟨_,e⟩,_⟩:=x;exact Uq e
theorem ZQ.mapP {α β:Type}{F G:α->β->Prop}:∀{l₁:List α}{l₂:List β},ZQ F l₁ l₂->(∀a b,F a b->G a b)->ZQ G l₁ l₂
 | _,_,.nil,_=>.nil
 | _,_,.cons r t,f=>.cons (f _ _ r) (ZQ.mapP t f)
theorem cF.stay (x:cF P w H h a o) (k:∀b u,(b=a\/H b=some (.own a))->h.get? b=some u->h'.get? b=some u)
  (ho:∀b,H b=some (.own a)->H' b=some (.own a)) (ht:∀b xs,H b=some (.tup xs)->H' b=some (.tup xs)):cF P w H' h' a o:=by
 induction o with
 | lst xs=>obtain ⟨z,TR,n,r,e⟩:=x;exact ⟨z,TR,n,r,k _ _ (.inl rfl) e⟩
 | tup xs=>obtain ⟨z,TR,r,ob,e,c⟩:=x;exact ⟨z,TR,r,ob,k _ _ (.inl rfl) e,c⟩
 | dK TZ=>obtain ⟨z,y,vs,r,ob,es,ep,e,c⟩:=x;exact ⟨z,y,vs,r,ob,es,ep,k _ _ (.inl rfl) e,c⟩
 | dT TZ=>
  obtain ⟨z,y,xs,r,ob,es,ep,e,c⟩:=x;exact ⟨z,y,xs,ZQ.mapP r λp q z=>⟨z.1,ht _ _ z.2.1,z.2.2⟩,ob,es,ep,k _ _ (.inl rfl) e,c⟩
 | set S n=>obtain ⟨ob,es,ep,t,e,c⟩:=x;exact ⟨ob,es,ep,t,k _ _ (.inl rfl) e,c⟩
 | ins C dx fs=>
  obtain ⟨d,z,ne,e,mA,⟨od,es,ep,e2,c⟩,r⟩:=x;exact ⟨ho _ d,z,ne,k _ _ (.inl rfl) e,mA,⟨od,es,ep,k _ _ (.inr d) e2,c⟩,r⟩
 | own y=>obtain ⟨ob,e⟩:=x;exact ⟨ob,k _ _ (.inl rfl) e⟩
 | xd fs=>obtain ⟨mA,⟨od,es,ep,e,c⟩,r⟩:=x;exact ⟨mA,⟨od,es,ep,k _ _ (.inl rfl) e,c⟩,r⟩
 | rng lo hi=>obtain ⟨t,u,v,e⟩:=x;exact ⟨t,u,v,k _ _ (.inl rfl) e⟩
 | frz ob u ih=>obtain ⟨e,q⟩:=x;exact ⟨k _ _ (.inl rfl) e,ih q⟩
 | tbl ps=>
  have e:h.get? a=some {cls:=.none,data:=.fields ps}:=x;show h'.get? a=some {cls:=.none,data:=.fields ps};exact k a _ (.inl rfl) e
 | met f y=>
  have e:h.get? a=some (ZR (.ref f) (.ref y)):=x;show h'.get? a=some (ZR (.ref f) (.ref y));exact k a _ (.inl rfl) e
 | ext φ=>obtain ⟨p,⟨o,e⟩,st⟩:=x;exact ⟨st _ _ p λo q=>k _ _ (.inl rfl) q,⟨o,k _ _ (.inl rfl) e⟩,st⟩
theorem gy.lt (x:gy P w H h) (e:H a=some o):a < h.objs.size:=(x a o e).lt
theorem gy.fresh (x:gy P w H h) (e:h.objs.size<=a):H a=none:=by
 cases q:H a with
 | none=>rfl
 | some u=>exact absurd (UG (x.lt q) e) (Wb _)
theorem gy.kept (x:gy P w H h) (k:∀b u,h.get? b=some u->h'.get? b=some u):gy P w H h':=λa o e=>
 (x a o e).stay (λb u _ q=>k b u q) (λ_ q=>q) λ_ _ q=>q
theorem gy.laid (x:gy P w H h) (k:∀b u,h.get? b=some u->h'.get? b=some u) (hp:h.objs.size<=a) (new:cF P w (upd H a o) h' a o):gy P w (upd H a o) h':=λb u e=>by
 have hn:=x.fresh hp;by_cases hb:b=a
 ·subst hb;rw [bO] at e;cases e;exact new
 ·rw [aV hb] at e;exact (x b u e).stay (λc v _ q=>k c v q) (λc q=>by rw [aV (fO q hn)];exact q) λc xs q=>by rw [aV (fO q hn)];exact q
end
def Rd (H:Hp) (a:UA) (u:HO):Prop:=H a=some u\/∃o,H a=some (.frz o u)
theorem Rd.ok {H:Hp}(r:Rd H a u) (x:gy P w H h):cF P w H h a u:=by
 rcases r with r | ⟨o,r⟩
 ·exact x a u r
 ·obtain ⟨_,q⟩:=x a _ r;exact q
noncomputable def Iz:Option HO->Prop
 | some (.lst _)=>True
 | some (.dK _)=>True
 | some (.dT _)=>True
 | some (.set _ _)=>True
 | some (.ins _ _ _)=>True
 | some (.ext _)=>True
 | _=>False
section
variable {P:Uv}{w:US}{H:Hp}{h h':VJ}{x e:UA}{o':HO}
theorem gy.write (ok:gy P w H h) (mu:Iz (H x)) (he:e=x\/H e=some (.own x)) (k:∀b u,b≠e->h.get? b=some u->h'.get? b=some u) (RU:∃u,h'.get? e=some u)
  (new:cF P w (upd H x o') h' x o'):gy P w (upd H x o') h':=λb u q=>by
 have nown:∀c y,H c=some (.own y)->c≠x:=λc y r z=>by subst z;rw [r] at mu;exact mu
 have ntup:∀c xs,H c=some (.tup xs)->c≠x:=λc xs r z=>by subst z;rw [r] at mu;exact mu
 by_cases hb:b=x
 ·subst hb;rw [bO] at q;cases q;exact new
 ·rw [aV hb] at q;by_cases RO:b=e
  ·have q':H b=some (.own x):=by
    rcases he with z | z
    ·exact absurd (RO.trans z) hb
    ·rw [RO];exact z
   rw [q] at q';cases q';obtain ⟨v,hv⟩:=RU;exact ⟨v,by rw [RO];exact hv⟩
  ·refine (ok b u q).stay (λc v hc r=>k c v ?_ r) (λc r=>by rw [aV (nown c b r)];exact r) λc xs r=>by rw [aV (ntup c xs r)];exact r
   rcases hc with rfl | hc
   ·exact RO
   ·rintro rfl;rcases he with z | z
    ·exact nown c b hc z
    ·rw [hc] at z;cases z;exact hb rfl
end
structure Un (fs ex:List UA) (H H':Hp) (h h':VJ):Prop where
 keep:∀b o,h.get? b=some o->H b=none->b∉fs->b∉ex->h'.get? b=some o
 slot:∀b o,h.get? b=some o->H b=none->b∈fs->b∉ex->∃sl,h'.get? b=some {o with slots:=sl}
 free:∀b o,h.get? b=some o->H b=none->b∉ex->H' b=none
 there:∀b o,h.get? b=some o->b∉ex->∃o',h'.get? b=some o'
 tups:∀b xs,H b=some (.tup xs)->H' b=some (.tup xs)
 frzs:∀b o u,H b=some (.frz o u)->H' b=some (.frz o u)
 tbls:∀b ps,H b=some (.tbl ps)->∃more,H' b=some (.tbl (ps++more))
section
variable {fs fs' ex ex':List UA}{H H1 H2:Hp}{h h1 h2 h':VJ}{a x e:UA}{o:HO}
theorem Un.any (u:Un fs ex H H1 h h1) (q:h.get? b=some ob) (n:H b=none) (hx:b∉ex):∃sl,h1.get? b=some {ob with slots:=sl}:=by
 by_cases hb:b∈fs
 ·exact u.slot b ob q n hb hx
 ·exact ⟨ob.slots,u.keep b ob q n hb hx⟩
theorem Un.kept (k:∀b u,h.get? b=some u->h'.get? b=some u):Un fs ex H H h h':=
 ⟨λb ob q _ _ _=>k b ob q,λb ob q _ _ _=>⟨ob.slots,k b ob q⟩,λ_ _ _ n _=>n,λb ob q _=>⟨ob,k b ob q⟩,λ_ _ q=>q,λ_ _ _ q=>q,λ_ ps q=>⟨#[],by rw [q];simp⟩⟩
theorem Un.refl:Un fs ex H H h h:=Un.kept λ_ _ q=>q
theorem Un.laid (k:∀b u,h.get? b=some u->h'.get? b=some u) (hp:h.objs.size<=a) (hn:H a=none):Un fs ex H (upd H a o) h h' where
 keep:=λb u q _ _ _=>k b u q
 slot:=λb u q _ _ _=>⟨u.slots,k b u q⟩
 free:=λb u q n _=>by rw [aV (UE (UG (Uq q) hp))];exact n
 there:=λb u q _=>⟨u,k b u q⟩
 tups:=λb xs q=>by rw [aV (fO q hn)];exact q
 frzs:=λb u xs q=>by rw [aV (fO q hn)];exact q
 tbls:=λb ps q=>⟨#[],by rw [aV (fO q hn),q];simp⟩
theorem Un.write (mu:Iz (H x)) (he:e=x\/H e=some (.own x)) (k:∀b u,b≠e->h.get? b=some u->h'.get? b=some u) (RU:∃u,h'.get? e=some u):Un fs ex H (upd H x o) h h':=by
 have hx:∀b,H b=none->b≠x:=λb n z=>by subst z;rw [n] at mu;exact mu
 have hb:∀b,H b=none->b≠e:=λb n z=>by
  subst z;rcases he with r | r
  ·exact hx b n r
  ·rw [n] at r;cases r
 have hm:∀b u,H b=some u->¬Iz (some u)->b≠x:=λb u q nm z=>by subst z;rw [q] at mu;exact nm mu
 refine ⟨λb u q n _ _=>k b u (hb b n) q,λb u q n _ _=>⟨u.slots,k b u (hb b n) q⟩,λb u q n _=>by rw [aV (hx b n)];exact n,λb u q _=>?_,
  λb xs q=>by rw [aV (hm b _ q λz=>z)];exact q,λb u xs q=>by rw [aV (hm b _ q λz=>z)];exact q,λb ps q=>⟨#[],by rw [aV (hm b _ q λz=>z),q];simp⟩⟩
 by_cases RO:b=e
 ·subst RO;exact RU
 ·exact ⟨u,k b u RO q⟩
end
def Jq (h:VJ) (H:Hp):List UA:=(Ue h.objs.size).filter λa=>(H a).isSome
def n6 (h:VJ) (H:Hp):VJ:=W.hideAll h (Jq h H)
theorem EG (h:VJ) (H:Hp):(n6 h H).objs.size=h.objs.size:=W.hideAll_size _ _
theorem GN {h:VJ}{H:Hp}(e:h.get? b=some o) (n:H b=none):(n6 h H).get? b=some o:=
 W.hideAll_get _ e λhm=>by have q:(H b).isSome=true:=(UT.mp hm).2;rw [n] at q;simp at q
theorem Ks {h:VJ}{H:Hp}(e:(n6 h H).get? b=some o):h.get? b=some o/\H b=none:=by
 have e':h.get? b=some o:=W.of_hideAll (Jq h H) e;refine ⟨e',?_⟩;cases q:H b with
 | none=>rfl
 | some x=>
  have hm:b∈Jq h H:=UT.mpr ⟨UQ.mpr (Uq e'),by simp [q]⟩;have z:(n6 h H).get? b=none:=W.hideAll_none (Jq h H) hm;rw [z] at e;cases e
def JE (g h:VJ) (L:UA):List (UA×Obj):=(Ue h.objs.size).filterMap λa=>if a=L\/(g.get? a).isSome=true then none else (h.get? a).map λo=>(a,o)
def rest (g h:VJ) (L d:UA):List (UA×Obj):=(JE g h L).filter λp=>decide (p.1≠d)
structure Mod (K:T5) (mg:Str->Option T7) (base:VJ):Prop where
 kin:K.In base
 glob:base.Ns UL mg
 blt:∃mb,base.Ns adi mb/\∀x:Str,x≠"__name__"->mb x=Vd x
 nolimit:base.NoLimit
structure Cx where
 prog:Uv
 w:US
 K:T5
 mg:Str->Option T7
 base:VJ
 A:UW
 N:List Str
 s₀:T_
 H₀:Hp
 env:Env
 outer:List Env
 stack:List Env
 ex:List UA
 fn:Str->Bool
 calm:Bool
 pn:List (UA×Obj)
 xe:T7->T_->Prop
def frs (l:List Env):List UA:=l.filterMap (·.frame)
abbrev Cx.fs (X:Cx):List UA:=frs X.outer
def pH (sc:Xy) (x:Str):Prop:=sc.names.lookup x=some .local\/sc.names.lookup x=some .cell\/sc.names.lookup x=some .free
def Loc (sc:Xy) (x:Str):Prop:=sc.names.lookup x=some .local\/sc.names.lookup x=some .cell
noncomputable def Look (env:Env) (h:VJ) (m:Str->Option T7) (x:Str) (u:T7):Prop:=
 (env.kindOf x=some .local/\m x=some u)\/((env.kindOf x=some .cell\/env.kindOf x=some .free)/\∃c,env.cells.lookup x=some c/\h.IsCell c (some u))
structure Cx.Ok (X:Cx):Prop where
 mod:Mod X.K X.mg X.base
 kind:X.env.scope.kind=.function
 glob:X.env.globals=UL
 blt:X.env.builtins=adi
 above:X.s₀.heap.objs.size<=X.env.locals
 inj:∀x y c,X.env.cells.lookup x=some c->X.env.cells.lookup y=some c->x=y
 has:∀x,(X.env.kindOf x=some .cell\/X.env.kindOf x=some .free)->∃c,X.env.cells.lookup x=some c
 cab:∀x c,X.fn x=true->X.env.cells.lookup x=some c->X.s₀.heap.objs.size<=c
 hd:X.calm=true->X.A.handled=none
 frames:X.A.frames=some X.stack
 stk:X.stack=X.outer\/(X.stack=X.env::X.outer/\X.env.frame=some X.env.locals)
 exf:∀b∈X.ex,b≠X.env.locals/\∀x c,X.env.cells.lookup x=some c->c≠b
 bs:∀b o,X.base.get? b=some o->X.s₀.heap.get? b=some o/\X.H₀ b=none
 bsz:X.base.objs.size<=X.s₀.heap.objs.size
 noex:∀b o,X.base.get? b=some o->b∉X.ex
 exfs:∀b∈X.ex,b∉X.fs
 funs:X.s₀.heap.FunFrames X.base X.outer
 frf:∀b∈X.fs,X.H₀ b=none
structure Inv (X:Cx) (TN:List (UA×Obj)) (σ:List (Option V)) (H:Hp) (s:T_):Prop where
 ok:X.Ok
 os:s.os=X.s₀.os
 bare:aas s.gens
 base:Un X.fs X.ex X.H₀ H X.s₀.heap s.heap
 loc:∃m,s.heap.Ns X.env.locals m/\∀(i:Nat) (x:Str) (v:V),X.N[i]?=some x->σ[i]?=some (some v)->pH X.env.scope x->∃u,RelV v u/\Look X.env s.heap m x u
 cell:∀x c,X.env.cells.lookup x=some c->∃v,s.heap.IsCell c v
 free:H X.env.locals=none
 freeC:∀x c,X.env.cells.lookup x=some c->H c=none
 pin:∀p∈X.pn++TN,s.heap.get? p.1=some p.2/\H p.1=none/\p.1≠X.env.locals/\p.1∉X.fs/\∀v,p.2.data≠.cell v
 hok:gy X.prog X.w H s.heap
 len:σ.length=X.N.length
section
variable {X:Cx}{TN:List (UA×Obj)}{σ:List (Option V)}{H H':Hp}{s:T_}{h':VJ}
theorem Cx.Ok.nofr (ok:X.Ok) (e:X.base.get? b=some o):b∉X.fs:=λhb=>by have:=(ok.funs.mem hb).1;rw [e] at this;cases this
theorem Inv.bs (I:Inv X TN σ H s):∀b o,X.base.get? b=some o->s.heap.get? b=some o/\H b=none:=λb o e=>
 ⟨I.base.keep b o (I.ok.bs b o e).1 (I.ok.bs b o e).2 (I.ok.nofr e) (I.ok.noex b o e),I.base.free b o (I.ok.bs b o e).1 (I.ok.bs b o e).2 (I.ok.noex b o e)⟩
theorem Inv.bk (I:Inv X TN σ H s):∀b o,X.base.get? b=some o->s.heap.get? b=some o:=λb o e=>(I.bs b o e).1
theorem Inv.mod (I:Inv X TN σ H s):Mod X.K X.mg X.base:=I.ok.mod
theorem Inv.kIn (I:Inv X TN σ H s):X.K.In s.heap:=I.ok.mod.kin.keeps I.bk
theorem Inv.lt (I:Inv X TN σ H s):X.env.locals < s.heap.objs.size:=let ⟨_,hn,_⟩:=I.loc;hn.lt
theorem Inv.sz (I:Inv X TN σ H s):X.s₀.heap.objs.size<=s.heap.objs.size:=UC I.ok.above (ZI I.lt)
theorem Inv.nofs (I:Inv X TN σ H s) (h:s.heap.objs.size<=a):a∉X.fs:=λhb=>by obtain ⟨_,o,ho,_⟩:=I.ok.funs.mem hb;exact absurd (UG (Uq ho) (UC I.sz h)) (Wb _)
theorem Inv.cne (I:Inv X TN σ H s):∀x c,X.env.cells.lookup x=some c->c≠X.env.locals:=λx c e z=>by obtain ⟨v,o,ho,hd⟩:=I.cell x c e;obtain ⟨m,⟨o',es,ep,ho',hd',_⟩,_⟩:=I.loc;rw [z,ho'] at ho;cases ho;rw [hd'] at hd;cases hd
theorem Inv.funs (I:Inv X TN σ H s):s.heap.FunFrames X.base X.outer:=by
 have all:∀(l:List Env),(∀b∈frs l,b∈X.fs)->X.s₀.heap.FunFrames X.base l->s.heap.FunFrames X.base l:=by
  intro l
  induction l with
  | nil=>intro _ _;trivial
  | cons env r ih=>
   intro hs hl;obtain ⟨hk,⟨L,o,hf,hn,ho,hd⟩,hr⟩:=hl;have hL:L∈X.fs:=hs L (by unfold frs;rw [Yc,hf];exact Uc);obtain ⟨sl,e⟩:=I.base.slot L o ho (I.ok.frf L hL) hL λz=>I.ok.exfs L z hL;exact ⟨hk,⟨L,_,hf,hn,e,hd⟩,ih (λb hb=>hs b (by unfold frs;rw [Yc,hf];exact Ua _ hb)) hr⟩
 exact all X.outer (λ_ hb=>hb) I.ok.funs
theorem Inv.stack (I:Inv X TN σ H s):s.heap.FunFrames X.base X.stack:=by
 rcases I.ok.stk with e | ⟨e,hf⟩
 ·rw [e];exact I.funs
 ·rw [e];obtain ⟨m,hn,_⟩:=I.loc;refine .cons (by rw [I.ok.kind];decide) hf hn ?_ I.funs;exact Heap.get?_none_of_le (UC I.ok.bsz I.ok.above)
theorem Inv.stkSub (I:Inv X TN σ H s):∀b∈frs X.stack,b∈X.env.locals::X.fs:=λb hb=>by
 rcases I.ok.stk with e | ⟨e,hf⟩
 ·rw [e] at hb;exact Ua _ hb
 ·rw [e] at hb;unfold frs at hb;rw [Yc,hf] at hb;exact hb
theorem Inv.stkFree (I:Inv X TN σ H s):∀b∈frs X.stack,H b=none:=λb hb=>by
 rcases Uw.mp (I.stkSub b hb) with e | hb
 ·rw [e];exact I.free
 ·obtain ⟨_,o,ho,_⟩:=I.ok.funs.mem hb;exact I.base.free b o ho (I.ok.frf b hb) λz=>I.ok.exfs b z hb
theorem Inv.step {g':Array aew}{t':Nat}{d':Drawn}{ch:List UA}(I:Inv X TN σ H s)
  (hch:∀b∈ch,(b∈X.ex\/X.s₀.heap.objs.size<=b)/\b≠X.env.locals/\(∀x c,X.env.cells.lookup x=some c->c≠b)/\∀p∈X.pn++TN,p.1≠b)
  (keep:∀b o,b≠X.env.locals->b∉X.fs->b∉ch->s.heap.get? b=some o->H b=none->h'.get? b=some o)
  (slot:∀b o,b≠X.env.locals->b∈X.fs->b∉ch->s.heap.get? b=some o->H b=none->∃sl,h'.get? b=some {o with slots:=sl}) (free:∀b o,b∉ch->s.heap.get? b=some o->H b=none->H' b=none)
  (there:∀b o,b∉ch->s.heap.get? b=some o->∃o',h'.get? b=some o')
  (tups:∀b xs,H b=some (.tup xs)->H' b=some (.tup xs)) (frzs:∀b o u,H b=some (.frz o u)->H' b=some (.frz o u)) (tbls:∀b ps,H b=some (.tbl ps)->∃more,H' b=some (.tbl (ps++more)))
  (ns:∀m,s.heap.Ns X.env.locals m->h'.Ns X.env.locals m) (hok:gy X.prog X.w H' h') (hg:aas g'):
  Inv X TN σ H' {s with heap:=h',gens:=g',drawn:=d',toks:=t'}:=by
 have neL:∀b o,X.s₀.heap.get? b=some o->b≠X.env.locals:=λb o e=>UE (UG (Uq e) I.ok.above);have neC:∀b o,X.s₀.heap.get? b=some o->b∉X.ex->b∉ch:=λb o e hx hb=>by
  rcases (hch b hb).1 with z | z
  ·exact hx z
  ·exact absurd (UG (Uq e) z) (Wb _)
 have cellK:∀x c,X.env.cells.lookup x=some c->∀v,s.heap.IsCell c v->h'.IsCell c v:=λx c e v ⟨o,ho,hd⟩=>by
  have nch:c∉ch:=λz=>(hch c z).2.2.1 x c e rfl;by_cases hc:c∈X.fs
  ·obtain ⟨sl,q⟩:=slot c o (I.cne x c e) hc nch ho (I.freeC x c e);exact ⟨_,q,hd⟩
  ·exact ⟨o,keep c o (I.cne x c e) hc nch ho (I.freeC x c e),hd⟩
 refine ⟨I.ok,I.os,hg,⟨λb o e n hb hx=>?_,λb o e n hb hx=>?_,λb o e n hx=>?_,λb o e hx=>?_,λb xs e=>tups b xs (I.base.tups b xs e),λb o xs e=>frzs b o xs (I.base.frzs b o xs e),λb ps e=>?_⟩,?_,λx c e=>?_,?_,λx c e=>?_,λp hp=>?_,hok,I.len⟩
 ·exact keep b o (neL b o e) hb (neC b o e hx) (I.base.keep b o e n hb hx) (I.base.free b o e n hx)
 ·obtain ⟨sl,e1⟩:=I.base.slot b o e n hb hx;obtain ⟨sl',e2⟩:=slot b _ (neL b o e) hb (neC b o e hx) e1 (I.base.free b o e n hx);exact ⟨sl',e2⟩
 ·obtain ⟨o',e1⟩:=I.base.there b o e hx;exact free b o' (neC b o e hx) e1 (I.base.free b o e n hx)
 ·obtain ⟨o',e1⟩:=I.base.there b o e hx;exact there b o' (neC b o e hx) e1
 ·obtain ⟨m1,e1⟩:=I.base.tbls b ps e;obtain ⟨m2,e2⟩:=tbls b _ e1;exact ⟨m1++m2,by rw [e2,Array.append_assoc]⟩
 ·obtain ⟨m,hn,hl⟩:=I.loc;refine ⟨m,ns m hn,λi x v e1 e2 e3=>?_⟩;obtain ⟨u,r,l⟩:=hl i x v e1 e2 e3;refine ⟨u,r,?_⟩;rcases l with l | ⟨k,c,e,z⟩
  ·exact .inl l
  ·exact .inr ⟨k,c,e,cellK x c e _ z⟩
 ·obtain ⟨v,z⟩:=I.cell x c e;exact ⟨v,cellK x c e v z⟩
 ·obtain ⟨m,⟨o,_,_,ho,_⟩,_⟩:=I.loc;exact free _ o (λz=>(hch _ z).2.1 rfl) ho I.free
 ·obtain ⟨v,o,ho,hd⟩:=I.cell x c e;exact free c o (λz=>(hch c z).2.2.1 x c e rfl) ho (I.freeC x c e)
 ·obtain ⟨e,n,ne,nf,d⟩:=I.pin p hp;have nch:p.1∉ch:=λz=>(hch p.1 z).2.2.2 p hp rfl;exact ⟨keep p.1 p.2 ne nf nch e n,free p.1 p.2 nch e n,ne,nf,d⟩
theorem Inv.un (I:Inv X TN σ H s) (u:Un X.fs [] H H' s.heap h') (hok:gy X.prog X.w H' h'):Inv X TN σ H' {s with heap:=h',toks:=t'}:=by
 obtain ⟨m,⟨o,es,ep,ho,r⟩,_⟩:=id I.loc;obtain ⟨sl,hL⟩:=u.any ho I.free (by simp);exact I.step (g':=s.gens) (d':=s.drawn) (ch:=[]) (λ_ z=>nomatch z) (λb o _ hb _ e n=>u.keep b o e n hb (by simp)) (λb o _ hb _ e n=>u.slot b o e n hb (by simp)) (λb o _ e n=>u.free b o e n (by simp)) (λb o _ e=>u.there b o e (by simp)) u.tups u.frzs u.tbls (λm' hm=>by
  obtain ⟨o',es',ep',ho',r'⟩:=hm;rw [ho] at ho';cases ho';exact ⟨_,es',ep',hL,r'⟩) hok I.bare
theorem Inv.call (I:Inv X TN σ H s) (u:Un (frs X.stack) ch H H' s.heap h') (hok:gy X.prog X.w H' h') (hg:aas g')
 (hch:∀b∈ch,(b∈X.ex\/X.s₀.heap.objs.size<=b)/\b≠X.env.locals/\(∀x c,X.env.cells.lookup x=some c->c≠b)/\∀p∈X.pn++TN,p.1≠b):
  Inv X TN σ H' {s with heap:=h',gens:=g',drawn:=d',toks:=t'}:=by
 obtain ⟨m,⟨o,es,ep,ho,r⟩,_⟩:=id I.loc;obtain ⟨sl,hL⟩:=u.any ho I.free λz=>(hch _ z).2.1 rfl;exact I.step (ch:=ch) hch (λb o hL hb hc e n=>u.keep b o e n (λz=>(Uw.mp (I.stkSub b z)).elim hL hb) hc) (λb o _ _ hc e n=>u.any e n hc) (λb o hc e n=>u.free b o e n hc) (λb o hc e=>u.there b o e hc) u.tups u.frzs u.tbls (λm' hm=>by
  obtain ⟨o',es',ep',ho',r'⟩:=hm;rw [ho] at ho';cases ho';exact ⟨_,es',ep',hL,r'⟩) hok hg
theorem Inv.turned {t':Nat}{it:UA}(I:Inv X TN σ H s) (k:∀b o,b≠it->s.heap.get? b=some o->h'.get? b=some o) (hn:H it=none) (hL:it≠X.env.locals)
  (h1:it∈X.ex\/X.s₀.heap.objs.size<=it) (h2:∀x c,X.env.cells.lookup x=some c->c≠it) (h3:∀p∈X.pn++TN,p.1≠it):Inv X TN σ H {s with heap:=h',toks:=t'}:=by
 have nit:∀b u,H b=some u->b≠it:=λb u e z=>by rw [z,hn] at e;cases e
 refine I.step (g':=s.gens) (d':=s.drawn) (ch:=[it]) (λb hb=>?_) (λb o _ _ hc e _=>k b o (λz=>hc (by simp [z])) e) (λb o _ _ hc e _=>⟨o.slots,k b o (λz=>hc (by simp [z])) e⟩) (λ_ _ _ _ n=>n)
  (λb o hc e=>⟨o,k b o (λz=>hc (by simp [z])) e⟩) (λ_ _ e=>e) (λ_ _ _ e=>e) (λb ps e=>⟨#[],by rw [e];simp⟩) (λm hm=>?_) (λb u e=>?_) I.bare
 ·have e:b=it:=by simpa using hb
  subst e;exact ⟨h1,hL,h2,h3⟩
 ·obtain ⟨o,es,ep,ho,r⟩:=hm;exact ⟨o,es,ep,k _ o (VS hL) ho,r⟩
 ·refine (I.hok b u e).stay (λc v hc q=>k c v ?_ q) (λ_ q=>q) λ_ _ q=>q;rcases hc with z | z
  ·rw [z];exact nit b u e
  ·exact nit c _ z
theorem Inv.tok (I:Inv X TN σ H s) (t:Nat):Inv X TN σ H {s with toks:=t}:=I.un (h':=s.heap) (t':=t) Un.refl I.hok
theorem Inv.kept (I:Inv X TN σ H s) (k:∀b u,s.heap.get? b=some u->h'.get? b=some u):Inv X TN σ H {s with heap:=h',toks:=t'}:=I.un (Un.kept k) (I.hok.kept k)
theorem Inv.laid (I:Inv X TN σ H s) (k:∀b u,s.heap.get? b=some u->h'.get? b=some u) (hp:s.heap.objs.size<=a) (new:cF X.prog X.w (upd H a o) h' a o):
  Inv X TN σ (upd H a o) {s with heap:=h',toks:=t'}:=I.un (Un.laid k hp (I.hok.fresh hp)) (I.hok.laid k hp new)
theorem Inv.write (I:Inv X TN σ H s) (mu:Iz (H x)) (he:e=x\/H e=some (.own x)) (k:∀b u,b≠e->s.heap.get? b=some u->h'.get? b=some u) (RU:∃u,h'.get? e=some u)
 (new:cF X.prog X.w (upd H x o) h' x o):Inv X TN σ (upd H x o) {s with heap:=h',toks:=t'}:=I.un (Un.write mu he k RU) (I.hok.write mu he k RU new)
theorem Inv.pins_of (I:Inv X TN σ H s) (h:∀p∈pins',s.heap.get? p.1=some p.2/\H p.1=none/\p.1≠X.env.locals/\p.1∉X.fs/\∀v,p.2.data≠.cell v):Inv X pins' σ H s:=
 ⟨I.ok,I.os,I.bare,I.base,I.loc,I.cell,I.free,I.freeC,λp hp=>(UI.mp hp).elim (λz=>I.pin p (XW _ z)) (h p),I.hok,I.len⟩
theorem Aa {N:List Str}(hN:N.Nodup){i j:Nat}{x:Str}(a:N[i]?=some x) (b:N[j]?=some x):i=j:=by obtain ⟨h1,e1⟩:=Uy.mp a;obtain ⟨h2,e2⟩:=Uy.mp b;exact (Y9 hN).mp (e1.trans e2.symm)
theorem xV {M:aeJ}{E:T7->T_->Prop}{Q:Unit->T_->Prop}(I:Inv X TN σ H s) (hN:X.N.Nodup) (hi:X.N[i]?=some x) (hx:Loc X.env.scope x) (r:RelV v u)
 (h:∀s',Inv X TN (σ.set i (some v)) H s'->(∃a,V2 a s.heap s'.heap/\(a=X.env.locals\/X.env.cells.lookup x=some a))->Q () s') (hf:X.fn x=true\/X.env.scope.names.lookup x=some .local:=by first | exact .inl rfl | exact .inr rfl | assumption):Uu M A (adW X.env x u) Q E s:=by
 obtain ⟨m,hn,hl⟩:=id I.loc;have hcls:(X.env.scope.kind == .class || (X.env.scope.kind == .module && X.env.locals != X.env.globals))=false:=by rw [I.ok.kind];rfl
 have hiσ:i < σ.length:=by rw [I.len];exact (Uy.mp hi).1
 have cne:=I.cne;have tracked:∀{a:UA}{h':VJ},(∃o,s.heap.get? a=some o/\H a=none)->V2 a s.heap h'->gy X.prog X.w H h':=fun {a h'} ha hs b ob e=>by
  obtain ⟨_,_,hfree⟩:=ha;refine (I.hok b ob e).stay (λc w' hc q=>(hs.2 c ?_).trans q) (λ_ q=>q) λ_ _ q=>q;rintro rfl;rcases hc with rfl | hc
  ·rw [hfree] at e;cases e
  ·rw [hfree] at hc;cases hc
 rcases hx with hk | hk
 ·refine wpAny_storeName_local hk hn (λh' hn' hs=>?_) hcls;obtain ⟨oL,_,_,Tg,_⟩:=id hn;refine h _ ⟨I.ok,I.os,I.bare,⟨λb o e n hb hx=>?_,λb o e n hb hx=>?_,I.base.free,λb o e hx=>?_,I.base.tups,I.base.frzs,I.base.tbls⟩,⟨_,hn',λj y v' e1 e2 e3=>?_⟩,λy c e=>?_,I.free,I.freeC,λp hp=>?_,tracked ⟨oL,Tg,I.free⟩ hs,by simpa using I.len⟩ ⟨_,hs,.inl rfl⟩
  ·exact (hs.2 b (UE (UG (Uq e) I.ok.above))).trans (I.base.keep b o e n hb hx)
  ·obtain ⟨sl,e1⟩:=I.base.slot b o e n hb hx;exact ⟨sl,(hs.2 b (UE (UG (Uq e) I.ok.above))).trans e1⟩
  ·obtain ⟨o',e1⟩:=I.base.there b o e hx;exact ⟨o',(hs.2 b (UE (UG (Uq e) I.ok.above))).trans e1⟩
  ·by_cases hj:j=i
   ·subst hj;rw [hi] at e1;cases e1;rw [U8 hiσ] at e2;cases e2;exact ⟨u,r,.inl ⟨hk,by simp⟩⟩
   ·rw [UP (VS hj)] at e2;obtain ⟨u',r',q⟩:=hl j y v' e1 e2 e3;refine ⟨u',r',?_⟩;rcases q with ⟨k,e⟩ | ⟨k,c,e,z⟩
    ·refine .inl ⟨k,?_⟩;have:y≠x:=λe=>hj (Aa hN e1 (e▸hi));simp [this,e]
    ·exact .inr ⟨k,c,e,z.sameBut hs (cne y c e)⟩
  ·obtain ⟨w',z⟩:=I.cell y c e;exact ⟨w',z.sameBut hs (cne y c e)⟩
  ·obtain ⟨e,n,ne,nf,d⟩:=I.pin p hp;exact ⟨(hs.2 p.1 ne).trans e,n,ne,nf,d⟩
 ·have hfn:X.fn x=true:=by
   rcases hf with z | z
   ·exact z
   ·rw [z] at hk;cases hk
  obtain ⟨c,hc⟩:=I.ok.has x (.inl hk);obtain ⟨w',z⟩:=I.cell x c hc;refine wpAny_storeName_cell I.ok.kind hk hc z (λh' hc' hs=>?_);obtain ⟨oc,hoc,So⟩:=id z;refine h {s with heap:=h'} ⟨I.ok,I.os,I.bare,⟨λb o e n hb hx=>?_,λb o e n hb hx=>?_,I.base.free,λb o e hx=>?_,I.base.tups,I.base.frzs,I.base.tbls⟩,⟨m,hn.sameBut hs (VS (cne x c hc)),λj y v' e1 e2 e3=>?_⟩,λy c' e=>?_,I.free,I.freeC,λp hp=>?_,tracked ⟨oc,hoc,I.freeC x c hc⟩ hs,by simpa using I.len⟩ ⟨c,hs,.inr hc⟩
  ·exact (hs.2 b (UE (UG (Uq e) (I.ok.cab x c hfn hc)))).trans (I.base.keep b o e n hb hx)
  ·obtain ⟨sl,e1⟩:=I.base.slot b o e n hb hx;exact ⟨sl,(hs.2 b (UE (UG (Uq e) (I.ok.cab x c hfn hc)))).trans e1⟩
  ·obtain ⟨o',e1⟩:=I.base.there b o e hx;exact ⟨o',(hs.2 b (UE (UG (Uq e) (I.ok.cab x c hfn hc)))).trans e1⟩
  ·by_cases hj:j=i
   ·subst hj;rw [hi] at e1;cases e1;rw [U8 hiσ] at e2;cases e2;exact ⟨u,r,.inr ⟨.inl hk,c,hc,hc'⟩⟩
   ·rw [UP (VS hj)] at e2;obtain ⟨u',r',q⟩:=hl j y v' e1 e2 e3;refine ⟨u',r',?_⟩;rcases q with q | ⟨k,c',e,z'⟩
    ·exact .inl q
    ·refine .inr ⟨k,c',e,z'.sameBut hs ?_⟩;rintro rfl;exact hj (Aa hN e1 (I.ok.inj _ _ _ e hc▸hi))
  ·by_cases hcc:c'=c
   ·subst hcc;exact ⟨_,hc'⟩
   ·obtain ⟨w2,z2⟩:=I.cell y c' e;exact ⟨w2,z2.sameBut hs hcc⟩
  ·obtain ⟨e,n,ne,nf,d⟩:=I.pin p hp;refine ⟨(hs.2 p.1 ?_).trans e,n,ne,nf,d⟩;intro q;rw [q,hoc] at e;have q':oc=p.2:=Vl e;exact d w' (by rw [<-q'];exact So)
theorem tV {M:aeJ}{E:T7->T_->Prop}{Q:Unit->T_->Prop}(I:Inv X TN σ H s) (hN:X.N.Nodup) (hi:X.N[i]?=some x) (hx:Loc X.env.scope x) (r:RelV v u)
 (h:∀s',Inv X TN (σ.set i (some v)) H s'->Q () s') (hf:X.fn x=true\/X.env.scope.names.lookup x=some .local:=by first | exact .inl rfl | exact .inr rfl | assumption):Uu M A (adW X.env x u) Q E s:=
 xV I hN hi hx r (λs' I' _=>h s' I') hf
theorem Inv.call' {s':T_}(I:Inv X TN σ H s) (ho:s'.os=s.os) (u:Un (frs X.stack) ch H H' s.heap s'.heap) (hok:gy X.prog X.w H' s'.heap) (hg:aas s'.gens)
 (hch:∀b∈ch,(b∈X.ex\/X.s₀.heap.objs.size<=b)/\b≠X.env.locals/\(∀x c,X.env.cells.lookup x=some c->c≠b)/\∀p∈X.pn++TN,p.1≠b):Inv X TN σ H' s':=by obtain ⟨h',g',d',t',o'⟩:=s';have e:o'=s.os:=ho;subst e;exact I.call (g':=g') (t':=t') (d':=d') u hok hg hch
end
abbrev XK:=T7->Option UA->Hp->Prop
abbrev St:=List (Option V)
abbrev VK:=V->Hp->Prop
abbrev TE:=St->Hp->VK->Prop
abbrev TT:=St->Hp->(Bool->Hp->Prop)->Prop
abbrev TA:=St->Hp->(List V->Hp->Prop)->Prop
structure Ends where
 nx:St->Hp->Prop
 rt:VK
 bk:St->Hp->Prop:=λ_ _=>False
 ct:St->Hp->Prop:=λ_ _=>False
abbrev TS:=Ends->St->Hp->Prop
def EP (X:Cx) (TN:List (UA×Obj)) (σ:St) (Q:VK) (u:T7) (s':T_):Prop:=∃v H',Inv X TN σ H' s'/\RelV v u/\Q v H'
def TP (X:Cx) (TN:List (UA×Obj)) (σ:St) (Q:Bool->Hp->Prop) (b:Bool) (s':T_):Prop:=∃H',Inv X TN σ H' s'/\Q b H'
def AP (X:Cx) (TN:List (UA×Obj)) (σ:St) (Q:List V->Hp->Prop) (us:List T7) (s':T_):Prop:=∃vs H',Inv X TN σ H' s'/\Vals vs us/\Q vs H'
noncomputable def SP (X:Cx) (TN:List (UA×Obj)) (D:Ends) (f:Flow) (s':T_):Prop:=
 match f with
 | .next=>∃σ' H',Inv X TN σ' H' s'/\D.nx σ' H'
 | .brk=>∃σ' H',Inv X TN σ' H' s'/\D.bk σ' H'
 | .cont=>∃σ' H',Inv X TN σ' H' s'/\D.ct σ' H'
 | .ret u=>∃v σ' H',Inv X TN σ' H' s'/\RelV v u/\D.rt v H'
noncomputable def PE (X:Cx) (e:UU) (t:TE):Prop:=
 ∀(TN:List (UA×Obj)) (s:T_) (σ:St) (H:Hp) (Q:VK),Inv X TN σ H s->t σ H Q->Uu (UB X.prog X.w) X.A (eval e X.env) (EP X TN σ Q) X.xe s
noncomputable def PT (X:Cx) (e:UU) (t:TT):Prop:=
 ∀(TN:List (UA×Obj)) (s:T_) (σ:St) (H:Hp) (Q:Bool->Hp->Prop),Inv X TN σ H s->t σ H Q->Uu (UB X.prog X.w) X.A (aa5 e X.env (eval e X.env)) (TP X TN σ Q) X.xe s
noncomputable def PW (X:Cx) (e:UU) (t:TT):Prop:=
 ∀(whole:Sem T7) (TN:List (UA×Obj)) (s:T_) (σ:St) (H:Hp) (Q:Bool->Hp->Prop),Inv X TN σ H s->t σ H Q->Uu (UB X.prog X.w) X.A (aa5 e X.env whole) (TP X TN σ Q) X.xe s
theorem PW.pt (h:PW X e t):PT X e t:=h _
noncomputable def PA (X:Cx) (es:List UU) (t:TA):Prop:=
 ∀(pos:Pos) (TN:List (UA×Obj)) (s:T_) (σ:St) (H:Hp) (Q:List V->Hp->Prop),Inv X TN σ H s->t σ H Q->Uu (UB X.prog X.w) X.A (spliced (Vx pos (Uj es X.env))) (AP X TN σ Q) X.xe s
noncomputable def PS (X:Cx) (st:WM) (t:TS):Prop:=
 ∀(TN:List (UA×Obj)) (s:T_) (σ:St) (H:Hp) (D:Ends),Inv X TN σ H s->t D σ H->Uu (UB X.prog X.w) X.A (exec st X.env) (SP X TN D) X.xe s
noncomputable def jF (X:Cx) (st:List WM) (t:TS):Prop:=
 ∀(TN:List (UA×Obj)) (s:T_) (σ:St) (H:Hp) (D:Ends),Inv X TN σ H s->t D σ H->Uu (UB X.prog X.w) X.A (execs st X.env) (SP X TN D) X.xe s
theorem bN {α:Type}{t:Sem α}{Q Q':α->T_->Prop}{M:aeJ}{A:UW}{E:T7->T_->Prop}{s:T_}(h:Uu M A t Q E s) (hQ:∀a s,Q a s->Q' a s):Uu M A t Q' E s:=UZ h hQ λ_ _ x=>x
section
variable {X:Cx}
theorem bin {a b:UU}{ta tb:TE}(ha:PE X a ta) (hb:PE X b tb){TN:List (UA×Obj)}{s:T_}{σ:St}{H:Hp}{R:V->V->Hp->Prop}(I:Inv X TN σ H s) (h:ta σ H λx H1=>tb σ H1 λy H2=>R x y H2)
  {α:Type}{Q:α->T_->Prop}{f:T7->T7->Sem α}
  (hf:∀v u s2 x y H2,Inv X TN σ H2 s2->RelV x v->RelV y u->R x y H2->Uu (UB X.prog X.w) X.A (f v u) Q X.xe s2):
  Uu (UB X.prog X.w) X.A (eval a X.env) (λv s₁=>Uu (UB X.prog X.w) X.A (eval b X.env) (λu s₂=>Uu (UB X.prog X.w) X.A (f v u) Q X.xe s₂) X.xe s₁) X.xe s:=by refine bN (ha TN s σ H _ I h) λv s1 ⟨x,H1,I1,r1,q1⟩=>?_;refine bN (hb TN s1 σ H1 _ I1 q1) λu s2 ⟨y,H2,I2,r2,q2⟩=>?_;exact hf v u s2 x y H2 I2 r1 r2 q2
def Ij (i:Nat):TE:=λσ H Q=>∃v,σ[i]?=some (some v)/\Q v H
def tC (v:V):TE:=λ_ H Q=>Q v H
theorem kh {pos:Pos}(hN:X.N[i]?=some x) (hv:pH X.env.scope x) (hd:(x == ("__debug__":Str))=false:=by decide) (hcd:(x == ("__classdict__":Str))=false:=by decide):PE X (.Name x pos) (Ij i):=by
 intro TN s σ H Q I h;obtain ⟨v,e,h⟩:=h;obtain ⟨m,hn,hl⟩:=I.loc;obtain ⟨u,r,l⟩:=hl i x v hN e hv;have fin:EP X TN σ Q u s:=⟨v,H,I,r,h⟩;rcases l with ⟨hk,hm⟩ | ⟨hk,c,hc,hcell⟩
 ·exact adj (aaZ I.ok.kind hk hn hm fin) hd
 ·rcases hk with hk | hk
  ·exact adj (abd I.ok.kind hk hc hcell fin) hd
  ·exact adj (wpAny_loadName_free I.ok.kind hk hc hcell fin hcd) hd
theorem Fc {i j pos}:PE X (.Constant (.int i) j pos) (tC (.int i)):=λ_ _ _ H _ I h=>wpAny_Constant_int ⟨.int i,H,I.tok _,⟨_,rfl⟩,h⟩
theorem Ou {b j pos}:PE X (.Constant (.bool b) j pos) (tC (.bl b)):=λ_ _ _ H _ I h=>Constant_bool ⟨.bl b,H,I,rfl,h⟩
theorem Nd {j pos}:PE X (.Constant .none j pos) (tC .non):=λ_ _ _ H _ I h=>Constant_none ⟨.non,H,I,rfl,h⟩
theorem Nh {x j pos}:PE X (.Constant (.str x) j pos) (tC (.str x)):=λ_ _ _ H _ I h=>Calls.Constant_str ⟨.str x,H,I.tok _,⟨_,rfl⟩,h⟩
def Gl (X:Cx) (x:Str):Prop:=X.env.kindOf x=some .globalImplicit
theorem BA {E:T7->T_->Prop}{H:Hp}{pos:Pos}{Q:T7->T_->Prop}(I:Inv X TN σ H s) (hg:Gl X x) (hm:X.mg x=some u) (h:Q u s)
 (hd:(x == ("__debug__":Str))=false:=by decide):Uu (UB X.prog X.w) X.A (eval (.Name x pos) X.env) Q E s:=
 ZF I.ok.kind hg (Calls.loadGlobal_global (by rw [I.ok.glob];exact I.mod.glob.keeps I.bk) hm h) hd
theorem lG {E:T7->T_->Prop}{H:Hp}{pos:Pos}{Q:T7->T_->Prop}(I:Inv X TN σ H s) (hg:Gl X x) (hm:X.mg x=none) (hv:Vd x=some u) (h:Q u s)
 (hn:x≠"__name__":=by decide) (hd:(x == ("__debug__":Str))=false:=by decide):Uu (UB X.prog X.w) X.A (eval (.Name x pos) X.env) Q E s:=by obtain ⟨mb,h1,h2⟩:=I.mod.blt;exact ZF I.ok.kind hg (Calls.loadGlobal_builtin (by rw [I.ok.glob];exact I.mod.glob.keeps I.bk) hm (by rw [I.ok.blt];exact h1.keeps I.bk) ((h2 x hn).trans hv) h) hd
theorem BO {pos:Pos}(hg:Gl X x) (hm:X.mg x=some u) (r:RelV v u) (hd:(x == ("__debug__":Str))=false:=by decide):PE X (.Name x pos) (tC v):=
 λ_ _ _ H _ I h=>BA I hg hm ⟨v,H,I,r,h⟩ hd
theorem KL {pos:Pos}(hg:Gl X x) (hm:X.mg x=none) (hv:Vd x=some u) (r:RelV v u) (hn:x≠"__name__":=by decide) (hd:(x == ("__debug__":Str))=false:=by decide):PE X (.Name x pos) (tC v):=
 λ_ _ _ H _ I h=>lG I hg hm hv ⟨v,H,I,r,h⟩ hn hd
variable {a b:UU}{ta tb:TE}{pos:Pos}
noncomputable def PC (X:Cx) (op:CmpOp) (a b:UU) (t:TE):Prop:=
 ∀(TN:List (UA×Obj)) (s:T_) (σ:St) (H:Hp) (Q:VK),Inv X TN σ H s->t σ H Q->
  Uu (UB X.prog X.w) X.A (eval a X.env) (λv s₁=>Uu (UB X.prog X.w) X.A (eval b X.env) (λu s₂=>Uu (UB X.prog X.w) X.A (Vz op v u) (EP X TN σ Q) X.xe s₂) X.xe s₁) X.xe s
theorem Hg (b:UU) (h:op≠.In) (h2:op≠.NotIn):Vs op b=false:=by
 have e1:(op == aeZ)=false:=by cases op <;> first | rfl | exact absurd rfl h
 have e2:(op == ad_)=false:=by cases op <;> first | rfl | exact absurd rfl h2
 cases b <;> simp [Vs,e1,e2]
def tB (t:TE):TT:=λσ H Q=>t σ H λx H1=>∃c,x=.bl c/\Q c H1
theorem Qs {op:CmpOp}{t:TE}(h:PC X op a b t) (h1:Vs op b=false:=by first | exact Hg _ (by decide) (by decide) | rfl):PT X (.Compare a [op] [b] pos) (tB t):=by intro TN s σ H Q I hw;refine aat (bN (h TN s σ H _ I hw) λv s1 h1=>bN h1 λu s2 h2=>bN h2 λc s3 ⟨x,H1,I1,r1,q1⟩=>?_) h1;obtain ⟨d,rfl,q⟩:=q1;cases r1;exact Vg ⟨H1,I1,q⟩
theorem Nu {e:UU}{t:TE}(h:PE X e t) (he:∀whole,aa5 e X.env whole=(do let v <-whole;Xz e.pos;holding [v] (truthy v)):=by intro _;rfl):PT X e (tB t):=by intro TN s σ H Q I hw;refine isTrue_plain (bN (h TN s σ H _ I hw) λv s1 ⟨x,H1,I1,r1,q1⟩=>?_) (he _);obtain ⟨d,rfl,q⟩:=q1;cases r1;exact Vg ⟨H1,I1,q⟩
variable {tA tB':TT}{rest:List UU}
def P9 (t u:TT):TT:=λσ H Q=>t σ H λc H1=>if c=true then u σ H1 Q else Q false H1
def Qx (t u:TT):TT:=λσ H Q=>t σ H λc H1=>if c=true then Q true H1 else u σ H1 Q
def Qg (t:TT):TT:=λσ H Q=>t σ H λc H1=>Q (!c) H1
theorem K0 (ha:PT X a tA):PW X (.BoolOp .And [a] pos) tA:=by
 intro wh TN s σ H Q I h;refine isTrue_and (bN (ha TN s σ H Q I h) λc s1 e=>?_);cases c with
 | true=>exact isTrue_and_nil e
 | false=>exact e
theorem Nx (ha:PT X a tA):PW X (.BoolOp .Or [a] pos) tA:=by
 intro wh TN s σ H Q I h;refine isTrue_or (bN (ha TN s σ H Q I h) λc s1 e=>?_);cases c with
 | false=>exact isTrue_or_nil e
 | true=>exact e
theorem Nv (ha:PT X a tA) (hb:PW X (.BoolOp .And (b::rest) pos) tB'):PW X (.BoolOp .And (a::b::rest) pos) (P9 tA tB'):=by
 intro wh TN s σ H Q I h;refine isTrue_and (bN (ha TN s σ H _ I h) λc s1 ⟨H1,I1,q1⟩=>?_);cases c with
 | true=>exact hb wh TN s1 σ H1 Q I1 q1
 | false=>exact ⟨H1,I1,q1⟩
theorem OA (ha:PT X a tA) (hb:PW X (.BoolOp .Or (b::rest) pos) tB'):PW X (.BoolOp .Or (a::b::rest) pos) (Qx tA tB'):=by
 intro wh TN s σ H Q I h;refine isTrue_or (bN (ha TN s σ H _ I h) λc s1 ⟨H1,I1,q1⟩=>?_);cases c with
 | true=>exact ⟨H1,I1,q1⟩
 | false=>exact hb wh TN s1 σ H1 Q I1 q1
theorem Nt (ha:PT X a tA):PT X (.UnaryOp .Not a pos) (Qg tA):=by intro TN s σ H Q I h;exact isTrue_not (ha TN s σ H (λc H1=>Q (!c) H1) I h)
def ON (ta tb:TE):TE:=λσ H Q=>ta σ H λx H1=>∃c,x=.bl c/\if c=true then tb σ H1 Q else Q (.bl false) H1
def Qh (ta tb:TE):TE:=λσ H Q=>ta σ H λx H1=>∃c,x=.bl c/\if c=true then Q (.bl true) H1 else tb σ H1 Q
def OS (ta:TE):TE:=λσ H Q=>ta σ H λx H1=>∃c,x=.bl c/\Q (.bl (!c)) H1
theorem Ng {op}{t:TE}(h:PE X a t):PE X (.BoolOp op [a] pos) t:=λTN s σ H Q I hw=>BoolOp_one (h TN s σ H Q I hw)
theorem Na (ha:PE X a ta) (hb:PE X (.BoolOp .And (b::rest) pos) tb):PE X (.BoolOp .And (a::b::rest) pos) (ON ta tb):=by
 intro TN s σ H Q I h;refine BoolOp_and (bN (ha TN s σ H _ I h) λv s1 ⟨x,H1,I1,r1,q1⟩=>?_);obtain ⟨c,rfl,q1⟩:=q1;cases r1;refine Vg ?_;cases c with
 | true=>exact hb TN s1 σ H1 Q I1 q1
 | false=>exact ⟨.bl false,H1,I1,rfl,q1⟩
theorem Ow (ha:PE X a ta) (hb:PE X (.BoolOp .Or (b::rest) pos) tb):PE X (.BoolOp .Or (a::b::rest) pos) (Qh ta tb):=by
 intro TN s σ H Q I h;refine BoolOp_or (bN (ha TN s σ H _ I h) λv s1 ⟨x,H1,I1,r1,q1⟩=>?_);obtain ⟨c,rfl,q1⟩:=q1;cases r1;refine Vg ?_;cases c with
 | false=>exact hb TN s1 σ H1 Q I1 q1
 | true=>exact ⟨.bl true,H1,I1,rfl,q1⟩
theorem Nf (ha:PE X a ta):PE X (.UnaryOp .Not a pos) (OS ta):=by intro TN s σ H Q I h;refine UnaryOp_ (bN (ha TN s σ H _ I h) λv s1 ⟨x,H1,I1,r1,q1⟩=>?_);obtain ⟨c,rfl,q1⟩:=q1;cases r1;exact not_of (Vg ⟨.bl (!c),H1,I1,rfl,q1⟩)
end
noncomputable def cg (K:T5) (H:Hp) (a:UA) (xs:List V):Prop:=
 Rd H a (.lst xs)\/
  ∃(o:Obj) (TR:Array T7) (n:Nat),K.lookup a=some o/\o.cls=.type "list"/\o.dict=none/\o.data=.seq TR n/\TR.size<=sizeLine/\Vals xs TR.toList
noncomputable def c7 (K:T5) (H:Hp) (a:UA) (xs:List V):Prop:=
 Rd H a (.tup xs)\/
  ∃(o:Obj) (TR:Array T7) (n:Nat),K.lookup a=some o/\o.cls=.type "tuple"/\o.data=.seq TR n/\TR.size<=sizeLine/\Vals xs TR.toList
noncomputable def Pw:T7->Option V
 | .none=>some .non
 | .bool b=>some (.bl b)
 | .int i _=>some (.int i)
 | .str x _=>some (.str x)
 | .bytes b _=>some (.byt b)
 | .float b _=>some (.flt b)
 | .ref a=>some (.ref a)
 | .type n=>some (.ty n)
 | _=>none
theorem RelV.abs (r:RelV x u):Pw u=some x:=by
 cases x with
 | non=>cases r;rfl
 | bl _=>cases r;rfl
 | int _=>obtain ⟨t,rfl⟩:=r;rfl
 | str _=>obtain ⟨t,rfl⟩:=r;rfl
 | byt _=>obtain ⟨t,rfl⟩:=r;rfl
 | flt _=>obtain ⟨t,rfl⟩:=r;rfl
 | ref _=>cases r;rfl
 | ty _=>cases r;rfl
theorem RelV.inj (r:RelV x u) (q:RelV y u):x=y:=Vl (r.abs.symm.trans q.abs)
theorem Vals.inj:∀{xs ys:List V}{us:List T7},Vals xs us->Vals ys us->xs=ys
 | _,_,_,.nil,.nil=>rfl
 | _,_,_,.cons r t,.cons r' t'=>by rw [r.inj r',Vals.inj t t']
section
variable {X:Cx}{TN:List (UA×Obj)}{σ:St}{H:Hp}{s:T_}{a:UA}{xs ys:List V}
theorem cg.of {K:T5}(h:H a=some (.lst xs)):cg K H a xs:=.inl (.inl h)
theorem Inv.list (I:Inv X TN σ H s) (h:cg X.K H a xs):∃TR:List T7,Vals xs TR/\PlainL s.heap a TR.toArray/\xs.length<=sizeLine:=by
 rcases h with h | ⟨o,TR,n,hk,hc,hd,hs,hz,r⟩
 ·obtain ⟨z,TR,n,r,e⟩:=h.ok I.hok;exact ⟨TR,r,⟨_,n,e,rfl,rfl,rfl⟩,z⟩
 ·refine ⟨TR.toList,r,⟨o,n,I.kIn a o hk,hc,hd,by simpa using hs⟩,?_⟩;have e:=r.length;simp only [Ux] at e;omega
theorem Inv.tuple (I:Inv X TN σ H s) (h:c7 X.K H a xs):∃TR:List T7,Vals xs TR/\adV s.heap a TR.toArray/\xs.length<=sizeLine:=by
 rcases h with h | ⟨o,TR,n,hk,hc,hs,hz,r⟩
 ·obtain ⟨z,TR,r,p⟩:=h.ok I.hok;exact ⟨TR,r,p,z⟩
 ·refine ⟨TR.toList,r,⟨o,I.kIn a o hk,hc,n,by simpa using hs⟩,?_⟩;have e:=r.length;simp only [Ux] at e;omega
theorem Inv.list_inj (I:Inv X TN σ H s) (h:cg X.K H a xs) (h':cg X.K H a ys):xs=ys:=by
 obtain ⟨TR,r,⟨o,n,e,_,_,d⟩,_⟩:=I.list h;obtain ⟨its',r',⟨o',n',e',_,_,d'⟩,_⟩:=I.list h';rw [e] at e';cases e';rw [d] at d';injection d' with d1 _
 have:TR=its':=by simpa using congrArg aau d1
 subst this;exact r.inj r'
theorem Inv.tuple_inj (I:Inv X TN σ H s) (h:c7 X.K H a xs) (h':c7 X.K H a ys):xs=ys:=by
 obtain ⟨TR,r,⟨o,e,_,n,d⟩,_⟩:=I.tuple h;obtain ⟨its',r',⟨o',e',_,n',d'⟩,_⟩:=I.tuple h';rw [e] at e';cases e';rw [d] at d';injection d' with d1 _
 have:TR=its':=by simpa using congrArg aau d1
 subst this;exact r.inj r'
end
abbrev Cx.wish (X:Cx) (E:T7->T_->Prop):Cx:={X with xe:=E}
abbrev Cx.nox (X:Cx):Cx:=X.wish λ_ _=>False
theorem Cx.Ok.wish {X:Cx}(ok:X.Ok) (E:T7->T_->Prop):(X.wish E).Ok:=
 ⟨ok.mod,ok.kind,ok.glob,ok.blt,ok.above,ok.inj,ok.has,ok.cab,ok.hd,ok.frames,ok.stk,ok.exf,ok.bs,ok.bsz,ok.noex,ok.exfs,ok.funs,ok.frf⟩
theorem Cx.Ok.unwish {X:Cx}{E:T7->T_->Prop}(ok:(X.wish E).Ok):X.Ok:=
 ⟨ok.mod,ok.kind,ok.glob,ok.blt,ok.above,ok.inj,ok.has,ok.cab,ok.hd,ok.frames,ok.stk,ok.exf,ok.bs,ok.bsz,ok.noex,ok.exfs,ok.funs,ok.frf⟩
section
variable {X:Cx}{TN:List (UA×Obj)}{σ:St}{H:Hp}{s:T_}{E:T7->T_->Prop}
theorem Inv.wish (I:Inv X TN σ H s) (E:T7->T_->Prop):Inv (X.wish E) TN σ H s:=⟨I.ok.wish E,I.os,I.bare,I.base,I.loc,I.cell,I.free,I.freeC,I.pin,I.hok,I.len⟩
theorem Inv.unwish (I:Inv (X.wish E) TN σ H s):Inv X TN σ H s:=⟨I.ok.unwish,I.os,I.bare,I.base,I.loc,I.cell,I.free,I.freeC,I.pin,I.hok,I.len⟩
theorem SP.unwish {D:Ends}(h:SP (X.wish E) TN D f s'):SP X TN D f s':=by
 cases f with
 | next=>obtain ⟨σ',H',I,q⟩:=h;exact ⟨σ',H',I.unwish,q⟩
 | brk=>obtain ⟨σ',H',I,q⟩:=h;exact ⟨σ',H',I.unwish,q⟩
 | cont=>obtain ⟨σ',H',I,q⟩:=h;exact ⟨σ',H',I.unwish,q⟩
 | ret u=>obtain ⟨v,σ',H',I,r,q⟩:=h;exact ⟨v,σ',H',I.unwish,r,q⟩
theorem jF.nox {st:List WM}{t:TS}(h:jF X.nox st t):jF X st t:=λTN s σ H D I hw=>
 UZ (h TN s σ H D (I.wish _) hw) (λ_ _ q=>q.unwish) λ_ _ z=>XJ z
end
section
variable {X:Cx}{st:WM}{rest:List WM}{t u:TS}{e:UU}{te:TE}{pos:Pos}
def OQ:TS:=λD σ H=>D.nx σ H
def Qj (t u:TS):TS:=λD σ H=>t {D with nx:=u D} σ H
theorem KU:jF X [] OQ:=λ_ _ σ H _ I h=>Zo ⟨σ,H,I,h⟩
theorem Ai (h1:PS X st t) (h2:jF X rest u):jF X (st::rest) (Qj t u):=by
 intro TN s σ H D I h;refine ach (bN (h1 TN s σ H {D with nx:=u D} I h) λf s1 q=>?_);cases f with
 | next=>
  obtain ⟨σ',H',I',q⟩:=q;exact h2 TN s1 σ' H' D I' q
 | ret v=>exact q
 | brk=>exact q
 | cont=>exact q
theorem KW (h1:PS X st t):jF X [st] t:=by
 intro TN s σ H D I h;refine ach (bN (h1 TN s σ H D I h) λf s1 q=>?_);cases f with
 | next=>exact Zo q
 | ret v=>exact q
 | brk=>exact q
 | cont=>exact q
theorem Inv.quiet {H:Hp}(I:Inv X TN σ H s):interactive X.env=false:=by simp [interactive,I.ok.kind]
def OP (te:TE):TS:=λD σ H=>te σ H λ_ H1=>D.nx σ H1
theorem nD (he:PE X e te) (hs:Yi e none pos.line X.env=pure false:=by rfl):PS X (.Expr e pos) (OP te):=by intro TN s σ H D I h;exact wpAny_Expr_any (bN (he TN s σ H _ I h) λv s1 ⟨x,H1,I1,r1,q1⟩=>⟨σ,H1,I1,q1⟩) I.quiet hs
def Qi (te:TE):TS:=λD σ H=>te σ H D.rt
theorem Nr (he:PE X e te):PS X (.Return (some e) pos) (Qi te):=by intro TN s σ H D I h;exact wpAny_Return_some (bN (he TN s σ H _ I h) λv s1 ⟨x,H1,I1,r1,q1⟩=>⟨x,σ,H1,I1,r1,q1⟩)
def Qd (c:TT) (t u:TS):TS:=λD σ H=>c σ H λb H1=>if b=true then t D σ H1 else u D σ H1
theorem Oz {c:UU}{a b:List WM}{tc:TT}(hc:PT X c tc) (ha:jF X a t) (hb:jF X b u):PS X (.If c a b pos) (Qd tc t u):=by
 intro TN s σ H D I h;refine wpAny_If (bN (hc TN s σ H _ I h) λd s1 ⟨H1,I1,q1⟩=>?_);cases d with
 | true=>exact ha TN s1 σ H1 D I1 q1
 | false=>exact hb TN s1 σ H1 D I1 q1
end
abbrev TG:=V->St->Hp->(St->Hp->Prop)->Prop
abbrev wO:=List V->St->Hp->(St->Hp->Prop)->Prop
noncomputable def PG (X:Cx) (TU:UU) (t:TG):Prop:=
 ∀(TN:List (UA×Obj)) (s:T_) (σ:St) (H:Hp) (v:V) (u:T7) (Q:St->Hp->Prop),Inv X TN σ H s->RelV v u->t v σ H Q->
  Uu (UB X.prog X.w) X.A (assign TU X.env u) (λ_ s'=>∃σ' H',Inv X TN σ' H' s'/\Q σ' H') X.xe s
noncomputable def yT (X:Cx) (ts:List UU) (t:wO):Prop:=
 ∀(TN:List (UA×Obj)) (s:T_) (σ:St) (H:Hp) (vs:List V) (us:List T7) (Q:St->Hp->Prop),Inv X TN σ H s->Vals vs us->t vs σ H Q->
  Uu (UB X.prog X.w) X.A (assignInOrder ((W7 ts X.env).map (·.2)) us) (λ_ s'=>∃σ' H',Inv X TN σ' H' s'/\Q σ' H') X.xe s
abbrev Cg:=V->V->V->Hp->(Hp->Prop)->Prop
noncomputable def LK (X:Cx) (t:Cg):Prop:=
 ∀(TN:List (UA×Obj)) (s:T_) (σ:St) (H:Hp) (o i v:V) (ov iv u:T7) (Q:Hp->Prop),Inv X TN σ H s->RelV o ov->RelV i iv->RelV v u->t o i v H Q->
  Uu (UB X.prog X.w) X.A (setItem ov iv u) (λ_ s'=>∃H',Inv X TN σ H' s'/\Q H') X.xe s
abbrev LN:=V->V->Hp->VK->Prop
noncomputable def Qo (X:Cx) (op:aex) (t:LN):Prop:=
 ∀(TN:List (UA×Obj)) (s:T_) (σ:St) (H:Hp) (x y:V) (v u:T7) (Q:VK),Inv X TN σ H s->RelV x v->RelV y u->t x y H Q->
  Uu (UB X.prog X.w) X.A (aav op v u) (EP X TN σ Q) X.xe s
section
variable {X:Cx}{pos:Pos}
def IP (i:Nat):TG:=λv σ H Q=>Q (σ.set i (some v)) H
theorem KP (hN:X.N.Nodup) (hi:X.N[i]?=some x) (hx:Loc X.env.scope x) (hf:X.fn x=true\/X.env.scope.names.lookup x=some .local:=by first | exact .inl rfl | exact .inr rfl | assumption):PG X (.Name x pos) (IP i):=by intro TN s σ H v u Q I r h;exact wpAny_assign_Name (tV I hN hi hx r (λs' I'=>⟨_,H,I',h⟩) hf)
def aG:wO:=λvs σ H Q=>vs=[]/\Q σ H
def ao (t:TG) (u:wO):wO:=λvs σ H Q=>∃v r,vs=v::r/\t v σ H λσ' H'=>u r σ' H' Q
theorem KQ:yT X [] aG:=by intro TN s σ H vs us Q I r h;obtain ⟨e,h⟩:=h;subst e;cases r;exact assignInOrder_nil ⟨σ,H,I,h⟩
theorem HA {e:UU}{es:List UU}{t:TG}{u:wO}(h1:PG X e t) (h2:yT X es u)
  (hs:(W7 (e::es) X.env).map (·.2)=assign e X.env::(W7 es X.env).map (·.2):=by rfl):yT X (e::es) (ao t u):=by
 intro TN s σ H vs us Q I r h;obtain ⟨v,vr,e1,h⟩:=h;subst e1;cases r with
 | cons r rr=>
  rw [hs];refine assignInOrder_cons (bN (h1 TN s σ H _ _ _ I r h) λ_ s1 ⟨σ1,H1,I1,q1⟩=>?_);exact h2 TN s1 σ1 H1 _ _ Q I1 rr q1
def bC (K:T5) (n:Nat) (t:wO):TG:=λv σ H Q=>∃a xs,v=.ref a/\c7 K H a xs/\xs.length=n/\t xs σ H Q
theorem Nk (hc:X.calm=true) (h:yT X es t)
 (hn:(W7 es X.env).length=n:=by rfl) (hst:(W7 es X.env).findIdx? (·.1)=none:=by rfl):PG X (.Tuple es k pos) (bC X.K n t):=by intro TN s σ H v u Q I r hw;obtain ⟨a,xs,e1,hq,hl,hw⟩:=hw;subst e1;cases r;obtain ⟨TR,rv,ht,hz⟩:=I.tuple hq;refine assign_Tuple_tuple (I.ok.hd hc) ht (by simp [hn,<-hl,rv.length]) hst λh' hx=>?_;have I1:Inv X TN σ H {s with heap:=h'}:=I.kept (t':=s.toks) λb o e=>hx b o (UE (Uq e)) e;exact h TN _ σ H xs _ Q I1 (by simpa using rv) hw
def PJ (to ti:TE) (t:Cg):TG:=λv σ H Q=>to σ H λo H1=>ti σ H1 λi H2=>t o i v H2 λH3=>Q σ H3
theorem Nj {o i:UU}{to ti:TE}{t:Cg}(ho:PE X o to) (hi:PE X i ti) (hs:LK X t)
  (ha:∀v,assign (.Subscript o i pos) X.env v=(do
   let ov <-holding [v] (eval o X.env)
   let iv <-holding [v,ov] (eval i X.env)
   Xz pos
   holding [v,ov,iv] (setItem ov iv v)
   release [v,ov,iv] []):=by intro _;rfl):PG X (.Subscript o i pos) (PJ to ti t):=by intro TN s σ H v u Q I r h;rw [ha];refine T4 (UN (bN (ho TN s σ H _ I h) λov s1 ⟨x,H1,I1,r1,q1⟩=>?_));refine T4 (UN (bN (hi TN s1 σ H1 _ I1 q1) λiv s2 ⟨y,H2,I2,r2,q2⟩=>?_));refine T4 (Xi (T4 (UN (bN (hs TN s2 σ H2 x y v ov iv u _ I2 r1 r2 r q2) λ_ s3 ⟨H3,I3,q3⟩=>?_))));exact wpAny_release ⟨σ,H3,I3,q3⟩
def Ii (te:TE) (g:TG):TS:=λD σ H=>te σ H λx H1=>g x σ H1 D.nx
theorem Fl {tg e:UU}{te:TE}{g:TG}(he:PE X e te) (hg:PG X tg g) (hs:Z1 [tg] e pos.line X.env=pure false:=by rfl) (hw:abo [tg] e X.env=pure none:=by rfl)
  (h1:(W7 [tg] X.env).map (·.2)=[assign tg X.env]:=by rfl):PS X (.Assign [tg] e pos) (Ii te g):=by intro TN s σ H D I h;refine wpAny_Assign_stores (bN (he TN s σ H _ I h) λv s1 ⟨x,H1,I1,r1,q1⟩=>?_) hs hw;rw [h1];exact bN (hg TN s1 σ H1 x v _ I1 r1 q1) λ_ s2 q=>q
theorem Fp {i:Nat}{x:Str}{e:UU}{te:TE}{pos':Pos}(hN:X.N.Nodup) (hi:X.N[i]?=some x) (hx:Loc X.env.scope x) (he:PE X e te) (hs:Yi e (some (.Name x pos')) pos.line X.env=pure false:=by rfl) (hf:X.fn x=true\/X.env.scope.names.lookup x=some .local:=by first | exact .inl rfl | exact .inr rfl | assumption):
  PS X (.Assign [.Name x pos'] e pos) (Ii te (IP i)):=by intro TN s σ H D I h;refine wpAny_Assign_Name (bN (he TN s σ H _ I h) λv s1 ⟨y,H1,I1,r1,q1⟩=>?_) hs;exact tV I1 hN hi hx r1 (λs2 I2=>⟨_,H1,I2,q1⟩) hf
def P_ (i:Nat) (te:TE) (ti:LN):TS:=λD σ H=>∃x,σ[i]?=some (some x)/\te σ H λy H1=>ti x y H1 λz H2=>D.nx (σ.set i (some z)) H2
theorem Np {i:Nat}{x:Str}{e:UU}{te:TE}{op:aex}{ti:LN}{pos':Pos}(hN:X.N.Nodup) (hi:X.N[i]?=some x) (hx:Loc X.env.scope x) (he:PE X e te) (ho:Qo X op ti) (hf:X.fn x=true\/X.env.scope.names.lookup x=some .local:=by first | exact .inl rfl | exact .inr rfl | assumption):
  PS X (.AugAssign (.Name x pos') op e pos) (P_ i te ti):=by
 intro TN s σ H D I h;obtain ⟨v,e1,h⟩:=h;obtain ⟨m,hn,hl⟩:=I.loc;have vis:pH X.env.scope x:=by rcases hx with k | k;exact .inl k;exact .inr (.inl k)
 obtain ⟨u,r,l⟩:=hl i x v hi e1 vis;refine wpAny_AugAssign_Name ?_;have go:Uu (UB X.prog X.w) X.A (eval e X.env) (λw s₂=>Uu (UB X.prog X.w) X.A (aav op u w) (λr s₃=>Uu (UB X.prog X.w) X.A (adW X.env x r) (λ_=>SP X TN D .next) X.xe s₃) X.xe s₂) X.xe s:=by refine bN (he TN s σ H _ I h) λw s1 ⟨y,H1,I1,r1,q1⟩=>?_;refine bN (ho TN s1 σ H1 v y u w _ I1 r r1 q1) λz s2 ⟨zv,H2,I2,r2,q2⟩=>?_;exact tV I2 hN hi hx r2 (λs3 I3=>⟨_,H2,I3,q2⟩) hf
 rcases l with ⟨hk,hm⟩ | ⟨hk,c,hc,hcell⟩
 ·exact aaZ I.ok.kind hk hn hm go
 ·rcases hk with hk | hk
  ·exact abd I.ok.kind hk hc hcell go
  ·rcases hx with k | k
   ·have:X.env.scope.names.lookup x=some .free:=hk;rw [k] at this;cases this
   ·have:X.env.scope.names.lookup x=some .free:=hk;rw [k] at this;cases this
noncomputable def NQ (c:TT) (tb:TS):TS:=λD σ H=>∃W:Nat->St->Hp->Prop,(∃m,W m σ H)/\∀m σ H,W m σ H->
 c σ H λb H1=>if b=true then ∃N:St->Hp->Prop,(∀σ' H',N σ' H'->∃m',m' < m/\W m' σ' H')/\tb {D with nx:=N,ct:=N,bk:=D.nx} σ H1 else D.nx σ H1
theorem HC {c:UU}{body:List WM}{tc:TT}{tb:TS}(hp:acw (UB X.prog X.w) X.A X.env X.xe) (hc:PT X c tc) (hb:jF X body tb):PS X (.While c body [] pos) (NQ tc tb):=by
 intro TN s σ H D I h;obtain ⟨W,⟨m0,w0⟩,turn⟩:=h;refine wpAny_While (codeAny_whileLoop (λn s'=>∃σ' H',Inv X TN σ' H' s'/\W n σ' H') ?_ m0 ⟨σ,H,I,w0⟩);rintro n s1 ⟨σ1,H1,I1,w1⟩;refine W8 hp (bN (hc TN s1 σ1 H1 _ I1 (turn n σ1 H1 w1)) λb s2 ⟨H2,I2,q2⟩=>?_);cases b with
 | true=>
  obtain ⟨N,hN,q2⟩:=q2;rw [if_pos rfl];refine W8 hp (bN (hb TN s2 σ1 H2 _ I2 q2) λf s3 q3=>?_);cases f with
  | next=>
   obtain ⟨σ3,H3,I3,n3⟩:=q3;obtain ⟨m',hm,w3⟩:=hN σ3 H3 n3;exact ⟨m',hm,σ3,H3,I3,w3⟩
  | cont=>
   obtain ⟨σ3,H3,I3,n3⟩:=q3;obtain ⟨m',hm,w3⟩:=hN σ3 H3 n3;exact ⟨m',hm,σ3,H3,I3,w3⟩
  | brk=>exact q3
  | ret v=>exact q3
 | false=>
  rw [if_neg UH];exact Zo ⟨σ1,H2,I2,q2⟩
end
structure It where
 go:Nat->Hp->Prop
 yld:Nat->Hp->V->Hp->Prop
 stop:Nat->Hp->Prop
noncomputable def ki (X:Cx) (TN:List (UA×Obj)) (H:Hp) (b:UA):Prop:=
 H b=none/\b≠X.env.locals/\b∉X.fs/\(b∈X.ex\/X.s₀.heap.objs.size<=b)/\(∀x c,X.env.cells.lookup x=some c->c≠b)/\∀p∈X.pn++TN,p.1≠b
theorem Inv.fpOk {H H':Hp}{s:T_}(I:Inv X TN σ H s) (hb:s.heap.objs.size<=b) (hn:H' b=none):ki X TN H' b:=by
 refine ⟨hn,Xf (UG I.lt hb),I.nofs hb,.inr (UC I.sz hb),λx c e z=>?_,λp hp z=>?_⟩
 ·obtain ⟨v,q⟩:=I.cell x c e;exact absurd (UG q.lt (by rw [z];exact hb)) (Wb _)
 ·exact absurd (UG (Uq (I.pin p hp).1) (by rw [z];exact hb)) (Wb _)
structure Turn (P:Uv) (w:US) (K:T5) (tg:UU) (J:It) (fp:List UA) (it:UA) (tn:Nat->VJ->Prop):Prop where
 mem:it∈fp
 obj:∀i h,tn i h->∀b∈fp,∃o,h.get? b=some o/\∀v,o.data≠.cell v
 keep:∀i h h',tn i h->(∀b∈fp,∀o,h.get? b=some o->h'.get? b=some o)->tn i h'
 item:∀(X:Cx),X.prog=P->X.w=w->X.K=K->X.calm=true->∀(i:Nat) (TN:List (UA×Obj)) (s:T_) (σ:St) (H:Hp) (E:T7->T_->Prop),Inv X TN σ H s->(∀b∈fp,ki X TN H b)->tn i s.heap->J.go i H->
  Uu (UB P w) X.A (XA (.ref it)) (λr s1=>∃u,r=some u/\
   Uu (UB P w) X.A (WE tg (.ref it) u) (λ_ s2=>∃x H',Inv X TN σ H' s2/\RelV x u/\J.yld i H x H'/\tn (i + 1) s2.heap/\∀b∈fp,H' b=none) E s1) E s
 done:∀(X:Cx),X.prog=P->X.w=w->X.K=K->X.calm=true->∀(i:Nat) (TN:List (UA×Obj)) (s:T_) (σ:St) (H:Hp) (E:T7->T_->Prop),Inv X TN σ H s->(∀b∈fp,ki X TN H b)->tn i s.heap->J.stop i H->
  Uu (UB P w) X.A (XA (.ref it)) (λr s1=>r=none/\Inv X TN σ H s1) E s
 self:∀(A:UW) (i:Nat) (s:T_) (Q:T7->T_->Prop) (E:T7->T_->Prop),tn i s.heap->Q (.ref it) s->Uu (UB P w) A (ZJ (.ref it)) Q E s
abbrev TI:=St->Hp->(It->Hp->Prop)->Prop
noncomputable def O8 (X:Cx) (TN:List (UA×Obj)) (σ:St) (tg:UU) (R:It->Hp->Prop) (itv:T7) (s2:T_):Prop:=
 ∃(it:UA) (fp:List UA) (tn:Nat->VJ->Prop) (J:It) (H':Hp),itv=.ref it/\Inv X TN σ H' s2/\Turn X.prog X.w X.K tg J fp it tn/\tn 0 s2.heap/\(∀b∈fp,ki X TN H' b)/\R J H'
noncomputable def PI (X:Cx) (tg TV:UU) (wi:TI):Prop:=
 ∀(TN:List (UA×Obj)) (s:T_) (σ:St) (H:Hp) (R:It->Hp->Prop),Inv X TN σ H s->wi σ H R->
  Uu (UB X.prog X.w) X.A (eval TV X.env) (λv s1=>Uu (UB X.prog X.w) X.A (ZJ v) (O8 X TN σ tg R) X.xe s1) X.xe s
theorem uK {M:aeJ}{E:T7->T_->Prop}{s:T_}{o:Obj}{Q:Unit->T_->Prop}(ho:s.heap.get? it=some o) (hc:o.cls=.type n) (hd:o.data=.fields vs)
 (hn:["enumerate","zip","dict_itemiterator","dict_reverseitemiterator","odict_iterator","itertools.zip_longest","itertools.pairwise"].contains n=false) (hQ:Q () s):Uu M A (WE tg (.ref it) u) Q E s:=by
 unfold WE;cases tg <;> first
  | exact T6 hQ
  | (cases u <;> first
    | exact T6 hQ
    | (refine T4 (adk ho ?_);rw [hc,hd];show Uu M A (if (["enumerate","zip","dict_itemiterator","dict_reverseitemiterator","odict_iterator","itertools.zip_longest","itertools.pairwise"].contains n && vs[0]? == some (aad _))=true then _ else _) Q E s;rw [if_neg (by intro h;rw [hn,acZ] at h;cases h)];exact T6 hQ))
noncomputable def Ir (K:T5) (a:UA):It:=
 ⟨λi H=>∃xs x,cg K H a xs/\xs[i]?=some x,λi H x H'=>H'=H/\∀xs,cg K H a xs->xs[i]?=some x,λi H=>∃xs,cg K H a xs/\xs.length<=i⟩
noncomputable def Iv (K:T5) (a:UA):It:=
 ⟨λi H=>∃xs x,c7 K H a xs/\xs[i]?=some x,λi H x H'=>H'=H/\∀xs,c7 K H a xs->xs[i]?=some x,λi H=>∃xs,c7 K H a xs/\xs.length<=i⟩
def Iu (lo:Int) (n:Nat):It:=⟨λi _=>i < n,λi H x H'=>H'=H/\x=.int (lo + i),λi _=>n<=i⟩
theorem F9 {P:Uv}{w:US}{K:T5}{tg:UU}(a it:UA):Turn P w K tg (Ir K a) [it] it (λi h=>h.IsListIter it a i) where
 mem:=by simp
 obj:=λi h st b hb=>by
  have e:b=it:=by simpa using hb
  subst e;obtain ⟨o,e,c,d⟩:=st;exact ⟨o,e,λv z=>by rw [d] at z;cases z⟩
 keep:=λi h h' st k=>st.at λo e=>k it (by simp) o e
 item:=by intro X hP hw hK hc i TN s σ H E I hf st hg;subst hP hw hK;obtain ⟨xs,x,hq,hx⟩:=hg;obtain ⟨TR,rv,p,hz⟩:=I.list hq;obtain ⟨u,hu,ru⟩:=rv.get hx;obtain ⟨f0,f1,f2,f3,f4,f5⟩:=hf it (by simp);refine wpAny_pyNext_list_item st p.isList (x:=u) (by simpa using hu) λh' st' sb=>?_;have I1:Inv X TN σ H {s with heap:=h'}:=I.turned (t':=s.toks) (λb o hb e=>(sb.2 b hb).trans e) f0 f1 f3 f4 f5;obtain ⟨o,e,c,d⟩:=id st';exact ⟨u,rfl,uK (s:={s with heap:=h'}) e c d (by decide) ⟨x,H,I1,ru,⟨rfl,λys hy=>by rw [I.list_inj hy hq];exact hx⟩,st',λb hb=>(hf b hb).1⟩⟩
 done:=by intro X hP hw hK hc i TN s σ H E I hf st hg;subst hP hw hK;obtain ⟨xs,hq,hx⟩:=hg;obtain ⟨TR,rv,p,hz⟩:=I.list hq;obtain ⟨f0,f1,f2,f3,f4,f5⟩:=hf it (by simp);have hl:=rv.length;exact wpAny_pyNext_list_end (I.ok.hd hc) st p.isList (by simp;omega) λh' eb=>⟨rfl,I.turned (t':=s.toks) (λb o hb e=>eb b o hb e) f0 f1 f3 f4 f5⟩
 self:=λ_ _ _ _ _ st h=>wpAny_pyIter_listiter st h
theorem DC {P:Uv}{w:US}{K:T5}{tg:UU}(a it:UA):Turn P w K tg (Iv K a) [it] it (λi h=>h.IsTupleIter it a i) where
 mem:=by simp
 obj:=λi h st b hb=>by
  have e:b=it:=by simpa using hb
  subst e;obtain ⟨o,e,c,d⟩:=st;exact ⟨o,e,λv z=>by rw [d] at z;cases z⟩
 keep:=λi h h' st k=>st.at λo e=>k it (by simp) o e
 item:=by intro X hP hw hK hc i TN s σ H E I hf st hg;subst hP hw hK;obtain ⟨xs,x,hq,hx⟩:=hg;obtain ⟨TR,rv,p,hz⟩:=I.tuple hq;obtain ⟨u,hu,ru⟩:=rv.get hx;obtain ⟨f0,f1,f2,f3,f4,f5⟩:=hf it (by simp);refine wpAny_pyNext_tuple_item st (show s.heap.IsTuple a TR.toArray from p) (x:=u) (by simpa using hu) λh' st' sb=>?_;have I1:Inv X TN σ H {s with heap:=h'}:=I.turned (t':=s.toks) (λb o hb e=>(sb.2 b hb).trans e) f0 f1 f3 f4 f5;obtain ⟨o,e,c,d⟩:=id st';exact ⟨u,rfl,uK (s:={s with heap:=h'}) e c d (by decide) ⟨x,H,I1,ru,⟨rfl,λys hy=>by rw [I.tuple_inj hy hq];exact hx⟩,st',λb hb=>(hf b hb).1⟩⟩
 done:=by intro X hP hw hK hc i TN s σ H E I hf st hg;subst hP hw hK;obtain ⟨xs,hq,hx⟩:=hg;obtain ⟨TR,rv,p,hz⟩:=I.tuple hq;obtain ⟨f0,f1,f2,f3,f4,f5⟩:=hf it (by simp);have hl:=rv.length;exact wpAny_pyNext_tuple_end (I.ok.hd hc) st (show s.heap.IsTuple a TR.toArray from p) (by simp;omega) λh' eb=>⟨rfl,I.turned (t':=s.toks) (λb o hb e=>eb b o hb e) f0 f1 f3 f4 f5⟩
 self:=λ_ _ _ _ _ st h=>wpAny_pyIter_tupleiter st h
theorem DB {P:Uv}{w:US}{K:T5}{tg:UU}(it:UA) (lo:Int) (n:Nat):Turn P w K tg (Iu lo n) [it] it (λi h=>IsRangeIter h it (lo + (i:Nat) * 1) ((n:Int) - (i:Nat)) 1) where
 mem:=by simp
 obj:=λi h st b hb=>by
  have e:b=it:=by simpa using hb
  subst e;exact ⟨_,st,λv z=>by
   have z':Data.fields _=Data.cell v:=z;cases z'⟩
 keep:=λi h h' st k=>k it (by simp) _ st
 item:=by intro X hP hw hK hc i TN s σ H E I hf st hg;subst hP hw hK;obtain ⟨f0,f1,f2,f3,f4,f5⟩:=hf it (by simp);have W:=Walks.range (prog:=X.prog) (w:=X.w) (I.ok.hd hc) it lo 1 n;refine W.item i s _ _ hg st λv h' tk hv st' kk=>?_;obtain ⟨t,rfl⟩:=hv;have I1:Inv X TN σ H {s with heap:=h',toks:=tk}:=I.turned (λb o hb e=>kk b o (by simpa using hb) e) f0 f1 f3 f4 f5;refine ⟨_,rfl,uK (s:={s with heap:=h',toks:=tk}) (n:="range_iterator") st' rfl rfl (by decide) ⟨.int (lo + i),H,I1,⟨t,?_⟩,⟨rfl,rfl⟩,st',λb hb=>(hf b hb).1⟩⟩;rw [Int.mul_one]
 done:=by intro X hP hw hK hc i TN s σ H E I hf st hg;subst hP hw hK;obtain ⟨f0,f1,f2,f3,f4,f5⟩:=hf it (by simp);exact wpAny_pyNext_range_end (I.ok.hd hc) st (by have:n<=i:=hg;omega) λh' eb=>⟨rfl,I.turned (t':=s.toks) (λb o hb e=>eb b o hb e) f0 f1 f3 f4 f5⟩
 self:=λ_ _ _ _ _ st h=>wpAny_pyIter_rangeiter st h
section
variable {X:Cx}{tg:UU}
theorem HR {TN:List (UA×Obj)}{σ:St}{H:Hp}{s:T_}{R:It->Hp->Prop}{E:T7->T_->Prop}{lo hi:Int}{t u v:Tok}{tk:Nat}(I:Inv X TN σ H s) (h1:-(2 ^ 62)<=lo) (h2:lo < 2 ^ 62) (h3:-(2 ^ 62)<=hi) (h4:hi < 2 ^ 62)
  (q:R (Iu lo (hi - lo).toNat) H):Uu (UB X.prog X.w) X.A (ZJ (.ref s.heap.objs.size)) (O8 X TN σ tg R) E {s with heap:=s.heap.push {cls:=.type "range",data:=.fields #[.int lo t,.int hi u,.int 1 v]},toks:=tk}:=by
 refine wpAny_pyIter_range (IsRange.new ..) (small_one h1 h2 h3 h4) ?_;have I1:Inv X TN σ H {s with heap:=s.heap.push {cls:=.type "range",data:=.fields #[.int lo t,.int hi u,.int 1 v]},toks:=tk}:=I.kept λb o e=>T9 _ e;refine ⟨(s.heap.push {cls:=.type "range",data:=.fields #[.int lo t,.int hi u,.int 1 v]}).objs.size,[(s.heap.push {cls:=.type "range",data:=.fields #[.int lo t,.int hi u,.int 1 v]}).objs.size],_,_,H,rfl,
  I1.kept (t':=tk) λb o e=>T9 _ e,DB _ lo (hi - lo).toNat,?_,λb hb=>?_,q⟩
 ·have e1:lo + ((0:Nat):Int) * 1=lo:=by simp
  have e2:(((hi - lo).toNat:Nat):Int) - ((0:Nat):Int)=Z2 lo hi 1:=by rw [ady];split <;> omega
  show IsRangeIter _ _ (lo + ((0:Nat):Int) * 1) ((((hi - lo).toNat:Nat):Int) - ((0:Nat):Int)) 1;rw [e1,e2];exact Uh _ rfl
 ·have e:b=(s.heap.push {cls:=.type "range",data:=.fields #[.int lo t,.int hi u,.int 1 v]}).objs.size:=by simpa using hb
  subst e;exact I1.fpOk (Ud _) (I1.hok.fresh (Ud _))
def Oe (ta:TA):TI:=λσ H R=>ta σ H λvs H1=>∃j:Int,vs=[.int j]/\-(2 ^ 62)<=j/\j < 2 ^ 62/\R (Iu 0 j.toNat) H1
theorem Ff {a:UU}{ta:TA}{p pos:Pos}(hg:Gl X "range") (hm:X.mg "range"=none) (ha:PA X [a] ta) (hs:Uj [a] X.env=[(false,eval a X.env)]:=by rfl):PI X tg (.Call (.Name "range" p) [a] [] pos) (Oe ta):=by
 intro TN s σ H R I h;refine Call_ (lG I hg hm boot_range (Zp (bN (ha pos TN s σ H _ I h) λus s1 ⟨vs,H1,I1,r1,q1⟩=>?_) hs rfl));obtain ⟨j,e,q1,q2,q⟩:=q1;subst e;cases r1 with
 | cons r rr=>
  cases rr;obtain ⟨t,rfl⟩:=r;exact call_range_1 (HR I1 (by omega) (by omega) q1 q2 (by simpa using q))
noncomputable def Qc (wi:TI) (g:TG) (tb:TS):TS:=λD σ H=>wi σ H λJ H1=>∃W:Nat->Nat->St->Hp->Prop,(∃m,W 0 m σ H1)/\∀i m σ H,W i m σ H->
 (J.stop i H/\D.nx σ H)\/(J.go i H/\∃N:St->Hp->Prop,(∀σ' H',N σ' H'->∃m',m' < m/\W (i + 1) m' σ' H')/\∀x H',J.yld i H x H'->g x σ H' λσ2 H2=>tb {D with nx:=N,ct:=N,bk:=D.nx} σ2 H2)
def qb (fp:List UA) (h:VJ):List (UA×Obj):=fp.filterMap λb=>(h.get? b).map λo=>(b,o)
theorem kL {h:VJ}(hb:b∈fp) (e:h.get? b=some o):(b,o)∈qb fp h:=WS.mpr ⟨b,hb,by rw [e];rfl⟩
theorem EZ {h:VJ}{p:UA×Obj}(hp:p∈qb fp h):p.1∈fp/\h.get? p.1=some p.2:=by
 obtain ⟨b,hb,e⟩:=WS.mp hp;cases q:h.get? b with
 | none=>rw [q] at e;cases e
 | some o=>
  rw [q] at e;have e':(b,o)=p:=Vl e;subst e';exact ⟨hb,q⟩
theorem Inv.pinned {H:Hp}{s:T_}(I:Inv X TN σ H s) (hf:∀b∈fp,ki X TN H b) (ho:∀b∈fp,∃o,s.heap.get? b=some o/\∀v,o.data≠.cell v):Inv X (TN++qb fp s.heap) σ H s:=
 I.pins_of λp hp=>(UI.mp hp).elim (λz=>I.pin p (U9 _ z)) λz=>by obtain ⟨hb,e⟩:=EZ z;obtain ⟨f0,f1,f2,_⟩:=hf p.1 hb;obtain ⟨o,e',d⟩:=ho p.1 hb;rw [e] at e';cases e';exact ⟨e,f0,f1,f2,d⟩
theorem Inv.unpinned {H:Hp}(I:Inv X (TN++pl) σ H s):Inv X TN σ H s:=I.pins_of λp hp=>I.pin p (U9 _ (XW _ hp))
theorem Nq {TV:UU}{body:List WM}{wi:TI}{g:TG}{tb:TS}{pos:Pos}(hp:acw (UB X.prog X.w) X.A X.env X.xe) (hc:X.calm=true) (hi:PI X tg TV wi) (hg:PG X tg g) (hb:jF X body tb)
  (hs:∀x,Vy TV X.env x=pure x:=by intro _;rfl):PS X (.For tg TV body [] pos) (Qc wi g tb):=by
 intro TN s σ H D I h;refine wpAny_For (bN (hi TN s σ H _ I h) λv s1 h1=>bN h1 λitv s2 h2=>?_) hs;obtain ⟨it,fp,tn,J,H2,e,I2,T,st2,f2,W,⟨m0,w0⟩,turn⟩:=h2;subst e;have stat:∀{H':Hp},(∀b∈fp,H' b=none)->∀b∈fp,ki X TN H' b:=λhn b hb=>⟨hn b hb,(f2 b hb).2⟩;refine codeAny_forLoop_any (λn s'=>∃i σ' H',Inv X TN σ' H' s'/\tn i s'.heap/\(∀b∈fp,H' b=none)/\W i n σ' H') ?_ m0 ⟨0,σ,H2,I2,st2,λb hb=>(f2 b hb).1,w0⟩;rintro n s3 ⟨i,σ3,H3,I3,st3,fr3,w3⟩;rcases turn i n σ3 H3 w3 with ⟨stop,qn⟩ | ⟨go,N,hN,step⟩
 ·refine W8 hp (bN (T.done X rfl rfl rfl hc i TN s3 σ3 H3 X.xe I3 (stat fr3) st3 stop) λr s4 ⟨hr,I4⟩=>?_);subst hr;exact Zo ⟨σ3,H3,I4,qn⟩
 ·refine W8 hp (bN (T.item X rfl rfl rfl hc i TN s3 σ3 H3 X.xe I3 (stat fr3) st3 go) λr s4 ⟨u,hr,h4⟩=>?_);subst hr;refine W8 hp (bN h4 λ_ s5 ⟨x,H5,I5,r5,y5,st5,fr5⟩=>?_);have I5':=I5.pinned (stat fr5) (T.obj _ _ st5);refine W8 hp (bN (hg _ s5 σ3 H5 x u _ I5' r5 (step x H5 y5)) λ_ s6 ⟨σ6,H6,I6,q6⟩=>?_);refine W8 hp (bN (hb _ s6 σ6 H6 _ I6 q6) λf s7 q7=>?_);have again:∀{σ7:St}{H7:Hp},Inv X (TN++qb fp s5.heap) σ7 H7 s7->N σ7 H7->∃m,m < n/\∃i σ' H',Inv X TN σ' H' s7/\tn i s7.heap/\(∀b∈fp,H' b=none)/\W i m σ' H':=fun {σ7 H7} I7 n7=>by obtain ⟨m',hm,w7⟩:=hN σ7 H7 n7;refine ⟨m',hm,i + 1,σ7,H7,I7.unpinned,T.keep _ _ _ st5 λb hb o e=>(I7.pin (b,o) (U9 _ (U9 _ (kL hb e)))).1,λb hb=>?_,w7⟩;obtain ⟨o,e,d⟩:=T.obj _ _ st5 b hb;exact (I7.pin (b,o) (U9 _ (U9 _ (kL hb e)))).2.1
  cases f with
  | next=>obtain ⟨σ7,H7,I7,n7⟩:=q7;exact again I7 n7
  | cont=>obtain ⟨σ7,H7,I7,n7⟩:=q7;exact again I7 n7
  | brk=>obtain ⟨σ7,H7,I7,q7⟩:=q7;exact ⟨σ7,H7,I7.unpinned,q7⟩
  | ret v=>obtain ⟨x7,σ7,H7,I7,r7,q7⟩:=q7;exact ⟨x7,σ7,H7,I7.unpinned,r7,q7⟩
end
abbrev R2:=V->V->Hp->VK->Prop
noncomputable def c6 (X:Cx) (f:T7->T7->Sem T7) (r:R2):Prop:=
 ∀(TN:List (UA×Obj)) (s:T_) (σ:St) (H:Hp) (x y:V) (v u:T7) (Q:VK),Inv X TN σ H s->RelV x v->RelV y u->r x y H Q->
  Uu (UB X.prog X.w) X.A (f v u) (EP X TN σ Q) X.xe s
noncomputable def LO (X:Cx) (f:T7->Sem T7) (r:V->Hp->VK->Prop):Prop:=
 ∀(TN:List (UA×Obj)) (s:T_) (σ:St) (H:Hp) (x:V) (v:T7) (Q:VK),Inv X TN σ H s->RelV x v->r x H Q->
  Uu (UB X.prog X.w) X.A (f v) (EP X TN σ Q) X.xe s
noncomputable def cR (X:Cx) (f:T7) (r:List V->Hp->VK->Prop):Prop:=
 ∀(TN:List (UA×Obj)) (s:T_) (σ:St) (H:Hp) (xs:List V) (us:List T7) (Q:VK),Inv X TN σ H s->Vals xs us->r xs H Q->
  Uu (UB X.prog X.w) X.A (call f us) (EP X TN σ Q) X.xe s
noncomputable def Pu (X:Cx) (r:V->Hp->(Bool->Hp->Prop)->Prop):Prop:=
 ∀(TN:List (UA×Obj)) (s:T_) (σ:St) (H:Hp) (x:V) (v:T7) (Q:Bool->Hp->Prop),Inv X TN σ H s->RelV x v->r x H Q->
  Uu (UB X.prog X.w) X.A (truthy v) (TP X TN σ Q) X.xe s
def BZ (r:R2) (ta tb:TE):TE:=λσ H Q=>ta σ H λx H1=>tb σ H1 λy H2=>r x y H2 Q
def QA (r:V->Hp->VK->Prop) (ta:TE):TE:=λσ H Q=>ta σ H λx H1=>r x H1 Q
def rI (C:Int->Int->Prop) (g:Int->Int->V):R2:=λx y H Q=>∃i j,x=.int i/\y=.int j/\C i j/\Q (g i j) H
def qi (g:Int->Int->V):R2:=λx y H Q=>∃i j,x=.int i/\y=.int j/\Q (g i j) H
def rU (g:Int->V):V->Hp->VK->Prop:=λx H Q=>∃i,x=.int i/\Q (g i) H
section
variable {X:Cx}{a b c:UU}{ta tb tc:TE}{pos:Pos}
theorem Gs (ha:PE X a ta) (hb:PE X b tb){TN:List (UA×Obj)}{s:T_}{σ:St}{H:Hp}{R:V->V->Hp->Prop}(I:Inv X TN σ H s)
  (h:ta σ H λx H1=>tb σ H1 λy H2=>R x y H2){Q:T7->T_->Prop}{f:T7->T7->Sem T7}
  (hf:∀v u s2 x y H2,Inv X TN σ H2 s2->RelV x v->RelV y u->R x y H2->Uu (UB X.prog X.w) X.A (f v u) Q X.xe s2):
  Uu (UB X.prog X.w) X.A (eval a X.env) (λv s₁=>Uu (UB X.prog X.w) X.A (eval b X.env) (λu s₂=>Uu (UB X.prog X.w) X.A (f v u) Q X.xe s₂) X.xe s₁) X.xe s:=by refine bN (ha TN s σ H _ I h) λv s1 ⟨x,H1,I1,r1,q1⟩=>?_;refine bN (hb TN s1 σ H1 _ I1 q1) λu s2 ⟨y,H2,I2,r2,q2⟩=>?_;exact hf v u s2 x y H2 I2 r1 r2 q2
theorem Ov (ho:c6 X (Xj op) r) (ha:PE X a ta) (hb:PE X b tb):PE X (.BinOp a op b pos) (BZ r ta tb):=by intro TN s σ H Q I h;exact wpAny_BinOp (Gs ha hb I h λv u s2 x y H2 I2 rx ry q=>ho TN s2 σ H2 x y v u Q I2 rx ry q)
theorem Ox {r:V->Hp->VK->Prop}(ho:LO X (unaryOp op) r) (ha:PE X a ta):PE X (.UnaryOp op a pos) (QA r ta):=by intro TN s σ H Q I h;exact UnaryOp_ (bN (ha TN s σ H _ I h) λv s1 ⟨x,H1,I1,r1,q1⟩=>ho TN s1 σ H1 x v Q I1 r1 q1)
theorem Px (ho:c6 X (aav op) r){H:Hp}{Q:VK}(I:Inv X TN σ H s)
 (rx:RelV x v) (ry:RelV y u) (q:r x y H Q):Uu (UB X.prog X.w) X.A (aav op v u) (EP X TN σ Q) X.xe s:=ho TN s σ H x y v u Q I rx ry q
theorem E1 {f:T7->T7->Sem T7}{C:Int->Int->Prop}{g:Int->Int->Int}
  (rule:∀(i j:Int) (t u:Tok) (s:T_) (Q:T7->T_->Prop) (E:T7->T_->Prop),C i j->Q (.int (g i j) s.toks) {s with toks:=s.toks + 1}->Uu (UB X.prog X.w) X.A (f (.int i t) (.int j u)) Q E s):
  c6 X f (rI C λi j=>.int (g i j)):=by intro TN s σ H x y v u Q I rx ry h;obtain ⟨i,j,rfl,rfl,hc,q⟩:=h;obtain ⟨t,rfl⟩:=rx;obtain ⟨t',rfl⟩:=ry;exact rule i j t t' s _ _ hc ⟨.int (g i j),H,I.tok _,⟨_,rfl⟩,q⟩
theorem Ht {f:T7->T7->Sem T7}{g:Int->Int->Int}
  (rule:∀(i j:Int) (t u:Tok) (s:T_) (Q:T7->T_->Prop) (E:T7->T_->Prop),Q (.int (g i j) s.toks) {s with toks:=s.toks + 1}->Uu (UB X.prog X.w) X.A (f (.int i t) (.int j u)) Q E s):
  c6 X f (qi λi j=>.int (g i j)):=by intro TN s σ H x y v u Q I rx ry h;obtain ⟨i,j,rfl,rfl,q⟩:=h;obtain ⟨t,rfl⟩:=rx;obtain ⟨t',rfl⟩:=ry;exact rule i j t t' s _ _ ⟨.int (g i j),H,I.tok _,⟨_,rfl⟩,q⟩
theorem Hr {f:T7->T7->Sem T7}{g:Int->Int->Bool}
  (rule:∀(i j:Int) (t u:Tok) (s:T_) (Q:T7->T_->Prop) (E:T7->T_->Prop),Q (.bool (g i j)) s->Uu (UB X.prog X.w) X.A (f (.int i t) (.int j u)) Q E s):
  c6 X f (qi λi j=>.bl (g i j)):=by intro TN s σ H x y v u Q I rx ry h;obtain ⟨i,j,rfl,rfl,q⟩:=h;obtain ⟨t,rfl⟩:=rx;obtain ⟨t',rfl⟩:=ry;exact rule i j t t' s _ _ ⟨.bl (g i j),H,I,rfl,q⟩
def Pg (i j:Int):Prop:=0 < j/\j < 1073741824
def Ph (i j:Int):Prop:=0<=j/\j<=1000000/\i.natAbs < 2 ^ 64
def B9 (i j:Int):Prop:=(-(2 ^ 64) < i/\i < 2 ^ 64)\/(-(2 ^ 64) < j/\j < 2 ^ 64)
theorem B9.ok (h:B9 i j):IntMulOk i j:=by
 rcases h with ⟨h1,h2⟩ | ⟨h1,h2⟩
 ·exact .of_left (adz h1 h2)
 ·exact .of_right (adz h1 h2)
theorem E2:c6 X (Xj .Add) (qi λi j=>.int (i + j)):=Ht λ_ _ _ _ _ _ _ q=>add_int q
theorem M6:c6 X (Xj .Sub) (qi λi j=>.int (i - j)):=Ht λ_ _ _ _ _ _ _ q=>sub_int q
theorem M3:c6 X (Xj .Mult) (rI B9 λi j=>.int (i * j)):=E1 λ_ _ _ _ _ _ _ hc q=>mul_int q hc.ok
theorem Kw:c6 X (Xj .FloorDiv) (rI Pg λi j=>.int (i / j)):=E1 λi j _ _ _ _ _ hc q=>by have h1:(0:Int) < j:=hc.1;have h2:j < 1073741824:=hc.2;exact floordiv_int (by omega) (by rw [ZG i (by omega)];exact q) (.inl (PyProof.noPylong_small (by omega)))
theorem MZ:c6 X (Xj .Mod) (rI (λ_ j=>0 < j) λi j=>.int (i % j)):=E1 λi j _ _ _ _ _ hc q=>by have h1:(0:Int) < j:=hc;exact mod_int' (by omega) (by rw [Int.fmod_eq_emod_of_nonneg i (by omega)];exact q)
theorem M5:c6 X (Xj .Pow) (rI Ph λi j=>.int (i ^ j.toNat)):=E1 λ_ _ _ _ _ _ _ hc q=>pow_int_small hc.1 hc.2.1 hc.2.2 q
theorem JX:c6 X (aav .Add) (qi λi j=>.int (i + j)):=Ht λ_ _ _ _ _ _ _ q=>iadd_int q
theorem QC {f:T7->Sem T7}{g:Int->Int}
  (rule:∀(i:Int) (t:Tok) (s:T_) (Q:T7->T_->Prop) (E:T7->T_->Prop),Q (.int (g i) s.toks) {s with toks:=s.toks + 1}->Uu (UB X.prog X.w) X.A (f (.int i t)) Q E s):
  LO X f (rU λi=>.int (g i)):=by intro TN s σ H x v Q I rx h;obtain ⟨i,rfl,q⟩:=h;obtain ⟨t,rfl⟩:=rx;exact rule i t s _ _ ⟨.int (g i),H,I.tok _,⟨_,rfl⟩,q⟩
theorem NY:LO X (unaryOp .USub) (rU λi=>.int (-i)):=QC λ_ _ _ _ _ q=>neg_int q
theorem uU:c6 X (Vz .Lt) (qi λi j=>.bl (decide (i < j))):=Hr λ_ _ _ _ _ _ _ q=>lt_int q
theorem yF:c6 X (Vz .Gt) (qi λi j=>.bl (decide (j < i))):=Hr λ_ _ _ _ _ _ _ q=>gt_int q
theorem Ot:c6 X (Vz .GtE) (qi λi j=>.bl (decide (j<=i))):=Hr λ_ _ _ _ _ _ _ q=>ge_int q
theorem c6.or {f:T7->T7->Sem T7}{r r':R2}(h:c6 X f r) (h':c6 X f r'):c6 X f (λx y H Q=>r x y H Q\/r' x y H Q):=by
 intro TN s σ H x y v u Q I rx ry q;rcases q with q | q
 ·exact h TN s σ H x y v u Q I rx ry q
 ·exact h' TN s σ H x y v u Q I rx ry q
theorem Ab (b:UU) (h:op≠.In:=by decide) (h2:op≠.NotIn:=by decide):Vs op b=false:=by
 have e1:(op == aeZ)=false:=by cases op <;> first | rfl | exact absurd rfl h
 have e2:(op == ad_)=false:=by cases op <;> first | rfl | exact absurd rfl h2
 cases b <;> simp [Vs,e1,e2]
theorem KN (ho:c6 X (Vz op) r) (ha:PE X a ta) (hb:PE X b tb) (hm:Vs op b=false):PE X (.Compare a [op] [b] pos) (BZ r ta tb):=by intro TN s σ H Q I h;exact wpAny_Compare1 (Gs ha hb I h λv u s2 x y H2 I2 rx ry q=>ho TN s2 σ H2 x y v u Q I2 rx ry q) hm
def OU (t:TE):TT:=λσ H Q=>t σ H λx H'=>∃k,x=.bl k/\Q k H'
theorem KZ {op:CmpOp}{r:R2}(ho:c6 X (Vz op) r) (ha:PE X a ta) (hb:PE X b tb) (hm:Vs op b=false):PT X (.Compare a [op] [b] pos) (OU (BZ r ta tb)):=by
 intro TN s σ H Q I h;refine aat (bN (ha TN s σ H _ I h) λv s1 ⟨x,H1,I1,r1,q1⟩=>bN (hb TN s1 σ H1 _ I1 q1) λu s2 ⟨y,H2,I2,r2,q2⟩=>
  bN (ho TN s2 σ H2 x y v u _ I2 r1 r2 q2) λc s3 ⟨z,H3,I3,r3,k,e,q3⟩=>?_) hm
 subst e;cases r3;exact Vg ⟨H3,I3,q3⟩
noncomputable def Gp (K:T5) (x:V) (H:Hp) (k:Bool):Prop:=
 match x with
 | .non=>k=false
 | .bl b=>k=b
 | .int i=>k=(i != 0)
 | .str y=>y.length<=sizeLine/\k=((y.length:Int) != 0)
 | .byt y=>y.size<=sizeLine/\k=((y.size:Int) != 0)
 | .ref p=>(∃xs,cg K H p xs/\k=!xs.isEmpty)\/(∃xs,c7 K H p xs/\k=!xs.isEmpty)\/∃TZ,H p=some (.dK TZ)/\k=!TZ.isEmpty
 | _=>False
theorem CG {κ:Type}{TZ:List (κ×V)}{vs:List (κ×T7)}(r:KV TZ vs):(!vs.isEmpty)=!TZ.isEmpty:=by cases r <;> rfl
theorem uP {xs:List V}{TR:List T7}(r:Vals xs TR):(!TR.toArray.isEmpty)=!xs.isEmpty:=by cases r <;> simp
theorem lH:(sizeLine:Nat) < 2 ^ 63:=by rw [U7];decide
theorem NS:Pu X (λx H Q=>∃k,Gp X.K x H k/\Q k H):=by
 intro TN s σ H x v Q I rx h;obtain ⟨k,e,q⟩:=h;have hl:=lH;have hs:sizeLine=16777216:=U7;cases x with
 | non=>
  cases rx;have e':k=false:=e;subst e';exact truthy_none ⟨H,I,q⟩
 | bl b=>
  cases rx;have e':k=b:=e;subst e';exact Vg ⟨H,I,q⟩
 | int i=>
  obtain ⟨t,rfl⟩:=rx;have e':k=(i != 0):=e;subst e';exact PySem.P.truthy_int ⟨H,I,q⟩
 | str y=>
  obtain ⟨t,rfl⟩:=rx;obtain ⟨hy,e'⟩:y.length<=sizeLine/\k=((y.length:Int) != 0):=e;subst e';exact PySem.P.truthy_str (by omega) ⟨H,I.tok _,q⟩
 | byt y=>
  obtain ⟨t,rfl⟩:=rx;obtain ⟨hy,e'⟩:y.size<=sizeLine/\k=((y.size:Int) != 0):=e;subst e';exact W.truthy_bytes (by omega) ⟨H,I.tok _,q⟩
 | ref p=>
  cases rx;have e':(∃xs,cg X.K H p xs/\k=!xs.isEmpty)\/(∃xs,c7 X.K H p xs/\k=!xs.isEmpty)\/∃TZ,H p=some (.dK TZ)/\k=!TZ.isEmpty:=e;rcases e' with ⟨xs,hx,e'⟩ | ⟨xs,hx,e'⟩ | ⟨TZ,hx,e'⟩
  ·subst e';obtain ⟨TR,r,pl,hz⟩:=I.list hx;have hlen:=r.length;exact wpAny_truthy_list pl.isList (by simp only [Ug];omega) ⟨H,I.tok _,by rw [uP r];exact q⟩
  ·subst e';obtain ⟨TR,r,pl,hz⟩:=I.tuple hx;have hlen:=r.length;exact truthy_tuple pl (by simp only [Ug];omega) ⟨H,I.tok _,by rw [uP r];exact q⟩
  ·subst e';obtain ⟨hz,hS,vs,r,m⟩:TZ.length<=sizeLine/\(p == WB)=false/\∃vs,KV TZ vs/\s.heap.DictOf (vY X.prog X.w) p vs:=I.hok p _ hx;have hlen:TZ.length=vs.length:=adx r;exact wpAny_truthy_dict hS m (by omega) ⟨H,I.tok _,by rw [CG r];exact q⟩
 | _=>exact (show False from e).elim
theorem HD (ha:PE X a ta) (he:∀whole,aa5 a X.env whole=(do let v <-whole;Xz a.pos;holding [v] (truthy v))):
  PT X a (λσ H Q=>ta σ H λx H'=>∃k,Gp X.K x H' k/\Q k H'):=by intro TN s σ H Q I h;exact isTrue_plain (bN (ha TN s σ H _ I h) λv s1 ⟨x,H1,I1,r1,q1⟩=>NS TN s1 σ H1 x v Q I1 r1 q1) (he _)
theorem uT:c6 X (Xj .Add) (λx y H Q=>∃i j,x=.str i/\y=.str j/\i.length + j.length<=sizeLine/\Q (.str (i++j)) H):=by intro TN s σ H x y v u Q I rx ry h;obtain ⟨i,j,rfl,rfl,hz,q⟩:=h;obtain ⟨t,rfl⟩:=rx;obtain ⟨t',rfl⟩:=ry;exact add_str (λt' tk=>⟨.str (i++j),H,I.tok _,⟨_,rfl⟩,q⟩) hz
theorem vals1 (r:Vals [x] us):∃u,us=[u]/\RelV x u:=by
 cases r with
 | cons r1 r2=>cases r2;exact ⟨_,rfl,r1⟩
theorem vals2 (r:Vals [x,y] us):∃u w',us=[u,w']/\RelV x u/\RelV y w':=by
 cases r with
 | cons r1 r2=>
  cases r2 with
  | cons r3 r4=>cases r4;exact ⟨_,_,rfl,r1,r3⟩
theorem Ec (hc:X.calm=true):cR X (.builtin "max") (λxs H Q=>∃i j,xs=[.int i,.int j]/\Q (.int (if j > i then j else i)) H):=by
 intro TN s σ H xs us Q I r h;obtain ⟨i,j,rfl,q⟩:=h;obtain ⟨u,w',rfl,⟨t,rfl⟩,⟨t',rfl⟩⟩:=vals2 r;refine max_two_ints (I.ok.hd hc) λh' tk k=>⟨_,H,I.kept k,?_,q⟩;by_cases hj:j > i
 ·rw [if_pos hj,if_pos hj];exact ⟨_,rfl⟩
 ·rw [if_neg hj,if_neg hj];exact ⟨_,rfl⟩
end
structure dX (k:Nat) (A:UW):Prop where
 hd:A.handled=none
 dp:A.depth + 3 * k + 5 < ac0
 un:A.units + 16 * k + 200 < VI
theorem dX.mono (r:dX k A) (h:j<=k):dX j A:=⟨r.hd,by have:=r.dp;omega,by have:=r.un;omega⟩
theorem dX.deeper {A:UW}(r:dX (k + 1) A) (env:Env):dX k (A.deeper env):=
 ⟨r.hd,by have:=r.dp;show A.depth + 1 + 3 * k + 5 < _;omega,by have:=r.un;show A.units + 3 + 16 * k + 200 < _;omega⟩
theorem dX.depth {A:UW}(r:dX k A):A.depth < ac0:=by have:=r.dp;omega
theorem dX.units {A:UW}(r:dX k A):A.units + 64 < VI:=by have:=r.un;omega
def Dw:TA:=λ_ H Q=>Q [] H
def OO (ta:TE) (tr:TA):TA:=λσ H Q=>ta σ H λx H1=>tr σ H1 λxs H2=>Q (x::xs) H2
section
variable {X:Cx}{e:UU}{es:List UU}{te:TE}{t:TA}{pos:Pos}
theorem gD:PA X [] Dw:=λ_ _ _ _ H Q I h=>Calls.spliced_nil ⟨[],H,I,.nil,h⟩
theorem eH (ha:PE X e te) (hr:PA X es t) (hs:Uj (e::es) X.env=(false,eval e X.env)::Uj es X.env:=by rfl):PA X (e::es) (OO te t):=by intro pos TN s σ H Q I h;rw [hs];show Uu _ _ (spliced ((false,eval e X.env)::Vx pos (Uj es X.env))) _ _ s;refine Calls.spliced_cons (bN (ha TN s σ H _ I h) λu s1 ⟨x,H1,I1,r1,q1⟩=>?_);exact bN (hr pos TN s1 σ H1 _ I1 q1) λus s2 ⟨xs,H2,I2,r2,q2⟩=>⟨x::xs,H2,I2,.cons r1 r2,q2⟩
def Qk (t:TA):TE:=λσ H Q=>t σ H λxs H1=>xs.length<=sizeLine/\∀p,H1 p=none->Q (.ref p) (upd H1 p (.tup xs))
def Qe (t:TA):TE:=λσ H Q=>t σ H λxs H1=>xs.length<=sizeLine/\∀p,H1 p=none->Q (.ref p) (upd H1 p (.lst xs))
theorem Ni {x1}(h:PA X es t):PE X (.Tuple es x1 pos) (Qk t):=by intro TN s σ H Q I hq;refine wpAny_Tuple_spliced (bN (h pos TN s σ H _ I hq) λus s1 ⟨xs,H1,I1,r,z,q⟩=>⟨by rw [<-r.length];exact z,?_⟩);have hf:H1 s1.heap.objs.size=none:=I1.hok.fresh (Ud _);refine ⟨.ref s1.heap.objs.size,upd H1 s1.heap.objs.size (.tup xs),I1.laid (t':=s1.toks) (λb u e=>T9 _ e) (Ud _) ?_,rfl,q _ hf⟩;exact ⟨z,us,r,⟨_,Uh _ rfl,rfl,_,rfl⟩⟩
theorem Nc (h:PA X es t):PE X (.List es pos) (Qe t):=by intro TN s σ H Q I hq;refine wpAny_List_spliced (bN (h pos TN s σ H _ I hq) λus s1 ⟨xs,H1,I1,r,z,q⟩=>⟨by rw [<-r.length];exact z,?_⟩);have hf:H1 s1.heap.objs.size=none:=I1.hok.fresh (Ud _);refine ⟨.ref s1.heap.objs.size,upd H1 s1.heap.objs.size (.lst xs),I1.laid (t':=s1.toks) (λb u e=>T9 _ e) (Ud _) ?_,rfl,q _ hf⟩;exact ⟨z,us,0,r,Uh _ rfl⟩
end
abbrev Sp:=List V->Hp->VK->XK->Prop
abbrev wH:=List Env->Hp->T_->XK->T7->T_->Prop
structure B_ (P:Uv) (w:US) (K:T5) (mg:Str->Option T7) (base:VJ) (A:UW) (outer:List Env) (s:T_) (H:Hp):Prop where
 frames:A.frames=some outer
 mod:Mod K mg base
 bs:∀b o,base.get? b=some o->s.heap.get? b=some o/\H b=none
 bsz:base.objs.size<=s.heap.objs.size
 funs:s.heap.FunFrames base outer
 frf:∀b∈frs outer,H b=none
 hok:gy P w H s.heap
 bare:aas s.gens
noncomputable def CE (outer:List Env) (P:Uv) (w:US) (H:Hp) (s:T_) (Q:VK) (u:T7) (s':T_):Prop:=
 ∃v H',s'.os=s.os/\aas s'.gens/\Un (frs outer) [] H H' s.heap s'.heap/\gy P w H' s'.heap/\RelV v u/\Q v H'
noncomputable def CR (CX:wH) (outer:List Env) (P:Uv) (w:US) (H:Hp) (s:T_) (Q:VK) (E:XK) (r:ab3) (s':T_):Prop:=
 match r with
 | .ok (.ret u)=>CE outer P w H s Q u s'
 | .ok _=>False
 | .error e=>CX outer H s E e s'
structure jH (P:Uv) (w:US) (K:T5) (mg:Str->Option T7) (base:VJ) (CX:wH) (k:Nat) (f:UA) (fd:UO) (ps:List Str) (sp:Sp):Prop where
 len:∀vs H Q E,sp vs H Q E->vs.length=ps.length
 run:∀(A:UW) (outer:List Env) (s:T_) (H:Hp) (args:Args) (us:List T7) (vs:List V) (Q:VK) (E:XK),dX k A->B_ P w K mg base A outer s H->acy s fd args (ps.zip us)->Vals vs us->sp vs H Q E->
  Wh (UB P w) A (.call (.ref f) args) (CR CX outer P w H s Q E) s
section
variable {X:Cx}{TN:List (UA×Obj)}{σ:St}{H:Hp}{s s':T_}
theorem Inv.env0 (I:Inv X TN σ H s):B_ X.prog X.w X.K X.mg X.base X.A X.stack s H:=
 ⟨I.ok.frames,I.ok.mod,I.bs,UC I.ok.bsz I.sz,I.stack,I.stkFree,I.hok,I.bare⟩
theorem Inv.after {Q:VK}(I:Inv X TN σ H s) (h:CE X.stack X.prog X.w H s Q u s'):EP X TN σ Q u s':=by obtain ⟨v,H',os,bare,un,hok,r,q⟩:=h;obtain ⟨hh,g,d,t,os'⟩:=s';obtain rfl:os'=s.os:=os;exact ⟨v,H',I.call (h':=hh) (g':=g) (d':=d) (t':=t) (ch:=[]) un hok bare (λb z=>absurd z (by simp)),r,q⟩
end
def Jo (sp:Sp) (dvs:List V) (E:XK) (t:TA):TE:=λσ H Q=>t σ H λvs H1=>sp (vs++dvs) H1 Q E
noncomputable def Binds (K:T5) (fd:UO) (ps:List Str) (ds:List T7):Prop:=
 ∀(s:T_) (us:List T7),K.In s.heap->(us++ds).length=ps.length->acy s fd ⟨us,[]⟩ (ps.zip (us++ds))
theorem Binds.all {K:T5}{fd:UO}{ps:List Str}(h:∀us:List T7,us.length=ps.length->acq fd ⟨us,[]⟩=pure (ps.zip us)):Binds K fd ps []:=λs us _ hl=>by rw [WG] at hl ⊢;exact .of_eq (h us hl)
def Passes (CX:wH) (X:Cx) (E:XK):Prop:=∀(TN:List (UA×Obj)) (σ:St) (H:Hp) (s:T_) (e:T7) (s':T_),Inv X TN σ H s->CX X.stack H s E e s'->X.xe e s'
section
variable {X:Cx}{CX:wH}{k:Nat}{f C:UA}{fd:UO}{ps:List Str}{sp:Sp}{dvs:List V}{ds:List T7}{E:XK}{x m:Str}{p pos apos:Pos}{e o:UU}{es:List UU}{ta:TE}{t:TA}
theorem FO {H:Hp}{Q:VK}(F:jH X.prog X.w X.K X.mg X.base CX k f fd ps sp) (hr:dX k X.A) (hb:Binds X.K fd ps ds) (hd:Vals dvs ds) (hx:Passes CX X E)
 (I:Inv X TN σ H s) (r:Vals vs us) (h:sp (vs++dvs) H Q E):Uu (UB X.prog X.w) X.A (call (.ref f) us) (EP X TN σ Q) X.xe s:=by
 have r2:Vals (vs++dvs) (us++ds):=r.append hd;have hl:(us++ds).length=ps.length:=by rw [<-r2.length];exact F.len _ _ _ _ h
 refine aaV (Xg (F.run X.A X.stack s H ⟨us,[]⟩ (us++ds) (vs++dvs) Q E hr I.env0 (hb s us I.kIn hl) r2 h) λr s' hq=>?_);cases r with
 | error e=>exact hx TN σ H s e s' I hq
 | ok fl=>
  cases fl with
  | ret u=>exact I.after hq
  | next=>exact XJ hq
  | brk=>exact XJ hq
  | cont=>exact XJ hq
theorem BN (F:jH X.prog X.w X.K X.mg X.base CX k f fd ps sp) (hr:dX k X.A) (hg:Gl X x) (hm:X.mg x=some (.ref f)) (hk:Xs X.K (.ref f)=true) (hb:Binds X.K fd ps ds) (hd:Vals dvs ds) (hx:Passes CX X E)
  (ha:PA X (e::es) t) (hdb:(x == ("__debug__":Str))=false:=by decide) (he:Uj (e::es) X.env=(false,eval e X.env)::Uj es X.env:=by rfl) (hpl:(Vx pos (Uj es X.env)).any (·.1)=false:=by rfl):
  PE X (.Call (.Name x p) (e::es) [] pos) (Jo sp dvs E t):=by intro TN s σ H Q I h;refine WT (BA I hg hm ?_ hdb);refine abp (h₀:=X.base) I.ok.mod.kin hk (bN (ha pos TN s σ H _ I h) λus s1 ⟨vs,H1,I1,r,q⟩=>⟨I1.kIn,?_⟩) he hpl;exact FO F hr hb hd hx I1 r q
end
structure ie (N P:List Str) (sc:Xy):Prop where
 kind:sc.kind=.function
 co:sc.isCoroutine=false
 gen:sc.isGenerator=false
 nd:N.Nodup
 pre:N.take P.length=P
 par:∀x∈P,sc.names.lookup x=some .local\/sc.names.lookup x=some .cell
 nofree:∀y∈sc.names,y.2≠.free
theorem wV {kindOf:Str->Option Ws}:∀{binds:List (Str×T7)}{m:Str->Option T7},(∀v,(x,v)∉binds)->aea kindOf binds m x=m x
 | [],_,_=>rfl
 | (n,v)::r,m,h=>by
  unfold aea;rw [wV λw hw=>h w (Ua _ hw)];split
  ·have:x≠n:=by rintro rfl;exact h v Uc
   simp [this]
  ·rfl
theorem wR {kindOf:Str->Option Ws}:∀{binds:List (Str×T7)}{m:Str->Option T7},(∀v,(x,v)∉binds)->aeb kindOf binds m x=m x
 | [],_,_=>rfl
 | (n,v)::r,m,h=>by
  unfold aeb;rw [wR λw hw=>h w (Ua _ hw)];split
  ·rfl
  ·have:x≠n:=by rintro rfl;exact h v Uc
   simp [this]
theorem wU {kindOf:Str->Option Ws}{x:Str}{v:T7}:∀{P:List Str}{vs:List T7}{i:Nat}{m:Str->Option T7},P.Nodup->P[i]?=some x->vs[i]?=some v->kindOf x=some .local->
  aea kindOf (P.zip vs) m x=some v
 | [],_,_,_,_,h,_,_=>by simp at h
 | _::_,[],_,_,_,_,h,_=>by simp at h
 | p::P,w::vs,0,m,nd,h1,h2,hk=>by simp at h1 h2;subst h1;subst h2;show aea kindOf ((p,w)::P.zip vs) m p=_;unfold aea;rw [wV λv hv=>(WH.mp nd).1 (aaw hv).1,if_pos hk];simp
 | p::P,w::vs,i + 1,m,nd,h1,h2,hk=>by show aea kindOf ((p,w)::P.zip vs) m x=_;unfold aea;exact wU (i:=i) (WH.mp nd).2 (by simpa using h1) (by simpa using h2) hk
theorem wQ {kindOf:Str->Option Ws}{x:Str}{v:T7}:∀{P:List Str}{vs:List T7}{i:Nat}{m:Str->Option T7},P.Nodup->P[i]?=some x->vs[i]?=some v->kindOf x≠some .local->
  aeb kindOf (P.zip vs) m x=some v
 | [],_,_,_,_,h,_,_=>by simp at h
 | _::_,[],_,_,_,_,h,_=>by simp at h
 | p::P,w::vs,0,m,nd,h1,h2,hk=>by simp at h1 h2;subst h1;subst h2;show aeb kindOf ((p,w)::P.zip vs) m p=_;unfold aeb;rw [wR λv hv=>(WH.mp nd).1 (aaw hv).1,if_neg hk];simp
 | p::P,w::vs,i + 1,m,nd,h1,h2,hk=>by show aeb kindOf ((p,w)::P.zip vs) m x=_;unfold aeb;exact wQ (i:=i) (WH.mp nd).2 (by simpa using h1) (by simpa using h2) hk
def start (N:List Str) (vs:List V):St:=vs.map some++VL (N.length - vs.length) none
noncomputable def sP (CX:wH) (P:Uv) (w:US) (K:T5) (mg:Str->Option T7) (base:VJ) (N:List Str) (TX:Str) (TM:Xy) (f:UA) (cd:T7) (A:UW) (outer:List Env) (s:T_) (H:Hp) (E:XK):Cx where
 prog:=P
 w:=w
 K:=K
 mg:=mg
 base:=base
 A:=A.deeper (ZS TX TM s.heap.objs.size f cd)
 N:=N
 s₀:=s
 H₀:=H
 env:=ZS TX TM s.heap.objs.size f cd
 outer:=outer
 stack:=ZS TX TM s.heap.objs.size f cd::outer
 ex:=[]
 calm:=true
 fn:=λ_=>true
 pn:=[]
 xe:=λe s'=>Uu (UB P w) (A.deeper (ZS TX TM s.heap.objs.size f cd)) (leaving (ZS TX TM s.heap.objs.size f cd) e) (λ_ s''=>CX outer H s E e s'') (λe' s''=>CX outer H s E e' s'') s'
theorem zu {sc:Xy}(h:sc.names.lookup x=some .cell):∃c,(Vb n sc.names []).lookup x=some c:=by have q:=aaj sc.names n [] (.inl h);exact Vu.mp q
theorem EJ {CX:wH}{P:Uv}{w:US}{K:T5}{mg:Str->Option T7}{base:VJ}{N ps:List Str}{TX:Str}{TM:Xy}{f:UA}{cd:T7}{A:UW}{outer:List Env}{s s1:T_}{H:Hp}{E:XK}{us:List T7}{vs:List V}
  (S:ie N ps TM) (hd:A.handled=none) (e0:B_ P w K mg base A outer s H) (hl:vs.length=ps.length) (r:Vals vs us)
  (x:InCallC s s.heap.objs.size (aea (ZS TX TM s.heap.objs.size f cd).kindOf (ps.zip us) λ_=>none) (Vb (s.heap.objs.size + 1) TM.names []) (aeb (ZS TX TM s.heap.objs.size f cd).kindOf (ps.zip us) λ_=>none) s1):
  Inv (sP CX P w K mg base N TX TM f cd A outer s H E) [] (start N vs) H s1:=by
 have hpl:ps.length<=N.length:=by have:=congrArg VT S.pre;rw [Vf] at this;omega
 obtain ⟨h1,tk,rfl,hk⟩:=x.done;have noA:∀b:UA,b∉(sP CX P w K mg base N TX TM f cd A outer s H E).ex:=λb z=>absurd (show b∈([]:List UA) from z) (by simp);refine ⟨⟨e0.mod,S.kind,rfl,rfl,Ud _,λy z c h1 h2=>?_,λy hy=>?_,λy c _ h=>?_,λ_=>hd,Around.frames_deeper e0.frames,.inr ⟨rfl,rfl⟩,λb z=>absurd z (noA b),e0.bs,e0.bsz,λb _ _=>noA b,λb z=>absurd z (noA b),e0.funs,e0.frf⟩,
  rfl,e0.bare,Un.kept hk,⟨_,x.toInCall.ns,λi y v h1 h2 h3=>?_⟩,λy c h=>⟨_,x.cell y c h⟩,e0.hok.fresh (Ud _),λy c h=>?_,λp hp=>absurd (show p∈([]:List (UA×Obj)) from hp) (by simp),e0.hok.kept hk,?_⟩
 ·exact name_of_addr x.apart (Xk h1) (Xk h2)
 ·have hy:TM.names.lookup y=some .cell\/TM.names.lookup y=some .free:=hy;rcases hy with hy | hy
  ·exact zu hy
  ·exact absurd rfl (S.nofree _ (Xk hy))
 ·exact ZI (x.above y c (Xk h))
 ·have hi:i < vs.length:=by
   unfold start at h2;by_cases hi:i < vs.length
   ·exact hi
   ·rw [VA (by simpa using hi)] at h2;rw [Yj] at h2;split at h2 <;> cases h2
  have ha:vs[i]?=some v:=by
   unfold start at h2;rw [Wc (by simpa using hi),UK] at h2;cases e:vs[i]? with
   | none=>rw [e] at h2;cases h2
   | some a=>rw [e] at h2;cases h2;rfl
  obtain ⟨u,hu,rv⟩:=r.get ha;have hp:ps[i]?=some y:=by rw [<-S.pre,List.getElem?_take_of_lt (by omega)];exact h1
  have ndP:ps.Nodup:=by rw [<-S.pre];exact S.nd.sublist (YF _ _)
  refine ⟨u,rv,?_⟩;rcases S.par y (UX hp) with k | k
  ·exact .inl ⟨k,wU ndP hp hu k⟩
  ·obtain ⟨c,e⟩:=zu (n:=s.heap.objs.size + 1) k;refine .inr ⟨.inl k,c,e,?_⟩;have q:=x.cell y c e;rw [wQ ndP hp hu (by show TM.names.lookup y≠_;rw [k];decide)] at q;exact q
 ·exact e0.hok.fresh (ZI (x.above y c (Xk h)))
 ·unfold start;show _=N.length;rw [Uo,T8,Wi];omega
theorem Od {K:T5}{mg:Str->Option T7}{dV kV doc pm cdv ct oc:T7}
 {N ps:List Str}{sp:Sp}(lk:K.lookup f=some ⟨oc,od,.func (V3 name TX params body TM dV kV doc pm an cdv ct),osl⟩) (hcd:YU K cdv TX=true) (S:ie N ps TM)
 (len:∀vs H Q E,sp vs H Q E->vs.length=ps.length)
 (hbody:∀(A:UW) (outer:List Env) (s:T_) (H:Hp) (vs:List V) (Q:VK) (E:XK),dX k (A.deeper (ZS TX TM s.heap.objs.size f cdv))->sp vs H Q E->
 ∃t,jF (sP CX P w K mg base N TX TM f cdv A outer s H E) body t/\t {nx:=λ_ H'=>Q .non H',rt:=Q} (start N vs) H):
  jH P w K mg base CX (k + 1) f (V3 name TX params body TM dV kV doc pm an cdv ct) ps sp:=by
 refine ⟨len,λA outer s H args us vs Q E hr e0 hb r RA=>?_⟩;have hl:=len _ _ _ _ RA;have KX:K.In s.heap:=e0.mod.kin.keeps λb o e=>(e0.bs b o e).1;have lim:s.heap.NoLimit:=e0.mod.nolimit.keeps λb o e=>(e0.bs b o e).1;have hkind:∀y∈ps.zip us,TM.names.lookup y.1=some .local\/(TM.names.lookup y.1=some .cell/\((Vb (s.heap.objs.size + 1) TM.names []).lookup y.1).isSome=true):=λ⟨n,v⟩ hy=>by
  rcases S.par n (aaw hy).1 with q | q
  ·exact .inl q
  ·exact .inr ⟨q,aaj _ _ _ (.inl q)⟩
 refine codeAny_call_function hr.depth (KX _ _ lk) rfl S.co S.gen rfl (W.codeRec_of KX hcd) (hb _ _ _ _ ?_);refine wpAny_newFunctionEnv_cells S.kind hkind λenv he s1 x=>?_;subst he;refine ⟨lim.keeps x.toInCall.keep,codeAny_func ?_⟩;obtain ⟨t,ht,hq⟩:=hbody A outer s H vs Q E (hr.deeper _) RA;have I:Inv (sP CX P w K mg base N TX TM f cdv A outer s H E) [] (start N vs) H s1:=EJ S hr.hd e0 hl r x;refine UZ (ht [] s1 (start N vs) H _ I hq) (λfl s' hs=>?_) λe s' hs=>hs;have fin:∀{σ':St}{H':Hp}{v:V}{u:T7},Inv (sP CX P w K mg base N TX TM f cdv A outer s H E) [] σ' H' s'->RelV v u->Q v H'->CE outer P w H s Q u s':=
  fun {σ' H' v u} J rv q=>⟨v,H',J.os,J.bare,J.base,J.hok,rv,q⟩
 cases fl with
 | ret u=>
  obtain ⟨v,σ',H',J,rv,q⟩:=hs;exact fin J rv q
 | next=>
  obtain ⟨σ',H',J,q⟩:=hs;exact fin (v:=V.non) (u:=UY) J rfl q
 | brk=>
  obtain ⟨_,_,_,q⟩:=hs;exact XJ q
 | cont=>
  obtain ⟨_,_,_,q⟩:=hs;exact XJ q
section
variable {X:Cx}{x:Str}{p pos:Pos}{e:UU}{es:List UU}{t:TA}{id T:String}{r:List V->Hp->VK->Prop}
def Pf (r:List V->Hp->VK->Prop) (t:TA):TE:=λσ H Q=>t σ H λvs H1=>r vs H1 Q
theorem tH (hc:cR X (.builtin id) r) (hg:Gl X x) (hm:X.mg x=none) (hv:Vd x=some (.builtin id)) (ha:PA X (e::es) t) (hn:x≠"__name__":=by decide) (hdb:(x == ("__debug__":Str))=false:=by decide)
  (he:Uj (e::es) X.env=(false,eval e X.env)::Uj es X.env:=by rfl) (hpl:(Vx pos (Uj es X.env)).any (·.1)=false:=by rfl):PE X (.Call (.Name x p) (e::es) [] pos) (Pf r t):=by intro TN s σ H Q I h;refine WT (lG I hg hm hv ?_ hn hdb);exact ab4 (bN (ha pos TN s σ H _ I h) λus s1 ⟨vs,H1,I1,r1,q1⟩=>hc TN s1 σ H1 vs us Q I1 r1 q1) he hpl
theorem mz (hc:cR X (.type T) r) (hg:Gl X x) (hm:X.mg x=none) (hv:Vd x=some (.type T)) (ha:PA X (e::es) t) (hn:x≠"__name__":=by decide) (hdb:(x == ("__debug__":Str))=false:=by decide)
  (he:Uj (e::es) X.env=(false,eval e X.env)::Uj es X.env:=by rfl) (hpl:(Vx pos (Uj es X.env)).any (·.1)=false:=by rfl):PE X (.Call (.Name x p) (e::es) [] pos) (Pf r t):=by intro TN s σ H Q I h;refine WT (lG I hg hm hv ?_ hn hdb);exact Zp (bN (ha pos TN s σ H _ I h) λus s1 ⟨vs,H1,I1,r1,q1⟩=>hc TN s1 σ H1 vs us Q I1 r1 q1) he hpl
end
end L2
namespace HT
open PySem PyProof.Rows
theorem GD (A:UW) (s:T_) (a:Int) (t:Tok) (c:Int) (u:Tok):∃e,Wl A s (.int a t) (.int c u) e/\(e=true↔a=c):=
 ⟨(a == c),abq a t c u,by simp⟩
section
open PySem.SeqAt
open PySem.AutoSeq1 (wpAny_loadPart')
open PySem.MeetsSeq PySem.MeetsSeq2 PySem.MeetsSeq3
end
section
variable {prog:Uv}{w:US}{A:UW}{E:T7->T_->Prop}{s:T_}
theorem JK {vs ws:List T7}{Q:T7->T_->Prop}(ht:adV s.heap t vs.toArray) (hb:adV s.heap b ws.toArray) (hv:vs≠[])
 (h1:ws=[]->Q (.ref t) s) (h2:ws≠[]->Q (.ref s.heap.objs.size) {s with heap:=s.heap.push {cls:=.type "tuple",data:=.seq (vs++ws).toArray}})
 (hsz:vs.length + ws.length<=sizeLine):Uu (UB prog w) A (Xj .Add (.ref t) (.ref b)) Q E s:=by
 obtain ⟨⟨cls,dd,data,sl⟩,ho,hc,n,hd⟩:=id ht;obtain ⟨⟨cls2,dd2,data2,sl2⟩,ho2,hc2,n2,hd2⟩:=id hb;simp only at hc hd hc2 hd2;subst hc hd hc2 hd2;have e:vs.toArray++ws.toArray=(vs++ws).toArray:=by simp
 by_cases hw:ws=[]
 ·exact aax ⟨_,ho,rfl⟩ ⟨_,ho2,rfl⟩ aae abr Yz Yk (Ye _ _)
   (tuple_addW1 t b vs.toArray ws.toArray n n2 dd dd2 sl sl2 (by simpa using hv) (by simp [hw])) ⟨ho,ho2,h1 hw⟩
 ·refine aax ⟨_,ho,rfl⟩ ⟨_,ho2,rfl⟩ aae abr Yz Yk (Ye _ _)
   (tuple_addW2 t b vs.toArray ws.toArray n n2 dd dd2 sl sl2 (by simpa using hv) (by simpa using hw) (by rw [Ug,Ug];exact hsz)) ⟨ho,ho2,?_⟩
  rw [e];exact h2 hw
noncomputable def bK (n d:Nat):Option Int->Nat
 | none=>d
 | some v=>if v < 0 then (v + (n:Int)).toNat else min v.toNat n
theorem HY (n d:Nat):bK n d none=d:=rfl
theorem Lc (n d k:Nat):bK n d (some (k:Int))=min k n:=by show (if (k:Int) < 0 then ((k:Int) + (n:Int)).toNat else min (k:Int).toNat n)=min k n;rw [if_neg (by omega),Vo]
theorem NJ (n d:Nat) (hd:d<=n) (o:Option Int):bK n d o<=n:=by
 cases o with
 | none=>exact hd
 | some v=>
  show (if v < 0 then (v + (n:Int)).toNat else min v.toNat n)<=n;by_cases hv:v < 0
  ·rw [if_pos hv];omega
  ·rw [if_neg hv];exact Nat.min_le_right _ _
theorem Bh (v:Int) (n d:Nat):(if v < 0 then max (v + (n:Int)) 0 else min v (n:Int))=((bK n d (some v):Nat):Int):=by
 show (if v < 0 then max (v + (n:Int)) 0 else min v (n:Int))=(((if v < 0 then (v + (n:Int)).toNat else min v.toNat n):Nat):Int);by_cases hv:v < 0
 ·simp only [if_pos hv];omega
 ·simp only [if_neg hv];omega
theorem Ck (lo hi:Option Int) (n:Nat):XY lo hi 1 (n:Int)=(((bK n 0 lo:Nat):Int),((bK n n hi:Nat):Int)):=by
 have h1:¬((1:Int) < 0):=by omega
 unfold XY;simp only [h1,if_false];refine Prod.ext ?_ ?_
 ·cases lo with
  | none=>rfl
  | some v=>exact Bh v n 0
 ·cases hi with
  | none=>rfl
  | some v=>exact Bh v n n
theorem Dg (i j:Nat):WY (i:Int) (j:Int) 1=j - i:=by
 unfold WY;have h1:(1:Int) > 0:=by omega
 simp only [h1,if_true,Int.ediv_one];split <;> omega
theorem vf {Q:Option Int->T_->Prop}(p:abt v o) (h:Q o s):Uu (UB prog w) A (acr v) Q E s:=by
 cases p with
 | none=>exact ac1 h
 | int i t=>exact slicePart_int h
theorem lN {sl:UA}{vl vu:T7}{lo hi:Option Int}{n:Nat}{Q:Int×Int×Nat->T_->Prop}(hs:s.heap.IsSliceOf sl vl vu .none) (pl:abt vl lo) (pu:abt vu hi)
  (h:Q (((bK n 0 lo:Nat):Int),1,bK n n hi - bK n 0 lo) s):Uu (UB prog w) A (ZH (.ref sl) (pure (n:Int))) Q E s:=by obtain ⟨os,hos,hcs,hds⟩:=id hs;unfold ZH ac2;refine T4 (T4 (abe hos hds (x:=vl) rfl (T4 (abe hos hds (x:=vu) rfl (T4 (abe hos hds (x:=.none) rfl (T6 ?_)))))));refine T4 (ac1 ?_);show Uu _ _ (if ((1:Int) == 0)=true then _ else _) _ _ s;rw [if_neg (by decide)];refine T4 (vf pl (T4 (vf pu (T4 (T6 ?_)))));show Uu _ _ (match XY lo hi 1 (n:Int) with | (lo,hi)=>pure (lo,(1:Int),WY lo hi 1)) _ _ s;rw [Ck lo hi n];show Uu _ _ (pure (((bK n 0 lo:Nat):Int),(1:Int),WY ((bK n 0 lo:Nat):Int) ((bK n n hi:Nat):Int) 1)) _ _ s;rw [Dg];exact T6 h
theorem HB (xs:Array T7) (i k:Nat):((Ue k).filterMap λ(m:Nat)=>xs[((i:Int) + (m:Int) * 1).toNat]?).toArray=((xs.toList.drop i).take k).toArray:=by
 have e:(λ(m:Nat)=>xs[((i:Int) + (m:Int) * 1).toNat]?)=λm=>xs[i + m]?:=by
  funext m;have:((i:Int) + (m:Int) * 1).toNat=i + m:=by omega
  rw [this]
 rw [e];have:=pick_run xs i k;rw [abu] at this;have e2:((λx=>xs[x]?) ∘ λx=>i + x)=λm=>xs[i + m]?:=rfl;rw [e2] at this;rw [this]
theorem q9 {t sl:UA}{TQ:Array T7}{vl vu:T7}{lo hi:Option Int}{Q:T7->T_->Prop}(ht:adV s.heap t TQ) (hs:s.heap.IsSliceOf sl vl vu .none) (pl:abt vl lo) (pu:abt vu hi)
  (hw:¬(bK TQ.size 0 lo=0/\bK TQ.size TQ.size hi=TQ.size))
  (h:Q (.ref s.heap.objs.size) {s with heap:=s.heap.push {cls:=.type "tuple",data:=.seq ((TQ.toList.drop (bK TQ.size 0 lo)).take (bK TQ.size TQ.size hi - bK TQ.size 0 lo)).toArray}})
  (hsz:TQ.size<=sizeLine):Uu (UB prog w) A (abJ (.ref t) (.ref sl)) Q E s:=by
 have Rm:sizeOk (.seq ((TQ.toList.drop (bK TQ.size 0 lo)).take (bK TQ.size TQ.size hi - bK TQ.size 0 lo)).toArray):=by show ((TQ.toList.drop (bK TQ.size 0 lo)).take (bK TQ.size TQ.size hi - bK TQ.size 0 lo)).toArray.size<=sizeLine;rw [Ug,Vf,Wn,Ux];omega
 have hj:bK TQ.size TQ.size hi<=TQ.size:=NJ _ _ (Ud _) hi;obtain ⟨os,hos,hcs,hds⟩:=id hs;have R9:s.TypeIs (.ref sl) "slice":=⟨os,hos,hcs⟩;unfold abJ
 try with_reducible refine UN ?_
 first | refine T4 (T6 ?_) | skip
 refine T4 (abK ht.typeIs (by decide) ?_);refine T4 (Vk (name:=XC "__getitem__") ht.typeIs Vh
  (U0 Vh ht.typeIs abf ?_ (abv _ _)))
 show Uu _ _ (XU (.ref t) >>= _) _ _ s;refine T4 (adA ht ?_);refine T4 (YY R9 ?_);rw [if_pos (by decide)];refine T4 (lN hs pl pu ?_);have hno:¬((((bK TQ.size 0 lo:Nat):Int) == 0 && (1:Int) == 1 && (bK TQ.size TQ.size hi - bK TQ.size 0 lo) == TQ.size)=true):=by intro q;rw [Ub,Ub] at q;have q1:((bK TQ.size 0 lo:Nat):Int)=0:=eq_of_beq q.1.1;have q2:bK TQ.size TQ.size hi - bK TQ.size 0 lo=TQ.size:=eq_of_beq q.2;exact hw ⟨by omega,by omega⟩
 show Uu _ _ (if (((bK TQ.size 0 lo:Nat):Int) == 0 && (1:Int) == 1 && (bK TQ.size TQ.size hi - bK TQ.size 0 lo) == TQ.size)=true then _ else _) _ _ s;rw [if_neg hno,HB]
 first
  | exact T4 (m:=W9 _) (UJ (T6 ⟨_,rfl,T6 h⟩) Rm)
  | exact T4 (m:=W9 _) (UJ (T4 (T6 (T6 ⟨_,rfl,T6 h⟩))) Rm)
  | exact T4 (T4 (m:=W9 _) (UJ (T6 (T6 ⟨_,rfl,T6 h⟩)) Rm))
  | exact T4 (T4 (m:=W9 _) (UJ (T6 ⟨_,rfl,T6 h⟩) Rm))
end
end HT
namespace L2
open PySem PySem.Spec PyProof.Rows
abbrev TO:=St->Hp->(Option Int->Hp->Prop)->Prop
noncomputable def PO (X:Cx) (e:Option UU) (t:TO):Prop:=
 ∀(TN:List (UA×Obj)) (s:T_) (σ:St) (H:Hp) (Q:Option Int->Hp->Prop),Inv X TN σ H s->t σ H Q->
  Uu (UB X.prog X.w) X.A (evalPart e X.env) (λu s'=>∃o H',Inv X TN σ H' s'/\abt u o/\Q o H') X.xe s
def Lk:TO:=λ_ H Q=>Q none H
def OT (t:TE):TO:=λσ H Q=>t σ H λx H1=>∃i,x=.int i/\Q (some i) H1
theorem intsAre_of {ns:List Int}:∀{us:List T7},Vals (ns.map V.int) us->XD us ns:=by
 induction ns with
 | nil=>intro us r;rw [aay] at r;cases r;exact .nil
 | cons n ns ih=>
  intro us r;rw [Ur] at r;cases r with
  | cons r1 r2=>
   obtain ⟨t,e⟩:=r1;subst e;exact .cons n t (ih r2)
section
variable {X:Cx}{e:UU}{te:TE}{lo hi:Option UU}{tl th:TO}{pos p2:Pos}
theorem KR:PO X none Lk:=by intro TN s σ H Q I h;rw [adB];exact T6 ⟨none,H,I,.none,h⟩
theorem KS (h:PE X e te):PO X (some e) (OT te):=by intro TN s σ H Q I hw;rw [evalPart_some];refine bN (h TN s σ H _ I hw) λu s1 ⟨x,H1,I1,r1,q1⟩=>?_;obtain ⟨i,rfl,q⟩:=q1;obtain ⟨t,rfl⟩:=r1;exact ⟨some i,H1,I1,.int i t,q⟩
noncomputable def rK (X:Cx) (r:V->Option Int->Option Int->Hp->VK->Prop):Prop:=
 ∀(TN:List (UA×Obj)) (s:T_) (σ:St) (H:Hp) (x:V) (v vl vu:T7) (lo hi:Option Int) (sl:UA) (Q:VK),Inv X TN σ H s->RelV x v->s.heap.IsSliceOf sl vl vu .none->abt vl lo->abt vu hi->r x lo hi H Q->
  ∃T id,typeLookup (.type T) "__getitem__"=pure (some (.builtin id))/\s.TypeIs v T/\Uu (UB X.prog X.w) X.A (abJ v (.ref sl)) (EP X TN σ Q) X.xe s
theorem rK.or {r r':V->Option Int->Option Int->Hp->VK->Prop}(h:rK X r) (h':rK X r'):rK X (λx lo hi H Q=>r x lo hi H Q\/r' x lo hi H Q):=by
 intro TN s σ H x v vl vu lo hi sl Q I rx hs pl pu q;rcases q with q | q
 ·exact h TN s σ H x v vl vu lo hi sl Q I rx hs pl pu q
 ·exact h' TN s σ H x v vl vu lo hi sl Q I rx hs pl pu q
def Qy (r:V->Option Int->Option Int->Hp->VK->Prop) (te:TE) (tl th:TO):TE:=λσ H Q=>te σ H λx H1=>tl σ H1 λl H2=>th σ H2 λu H3=>r x l u H3 Q
theorem Hz {r:V->Option Int->Option Int->Hp->VK->Prop}(hr:rK X r) (he:PE X e te) (hl:PO X lo tl) (hu:PO X hi th):PE X (.Subscript e (.Slice lo hi none p2) pos) (Qy r te tl th):=by intro TN s σ H Q I h;refine Subscript_ (bN (he TN s σ H _ I h) λv s1 ⟨x,H1,I1,r1,q1⟩=>?_);refine wpAny_Slice (bN (hl TN s1 σ H1 _ I1 q1) λvl s2 ⟨l,H2,I2,pl,q2⟩=>bN (hu TN s2 σ H2 _ I2 q2) λvu s3 ⟨u,H3,I3,pu,q3⟩=>?_);rw [adB];refine T6 ?_;have I4:Inv X TN σ H3 {s3 with heap:=s3.heap.push {cls:=.type "slice",data:=.fields #[vl,vu,.none]}}:=I3.kept (t':=s3.toks) λb ob q=>T9 _ q;obtain ⟨T,id,hT,ht,hg⟩:=hr TN {s3 with heap:=s3.heap.push {cls:=.type "slice",data:=.fields #[vl,vu,.none]}} σ H3 x v vl vu l u s3.heap.objs.size Q I4 r1 (aey ..) pl pu q3;show Uu (UB X.prog X.w) X.A (adC e (.Slice lo hi none p2) v (.ref s3.heap.objs.size)) (EP X TN σ Q) X.xe {s3 with heap:=s3.heap.push {cls:=.type "slice",data:=.fields #[vl,vu,.none]}};exact tail_any (ops:=[.ref s3.heap.objs.size,v]) ht hT hg (by with_unfolding_all rfl)
def mK (xs:List V) (lo hi:Option Int):List V:=(xs.drop (HT.bK xs.length 0 lo)).take (HT.bK xs.length xs.length hi - HT.bK xs.length 0 lo)
theorem rP (xs:List V) (lo hi:Option Int):(mK xs lo hi).length<=xs.length:=by unfold mK;rw [Vf,Wn];omega
noncomputable def PY (K:T5):V->Option Int->Option Int->Hp->VK->Prop:=λx lo hi H Q=>∃a xs,x=.ref a/\c7 K H a xs/\
 ¬(HT.bK xs.length 0 lo=0/\HT.bK xs.length xs.length hi=xs.length)/\∀p,H p=none->Q (.ref p) (upd H p (.tup (mK xs lo hi)))
theorem NL:rK X (PY X.K):=by
 intro TN s σ H x v vl vu lo hi sl Q I rx hs pl pu h;obtain ⟨a,xs,rfl,hx,hw,q⟩:=h;cases rx;obtain ⟨TR,r,ht,hz⟩:=I.tuple hx;have hlen:TR.toArray.size=xs.length:=by rw [Ug];exact r.length.symm
 refine ⟨"tuple",_,Vh.lookup,ht.typeIs,?_⟩;refine HT.q9 ht hs pl pu (by rw [hlen];exact hw) ?_ (by rw [hlen];exact hz);rw [hlen];refine ⟨.ref s.heap.objs.size,_,I.laid (t':=s.toks) (o:=.tup (mK xs lo hi)) (λb ob q=>T9 _ q) (Ud _) ?_,rfl,q _ (I.hok.fresh (Ud _))⟩;exact ⟨UC (rP xs lo hi) hz,_,(r.drop (HT.bK xs.length 0 lo)).take (HT.bK xs.length xs.length hi - HT.bK xs.length 0 lo),adX _ _⟩
noncomputable def OD (K:T5):R2:=λx y H Q=>∃a b xs ys,x=.ref a/\y=.ref b/\c7 K H a xs/\c7 K H b ys/\xs≠[]/\xs.length + ys.length<=sizeLine/\
 (ys=[]->Q (.ref a) H)/\(ys≠[]->∀p,H p=none->Q (.ref p) (upd H p (.tup (xs++ys))))
theorem Vals.nil_iff (r:Vals xs us):us=[]↔xs=[]:=by
 cases r with
 | nil=>simp
 | cons _ _=>simp
theorem Kv:c6 X (Xj .Add) (OD X.K):=by intro TN s σ H x y v u Q I rx ry h;obtain ⟨a,b,xs,ys,rfl,rfl,ha,hb,hx,hz,q1,q2⟩:=h;cases rx;cases ry;obtain ⟨TR,r1,p1,_⟩:=I.tuple ha;obtain ⟨its2,r2,p2,_⟩:=I.tuple hb;refine HT.JK p1 p2 (λz=>hx (r1.nil_iff.mp z)) (λz=>⟨.ref a,H,I,rfl,q1 (r2.nil_iff.mp z)⟩) (λz=>?_) (by rw [<-r1.length,<-r2.length];exact hz);refine ⟨.ref s.heap.objs.size,_,I.laid (t':=s.toks) (o:=.tup (xs++ys)) (λb ob q=>T9 _ q) (Ud _) ?_,rfl,q2 (λw=>z (r2.nil_iff.mpr w)) _ (I.hok.fresh (Ud _))⟩;exact ⟨by rw [Uo];exact hz,_,r1.append r2,adX _ _⟩
end
def sd (n:Nat) (i:Int):Option Nat:=if 0<=i then (if i < n then some i.toNat else none) else if -(n:Int)<=i then some (i + n).toNat else none
def lq {α:Type}(xs:List α) (i:Int):Option α:=(sd xs.length i).bind λj=>xs[j]?
theorem JZ (h:sd n i=some j):abw i n=some j/\j < n/\-(n:Int)<=i/\i < n:=by
 unfold sd at h;by_cases h0:0<=i
 ·rw [if_pos h0] at h;by_cases h1:i < n
  ·rw [if_pos h1] at h;have e:i.toNat=j:=Vl h;exact ⟨by rw [seqIndex_of h0 h1,e],by omega,by omega,h1⟩
  ·rw [if_neg h1] at h;cases h
 ·rw [if_neg h0] at h;by_cases h1:-(n:Int)<=i
  ·rw [if_pos h1] at h;have e:(i + n).toNat=j:=Vl h;exact ⟨by rw [seqIndex_neg (by omega) h1,e],by omega,h1,by omega⟩
  ·rw [if_neg h1] at h;cases h
theorem vC {α:Type}{xs:List α}{i:Int}{v:α}(h:lq xs i=some v):∃j,abw i xs.length=some j/\xs[j]?=some v/\j < xs.length/\-(xs.length:Int)<=i/\i < xs.length:=by
 unfold lq at h;cases e:sd xs.length i with
 | none=>rw [e] at h;cases h
 | some j=>
  rw [e] at h;obtain ⟨h1,h2,h3,h4⟩:=JZ e;exact ⟨j,h1,h,h2,h3,h4⟩
def mV (b:UU):Prop:=∀o i,subscripted b false o i=operate [o,i] (abJ o i)
noncomputable def pe (X:Cx) (r:R2):Prop:=
 ∀(value slice:UU) (TN:List (UA×Obj)) (s:T_) (σ:St) (H:Hp) (x y:V) (v u:T7) (Q:VK),Inv X TN σ H s->RelV x v->RelV y u->r x y H Q->
  subscripted slice false v u=operate [v,u] (abJ v u)->Uu (UB X.prog X.w) X.A (adC value slice v u) (EP X TN σ Q) X.xe s
noncomputable def O6 (X:Cx) (id:String) (r:V->List V->Hp->VK->Prop):Prop:=
 ∀(TN:List (UA×Obj)) (s:T_) (σ:St) (H:Hp) (x:V) (xs:List V) (v:T7) (us:List T7) (Q:VK),Inv X TN σ H s->RelV x v->Vals xs us->r x xs H Q->
  Uu (UB X.prog X.w) X.A (call (.builtin id) (v::us)) (EP X TN σ Q) X.xe s
section
variable {X:Cx}{a b:UU}{ta tb:TE}{pos:Pos}
theorem pe.or {r r':R2}(h:pe X r) (h':pe X r'):pe X (λx y H Q=>r x y H Q\/r' x y H Q):=by
 intro value slice TN s σ H x y v u Q I rx ry q hs;rcases q with q | q
 ·exact h value slice TN s σ H x y v u Q I rx ry q hs
 ·exact h' value slice TN s σ H x y v u Q I rx ry q hs
theorem Jc (hr:pe X r) (ha:PE X a ta) (hb:PE X b tb) (hs:mV b):PE X (.Subscript a b pos) (BZ r ta tb):=by intro TN s σ H Q I h;exact Subscript_ (Gs ha hb I h λv u s2 x y H2 I2 rx ry q=>hr a b TN s2 σ H2 x y v u Q I2 rx ry q (hs _ _))
def HN (K:T5):R2:=λx y H Q=>∃p xs i v,x=.ref p/\y=.int i/\cg K H p xs/\lq xs i=some v/\Q v H
def NF (K:T5):R2:=λx y H Q=>∃p xs i v,x=.ref p/\y=.int i/\c7 K H p xs/\lq xs i=some v/\Q v H
def ND:R2:=λx y H Q=>∃z i c,x=.str z/\y=.int i/\z.length<=sizeLine/\lq z.cps.toList i=some c/\Q (.str ⟨#[c]⟩) H
theorem Bx:pe X (HN X.K):=by
 intro value slice TN s σ H x y v u Q I rx ry h hs;obtain ⟨p,xs,i,z,rfl,rfl,hq,he,q⟩:=h;cases rx;obtain ⟨t,rfl⟩:=ry;obtain ⟨TR,r,pl,hz⟩:=I.list hq;obtain ⟨j,h1,h2,h3,h4,h5⟩:=vC he;obtain ⟨w,ew,rw'⟩:=r.get h2;have hl:=r.length;have hn:=lH;have fin:EP X TN σ Q w s:=⟨z,H,I,rw',q⟩;by_cases h0:0<=i
 ·have hj:i.toNat=j:=by rw [seqIndex_of h0 h5] at h1;exact Vl h1
  exact item_listR pl.isList h0 (by omega) (by rw [hj];simpa using ew) fin hs
 ·have hj:(i + (TR.toArray.size:Int)).toNat=j:=by rw [seqIndex_neg (by omega) h4] at h1;rw [Ug,<-hl];exact Vl h1
  exact YA (x:=w) pl.isList.typeIs abL.lookup
   (wpAny_getItem_list_neg (Q:=λr s'=>r=w/\EP X TN σ Q r s') pl.isList (by omega) (by rw [Ug] <;> omega) (by omega) (by rw [hj];simpa using ew) ⟨rfl,fin⟩) hs
theorem MG:pe X (NF X.K):=by
 intro value slice TN s σ H x y v u Q I rx ry h hs;obtain ⟨p,xs,i,z,rfl,rfl,hq,he,q⟩:=h;cases rx;obtain ⟨t,rfl⟩:=ry;obtain ⟨TR,r,pl,hz⟩:=I.tuple hq;obtain ⟨j,h1,h2,h3,h4,h5⟩:=vC he;obtain ⟨w,ew,rw'⟩:=r.get h2;have hl:=r.length;have hn:=lH;have fin:EP X TN σ Q w s:=⟨z,H,I,rw',q⟩;exact YA (x:=w) pl.typeIs slot_tuple_getitem.lookup
  (getItem_tuple (j:=j) (Q:=λr s'=>r=w/\EP X TN σ Q r s') pl (by omega) (by omega) (by rw [Ug,<-hl];exact h1) (by simpa using ew) ⟨rfl,fin⟩) hs
theorem MF:pe X ND:=by
 intro value slice TN s σ H x y v u Q I rx ry h hs;obtain ⟨z,i,c,rfl,rfl,hz,he,q⟩:=h;obtain ⟨t,rfl⟩:=rx;obtain ⟨t',rfl⟩:=ry;obtain ⟨j,h1,h2,h3,h4,h5⟩:=vC he;have hl:z.cps.toList.length=z.length:=by simp [abM]
 rw [hl] at h1 h4 h5;have hn:=lH;exact tail_any (YG s z t) slot_str_getitem.lookup (getItem_str (c:=c) (by
  have e1:decide (i < -(2 ^ 63:Int))=false:=decide_eq_false (by omega);have e2:decide (i ≥ 2 ^ 63)=false:=decide_eq_false (by omega);rw [e1,e2,adD]) (by rw [h1];simpa using h2) ⟨.str ⟨#[c]⟩,H,I.tok _,⟨_,rfl⟩,q⟩) hs
def Qt (K:T5):R2:=λx y H Q=>HN K x y H Q\/NF K x y H Q\/ND x y H Q
theorem ME:pe X (Qt X.K):=Bx.or (MG.or MF)
theorem Inv.lst {H:Hp}{s:T_}{xs:List V}(I:Inv X TN σ H s) (h:H p=some (.lst xs)):
  ∃(TR:List T7) (n:Nat),Vals xs TR/\s.heap.get? p=some {cls:=.type "list",data:=.seq TR.toArray n}/\xs.length<=sizeLine:=by obtain ⟨z,TR,n,r,e⟩:=I.hok p _ h;exact ⟨TR,n,r,e,z⟩
theorem Ay (lo hi:Option Int) (n:Nat):(YH lo hi none n).1=((HT.bK n 0 lo:Nat):Int)/\(YH lo hi none n).2.1=((HT.bK n n hi:Nat):Int)/\(YH lo hi none n).2.2=1:=by
 refine ⟨?_,?_,rfl⟩
 ·cases lo with
  | none=>simp [YH,HT.bK]
  | some i=>
   simp only [YH,HT.bK,aci,show (1:Int) > 0 by decide,if_true];by_cases h:i < 0
   ·simp only [h,if_true] <;> omega
   ·simp only [h,if_false] <;> omega
 ·cases hi with
  | none=>simp [YH,HT.bK]
  | some i=>
   simp only [YH,HT.bK,aci,show (1:Int) > 0 by decide,if_true];by_cases h:i < 0
   ·simp only [h,if_true] <;> omega
   ·simp only [h,if_false] <;> omega
theorem yo (TR:List T7) (lo hi:Option Int):slicePick TR.toArray lo hi none=((TR.drop (HT.bK TR.length 0 lo)).take (HT.bK TR.length TR.length hi - HT.bK TR.length 0 lo)).toArray:=by obtain ⟨h1,h2,h3⟩:=Ay lo hi TR.toArray.size;unfold slicePick;rw [h1,h2,h3];simp only [sliceRange_one,pick_run,Ug] <;> rfl
noncomputable def PX (K:T5):V->Option Int->Option Int->Hp->VK->Prop:=λx lo hi H Q=>∃a xs,x=.ref a/\cg K H a xs/\∀p,H p=none->Q (.ref p) (upd H p (.lst (mK xs lo hi)))
theorem Lf:rK X (PX X.K):=by intro TN s σ H x v vl vu lo hi sl Q I rx hs pl pu h;obtain ⟨a,xs,rfl,hx,q⟩:=h;cases rx;obtain ⟨TR,r,ht,hz⟩:=I.list hx;have hlen:=r.length;refine ⟨"list",_,abL.lookup,ht.isList.typeIs,?_⟩;refine wpAny_getItem_list_slice ht.isList hs pl pu .none (by simp) ?_ (by rw [Ug] <;> omega);rw [yo,<-hlen];refine ⟨.ref s.heap.objs.size,_,I.laid (t':=s.toks) (o:=.lst (mK xs lo hi)) (λb ob q=>T9 _ q) (Ud _) ?_,rfl,q _ (I.hok.fresh (Ud _))⟩;exact ⟨UC (rP xs lo hi) hz,_,0,(r.drop (HT.bK xs.length 0 lo)).take (HT.bK xs.length xs.length hi - HT.bK xs.length 0 lo),Uh _ rfl⟩
noncomputable def uC:V->Bool
 | .non=>true
 | .bl _=>true
 | .int _=>true
 | .str _=>true
 | _=>false
noncomputable def Mi:V->V->Bool
 | .non,.non=>true
 | .bl a,.bl b=>a == b
 | .bl a,.int b=>(if a then 1 else 0) == b
 | .int a,.bl b=>a == (if b then 1 else 0)
 | .int a,.int b=>a == b
 | .str a,.str b=>a == b
 | _,_=>false
theorem Mh (ry:RelV y u) (rx:RelV x v) (fy:uC y=true) (fx:uC x=true):Wl A s u v (Mi y x):=by
 cases y with
 | non=>
  cases ry;cases x with
  | non=>cases rx;exact aaz _
  | bl b=>cases rx;exact ad5 b
  | int b=>obtain ⟨t,rfl⟩:=rx;exact aec b t
  | str b=>obtain ⟨t,rfl⟩:=rx;exact aed b t
  | _=>exact absurd (show false=true from fx) UH
 | bl a=>
  cases ry;cases x with
  | non=>cases rx;exact ad6 a
  | bl b=>cases rx;exact ad7 a b
  | int b=>obtain ⟨t,rfl⟩:=rx;exact aee a b t
  | str b=>obtain ⟨t,rfl⟩:=rx;exact aef a b t
  | _=>exact absurd (show false=true from fx) UH
 | int a=>
  obtain ⟨t',rfl⟩:=ry;cases x with
  | non=>cases rx;exact aeg a t'
  | bl b=>cases rx;exact aeh a t' b
  | int b=>obtain ⟨t,rfl⟩:=rx;exact abq a t' b t
  | str b=>obtain ⟨t,rfl⟩:=rx;exact abm a t' b t
  | _=>exact absurd (show false=true from fx) UH
 | str a=>
  obtain ⟨t',rfl⟩:=ry;cases x with
  | non=>cases rx;exact aei a t'
  | bl b=>cases rx;exact aej a t' b
  | int b=>obtain ⟨t,rfl⟩:=rx;exact abn a t' b t
  | str b=>obtain ⟨t,rfl⟩:=rx;exact aez a t' b t
  | _=>exact absurd (show false=true from fx) UH
 | _=>exact absurd (show false=true from fy) UH
theorem zg:cR X (.builtin "len") (λxs H Q=>∃p ys,xs=[.ref p]/\(cg X.K H p ys\/c7 X.K H p ys)/\Q (.int ys.length) H):=by
 intro TN s σ H xs us Q I r h;obtain ⟨p,ys,rfl,hq,q⟩:=h;obtain ⟨u,rfl,rx⟩:=vals1 r;cases rx;have hn:=lH;rcases hq with hq | hq
 ·obtain ⟨TR,r',pl,hz⟩:=I.list hq;have hlen:=r'.length;exact Calls.call_len_list pl.isList (by simp only [Ug] <;> omega) ⟨.int ys.length,H,I.tok _,⟨s.toks + 1,by rw [Ug,hlen]⟩,q⟩
 ·obtain ⟨TR,r',pl,hz⟩:=I.tuple hq;have hlen:=r'.length;exact len_tuple pl (by simp only [Ug] <;> omega) ⟨.int ys.length,H,I.tok _,⟨s.toks + 1,by rw [Ug,hlen]⟩,q⟩
theorem zh:cR X (.builtin "len") (λxs H Q=>∃z,xs=[.str z]/\z.length<=sizeLine/\Q (.int z.length) H):=by intro TN s σ H xs us Q I r h;obtain ⟨z,rfl,hz,q⟩:=h;obtain ⟨u,rfl,t,rfl⟩:=vals1 r;have hn:=lH;exact len_str (by omega) ⟨.int z.length,H,I.tok _,⟨_,rfl⟩,q⟩
theorem cR.or {r r':List V->Hp->VK->Prop}(h:cR X f r) (h':cR X f r'):cR X f (λxs H Q=>r xs H Q\/r' xs H Q):=by
 intro TN s σ H xs us Q I rs q;rcases q with q | q
 ·exact h TN s σ H xs us Q I rs q
 ·exact h' TN s σ H xs us Q I rs q
theorem zj:cR X (.type "list") (λxs H Q=>∃p ys,xs=[.ref p]/\(cg X.K H p ys\/c7 X.K H p ys)/\∀l,H l=none->Q (.ref l) (upd H l (.lst ys))):=by
 intro TN s σ H xs us Q I r h;obtain ⟨p,ys,rfl,hq,q⟩:=h;obtain ⟨u,rfl,rx⟩:=vals1 r;cases rx;have fin:∀(TR:List T7),Vals ys TR->ys.length<=sizeLine->∀(h':VJ) (c':Nat),(∀b o',s.heap.get? b=some o'->h'.get? b=some o')->
   h'.get? s.heap.objs.size=some {cls:=.type "list",dict:=none,data:=.seq TR.toArray c',slots:=#[]}->EP X TN σ Q (.ref s.heap.objs.size) {s with heap:=h'}:=λTR r' hz h' c' kp e=>
  ⟨.ref s.heap.objs.size,_,I.laid (t':=s.toks) kp (Ud _) (show cF X.prog X.w _ h' _ (.lst ys) from ⟨hz,TR,c',r',e⟩),rfl,q _ (I.hok.fresh (Ud _))⟩
 rcases hq with hq | hq
 ·obtain ⟨TR,r',pl,hz⟩:=I.list hq;have hlen:=r'.length;obtain ⟨o,ho,hc,n,hd⟩:=pl.isList;exact adE p (.inl rfl) ho hc hd (λh' c' kp e=>fin TR r' hz h' c' kp e) (by simp only [Ug] <;> omega)
 ·obtain ⟨TR,r',pl,hz⟩:=I.tuple hq;have hlen:=r'.length;obtain ⟨o,ho,hc,n,hd⟩:=pl;exact adE p (.inr rfl) ho hc hd (λh' c' kp e=>fin TR r' hz h' c' kp e) (by simp only [Ug] <;> omega)
theorem yg:cR X (.type "tuple") (λxs H Q=>∃p ys,xs=[.ref p]/\((cg X.K H p ys/\∀l,H l=none->Q (.ref l) (upd H l (.tup ys)))\/(c7 X.K H p ys/\Q (.ref p) H))):=by
 intro TN s σ H xs us Q I r h;obtain ⟨p,ys,rfl,h⟩:=h;obtain ⟨u,rfl,rx⟩:=vals1 r;cases rx;rcases h with ⟨hq,q⟩ | ⟨hq,q⟩
 ·obtain ⟨TR,r',pl,hz⟩:=I.list hq;have hlen:=r'.length;refine call_tuple_list pl.isList (λh' kp=>?_) (by simp only [Ug] <;> omega);have I1:Inv X TN σ H {s with heap:=h'}:=I.kept (t':=s.toks) kp;have I2:Inv X TN σ (upd H h'.objs.size (.tup ys)) {s with heap:=h'.push {cls:=.type "tuple",data:=.seq TR.toArray}}:=
   I1.laid (t':=s.toks) (λb o e=>T9 _ e) (Ud _) (show cF X.prog X.w _ _ _ (.tup ys) from ⟨hz,TR,r',adX _ _⟩)
  exact ⟨.ref h'.objs.size,_,I2,rfl,q _ (I1.hok.fresh (Ud _))⟩
 ·obtain ⟨TR,r',pl,hz⟩:=I.tuple hq;exact call_tuple_same pl ⟨.ref p,H,I,rfl,q⟩
noncomputable def NX (K:T5) (T:String) (x:V) (H:Hp):Prop:=match x with
 | .str _=>T="str"
 | .int _=>T="int"
 | .ref p=>(T="list"/\∃xs,cg K H p xs)\/(T="tuple"/\∃o,K.lookup p=some o/\o.cls=.type "tuple"/\o.dict=none)\/
   (T="dict"/\((∃TZ,H p=some (.dK TZ))\/∃TZ,H p=some (.dT TZ)))\/(T="set"/\∃S n,H p=some (.set S n))
 | _=>False
theorem Ga {H:Hp}{s:T_}(I:Inv X TN σ H s) (r:RelV x v) (ty:NX X.K T x H):
  s.TypeIs v T/\∀a,v=.ref a->∃ob,s.heap.get? a=some ob/\ob.dict=none:=by
 cases x with
 | str z=>
  obtain ⟨t,rfl⟩:=r;cases (show T="str" from ty);exact ⟨YG s z t,λ_ e=>nomatch e⟩
 | int i=>
  obtain ⟨t,rfl⟩:=r;cases (show T="int" from ty);exact ⟨adl s i t,λ_ e=>nomatch e⟩
 | ref p=>
  cases r;rcases ty with ⟨rfl,xs,hq⟩ | ⟨rfl,o,hk,hc,hd⟩ | ⟨rfl,hk⟩ | ⟨rfl,S,n,hk⟩
  ·obtain ⟨TR,_,pl,_⟩:=I.list hq;refine ⟨pl.isList.typeIs,λa e=>?_⟩;cases e;obtain ⟨o,n,e,c,hd,_⟩:=pl;exact ⟨o,e,hd⟩
  ·refine ⟨⟨o,I.kIn p o hk,hc⟩,λa e=>?_⟩;cases e;exact ⟨o,I.kIn _ o hk,hd⟩
  ·have z:∃o,s.heap.get? p=some o/\o.ExactDict:=by
    rcases hk with ⟨TZ,hk⟩ | ⟨TZ,hk⟩
    ·obtain ⟨_,_,_,_,o,_,_,e,ex,_⟩:=I.hok p _ hk;exact ⟨o,e,ex⟩
    ·obtain ⟨_,_,_,_,o,_,_,e,ex,_⟩:=I.hok p _ hk;exact ⟨o,e,ex⟩
   obtain ⟨o,e,ex⟩:=z;refine ⟨⟨o,e,ex.1⟩,λa e2=>?_⟩;cases e2;exact ⟨o,e,ex.2.1⟩
  ·obtain ⟨o,_,_,_,e,ex,_⟩:=I.hok p _ hk;refine ⟨⟨o,e,ex.1⟩,λa e2=>?_⟩;cases e2;exact ⟨o,e,ex.2.1⟩
 | _=>exact XJ ty
def Qa (K:T5) (T:String) (r:V->List V->Hp->VK->Prop) (to:TE):TE:=λσ H Q=>to σ H λx H1=>NX K T x H1/\r x [] H1 Q
def Qv (K:T5) (T:String) (r:V->List V->Hp->VK->Prop) (to:TE) (t:TA):TE:=λσ H Q=>to σ H λx H1=>NX K T x H1/\t σ H1 λxs H2=>r x xs H2 Q
variable {o e:UU}{es:List UU}{to:TE}{t:TA}{name:Str}{apos cpos:Pos}{T id:String}{r:V->List V->Hp->VK->Prop}
theorem Nb (pa:PlainAttrs T) (slot:Slot T name id) (hty:typeOf (.builtin id)=pure (.type "method_descriptor")) (hm:O6 X id r) (ho:PE X o to)
  (hbase:Wt o name X.env (eval o X.env)=eval o X.env:=by rfl) (hline:(apos.endLine == cpos.line)=true:=by rfl):PE X (.Call (.Attribute o name apos) [] [] cpos) (Qa X.K T r to):=by intro TN s σ H Q I h;refine Z3 hbase hline (bN (ho TN s σ H _ I h) λv s1 ⟨x,H1,I1,r1,ty,q1⟩=>?_);obtain ⟨h1,h2⟩:=Ga I1 r1 ty;exact ⟨T,id,pa,slot,hty,h1,h2,aak rfl (PySem.evalArgs_none (hm TN s1 σ H1 x [] v [] Q I1 r1 .nil q1))⟩
theorem yH (pa:PlainAttrs T) (slot:Slot T name id) (hty:typeOf (.builtin id)=pure (.type "method_descriptor")) (hm:O6 X id r) (ho:PE X o to) (ha:PA X (e::es) t)
  (hbase:Wt o name X.env (eval o X.env)=eval o X.env:=by rfl)
  (hfew:((Vx cpos (Uj (e::es) X.env)).all (λx=>!x.1) && (acs cpos (Z4 [] X.env)).all (λx=>x.1.isSome)
   && decide ((e::es).length + ([]:List Z5).length + (if ([]:List Z5).isEmpty then 0 else 1) < 30))=true:=by rfl)
  (hline:(apos.endLine == cpos.line)=true:=by rfl) (hs:Uj (e::es) X.env=(false,eval e X.env)::Uj es X.env:=by rfl) (hplain:(Vx cpos (Uj es X.env)).any (·.1)=false:=by rfl):
  PE X (.Call (.Attribute o name apos) (e::es) [] cpos) (Qv X.K T r to t):=by intro TN s σ H Q I h;refine wpAny_Call_method_late hbase hfew hline rfl (bN (ho TN s σ H _ I h) λv s1 ⟨x,H1,I1,r1,ty,q1⟩=>?_);obtain ⟨h1,h2⟩:=Ga I1 r1 ty;refine ⟨T,id,pa,slot,hty,h1,h2,?_⟩;have hA:=ha cpos TN s1 σ H1 _ I1 q1;rw [hs] at hA ⊢;refine aak (by show (false || (Vx cpos (Uj es X.env)).any (·.1))=false;rw [hplain] <;> rfl) (Calls.evalArgs_plain ?_);exact bN hA λus s2 ⟨vs,H2,I2,r2,q2⟩=>hm TN s2 σ H2 x vs v us Q I2 r1 r2 q2
end
noncomputable def DO (X:Cx) (id:String) (r:V->List V->Hp->VK->Prop):Prop:=
 ∀(TN:List (UA×Obj)) (s:T_) (σ:St) (H:Hp) (x:V) (xs:List V) (v:T7) (us:List T7) (Q:VK),Inv X TN σ H s->RelV x v->Vals xs us->r x xs H Q->
  Uu (UB X.prog X.w) X.A (call (.builtin id) (v::us)) (EP X TN σ Q) X.xe s
theorem Vals.one:∀{x:V}{us:List T7},Vals [x] us->∃u,us=[u]/\RelV x u
 | _,_,.cons r .nil=>⟨_,rfl,r⟩
theorem Vals.zero:∀{us:List T7},Vals [] us->us=[]
 | _,.nil=>rfl
theorem Vals.eraseIdx:∀{xs:List V}{us:List T7}(i:Nat),Vals xs us->Vals (xs.eraseIdx i) (us.eraseIdx i)
 | _,_,_,.nil=>.nil
 | _,_,0,.cons _ t=>t
 | _,_,i + 1,.cons r t=>.cons r (Vals.eraseIdx i t)
theorem xu {α:Type}:∀(l:List α) (i:Nat),(l.eraseIdx i).length<=l.length
 | [],_=>Ud _
 | _::_,0=>YI _
 | _::r,i + 1=>Nat.succ_le_succ (xu r i)
section
variable {X:Cx}{TN:List (UA×Obj)}{σ:St}{H:Hp}{s:T_}{l b:UA}{xs ys zs:List V}
theorem Inv.lset {TR its':List T7}{f:Array T7->Array T7}(I:Inv X TN σ H s) (hH:H l=some (.lst xs))
 (e:s.heap.get? l=some {cls:=.type "list",data:=.seq TR.toArray n}) (hf:f TR.toArray=its'.toArray) (hv:Vals ys its') (hz:ys.length<=sizeLine):
  Inv X TN σ (upd H l (.lst ys)) {s with heap:=s.heap.update l (Vj f),toks:=t'}:=by have q:=aeQ e f;rw [hf] at q;refine I.write (x:=l) (e:=l) (by rw [hH];exact trivial) (.inl rfl) (λb' u hb hu=>(Vr s.heap (Vj f) (VS hb)).trans hu) ⟨_,q⟩ ?_;exact ⟨hz,its',_,hv,q⟩
theorem Inv.lnew {TR:List T7}(I:Inv X TN σ H s) (hv:Vals ys TR) (hz:ys.length<=sizeLine):
  Inv X TN σ (upd H s.heap.objs.size (.lst ys)) {s with heap:=s.heap.push {cls:=.type "list",data:=.seq TR.toArray},toks:=t'}:=
 I.laid (λ_ _ q=>T9 _ q) (Ud _) ⟨hz,TR,0,hv,Uh _ rfl⟩
theorem Inv.fresh (I:Inv X TN σ H s):H s.heap.objs.size=none:=I.hok.fresh (Ud _)
theorem Inv.lstM (I:Inv X TN σ H s) (hH:H l=some (.lst xs)):xs.length<=sizeLine/\∃(TR:List T7) (n:Nat),Vals xs TR/\xs.length=TR.length/\s.heap.get? l=some {cls:=.type "list",data:=.seq TR.toArray n}:=by obtain ⟨z,TR,n,r,e⟩:=I.hok l _ hH;exact ⟨z,TR,n,r,r.length,e⟩
theorem Ac (h:n<=sizeLine):Wm n=false:=by unfold Wm;exact decide_eq_false (by omega)
end
section
variable {X:Cx}
noncomputable def K9:V->List V->Hp->VK->Prop:=λx vs H Q=>∃l xs y,x=.ref l/\vs=[y]/\H l=some (.lst xs)/\xs.length < sizeLine/\Q .non (upd H l (.lst (xs++[y])))
theorem mq:DO X "list.append" K9:=by intro TN s σ H x vs v us Q I rx rv h;obtain ⟨l,xs,y,rfl,rfl,hH,hz,q⟩:=h;cases rx;obtain ⟨u,rfl,ru⟩:=rv.one;obtain ⟨z,TR,n,r,hl,e⟩:=I.lstM hH;refine aaW F.slot_list_append ⟨_,e,rfl⟩ F.entry_list_append (F.args_list_append_2 _ _) (PySem.list_append l TR.toArray n u (by rw [Ug];omega)) ⟨e,?_⟩;refine ⟨.non,_,I.lset (its':=TR++[u]) hH e (by simp) (r.append (.cons ru .nil)) ?_,rfl,q⟩;rw [Uo,YZ];omega
noncomputable def K_:V->List V->Hp->VK->Prop:=λx vs H Q=>∃l b xs zs,x=.ref l/\vs=[.ref b]/\H l=some (.lst xs)/\H b=some (.lst zs)/\xs.length + zs.length<=sizeLine/\Q .non (upd H l (.lst (xs++zs)))
theorem Pd:DO X "list.extend" K_:=by
 intro TN s σ H x vs v us Q I rx rv h;obtain ⟨l,b,xs,zs,rfl,rfl,hH,hB,hz,q⟩:=h;cases rx;obtain ⟨u,rfl,ru⟩:=rv.one;cases ru;obtain ⟨z,TR,n,r,hl,e⟩:=I.lstM hH;obtain ⟨z2,its2,n2,r2,hl2,e2⟩:=I.lstM hB;have hsz:TR.toArray.size + its2.toArray.size<=sizeLine:=by rw [Ug,Ug];omega
 have Rw:¬(!TR.toArray.isEmpty && Wm (TR.toArray.size + its2.toArray.size))=true:=by rw [Ac hsz,Xu];exact UH
 refine aaW abx ⟨_,e,rfl⟩ abg (aa0 _ _)
  (AutoSeq1.list_extend_list_list_0 l TR.toArray n b its2.toArray n2 Rw (by rw [Ug];omega) (by omega)) ⟨e,e2,?_⟩
 refine ⟨.non,_,I.lset (its':=TR++its2) hH e (by simp) (r.append r2) ?_,rfl,q⟩;rw [Uo];omega
noncomputable def NG:V->List V->Hp->VK->Prop:=λx vs H Q=>∃l xs i k y,x=.ref l/\vs=[.int i]/\H l=some (.lst xs)/\-(2 ^ 63)<=i/\i < 2 ^ 63/\abw i xs.length=some k/\xs[k]?=some y/\Q y (upd H l (.lst (xs.eraseIdx k)))
theorem G8:DO X "list.pop" NG:=by
 intro TN s σ H x vs v us Q I rx rv h;obtain ⟨l,xs,i,k,y,rfl,rfl,hH,h1,h2,hk,hy,q⟩:=h;cases rx;obtain ⟨u,rfl,ru⟩:=rv.one;obtain ⟨t,rfl⟩:=ru;obtain ⟨z,TR,n,r,hl,e⟩:=I.lstM hH;obtain ⟨w,hw,rw'⟩:=r.get hy;refine aaW F.slot_list_pop ⟨_,e,rfl⟩ F.entry_list_pop (F.args_list_pop_2 _ _)
  (MeetsSeq.list_pop_at l TR.toArray n i t k w (fitsIndex_both h1 h2) (by rw [Ug,<-hl];exact hk) (by rw [<-Vv];exact hw) (by rw [Ug];omega)) ⟨e,?_⟩
 refine ⟨y,_,I.lset (its':=TR.eraseIdx k) hH e ?_ (r.eraseIdx k) ?_,rw',q⟩
 ·show TR.toArray.eraseIdxIfInBounds k=(TR.eraseIdx k).toArray;rw [List.eraseIdxIfInBounds_toArray]
 ·have:=xu xs k;omega
noncomputable def PU:R2:=λx y H Q=>∃l b xs zs,x=.ref l/\y=.ref b/\H l=some (.lst xs)/\H b=some (.lst zs)/\xs.length + zs.length<=sizeLine/\∀p,H p=none->Q (.ref p) (upd H p (.lst (xs++zs)))
theorem E3:c6 X (Xj .Add) PU:=by
 intro TN s σ H x y v u Q I rx ry h;obtain ⟨l,b,xs,zs,rfl,rfl,hH,hB,hz,q⟩:=h;cases rx;cases ry;obtain ⟨z,TR,n,r,hl,e⟩:=I.lstM hH;obtain ⟨z2,its2,n2,r2,hl2,e2⟩:=I.lstM hB;refine PySem.P.add_list e e2 ?_ (by rw [Ug,Ug];omega);have ea:TR.toArray++its2.toArray=(TR++its2).toArray:=by simp
 rw [ea];exact ⟨.ref _,_,I.lnew (t':=s.toks) (r.append r2) (by rw [Uo];omega),rfl,q _ I.fresh⟩
end
end L2
namespace Att
open PySem PySem.W PySem.Calls PyProof.Rows
theorem uO:∀(ns:List Int) (vs:List T7),WellAll P h vs (ns.map aeU)->XD vs ns:=by
 intro ns
 induction ns with
 | nil=>
  intro vs w;rw [aay] at w;cases w;exact .nil
 | cons n ns ih=>
  intro vs w;rw [Ur] at w;cases w with
  | cons a b=>
   cases a;exact .cons _ _ (ih _ b)
theorem FT {l:OpenLaw}(hn:l.most=some n){h:VJ}
 (hpre:l.row.toRowW.claim.pre args=true) (hwl:WellAll P h vals args):
  ∃a vs ns,vals=[W6 a]/\args=[WData.list (ns.map aeU)]/\h.get? a=some {cls:=.type "list",data:=.seq vs.toArray}/\XD vs ns/\ns.length<=n:=by
 have hsh:WShape.hasAll [] args [.list .int]=true:=(pre_splitW hpre).1;have hc:l.pre.holds [] {args:=args}=true:=(pre_splitW hpre).2;obtain ⟨d,r,rfl,h1,h2⟩:=hasAllW_cons hsh;obtain rfl:=hasAllW_nil h2;obtain ⟨xs,rfl,h3⟩:=hasW_list h1;obtain ⟨ns,rfl⟩:=items_int h3;have hlen:ns.length<=n:=by
  unfold OpenLaw.pre at hc;have h4:(WTm.not (.lt (.lit (.int (n:Int))) (.len (.arg 0)))).holds [] {args:=[.list (ns.map .int)]}=true:=by have h4:=(holds_andW hc).1;rw [hn] at h4;exact h4
  have h5:=condW_of h4 (w_not (w_lt w_lit (w_len_list (w_arg rfl))));rw [T8] at h5;refine Nat.le_of_not_lt λq=>?_;have q':(n:Int) < ((ns.length:Nat):Int):=by omega
  first
   | (rw [decide_eq_true q'] at h5;exact absurd h5 (by decide))
   | (simp at h5;omega)
 cases hwl with
 | cons w1 w2=>
  cases w2;cases w1 with
  | list ho hall=>exact ⟨_,_,ns,rfl,rfl,ho,uO ns _ hall,hlen⟩
theorem Fi (l:OpenLaw) (args:List WData):l.row.toRowW.claim.post args (.bool true) args=true:=
 postW_of (r:=l.row.toRowW) (X:=(true == true))
  (show aeK [] (.bool true) .bool=true by first | rfl | decide | simp [aeK,WShape.arms,WShape.armsAll])
  (show (WTm.eq .res (.lit (.bool true))).value [] {args:=args,res:=some (.bool true),after:=args}=some (.bool (true == true)) from w_eq_bool (w_res rfl) w_lit) rfl
theorem AI {l:OpenLaw}{XP:(Str->Option T7)->VJ->Prop}{YP:US->VJ->Prop}{d:DefRec}
 (hn:l.most=some n) (hdf:d.params.defaults=[])
 (call:∀(w:US) (s₀ s₁:T_) (mg mb:Str->Option T7) (fa:UA) (o:Obj) (pm cd doc:T7) (a:UA) (vs:List T7) (ns:List Int),
 Ground q loose [] XP w s₀ mg mb s₁.heap->YP w s₁.heap->
 s₁.heap.get? fa=some o->o.data=.func (docDef d.name d.params d.body d.scope pm cd doc)->s₁.heap.CodeRec cd d.name->mg d.name=some (.ref fa)->
 s₁.heap.get? a=some {cls:=.type "list",data:=.seq vs.toArray}->XD vs ns->ns.length<=n->s₁.gens=#[]->
 Wh (UB l.prog w) abN (.call (.ref fa) ⟨[.ref a],[]⟩) (λr s'=>r=.ok (.ret (.bool true))/\OldK s₁.heap s'.heap/\s'.os=s₁.os/\aas s'.gens) s₁):
  WalkO q loose XP YP l.row.toRowW d [] (λf vs=>adm f vs):=by intro w s₀ s₁ mg mb G Y fa o pm cd doc dV kV ho hd hcd hD hmg hg args vals as hpre hlay hrd hwl hlo;obtain rfl:dV=.none:=Dflts.none hD hdf;obtain rfl:kV=.none:=Dflts.noKw hD;obtain ⟨a,vs,ns,rfl,rfl,hobj,hints,hlen⟩:=FT hn hpre hwl;refine enter_call (Xg (call w s₀ s₁ mg mb fa o pm cd doc a vs ns G Y ho (fd_plain hd) hcd hmg hobj hints hlen hg) λr s' hq=>?_);obtain ⟨rfl,h2,h3,h4⟩:=hq;exact ⟨.inl ⟨.bool true,.bool true,[],rfl,λ_=>rfl,.bool true,Fi l _,λ_=>⟨YJ,λ_ hm=>(nomatch hm)⟩⟩,h2,h3,h4⟩
end Att
namespace L2
open PySem PySem.Spec PyProof.Rows
theorem xW:∀{vs:List T7}{ns:List Int},XD vs ns->Vals (ns.map V.int) vs
 | _,_,.nil=>.nil
 | _,_,.cons n t h=>.cons ⟨t,rfl⟩ (xW h)
def Cd (H:Hp):Prop:=∀b,H b=none\/∃o xs,H b=some (.frz o (.lst xs))
theorem G1 {K:T5}{mg mb:Str->Option T7}{sp:Sp}{s₁:T_}{vs:List T7}{ns:List Int}
 (KX:K.In s₁.heap) (hns:s₁.heap.Ns UL mg) (hb:s₁.heap.Ns adi mb) (SX:∀x:Str,x≠"__name__"->mb x=Vd x) (hlim:s₁.heap.NoLimit) (hg:s₁.gens=#[])
 (ha:s₁.heap.get? a=some {cls:=.type "list",data:=.seq vs.toArray}) (hi:XD vs ns) (hl:ns.length<=sizeLine) (hr:dX k abN)
 (F:∀base:VJ,K.In base->base.Ns UL mg->jH P w K mg base CX k fa fd [x] sp) (hbind:∀(s:T_) (u:T7),acy s fd ⟨[u],[]⟩ [(x,u)])
 (RA:∀H:Hp,Cd H->cg K H a (ns.map V.int)->sp [.ref a] H (λv _=>v=.bl true) λ_ _ _=>False)
 (R5:∀H e s',CX [] H s₁ (λ_ _ _=>False) e s'->False):
  Wh (UB P w) abN (.call (.ref fa) ⟨[.ref a],[]⟩) (λr s'=>r=.ok (.ret (.bool true))/\OldK s₁.heap s'.heap/\s'.os=s₁.os/\aas s'.gens) s₁:=by
 have rv:=xW hi;have lenV:=hi.length;have core:∀H:Hp,Cd H->cg K H a (ns.map V.int)->gy P w H s₁.heap->(∀b,H b≠none->b=a)->(H a≠none->K.lookup a=none)->
   Wh (UB P w) abN (.call (.ref fa) ⟨[.ref a],[]⟩) (λr s'=>r=.ok (.ret (.bool true))/\OldK s₁.heap s'.heap/\s'.os=s₁.os/\aas s'.gens) s₁:=by
  intro H hO hS hok hA hK;have base_of:∀{b:UA}{o:Obj},s₁.heap.get? b=some o->H b=none->(n6 s₁.heap H).get? b=some o:=λe n=>GN e n;have noA:∀{b:UA}{o:Obj}{es:Array ZT}{ep:Nat},s₁.heap.get? b=some o->o.data=.dict es ep->H b=none:=fun {b o es ep} e d=>by
   cases q:H b with
   | none=>rfl
   | some u=>
    have e':b=a:=hA b (by rw [q];simp);subst e';rw [ha] at e;cases e;have d':Data.seq vs.toArray _=Data.dict es ep:=d;cases d'
  have nsK:∀{b:UA}{m:Str->Option T7},s₁.heap.Ns b m->(n6 s₁.heap H).Ns b m:=fun {b m} ⟨o,es,ep,e,d,r⟩=>⟨o,es,ep,base_of e (noA e d),d,r⟩;have SD:K.In (n6 s₁.heap H):=λb o e=>base_of (KX b o e) (by
   cases q:H b with
   | none=>rfl
   | some u=>
    have e':b=a:=hA b (by rw [q];simp);subst e';rw [hK (by rw [q];simp)] at e;cases e)
  have hM:Mod K mg (n6 s₁.heap H):=⟨SD,nsK hns,⟨mb,nsK hb,SX⟩,let ⟨mc,h1,h2⟩:=hlim;⟨mc,nsK h1,h2⟩⟩;have e0:B_ P w K mg (n6 s₁.heap H) abN [] s₁ H:=⟨rfl,hM,λb o e=>Ks e,ab5 (EG _ _),trivial,λb hb=>absurd (show b∈([]:List UA) from hb) (by simp),hok,.of_eq hg⟩;refine Xg ((F _ SD (nsK hns)).run abN [] s₁ H ⟨[.ref a],[]⟩ [.ref a] [.ref a] _ _ hr e0 (hbind s₁ (.ref a)) (.cons rfl .nil) (RA H hO hS)) λr s' h=>?_;cases r with
  | error e=>exact (R5 H e s' h).elim
  | ok fl=>
   cases fl with
   | next=>exact XJ h
   | brk=>exact XJ h
   | cont=>exact XJ h
   | ret u=>
    obtain ⟨v,H',os,bare,un,Sq,r',q⟩:=h;have q':v=.bl true:=q;subst q';obtain rfl:u=WN true:=r';refine ⟨rfl,OldK.of_keep λb o e=>?_,os,bare⟩;cases q:H b with
    | none=>exact un.keep b o e q (by intro z;exact absurd (show b∈([]:List UA) from z) (by simp)) (by simp)
    | some u=>
     rcases hO b with z | ⟨ob,xs,z⟩
     ·rw [q] at z;cases z
     ·have z2:=un.frzs b ob _ z;obtain ⟨e1,_⟩:=hok b _ z;obtain ⟨e2,_⟩:=Sq b _ z2;rw [e] at e1;cases e1;exact e2
 cases hk:K.lookup a with
 | some o=>
  have e:=KX a o hk;rw [ha] at e;cases e;refine core (λ_=>none) (λ_=>.inl rfl) (.inr ⟨_,vs.toArray,_,hk,rfl,rfl,rfl,by rw [Ug,lenV];exact hl,by simpa using rv⟩) (λb u z=>by have z':(none:Option HO)=some u:=z;cases z') (λb z=>absurd rfl z) λz=>absurd rfl z
 | none=>
  refine core (λb=>if b=a then some (.frz {cls:=.type "list",data:=.seq vs.toArray} (.lst (ns.map V.int))) else none) (λb=>?_) (.inl (.inr ⟨{cls:=.type "list",data:=.seq vs.toArray},if_pos rfl⟩)) (λb u z=>?_) (λb z=>?_) λ_=>hk
  ·by_cases hb:b=a
   ·exact .inr ⟨_,_,if_pos hb⟩
   ·exact .inl (if_neg hb)
  ·by_cases hb:b=a
   ·have z':=(if_pos hb).symm.trans z;cases z';subst hb;exact ⟨ha,by rw [T8];exact hl,vs,_,rv,ha⟩
   ·have z':=(if_neg hb).symm.trans z;cases z'
  ·by_cases hb:b=a
   ·exact hb
   ·exact absurd (if_neg hb) z
abbrev QJ {K:T5}{h:VJ}(_:K.In h):T5:=K
theorem Lq {l:aaA}{XP:(Str->Option T7)->VJ->Prop}{YP:US->VJ->Prop}{d:DefRec}{K:aeA->T5}{CX:US->wH}{sp:US->Sp}
 (hn:l.most=some n) (hn2:n<=sizeLine) (hdf:d.params.defaults=[]) (hr:dX k abN)
 (hY:∀(w:US) (h:VJ),YP w h->(K w.params).In h)
 (F:∀(w:US) (mg:Str->Option T7) (fa:UA) (h:VJ),(K w.params).In h->h.Ns UL mg->mg d.name=some (.ref fa)->
 ∃fd:UO,(∀(s:T_) (u:T7),acy s fd ⟨[u],[]⟩ [(x,u)])/\
 ∀base:VJ,(K w.params).In base->base.Ns UL mg->jH l.prog w (K w.params) mg base (CX w) k fa fd [x] (sp w))
 (RA:∀(w:US) (H:Hp) (a:UA) (ns:List Int),ns.length<=n->Cd H->cg (K w.params) H a (ns.map V.int)->sp w [.ref a] H (λv _=>v=.bl true) λ_ _ _=>False)
 (R5:∀(w:US) (H:Hp) (s:T_) (e:T7) (s':T_),CX w [] H s (λ_ _ _=>False) e s'->False):
  adF q loose XP YP l.row.toRowW d [] (λf vs=>adm f vs):=by refine Att.AI hn hdf λw s₀ s₁ mg mb fa o pm cd doc a vs ns G Y ho hd hcd hmg hobj hints hlen hg=>?_;have KX:=hY w _ Y;obtain ⟨fd,hb,hF⟩:=F w mg fa _ KX G.T.g hmg;exact G1 KX G.T.g G.T.b G.T.builtins G.T.nolimit hg hobj hints (UC hlen hn2) hr hF hb (λH hO hS=>RA w H a ns hlen hO hS) λH e s'=>R5 w H s₁ e s'
noncomputable def fY (s:WM):Arguments:=match s with
 | .FunctionDef _ a _ _ _ _ _ _ _ _=>a
 | _=>{posonlyargs:=[],args:=[],vararg:=none,kwonlyargs:=[],kw_defaults:=[],kwarg:=none,defaults:=[]}
noncomputable def c_ (s:WM):List WM:=match s with
 | .FunctionDef _ _ b _ _ _ _ _ _ _=>b
 | _=>[]
noncomputable def bH (s:WM):Xy:=match s with
 | .FunctionDef _ _ _ _ _ _ sc _ _ _=>sc
 | _=>{kind:=.function,names:=[],isGenerator:=false,isCoroutine:=false}
abbrev oH:wH:=λ_ _ _ _ _ _=>False
abbrev E0:XK:=λ_ _ _=>False
theorem Df:Passes oH X E0:=λ_ _ _ _ _ _ _ h=>h.elim
structure oJ (K:T5) (x TX:Str) (st:WM) (f:UA) (fd:UO):Prop where
 ex:∃(oc:T7) (od:Option UA) (kV doc pm:T7) (an:Option UA) (cdv ct:T7) (osl:Array (Option T7)),
  fd=V3 x TX (fY st) (c_ st) (bH st) .none kV doc pm an cdv ct/\K.lookup f=some ⟨oc,od,.func fd,osl⟩/\YU K cdv TX=true
 kp:Xs K (.ref f)=true
section
variable {P:Uv}{w:US}{K:T5}{mg:Str->Option T7}{base:VJ}
theorem oJ.ok {st:WM}{N ps:List Str}{sp:Sp}(F:oJ K x TX st f fd) (S:ie N ps (bH st)) (len:∀vs H Q E,sp vs H Q E->vs.length=ps.length)
 (hbody:∀(cdv:T7) (A:UW) (outer:List Env) (s:T_) (H:Hp) (vs:List V) (Q:VK) (E:XK),dX k (A.deeper (ZS TX (bH st) s.heap.objs.size f cdv))->sp vs H Q E->
 ∃t,jF (sP oH P w K mg base N TX (bH st) f cdv A outer s H E).nox (c_ st) t/\t {nx:=λ_ H'=>Q .non H',rt:=Q} (start N vs) H):jH P w K mg base oH (k + 1) f fd ps sp:=by obtain ⟨oc,od,kV,doc,pm,an,cdv,ct,osl,rfl,lk,hcd⟩:=F.ex;refine Od lk hcd S len λA outer s H vs Q E hr RA=>?_;obtain ⟨t,h,q⟩:=hbody cdv A outer s H vs Q E hr RA;exact ⟨t,h.nox,q⟩
theorem oJ.binds {st:WM}{ps:List Str}(F:oJ K x TX st f fd)
 (h:∀(kV doc pm:T7) (an:Option UA) (cdv ct:T7) (us:List T7),us.length=ps.length->acq (V3 x TX (fY st) (c_ st) (bH st) .none kV doc pm an cdv ct) ⟨us,[]⟩=pure (ps.zip us)):Binds K fd ps []:=by obtain ⟨oc,od,kV,doc,pm,an,cdv,ct,osl,rfl,lk,hcd⟩:=F.ex;exact .all (h kV doc pm an cdv ct)
theorem Ey {st:WM}{kV doc pm cdv ct:T7}(l:K.lookup f=some ⟨oc,od,.func (V3 x TX (fY st) (c_ st) (bH st) .none kV doc pm an cdv ct),osl⟩)
 (c:YU K cdv TX=true) (k:Xs K (.ref f)=true):oJ K x TX st f (V3 x TX (fY st) (c_ st) (bH st) .none kV doc pm an cdv ct):=⟨⟨oc,od,kV,doc,pm,an,cdv,ct,osl,rfl,l,c⟩,k⟩
end
theorem MA {A B:Prop}(h:B):if false=true then A else B:=by rw [if_neg UH];exact h
theorem MB {A B:Prop}(h:A):if true=true then A else B:=by rw [if_pos rfl];exact h
def aS (H H':Hp):Prop:=∀b o,H b=some o->H' b=some o
theorem aS.refl (H:Hp):aS H H:=λ_ _ h=>h
theorem aS.trans {H H1 H2:Hp}(a:aS H H1) (b:aS H1 H2):aS H H2:=λc o h=>b c o (a c o h)
theorem aS.free {H H':Hp}(e:aS H H') (h:H' l=aek):H l=aek:=by
 cases q:H l with
 | none=>rfl
 | some o=>
  rw [e l o q] at h;cases h
theorem aS.seq {K:T5}{H H':Hp}{a:UA}{xs:List V}(e:aS H H') (h:cg K H a xs):cg K H' a xs:=by
 rcases h with (h | ⟨o,h⟩) | h
 ·exact .inl (.inl (e _ _ h))
 ·exact .inl (.inr ⟨o,e _ _ h⟩)
 ·exact .inr h
end L2
set_option maxHeartbeats 4000000
namespace K61
open PySem
def top (i:Nat):WM:=VR.main.body.getD i (.Pass ⟨0,0,0,0⟩)
end K61
namespace K61
open PySem PySem.Spec PyProof.Rows L2
abbrev E (P:aeA) (k:Str) (t:Nat) (v:T7):ZT:=⟨PyData.keyHash P k,.str k t,v⟩
abbrev cM (P:aeA) (k:Str) (t r:Nat):ZT:=E P k t (.ref r)
noncomputable def Pb (n:Str) (t l k a:Nat) (v w:T7) (r u:Nat):Obj:=⟨.type "code",none,.fields #[.str n t,.str n (t + 1),.str "/claim/cut.py" (t + 2),.int l 0,.int k 0,.int 0 0,.int 0 0,.int 3 0,.ref a,.bool true,.int 181 0,.ref (a + 1),.none,v,w,.ref r,.int u 0,.int l 0,.str "/claim/cut.py" (u + 1)],#[]⟩
def iO (n:Str) (t l k a u:Nat):Obj:=Pb n t l k a (.ref (a + 2)) (.ref (a + 3)) (a + 4) u
def ju (n:Str) (t l k a u:Nat):Obj:=Pb n t l k a .none .none (a + 2) u
noncomputable def dh (n:Str) (k:Nat) (m:T7) (c:Nat):Obj:=⟨.type "function",none,.func (V3 n n (fY (top k)) (c_ (top k)) (bH (top k)) .none .none .none m none (.ref c) .none),#[]⟩
def GJ:T7:=.str "pickalike.worlds" 273
def GK:T7:=.str "pickalike.checks" 296
def vP:T7:=.str "pickalike.pairings" 325
def pV:T7:=.str "pickalike.layers" 373
def GL:T7:=.str "pickalike.few" 428
def g7:T7:=.str "law_pickalike_k61_rounds_of_few" 452
def KF (P:aeA):T5:=
(nat_lit 2,⟨.none,none,(.dict #[] 0),#[]⟩)::
(nat_lit 3,⟨(.type "dict"),none,(.dict #[E P "__name__" 165 (.str "law_pickalike_k61_rounds_of_few" 452),E P "__doc__" 166 .none,E P "__package__" 167 .none,E P "__loader__" 168 (.builtin "__main__.__loader__#opaque"),E P "__spec__" 169 .none,cM P "__annotations__" 170 6,cM P "__builtins__" 171 4,E P "__file__" 173 (.str "/claim/cut.py" 172),E P "__cached__" 174 .none,cM P "PickError" 206 24,cM P "NoTongue" 222 37,cM P "TooMany" 247 56,cM P "NoCount" 272 75,cM P "is_whole" 281 84,cM P "tongue_of" 287 89,cM P "need_tongue" 295 96,E P "MOST_SMALL" 299 (.int 4 298),cM P "need_few_points" 307 103,cM P "need_small" 315 110,cM P "need_count" 324 117,cM P "rising" 333 124,cM P "view" 339 129,cM P "views" 345 134,cM P "agree" 355 141,cM P "goes_behind" 366 148,cM P "pairings" 372 153,cM P "added" 382 160,cM P "pairs_with" 388 165,cM P "picks_of" 394 170,cM P "outcomes" 400 175,cM P "answered_still" 406 180,cM P "peeled" 412 185,cM P "in_layer" 421 192,cM P "layers_of" 427 197,cM P "FEW_LETTERS" 433 198,cM P "parts_below" 439 203,cM P "few_depths" 445 208,cM P "few_rounds" 451 213,cM P "_law_cell_at" 461 220,cM P "_law_more" 472 227,cM P "_law_freed" 480 234,cM P "_law_names" 486 239,cM P "_law_world" 504 246,cM P "_law_flipped" 514 253,cM P "_law_turned" 520 258,cM P "_law_two" 537 265,cM P "_law_at" 548 272,cM P "_law_fit" 564 279,cM P "_law_with" 572 286,cM P "_law_pairings" 588 293,cM P "_law_parts" 594 298,cM P "_law_goes_on" 600 303,cM P "_law_next" 616 310,cM P "_law_kinds" 622 315,cM P "law" 628 320] 55),#[]⟩)::
(nat_lit 83,iO "is_whole" 275 17 1 78 279)::
(nat_lit 84,dh "is_whole" 6 GJ 83)::
(nat_lit 88,ju "tongue_of" 282 19 1 85 285)::
(nat_lit 89,dh "tongue_of" 7 GJ 88)::
(nat_lit 95,iO "need_tongue" 288 22 2 90 293)::
(nat_lit 96,dh "need_tongue" 8 GJ 95)::
(nat_lit 102,iO "need_few_points" 300 27 1 97 305)::
(nat_lit 103,dh "need_few_points" 11 GK 102)::
(nat_lit 109,iO "need_small" 308 31 2 104 313)::
(nat_lit 110,dh "need_small" 12 GK 109)::
(nat_lit 116,iO "need_count" 316 34 3 111 322)::
(nat_lit 117,dh "need_count" 13 GK 116)::
(nat_lit 123,iO "rising" 327 38 1 118 331)::
(nat_lit 124,dh "rising" 15 vP 123)::
(nat_lit 128,ju "view" 334 42 3 125 337)::
(nat_lit 129,dh "view" 16 vP 128)::
(nat_lit 133,ju "views" 340 47 1 130 343)::
(nat_lit 134,dh "views" 17 vP 133)::
(nat_lit 140,iO "agree" 346 49 4 135 353)::
(nat_lit 141,dh "agree" 18 vP 140)::
(nat_lit 147,iO "goes_behind" 356 51 4 142 364)::
(nat_lit 148,dh "goes_behind" 19 vP 147)::
(nat_lit 152,ju "pairings" 367 58 3 149 370)::
(nat_lit 153,dh "pairings" 20 vP 152)::
(nat_lit 159,iO "added" 375 71 2 154 380)::
(nat_lit 160,dh "added" 22 pV 159)::
(nat_lit 164,ju "pairs_with" 383 73 4 161 386)::
(nat_lit 165,dh "pairs_with" 23 pV 164)::
(nat_lit 169,ju "picks_of" 389 77 2 166 392)::
(nat_lit 170,dh "picks_of" 24 pV 169)::
(nat_lit 174,ju "outcomes" 395 79 4 171 398)::
(nat_lit 175,dh "outcomes" 25 pV 174)::
(nat_lit 179,ju "answered_still" 401 82 2 176 404)::
(nat_lit 180,dh "answered_still" 26 pV 179)::
(nat_lit 184,ju "peeled" 407 84 2 181 410)::
(nat_lit 185,dh "peeled" 27 pV 184)::
(nat_lit 191,iO "in_layer" 413 94 3 186 419)::
(nat_lit 192,dh "in_layer" 28 pV 191)::
(nat_lit 196,ju "layers_of" 422 96 2 193 425)::
(nat_lit 197,dh "layers_of" 29 pV 196)::
(nat_lit 198,⟨(.type "tuple"),none,(.seq #[(.str "x" 430),(.str "y" 431),(.str "z" 432)] 0),#[]⟩)::
(nat_lit 202,ju "parts_below" 434 100 2 199 437)::
(nat_lit 203,dh "parts_below" 32 GL 202)::
(nat_lit 207,ju "few_depths" 440 105 3 204 443)::
(nat_lit 208,dh "few_depths" 33 GL 207)::
(nat_lit 212,ju "few_rounds" 446 110 3 209 449)::
(nat_lit 213,dh "few_rounds" 34 GL 212)::
(nat_lit 219,iO "_law_cell_at" 454 116 2 214 459)::
(nat_lit 220,dh "_law_cell_at" 36 g7 219)::
(nat_lit 226,iO "_law_more" 462 120 2 221 470)::
(nat_lit 227,dh "_law_more" 37 g7 226)::
(nat_lit 233,iO "_law_freed" 473 133 2 228 478)::
(nat_lit 234,dh "_law_freed" 38 g7 233)::
(nat_lit 238,ju "_law_names" 481 139 2 235 484)::
(nat_lit 239,dh "_law_names" 39 g7 238)::
(nat_lit 245,iO "_law_world" 487 154 4 240 502)::
(nat_lit 246,dh "_law_world" 40 g7 245)::
(nat_lit 252,iO "_law_flipped" 505 173 2 247 512)::
(nat_lit 253,dh "_law_flipped" 41 g7 252)::
(nat_lit 257,ju "_law_turned" 515 180 2 254 518)::
(nat_lit 258,dh "_law_turned" 42 g7 257)::
(nat_lit 264,iO "_law_two" 521 193 2 259 535)::
(nat_lit 265,dh "_law_two" 43 g7 264)::
(nat_lit 271,iO "_law_at" 538 211 3 266 546)::
(nat_lit 272,dh "_law_at" 44 g7 271)::
(nat_lit 278,iO "_law_fit" 549 216 3 273 562)::
(nat_lit 279,dh "_law_fit" 45 g7 278)::
(nat_lit 285,iO "_law_with" 565 228 2 280 570)::
(nat_lit 286,dh "_law_with" 46 g7 285)::
(nat_lit 292,iO "_law_pairings" 573 230 3 287 586)::
(nat_lit 293,dh "_law_pairings" 47 g7 292)::
(nat_lit 297,ju "_law_parts" 589 243 2 294 592)::
(nat_lit 298,dh "_law_parts" 48 g7 297)::
(nat_lit 302,ju "_law_goes_on" 595 248 4 299 598)::
(nat_lit 303,dh "_law_goes_on" 49 g7 302)::
(nat_lit 309,iO "_law_next" 601 256 4 304 614)::
(nat_lit 310,dh "_law_next" 50 g7 309)::
(nat_lit 314,ju "_law_kinds" 617 271 1 311 620)::
(nat_lit 315,dh "_law_kinds" 51 g7 314)::
(nat_lit 319,ju "law" 623 282 1 316 626)::
(nat_lit 320,dh "law" 52 g7 319)::[]
noncomputable def VW:Uv:={VR with main:={VR.main with body:=[top 1,top 2,top 3,top 4,top 6,top 7,top 8,top 10,top 11,top 12,top 13,top 15,top 16,top 17,top 18,top 19,top 20,top 22,top 23,top 24,top 25,top 26,top 27,top 28,top 29,top 31,top 32,top 33,top 34,top 36,top 37,top 38,top 39,top 40,top 41,top 42,top 43,top 44,top 45,top 46,top 47,top 48,top 49,top 50,top 51,top 52]}}
noncomputable def HK:W.Hook:=W.kHook KF [2,3,83,84,88,89,95,96,102,103,109,110,116,117,123,124,128,129,133,134,140,141,147,148,152,153,159,160,164,165,169,170,174,175,179,180,184,185,191,192,196,197,198,202,203,207,208,212,213,219,220,226,227,233,234,238,239,245,246,252,253,257,258,264,265,271,272,278,279,285,286,292,293,297,298,302,303,309,310,314,315,319,320] (λ_=>by kernel_rfl)
def XT:T_->Bool:=λs=>W.xlAt VW [] s && W.recOk (ad8 Vc.row.toRowW) s
theorem look:adn Vc=true:=by decide +kernel
theorem left:W.LeftO Vc.row.prog VW [] XT (aeR HK) (aeS HK) 4434:=λw=>by kernel_rfl
end K61
namespace DX
open PySem PySem.Spec
open Sem (wp)
end DX
namespace DX
open PySem PySem.Spec
end DX
namespace DX
open PySem PySem.Spec PyProof.Rows L2
def N_ (a C:UA) (dx:Option UA):VJ->Prop:=λh=>∃oe vs,h.get? a=some oe/\oe.cls=.ref C/\oe.dict=dx/\oe.data=.fields vs
abbrev XO (a C:UA) (dx:Option UA):HO:=.ext (N_ a C dx)
end DX
namespace DX
open PySem PySem.Spec PyProof.Rows
open Sem (wp)
section
variable {prog:Uv}{w:US}{A:UW}{E:T7->T_->Prop}{s:T_}{K:T5}{x C:UA}{ox:Obj}{od:Option Obj}{name:Str}
theorem Gy {M:aeJ}{Q:Unit->T_->Prop}(X:K.In s.heap) (I:XZ s.heap x ox C od) (hm:XM K C (.type "BaseException")=some true) (hq:Q () s):Uu M A (Y_ "BaseException.__getattribute__" ⟨[.ref x,nameV],[]⟩) Q E s:=by
 have hk:builtinKind "BaseException.__getattribute__"=some .slot:=by decide +kernel
 have RA:splitId "BaseException.__getattribute__"=some ("BaseException","__getattribute__"):=by decide +kernel
 have ha:=F.args_bexc_ga (.ref x) nameV;have L1:=I.type (M:=M);have L2:=W.looks_mroIn (M:=M) X hm;simp only [Y_,hk,RA];have L:W.Looks M s.heap (ado (.ref x) (.type "BaseException")) true:=L1.andThen L2;refine T4 (L.here ?_);obtain ⟨h,g,d,t,os⟩:=s
 repeat (any_goals (first | assumption | wp_step))
theorem entry_class {Q:Fin->T_->Prop}(X:K.In s.heap) (I:XZ s.heap x ox C od) (hf:Zq K C od "__class__"=some (.bind (.builtin "getset_descriptor.__get__") (.builtin "object.__class__"))) (hm:XM K C (.type "object")=some true) (h:Q (.done (.ret (.ref C))) s):
  Uu (UB prog w) A (Xv.«object.__getattribute__» ⟨[.ref x,.str "__class__" tk],[]⟩) Q E s:=by obtain ⟨hh,g,d,t,os⟩:=s;have L0:=I.type (M:=UB prog w);have L1:=W.looks_find (M:=UB prog w) X I hf;refine T4 (T6 (T4 (T6 (T4 (L0.at (T4 (L1.at ?_)))))));show Uu _ _ (holding [_] (call _ [_,.ref x,.ref C]) >>= ret) _ _ _;exact T4 (UN (aaV (W.class_get (ox:=ox) (od:=od) X I hm (T6 h))))
theorem Mr {tk:Tok}{fill expr:Bool}{Q:T7->T_->Prop}(X:K.In s.heap) (I:XZ s.heap x ox C od) (hga:WZ K (.ref C) "__getattribute__"=some (some (.builtin "BaseException.__getattribute__"))) (hgt:WZ K (.ref C) "__getattr__"=some none)
  (h:Wh (UB prog w) A (.call (.builtin "BaseException.__getattribute__") ⟨[.ref x,.str name tk],[]⟩) (λr s'=>match r with | .ok (.ret v)=>Uu (UB prog w) A (handedOut v) Q E s' | _=>False) s):Uu (UB prog w) A (getAttrBy (.ref x) (.str name tk) fill expr) Q E s:=by
 obtain ⟨hh,g,d,t,os⟩:=s;have L0:=I.type (M:=UB prog w);have L1:=aa1 (M:=UB prog w) X hga;have L2:=aa1 (M:=UB prog w) X hgt;have Tt:(Z6 "BaseException.__getattribute__" == Z6 "object.__getattribute__")=false:=by decide +kernel
 unfold getAttrBy;refine UN (T4 (L0.at (T4 (L1.at ?_))));dsimp only;rw [Tt,Xu,if_neg (by decide)];unfold getAttrByItsOwn;refine T4 (L2.at ?_);have h0:(expr && onTheHeap (Z6 "BaseException.__getattribute__"))=false:=by cases expr <;> rfl
 refine T4 (WU (UN ?_));unfold callGetattribute;rw [h0,if_neg (by decide)];unfold boundAndCalled;rw [Zr.ga.bind (.ref x)];refine T4 (T6 (aaV (Xg h λr s' q=>?_)))
 match r,q with
 | .ok (.ret v),q=>exact q
theorem get_class {Q:Option T7->T_->Prop}(X:K.In s.heap) (I:XZ s.heap x ox C od) (hga:WZ K (.ref C) "__getattribute__"=some (some (.builtin "BaseException.__getattribute__"))) (hgt:WZ K (.ref C) "__getattr__"=some none)
  (hm:XM K C (.type "BaseException")=some true) (hf:Zq K C od "__class__"=some (.bind (.builtin "getset_descriptor.__get__") (.builtin "object.__class__"))) (ho:XM K C (.type "object")=some true) (h:Q (some (.ref C)) {s with toks:=s.toks + 1}):
  Uu (UB prog w) A (getAttr? (.ref x) "__class__") Q E s:=by obtain ⟨hp,g,d,t,os⟩:=s;unfold getAttr? getAttrBy?;refine T4 (wpAny_mkText (T4 (WU (Mr (s:=⟨hp,g,d,t + 1,os⟩) X I hga hgt ?_))));refine Zg Zr.ga.plain F.entry_bexc_ga (Gy (s:=⟨hp,g,d,t + 1,os⟩) X I hm (entry_class (s:=⟨hp,g,d,t + 1,os⟩) X I hf ho ?_));exact T6 (T6 h)
end
end DX
namespace DX
open PySem PySem.Spec PyProof.Rows L2
abbrev AE:List T7:=[.type "ValueError",.type "Exception",.type "BaseException",.type "object"]
def quiet:List Str:=["__init__","__setattr__","name","letter","many","told","point","row"]
structure GX (K:T5) (P:UA):Prop where
 gt:abO K (.builtin "object.__class__") "__get__"=some (some (.builtin "getset_descriptor.__get__"))
 tk:acz K (.builtin "object.__class__")=some true
 lk:∃nm q N bs sn sub ab col dd k0 k1 k2 k3 k5,K.lookup P=some (excClassObj nm q P N bs AE true sn sub ab col dd k0 k1 k2 k3 k5 "ValueError.__new__")/\∀h,K.In h->∃m,h.Ns N m/\∀n∈quiet,m n=none
structure XE (K:T5) (P C:UA):Prop where
 lk:∃nm q N bs sn sub ab col dd k0 k1 k2 k3 k5,K.lookup C=some (excClassObj nm q C N bs (.ref P::AE) true sn sub ab col dd k0 k1 k2 k3 k5 "ValueError.__new__")
 ga:WZ K (.ref C) "__getattribute__"=some (some (.builtin "BaseException.__getattribute__"))
 gt:WZ K (.ref C) "__getattr__"=some none
 cl:WZ K (.ref C) "__class__"=some (some (.builtin "object.__class__"))
section
variable {K:T5}{P C:UA}
theorem En (X:XE K P C):∃cd,Yl K C=some cd/\cd.mro=.ref C::.ref P::AE/\cd.hasDict=true/\W.typeIn K (.ref C)=some (.type "type"):=by
 obtain ⟨nm,q,N,bs,sn,sub,ab,col,dd,k0,k1,k2,k3,k5,l⟩:=X.lk;have h1:Yl K C=some {name:=nm,bases:=bs,mro:=.ref C::.ref P::AE,ns:=N,qualname:=q,hasDict:=true,slotNames:=sn,subclasses:=sub,abstract:=ab,collection:=col,hasDel:=false}:=by unfold Yl;rw [l]
 refine ⟨_,h1,rfl,rfl,?_⟩;show (K.lookup C).map (·.cls)=_;rw [l];rfl
theorem zZ (X:XE K P C) (b:T7):XM K C b=some ((W6 C::.ref P::AE).contains b):=by obtain ⟨cd,h1,h2,_⟩:=En X;unfold XM;rw [h1,aaf,h2];rfl
end
theorem MM {K:T5}{P C:UA}(X:XE K P C){T:String}(h1:acA T=true) (h2:AE.contains (.type T)=false):aa6 K (.ref C) (.type T)=some false:=by unfold aa6 W.kitCls;rw [if_neg (by simp)];simp only [h1,if_true];show XM K C _=_;rw [zZ X,aby,aby,h2];rfl
theorem JU {K:T5}{C:UA}{od:Option Obj}{name:Str}{a g:T7}(hc:(Yl K C).isSome=true) (ha:WZ K (.ref C) name=some (some a)) (hg:abO K a "__get__"=some (some g)) (ht:acz K a=some true):Zq K C od name=some (.bind g a):=by obtain ⟨cd,hc⟩:=Vu.mp hc;unfold Zq;rw [hc,aaf,ha,aaf];simp [hg,ht]
theorem GZ {K:T5}{e P C:UA}(G:GX K P) (E:XE K P C):W.KitX K (.ref e) (.ref C) (λh=>∃ox od,XZ h e ox C od):=by
 obtain ⟨cd,hc,hm,hd,ht⟩:=En E;refine ⟨λM h _ ⟨ox,od,I⟩=>I.type,λM h X _=>?_,λh tp dd TR n sl X htp=>?_,λX ⟨ox,od,I⟩ k=>?_⟩
 ·unfold Yl at hc;split at hc
  ·rename_i ho;intro A' Q' E' s' k q;unfold isType loadHead;exact T4 (wpAny_loadPart (k _ _ (X _ _ ho)) (T6 q))
  ·cases hc
 ·refine ZU.mpr λq=>?_;obtain rfl:C=tp:=ae0 (beq_iff_eq.mp q);unfold Yl at hc;split at hc
  ·rename_i ho;have z:=(X _ _ ho).symm.trans htp;cases z
  ·cases hc
 ·exact get_class X I E.ga E.gt (by rw [zZ E];simp) (JU (by rw [hc];rfl) E.cl G.gt G.tk) (by rw [zZ E];simp) k
end DX
namespace DL
open PySem PySem.Spec PyProof.Rows L2
inductive D where
 | non | bl (b:Bool) | int (i:Int) | str (x:Str) | tup (xs:List D) | lst (xs:List D) | emp
 | exn (cls:Str) (ns:List Str) (ds:List D)
  | dct (ks vs:List D)
mutual
noncomputable def isKey:D->Bool
 | .int _=>true
 | .tup xs=>areKeys xs
 | _=>false
noncomputable def areKeys:List D->Bool
 | []=>true
 | x::xs=>isKey x && areKeys xs
end
mutual
noncomputable def bZ:D->Int
 | .int i=>hashInt i
 | .tup xs=>adp (Vp (cj xs))
 | _=>0
noncomputable def cj:List D->List Int
 | []=>[]
 | x::xs=>bZ x::cj xs
end
mutual
noncomputable def dep:D->Nat
 | .tup xs=>deps xs + 1
 | .lst xs=>deps xs + 1
 | .emp=>5000
 | .exn _ _ _=>5000
 | .dct _ _=>5000
 | _=>0
noncomputable def deps:List D->Nat
 | []=>0
 | x::xs=>max (dep x) (deps xs)
end
structure LD (ks:List D):Prop where
 key:areKeys ks=true
 nd:ks.Nodup
 dp:deps ks<=8
 tp:∀k∈ks,∃xs,k=.tup xs
def yP (p:Int×V×V) (e:ZT):Prop:=e.hash=p.1/\RelV p.2.1 e.key/\RelV p.2.2 e.val
abbrev g6 (a:UA) (ep:Nat) (TZ:List (Int×V×V)):HO:=.ext λh=>∃o es,h.get? a=some o/\o.ExactDict/\o.data=.dict es ep/\ZQ yP TZ es.toList
noncomputable def XF (J:Hp) (dx:Option UA) (ns:List Str) (vs:List V):Prop:=(dx=none/\ns=[]/\vs=[])\/∃d,dx=some d/\ns.length=vs.length/\J d=some (.xd (ns.zip vs))
theorem XF.mono {J J':Hp}(e:aS J J') (h:XF J dx ns vs):XF J' dx ns vs:=by
 rcases h with h | ⟨d,h1,h2,h3⟩
 ·exact .inl h
 ·exact .inr ⟨d,h1,h2,e _ _ h3⟩
mutual
inductive Rep (K:T5) (J:Hp):D->V->Prop
 | non:Rep K J .non .non
 | bl (b:Bool):Rep K J (.bl b) (.bl b)
 | int (i:Int):Rep K J (.int i) (.int i)
 | str (x:Str):Rep K J (.str x) (.str x)
 | emp {a:UA}:J a=some (.dK [])->Rep K J .emp (.ref a)
 | tup {a:UA}{vs:List V}{ds:List D}:c7 K J a vs->aK K J ds vs->Rep K J (.tup ds) (.ref a)
 | lst {a:UA}{vs:List V}{ds:List D}:cg K J a vs->aK K J ds vs->Rep K J (.lst ds) (.ref a)
 | exn {a C:UA}{dx:Option UA}{cls:Str}{ns:List Str}{vs:List V}{ds:List D}:J a=some (DX.XO a C dx)->U1 K UL cls=some (some (.ref C))->XF J dx ns vs->aK K J ds vs->(∃P,DX.GX K P/\DX.XE K P C)->Rep K J (.exn cls ns ds) (.ref a)
 | dct {a:UA}{ep:Nat}{ks vs:List D}{us ws:List V}:J a=some (g6 a ep ((cj ks).zip (us.zip ws)))->aK K J ks us->aK K J vs ws->LD ks->(a == WB)=false/\ks.length=vs.length->Rep K J (.dct ks vs) (.ref a)
inductive aK (K:T5) (J:Hp):List D->List V->Prop
 | nil:aK K J [] []
 | cons {d:D}{v:V}{ds:List D}{vs:List V}:Rep K J d v->aK K J ds vs->aK K J (d::ds) (v::vs)
end
theorem fU {K:T5}{H H':Hp}{a:UA}{xs:List V}(e:aS H H') (h:c7 K H a xs):c7 K H' a xs:=by
 rcases h with (h | ⟨o,h⟩) | h
 ·exact .inl (.inl (e _ _ h))
 ·exact .inl (.inr ⟨o,e _ _ h⟩)
 ·exact .inr h
mutual
theorem Rep.mono {K:T5}{J J':Hp}(e:aS J J'):∀{d:D}{v:V},Rep K J d v->Rep K J' d v
 | _,_,.non=>.non
 | _,_,.bl b=>.bl b
 | _,_,.int i=>.int i
 | _,_,.str x=>.str x
 | _,_,.emp h=>.emp (e _ _ h)
 | _,_,.tup h hs=>.tup (fU e h) (aK.mono e hs)
 | _,_,.lst h hs=>.lst (e.seq h) (aK.mono e hs)
 | _,_,.exn h1 h2 h3 hs hx=>.exn (e _ _ h1) h2 (h3.mono e) (aK.mono e hs) hx
 | _,_,.dct h h1 h2 h3 h4=>.dct (e _ _ h) (aK.mono e h1) (aK.mono e h2) h3 h4
theorem aK.mono {K:T5}{J J':Hp}(e:aS J J'):∀{ds:List D}{vs:List V},aK K J ds vs->aK K J' ds vs
 | _,_,.nil=>.nil
 | _,_,.cons h hs=>.cons (Rep.mono e h) (aK.mono e hs)
end
section
variable {K:T5}{J:Hp}
theorem aK.length:∀{ds:List D}{vs:List V},aK K J ds vs->ds.length=vs.length
 | _,_,.nil=>rfl
 | _,_,.cons _ hs=>congrArg (· + 1) (aK.length hs)
theorem aK.get:∀{ds:List D}{vs:List V}{i:Nat}{d:D},aK K J ds vs->ds[i]?=some d->∃v,vs[i]?=some v/\Rep K J d v
 | _,_,_,_,.nil,e=>by simp at e
 | _,_,0,_,.cons r _,e=>by simp at e;subst e;exact ⟨_,rfl,r⟩
 | _,_,i + 1,d,.cons _ t,e=>by obtain ⟨v,h1,h2⟩:=aK.get (i:=i) (d:=d) t (by simpa using e);exact ⟨v,by simpa using h1,h2⟩
theorem aK.append:∀{ds es:List D}{vs us:List V},aK K J ds vs->aK K J es us->aK K J (ds++es) (vs++us)
 | _,_,_,_,.nil,s=>s
 | _,_,_,_,.cons r t,s=>.cons r (aK.append t s)
theorem aK.take:∀{ds:List D}{vs:List V}(n:Nat),aK K J ds vs->aK K J (ds.take n) (vs.take n)
 | _,_,0,_=>.nil
 | _,_,_ + 1,.nil=>.nil
 | _,_,n + 1,.cons r t=>.cons r (aK.take n t)
theorem aK.drop:∀{ds:List D}{vs:List V}(n:Nat),aK K J ds vs->aK K J (ds.drop n) (vs.drop n)
 | _,_,0,r=>r
 | _,_,_ + 1,.nil=>.nil
 | _,_,n + 1,.cons _ t=>aK.drop n t
end
noncomputable def eK (K:T5) (J H:Hp) (a:UA) (ks vs:List D):Prop:=∃us ws ep,H a=some (g6 a ep ((cj ks).zip (us.zip ws)))/\aK K J ks us/\aK K J vs ws/\LD ks/\(a == WB)=false/\ks.length=vs.length
theorem eK.mono {K:T5}{J J' H H':Hp}{a:UA}{ks vs:List D}(e:aS J J') (e':aS H H'):eK K J H a ks vs->eK K J' H' a ks vs
 | ⟨us,ws,ep,h1,h2,h3,h4⟩=>⟨us,ws,ep,e' _ _ h1,h2.mono e,h3.mono e,h4⟩
theorem eK.ne {K:T5}{J H:Hp}{a:UA}{ks vs:List D}:eK K J H a ks vs->H a≠none
 | ⟨us,ws,ep,h1,_⟩=>by rw [h1];intro z;cases z
theorem eK.rep {K:T5}{J H:Hp}{a:UA}{ks vs:List D}(e:aS J H):eK K J H a ks vs->Rep K H (.dct ks vs) (.ref a)
 | ⟨us,ws,ep,h1,h2,h3,h4,h5⟩=>.dct h1 (h2.mono e) (h3.mono e) h4 h5
noncomputable def NR (K:T5) (J:Hp) (P:UA->Prop):List D->List V->Prop
 | [],vs=>vs=[]
 | x::xs,vs=>∃ds b ws us,x=.lst ds/\vs=.ref b::us/\J b=some (.lst ws)/\aK K J ds ws/\P b/\V.ref b∉us/\NR K J P xs us
theorem NR.mono {K:T5}{J J':Hp}{P P':UA->Prop}(e:aS J J') (k:∀b,P b->P' b):∀{xs:List D}{vs:List V},NR K J P xs vs->NR K J' P' xs vs
 | [],_,h=>h
 | _::_,_,⟨ds,b,ws,us,h1,h2,h3,h4,h5,h6,h7⟩=>⟨ds,b,ws,us,h1,h2,e _ _ h3,h4.mono e,k b h5,h6,h7.mono e k⟩
theorem NR.reps {K:T5}{J:Hp}{P:UA->Prop}:∀{xs:List D}{vs:List V},NR K J P xs vs->aK K J xs vs
 | [],_,h=>by cases h;exact .nil
 | _::_,_,⟨ds,b,ws,us,h1,h2,h3,h4,h5,h6,h7⟩=>by subst h1;subst h2;exact .cons (.lst (.inl (.inl h3)) h4) h7.reps
theorem NR.mem {K:T5}{J:Hp}{P:UA->Prop}:∀{xs:List D}{vs:List V}{u:V},NR K J P xs vs->u∈vs->∃b ws,u=.ref b/\J b=some (.lst ws)/\P b
 | [],_,_,h,m=>by cases h;cases m
 | _::_,_,_,⟨ds,b,ws,us,h1,h2,h3,h4,h5,h6,h7⟩,m=>by
  subst h2;rcases Uw.mp m with e | e
  ·exact ⟨b,ws,e,h3,h5⟩
  ·exact h7.mem e
structure Exc where
 cls:Str
 ns:List Str
 ds:List D
inductive M (α:Type) where
 | bad | ok (a:α) | exc (x:Exc)
noncomputable def M.bind {α β:Type}:M α->(α->M β)->M β
 | .bad,_=>.bad
 | .ok a,f=>f a
 | .exc x,_=>.exc x
instance:Monad M where
 pure:=M.ok
 bind:=M.bind
@[simp] theorem aN {α β:Type}(a:α) (f:α->M β):(M.ok a >>= f)=f a:=rfl
noncomputable def cK {α:Type}(m:M α) (Q:α->Prop) (T:Exc->Prop):Prop:=match m with
 | .bad=>False
 | .ok a=>Q a
 | .exc x=>T x
theorem aM {α β:Type}{m:M α}{f:α->M β}{Q:β->Prop}{T:Exc->Prop}(h:cK (m >>= f) Q T):cK m (λa=>cK (f a) Q T) T:=by
 cases m with
 | bad=>exact h
 | ok a=>exact h
 | exc x=>exact h
theorem aF {α:Type}{m:M α}{Q Q':α->Prop}{T:Exc->Prop}(h:cK m Q T) (k:∀a,Q a->Q' a):cK m Q' T:=by
 cases m with
 | bad=>exact h
 | ok a=>exact k a h
 | exc x=>exact h
inductive Md where
 | fresh | own | bor
inductive R where
 | d (x:D) | l (m:Md) (xs:List D)
  | mo (ks vs:List D) | mb (ks vs:List D) | mf (ks vs:List D)
  | ln (xs:List D)
inductive S where
 | d (x:D) | own (xs:List D) | bor (xs:List D) | dk (ks vs:List D) | db (ks vs:List D)
  | fn (x:Str)
  | ow2 (xs:List D)
abbrev Ev:=List (Option S)
inductive Mn where
 | inl (xs:List D) | inr (p:List D×List D) | nst (xs:List D)
noncomputable def mS:Mn->S
 | .inl xs=>.own xs
 | .inr p=>.dk p.1 p.2
 | .nst xs=>.ow2 xs
structure C where
 K:T5
 H0:Hp
 J0:Hp
 T:Exc->Prop
structure HI (c:C) (J H:Hp):Prop where
 sub:aS J H
 ent:aS c.H0 H
 entJ:aS c.J0 J
 frz:∀a,c.H0 a≠none->c.J0 a=none->J a=none
structure Ext (J H J' H':Hp):Prop where
 h:aS H H'
 j:aS J J'
 sub:aS J' H'
 frz:∀a,H a≠none->J a=none->J' a=none
theorem aS.ne {H H':Hp}(e:aS H H') (h:H a≠none):H' a≠none:=by
 cases q:H a with
 | none=>exact absurd q h
 | some o=>rw [e a o q];intro z;cases z
theorem Ext.refl {J H:Hp}(h:aS J H):Ext J H J H:=⟨aS.refl H,aS.refl J,h,λ_ _ q=>q⟩
theorem Ext.trans {J H J1 H1 J2 H2:Hp}(a:Ext J H J1 H1) (b:Ext J1 H1 J2 H2):Ext J H J2 H2:=
 ⟨a.h.trans b.h,a.j.trans b.j,b.sub,λp h q=>b.frz p (aS.ne a.h h) (a.frz p h q)⟩
theorem HI.ext {J H J' H':Hp}(h:HI c J H) (e:Ext J H J' H'):HI c J' H':=
 ⟨e.sub,h.ent.trans e.h,h.entJ.trans e.j,λa h0 j0=>e.frz a (aS.ne h.ent h0) (h.frz a h0 j0)⟩
theorem cG {H:Hp}(h:H p=none) (o:HO):aS H (upd H p o):=λb u q=>by rw [aV (fO q h)];exact q
theorem Ext.new {J H:Hp}(h:aS J H) (e:H p=none) (o:HO):Ext J H J (upd H p o):=
 ⟨cG e o,aS.refl J,λb u q=>cG e o b u (h b u q),λ_ _ q=>q⟩
theorem Ext.newJ {J H:Hp}(h:aS J H) (e:H p=none) (o:HO):Ext J H (upd J p o) (upd H p o):=
 ⟨cG e o,cG (h.free e) o,λb u q=>by
  by_cases hb:b=p
  ·subst hb;rw [bO] at q ⊢;exact q
  ·rw [aV hb] at q ⊢;exact h b u q,λa ha q=>by
  have:a≠p:=λz=>ha (z▸e);rw [aV this];exact q⟩
noncomputable def sL (c:C) (J H:Hp):S->V->Prop
 | .d x,v=>Rep c.K J x v
 | .own xs,v=>∃a vs,v=.ref a/\H a=some (.lst vs)/\J a=none/\c.H0 a=none/\aK c.K J xs vs
 | .bor xs,v=>∃a vs,v=.ref a/\cg c.K c.H0 a vs/\aK c.K J xs vs
 | .dk ks vs,v=>∃a,v=.ref a/\eK c.K J H a ks vs/\J a=none/\c.H0 a=none
 | .db ks vs,v=>∃a,v=.ref a/\eK c.K J c.H0 a ks vs
 | .fn x,v=>∃f,v=.ref f/\U1 c.K UL x=some (some (.ref f))
 | .ow2 xs,v=>∃a vs,v=.ref a/\H a=some (.lst vs)/\J a=none/\c.H0 a=none/\NR c.K J (λb=>c.H0 b=none/\c.J0 b=none) xs vs
theorem sL.ext {c:C}{J H J' H':Hp}(e:Ext J H J' H'):∀{x:S}{v:V},sL c J H x v->sL c J' H' x v
 | .d x,v,h=>Rep.mono e.j h
 | .own xs,v,⟨a,vs,h1,h2,h3,h4,h5⟩=>⟨a,vs,h1,e.h _ _ h2,e.frz a (by rw [h2];intro z;cases z) h3,h4,aK.mono e.j h5⟩
 | .bor xs,v,⟨a,vs,h1,h2,h3⟩=>⟨a,vs,h1,h2,aK.mono e.j h3⟩
 | .dk _ _,v,⟨a,h1,h2,h3,h4⟩=>⟨a,h1,h2.mono e.j e.h,e.frz a h2.ne h3,h4⟩
 | .db _ _,v,⟨a,h1,h2⟩=>⟨a,h1,h2.mono e.j (aS.refl _)⟩
 | .fn _,v,h=>h
 | .ow2 _,v,⟨a,vs,h1,h2,h3,h4,h5⟩=>⟨a,vs,h1,e.h _ _ h2,e.frz a (by rw [h2];intro z;cases z) h3,h4,h5.mono e.j λ_ h=>h⟩
noncomputable def j6 (H:Hp) (σ:L2.St) (i:Nat):List V:=match σ[i]? with
 | some (some (.ref p))=>(match H p with
  | some (.lst vs)=>vs
  | _=>[])
 | _=>[]
theorem iP {H:Hp}{σ:L2.St}{i:Nat}{p:UA}{vs:List V}(h:σ[i]?=some (some (.ref p))) (h2:H p=some (.lst vs)):j6 H σ i=vs:=by
 unfold j6;rw [h];show (match H p with
  | some (.lst vs)=>vs
  | _=>[])=vs
 rw [h2]
noncomputable def yV (H:Hp) (σ:L2.St) (env:Ev):Prop:=∀(i j:Nat) (xs ys:List D),i≠j->env[i]?=some (some (.ow2 xs))->env[j]?=some (some (.ow2 ys))->∀u∈j6 H σ i,u∉j6 H σ j
theorem qO {H:Hp}{σ:L2.St}{i k:Nat}{v:Option V}(h:k≠i):j6 H (σ.set i v) k=j6 H σ k:=by unfold j6;rw [UP (VS h)]
theorem yV.by {H H':Hp}{σ σ':L2.St}{env env':Ev}(h:yV H σ env) (f:Nat->Nat) (hf:∀i j xs ys,i≠j->env'[i]?=some (some (.ow2 xs))->env'[j]?=some (some (.ow2 ys))->f i≠f j) (k:∀i xs,env'[i]?=some (some (.ow2 xs))->(∃xs',env[f i]?=some (some (.ow2 xs')))/\j6 H' σ' i=j6 H σ (f i)):yV H' σ' env':=by intro i j xs ys hij h1 h2 u hu;obtain ⟨⟨xs',k1⟩,k2⟩:=k i xs h1;obtain ⟨⟨ys',k3⟩,k4⟩:=k j ys h2;rw [k4];rw [k2] at hu;exact h (f i) (f j) xs' ys' (hf i j xs ys hij h1 h2) k1 k3 u hu
theorem yV.keep {H H':Hp}{σ σ':L2.St}{env env':Ev}(h:yV H σ env) (k:∀i xs,env'[i]?=some (some (.ow2 xs))->(∃xs',env[i]?=some (some (.ow2 xs')))/\j6 H' σ' i=j6 H σ i):yV H' σ' env':=h.by id (λ_ _ _ _ h _ _=>h) k
structure SR (c:C) (J H:Hp) (σ:L2.St) (env:Ev):Prop where
 hp:HI c J H
 len:env.length=σ.length
 at_:∀(i:Nat) (x:S),env[i]?=some (some x)->∃v,σ[i]?=some (some v)/\sL c J H x v
 sep:∀(i j:Nat) (xs ys:Mn) (v:V),i≠j->env[i]?=some (some (mS xs))->env[j]?=some (some (mS ys))->σ[i]?=some (some v)->σ[j]?≠some (some v)
 sp2:yV H σ env
theorem SR.nst {c:C}{J H:Hp}{σ:L2.St}{env:Ev}(h:SR c J H σ env){i:Nat}{xs:List D}(q:env[i]?=some (some (.ow2 xs))):∃p vs,σ[i]?=some (some (.ref p))/\H p=some (.lst vs)/\J p=none/\c.H0 p=none/\NR c.K J (λb=>c.H0 b=none/\c.J0 b=none) xs vs/\j6 H σ i=vs:=by obtain ⟨_,h1,p,vs,rfl,h2,h3⟩:=h.at_ i _ q;exact ⟨p,vs,h1,h2,h3.1,h3.2.1,h3.2.2,iP h1 h2⟩
theorem SR.ext {J H J' H':Hp}(h:SR c J H σ env) (e:Ext J H J' H'):SR c J' H' σ env:=
 ⟨h.hp.ext e,h.len,λi x q=>let ⟨v,q1,q2⟩:=h.at_ i x q;⟨v,q1,q2.ext e⟩,h.sep,h.sp2.keep λi xs q=>⟨⟨xs,q⟩,let ⟨_,_,h1,h2,_,_,_,h3⟩:=h.nst q;h3▸iP h1 (e.h _ _ h2)⟩⟩
theorem SR.mine {c:C}{J H:Hp}{σ:L2.St}{env:Ev}(sr:SR c J H σ env){i:Nat}:∀{x:Mn},env[i]?=some (some (mS x))->∃p,σ[i]?=some (some (.ref p))/\H p≠none/\J p=none/\c.H0 p=none
 | .inl xs,h=>let ⟨_,k1,p,vs,e,k2,k3,k4,_⟩:=sr.at_ i (.own xs) h;⟨p,e▸k1,by rw [k2];exact λz=>(by cases z),k3,k4⟩
 | .inr q,h=>let ⟨_,k1,p,e,k2,k3,k4⟩:=sr.at_ i (.dk q.1 q.2) h;⟨p,e▸k1,k2.ne,k3,k4⟩
 | .nst xs,h=>let ⟨p,vs,k1,k2,k3,k4,_⟩:=sr.nst h;⟨p,k1,by rw [k2];exact λz=>(by cases z),k3,k4⟩
noncomputable def RR (c:C) (He J H:Hp):R->V->Prop
 | .d x,v=>Rep c.K J x v
 | .l .fresh xs,v=>∃a vs,v=.ref a/\H a=some (.lst vs)/\J a=none/\He a=none/\aK c.K J xs vs
 | .l .own xs,v=>∃a vs,v=.ref a/\H a=some (.lst vs)/\J a=none/\c.H0 a=none/\aK c.K J xs vs
 | .l .bor xs,v=>∃a vs,v=.ref a/\cg c.K c.H0 a vs/\aK c.K J xs vs
 | .mo ks vs,v=>∃a,v=.ref a/\eK c.K J H a ks vs/\J a=none/\c.H0 a=none
 | .mb ks vs,v=>∃a,v=.ref a/\eK c.K J c.H0 a ks vs
 | .mf ks vs,v=>∃a,v=.ref a/\eK c.K J H a ks vs/\J a=none/\He a=none
 | .ln xs,v=>∃a vs,v=.ref a/\H a=some (.lst vs)/\J a=none/\He a=none/\NR c.K J (λb=>He b=none) xs vs
theorem RR.ext {c:C}{He J H J' H':Hp}(e:Ext J H J' H'):∀{x:R}{v:V},RR c He J H x v->RR c He J' H' x v
 | .d x,v,h=>Rep.mono e.j h
 | .l .fresh xs,v,⟨a,vs,h1,h2,h3,h4,h5⟩=>⟨a,vs,h1,e.h _ _ h2,e.frz a (by rw [h2];intro z;cases z) h3,h4,aK.mono e.j h5⟩
 | .l .own xs,v,⟨a,vs,h1,h2,h3,h4,h5⟩=>⟨a,vs,h1,e.h _ _ h2,e.frz a (by rw [h2];intro z;cases z) h3,h4,aK.mono e.j h5⟩
 | .l .bor xs,v,⟨a,vs,h1,h2,h3⟩=>⟨a,vs,h1,h2,aK.mono e.j h3⟩
 | .mo _ _,v,⟨a,h1,h2,h3,h4⟩=>⟨a,h1,h2.mono e.j e.h,e.frz a h2.ne h3,h4⟩
 | .mb _ _,v,⟨a,h1,h2⟩=>⟨a,h1,h2.mono e.j (aS.refl _)⟩
 | .mf _ _,v,⟨a,h1,h2,h3,h4⟩=>⟨a,h1,h2.mono e.j e.h,e.frz a h2.ne h3,h4⟩
 | .ln _,v,⟨a,vs,h1,h2,h3,h4,h5⟩=>⟨a,vs,h1,e.h _ _ h2,e.frz a (by rw [h2];intro z;cases z) h3,h4,h5.mono e.j λ_ h=>h⟩
theorem RR.from {c:C}{He He' J H:Hp}(e:aS He He'):∀{x:R}{v:V},RR c He' J H x v->RR c He J H x v
 | .d x,v,h=>h
 | .l .fresh xs,v,⟨a,vs,h1,h2,h3,h4,h5⟩=>⟨a,vs,h1,h2,h3,e.free h4,h5⟩
 | .l .own xs,v,h=>h
 | .l .bor xs,v,h=>h
 | .mo _ _,v,h=>h
 | .mb _ _,v,h=>h
 | .mf _ _,v,⟨a,h1,h2,h3,h4⟩=>⟨a,h1,h2,h3,e.free h4⟩
 | .ln _,v,⟨a,vs,h1,h2,h3,h4,h5⟩=>⟨a,vs,h1,h2,h3,e.free h4,h5.mono (aS.refl _) λ_ h=>e.free h⟩
noncomputable def jq:R->M (List D)
 | .d (.lst xs)=>.ok xs
 | .l _ xs=>.ok xs
 | _=>.bad
noncomputable def toD:R->M D
 | .d x=>.ok x
 | .l .fresh xs=>.ok (.lst xs)
 | .mf ks vs=>.ok (.dct ks vs)
 | .ln xs=>.ok (.lst xs)
 | _=>.bad
theorem RR.list {c:C}{He J H:Hp}(hp:HI c J H):∀{r:R}{v:V}{xs:List D},RR c He J H r v->jq r=.ok xs->∃a vs,v=.ref a/\cg c.K H a vs/\aK c.K J xs vs
 | .d (.lst ys),v,xs,h,e=>by
  cases e;cases h with
  | lst h hs=>exact ⟨_,_,rfl,hp.sub.seq h,hs⟩
 | .l .fresh ys,v,xs,⟨a,vs,h1,h2,h3,h4,h5⟩,e=>by cases e;exact ⟨a,vs,h1,cg.of h2,h5⟩
 | .l .own ys,v,xs,⟨a,vs,h1,h2,h3,h4,h5⟩,e=>by cases e;exact ⟨a,vs,h1,cg.of h2,h5⟩
 | .l .bor ys,v,xs,⟨a,vs,h1,h2,h3⟩,e=>by cases e;exact ⟨a,vs,h1,hp.ent.seq h2,h3⟩
 | .d .non,_,_,_,e=>nomatch e
 | .d (.bl _),_,_,_,e=>nomatch e
 | .d (.int _),_,_,_,e=>nomatch e
 | .d (.str _),_,_,_,e=>nomatch e
 | .d (.tup _),_,_,_,e=>nomatch e
 | .d .emp,_,_,_,e=>nomatch e
 | .d (.dct _ _),_,_,_,e=>nomatch e
 | .mo _ _,_,_,_,e=>nomatch e
 | .mb _ _,_,_,_,e=>nomatch e
 | .mf _ _,_,_,_,e=>nomatch e
 | .ln _,_,_,_,e=>nomatch e
theorem qL {Je He J H:Hp}(x:Ext Je He J H) (h2:H a=some o) (h3:J a=none) (h4:He a=none):Ext Je He (upd J a o) H:=by
 refine ⟨x.h,x.j.trans (cG h3 _),λb u q=>?_,λb hb q=>?_⟩
 ·by_cases hb:b=a
  ·subst hb;rw [bO] at q;cases q;exact h2
  ·rw [aV hb] at q;exact x.sub b u q
 ·have:b≠a:=λz=>hb (z▸h4);rw [aV this];exact x.frz b hb q
theorem freeze {c:C}{Je He J H:Hp}(x:Ext Je He J H):∀{r:R}{v:V}{d:D},RR c He J H r v->toD r=.ok d->∃J',Ext Je He J' H/\aS J J'/\Rep c.K J' d v
 | .d y,v,d,h,e=>by cases e;exact ⟨J,x,aS.refl J,h⟩
 | .l .fresh ys,v,d,⟨a,vs,h1,h2,h3,h4,h5⟩,e=>by cases e;subst h1;exact ⟨_,qL x h2 h3 h4,cG h3 _,.lst (.inl (.inl bO)) (aK.mono (cG h3 _) h5)⟩
 | .mf ks vs,v,d,⟨a,h1,⟨us,ws,ep,h2,m1,m2,m3⟩,h3,h4⟩,e=>by cases e;subst h1;exact ⟨_,qL x h2 h3 h4,cG h3 _,.dct bO (m1.mono (cG h3 _)) (m2.mono (cG h3 _)) m3.1 m3.2⟩
 | .ln ys,v,d,⟨a,vs,h1,h2,h3,h4,h5⟩,e=>by cases e;subst h1;exact ⟨_,qL x h2 h3 h4,cG h3 _,.lst (.inl (.inl bO)) (h5.reps.mono (cG h3 _))⟩
 | .l .own _,_,_,_,e=>nomatch e
 | .l .bor _,_,_,_,e=>nomatch e
 | .mo _ _,_,_,_,e=>nomatch e
 | .mb _ _,_,_,_,e=>nomatch e
abbrev G (α:Type):=Ev->M α
def tD (c:C) (g:G R):TE:=λσ H Q=>∃J env,SR c J H σ env/\cK (g env) (λr=>∀v J' H',Ext J H J' H'->RR c H J' H' r v->Q v H') c.T
def PD (X:Cx) (c:C) (e:UU) (g:G R):Prop:=PE X e (tD c g)
def tB (c:C) (g:G Bool):TT:=λσ H Q=>∃J env,SR c J H σ env/\cK (g env) (λb=>∀J' H',Ext J H J' H'->Q b H') c.T
def PB (X:Cx) (c:C) (e:UU) (g:G Bool):Prop:=PT X e (tB c g)
noncomputable def kC (c:C) (He J H:Hp):List R->List V->Prop
 | [],vs=>vs=[]
 | r::rs,vs=>∃v us,vs=v::us/\RR c He J H r v/\kC c He J H rs us
def tA (c:C) (g:G (List R)):TA:=λσ H Q=>∃J env,SR c J H σ env/\cK (g env) (λrs=>∀vs J' H',Ext J H J' H'->kC c H J' H' rs vs->Q vs H') c.T
def DS (X:Cx) (c:C) (es:List UU) (g:G (List R)):Prop:=PA X es (tA c g)
def Qu (c:C) (g:G (List D)):TA:=λσ H Q=>∃J env,SR c J H σ env/\cK (g env) (λds=>∀vs J' H',Ext J H J' H'->aK c.K J' ds vs->Q vs H') c.T
def Qm (X:Cx) (c:C) (es:List UU) (g:G (List D)):Prop:=PA X es (Qu c g)
inductive O where
 | nx (e:Ev) | rt (r:R) | bk (e:Ev) | ct (e:Ev)
noncomputable def RF (c:C) (J H:Hp):R->V->Prop
 | .d x,v=>Rep c.K J x v
 | .l _ xs,v=>∃a vs,v=.ref a/\H a=some (.lst vs)/\J a=none/\c.H0 a=none/\aK c.K J xs vs
 | .mf ks vs,v=>∃a,v=.ref a/\eK c.K J H a ks vs/\J a=none/\c.H0 a=none
 | .ln xs,v=>∃a vs,v=.ref a/\H a=some (.lst vs)/\J a=none/\c.H0 a=none/\NR c.K J (λb=>c.H0 b=none) xs vs
 | _,_=>False
noncomputable def oP (c:C) (J:Hp) (E:Ends):O->Prop
 | .nx e=>∀σ' J' H',aS J J'->SR c J' H' σ' e->E.nx σ' H'
 | .rt r=>∀v J' H',aS J J'->HI c J' H'->RF c J' H' r v->E.rt v H'
 | .bk e=>∀σ' J' H',aS J J'->SR c J' H' σ' e->E.bk σ' H'
 | .ct e=>∀σ' J' H',aS J J'->SR c J' H' σ' e->E.ct σ' H'
def tS (c:C) (g:G O):TS:=λE σ H=>∃J env,SR c J H σ env/\cK (g env) (oP c J E) c.T
def LH (X:Cx) (c:C) (st:WM) (g:G O):Prop:=PS X st (tS c g)
def LI (X:Cx) (c:C) (st:List WM) (g:G O):Prop:=jF X st (tS c g)
theorem oP.mono {c:C}{J J1:Hp}{E:Ends}(e:aS J J1):∀{o:O},oP c J E o->oP c J1 E o
 | .nx _,h=>λσ' J' H' q r=>h σ' J' H' (e.trans q) r
 | .rt _,h=>λσ' J' H' q r=>h σ' J' H' (e.trans q) r
 | .bk _,h=>λσ' J' H' q r=>h σ' J' H' (e.trans q) r
 | .ct _,h=>λσ' J' H' q r=>h σ' J' H' (e.trans q) r
def tW (c:C) (g:G O):TS:=λE σ H=>∃J env,SR c J H σ env/\cK (g env) (oP c c.J0 E) c.T
theorem Dy {c:C}{g:G O}{E:Ends}{σ:L2.St}{H:Hp}(h:tW c g E σ H):tS c g E σ H:=by obtain ⟨J,env,sr,w⟩:=h;exact ⟨J,env,sr,aF w λo q=>q.mono sr.hp.entJ⟩
theorem gq {t t':TE}(h:PE X e t) (k:∀σ H Q,t' σ H Q->t σ H Q):PE X e t':=λTN s σ H Q I q=>h TN s σ H Q I (k σ H Q q)
theorem yJ (h:PT X e t) (k:∀σ H Q,t' σ H Q->t σ H Q):PT X e t':=λTN s σ H Q I q=>h TN s σ H Q I (k σ H Q q)
theorem yG (h:PA X es t) (k:∀σ H Q,t' σ H Q->t σ H Q):PA X es t':=λpos TN s σ H Q I q=>h pos TN s σ H Q I (k σ H Q q)
theorem gr {st:WM}{t t':TS}(h:PS X st t) (k:∀D σ H,t' D σ H->t D σ H):PS X st t':=λTN s σ H D I q=>h TN s σ H D I (k D σ H q)
theorem qd {st:List WM}{t t':TS}(h:jF X st t) (k:∀D σ H,t' D σ H->t D σ H):jF X st t':=λTN s σ H D I q=>h TN s σ H D I (k D σ H q)
section
variable {X:Cx}{c:C}{e a b:UU}{ga gb:G R}{pos:Pos}
noncomputable def S.rd:S->M R
 | .d x=>.ok (.d x)
 | .own xs=>.ok (.l .own xs)
 | .bor xs=>.ok (.l .bor xs)
 | .dk ks vs=>.ok (.mo ks vs)
 | .db ks vs=>.ok (.mb ks vs)
 | .fn _=>.bad
 | .ow2 xs=>.ok (.l .own xs)
noncomputable def af (i:Nat):G R:=λenv=>match env[i]? with
 | some (some x)=>x.rd
 | _=>.bad
theorem KJ (h:PE X (.Name x pos) (Ij i)):PD X c (.Name x pos) (af i):=gq h λσ H Q ⟨J,env,sr,w⟩=>by
 unfold af at w;cases q:env[i]? with
 | none=>rw [q] at w;exact w.elim
 | some o=>
  cases o with
  | none=>rw [q] at w;exact w.elim
  | some x=>
   rw [q] at w;obtain ⟨v,h1,h2⟩:=sr.at_ i x q;refine ⟨v,h1,?_⟩;cases x with
   | fn _=>exact w.elim
   | ow2 _=>obtain ⟨a,vs,k1,k2,k3,k4,k5⟩:=h2;exact w v J H (Ext.refl sr.hp.sub) ⟨a,vs,k1,k2,k3,k4,k5.reps⟩
   | _=>exact w v J H (Ext.refl sr.hp.sub) h2
def gC (d:D):G R:=λ_=>.ok (.d d)
theorem uW (hr:∀J,Rep c.K J d v) (h:PE X e (tC v)):PD X c e (gC d):=gq h λσ H Q ⟨J,env,sr,w⟩=>w v J H (Ext.refl sr.hp.sub) (hr J)
noncomputable def BD (c:C) (r:R2) (f:R->R->M R):Prop:=∀(He He' J H:Hp) (x y:R) (u v:V) (Q:VK),HI c J H->RR c He J H x u->RR c He' J H y v->
 cK (f x y) (λz=>∀w J' H',Ext J H J' H'->RR c H J' H' z w->Q w H') c.T->r u v H Q
def g2 (f:R->R->M R) (ga gb:G R):G R:=λenv=>ga env >>= λx=>gb env >>= λy=>f x y
theorem two {P:R->R->M R}{σ:L2.St}{H:Hp}{k:V->V->Hp->Prop}{Q:VK}{J:Hp}{env:Ev}(sr:SR c J H σ env)
  (w:cK (g2 P ga gb env) (λr=>∀v J' H',Ext J H J' H'->RR c H J' H' r v->Q v H') c.T)
  (hk:∀x y u v J2 H2,SR c J2 H2 σ env->Ext J H J2 H2->RR c H J2 H2 x u->RR c H J2 H2 y v->cK (P x y) (λz=>∀w J' H',Ext J2 H2 J' H'->RR c H2 J' H' z w->Q w H') c.T->k u v H2):
  tD c ga σ H λu H1=>tD c gb σ H1 λv H2=>k u v H2:=by refine ⟨J,env,sr,aF (aM w) λx wx u J1 H1 e1 r1=>?_⟩;have sr1:=sr.ext e1;refine ⟨J1,env,sr1,aF (aM wx) λy wy v J2 H2 e2 r2=>?_⟩;exact hk x y u v J2 H2 (sr1.ext e2) (e1.trans e2) (r1.ext e2) (RR.from e1.h r2) (aF wy λz q w J' H' e3 r3=>q w J' H' ((e1.trans e2).trans e3) (RR.from (e1.h.trans e2.h) r3))
theorem Hw {t:TE}{f:R->R->M R}(ht:PE X e t) (heq:t=BZ r (tD c ga) (tD c gb)) (hf:BD c r f):PD X c e (g2 f ga gb):=by subst heq;exact gq ht λσ H Q ⟨J,env,sr,w⟩=>two (k:=λu v H2=>r u v H2 Q) sr w λx y u v J2 H2 sr2 e2 r1 r2 q=>hf H H J2 H2 x y u v Q sr2.hp r1 r2 q
theorem kM {f:R->R->M R}(ho:c6 X (Xj op) r) (hf:BD c r f) (ha:PD X c a ga) (hb:PD X c b gb):PD X c (.BinOp a op b pos) (g2 f ga gb):=Hw (Ov ho ha hb) rfl hf
theorem qa {f:R->R->M R}(ho:c6 X (Vz op) r) (hf:BD c r f) (ha:PD X c a ga) (hb:PD X c b gb) (hm:Vs op b=false:=by first | exact Ab _ | rfl):PD X c (.Compare a [op] [b] pos) (g2 f ga gb):=Hw (KN ho ha hb hm) rfl hf
theorem Ja {f:R->R->M R}(ho:pe X r) (hf:BD c r f) (ha:PD X c a ga) (hb:PD X c b gb) (hs:mV b:=by exact λ_ _=>rfl):PD X c (.Subscript a b pos) (g2 f ga gb):=Hw (Jc ho ha hb hs) rfl hf
theorem BD.or {r r':R2}{f f':R->R->M R}(p:R->R->Bool) (h:BD c r f) (h':BD c r' f'):BD c (λx y H Q=>r x y H Q\/r' x y H Q) (λx y=>if p x y then f x y else f' x y):=by
 intro He He' J H x y u v Q hp rx ry w;simp only at w;cases q:p x y with
 | true=>rw [q] at w;exact .inl (h He He' J H x y u v Q hp rx ry w)
 | false=>rw [q] at w;exact .inr (h' He He' J H x y u v Q hp rx ry w)
noncomputable def fI (C:Int->Int->Bool) (f:Int->Int->D):R->R->M R
 | .d (.int i),.d (.int j)=>if C i j then .ok (.d (f i j)) else .bad
 | _,_=>.bad
noncomputable def kD (f:Int->Int->D):R->R->M R
 | .d (.int i),.d (.int j)=>.ok (.d (f i j))
 | _,_=>.bad
theorem y_ {P:Int->Int->Prop}{Cb:Int->Int->Bool}{g:Int->Int->V}{f:Int->Int->D}(hC:∀i j,Cb i j=true->P i j) (hr:∀i j J,Rep c.K J (f i j) (g i j)):BD c (rI P g) (fI Cb f):=by
 intro He He' J H x y u v Q hp rx ry w;unfold fI at w;split at w
 ·cases rx;cases ry;rename_i i j;cases q:Cb i j with
  | true=>rw [q] at w;exact ⟨i,j,rfl,rfl,hC i j q,w _ J H (Ext.refl hp.sub) (hr i j J)⟩
  | false=>rw [q] at w;exact w.elim
 ·exact w.elim
theorem gT {g:Int->Int->V}{f:Int->Int->D}(hr:∀i j J,Rep c.K J (f i j) (g i j)):BD c (qi g) (kD f):=by
 intro He He' J H x y u v Q hp rx ry w;unfold kD at w;split at w
 ·cases rx;cases ry;rename_i i j;exact ⟨i,j,rfl,rfl,w _ J H (Ext.refl hp.sub) (hr i j J)⟩
 ·exact w.elim
def below (n:Nat) (j:Int):Bool:=Nat.blt j.natAbs n
theorem cW:below n j=true↔-(n:Int) < j/\j < n:=by unfold below;rw [Nat.blt_eq];omega
def CM (_ j:Int):Bool:=decide (0 < j) && below 1073741824 j
def MH (_ j:Int):Bool:=decide (0 < j)
def zR (i j:Int):Bool:=below 18446744073709551616 i || below 18446744073709551616 j
theorem Ka (h:zR i j=true):(-(2 ^ 64) < i/\i < 2 ^ 64)\/(-(2 ^ 64) < j/\j < 2 ^ 64):=by unfold zR at h;rw [W_] at h;exact h.imp cW.mp cW.mp
theorem J_ (h:CM i j=true):0 < j/\j < 1073741824:=by unfold CM at h;rw [Ub] at h;exact ⟨of_decide_eq_true h.1,(cW.mp h.2).2⟩
def GW (i j:Int):Bool:=decide (0<=j) && below 1000001 j && below 18446744073709551616 i
theorem Kc {i j:Int}(h:GW i j=true):0<=j/\j<=1000000/\i.natAbs < 2 ^ 64:=by unfold GW at h;rw [Ub,Ub] at h;have h2:=cW.mp h.1.2;have h3:=cW.mp h.2;exact ⟨of_decide_eq_true h.1.1,by omega,by omega⟩
abbrev vK:R->R->M R:=kD λi j=>.int (i + j)
abbrev vL:R->R->M R:=kD λi j=>.int (i - j)
abbrev Mk:R->R->M R:=fI zR λi j=>.int (i * j)
abbrev iE:R->R->M R:=fI CM λi j=>.int (i / j)
abbrev d7:R->R->M R:=fI MH λi j=>.int (i % j)
abbrev nY:R->R->M R:=fI GW λi j=>.int (i ^ j.toNat)
noncomputable def ux:R->R->M R
 | .d (.str i),.d (.str j)=>if i.length + j.length<=sizeLine then .ok (.d (.str (i++j))) else .bad
 | _,_=>.bad
theorem Lb {K:T5}{J:Hp}{ds:List D}{vs:List V}{i:Int}{d:D}(h:aK K J ds vs) (e:lq ds i=some d):∃v,lq vs i=some v/\Rep K J d v:=by
 unfold lq at e ⊢;rw [h.length] at e;cases q:sd vs.length i with
 | none=>rw [q] at e;cases e
 | some j=>rw [q] at e;exact h.get e
theorem je {f:List D->M R}{Q:R->Prop}{T:Exc->Prop}(w:cK (jq x >>= f) Q T):∃xs,jq x=.ok xs/\cK (f xs) Q T:=by
 cases q:jq x with
 | bad=>rw [q] at w;exact w.elim
 | ok xs=>rw [q] at w;exact ⟨xs,rfl,w⟩
 | exc z=>unfold jq at q;split at q <;> cases q
noncomputable def zQ:R->Bool
 | .l .fresh _=>true
 | .l .own _=>true
 | _=>false
noncomputable def uy (x y:R):M R:=if zQ x && zQ y then jq x >>= λxs=>jq y >>= λys=>if xs.length + ys.length<=sizeLine then .ok (.l .fresh (xs++ys)) else .bad else .bad
theorem RR.made {He J H:Hp}:∀{r:R}{v:V},zQ r=true->RR c He J H r v->∃a vs xs,jq r=.ok xs/\v=.ref a/\H a=some (.lst vs)/\aK c.K J xs vs
 | .l .fresh xs,v,_,⟨a,vs,h1,h2,h3,h4,h5⟩=>⟨a,vs,xs,rfl,h1,h2,h5⟩
 | .l .own xs,v,_,⟨a,vs,h1,h2,h3,h4,h5⟩=>⟨a,vs,xs,rfl,h1,h2,h5⟩
 | .l .bor _,_,e,_=>nomatch e
 | .mo _ _,_,e,_=>nomatch e
 | .mb _ _,_,e,_=>nomatch e
 | .mf _ _,_,e,_=>nomatch e
 | .ln _,_,e,_=>nomatch e
 | .d _,_,e,_=>nomatch e
theorem gF {J H:Hp}(hp:HI c J H) (e:H p=none) (h:aK c.K J xs vs):RR c H J (upd H p (.lst vs)) (.l .fresh xs) (.ref p):=
 ⟨p,vs,rfl,bO,hp.sub.free e,e,h⟩
noncomputable def CD (c:C) (r:List V->Hp->VK->Prop) (f:List R->M R):Prop:=∀(He J H:Hp) (xs:List R) (vs:List V) (Q:VK),HI c J H->kC c He J H xs vs->
 cK (f xs) (λz=>∀w J' H',Ext J H J' H'->RR c H J' H' z w->Q w H') c.T->r vs H Q
def gN (f:List R->M R) (gs:G (List R)):G R:=λenv=>gs env >>= f
theorem Hx {t:TE}{ta:TA}{r:List V->Hp->VK->Prop}{f:List R->M R}{gs:G (List R)}(ht:PE X e t) (heq:t=λσ H Q=>tA c gs σ H λvs H1=>r vs H1 Q) (hf:CD c r f):PD X c e (gN f gs):=by subst heq;refine gq ht λσ H Q ⟨J,env,sr,w⟩=>⟨J,env,sr,aF (aM w) λrs w vs J1 H1 e1 r1=>?_⟩;exact hf H J1 H1 rs vs Q (sr.hp.ext e1) r1 (aF w λz q v J' H' e2 r2=>q v J' H' (e1.trans e2) (RR.from e1.h r2))
def aG:G (List R):=λ_=>.ok []
def ao (g:G R) (gs:G (List R)):G (List R):=λenv=>g env >>= λx=>gs env >>= λxs=>.ok (x::xs)
theorem kC.from {He He' J H:Hp}(e:aS He He'):∀{xs:List R}{vs:List V},kC c He' J H xs vs->kC c He J H xs vs
 | [],_,h=>h
 | _::_,_,⟨v,us,h1,h2,h3⟩=>⟨v,us,h1,RR.from e h2,kC.from e h3⟩
theorem iY {id:String}{x:Str}{p:Pos}{es:List UU}{r:List V->Hp->VK->Prop}{f:List R->M R}{gs:G (List R)}(hc:cR X (.builtin id) r) (hf:CD c r f) (hv:Vd x=some (.builtin id)) (hm:X.mg x=none) (ha:DS X c (e::es) gs)
  (hg:Gl X x:=by rfl) (hn:x≠"__name__":=by decide) (hdb:(x == ("__debug__":Str))=false:=by decide)
  (he:Uj (e::es) X.env=(false,eval e X.env)::Uj es X.env:=by rfl) (hpl:(Vx pos (Uj es X.env)).any (·.1)=false:=by rfl):PD X c (.Call (.Name x p) (e::es) [] pos) (gN f gs):=
 Hx (ta:=Dw) (tH hc hg hm hv ha hn hdb he hpl) rfl hf
theorem xy {r:List V->Hp->VK->Prop}{f:List R->M R}{gs:G (List R)}(hc:cR X (.type T) r) (hf:CD c r f) (hv:Vd x=some (.type T)) (hm:X.mg x=none) (ha:DS X c (e::es) gs)
 (hg:Gl X x:=by rfl) (hn:x≠"__name__":=by decide) (hdb:(x == ("__debug__":Str))=false:=by decide)
 (he:Uj (e::es) X.env=(false,eval e X.env)::Uj es X.env:=by rfl) (hpl:(Vx pos (Uj es X.env)).any (·.1)=false:=by rfl):PD X c (.Call (.Name x p) (e::es) [] pos) (gN f gs):=
 Hx (ta:=Dw) (mz hc hg hm hv ha hn hdb he hpl) rfl hf
end
section
variable {X:Cx}{c:C}{e a b:UU}{es:List UU}{ga gb g:G R}{pos:Pos}
def aQ:G (List D):=λ_=>.ok []
def az (g:G R) (gs:G (List D)):G (List D):=λenv=>g env >>= λx=>toD x >>= λd=>gs env >>= λds=>.ok (d::ds)
theorem jg {α:Type}{f:D->M α}{Q:α->Prop}{T:Exc->Prop}(w:cK (toD x >>= f) Q T):∃d,toD x=.ok d/\cK (f d) Q T:=by
 cases q:toD x with
 | bad=>rw [q] at w;exact w.elim
 | ok xs=>rw [q] at w;exact ⟨xs,rfl,w⟩
 | exc z=>unfold toD at q;split at q <;> cases q
def bC (gs:G (List D)):G R:=λenv=>gs env >>= λds=>if ds.length<=sizeLine then .ok (.d (.tup ds)) else .bad
def cU (gs:G (List D)):G R:=λenv=>gs env >>= λds=>if ds.length<=sizeLine then .ok (.l .fresh ds) else .bad
theorem ql {J H:Hp}(hp:HI c J H) (e:H p=none) (h:aK c.K J xs vs):Rep c.K (upd J p (.tup vs)) (.tup xs) (.ref p):=
 .tup (.inl (.inl bO)) (h.mono (cG (hp.sub.free e) _))
noncomputable def iz:R->M (List D)
 | .d (.tup xs)=>.ok xs
 | .d (.lst xs)=>.ok xs
 | .l _ xs=>.ok xs
 | _=>.bad
theorem kR {He J H:Hp}(hp:HI c J H):∀{r:R}{v:V}{xs:List D},RR c He J H r v->iz r=.ok xs->∃a vs,v=.ref a/\(cg c.K H a vs\/c7 c.K H a vs)/\aK c.K J xs vs
 | .d (.tup ys),v,xs,h,e=>by
  cases e;cases h with
  | tup h hs=>exact ⟨_,_,rfl,.inr (fU hp.sub h),hs⟩
 | .d (.lst ys),v,xs,h,e=>let ⟨a,vs,h1,h2,h3⟩:=RR.list hp h e;⟨a,vs,h1,.inl h2,h3⟩
 | .l m ys,v,xs,h,e=>let ⟨a,vs,h1,h2,h3⟩:=RR.list hp h e;⟨a,vs,h1,.inl h2,h3⟩
 | .d .non,_,_,_,e=>nomatch e
 | .d (.bl _),_,_,_,e=>nomatch e
 | .d (.int _),_,_,_,e=>nomatch e
 | .d (.str _),_,_,_,e=>nomatch e
 | .d .emp,_,_,_,e=>nomatch e
 | .d (.dct _ _),_,_,_,e=>nomatch e
theorem jf {α:Type}{f:List D->M α}{Q:α->Prop}{T:Exc->Prop}(w:cK (iz x >>= f) Q T):∃xs,iz x=.ok xs/\cK (f xs) Q T:=by
 cases q:iz x with
 | bad=>rw [q] at w;exact w.elim
 | ok xs=>rw [q] at w;exact ⟨xs,rfl,w⟩
 | exc z=>unfold iz at q;split at q <;> cases q
noncomputable def dY:List R->M R
 | [.d (.str z)]=>if z.length<=sizeLine then .ok (.d (.int z.length)) else .bad
 | [r]=>iz r >>= λxs=>.ok (.d (.int xs.length))
 | _=>.bad
theorem kC.one {He J H:Hp}(h:kC c He J H [r] vs):∃v,vs=[v]/\RR c He J H r v:=by obtain ⟨v,us,rfl,h1,h2⟩:=h;cases h2;exact ⟨v,rfl,h1⟩
theorem kC.two {He J H:Hp}{r r':R}{vs:List V}(h:kC c He J H [r,r'] vs):∃v v',vs=[v,v']/\RR c He J H r v/\RR c He J H r' v':=by obtain ⟨v,us,rfl,h1,v2,us2,rfl,h2,h3⟩:=h;cases h3;exact ⟨v,v2,rfl,h1,h2⟩
noncomputable def eU:List R->M R
 | [r]=>iz r >>= λxs=>.ok (.d (.tup xs))
 | _=>.bad
theorem AJ:Vd "tuple"=some (.type "tuple"):=by decide +kernel
theorem uf:Vd "list"=some (.type "list"):=by decide +kernel
noncomputable def yw:List R->M R
 | [r]=>iz r >>= λxs=>.ok (.l .fresh xs)
 | _=>.bad
noncomputable def bB (g:G R):G Bool:=λenv=>g env >>= λr=>match r with
 | .d (.bl k)=>.ok k
 | _=>.bad
theorem iS {f:R->R->M R}(ho:c6 X (Vz op) r) (hf:BD c r f) (ha:PD X c a ga) (hb:PD X c b gb) (hm:Vs op b=false:=by first | exact Ab _ | rfl):PB X c (.Compare a [op] [b] pos) (bB (g2 f ga gb)):=
 yJ (KZ ho ha hb hm) λσ H Q ⟨J,env,sr,w⟩=>by
  have w2:=aM w;refine two (k:=λu v H2=>r u v H2 λz H3=>∃k,z=.bl k/\Q k H3) (Q:=λz H3=>∃k,z=.bl k/\Q k H3) sr (aF w2 λr0 wr v J1 H1 e1 r1=>?_)
   λx y u v J2 H2 sr2 e2 r1 r2 q=>hf H H J2 H2 x y u v _ sr2.hp r1 r2 q
  split at wr
  ·cases r1;exact ⟨_,rfl,wr J1 H1 e1⟩
  ·exact wr.elim
def jt (g h:G Bool):G Bool:=λenv=>g env >>= λk=>if k=true then h env else .ok false
def iN (g h:G Bool):G Bool:=λenv=>g env >>= λk=>if k=true then .ok true else h env
def fh (g:G Bool):G Bool:=λenv=>g env >>= λk=>.ok (!k)
def Qn (X:Cx) (c:C) (e:UU) (g:G Bool):Prop:=PW X e (tB c g)
variable {t u:G Bool}{rest:List UU}
theorem Jg {X:Cx}{e:UU}{t t':TT}(h:PW X e t) (k:∀σ H Q,t' σ H Q->t σ H Q):PW X e t':=λwh TN s σ H Q I q=>h wh TN s σ H Q I (k σ H Q q)
noncomputable def l_ (g h:G R):G R:=λenv=>g env >>= λr=>match r with
 | .d (.bl true)=>h env
 | .d (.bl false)=>.ok (.d (.bl false))
 | _=>.bad
noncomputable def sZ (g h:G R):G R:=λenv=>g env >>= λr=>match r with
 | .d (.bl false)=>h env
 | .d (.bl true)=>.ok (.d (.bl true))
 | _=>.bad
noncomputable def IQ (g:G R):G R:=λenv=>g env >>= λr=>match r with
 | .d (.bl k)=>.ok (.d (.bl (!k)))
 | _=>.bad
end
section
variable {X:Cx}{c:C}{e a b tg:UU}{es:List UU}{ga gb g:G R}{pos:Pos}{st:WM}{rest:List WM}{t u:G O}{tb:G Bool}
def c5:G O:=λenv=>.ok (.nx env)
noncomputable def aI (t u:G O):G O:=λenv=>t env >>= λo=>match o with
 | .nx e=>u e
 | o=>.ok o
def kH (g:G R):G O:=λenv=>g env >>= λ_=>.ok (.nx env)
noncomputable def rF:R->M R
 | .d x=>.ok (.d x)
 | .l .fresh xs=>.ok (.l .fresh xs)
 | .l .own xs=>.ok (.l .fresh xs)
 | .l .bor _=>.bad
 | .mo ks vs=>.ok (.mf ks vs)
 | .mf ks vs=>.ok (.mf ks vs)
 | .mb _ _=>.bad
 | .ln xs=>.ok (.ln xs)
def bw (g:G R):G O:=λenv=>g env >>= λr=>rF r >>= λr=>.ok (.rt r)
theorem RR.rf {J H J1 H1:Hp}(hp:HI c J H):∀{r r':R}{v:V},RR c H J1 H1 r v->rF r=.ok r'->RF c J1 H1 r' v
 | .d x,r',v,h,e=>by cases e;exact h
 | .l .fresh xs,r',v,⟨a,vs,h1,h2,h3,h4,h5⟩,e=>by cases e;exact ⟨a,vs,h1,h2,h3,hp.ent.free h4,h5⟩
 | .l .own xs,r',v,⟨a,vs,h1,h2,h3,h4,h5⟩,e=>by cases e;exact ⟨a,vs,h1,h2,h3,h4,h5⟩
 | .l .bor _,_,_,_,e=>nomatch e
 | .mo _ _,_,v,⟨a,h1,h2,h3,h4⟩,e=>by cases e;exact ⟨a,h1,h2,h3,h4⟩
 | .mb _ _,_,_,_,e=>nomatch e
 | .mf _ _,_,v,⟨a,h1,h2,h3,h4⟩,e=>by cases e;exact ⟨a,h1,h2,h3,hp.ent.free h4⟩
 | .ln _,_,v,⟨a,vs,h1,h2,h3,h4,h5⟩,e=>by cases e;exact ⟨a,vs,h1,h2,h3,hp.ent.free h4,h5.mono (aS.refl _) λ_ h=>hp.ent.free h⟩
def bL (b:G Bool) (t u:G O):G O:=λenv=>b env >>= λk=>if k=true then t env else u env
noncomputable def toS:R->M S
 | .d x=>.ok (.d x)
 | .l .fresh xs=>.ok (.own xs)
 | .l .bor xs=>.ok (.bor xs)
 | .l .own _=>.bad
 | .mb ks vs=>.ok (.db ks vs)
 | .mf ks vs=>.ok (.dk ks vs)
 | .mo _ _=>.bad
 | .ln xs=>.ok (.ow2 xs)
theorem cJ {α:Type}{l:List (Option α)}{i j:Nat}{x y:α}(h:(l.set i (some x))[j]?=some (some y)):(j=i/\i < l.length/\y=x)\/(j≠i/\l[j]?=some (some y)):=by
 by_cases e:j=i
 ·subst e;have hj:j < l.length:=by have:=(Uy.mp h).1;simpa using this
  rw [U8 hj] at h;cases h;exact .inl ⟨rfl,hj,rfl⟩
 ·rw [UP (VS e)] at h;exact .inr ⟨e,h⟩
theorem SR.setD {J H:Hp}{σ:L2.St}{env:Ev}(sr:SR c J H σ env){i:Nat}{x:S}{v:V}(h:sL c J H x v) (hx:∀xs,x≠mS xs):SR c J H (σ.set i (some v)) (env.set i (some x)):=by
 refine ⟨sr.hp,by simpa using sr.len,λj y q=>?_,λj k xs ys w hjk q1 q2 q3 q4=>?_,sr.sp2.keep λk xs q=>?_⟩
 ·rcases cJ q with ⟨rfl,hl,rfl⟩ | ⟨hj,q⟩
  ·exact ⟨v,by rw [U8 (by rw [<-sr.len];exact hl)],h⟩
  ·obtain ⟨w,h1,h2⟩:=sr.at_ j y q;exact ⟨w,by rw [UP (VS hj)];exact h1,h2⟩
 ·rcases cJ q1 with ⟨rfl,hl,e⟩ | ⟨hj,q1⟩
  ·exact hx xs e.symm
  ·rcases cJ q2 with ⟨rfl,hl,e⟩ | ⟨hk,q2⟩
   ·exact hx ys e.symm
   ·rw [UP (VS hj)] at q3;rw [UP (VS hk)] at q4;exact sr.sep j k xs ys w hjk q1 q2 q3 q4
 ·rcases cJ q with ⟨_,_,e⟩ | ⟨hk,q⟩
  ·exact (hx (.nst xs) e.symm).elim
  ·exact ⟨⟨xs,q⟩,qO hk⟩
theorem SR.setM {J He:Hp}{σ:L2.St}{env:Ev}(sr:SR c J He σ env){J1 H1:Hp}(e1:Ext J He J1 H1){i:Nat}{y:Mn}{p:UA}(h3:He p=none) (h:sL c J1 H1 (mS y) (.ref p)) (hn:∀xs,y=.nst xs->∀vs,H1 p=some (.lst vs)->∀u∈vs,∃b,u=.ref b/\He b=none:=by exact λ_ z=>nomatch z):SR c J1 H1 (σ.set i (some (.ref p))) (env.set i (some (mS y))):=by
 have sr1:=sr.ext e1;have old:∀(j:Nat) (ys:Mn),env[j]?=some (some (mS ys))->σ[j]?≠some (some (.ref p)):=λj ys qj z=>by obtain ⟨a,k1,k2,_⟩:=sr.mine qj;rw [z] at k1;cases k1;exact k2 h3
 have new:∀(j:Nat) (xs ys:List D),i < env.length->j≠i->mS y=.ow2 xs->env[j]?=some (some (.ow2 ys))->∀u∈j6 H1 (σ.set i (some (.ref p))) i,u∉j6 H1 (σ.set i (some (.ref p))) j:=λj xs ys hl hj e q u hu hv=>by
  have hy:y=.nst xs:=by cases y <;> cases e;rfl
  subst hy;obtain ⟨_,vs,rfl',k2,_⟩:=h;cases rfl';rw [iP (U8 (by rw [<-sr.len];exact hl)) k2] at hu;obtain ⟨b,rfl,hb⟩:=hn xs rfl vs k2 u hu;obtain ⟨p',ws,m1,m2,_,_,m3,m4⟩:=sr.nst q;rw [qO hj,iP m1 (e1.h _ _ m2)] at hv;obtain ⟨b',_,e',m5,_⟩:=m3.mem hv;cases e';rw [sr.hp.sub _ _ m5] at hb;cases hb
 refine ⟨sr1.hp,by simpa using sr.len,λj y q=>?_,λj k ys zs w hjk q1 q2 q3 q4=>?_,λj k ys zs hjk q1 q2 u hu=>?_⟩
 ·rcases cJ q with ⟨rfl,hl,rfl⟩ | ⟨hj,q⟩
  ·exact ⟨.ref p,by rw [U8 (by rw [<-sr.len];exact hl)],h⟩
  ·obtain ⟨w,k1,k2⟩:=sr1.at_ j y q;exact ⟨w,by rw [UP (VS hj)];exact k1,k2⟩
 ·rcases cJ q1 with ⟨rfl,hl,e⟩ | ⟨hj,q1'⟩
  ·rcases cJ q2 with ⟨rfl,_,_⟩ | ⟨hk,q2⟩
   ·exact hjk rfl
   ·rw [U8 (by rw [<-sr.len];exact hl)] at q3;cases q3;rw [UP (VS hk)] at q4;exact old k zs q2 q4
  ·rw [UP (VS hj)] at q3;rcases cJ q2 with ⟨rfl,hl,e⟩ | ⟨hk,q2⟩
   ·rw [U8 (by rw [<-sr.len];exact hl)] at q4;cases q4;exact old j ys q1' q3
   ·rw [UP (VS hk)] at q4;exact sr.sep j k ys zs w hjk q1' q2 q3 q4
 ·rcases cJ q1 with ⟨rfl,hl,e⟩ | ⟨hj,q1'⟩
  ·rcases cJ q2 with ⟨rfl,_,_⟩ | ⟨hk,q2⟩
   ·exact (hjk rfl).elim
   ·exact new k ys zs hl hk e.symm q2 u hu
  ·rcases cJ q2 with ⟨rfl,hl,e⟩ | ⟨hk,q2⟩
   ·exact λhv=>new j zs ys hl hj e.symm q1' u hv hu
   ·rw [qO hj] at hu;rw [qO hk];exact sr1.sp2 j k ys zs hjk q1' q2 u hu
theorem SR.set {J He:Hp}{σ:L2.St}{env:Ev}(sr:SR c J He σ env){J1 H1:Hp}(e1:Ext J He J1 H1) (h:RR c He J1 H1 r v) (q:toS r=.ok x):SR c J1 H1 (σ.set i (some v)) (env.set i (some x)):=by
 have sr1:=sr.ext e1;cases r with
 | d y=>cases q;exact sr1.setD h (λx z=>by cases x <;> cases z)
 | mb _ _=>cases q;exact sr1.setD h (λx z=>by cases x <;> cases z)
 | mf ks vs=>cases q;obtain ⟨p,rfl,h1,h2,h3⟩:=h;exact sr.setM (y:=.inr (ks,vs)) e1 h3 ⟨p,rfl,h1,h2,sr.hp.ent.free h3⟩
 | mo _ _=>cases q
 | ln xs=>
  cases q;obtain ⟨p,vs,rfl,h1,h2,h3,h4⟩:=h;refine sr.setM (y:=.nst xs) e1 h3 ⟨p,vs,rfl,h1,h2,sr.hp.ent.free h3,h4.mono (aS.refl _) λb hb=>⟨sr.hp.ent.free hb,sr.hp.entJ.free (sr.hp.sub.free hb)⟩⟩ λ_ _ ws q u hu=>?_;rw [h1] at q;cases q;obtain ⟨b,_,e,_,hb⟩:=h4.mem hu;exact ⟨b,e,hb⟩
 | l m xs=>
  cases m with
  | own=>cases q
  | bor=>cases q;exact sr1.setD h (λx z=>by cases x <;> cases z)
  | fresh=>
   cases q;obtain ⟨p,vs,rfl,h1,h2,h3,h4⟩:=h;exact sr.setM (y:=.inl xs) e1 h3 ⟨p,vs,rfl,h1,h2,sr.hp.ent.free h3,h4⟩
theorem wF {α:Type}{f:S->M α}{Q:α->Prop}{T:Exc->Prop}(w:cK (toS x >>= f) Q T):∃d,toS x=.ok d/\cK (f d) Q T:=by
 cases q:toS x with
 | bad=>rw [q] at w;exact w.elim
 | ok xs=>rw [q] at w;exact ⟨xs,rfl,w⟩
 | exc z=>unfold toS at q;split at q <;> cases q
def bh (i:Nat) (g:G R):G O:=λenv=>g env >>= λr=>toS r >>= λx=>.ok (.nx (env.set i (some x)))
abbrev GT:=D->Ev->M Ev
def KO (env:Ev) (σ:L2.St) (e:Ev) (σ':L2.St):Prop:=∀(j:Nat) (xs:Mn),e[j]?=some (some (mS xs))->env[j]?=some (some (mS xs))/\σ'[j]?=σ[j]?
theorem KO.refl:KO env σ env σ:=λ_ _ h=>⟨h,rfl⟩
theorem KO.trans (a:KO env σ e1 s1) (b:KO e1 s1 e2 s2):KO env σ e2 s2:=λj xs h=>by obtain ⟨h1,h2⟩:=b j xs h;obtain ⟨h3,h4⟩:=a j xs h1;exact ⟨h3,h2.trans h4⟩
def tT (c:C) (g:GT):TG:=λv σ H Q=>∃J env d,SR c J H σ env/\Rep c.K J d v/\cK (g d env) (λe=>∀σ',SR c J H σ' e->KO env σ e σ'->Q σ' H) c.T
def DT (X:Cx) (c:C) (tg:UU) (g:GT):Prop:=PG X tg (tT c g)
abbrev tY:=List D->Ev->M Ev
def Qz (c:C) (g:tY):wO:=λvs σ H Q=>∃J env ds,SR c J H σ env/\aK c.K J ds vs/\cK (g ds env) (λe=>∀σ',SR c J H σ' e->KO env σ e σ'->Q σ' H) c.T
def Pq (X:Cx) (c:C) (tgs:List UU) (g:tY):Prop:=yT X tgs (Qz c g)
theorem Jd {t t':TG}(h:PG X e t) (k:∀v σ H Q,t' v σ H Q->t v σ H Q):PG X e t':=λTN s σ H v u Q I r q=>h TN s σ H v u Q I r (k v σ H Q q)
theorem Fd {X:Cx}{e:List UU}{t t':wO}(h:yT X e t) (k:∀v σ H Q,t' v σ H Q->t v σ H Q):yT X e t':=λTN s σ H vs us Q I r q=>h TN s σ H vs us Q I r (k vs σ H Q q)
def aA (i:Nat):GT:=λd env=>.ok (env.set i (some (.d d)))
noncomputable def dF:tY:=λds env=>match ds with
 | []=>.ok env
 | _=>.bad
noncomputable def bz (t:GT) (u:tY):tY:=λds env=>match ds with
 | d::r=>t d env >>= λe=>u r e
 | []=>.bad
noncomputable def dg (n:Nat) (u:tY):GT:=λd env=>match d with
 | .tup ds=>if ds.length=n then u ds env else .bad
 | _=>.bad
def sW (t:GT) (g:G R):G O:=λenv=>g env >>= λr=>toD r >>= λd=>t d env >>= λe=>.ok (.nx e)
theorem KC {t:GT}(h:PD X c e g) (ht:DT X c tg t)
  (hq:PS X (.Assign [tg] e pos) (Ii (tD c g) (tT c t))):LH X c (.Assign [tg] e pos) (sW t g):=gr hq λE σ H ⟨J,env,sr,w⟩=>by refine ⟨J,env,sr,aF (aM w) λr wr v J1 H1 e1 r1=>?_⟩;obtain ⟨d,q,wr⟩:=jg wr;obtain ⟨J1',e1',s1,rd⟩:=freeze e1 r1 q;refine ⟨J1',env,d,sr.ext e1',rd,aF (aM wr) λe2 w2 σ' sr' _=>?_⟩;exact w2 σ' J1' H1 e1'.j sr'
noncomputable def Walk (c:C) (It:It) (ds:List D) (J1:Hp) (U:Hp->Hp->Prop):Prop:=∀(i:Nat) (J H:Hp),HI c J H->U J H->
 (ds.length<=i->It.stop i H)/\∀d,ds[i]?=some d->It.go i H/\∀x H2,It.yld i H x H2->∃J2,Ext J H J2 H2/\Rep c.K J2 d x
noncomputable def tI (c:C) (g:G (List D)):TI:=λσ H Q=>∃J env,SR c J H σ env/\cK (g env) (λds=>∀It J1 H1,Ext J H J1 H1->Walk c It ds J1 (λJ' _=>aS J1 J')->Q It H1) c.T
def O_ (X:Cx) (c:C) (tg TV:UU) (g:G (List D)):Prop:=PI X tg TV (tI c g)
theorem qR {X:Cx}{tg it:UU}{t t':TI}(h:PI X tg it t) (k:∀σ H Q,t' σ H Q->t σ H Q):PI X tg it t':=λTN s σ H Q I q=>h TN s σ H Q I (k σ H Q q)
noncomputable def eE (t:GT) (u:G O):List D->Ev->M O
 | [],env=>.ok (.nx env)
 | d::ds,env=>t d env >>= λe=>u e >>= λo=>match o with
  | .nx e=>eE t u ds e
  | .ct e=>eE t u ds e
  | .bk e=>.ok (.nx e)
  | .rt r=>.ok (.rt r)
def bV (g:G (List D)) (t:GT) (u:G O):G O:=λenv=>g env >>= λds=>eE t u ds env
noncomputable def QH (g:G R):G (List D):=λenv=>g env >>= λr=>match r with
 | .d (.tup xs)=>.ok xs
 | _=>.bad
theorem qA {J1:Hp}{a:UA}{vs:List V}{ds:List D}(h:cg c.K J1 a vs\/cg c.K c.H0 a vs) (hs:aK c.K J1 ds vs):Walk c (Ir c.K a) ds J1 (λJ' _=>aS J1 J'):=by intro i J H hp u;have h':cg c.K H a vs:=h.elim (λh=>hp.sub.seq (u.seq h)) λh=>hp.ent.seq h;refine ⟨λhl=>⟨vs,h',by rw [<-hs.length];exact hl⟩,λd hd=>?_⟩;obtain ⟨v,h1,h2⟩:=hs.get hd;refine ⟨⟨vs,v,h',h1⟩,λx H2 ⟨e,hy⟩=>?_⟩;subst e;have:=hy vs h';rw [h1] at this;cases this;exact ⟨J,Ext.refl hp.sub,h2.mono u⟩
def fB (lo:Int) (n:Nat):List D:=(Ue n).map λ(k:Nat)=>.int (lo + (k:Int))
theorem DE {J1:Hp}{lo:Int}{n:Nat}{Ut:Hp->Hp->Prop}:Walk c (Iu lo n) (fB lo n) J1 Ut:=by
 intro i J H hp u;refine ⟨λhl=>(show n<=i by simpa [fB] using hl),λd hd=>?_⟩;have hi:i < n:=by have:=(Uy.mp hd).1;simpa [fB] using this
 have hd':d=.int (lo + i):=by unfold fB at hd;rw [UK,Yd hi] at hd;exact (Vl hd).symm
 subst hd';exact ⟨hi,λx H2 ⟨e,hx⟩=>by subst e hx;exact ⟨J,Ext.refl hp.sub,.int _⟩⟩
noncomputable def bQ (gs:G (List R)):G (List D):=λenv=>gs env >>= λrs=>match rs with
 | [.d (.int j)]=>if below 4611686018427387904 j then .ok (fB 0 j.toNat) else .bad
 | _=>.bad
noncomputable def Qw (c:C) (g:G (List D)):TI:=λσ H Q=>∃J env,SR c J H σ env/\cK (g env) (λds=>∀It J1 H1,Ext J H J1 H1->Walk c It ds J1 (λJ' H'=>aS J1 J'/\aS H1 H')->Q It H1) c.T
def O9 (X:Cx) (c:C) (tg TV:UU) (g:G (List D)):Prop:=PI X tg TV (Qw c g)
end
section
variable {X:Cx}{c:C}{e a b tg:UU}{es:List UU}{ga gb g:G R}{pos:Pos}
theorem SR.updM {J H:Hp}{σ:L2.St}{env:Ev}(sr:SR c J H σ env){i:Nat}{x y:Mn}{p:UA}{o:HO}(hi:env[i]?=some (some (mS x))) (hs:σ[i]?=some (some (.ref p))) (hJ:J p=none) (h0:c.H0 p=none)
  (h:sL c J (L2.upd H p o) (mS y) (.ref p)) (hy:∀xs,y≠.nst xs:=by exact λ_ z=>nomatch z):SR c J (L2.upd H p o) σ (env.set i (some (mS y))):=by
 refine ⟨⟨λb o q=>?_,λb o q=>?_,sr.hp.entJ,sr.hp.frz⟩,by simpa using sr.len,λj y q=>?_,λj k ys zs w hjk q1 q2 q3 q4=>?_,sr.sp2.keep λk xs q=>?_⟩
 ·have:b≠p:=λz=>by rw [z,hJ] at q;cases q
  rw [aV this];exact sr.hp.sub b o q
 ·have:b≠p:=λz=>by rw [z,h0] at q;cases q
  rw [aV this];exact sr.hp.ent b o q
 ·rcases cJ q with ⟨rfl,hl,rfl⟩ | ⟨hj,q⟩
  ·exact ⟨.ref p,hs,h⟩
  ·obtain ⟨w,k1,k2⟩:=sr.at_ j y q;refine ⟨w,k1,?_⟩;have hne:∀(z:Mn) p',y=mS z->w=.ref p'->p'≠p:=λz p' e ew ep=>sr.sep i j x z (.ref p) (VS hj) hi (e▸q) hs (ep▸ew▸k1);cases y with
   | d x=>exact k2
   | bor zs=>exact k2
   | db _ _=>exact k2
   | fn _=>exact k2
   | dk ks zs=>
    obtain ⟨p',rfl,⟨us,ws,ep,m1,mr⟩,m2⟩:=k2;exact ⟨p',rfl,⟨us,ws,ep,by rw [aV (hne (.inr (ks,zs)) p' rfl rfl)];exact m1,mr⟩,m2⟩
   | own zs=>
    obtain ⟨p',us,rfl,m1,m2,m3,m4⟩:=k2;exact ⟨p',us,rfl,by rw [aV (hne (.inl zs) p' rfl rfl)];exact m1,m2,m3,m4⟩
   | ow2 zs=>
    obtain ⟨p',us,rfl,m1,m2,m3,m4⟩:=k2;exact ⟨p',us,rfl,by rw [aV (hne (.nst zs) p' rfl rfl)];exact m1,m2,m3,m4⟩
 ·have f:∀(k:Nat) (ys:Mn),(env.set i (some (mS y)))[k]?=some (some (mS ys))->∃ys',env[k]?=some (some (mS ys')):=λk ys q=>by
   rcases cJ q with ⟨rfl,_,_⟩ | ⟨_,q⟩
   ·exact ⟨x,hi⟩
   ·exact ⟨ys,q⟩
  obtain ⟨ys',r1⟩:=f j ys q1;obtain ⟨zs',r2⟩:=f k zs q2;exact sr.sep j k ys' zs' w hjk r1 r2 q3 q4
 ·rcases cJ q with ⟨rfl,_,e⟩ | ⟨hk,q⟩
  ·exact (hy xs (by cases y <;> cases e;rfl)).elim
  ·obtain ⟨p',vs,m1,m2,_,_,_,m3⟩:=sr.nst q;have hne:p'≠p:=λe=>sr.sep i k x (.nst xs) (.ref p) (VS hk) hi q hs (e▸m1);exact ⟨⟨xs,q⟩,(iP m1 (by rw [aV hne];exact m2)).trans m3.symm⟩
theorem SR.upd {J H:Hp}{env:Ev}(sr:SR c J H σ env) (hi:env[i]?=some (some (.own xs))) (hs:σ[i]?=some (some (.ref p))) (hH:H p=some (.lst vs)) (hJ:J p=none) (h0:c.H0 p=none)
 (h:aK c.K J xs' vs'):SR c J (L2.upd H p (.lst vs')) σ (env.set i (some (.own xs'))):=sr.updM (x:=.inl xs) (y:=.inl xs') hi hs hJ h0 ⟨p,vs',rfl,bO,hJ,h0,h⟩
noncomputable def eX (i:Nat) (g:G R):G O:=λenv=>match env[i]? with
 | some (some (.own xs))=>g env >>= λr=>toD r >>= λd=>if xs.length < sizeLine then .ok (.nx (env.set i (some (.own (xs++[d]))))) else .bad
 | _=>.bad
noncomputable def gV:R->S
 | .d x=>.d x
 | .l _ xs=>.bor xs
 | .mo ks vs=>.db ks vs
 | .mb ks vs=>.db ks vs
 | .mf ks vs=>.db ks vs
 | .ln xs=>.bor xs
noncomputable def mG (K:T5) (J H:Hp):List S->List V->Prop
 | [],vs=>vs=[]
 | s::ss,vs=>∃v us,vs=v::us/\(match s with
  | .d x=>Rep K J x v
  | .bor xs=>∃a ws,v=.ref a/\cg K H a ws/\aK K J xs ws
  | .db ks ws=>∃a,v=.ref a/\eK K J H a ks ws
  | .fn x=>∃f,v=.ref f/\U1 K UL x=some (some (.ref f))
  | _=>False)/\mG K J H ss us
theorem mG.length {K:T5}{J H:Hp}:∀{ss:List S}{vs:List V},mG K J H ss vs->vs.length=ss.length
 | [],_,h=>by cases h;rfl
 | _::_,_,⟨_,_,h,_,h2⟩=>by subst h;exact congrArg (· + 1) h2.length
theorem mG.get {K:T5}{J H:Hp}:∀{ss:List S}{vs:List V}{i:Nat}{s:S},mG K J H ss vs->ss[i]?=some s->∃v,vs[i]?=some v/\(match s with
  | .d x=>Rep K J x v
  | .bor xs=>∃a ws,v=.ref a/\cg K H a ws/\aK K J xs ws
  | .db ks ws=>∃a,v=.ref a/\eK K J H a ks ws
  | .fn x=>∃f,v=.ref f/\U1 K UL x=some (some (.ref f))
  | _=>False)
 | [],_,_,_,_,e=>by simp at e
 | _::_,_,0,_,⟨v,us,h,h1,h2⟩,e=>by simp at e;subst e;subst h;exact ⟨v,rfl,h1⟩
 | _::_,_,i + 1,s,⟨v,us,h,h1,h2⟩,e=>by subst h;obtain ⟨v,k1,k2⟩:=mG.get (i:=i) (s:=s) h2 (by simpa using e);exact ⟨v,by simpa using k1,k2⟩
noncomputable def FR (K:T5) (H J' H':Hp):R->V->Prop
 | .d x,v=>Rep K J' x v
 | .l _ xs,v=>∃a vs,v=.ref a/\H' a=some (.lst vs)/\J' a=none/\H a=none/\aK K J' xs vs
 | .mf ks vs,v=>∃a,v=.ref a/\eK K J' H' a ks vs/\J' a=none/\H a=none
 | .ln xs,v=>∃a vs,v=.ref a/\H' a=some (.lst vs)/\J' a=none/\H a=none/\NR K J' (λb=>H b=none) xs vs
 | _,_=>False
noncomputable def qw (K:T5) (n:Nat) (F:List S->M R):Sp:=λvs H Q _=>∃J as,aS J H/\as.length=n/\mG K J H as vs/\cK (F as) (λr=>∀v J' H',Ext J H J' H'->FR K H J' H' r v->Q v H') (λ_=>False)
noncomputable def fin:M O->M R
 | .ok (.rt r)=>.ok r
 | .ok (.nx _)=>.ok (.d .non)
 | .exc x=>.exc x
 | _=>.bad
def a_ (N:List Str) (as:List S):Ev:=as.map some++VL (N.length - as.length) none
theorem xU {N:List Str}{as:List S}{i:Nat}{x:S}(h:(a_ N as)[i]?=some (some x)):as[i]?=some x:=by
 unfold a_ at h;by_cases hi:i < as.length
 ·rw [Wc (by simpa using hi),UK] at h;cases q:as[i]? with
  | none=>rw [q] at h;cases h
  | some y=>rw [q] at h;cases h;rfl
 ·rw [VA (by simpa using hi),Yj] at h;split at h <;> cases h
theorem Ih {N:List Str}{vs:List V}{i:Nat}{v:V}(h:vs[i]?=some v):(L2.start N vs)[i]?=some (some v):=by unfold L2.start;have hi:i < vs.length:=(Uy.mp h).1;rw [Wc (by simpa using hi),UK,h];rfl
theorem Ie {K:T5}{J H:Hp}{T:Exc->Prop}{N:List Str}{as:List S}{vs:List V}(hs:aS J H) (h:mG K J H as vs):SR ⟨K,H,J,T⟩ J H (L2.start N vs) (a_ N as):=by
 have own:∀(i:Nat) (xs:Mn),(a_ N as)[i]?≠some (some (mS xs)):=λi xs q=>by obtain ⟨v,_,k⟩:=h.get (xU q);cases xs <;> exact k
 refine ⟨⟨hs,aS.refl H,aS.refl J,λ_ _ q=>q⟩,?_,λi x q=>?_,λi j xs ys v _ q=>absurd q (own i xs),λi j xs ys _ q=>absurd q (own i (.nst xs))⟩
 ·unfold a_ L2.start;rw [Uo,Uo,T8,T8,Wi,Wi,h.length]
 ·obtain ⟨v,k1,k2⟩:=h.get (xU q);refine ⟨v,Ih k1,?_⟩;cases x with
  | d y=>exact k2
  | own y=>exact k2.elim
  | bor y=>exact k2
  | dk _ _=>exact k2.elim
  | db _ _=>exact k2
  | fn _=>exact k2
  | ow2 _=>exact k2.elim
abbrev Er (P:Uv) (w:US) (K:T5) (mg:Str->Option T7) (base:VJ) (N:List Str) (TX:Str) (sc:Xy) (f:UA) (cd:T7) (A:UW) (outer:List Env) (s:T_) (H:Hp) (E:XK):Cx:=(sP oH P w K mg base N TX sc f cd A outer s H E).nox
theorem Ex {P:Uv}{w:US}{K:T5}{mg:Str->Option T7}{base:VJ}{x TX:Str}{st:WM}{f:UA}{fd:UO}{N ps:List Str}{k:Nat}{Fm:List S->M R}(F:oJ K x TX st f fd) (Sc:ie N ps (bH st)){gB:G O}
  (hb:∀(cdv:T7) (A:UW) (outer:List Env) (s:T_) (H:Hp) (E:XK) (J:Hp) (T:Exc->Prop),dX k (A.deeper (ZS TX (bH st) s.heap.objs.size f cdv))->
   jF (Er P w K mg base N TX (bH st) f cdv A outer s H E) (c_ st) (tW ⟨K,H,J,T⟩ gB))
  (hF:∀as r,as.length=ps.length->Fm as=.ok r->fin (gB (a_ N as))=.ok r):jH P w K mg base oH (k + 1) f fd ps (qw K ps.length Fm):=by
 refine F.ok Sc (λvs H Q E h=>?_) (λcdv A outer s H vs Q E hr h=>?_)
 ·obtain ⟨J,as,h1,h2,h3,h4⟩:=h;rw [h3.length,h2]
 ·obtain ⟨J,as,h1,h2,h3,h4⟩:=h;refine ⟨_,hb cdv A outer s H E J (λ_=>False) hr,J,a_ N as,Ie h1 h3,?_⟩;cases q:Fm as with
  | bad=>rw [q] at h4;exact h4.elim
  | exc x=>rw [q] at h4;exact h4.elim
  | ok r=>
   rw [q] at h4;have z:=hF as r h2 q;have ext:∀{J' H':Hp},HI ⟨K,H,J,λ_=>False⟩ J' H'->Ext J H J' H':=λhp=>⟨hp.ent,hp.entJ,hp.sub,hp.frz⟩;cases qg:gB (a_ N as) with
   | bad=>rw [qg] at z;cases z
   | exc x=>rw [qg] at z;cases z
   | ok o=>
    rw [qg] at z;cases o with
    | bk _=>cases z
    | ct _=>cases z
    | nx env=>cases z;exact λσ' J' H' _ sr=>h4 .non J' H' (ext sr.hp) .non
    | rt r'=>
     cases z;exact λv J' H' _ hp rf=>h4 v J' H' (ext hp) (by
      cases r with
      | d x=>exact rf
      | l m xs=>exact rf
      | mo _ _=>exact rf
      | mf _ _=>exact rf
      | ln _=>exact rf
      | mb _ _=>exact rf)
theorem Ml {P:Uv}{w:US}{K:T5}{mg:Str->Option T7}{base:VJ}{x TX:Str}{st:WM}{f:UA}{fd:UO}{N ps:List Str}{k:Nat}{Fm:List S->M R}(F:oJ K x TX st f fd) (Sc:ie N ps (bH st)){gB:G O}
  (hb:∀(cdv:T7) (A:UW) (outer:List Env) (s:T_) (H:Hp) (E:XK) (J:Hp) (T:Exc->Prop),dX k (A.deeper (ZS TX (bH st) s.heap.objs.size f cdv))->
   LI (Er P w K mg base N TX (bH st) f cdv A outer s H E) ⟨K,H,J,T⟩ (c_ st) gB)
  (hF:∀as r,as.length=ps.length->Fm as=.ok r->fin (gB (a_ N as))=.ok r):jH P w K mg base oH (k + 1) f fd ps (qw K ps.length Fm):=Ex F Sc (λcdv A outer s H E J T hr=>qd (hb cdv A outer s H E J T hr) λ_ _ _ q=>Dy q) hF
noncomputable def nh:R->R
 | .d x=>.d x
 | .l _ xs=>.l .fresh xs
 | .mo ks vs=>.mo ks vs
 | .mb ks vs=>.mb ks vs
 | .mf ks vs=>.mf ks vs
 | .ln xs=>.ln xs
noncomputable def aT (n:Nat) (F:List S->M R):List R->M R:=λrs=>if rs.length=n then (match F (rs.map gV) with
 | .ok r=>.ok (nh r)
 | _=>.bad) else .bad
theorem kC.args {He J H:Hp}(hp:HI c J H):∀{rs:List R}{vs:List V},kC c He J H rs vs->mG c.K J H (rs.map gV) vs
 | [],_,h=>h
 | r::rs,_,⟨v,us,h,h1,h2⟩=>by
  refine ⟨v,us,h,?_,kC.args hp h2⟩;cases r with
  | d x=>exact h1
  | l m xs=>exact RR.list hp h1 rfl
  | mo _ _=>obtain ⟨a,h1,h2,_⟩:=h1;exact ⟨a,h1,h2⟩
  | mb _ _=>obtain ⟨a,h1,h2⟩:=h1;exact ⟨a,h1,h2.mono (aS.refl _) hp.ent⟩
  | mf _ _=>obtain ⟨a,h1,h2,_⟩:=h1;exact ⟨a,h1,h2⟩
  | ln _=>obtain ⟨a,vs,h1,h2,_,_,h5⟩:=h1;exact ⟨a,vs,h1,.inl (.inl h2),h5.reps⟩
theorem Jk {F:List S->M R}{J H J1 H1:Hp}{Q:VK}{as:List S}{T:Exc->Prop}(hT:c.K=X.K) (e1:Ext J H J1 H1) (ar:mG c.K J1 H1 as vs) (hl:as.length=n)
 (wr:cK (match F as with
 | .ok r=>.ok (nh r)
 | _=>.bad) (λr=>∀v J' H',Ext J H J' H'->RR c H J' H' r v->Q v H') T):qw X.K n F (vs++[]) H1 Q E0:=by
 rw [hT] at ar;refine ⟨J1,as,e1.sub,hl,by rw [WG];exact ar,?_⟩;cases q:F as with
 | bad=>rw [q] at wr;exact wr
 | exc x=>rw [q] at wr;exact wr
 | ok r=>
  rw [q] at wr;intro v J' H' e2 fr;refine wr v J' H' (e1.trans e2) ?_;cases r with
  | d y=>exact (show Rep c.K J' y v from hT▸fr)
  | mo _ _=>exact fr.elim
  | mb _ _=>exact fr.elim
  | mf _ _=>obtain ⟨a,h1,h2,h3,h4⟩:=fr;exact ⟨a,h1,hT▸h2,h3,e1.h.free h4⟩
  | ln _=>obtain ⟨a,us,h1,h2,h3,h4,h5⟩:=fr;exact ⟨a,us,h1,h2,h3,e1.h.free h4,hT▸h5.mono (aS.refl _) λ_ h=>e1.h.free h⟩
  | l m ys=>
   obtain ⟨a,us,h1,h2,h3,h4,h5⟩:=fr;exact ⟨a,us,h1,h2,h3,e1.h.free h4,hT▸h5⟩
theorem zf {n:Nat}{F:List S->M R}{gs:G (List R)}(hT:c.K=X.K):∀σ H Q,tD c (gN (aT n F) gs) σ H Q->Jo (qw X.K n F) [] E0 (tA c gs) σ H Q:=λσ H Q ⟨J,env,sr,w⟩=>by
 refine ⟨J,env,sr,aF (aM w) λrs wr vs J1 H1 e1 r1=>?_⟩;unfold aT at wr;split at wr
 ·rename_i hl;exact Jk hT e1 (r1.args (sr.hp.ext e1)) (by simpa using hl) wr
 ·exact wr.elim
theorem KH {F:List S->M R}{gs:G (List R)}(G:jH X.prog X.w X.K X.mg X.base oH k f fd ps (qw X.K n F)) (hr:dX k X.A) (hm:X.mg x=some (.ref f)) (hk:Xs X.K (.ref f)=true)
 (hb:Binds X.K fd ps []) (ha:DS X c (e::es) gs) (hT:c.K=X.K:=by rfl) (hg:Gl X x:=by rfl) (hdb:(x == ("__debug__":Str))=false:=by decide) (he:Uj (e::es) X.env=(false,eval e X.env)::Uj es X.env:=by rfl)
 (hpl:(Vx pos (Uj es X.env)).any (·.1)=false:=by rfl):PD X c (.Call (.Name x p) (e::es) [] pos) (gN (aT n F) gs):=
 gq (BN (E:=E0) G hr hg hm hk hb .nil Df ha hdb he hpl) (zf hT)
end
noncomputable def dM (cells:List (Str×UA)):List (Str×Ws)->List (Str×UA)->Option (List (Str×UA))
 | [],cs=>some cs
 | (n,k)::r,cs=>if k == .free then (match cells.lookup n with
  | some a=>dM cells r ((n,a)::cs)
  | none=>none) else dM cells r cs
theorem mJ {env:Env}:∀(names:List (Str×Ws)) (cs cl:List (Str×UA)),dM env.cells names cs=some cl->
  (forIn names cs λ(x:Str×Ws) (r:List (Str×UA))=>(if (x.2 == .free)=true then do let a <-cellOf env x.1;pure (WI ((x.1,a)::r)) else pure (WI r):Sem (ForInStep (List (Str×UA)))))=(pure cl:Sem (List (Str×UA)))
 | [],cs,cl,h=>by cases h;rfl
 | (n,k)::r,cs,cl,h=>by
  unfold dM at h;rw [List.forIn_cons];cases hk:(k == Vt) with
  | true=>
   rw [hk,if_pos rfl] at h;cases hc:env.cells.lookup n with
   | none=>rw [hc] at h;cases h
   | some a=>
    rw [hc] at h;have e:cellOf env n=pure a:=by unfold cellOf;rw [hc]
    simp only [hk,if_true,e];exact mJ r ((n,a)::cs) cl h
  | false=>
   rw [hk,if_neg (by decide)] at h;simp only [hk];exact mJ r cs cl h
theorem yl {TM:Xy}{env:Env}{cl:List (Str×UA)}(h:dM env.cells TM.names []=some cl):closureFor TM env=pure cl:=by have q:=mJ (env:=env) TM.names [] cl h;unfold closureFor;show ((forIn TM.names [] λ(x:Str×Ws) (r:List (Str×UA))=>(if (x.2 == .free)=true then do let a <-cellOf env x.1;pure (WI ((x.1,a)::r)) else pure (WI r):Sem (ForInStep (List (Str×UA))))) >>= λz=>pure z)=pure cl;rw [q];rfl
theorem g5 {cells:List (Str×UA)}:∀(names:List (Str×Ws)) (cs cl:List (Str×UA)),dM cells names cs=some cl->(∀x c,cs.lookup x=some c->cells.lookup x=some c)->
  (∀x c,cl.lookup x=some c->cells.lookup x=some c)/\(∀x,((cs.lookup x).isSome=true\/(x,Vt)∈names)->(cl.lookup x).isSome=true)
 | [],cs,cl,h,k=>by cases h;exact ⟨k,λx hx=>hx.elim id λz=>by cases z⟩
 | (n,kd)::r,cs,cl,h,k=>by
  unfold dM at h;cases hk:(kd == Vt) with
  | true=>
   rw [hk,if_pos rfl] at h;cases hc:cells.lookup n with
   | none=>rw [hc] at h;cases h
   | some a=>
    rw [hc] at h;obtain ⟨h1,h2⟩:=g5 r ((n,a)::cs) cl h (λx c q=>by
     rw [VO] at q;cases e:x == n with
     | true=>
      rw [e] at q;cases q;have:x=n:=by simpa using e
      rw [this];exact hc
     | false=>rw [e] at q;exact k x c q)
    refine ⟨h1,λx hx=>h2 x ?_⟩;by_cases e:x=n
    ·left;subst e;rw [VO];simp
    ·have e':(x == n)=false:=by simpa using e
     rcases hx with hx | hx
     ·left;rw [VO,e'];exact hx
     ·right;rcases Uw.mp hx with z | z
      ·cases z;exact absurd rfl e
      ·exact z
  | false=>
   rw [hk,if_neg (by decide)] at h;obtain ⟨h1,h2⟩:=g5 r cs cl h k;refine ⟨h1,λx hx=>h2 x ?_⟩;rcases hx with hx | hx
   ·exact .inl hx
   ·rcases Uw.mp hx with z | z
    ·cases z;simp at hk
    ·exact .inr z
section
variable {X:Cx}
def cN (X:Cx) (own:List Str) (cap:List Nat):List Str:=own++cap.map λ(j:Nat)=>(X.N[j]?).getD ("":Str)
noncomputable def Mf (X:Cx) (own:List Str) (cap:List Nat) (TM:Xy) (cl:List (Str×UA)) (C:UA) (s:T_) (H:Hp) (fp:List UA):Cx where
 prog:=X.prog
 w:=X.w
 K:=X.K
 mg:=X.mg
 base:=X.base
 A:=X.A
 N:=cN X own cap
 s₀:=s
 H₀:=H
 env:=compEnvC TM cl C X.env
 outer:=X.stack
 stack:=X.stack
 ex:=fp
 fn:=λ_=>false
 calm:=X.calm
 pn:=[]
 xe:=λ_ _=>False
noncomputable def qE (X:Cx) (cap:List Nat):Bool:=cap.all λj=>match X.N[j]? with
 | some x=>(match X.env.scope.names.lookup x with
  | some .cell=>true
  | some .free=>true
  | _=>false)
 | none=>false
theorem Ar {TM:Xy}(hc:∀y∈TM.names,y.2≠.cell):∀{x:Str},((relabel TM env).names.lookup x=some .cell\/(relabel TM env).names.lookup x=some .free)->(x,Vt)∈TM.names:=by
 unfold relabel;have main:∀(names:List (Str×Ws)),(∀y∈names,y.2≠.cell)->∀x,((names.map λ(n,k)=>if (k == Vt && env.scope.kind == .function && env.kindOf n == some .cell) then (n,Ym) else (n,k)).lookup x=some .cell\/
   (names.map λ(n,k)=>if (k == Vt && env.scope.kind == .function && env.kindOf n == some .cell) then (n,Ym) else (n,k)).lookup x=some .free)->(x,Vt)∈names:=by
  intro names
  induction names with
  | nil=>intro _ x h;simp at h
  | cons p r ih=>
   obtain ⟨n,k⟩:=p;intro hc x h;rw [Ur] at h;simp only at h;by_cases hx:x=n
   ·subst hx;have hk:k≠.cell:=hc (x,k) Uc;have:k=.free:=by
     by_cases q:(k == Vt && env.scope.kind == .function && env.kindOf x == some .cell)=true
     ·rw [Ub,Ub] at q;simpa using q.1.1
     ·rw [if_neg q,VO] at h;simp at h;rcases h with h | h
      ·exact absurd h hk
      ·exact h
    subst this;exact Uc
   ·have hx':(x == n)=false:=by simpa using hx
    refine Ua _ (ih (λy hy=>hc y (Ua _ hy)) x ?_);have red:∀(q:Str×Ws) (l:List (Str×Ws)),q.1=n->ael x (q::l)=ael x l:=λq l hq=>by obtain ⟨q1,q2⟩:=q;simp only at hq;subst hq;rw [VO,hx']
    have hq:(if (k == Vt && env.scope.kind == .function && env.kindOf n == some .cell) then (n,Ym) else (n,k)).1=n:=by split <;> rfl
    rw [red _ _ hq] at h;exact h
 intro x h;exact main TM.names hc x h
end
section
variable {X:Cx}{c:C}
noncomputable def Ce (X:Cx) (c:C) (ifs:List UU) (g:G Bool):Prop:=
 ∀(TN:List (UA×Obj)) (s:T_) (σ:L2.St) (H:Hp) (Q:Bool->Hp->Prop),Inv X TN σ H s->tB c g σ H Q->
  Uu (UB X.prog X.w) X.A (forIn ifs true λc r=>if r=true then do let ok <-aa5 c X.env (eval c X.env);pure (WI ok) else pure (WI r)) (TP X TN σ Q) X.xe s
def cA:G Bool:=λ_=>.ok true
noncomputable def fT (gt:GT) (gts:G Bool) (ge:G R):List D->Ev->M (List D)
 | [],_=>.ok []
 | d::ds,env=>gt d env >>= λe=>gts e >>= λk=>if k=true then ge e >>= λr=>toD r >>= λy=>fT gt gts ge ds e >>= λys=>.ok (y::ys) else fT gt gts ge ds e
def cE (n:Nat) (cap:List Nat) (env:Ev):Ev:=VL n none++cap.map λ(j:Nat)=>(env[j]?).getD none
noncomputable def bM (n:Nat) (cap:List Nat) (gi:G (List D)) (gt:GT) (gts:G Bool) (ge:G R):G R:=λenv=>gi env >>= λds=>if ds.length<=sizeLine then fT gt gts ge ds (cE n cap env) >>= λys=>.ok (.l .fresh ys) else .bad
theorem iV {α:Type}{n:Nat}{cap:List Nat}{env:List (Option α)}{i:Nat}{x:α}(h:(VL n none++cap.map λ(j:Nat)=>(env[j]?).getD none)[i]?=some (some x)):∃j,n<=i/\cap[i - n]?=some j/\env[j]?=some (some x):=by
 by_cases hi:i < n
 ·rw [Wc (by simpa using hi),Yj] at h;split at h <;> cases h
 ·rw [VA (by simpa using hi),Wi,UK] at h;cases q:cap[i - n]? with
  | none=>rw [q] at h;cases h
  | some j=>
   rw [q] at h;refine ⟨j,by omega,rfl,?_⟩;have h':(env[j]?).getD none=some x:=Vl h;cases z:env[j]? with
   | none=>rw [z] at h';cases h'
   | some o=>rw [z] at h';exact congrArg some h'
theorem IG {α:Type}{n:Nat}{cap:List Nat}{env:List (Option α)}{i j:Nat}{x:α}(h1:n<=i) (h2:cap[i - n]?=some j) (h3:env[j]?=some (some x)):(VL n none++cap.map λ(j:Nat)=>(env[j]?).getD none)[i]?=some (some x):=by rw [VA (by simpa using h1),Wi,UK,h2];simp [h3]
theorem SR.cap {J H:Hp}{σ:L2.St}{env:Ev}(sr:SR c J H σ env) (n:Nat) (cap:List Nat) (hnd:cap.Nodup):SR c J H (VL n none++cap.map λ(j:Nat)=>(σ[j]?).getD none) (cE n cap env):=by
 refine ⟨sr.hp,by simp [cE],λi x q=>?_,λi j xs ys v hij q1 q2 q3 q4=>?_,sr.sp2.by (λi=>(cap[i - n]?).getD 0) (λi j xs ys hij q1 q2 z=>?_) λi xs q=>?_⟩
 ·obtain ⟨j,h1,h2,h3⟩:=iV q;obtain ⟨v,k1,k2⟩:=sr.at_ j x h3;exact ⟨v,IG h1 h2 k1,k2⟩
 ·obtain ⟨a,h1,h2,h3⟩:=iV q1;obtain ⟨b,h4,h5,h6⟩:=iV q2;obtain ⟨a',h7,h8,h9⟩:=iV q3;obtain ⟨b',Tu,h11,h12⟩:=iV q4;rw [h2] at h8;cases h8;rw [h5] at h11;cases h11;have hab:a≠b:=λz=>by subst z;have e1:=(Uy.mp h2);have e2:=(Uy.mp h5);have:=(Y9 hnd).mp (e1.2.trans e2.2.symm);omega
  exact sr.sep a b xs ys v hab h3 h6 h9 h12
 ·obtain ⟨a,h1,h2,h3⟩:=iV q1;obtain ⟨b,h4,h5,h6⟩:=iV q2;have e1:=(Uy.mp h2);have e2:=(Uy.mp h5);rw [h2,h5] at z;have:=(Y9 hnd).mp (e1.2.trans ((show a=b from z).trans e2.2.symm));omega
 ·obtain ⟨a,h1,h2,h3⟩:=iV q;obtain ⟨p,vs,m1,m2,_,_,_,m3⟩:=sr.nst h3;rw [h2];exact ⟨⟨xs,h3⟩,(iP (IG h1 h2 m1) m2).trans m3.symm⟩
theorem SR.other {J H:Hp}(sr:SR c J H σ env) (hJ:J p=none) (h0:c.H0 p=none) (hn:∀(j:Nat) (xs:Mn),env[j]?=some (some (mS xs))->σ[j]?≠some (some (.ref p))):SR c J (L2.upd H p o) σ env:=by
 refine ⟨⟨λb u q=>?_,λb u q=>?_,sr.hp.entJ,sr.hp.frz⟩,sr.len,λj y q=>?_,sr.sep,sr.sp2.keep λk xs q=>let ⟨p',vs,m1,m2,_,_,_,m3⟩:=sr.nst q;⟨⟨xs,q⟩,(iP m1 (by rw [aV (show p'≠p from λe=>hn k (.nst xs) q (by rw [<-e];exact m1))];exact m2)).trans m3.symm⟩⟩
 ·have:b≠p:=λz=>by rw [z,hJ] at q;cases q
  rw [aV this];exact sr.hp.sub b u q
 ·have:b≠p:=λz=>by rw [z,h0] at q;cases q
  rw [aV this];exact sr.hp.ent b u q
 ·obtain ⟨w,k1,k2⟩:=sr.at_ j y q;refine ⟨w,k1,?_⟩;cases y with
  | d x=>exact k2
  | bor zs=>exact k2
  | db _ _=>exact k2
  | fn _=>exact k2
  | dk ks zs=>
   obtain ⟨p',rfl,⟨us,ws,ep,m1,mr⟩,m2⟩:=k2;have hne:p'≠p:=λz=>hn j (.inr (ks,zs)) q (z▸k1);exact ⟨p',rfl,⟨us,ws,ep,by rw [aV hne];exact m1,mr⟩,m2⟩
  | own zs=>
   obtain ⟨p',us,rfl,m1,m2,m3,m4⟩:=k2;have hne:p'≠p:=λz=>hn j (.inl zs) q (z▸k1);exact ⟨p',us,rfl,by rw [aV hne];exact m1,m2,m3,m4⟩
  | ow2 zs=>
   obtain ⟨p',us,rfl,m1,m2,m3,m4⟩:=k2;have hne:p'≠p:=λz=>hn j (.nst zs) q (z▸k1);exact ⟨p',us,rfl,by rw [aV hne];exact m1,m2,m3,m4⟩
theorem Ext.other {J H J' H':Hp}(e:Ext J H J' H') (h:H p=none) (hJ:J' p=none):Ext J H J' (L2.upd H' p o):=
 ⟨λb u q=>by rw [aV (fO q h)];exact e.h b u q,e.j,λb u q=>by
  have:b≠p:=λz=>by rw [z,hJ] at q;cases q
  rw [aV this];exact e.sub b u q,e.frz⟩
theorem AX {H:Hp}(x:gy P w H h) (hn:H a=none) (sb:V2 a h h'):gy P w H h':=λb u e=>by
 refine (x b u e).stay (λd v hd q=>(sb.2 d ?_).trans q) (λ_ q=>q) λ_ _ q=>q;rintro rfl;rcases hd with rfl | hd
 ·rw [hn] at e;cases e
 ·rw [hn] at hd;cases hd
theorem Ql {TN:List (UA×Obj)}{σ:L2.St}{H:Hp}{s:T_}{own:List Str}{cap:List Nat}{TM:Xy}{cl:List (Str×UA)}{fp:List UA}{h1:VJ}{m:Str->Option T7}{tk:Nat}(I:Inv X TN σ H s) (ok:(Mf X own cap TM cl s.heap.objs.size s H fp).Ok)
  (hcl:dM X.env.cells TM.names []=some cl) (hcell:∀y∈TM.names,y.2≠.cell) (hcap:qE X cap=true) (Rl:∀j∈cap,∀x,X.N[j]?=some x->(relabel TM X.env).names.lookup x≠some .local)
  (hns:h1.Ns s.heap.objs.size m) (old:∀b o,s.heap.get? b=some o->h1.get? b=some o):
  Inv (Mf X own cap TM cl s.heap.objs.size s H fp) [] (VL own.length none++cap.map λ(j:Nat)=>(σ[j]?).getD none) H {s with heap:=h1,toks:=tk}:=by
 obtain ⟨m1,m2⟩:=g5 TM.names [] cl hcl (λx c h=>by simp at h);refine ⟨ok,rfl,I.bare,Un.kept old,⟨m,hns,λi x v q1 q2 q3=>?_⟩,λx d h=>?_,I.hok.fresh (Ud _),λx d h=>I.freeC x d (m1 x d h),λp hp=>absurd (show p∈([]:List (UA×Obj)) from hp) (by simp),I.hok.kept old,?_⟩
 ·obtain ⟨j,h2,h3,h4⟩:=iV q2;have q1':(own++cap.map λ(j:Nat)=>(X.N[j]?).getD ("":Str))[i]?=some x:=q1;rw [VA (by exact h2),UK,h3] at q1';have hj:j∈cap:=UX h3;have hc:(match X.N[j]? with
   | some x=>(match X.env.scope.names.lookup x with
    | some .cell=>true
    | some .free=>true
    | _=>false)
   | none=>false)=true:=by unfold qE at hcap;exact Uz.mp hcap j hj
  cases hx:X.N[j]? with
  | none=>rw [hx] at hc;cases hc
  | some y=>
   rw [acB,hx] at q1';rw [hx] at hc;have e:y=x:=by simpa using q1'
   subst e;have kd:X.env.kindOf y=some .cell\/X.env.kindOf y=some .free:=by
    unfold aeL;simp only at hc;split at hc
    ·rename_i z;exact .inl z
    ·rename_i z;exact .inr z
    ·cases hc
   obtain ⟨mX,nX,lX⟩:=I.loc;obtain ⟨u,ru,lu⟩:=lX j y v hx h4 (kd.elim (λz=>.inr (.inl z)) λz=>.inr (.inr z));refine ⟨u,ru,.inr ?_⟩;have kd':(relabel TM X.env).names.lookup y=some .cell\/(relabel TM X.env).names.lookup y=some .free:=by
    rcases q3 with z | z | z
    ·exact absurd z (Rl j hj y hx)
    ·exact .inl z
    ·exact .inr z
   refine ⟨kd',?_⟩;obtain ⟨d,hd⟩:=Vu.mp (m2 y (.inr (Ar hcell kd')));refine ⟨d,hd,?_⟩;rcases lu with ⟨z,_⟩ | ⟨_,d',hd',z⟩
   ·rcases kd with k | k <;> (rw [k] at z;cases z)
   ·have:=m1 y d hd;rw [hd'] at this;cases this;obtain ⟨o,ho,hod⟩:=z;exact ⟨o,old _ _ ho,hod⟩
 ·obtain ⟨v,o,ho,hod⟩:=I.cell x d (m1 x d h);exact ⟨v,o,old _ _ ho,hod⟩
 ·show _=(own++cap.map λ(j:Nat)=>(X.N[j]?).getD ("":Str)).length;simp
noncomputable def Ek (X:Cx) (cap:List Nat) (TM:Xy):Bool:=cap.all λj=>match X.N[j]? with
 | some x=>!((relabel TM X.env).names.lookup x == some .local)
 | none=>true
noncomputable def z_:List Nat->Bool
 | []=>true
 | x::r=>!(r.contains x) && z_ r
theorem BH:∀{l:List Nat},z_ l=true->l.Nodup
 | [],_=>Wz
 | x::r,h=>by unfold z_ at h;rw [Ub] at h;refine WH.mpr ⟨λz=>?_,BH h.2⟩;have:=h.1;simp [z] at this
theorem LU {X:Cx}{H:Hp}{s:T_}(I:L2.Inv X TN σ H s) (h:s.heap.objs.size<=T):(T∈X.ex\/X.s₀.heap.objs.size<=T)/\T≠X.env.locals/\(∀x c,X.env.cells.lookup x=some c->c≠T)/\∀p∈X.pn++TN,p.1≠T:=by have ne:∀b,b < s.heap.objs.size->b≠T:=λb hb z=>absurd (UG (z▸hb) h) (Wb _);refine ⟨.inr (UC I.sz h),(ne _ I.lt).symm,λx c hc=>?_,λp hp=>ne _ (Uq (I.pin p hp).1)⟩;obtain ⟨v,o,hv,_⟩:=I.cell x c hc;exact ne _ (Uq hv)
theorem Fb {X:Cx}{H:Hp}{s:T_}{C:UA}{o0:Obj}(I:L2.Inv X TN σ H s) (ap:(C∈X.ex\/X.s₀.heap.objs.size<=C)/\C≠X.env.locals/\(∀x c,X.env.cells.lookup x=some c->c≠C)/\∀p∈X.pn++TN,p.1≠C) (hf:H C=none) (sb:V2 C s.heap h'):L2.Inv X TN σ H {s with heap:=h'}:=by
 refine I.call' (ch:=[C]) rfl ⟨λb o hb hn _ hx=>?_,λb o hb hn _ hx=>⟨o.slots,?_⟩,λ_ _ _ n _=>n,λb o hb hx=>⟨o,?_⟩,λ_ _ q=>q,λ_ _ _ q=>q,λ_ ps q=>⟨#[],by rw [q];simp⟩⟩ (λa o ha=>?_) I.bare (λb hb=>by rw [Ul.mp hb];exact ap)
 ·exact (sb.2 b λz=>hx (by simp [z])).trans hb
 ·exact (sb.2 b λz=>hx (by simp [z])).trans hb
 ·exact (sb.2 b λz=>hx (by simp [z])).trans hb
 ·refine (I.hok a o ha).stay (λb u hb q=>(sb.2 b λz=>?_).trans q) (λ_ q=>q) λ_ _ q=>q;rcases hb with rfl | hb
  ·rw [z,hf] at ha;cases ha
  ·rw [z,hf] at hb;cases hb
end
mutual
noncomputable def bq:D->D->Bool
 | .non,.non=>true
 | .bl p,.bl q=>p == q
 | .bl p,.int q=>(if p then 1 else 0) == q
 | .int p,.bl q=>p == (if q then 1 else 0)
 | .int p,.int q=>p == q
 | .str p,.str q=>p == q
 | .tup p,.tup q=>cB p q
 | .lst p,.lst q=>cB p q
 | .emp,.emp=>true
 | .exn _ _ _,.exn _ _ _=>true
 | .dct _ _,.dct _ _=>true
 | _,_=>false
noncomputable def cB:List D->List D->Bool
 | [],[]=>true
 | x::xs,y::ys=>bq x y && cB xs ys
 | _,_=>false
end
mutual
theorem gn:∀d:D,bq d d=true
 | .non=>by simp [bq]
 | .bl _=>by simp [bq]
 | .int _=>by simp [bq]
 | .str _=>by simp [bq]
 | .tup xs=>by simp only [bq];exact pL xs
 | .lst xs=>by simp only [bq];exact pL xs
 | .emp=>by simp [bq]
 | .exn _ _ _=>by simp [bq]
 | .dct _ _=>by simp [bq]
theorem pL:∀ds:List D,cB ds ds=true
 | []=>by simp [cB]
 | x::xs=>by simp only [cB,gn x,pL xs,adG]
end
theorem nV:∀{xs ys:List D},xs.length≠ys.length->cB xs ys=false
 | [],[],h=>absurd rfl h
 | [],_::_,_=>by simp [cB]
 | _::_,[],_=>by simp [cB]
 | x::xs,y::ys,h=>by simp only [cB,nV (xs:=xs) (ys:=ys) (λz=>h (congrArg (· + 1) z)),Xu]
noncomputable def oj (xs ys:List D) (j:Nat):Bool:=match xs[j]?,ys[j]? with
 | some x,some y=>bq x y
 | _,_=>false
theorem nW:∀{xs ys:List D},xs.length=ys.length->(Ue xs.length).all (oj xs ys)=cB xs ys
 | [],[],_=>by simp [cB]
 | x::xs,y::ys,h=>by have ih:=nW (xs:=xs) (ys:=ys) (by simpa using h);rw [U4,YB,We,Y0];simp only [cB];rw [<-ih];rfl
theorem zE (xs ys:List D):((Ue (min xs.length ys.length)).all (oj xs ys) && xs.length == ys.length)=cB xs ys:=by
 by_cases h:xs.length=ys.length
 ·rw [<-h,Nat.min_self,nW h];simp
 ·rw [nV h,beq_eq_false_iff_ne.mpr h,Xu]
section
structure HF (K:T5) (J:Hp) (s:T_):Prop where
 t:∀a xs,c7 K J a xs->∃TR:List T7,Vals xs TR/\s.heap.IsTuple a TR.toArray
 l:∀a xs,cg K J a xs->∃TR:List T7,Vals xs TR/\s.heap.IsList a TR.toArray
 e:∀a,J a=some (.dK [])->∃o,s.heap.get? a=some o/\o.cls=.type "dict"
 d:∀a ep TZ,J a=some (g6 a ep TZ)->∃o es,s.heap.get? a=some o/\o.ExactDict/\o.data=.dict es ep/\ZQ yP TZ es.toList
variable {K:T5}{J:Hp}{s:T_}
theorem HF.of {X:Cx}{c:C}{H:Hp}(I:Inv X TN σ H s) (hs:aS J H):HF X.K J s:=
 ⟨λa xs h=>let ⟨TR,r,p,_⟩:=I.tuple (fU hs h);⟨TR,r,p⟩,λa xs h=>let ⟨TR,r,p,_⟩:=I.list (hs.seq h);⟨TR,r,p.isList⟩,λa h=>by
  obtain ⟨_,_,vs,_,p⟩:=(show cF X.prog X.w H s.heap a (.dK []) from I.hok a _ (hs _ _ h));obtain ⟨o,es,ep,h1,h2,_⟩:=p;exact ⟨o,h1,h2.1⟩,λa ep TZ h=>(show cF X.prog X.w H s.heap a (g6 a ep TZ) from I.hok a _ (hs _ _ h)).1⟩
theorem EL {xs ys:List T7}(h:s.heap.IsTuple a xs.toArray) (h':s.heap.IsTuple a ys.toArray):xs=ys:=by
 obtain ⟨o,ho,_,n,hd⟩:=h;obtain ⟨o',ho',_,n',hd'⟩:=h';rw [ho] at ho';cases ho';rw [hd] at hd';injection hd' with h1 _
 simpa using congrArg aau h1
theorem CH {xs ys:List T7}(h:s.heap.IsList a xs.toArray) (h':s.heap.IsList a ys.toArray):xs=ys:=by
 obtain ⟨o,ho,_,n,hd⟩:=h;obtain ⟨o',ho',_,n',hd'⟩:=h';rw [ho] at ho';cases ho';rw [hd] at hd';injection hd' with h1 _
 simpa using congrArg aau h1
mutual
theorem Rep.inj (F:HF K J s):∀{d e:D}{v:V},Rep K J d v->Rep K J e v->dep d<=1000->dep e<=1000->d=e
 | _,_,_,.emp _,_,h,_=>by unfold dep at h;omega
 | _,_,_,.exn _ _ _ _ _,_,h,_=>by unfold dep at h;omega
 | _,_,_,.dct _ _ _ _ _,_,h,_=>by unfold dep at h;omega
 | _,_,_,.non,.non,_,_=>rfl
 | _,_,_,.bl _,.bl _,_,_=>rfl
 | _,_,_,.int _,.int _,_,_=>rfl
 | _,_,_,.str _,.str _,_,_=>rfl
 | _,_,_,.tup _ _,.emp _,_,h=>by unfold dep at h;omega
 | _,_,_,.lst _ _,.emp _,_,h=>by unfold dep at h;omega
 | _,_,_,.tup _ _,.exn _ _ _ _ _,_,h=>by unfold dep at h;omega
 | _,_,_,.tup _ _,.dct _ _ _ _ _,_,h=>by unfold dep at h;omega
 | _,_,_,.lst _ _,.exn _ _ _ _ _,_,h=>by unfold dep at h;omega
 | _,_,_,.lst _ _,.dct _ _ _ _ _,_,h=>by unfold dep at h;omega
 | _,_,_,.tup h hs,.tup h' hs',k,k'=>by obtain ⟨TR,r,p⟩:=F.t _ _ h;obtain ⟨its',r',p'⟩:=F.t _ _ h';have:=EL p p';subst this;have:=r.inj r';subst this;rw [aK.inj F hs hs' (by unfold dep at k;omega) (by unfold dep at k';omega)]
 | _,_,_,.lst h hs,.lst h' hs',k,k'=>by obtain ⟨TR,r,p⟩:=F.l _ _ h;obtain ⟨its',r',p'⟩:=F.l _ _ h';have:=CH p p';subst this;have:=r.inj r';subst this;rw [aK.inj F hs hs' (by unfold dep at k;omega) (by unfold dep at k';omega)]
 | _,_,_,.tup h _,.lst h' _,_,_=>by obtain ⟨TR,r,p⟩:=F.t _ _ h;obtain ⟨its',r',p'⟩:=F.l _ _ h';exact absurd rfl (aal p' p)
 | _,_,_,.lst h _,.tup h' _,_,_=>by obtain ⟨TR,r,p⟩:=F.l _ _ h;obtain ⟨its',r',p'⟩:=F.t _ _ h';exact absurd rfl (aal p p')
theorem aK.inj (F:HF K J s):∀{ds es:List D}{vs:List V},aK K J ds vs->aK K J es vs->deps ds<=1000->deps es<=1000->ds=es
 | _,_,_,.nil,.nil,_,_=>rfl
 | _,_,_,.cons h hs,.cons h' hs',k,k'=>by rw [Rep.inj F h h' (by unfold deps at k;omega) (by unfold deps at k';omega),aK.inj F hs hs' (by unfold deps at k;omega) (by unfold deps at k';omega)]
end
theorem jE {A:UW}(h:s.heap.IsTuple a TR) (r:RelV v u) (f:uC v=true) (hu:A.units < VI):Wl A s (.ref a) u false/\Wl A s u (.ref a) false:=by
 cases v with
 | non=>cases r;exact ⟨.tuple_none h hu,.none_tuple h hu⟩
 | bl b=>cases r;exact ⟨.tuple_bool b h hu,.bool_tuple b h hu⟩
 | int i=>obtain ⟨t,rfl⟩:=r;exact ⟨.tuple_int i t h hu,.int_tuple i t h hu⟩
 | str x=>obtain ⟨t,rfl⟩:=r;exact ⟨.tuple_str x t h hu,.str_tuple x t h hu⟩
 | _=>exact absurd (show false=true from f) UH
theorem kc {A:UW}(h:s.heap.IsList a TR) (r:RelV v u) (f:uC v=true) (hu:A.units < VI):Wl A s (.ref a) u false/\Wl A s u (.ref a) false:=by
 cases v with
 | non=>cases r;exact ⟨.list_none h hu,.none_list h hu⟩
 | bl b=>cases r;exact ⟨.list_bool b h hu,.bool_list b h hu⟩
 | int i=>obtain ⟨t,rfl⟩:=r;exact ⟨.list_int i t h hu,.int_list i t h hu⟩
 | str x=>obtain ⟨t,rfl⟩:=r;exact ⟨.list_str x t h hu,.str_list x t h hu⟩
 | _=>exact absurd (show false=true from f) UH
noncomputable def pY:D->Bool
 | .tup _=>false
 | .lst _=>false
 | .emp=>false
 | .exn _ _ _=>false
 | .dct _ _=>false
 | _=>true
theorem Rep.flat (h:Rep K J d v) (f:pY d=true):uC v=true:=by cases h <;> first | rfl | cases f
theorem GF (h:Rep K J d v) (h':Rep K J e w) (f:pY d=true) (f':pY e=true):Mi v w=bq d e:=by cases h <;> cases h' <;> first | rfl | cases f | cases f' | simp [Mi,bq]
theorem in1_units (A:UW):A.in1.units=A.units + 1:=rfl
theorem uB (F:HF K J s) (A:UW) (hd:Rep K J d v) (he:Rep K J e w) (rv:RelV v u) (rw':RelV w u') (f:pY d=true) (hu:A.units < VI) (hu':dep e<=1000):Wl A s u u' (bq d e):=by
 cases q:pY e with
 | true=>rw [<-GF hd he f q];exact Mh rv rw' (hd.flat f) (he.flat q)
 | false=>
  cases he with
  | tup h' hs'=>
   cases rw';obtain ⟨its',r',p'⟩:=F.t _ _ h';have:=(jE p' rv (hd.flat f) hu).2;cases hd <;> first | exact this | cases f
  | lst h' hs'=>
   cases rw';obtain ⟨its',r',p'⟩:=F.l _ _ h';have:=(kc p' rv (hd.flat f) hu).2;cases hd <;> first | exact this | cases f
  | emp _=>unfold dep at hu';omega
  | exn _ _ _ _ _=>unfold dep at hu';omega
  | dct _ _ _ _ _=>unfold dep at hu';omega
  | _=>cases q
mutual
theorem m9 (F:HF K J s):∀{d e:D}{v w:V}{u u':T7}(A:UW),Rep K J d v->Rep K J e w->RelV v u->RelV w u'->A.units + dep d < VI->dep d<=1000->dep e<=1000->Wl A s u u' (bq d e)
 | .tup ds,e,_,w,u,u',A,.tup h hs,he,rv,rw',hu,hd1,hu'=>by
  cases rv;obtain ⟨TR,r,p⟩:=F.t _ _ h;have QL:A.units < VI:=by unfold dep at hu;omega
  cases he with
  | tup h' hs'=>
   cases rw';obtain ⟨its',r',p'⟩:=F.t _ _ h';rename_i a vs b ws es;by_cases q:a=b
   ·subst q;have:=Rep.inj F (.tup h hs) (.tup h' hs') hd1 hu';rw [<-this,gn];exact aaz _
   ·have l1:TR.length=ds.length:=by rw [<-r.length,hs.length]
    have l2:its'.length=es.length:=by rw [<-r'.length,hs'.length]
    simp only [bq];rw [<-zE,<-l1,<-l2];refine abz q ?_;have:=abP (e:=oj ds es) p p' QL λj j1 j2=>by
     have k1:j < ds.length:=by rw [<-l1];simpa using j1
     have k2:j < es.length:=by rw [<-l2];simpa using j2
     have:=m_ F A.in1 hs hs' r r' (by rw [in1_units];unfold dep at hu;omega) (by unfold dep at hd1;omega) (by unfold dep at hu';omega) j k1 k2;have m1:j < TR.length:=by simpa using j1
     have m2:j < its'.length:=by simpa using j2
     simpa [m1,m2] using this
    simpa using this
  | lst h' hs'=>
   cases rw';obtain ⟨its',r',p'⟩:=F.l _ _ h';exact adY p p' QL
  | non=>exact (jE p rw' rfl QL).1
  | bl _=>exact (jE p rw' rfl QL).1
  | int _=>exact (jE p rw' rfl QL).1
  | str _=>exact (jE p rw' rfl QL).1
  | emp _=>unfold dep at hu';omega
  | exn _ _ _ _ _=>unfold dep at hu';omega
  | dct _ _ _ _ _=>unfold dep at hu';omega
 | .lst ds,e,_,w,u,u',A,.lst h hs,he,rv,rw',hu,hd1,hu'=>by
  cases rv;obtain ⟨TR,r,p⟩:=F.l _ _ h;have QL:A.units < VI:=by unfold dep at hu;omega
  cases he with
  | lst h' hs'=>
   cases rw';obtain ⟨its',r',p'⟩:=F.l _ _ h';rename_i a vs b ws es;by_cases q:a=b
   ·subst q;have:=Rep.inj F (.lst h hs) (.lst h' hs') hd1 hu';rw [<-this,gn];exact aaz _
   ·have l1:TR.length=ds.length:=by rw [<-r.length,hs.length]
    have l2:its'.length=es.length:=by rw [<-r'.length,hs'.length]
    simp only [bq];refine abz q ?_;by_cases z:ds.length=es.length
    ·rw [<-nW z,<-l1];have:=acj (e:=oj ds es) p p' (by simp;omega) QL λj j1 j2=>by
      have k1:j < ds.length:=by rw [<-l1];simpa using j1
      have k2:j < es.length:=by rw [<-l2];simpa using j2
      have:=m_ F A.in1 hs hs' r r' (by rw [in1_units];unfold dep at hu;omega) (by unfold dep at hd1;omega) (by unfold dep at hu';omega) j k1 k2;have m1:j < TR.length:=by simpa using j1
      have m2:j < its'.length:=by simpa using j2
      simpa [m1,m2] using this
     simpa using this
    ·rw [nV z];exact adq p p' (by simp;omega) QL
  | tup h' hs'=>
   cases rw';obtain ⟨its',r',p'⟩:=F.t _ _ h';exact adZ p p' QL
  | non=>exact (kc p rw' rfl QL).1
  | bl _=>exact (kc p rw' rfl QL).1
  | int _=>exact (kc p rw' rfl QL).1
  | str _=>exact (kc p rw' rfl QL).1
  | emp _=>unfold dep at hu';omega
  | exn _ _ _ _ _=>unfold dep at hu';omega
  | dct _ _ _ _ _=>unfold dep at hu';omega
 | .non,e,v,w,u,u',A,hd,he,rv,rw',hu,_,hu'=>uB F A hd he rv rw' rfl (by omega) hu'
 | .bl _,e,v,w,u,u',A,hd,he,rv,rw',hu,_,hu'=>uB F A hd he rv rw' rfl (by omega) hu'
 | .int _,e,v,w,u,u',A,hd,he,rv,rw',hu,_,hu'=>uB F A hd he rv rw' rfl (by omega) hu'
 | .emp,e,v,w,u,u',A,hd,he,rv,rw',hu,hd1,hu'=>by unfold dep at hd1;omega
 | .exn _ _ _,e,v,w,u,u',A,hd,he,rv,rw',hu,hd1,hu'=>by unfold dep at hd1;omega
 | .dct _ _,e,v,w,u,u',A,hd,he,rv,rw',hu,hd1,hu'=>by unfold dep at hd1;omega
 | .str _,e,v,w,u,u',A,hd,he,rv,rw',hu,_,hu'=>uB F A hd he rv rw' rfl (by omega) hu'
theorem m_ (F:HF K J s):∀{ds es:List D}{vs ws:List V}{us us':List T7}(A:UW),aK K J ds vs->aK K J es ws->Vals vs us->Vals ws us'->A.units + deps ds < VI->deps ds<=1000->deps es<=1000->
  ∀(j:Nat) (h1:j < ds.length) (h2:j < es.length),Wl A s (us.getD j .none) (us'.getD j .none) (oj ds es j)
 | _,_,_,_,_,_,A,.cons h hs,.cons h' hs',.cons r rs,.cons r' rs',hu,k1,k2,0,_,_=>m9 F A h h' r r' (by unfold deps at hu;omega) (by unfold deps at k1;omega) (by unfold deps at k2;omega)
 | _,_,_,_,_,_,A,.cons h hs,.cons h' hs',.cons r rs,.cons r' rs',hu,k1,k2,j + 1,h1,h2=>m_ F A hs hs' rs rs' (by unfold deps at hu;omega) (by unfold deps at k1;omega) (by unfold deps at k2;omega) j (by simpa using h1) (by simpa using h2)
end
end
section
variable {K:T5}{J:Hp}{s:T_}
theorem FG (F:HF K J s) (A:UW) (hd:Rep K J d v) (he:Rep K J e w) (rv:RelV v u) (rw':RelV w u') (hu:A.units + dep d < VI) (hd1:dep d<=1000) (hu':dep e<=1000):SeqAt.RcAt A s u u' (bq d e)/\SeqAt.RcNeAt A s u u' (!bq d e):=by
 have QL:A.units < VI:=by omega
 cases hd with
 | non=>
  cases rv;cases he with
  | non=>cases rw';exact ⟨.none_none,.none_none⟩
  | bl b=>cases rw';exact ⟨.none_bool b,.none_bool b⟩
  | int i=>obtain ⟨t,rfl⟩:=rw';exact ⟨.none_int i t,.none_int i t⟩
  | str x=>obtain ⟨t,rfl⟩:=rw';exact ⟨.none_str x t,.none_str x t⟩
  | tup h hs=>cases rw';obtain ⟨TR,r,p⟩:=F.t _ _ h;exact ⟨.none_tuple p QL,.none_tuple p QL⟩
  | lst h hs=>cases rw';obtain ⟨TR,r,p⟩:=F.l _ _ h;exact ⟨.none_list p QL,.none_list p QL⟩
  | emp _=>unfold dep at hu';omega
  | exn _ _ _ _ _=>unfold dep at hu';omega
  | dct _ _ _ _ _=>unfold dep at hu';omega
 | bl a=>
  cases rv;cases he with
  | non=>cases rw';exact ⟨.bool_none a,.bool_none a⟩
  | bl b=>cases rw';exact ⟨.bool_bool a b,.bool_bool a b⟩
  | int i=>obtain ⟨t,rfl⟩:=rw';exact ⟨.bool_int a i t,.bool_int a i t⟩
  | str x=>obtain ⟨t,rfl⟩:=rw';exact ⟨.bool_str a x t,.bool_str a x t⟩
  | tup h hs=>cases rw';obtain ⟨TR,r,p⟩:=F.t _ _ h;exact ⟨.bool_tuple a p QL,.bool_tuple a p QL⟩
  | lst h hs=>cases rw';obtain ⟨TR,r,p⟩:=F.l _ _ h;exact ⟨.bool_list a p QL,.bool_list a p QL⟩
  | emp _=>unfold dep at hu';omega
  | exn _ _ _ _ _=>unfold dep at hu';omega
  | dct _ _ _ _ _=>unfold dep at hu';omega
 | int a=>
  obtain ⟨t0,rfl⟩:=rv;cases he with
  | non=>cases rw';exact ⟨.int_none a t0,.int_none a t0⟩
  | bl b=>cases rw';exact ⟨.int_bool a t0 b,.int_bool a t0 b⟩
  | int i=>obtain ⟨t,rfl⟩:=rw';exact ⟨.int_int a t0 i t,.int_int a t0 i t⟩
  | str x=>obtain ⟨t,rfl⟩:=rw';exact ⟨.int_str a t0 x t,.int_str a t0 x t⟩
  | tup h hs=>cases rw';obtain ⟨TR,r,p⟩:=F.t _ _ h;exact ⟨.int_tuple a t0 p QL,.int_tuple a t0 p QL⟩
  | lst h hs=>cases rw';obtain ⟨TR,r,p⟩:=F.l _ _ h;exact ⟨.int_list a t0 p QL,.int_list a t0 p QL⟩
  | emp _=>unfold dep at hu';omega
  | exn _ _ _ _ _=>unfold dep at hu';omega
  | dct _ _ _ _ _=>unfold dep at hu';omega
 | str a=>
  obtain ⟨t0,rfl⟩:=rv;cases he with
  | non=>cases rw';exact ⟨.str_none a t0,.str_none a t0⟩
  | bl b=>cases rw';exact ⟨.str_bool a t0 b,.str_bool a t0 b⟩
  | int i=>obtain ⟨t,rfl⟩:=rw';exact ⟨.str_int a t0 i t,.str_int a t0 i t⟩
  | str x=>obtain ⟨t,rfl⟩:=rw';exact ⟨.str_str a t0 x t,.str_str a t0 x t⟩
  | tup h hs=>cases rw';obtain ⟨TR,r,p⟩:=F.t _ _ h;exact ⟨.str_tuple a t0 p QL,.str_tuple a t0 p QL⟩
  | lst h hs=>cases rw';obtain ⟨TR,r,p⟩:=F.l _ _ h;exact ⟨.str_list a t0 p QL,.str_list a t0 p QL⟩
  | emp _=>unfold dep at hu';omega
  | exn _ _ _ _ _=>unfold dep at hu';omega
  | dct _ _ _ _ _=>unfold dep at hu';omega
 | tup h hs=>
  cases rv;obtain ⟨TR,r,p⟩:=F.t _ _ h;cases he with
  | non=>cases rw';exact ⟨.tuple_none p QL,.tuple_none p QL⟩
  | bl b=>cases rw';exact ⟨.tuple_bool b p QL,.tuple_bool b p QL⟩
  | int i=>obtain ⟨t,rfl⟩:=rw';exact ⟨.tuple_int i t p QL,.tuple_int i t p QL⟩
  | str x=>obtain ⟨t,rfl⟩:=rw';exact ⟨.tuple_str x t p QL,.tuple_str x t p QL⟩
  | lst h' hs'=>cases rw';obtain ⟨its',r',p'⟩:=F.l _ _ h';exact ⟨.tuple_list p p' QL,.tuple_list p p' QL⟩
  | emp _=>unfold dep at hu';omega
  | exn _ _ _ _ _=>unfold dep at hu';omega
  | dct _ _ _ _ _=>unfold dep at hu';omega
  | tup h' hs'=>
   cases rw';obtain ⟨its',r',p'⟩:=F.t _ _ h';rename_i a vs ds b ws es;have l1:TR.length=ds.length:=by rw [<-r.length,hs.length]
   have l2:its'.length=es.length:=by rw [<-r'.length,hs'.length]
   have it:∀(j:Nat) (j1:j < TR.toArray.size) (j2:j < its'.toArray.size),Wl A.in1 s TR.toArray[j] its'.toArray[j] (oj ds es j):=λj j1 j2=>by
    have k1:j < ds.length:=by rw [<-l1];simpa using j1
    have k2:j < es.length:=by rw [<-l2];simpa using j2
    have:=m_ F A.in1 hs hs' r r' (by rw [in1_units];unfold dep at hu;omega) (by unfold dep at hd1;omega) (by unfold dep at hu';omega) j k1 k2;have m1:j < TR.length:=by simpa using j1
    have m2:j < its'.length:=by simpa using j2
    simpa [m1,m2] using this
   simp only [bq];rw [<-zE,<-l1,<-l2];have q1:=abP p p' QL it;have q2:=aem p p' QL it;exact ⟨by simpa using q1,by simpa using q2⟩
 | emp _=>unfold dep at hd1;omega
 | exn _ _ _ _ _=>unfold dep at hd1;omega
 | dct _ _ _ _ _=>unfold dep at hd1;omega
 | lst h hs=>
  cases rv;obtain ⟨TR,r,p⟩:=F.l _ _ h;cases he with
  | non=>cases rw';exact ⟨.list_none p QL,.list_none p QL⟩
  | bl b=>cases rw';exact ⟨.list_bool b p QL,.list_bool b p QL⟩
  | int i=>obtain ⟨t,rfl⟩:=rw';exact ⟨.list_int i t p QL,.list_int i t p QL⟩
  | str x=>obtain ⟨t,rfl⟩:=rw';exact ⟨.list_str x t p QL,.list_str x t p QL⟩
  | tup h' hs'=>cases rw';obtain ⟨its',r',p'⟩:=F.t _ _ h';exact ⟨.list_tuple p p' QL,.list_tuple p p' QL⟩
  | emp _=>unfold dep at hu';omega
  | exn _ _ _ _ _=>unfold dep at hu';omega
  | dct _ _ _ _ _=>unfold dep at hu';omega
  | lst h' hs'=>
   cases rw';obtain ⟨its',r',p'⟩:=F.l _ _ h';rename_i a vs ds b ws es;have l1:TR.length=ds.length:=by rw [<-r.length,hs.length]
   have l2:its'.length=es.length:=by rw [<-r'.length,hs'.length]
   have it:∀(j:Nat) (j1:j < TR.toArray.size) (j2:j < its'.toArray.size),Wl A.in1 s TR.toArray[j] its'.toArray[j] (oj ds es j):=λj j1 j2=>by
    have k1:j < ds.length:=by rw [<-l1];simpa using j1
    have k2:j < es.length:=by rw [<-l2];simpa using j2
    have:=m_ F A.in1 hs hs' r r' (by rw [in1_units];unfold dep at hu;omega) (by unfold dep at hd1;omega) (by unfold dep at hu';omega) j k1 k2;have m1:j < TR.length:=by simpa using j1
    have m2:j < its'.length:=by simpa using j2
    simpa [m1,m2] using this
   simp only [bq];by_cases z:ds.length=es.length
   ·rw [<-nW z,<-l1];have q1:=acj p p' (by simp;omega) QL it;have q2:=aeB p p' (by simp;omega) QL it;exact ⟨by simpa using q1,by simpa using q2⟩
   ·rw [nV z];exact ⟨.lists_lengths p p' (by simp;omega) QL,.lists_lengths p p' (by simp;omega) QL⟩
end
section
variable {X:Cx}{c:C}{e a b tg:UU}{es:List UU}{ga gb g:G R}{pos:Pos}
theorem RR.rep {He J H:Hp}(hp:HI c J H):∀{r:R}{v:V}{d:D},RR c He J H r v->(∀xs,r=.l .fresh xs\/r=.l .own xs\/r=.l .bor xs->d=.lst xs)->(∀x,r=.d x->d=x)->(∀ks vs,r≠.mo ks vs/\r≠.mb ks vs/\r≠.mf ks vs/\r≠.ln ks)->Rep c.K H d v
 | .mo _ _,_,_,_,_,_,n=>((n _ _).1 rfl).elim
 | .mb _ _,_,_,_,_,_,n=>((n _ _).2.1 rfl).elim
 | .mf _ _,_,_,_,_,_,n=>((n _ _).2.2.1 rfl).elim
 | .ln _,_,_,_,_,_,n=>((n _ []).2.2.2 rfl).elim
 | .d x,v,d,h,_,k,_=>by rw [k x rfl];exact Rep.mono hp.sub h
 | .l m xs,v,d,h,k,_,_=>by have e:d=.lst xs:=k xs (by cases m;exact .inl rfl;exact .inr (.inl rfl);exact .inr (.inr rfl));obtain ⟨a,vs,rfl,h1,h2⟩:=RR.list hp h rfl;rw [e];exact .lst h1 (h2.mono hp.sub)
noncomputable def R.dat:R->D
 | .d x=>x
 | .l _ xs=>.lst xs
 | .mo ks vs=>.dct ks vs
 | .mb ks vs=>.dct ks vs
 | .mf ks vs=>.dct ks vs
 | .ln xs=>.lst xs
theorem RR.dat {He J H:Hp}(hp:HI c J H){r:R}(h:RR c He J H r v):Rep c.K H r.dat v:=by
 by_cases hm:∃ks vs,r=.mo ks vs
 ·obtain ⟨ks,vs,rfl⟩:=hm;obtain ⟨a,rfl,h,_⟩:=h;exact h.rep hp.sub
 by_cases hb:∃ks vs,r=.mb ks vs
 ·obtain ⟨ks,vs,rfl⟩:=hb;obtain ⟨a,rfl,h⟩:=h;exact (h.mono (aS.refl _) hp.ent).rep hp.sub
 by_cases hf:∃ks vs,r=.mf ks vs
 ·obtain ⟨ks,vs,rfl⟩:=hf;obtain ⟨a,rfl,h,_⟩:=h;exact h.rep hp.sub
 by_cases hl:∃xs,r=.ln xs
 ·obtain ⟨xs,rfl⟩:=hl;obtain ⟨a,vs,rfl,h,_,_,h5⟩:=h;exact .lst (.inl (.inl h)) (h5.reps.mono hp.sub)
 refine h.rep hp (λxs q=>?_) (λx q=>by rw [q];rfl) λks vs=>⟨λz=>hm ⟨_,_,z⟩,λz=>hb ⟨_,_,z⟩,λz=>hf ⟨_,_,z⟩,λz=>hl ⟨_,z⟩⟩;rcases q with q | q | q <;> (rw [q];rfl)
def HM (K:T5) (neg:Bool):R2:=λx y H Q=>∃d e,Rep K H d x/\Rep K H e y/\dep d<=60/\dep e<=60/\Q (.bl (if neg then !bq d e else bq d e)) H
theorem iw {H:Hp}(I:Inv X TN σ H s):HF X.K H s:=HF.of (c:=⟨X.K,H,H,λ_=>True⟩) I (aS.refl H)
theorem E5 (hu:X.A.units + 64 < VI):c6 X (Vz .Eq) (HM X.K false):=by intro TN s σ H x y v u Q I rx ry h;obtain ⟨d,e,h1,h2,h3,h4,q⟩:=h;exact (FG (iw I) X.A h1 h2 rx ry (by omega) (by omega) (by omega)).1 X.prog X.w X.xe _ ⟨.bl _,H,I,rfl,q⟩
theorem M4 (hu:X.A.units + 64 < VI):c6 X (Vz .NotEq) (HM X.K true):=by intro TN s σ H x y v u Q I rx ry h;obtain ⟨d,e,h1,h2,h3,h4,q⟩:=h;exact (FG (iw I) X.A h1 h2 rx ry (by omega) (by omega) (by omega)).2 X.prog X.w X.xe _ ⟨.bl _,H,I,rfl,q⟩
def cL (neg:Bool) (x y:R):M R:=if dep x.dat<=60/\dep y.dat<=60 then .ok (.d (.bl (if neg then !bq x.dat y.dat else bq x.dat y.dat))) else .bad
theorem Co (neg:Bool) (hK:X.K=c.K):BD c (HM X.K neg) (cL neg):=by
 intro He He' J H x y u v Q hp rx ry w;unfold cL at w;split at w
 ·rename_i hd;exact ⟨x.dat,y.dat,by rw [hK];exact rx.dat hp,by rw [hK];exact ry.dat hp,hd.1,hd.2,w _ J H (Ext.refl hp.sub) (.bl _)⟩
 ·exact w.elim
def inD (d:D) (xs:List D):Bool:=xs.any λx=>bq x d
noncomputable def NC (K:T5) (neg:Bool):R2:=λx y H Q=>∃d p vs ds,Rep K H d x/\dep d<=60/\y=.ref p/\(cg K H p vs\/c7 K H p vs)/\aK K H ds vs/\deps ds<=60/\Q (.bl (if neg then !inD d ds else inD d ds)) H
theorem xE {K:T5}{H:Hp}{y:T7}:∀{ds:List D}{vs:List V}{us:List T7},aK K H ds vs->Vals vs us->deps ds<=60->y∈us->∃d' v',Rep K H d' v'/\RelV v' y/\dep d'<=60
 | _,_,_,.nil,.nil,_,hy=>nomatch hy
 | _,_,_,.cons r hs,.cons q rs,hd,hy=>by
  unfold deps at hd;rcases Uw.mp hy with rfl | hy
  ·exact ⟨_,_,r,q,by omega⟩
  ·exact xE hs rs (by omega) hy
open Classical in
noncomputable def Cm (K:T5) (H:Hp) (d:D) (y:T7):Bool:=decide (∃d' v',Rep K H d' v'/\RelV v' y/\dep d'<=1000/\bq d' d=true)
theorem Be {K:T5}{H:Hp}{s:T_}(F:HF K H s){d d':D}{v':V}{y:T7}(r':Rep K H d' v') (q':RelV v' y) (hd:dep d'<=1000):Cm K H d y=bq d' d:=by
 classical
 unfold Cm;cases z:bq d' d with
 | true=>exact decide_eq_true ⟨d',v',r',q',hd,z⟩
 | false=>
  refine decide_eq_false ?_;rintro ⟨d2,v2,r2,q2,hd2,z2⟩;have:v2=v':=q2.inj q';subst this;rw [Rep.inj F r2 r' hd2 hd] at z2;rw [z] at z2;cases z2
theorem yX {K:T5}{H:Hp}{s:T_}(F:HF K H s){d:D}:∀{ds:List D}{vs:List V}{us:List T7},aK K H ds vs->Vals vs us->deps ds<=1000->us.any (Cm K H d)=inD d ds
 | _,_,_,.nil,.nil,_=>rfl
 | _,_,_,.cons r hs,.cons q rs,hd=>by unfold deps at hd;unfold inD;rw [Zi,Zi,yX F hs rs (by omega),Be F r q (by omega)];rfl
theorem DV {A:UW}{s:T_}{K:T5}{H:Hp}(F:HF K H s){d:D}{x:V}{u:T7}(h:Rep K H d x) (rx:RelV x u) (Rj:dep d<=60) (hA:A.units + 60 < VI){ds:List D}{vs:List V}{us:List T7}(hs:aK K H ds vs) (rs:Vals vs us) (hd:deps ds<=60):
  ∃e:T7->Bool,(∀y∈us,Wl A s y u (e y))/\us.any e=inD d ds:=by refine ⟨Cm K H d,λy hy=>?_,yX F hs rs (by omega)⟩;obtain ⟨d',v',r',q',hd'⟩:=xE hs rs hd hy;rw [Be F r' q' (by omega)];exact m9 F A r' h q' rx (by omega) (by omega) (by omega)
theorem E6 (hu:X.A.units + 64 < VI):c6 X (Vz .In) (NC X.K false):=by
 intro TN s σ H x y v u Q I rx ry h;obtain ⟨d,p,vs,ds,h1,Rj,rfl,h2,h3,h4,q⟩:=h;cases ry;have F:=iw I;rcases h2 with h2 | h2
 ·obtain ⟨TR,r,pl⟩:=F.l _ _ h2;obtain ⟨e,he,hany⟩:=DV (A:=X.A.in1) F h1 rx Rj (by rw [in1_units];omega) h3 r h4;exact SeqAt.in_listAt e pl (λz hz=>he z (by simpa using hz)) ⟨.bl _,H,I,rfl,by rw [show TR.toArray.any e=TR.any e by simp,hany];exact q⟩
 ·obtain ⟨TR,r,pl⟩:=F.t _ _ h2;obtain ⟨e,he,hany⟩:=DV (A:=X.A.in1) F h1 rx Rj (by rw [in1_units];omega) h3 r h4;exact SeqAt.in_tupleAt e pl (λz hz=>he z (by simpa using hz)) ⟨.bl _,H,I,rfl,by rw [show TR.toArray.any e=TR.any e by simp,hany];exact q⟩
noncomputable def j4 (neg:Bool) (x y:R):M R:=iz y >>= λys=>if deps ys<=60/\dep x.dat<=60 then .ok (.d (.bl (if neg then !inD x.dat ys else inD x.dat ys))) else .bad
theorem IF (neg:Bool) (hK:X.K=c.K):BD c (NC X.K neg) (j4 neg):=by
 intro He He' J H x y u v Q hp rx ry w;obtain ⟨ys,q,w⟩:=jf w;obtain ⟨p,vs,rfl,h1,h2⟩:=kR hp ry q;split at w
 ·rename_i hd;exact ⟨x.dat,p,vs,ys,by rw [hK];exact rx.dat hp,hd.2,rfl,by rw [hK];exact h1,by rw [hK];exact h2.mono hp.sub,hd.1,w _ J H (Ext.refl hp.sub) (.bl _)⟩
 ·exact w.elim
abbrev GO:=G (Option Int)
def tO (c:C) (g:GO):TO:=λσ H Q=>∃J env,SR c J H σ env/\cK (g env) (λo=>∀J' H',Ext J H J' H'->Q o H') c.T
def LJ (X:Cx) (c:C) (e:Option UU) (g:GO):Prop:=PO X e (tO c g)
theorem Jf {X:Cx}{e:Option UU}{t t':TO}(h:PO X e t) (k:∀σ H Q,t' σ H Q->t σ H Q):PO X e t':=λTN s σ H Q I q=>h TN s σ H Q I (k σ H Q q)
def uE:GO:=λ_=>.ok none
noncomputable def pP (g:G R):GO:=λenv=>g env >>= λr=>match r with
 | .d (.int i)=>.ok (some i)
 | _=>.bad
def cutD (xs:List D) (lo hi:Option Int):List D:=(xs.drop (HT.bK xs.length 0 lo)).take (HT.bK xs.length xs.length hi - HT.bK xs.length 0 lo)
theorem aK.cut {K:T5}{J:Hp}{xs:List D}{vs:List V}(h:aK K J xs vs) (lo hi:Option Int):aK K J (cutD xs lo hi) (mK vs lo hi):=by unfold cutD mK;rw [h.length];exact (h.drop _).take _
def nj (f:R->Option Int->Option Int->M R) (g:G R) (lo hi:GO):G R:=λenv=>g env >>= λx=>lo env >>= λl=>hi env >>= λu=>f x l u
theorem Jb {r:V->Option Int->Option Int->Hp->VK->Prop}{f:R->Option Int->Option Int->M R}{lo hi:Option UU}{gl gh:GO}{p2:Pos}(hr:rK X r) (hf:∀(He J H:Hp) (x:R) (v:V) (l u:Option Int) (Q:VK),HI c J H->RR c He J H x v->
   cK (f x l u) (λz=>∀w J' H',Ext J H J' H'->RR c H J' H' z w->Q w H') c.T->r v l u H Q) (h:PD X c e g) (hl:LJ X c lo gl) (hh:LJ X c hi gh):PD X c (.Subscript e (.Slice lo hi none p2) pos) (nj f g gl gh):=
 gq (Hz hr h hl hh) λσ H Q ⟨J,env,sr,w⟩=>by refine ⟨J,env,sr,aF (aM w) λx wx v J1 H1 e1 r1=>?_⟩;refine ⟨J1,env,sr.ext e1,aF (aM wx) λl wl J2 H2 e2=>?_⟩;refine ⟨J2,env,(sr.ext e1).ext e2,aF (aM wl) λu wu J3 H3 e3=>?_⟩;have ee:=(e1.trans e2).trans e3;exact hf H J3 H3 x v l u Q (sr.hp.ext ee) ((r1.ext e2).ext e3) (aF wu λz q w J' H' e4 r4=>q w J' H' (ee.trans e4) (RR.from ee.h r4))
def PF (x:R) (l u:Option Int):M R:=jq x >>= λxs=>.ok (.l .fresh (cutD xs l u))
theorem Dv {ss:List Str}:∀{us:List T7},Vals (ss.map V.str) us->StrsAre us ss:=by
 induction ss with
 | nil=>intro us h;cases h;exact .nil
 | cons x r ih=>
  intro us h;cases h with
  | cons q rs=>
   obtain ⟨t,rfl⟩:=q;exact .cons x t (ih rs)
theorem xX:∀{us:List T7}{ss:List Str},StrsAre us ss->Vals (ss.map V.str) us
 | _,_,.nil=>.nil
 | _,_,.cons y t h=>.cons ⟨t,rfl⟩ (xX h)
def j_ (x y:Str):Bool:=decide (x.cps.toList<=y.cps.toList)
def mE (ss:List Str):List Str:=ss.mergeSort j_
theorem xr (x y z:Str) (h1:j_ x y=true) (h2:j_ y z=true):j_ x z=true:=by unfold j_ at *;exact decide_eq_true (List.le_trans (of_decide_eq_true h1) (of_decide_eq_true h2))
theorem EU (x y:Str):(j_ x y || j_ y x)=true:=by
 unfold j_;rw [W_];rcases List.le_total x.cps.toList y.cps.toList with h | h
 ·exact .inl (decide_eq_true h)
 ·exact .inr (decide_eq_true h)
theorem G2 (h1:j_ x y=true) (h2:j_ y x=true):x=y:=by unfold j_ at *;have:=ack (of_decide_eq_true h1) (of_decide_eq_true h2);obtain ⟨⟨cx⟩⟩:=x;obtain ⟨⟨cy⟩⟩:=y;simp only at this;rw [this]
theorem Az (ss:List Str):(mE ss).Pairwise λx y=>j_ x y=true:=List.pairwise_mergeSort xr EU ss
theorem oA (ss:List Str):(mE ss).Perm ss:=List.mergeSort_perm ss j_
theorem uZ:∀(x:Str) (r:List Str),risingS x r=true->(x::r).Pairwise λx y=>j_ x y=true
 | x,[],_=>by simp
 | x,y::r,h=>by
  unfold risingS at h;rw [Ub] at h;have hy:=uZ y r h.2;have hxy:j_ x y=true:=by
   have h1:=h.1;rw [ltCps_eq] at h1;unfold j_;refine decide_eq_true ?_;have:¬y.cps.toList < x.cps.toList:=by simpa using h1
   exact this
  refine WV.mpr ⟨λz hz=>?_,hy⟩;rcases Uw.mp hz with rfl | hz
  ·exact hxy
  ·exact xr x y z hxy ((WV.mp hy).1 z hz)
theorem Dt {ss ss':List Str}(hp:ss'.Perm ss) (hs:sortedS ss'=true):ss'=mE ss:=by
 have pw:ss'.Pairwise λx y=>j_ x y=true:=by
  cases ss' with
  | nil=>exact YJ
  | cons x r=>exact uZ x r hs
 exact (hp.trans (oA ss).symm).eq_of_pairwise (λx y _ _ h1 h2=>G2 h1 h2) pw (Az ss)
theorem zk:cR X (.builtin "sorted") (λxs H Q=>∃p ss,xs=[.ref p]/\cg X.K H p (ss.map V.str)/\ss.length < 64/\∀ss',ss'.Perm ss->sortedS ss'=true->∀l,H l=none->Q (.ref l) (upd H l (.lst (ss'.map V.str)))):=by
 intro TN s σ H xs us Q I r h;obtain ⟨p,ss,rfl,hq,hl,q⟩:=h;obtain ⟨u,rfl,rx⟩:=vals1 r;cases rx;obtain ⟨TR,r',pl,hz⟩:=I.list hq;have hlen:=r'.length;refine sorted_strs pl.isList (Dv r') (by rw [<-hlen,T8];exact hl) λout ss' a1 a2 a3=>?_;obtain ⟨n,hn⟩:=sortedAll_at s.heap TR out;have kp:∀b o,s.heap.get? b=some o->(sortedAll s.heap TR out).get? b=some o:=λb o e=>sortedAll_old e;have fr:H (s.heap.objs.size + 1)=none:=I.hok.fresh (YI _);have ll:(ss'.map V.str).length=(ss.map V.str).length:=by rw [T8,T8,a2.length_eq]
 refine ⟨.ref (s.heap.objs.size + 1),_,I.laid (t':=s.toks) kp (YI _) (show cF X.prog X.w _ _ _ (.lst (ss'.map V.str)) from ⟨by rw [ll];exact hz,out.toList,n,xX a1,by simpa [VF] using hn⟩),rfl,q ss' a2 a3 _ fr⟩
noncomputable def strsOf:List D->Option (List Str)
 | []=>some []
 | .str x::r=>(strsOf r).map (x::·)
 | _::_=>none
theorem vh {K:T5}{J:Hp}:∀{ds:List D}{vs:List V}{ss:List Str},strsOf ds=some ss->aK K J ds vs->vs=ss.map V.str
 | [],_,_,h,.nil=>by cases h;rfl
 | .str x::r,_,ss,h,.cons q rs=>by
  unfold strsOf at h;cases z:strsOf r with
  | none=>rw [z] at h;cases h
  | some ss'=>
   rw [z] at h;cases h;cases q;rw [vh z rs];rfl
theorem xG {K:T5}{J:Hp}:∀(ss:List Str),aK K J (ss.map D.str) (ss.map V.str)
 | []=>.nil
 | x::r=>.cons (.str x) (xG r)
noncomputable def kU:List R->M R
 | [r]=>jq r >>= λxs=>match strsOf xs with
  | some ss=>if ss.length < 64 then .ok (.l .fresh ((mE ss).map .str)) else .bad
  | none=>.bad
 | _=>.bad
theorem ly:Vd "sorted"=some (.builtin "sorted"):=by decide +kernel
theorem foldl_size (c:Array Nat):∀(k:Nat) (acc:Array Nat),((VL k c).foldl (·++·) acc).size=acc.size + k * c.size
 | 0,acc=>by simp
 | k + 1,acc=>by rw [abh,aaB,foldl_size c k,abQ,ab6];omega
def tN (x:Str) (n:Nat):Str:=⟨(VL n x.cps).foldl (·++·) #[]⟩
theorem AW (x:Str) (n:Nat):(tN x n).length=n * x.length:=by unfold tN abM;simp only;rw [foldl_size];simp
theorem Ky:c6 X (Xj .Mult) (λx y H Q=>∃z n,x=.str z/\y=.int n/\0<=n/\n<=1000/\z.length<=1000/\Q (.str (tN z n.toNat)) H):=by
 intro TN s σ H x y v u Q I rx ry h;obtain ⟨z,n,rfl,rfl,h0,h1,h2,q⟩:=h;obtain ⟨t,rfl⟩:=rx;obtain ⟨t',rfl⟩:=ry;have hz:abi (z.length * n.toNat)=false:=by have:z.length * n.toNat<=1000 * 1000:=W0 h2 (by omega);unfold abi;exact decide_eq_false (by have:=U7;omega)
 refine PySem.P.mul_str (by
  rw [decide_eq_false (by omega:¬n < -(2 ^ 63:Int)),decide_eq_false (by omega:¬n ≥ 2 ^ 63)];rfl) (λhn _=>?_) (λ_ _=>hz) ?_
 ·have:(2 ^ 63 - 1:Int) / 1000<=(2 ^ 63 - 1) / n:=by refine (Int.le_ediv_iff_mul_le (by omega)).mpr ?_;have:(2 ^ 63 - 1:Int) / 1000 * n<=(2 ^ 63 - 1:Int) / 1000 * 1000:=Int.mul_le_mul_of_nonneg_left h1 (by decide);exact ab7 this (by decide)
  have e:(2 ^ 63 - 1:Int) / 1000=9223372036854775:=by decide
  omega
 ·split
  ·rename_i hn;have e:n=0:=by omega
   subst e;exact ⟨by decide,.str _,H,I.tok _,⟨_,rfl⟩,q⟩
  ·split
   ·rename_i hn hc;have e:tN z n.toNat=z:=by
     unfold tN;rw [W_] at hc;rcases hc with hc | hc
     ·have e:n=1:=by simpa using hc
      subst e;simp
     ·have e:z.length=0:=by simpa using hc
      have e2:z.cps=#[]:=by unfold abM at e;exact Array.eq_empty_of_size_eq_zero e
      obtain ⟨cz⟩:=z;simp only at e2;subst e2;congr 1;generalize n.toNat=k
      induction k with
      | zero=>rfl
      | succ k ih=>rw [abh,aaB];exact ih
    rw [e] at q;exact ⟨.str z,H,I,⟨_,rfl⟩,q⟩
   ·exact ⟨by
     have:=AW z n.toNat
     unfold tN at this;rw [this,ab8];have:z.length * n.toNat<=1000 * 1000:=W0 h2 (by omega);rw [U7];omega,.str _,H,I.tok _,⟨_,rfl⟩,q⟩
noncomputable def CA:R->R->M R
 | .d (.str z),.d (.int n)=>if 0<=n/\n<=1000/\z.length<=1000 then .ok (.d (.str (tN z n.toNat))) else .bad
 | _,_=>.bad
noncomputable def o7:D->String
 | .non=>"NoneType"
 | .bl _=>"bool"
 | .int _=>"int"
 | .str _=>"str"
 | .tup _=>"tuple"
 | .lst _=>"list"
 | .emp=>"dict"
 | .exn _ _ _=>"exc"
 | .dct _ _=>"dict"
def AA (t T:String):Bool:=t == T || (t == "bool" && T == "int")
noncomputable def EK:R->Bool
 | .d (.int _)=>true
 | _=>false
noncomputable def My:R->Bool
 | .d (.str _)=>true
 | _=>false
def iu (x y:R):M R:=if EK x then vK x y else if My x then ux x y else uy x y
def iM (x y:R):M R:=if EK x then Mk x y else CA x y
noncomputable def aY (x y:R):M R:=match x,y with
 | .d (.str z),.d (.int i)=>if z.length<=sizeLine then (match lq z.cps.toList i with
  | some k=>.ok (.d (.str ⟨#[k]⟩))
  | none=>.bad) else .bad
 | x,.d (.int i)=>iz x >>= λxs=>(match lq xs i with
  | some d=>.ok (.d d)
  | none=>.bad)
 | _,_=>.bad
noncomputable def bE (P:Uv) (w:US) (K:T5) (mg:Str->Option T7) (base:VJ) (k n:Nat) (x:Str) (Fm:List S->M R):Prop:=
 ∃f fd ps,jH P w K mg base oH k f fd ps (qw K n Fm)/\mg x=some (.ref f)/\Xs K (.ref f)=true/\Binds K fd ps []
theorem L5 {P:Uv}{w:US}{K:T5}{mg:Str->Option T7}{base:VJ}{x TX:Str}{st:WM}{f:UA}{fd:UO}{N ps:List Str}{k:Nat}{Fm:List S->M R}(F:oJ K x TX st f fd) (hm:mg x=some (.ref f)) (Sc:ie N ps (bH st))
  (hbi:∀(kV doc pm:T7) (an:Option UA) (cdv ct:T7) (us:List T7),us.length=ps.length->acq (V3 x TX (fY st) (c_ st) (bH st) .none kV doc pm an cdv ct) ⟨us,[]⟩=pure (ps.zip us)){gB:G O}
  (hb:∀(cdv:T7) (A:UW) (outer:List Env) (s:T_) (H:Hp) (E:XK) (J:Hp) (T:Exc->Prop),dX k (A.deeper (ZS TX (bH st) s.heap.objs.size f cdv))->
   LI (Er P w K mg base N TX (bH st) f cdv A outer s H E) ⟨K,H,J,T⟩ (c_ st) gB)
  (hF:∀as r,as.length=ps.length->Fm as=.ok r->fin (gB (a_ N as))=.ok r):bE P w K mg base (k + 1) ps.length x Fm:=
 ⟨f,fd,ps,Ml F Sc hb hF,hm,F.kp,F.binds hbi⟩
noncomputable def Hh:List Str->Bool
 | []=>true
 | x::r=>!(r.contains x) && Hh r
theorem bR:∀{l:List Str},Hh l=true->l.Nodup
 | [],_=>Wz
 | x::r,h=>by unfold Hh at h;rw [Ub] at h;refine WH.mpr ⟨λz=>?_,bR h.2⟩;have:=h.1;simp [z] at this
theorem GG {H:Hp}{s:T_}{a C:UA}{dx:Option UA}(I:L2.Inv X TN σ H s) (h:H a=some (DX.XO a C dx)) (xf:XF H dx ns vs):∃ox od,XZ s.heap a ox C od/\od.isSome=dx.isSome/\(∀d,dx=some d->∃o,od=some o/\s.heap.get? d=some o):=by
 obtain ⟨⟨oe,fs,h1,h2,h3,h4⟩,_⟩:=I.hok a _ h;have hn:ac3 oe=true:=by unfold ac3;rw [h4]
 rcases xf with ⟨rfl,_⟩ | ⟨d,rfl,_,hd⟩
 ·exact ⟨oe,none,⟨h1,h2,hn,by rw [h3];exact aaX⟩,rfl,λd z=>by cases z⟩
 ·obtain ⟨m,⟨o,es,ep,k1,_⟩,_⟩:=I.hok d _ hd;exact ⟨oe,some o,⟨h1,h2,hn,by rw [h3];exact k1⟩,rfl,λd' z=>by cases z;exact ⟨o,rfl,k1⟩⟩
noncomputable def A6 (T:String):Prop:=(∀(K:T5) (t:String),t∈["NoneType","bool","int","str","tuple","list","dict"]->aa6 K (.type t) (.type T)=some (AA t T))/\acA T=true/\DX.AE.contains (.type T)=false/\AA "exc" T=false
theorem Kf:A6 "int":=⟨λK t h=>by
 simp only [Uw,VP,or_false] at h;rcases h with rfl | rfl | rfl | rfl | rfl | rfl | rfl <;> rfl,by decide +kernel,by decide,by decide⟩
theorem tE:A6 "bool":=⟨λK t h=>by
 simp only [Uw,VP,or_false] at h;rcases h with rfl | rfl | rfl | rfl | rfl | rfl | rfl <;> rfl,by decide +kernel,by decide,by decide⟩
theorem kit_tuple:A6 "tuple":=⟨λK t h=>by
 simp only [Uw,VP,or_false] at h;rcases h with rfl | rfl | rfl | rfl | rfl | rfl | rfl <;> rfl,by decide +kernel,by decide,by decide⟩
theorem zU:A6 "list":=⟨λK t h=>by
 simp only [Uw,VP,or_false] at h;rcases h with rfl | rfl | rfl | rfl | rfl | rfl | rfl <;> rfl,by decide +kernel,by decide,by decide⟩
theorem AO {T:String}(kit:A6 T):
  cR X (.builtin "isinstance") (λxs H Q=>∃d x,xs=[x,.ty T]/\Rep X.K H d x/\Q (.bl (AA (o7 d) T)) H):=by
 intro TN s σ H xs us Q I r h;obtain ⟨d,x,rfl,hd,q⟩:=h;obtain ⟨u,w',rfl,rx,ry⟩:=vals2 r;cases ry;have fin:∀tk,EP X TN σ Q (.bool (AA (o7 d) T)) {s with toks:=tk}:=λtk=>⟨.bl _,H,I.tok tk,rfl,q⟩;have F:=iw I;cases hd with
 | non=>cases rx;exact Wj W.kitx_none I.kIn aaX (kit.1 X.K _ (by simp [o7])) (λz=>nomatch z) fin
 | bl y=>cases rx;exact Wj W.kitx_bool I.kIn aaX (kit.1 X.K _ (by simp [o7])) (λz=>nomatch z) fin
 | int i=>obtain ⟨t,rfl⟩:=rx;exact Wj W.kitx_int I.kIn aaX (kit.1 X.K _ (by simp [o7])) (λz=>nomatch z) fin
 | str y=>obtain ⟨t,rfl⟩:=rx;exact Wj W.kitx_str I.kIn aaX (kit.1 X.K _ (by simp [o7])) (λz=>nomatch z) fin
 | tup h hs=>
  cases rx;obtain ⟨TR,r,o,h1,h2,_⟩:=F.t _ _ h;exact Wj W.kitx_tuple I.kIn ⟨o,h1,h2⟩ (kit.1 X.K _ (by simp [o7])) (λz=>nomatch z) fin
 | lst h hs=>
  cases rx;obtain ⟨TR,r,o,h1,h2,_⟩:=F.l _ _ h;exact Wj W.kitx_list I.kIn ⟨o,h1,h2⟩ (kit.1 X.K _ (by simp [o7])) (λz=>nomatch z) fin
 | emp h=>
  cases rx;obtain ⟨o,h1,h2⟩:=F.e _ h;exact Wj abR I.kIn ⟨o,h1,h2⟩ (kit.1 X.K _ (by simp [o7])) (λz=>nomatch z) fin
 | dct h _ _ _ _=>
  cases rx;obtain ⟨o,es,h1,h2,_⟩:=F.d _ _ _ h;exact Wj abR I.kIn ⟨o,h1,h2.1⟩ (kit.1 X.K _ (by simp [o7])) (λz=>nomatch z) fin
 | exn h1 h2 h3 hs hx=>
  cases rx;obtain ⟨P,G,E⟩:=hx;obtain ⟨ox,od,J,_⟩:=GG I h1 h3;simp only [o7,kit.2.2.2] at fin;exact Wj (DX.GZ G E) I.kIn ⟨ox,od,J⟩ (DX.MM E kit.2.1 kit.2.2.1) (λz=>nomatch z) fin
def uD (T:String) (g:G R):G R:=λenv=>g env >>= λr=>.ok (.d (.bl (AA (o7 r.dat) T)))
noncomputable def jY:List D->Option (List Bool)
 | []=>some []
 | .bl k::r=>(jY r).map (k::·)
 | _::_=>none
theorem pJ {K:T5}{J:Hp}:∀{ds:List D}{vs:List V}{ks:List Bool},jY ds=some ks->aK K J ds vs->vs=ks.map V.bl
 | [],_,_,h,.nil=>by cases h;rfl
 | .bl x::r,_,ks,h,.cons q rs=>by
  unfold jY at h;cases z:jY r with
  | none=>rw [z] at h;cases h
  | some ks'=>
   rw [z] at h;cases h;cases q;rw [pJ z rs];rfl
theorem tX:∀{ks:List Bool}{us:List T7},Vals (ks.map V.bl) us->us=ks.map WN
 | [],_,.nil=>rfl
 | k::ks,_,.cons r rs=>by cases r;rw [tX rs];rfl
theorem all_range (ks:List Bool):(Ue ks.length).all (λi=>ks.getD i true)=ks.all id:=by
 induction ks with
 | nil=>rfl
 | cons k r ih=>
  rw [U4,YB,We,Y0,We];simp only [abj];rw [<-ih];rfl
theorem Ea (hc:X.calm=true):cR X (.builtin "all") (λxs H Q=>∃(p:UA) (ks:List Bool),xs=[.ref p]/\cg X.K H p (ks.map V.bl)/\Q (.bl (ks.all id)) H):=by
 intro TN s σ H xs us Q I r h;obtain ⟨p,ks,rfl,hq,q⟩:=h;obtain ⟨u,rfl,rx⟩:=vals1 r;cases rx;obtain ⟨TR,r',pl,hz⟩:=I.list hq;have hi:=tX r';subst hi;have Su:p≠s.heap.objs.size:=by obtain ⟨o,h1,_⟩:=pl.isList;exact UE (Uq h1)
 refine call_all_walk (XN pl.isList ⟨s.heap.objs.size,_,_,_,_,_,(λi=>ks.getD i true),rfl,abS (A:=X.A.in1) (show X.A.in1.handled=none from I.ok.hd hc) s.heap.objs.size p Su (ks.map WN).toArray,⟨⟨_,Uh _ rfl,rfl,rfl⟩,acm pl.isList _⟩,?_,λh' tk k=>?_⟩)
 ·intro i v s' Q' E' hP hQ;have e:∃k,ks[i]?=some k/\v=.bool k:=by
   have hP':(ks.map WN)[i]?=some v:=by simpa using hP
   rw [UK] at hP';cases z:ks[i]? with
   | none=>rw [z] at hP';cases hP'
   | some k=>rw [z] at hP';cases hP';exact ⟨k,rfl,rfl⟩
  obtain ⟨k,e1,rfl⟩:=e;simp only at hQ;rw [VB,e1] at hQ;exact Vg hQ
 ·have sz:(ks.map WN).toArray.size=ks.length:=by simp
  rw [sz,all_range];refine ⟨.bl (ks.all id),H,?_,rfl,q⟩;refine I.kept λb o e=>k b o (λz=>?_) (T9 _ e);have:b=s.heap.objs.size:=by simpa using z
  exact absurd (this▸Uq e) (Wb _)
noncomputable def pM:List R->M R
 | [r]=>jq r >>= λxs=>match jY xs with
  | some ks=>.ok (.d (.bl (ks.all id)))
  | none=>.bad
 | _=>.bad
theorem D6:Vd "all"=some (.builtin "all"):=by decide +kernel
noncomputable def QF (neg:Bool):R->R->M R
 | .d (.str i),.d (.str j)=>.ok (.d (.bl (if neg then !(!(Z7 j i 0 j.length 1).isEmpty) else !(Z7 j i 0 j.length 1).isEmpty)))
 | _,_=>.bad
noncomputable def QK (p q:Int->Int->Bool) (ga gb gc:G R):G R:=λenv=>ga env >>= λx=>gb env >>= λy=>match x,y with
 | .d (.int i),.d (.int j)=>if p i j then (gc env >>= λz=>match z with
  | .d (.int k)=>.ok (.d (.bl (q j k)))
  | _=>.bad) else .ok (.d (.bl false))
 | _,_=>.bad
noncomputable def Cz:List R->M R
 | [.d (.int i),.d (.int j)]=>.ok (.d (.int (if j > i then j else i)))
 | _=>.bad
theorem KI (hm:X.mg x=some u) (r:RelV v u) (hr:∀J,Rep c.K J d v) (hg:Gl X x:=by rfl) (hd:(x == ("__debug__":Str))=false:=by decide):PD X c (.Name x pos) (gC d):=uW hr (BO hg hm r hd)
theorem D3 {H:Hp}{s:T_}(I:Inv X TN σ H s):WB < s.heap.objs.size:=by have h:UL < s.heap.objs.size:=(I.mod.glob.keeps I.bk).lt;exact Xh (by decide) h
theorem E4:c6 X (Xj .Add) (λx y H Q=>∃a b xs ys,x=.ref a/\y=.ref b/\c7 X.K H a xs/\c7 X.K H b ys/\xs.length + ys.length<=sizeLine/\
  (xs=[]->Q (.ref b) H)/\(ys=[]->Q (.ref a) H)/\∀p,H p=none->Q (.ref p) (upd H p (.tup (xs++ys)))):=by
 intro TN s σ H x y v u Q I rx ry h;obtain ⟨a,b,xs,ys,rfl,rfl,ha,hb,hz,q0,q1,q2⟩:=h;by_cases hx:xs=[]
 ·cases rx;cases ry;obtain ⟨TR,r1,p1,_⟩:=I.tuple ha;obtain ⟨its2,r2,p2,_⟩:=I.tuple hb;have he:TR=[]:=r1.nil_iff.mpr hx;subst he;obtain ⟨⟨cls,dd,data,sl⟩,ho,hc,n,hd⟩:=id p1;obtain ⟨⟨cls2,dd2,data2,sl2⟩,ho2,hc2,n2,hd2⟩:=id p2;simp only at hc hd hc2 hd2;subst hc hd hc2 hd2;exact aax ⟨_,ho,rfl⟩ ⟨_,ho2,rfl⟩ aae abr Yz Yk (Ye _ _) (tuple_addW0 a b _ _ n n2 dd dd2 sl sl2 rfl) ⟨ho,ho2,⟨.ref b,H,I,rfl,q0 hx⟩⟩
 ·exact Kv TN s σ H (.ref a) (.ref b) v u Q I rx ry ⟨a,b,xs,ys,rfl,rfl,ha,hb,hx,hz,q1,λ_=>q2⟩
noncomputable def Cy:R->R->M R
 | .d (.tup xs),.d (.tup ys)=>if xs.length + ys.length<=sizeLine then .ok (.d (.tup (xs++ys))) else .bad
 | _,_=>.bad
theorem JH (hK:X.K=c.K):BD c (λx y H Q=>∃a b xs ys,x=.ref a/\y=.ref b/\c7 X.K H a xs/\c7 X.K H b ys/\xs.length + ys.length<=sizeLine/\
  (xs=[]->Q (.ref b) H)/\(ys=[]->Q (.ref a) H)/\∀p,H p=none->Q (.ref p) (upd H p (.tup (xs++ys)))) Cy:=by
 intro He He' J H x y u v Q hp rx ry w;unfold Cy at w;split at w
 ·rename_i ds es;cases rx with
  | tup h1 s1=>
   cases ry with
   | tup h2 s2=>
    split at w
    ·rename_i hz;rw [s1.length,s2.length] at hz;refine ⟨_,_,_,_,rfl,rfl,by rw [hK];exact fU hp.sub h1,by rw [hK];exact fU hp.sub h2,hz,λe=>?_,λe=>?_,λp hp'=>w _ _ _ (Ext.newJ hp.sub hp' _) (ql hp hp' (s1.append s2))⟩
     ·have e':ds=[]:=Za (by rw [s1.length,e];rfl);subst e';exact w _ J H (Ext.refl hp.sub) (.tup h2 s2)
     ·have e':es=[]:=Za (by rw [s2.length,e];rfl);subst e';rw [WG] at w;exact w _ J H (Ext.refl hp.sub) (.tup h1 s1)
    ·exact w.elim
 ·exact w.elim
noncomputable def Mz:R->Bool
 | .d (.tup _)=>true
 | _=>false
def cH (x y:R):M R:=if Mz x then Cy x y else iu x y
noncomputable def intsOf:List D->Option (List Int)
 | []=>some []
 | .int i::r=>(intsOf r).map (i::·)
 | _::_=>none
theorem kI {K:T5}{J:Hp}:∀{ds:List D}{vs:List V}{ns:List Int},intsOf ds=some ns->aK K J ds vs->vs=ns.map V.int
 | [],_,_,h,.nil=>by cases h;rfl
 | .int x::r,_,ks,h,.cons q rs=>by
  unfold intsOf at h;cases z:intsOf r with
  | none=>rw [z] at h;cases h
  | some ks'=>
   rw [z] at h;cases h;cases q;rw [kI z rs];rfl
def signs (x:Str):List D:=x.cps.toList.map λk=>.str ⟨#[k]⟩
noncomputable def QG (g:G R):G (List D):=λenv=>g env >>= λr=>match r with
 | .d (.str x)=>.ok (signs x)
 | _=>.bad
theorem AZ {prog:Uv}{w:US}{A:UW}{E:T7->T_->Prop}{s:T_}{t sl:UA}{TQ:Array T7}{vl vu:T7}{lo hi:Option Int}{Q:T7->T_->Prop}(ht:adV s.heap t TQ) (hs:s.heap.IsSliceOf sl vl vu .none) (pl:abt vl lo) (pu:abt vu hi)
  (hw:HT.bK TQ.size 0 lo=0/\HT.bK TQ.size TQ.size hi=TQ.size) (h:Q (.ref t) s):Uu (UB prog w) A (abJ (.ref t) (.ref sl)) Q E s:=by
 obtain ⟨os,hos,hcs,hds⟩:=id hs;have R9:s.TypeIs (.ref sl) "slice":=⟨os,hos,hcs⟩;unfold abJ
 try with_reducible refine UN ?_
 first | refine T4 (T6 ?_) | skip
 refine T4 (abK ht.typeIs (by decide) ?_);refine T4 (Vk (name:=XC "__getitem__") ht.typeIs Vh
  (U0 Vh ht.typeIs abf ?_ (abv _ _)))
 show Uu _ _ (XU (.ref t) >>= _) _ _ s;refine T4 (adA ht ?_);refine T4 (YY R9 ?_);rw [if_pos (by decide)];refine T4 (HT.lN hs pl pu ?_);have hyes:(((HT.bK TQ.size 0 lo:Nat):Int) == 0 && (1:Int) == 1 && (HT.bK TQ.size TQ.size hi - HT.bK TQ.size 0 lo) == TQ.size)=true:=by rw [hw.1,hw.2];simp
 show Uu _ _ (if (((HT.bK TQ.size 0 lo:Nat):Int) == 0 && (1:Int) == 1 && (HT.bK TQ.size TQ.size hi - HT.bK TQ.size 0 lo) == TQ.size)=true then _ else _) _ _ s;rw [if_pos hyes];unfold acW;refine T4 (T4 (YY ht.typeIs (T6 ?_)));rw [if_pos (by decide)];exact T4 (Zn (T6 ⟨_,rfl,T6 h⟩))
theorem FU:rK X (λx lo hi H Q=>∃a xs,x=.ref a/\c7 X.K H a xs/\((HT.bK xs.length 0 lo=0/\HT.bK xs.length xs.length hi=xs.length)->Q (.ref a) H)/\∀p,H p=none->Q (.ref p) (upd H p (.tup (mK xs lo hi)))):=by
 intro TN s σ H x v vl vu lo hi sl Q I rx hs pl pu h;obtain ⟨a,xs,rfl,hx,q0,q1⟩:=h;by_cases hw:HT.bK xs.length 0 lo=0/\HT.bK xs.length xs.length hi=xs.length
 ·cases rx;obtain ⟨TR,r,ht,hz⟩:=I.tuple hx;have hlen:TR.toArray.size=xs.length:=by rw [Ug];exact r.length.symm
  exact ⟨"tuple",_,Vh.lookup,ht.typeIs,AZ ht hs pl pu (by rw [hlen];exact hw) ⟨.ref a,H,I,rfl,q0 hw⟩⟩
 ·exact NL TN s σ H (.ref a) v vl vu lo hi sl Q I rx hs pl pu ⟨a,xs,rfl,hx,hw,q1⟩
theorem Cu {xs:List D}{lo hi:Option Int}(h:HT.bK xs.length 0 lo=0/\HT.bK xs.length xs.length hi=xs.length):cutD xs lo hi=xs:=by unfold cutD;rw [h.1,h.2];simp
noncomputable def GH:R->Option Int->Option Int->M R
 | .d (.tup xs),l,u=>.ok (.d (.tup (cutD xs l u)))
 | _,_,_=>.bad
theorem P7 (hK:X.K=c.K) (He J H:Hp) (x:R) (v:V) (l u:Option Int) (Q:VK) (hp:HI c J H) (rx:RR c He J H x v) (w:cK (GH x l u) (λz=>∀w J' H',Ext J H J' H'->RR c H J' H' z w->Q w H') c.T):
  ∃a xs,v=.ref a/\c7 X.K H a xs/\((HT.bK xs.length 0 l=0/\HT.bK xs.length xs.length u=xs.length)->Q (.ref a) H)/\∀p,H p=none->Q (.ref p) (upd H p (.tup (mK xs l u))):=by
 unfold GH at w;split at w
 ·rename_i ds;cases rx with
  | tup h1 s1=>
   refine ⟨_,_,rfl,by rw [hK];exact fU hp.sub h1,λhw=>?_,λp hp'=>w _ _ _ (Ext.newJ hp.sub hp' _) (ql hp hp' (s1.cut _ _))⟩;rw [<-s1.length] at hw;rw [Cu hw] at w;exact w _ J H (Ext.refl hp.sub) (.tup h1 s1)
 ·exact w.elim
def zH (x:R) (l u:Option Int):M R:=if Mz x then GH x l u else PF x l u
def Cc (K:T5) (mg:Str->Option T7) (x:Str) (d:D):Prop:=∃u v,mg x=some u/\RelV v u/\∀J,Rep K J d v
theorem D8:Vd "int"=some (.type "int"):=by decide +kernel
theorem nT:Vd "bool"=some (.type "bool"):=by decide +kernel
theorem rO:Vd "tuple"=some (.type "tuple"):=by decide +kernel
theorem ug:Vd "list"=some (.type "list"):=by decide +kernel
end
section
variable {X:Cx}{c:C}{e a b tg:UU}{es:List UU}{ga gb g:G R}{pos:Pos}{st:WM}{t u:G O}{tb:G Bool}
def yy:G O:=λ_=>.bad
noncomputable def sY (g:G R):G R:=λenv=>g env >>= λr=>match r with
 | .d (.int i)=>.ok (.d (.int (-i)))
 | _=>.bad
noncomputable def Ik:R->M Bool
 | .d .non=>.ok false
 | .d (.bl b)=>.ok b
 | .d (.int i)=>.ok (i != 0)
 | .d (.str y)=>if y.length<=sizeLine then .ok ((y.length:Int) != 0) else .bad
 | .d (.tup xs)=>.ok (!xs.isEmpty)
 | .d (.lst xs)=>.ok (!xs.isEmpty)
 | .d .emp=>.ok false
 | .d (.exn _ _ _)=>.bad
 | .d (.dct _ _)=>.bad
 | .l _ xs=>.ok (!xs.isEmpty)
 | _=>.bad
theorem Mx {K:T5}{J:Hp}{ds:List D}{vs:List V}(h:aK K J ds vs):ds.isEmpty=vs.isEmpty:=by cases h <;> rfl
theorem Lm {He J H:Hp}(hp:HI c J H){Q:Bool->Prop}{T:Exc->Prop}:∀{r:R}{v:V},RR c He J H r v->cK (Ik r) Q T->∃k,Gp c.K v H k/\Q k
 | .d .non,_,h,w=>by cases h;exact ⟨_,rfl,w⟩
 | .d (.bl b),_,h,w=>by cases h;exact ⟨_,rfl,w⟩
 | .d (.int i),_,h,w=>by cases h;exact ⟨_,rfl,w⟩
 | .d (.str y),_,h,w=>by
  cases h;unfold Ik at w;simp only at w;split at w
  ·rename_i hz;exact ⟨_,⟨hz,rfl⟩,w⟩
  ·exact w.elim
 | .d (.tup xs),_,h,w=>by
  cases h with
  | tup h1 h2=>exact ⟨_,.inr (.inl ⟨_,fU hp.sub h1,rfl⟩),by rw [<-Mx h2];exact w⟩
 | .d (.lst xs),_,h,w=>by
  cases h with
  | lst h1 h2=>exact ⟨_,.inl ⟨_,hp.sub.seq h1,rfl⟩,by rw [<-Mx h2];exact w⟩
 | .d .emp,_,h,w=>by
  cases h with
  | emp h1=>exact ⟨_,.inr (.inr ⟨_,hp.sub _ _ h1,rfl⟩),w⟩
 | .d (.exn _ _ _),_,_,w=>w.elim
 | .d (.dct _ _),_,_,w=>w.elim
 | .mo _ _,_,_,w=>w.elim
 | .mb _ _,_,_,w=>w.elim
 | .mf _ _,_,_,w=>w.elim
 | .ln _,_,_,w=>w.elim
 | .l m xs,_,h,w=>by obtain ⟨a,vs,rfl,h1,h2⟩:=RR.list hp h rfl;exact ⟨_,.inl ⟨_,h1,rfl⟩,by rw [<-Mx h2];exact w⟩
def s_ (g:G R):G Bool:=λenv=>g env >>= Ik
noncomputable def lQ (tb:G Bool) (u:G O):Nat->Ev->M O
 | 0,_=>.bad
 | n + 1,env=>tb env >>= λk=>if k=true then u env >>= λo=>(match o with
  | .nx e=>lQ tb u n e
  | .ct e=>lQ tb u n e
  | .bk e=>.ok (.nx e)
  | .rt r=>.ok (.rt r)) else .ok (.nx env)
def uF (n:Nat) (tb:G Bool) (u:G O):G O:=λenv=>lQ tb u n env
theorem aK.eraseIdx {K:T5}{J:Hp}:∀{ds:List D}{vs:List V}(k:Nat),aK K J ds vs->aK K J (ds.eraseIdx k) (vs.eraseIdx k)
 | _,_,_,.nil=>by rw [abT,abT];exact .nil
 | _,_,0,.cons _ t=>t
 | _,_,k + 1,.cons r t=>.cons r (aK.eraseIdx k t)
noncomputable def QI (i j:Nat):G O:=λenv=>match env[j]? with
 | some (some (.own xs))=>(match xs[xs.length - 1]? with
  | some d=>.ok (.nx ((env.set j (some (.own xs.dropLast))).set i (some (.d d))))
  | none=>.bad)
 | _=>.bad
noncomputable def ni (i j:Nat) (g:G R):G O:=λenv=>match env[i]?,env[j]? with
 | some (some (.own zs)),some (some (.own xs))=>if i=j then .bad else g env >>= λr=>(match r with
  | .d (.int k)=>if 0<=k/\k.toNat < xs.length/\zs.length < sizeLine/\xs.length<=sizeLine then (match xs[k.toNat]? with
   | some d=>.ok (.nx ((env.set j (some (.own (xs.eraseIdx k.toNat)))).set i (some (.own (zs++[d])))))
   | none=>.bad) else .bad
  | _=>.bad)
 | _,_=>.bad
theorem OL {k:Int}{n:Nat}(h0:0<=k) (h:k.toNat < n):abw k n=some k.toNat:=by
 unfold abw;have h1:¬k < 0:=by omega
 have h2:k < n:=by omega
 simp [h1,h0,h2]
theorem M_ {J H:Hp}{σ:L2.St}{env:Ev}(sr:SR c J H σ env){i j:Nat}{xs ys:List D}{p q:UA}(hij:i≠j) (hi:env[i]?=some (some (.own xs))) (hj:env[j]?=some (some (.own ys))) (h1:σ[i]?=some (some (.ref p))) (h2:σ[j]?=some (some (.ref q))):p≠q:=λz=>
 sr.sep i j (.inl xs) (.inl ys) (.ref p) hij hi hj h1 (z▸h2)
end
open PySem.AutoSeq1 in
theorem Ew (T:String) (hT:T="tuple"\/T="list") (l b:UA) (xs ys:Array T7) (n m:Nat) (dd:Option UA) (sl:Array (Option T7)) (z0:¬(!xs.isEmpty && Wm (xs.size + ys.size))=true) (z1:xs.size<=sizeLine) (z2:xs.size + ys.size<=sizeLine + 1):
  Meets (Xv.«list.extend» ⟨[.ref l,.ref b],[]⟩) λ_ R s=>s.heap.get? l=some {cls:=.type "list",dict:=none,data:=.seq xs n,slots:=#[]}/\
   s.heap.get? b=some {cls:=.type T,dict:=dd,data:=.seq ys m,slots:=sl}/\R (.ok (.ret UY)) {s with heap:=s.heap.update l (Vj λx=>x++ys),toks:=s.toks}:=
 .of_wp λprog w A R s h=>by
  obtain ⟨hp,gs,dr,tk,os⟩:=s;obtain ⟨h1,h2,h3⟩:=h;have t1:=AutoSeq1.idx_int;have t2:=Yg;have t3:=AutoSeq1.sub_list_list;have t4:=AutoSeq1.sub_tuple_list;have t5:=AutoSeq1.sub_list_tuple;have z3:(xs++ys).size<=sizeLine + 1:=by rw [abQ];exact z2
  rcases hT with rfl | rfl
  ·wp_walk using (Xa h1 rfl (hz:=z1) (_hz':=z3)),WJ h1,WJ h2
   exact ⟨_,rfl,h3⟩
  ·wp_walk using (Xa h1 rfl (hz:=z1) (_hz':=z3)),WJ h1,WJ h2
   exact ⟨_,rfl,h3⟩
section
variable {X:Cx}{c:C}{e a b tg:UU}{es:List UU}{ga gb g:G R}{pos:Pos}
noncomputable def PV (K:T5):V->List V->Hp->VK->Prop:=λx vs H Q=>∃l b xs zs,x=.ref l/\vs=[.ref b]/\H l=some (.lst xs)/\(cg K H b zs\/c7 K H b zs)/\xs.length + zs.length<=sizeLine/\Q .non (upd H l (.lst (xs++zs)))
theorem MU:DO X "list.extend" (PV X.K):=by
 intro TN s σ H x vs v us Q I rx rv h;obtain ⟨l,b,xs,zs,rfl,rfl,hH,hB,hz,q⟩:=h;cases rx;obtain ⟨u,rfl,ru⟩:=rv.one;cases ru;obtain ⟨z,TR,n,r,hl,e⟩:=I.lstM hH;have obj:∃T its2,(T="tuple"\/T="list")/\Vals zs its2/\∃dd m sl,s.heap.get? b=some {cls:=.type T,dict:=dd,data:=.seq its2.toArray m,slots:=sl}:=by
  rcases hB with hB | hB
  ·obtain ⟨its2,r2,pl,_⟩:=I.list hB;obtain ⟨⟨cls,dd,data,sl⟩,ho,hc,m,hd⟩:=pl.isList;simp only at hc hd;subst hc hd;exact ⟨"list",its2,.inr rfl,r2,dd,m,sl,ho⟩
  ·obtain ⟨its2,r2,pl,_⟩:=I.tuple hB;obtain ⟨⟨cls,dd,data,sl⟩,ho,hc,m,hd⟩:=pl;simp only at hc hd;subst hc hd;exact ⟨"tuple",its2,.inl rfl,r2,dd,m,sl,ho⟩
 obtain ⟨T,its2,hT,r2,dd,m,sl,e2⟩:=obj;have hl2:=r2.length;have hsz:TR.toArray.size + its2.toArray.size<=sizeLine:=by rw [Ug,Ug];omega
 have Rw:¬(!TR.toArray.isEmpty && Wm (TR.toArray.size + its2.toArray.size))=true:=by rw [Ac hsz,Xu];exact UH
 refine aaW abx ⟨_,e,rfl⟩ abg (aa0 _ _) (Ew T hT l b TR.toArray its2.toArray n m dd sl Rw (by rw [Ug];omega) (by omega)) ⟨e,e2,?_⟩;refine ⟨.non,_,I.lset (its':=TR++its2) hH e (by simp) (r.append r2) ?_,rfl,q⟩;rw [Uo];omega
noncomputable def vN (i:Nat) (g:G R):G O:=λenv=>match env[i]? with
 | some (some (.own xs))=>g env >>= λr=>iz r >>= λys=>if xs.length + ys.length<=sizeLine then .ok (.nx (env.set i (some (.own (xs++ys))))) else .bad
 | _=>.bad
noncomputable def tG:V->Option (Option Bool)
 | .non=>some none
 | .bl k=>some (some k)
 | _=>none
theorem Au (rx:RelV x v) (ry:RelV y u) (h:tG y=some o):isSame v u=pure (tG x == some o):=by
 cases y with
 | non=>
  cases h;cases ry;cases x with
  | non=>cases rx;rfl
  | bl k=>cases rx;rfl
  | int i=>obtain ⟨t,rfl⟩:=rx;rfl
  | str z=>obtain ⟨t,rfl⟩:=rx;rfl
  | byt z=>obtain ⟨t,rfl⟩:=rx;rfl
  | flt z=>obtain ⟨t,rfl⟩:=rx;rfl
  | ref p=>cases rx;rfl
  | ty n=>cases rx;rfl
 | bl k'=>
  cases h;cases ry;cases x with
  | non=>cases rx;rfl
  | bl k=>cases rx;cases k <;> cases k' <;> rfl
  | int i=>obtain ⟨t,rfl⟩:=rx;rfl
  | str z=>obtain ⟨t,rfl⟩:=rx;rfl
  | byt z=>obtain ⟨t,rfl⟩:=rx;rfl
  | flt z=>obtain ⟨t,rfl⟩:=rx;rfl
  | ref p=>cases rx;rfl
  | ty n=>cases rx;rfl
 | _=>cases h
theorem E8:c6 X (Vz .Is) (λx y H Q=>∃o,tG y=some o/\Q (.bl (tG x == some o)) H):=by intro TN s σ H x y v u Q I rx ry h;obtain ⟨o,ho,q⟩:=h;show Uu _ _ (do return WN (<-isSame v u)) _ _ s;rw [Au rx ry ho];exact T4 (T6 (T6 ⟨.bl _,H,I,rfl,q⟩))
theorem E9:c6 X (Vz .IsNot) (λx y H Q=>∃o,tG y=some o/\Q (.bl (!(tG x == some o))) H):=by intro TN s σ H x y v u Q I rx ry h;obtain ⟨o,ho,q⟩:=h;show Uu _ _ (do return WN (!(<-isSame v u))) _ _ s;rw [Au rx ry ho];exact T4 (T6 (T6 ⟨.bl _,H,I,rfl,q⟩))
noncomputable def Dd:R->Option (Option Bool)
 | .d .non=>some none
 | .d (.bl k)=>some (some k)
 | _=>none
noncomputable def nc (neg:Bool) (x y:R):M R:=match Dd y with
 | some o=>.ok (.d (.bl (if neg then !(Dd x == some o) else Dd x == some o)))
 | none=>.bad
theorem kX {He J H:Hp}:∀{r:R}{v:V},RR c He J H r v->tG v=Dd r
 | .d .non,_,h=>by cases h;rfl
 | .d (.bl _),_,h=>by cases h;rfl
 | .d (.int _),_,h=>by cases h;rfl
 | .d (.str _),_,h=>by cases h;rfl
 | .d (.tup _),_,h=>by cases h;rfl
 | .d (.lst _),_,h=>by cases h;rfl
 | .d .emp,_,h=>by cases h;rfl
 | .d (.exn _ _ _),_,h=>by cases h;rfl
 | .d (.dct _ _),_,h=>by cases h;rfl
 | .l .fresh _,_,h=>by obtain ⟨_,_,rfl,_⟩:=h;rfl
 | .l .own _,_,h=>by obtain ⟨_,_,rfl,_⟩:=h;rfl
 | .l .bor _,_,h=>by obtain ⟨_,_,rfl,_⟩:=h;rfl
 | .mo _ _,_,h=>by obtain ⟨_,rfl,_⟩:=h;rfl
 | .mb _ _,_,h=>by obtain ⟨_,rfl,_⟩:=h;rfl
 | .mf _ _,_,h=>by obtain ⟨_,rfl,_⟩:=h;rfl
 | .ln _,_,h=>by obtain ⟨_,_,rfl,_⟩:=h;rfl
end
def jw (m:Int) (ns:List Int):Int:=ns.foldl (λm b=>if b > m then b else m) m
section
variable {prog:Uv}{w:US}{A:UW}{R:ab3->T_->Prop}{I:UA}{fp wr:List UA}{St:Nat->VJ->Prop}{us:Array T7}{ns:List Int}{S:UA}{dv:T7}
theorem uS:(toString "max"++toString ".loop":String)="max.loop":=by decide
theorem Mt {a b:Int}{t u:Tok}{s:T_}{Q:T7->T_->Prop}{E:T7->T_->Prop}(h:Q (.bool (decide (a > b))) s):Uu (UB prog w) A (abk .Gt (.int a t) (.int b u)) Q E s:=
 richCompare_gives (op:=.Gt) (adl s a t) (adl s b u) F.slot_int_gt F.entry_int_gt (F.args_int_gt_2 _ _) (gives_int_gt _ _ t u) (λz=>nomatch z) h
theorem Kq (W:Walks prog w A.in1 I fp wr us.size (λi v=>us[i]?=some v) St) (hSf:S∉fp) (hu:∀(i:Nat) (v:T7),us[i]?=some v->∃t,v=.int (ns.getD i 0) t) (hl:us.size=ns.length):
  ∀(k j:Nat) (s:T_) (m:Int) (t:Tok) (c:Nat),ns.length - (j + 1)=k->j + 1<=ns.length->St (j + 1) s.heap->s.heap.get? S=some {cls:=.type "list",dict:=none,data:=.seq #[.int m t,.int m t] c,slots:=#[]}->
  (∀(t':Tok) (h':VJ) (tk:Nat),(∀b o,b∉wr->b≠S->s.heap.get? b=some o->h'.get? b=some o)->R (.ok (.ret (.int (jw m (ns.drop (j + 1))) t'))) {s with heap:=h',toks:=tk})->
  Wh (UB prog w) A (.builtin "max.loop" ⟨[.ref I,.none,.ref S],[("default",dv)]⟩) R s:=by
 have RL:S∉wr:=λz=>hSf (W.sub _ z);intro k
 induction k with
 | zero=>
  intro j s m t c hk hj hst hS hR;have hin:j + 1=us.size:=by omega
  (refine VM aag ?_);rw [Ve WO _]
  (show Uu _ A.in1 (acC (.ref S) >>= _) _ _ s);refine T4 (X0 hS rfl ?_)
  (show Uu _ A.in1 (tryCatch (XA (.ref I)) _ >>= _) _ _ s);refine T4 (YV (W.done s _ _ (hin▸hst) λh1 tk k1=>?_))
  have RJ:=k1 S _ RL hS
  (show Uu _ A.in1 (acD S (λ_=>#[]) >>= _) _ _ _);refine T4 (Xa RJ rfl (T4 (Z8 (T6 ?_))))
  have z:=hR t (h1.update S (Vj λ_=>#[])) tk λb o hb RB e=>(Vr _ _ (VS RB)).trans (k1 b o hb e);rw [YC (by omega)] at z;exact z
 | succ k ih=>
  intro j s m t c hk hj hst hS hR;have hlt:j + 1 < us.size:=by omega
  (refine VM aag ?_);rw [Ve WO _]
  (show Uu _ A.in1 (acC (.ref S) >>= _) _ _ s);refine T4 (X0 hS rfl ?_)
  (show Uu _ A.in1 (tryCatch (XA (.ref I)) _ >>= _) _ _ s);refine T4 (YV (W.item (j + 1) s _ _ hlt hst λv h1 tk hP RI k1=>?_))
  have RJ:=k1 S _ RL hS;obtain ⟨t1,rfl⟩:=hu _ _ hP;have hd:ns.drop (j + 1)=ns.getD (j + 1) 0::ns.drop (j + 1 + 1):=by rw [Wf (by omega:j + 1 < ns.length),VB,Uk (by omega:j + 1 < ns.length)];rfl
  rw [hd] at hR;generalize ns.getD (j + 1) 0=y at hR hP ⊢
  (show Uu _ A.in1 (tryCatch (holding [YX y t1,YX y t1] (abk .Gt (YX y t1) (YX m t) >>= _)) _ >>= _) _ _ _);refine T4 (YV (UN (T4 (Mt ?_))))
  (refine T4 (UN (Vg ?_)));refine T4 (Z8 (T6 ?_))
  by_cases hb:y > m
  ·rw [decide_eq_true hb];simp only [if_true]
   (refine T4 (Xa RJ rfl (T4 (Z8 ?_))));rw [uS]
   refine T6 ⟨Wu WO _,ih (j + 1) _ y t1 _ (by omega) (by omega) (W.frame _ _ _ RI λb Sa o e=>?_) (Vi _ RJ rfl) λt2 h2 tk2 k2=>?_⟩
   ·exact (Vr _ _ (λz:S=b=>hSf (z▸Sa))).trans e
   ·have q:=hR t2 h2 tk2 λb o RK RB e=>k2 b o RK RB ((Vr _ _ (VS RB)).trans (k1 b o RK e));have e:jw m (y::ns.drop (j + 1 + 1))=jw y (ns.drop (j + 1 + 1)):=by show aeM _ (if y > m then y else m) _=_;rw [if_pos hb];rfl
    rw [e] at q;exact q
  ·rw [decide_eq_false hb]
   (simp only [Um,if_false]);(refine T4 (Z8 ?_));rw [uS]
   refine T6 ⟨Wu WO _,ih (j + 1) _ m t c (by omega) (by omega) RI RJ λt2 h2 tk2 k2=>?_⟩;have q:=hR t2 h2 tk2 λb o RK RB e=>k2 b o RK RB (k1 b o RK e);have e:jw m (y::ns.drop (j + 1 + 1))=jw m (ns.drop (j + 1 + 1)):=by show aeM _ (if y > m then y else m) _=_;rw [if_neg hb];rfl
   rw [e] at q;exact q
noncomputable def p5 (d:Int):List Int->Int
 | []=>d
 | n::r=>jw n r
theorem CY (W:Walks prog w A.in1 I fp wr us.size (λi v=>us[i]?=some v) St) (hSf:S∉fp) (hu:∀(i:Nat) (v:T7),us[i]?=some v->∃t,v=.int (ns.getD i 0) t) (hl:us.size=ns.length){d:Int}{td:Tok}{s:T_}{c:Nat}(hst:St 0 s.heap)
  (hS:s.heap.get? S=some {cls:=.type "list",dict:=none,data:=.seq #[] c,slots:=#[]})
  (hR:∀(t':Tok) (h':VJ) (tk:Nat),(∀b o,b∉wr->b≠S->s.heap.get? b=some o->h'.get? b=some o)->R (.ok (.ret (.int (p5 d ns) t'))) {s with heap:=h',toks:=tk}):
  Wh (UB prog w) A (.builtin "max.loop" ⟨[.ref I,.none,.ref S],[("default",.int d td)]⟩) R s:=by
 have RL:S∉wr:=λz=>hSf (W.sub _ z)
 (refine VM aag ?_);rw [Ve WO _]
 (show Uu _ A.in1 (acC (.ref S) >>= _) _ _ s);refine T4 (X0 hS rfl ?_)
 (show Uu _ A.in1 (tryCatch (XA (.ref I)) _ >>= _) _ _ s)
 cases ns with
 | nil=>
  have h0:(0:Nat)=us.size:=hl.symm;refine T4 (YV (W.done s _ _ (h0▸hst) λh1 tk k1=>?_));refine T4 (Zn (T6 ?_));exact hR td h1 tk λb o hb _ e=>k1 b o hb e
 | cons y r=>
  have hn:0 < us.size:=by rw [hl];exact ab9 _
  refine T4 (YV (W.item 0 s _ _ hn hst λv h1 tk hP RI k1=>?_));have RJ:=k1 S _ RL hS;obtain ⟨t1,rfl⟩:=hu _ _ hP
  (show Uu _ A.in1 (acD S (λ_=>#[YX ((y::r).getD 0 0) t1,YX ((y::r).getD 0 0) t1]) >>= _) _ _ _);refine T4 (Xa RJ rfl ?_)
  rw [uS];refine T6 ⟨Wu WO _,Kq W hSf hu hl _ 0 _ y t1 _ rfl (ab9 _) (W.frame _ _ _ RI λb Sa o e=>?_) (Vi _ RJ rfl) λt2 h2 tk2 k2=>?_⟩
  ·exact (Vr _ _ (λz:S=b=>hSf (z▸Sa))).trans e
  ·exact hR t2 h2 tk2 λb o RK RB e=>k2 b o RK RB ((Vr _ _ (VS RB)).trans (k1 b o RK e))
end
section
variable {prog:Uv}{w:US}{A:UW}{E:T7->T_->Prop}{s:T_}{l:UA}{us:Array T7}{ns:List Int}
theorem DW (a d:T7):ab_ "max" ⟨[a],[("default",d)]⟩:=by
 unfold ab_
 kernel_rfl
theorem Ed {d:Int}{td:Tok}{Q:T7->T_->Prop}(hh:A.handled=none) (hl:s.heap.IsList l us) (hu:∀(i:Nat) (v:T7),us[i]?=some v->∃t,v=.int (ns.getD i 0) t) (hn:us.size=ns.length)
  (h:∀(t':Tok) (h':VJ) (tk:Nat),(∀b o,s.heap.get? b=some o->h'.get? b=some o)->Q (.int (p5 d ns) t') {s with heap:=h',toks:=tk}):Uu (UB prog w) A (call (.builtin "max") [.ref l] [("default",.int d td)]) Q E s:=by
 have ha:=DW (.ref l) (.int d td);refine aaV (Zg F.plain_max F.entry_max ?_);have core:Uu (UB prog w) A.in1 (Xv.«max» ⟨[.ref l],[("default",.int d td)]⟩) (λfin s'=>match fin with
   | .done f=>(match (Except.ok f:ab3) with | .ok (.ret v)=>Q v s' | .ok _=>False | .error e=>E e s')
   | .again c'=>c'.quiet=true/\Wh (UB prog w) A c' (λr s'=>match r with | .ok (.ret v)=>Q v s' | .ok _=>False | .error e=>E e s') s') E s:=by
  show Uu _ A.in1 (Zs "max" ["key","default"] 0 ⟨[],[("default",.int d td)]⟩ >>= _) _ _ s;refine T4 (YK (show Zs "max" ["key","default"] 0 ⟨[],[("default",.int d td)]⟩=pure [none,some (.int d td)] by rfl) ?_);refine T4 (T6 ?_);have hlt:l < s.heap.objs.size:=by obtain ⟨_,e,_⟩:=hl;exact Uq e
  refine T4 (XN hl ?_);refine T4 (UJ ?_);rw [uS];generalize hs2:s.heap.push {cls:=.type "list_iterator",data:=.fields #[.ref l,.int 0 0]}=H2;have hI:H2.IsListIter s.heap.objs.size l 0:=by rw [<-hs2];exact ⟨_,Uh _ rfl,rfl,rfl⟩
  have hL:H2.IsList l us:=by rw [<-hs2];exact hl.push _
  have sz:H2.objs.size=s.heap.objs.size + 1:=by rw [<-hs2,W2]
  have W:=abS (prog:=prog) (w:=w) (A:=A.in1) (show A.in1.handled=none from hh) s.heap.objs.size l (UE hlt) us;have hSf:H2.objs.size∉[s.heap.objs.size,l]:=λz=>by
   rcases Uw.mp z with z | z
   ·exact absurd (sz.symm.trans z) (Nat.succ_ne_self _)
   ·rw [Ul] at z;exact absurd z.symm (UE (by rw [sz];exact V6 hlt))
  refine T6 ⟨Wu WO _,CY W hSf hu hn (W.frame _ _ _ ⟨hI,hL⟩ λb _ o e=>T9 _ e) (Uh _ rfl) λt' h' tk k=>?_⟩;refine h t' h' tk λb o e=>?_;have e2:H2.get? b=some o:=by rw [<-hs2];exact T9 _ e
  have lt:=Uq e;exact k b o (λz=>absurd (Ul.mp z) (UE lt)) (UE (by rw [sz];exact V6 lt)) (T9 _ e2)
 simp only [Y_,F.kind_max];cases Sx:Manifest.signature? "max" with
 | none=>exact T6 core
 | some sig=>
  simp only [ab_,Sx] at ha;have h2:ac4 "max" sig ⟨[.ref l],[("default",.int d td)]⟩=pure ():=ha;show Uu _ A.in1 (ac4 "max" sig ⟨[.ref l],[("default",.int d td)]⟩) _ _ s;rw [h2];exact T6 core
end
section
variable {X:Cx}{c:C}{e a b tg i:UU}{es:List UU}{ga gb g:G R}{pos:Pos}
noncomputable def IM (d:Int) (g:G R):G R:=λenv=>g env >>= λr=>jq r >>= λxs=>match intsOf xs with
 | some ns=>.ok (.d (.int (p5 d ns)))
 | none=>.bad
theorem Lp {ns:List Int}{TR:List T7}(r:Vals (ns.map V.int) TR) (i:Nat) (v:T7) (h:TR.toArray[i]?=some v):∃t,v=.int (ns.getD i 0) t:=by
 have h':TR[i]?=some v:=by simpa using h
 have hl:=r.length;rw [T8] at hl;have hi:i < ns.length:=by rw [hl];exact (Uy.mp h').1
 obtain ⟨u,hu,ru⟩:=r.get (show (ns.map V.int)[i]?=some (.int ns[i]) by rw [UK,Uk hi];rfl);rw [h'] at hu;cases hu;obtain ⟨t,rfl⟩:=ru;exact ⟨t,by rw [VB,Uk hi];rfl⟩
end
section
variable {X:Cx}{c:C}{e a b d tg:UU}{es:List UU}{ga gb g:G R}{pos:Pos}
def PK (K:T5) (tl:TE):TI:=λσ H R=>tl σ H λx H1=>∃a,x=.ref a/\(((∃xs,cg K H1 a xs)/\R (Ir K a) H1)\/((∃xs,c7 K H1 a xs)/\R (Iv K a) H1))
theorem Fe {tl:TE}(hl:PE X e tl):PI X tg e (PK X.K tl):=λTN s σ H R I h=>bN (hl TN s σ H _ I h) λv s1 ⟨x,H1,I1,r1,a,ex,q1⟩=>by
 subst ex;cases r1;have fp:∀b∈[s1.heap.objs.size],ki X TN H1 b:=λb hb=>by rw [Ul] at hb;subst hb;exact I1.fpOk (Ud _) (I1.hok.fresh (Ud _))
 rcases q1 with ⟨⟨xs,hq⟩,q⟩ | ⟨⟨xs,hq⟩,q⟩
 ·obtain ⟨TR,rv,p,hz⟩:=I1.list hq;exact XN p.isList ⟨s1.heap.objs.size,[s1.heap.objs.size],_,_,H1,rfl,I1.kept (t':=s1.toks) (λb o e=>T9 _ e),F9 a _,⟨_,Uh _ rfl,rfl,rfl⟩,fp,q⟩
 ·obtain ⟨TR,rv,p,hz⟩:=I1.tuple hq;exact abA (show s1.heap.IsTuple a TR.toArray from p) ⟨s1.heap.objs.size,[s1.heap.objs.size],_,_,H1,rfl,I1.kept (t':=s1.toks) (λb o e=>T9 _ e),DC a _,⟨_,Uh _ rfl,rfl,rfl⟩,fp,q⟩
theorem xY {J1:Hp}{a:UA}{vs:List V}{ds:List D}{U:Hp->Hp->Prop}(hU:∀J H,U J H->aS J1 J) (h:c7 c.K J1 a vs) (hs:aK c.K J1 ds vs):Walk c (Iv c.K a) ds J1 U:=by intro i J H hp u;have h':=fU hp.sub (fU (hU J H u) h);refine ⟨λhl=>⟨vs,h',by rw [<-hs.length];exact hl⟩,λd hd=>?_⟩;obtain ⟨v,k1,k2⟩:=hs.get hd;refine ⟨⟨vs,v,h',k1⟩,λx H2 ⟨e,hy⟩=>?_⟩;subst e;have:=hy vs h';rw [k1] at this;cases this;exact ⟨J,Ext.refl hp.sub,k2.mono (hU J _ u)⟩
noncomputable def c8 (g:G R):G (List D):=λenv=>g env >>= λr=>match r with
 | .d (.tup xs)=>.ok xs
 | .d (.lst xs)=>.ok xs
 | .l .fresh xs=>.ok xs
 | .l .bor xs=>.ok xs
 | _=>.bad
def ff (g:G R):G (List D):=λenv=>g env >>= iz
end
section
variable {X:Cx}{c:C}{st:WM}{g:G O}
theorem SR.frz {J H:Hp}{σ:L2.St}{env:Ev}(sr:SR c J H σ env){i:Nat}{x:Mn}{a:UA}{o:HO}{d:D}(hi:env[i]?=some (some (mS x))) (h1:σ[i]?=some (some (.ref a))) (h2:H a=some o) (h3:J a=none) (h4:c.H0 a=none) (h5:Rep c.K (L2.upd J a o) d (.ref a)):∃J',aS J J'/\SR c J' H σ (env.set i (some (.d d))):=by
 have s1:aS J (L2.upd J a o):=cG h3 _;refine ⟨L2.upd J a o,s1,⟨⟨λb o q=>?_,sr.hp.ent,sr.hp.entJ.trans s1,λb k1 k2=>?_⟩,by simpa using sr.len,λj y q=>?_,λj k ys zs w hjk q1 q2 q3 q4=>?_,sr.sp2.keep λk xs q=>?_⟩⟩
 ·by_cases hb:b=a
  ·subst hb;rw [bO] at q;cases q;exact h2
  ·rw [aV hb] at q;exact sr.hp.sub b o q
 ·have:b≠a:=λz=>k1 (z▸h4);rw [aV this];exact sr.hp.frz b k1 k2
 ·rcases cJ q with ⟨rfl,hl,rfl⟩ | ⟨hj,q⟩
  ·exact ⟨.ref a,h1,h5⟩
  ·obtain ⟨w,k1,k2⟩:=sr.at_ j y q;refine ⟨w,k1,?_⟩;have hne:∀(z:Mn) p',y=mS z->w=.ref p'->p'≠a:=λz p' e ew ep=>sr.sep i j x z (.ref a) (VS hj) hi (e▸q) h1 (ep▸ew▸k1);cases y with
   | d x=>exact Rep.mono s1 k2
   | bor zs=>obtain ⟨p,us,m1,m2,m3⟩:=k2;exact ⟨p,us,m1,m2,m3.mono s1⟩
   | db _ _=>obtain ⟨p,m1,m2⟩:=k2;exact ⟨p,m1,m2.mono s1 (aS.refl _)⟩
   | fn _=>exact k2
   | dk ks zs=>
    obtain ⟨p,rfl,m1,m2,m3⟩:=k2;exact ⟨p,rfl,m1.mono s1 (aS.refl _),by rw [aV (hne (.inr (ks,zs)) p rfl rfl)];exact m2,m3⟩
   | own zs=>
    obtain ⟨p,us,rfl,m1,m2,m3,m4⟩:=k2;exact ⟨p,us,rfl,m1,by rw [aV (hne (.inl zs) p rfl rfl)];exact m2,m3,m4.mono s1⟩
   | ow2 zs=>
    obtain ⟨p,us,rfl,m1,m2,m3,m4⟩:=k2;exact ⟨p,us,rfl,m1,by rw [aV (hne (.nst zs) p rfl rfl)];exact m2,m3,m4.mono s1 λ_ h=>h⟩
 ·have f:∀(k:Nat) (ys:Mn),(env.set i (some (.d d)))[k]?=some (some (mS ys))->env[k]?=some (some (mS ys)):=λk ys q=>by
   rcases cJ q with ⟨rfl,_,z⟩ | ⟨_,q⟩
   ·cases ys <;> cases z
   ·exact q
  exact sr.sep j k ys zs w hjk (f j ys q1) (f k zs q2) q3 q4
 ·rcases cJ q with ⟨_,_,e⟩ | ⟨hk,q⟩
  ·cases e
  ·exact ⟨⟨xs,q⟩,rfl⟩
noncomputable def d8 (i:Nat) (g:G O):G O:=λenv=>match env[i]? with
 | some (some (.own xs))=>g (env.set i (some (.d (.lst xs))))
 | some (some (.dk ks vs))=>g (env.set i (some (.d (.dct ks vs))))
 | _=>g env
end
structure QD (X:Cx) (c:C) (x0:UU) (x1:G R):Prop where
 h:PD X c x0 x1
structure QB (X:Cx) (c:C) (x0:UU) (x1:G Bool):Prop where
 h:PB X c x0 x1
structure jG (X:Cx) (c:C) (x0:List UU) (x1:G (List R)):Prop where
 h:DS X c x0 x1
structure DU (X:Cx) (c:C) (x0:List UU) (x1:G (List D)):Prop where
 h:Qm X c x0 x1
structure gR (X:Cx) (c:C) (x0:WM) (x1:G O):Prop where
 h:LH X c x0 x1
structure pG (X:Cx) (c:C) (x0:List WM) (x1:G O):Prop where
 h:LI X c x0 x1
structure yU (X:Cx) (c:C) (x0:UU) (x1:G Bool):Prop where
 h:Qn X c x0 x1
structure oO (X:Cx) (c:C) (x0:UU) (x1:GT):Prop where
 h:DT X c x0 x1
structure Cf (X:Cx) (c:C) (x0:List UU) (x1:tY):Prop where
 h:Pq X c x0 x1
structure A8 (X:Cx) (c:C) (x0:UU) (x1:UU) (x2:G (List D)):Prop where
 h:O_ X c x0 x1 x2
structure ud (X:Cx) (c:C) (x0:UU) (x1:UU) (x2:G (List D)):Prop where
 h:O9 X c x0 x1 x2
structure nP (X:Cx) (c:C) (x0:List UU) (x1:G Bool):Prop where
 h:Ce X c x0 x1
structure A9 (X:Cx) (c:C) (x0:Option UU) (x1:GO):Prop where
 h:LJ X c x0 x1
section
variable {X:Cx}{c:C}{e a b:UU}{ga gb:G R}{pos:Pos}
theorem aa (i:Nat) (hN:X.N[i]?=some x:=by rfl) (hv:pH X.env.scope x:=by first | exact Yh rfl | exact WW (Yh rfl) | exact WW (WW rfl)) (hd:(x == ("__debug__":Str))=false:=by decide)
 (hcd:(x == ("__classdict__":Str))=false:=by decide):QD X c (.Name x pos) (af i):=⟨KJ (kh hN hv hd hcd)⟩
theorem aq:QD X c (.Constant (.int i) j pos) (gC (.int i)):=⟨uW (λ_=>.int i) Fc⟩
theorem cI:QD X c (.Constant (.bool i) j pos) (gC (.bl i)):=⟨uW (λ_=>.bl i) Ou⟩
theorem kY:QD X c (.Constant .none j pos) (gC .non):=⟨uW (λ_=>.non) Nd⟩
theorem fH:QD X c (.Constant (.str x) j pos) (gC (.str x)):=⟨uW (λ_=>.str x) Nh⟩
theorem qV (ha:QD X c a ga) (hb:QD X c b gb):QD X c (.BinOp a .Sub b pos) (g2 vL ga gb):=have ha:=ha.h;have hb:=hb.h;⟨kM M6 (gT λ_ _ _=>.int _) ha hb⟩
theorem fF (ha:QD X c a ga) (hb:QD X c b gb):QD X c (.BinOp a .FloorDiv b pos) (g2 iE ga gb):=have ha:=ha.h;have hb:=hb.h;⟨kM Kw (y_ (λi j h=>J_ h) λ_ _ _=>.int _) ha hb⟩
theorem cD (ha:QD X c a ga) (hb:QD X c b gb):QD X c (.BinOp a .Mod b pos) (g2 d7 ga gb):=have ha:=ha.h;have hb:=hb.h;⟨kM MZ (y_ (λi j h=>by unfold MH at h;exact of_decide_eq_true h) λ_ _ _=>.int _) ha hb⟩
theorem jc (ha:QD X c a ga) (hb:QD X c b gb):QD X c (.BinOp a .Pow b pos) (g2 nY ga gb):=have ha:=ha.h;have hb:=hb.h;⟨kM M5 (y_ (λi j h=>Kc h) λ_ _ _=>.int _) ha hb⟩
theorem Nz (ha:QD X c a ga) (hb:QD X c b gb):QD X c (.Compare a [.Gt] [b] pos) (g2 (kD λi j=>.bl (decide (j < i))) ga gb):=have ha:=ha.h;have hb:=hb.h;⟨qa yF (gT λ_ _ _=>.bl _) ha hb⟩
theorem av:jG X c [] aG:=⟨yG gD λσ H Q ⟨J,env,sr,w⟩=>w [] J H (Ext.refl sr.hp.sub) rfl⟩
theorem ak {es:List UU}{g:G R}{gs:G (List R)}(h:QD X c e g) (hs:jG X c es gs) (hst:Uj (e::es) X.env=(false,eval e X.env)::Uj es X.env:=by rfl):jG X c (e::es) (ao g gs):=have h:=h.h;have hs:=hs.h;⟨
 yG (eH h hs hst) λσ H Q ⟨J,env,sr,w⟩=>by
  refine ⟨J,env,sr,aF (aM w) λx wx u J1 H1 e1 r1=>?_⟩;refine ⟨J1,env,sr.ext e1,aF (aM wx) λxs wy us J2 H2 e2 r2=>?_⟩;exact wy (u::us) J2 H2 (e1.trans e2) ⟨u,us,rfl,r1.ext e2,kC.from e1.h r2⟩⟩
end
section
variable {X:Cx}{c:C}{e a b:UU}{es:List UU}{ga gb g:G R}{pos:Pos}
theorem aL:DU X c [] aQ:=⟨yG gD λσ H Q ⟨J,env,sr,w⟩=>w [] J H (Ext.refl sr.hp.sub) .nil⟩
theorem au {gs:G (List D)}(h:QD X c e g) (hs:DU X c es gs) (hst:Uj (e::es) X.env=(false,eval e X.env)::Uj es X.env:=by rfl):DU X c (e::es) (az g gs):=have h:=h.h;have hs:=hs.h;⟨
 yG (eH h hs hst) λσ H Q ⟨J,env,sr,w⟩=>by
  refine ⟨J,env,sr,aF (aM w) λx wx u J1 H1 e1 r1=>?_⟩;obtain ⟨d,q,wx⟩:=jg wx;obtain ⟨J1',e1',s1,rd⟩:=freeze e1 r1 q;refine ⟨J1',env,sr.ext e1',aF (aM wx) λxs wy us J2 H2 e2 r2=>?_⟩;exact wy (u::us) J2 H2 (e1'.trans e2) (.cons (rd.mono e2.j) r2)⟩
theorem aZ {k}{gs:G (List D)}(h:DU X c es gs):QD X c (.Tuple es k pos) (bC gs):=have h:=h.h;⟨gq (Ni h) λσ H Q ⟨J,env,sr,w⟩=>by
 refine ⟨J,env,sr,aF (aM w) λds wd vs J1 H1 e1 r1=>?_⟩;split at wd
 ·rename_i hz;rw [r1.length] at hz;exact ⟨hz,λp hp=>wd _ _ _ (e1.trans (Ext.newJ e1.sub hp _)) (ql (sr.hp.ext e1) hp r1)⟩
 ·exact wd.elim⟩
theorem bT {gs:G (List D)}(h:DU X c es gs):QD X c (.List es pos) (cU gs):=have h:=h.h;⟨gq (Nc h) λσ H Q ⟨J,env,sr,w⟩=>by
 refine ⟨J,env,sr,aF (aM w) λds wd vs J1 H1 e1 r1=>?_⟩;split at wd
 ·rename_i hz;rw [r1.length] at hz;exact ⟨hz,λp hp=>wd _ _ _ (e1.trans (Ext.new e1.sub hp _)) (RR.from e1.h (gF (sr.hp.ext e1) hp r1))⟩
 ·exact wd.elim⟩
theorem dR {p:Pos}{gs:G (List R)}(ha:jG X c (e::es) gs) (hm:X.mg "len"=none) (hK:X.K=c.K:=by rfl) (hg:Gl X "len":=by rfl)
  (he:Uj (e::es) X.env=(false,eval e X.env)::Uj es X.env:=by rfl) (hpl:(Vx pos (Uj es X.env)).any (·.1)=false:=by rfl):QD X c (.Call (.Name "len" p) (e::es) [] pos) (gN dY gs):=have ha:=ha.h;⟨
 iY (zh.or zg) (by
  intro He J H xs vs Q hp rs w;unfold dY at w;split at w
  ·obtain ⟨v,rfl,r⟩:=rs.one;cases r;split at w
   ·rename_i hz;exact .inl ⟨_,rfl,hz,w _ J H (Ext.refl hp.sub) (.int _)⟩
   ·exact w.elim
  ·obtain ⟨v,rfl,r⟩:=rs.one;obtain ⟨xs,q,w⟩:=jf w;obtain ⟨p,vs,rfl,hq,hs⟩:=kR hp r q;have w':=w (.int vs.length) J H (Ext.refl hp.sub) (by rw [hs.length];exact .int _);exact .inr ⟨p,vs,rfl,by rw [hK];exact hq,w'⟩
  ·exact w.elim) ac5 hm ha hg (by decide) (by decide) he hpl⟩
theorem cX {gs:G (List R)}(ha:jG X c (e::es) gs) (hm:X.mg "tuple"=none) (hK:X.K=c.K:=by rfl) (hg:Gl X "tuple":=by rfl)
 (he:Uj (e::es) X.env=(false,eval e X.env)::Uj es X.env:=by rfl) (hpl:(Vx pos (Uj es X.env)).any (·.1)=false:=by rfl):QD X c (.Call (.Name "tuple" p) (e::es) [] pos) (gN eU gs):=have ha:=ha.h;⟨
 xy yg (by
  intro He J H xs vs Q hp rs w;unfold eU at w;split at w
  ·obtain ⟨v,rfl,r⟩:=rs.one;rename_i r0;obtain ⟨xs,q,w⟩:=jf w;cases r0 with
   | d y=>
    cases y with
    | tup ys=>
     cases q;cases r with
     | tup h hs=>exact ⟨_,_,rfl,.inr ⟨by rw [hK];exact fU hp.sub h,w _ J H (Ext.refl hp.sub) (.tup h hs)⟩⟩
    | lst ys=>
     cases q;obtain ⟨p,vs,rfl,hq,hs⟩:=RR.list hp r rfl;exact ⟨p,vs,rfl,.inl ⟨by rw [hK];exact hq,λl hl=>w _ _ _ (Ext.newJ hp.sub hl _) (ql hp hl hs)⟩⟩
    | _=>cases q
   | mo _ _=>cases q
   | mb _ _=>cases q
   | mf _ _=>cases q
   | ln _=>cases q
   | l m ys=>
    cases q;obtain ⟨p,vs,rfl,hq,hs⟩:=RR.list hp r rfl;exact ⟨p,vs,rfl,.inl ⟨by rw [hK];exact hq,λl hl=>w _ _ _ (Ext.newJ hp.sub hl _) (ql hp hl hs)⟩⟩
  ·exact w.elim) AJ hm ha hg (by decide) (by decide) he hpl⟩
theorem An {p:Pos}{gs:G (List R)}(ha:jG X c (e::es) gs) (hm:X.mg "list"=none) (hK:X.K=c.K:=by rfl) (hg:Gl X "list":=by rfl)
  (he:Uj (e::es) X.env=(false,eval e X.env)::Uj es X.env:=by rfl) (hpl:(Vx pos (Uj es X.env)).any (·.1)=false:=by rfl):QD X c (.Call (.Name "list" p) (e::es) [] pos) (gN yw gs):=have ha:=ha.h;⟨
 xy zj (by
  intro He J H xs vs Q hp rs w;unfold yw at w;split at w
  ·obtain ⟨v,rfl,r⟩:=rs.one;obtain ⟨xs,q,w⟩:=jf w;obtain ⟨p,vs,rfl,hq,hs⟩:=kR hp r q;exact ⟨p,vs,rfl,by rw [hK];exact hq,λl hl=>w _ _ _ (Ext.new hp.sub hl _) (gF hp hl hs)⟩
  ·exact w.elim) uf hm ha hg (by decide) (by decide) he hpl⟩
theorem cZ (h:QD X c e g) (he:∀whole,aa5 e X.env whole=(do let v <-whole;Xz e.pos;holding [v] (truthy v)):=by intro _;rfl):QB X c e (bB g):=have h:=h.h;⟨yJ (Nu h he) λσ H Q ⟨J,env,sr,w⟩=>by
 refine ⟨J,env,sr,aF (aM w) λr wr v J1 H1 e1 r1=>?_⟩;split at wr
 ·cases r1;exact ⟨_,rfl,wr J1 H1 e1⟩
 ·exact wr.elim⟩
theorem iy {f:R->R->M R}(ho:c6 X (Vz op) r) (hf:BD c r f) (ha:QD X c a ga) (hb:QD X c b gb) (hm:Vs op b=false:=by first | exact Ab _ | rfl):QB X c (.Compare a [op] [b] pos) (bB (g2 f ga gb)):=⟨iS ho hf ha.h hb.h hm⟩
variable {t u:G Bool}{rest:List UU}
theorem fD (h:yU X c e t):QB X c e t:=have h:=h.h;⟨PW.pt h⟩
theorem om (h:QB X c a t):yU X c (.BoolOp .And [a] pos) t:=have h:=h.h;⟨K0 h⟩
theorem i_ (h:QB X c a t):yU X c (.BoolOp .Or [a] pos) t:=have h:=h.h;⟨Nx h⟩
theorem qT (h:QB X c a t) (h':yU X c (.BoolOp .And (b::rest) pos) u):yU X c (.BoolOp .And (a::b::rest) pos) (jt t u):=have h:=h.h;have h':=h'.h;⟨Jg (Nv h h') λσ H Q ⟨J,env,sr,w⟩=>by
 refine ⟨J,env,sr,aF (aM w) λk wk J1 H1 e1=>?_⟩;cases k with
 | true=>
  rw [if_pos rfl] at wk ⊢;exact ⟨J1,env,sr.ext e1,aF wk λk q J2 H2 e2=>q J2 H2 (e1.trans e2)⟩
 | false=>
  rw [if_neg (by decide)] at wk ⊢;exact wk J1 H1 e1⟩
theorem jA (h:QB X c a t) (h':yU X c (.BoolOp .Or (b::rest) pos) u):yU X c (.BoolOp .Or (a::b::rest) pos) (iN t u):=have h:=h.h;have h':=h'.h;⟨Jg (OA h h') λσ H Q ⟨J,env,sr,w⟩=>by
 refine ⟨J,env,sr,aF (aM w) λk wk J1 H1 e1=>?_⟩;cases k with
 | true=>
  rw [if_pos rfl] at wk ⊢;exact wk J1 H1 e1
 | false=>
  rw [if_neg (by decide)] at wk ⊢;exact ⟨J1,env,sr.ext e1,aF wk λk q J2 H2 e2=>q J2 H2 (e1.trans e2)⟩⟩
theorem fE (h:QB X c a t):QB X c (.UnaryOp .Not a pos) (fh t):=have h:=h.h;⟨yJ (Nt h) λσ H Q ⟨J,env,sr,w⟩=>⟨J,env,sr,aF (aM w) λk wk J1 H1 e1=>wk J1 H1 e1⟩⟩
theorem ow {op}(h:QD X c a ga):QD X c (.BoolOp op [a] pos) ga:=have h:=h.h;⟨Ng h⟩
theorem v7 (h:QD X c a ga) (h':QD X c (.BoolOp .And (b::rest) pos) gb):QD X c (.BoolOp .And (a::b::rest) pos) (l_ ga gb):=have h:=h.h;have h':=h'.h;⟨gq (Na h h') λσ H Q ⟨J,env,sr,w⟩=>by
 refine ⟨J,env,sr,aF (aM w) λr wr v J1 H1 e1 r1=>?_⟩;split at wr
 ·cases r1;exact ⟨true,rfl,MB ⟨J1,env,sr.ext e1,aF wr λz q v J2 H2 e2 r2=>q v J2 H2 (e1.trans e2) (RR.from e1.h r2)⟩⟩
 ·cases r1;exact ⟨false,rfl,MA (wr _ J1 H1 e1 (.bl _))⟩
 ·exact wr.elim⟩
theorem NB (h:QD X c a ga) (h':QD X c (.BoolOp .Or (b::rest) pos) gb):QD X c (.BoolOp .Or (a::b::rest) pos) (sZ ga gb):=have h:=h.h;have h':=h'.h;⟨gq (Ow h h') λσ H Q ⟨J,env,sr,w⟩=>by
 refine ⟨J,env,sr,aF (aM w) λr wr v J1 H1 e1 r1=>?_⟩;split at wr
 ·cases r1;exact ⟨false,rfl,MA ⟨J1,env,sr.ext e1,aF wr λz q v J2 H2 e2 r2=>q v J2 H2 (e1.trans e2) (RR.from e1.h r2)⟩⟩
 ·cases r1;exact ⟨true,rfl,MB (wr _ J1 H1 e1 (.bl _))⟩
 ·exact wr.elim⟩
theorem K7 (h:QD X c a ga):QD X c (.UnaryOp .Not a pos) (IQ ga):=have h:=h.h;⟨gq (Nf h) λσ H Q ⟨J,env,sr,w⟩=>by
 refine ⟨J,env,sr,aF (aM w) λr wr v J1 H1 e1 r1=>?_⟩;split at wr
 ·cases r1;exact ⟨_,rfl,wr _ J1 H1 e1 (.bl _)⟩
 ·exact wr.elim⟩
end
section
variable {X:Cx}{c:C}{e a b tg:UU}{es:List UU}{ga gb g:G R}{pos:Pos}{st:WM}{rest:List WM}{t u:G O}{tb:G Bool}
theorem bA:pG X c [] c5:=⟨qd KU λE σ H ⟨J,env,sr,w⟩=>w σ J H (aS.refl J) sr⟩
theorem ay (h:gR X c st t) (h':pG X c rest u):pG X c (st::rest) (aI t u):=have h:=h.h;have h':=h'.h;⟨qd (Ai h h') λE σ H ⟨J,env,sr,w⟩=>by
 refine ⟨J,env,sr,aF (aM w) λo wo=>?_⟩;cases o with
 | nx e=>exact λσ' J' H' s' sr'=>⟨J',e,sr',aF wo λo q=>q.mono s'⟩
 | rt r=>exact wo
 | bk e=>exact wo
 | ct e=>exact wo⟩
theorem aD (h:gR X c st t):pG X c [st] t:=have h:=h.h;⟨KW h⟩
theorem jb (h:QD X c e g) (hs:Yi e none pos.line X.env=pure false:=by rfl):gR X c (.Expr e pos) (kH g):=have h:=h.h;⟨gr (nD h hs) λE σ H ⟨J,env,sr,w⟩=>
 ⟨J,env,sr,aF (aM w) λr wr v J1 H1 e1 r1=>wr σ J1 H1 e1.j (sr.ext e1)⟩⟩
theorem aP (h:QD X c e g):gR X c (.Return (some e) pos) (bw g):=have h:=h.h;⟨gr (Nr h) λE σ H ⟨J,env,sr,w⟩=>by
 refine ⟨J,env,sr,aF (aM w) λr wr v J1 H1 e1 r1=>?_⟩;cases q:rF r with
 | bad=>rw [q] at wr;exact wr.elim
 | exc x=>cases r with
  | d _=>cases q
  | l m _=>cases m <;> cases q
  | mo _ _=>cases q
  | mb _ _=>cases q
  | mf _ _=>cases q
  | ln _=>cases q
 | ok r'=>rw [q] at wr;exact wr v J1 H1 e1.j (sr.hp.ext e1) (RR.rf sr.hp r1 q)⟩
theorem bI {x:UU}{as bs:List WM}(hx:QB X c x tb) (h:pG X c as t) (h':pG X c bs u):gR X c (.If x as bs pos) (bL tb t u):=have hx:=hx.h;have h:=h.h;have h':=h'.h;⟨gr (Oz hx h h') λE σ H ⟨J,env,sr,w⟩=>by
 refine ⟨J,env,sr,aF (aM w) λk wk J1 H1 e1=>?_⟩;cases k with
 | true=>
  rw [if_pos rfl] at wk ⊢;exact ⟨J1,env,sr.ext e1,aF wk λo q=>q.mono e1.j⟩
 | false=>
  rw [if_neg (by decide)] at wk ⊢;exact ⟨J1,env,sr.ext e1,aF wk λo q=>q.mono e1.j⟩⟩
theorem aO (i:Nat){x:Str}{pos':Pos}(hN:X.N.Nodup) (h:QD X c e g) (hi:X.N[i]?=some x:=by rfl) (hx:Loc X.env.scope x:=by first | exact Yh rfl | exact WW rfl) (hs:Yi e (some (.Name x pos')) pos.line X.env=pure false:=by rfl)
  (hf:X.fn x=true\/X.env.scope.names.lookup x=some .local:=by first | exact .inl rfl | exact .inr rfl):gR X c (.Assign [.Name x pos'] e pos) (bh i g):=have h:=h.h;⟨gr (Fp hN hi hx h hs hf) λE σ H ⟨J,env,sr,w⟩=>by
 refine ⟨J,env,sr,aF (aM w) λr wr v J1 H1 e1 r1=>?_⟩;obtain ⟨x,q,wr⟩:=wF wr;exact wr (σ.set i (some v)) J1 H1 e1.j (sr.set e1 r1 q)⟩
theorem aC (i:Nat){x:Str}(hN:X.N.Nodup) (hi:X.N[i]?=some x:=by rfl) (hx:Loc X.env.scope x:=by first | exact Yh rfl | exact WW rfl) (hf:X.fn x=true\/X.env.scope.names.lookup x=some .local:=by first | exact .inl rfl | exact .inr rfl):oO X c (.Name x pos) (aA i):=⟨
 Jd (KP hN hi hx hf) λv σ H Q ⟨J,env,d,sr,rd,w⟩=>w _ (sr.setD (x:=.d d) rd λx z=>by cases x <;> cases z) λj xs q=>by
  rcases cJ q with ⟨_,_,e⟩ | ⟨hj,q⟩
  ·cases xs <;> cases e
  ·exact ⟨q,UP (VS hj)⟩⟩
theorem cC:Cf X c [] dF:=⟨Fd KQ λvs σ H Q ⟨J,env,ds,sr,rd,w⟩=>by
 cases rd with
 | nil=>exact ⟨rfl,w σ sr KO.refl⟩
 | cons _ _=>exact w.elim⟩
theorem aW {t:GT}{u:tY}(h:oO X c e t) (h':Cf X c es u) (hs:(W7 (e::es) X.env).map (·.2)=assign e X.env::(W7 es X.env).map (·.2):=by rfl):Cf X c (e::es) (bz t u):=have h:=h.h;have h':=h'.h;⟨
 Fd (HA h h' hs) λvs σ H Q ⟨J,env,ds,sr,rd,w⟩=>by
  cases rd with
  | nil=>exact w.elim
  | cons r rs=>
   refine ⟨_,_,rfl,J,env,_,sr,r,aF (aM w) λe1 w1 σ' sr' ko=>?_⟩;exact ⟨J,e1,_,sr',rs,aF w1 λe2 q σ2 sr2 ko2=>q σ2 sr2 (ko.trans ko2)⟩⟩
theorem cP {k:Nat}{u:tY}{n:Nat}(h:Cf X c es u) (hc:X.calm=true:=by rfl) (hK:X.K=c.K:=by rfl) (hn:(W7 es X.env).length=n:=by rfl) (hst:(W7 es X.env).findIdx? (·.1)=none:=by rfl):oO X c (.Tuple es k pos) (dg n u):=have h:=h.h;⟨
 Jd (Nk hc h hn hst) λv σ H Q ⟨J,env,d,sr,rd,w⟩=>by
  cases rd with
  | tup h1 h2=>
   unfold dg at w;simp only at w;split at w
   ·rename_i hl;exact ⟨_,_,rfl,by rw [hK];exact fU sr.hp.sub h1,by rw [<-h2.length];exact hl,J,env,_,sr,h2,w⟩
   ·exact w.elim
  | _=>exact w.elim⟩
theorem bu {TV:UU}{body:List WM}{gi:G (List D)}{t:GT}(hi:A8 X c tg TV gi) (ht:oO X c tg t) (hb:pG X c body u) (hp:acw (UB X.prog X.w) X.A X.env X.xe:=by first | exact acE | exact abU) (hc:X.calm=true:=by rfl)
  (hs:∀x,Vy TV X.env x=pure x:=by intro _;rfl):gR X c (.For tg TV body [] pos) (bV gi t u):=have hi:=hi.h;have ht:=ht.h;have hb:=hb.h;⟨gr (Nq hp hc hi ht hb hs) λE σ H ⟨J,env,sr,w⟩=>by
 refine ⟨J,env,sr,aF (aM w) λds wd It J1 H1 e1 wk=>?_⟩;refine ⟨λi m σ H=>m=ds.length - i/\∃J' env,aS J1 J'/\SR c J' H σ env/\cK (eE t u (ds.drop i) env) (oP c J' E) c.T,
  ⟨ds.length,by simp,J1,env,aS.refl J1,sr.ext e1,by rw [aa7];exact aF wd λo q=>q.mono e1.j⟩,?_⟩
 rintro i m σ H ⟨rfl,J',env,s',sr',w'⟩;obtain ⟨w1,w2⟩:=wk i J' H sr'.hp s';by_cases hlt:i < ds.length
 ·obtain ⟨g1,y1⟩:=w2 ds[i] (by simp [hlt]);rw [Wf hlt] at w';refine .inr ⟨g1,λσ2 H2=>∃J2 env2,aS J' J2/\SR c J2 H2 σ2 env2/\cK (eE t u (ds.drop (i + 1)) env2) (oP c J2 E) c.T,?_,?_⟩
  ·rintro σ2 H2 ⟨J2,env2,s2,sr2,w2⟩;exact ⟨ds.length - (i + 1),by omega,rfl,J2,env2,s'.trans s2,sr2,w2⟩
  ·intro x H2 hy;obtain ⟨J2,e2,rx⟩:=y1 x H2 hy;refine ⟨J2,env,ds[i],sr'.ext e2,rx,aF (aM w') λenv3 w3 σ3 sr3 _=>?_⟩;refine ⟨J2,env3,sr3,aF (aM w3) λo wo=>?_⟩;cases o with
   | nx env4=>exact λσ4 J4 H4 s4 sr4=>⟨J4,env4,e2.j.trans s4,sr4,aF wo λo q=>q.mono (e2.j.trans s4)⟩
   | ct env4=>exact λσ4 J4 H4 s4 sr4=>⟨J4,env4,e2.j.trans s4,sr4,aF wo λo q=>q.mono (e2.j.trans s4)⟩
   | bk env4=>exact λσ4 J4 H4 s4 sr4=>wo σ4 J4 H4 (e2.j.trans s4) sr4
   | rt r=>exact λv J4 H4 s4 h4 r4=>wo v J4 H4 (e2.j.trans s4) h4 r4
 ·rw [YC (by omega)] at w';exact .inl ⟨w1 (by omega),w' σ J' H (aS.refl J') sr'⟩⟩
theorem bg {p:Pos}{gs:G (List R)}(ha:jG X c [a] gs) (hm:X.mg "range"=none) (hg:Gl X "range":=by rfl) (hs:Uj [a] X.env=[(false,eval a X.env)]:=by rfl):A8 X c tg (.Call (.Name "range" p) [a] [] pos) (bQ gs):=have ha:=ha.h;⟨
 qR (Ff hg hm ha hs) λσ H Q ⟨J,env,sr,w⟩=>by
  refine ⟨J,env,sr,aF (aM w) λrs wr vs J1 H1 e1 r1=>?_⟩;split at wr
  ·split at wr
   ·rename_i h;obtain ⟨v,rfl,r⟩:=r1.one;cases r;have h:=cW.mp h;exact ⟨_,rfl,Int.le_of_lt h.1,h.2,wr _ J1 H1 e1 DE⟩
   ·exact wr.elim
  ·exact wr.elim⟩
theorem fk {gi:G (List D)}(h:A8 X c tg e gi):ud X c tg e gi:=have h:=h.h;⟨qR h λσ H Q ⟨J,env,sr,w⟩=>
 ⟨J,env,sr,aF w λds q It J1 H1 e1 wk=>q It J1 H1 e1 λi J' H' hp u=>wk i J' H' hp u.1⟩⟩
end
section
variable {X:Cx}{c:C}{e a b tg:UU}{es:List UU}{ga gb g:G R}{pos:Pos}
theorem cQ (i:Nat){x:Str}{p1 p2 pos':Pos}(h:QD X c e g) (hN:X.N[i]?=some x:=by rfl) (hv:pH X.env.scope x:=by first | exact Yh rfl | exact WW (Yh rfl) | exact WW (WW rfl)) (hd:(x == ("__debug__":Str))=false:=by decide)
  (hcd:(x == ("__classdict__":Str))=false:=by decide)
  (hbase:Wt (.Name x p1) "append" X.env (eval (.Name x p1) X.env)=eval (.Name x p1) X.env:=by rfl)
  (hfew:((Vx pos' (Uj [e] X.env)).all (λx=>!x.1) && (acs pos' (Z4 [] X.env)).all (λx=>x.1.isSome)
   && decide (([e]:List UU).length + ([]:List Z5).length + (if ([]:List Z5).isEmpty then 0 else 1) < 30))=true:=by rfl)
  (hline:(p2.endLine == pos'.line)=true:=by rfl) (hst:Uj [e] X.env=(false,eval e X.env)::Uj [] X.env:=by rfl) (hplain:(Vx pos' (Uj [] X.env)).any (·.1)=false:=by rfl)
  (hs:Yi (.Call (.Attribute (.Name x p1) "append" p2) [e] [] pos') none pos.line X.env=pure false:=by rfl):gR X c (.Expr (.Call (.Attribute (.Name x p1) "append" p2) [e] [] pos') pos) (eX i g):=have h:=h.h;⟨
 gr (nD (yH Wv ZV ZW mq (kh hN hv hd hcd) (eH h gD hst) hbase hfew hline hst hplain) hs) λE σ H ⟨J,env,sr,w⟩=>by
  unfold eX at w;split at w
  ·rename_i xs hi;obtain ⟨v,h1,a,vs,rfl,h2,h3,h4,h5⟩:=sr.at_ i _ hi;refine ⟨.ref a,h1,.inl ⟨rfl,vs,cg.of h2⟩,?_⟩;refine ⟨J,env,sr,aF (aM w) λr wr y J1 H1 e1 r1=>?_⟩;obtain ⟨d,q,wr⟩:=jg wr;obtain ⟨J2,e2,s2,rd⟩:=freeze e1 r1 q;split at wr
   ·rename_i hz;refine ⟨a,vs,y,rfl,rfl,e2.h _ _ h2,by rw [<-h5.length];exact hz,?_⟩;refine wr σ J2 _ e2.j ?_;exact (sr.ext e2).upd hi h1 (e2.h _ _ h2) (e2.frz a (by rw [h2];intro z;cases z) h3) h4 ((h5.mono e2.j).append (.cons rd .nil))
   ·exact wr.elim
  ·exact w.elim⟩
end
section
variable {X:Cx}{c:C}
theorem br:nP X c [] cA:=⟨λTN s σ H Q I ⟨J,env,sr,w⟩=>wpAny_tests_nil ⟨H,I,w J H (Ext.refl sr.hp.sub)⟩⟩
theorem e_ {g:G Bool}(h:QB X c x g):nP X c [x] g:=have h:=h.h;⟨λTN s σ H Q I q=>wpAny_tests_one (h TN s σ H Q I q)⟩
end
section
variable {K:T5}{J:Hp}{s:T_}
variable {X:Cx}{c:C}{e a b tg:UU}{es:List UU}{ga gb g:G R}{pos:Pos}
theorem qe (hu:X.A.units + 64 < VI) (ha:QD X c a ga) (hb:QD X c b gb) (hK:X.K=c.K:=by rfl):QD X c (.Compare a [.Eq] [b] pos) (g2 (cL false) ga gb):=have ha:=ha.h;have hb:=hb.h;⟨qa (E5 hu) (Co false hK) ha hb⟩
theorem gE (hu:X.A.units + 64 < VI) (ha:QD X c a ga) (hb:QD X c b gb) (hK:X.K=c.K:=by rfl):QB X c (.Compare a [.Eq] [b] pos) (bB (g2 (cL false) ga gb)):=have ha:=ha.h;have hb:=hb.h;⟨iS (E5 hu) (Co false hK) ha hb⟩
theorem lK (hu:X.A.units + 64 < VI) (ha:QD X c a ga) (hb:QD X c b gb) (hK:X.K=c.K:=by rfl):QB X c (.Compare a [.NotEq] [b] pos) (bB (g2 (cL true) ga gb)):=have ha:=ha.h;have hb:=hb.h;⟨iS (M4 hu) (Co true hK) ha hb⟩
theorem qh (hu:X.A.units + 64 < VI) (ha:QD X c a ga) (hb:QD X c b gb) (hK:X.K=c.K:=by rfl) (hm:Vs .In b=false:=by rfl):QD X c (.Compare a [.In] [b] pos) (g2 (j4 false) ga gb):=have ha:=ha.h;have hb:=hb.h;⟨qa (E6 hu) (IF false hK) ha hb hm⟩
theorem Ny (hu:X.A.units + 64 < VI) (ha:QD X c a ga) (hb:QD X c b gb) (hK:X.K=c.K:=by rfl) (hm:Vs .In b=false:=by rfl):QB X c (.Compare a [.In] [b] pos) (bB (g2 (j4 false) ga gb)):=have ha:=ha.h;have hb:=hb.h;⟨iS (E6 hu) (IF false hK) ha hb hm⟩
end
section
variable {X:Cx}{c:C}{e a b tg:UU}{es:List UU}{ga gb g:G R}{pos:Pos}
theorem g_:A9 X c none uE:=⟨Jf KR λσ H Q ⟨J,env,sr,w⟩=>w J H (Ext.refl sr.hp.sub)⟩
theorem h_ (h:QD X c e g):A9 X c (some e) (pP g):=have h:=h.h;⟨Jf (KS h) λσ H Q ⟨J,env,sr,w⟩=>by
 refine ⟨J,env,sr,aF (aM w) λr wr v J1 H1 e1 r1=>?_⟩;split at wr
 ·cases r1;exact ⟨_,rfl,wr J1 H1 e1⟩
 ·exact wr.elim⟩
theorem uX {p:Pos}{gs:G (List R)}(ha:jG X c (e::es) gs) (hm:X.mg "sorted"=none) (hK:X.K=c.K:=by rfl) (hg:Gl X "sorted":=by rfl)
  (he:Uj (e::es) X.env=(false,eval e X.env)::Uj es X.env:=by rfl) (hpl:(Vx pos (Uj es X.env)).any (·.1)=false:=by rfl):QD X c (.Call (.Name "sorted" p) (e::es) [] pos) (gN kU gs):=have ha:=ha.h;⟨
 iY zk (by
  intro He J H xs vs Q hp rs w;unfold kU at w;split at w
  ·obtain ⟨v,rfl,r⟩:=rs.one;obtain ⟨xs,q,w⟩:=je w;obtain ⟨p,vs,rfl,h1,h2⟩:=RR.list hp r q;split at w
   ·rename_i ss z;split at w
    ·rename_i hl;have:=vh z h2;subst this;refine ⟨p,ss,rfl,by rw [hK];exact h1,hl,λss' hp' hs' l hl'=>?_⟩;rw [Dt hp' hs'];exact w _ _ _ (Ext.new hp.sub hl' _) (gF hp hl' (xG _))
    ·exact w.elim
   ·exact w.elim
  ·exact w.elim) ly hm ha hg (by decide) (by decide) he hpl⟩
theorem gu (ha:QD X c a ga) (hb:QD X c b gb):QD X c (.BinOp a .Add b pos) (g2 iu ga gb):=by
 have ha:=ha.h;have hb:=hb.h;refine ⟨?_⟩;have h1:BD c (qi λi j=>.int (i + j)) vK:=gT λ_ _ _=>.int _;have q:=kM (pos:=pos) (E2.or (uT.or E3)) (BD.or (c:=c) (λx _=>EK x) h1 (BD.or (c:=c) (λx _=>My x) (f:=ux) (f':=uy) (by
  intro He He' J H x y u v Q hp rx ry w;unfold ux at w;split at w
  ·cases rx;cases ry;split at w
   ·rename_i h;exact ⟨_,_,rfl,rfl,h,w _ J H (Ext.refl hp.sub) (.str _)⟩
   ·exact w.elim
  ·exact w.elim) (by
  intro He He' J H x y u v Q hp rx ry w;unfold uy at w;split at w
  ·rename_i hm;rw [Ub] at hm;obtain ⟨p,vs,xs,e1,rfl,h1,s1⟩:=rx.made hm.1;obtain ⟨p2,vs2,ys,e2,rfl,h2,s2⟩:=ry.made hm.2;rw [e1,e2] at w;simp only [aN] at w;split at w
   ·rename_i hz;rw [s1.length,s2.length] at hz;exact ⟨p,p2,vs,vs2,rfl,rfl,h1,h2,hz,λq hq=>w _ J _ (Ext.new hp.sub hq _) (gF hp hq (s1.append s2))⟩
   ·exact w.elim
  ·exact w.elim))) ha hb
 exact q
theorem gg (ha:QD X c a ga) (hb:QD X c b gb):QD X c (.BinOp a .Mult b pos) (g2 iM ga gb):=by
 have ha:=ha.h;have hb:=hb.h;refine ⟨?_⟩;have h1:BD c (rI B9 λi j=>.int (i * j)) Mk:=y_ (λi j h=>Ka h) λ_ _ _=>.int _;exact kM (pos:=pos) (M3.or Ky) (BD.or (c:=c) (λx _=>EK x) h1 (f':=CA) (by
  intro He He' J H x y u v Q hp rx ry w;unfold CA at w;split at w
  ·cases rx;cases ry;split at w
   ·rename_i h;exact ⟨_,_,rfl,rfl,h.1,h.2.1,h.2.2,w _ J H (Ext.refl hp.sub) (.str _)⟩
   ·exact w.elim
  ·exact w.elim)) ha hb
theorem aJ (ha:QD X c a ga) (hb:QD X c b gb) (hK:X.K=c.K:=by rfl) (hs:mV b:=by exact λ_ _=>rfl):QD X c (.Subscript a b pos) (g2 aY ga gb):=have ha:=ha.h;have hb:=hb.h;⟨Ja ME (by
 intro He He' J H x y u v Q hp rx ry w;rw [hK];unfold aY at w;split at w
 ·cases rx;cases ry;split at w
  ·rename_i h;split at w
   ·rename_i k hk;exact .inr (.inr ⟨_,_,k,rfl,rfl,h,hk,w _ J H (Ext.refl hp.sub) (.str _)⟩)
   ·exact w.elim
  ·exact w.elim
 ·cases ry;obtain ⟨xs,q,w⟩:=jf w;obtain ⟨p,vs,rfl,hl,hs⟩:=kR hp rx q;split at w
  ·rename_i d hd;obtain ⟨z,h1,h2⟩:=Lb hs hd;have fin:=w z J H (Ext.refl hp.sub) h2;rcases hl with hl | hl
   ·exact .inl ⟨p,vs,_,z,rfl,rfl,hl,h1,fin⟩
   ·exact .inr (.inl ⟨p,vs,_,z,rfl,rfl,hl,h1,fin⟩)
  ·exact w.elim
 ·exact w.elim) ha hb hs⟩
theorem aU {F:List S->M R}{gs:G (List R)}(G:bE X.prog X.w X.K X.mg X.base k n x F) (hr:dX k' X.A) (ha:jG X c (e::es) gs) (hk:k<=k':=by decide) (hT:c.K=X.K:=by rfl) (hg:Gl X x:=by rfl) (hdb:(x == ("__debug__":Str))=false:=by decide)
 (he:Uj (e::es) X.env=(false,eval e X.env)::Uj es X.env:=by rfl) (hpl:(Vx pos (Uj es X.env)).any (·.1)=false:=by rfl):QD X c (.Call (.Name x p) (e::es) [] pos) (gN (aT n F) gs):=by have ha:=ha.h;refine ⟨?_⟩;obtain ⟨f,fd,ps,h1,h2,h3,h4⟩:=G;exact KH h1 (hr.mono hk) h2 h3 h4 ha hT hg hdb he hpl
theorem tM (h:QD X c e g) (ht:oO X c tg t) (hs:Z1 [tg] e pos.line X.env=pure false:=by rfl) (hw:abo [tg] e X.env=pure none:=by rfl)
 (h1:(W7 [tg] X.env).map (·.2)=[assign tg X.env]:=by rfl):gR X c (.Assign [tg] e pos) (sW t g):=have h:=h.h;have ht:=ht.h;⟨KC h ht (Fl h ht hs hw h1)⟩
theorem fP {T:String}{Ts:Str}{p p2:Pos}(kit:A6 T) (hT:Vd Ts=some (.type T)) (mT:X.mg Ts=none)
  (h:QD X c a g) (hm:X.mg "isinstance"=none) (hK:X.K=c.K:=by rfl) (hg:Gl X "isinstance":=by rfl) (S9:Gl X Ts:=by rfl) (hn:Ts≠"__name__":=by decide) (S5:(Ts == ("__debug__":Str))=false:=by decide)
  (he:Uj [a,.Name Ts p2] X.env=(false,eval a X.env)::Uj [.Name Ts p2] X.env:=by rfl) (RC:Uj [.Name Ts p2] X.env=(false,eval (.Name Ts p2) X.env)::Uj [] X.env:=by rfl)
  (hpl:(Vx pos (Uj [.Name Ts p2] X.env)).any (·.1)=false:=by rfl):QD X c (.Call (.Name "isinstance" p) [a,.Name Ts p2] [] pos) (uD T g):=have h:=h.h;⟨
 gq (tH (AO kit) hg hm (by decide +kernel) (eH h (eH (KL S9 mT hT (v:=.ty T) rfl hn S5) gD RC) he) (by decide) (by decide) he hpl) λσ H Q ⟨J,env,sr,w⟩=>by
  refine ⟨J,env,sr,aF (aM w) λr wr v J1 H1 e1 r1=>?_⟩;exact ⟨r.dat,v,rfl,by rw [hK];exact r1.dat (sr.hp.ext e1),wr _ J1 H1 e1 (.bl _)⟩⟩
theorem v5 {p:Pos}{gs:G (List R)}(ha:jG X c (e::es) gs) (hm:X.mg "all"=none) (hK:X.K=c.K:=by rfl) (hc:X.calm=true:=by rfl) (hg:Gl X "all":=by rfl)
  (he:Uj (e::es) X.env=(false,eval e X.env)::Uj es X.env:=by rfl) (hpl:(Vx pos (Uj es X.env)).any (·.1)=false:=by rfl):QD X c (.Call (.Name "all" p) (e::es) [] pos) (gN pM gs):=have ha:=ha.h;⟨
 iY (Ea hc) (by
  intro He J H xs vs Q hp rs w;unfold pM at w;split at w
  ·obtain ⟨v,rfl,r⟩:=rs.one;obtain ⟨xs,q,w⟩:=je w;obtain ⟨p,vs,rfl,h1,h2⟩:=RR.list hp r q;split at w
   ·rename_i ks z;have:=pJ z h2;subst this;exact ⟨p,ks,rfl,by rw [hK];exact h1,w _ J H (Ext.refl hp.sub) (.bl _)⟩
   ·exact w.elim
  ·exact w.elim) D6 hm ha hg (by decide) (by decide) he hpl⟩
theorem K6 {p:Pos}{gs:G (List R)}(ha:jG X c (e::es) gs) (hm:X.mg "max"=none) (hc:X.calm=true:=by rfl) (hg:Gl X "max":=by rfl)
  (he:Uj (e::es) X.env=(false,eval e X.env)::Uj es X.env:=by rfl) (hpl:(Vx pos (Uj es X.env)).any (·.1)=false:=by rfl):QD X c (.Call (.Name "max" p) (e::es) [] pos) (gN Cz gs):=have ha:=ha.h;⟨
 iY (Ec hc) (by
  intro He J H xs vs Q hp rs w;unfold Cz at w;split at w
  ·obtain ⟨v,v',rfl,r,r'⟩:=rs.two;cases r;cases r';exact ⟨_,_,rfl,w _ J H (Ext.refl hp.sub) (.int _)⟩
  ·exact w.elim) (by decide +kernel) hm ha hg (by decide) (by decide) he hpl⟩
theorem cO (ha:QD X c a ga) (hb:QD X c b gb) (hK:X.K=c.K:=by rfl):QD X c (.BinOp a .Add b pos) (g2 cH ga gb):=by
 have ha:=ha.h;have hb:=hb.h;refine ⟨?_⟩;have h1:BD c (qi λi j=>.int (i + j)) vK:=gT λ_ _ _=>.int _;exact kM (pos:=pos) (E4.or (E2.or (uT.or E3))) (BD.or (c:=c) (λx _=>Mz x) (JH hK) (BD.or (c:=c) (λx _=>EK x) h1 (BD.or (c:=c) (λx _=>My x) (f:=ux) (f':=uy) (by
  intro He He' J H x y u v Q hp rx ry w;unfold ux at w;split at w
  ·cases rx;cases ry;split at w
   ·rename_i h;exact ⟨_,_,rfl,rfl,h,w _ J H (Ext.refl hp.sub) (.str _)⟩
   ·exact w.elim
  ·exact w.elim) (by
  intro He He' J H x y u v Q hp rx ry w;unfold uy at w;split at w
  ·rename_i hm;rw [Ub] at hm;obtain ⟨p,vs,xs,e1,rfl,h1,s1⟩:=rx.made hm.1;obtain ⟨p2,vs2,ys,e2,rfl,h2,s2⟩:=ry.made hm.2;rw [e1,e2] at w;simp only [aN] at w;split at w
   ·rename_i hz;rw [s1.length,s2.length] at hz;exact ⟨p,p2,vs,vs2,rfl,rfl,h1,h2,hz,λq hq=>w _ J _ (Ext.new hp.sub hq _) (gF hp hq (s1.append s2))⟩
   ·exact w.elim
  ·exact w.elim)))) ha hb
theorem BV {lo hi:Option UU}{gl gh:GO}{p2:Pos}(h:QD X c e g) (hl:A9 X c lo gl) (hh:A9 X c hi gh) (hK:X.K=c.K:=by rfl):QD X c (.Subscript e (.Slice lo hi none p2) pos) (nj zH g gl gh):=have h:=h.h;have hl:=hl.h;have hh:=hh.h;⟨Jb (FU.or Lf) (by
 intro He J H x v l u Q hp rx w;unfold zH at w;split at w
 ·exact .inl (P7 hK He J H x v l u Q hp rx w)
 ·obtain ⟨xs,q,w⟩:=je w;obtain ⟨p,vs,rfl,h1,h2⟩:=rx.list hp q;exact .inr ⟨p,vs,rfl,by rw [hK];exact h1,λp' hp'=>w _ _ _ (Ext.new hp.sub hp' _) (gF hp hp' (h2.cut l u))⟩) h hl hh⟩
theorem qf (h:Cc X.K X.mg x d) (hK:X.K=c.K:=by rfl) (hg:Gl X x:=by rfl) (hd:(x == ("__debug__":Str))=false:=by decide):QD X c (.Name x pos) (gC d):=by refine ⟨?_⟩;obtain ⟨u,v,h1,h2,h3⟩:=h;exact KI h1 h2 (λJ=>hK▸h3 J) hg hd
end
section
variable {X:Cx}{c:C}{e a b tg:UU}{es:List UU}{ga gb g:G R}{pos:Pos}{st:WM}{t u:G O}{tb:G Bool}
theorem oq:gR X c st yy:=⟨λTN s σ H D I ⟨J,env,sr,w⟩=>w.elim⟩
theorem we (h:QD X c a g):QD X c (.UnaryOp .USub a pos) (sY g):=have h:=h.h;⟨gq (Ox NY h) λσ H Q ⟨J,env,sr,w⟩=>by
 refine ⟨J,env,sr,aF (aM w) λr wr v J1 H1 e1 r1=>?_⟩;split at wr
 ·cases r1;exact ⟨_,rfl,wr _ J1 H1 e1 (.int _)⟩
 ·exact wr.elim⟩
theorem qU (h:QD X c e g) (hK:X.K=c.K:=by rfl) (he:∀whole,aa5 e X.env whole=(do let v <-whole;Xz e.pos;holding [v] (truthy v)):=by intro _;rfl):QB X c e (s_ g):=have h:=h.h;⟨yJ (HD h he) λσ H Q ⟨J,env,sr,w⟩=>by
 refine ⟨J,env,sr,aF (aM w) λr wr v J1 H1 e1 r1=>?_⟩;rw [hK];obtain ⟨k,k1,k2⟩:=Lm (sr.hp.ext e1) r1 wr;exact ⟨k,k1,k2 J1 H1 e1⟩⟩
theorem Dj (n:Nat){body:List WM}(ht:QB X c e tb) (hb:pG X c body u) (hp:acw (UB X.prog X.w) X.A X.env X.xe:=by first | exact acE | exact abU):gR X c (.While e body [] pos) (uF n tb u):=have ht:=ht.h;have hb:=hb.h;⟨gr (HC hp ht hb) λE σ H ⟨J,env,sr,w⟩=>by
 refine ⟨λm σ H=>∃J' env,aS J J'/\SR c J' H σ env/\cK (lQ tb u m env) (oP c J' E) c.T,⟨n,J,env,aS.refl J,sr,w⟩,?_⟩;rintro m σ H ⟨J',env,s',sr',w'⟩;cases m with
 | zero=>exact w'.elim
 | succ m=>
  refine ⟨J',env,sr',aF (aM w') λk wk J1 H1 e1=>?_⟩;cases k with
  | false=>
   rw [if_neg (by decide)] at wk ⊢;exact wk σ J1 H1 e1.j (sr'.ext e1)
  | true=>
   rw [if_pos rfl] at wk ⊢;refine ⟨λσ2 H2=>∃J2 env2,aS J1 J2/\SR c J2 H2 σ2 env2/\cK (lQ tb u m env2) (oP c J2 E) c.T,?_,?_⟩
   ·rintro σ2 H2 ⟨J2,env2,s2,sr2,w2⟩;exact ⟨m,V4 m,J2,env2,(s'.trans e1.j).trans s2,sr2,w2⟩
   ·refine ⟨J1,env,sr'.ext e1,aF (aM wk) λo wo=>?_⟩;cases o with
    | nx env4=>exact λσ4 J4 H4 s4 sr4=>⟨J4,env4,s4,sr4,aF wo λo q=>q.mono (e1.j.trans s4)⟩
    | ct env4=>exact λσ4 J4 H4 s4 sr4=>⟨J4,env4,s4,sr4,aF wo λo q=>q.mono (e1.j.trans s4)⟩
    | bk env4=>exact λσ4 J4 H4 s4 sr4=>wo σ4 J4 H4 (e1.j.trans s4) sr4
    | rt r=>exact λv J4 H4 s4 h4 r4=>wo v J4 H4 (e1.j.trans s4) h4 r4⟩
theorem AV (i j:Nat){x y:Str}{p1 p2 pos' q1 q2 q3:Pos}(h:QD X c e g) (hi:X.N[i]?=some x:=by rfl) (Tp:pH X.env.scope x:=by first | exact Yh rfl | exact WW (Yh rfl) | exact WW (WW rfl)) (hdx:(x == ("__debug__":Str))=false:=by decide) (S3:(x == ("__classdict__":Str))=false:=by decide)
  (hj:X.N[j]?=some y:=by rfl) (Tq:pH X.env.scope y:=by first | exact Yh rfl | exact WW (Yh rfl) | exact WW (WW rfl)) (Sb:(y == ("__debug__":Str))=false:=by decide) (S4:(y == ("__classdict__":Str))=false:=by decide)
  (hbase:Wt (.Name x p1) "append" X.env (eval (.Name x p1) X.env)=eval (.Name x p1) X.env:=by rfl)
  (hfew:((Vx pos' (Uj [.Call (.Attribute (.Name y q1) "pop" q2) [e] [] q3] X.env)).all (λx=>!x.1) && (acs pos' (Z4 [] X.env)).all (λx=>x.1.isSome)
   && decide (([.Call (.Attribute (.Name y q1) "pop" q2) [e] [] q3]:List UU).length + ([]:List Z5).length + (if ([]:List Z5).isEmpty then 0 else 1) < 30))=true:=by rfl)
  (hline:(p2.endLine == pos'.line)=true:=by rfl)
  (hst:Uj [.Call (.Attribute (.Name y q1) "pop" q2) [e] [] q3] X.env=(false,eval (.Call (.Attribute (.Name y q1) "pop" q2) [e] [] q3) X.env)::Uj [] X.env:=by rfl) (hplain:(Vx pos' (Uj [] X.env)).any (·.1)=false:=by rfl)
  (RN:Wt (.Name y q1) "pop" X.env (eval (.Name y q1) X.env)=eval (.Name y q1) X.env:=by rfl)
  (RW:((Vx q3 (Uj [e] X.env)).all (λx=>!x.1) && (acs q3 (Z4 [] X.env)).all (λx=>x.1.isSome)
   && decide (([e]:List UU).length + ([]:List Z5).length + (if ([]:List Z5).isEmpty then 0 else 1) < 30))=true:=by rfl)
  (RQ:(q2.endLine == q3.line)=true:=by rfl) (RZ:Uj [e] X.env=(false,eval e X.env)::Uj [] X.env:=by rfl) (RG:(Vx q3 (Uj [] X.env)).any (·.1)=false:=by rfl)
  (hs:Yi (.Call (.Attribute (.Name x p1) "append" p2) [.Call (.Attribute (.Name y q1) "pop" q2) [e] [] q3] [] pos') none pos.line X.env=pure false:=by rfl):gR X c (.Expr (.Call (.Attribute (.Name x p1) "append" p2) [.Call (.Attribute (.Name y q1) "pop" q2) [e] [] q3] [] pos') pos) (ni i j g):=have h:=h.h;⟨
 gr (nD (yH Wv ZV ZW mq (kh hi Tp hdx S3) (eH (yH Wv PySem.F.slot_list_pop PySem.F.type_list_pop G8 (kh hj Tq Sb S4) (eH h gD RZ) RN RW RQ RZ RG) gD hst) hbase hfew hline hst hplain) hs) λE σ H ⟨J,env,sr,w⟩=>by
  unfold ni at w;split at w
  ·rename_i zs xs Sg Si;split at w
   ·exact w.elim
   ·rename_i hij;obtain ⟨_,k1,p,us,rfl,k2,k3,k4,k5⟩:=sr.at_ i _ Sg;obtain ⟨_,l1,q,vs,rfl,l2,l3,l4,l5⟩:=sr.at_ j _ Si;refine ⟨.ref p,k1,.inl ⟨rfl,us,cg.of k2⟩,?_⟩;refine ⟨.ref q,l1,.inl ⟨rfl,vs,cg.of l2⟩,?_⟩;refine ⟨J,env,sr,aF (aM w) λr wr v J1 H1 e1 r1=>?_⟩;split at wr
    ·rename_i k;cases r1;split at wr
     ·rename_i hk;split at wr
      ·rename_i d hd;obtain ⟨z,hz,rz⟩:=l5.get hd;have m2:=e1.h _ _ l2;have n2:=e1.h _ _ k2;have hpq:q≠p:=λzz=>M_ sr hij Sg Si k1 l1 zz.symm;refine ⟨q,vs,k,k.toNat,z,rfl,rfl,m2,by omega,?_,OL hk.1 (by rw [<-l5.length];exact hk.2.1),hz,?_⟩
       ·have z1:=hk.2.1;have z2:=hk.2.2.2;have z3:sizeLine=16777216:=U7;omega
       ·refine ⟨p,us,z,rfl,rfl,by rw [aV (VS hpq)];exact n2,by rw [<-k5.length];exact hk.2.2.1,?_⟩;have sr1:=sr.ext e1;have J1p:J1 p=none:=e1.frz p (by rw [k2];intro z;cases z) k3;have J1q:J1 q=none:=e1.frz q (by rw [l2];intro z;cases z) l3;have sr2:=sr1.upd (xs':=xs.eraseIdx k.toNat) (vs':=vs.eraseIdx k.toNat) Si l1 m2 J1q l4 ((l5.mono e1.j).eraseIdx _);have Sh:(env.set j (some (.own (xs.eraseIdx k.toNat))))[i]?=some (some (.own zs)):=by rw [UP (VS hij)];exact Sg
        have sr3:=sr2.upd (xs':=zs++[d]) (vs':=us++[z]) Sh k1 (by rw [aV (VS hpq)];exact n2) J1p k4 ((k5.mono e1.j).append (.cons (rz.mono e1.j) .nil));exact wr σ J1 _ e1.j sr3
      ·exact wr.elim
     ·exact wr.elim
    ·exact wr.elim
  ·exact w.elim⟩
end
section
variable {X:Cx}{c:C}{e a b tg:UU}{es:List UU}{ga gb g:G R}{pos:Pos}
theorem sf (i:Nat){x:Str}{p1 p2 pos':Pos}(h:QD X c e g) (hN:X.N[i]?=some x:=by rfl) (hv:pH X.env.scope x:=by first | exact Yh rfl | exact WW (Yh rfl) | exact WW (WW rfl)) (hd:(x == ("__debug__":Str))=false:=by decide)
  (hcd:(x == ("__classdict__":Str))=false:=by decide)
  (hbase:Wt (.Name x p1) "extend" X.env (eval (.Name x p1) X.env)=eval (.Name x p1) X.env:=by rfl)
  (hfew:((Vx pos' (Uj [e] X.env)).all (λx=>!x.1) && (acs pos' (Z4 [] X.env)).all (λx=>x.1.isSome)
   && decide (([e]:List UU).length + ([]:List Z5).length + (if ([]:List Z5).isEmpty then 0 else 1) < 30))=true:=by rfl)
  (hline:(p2.endLine == pos'.line)=true:=by rfl) (hst:Uj [e] X.env=(false,eval e X.env)::Uj [] X.env:=by rfl) (hplain:(Vx pos' (Uj [] X.env)).any (·.1)=false:=by rfl)
  (hs:Yi (.Call (.Attribute (.Name x p1) "extend" p2) [e] [] pos') none pos.line X.env=pure false:=by rfl) (hK:X.K=c.K:=by rfl):gR X c (.Expr (.Call (.Attribute (.Name x p1) "extend" p2) [e] [] pos') pos) (vN i g):=have h:=h.h;⟨
 gr (nD (yH Wv PySem.F.slot_list_extend PySem.F.type_list_extend MU (kh hN hv hd hcd) (eH h gD hst) hbase hfew hline hst hplain) hs) λE σ H ⟨J,env,sr,w⟩=>by
  unfold vN at w;split at w
  ·rename_i xs hi;obtain ⟨v,h1,a,vs,rfl,h2,h3,h4,h5⟩:=sr.at_ i _ hi;refine ⟨.ref a,h1,.inl ⟨rfl,vs,cg.of h2⟩,?_⟩;refine ⟨J,env,sr,aF (aM w) λr wr y J1 H1 e1 r1=>?_⟩;obtain ⟨ys,q,wr⟩:=jf wr;split at wr
   ·rename_i hz;obtain ⟨p,ws,rfl,hq,hs⟩:=kR (sr.hp.ext e1) r1 q;refine ⟨a,p,vs,ws,rfl,rfl,e1.h _ _ h2,by rw [hK];exact hq,by rw [<-h5.length,<-hs.length];exact hz,?_⟩;refine wr σ J1 _ e1.j ?_;exact (sr.ext e1).upd hi h1 (e1.h _ _ h2) (e1.frz a (by rw [h2];intro z;cases z) h3) h4 ((h5.mono e1.j).append hs)
   ·exact wr.elim
  ·exact w.elim⟩
theorem Fx (ha:QD X c a ga) (hb:QD X c b gb):QD X c (.Compare a [.Is] [b] pos) (g2 (nc false) ga gb):=have ha:=ha.h;have hb:=hb.h;⟨qa E8 (by
 intro He He' J H x y u v Q hp rx ry w;unfold nc at w;split at w
 ·rename_i o ho;refine ⟨o,by rw [kX ry];exact ho,?_⟩;rw [kX rx];exact w _ J H (Ext.refl hp.sub) (.bl _)
 ·exact w.elim) ha hb⟩
theorem Ft (ha:QD X c a ga) (hb:QD X c b gb):QB X c (.Compare a [.Is] [b] pos) (bB (g2 (nc false) ga gb)):=have ha:=ha.h;have hb:=hb.h;⟨iS E8 (by
 intro He He' J H x y u v Q hp rx ry w;unfold nc at w;split at w
 ·rename_i o ho;refine ⟨o,by rw [kX ry];exact ho,?_⟩;rw [kX rx];exact w _ J H (Ext.refl hp.sub) (.bl _)
 ·exact w.elim) ha hb⟩
theorem Fv (ha:QD X c a ga) (hb:QD X c b gb):QB X c (.Compare a [.IsNot] [b] pos) (bB (g2 (nc true) ga gb)):=have ha:=ha.h;have hb:=hb.h;⟨iS E9 (by
 intro He He' J H x y u v Q hp rx ry w;unfold nc at w;split at w
 ·rename_i o ho;refine ⟨o,by rw [kX ry];exact ho,?_⟩;rw [kX rx];exact w _ J H (Ext.refl hp.sub) (.bl _)
 ·exact w.elim) ha hb⟩
end
section
variable {prog:Uv}{w:US}{A:UW}{E:T7->T_->Prop}{s:T_}{l:UA}{us:Array T7}{ns:List Int}
variable {X:Cx}{c:C}{e a b tg i:UU}{es:List UU}{ga gb g:G R}{pos:Pos}
theorem HJ {d:Int}{j:Nat}{p kp vp:Pos}(ha:QD X c e g) (hm:X.mg "max"=none) (hK:X.K=c.K:=by rfl) (hc:X.calm=true:=by rfl) (hg:Gl X "max":=by rfl)
  (he:Vx pos (Uj [e] X.env)=(false,eval e X.env)::Vx pos (Uj [] X.env):=by rfl) (hst:Uj [e] X.env=(false,eval e X.env)::Uj [] X.env:=by rfl)
  (hplain:(Vx pos (Uj [e] X.env)).any (·.1)=false:=by rfl):QD X c (.Call (.Name "max" p) [e] [⟨some "default",.Constant (.int d) j vp,kp⟩] pos) (IM d g):=by
 have ha:=ha.h;refine ⟨?_⟩;intro TN s σ H Q I ⟨J,env,sr,w⟩;refine WT (lG I hg hm ad0 ?_ (by decide) (by decide));refine ZX (bN ((eH ha gD hst) pos TN s σ H (λvs H1=>∃p ns J1,vs=[.ref p]/\cg X.K H1 p (ns.map V.int)/\Ext J H J1 H1/\∀v J' H',Ext J H J' H'->RR c H J' H' (.d (.int (p5 d ns))) v->Q v H') I ⟨J,env,sr,aF (aM w) λr wr v J1 H1 e1 r1=>?_⟩) λus s1 ⟨vs,H1,I1,rv,p,ns,J1,hvs,hq,e1,q⟩=>?_) he hplain rfl rfl
 ·obtain ⟨xs,hx,wr⟩:=je wr;obtain ⟨p,ws,rfl,hl,hs⟩:=RR.list (sr.hp.ext e1) r1 hx;split at wr
  ·rename_i ns hns;have:=kI hns hs;subst this;exact ⟨p,ns,J1,rfl,by rw [hK];exact hl,e1,wr⟩
  ·exact wr.elim
 ·subst hvs;obtain ⟨u,rfl,ru⟩:=rv.one;cases ru;refine aaC (bN (Fc TN s1 σ H1 (λv H2=>v=.int d/\H2=H1) I1 ⟨rfl,rfl⟩) λdv s2 ⟨v2,H2,I2,r2,hv2,SO⟩=>aa2 ?_);subst hv2 SO;obtain ⟨td,rfl⟩:=r2;obtain ⟨TR,r',pl,hz⟩:=I2.list hq;have hlen:=r'.length;rw [T8] at hlen;show Uu _ _ (call (.builtin "max") [.ref p] [("default",.int d td)]) _ _ s2;refine Ed (I2.ok.hd hc) pl.isList (Lp r') (by simp [hlen]) λt' h' tk k=>?_;exact ⟨.int _,H2,I2.kept k,⟨t',rfl⟩,q _ J1 H2 e1 (.int _)⟩
end
section
variable {X:Cx}{c:C}{e a b d tg:UU}{es:List UU}{ga gb g:G R}{pos:Pos}
theorem bW (h:QD X c e g) (hK:X.K=c.K:=by rfl):A8 X c tg e (c8 g):=have h:=h.h;⟨qR (Fe h) λσ H Q ⟨J,env,sr,w⟩=>by
 refine ⟨J,env,sr,aF (aM w) λr wr v J1 H1 e1 r1=>?_⟩;rw [hK];split at wr
 ·cases r1 with
  | tup h1 h2=>exact ⟨_,rfl,.inr ⟨⟨_,fU e1.sub h1⟩,wr _ J1 H1 e1 (xY (λJ H u=>u) h1 h2)⟩⟩
 ·cases r1 with
  | lst h1 h2=>exact ⟨_,rfl,.inl ⟨⟨_,e1.sub.seq h1⟩,wr _ J1 H1 e1 (qA (.inl h1) h2)⟩⟩
 ·obtain ⟨J2,e2,s2,rd⟩:=freeze e1 r1 rfl;cases rd with
  | lst h1 h2=>exact ⟨_,rfl,.inl ⟨⟨_,e2.sub.seq h1⟩,wr _ J2 H1 e2 (qA (.inl h1) h2)⟩⟩
 ·obtain ⟨a,vs,rfl,h1,h2⟩:=r1;exact ⟨_,rfl,.inl ⟨⟨_,(sr.hp.ext e1).ent.seq h1⟩,wr _ J1 H1 e1 (qA (.inr h1) h2)⟩⟩
 ·exact wr.elim⟩
theorem cu (h:QD X c e g) (hK:X.K=c.K:=by rfl):ud X c tg e (ff g):=have h:=h.h;⟨qR (Fe h) λσ H Q ⟨J,env,sr,w⟩=>by
 refine ⟨J,env,sr,aF (aM w) λr wr v J1 H1 e1 r1=>?_⟩;rw [hK];have lst:∀{xs:List D},jq r=.ok xs->(∀It J1' H1',Ext J H J1' H1'->Walk c It xs J1' (λJ' H'=>aS J1' J'/\aS H1' H')->Q It H1')->∃a,v=.ref a/\(((∃xs,cg c.K H1 a xs)/\Q (Ir c.K a) H1)\/((∃xs,c7 c.K H1 a xs)/\Q (Iv c.K a) H1)):=fun {xs} q wr=>by obtain ⟨a,vs,rfl,h1,h2⟩:=RR.list (sr.hp.ext e1) r1 q;refine ⟨a,rfl,.inl ⟨⟨_,h1⟩,wr _ J1 H1 e1 λi J' H' hp u=>?_⟩⟩;have h':=u.2.seq h1;refine ⟨λhl=>⟨vs,h',by rw [<-h2.length];exact hl⟩,λd hd=>?_⟩;obtain ⟨v,k1,k2⟩:=h2.get hd;refine ⟨⟨vs,v,h',k1⟩,λx H2 ⟨e,hy⟩=>?_⟩;subst e;have:=hy vs h';rw [k1] at this;cases this;exact ⟨J',Ext.refl hp.sub,k2.mono u.1⟩
 cases r with
 | d y=>
  cases y with
  | tup xs=>
   cases r1 with
   | tup h1 h2=>exact ⟨_,rfl,.inr ⟨⟨_,fU e1.sub h1⟩,wr _ J1 H1 e1 (xY (λJ H u=>u.1) h1 h2)⟩⟩
  | lst xs=>exact lst rfl wr
  | _=>exact wr.elim
 | l m xs=>exact lst rfl wr
 | mo _ _=>exact wr.elim
 | mb _ _=>exact wr.elim
 | mf _ _=>exact wr.elim
 | ln _=>exact wr.elim⟩
end
section
variable {X:Cx}{c:C}{st:WM}{g:G O}
theorem fS (i:Nat) (h:gR X c st g):gR X c st (d8 i g):=have h:=h.h;⟨λTN s σ H D I ⟨J,env,sr,w⟩=>by
 unfold d8 at w;split at w
 ·rename_i xs hi;obtain ⟨v,h1,a,vs,rfl,h2,h3,h4,h5⟩:=sr.at_ i _ hi;obtain ⟨J',s1,sr'⟩:=sr.frz (x:=.inl xs) hi h1 h2 h3 h4 (.lst (.inl (.inl bO)) (h5.mono (cG h3 _)));exact h TN s σ H D I ⟨J',_,sr',aF w λo q=>q.mono s1⟩
 ·rename_i ks vs hi;obtain ⟨v,h1,a,rfl,⟨us,ws,ep,h2,m1,m2,m3,m4⟩,h3,h4⟩:=sr.at_ i _ hi;obtain ⟨J',s1,sr'⟩:=sr.frz (x:=.inr (ks,vs)) hi h1 h2 h3 h4 (.dct bO (m1.mono (cG h3 _)) (m2.mono (cG h3 _)) m3 m4);exact h TN s σ H D I ⟨J',_,sr',aF w λo q=>q.mono s1⟩
 ·exact h TN s σ H D I ⟨J,env,sr,w⟩⟩
end
section
variable {X:Cx}{c:C}
theorem K1 {P:Uv}{w:US}{K:T5}{mg:Str->Option T7}{base:VJ}{x TX:Str}{st:WM}{f:UA}{fd:UO}{N ps:List Str}{k:Nat}{Fm:List S->M R}(F:oJ K x TX st f fd) (hm:mg x=some (.ref f)) (Sc:ie N ps (bH st))
  (hbi:∀(kV doc pm:T7) (an:Option UA) (cdv ct:T7) (us:List T7),us.length=ps.length->acq (V3 x TX (fY st) (c_ st) (bH st) .none kV doc pm an cdv ct) ⟨us,[]⟩=pure (ps.zip us)){gB:G O}
  (hb:∀(cdv:T7) (A:UW) (outer:List Env) (s:T_) (H:Hp) (E:XK) (J:Hp) (T:Exc->Prop),dX k (A.deeper (ZS TX (bH st) s.heap.objs.size f cdv))->
   pG (Er P w K mg base N TX (bH st) f cdv A outer s H E) ⟨K,H,J,T⟩ (c_ st) gB)
  (hF:∀as r,as.length=ps.length->Fm as=.ok r->fin (gB (a_ N as))=.ok r):bE P w K mg base (k + 1) ps.length x Fm:=
 L5 F hm Sc hbi (λcdv A outer s H E J T hr=>(hb cdv A outer s H E J T hr).h) hF
end
end DL
namespace K01
open PySem DL
def wK:List Str:=["thing"]
def xh:G O:=(bw (l_ (uD "int" (af 0)) (IQ (uD "bool" (af 0)))))
def o9 (as:List S):M R:=fin (xh (a_ wK as))
theorem fj (h:n<=1000):n<=sizeLine:=UC h (by decide)
theorem vE (f:D->Bool):∀(ds:List D),jY (ds.map λd=>.bl (f d))=some (ds.map f)
 | []=>rfl
 | d::r=>by simp only [Ur,jY,vE f r];rfl
theorem all_map (f:D->Bool) (ds:List D):pM [.l .fresh (ds.map λd=>.bl (f d))]=.ok (.d (.bl (ds.all f))):=by unfold pM;simp only [jq,aN,vE];congr 3;simp [Y0]
theorem qD {α:Type}{xs:List α}{k:Nat}{x:α}(h:xs[k]?=some x):L2.lq xs (k:Int)=some x:=by have hk:k < xs.length:=(Uy.mp h).1;unfold L2.lq L2.sd;rw [if_pos (by omega),if_pos (by omega)];simpa using h
theorem qK {xs:List D}{k:Nat}{x:D}(h:xs[k]?=some x):aY (.d (.tup xs)) (.d (.int k))=.ok (.d x):=by unfold aY;simp only [iz,aN,qD h]
theorem uz {m:Md}{xs:List D}{k:Nat}{x:D}(h:xs[k]?=some x):aY (.l m xs) (.d (.int k))=.ok (.d x):=by unfold aY;simp only [iz,aN,qD h]
theorem Bp {z:Str}{k:Nat}{c:Nat}(hz:z.length<=1000) (h:z.cps.toList[k]?=some c):aY (.d (.str z)) (.d (.int k))=.ok (.d (.str ⟨#[c]⟩)):=by unfold aY;simp only [fj hz,if_true,qD h]
theorem vV (xs:List D):dY [.d (.tup xs)]=.ok (.d (.int xs.length)):=rfl
theorem eq_int (neg:Bool) (i j:Int):cL neg (.d (.int i)) (.d (.int j))=.ok (.d (.bl (if neg then !(i == j) else i == j))):=rfl
theorem iQ (a:D) (r:List D):aY (.d (.tup (a::r))) (.d (.int 0))=.ok (.d a):=qK (k:=0) rfl
theorem EM (a b:D) (r:List D):aY (.d (.tup (a::b::r))) (.d (.int 1))=.ok (.d b):=qK (k:=1) rfl
theorem MC (a b c:D) (r:List D):aY (.d (.tup (a::b::c::r))) (.d (.int 2))=.ok (.d c):=qK (k:=2) rfl
theorem PZ (n:Nat) (h:n<=1000):below 4611686018427387904 (n:Int)=true:=cW.mpr ⟨by omega,by omega⟩
def Jh (j:Int):M (List D):=if below 4611686018427387904 j then .ok (fB 0 j.toNat) else .bad
theorem FL (j:Int) (h:below 4611686018427387904 j=true):Jh j=.ok (fB 0 j.toNat):=by unfold Jh;exact if_pos h
theorem FJ {gs:G (List R)}(hg:gs env=.ok [.d (.int j)]):bQ gs env=Jh j:=by unfold bQ Jh;rw [hg];rfl
theorem jB {gs:G (List R)}{env:Ev}{n:Nat}(hg:gs env=.ok [.d (.int (n:Int))]) (h:n<=1000):bQ gs env=.ok (fB 0 n):=by rw [FJ hg,FL _ (PZ n h)];exact congrArg (λk=>M.ok (fB 0 k)) (Vo n)
theorem Mm {g:G (List D)}{u:G O}(h:g env=.ok ds):bV g t u env=eE t u ds env:=by unfold bV;rw [h];rfl
theorem lP (i j:Int):iu (.d (.int i)) (.d (.int j))=.ok (.d (.int (i + j))):=rfl
theorem yK (i j:Int):vL (.d (.int i)) (.d (.int j))=.ok (.d (.int (i - j))):=rfl
theorem yv {C:Int->Int->Bool}{f:Int->Int->D}(h:C i j=true):fI C f (.d (.int i)) (.d (.int j))=.ok (.d (f i j)):=by show (if C i j=true then M.ok (R.d (f i j)) else M.bad)=_;rw [if_pos h]
theorem jd (i j:Int) (h1:-(2 ^ 64) < j) (h2:j < 2 ^ 64):iM (.d (.int i)) (.d (.int j))=.ok (.d (.int (i * j))):=yv (C:=zR) (f:=λi j=>.int (i * j)) (by unfold zR;rw [W_];exact WW (cW.mpr ⟨h1,h2⟩))
theorem iW (i j:Int) (h1:0 < j) (h2:j < 1073741824):iE (.d (.int i)) (.d (.int j))=.ok (.d (.int (i / j))):=yv (by
 unfold CM;rw [Ub];exact ⟨decide_eq_true h1,cW.mpr ⟨by omega,h2⟩⟩)
theorem dW (i j:Int) (h1:0 < j):d7 (.d (.int i)) (.d (.int j))=.ok (.d (.int (i % j))):=yv (decide_eq_true h1)
theorem OV (x y:Str) (h:x.length + y.length<=1000):iu (.d (.str x)) (.d (.str y))=.ok (.d (.str (x++y))):=by show (if x.length + y.length<=sizeLine then M.ok (R.d (D.str (x++y))) else M.bad)=_;rw [if_pos (fj h)]
def LQ:Str:="abcdefghijklmnopqrstuvwxyz"
theorem LR:∀k:Fin 26,LQ.cps.toList[k.val]?=some (97 + k.val):=by decide +kernel
theorem JA:LQ.length<=1000:=by decide +kernel
theorem EN (i:Int) (h0:0<=i) (h:i < 26):aY (.d (.str "abcdefghijklmnopqrstuvwxyz")) (.d (.int i))=.ok (.d (.str ⟨#[97 + i.toNat]⟩)):=by
 have e:i=((i.toNat:Nat):Int):=by omega
 have:=Bp (z:=LQ) (k:=i.toNat) JA (LR ⟨i.toNat,by omega⟩);rw [e];exact this
theorem kT (x y:Str):(x++y).cps.toList=x.cps.toList++y.cps.toList:=by show (x.cps++y.cps).toList=_;simp
theorem dH (x:Str):x.length=x.cps.toList.length:=by show x.cps.size=_;simp
theorem strs_map:∀(ss:List Str),strsOf (ss.map .str)=some ss
 | []=>rfl
 | s::r=>by simp only [Ur,strsOf,strs_map r];rfl
theorem sorted_strs (m:Md) (ss:List Str) (h:ss.length < 64):kU [.l m (ss.map .str)]=.ok (.l .fresh ((mE ss).map .str)):=by unfold kU;simp only [jq,aN,strs_map,h,if_true]
theorem pX {b:G Bool}{t u:G O}(h:b env=.ok false):bL b t u env=u env:=by unfold bL;rw [h];rfl
theorem nt {b:G Bool}{t u:G O}(h:b env=.ok true):bL b t u env=t env:=by unfold bL;rw [h];rfl
theorem Oj {g:G R}{f:List R->M R}(h:g env=.ok r) (hf:f [r]=.ok r'):gN f (ao g aG) env=.ok r':=by unfold gN ao;rw [h];exact hf
theorem FI {g:G R}(h:g env=.ok r) (h2:rF r=.ok r'):bw g env=.ok (.rt r'):=by unfold bw;rw [h,aN,h2];rfl
abbrev dN (k:Nat):D:=.int k
abbrev dP (p:Nat×Nat):D:=.tup [.int p.1,.int p.2]
def BK (p q:Nat×Nat):Prop:=p.1 < q.1\/(p.1=q.1/\p.2 < q.2)
structure Wd where
 m:Nat
 ms:List (Str×List Nat)
 ar:List (Str×List (Nat×Nat))
abbrev i7 (r:Str×List Nat):D:=.tup [.str r.1,.tup (r.2.map dN)]
abbrev ku (r:Str×List (Nat×Nat)):D:=.tup [.str r.1,.tup (r.2.map dP)]
def Wd.d (w:Wd):D:=.tup [.int w.m,.tup (w.ms.map i7),.tup (w.ar.map ku)]
theorem xF {K:T5}{J:L2.Hp}:∀(ns:List Int),aK K J (ns.map D.int) (ns.map L2.V.int)
 | []=>.nil
 | n::r=>.cons (.int n) (xF r)
end K01
namespace DX
open PySem PySem.Spec
open Builtin Builtin.ObjectAttr
end DX
namespace DX
open PySem PySem.Spec
end DX
namespace DX
open PySem PySem.Spec PyProof.Rows L2
end DX
namespace DL
open PySem PySem.Spec PyProof.Rows L2 DX
end DL
namespace DX
open PySem PySem.Spec PyProof.Rows L2
end DX
namespace DL
open PySem PySem.Spec PyProof.Rows L2 DX
end DL
namespace DX
open PySem PySem.Spec PyProof.Rows L2
end DX
namespace DL
open PySem PySem.Spec PyProof.Rows L2 DX
end DL
namespace DX
open PySem PySem.Spec PyProof.Rows L2
open Sem (wp)
end DX
namespace DL
open PySem PySem.Spec PyProof.Rows L2 DX
end DL
namespace DL
open PySem PySem.Spec PyProof.Rows L2
noncomputable def vB (A:UW) (s:T_) (y x:T7) (b:Bool):Prop:=
 ∀(prog:Uv) (w:US) (E:T7->T_->Prop) (Q:T7->T_->Prop),Q (.bool b) s->Uu (UB prog w) A (abk .Lt y x) Q E s
inductive gK (A:UW) (s:T_) (fin:Bool):List (T7×T7)->Bool->Prop
 | nil:gK A s fin [] fin
 | yes {x y:T7}{r:List (T7×T7)}{b:Bool}:Wl A s x y true->gK A s fin r b->gK A s fin ((x,y)::r) b
 | no {x y:T7}{r:List (T7×T7)}{b:Bool}:Wl A s x y false->vB A s x y b->gK A s fin ((x,y)::r) b
section
open PySem.SeqAt
open PySem.AutoSeq1 (wpAny_loadPart')
open PySem.MeetsSeq PySem.MeetsSeq2 PySem.MeetsSeq3
theorem F8 (l b:UA) (TQ TY:Array T7) (n n2:Nat) (dd dd2:Option UA) (sl sl2:Array (Option T7)) (dw:Bool):
  Meets (Xv.«tuple.__lt__» ⟨[.ref l,.ref b],[]⟩)
   (λA R s=>s.heap.get? l=some {cls:=.type "tuple",dict:=dd,data:=.seq TQ n,slots:=sl}/\s.heap.get? b=some {cls:=.type "tuple",dict:=dd2,data:=.seq TY n2,slots:=sl2}/\
    gK A.in1 s (decide (TQ.size < TY.size)) (TQ.toList.zip TY.toList) dw/\R (.ok (.ret (.bool dw))) s):=
 .of_wp λprog w A R s h=>by
  obtain ⟨hp,g,d,tk,os⟩:=s;obtain ⟨hl,hb,hP,h⟩:=h;have f2:=Yg
  wp_walk using WJ hl,WJ hb,WQ _ (λrest b s'=>b.1=none/\s'=⟨hp,g,d,tk,os⟩/\gK A.in1 ⟨hp,g,d,tk,os⟩ (decide (TQ.size < TY.size)) rest dw) _
  case turn=>
   rintro ⟨y,x⟩ rest b s' ⟨hb',rfl,hq⟩;cases hq with
   | yes he hr=>
    refine T4 (he prog w _ _ ?_)
    wp_walk
    exact ⟨rfl,rfl,hr⟩
   | no he hlt=>
    refine T4 (he prog w _ _ ?_);have Sv:=hlt prog w
    wp_walk using Sv
    exact ⟨_,rfl,by simpa using h⟩
  case fin=>
   rintro ⟨b1,b2⟩ s' ⟨hb',rfl,hq⟩;simp only at hb';subst hb';cases hq
   wp_walk
   exact ⟨_,rfl,by simpa [YL] using h⟩
  case h=>
   exact ⟨rfl,rfl,hP⟩
end
section
variable {K:T5}{J:Hp}{s:T_}
theorem Km {A:UW}{TQ TY:Array T7}{dw:Bool}(hl:s.heap.IsTuple l TQ) (hb:s.heap.IsTuple b TY) (hP:gK A.in1 s (decide (TQ.size < TY.size)) (TQ.toList.zip TY.toList) dw)
 (hu:A.units < VI):vB A s (.ref l) (.ref b) dw:=λprog w E Q h=>by
 obtain ⟨⟨cls,dd,data,sl⟩,ho,hc,n,hd⟩:=id hl;obtain ⟨⟨cls2,dd2,data2,sl2⟩,ho2,hc2,n2,hd2⟩:=id hb;simp only at hc hd hc2 hd2;subst hc hd hc2 hd2;exact aam (op:=.Lt) ⟨_,ho,rfl⟩ ⟨_,ho2,rfl⟩ PySem.F.slot_tuple_lt PySem.F.entry_tuple_lt (PySem.F.args_tuple_lt_2 _ _) (F8 l b TQ TY n n2 dd dd2 sl sl2 dw)
  ⟨ho,ho2,hP,show WN dw≠aa3/\Q (.bool dw) s from ⟨(λx=>nomatch x),h⟩⟩ hu
mutual
noncomputable def dI:D->D->Option Bool
 | .bl p,y=>match y with
  | .bl q=>some (!p && q)
  | _=>none
 | .int i,y=>match y with
  | .int j=>some (decide (i < j))
  | _=>none
 | .str x,y=>match y with
  | .str z=>some (decide (x.cps.toList < z.cps.toList))
  | _=>none
 | .tup xs,y=>match y with
  | .tup ys=>kr xs ys
  | _=>none
 | _,_=>none
noncomputable def kr:List D->List D->Option Bool
 | [],ys=>some (!ys.isEmpty)
 | x::xs,ys=>match ys with
  | []=>some false
  | y::ys=>if bq x y=true then kr xs ys else dI x y
end
theorem Kl (A:UW) (h:dI (.bl p) e=some b) (re:Rep K J e w) (rw':RelV w u'):vB A s (.bool p) u' b:=by
 unfold dI at h;cases e with
 | bl q=>
  cases re;cases rw';simp only [V7] at h;subst h;intro prog w E Q hq;refine (lt_bool (p:=p) (q:=q) ?_:Uu (UB prog w) A (Vz .Lt (.bool p) (.bool q)) Q E s);cases p <;> cases q <;> exact hq
 | _=>cases h
theorem G3 (A:UW) (h:dI (.int p) e=some b) (re:Rep K J e w) (rw':RelV w u'):vB A s (.int p t) u' b:=by
 unfold dI at h;cases e with
 | int q=>
  cases re;obtain ⟨t',rfl⟩:=rw';simp only [V7] at h;subst h;intro prog w E Q hq;exact (aen hq:Uu (UB prog w) A (Vz .Lt (.int p t) (.int q t')) Q E s)
 | _=>cases h
theorem G4 (A:UW) (h:dI (.str p) e=some b) (re:Rep K J e w) (rw':RelV w u'):vB A s (.str p t) u' b:=by
 unfold dI at h;cases e with
 | str q=>
  cases re;obtain ⟨t',rfl⟩:=rw';simp only [V7] at h;subst h;intro prog w E Q hq;exact (aeo hq:Uu (UB prog w) A (Vz .Lt (.str p t) (.str q t')) Q E s)
 | _=>cases h
noncomputable def Gn (K:T5) (J:Hp) (s:T_) (d:D):Prop:=∀{e:D}{v w:V}{u u':T7}{b:Bool}(A:UW),dI d e=some b->Rep K J d v->Rep K J e w->RelV v u->RelV w u'->A.units + dep d < VI->dep d<=1000->dep e<=1000->vB A s u u' b
noncomputable def t6 (K:T5) (J:Hp) (s:T_) (ds:List D):Prop:=∀{es:List D}{vs ws:List V}{us us':List T7}{b:Bool}{n1 n2:Nat}(A:UW),kr ds es=some b->aK K J ds vs->aK K J es ws->Vals vs us->Vals ws us'->A.units + deps ds < VI->deps ds<=1000->deps es<=1000->
  us.length + n2=us'.length + n1->gK A s (decide (n1 < n2)) (us.zip us') b
theorem G5 (F:HF K J s) (ih:t6 K J s ds):Gn K J s (.tup ds):=by
 intro e v w u u' b A h rd re rv rw' hu k1 k2;unfold dI at h;cases e with
 | tup es=>
  simp only at h;cases rd with
  | tup h1 hs=>
   cases re with
   | tup h2 hs'=>
    cases rv;cases rw';obtain ⟨TR,r,p⟩:=F.t _ _ h1;obtain ⟨its',r',p'⟩:=F.t _ _ h2;refine Km p p' ?_ (by unfold dep at hu;omega);have:=ih A.in1 (n1:=TR.length) (n2:=its'.length) h hs hs' r r' (by rw [in1_units];unfold dep at hu;omega) (by unfold dep at k1;omega) (by unfold dep at k2;omega) (by omega);simpa using this
 | _=>cases h
theorem EW:t6 K J s []:=by
 intro es vs ws us us' b n1 n2 A h rd re rv rw' hu k1 k2 hl;cases rd;cases rv;cases re with
 | nil=>
  cases rw';simp only [kr,List.isEmpty_nil,Ww,V7] at h;subst h;have:decide (n1 < n2)=false:=decide_eq_false (by simp at hl;omega);rw [this];exact .nil
 | cons _ _=>
  cases rw';simp only [kr,List.isEmpty_cons,aa8,V7] at h;subst h;have:decide (n1 < n2)=true:=decide_eq_true (by simp at hl;omega);rw [this];exact .nil
theorem CV (F:HF K J s) (ix:Gn K J s x) (ih:t6 K J s xs):t6 K J s (x::xs):=by
 intro es vs ws us us' b n1 n2 A h rd re rv rw' hu k1 k2 hl;cases rd with
 | cons q1 r1=>
  cases rv with
  | cons t1 u1=>
   cases re with
   | nil=>
    cases rw';simp only [kr,V7] at h;subst h;have:decide (n1 < n2)=false:=decide_eq_false (by simp at hl;omega);rw [this];exact .nil
   | cons q2 r2=>
    cases rw' with
    | cons t2 u2=>
     unfold deps at hu k1 k2;rename_i y v' ys ws' u0 us0;have he:=m9 F A q1 q2 t1 t2 (by omega) (by omega) (by omega);simp only [kr] at h;cases z:bq x y with
     | true=>
      rw [z,if_pos rfl] at h;rw [z] at he;exact .yes he (ih A h r1 r2 u1 u2 (by omega) (by omega) (by omega) (by simp at hl;omega))
     | false=>
      rw [z,if_neg UH] at h;rw [z] at he;exact .no he (ix A h q1 q2 t1 t2 (by omega) (by omega) (by omega))
mutual
theorem MS (F:HF K J s):∀d:D,Gn K J s d
 | .bl p=>λA h rd re rv rw' _ _ _=>by cases rd;cases rv;exact Kl A h re rw'
 | .int p=>λA h rd re rv rw' _ _ _=>by cases rd;obtain ⟨t,rfl⟩:=rv;exact G3 A h re rw'
 | .str p=>λA h rd re rv rw' _ _ _=>by cases rd;obtain ⟨t,rfl⟩:=rv;exact G4 A h re rw'
 | .tup ds=>G5 F (yE F ds)
 | .non=>λA h _ _ _ _ _ _ _=>by unfold dI at h;cases h
 | .lst _=>λA h _ _ _ _ _ _ _=>by unfold dI at h;cases h
 | .emp=>λA h _ _ _ _ _ _ _=>by unfold dI at h;cases h
 | .exn _ _ _=>λA h _ _ _ _ _ _ _=>by unfold dI at h;cases h
 | .dct _ _=>λA h _ _ _ _ _ _ _=>by unfold dI at h;cases h
theorem yE (F:HF K J s):∀ds:List D,t6 K J s ds
 | []=>EW
 | x::xs=>CV F (MS F x) (yE F xs)
end
end
end DL
namespace DL
open PySem PySem.Spec PyProof.Rows L2
open PySem.W (KasT kas_sort kas_asc kas_desc kas_rev kas_tail3 kas_descPart kas_count kas_place kas_bin)
noncomputable def aX {α:Type}(q:Nat->Nat->Bool):KasT α->α
 | .ret a=>a
 | .ask i j k=>aX q (k (q i j))
inductive fW (n:Nat){α:Type}(P:α->Prop):KasT α->Prop
 | ret {a:α}:P a->fW n P (.ret a)
 | ask {i j:Nat}{k:Bool->KasT α}:i < n->j < n->(∀b,fW n P (k b))->fW n P (.ask i j k)
theorem fW.bind {α β:Type}{P:α->Prop}{R:β->Prop}{f:α->KasT β}{t:KasT α}(h:fW n P t) (hf:∀a,P a->fW n R (f a)):fW n R (t.bind f):=by
 induction h with
 | ret p=>exact hf _ p
 | ask h1 h2 _ ih=>exact .ask h1 h2 ih
theorem fW.run {n:Nat}{α:Type}{P:α->Prop}{t:KasT α}(q:Nat->Nat->Bool) (h:fW n P t):P (aX q t):=by
 induction h with
 | ret p=>exact p
 | ask _ _ _ ih=>exact ih _
theorem fW.wp {α:Type}{P:α->Prop}{t:KasT α}{q:Nat->Nat->Bool}{cmp:Nat->Nat->(Bool->T_->Prop)->T_->Prop}{G:α->T_->Prop}(h:fW n P t)
 (hc:∀i j C,i < n->j < n->C (q i j) s->cmp i j C s) (hG:G (aX q t) s):t.kasWp cmp G s:=by
 induction h with
 | ret p=>exact hG
 | ask h1 h2 _ ih=>exact hc _ _ _ h1 h2 (ih _ hG)
def fK (n:Nat) (p:Array Nat):Prop:=p.Perm (Ue n).toArray
theorem fK.lt {p:Array Nat}(h:fK n p) (hn:0 < n) (k:Nat):p.getD k 0 < n:=by
 by_cases hk:k < p.size
 ·have e:p.getD k 0=p[k]:=by simp [V8,hk]
  rw [e];have hm:p[k]∈p:=Array.getElem_mem hk;have:=(Xw h).mp hm;simpa using this
 ·have e:p.getD k 0=0:=by simp [V8,hk]
  rw [e];exact hn
theorem fK.rev (h:fK n p) (i j:Nat):fK n (Zb p i j):=(mirror_perm _ _ _ _).trans h
theorem fK.bub (h:fK n p) (i j:Nat):fK n (bubble p i j):=(bubble_perm _ _ _).trans h
variable {n:Nat}
theorem Cn {p:Array Nat}(hn:0 < n) (h:fK n p):∀f m,fW n (λ_:Nat=>True) (Zc p f m)
 | 0,m=>.ret trivial
 | f + 1,m=>.ask (h.lt hn _) (h.lt hn _) λb=>by cases b with
  | true=>exact .ret trivial
  | false=>exact Cn hn h f (m + 1)
theorem ue (hn:0 < n):∀f {p:Array Nat} m q,fK n p->fW n (λr:Array Nat×Nat×Nat=>fK n r.1) (Wx f p m q)
 | 0,p,m,q,h=>.ret h
 | f + 1,p,m,q,h=>.ask (h.lt hn _) (h.lt hn _) λb=>by
  cases b with
  | true=>
   simp only [if_true];by_cases hq:q > 0
   ·rw [if_pos hq];exact ue hn f _ _ (h.rev _ _)
   ·rw [if_neg hq];exact ue hn f _ _ h
  | false=>
   simp only [Um,if_false];refine .ask (h.lt hn _) (h.lt hn _) λb=>?_;cases b with
   | true=>exact .ret h
   | false=>exact ue hn f _ _ h
theorem D0 (hn:0 < n) (h:fK n p) (m k:Nat):fW n (λr:Nat×Array Nat=>fK n r.2) (ad1 m k p):=(Cn hn (h.rev 0 m) _ _).bind λa _=>.ret (h.rev _ _)
theorem Bg (hn:0 < n) (h:fK n p) (m k:Nat):fW n (λr:Nat×Array Nat=>fK n r.2) (acd m k p):=(ue hn _ _ _ h).bind λr hr=>by
 split
 ·exact D0 hn (hr.rev _ _) _ _
 ·exact D0 hn hr _ _
theorem JG (hn:0 < n) (h:fK n p) (k:Nat):fW n (λr:Nat×Array Nat=>fK n r.2) (acF k p):=(Cn hn h _ _).bind λm _=>by
 split
 ·exact .ret h
 ·split
  ·refine .ask (h.lt hn _) (h.lt hn _) λb=>?_;cases b with
   | true=>exact .ret h
   | false=>exact Bg hn (h.rev _ _) _ _
  ·exact Bg hn h _ _
theorem vD (hn:0 < n){p:Array Nat}(h:fK n p) (k:Nat):∀f l r,fW n (λ_:Nat=>True) (WX p k f l r)
 | 0,l,r=>.ret trivial
 | f + 1,l,r=>by
  unfold WX;split
  ·exact .ret trivial
  ·refine .ask (h.lt hn _) (h.lt hn _) λb=>?_;cases b with
   | true=>exact vD hn h k f _ _
   | false=>exact vD hn h k f _ _
theorem IE (hn:0 < n):∀f {p:Array Nat} k,fK n p->fW n (fK n) (adH f p k)
 | 0,p,k,h=>.ret h
 | f + 1,p,k,h=>(vD hn h k _ _ _).bind λl _=>IE hn f _ (h.bub _ _)
theorem fL (hn:0 < n):fW n (fK n) (Wy n):=(JG hn (show fK n _ from aeV _) n).bind λr hr=>by
 split
 ·exact IE hn _ _ hr
 ·exact .ret hr
end DL
namespace DL
open PySem PySem.Spec PyProof.Rows L2
open PySem.W (KasT kas_sort kas_ask kas_item kat_run kat_snds KatLex kat_cons kat_yes kat_no kat_lt kat_one KatTups kat_kind Looks)
section
variable {prog:Uv}{w:US}{A:UW}{E:T7->T_->Prop}{s:T_}
def p7 (q:Nat->Nat->Bool) (vs:List T7):List T7:=(aX q (Wy vs.length)).toList.map λi=>vs.getD i UY
theorem Af (q:Nat->Nat->Bool){vs:List T7}(h:0 < vs.length):(p7 q vs).length=vs.length:=by unfold p7;rw [T8,Ux];have:=((fL h).run q:fK _ _).size_eq;simpa using this
theorem CT {vs:List T7}{q:Nat->Nat->Bool}{P:acG->T_->Prop}(ho:s.heap.get? a=some (VF "list" vs.toArray n)) (h2:2<=vs.length) (h64:vs.length < 64)
 (hk:∀h' C,(∀b o,b≠a->s.heap.get? b=some o->h'.get? b=some o)->C κ {s with heap:=h'}->Uu (UB prog w) A (aeC vs.toArray) C (λ_ _=>False) {s with heap:=h'})
 (hc:∀h',(∀b o,b≠a->s.heap.get? b=some o->h'.get? b=some o)->∀i j C,i < vs.length->j < vs.length->C (q i j) {s with heap:=h'}->kas_ask prog w A κ vs i j C {s with heap:=h'})
 (h:P (.done (.ret .none)) {s with heap:=ads s.heap a vs (p7 q vs).toArray}):Uu (UB prog w) A (Xv.«list.sort» ⟨[.ref a],[]⟩) P E s:=by
 have la:a < s.heap.objs.size:=Uq ho;have sl:vs.length<=sizeLine:=by rw [U7];omega
 obtain ⟨e1,g1⟩:∃e1,(s.heap.update a (Vj λ_=>(#[]:Array T7))).get? a=some (VF "list" #[] e1):=⟨_,(Yn ho λ_=>#[])⟩;have z1:(s.heap.update a (Vj λ_=>(#[]:Array T7))).objs.size=s.heap.objs.size:=(aah _ _ _);have g3:(((s.heap.update a (Vj λ_=>(#[]:Array T7))).push (VF "tuple" vs.toArray 0)).push (VF "list" #[] 0)).get? a=some (VF "list" #[] e1):=(T9 _ ((T9 _ g1)));have kp:∀b o,b≠a->s.heap.get? b=some o->(((s.heap.update a (Vj λ_=>(#[]:Array T7))).push (VF "tuple" vs.toArray 0)).push (VF "list" #[] 0)).get? b=some o:=λb o nb q=>
  T9 _ (T9 _ (by rw [VU _ _ _ _ nb];exact q))
 rw [acH];refine T4 ((aaD ho rfl ?_));refine T4 (Xl ho rfl ?_ (by rw [Ug];exact sl) (UD _));refine T4 ((Zt g1 rfl ?_));refine T4 (aa9 ?_ (show vs.length<=_ from sl));refine T4 ((Zj ?_ (UD _)));refine (UN ?_);dsimp only;have n2:¬vs.toArray.size < 2:=by (rw [Ug]);omega
 rw [if_neg n2,if_neg n2];refine T4 (UZ (hk _ (λk s'=>k=κ/\s'=_) kp ⟨rfl,rfl⟩) ?_ λ_ _ x=>x.elim);rintro _ _ ⟨rfl,rfl⟩;refine T4 (UZ (kat_run (E:=E) (Q:=λst' s'=>∃p:Array Nat,p.size=vs.length/\arrOf st'=p.map (kas_item (vs.toArray.zip vs.toArray))/\aeD st'=none/\p=aX q (Wy vs.length)/\s'=_)
  rfl h2 h64 (λp' st' s' a1 a2 a3 a4=>⟨p',a1,a2,a3,a4⟩) ((fL (by omega)).wp (q:=q) (hc _ kp) ⟨rfl,rfl⟩)) ?_ λ_ _ e=>e)
 rintro ⟨⟨⟩,st'⟩ s' ⟨p,hp,har,hf,rfl,rfl⟩;dsimp only;have ou:(arrOf st').map (·.2)=(p7 q vs).toArray:=kat_snds rfl har;rw [ou];refine T4 ((Zt g3 rfl ?_));refine T4 (Xl g3 rfl ?_ (UD _) (UC (ab5 (Ug.trans (Af q (UG Nat.zero_lt_two h2)))) (Nat.le_succ_of_le sl)));rw [hf];simp only [bne_self_eq_false,Um,if_false];exact T6 h
end
end DL
namespace DL
open PySem PySem.Spec PyProof.Rows L2
open PySem.W (KasT kas_sort kas_ask KatLex kat_nil kat_cons kat_yes kat_no kat_lt kat_one KatTups kat_kind Looks)
section
variable {prog:Uv}{w:US}{A:UW}{E:T7->T_->Prop}{s:T_}{K:T5}{J:Hp}
theorem xq {fin dw:Bool}{Q:Bool->T_->Prop}(h:gK A s fin zs dw) (hq:Q dw s):∀{i:Nat},(b && i == 0)=false->KatLex prog w A b fin Q zs i s:=by
 induction h with
 | nil=>intro i _;exact kat_nil hq
 | yes he _ ih=>intro i _;exact adI (he prog w _ _ (kat_yes (ih hq (by cases b <;> rfl))))
 | no he hl=>
  intro i hb;refine adI (he prog w _ _ (kat_no ?_));rw [hb];exact kat_one _ _ (hl prog w _ _ hq)
theorem Kd {fin dw e:Bool}{Q:Bool->T_->Prop}(he:Wl A s u u' e) (h1:e=true->gK A s fin zs dw)
 (h2:e=false->Uu (UB prog w) A (oneLt' true u u') Q (λ_ _=>False) s) (hq:Q dw s):KatLex prog w A true fin Q ((u,u')::zs) 0 s:=by
 cases e with
 | true=>exact adI (he prog w _ _ (kat_yes (xq (h1 rfl) hq rfl)))
 | false=>exact adI (he prog w _ _ (kat_no (h2 rfl)))
inductive Hd where
 | t | i | x
noncomputable def g8:D->Option Hd
 | .tup (.tup _::_)=>some .t
 | .tup (.int _::_)=>some .i
 | .tup (.str _::_)=>some .x
 | _=>none
noncomputable def Hd.flag:Hd->Bool
 | .t=>false
 | _=>true
noncomputable def Hd.ty:Hd->T7
 | .t=>.type "tuple"
 | .i=>.type "int"
 | .x=>.type "str"
theorem Hq {k:Hd}{C:Bool->T_->Prop}(hd:g8 (.tup (x::xs))=some k) (he:g8 (.tup (y::ys))=some k) (hf:k.flag=true) (h:dI x y=some b) (rd:Rep K J x v) (re:Rep K J y v') (rv:RelV v u) (rv':RelV v' u') (c:C b s):
  Uu (UB prog w) A (oneLt' true u u') C E s:=by
 cases x with
 | int x=>
  cases hd;cases y with
  | int y=>
   cases rd;cases re;obtain ⟨tk,rfl⟩:=rv;obtain ⟨tk',rfl⟩:=rv';unfold dI at h;simp only [V7] at h;refine oneLt_int ?_;rw [h];exact c
  | _=>cases he
 | str x=>
  cases hd;cases y with
  | str y=>
   cases rd;cases re;obtain ⟨tk,rfl⟩:=rv;obtain ⟨tk',rfl⟩:=rv';unfold dI at h;simp only [V7] at h;refine oneLt_str ?_;rw [h];exact c
  | _=>cases he
 | tup _=>cases hd;cases hf
 | _=>cases hd
theorem Ke (F:HF K J s){k:Hd}{C:Bool->T_->Prop}(hd:g8 d=some k) (he:g8 e=some k) (h:dI d e=some b) (rd:Rep K J d v) (re:Rep K J e v') (rv:RelV v u) (rv':RelV v' u')
 (hu:A.units + dep d < VI) (k1:dep d<=1000) (k2:dep e<=1000) (c:C b s):Uu (UB prog w) A (keyLt' (tuples' k.flag) u u') C E s:=by
 cases d with
 | tup ds=>
  cases e with
  | tup es=>
   unfold dI at h;simp only at h;cases rd with
   | tup h1 hs=>
    cases re with
    | tup h2 hs'=>
     cases rv;cases rv';obtain ⟨TR,r,p⟩:=F.t _ _ h1;obtain ⟨its',r',p'⟩:=F.t _ _ h2;obtain ⟨o,ho,hc,m,dm⟩:=id p;obtain ⟨o',ho',hc',m',dm'⟩:=id p';refine kat_lt ho dm ho' dm' ?_;simp only [Ug];cases hf:k.flag with
     | false=>
      exact xq (yE F ds A (n1:=TR.length) (n2:=its'.length) h hs hs' r r' (by unfold dep at hu;omega) (by unfold dep at k1;omega) (by unfold dep at k2;omega) (by omega)) c rfl
     | true=>
      cases hs with
      | nil=>cases hd
      | cons q1 t1=>
       cases hs' with
       | nil=>cases he
       | cons q2 t2=>
        cases r with
        | cons a1 b1=>
         cases r' with
         | cons a2 b2=>
          unfold dep deps at hu k1 k2;rw [Yo];unfold kr at h;simp only at h;refine Kd (dw:=b) (m9 F A q1 q2 a1 a2 (by omega) (by omega) (by omega)) (λz=>?_) (λz=>?_) c
          ·rw [z,if_pos rfl] at h;exact yE F _ A h t1 t2 b1 b2 (by omega) (by omega) (by omega) (by simp;omega)
          ·rw [z,if_neg UH] at h;exact Hq hd he hf h q1 q2 a1 a2 c
  | _=>cases he
 | _=>cases hd
noncomputable def gS (k:Hd):List D->Bool
 | []=>true
 | d::r=>(match g8 d,k with
  | some .t,.t=>true
  | some .i,.i=>true
  | some .x,.x=>true
  | _,_=>false) && gS k r
theorem lW {k:Hd}:∀{ds:List D},gS k ds=true->∀d∈ds,g8 d=some k
 | [],_,_,hm=>nomatch hm
 | x::r,h,d,hm=>by
  unfold gS at h;rw [Ub] at h;rcases Uw.mp hm with rfl | hm
  ·cases q:g8 d with
   | none=>rw [q] at h;cases h.1
   | some k'=>rw [q] at h;cases k' <;> cases k <;> first | rfl | cases h.1
  ·exact lW h.2 d hm
theorem EF (F:HF K J s){k:Hd}(hd:g8 d=some k) (rd:Rep K J d v) (rv:RelV v u):∃a o xs n f,u=.ref a/\s.heap.get? a=some o/\o.cls=.type "tuple"/\o.data=.seq xs n/\xs[0]?=some f/\Looks (UB prog w) s.heap (typeOf f) k.ty:=by
 cases d with
 | tup ds=>
  cases rd with
  | tup h1 hs=>
   cases rv;obtain ⟨TR,r,p⟩:=F.t _ _ h1;obtain ⟨o,ho,hc,m,dm⟩:=id p;cases hs with
   | nil=>cases hd
   | cons q1 t1=>
    cases r with
    | cons a1 b1=>
     refine ⟨_,o,_,m,_,rfl,ho,hc,dm,rfl,?_⟩;rename_i x v' ds' vs' u us;cases x with
     | tup _=>
      cases hd;cases q1 with
      | tup h2 _=>
       cases a1;obtain ⟨its2,_,p2⟩:=F.t _ _ h2;obtain ⟨o2,ho2,hc2,_,_⟩:=id p2;have:=(Looks.ld (M:=UB prog w) (part:=none) ho2).andThen (f:=λo=>pure o.cls) (b:=o2.cls) .now;rw [hc2] at this;exact this
     | int _=>
      cases hd;cases q1;obtain ⟨tk,rfl⟩:=a1;exact .now
     | str _=>
      cases hd;cases q1;obtain ⟨tk,rfl⟩:=a1;exact .now
     | _=>cases hd
 | _=>cases hd
theorem uN (F:HF K J s){k:Hd}:∀{ds:List D}{vs:List V}{us:List T7},gS k ds=true->aK K J ds vs->Vals vs us->∃fs,KatTups s.heap us fs/\fs.length=us.length/\∀v∈fs,Looks (UB prog w) s.heap (typeOf v) k.ty
 | _,_,_,_,.nil,.nil=>⟨[],trivial,rfl,λ_ h=>nomatch h⟩
 | d::ds,_,_,h,.cons q rs,.cons a b=>by
  have hd:=lW h d (Uc ..);unfold gS at h;rw [Ub] at h;obtain ⟨fs,h1,h2,h3⟩:=uN F h.2 rs b;obtain ⟨p,o,xs,n,f,rfl,e1,e2,e3,e4,e5⟩:=EF (prog:=prog) (w:=w) F hd q a;refine ⟨f::fs,⟨⟨p,o,xs,n,rfl,e1,e2,e3,e4⟩,h1⟩,by simp [h2],λv hv=>?_⟩;rcases Uw.mp hv with rfl | hv
  ·exact e5
  ·exact h3 v hv
theorem JT (k:Hd):(k.ty != YE "tuple")=k.flag:=by cases k <;> decide
theorem EO (F:HF K J s){k:Hd}{us:List T7}(h:gS k ds=true) (rs:aK K J ds vs) (rv:Vals vs us) (hl:0 < us.length){C:SortKind->T_->Prop}(c:C (tuples' k.flag) s):Uu (UB prog w) A (aeC us.toArray) C E s:=by obtain ⟨fs,h1,h2,h3⟩:=uN (prog:=prog) (w:=w) F h rs rv;refine kat_kind h1 (by omega) h3 (by cases k <;> decide) ?_;rw [JT];exact c
end
end DL
namespace DL
open PySem PySem.Spec PyProof.Rows L2
open PySem.W (KasT kas_sort kas_ask)
section
variable {prog:Uv}{w:US}{A:UW}{E:T7->T_->Prop}{s:T_}
theorem CS {vs:List T7}{P:acG->T_->Prop}(ho:s.heap.get? a=some (VF "list" vs.toArray n)) (h2:vs.length < 2)
 (h:P (.done (.ret .none)) {s with heap:=ads s.heap a vs vs.toArray}):Uu (UB prog w) A (Xv.«list.sort» ⟨[.ref a],[]⟩) P E s:=by
 have sl:vs.length<=sizeLine:=by rw [U7];omega
 obtain ⟨e1,g1⟩:∃e1,(s.heap.update a (Vj λ_=>(#[]:Array T7))).get? a=some (VF "list" #[] e1):=⟨_,(Yn ho λ_=>#[])⟩;have g3:(((s.heap.update a (Vj λ_=>(#[]:Array T7))).push (VF "tuple" vs.toArray 0)).push (VF "list" #[] 0)).get? a=some (VF "list" #[] e1):=(T9 _ ((T9 _ g1)));rw [acH];refine T4 ((aaD ho rfl ?_));refine T4 (Xl ho rfl ?_ (by rw [Ug];exact sl) (UD _));refine T4 ((Zt g1 rfl ?_));refine T4 (aa9 ?_ (show vs.length<=_ from sl));refine T4 ((Zj ?_ (UD _)));refine (UN ?_);dsimp only;have n2:vs.toArray.size < 2:=by (rw [Ug]);omega
 rw [if_pos n2,if_pos n2];refine (T4 (T6 ?_));rw [acI];refine (T4 (T6 ?_));dsimp only;have ou:(arrOf (SortSt.mk' general' (vs.toArray.zip vs.toArray) #[] 7 none)).map (·.2)=vs.toArray:=by
  show (vs.toArray.zip vs.toArray).map (·.2)=vs.toArray
  match vs,h2 with
  | [],_=>simp
  | [_],_=>simp
 rw [ou];refine T4 ((Zt g3 rfl ?_));refine T4 (Xl g3 rfl ?_ (UD _) (by rw [Ug];omega));simp only [bne_self_eq_false,Um,if_false];exact T6 h
abbrev Kp (h h':VJ):Prop:=∀b o,h.get? b=some o->h'.get? b=some o
noncomputable def yL (prog:Uv) (w:US) (A:UW) (s:T_) (vs:List T7) (q:Nat->Nat->Bool):Prop:=2<=vs.length->∃κ,∀h' tk,Kp s.heap h'->
 (∀C:SortKind->T_->Prop,C κ {s with heap:=h',toks:=tk}->Uu (UB prog w) A (aeC vs.toArray) C (λ_ _=>False) {s with heap:=h',toks:=tk})/\
 ∀i j (C:Bool->T_->Prop),i < vs.length->j < vs.length->C (q i j) {s with heap:=h',toks:=tk}->kas_ask prog w A κ vs i j C {s with heap:=h',toks:=tk}
noncomputable def Coll (prog:Uv) (w:US) (A:UW) (s:T_) (x:T7) (vs:List T7):Prop:=∀(E:T7->T_->Prop) (C:List T7->T_->Prop),(∀h1 tk,Kp s.heap h1->s.heap.objs.size<=h1.objs.size->C vs {s with heap:=h1,toks:=tk})->Uu (UB prog w) A (collect x) C E s
theorem Bj {o:Obj}{vs:List T7}(hT:T="list"\/T="tuple") (ho:s.heap.get? a=some o) (hc:o.cls=.type T) (hd:o.data=.seq vs.toArray n) (sl:vs.length<=sizeLine):Coll prog w A s (.ref a) vs:=by
 intro E C h;generalize hh:(s.heap.push (VF "list" #[] 0)).update s.heap.objs.size (Vj (·++vs.toArray))=h1;have hS:(s.heap.push (VF "list" #[] 0)).get? s.heap.objs.size=some (VF "list" #[] 0):=Uh _ rfl;have R4:=Vi (Vj (·++vs.toArray)) hS rfl;rw [hh] at R4;have k1:Kp s.heap h1:=λb o e=>by rw [<-hh,VU _ _ _ _ (UE (Uq e))];exact T9 _ e
 have z1:s.heap.objs.size<=h1.objs.size:=by rw [<-hh,aah,size_push'];exact YI _
 have fin:=h h1 s.toks k1 z1;unfold collect;refine T4 (aa_ (VM aaE ?_));rw [Ve aaF _];show Uu _ A.in1 (newList [] >>= λl=>again (.builtin "list.__iadd__" ⟨[l,.ref a],[]⟩)) _ _ s;refine T4 (UJ ?_);refine T6 ⟨Wu YM _,VM abV ?_⟩;rw [Ve YM _];have fin':Uu (UB prog w) A (load s.heap.objs.size >>= λo=>match o.data with
   | .seq xs _=>pure xs.toList
   | _=>unsupported "internal:collect") C E {s with heap:=h1}:=by
  refine T4 (adk R4 (T6 ?_));have e:((#[]:Array T7)++vs.toArray).toList=vs:=by simp
  show C ((#[]:Array T7)++vs.toArray).toList _;rw [e];exact fin
 refine UZ (wpAny_extend_seq (hsz:=by rw [Ug];exact sl) (A:=A) (R:=λr s'=>r=.ok (.ret (.ref s.heap.objs.size))/\s'={s with heap:=h1})
  (s:={s with heap:=s.heap.push (VF "list" #[] 0)}) _ a _ 0 hT hS (T9 _ ho) hc hd ⟨rfl,by rw [<-hh]⟩) (λf s' q=>?_) (λe s' q=>absurd q.1 (by simp))
 cases f with
 | done f=>
  obtain ⟨e,rfl⟩:=q;cases e;exact fin'
 | again c'=>exact ⟨q.1,Xg q.2 λr s'' hr=>by obtain ⟨rfl,rfl⟩:=hr;exact fin'⟩
theorem Lh {q:Nat->Nat->Bool}{Q:T7->T_->Prop}{vs:List T7}(Ri:Coll prog w A.in1 s x vs) (h64:vs.length < 64) (ha:yL prog w A.in1.in1 s vs q)
 (h:∀h' tk l n,Kp s.heap h'->s.heap.objs.size<=l->h'.get? l=some (VF "list" (if vs.length < 2 then vs else p7 q vs).toArray n)->Q (.ref l) {s with heap:=h',toks:=tk}):Uu (UB prog w) A (call (.builtin "sorted") [x]) Q E s:=by
 have sl:vs.length<=sizeLine:=by rw [U7];omega
 refine (Calls.call_function_entry kind_sorted plain_sorted entry_sorted (args_sorted1 _) ?_);unfold Xv.«sorted»;refine T4 (m:=checkCount "sorted" 1 1 _) ((T6 ?_));refine T4 (Ri _ _ λh1 tk1 k1 le1=>?_);refine T4 (Zj ?_ sl);have gL:(h1.push (VF "list" vs.toArray 0)).get? h1.objs.size=some (VF "list" vs.toArray 0):=Uh _ rfl;have kp:∀b o,s.heap.get? b=some o->b≠h1.objs.size/\(h1.push (VF "list" vs.toArray 0)).get? b=some o:=λb o e=>by have e1:=k1 b o e;exact ⟨UE (Uq e1),T9 _ e1⟩
 have kend:∀out,Kp s.heap (ads (h1.push (VF "list" vs.toArray 0)) h1.objs.size vs out):=λout b o e=>by obtain ⟨g1,g2'⟩:=kp b o e;rw [sortedHeap_old g1 (Uq g2')];exact g2'
 dsimp only;by_cases h2:vs.length < 2
 ·refine T4 (UN (U0 aba ⟨_,gL,rfl⟩ aaG (CS gL h2 ⟨_,rfl,?_⟩) (ac6 _)));obtain ⟨n,hn'⟩:=adJ (out:=vs.toArray) gL;rw [if_pos h2] at h;exact T6 ⟨_,rfl,h _ tk1 _ n (kend _) le1 hn'⟩
 ·obtain ⟨κ,ask⟩:=ha (by omega);refine T4 (UN (U0 aba ⟨_,gL,rfl⟩ aaG (CT (κ:=κ) (q:=q) gL (by omega) h64 (λh' C k c=>?_) (λh' k i j C hi hj c=>?_) ⟨_,rfl,?_⟩) (ac6 _)))
  ·exact (ask h' tk1 λb o e=>k b o (kp b o e).1 (kp b o e).2).1 C c
  ·exact (ask h' tk1 λb o e=>k b o (kp b o e).1 (kp b o e).2).2 i j C hi hj c
  ·obtain ⟨n,hn'⟩:=adJ (out:=(p7 q vs).toArray) gL;rw [if_neg h2] at h;exact T6 ⟨_,rfl,h _ tk1 _ n (kend _) le1 hn'⟩
end
def dz (ds:List D) (i:Nat):D:=ds.getD i .non
def ltB (ds:List D) (i j:Nat):Bool:=(dI (dz ds i) (dz ds j)).getD false
def bX (ds:List D):List D:=if ds.length < 2 then ds else (aX (ltB ds) (Wy ds.length)).toList.map (dz ds)
def zw (ds:List D):Bool:=ds.all λx=>ds.all λy=>(dI x y).isSome
noncomputable def Hl (ds:List D):Bool:=match ds with
 | []=>false
 | d::_=>match g8 d with
  | some k=>gS k ds
  | none=>false
def xw (ds:List D):Bool:=decide (ds.length < 2) || (decide (ds.length < 64) && (decide (deps ds<=60) && (Hl ds && zw ds)))
section
variable {K:T5}{J:Hp}
theorem jT {ds:List D}{vs:List V}(h:aK K J ds vs):∀{i:Nat},i < ds.length->Rep K J (dz ds i) (vs.getD i V.non):=by
 induction ds generalizing vs with
 | nil=>intro i hi;exact absurd hi (Vw _)
 | cons x r ih=>
  intro i hi;cases h with
  | cons q rs=>
   cases i with
   | zero=>simpa [dz] using q
   | succ i=>simpa [dz] using ih rs (i:=i) (by simpa using hi)
theorem jV {vs:List V}{us:List T7}(h:Vals vs us):∀{i:Nat},i < vs.length->RelV (vs.getD i V.non) (us.getD i UY):=by
 induction vs generalizing us with
 | nil=>intro i hi;exact absurd hi (Vw _)
 | cons x r ih=>
  intro i hi;cases h with
  | cons q rs=>
   cases i with
   | zero=>simpa using q
   | succ i=>simpa using ih rs (i:=i) (by simpa using hi)
theorem wm {ds:List D}{vs:List V}(h:aK K J ds vs):∀ix:List Nat,(∀i∈ix,i < ds.length)->aK K J (ix.map (dz ds)) (ix.map λi=>vs.getD i V.non)
 | [],_=>.nil
 | i::r,hi=>.cons (jT h (hi i (Uc ..))) (wm h r λj hj=>hi j (Ua _ hj))
theorem wD {vs:List V}{us:List T7}(h:Vals vs us):∀ix:List Nat,(∀i∈ix,i < vs.length)->Vals (ix.map λi=>vs.getD i V.non) (ix.map λi=>us.getD i UY)
 | [],_=>.nil
 | i::r,hi=>.cons (jV h (hi i (Uc ..))) (wD h r λj hj=>hi j (Ua _ hj))
theorem JP {ds:List D}:∀{i:Nat},i < ds.length->dep (dz ds i)<=deps ds:=by
 induction ds with
 | nil=>intro i hi;exact absurd hi (Vw _)
 | cons x r ih=>
  intro i hi;unfold deps;cases i with
  | zero=>show dep x<=_;omega
  | succ i=>
   have:=ih (i:=i) (by simpa using hi);have e:dz (x::r) (i + 1)=dz r i:=rfl;rw [e];omega
theorem ir {ds:List D}(hi:i < ds.length):dz ds i∈ds:=by
 have e:dz ds i=ds[i]:=by simp [dz,hi]
 rw [e];exact Vm hi
theorem HF.keep {s s':T_}(F:HF K J s) (k:∀b o,s.heap.get? b=some o->s'.heap.get? b=some o):HF K J s':=
 ⟨λa xs h=>let ⟨TR,r,o,ho,p⟩:=F.t a xs h;⟨TR,r,o,k _ _ ho,p⟩,λa xs h=>let ⟨TR,r,o,ho,p⟩:=F.l a xs h;⟨TR,r,o,k _ _ ho,p⟩,λa h=>let ⟨o,ho,p⟩:=F.e a h;⟨o,k _ _ ho,p⟩,λa ep TZ h=>let ⟨o,es,ho,p⟩:=F.d a ep TZ h;⟨o,es,k _ _ ho,p⟩⟩
theorem DY {A:UW}(F:HF K J s) (rs:aK K J ds vs) (rv:Vals vs TR) (hk:∀d∈ds,g8 d=some k/\dep d<=60) (hk':gS k ds=true) (hc:∀x∈ds,∀y∈ds,(dI x y).isSome=true) (hu:A.units + 62 < VI):yL prog w A s TR (ltB ds):=by
 intro h2;have l1:vs.length=TR.length:=rv.length;have l2:ds.length=vs.length:=rs.length;refine ⟨tuples' k.flag,λh' tk kp=>⟨λC cc=>EO (F.keep kp) hk' rs rv (by omega) cc,λi j C hi hj cc=>?_⟩⟩;have hi':i < ds.length:=by omega
 have hj':j < ds.length:=by omega
 obtain ⟨a1,d1⟩:=hk _ (ir hi');obtain ⟨a2,d2⟩:=hk _ (ir hj');have hb:dI (dz ds i) (dz ds j)=some (ltB ds i j):=by
  have:=hc _ (ir hi') _ (ir hj');unfold ltB;cases z:dI (dz ds i) (dz ds j) with
  | none=>rw [z] at this;cases this
  | some b=>rfl
 exact Ke (F.keep kp) a1 a2 hb (jT rs hi') (jT rs hj') (jV rv (by omega)) (jV rv (by omega)) (by omega) (by omega) (by omega) cc
end
noncomputable def isInt:D->Bool
 | .int _=>true
 | _=>false
def Ad (ds:List D):Bool:=decide (ds.length < 64) && ds.all isInt
theorem Bw {K:T5}{J:Hp}:∀{ds:List D}{vs:List V}{us:List T7},ds.all isInt=true->aK K J ds vs->Vals vs us->∃ns,XD us ns
 | _,_,_,_,.nil,.nil=>⟨[],.nil⟩
 | d::ds,_,_,h,.cons r rs,.cons v vs=>by
  (rw [We,Ub] at h)
  obtain ⟨ns,hn⟩:=Bw h.2 rs vs;cases d with
  | int i=>
   cases r;obtain ⟨t,rfl⟩:=v;exact ⟨i::ns,.cons i t hn⟩
  | _=>cases h.1
theorem LW {K:T5}{J:Hp}{prog:Uv}{w:US}{A:UW}{s:T_}{ds:List D}{vs:List V}{TR:List T7}(rs:aK K J ds vs) (rv:Vals vs TR) (hi:ds.all isInt=true):yL prog w A s TR (ltB ds):=by
 intro h2;have l1:vs.length=TR.length:=rv.length;have l2:ds.length=vs.length:=rs.length;obtain ⟨ns,hI⟩:=Bw hi rs rv;refine ⟨oneType',λh' tk kp=>⟨λC cc=>?_,λi j C hi' hj' cc=>?_⟩⟩
 ·clear l1 rv
  match TR,hI,h2 with
  | v1::v2::r,hI,_=>rw [keyKind_ints hI];exact T6 cc
 ·have ai:=Uz.mp hi _ (ir (i:=i) (by omega));have aj:=Uz.mp hi _ (ir (i:=j) (by omega));have r1:=jT rs (i:=i) (by omega);have r2:=jT rs (i:=j) (by omega);have v1:=jV rv (i:=i) (by omega);have v2:=jV rv (i:=j) (by omega);show Uu _ _ (keyLt' oneType' (TR.getD i UY) (TR.getD j UY)) _ _ _;rw [keyLt'_oneType];have e:ltB ds i j=(dI (dz ds i) (dz ds j)).getD false:=rfl;rw [e] at cc;generalize dz ds i=di at ai r1 cc;generalize dz ds j=dj at aj r2 cc;generalize vs.getD i V.non=wi at r1 v1;generalize vs.getD j V.non=wj at r2 v2;cases di with
  | int a=>
   cases dj with
   | int b=>
    cases r1;cases r2;obtain ⟨t1,q1⟩:=v1;obtain ⟨t2,q2⟩:=v2;rw [q1,q2];refine oneLt_int ?_;unfold dI at cc;exact cc
   | _=>cases aj
  | _=>cases ai
section
variable {X:Cx}{c:C}{e:UU}{es:List UU}{pos:Pos}
theorem qv {H:Hp}{Q:VK}{E:T7->T_->Prop}{vs:List V}{ds:List D}(I:Inv X TN σ H s) (Ri:Coll X.prog X.w X.A.in1 s x TR) (rv:Vals vs TR) (l2:ds.length=vs.length) (l64:ds.length < 64)
 (ha:yL X.prog X.w X.A.in1.in1 s TR (ltB ds)) (q:∀l vs',H l=none->(∀J,aK X.K J ds vs->aK X.K J (bX ds) vs')->Q (.ref l) (upd H l (.lst vs'))):Uu (UB X.prog X.w) X.A (call (.builtin "sorted") [x]) (EP X TN σ Q) E s:=by
 have l1:vs.length=TR.length:=rv.length;refine Lh Ri (by omega) ha λh' tk l n kp hl hg=>?_;have fin:∀(ot:List T7) (vs':List V),vs'.length=vs.length->Vals vs' ot->(∀J,aK X.K J ds vs->aK X.K J (bX ds) vs')->h'.get? l=some (VF "list" ot.toArray n)->EP X TN σ Q (.ref l) {s with heap:=h',toks:=tk}:=λot vs' lv rv' rr hg=>
  ⟨.ref l,_,I.laid (t':=tk) kp hl (show cF X.prog X.w _ _ _ (.lst vs') from ⟨by rw [lv,U7];omega,ot,n,rv',by simpa [VF] using hg⟩),rfl,q l vs' (I.hok.fresh hl) rr⟩
 by_cases h2:TR.length < 2
 ·rw [if_pos h2] at hg;refine fin TR vs rfl rv (λJ rj=>?_) hg;unfold bX;rw [if_pos (by omega)];exact rj
 ·rw [if_neg h2] at hg;have ib:∀i∈(aX (ltB ds) (Wy ds.length)).toList,i < ds.length:=λi hi=>by have:=((fL (n:=ds.length) (by omega)).run (ltB ds):fK _ _);have:=(Xw this).mp (Zh.mp hi);simpa using this
  have e1:p7 (ltB ds) TR=(aX (ltB ds) (Wy ds.length)).toList.map λi=>TR.getD i UY:=by unfold p7;rw [l2,l1]
  rw [e1] at hg;refine fin _ _ ?_ (wD rv _ λi hi=>l2▸ib i hi) (λJ rj=>?_) hg
  ·rw [T8,<-l2];have:=((fL (n:=ds.length) (by omega)).run (ltB ds):fK _ _).size_eq;simpa using this
  ·unfold bX;rw [if_neg (by omega)];exact wm rj _ ib
theorem zP {H:Hp}(I:Inv X TN σ H s) (h:cg X.K H p vs\/c7 X.K H p vs):∃TR,Vals vs TR/\Coll X.prog X.w A s (.ref p) TR:=by
 rcases h with h | h
 ·obtain ⟨TR,r,⟨o,n,ho,hc,_,hd⟩,hz⟩:=I.list h;exact ⟨TR,r,Bj (.inl rfl) ho hc hd (r.length▸hz)⟩
 ·obtain ⟨TR,r,pt,hz⟩:=I.tuple h;obtain ⟨o,ho,hc,n,hd⟩:=pt;exact ⟨TR,r,Bj (.inr rfl) ho hc hd (r.length▸hz)⟩
theorem Ho {H:Hp}{ds:List D}(hu:X.A.units + 64 < VI) (I:Inv X TN σ H s) (rs:aK X.K H ds vs) (rv:Vals vs TR) (ok:xw ds=true):ds.length < 64/\yL X.prog X.w X.A.in1.in1 s TR (ltB ds):=by
 have l1:vs.length=TR.length:=rv.length;have l2:ds.length=vs.length:=rs.length;by_cases h2:ds.length < 2
 ·exact ⟨by omega,λh=>absurd h (by omega)⟩
 ·unfold xw at ok;rw [decide_eq_false h2,adK,Ub,Ub,Ub] at ok;obtain ⟨o1,o2,o3,o4⟩:=ok;have o2:=of_decide_eq_true o2;obtain ⟨k,hk⟩:∃k,gS k ds=true:=by
   unfold Hl at o3;cases ds with
   | nil=>cases o3
   | cons d r=>
    simp only at o3;cases z:g8 d with
    | none=>rw [z] at o3;cases o3
    | some k=>rw [z] at o3;exact ⟨k,o3⟩
  refine ⟨of_decide_eq_true o1,DY (iw I) rs rv (k:=k) (λd hd=>⟨lW hk d hd,?_⟩) hk (λx hx y hy=>Uz.mp (Uz.mp o4 _ hx) _ hy) hu⟩;obtain ⟨i,hi,rfl⟩:=VD.mp hd;have:=JP hi;have e:dz ds i=ds[i]:=by simp [dz,hi]
  rw [e] at this;omega
theorem zl (hu:X.A.units + 64 < VI):cR X (.builtin "sorted") (λxs H Q=>∃p vs ds,xs=[.ref p]/\(cg X.K H p vs\/c7 X.K H p vs)/\aK X.K H ds vs/\(xw ds=true\/Ad ds=true)/\∀l vs',H l=none->(∀J,aK X.K J ds vs->aK X.K J (bX ds) vs')->Q (.ref l) (upd H l (.lst vs'))):=by
 intro TN s σ H xs us Q I r h;obtain ⟨p,vs,ds,rfl,hq,rs,ok,q⟩:=h;obtain ⟨u,rfl,rx⟩:=vals1 r;cases rx;obtain ⟨TR,rv,col⟩:=zP I hq;rcases ok with ok | ok
 ·obtain ⟨l64,ha⟩:=Ho hu I rs rv ok;exact qv I col rv rs.length l64 ha q
 ·unfold Ad at ok;rw [Ub] at ok;exact qv I col rv rs.length (of_decide_eq_true ok.1) (LW rs rv ok.2) q
end
end DL
namespace DL
open PySem PySem.Spec PyProof.Rows L2
section
variable {X:Cx}{c:C}{e:UU}{g:G R}{pos:Pos}
noncomputable def sX (i:Nat) (f:R->R->M R) (g:G R):G O:=λenv=>match env[i]? with
 | some (some (.d d))=>g env >>= λy=>f (.d d) y >>= λz=>toS z >>= λx=>.ok (.nx (env.set i (some x)))
 | _=>.bad
theorem KG (i:Nat){x:Str}{pos':Pos}{op:aex}{r:R2}{f:R->R->M R}(hN:X.N.Nodup) (ho:c6 X (aav op) r) (hb:BD c r f) (h:PD X c e g) (hi:X.N[i]?=some x:=by rfl) (hx:Loc X.env.scope x:=by first | exact Yh rfl | exact WW rfl)
  (hf:X.fn x=true\/X.env.scope.names.lookup x=some .local:=by first | exact .inl rfl | exact .inr rfl):LH X c (.AugAssign (.Name x pos') op e pos) (sX i f g):=
 gr (Np hN hi hx h (λTN s σ H x y v u Q I rx ry q=>Px ho I rx ry q) hf) λE σ H ⟨J,env,sr,w⟩=>by
 unfold sX at w;split at w
 ·rename_i d hd;obtain ⟨v,h1,h2⟩:=sr.at_ i _ hd;refine ⟨v,h1,J,env,sr,aF (aM w) λy wr v' J1 H1 e1 r1=>?_⟩;have sr1:=sr.ext e1;refine hb H H J1 H1 (.d d) y v v' _ sr1.hp (Rep.mono e1.j h2) r1 (aF (aM wr) λz wz w' J2 H2 e2 r2=>?_);obtain ⟨x,q,wz⟩:=wF wz;exact wz (σ.set i (some w')) J2 H2 (e1.j.trans e2.j) (sr1.set e2 r2 q)
 ·exact w.elim
end
end DL
namespace DL
open PySem PySem.Spec PyProof.Rows L2 DX
section
variable {M:aeJ}{A:UW}{E:T7->T_->Prop}{s:T_}
theorem CZ {TM:Xy}{globals:UA}{closure:List (Str×UA)}{TX:Str}{func:Option UA}{code:T7}{outer:Env}{builtins:UA}{Q:Env->T_->Prop}
  (hQ:Q (newEnv TM s.heap.objs.size globals (Vb (s.heap.objs.size + 1) TM.names closure) TX func code (some outer) builtins) {s with heap:=acJ (s.heap.push {cls:=.type "dict",data:=.dict #[]}) TM.names}):
  Uu M A (ac_ TM globals closure [] TX func code (some outer) builtins) Q E s:=by simp only [ac_,abB,if_true];refine T4 (wpAny_alloc ?_);refine T4 (wpAny_layCells _ (λname kind cells=>by cases hkc:kind == Ym <;> simp [hkc]) _ _ _ _ ?_);rw [show ({s with heap:=s.heap.push {cls:=.type "dict",data:=.dict #[]}}:T_).heap.objs.size=s.heap.objs.size + 1 from W2 ..];simp only [List.forIn_nil];exact T4 (T6 (T6 hQ))
theorem jI:∀(names:List (Str×Ws)) (n:Nat) (acc:List (Str×UA)) (x:Str),(∀y∈names,y.2=.cell->y.1≠x)->(Vb n names acc).lookup x=acc.lookup x
 | [],_,_,_,_=>by unfold Vb;rfl
 | (y,k)::r,n,acc,x,h=>by
  have hr:∀z∈r,z.2=.cell->z.1≠x:=λz hz=>h z (Ua _ hz);unfold Vb;split
  ·rename_i hk;rw [jI r _ _ x hr];have hy:y≠x:=h (y,k) (Uc ..) (by simpa using hk);have:(x == y)=false:=by
    cases q:x == y with
    | false=>rfl
    | true=>exact absurd (eq_of_beq q).symm hy
   rw [VO,this]
  ·exact jI r _ _ x hr
end
theorem yk:∀(names:List (Str×Ws)) (n:Nat) (acc:List (Str×UA)),Vb n names acc=Vb n names []++acc:=by
 intro names
 suffices ∀(n:Nat) (a b:List (Str×UA)),Vb n names (a++b)=Vb n names a++b by intro n acc;exact this n [] acc
 induction names with
 | nil=>intro n a b;unfold Vb;rfl
 | cons p r ih=>
  obtain ⟨y,k⟩:=p;intro n a b;unfold Vb;split
  ·exact ih _ (_::a) b
  ·exact ih _ a b
def dc (names:List (Str×Ws)) (x:Str):Bool:=names.any λy=>y.1 == x && y.2 == .cell
theorem gz:∀(names:List (Str×Ws)) (n:Nat) (acc:List (Str×UA)) (x:Str),((acc.lookup x).isSome=true\/dc names x=true)->((Vb n names acc).lookup x).isSome=true
 | [],_,_,_,h=>by
  unfold Vb;rcases h with h | h
  ·exact h
  ·cases h
 | (y,k)::r,n,acc,x,h=>by
  unfold Vb;have e:dc ((y,k)::r) x=((y == x && k == .cell) || dc r x):=rfl;rw [e] at h;split
  ·rename_i hk;refine gz r _ _ x ?_;by_cases hx:x=y
   ·left;subst hx;rw [VO];simp
   ·rcases h with h | h
    ·left;rw [VO];cases q:x == y with
     | true=>exact absurd (eq_of_beq q) hx
     | false=>exact h
    ·rw [W_,Ub] at h;rcases h with h | h
     ·exact absurd (eq_of_beq h.1).symm hx
     ·exact .inr h
  ·rename_i hk;refine gz r _ _ x ?_;rcases h with h | h
   ·exact .inl h
   ·rw [W_,Ub] at h;rcases h with h | h
    ·exact absurd h.2 hk
    ·exact .inr h
theorem gf {cl:List (Str×UA)}(h:(Vb n names cl).lookup x=some d):
  (Vb n names []).lookup x=some d\/(dc names x=false/\cl.lookup x=some d):=by
 rw [yk,List.lookup_append] at h;cases q:(Vb n names []).lookup x with
 | some e=>rw [q] at h;left;simpa using h
 | none=>
  rw [q] at h;right;refine ⟨?_,by simpa using h⟩;cases z:dc names x with
  | false=>rfl
  | true=>
   have:=gz names n [] x (.inr z);rw [q] at this;cases this
theorem oY {TM:Xy}(h:(relabel TM env).names.lookup x=some .cell\/(relabel TM env).names.lookup x=some .free):(x,Vt)∈TM.names\/dc TM.names x=true:=by
 unfold relabel at h;revert h;generalize TM.names=names
 induction names with
 | nil=>intro h;simp at h
 | cons p r ih=>
  obtain ⟨n,k⟩:=p;intro h;rw [Ur] at h;simp only at h;by_cases hx:x=n
  ·subst hx;cases k with
   | free=>exact .inl (Uc ..)
   | cell=>right;unfold dc;simp
   | _=>simp [VO] at h
  ·have e:(x == n)=false:=by simpa using hx
   have h':(r.map λ(n,k)=>if (k == Vt && env.scope.kind == .function && env.kindOf n == some .cell) then (n,Ym) else (n,k)).lookup x=some .cell\/(r.map λ(n,k)=>if (k == Vt && env.scope.kind == .function && env.kindOf n == some .cell) then (n,Ym) else (n,k)).lookup x=some .free:=by split at h <;> simpa [VO,e] using h
   rcases ih h' with z | z
   ·exact .inl (Ua _ z)
   ·right;unfold dc at z ⊢;rw [Zi,z,Bool.or_true]
section
variable {X:Cx}
noncomputable def cT (X:Cx) (own:List Str) (cap:List Nat) (TM:Xy) (cl:List (Str×UA)) (C:UA) (s:T_) (H:Hp) (fp:List UA):Cx:=
 {Mf X own cap TM (Vb (C + 1) TM.names cl) C s H fp with fn:=dc TM.names}
theorem JM {H:Hp}{s:T_}{TM:Xy}(I:Inv X TN σ H s) (hk:TM.kind=.function)
 (hcl:dM X.env.cells TM.names []=some cl) (ck:aep h1 (s.heap.objs.size + 1) (Vb (s.heap.objs.size + 1) TM.names [])) (hfp:∀b∈fp,ki X TN H b) (hin:∀b∈fp,b < s.heap.objs.size):(cT X own cap TM cl s.heap.objs.size s H fp).Ok:=by
 obtain ⟨m1,m2⟩:=g5 TM.names [] cl hcl (λx c h=>by simp at h);have lo:∀{x:Str}{d:UA},(Vb (s.heap.objs.size + 1) TM.names []).lookup x=some d->s.heap.objs.size + 1<=d:=fun {x d} h=>(ck.empty _ _ (Yp h)).2;have old:∀{x:Str}{d:UA},cl.lookup x=some d->d < s.heap.objs.size:=fun {x d} h=>by obtain ⟨v,z⟩:=I.cell x d (m1 x d h);exact z.lt
 refine ⟨I.ok.mod,hk,I.ok.glob,I.ok.blt,Ud _,λx y d h1 h2=>?_,λx hx=>?_,λx d hf h=>?_,λhc=>I.ok.hd hc,I.ok.frames,.inl rfl,λb hb=>⟨UE (hin b hb),λx d h=>?_⟩,
  I.bs,UC I.ok.bsz I.sz,λb o h hb=>?_,λb hb hf=>?_,I.stack,I.stkFree⟩
 ·rcases gf h1 with h1 | ⟨_,h1⟩
  ·rcases gf h2 with h2 | ⟨_,h2⟩
   ·exact name_of_addr ck.apart (Yp h1) (Yp h2)
   ·exact absurd (UG (old h2) (Xb (lo h1))) (Wb _)
  ·rcases gf h2 with h2 | ⟨_,h2⟩
   ·exact absurd (UG (old h1) (Xb (lo h2))) (Wb _)
   ·exact I.ok.inj x y d (m1 x d h1) (m1 y d h2)
 ·refine Vu.mp (gz _ _ _ x ?_);rcases oY hx with z | z
  ·exact .inl (m2 x (.inr z))
  ·exact .inr z
 ·rcases gf h with h | ⟨z,h⟩
  ·exact Xb (lo h)
  ·have hf':dc TM.names x=true:=hf;rw [z] at hf';cases hf'
 ·rcases gf h with h | ⟨_,h⟩
  ·exact Xf (UG (hin b hb) (Xb (lo h)))
  ·exact (hfp b hb).2.2.2.2.1 x d (m1 x d h)
 ·rcases (hfp b hb).2.2.2.1 with z | z
  ·exact I.ok.noex b o h z
  ·exact absurd (UG (Uq (I.ok.bs b o h).1) z) (Wb _)
 ·rcases Uw.mp (I.stkSub b hf) with e | e
  ·exact (hfp b hb).2.1 e
  ·exact (hfp b hb).2.2.1 e
end
theorem zX {cl:List (Str×UA)}(h:dc names x=false):(Vb n names cl).lookup x=cl.lookup x:=
 jI names n cl x λy hy hk e=>by unfold dc at h;have:=List.any_eq_false.mp h y hy;simp [hk,e] at this
section
variable {X:Cx}
theorem GB {TN:List (UA×Obj)}{σ:L2.St}{H:Hp}{s:T_}{own:List Str}{cap:List Nat}{TM:Xy}{cl:List (Str×UA)}{fp:List UA}{h1:VJ}{m:Str->Option T7}{tk:Nat}(I:Inv X TN σ H s) (ok:(cT X own cap TM cl s.heap.objs.size s H fp).Ok)
  (hcl:dM X.env.cells TM.names []=some cl) (ck:aep h1 (s.heap.objs.size + 1) (Vb (s.heap.objs.size + 1) TM.names [])) (hcap:qE X cap=true) (Rl:∀j∈cap,∀x,X.N[j]?=some x->(relabel TM X.env).names.lookup x≠some .local)
  (hno:∀j∈cap,∀x,X.N[j]?=some x->dc TM.names x=false) (hns:h1.Ns s.heap.objs.size m) (old:∀b o,s.heap.get? b=some o->h1.get? b=some o):
  Inv (cT X own cap TM cl s.heap.objs.size s H fp) [] (VL own.length none++cap.map λ(j:Nat)=>(σ[j]?).getD none) H {s with heap:=h1,toks:=tk}:=by
 obtain ⟨m1,m2⟩:=g5 TM.names [] cl hcl (λx c h=>by simp at h);refine ⟨ok,rfl,I.bare,Un.kept old,⟨m,hns,λi x v q1 q2 q3=>?_⟩,λx d h=>?_,I.hok.fresh (Ud _),λx d h=>?_,λp hp=>absurd (show p∈([]:List (UA×Obj)) from hp) (by simp),I.hok.kept old,?_⟩
 ·obtain ⟨j,h2,h3,h4⟩:=iV q2;have q1':(own++cap.map λ(j:Nat)=>(X.N[j]?).getD ("":Str))[i]?=some x:=q1;rw [VA (by exact h2),UK,h3] at q1';have hj:j∈cap:=UX h3;have hc:(match X.N[j]? with
   | some x=>(match X.env.scope.names.lookup x with
    | some .cell=>true
    | some .free=>true
    | _=>false)
   | none=>false)=true:=by unfold qE at hcap;exact Uz.mp hcap j hj
  cases hx:X.N[j]? with
  | none=>rw [hx] at hc;cases hc
  | some y=>
   rw [acB,hx] at q1';rw [hx] at hc;have e:y=x:=by simpa using q1'
   subst e;have kd:X.env.kindOf y=some .cell\/X.env.kindOf y=some .free:=by
    unfold aeL;simp only at hc;split at hc
    ·rename_i z;exact .inl z
    ·rename_i z;exact .inr z
    ·cases hc
   obtain ⟨mX,nX,lX⟩:=I.loc;obtain ⟨u,ru,lu⟩:=lX j y v hx h4 (kd.elim (λz=>.inr (.inl z)) λz=>.inr (.inr z));refine ⟨u,ru,.inr ?_⟩;have kd':(relabel TM X.env).names.lookup y=some .cell\/(relabel TM X.env).names.lookup y=some .free:=by
    rcases q3 with z | z | z
    ·exact absurd z (Rl j hj y hx)
    ·exact .inl z
    ·exact .inr z
   refine ⟨kd',?_⟩;have no:=hno j hj y hx;have fr:(y,Vt)∈TM.names:=by
    rcases oY kd' with z | z
    ·exact z
    ·rw [no] at z;cases z
   obtain ⟨d,hd⟩:=Vu.mp (m2 y (.inr fr));refine ⟨d,(zX no).trans hd,?_⟩;rcases lu with ⟨z,_⟩ | ⟨_,d',hd',z⟩
   ·rcases kd with k | k <;> (rw [k] at z;cases z)
   ·have:=m1 y d hd;rw [hd'] at this;cases this;obtain ⟨o,ho,hod⟩:=z;exact ⟨o,old _ _ ho,hod⟩
 ·rcases gf h with h | ⟨_,h⟩
  ·exact ⟨none,(ck.empty _ _ (Yp h)).1⟩
  ·obtain ⟨v,o,ho,hod⟩:=I.cell x d (m1 x d h);exact ⟨v,o,old _ _ ho,hod⟩
 ·rcases gf h with h | ⟨_,h⟩
  ·exact I.hok.fresh (Xb (ck.empty _ _ (Yp h)).2)
  ·exact I.freeC x d (m1 x d h)
 ·show _=(own++cap.map λ(j:Nat)=>(X.N[j]?).getD ("":Str)).length;simp
end
theorem MW (h:VJ) (names:List (Str×Ws)):(acJ (h.push {cls:=.type "dict",data:=.dict #[]}) names).Ns h.objs.size (λ_=>none):=
 (Heap.Ns.new h (.type "dict")).keeps λb o e=>acK _ _ _ _ e
theorem El (h:VJ) (names:List (Str×Ws)):aep (acJ (h.push {cls:=.type "dict",data:=.dict #[]}) names) (h.objs.size + 1) (Vb (h.objs.size + 1) names []):=by have:=cellsFrom_ok names (h.push {cls:=.type "dict",data:=.dict #[]}) (h.objs.size + 1) [] ⟨λ_ _ hm=>(nomatch hm),YJ⟩ (by rw [W2];exact Ud _);rw [W2] at this;exact this
noncomputable def II (X:Cx) (cap:List Nat) (TM:Xy):Bool:=cap.all λj=>match X.N[j]? with
 | some x=>!dc TM.names x
 | none=>true
section
variable {X:Cx}{c:C}
theorem qF {names names2:List (Str×Ws)}(h:dM cells names []=some cl)
 (hn:(names2.all λy=>!(y.2 == .free) || ((names.any λz=>z.1 == y.1 && z.2 == .free) || dc names y.1))=true):(dM (Vb n names cl) names2 []).isSome=true:=by
 obtain ⟨_,m2⟩:=g5 names [] cl h (λx c h=>by simp at h);have go:∀(l:List (Str×Ws)) (cs:List (Str×UA)),(l.all λy=>!(y.2 == .free) || ((names.any λz=>z.1 == y.1 && z.2 == .free) || dc names y.1))=true->(dM (Vb n names cl) l cs).isSome=true:=by
  intro l
  induction l with
  | nil=>intro cs _;rfl
  | cons y r ih=>
   obtain ⟨y,k⟩:=y;intro cs hl;rw [We,Ub] at hl;unfold dM;split
   ·rename_i hk;have h1:=hl.1;simp only [hk,Ww,adK,W_] at h1;have:((Vb n names cl).lookup y).isSome=true:=by
     refine gz names n cl y ?_;rcases h1 with z | z
     ·obtain ⟨q,hq,e⟩:=Vn.mp z;rw [Ub] at e;have e1:q=(y,Vt):=by
       obtain ⟨q1,q2⟩:=q;have a1:q1=y:=eq_of_beq e.1;have a2:q2=Vt:=by simpa using e.2
       rw [a1,a2]
      exact .inl (m2 y (.inr (e1▸hq)))
     ·exact .inr z
    obtain ⟨a,ha⟩:=Vu.mp this;rw [ha];exact ih _ hl.2
   ·exact ih _ hl.2
 exact go names2 [] hn
end
section
variable {X:Cx}{c:C}{e:UU}{es:List UU}{g:G R}{pos:Pos}
theorem Fw (i:Nat) (hN:X.N.Nodup) (h:QD X c e g) (hi:X.N[i]?=some x:=by rfl) (hx:Loc X.env.scope x:=by first | exact Yh rfl | exact WW rfl) (hf:X.fn x=true\/X.env.scope.names.lookup x=some .local:=by first | exact .inl rfl | exact .inr rfl):
  gR X c (.AugAssign (.Name x pos') .Add e pos) (sX i vK g):=have h:=h.h;⟨KG i hN JX (gT λ_ _ _=>.int _) h hi hx hf⟩
end
end DL
namespace K51
open PySem DL
end K51
namespace WP
open PySem DL K01
def Wp {α:Type}(m:M α) (P:α->Prop):Prop:=∃a,m=.ok a/\P a
section
variable {α β:Type}{m:M α}{P P':α->Prop}{a:α}{env:Ev}{Q:O->Prop}{t u:G O}{g:G R}{r r':R}{i:Nat}{b:G Bool}
theorem Wp.of (h:m=.ok a) (p:P a):Wp m P:=⟨a,h,p⟩
theorem Wp.mono (h:Wp m P) (k:∀a,P a->P' a):Wp m P':=let ⟨a,h1,h2⟩:=h;⟨a,h1,k a h2⟩
theorem Wp.eq (h:Wp m (·=a)):m=.ok a:=let ⟨_,h1,h2⟩:=h;h2▸h1
theorem oF {P:R->Prop}(h:Wp (t env) λo=>∃r,o=.rt r/\P r):Wp (fin (t env)) P:=by obtain ⟨_,h1,r,rfl,h2⟩:=h;exact ⟨r,by rw [h1];rfl,h2⟩
theorem vm (h:Wp (t env) λo=>∃e,o=.nx e):fin (t env)=.ok (.d .non):=by obtain ⟨_,h1,r,rfl⟩:=h;rw [h1];rfl
theorem b9 (h:Wp (t env) (·=.rt r)):fin (t env)=.ok r:=by rw [h.eq];rfl
theorem bY (h:Wp (t env) λo=>match o with
 | .nx e=>Wp (u e) Q
 | o=>Q o):Wp (aI t u env) Q:=by
 obtain ⟨o,h1,h2⟩:=h;show Wp (t env >>= _) Q;rw [h1];cases o with
 | nx e=>exact h2
 | rt r=>exact ⟨_,rfl,h2⟩
 | bk e=>exact ⟨_,rfl,h2⟩
 | ct e=>exact ⟨_,rfl,h2⟩
theorem eY (h:g env=.ok r) (h2:toS r=.ok x) (k:Q (.nx (env.set i (some x)))):Wp (bh i g env) Q:=⟨_,by show (g env >>= _)=_;rw [h,aN,h2];rfl,k⟩
theorem bD (h:g env=.ok r) (h2:toS r=.ok x) (k:Wp (u (env.set i (some x))) Q):Wp (aI (bh i g) u env) Q:=bY (eY h h2 k)
theorem bG (h:g env=.ok r) (h2:rF r=.ok r') (k:Q (.rt r')):Wp (bw g env) Q:=⟨_,FI h h2,k⟩
theorem OH (h:g env=.ok r) (h2:rF r=.ok r') (k:Q (.rt r')):Wp (aI (bw g) u env) Q:=bY (bG h h2 k)
theorem fZ (k:Q (.nx env)):Wp (c5 env) Q:=⟨_,rfl,k⟩
theorem P6 (k:Wp (u env) Q):Wp (aI c5 u env) Q:=bY (fZ k)
theorem uR (h:b env=.ok true) (k:Wp (t env) Q):Wp (bL b t u env) Q:=by rw [nt h];exact k
theorem vU (h:b env=.ok false) (k:Wp (u env) Q):Wp (bL b t u env) Q:=by rw [pX h];exact k
theorem jv (h:b env=.ok c) (k1:c=true->Wp (t env) Q) (k2:c=false->Wp (u env) Q):Wp (bL b t u env) Q:=by
 cases c with
 | true=>exact uR h (k1 rfl)
 | false=>exact vU h (k2 rfl)
theorem OI {v:G O}(h:b env=.ok true) (k:Wp (aI t v env) Q):Wp (aI (bL b t u) v env) Q:=by
 have:aI (bL b t u) v env=aI t v env:=by unfold aI;rw [nt h]
 rw [this];exact k
theorem P5 {v:G O}(h:b env=.ok false) (k:Wp (aI u v env) Q):Wp (aI (bL b t u) v env) Q:=by
 have:aI (bL b t u) v env=aI u v env:=by unfold aI;rw [pX h]
 rw [this];exact k
theorem f7 {v:G O}(h:b env=.ok false) (k:Wp (v env) Q):Wp (aI (bL b t c5) v env) Q:=P5 h (P6 k)
theorem kJ {xs:List D}(h0:env[i]?=some (some (.own xs))) (h:g env=.ok r) (h2:toD r=.ok d) (hl:xs.length<=1000) (k:Q (.nx (env.set i (some (.own (xs++[d])))))):Wp (eX i g env) Q:=by refine ⟨_,?_,k⟩;unfold eX;rw [h0];show (g env >>= _)=_;rw [h,aN,h2,aN,if_pos (Yq hl (by decide))]
theorem OG {xs:List D}{d:D}(h0:env[i]?=some (some (.own xs))) (h:g env=.ok r) (h2:toD r=.ok d) (hl:xs.length<=1000) (k:Wp (u (env.set i (some (.own (xs++[d]))))) Q):Wp (aI (eX i g) u env) Q:=bY (kJ h0 h h2 hl k)
theorem jZ {gi:G (List D)}(h:gi env=.ok ds) (k:Wp (eE tg u ds env) Q):Wp (bV gi tg u env) Q:=by rw [Mm h];exact k
theorem cY {gi:G (List D)}{v:G O}(h:gi env=.ok ds) (k:Wp (eE tg t ds env) λo=>match o with
 | .nx e=>Wp (v e) Q
 | o=>Q o):Wp (aI (bV gi tg t) v env) Q:=bY (jZ h k)
theorem f_ {tg:GT}(I:Nat->Ev->Prop) (ds:List D) (h0:I 0 env) (step:∀(k:Nat) (hk:k < ds.length) (env:Ev),I k env->∃e,tg ds[k] env=.ok e/\Wp (u e) λo=>∃e,o=.nx e/\I (k + 1) e)
  (k:∀e,I ds.length e->Q (.nx e)):Wp (eE tg u ds env) Q:=by
 have key:∀(es:List D) (i:Nat) (env:Ev),ds.drop i=es->i<=ds.length->I i env->Wp (eE tg u es env) Q:=by
  intro es
  induction es with
  | nil=>
   intro i env hd hi hI;have:i=ds.length:=by have:=congrArg VT hd;rw [Wn] at this;simp at this;omega
   subst this;exact ⟨_,rfl,k _ hI⟩
  | cons d es ih=>
   intro i env hd hi hI;have hlt:i < ds.length:=by have:=congrArg VT hd;rw [Wn] at this;simp at this;omega
   have e1:=Wf hlt;rw [hd] at e1;obtain ⟨q1,q2⟩:=adL e1;obtain ⟨e,h1,_,h2,e2,rfl,h3⟩:=step i hlt env hI;unfold eE;rw [q1,h1,aN,h2,aN];exact ih (i + 1) e2 q2.symm (by omega) h3
 exact key ds 0 env rfl (UD _) h0
theorem gW {tg:GT}(I:Nat->Ev->Prop) (h0:I 0 env) (step:∀(k:Nat),k < n->∀env,I k env->∃e,tg (.int k) env=.ok e/\Wp (u e) λo=>∃e,o=.nx e/\I (k + 1) e)
 (k:∀e,I n e->Q (.nx e)):Wp (eE tg u (fB 0 n) env) Q:=by
 have hl:(fB 0 n).length=n:=by simp [fB]
 refine f_ I (fB 0 n) h0 (λj hj env hI=>?_) (by rw [hl];exact k);obtain ⟨e,h1,h2⟩:=step j (by rw [hl] at hj;exact hj) env hI;refine ⟨e,?_,h2⟩;rw [<-h1];simp [fB]
theorem n1 {f:List R->M R}(hx:g env=.ok x) (hf:f [x]=.ok z):gN f (ao g aG) env=.ok z:=Oj hx hf
theorem two {f:R->R->M R}{h:G R}{x y z:R}(hx:g env=.ok x) (hy:h env=.ok y) (hf:f x y=.ok z):g2 f g h env=.ok z:=by show (g env >>= _)=_;rw [hx,aN,hy,aN,hf]
theorem c1 {F:List S->M R}(hx:g env=.ok x) (hF:F [gV x]=.ok z):gN (aT 1 F) (ao g aG) env=.ok (nh z):=by show (ao g aG env >>= _)=_;unfold ao aG;rw [hx];show (match F [gV x] with | .ok r=>M.ok (nh r) | _=>M.bad)=_;rw [hF]
theorem c2 {F:List S->M R}{h:G R}(hx:g env=.ok x) (hy:h env=.ok y) (hF:F [gV x,gV y]=.ok z):gN (aT 2 F) (ao g (ao h aG)) env=.ok (nh z):=by show (ao g (ao h aG) env >>= _)=_;unfold ao aG;rw [hx,hy];show (match F [gV x,gV y] with | .ok r=>M.ok (nh r) | _=>M.bad)=_;rw [hF]
theorem c3 {F:List S->M R}{h k:G R}(hx:g env=.ok x) (hy:h env=.ok y) (hw:k env=.ok w) (hF:F [gV x,gV y,gV w]=.ok z):gN (aT 3 F) (ao g (ao h (ao k aG))) env=.ok (nh z):=by show (ao g (ao h (ao k aG)) env >>= _)=_;unfold ao aG;rw [hx,hy,hw];show (match F [gV x,gV y,gV w] with | .ok r=>M.ok (nh r) | _=>M.bad)=_;rw [hF]
theorem c4 {F:List S->M R}{h k l:G R}(hx:g env=.ok x) (hy:h env=.ok y) (hw:k env=.ok w) (hv:l env=.ok v) (hF:F [gV x,gV y,gV w,gV v]=.ok z):gN (aT 4 F) (ao g (ao h (ao k (ao l aG)))) env=.ok (nh z):=by show (ao g (ao h (ao k (ao l aG))) env >>= _)=_;unfold ao aG;rw [hx,hy,hw,hv];show (match F [gV x,gV y,gV w,gV v] with | .ok r=>M.ok (nh r) | _=>M.bad)=_;rw [hF]
theorem mZ (h:g env=.ok r) (k:Wp (u env) Q):Wp (aI (kH g) u env) Q:=bY ⟨.nx env,by show (g env >>= _)=_;rw [h];rfl,k⟩
theorem L8 {n:Nat}{cap:List Nat}{gi:G (List D)}{tg:GT}{ge:G R}{gts:G Bool}{α:Type}{xs:List α}{h:α->D}(o:α->Ev) (p:α->Bool) (f:α->D) (hi:gi env=.ok (xs.map h)) (hl:xs.length<=1000000)
  (ho:∀x,(o x).length=n) (ht:∀x (e:Ev),e.length=n->tg (h x) (e++cE 0 cap env)=.ok (o x++cE 0 cap env))
  (hb:∀x∈xs,gts (o x++cE 0 cap env)=.ok (p x)/\(p x=true->∃r,ge (o x++cE 0 cap env)=.ok r/\toD r=.ok (f x))):bM n cap gi tg gts ge env=.ok (.l .fresh ((xs.filter p).map f)):=by
 have key:∀(es:List α) (x:Ev),x.length=n->(∀d∈es,d∈xs)->fT tg gts ge (es.map h) (x++cE 0 cap env)=.ok ((es.filter p).map f):=by
  intro es
  induction es with
  | nil=>exact λ_ _ _=>rfl
  | cons d es ih=>
   intro x hx hm;obtain ⟨h0,h1⟩:=hb d (hm d Uc);have ih:=ih (o d) (ho d) λe he=>hm e (Ua _ he);rw [Ur];unfold fT;rw [ht d x hx,aN,h0,aN];cases q:p d with
   | true=>
    obtain ⟨r,h1,h2⟩:=h1 q;rw [if_pos rfl,h1,aN,h2,aN,ih,Yr q];rfl
   | false=>
    rw [if_neg (by decide),Ys (by simp [q])];exact ih
 unfold bM;rw [hi,aN,if_pos (by rw [U7,T8];omega)];show (fT tg gts ge _ (VL n none++cE 0 cap env) >>= _)=_;rw [key xs _ Wi λ_ h=>h];rfl
theorem ID {α:Type}(xs:List α):xs.filter (λ_=>true)=xs:=Xm.mpr λ_ _=>rfl
theorem lY {gi:G (List D)}{ge:G R}{gts:G Bool}{α:Type}{xs:List α}{h:α->D}(p:α->Bool) (f:α->D) (hi:gi env=.ok (xs.map h)) (hl:xs.length<=1000000)
 (hb:∀x∈xs,gts (some (.d (h x))::cE 0 cap env)=.ok (p x)/\(p x=true->∃r,ge (some (.d (h x))::cE 0 cap env)=.ok r/\toD r=.ok (f x))):bM 1 cap gi (aA 0) gts ge env=.ok (.l .fresh ((xs.filter p).map f)):=
 L8 (λx=>[some (.d (h x))]) p f hi hl (λ_=>rfl) (λ_ e he=>match e,he with | [_],_=>rfl) hb
theorem jJ {gi:G (List D)}{ge:G R}{α:Type}{xs:List α}{h:α->D}(f:α->D) (hi:gi env=.ok (xs.map h)) (hl:xs.length<=1000000)
 (hb:∀x∈xs,∃r,ge (some (.d (h x))::cE 0 cap env)=.ok r/\toD r=.ok (f x)):bM 1 cap gi (aA 0) cA ge env=.ok (.l .fresh (xs.map f)):=by
 have:=lY (gts:=cA) (λ_=>true) f hi hl λx hx=>⟨rfl,λ_=>hb x hx⟩
 rwa [ID] at this
theorem Mb {cap:List Nat}{gi:G (List D)}{ge:G R}{gts:G Bool}{α:Type}{xs:List α}(a b:α->D) (p:α->Bool) (f:α->D) (hi:gi env=.ok (xs.map λx=>.tup [a x,b x])) (hl:xs.length<=1000)
  (h:∀x∈xs,gts (some (.d (a x))::some (.d (b x))::cE 0 cap env)=.ok (p x)/\(p x=true->∃r,ge (some (.d (a x))::some (.d (b x))::cE 0 cap env)=.ok r/\toD r=.ok (f x))):bM 2 cap gi (dg 2 (bz (aA 0) (bz (aA 1) dF))) gts ge env=.ok (.l .fresh ((xs.filter p).map f)):=
 L8 (λx=>[some (.d (a x)),some (.d (b x))]) p f hi (by omega) (λ_=>rfl) (λ_ e he=>match e,he with | [_,_],_=>rfl) h
theorem qG {gi:G (List D)}{ge:G R}{α:Type}{xs:List α}(a b:α->D) (f:α->D) (hi:gi env=.ok (xs.map λx=>.tup [a x,b x])) (hl:xs.length<=1000)
 (h:∀x∈xs,∃r,ge (some (.d (a x))::some (.d (b x))::cE 0 cap env)=.ok r/\toD r=.ok (f x)):bM 2 cap gi (dg 2 (bz (aA 0) (bz (aA 1) dF))) cA ge env=.ok (.l .fresh (xs.map f)):=by
 have:=Mb (gts:=cA) a b (λ_=>true) f hi hl λx hx=>⟨rfl,λ_=>h x hx⟩
 rwa [ID] at this
theorem HW (n:Nat):fB 0 n=(Ue n).map dN:=by simp [fB]
theorem jC {gs:G (List R)}{n:Nat}(hg:gs env=.ok [.d (.int (n:Int))]) (h:n<=1000):bQ gs env=.ok ((Ue n).map dN):=by rw [jB hg h,HW]
theorem b_ (h:g env=.ok x):ao g aG env=.ok [x]:=by show (g env >>= _)=_;rw [h];rfl
theorem bf:aQ env=.ok []:=rfl
theorem aH {gs:G (List D)}(h:g env=.ok r) (h2:toD r=.ok d) (k:gs env=.ok ds):az g gs env=.ok (d::ds):=by show (g env >>= _)=_;rw [h,aN,h2,aN,k];rfl
theorem bF {gs:G (List D)}{ds:List D}(h:gs env=.ok ds) (hl:ds.length<=1000):bC gs env=.ok (.d (.tup ds)):=by show (gs env >>= _)=_;rw [h,aN,if_pos (fj hl)]
theorem eV {gs:G (List D)}{ds:List D}(h:gs env=.ok ds) (hl:ds.length<=1000):cU gs env=.ok (.l .fresh ds):=by show (gs env >>= _)=_;rw [h,aN,if_pos (fj hl)]
theorem pZ {α:Type}{xs:List α}{h:α->D}(f:R) (hf:iz f=.ok (xs.map h)) (i:Int) (h0:0<=i) (hi:i < xs.length):∃x∈xs,aY f (.d (.int i))=.ok (.d (h x)):=by
 obtain ⟨k,rfl⟩:=Int.eq_ofNat_of_zero_le h0;have hk:k < xs.length:=by omega
 refine ⟨xs[k],Vm hk,?_⟩;have h1:(xs.map h)[k]?=some (h xs[k]):=by rw [UK,Uk hk];rfl
 cases f with
 | d x=>
  cases x with
  | tup ys=>cases hf;exact qK h1
  | lst ys=>cases hf;unfold aY;simp only [iz,aN,qD h1]
  | _=>cases hf
 | l m x=>cases hf;exact uz h1
 | mo _ _=>cases hf
 | mb _ _=>cases hf
 | mf _ _=>cases hf
 | ln _=>cases hf
theorem qY (h:env[i]?=some (some (.own xs))) (k:Wp (t (env.set i (some (.d (.lst xs))))) Q):Wp (d8 i t env) Q:=by
 have:d8 i t env=t (env.set i (some (.d (.lst xs)))):=by unfold d8;rw [h]
 rw [this];exact k
theorem Of (h:g env=.ok r) (h2:toD r=.ok d) (h3:tg d env=.ok e) (k:Q (.nx e)):Wp (sW tg g env) Q:=⟨_,by show (g env >>= _)=_;rw [h,aN,h2,aN,h3];rfl,k⟩
theorem Dp (h:g env=.ok r) (h2:toD r=.ok d) (h3:tg d env=.ok e) (k:Wp (u e) Q):Wp (aI (sW tg g) u env) Q:=bY (Of h h2 h3 k)
theorem y9 {α:Type}(xs:List α) (z:α):L2.lq (xs++[z]) (-1)=some z:=by unfold L2.lq L2.sd;rw [if_neg (by decide),if_pos (by simp;omega)];rw [show ((-1:Int) + ((xs++[z]).length:Nat)).toNat=xs.length by simp;omega];simp
theorem By (xs:List D) (z:D):aY (.d (.tup (xs++[z]))) (.d (.int (-1)))=.ok (.d z):=by unfold aY;simp only [iz,aN,y9]
theorem J6 (m:Md) (xs:List D) (z:D):aY (.l m (xs++[z])) (.d (.int (-1)))=.ok (.d z):=by unfold aY;simp only [iz,aN,y9]
theorem yC (neg:Bool) (x:D) (ys:List D) (h:deps ys<=60) (hx:dep x<=60):j4 neg (.d x) (.d (.tup ys))=.ok (.d (.bl (if neg then !inD x ys else inD x ys))):=by show (if deps ys<=60/\dep x<=60 then M.ok (R.d (.bl (if neg then !inD x ys else inD x ys))) else M.bad)=_;rw [if_pos ⟨h,hx⟩]
theorem l6 (neg:Bool) (x y:R) (h:dep x.dat<=60) (hx:dep y.dat<=60):cL neg x y=.ok (.d (.bl (if neg then !bq x.dat y.dat else bq x.dat y.dat))):=by unfold cL;rw [if_pos ⟨h,hx⟩]
theorem eu:∀{xs:List D},(∀x∈xs,dep x<=n)->deps xs<=n
 | [],_=>UD _
 | x::xs,h=>by have h1:=h x Uc;have h2:=eu (xs:=xs) λy hy=>h y (Ua _ hy);simp only [deps];omega
theorem Es (xs:List Nat):deps (xs.map dN)<=60:=eu λx hx=>by obtain ⟨k,_,rfl⟩:=Ui.mp hx;exact UD _
theorem zB (xs:List (Nat×Nat)):deps (xs.map dP)<=60:=eu λx hx=>by obtain ⟨k,_,rfl⟩:=Ui.mp hx;exact (by decide:(1:Nat)<=60)
theorem B8 {tb:G Bool}(I:Nat->Ev->Prop) (step:∀d env,I d env->(tb env=.ok false/\Q (.nx env))\/(tb env=.ok true/\Wp (t env) λo=>match o with
  | .nx e=>∃d',d' < d/\I d' e
  | .rt r=>Q (.rt r)
  | _=>False)):∀(n d:Nat) (env:Ev),I d env->d < n->Wp (lQ tb t n env) Q
 | 0,d,env,_,h=>absurd h (Vw _)
 | n + 1,d,env,hI,h=>by
  unfold lQ;rcases step d env hI with ⟨h1,h2⟩ | ⟨h1,o,h2,h3⟩
  ·rw [h1];exact ⟨_,rfl,h2⟩
  ·rw [h1,aN,if_pos rfl,h2,aN];cases o with
   | nx e=>
    obtain ⟨d',hd,hI'⟩:=h3;exact B8 I step n d' e hI' (by omega)
   | rt r=>exact ⟨_,rfl,h3⟩
   | bk e=>exact h3.elim
   | ct e=>exact h3.elim
theorem Ld {tb:G Bool}(I:Nat->Ev->Prop) (d:Nat) (hd:d < n) (h0:I d env) (step:∀d env,I d env->(tb env=.ok false/\Wp (u env) Q)\/(tb env=.ok true/\Wp (t env) λo=>match o with
 | .nx e=>∃d',d' < d/\I d' e
 | .rt r=>Q (.rt r)
 | _=>False)):Wp (aI (uF n tb t) u env) Q:=bY (B8 I (λd env h=>by
  rcases step d env h with h | ⟨h1,h2⟩
  ·exact .inl h
  ·refine .inr ⟨h1,h2.mono λo ho=>?_⟩;cases o <;> exact ho) n d env h0 hd)
theorem Og {f:R->R->M R}(h0:env[i]?=some (some (.d d))) (h:g env=.ok y) (hf:f (.d d) y=.ok z) (h2:toS z=.ok x) (k:Q (.nx (env.set i (some x)))):Wp (sX i f g env) Q:=by refine ⟨_,?_,k⟩;unfold sX;rw [h0];show (g env >>= _)=_;rw [h,aN,hf,aN,h2];rfl
end
end WP
namespace K51
open PySem DL K01 WP
structure A_ (w:Wd):Prop where
 lo:1<=w.m
 hi:w.m<=8
 ml:w.ms.length<=3
 al:w.ar.length<=3
theorem Dz (xs ys:List D) (h:xs.length + ys.length<=1000):cH (.d (.tup xs)) (.d (.tup ys))=.ok (.d (.tup (xs++ys))):=by show (if xs.length + ys.length<=sizeLine then M.ok (R.d (.tup (xs++ys))) else M.bad)=_;rw [if_pos (fj h)]
theorem PL (l:Nat) (xs:List Nat):j4 false (.d (dN l)) (.d (.tup (xs.map dN)))=.ok (.d (.bl (inD (dN l) (xs.map dN)))):=yC false _ _ (Es xs) (UD _)
theorem PM (l:Nat×Nat) (xs:List (Nat×Nat)):j4 false (.d (dP l)) (.d (.tup (xs.map dP)))=.ok (.d (.bl (inD (dP l) (xs.map dP)))):=yC false _ _ (zB xs) (by show (1:Nat)<=60;decide)
theorem t2:(2:Nat)<=1000:=by decide
end K51
namespace K51
open PySem DL K01 WP
open PySem.W (kas_sort)
theorem FY (ds:List D):(bX ds).length=ds.length:=by
 unfold bX;by_cases h:ds.length < 2
 ·rw [if_pos h]
 ·rw [if_neg h,T8];have:=(fL (n:=ds.length) (by omega)).run (ltB ds);have:=this.size_eq;simpa using this
theorem FZ {ds:List D}{x:D}(hx:x∈bX ds):x∈ds:=by
 unfold bX at hx;by_cases h:ds.length < 2
 ·rwa [if_pos h] at hx
 ·rw [if_neg h] at hx;have hp:=(fL (n:=ds.length) (by omega)).run (ltB ds);obtain ⟨i,hi,rfl⟩:=Ui.mp hx;have hi:i∈aX (ltB ds) (Wy ds.length):=by simpa using hi
  have:=(Xw hp).mp hi;exact ir (by simpa using this)
end K51
namespace K51
open PySem DL K01 WP
end K51
namespace DL
open PySem PySem.Spec PyProof.Rows L2
open PySem.W (KasT kas_sort kas_asc kas_desc kas_rev kas_tail3 kas_descPart kas_count kas_place kas_bin)
theorem run_bind {α β:Type}(q:Nat->Nat->Bool) (f:α->KasT β):∀t:KasT α,aX q (t.bind f)=aX q (f (aX q t))
 | .ret _=>rfl
 | .ask i j k=>run_bind q f (k (q i j))
theorem HX {n:Nat}{α:Type}{P:α->Prop}{t:KasT α}{q q':Nat->Nat->Bool}(h:fW n P t) (e:∀i j,i < n->j < n->q i j=q' i j):aX q t=aX q' t:=by
 induction h with
 | ret _=>rfl
 | @ask i j k h1 h2 _ ih=>
  show aX q (k (q i j))=aX q' (k (q' i j));rw [e _ _ h1 h2];exact ih _
structure Ord (q:Nat->Nat->Bool):Prop where
 asy:∀a b,q a b=true->q b a=false
 tra:∀a b c,q b a=false->q c b=false->q c a=false
section
variable {q:Nat->Nat->Bool}{n:Nat}
abbrev bJ (p:Array Nat) (k:Nat):Nat:=p.getD k 0
def Up (q:Nat->Nat->Bool) (p:Array Nat) (k:Nat):Prop:=∀i j,i<=j->j < k->q (bJ p j) (bJ p i)=false
def Down (q:Nat->Nat->Bool) (p:Array Nat) (k:Nat):Prop:=∀i j,i<=j->j < k->q (bJ p i) (bJ p j)=false
theorem Ord.irr (O:Ord q) (a:Nat):q a a=false:=by
 cases h:q a a with
 | false=>rfl
 | true=>rw [<-h];exact (O.asy a a h)
theorem getD_eq (h:p[i]?=p'[j]?):bJ p i=bJ p' j:=by show p.getD i 0=p'.getD j 0;rw [Zu,Zu,h]
theorem jr {p:Array Nat}(hj:j<=p.size) (k:Nat):bJ (Zb p i j) k=if i<=k/\k < j then bJ p (i + j - 1 - k) else bJ p k:=by
 have e:=getElem?_mirror_all (xs:=p) (i:=i) hj k;by_cases c:i<=k/\k < j
 ·rw [if_pos c] at e ⊢;exact getD_eq e
 ·rw [if_neg c] at e ⊢;exact getD_eq e
theorem DZ {p:Array Nat}(hs:src < p.size) (hd:d<=src) (k:Nat):bJ (bubble p src d) k=if k=src - d then bJ p src else if src - d < k/\k<=src then bJ p (k - 1) else bJ p k:=by
 have e:=getElem?_bubble hs d hd k;by_cases c:k=src - d
 ·rw [if_pos c] at e ⊢;exact getD_eq e
 ·rw [if_neg c] at e ⊢;by_cases c':src - d < k/\k<=src
  ·rw [if_pos c'] at e ⊢;exact getD_eq e
  ·rw [if_neg c'] at e ⊢;exact getD_eq e
theorem i6 (p:Array Nat) (i j:Nat):(Zb p i j).size=p.size:=mirror_size _ _ _ _
theorem Up.one (O:Ord q) (p:Array Nat):Up q p 1:=λi j h1 h2=>by
 have:i=j:=by omega
 rw [this];exact O.irr _
theorem Up.more (O:Ord q) (h:Up q p k) (h1:1<=k) (e:q (bJ p k) (bJ p (k - 1))=false):Up q p (k + 1):=λi j hi hj=>by
 by_cases c:j < k
 ·exact h i j hi c
 ·have:j=k:=by omega
  subst this;by_cases c':i=j
  ·rw [c'];exact O.irr _
  ·exact O.tra _ _ _ (h i (j - 1) (by omega) (by omega)) e
theorem Down.more (O:Ord q) (h:Down q p k) (h1:1<=k) (e:q (bJ p (k - 1)) (bJ p k)=false):Down q p (k + 1):=λi j hi hj=>by
 by_cases c:j < k
 ·exact h i j hi c
 ·have:j=k:=by omega
  subst this;by_cases c':i=j
  ·rw [c'];exact O.irr _
  ·exact O.tra _ _ _ e (h i (j - 1) (by omega) (by omega))
theorem yZ (O:Ord q) (p:Array Nat):∀(f m:Nat),1<=m->Up q p m->m<=aX q (Zc p f m)/\aX q (Zc p f m)<=m + f/\Up q p (aX q (Zc p f m))/\(aX q (Zc p f m)=m + f\/q (bJ p (aX q (Zc p f m))) (bJ p (aX q (Zc p f m) - 1))=true)
 | 0,m,h1,h=>⟨Ud _,Ud _,h,.inl rfl⟩
 | f + 1,m,h1,h=>by
  have e:aX q (Zc p (f + 1) m)=if q (bJ p m) (bJ p (m - 1))=true then m else aX q (Zc p f (m + 1)):=by
   show aX q (if q (bJ p m) (bJ p (m - 1))=true then KasT.ret m else Zc p f (m + 1))=_;by_cases c:q (bJ p m) (bJ p (m - 1))=true
   ·rw [if_pos c,if_pos c];rfl
   ·rw [if_neg c,if_neg c]
  rw [e];by_cases c:q (bJ p m) (bJ p (m - 1))=true
  ·rw [if_pos c];exact ⟨Ud _,by omega,h,.inr c⟩
  ·rw [if_neg c];obtain ⟨a1,a2,a3,a4⟩:=yZ O p f (m + 1) (by omega) (h.more O h1 (by simpa using c));refine ⟨by omega,by omega,a3,?_⟩;rcases a4 with a4 | a4
   ·exact .inl (by omega)
   ·exact .inr a4
def Alike (q:Nat->Nat->Bool) (p:Array Nat) (i j:Nat):Prop:=∀a b,i<=a->a < j->i<=b->b < j->q (bJ p a) (bJ p b)=false
theorem xH {p:Array Nat}{i j k:Nat}(hj:j<=p.size) (ha:Alike q p i j) (hd:Down q p j) (O:Ord q):Down q (Zb p i j) j:=λa b h1 h2=>by
 rw [jr hj,jr hj];by_cases c:i<=a/\a < j
 ·rw [if_pos c];by_cases c':i<=b/\b < j
  ·rw [if_pos c'];exact ha _ _ (by omega) (by omega) (by omega) (by omega)
  ·omega
 ·rw [if_neg c];by_cases c':i<=b/\b < j
  ·rw [if_pos c'];exact hd _ _ (by omega) (by omega)
  ·rw [if_neg c'];exact hd _ _ h1 h2
theorem NH {p:Array Nat}(hj:j<=p.size) (hd:Down q p j):Up q (Zb p 0 j) j:=λa b h1 h2=>by rw [jr hj,jr hj,if_pos (by omega),if_pos (by omega)];exact hd _ _ (by omega) (by omega)
theorem uY {p:Array Nat}(hj:j<=p.size) (h:j<=k):bJ (Zb p i j) k=bJ p k:=by rw [jr hj,if_neg (by omega)]
theorem lZ (O:Ord q):∀(f:Nat) (p:Array Nat) (m e:Nat),1<=m->e + 1<=m->m + f<=p.size->Down q p m->Alike q p (m - (e + 1)) m->
  (aX q (Wx f p m e)).1.size=p.size/\m<=(aX q (Wx f p m e)).2.1/\(aX q (Wx f p m e)).2.1<=m + f/\(aX q (Wx f p m e)).2.2 + 1<=(aX q (Wx f p m e)).2.1/\
  Down q (aX q (Wx f p m e)).1 (aX q (Wx f p m e)).2.1/\Alike q (aX q (Wx f p m e)).1 ((aX q (Wx f p m e)).2.1 - ((aX q (Wx f p m e)).2.2 + 1)) (aX q (Wx f p m e)).2.1
 | 0,p,m,e,h1,h2,h3,h4,h5=>⟨rfl,Ud _,Ud _,h2,h4,h5⟩
 | f + 1,p,m,e,h1,h2,h3,h4,h5=>by
  have solo:∀(p:Array Nat) (m:Nat),Alike q p (m + 1 - (0 + 1)) (m + 1):=λp m a b c1 c2 c3 c4=>by
   have:a=b:=by omega
   rw [this];exact O.irr _
  cases c:q (bJ p m) (bJ p (m - 1)) with
  | true=>
   have c2:=O.asy _ _ c;by_cases he:e > 0
   ·have er:aX q (Wx (f + 1) p m e)=aX q (Wx f (Zb p (m - (e + 1)) m) (m + 1) 0):=by show aX q (if q (bJ p m) (bJ p (m - 1))=true then _ else _)=_;rw [if_pos c,if_pos he]
    rw [er];have hr:=xH (k:=0) (i:=m - (e + 1)) (by omega:m<=p.size) h5 h4 O;have hl:bJ (Zb p (m - (e + 1)) m) (m - 1)=bJ p (m - (e + 1)):=by rw [jr (by omega),if_pos (by omega)];congr 1;omega
    obtain ⟨a0,a1,a2,a3,a4,a5⟩:=lZ O f (Zb p (m - (e + 1)) m) (m + 1) 0 (by omega) (by omega) (by rw [i6];omega)
     (hr.more O h1 (by
      rw [hl,uY (by omega) (Ud _)];exact O.tra _ _ _ c2 (h5 _ _ (by omega) (by omega) (by omega) (by omega)))) (solo _ _)
    rw [i6] at a0;exact ⟨a0,by omega,by omega,a3,a4,a5⟩
   ·have er:aX q (Wx (f + 1) p m e)=aX q (Wx f p (m + 1) 0):=by show aX q (if q (bJ p m) (bJ p (m - 1))=true then _ else _)=_;rw [if_pos c,if_neg he]
    rw [er];obtain ⟨a0,a1,a2,a3,a4,a5⟩:=lZ O f p (m + 1) 0 (by omega) (by omega) (by omega) (h4.more O h1 c2) (solo _ _);exact ⟨a0,by omega,by omega,a3,a4,a5⟩
  | false=>
   cases c2:q (bJ p (m - 1)) (bJ p m) with
   | true=>
    have er:aX q (Wx (f + 1) p m e)=(p,m,e):=by show aX q (if q (bJ p m) (bJ p (m - 1))=true then _ else _)=_;rw [if_neg (by rw [c];decide)];show aX q (if q (bJ p (m - 1)) (bJ p m)=true then _ else _)=_;rw [if_pos c2];rfl
    rw [er];exact ⟨rfl,Ud _,X8 _ _,h2,h4,h5⟩
   | false=>
    have er:aX q (Wx (f + 1) p m e)=aX q (Wx f p (m + 1) (e + 1)):=by show aX q (if q (bJ p m) (bJ p (m - 1))=true then _ else _)=_;rw [if_neg (by rw [c];decide)];show aX q (if q (bJ p (m - 1)) (bJ p m)=true then _ else _)=_;rw [if_neg (by rw [c2];decide)]
    rw [er];have hal:Alike q p (m + 1 - (e + 1 + 1)) (m + 1):=λa b d1 d2 d3 d4=>by
     by_cases ea:a=m
     ·subst ea;by_cases eb:b=a
      ·rw [eb];exact O.irr _
      ·exact O.tra _ _ _ (h5 (a - 1) b (by omega) (by omega) (by omega) (by omega)) c
     ·by_cases eb:b=m
      ·subst eb;exact O.tra _ _ _ c2 (h5 a (b - 1) (by omega) (by omega) (by omega) (by omega))
      ·exact h5 a b (by omega) (by omega) (by omega) (by omega)
    obtain ⟨a0,a1,a2,a3,a4,a5⟩:=lZ O f p (m + 1) (e + 1) (by omega) (by omega) (by omega) (h4.more O h1 c2) hal;exact ⟨a0,by omega,by omega,a3,a4,a5⟩
def Got (q:Nat->Nat->Bool) (N s:Nat) (r:Nat×Array Nat):Prop:=r.2.size=s/\1<=r.1/\r.1<=N/\Up q r.2 r.1
theorem B3 (O:Ord q){p:Array Nat}(h1:1<=m) (hm:m<=N) (hN:N<=p.size) (hd:Down q p m):Got q N p.size (aX q (ad1 m N p)):=by unfold ad1;rw [run_bind];obtain ⟨a1,a2,a3,_⟩:=yZ O (Zb p 0 m) (N - m) m h1 (NH (by omega) hd);exact ⟨i6 _ _ _,by show 1<=aX q (Zc _ _ _);omega,by show aX q (Zc _ _ _)<=N;omega,a3⟩
theorem BL (O:Ord q){p:Array Nat}(h1:1<=m) (hm:m + 1<=N) (hN:N<=p.size) (hd:Down q p (m + 1)):Got q N p.size (aX q (acd m N p)):=by
 unfold acd;rw [run_bind];obtain ⟨a0,a1,a2,a3,a4,a5⟩:=lZ O (N - (m + 1)) p (m + 1) 0 (by omega) (by omega) (by omega) hd (λa b c1 c2 c3 c4=>by
  have:a=b:=by omega
  rw [this];exact O.irr _)
 generalize aX q (Wx (N - (m + 1)) p (m + 1) 0)=r at *;obtain ⟨p',m',e'⟩:=r;simp only at *;by_cases c:e' > 0
 ·rw [if_pos c];have:=B3 (N:=N) O (p:=Zb p' (m' - (e' + 1)) m') (m:=m') (by omega) (by omega) (by rw [i6];omega) (xH (k:=0) (by omega) a5 a4 O);rw [i6,a0] at this;exact this
 ·rw [if_neg c];have:=B3 (N:=N) O (p:=p') (m:=m') (by omega) (by omega) (by omega) a4;rw [a0] at this;exact this
theorem Gz (O:Ord q){p:Array Nat}(h1:1<=N) (hN:N<=p.size):Got q N p.size (aX q (acF N p)):=by
 unfold acF;rw [run_bind];obtain ⟨a1,a2,a3,a4⟩:=yZ O p (N - 1) 1 (Ud _) (Up.one O p);generalize aX q (Zc p (N - 1) 1)=m at *;by_cases c:(m == N)=true
 ·rw [if_pos c];exact ⟨rfl,a1,by show m<=N;omega,a3⟩
 ·rw [if_neg c];have hm:m + 1<=N:=by
   have:m≠N:=by simpa using c
   omega
  have a4:q (bJ p m) (bJ p (m - 1))=true:=by
   rcases a4 with h | h
   ·omega
   ·exact h
  have a5:=O.asy _ _ a4;by_cases c':m > 1
  ·rw [if_pos c'];show Got q N p.size (aX q (if q (bJ p 0) (bJ p (m - 1))=true then _ else _));by_cases d:q (bJ p 0) (bJ p (m - 1))=true
   ·rw [if_pos d];exact ⟨rfl,a1,by show m<=N;omega,a3⟩
   ·rw [if_neg d];have d:q (bJ p 0) (bJ p (m - 1))=false:=by simpa using d
    have all:∀a b,a < m->b < m->q (bJ p a) (bJ p b)=false:=λa b ha hb=>O.tra _ _ _ (O.tra _ _ _ (a3 b (m - 1) (by omega) (by omega)) d) (a3 0 a (by omega) (by omega));have hd:Down q (Zb p 0 m) m:=λa b h1 h2=>by rw [jr (by omega),jr (by omega),if_pos (by omega),if_pos (by omega)];exact all _ _ (by omega) (by omega)
    have:=BL O (p:=Zb p 0 m) (m:=m) (N:=N) (by omega) hm (by rw [i6];exact hN) (hd.more O (by omega) (by
     rw [uY (by omega) (Ud _),jr (by omega),if_pos (by omega),show 0 + m - 1 - (m - 1)=0 by omega];exact O.tra _ _ _ a5 d))
    rw [i6] at this;exact this
  ·rw [if_neg c'];have:m=1:=by omega
   subst this;refine BL O (Ud _) hm hN ?_;exact Down.more O (λi j h1 h2=>by
    have:i=j:=by omega
    rw [this];exact O.irr _) (Ud _) a5
theorem tK (O:Ord q) (hs:Up q p k):∀(f l r:Nat),l<=r->r<=k->r - l<=f->(∀i,i < l->q (bJ p k) (bJ p i)=false)->(∀i,r<=i->i < k->q (bJ p k) (bJ p i)=true)->
  aX q (WX p k f l r)<=k/\(∀i,i < aX q (WX p k f l r)->q (bJ p k) (bJ p i)=false)/\∀i,aX q (WX p k f l r)<=i->i < k->q (bJ p k) (bJ p i)=true
 | 0,l,r,h1,h2,h3,h4,h5=>⟨by show l<=k;omega,h4,λi hi=>h5 i (by show r<=i;have:l<=i:=hi;omega)⟩
 | f + 1,l,r,h1,h2,h3,h4,h5=>by
  by_cases c:l ≥ r
  ·have e:aX q (WX p k (f + 1) l r)=l:=by unfold WX;rw [if_pos c];rfl
   rw [e];exact ⟨by omega,h4,λi hi=>h5 i (by omega)⟩
  ·cases d:q (bJ p k) (bJ p ((l + r) / 2)) with
   | true=>
    have e:aX q (WX p k (f + 1) l r)=aX q (WX p k f l ((l + r) / 2)):=by rw [WX,if_neg c];show aX q (if q (bJ p k) (bJ p ((l + r) / 2))=true then _ else _)=_;rw [if_pos d]
    rw [e];refine tK O hs f l ((l + r) / 2) (by omega) (by omega) (by omega) h4 λi i1 i2=>?_;by_cases ci:r<=i
    ·exact h5 i ci i2
    ·cases dd:q (bJ p k) (bJ p i) with
     | true=>rfl
     | false=>
      have:=O.tra _ _ _ (hs ((l + r) / 2) i i1 i2) dd;rw [d] at this;cases this
   | false=>
    have e:aX q (WX p k (f + 1) l r)=aX q (WX p k f ((l + r) / 2 + 1) r):=by rw [WX,if_neg c];show aX q (if q (bJ p k) (bJ p ((l + r) / 2))=true then _ else _)=_;rw [if_neg (by rw [d];decide)]
    rw [e];refine tK O hs f ((l + r) / 2 + 1) r (by omega) (by omega) (by omega) (λi hi=>?_) h5;exact O.tra _ _ _ (hs i ((l + r) / 2) (by omega) (by omega)) d
theorem L3 (O:Ord q){p:Array Nat}(hk:k < p.size) (hl:l<=k) (hs:Up q p k) (h1:∀i,i < l->q (bJ p k) (bJ p i)=false) (h2:∀i,l<=i->i < k->q (bJ p k) (bJ p i)=true):Up q (bubble p k (k - l)) (k + 1):=λi j hi hj=>by
 rw [DZ hk (by omega),DZ hk (by omega),show k - (k - l)=l by omega];by_cases a:i=l
 ·rw [if_pos a];by_cases b:j=l
  ·rw [if_pos b];exact O.irr _
  ·rw [if_neg b,if_pos (by omega)];exact O.asy _ _ (h2 (j - 1) (by omega) (by omega))
 ·rw [if_neg a];by_cases b:j=l
  ·rw [if_pos b,if_neg (by omega)];exact h1 i (by omega)
  ·rw [if_neg b];by_cases a':l < i/\i<=k
   ·rw [if_pos a',if_pos (by omega)];exact hs _ _ (by omega) (by omega)
   ·rw [if_neg a'];by_cases b':l < j/\j<=k
    ·rw [if_pos b'];exact hs _ _ (by omega) (by omega)
    ·rw [if_neg b'];exact hs _ _ hi (by omega)
theorem D4 (O:Ord q):∀(f:Nat) (p:Array Nat) (k:Nat),k + f<=p.size->Up q p k->Up q (aX q (adH f p k)) (k + f)
 | 0,p,k,_,h=>h
 | f + 1,p,k,hs,h=>by
  have e:aX q (adH (f + 1) p k)=aX q (adH f (bubble p k (k - aX q (WX p k k 0 k))) (k + 1)):=by rw [adH,run_bind]
  rw [e];obtain ⟨a1,a2,a3⟩:=tK O h k 0 k (UD _) (Ud _) (by omega) (λi hi=>by omega) (λi h1 h2=>by omega);have:=D4 O f (bubble p k (k - aX q (WX p k k 0 k))) (k + 1) (by rw [bubble_size];omega) (L3 O (by omega) a1 h a2 a3);rw [show k + (f + 1)=k + 1 + f by omega];exact this
theorem Lg (O:Ord q) (n:Nat) (hn:1<=n):Up q (aX q (Wy n)) n:=by
 unfold Wy;rw [run_bind];obtain ⟨a0,a1,a2,a3⟩:=Gz O (p:=(Ue n).toArray) (N:=n) hn (by simp);generalize aX q (acF n (Ue n).toArray)=r at *;have a0:r.2.size=n:=by simpa using a0
 by_cases c:r.1 < n
 ·rw [if_pos c];have:=D4 O (n - max r.1 1) r.2 (max r.1 1) (by omega) (by rw [show max r.1 1=r.1 by omega];exact a3)
  rwa [show max r.1 1 + (n - max r.1 1)=n by omega] at this
 ·rw [if_neg c];have:r.1=n:=by omega
  rw [this] at a3;exact a3
end
end DL
namespace DL
open PySem PySem.Spec PyProof.Rows L2
open PySem.W (kas_sort)
def eF (x y:D):Bool:=(dI x y).getD false
structure gm (P:D->Prop):Prop where
 eq:∀x y,P x->P y->(bq x y=true↔x=y)
 lt:∀x y,P x->P y->(dI x y).isSome=true
 asy:∀x y,P x->P y->eF x y=true->eF y x=false
 tri:∀x y,P x->P y->eF x y=false->eF y x=false->x=y
 tra:∀x y z,P x->P y->P z->eF x y=true->eF y z=true->eF x z=true
def iH (xs ys:List D):Bool:=eF (.tup xs) (.tup ys)
theorem jO (x y:D) (xs ys:List D):iH (x::xs) (y::ys)=if bq x y=true then iH xs ys else eF x y:=by
 show (if bq x y=true then kr xs ys else dI x y).getD false=_;by_cases h:bq x y=true
 ·rw [if_pos h,if_pos h];rfl
 ·rw [if_neg h,if_neg h];rfl
variable {P R:D->Prop}
theorem jM (xs ys:List D):bq (.tup xs) (.tup ys)=cB xs ys:=by rw [bq]
theorem gM (x y:D) (xs ys:List D):cB (x::xs) (y::ys)=(bq x y && cB xs ys):=by rw [cB]
structure lg (Q:List D->Prop):Prop where
 eq:∀x y,Q x->Q y->(cB x y=true↔x=y)
 lt:∀x y,Q x->Q y->(kr x y).isSome=true
 asy:∀x y,Q x->Q y->iH x y=true->iH y x=false
 tri:∀x y,Q x->Q y->iH x y=false->iH y x=false->x=y
 tra:∀x y z,Q x->Q y->Q z->iH x y=true->iH y z=true->iH x z=true
theorem lg.tot {Q:List D->Prop}(h:lg Q):gm λd=>∃xs,d=.tup xs/\Q xs where
 eq:=by rintro _ _ ⟨x,rfl,hx⟩ ⟨y,rfl,hy⟩;rw [jM,h.eq x y hx hy];exact ⟨λe=>e▸rfl,λe=>by cases e;rfl⟩
 lt:=by rintro _ _ ⟨x,rfl,hx⟩ ⟨y,rfl,hy⟩;exact h.lt x y hx hy
 asy:=by rintro _ _ ⟨x,rfl,hx⟩ ⟨y,rfl,hy⟩;exact h.asy x y hx hy
 tri:=by rintro _ _ ⟨x,rfl,hx⟩ ⟨y,rfl,hy⟩ h1 h2;rw [h.tri x y hx hy h1 h2]
 tra:=by rintro _ _ _ ⟨x,rfl,hx⟩ ⟨y,rfl,hy⟩ ⟨z,rfl,hz⟩;exact h.tra x y z hx hy hz
theorem BB (p:gm P) (px:P x) (py:P y) (pz:P z) (h:iH r s=true->iH s t=true->iH r t=true) (h1:iH (x::r) (y::s)=true) (h2:iH (y::s) (z::t)=true):iH (x::r) (z::t)=true:=by
 rw [jO] at h1 h2 ⊢;by_cases e:x=y
 ·subst e;rw [if_pos ((p.eq x x px px).mpr rfl)] at h1;by_cases f:x=z
  ·subst f;rw [if_pos ((p.eq x x px px).mpr rfl)] at h2 ⊢;exact h h1 h2
  ·rw [if_neg λq=>f ((p.eq x z px pz).mp q)] at h2 ⊢;exact h2
 ·rw [if_neg λq=>e ((p.eq x y px py).mp q)] at h1;by_cases f:y=z
  ·subst f;rw [if_neg λq=>e ((p.eq x y px py).mp q)];exact h1
  ·rw [if_neg λq=>f ((p.eq y z py pz).mp q)] at h2;have h3:=p.tra x y z px py pz h1 h2;by_cases g:x=z
   ·subst g;have:=p.asy x x px px h3;rw [h3] at this;cases this
   ·rw [if_neg λq=>g ((p.eq x z px pz).mp q)];exact h3
theorem lg.cons {Q:List D->Prop}(p:gm P) (h:lg Q):lg λxs=>∃x r,xs=x::r/\P x/\Q r where
 eq:=by rintro _ _ ⟨x,r,rfl,px,qr⟩ ⟨y,s,rfl,py,qs⟩;rw [gM,Ub,p.eq x y px py,h.eq r s qr qs];exact ⟨λe=>by rw [e.1,e.2],λe=>by cases e;exact ⟨rfl,rfl⟩⟩
 lt:=by
  rintro _ _ ⟨x,r,rfl,px,qr⟩ ⟨y,s,rfl,py,qs⟩;show (if bq x y=true then kr r s else dI x y).isSome=true;split
  ·exact h.lt r s qr qs
  ·exact p.lt x y px py
 asy:=by
  rintro _ _ ⟨x,r,rfl,px,qr⟩ ⟨y,s,rfl,py,qs⟩ hl;rw [jO] at hl ⊢;by_cases e:x=y
  ·subst e;rw [if_pos ((p.eq x x px px).mpr rfl)] at hl ⊢;exact h.asy r s qr qs hl
  ·rw [if_neg λz=>e ((p.eq x y px py).mp z)] at hl;rw [if_neg λz=>e ((p.eq y x py px).mp z).symm];exact p.asy x y px py hl
 tri:=by
  rintro _ _ ⟨x,r,rfl,px,qr⟩ ⟨y,s,rfl,py,qs⟩ h1 h2;rw [jO] at h1 h2;by_cases e:x=y
  ·subst e;rw [if_pos ((p.eq x x px px).mpr rfl)] at h1 h2;rw [h.tri r s qr qs h1 h2]
  ·rw [if_neg λz=>e ((p.eq x y px py).mp z)] at h1;rw [if_neg λz=>e ((p.eq y x py px).mp z).symm] at h2;exact absurd (p.tri x y px py h1 h2) e
 tra:=by rintro _ _ _ ⟨x,r,rfl,px,qr⟩ ⟨y,s,rfl,py,qs⟩ ⟨z,t,rfl,pz,qt⟩ h1 h2;exact BB p px py pz (h.tra r s t qr qs qt) h1 h2
theorem lg.nil:lg λxs=>xs=[] where
 eq:=by rintro _ _ rfl rfl;simp [cB]
 lt:=by rintro _ _ rfl rfl;rfl
 asy:=by rintro _ _ rfl rfl h;cases h
 tri:=by rintro _ _ rfl rfl _ _;rfl
 tra:=by rintro _ _ _ rfl rfl rfl h;cases h
theorem gm.list (p:gm P):lg λxs=>∀x∈xs,P x where
 eq:=by
  intro xs
  induction xs with
  | nil=>intro ys _ _;cases ys <;> simp [cB]
  | cons x xs ih=>
   intro ys hx hy;cases ys with
   | nil=>simp [cB]
   | cons y ys=>
    rw [gM,Ub,p.eq x y (hx x Uc) (hy y Uc),ih ys (λz hz=>hx z (Ua _ hz)) λz hz=>hy z (Ua _ hz)];exact ⟨λe=>by rw [e.1,e.2],λe=>by cases e;exact ⟨rfl,rfl⟩⟩
 lt:=by
  intro xs
  induction xs with
  | nil=>intro ys _ _;rfl
  | cons x xs ih=>
   intro ys hx hy;cases ys with
   | nil=>rfl
   | cons y ys=>
    show (if bq x y=true then kr xs ys else dI x y).isSome=true;split
    ·exact ih ys (λz hz=>hx z (Ua _ hz)) λz hz=>hy z (Ua _ hz)
    ·exact p.lt x y (hx x Uc) (hy y Uc)
 asy:=by
  intro xs
  induction xs with
  | nil=>
   intro ys _ _ h;cases ys with
   | nil=>cases h
   | cons y ys=>rfl
  | cons x xs ih=>
   intro ys hx hy hl;cases ys with
   | nil=>cases hl
   | cons y ys=>
    have px:=hx x Uc;have py:=hy y Uc;rw [jO] at hl ⊢;by_cases e:x=y
    ·subst e;rw [if_pos ((p.eq x x px px).mpr rfl)] at hl ⊢;exact ih ys (λz hz=>hx z (Ua _ hz)) (λz hz=>hy z (Ua _ hz)) hl
    ·rw [if_neg λz=>e ((p.eq x y px py).mp z)] at hl;rw [if_neg λz=>e ((p.eq y x py px).mp z).symm];exact p.asy x y px py hl
 tri:=by
  intro xs
  induction xs with
  | nil=>
   intro ys _ _ h1 h2;cases ys with
   | nil=>rfl
   | cons y ys=>cases h1
  | cons x xs ih=>
   intro ys hx hy h1 h2;cases ys with
   | nil=>cases h2
   | cons y ys=>
    have px:=hx x Uc;have py:=hy y Uc;rw [jO] at h1 h2;by_cases e:x=y
    ·subst e;rw [if_pos ((p.eq x x px px).mpr rfl)] at h1 h2;rw [ih ys (λz hz=>hx z (Ua _ hz)) (λz hz=>hy z (Ua _ hz)) h1 h2]
    ·rw [if_neg λz=>e ((p.eq x y px py).mp z)] at h1;rw [if_neg λz=>e ((p.eq y x py px).mp z).symm] at h2;exact absurd (p.tri x y px py h1 h2) e
 tra:=by
  intro xs
  induction xs with
  | nil=>
   intro ys zs _ _ _ h1 h2;cases ys with
   | nil=>cases h1
   | cons y ys=>
    cases zs with
    | nil=>cases h2
    | cons z zs=>rfl
  | cons x xs ih=>
   intro ys zs hx hy hz h1 h2;cases ys with
   | nil=>cases h1
   | cons y ys=>
    cases zs with
    | nil=>cases h2
    | cons z zs=>
     have px:=hx x Uc;have py:=hy y Uc;have pz:=hz z Uc;exact BB p px py pz (ih ys zs (λz hz=>hx z (Ua _ hz)) (λz hz=>hy z (Ua _ hz)) λw hw=>hz w (Ua _ hw)) h1 h2
theorem OY:gm λd=>∃k,d=.bl k where
 eq:=by rintro _ _ ⟨x,rfl⟩ ⟨y,rfl⟩;simp [bq]
 lt:=by rintro _ _ ⟨x,rfl⟩ ⟨y,rfl⟩;rfl
 asy:=by rintro _ _ ⟨x,rfl⟩ ⟨y,rfl⟩;revert x y;decide
 tri:=by
  rintro _ _ ⟨x,rfl⟩ ⟨y,rfl⟩ h1 h2;revert h1 h2;cases x <;> cases y <;> intro h1 h2
  ·rfl
  ·exact absurd h1 (by decide)
  ·exact absurd h2 (by decide)
  ·rfl
 tra:=by rintro _ _ _ ⟨x,rfl⟩ ⟨y,rfl⟩ ⟨z,rfl⟩;revert x y z;decide
theorem nu (x y:Int):eF (.int x) (.int y)=decide (x < y):=rfl
theorem OZ:gm λd=>∃k,d=.int k where
 eq:=by rintro _ _ ⟨x,rfl⟩ ⟨y,rfl⟩;simp [bq]
 lt:=by rintro _ _ ⟨x,rfl⟩ ⟨y,rfl⟩;rfl
 asy:=by rintro _ _ ⟨x,rfl⟩ ⟨y,rfl⟩ h;rw [nu,decide_eq_true_eq] at h;rw [nu,decide_eq_false_iff_not];omega
 tri:=by rintro _ _ ⟨x,rfl⟩ ⟨y,rfl⟩ h1 h2;rw [nu,decide_eq_false_iff_not] at h1 h2;rw [show x=y by omega]
 tra:=by rintro _ _ _ ⟨x,rfl⟩ ⟨y,rfl⟩ ⟨z,rfl⟩ h1 h2;rw [nu,decide_eq_true_eq] at h1 h2 ⊢;omega
theorem qQ (x y:Str):eF (.str x) (.str y)=decide (x.cps.toList < y.cps.toList):=rfl
theorem Lj {x y:Str}(h:x.cps.toList=y.cps.toList):x=y:=by obtain ⟨⟨cx⟩⟩:=x;obtain ⟨⟨cy⟩⟩:=y;simp only at h;rw [h]
theorem O0:gm λd=>∃k,d=.str k where
 eq:=by rintro _ _ ⟨x,rfl⟩ ⟨y,rfl⟩;simp [bq]
 lt:=by rintro _ _ ⟨x,rfl⟩ ⟨y,rfl⟩;rfl
 asy:=by rintro _ _ ⟨x,rfl⟩ ⟨y,rfl⟩ h;rw [qQ,decide_eq_true_eq] at h;rw [qQ,decide_eq_false_iff_not];exact List.lt_asymm h
 tri:=by rintro _ _ ⟨x,rfl⟩ ⟨y,rfl⟩ h1 h2;rw [qQ,decide_eq_false_iff_not] at h1 h2;rw [Lj (ack h2 h1)]
 tra:=by rintro _ _ _ ⟨x,rfl⟩ ⟨y,rfl⟩ ⟨z,rfl⟩ h1 h2;rw [qQ,decide_eq_true_eq] at h1 h2 ⊢;exact List.lt_trans h1 h2
inductive Fm where
 | b | i | s | hom (t:Fm) | tn | tc (x r:Fm)
noncomputable def mH:Fm->D->Prop
 | .b,d=>∃k,d=.bl k
 | .i,d=>∃k,d=.int k
 | .s,d=>∃k,d=.str k
 | .hom t,d=>∃xs,d=.tup xs/\∀x∈xs,mH t x
 | .tn,d=>∃xs,d=.tup xs/\xs=[]
 | .tc x r,d=>∃xs,d=.tup xs/\∃y ys,xs=y::ys/\mH x y/\mH r (.tup ys)
theorem gm.tail {Q:List D->Prop}(h:gm R) (k:∀xs,Q xs->R (.tup xs)):lg Q where
 eq:=λx y hx hy=>by have:=h.eq _ _ (k x hx) (k y hy);rw [jM] at this;rw [this];exact ⟨λe=>by cases e;rfl,λe=>e▸rfl⟩
 lt:=λx y hx hy=>h.lt _ _ (k x hx) (k y hy)
 asy:=λx y hx hy=>h.asy _ _ (k x hx) (k y hy)
 tri:=λx y hx hy h1 h2=>by have:=h.tri _ _ (k x hx) (k y hy) h1 h2;cases this;rfl
 tra:=λx y z hx hy hz=>h.tra _ _ _ (k x hx) (k y hy) (k z hz)
theorem oE:∀t:Fm,gm (mH t)
 | .b=>OY
 | .i=>OZ
 | .s=>O0
 | .hom t=>(oE t).list.tot
 | .tn=>lg.nil.tot
 | .tc x r=>(lg.cons (oE x) (gm.tail (Q:=λys=>mH r (.tup ys)) (oE r) λ_ h=>h)).tot
theorem OM (ds:List D):(bX ds).length=ds.length:=by
 unfold bX;by_cases h:ds.length < 2
 ·rw [if_pos h]
 ·rw [if_neg h,T8];have:=((fL (n:=ds.length) (by omega)).run (ltB ds)).size_eq;simpa using this
theorem Ko (ds:List D):(Ue ds.length).map (dz ds)=ds:=by refine Zd (by simp) λi h1 h2=>?_;rw [U5,List.getElem_range];unfold dz;rw [VB,Uk h2];rfl
theorem jD (ds:List D):(bX ds).Perm ds:=by
 unfold bX;by_cases h:ds.length < 2
 ·rw [if_pos h]
 ·rw [if_neg h];have hp:=(fL (n:=ds.length) (by omega)).run (ltB ds);have hq:(aX (ltB ds) (Wy ds.length)).toList.Perm (Ue ds.length):=by have:=Array.perm_iff_toList_perm.mp hp;simpa using this
  have:=hq.map (dz ds)
  rwa [Ko] at this
theorem Ia (p:gm P) (ds:List D) (h:∀x∈ds,P x):(bX ds).Pairwise λx y=>eF y x=false:=by
 unfold bX;by_cases h2:ds.length < 2
 ·rw [if_pos h2]
  match ds,h2 with
  | [],_=>exact .nil
  | [x],_=>exact V0 _ _
 ·rw [if_neg h2];have hn:0 < ds.length:=by omega
  have hb:=fL (n:=ds.length) hn;have at_P:∀i,i < ds.length->P (dz ds i):=λi hi=>h _ (ir hi)
  let q':Nat->Nat->Bool:=λi j=>if i < ds.length then (if j < ds.length then ltB ds i j else true) else false
  have hq:aX (ltB ds) (Wy ds.length)=aX q' (Wy ds.length):=HX hb λi j hi hj=>by simp [q',hi,hj]
  have O:Ord q':=by
   constructor
   ·intro a b hab;by_cases ha:a < ds.length <;> by_cases hb:b < ds.length <;> simp [q',ha,hb] at hab ⊢
    exact p.asy _ _ (at_P a ha) (at_P b hb) hab
   ·intro a b c hab hbc;by_cases ha:a < ds.length <;> by_cases hb:b < ds.length <;> by_cases hc:c < ds.length <;> simp [q',ha,hb,hc] at hab hbc ⊢
    have h1:eF (dz ds b) (dz ds a)=false:=hab;have h2:eF (dz ds c) (dz ds b)=false:=hbc;show eF (dz ds c) (dz ds a)=false;cases g:eF (dz ds c) (dz ds a) with
    | false=>rfl
    | true=>
     have pa:=at_P a ha;have pb:=at_P b hb;have pc:=at_P c hc;cases g2:eF (dz ds a) (dz ds b) with
     | true=>
      have:=p.tra _ _ _ pc pa pb g g2;rw [this] at h2;cases h2
     | false=>
      rw [<-p.tri _ _ pb pa h1 g2] at g;rw [g] at h2;cases h2
  have up:=Lg O ds.length (by omega);have hs:=(hb.run (ltB ds));rw [hq] at hs ⊢;have hsz:(aX q' (Wy ds.length)).size=ds.length:=by simpa using hs.size_eq
  generalize aX q' (Wy ds.length)=A at *;rw [Xc,Vq];intro i j hi hj hij;rw [Ux] at hi hj;have:=up i j (by omega) (by omega);have e:∀k (hk:k < A.size),bJ A k=A.toList[k]'(by rw [Ux];exact hk):=λk hk=>by show A.getD k 0=_;simp [V8,hk]
  rw [e i hi,e j hj] at this;have l:∀k (hk:k < A.size),A.toList[k]'(by rw [Ux];exact hk) < ds.length:=λk hk=>by rw [<-e k hk];exact hs.lt hn k
  have li:=l i hi;have lj:=l j hj;simp only [q',li,lj,if_true] at this;exact this
end DL
namespace K52
open PySem DL
end K52
namespace K52
open PySem DL K01 WP K51
variable {P:D->Prop}
end K52
namespace DL
open PySem PySem.Spec PyProof.Rows L2
section
variable {X:Cx}{c:C}{e a b:UU}{es elts:List UU}{pos tp:Pos}{kk:Nat}
noncomputable def LV:R->M (List D)
 | .d (.tup xs)=>.ok xs
 | .d (.lst xs)=>.ok xs
 | _=>.bad
noncomputable def QE (gs:G (List R)):G (List D):=λenv=>gs env >>= λrs=>match rs with
 | [x,y]=>LV x >>= λxs=>LV y >>= λys=>.ok (List.zipWith (λa b=>.tup [a,b]) xs ys)
 | _=>.bad
theorem Gw:cR X (.type "range") (λxs H Q=>∃j:Int,xs=[.int j]/\∀p,H p=none->Q (.ref p) (upd H p (.rng 0 j))):=by intro TN s σ H xs us Q I r h;obtain ⟨j,rfl,q⟩:=h;obtain ⟨u,rfl,t,rfl⟩:=vals1 r;refine call_range_1 ⟨.ref s.heap.objs.size,_,I.laid (λb o e=>T9 _ e) (Ud _) (show cF X.prog X.w _ _ _ (.rng 0 j) from ⟨_,_,_,Uh _ rfl⟩),rfl,q _ (I.hok.fresh (Ud _))⟩
def mj (n:Nat):List V:=(Ue n).map λ(k:Nat)=>V.int k
theorem Iq {acc:Array T7}(h:ItemsOf (λi v=>∃t,v=.int (0 + (i:Int) * 1) t) acc n):Vals (mj n) acc.toList:=by
 have key:∀(us:List T7) (i:Nat),(∀j v,us[j]?=some v->∃t:Tok,v=YX ((i + j:Nat):Int) t)->Vals ((List.range' i us.length).map λ(k:Nat)=>V.int k) us:=by
  intro us
  induction us with
  | nil=>exact λi _=>.nil
  | cons u us ih=>
   intro i hj;obtain ⟨t,e⟩:=hj 0 u rfl;rw [U4,List.range'_succ,Ur];refine .cons ⟨t,by rw [e];rfl⟩ (ih (i + 1) λj v hv=>?_);obtain ⟨t,e⟩:=hj (j + 1) v (by simpa using hv);exact ⟨t,by rw [e];congr 2;omega⟩
 have e:acc.toList.length=n:=by rw [Ux];exact h.1
 unfold mj;rw [List.range_eq_range',<-e];refine key acc.toList 0 λj v hv=>?_;obtain ⟨t,q⟩:=h.2 j v (by simpa using hv);exact ⟨t,by rw [q];congr 1;omega⟩
theorem yf (hc:X.calm=true):cR X (.type "list") (λxs H Q=>∃(p:UA) (j:Int),xs=[.ref p]/\H p=some (.rng 0 j)/\-(2 ^ 24)<=j/\j<=2 ^ 24/\∀l,H l=none->Q (.ref l) (upd H l (.lst (mj j.toNat)))):=by
 intro TN s σ H xs us Q I r h;obtain ⟨p,j,rfl,hp,h0,h1,q⟩:=h;obtain ⟨u,rfl,rx⟩:=vals1 r;cases rx;obtain ⟨t,u,v,ho⟩:=I.hok p _ hp;have hn:Z2 0 j 1=(j.toNat:Int):=by rw [ady];split <;> omega
 refine call_list_range (I.ok.hd hc) ho (small_one (by decide) (by decide) (by omega) (by omega)) hn (by omega) λh' tk acc' c' kp e hi=>?_;have hv:=Iq hi;refine ⟨.ref s.heap.objs.size,_,I.laid kp (Ud _) (show cF X.prog X.w _ h' _ (.lst (mj j.toNat)) from ⟨?_,acc'.toList,c',hv,e⟩),rfl,q _ (I.hok.fresh (Ud _))⟩;unfold mj;rw [T8,WC];show j.toNat<=2 ^ 24;omega
noncomputable def yz (gs:G (List R)):G R:=λenv=>gs env >>= λrs=>match rs with
 | [.d (.int j)]=>if below 16777216 j then .ok (.l .fresh (fB 0 j.toNat)) else .bad
 | _=>.bad
theorem HV {K:T5}{J:Hp}(n:Nat):aK K J (fB 0 n) (mj n):=by
 unfold fB mj;generalize Ue n=ks
 induction ks with
 | nil=>exact .nil
 | cons k ks ih=>
  rw [Ur,Ur,Int.zero_add];exact .cons (.int _) ih
end
end DL
namespace DL
open PySem PySem.Spec PyProof.Rows L2 DX
section
variable {X:Cx}{c:C}{e a:UU}{es:List UU}{ga g:G R}{pos:Pos}{L:List Str}{T:Str->Bool}
theorem Dk {p p2 pos2:Pos}{gs:G (List R)}(ha:jG X c [a] gs) (hm:X.mg "range"=none) (hm2:X.mg "list"=none) (hc:X.calm=true:=by rfl) (hK:X.K=c.K:=by rfl) (hg:Gl X "range":=by rfl) (RP:Gl X "list":=by rfl)
  (hs:Uj [a] X.env=(false,eval a X.env)::Uj [] X.env:=by rfl) (hs0:(Vx pos (Uj [] X.env)).any (·.1)=false:=by rfl) (hs2:Uj [aeW (.Name "range" p) [a] [] pos] X.env=(false,eval (aeW (.Name "range" p) [a] [] pos) X.env)::Uj [] X.env:=by rfl) (Tj:(Vx pos2 (Uj [] X.env)).any (·.1)=false:=by rfl):
  QD X c (.Call (.Name "list" p2) [.Call (.Name "range" p) [a] [] pos] [] pos2) (yz gs):=by
 have ha:=ha.h;refine ⟨?_⟩;have h1:=mz (p:=p) (pos:=pos) Gw hg hm boot_range ha (by decide) (by decide) hs hs0;have h2:=mz (p:=p2) (pos:=pos2) (yf hc) RP hm2 uf (eH h1 gD hs2) (by decide) (by decide) hs2 Tj;refine gq h2 λσ H Q ⟨J,env,sr,w⟩=>?_;refine ⟨J,env,sr,aF (aM w) λrs wr vs J1 H1 e1 r1=>?_⟩;split at wr
 ·rename_i j;obtain ⟨v,rfl,r⟩:=r1.one;cases r;split at wr
  ·rename_i hb;obtain ⟨b1,b2⟩:=cW.mp hb;refine ⟨j,rfl,λq hq=>?_⟩;refine ⟨q,j,rfl,bO,by omega,by omega,λl hl=>?_⟩;have hp1:=sr.hp.ext e1;have e2:=Ext.new hp1.sub hq (.rng 0 j);have hp2:=hp1.ext e2;have hr:RR c H1 J1 (upd (upd H1 q (.rng 0 j)) l (.lst (mj j.toNat))) (.l .fresh (fB 0 j.toNat)) (.ref l):=by obtain ⟨a,us,x1,x2,x3,x4,x5⟩:=gF (c:=c) hp2 hl (HV j.toNat);exact ⟨a,us,x1,x2,x3,e2.h.free x4,x5⟩
   exact wr _ _ _ ((e1.trans e2).trans (Ext.new hp2.sub hl _)) (by
    obtain ⟨a,us,x1,x2,x3,x4,x5⟩:=hr;exact ⟨a,us,x1,x2,x3,e1.h.free x4,x5⟩)
  ·exact wr.elim
 ·exact wr.elim
end
end DL
namespace DL
open PySem PySem.Spec PyProof.Rows L2
end DL
namespace DL
open PySem PySem.Spec PyProof.Rows L2 DX
open PySem.W (KasT kas_sort kas_ask)
section
variable {X:Cx}{c:C}{e:UU}{es:List UU}{pos:Pos}
noncomputable def ng:List R->M R
 | [r]=>iz r >>= λxs=>if xw xs=true then .ok (.l .fresh (bX xs)) else if Ad xs=true then .ok (.l .fresh (bX xs)) else .bad
 | _=>.bad
theorem xC {p:Pos}{gs:G (List R)}(hu:X.A.units + 64 < VI) (ha:jG X c (e::es) gs) (hm:X.mg "sorted"=none) (hK:X.K=c.K:=by rfl) (hg:Gl X "sorted":=by rfl)
  (he:Uj (e::es) X.env=(false,eval e X.env)::Uj es X.env:=by rfl) (hpl:(Vx pos (Uj es X.env)).any (·.1)=false:=by rfl):QD X c (.Call (.Name "sorted" p) (e::es) [] pos) (gN ng gs):=have ha:=ha.h;⟨
 iY (zl hu) (by
  intro He J H xs vs Q hp rs w;unfold ng at w;split at w
  ·obtain ⟨v,rfl,r⟩:=rs.one;obtain ⟨xs,q,w⟩:=jf w;obtain ⟨p,vs,rfl,h1,h2⟩:=kR hp r q;rw [hK];split at w
   ·rename_i ok;exact ⟨p,vs,xs,rfl,h1,h2.mono hp.sub,.inl ok,λl vs' hl rr=>w _ _ _ (Ext.new hp.sub hl _) (gF hp hl (rr _ h2))⟩
   ·split at w
    ·rename_i ok;exact ⟨p,vs,xs,rfl,h1,h2.mono hp.sub,.inr ok,λl vs' hl rr=>w _ _ _ (Ext.new hp.sub hl _) (gF hp hl (rr _ h2))⟩
    ·exact w.elim
  ·exact w.elim) ly hm ha hg (by decide) (by decide) he hpl⟩
end
end DL
namespace DL
open PySem PySem.Spec PyProof.Rows L2 DX
section
variable {X:Cx}{c:C}{e:UU}{es:List UU}{pos:Pos}
theorem any_range (ks:List Bool):(Ue ks.length).any (λi=>ks.getD i false)=ks.any id:=by
 induction ks with
 | nil=>rfl
 | cons k r ih=>
  rw [U4,YB,Zi,aaH,Zi];simp only [abj];rw [<-ih];rfl
theorem Eb (hc:X.calm=true):cR X (.builtin "any") (λxs H Q=>∃(p:UA) (ks:List Bool),xs=[.ref p]/\cg X.K H p (ks.map V.bl)/\Q (.bl (ks.any id)) H):=by
 intro TN s σ H xs us Q I r h;obtain ⟨p,ks,rfl,hq,q⟩:=h;obtain ⟨u,rfl,rx⟩:=vals1 r;cases rx;obtain ⟨TR,r',pl,hz⟩:=I.list hq;have hi:=tX r';subst hi;have Su:p≠s.heap.objs.size:=by obtain ⟨o,h1,_⟩:=pl.isList;exact UE (Uq h1)
 refine call_any_walk (XN pl.isList ⟨s.heap.objs.size,_,_,_,_,_,(λi=>ks.getD i false),rfl,abS (A:=X.A.in1) (show X.A.in1.handled=none from I.ok.hd hc) s.heap.objs.size p Su (ks.map WN).toArray,⟨⟨_,Uh _ rfl,rfl,rfl⟩,acm pl.isList _⟩,?_,λh' tk k=>?_⟩)
 ·intro i v s' Q' E' hP hQ;have e:∃k,ks[i]?=some k/\v=.bool k:=by
   have hP':(ks.map WN)[i]?=some v:=by simpa using hP
   rw [UK] at hP';cases z:ks[i]? with
   | none=>rw [z] at hP';cases hP'
   | some k=>rw [z] at hP';cases hP';exact ⟨k,rfl,rfl⟩
  obtain ⟨k,e1,rfl⟩:=e;simp only at hQ;rw [VB,e1] at hQ;exact Vg hQ
 ·have sz:(ks.map WN).toArray.size=ks.length:=by simp
  rw [sz,any_range];refine ⟨.bl (ks.any id),H,?_,rfl,q⟩;refine I.kept λb o e=>k b o (λz=>?_) (T9 _ e);have:b=s.heap.objs.size:=by simpa using z
  exact absurd (this▸Uq e) (Wb _)
noncomputable def sS:List R->M R
 | [r]=>jq r >>= λxs=>match jY xs with
  | some ks=>.ok (.d (.bl (ks.any id)))
  | none=>.bad
 | _=>.bad
theorem D7:Vd "any"=some (.builtin "any"):=by decide +kernel
theorem v_ {p:Pos}{gs:G (List R)}(ha:jG X c (e::es) gs) (hm:X.mg "any"=none) (hK:X.K=c.K:=by rfl) (hc:X.calm=true:=by rfl) (hg:Gl X "any":=by rfl)
  (he:Uj (e::es) X.env=(false,eval e X.env)::Uj es X.env:=by rfl) (hpl:(Vx pos (Uj es X.env)).any (·.1)=false:=by rfl):QD X c (.Call (.Name "any" p) (e::es) [] pos) (gN sS gs):=have ha:=ha.h;⟨
 iY (Eb hc) (by
  intro He J H xs vs Q hp rs w;unfold sS at w;split at w
  ·obtain ⟨v,rfl,r⟩:=rs.one;obtain ⟨xs,q,w⟩:=je w;obtain ⟨p,vs,rfl,h1,h2⟩:=RR.list hp r q;split at w
   ·rename_i ks z;have:=pJ z h2;subst this;exact ⟨p,ks,rfl,by rw [hK];exact h1,w _ J H (Ext.refl hp.sub) (.bl _)⟩
   ·exact w.elim
  ·exact w.elim) D7 hm ha hg (by decide) (by decide) he hpl⟩
end
end DL
namespace ST
open PySem PySem.SetTable
theorem vO (xs:Array Nat) (j:Nat) (hs:xs.toList.Pairwise (· < ·)):∀(f lo hi:Nat),hi<=xs.size->lo<=hi->hi - lo<=f->(∀i,i < lo->xs.getD i 0 < j)->(∀i,hi<=i->i < xs.size->j<=xs.getD i 0)->
  below.go xs j f lo hi<=xs.size/\(∀i,i < below.go xs j f lo hi->xs.getD i 0 < j)/\∀i,below.go xs j f lo hi<=i->i < xs.size->j<=xs.getD i 0
 | 0,lo,hi,h1,h2,h3,h4,h5=>by
  have:lo=hi:=by omega
  subst this;exact ⟨h1,h4,h5⟩
 | f + 1,lo,hi,h1,h2,h3,h4,h5=>by
  have mono:∀a b,a<=b->b < xs.size->xs.getD a 0<=xs.getD b 0:=λa b hab hb=>by
   rcases abC hab with h | h
   ·have:=Vq.mp hs a b (by simpa using Xh h hb) (by simpa using hb) h;simp [V8,Xh h hb,hb] at this ⊢;omega
   ·rw [h];exact Ud _
  unfold below.go;by_cases c:lo < hi
  ·rw [if_pos c];have hm:(lo + hi) / 2 < xs.size:=by omega
   have e:xs.getD ((lo + hi) / 2) j=xs.getD ((lo + hi) / 2) 0:=by simp [V8,hm]
   by_cases d:xs.getD ((lo + hi) / 2) j < j
   ·simp only [d,if_true];rw [e] at d;exact vO xs j hs f _ hi h1 (by omega) (by omega) (λi hi'=>Yq (mono i ((lo + hi) / 2) (by omega) hm) d) h5
   ·simp only [d,if_false];rw [e] at d;exact vO xs j hs f lo _ (by omega) (by omega) (by omega) h4 (λi hi' hs'=>UC (by omega) (mono ((lo + hi) / 2) i hi' hs'))
  ·rw [if_neg c];have:lo=hi:=by omega
   subst this;exact ⟨h1,h4,h5⟩
theorem nS (xs:Array Nat) (j:Nat) (hs:xs.toList.Pairwise (· < ·)):below xs j<=xs.size/\(∀i,i < below xs j->xs.getD i 0 < j)/\∀i,below xs j<=i->i < xs.size->j<=xs.getD i 0:=
 vO xs j hs xs.size 0 xs.size (Ud _) (UD _) (by omega) (λi h=>absurd h (Vw _)) (λi h1 h2=>by omega)
theorem below_at {xs:Array Nat}(hs:xs.toList.Pairwise (· < ·)) (h:xs[i]?=some j):below xs j=i:=by
 obtain ⟨hi,e⟩:=VC.mp h;obtain ⟨b1,b2,b3⟩:=nS xs j hs;have g:xs.getD i 0=j:=by simp [V8,hi,e]
 rcases XQ (below xs j) i with c | c | c
 ·have h1:=b3 (below xs j) (Ud _) (by omega);have:=Vq.mp hs (below xs j) i (by simpa using Xh c hi) (by simpa using hi) c;simp [V8,Xh c hi] at h1;simp at this;omega
 ·exact c
 ·have:=b2 i c;omega
theorem xP {t:V5}(hs:t.place.toList.Pairwise (· < ·)) (h:t.place[i]?=some j):t.slot j=.live i:=by unfold slot;rw [below_at hs h];show (if (t.place[i]? == some j)=true then Slot.live i else _)=_;rw [h];simp
theorem Dr {t:V5}(hd:t.dummies=#[]) (h:j∉t.place.toList):t.slot j=.empty:=by
 unfold slot;have h1:(t.place[below t.place j]? == some j)=false:=by
  rw [beq_eq_false_iff_ne];intro z;exact h (by
   obtain ⟨hi,e⟩:=VC.mp z;rw [<-e];simp)
 have h2:has t.dummies j=false:=by rw [hd];rfl
 simp only [h1,h2,Um,if_false]
noncomputable def st (mask:Nat) (h:Int):Nat->Probe
 | 0=>({mask:=mask,place:=#[],dummies:=#[],finger:=0,led:=true,moves:=0,plain:=true}:V5).probeStart h
 | n + 1=>({mask:=mask,place:=#[],dummies:=#[],finger:=0,led:=true,moves:=0,plain:=true}:V5).advance (st mask h n)
abbrev pos (mask:Nat) (h:Int) (n:Nat):Nat:=(st mask h n).j
theorem tU (mask:Nat) (h:Int):∀n,(st mask h n).dummy=none
 | 0=>rfl
 | n + 1=>by
  unfold st advance;split
  ·exact tU mask h n
  ·exact tU mask h n
noncomputable def tn (mask:Nat) (h:Int):Nat->Nat×Nat
 | 0=>(bits h % (mask + 1),bits h)
 | k + 1=>leap mask (tn mask h k).1 (tn mask h k).2
theorem xJ (mask:Nat) (h:Int):∀(m n:Nat) (i p j:Nat),st mask h n={j:=j,more:=m,i:=i,perturb:=p,dummy:=none}->st mask h (n + m)={j:=j + m,more:=0,i:=i,perturb:=p,dummy:=none}
 | 0,n,i,p,j,e=>e
 | m + 1,n,i,p,j,e=>by
  have e1:st mask h (n + 1)={j:=j + 1,more:=m,i:=i,perturb:=p,dummy:=none}:=by show advance _ (st mask h n)=_;rw [e];unfold advance;simp
  have:=xJ mask h m (n + 1) i p (j + 1) e1;rw [show n + (m + 1)=n + 1 + m by omega,this];congr 1;omega
theorem B5 (mask:Nat) (h:Int):∀k,∃n,n<=10 * k/\st mask h n={j:=(tn mask h k).1,more:=runEnd mask (tn mask h k).1 - (tn mask h k).1,i:=(tn mask h k).1,perturb:=(tn mask h k).2,dummy:=none}
 | 0=>⟨0,Ud _,rfl⟩
 | k + 1=>by
  obtain ⟨n,hn,e⟩:=B5 mask h k;have hm:runEnd mask (tn mask h k).1 - (tn mask h k).1<=9:=by unfold runEnd;split <;> omega
  have:=xJ mask h _ n _ _ _ e;refine ⟨n + (runEnd mask (tn mask h k).1 - (tn mask h k).1) + 1,by omega,?_⟩;show advance _ (st mask h (n + (runEnd mask (tn mask h k).1 - (tn mask h k).1)))=_;rw [this];unfold advance;simp;exact ⟨rfl,rfl,rfl,rfl⟩
theorem vj (mask:Nat) (h:Int):∀k,(tn mask h k).2=bits h / 32 ^ k
 | 0=>by simp [tn]
 | k + 1=>by show (tn mask h k).2 / 32=_;rw [vj mask h k,aan,Y3]
theorem JI (h:Int):bits h < 2 ^ 64:=by unfold bits;have:=Yt h (b:=2 ^ 64) (by decide);omega
def ET (mask i:Nat):Nat:=(i * 5 + 1) % (mask + 1)
noncomputable def iG (mask:Nat):Nat->Nat->Nat
 | 0,i=>i
 | r + 1,i=>ET mask (iG mask r i)
theorem AB (mask:Nat) (h:Int):∀r,(tn mask h (12 + r)).1=iG mask r (tn mask h 12).1
 | 0=>rfl
 | r + 1=>by
  show (leap mask (tn mask h (12 + r)).1 (tn mask h (12 + r)).2).1=ET mask (iG mask r (tn mask h 12).1);rw [<-AB mask h r,vj];unfold leap ET;have:bits h / 32 ^ (12 + r) / 32=0:=by rw [aan,<-Y3];refine Nat.div_eq_of_lt (UG (JI h) ?_);refine UC (show 2 ^ 64<=32 ^ 13 by decide) (U3 (by decide) (by omega))
  rw [this]
theorem Py:∀i:Fin 8,∀j:Fin 8,(Ue 8).any (λr=>iG 7 r i.val == j.val)=true:=by decide +kernel
theorem Ob:∀i:Fin 32,∀j:Fin 32,(Ue 32).any (λr=>iG 31 r i.val == j.val)=true:=by decide +kernel
def Mg:List Nat:=(Ue 128).map λr=>iG 127 r 0
theorem Bk:∀j:Fin 128,Mg.contains j.val=true:=by decide +kernel
theorem JL:iG 127 128 0=0:=by decide +kernel
theorem n9 (mask:Nat):∀a b i,iG mask (a + b) i=iG mask a (iG mask b i)
 | 0,b,i=>by rw [Y4];rfl
 | a + 1,b,i=>by rw [show a + 1 + b=(a + b) + 1 by omega];show ET mask (iG mask (a + b) i)=ET mask (iG mask a (iG mask b i));rw [n9 mask a b i]
def pg (mask:Nat):Prop:=mask=7\/mask=31\/mask=127
theorem Ep {mask:Nat}(hm:pg mask) (i j:Nat) (hi:i<=mask) (hj:j<=mask):∃r,r<=mask/\iG mask r i=j:=by
 rcases hm with rfl | rfl | rfl
 ·have:=Py ⟨i,by omega⟩ ⟨j,by omega⟩;rw [Vn] at this;obtain ⟨r,h1,h2⟩:=this;exact ⟨r,by have:=UQ.mp h1;omega,by simpa using h2⟩
 ·have:=Ob ⟨i,by omega⟩ ⟨j,by omega⟩;rw [Vn] at this;obtain ⟨r,h1,h2⟩:=this;exact ⟨r,by have:=UQ.mp h1;omega,by simpa using h2⟩
 ·have hi':=Bk ⟨i,by omega⟩;have hj':=Bk ⟨j,by omega⟩;rw [List.contains_iff_mem] at hi' hj';obtain ⟨a,ha,ea⟩:=Ui.mp hi';obtain ⟨b,hb,eb⟩:=Ui.mp hj';have ha:=UQ.mp ha;have hb:=UQ.mp hb;have ea:iG 127 a 0=i:=ea;have eb:iG 127 b 0=j:=eb;by_cases c:a<=b
  ·refine ⟨b - a,by omega,?_⟩;rw [<-ea,<-n9,show b - a + a=b by omega];exact eb
  ·refine ⟨128 + b - a,by omega,?_⟩;rw [<-ea,<-n9,show 128 + b - a + a=b + 128 by omega,n9,JL];exact eb
theorem DA (mask:Nat) (h:Int) (k:Nat):(tn mask h k).1<=mask:=by
 cases k with
 | zero=>exact YN (aaY _ (by omega))
 | succ k=>exact YN (aaY _ (by omega))
theorem visits {mask:Nat}(hm:pg mask) (h:Int) (j:Nat) (hj:j<=mask):∃n,n<=10 * (mask + 12)/\pos mask h n=j:=by obtain ⟨r,hr,e⟩:=Ep hm (tn mask h 12).1 j (DA mask h 12) hj;obtain ⟨n,hn,q⟩:=B5 mask h (12 + r);refine ⟨n,by omega,?_⟩;show (st mask h n).j=j;rw [q];show (tn mask h (12 + r)).1=j;rw [AB,e]
theorem CB {mask:Nat}(hm:pg mask) (h:Int) (P:List Nat) (hP:P.length<=mask):∃n,n<=10 * (mask + 12)/\pos mask h n∉P/\∀m,m < n->pos mask h m∈P:=by
 have ex:∃j,j<=mask/\j∉P:=by
  by_cases c:∀j,j<=mask->j∈P
  ·exfalso;have:(Ue (mask + 1)).length<=P.length:=VG Xq λj hj=>c j (by have:=UQ.mp hj;omega);rw [WC] at this;omega
  ·exact W3 λz=>c λj hj=>W3 λy=>z ⟨j,hj,y⟩
 obtain ⟨j,hj,hn⟩:=ex;obtain ⟨n,hn1,hn2⟩:=visits hm h j hj;have key:∀k,k<=n->(∃m,m<=k/\pos mask h m∉P/\∀m',m' < m->pos mask h m'∈P)\/∀m,m<=k->pos mask h m∈P:=by
  intro k
  induction k with
  | zero=>
   intro _;by_cases c:pos mask h 0∈P
   ·exact .inr λm hm=>by rw [show m=0 by omega];exact c
   ·exact .inl ⟨0,Ud _,c,λm' h'=>absurd h' (Vw _)⟩
  | succ k ih=>
   intro hk;rcases ih (by omega) with ⟨m,h1,h2⟩ | h1
   ·exact .inl ⟨m,by omega,h2⟩
   ·by_cases c:pos mask h (k + 1)∈P
    ·exact .inr λm hm=>by
      by_cases d:m<=k
      ·exact h1 m d
      ·rw [show m=k + 1 by omega];exact c
    ·exact .inl ⟨k + 1,Ud _,c,λm' h'=>h1 m' (by omega)⟩
 rcases key n (Ud _) with ⟨m,h1,h2,h3⟩ | h1
 ·exact ⟨m,by omega,h2,h3⟩
 ·exact absurd (h1 n (Ud _)) (by rw [hn2];exact hn)
def Reach (mask:Nat) (P:List Nat) (h:Int) (j:Nat):Prop:=∃n,pos mask h n=j/\∀m,m < n->pos mask h m∈P
theorem Reach.mono {mask:Nat}{P P':List Nat}{h:Int}{j:Nat}(r:Reach mask P h j) (s:∀x∈P,x∈P'):Reach mask P' h j:=
 let ⟨n,h1,h2⟩:=r;⟨n,h1,λm hm=>s _ (h2 m hm)⟩
structure Tab (t:V5) (es:Array (Int×T7)) (L:List (Nat×Int×T7)):Prop where
 dm:t.dummies=#[]
 pl:t.place.toList=L.map (·.1)
 en:es.toList=L.map (·.2)
 so:(L.map (·.1)).Pairwise (· < ·)
 bd:∀e∈L,e.1<=t.mask
 mo:pg t.mask
 fl:L.length<=t.mask
 pr:∀e∈L,Reach t.mask (L.map (·.1)) e.2.1 e.1
section
variable {t:V5}{es:Array (Int×T7)}{L:List (Nat×Int×T7)}
theorem Tab.at_ (T:Tab t es L){i:Nat}{e:Nat×Int×T7}(h:L[i]?=some e):t.place[i]?=some e.1/\es[i]?=some e.2:=by
 constructor
 ·rw [<-Vv,T.pl,UK,h];rfl
 ·rw [<-Vv,T.en,UK,h];rfl
theorem Tab.sop (T:Tab t es L):t.place.toList.Pairwise (· < ·):=by rw [T.pl];exact T.so
theorem Ah (T:Tab t es L) (hashAt:Nat->Int) (hA:∀i e,es[i]?=some e->hashAt i=e.1) (h:Int) (n0:Nat) (hf:pos t.mask h n0∉L.map (·.1)) (hb:∀m,m < n0->pos t.mask h m∈L.map (·.1)):
  ∀(d n F:Nat),n0 - n=d->n<=n0->d < F->∃m,n<=m/\m<=n0/\(∀k,n<=k->k < m->∀e∈L,e.1=pos t.mask h k->e.2.1≠h)/\
   ((m=n0/\probe.go t hashAt h F (st t.mask h n)=some (.empty (pos t.mask h n0) none))\/(m < n0/\∃i e,L[i]?=some e/\e.1=pos t.mask h m/\e.2.1=h/\probe.go t hashAt h F (st t.mask h n)=some (.candidate (pos t.mask h m) i (st t.mask h (m + 1)))))
 | d,n,0,_,_,h=>absurd h (Vw _)
 | d,n,F + 1,hd,hn,hF=>by
  by_cases c:n=n0
  ·subst c;refine ⟨n,Ud _,Ud _,λk h1 h2=>by omega,.inl ⟨rfl,?_⟩⟩;unfold probe.go;rw [Dr T.dm (by rw [T.pl];exact hf)];show some (Met.empty _ (st t.mask h n).dummy)=_;rw [tU]
  ·obtain ⟨e,he,ej⟩:=Ui.mp (hb n (by omega));obtain ⟨i,hi,rfl⟩:=VD.mp he;have hL:L[i]?=some L[i]:=Uk hi;obtain ⟨p1,p2⟩:=T.at_ hL;have hs:t.slot (pos t.mask h n)=.live i:=xP T.sop (by rw [p1,ej]);have hh:=hA i _ p2;have uniq:∀e∈L,e.1=pos t.mask h n->e=L[i]:=λe he q=>by
    obtain ⟨k,hk,rfl⟩:=VD.mp he;have:k=i:=by
     have sw:=Vq.mp T.so;rcases XQ k i with c | c | c
     ·have:=sw k i (by simpa using hk) (by simpa using hi) c;simp at this;omega
     ·exact c
     ·have:=sw i k (by simpa using hi) (by simpa using hk) c;simp at this;omega
    subst this;rfl
   by_cases q:L[i].2.1=h
   ·refine ⟨n,Ud _,by omega,λk h1 h2=>by omega,.inr ⟨by omega,i,L[i],hL,ej,q,?_⟩⟩;unfold probe.go;rw [hs];show (if (hashAt i == h)=true then _ else _)=_;rw [hh,q,if_pos (by simp)];rfl
   ·obtain ⟨m,m1,m2,m3,m4⟩:=Ah T hashAt hA h n0 hf hb (n0 - (n + 1)) (n + 1) F rfl (by omega) (by omega);have eg:probe.go t hashAt h (F + 1) (st t.mask h n)=probe.go t hashAt h F (st t.mask h (n + 1)):=by rw [probe.go,hs];show (if (hashAt i == h)=true then _ else _)=_;rw [hh,if_neg (by simpa using q)];rfl
    rw [eg];refine ⟨m,by omega,m2,λk h1 h2 e he' ek=>?_,m4⟩;by_cases z:k=n
    ·subst z;rw [uniq e he' ek];exact q
    ·exact m3 k (by omega) h2 e he' ek
theorem oV {α:Type}(xs:Array α) (p:Nat) (x:α) (hp:p<=xs.size):(insertAt xs p x).toList=xs.toList.take p++x::xs.toList.drop p:=by
 unfold insertAt;simp
 (exact aao (by simp))
theorem Tab.put (T:Tab t es L) (h:Int) (x:T7) (n0:Nat) (hf:pos t.mask h n0∉L.map (·.1)) (hb:∀m,m < n0->pos t.mask h m∈L.map (·.1)) (hj:pos t.mask h n0<=t.mask) (hl:L.length + 1<=t.mask):
  ∃L',Tab (t.put (pos t.mask h n0)).1 (insertAt es (t.put (pos t.mask h n0)).2 (h,x)) L'/\L'.Perm ((pos t.mask h n0,h,x)::L):=by
 obtain ⟨b1,b2,b3⟩:=nS t.place (pos t.mask h n0) T.sop;generalize hp:below t.place (pos t.mask h n0)=p at b1 b2 b3;have hsz:t.place.size=L.length:=by rw [<-Ux,T.pl,T8]
 have hes:es.size=L.length:=by rw [<-Ux,T.en,T8]
 have perm:(L.take p++(pos t.mask h n0,h,x)::L.drop p).Perm ((pos t.mask h n0,h,x)::L):=by
  have:=acn (a:=(pos t.mask h n0,h,x)) (l₁:=L.take p) (l₂:=L.drop p)
  rwa [aaI] at this
 have e1:(t.put (pos t.mask h n0))=({t with place:=insertAt t.place p (pos t.mask h n0),dummies:=#[]},p):=by unfold SetTable.put;rw [hp,T.dm];rfl
 rw [e1];have getP:∀i (hi:i < L.length),t.place.getD i 0=L[i].1:=λi hi=>by
  have:=(T.at_ (Uk hi)).1;have hi':i < t.place.size:=by omega
  simp [V8,hi'];rw [Wg hi'] at this;exact Vl this
 refine ⟨L.take p++(pos t.mask h n0,h,x)::L.drop p,⟨rfl,?_,?_,?_,λe he=>?_,T.mo,?_,λe he=>?_⟩,perm⟩
 ·show (insertAt t.place p (pos t.mask h n0)).toList=_;rw [oV _ _ _ b1,T.pl];simp [Zk,Z9]
 ·show (insertAt es p (h,x)).toList=_;rw [oV _ _ _ (by omega),T.en];simp [Zk,Z9]
 ·rw [Us,Ur,VE];refine ⟨?_,?_,?_⟩
  ·rw [Zk];exact T.so.sublist (YF _ _)
  ·rw [WV];refine ⟨λa ha=>?_,?_⟩
   ·obtain ⟨e,he,rfl⟩:=Ui.mp ha;obtain ⟨i,hi,rfl⟩:=VD.mp he;rw [abW];rw [Wn] at hi;have:=b3 (p + i) (by omega) (by omega);rw [getP _ (by omega)] at this;rcases abC this with c | c
    ·exact c
    ·exact absurd (Ui.mpr ⟨L[p + i],Vm _,c.symm⟩) hf
   ·rw [Z9];exact T.so.sublist (List.drop_sublist _ _)
  ·intro a ha b hb;obtain ⟨e,he,rfl⟩:=Ui.mp ha;obtain ⟨i,hi,rfl⟩:=VD.mp he;rw [List.getElem_take];rw [Vf] at hi;have h1:=b2 i (by omega);rw [getP _ (by omega)] at h1
   (rcases Uw.mp hb with rfl | hb)
   ·exact h1
   ·obtain ⟨e,he,rfl⟩:=Ui.mp hb;obtain ⟨k,hk,rfl⟩:=VD.mp he;rw [abW];rw [Wn] at hk;have:=b3 (p + k) (by omega) (by omega);rw [getP _ (by omega)] at this;omega
 ·rcases Uw.mp (perm.mem_iff.mp he) with rfl | he
  ·exact hj
  ·exact T.bd e he
 ·rw [perm.length_eq];exact hl
 ·have sub:∀y∈L.map (·.1),y∈(L.take p++(pos t.mask h n0,h,x)::L.drop p).map (·.1):=λy hy=>by obtain ⟨e,he,rfl⟩:=Ui.mp hy;exact Ui.mpr ⟨e,perm.mem_iff.mpr (Ua _ he),rfl⟩
  rcases Uw.mp (perm.mem_iff.mp he) with rfl | he
  ·exact ⟨n0,rfl,λm hm=>sub _ (hb m hm)⟩
  ·exact (T.pr e he).mono sub
end
theorem nK (mask:Nat) (h:Int) (n i p m:Nat) (e:st mask h n={j:=i,more:=m,i:=i,perturb:=p,dummy:=none}):∀r,r<=m->st mask h (n + r)={j:=i + r,more:=m - r,i:=i,perturb:=p,dummy:=none}
 | 0,_=>e
 | r + 1,hr=>by show advance _ (st mask h (n + r))=_;rw [nK mask h n i p m e r (by omega)];unfold advance;rw [if_pos (by show m - r > 0;omega)];show Probe.mk _ _ _ _ _=_;congr 1
theorem F_ (mask:Nat) (h:Int) (k n:Nat) (e:st mask h n={j:=(tn mask h k).1,more:=runEnd mask (tn mask h k).1 - (tn mask h k).1,i:=(tn mask h k).1,perturb:=(tn mask h k).2,dummy:=none}):
  st mask h (n + (runEnd mask (tn mask h k).1 - (tn mask h k).1) + 1)={j:=(tn mask h (k + 1)).1,more:=runEnd mask (tn mask h (k + 1)).1 - (tn mask h (k + 1)).1,i:=(tn mask h (k + 1)).1,perturb:=(tn mask h (k + 1)).2,dummy:=none}:=by show advance _ (st mask h (n + (runEnd mask (tn mask h k).1 - (tn mask h k).1)))=_;rw [nK mask h n _ _ _ e _ (Ud _)];unfold advance;simp;exact ⟨rfl,rfl,rfl,rfl⟩
theorem wZ (mask:Nat) (h:Int) (owner:Array (Option Nat)) (G:List Nat) (ho:∀j,j<=mask->((owner.getD j (some 0)).isNone=true↔j∉G)):
  ∀(f k n:Nat),st mask h n={j:=(tn mask h k).1,more:=runEnd mask (tn mask h k).1 - (tn mask h k).1,i:=(tn mask h k).1,perturb:=(tn mask h k).2,dummy:=none}->(∀m,m < n->pos mask h m∈G)->
   (∃n',layClean.free mask owner f (tn mask h k).1 (tn mask h k).2=some (pos mask h n')/\pos mask h n'<=mask/\pos mask h n'∉G/\∀m,m < n'->pos mask h m∈G)\/(layClean.free mask owner f (tn mask h k).1 (tn mask h k).2=none/\∀r,r < f->(tn mask h (k + r)).1∈G)
 | 0,k,n,e,hb=>.inr ⟨rfl,λr hr=>absurd hr (Vw _)⟩
 | f + 1,k,n,e,hb=>by
  have hi:=DA mask h k;have re:runEnd mask (tn mask h k).1<=mask/\(tn mask h k).1<=runEnd mask (tn mask h k).1:=by unfold runEnd;split <;> omega
  unfold layClean.free;cases q:(Ue (runEnd mask (tn mask h k).1 + 1 - (tn mask h k).1)).find? λr=>(owner.getD ((tn mask h k).1 + r) (some 0)).isNone with
  | some r=>
   have h1:=List.find?_some q;have h2:=UQ.mp (List.mem_of_find?_eq_some q);have h3:pos mask h (n + r)=(tn mask h k).1 + r:=by show (st mask h (n + r)).j=_;rw [nK mask h n _ _ _ e r (by omega)]
   refine .inl ⟨n + r,?_,?_,?_,?_⟩
   ·show some _=_;rw [h3]
   ·rw [h3];omega
   ·rw [h3];exact (ho _ (by omega)).mp h1
   ·intro m hm;by_cases c:m < n
    ·exact hb m c
    ·obtain ⟨s,rfl⟩:∃s,m=n + s:=⟨m - n,by omega⟩;have h4:pos mask h (n + s)=(tn mask h k).1 + s:=by show (st mask h (n + s)).j=_;rw [nK mask h n _ _ _ e s (by omega)]
     rw [h4];refine W3 λz=>?_;have z':=(ho ((tn mask h k).1 + s) (by omega)).mpr z;rw [List.find?_eq_some_iff_append] at q;obtain ⟨_,as,bs,eq,hall⟩:=q;have hs:s∈as:=by
      have hlen:as.length=r:=by
       have hl:as.length < (Ue (runEnd mask (tn mask h k).1 + 1 - (tn mask h k).1)).length:=by rw [eq];simp
       have e3:(Ue (runEnd mask (tn mask h k).1 + 1 - (tn mask h k).1))[as.length]?=some r:=by rw [eq];simp
       rw [WC] at hl;rw [Yd hl] at e3;exact Vl e3
      have e4:(Ue (runEnd mask (tn mask h k).1 + 1 - (tn mask h k).1))[s]?=some s:=Yd (by omega);rw [eq,Wc (by omega)] at e4;exact UX e4
     have:=hall s hs;rw [z'] at this;exact absurd this (by decide)
  | none=>
   have hall:=abD.mp q;have occ:∀s,s<=runEnd mask (tn mask h k).1 - (tn mask h k).1->(tn mask h k).1 + s∈G:=λs hs=>W3 λz=>by have z':=(ho ((tn mask h k).1 + s) (by omega)).mpr z;exact hall s (UQ.mpr (by omega)) z'
   have nb:∀m,m < n + (runEnd mask (tn mask h k).1 - (tn mask h k).1) + 1->pos mask h m∈G:=λm hm=>by
    by_cases c:m < n
    ·exact hb m c
    ·obtain ⟨s,rfl⟩:∃s,m=n + s:=⟨m - n,by omega⟩;have h4:pos mask h (n + s)=(tn mask h k).1 + s:=by show (st mask h (n + s)).j=_;rw [nK mask h n _ _ _ e s (by omega)]
     rw [h4];exact occ s (by omega)
   rcases wZ mask h owner G ho f (k + 1) _ (F_ mask h k n e) nb with ⟨n',g1,g2',g3⟩ | ⟨g1,g2'⟩
   ·exact .inl ⟨n',g1,g2',g3⟩
   ·refine .inr ⟨g1,λr hr=>?_⟩;cases r with
    | zero=>have:=occ 0 (UD _);exact this
    | succ r=>have:=g2' r (by omega);rwa [show k + (r + 1)=k + 1 + r by omega]
theorem JV {mask:Nat}(hm:pg mask) (h:Int) (owner:Array (Option Nat)) (G:List Nat) (hG:G.length<=mask) (ho:∀j,j<=mask->((owner.getD j (some 0)).isNone=true↔j∉G)):
  ∃n',layClean.free mask owner (turns mask) (bits h % (mask + 1)) (bits h)=some (pos mask h n')/\pos mask h n'<=mask/\pos mask h n'∉G/\∀m,m < n'->pos mask h m∈G:=by
 rcases wZ mask h owner G ho (turns mask) 0 0 rfl (λm hm=>absurd hm (Vw _)) with a | ⟨_,b⟩
 ·exact a
 ·exfalso;have all:∀j,j<=mask->j∈G:=λj hj=>by obtain ⟨r,hr,e⟩:=Ep hm (tn mask h 12).1 j (DA mask h 12) hj;have:=b (12 + r) (by unfold turns;omega);rw [Y4,AB,e] at this;exact this
  have:(Ue (mask + 1)).length<=G.length:=VG Xq λj hj=>all j (by have:=UQ.mp hj;omega);rw [WC] at this;omega
structure Own (mask:Nat) (owner:Array (Option Nat)) (G:List Nat) (hs:List Int):Prop where
 sz:owner.size=mask + 1
 ln:G.length=hs.length
 nd:G.Nodup
 bd:∀j∈G,j<=mask
 at_:∀j,j<=mask->owner.getD j none=if j∈G then some (G.idxOf j) else none
 pr:∀k (h1:k < G.length) (h2:k < hs.length),Reach mask G hs[k] G[k]
theorem Own.occ {mask:Nat}{owner:Array (Option Nat)}{G:List Nat}{hs:List Int}(O:Own mask owner G hs):∀j,j<=mask->((owner.getD j (some 0)).isNone=true↔j∉G):=λj hj=>by
 have e:owner.getD j (some 0)=owner.getD j none:=by
  have:j < owner.size:=by rw [O.sz];omega
  simp [V8,this]
 rw [e,O.at_ j hj];split <;> simp_all
theorem Own.step {mask:Nat}{owner:Array (Option Nat)}{G:List Nat}{hs:List Int}(O:Own mask owner G hs) (hm:pg mask) (hl:hs.length<=mask) (h:Int):
  ∃j,layClean.free mask owner (turns mask) (bits h % (mask + 1)) (bits h)=some j/\Own mask (owner.setIfInBounds j (some hs.length)) (G++[j]) (hs++[h]):=by
 obtain ⟨n',e,b,f,r⟩:=JV hm h owner G (by rw [O.ln];exact hl) O.occ;refine ⟨_,e,⟨by rw [Array.size_setIfInBounds,O.sz],by simp [O.ln],?_,λj hj=>?_,λj hj=>?_,λk h1 h2=>?_⟩⟩
 ·rw [XR];refine ⟨O.nd,by simp,λa ha b hb=>?_⟩;rw [Ul] at hb;subst hb;intro z;subst z;exact f ha
 ·rcases UI.mp hj with h1 | h1
  ·exact O.bd j h1
  ·rw [Ul.mp h1];exact b
 ·have hsz:j < owner.size:=by rw [O.sz];omega
  by_cases c:j=pos mask h n'
  ·subst c;rw [if_pos (by simp)];simp [V8,hsz];rw [abX,if_neg f];simp [O.ln]
  ·have e1:(owner.setIfInBounds (pos mask h n') (some hs.length)).getD j none=owner.getD j none:=by simp [V8,hsz];rw [Array.getElem_setIfInBounds_ne];exact λz=>c z.symm
   rw [e1,O.at_ j hj];by_cases d:j∈G
   ·rw [if_pos d,if_pos (XW _ d),abX,if_pos d]
   ·rw [if_neg d,if_neg (by simp [d,c])]
 ·have sub:∀x∈G,x∈G++[pos mask h n']:=λx hx=>XW _ hx;by_cases c:k < G.length
  ·have:=(O.pr k c (by rw [<-O.ln];exact c)).mono sub;rw [ZY c,ZY (by rw [<-O.ln];exact c)];exact this
  ·have hk:k=G.length:=by simp at h1;omega
   subst hk;have e1:(G++[pos mask h n'])[G.length]=pos mask h n':=by simp
   have e2:(hs++[h])[G.length]=h:=by simp [O.ln]
   rw [e1,e2];exact ⟨n',rfl,λm hm=>sub _ (r m hm)⟩
theorem zV {mask:Nat}(hm:pg mask):∀(rest hs:List Int) (owner:Array (Option Nat)) (G:List Nat),Own mask owner G hs->(hs++rest).length<=mask->∃owner' G',rest.foldl (λacc h=>do
  let (owner,k) <-acc
  let j <-layClean.free mask owner (turns mask) (bits h % (mask + 1)) (bits h)
  pure (owner.setIfInBounds j (some k),k + 1)) (some (owner,hs.length))=some (owner',(hs++rest).length)/\Own mask owner' G' (hs++rest)
 | [],hs,owner,G,O,_=>⟨owner,G,by simp,by simpa using O⟩
 | h::rest,hs,owner,G,O,hl=>by
  obtain ⟨j,e,O'⟩:=O.step hm (by simp at hl;omega) h;obtain ⟨owner',G',e2,O2⟩:=zV hm rest (hs++[h]) _ _ O' (by simpa using hl);refine ⟨owner',G',?_,by simpa using O2⟩;rw [aaB];have e3:(do
   let (owner,k) <-some (owner,hs.length)
   let j <-layClean.free mask owner (turns mask) (bits h % (mask + 1)) (bits h)
   pure (owner.setIfInBounds j (some k),k + 1):Option (Array (Option Nat)×Nat))=some (owner.setIfInBounds j (some hs.length),(hs++[h]).length):=by show Option.bind (layClean.free mask owner (turns mask) (bits h % (mask + 1)) (bits h)) _=_;rw [e];simp
  rw [e3];simpa using e2
theorem KA (mask:Nat):Own mask (Array.replicate (mask + 1) none) [] []:=
 ⟨by simp,rfl,Wz,λj h=>absurd h (by simp),λj hj=>by simp [V8],λk h1=>absurd h1 (by simp)⟩
theorem MO {mask:Nat}(hm:pg mask) (hs:Array Int) (hl:hs.size<=mask):∃owner G,layClean mask hs=some owner/\Own mask owner G hs.toList:=by obtain ⟨owner,G,e,O⟩:=zV hm hs.toList [] _ [] (KA mask) (by simpa using hl);refine ⟨owner,G,?_,by simpa using O⟩;unfold layClean;rw [<-Array.foldl_toList];have e':=congrArg (Option.map (·.1)) e;exact e'
theorem Kg {t:V5}{es:Array (Int×T7)}{mask:Nat}(hm:pg mask) (finger moves:Nat) (led plain:Bool) (hl:es.size<=mask):
  ∃t' T3 L',laid mask finger moves led plain (es.map (·.1))=some (t',T3)/\t'.mask=mask/\t'.led=led/\t'.plain=plain/\Tab t' (T3.filterMap (es[·]?)) L'/\(T3.filterMap (es[·]?)).toList.Perm es.toList:=by
 obtain ⟨owner,G,e,O⟩:=MO hm (es.map (·.1)) (by simpa using hl);have hlen:G.length=es.size:=by rw [O.ln];simp
 (let live:=(Ue (mask + 1)).filterMap λj=>(owner.getD j none).map (j,·))
 have lv:∀p,p∈live↔p.1∈G/\p.2=G.idxOf p.1:=λp=>by
  show p∈(Ue (mask + 1)).filterMap _↔_;rw [WS];constructor
  ·rintro ⟨j,hj,q⟩;have hj':j<=mask:=by have:=UQ.mp hj;omega
   rw [O.at_ j hj'] at q;by_cases c:j∈G
   ·rw [if_pos c] at q;have q:(j,G.idxOf j)=p:=by simpa using q
    subst q;exact ⟨c,rfl⟩
   ·rw [if_neg c] at q;exact absurd q (by simp)
  ·rintro ⟨h1,h2⟩;refine ⟨p.1,UQ.mpr (by have:=O.bd _ h1;omega),?_⟩;rw [O.at_ _ (O.bd _ h1),if_pos h1];show some (p.1,G.idxOf p.1)=some p;rw [<-h2]
 have so1:live.Pairwise λa b=>a.1 < b.1:=by
  show ((Ue (mask + 1)).filterMap _).Pairwise _;rw [List.pairwise_filterMap];refine List.pairwise_lt_range.imp ?_;intro a b hab x hx y hy;cases q1:owner.getD a none with
  | none=>rw [q1] at hx;exact absurd hx (by simp)
  | some k1=>cases q2:owner.getD b none with
   | none=>rw [q2] at hy;exact absurd hy (by simp)
   | some k2=>
    rw [q1] at hx;rw [q2] at hy;have hx:(a,k1)=x:=by simpa using hx
    have hy:(b,k2)=y:=by simpa using hy
    subst hx;subst hy;exact hab
 have ord:(live.map (·.2)).Perm (Ue es.size):=by
  rw [List.perm_ext_iff_of_nodup _ Xq]
  ·intro k;rw [Ui,UQ];constructor
   ·rintro ⟨p,hp,rfl⟩;obtain ⟨h1,h2⟩:=(lv p).mp hp;rw [h2,<-hlen];exact WK h1
   ·intro hk;rw [<-hlen] at hk;exact ⟨(G[k],k),(lv _).mpr ⟨Vm _,(O.nd.idxOf_getElem k hk).symm⟩,rfl⟩
  ·show (live.map (·.2)).Pairwise _;rw [Xc];refine (Y5.mp so1).imp ?_;rintro a b ⟨ha,hb,hab⟩ z;obtain ⟨a1,a2⟩:=(lv a).mp ha;obtain ⟨b1,b2⟩:=(lv b).mp hb;rw [a2,b2] at z;have ga:=ZK (WK a1);have gb:=ZK (WK b1);have:a.1=b.1:=by rw [<-ga,<-gb];congr 1
   omega
 have inR:∀p∈live,∃h:p.2 < es.size,True:=λp hp=>by have:p.2∈live.map (·.2):=Ui.mpr ⟨p,hp,rfl⟩;exact ⟨UQ.mp (ord.mem_iff.mp this),trivial⟩
 let L':=live.map λp=>(p.1,es.getD p.2 default)
 have eL:(live.map (·.2)).toArray.filterMap (es[·]?)=(L'.map (·.2)).toArray:=by
  rw [List.filterMap_toArray];congr 1;show ada _ (live.map _)=(live.map _).map _;rw [abu,UM];have:∀(l:List (Nat×Nat)),(∀p∈l,p∈live)->ada ((λx=>es[x]?) ∘ λx=>x.snd) l=aeE ((λx=>x.snd) ∘ λp=>(p.fst,es.getD p.snd default)) l:=by
   intro l
   induction l with
   | nil=>intro _;rfl
   | cons p l ih=>
    intro hl;obtain ⟨hp,_⟩:=inR p (hl p (by simp));rw [List.filterMap_cons_some (b:=es.getD p.2 default)]
    ·rw [Ur,ih λq hq=>hl q (by simp [hq])];rfl
    ·show es[p.2]?=_;simp [V8,hp]
  exact this live λp hp=>hp
 have eP:L'.map (·.1)=live.map (·.1):=by show (live.map _).map _=_;rw [UM];rfl
 have memP:∀j,j∈live.map (·.1)↔j∈G:=λj=>by
  rw [Ui];constructor
  ·rintro ⟨p,hp,rfl⟩;exact ((lv p).mp hp).1
  ·intro h;exact ⟨(j,G.idxOf j),(lv _).mpr ⟨h,rfl⟩,rfl⟩
 have lenL:L'.length=es.size:=by have:=ord.length_eq;rw [T8,WC] at this;show (live.map _).length=_;rw [T8,this]
 refine ⟨{mask,place:=(live.map (·.1)).toArray,dummies:=#[],finger,led,moves,plain},(live.map (·.2)).toArray,L',?_,rfl,rfl,rfl,⟨rfl,?_,?_,?_,λx hx=>?_,hm,?_,λx hx=>?_⟩,?_⟩
 ·unfold laid;rw [e];rfl
 ·show (live.map (·.1)).toArray.toList=_;rw [eP]
 ·rw [eL]
 ·rw [eP,Xc];exact so1
 ·obtain ⟨p,hp,rfl⟩:=Ui.mp hx;exact O.bd _ ((lv p).mp hp).1
 ·show L'.length<=mask;rw [lenL];exact hl
 ·obtain ⟨p,hp,rfl⟩:=Ui.mp hx;obtain ⟨h1,h2⟩:=(lv p).mp hp;obtain ⟨hs,_⟩:=inR p hp;have r:=O.pr p.2 (by omega) (by simpa using hs);have e1:G[p.2]'(by omega)=p.1:=by have:=ZK (WK h1);rw [<-this];congr 1
  have e2:((es.map (·.1)).toList[p.2]'(by simpa using hs))=(es.getD p.2 default).1:=by simp [V8,hs]
  rw [e1,e2] at r;show Reach mask (L'.map (·.1)) (es.getD p.2 default).1 p.1;refine r.mono λy hy=>?_;rw [eP];exact (memP y).mpr hy
 ·rw [eL];show (L'.map (·.2)).Perm es.toList;have e1:(live.map (·.2)).map (λk=>es.getD k default)=L'.map (·.2):=by show _=(live.map _).map _;rw [UM,UM];rfl
  rw [<-e1];refine (ord.map _).trans ?_;have:(Ue es.size).map (λk=>es.getD k default)=es.toList:=by refine Zd (by simp) λi h1 h2=>?_;simp at h1;simp [V8,h1]
  rw [this]
theorem FH {t:V5}{es:Array (Int×T7)}(hm:pg (sizeAbove w - 1)) (hl:es.size<=sizeAbove w - 1):
  ∃t' T3 L',t.relaid (es.map (·.1)) w=some (t',T3)/\t'.mask=sizeAbove w - 1/\t'.led=t.led/\t'.plain=t.plain/\Tab t' (T3.filterMap (es[·]?)) L'/\(T3.filterMap (es[·]?)).toList.Perm es.toList:=
 Kg (t:=t) hm t.finger (t.movedTo (sizeAbove w - 1)) t.led t.plain hl
end ST
namespace DL
open PySem PySem.Spec PyProof.Rows L2
mutual
noncomputable def kG:D->Nat
 | .int _=>1
 | .tup xs=>fM xs + 1
 | _=>0
noncomputable def fM:List D->Nat
 | []=>0
 | x::xs=>kG x + fM xs
end
theorem rM:∀{ds:List D},areKeys ds=true->∀d∈ds,isKey d=true
 | [],_,_,h=>nomatch h
 | x::xs,h,d,hm=>by
  unfold areKeys at h;rw [Ub] at h
  (rcases Uw.mp hm with rfl | hm)
  ·exact h.1
  ·exact rM h.2 d hm
mutual
theorem zT:∀{d e:D},isKey d=true->isKey e=true->bq d e=true->d=e
 | .int i,.int j,_,_,h=>by simp [bq] at h;rw [h]
 | .tup xs,.tup ys,hd,he,h=>by unfold isKey at hd he;simp only [bq] at h;rw [keys_eq hd he h]
 | .int _,.tup _,_,_,h=>by simp [bq] at h
 | .tup _,.int _,_,_,h=>by simp [bq] at h
theorem keys_eq:∀{ds es:List D},areKeys ds=true->areKeys es=true->cB ds es=true->ds=es
 | [],[],_,_,_=>rfl
 | x::xs,y::ys,hd,he,h=>by unfold areKeys at hd he;rw [Ub] at hd he;simp only [cB,Ub] at h;rw [zT hd.1 he.1 h.1,keys_eq hd.2 he.2 h.2]
 | [],_::_,_,_,h=>by simp [cB] at h
 | _::_,[],_,_,h=>by simp [cB] at h
end
theorem vS (hd:isKey d=true) (he:isKey e=true):bq d e=true↔d=e:=⟨zT hd he,λh=>by rw [h];exact gn _⟩
section
variable {prog:Uv}{w:US}{E:T7->T_->Prop}{K:T5}{J:Hp}
noncomputable def DM (prog:Uv) (w:US) (A:UW) (K:T5) (J:Hp) (d:D) (u:T7):Prop:=
 ∀(E:T7->T_->Prop) (s:T_) (Q:Int->T_->Prop),HF K J s->Q (bZ d) {s with toks:=s.toks + kG d}->Uu (UB prog w) A (pyHash u) Q E s
inductive kQ (prog:Uv) (w:US) (A:UW) (K:T5) (J:Hp):List D->List T7->Prop
 | nil:kQ prog w A K J [] []
 | cons {d:D}{u:T7}{ds:List D}{us:List T7}:DM prog w A K J d u->kQ prog w A K J ds us->kQ prog w A K J (d::ds) (u::us)
theorem uM:∀(a b:List D),cj (a++b)=cj a++cj b
 | [],b=>rfl
 | x::a,b=>by show bZ x::cj (a++b)=_;rw [uM a b];rfl
theorem uu:∀(a b:List D),fM (a++b)=fM a + fM b
 | [],b=>by show fM b=0 + _;omega
 | x::a,b=>by show kG x + fM (a++b)=kG x + fM a + fM b;rw [uu a b];omega
theorem GI {A:UW}{s:T_}{o:Obj}{TR:List T7}{Q:Int->T_->Prop}(N:HF K J s) (ho:s.heap.get? a=some o) (hc:o.cls=.type "tuple") (hd:o.data=.seq TR.toArray n) (hu:A.units < VI)
 (hl:kQ prog w A.in1 K J ds TR) (h:Q (adp (Vp (cj ds))) {s with toks:=s.toks + (fM ds + 1)}):Uu (UB prog w) A (pyHash (.ref a)) Q E s:=by
 have hT:s.TypeIs (.ref a) "tuple":=⟨o,ho,hc⟩;unfold pyHash
 (first | unfold pyHashByItsType | skip)
 (first | refine T4 (wpAny_cRoomFor_or (.inr hu) ?_) | skip)
 (refine T4 (Yu hT XS.lookup ?_))
 (show Uu _ _ (if (some (Z6 "tuple.__hash__") == some UY)=true then _ else _) Q E s)
 (rw [if_neg (by rw [beq_builtin_none];exact UH)])
 (refine T4 (Yu hT XS.lookup ?_))
 (show Uu _ _ (callSpecialIfBoundUnlessNone? (.ref a) "__hash__" _ >>= _) Q E s)
 (refine T4 (wpAny_callSpecialIfBoundUnlessNone?_slot hT XS (U0 XS hT F.entry_tuple_hash ?_ (F.args_tuple_hash_1 _))))
 (show Uu _ _ (XU (.ref a) >>= _) _ _ s)
 (refine T4 (wpAny_tupleItemsOf ho hd ?_))
 refine T4 ?_;rw [<-Yv];refine WQ _
  (λrest (b:Array Int) s'=>∃done left,ds=done++left/\kQ prog w A.in1 K J left rest/\b.toList=cj done/\s'={s with toks:=s.toks + fM done})
  _ ?_ ?_ _ _ ⟨[],ds,rfl,hl,rfl,rfl⟩
 ·(rintro x rest b s' ⟨done,left,rfl,hl,hb,rfl⟩)
  cases hl with
  | @cons k _ ks' _ h1 hl'=>
   refine T4 (h1 _ _ _ ⟨N.t,N.l,N.e,N.d⟩ ?_);have e1:(b.push (bZ k)).toList=cj (done++[k]):=by rw [abY,uM,hb];rfl
   have e2:s.toks + fM done + kG k=s.toks + fM (done++[k]):=by rw [uu];show _=s.toks + (fM done + (kG k + 0));omega
   first
    | exact T6 ⟨done++[k],ks',by simp,hl',e1,by rw [e2]⟩
    | exact T4 (T6 (T6 ⟨done++[k],ks',by simp,hl',e1,by rw [e2]⟩))
 ·(rintro b s' ⟨done,left,rfl,hl,hb,rfl⟩)
  cases hl;rw [WG] at h
  (show Uu _ _ (retInt (Vp b.toList)) _ _ _)
  rw [hb];refine wpAny_ret_mkInt ?_;show Uu _ _ (if (decide (-(2:Int) ^ 63<=Vp (cj done)) && decide (Vp (cj done) < 2 ^ 63))=true then _ else _) Q E _;unfold adp at h;by_cases hr:(decide (-(2:Int) ^ 63<=Vp (cj done)) && decide (Vp (cj done) < 2 ^ 63))=true
  ·rw [if_pos hr];rw [if_pos hr] at h
   (exact T6 (by simpa [adM] using h))
  ·rw [if_neg hr];rw [if_neg hr] at h
   (exact T4 (Zn (T6 (by simpa [adM] using h))))
mutual
theorem wG:∀(d:D) (v:V) (u:T7) (A:UW) (s:T_),HF K J s->isKey d=true->Rep K J d v->RelV v u->A.units + dep d < VI->DM prog w A K J d u
 | .int i,v,u,A,s,N,hk,hr,rv,hu=>λE s' Q N' h=>by cases hr;obtain ⟨t,rfl⟩:=rv;exact acg h
 | .tup ds,v,u,A,s,N,hk,hr,rv,hu=>λE s' Q N' h=>by
  cases hr with
  | tup h1 hs=>
   cases rv;obtain ⟨TR,r,o,ho,hc,n,hd⟩:=N'.t _ _ h1;exact GI N' ho hc hd (by unfold dep at hu;omega) (AG ds _ _ A.in1 s N hk hs r (by rw [in1_units];unfold dep at hu;omega)) h
 | .non,v,u,A,s,N,hk,hr,rv,hu=>nomatch hk
 | .bl _,v,u,A,s,N,hk,hr,rv,hu=>nomatch hk
 | .str _,v,u,A,s,N,hk,hr,rv,hu=>nomatch hk
 | .lst _,v,u,A,s,N,hk,hr,rv,hu=>nomatch hk
 | .emp,v,u,A,s,N,hk,hr,rv,hu=>nomatch hk
 | .exn _ _ _,v,u,A,s,N,hk,hr,rv,hu=>nomatch hk
 | .dct _ _,v,u,A,s,N,hk,hr,rv,hu=>nomatch hk
theorem AG:∀(ds:List D) (vs:List V) (us:List T7) (A:UW) (s:T_),HF K J s->areKeys ds=true->aK K J ds vs->Vals vs us->A.units + deps ds < VI->kQ prog w A K J ds us
 | [],vs,us,A,s,N,hk,hr,rv,hu=>by cases hr;cases rv;exact .nil
 | d::ds,vs,us,A,s,N,hk,hr,rv,hu=>by
  unfold areKeys at hk;rw [Ub] at hk;unfold deps at hu;cases hr with
  | cons a b=>
   cases rv with
   | cons c e=>exact .cons (wG d _ _ A s N hk.1 a c (by omega)) (AG ds _ _ A s N hk.2 b e (by omega))
end
end
def iX (K:T5) (J:Hp) (n:Nat) (u:T7):Prop:=∃d v,isKey d=true/\dep d<=n/\Rep K J d v/\RelV v u
section
variable {prog:Uv}{w:US}{E:T7->T_->Prop}{K:T5}{J:Hp}{A:UW}{s:T_}
theorem zS {n:Nat}:∀{ds:List D}{vs:List V}{us:List T7},areKeys ds=true->deps ds<=n->aK K J ds vs->Vals vs us->∀u∈us,iX K J n u
 | _,_,_,_,_,.nil,.nil=>λu h=>nomatch h
 | d::ds,_,_,hk,hn,.cons a b,.cons c e=>λu h=>by
  unfold areKeys at hk;rw [Ub] at hk;unfold deps at hn
  (rcases Uw.mp h with rfl | h)
  ·exact ⟨d,_,hk.1,by omega,a,c⟩
  ·exact zS hk.2 (by omega) b e u h
theorem iX.cases' (N:HF K J s) (h:iX K J n u):(∃i t,u=.int i t)\/∃a o TR m k,u=.ref a/\s.heap.get? a=some o/\o.cls=.type "tuple"/\o.data=.seq TR m/\n=k + 1/\∀y∈TR.toList,iX K J k y:=by
 obtain ⟨d,v,hk,hn,hr,rv⟩:=h;cases d with
 | int i=>
  cases hr;obtain ⟨t,rfl⟩:=rv;exact .inl ⟨_,_,rfl⟩
 | tup ds=>
  cases hr with
  | tup h1 hs=>
   cases rv;obtain ⟨TR,r,o,ho,hc,m,hd⟩:=N.t _ _ h1;unfold dep at hn;obtain ⟨k,rfl⟩:∃k,n=k + 1:=⟨n - 1,by omega⟩;exact .inr ⟨_,o,_,m,k,rfl,ho,hc,hd,rfl,zS hk (by omega) hs r⟩
 | _=>cases hk
theorem nJ:∀(n:Nat){u:T7}{Q:Bool->T_->Prop},HF K J s->iX K J n u->Q true s->Uu (UB prog w) A (eqIsQuiet n u) Q E s
 | n,u,Q,N,hk,h=>by
  rcases hk.cases' N with ⟨i,t,rfl⟩ | ⟨a,o,TR,m,k,rfl,ho,hc,hd,rfl,hi⟩
  ·rw [eqIsQuiet_byValue _ rfl];exact T6 h
  ·have hT:s.TypeIs (.ref a) "tuple":=⟨o,ho,hc⟩;unfold eqIsQuiet
   (refine T4 (Yu hT F.slot_tuple_eq.lookup ?_))
   (show Uu _ _ (ado (.ref a) (.type "tuple") >>= _) _ _ s)
   (refine T4 (X_ hT isSubtype_tuple_tuple ?_))
   (simp only [Ww,Um,if_false])
   (refine T4 (X0 ho hd ?_))
   refine T4 ?_;show Uu _ _ (forIn TR _ _) _ _ s;rw [<-Yv];refine WQ _ (λrest r s'=>r.1=none/\s=s'/\∀v∈rest,iX K J k v) _ ?_ ?_ _ _ ⟨rfl,rfl,hi⟩
   ·(rintro v rest r s' ⟨hr,rfl,hall⟩)
    refine T4 (nJ k N (hall v Uc) ?_)
    (simp only [Ww,Um,if_false])
    (exact T6 ⟨rfl,rfl,λu hu'=>hall u (Ua _ hu')⟩)
   ·(rintro ⟨r1,r2⟩ s' ⟨hr,rfl,_⟩)
    simp only at hr;subst hr;exact T6 h
theorem Fg:∀(n:Nat){u:T7}{Q:Bool->T_->Prop},HF K J s->iX K J n u->Q true s->Uu (UB prog w) A (hashByValue n u) Q E s
 | n,u,Q,N,hk,h=>by
  rcases hk.cases' N with ⟨i,t,rfl⟩ | ⟨a,o,TR,m,k,rfl,ho,hc,hd,rfl,hi⟩
  ·cases n <;> exact T6 h
  ·have hT:s.TypeIs (.ref a) "tuple":=⟨o,ho,hc⟩;unfold hashByValue
   (refine T4 (Yu hT XS.lookup ?_))
   show Uu _ _ (acC (.ref a) >>= _) _ _ s
   (refine T4 (X0 ho hd ?_))
   refine T4 ?_;show Uu _ _ (forIn TR _ _) _ _ s;rw [<-Yv];refine WQ _ (λrest r s'=>r.1=none/\s=s'/\∀v∈rest,iX K J k v) _ ?_ ?_ _ _ ⟨rfl,rfl,hi⟩
   ·(rintro v rest r s' ⟨hr,rfl,hall⟩)
    refine T4 (Fg k N (hall v Uc) ?_)
    (simp only [Ww,Um,if_false])
    (exact T6 ⟨rfl,rfl,λu hu'=>hall u (Ua _ hu')⟩)
   ·(rintro ⟨r1,r2⟩ s' ⟨hr,rfl,_⟩)
    simp only at hr;subst hr;exact T6 h
theorem ny:∀(n:Nat){u:T7}{Q:Bool->T_->Prop},HF K J s->iX K J n u->Q false s->Uu (UB prog w) A (abZ n u) Q E s
 | n,u,Q,N,hk,h=>by
  rcases hk.cases' N with ⟨i,t,rfl⟩ | ⟨a,o,TR,m,k,rfl,ho,hc,hd,rfl,hi⟩
  ·cases n <;> exact T6 h
  ·have hT:s.TypeIs (.ref a) "tuple":=⟨o,ho,hc⟩;unfold abZ
   (refine T4 (YY hT ?_))
   dsimp only
   (refine T4 (T6 ?_))
   (simp only [Ww,Um,if_false])
   (refine T4 (X0 ho hd ?_))
   dsimp only;refine T4 ?_;show Uu _ _ (forIn TR _ _) _ _ s;rw [<-Yv];refine WQ _ (λrest r s'=>r.1=none/\s=s'/\∀v∈rest,iX K J k v) _ ?_ ?_ _ _ ⟨rfl,rfl,hi⟩
   ·(rintro v rest r s' ⟨hr,rfl,hall⟩)
    refine T4 (ny k N (hall v Uc) ?_)
    (simp only [Um,if_false])
    (exact T6 ⟨rfl,rfl,λu hu'=>hall u (Ua _ hu')⟩)
   ·(rintro ⟨r1,r2⟩ s' ⟨hr,rfl,_⟩)
    simp only at hr;subst hr;exact T6 h
theorem NZ {Q:Bool->T_->Prop}(N:HF K J s) (hx:iX K J 8 x) (hy:∀y∈ys,iX K J 8 y) (h:Q false s):Uu (UB prog w) A (ZZ x ys) Q E s:=by
 unfold ZZ;refine T4 ?_;refine WQ _ (λrest r s'=>r.1=none/\s=s'/\∀v∈rest,iX K J 8 v) _ ?_ ?_ _ _ ⟨rfl,rfl,hy⟩
 ·(rintro v rest r s' ⟨hr,rfl,hall⟩)
  have nx:∀u∈rest,iX K J 8 u:=λu hu'=>hall u (Ua _ hu');dsimp only;have hv:=hall v Uc;split
  ·split
   ·exact T6 ⟨rfl,rfl,nx⟩
   ·refine T4 (nJ 8 N hx ?_)
    (simp only [Ww,Um,if_false])
    refine T4 (nJ 8 N hv ?_)
    (simp only [Ww,Um,if_false])
    refine T4 (ny 8 N hx ?_)
    (simp only [Um,if_false])
    refine T4 (ny 8 N hv ?_)
    (simp only [Um,if_false])
    exact T6 ⟨rfl,rfl,nx⟩
  ·split
   ·exact T6 ⟨rfl,rfl,nx⟩
   ·refine T4 (nJ 8 N hx ?_)
    (simp only [Ww,Um,if_false])
    refine T4 (nJ 8 N hv ?_)
    (simp only [Ww,Um,if_false])
    refine T4 (ny 8 N hx ?_)
    (simp only [Um,if_false])
    refine T4 (ny 8 N hv ?_)
    (simp only [Um,if_false])
    exact T6 ⟨rfl,rfl,nx⟩
 ·(rintro ⟨r1,r2⟩ s' ⟨hr,rfl,_⟩)
  simp only at hr;subst hr;exact T6 h
end
end DL
namespace DL
open PySem PySem.Spec PyProof.Rows L2 ST
def KV (K:T5) (J:Hp) (u:T7) (d:D):Prop:=(∃a,u=.ref a)/\isKey d=true/\dep d<=8/\∃v,Rep K J d v/\RelV v u
theorem KV.key {K:T5}{J:Hp}{u:T7}{d:D}(h:KV K J u d):iX K J 8 u:=let ⟨_,a,b,v,c,e⟩:=h;⟨d,v,a,b,c,e⟩
inductive fQ (K:T5) (J:Hp):List (Int×T7)->List D->Prop
 | nil:fQ K J [] []
 | cons {h:Int}{x:T7}{d:D}{es:List (Int×T7)}{ks:List D}:h=bZ d->KV K J x d->fQ K J es ks->fQ K J ((h,x)::es) (d::ks)
section
variable {K:T5}{J:Hp}
theorem fQ.length {es:List (Int×T7)}{ks:List D}(h:fQ K J es ks):es.length=ks.length:=by
 induction h with
 | nil=>rfl
 | cons _ _ _ ih=>simp [ih]
theorem fQ.at_ (h:fQ K J es ks):∀{i:Nat}{e:Int×T7},es[i]?=some e->∃d,ks[i]?=some d/\KV K J e.2 d/\e.1=bZ d:=by
 induction h with
 | nil=>intro i e q;simp at q
 | @cons hh x d es ks h1 h2 _ ih=>
  intro i e q;cases i with
  | zero=>simp at q;subst q;exact ⟨d,rfl,h2,h1⟩
  | succ i=>simp at q;obtain ⟨d',a,b⟩:=ih q;exact ⟨d',by simpa using a,b⟩
theorem fQ.mem (h:fQ K J es ks):∀e∈es,∃d∈ks,KV K J e.2 d/\e.1=bZ d:=λe he=>by obtain ⟨i,hi⟩:=aaJ.mp he;obtain ⟨d,h1,h2⟩:=h.at_ hi;exact ⟨d,UX h1,h2⟩
theorem fQ.back {es:List (Int×T7)}{ks:List D}(h:fQ K J es ks){i:Nat}{d:D}(q:ks[i]?=some d):∃e,es[i]?=some e/\KV K J e.2 d/\e.1=bZ d:=by
 have hi:i < es.length:=by rw [h.length];exact (Uy.mp q).1
 obtain ⟨d',h1,h2⟩:=h.at_ (Uk hi);rw [q] at h1;cases h1;exact ⟨_,Uk hi,h2⟩
theorem fQ.perm {es es':List (Int×T7)}(p:es.Perm es'):∀{ks:List D},fQ K J es ks->∃ks',ks.Perm ks'/\fQ K J es' ks':=by
 induction p with
 | nil=>intro ks h;exact ⟨ks,.refl _,h⟩
 | cons x _ ih=>
  intro ks h;cases h with
  | cons h1 h2 h3=>obtain ⟨ks',a,b⟩:=ih h3;exact ⟨_,a.cons _,.cons h1 h2 b⟩
 | swap x y l=>
  intro ks h;cases h with
  | cons h1 h2 h3=>cases h3 with
   | cons h4 h5 h6=>exact ⟨_,.swap _ _ _,.cons h4 h5 (.cons h1 h2 h6)⟩
 | trans _ _ ih1 ih2=>
  intro ks h;obtain ⟨k1,a,b⟩:=ih1 h;obtain ⟨k2,c,d⟩:=ih2 b;exact ⟨k2,a.trans c,d⟩
end
theorem eO {t:V5}{es:Array (Int×T7)}(T:Tab t es L):t.fits es.size=true:=by
 have h1:t.place.size=L.length:=by rw [<-Ux,T.pl,T8]
 have h2:es.size=L.length:=by rw [<-Ux,T.en,T8]
 have h3:t.fill=L.length:=by unfold adN;rw [T.dm,h1];rfl
 unfold SetTable.fits;rw [h1,h2,h3];simp [T.fl]
theorem Ll {t:V5}(T:Tab t es L):t.gaveWay=false:=by unfold SetTable.gaveWay;rcases T.mo with h | h | h <;> rw [h] <;> rfl
section
variable {prog:Uv}{w:US}{E:T7->T_->Prop}{K:T5}{J:Hp}{A:UW}{s:T_}
theorem search {a:UA}{o:Obj}{es:Array (Int×T7)}{ep:Nat}{t:V5}{L:List (Nat×Int×T7)}{ks:List D}{x:T7}{d:D}{Q:SetFound->T_->Prop}(N:HF K J s) (ho:s.heap.get? a=some o) (hd:o.data=.set es ep t) (T:Tab t es L) (en:fQ K J es.toList ks)
  (hx:KV K J x d) (hu:A.units + 8 < VI) (n0:Nat) (hf:pos t.mask (bZ d) n0∉L.map (·.1)) (hb:∀m,m < n0->pos t.mask (bZ d) m∈L.map (·.1)) (hn0:n0<=10 * (t.mask + 12))
  (q1:d∈ks->Q (.there none) s) (q2:d∉ks->Q (.free (pos t.mask (bZ d) n0) false) s):
  ∀(fuel n:Nat) (stand:Option SetTable.Probe),n<=n0->n0 - n < fuel->stand.getD (t.probeStart (bZ d))=st t.mask (bZ d) n->(∀k,k < n->∀(i:Nat) (e:Nat×Int×T7),L[i]?=some e->e.1=pos t.mask (bZ d) k->ks[i]?≠some d)->
   Uu (UB prog w) A (adO a x (bZ d) true fuel stand) Q E s
 | 0,n,stand,h1,h2,h3,h4=>absurd h2 (Vw _)
 | fuel + 1,n,stand,h1,h2,h3,h4=>by
  have esL:∀i,es[i]?=(L[i]?).map (λe:Nat×Int×T7=>e.2):=λi=>by rw [<-Vv,T.en,UK]
  unfold adO;refine T4 (V9 ho hd (eO T) ?_);dsimp only;rw [Ll T]
  (simp only [Um,if_false])
  rw [h3];obtain ⟨m,m1,m2,m3,m4⟩:=Ah T (λi=>(es[i]?.map (·.1)).getD 0) (λi e q=>by rw [q];rfl) (bZ d) n0 hf hb (n0 - n) n (10 * adb t.mask) rfl h1 (by unfold adb;omega);generalize hP:SetTable.probe t _ (bZ d) (st t.mask (bZ d) n)=r;rcases m4 with ⟨rfl,m4⟩ | ⟨m5,i,e,m6,m7,m8,m4⟩
  ·have:r=_:=hP.symm.trans m4;subst this;dsimp only;refine T6 (q2 λhm=>?_);obtain ⟨i,hi⟩:=aaJ.mp hm;obtain ⟨e,e1,e2,e3⟩:=en.back hi;rw [Vv,esL] at e1;obtain ⟨e',e4,rfl⟩:=Option.map_eq_some_iff.mp e1;have hm':=UX e4;obtain ⟨k,k1,k2⟩:=T.pr _ hm';rw [e3] at k1 k2;have kl:k < m:=by
    rcases XQ k m with c | c | c
    ·exact c
    ·subst c;rw [k1] at hf;exact absurd (Ui.mpr ⟨_,hm',rfl⟩) hf
    ·exact absurd (k2 m c) hf
   by_cases c:k < n
   ·exact h4 k c i e' e4 k1.symm hi
   ·exact m3 k (by omega) kl e' hm' k1.symm e3
  ·have:r=_:=hP.symm.trans m4;subst this;dsimp only;have hei:es[i]?=some e.2:=by rw [esL,m6];rfl
   obtain ⟨d',f1,f2,f3⟩:=en.at_ (by rw [Vv];exact hei);obtain ⟨⟨ya,g0⟩,g1,g2',v',g3,g4⟩:=id f2;obtain ⟨_,x1,x2,v,x3,x4⟩:=id hx;obtain ⟨j,hh,y⟩:=e;dsimp only at g0 g4 m7 m8 hei;subst g0;have cmp:=m9 N A g3 x3 g4 x4 (by omega) (by omega) (by omega);have pass:∀(k:Sem SetFound),Uu (UB prog w) A k Q E s->Uu (UB prog w) A (if (!t.led)=true then do
     let c <-ZZ x (aeE (λx=>x.snd) (Array.filter (λx=>x.fst == bZ d) es).toList)
     if c=true then do unsupported "set:the-search-would-show-the-table";k else k
     else k) Q E s:=λk hk=>by
    split
    ·refine T4 (NZ N hx.key (λy hy=>?_) ?_)
     ·obtain ⟨e',he',rfl⟩:=Ui.mp hy;have:e'∈es.toList:=by rw [Array.toList_filter] at he';exact (UT.mp he').1
      obtain ⟨d2,_,h2,_⟩:=en.mem e' this;exact h2.key
     ·(simp only [Um,if_false])
      exact hk
    ·exact hk
   refine pass _ ?_;rw [hei];dsimp only;refine T4 (UN (cmp _ _ _ _ ?_));refine T4 (V9 ho hd (eO T) ?_);dsimp only;by_cases c:bq d' d=true
   ·rw [c]
    (simp only [adG,if_true])
    refine T6 (q1 ?_);rw [<-zT g1 x1 c];exact UX f1
   ·rw [Bool.not_eq_true] at c;rw [c];have sm:t.sameMemory t.moves t.mask=some true:=by unfold SetTable.sameMemory;simp
    have sl:t.slot (pos t.mask (bZ d) m)=.live i:=xP T.sop (by rw [<-m7];exact (T.at_ m6).1);rw [sm];simp only [Xu,Um,if_false,if_true];rw [sl];dsimp only;rw [hei];dsimp only;refine T4 (wpAny_isSame_ref_self ?_);simp only [if_true]
    (refine T4 (T6 ?_))
    dsimp only;refine search N ho hd T en hx hu n0 hf hb hn0 q1 q2 fuel (m + 1) _ (by omega) (by omega) rfl λk hk i2 e2 z1 z2 z3=>?_;by_cases c1:k < n
    ·exact h4 k c1 i2 e2 z1 z2 z3
    ·by_cases c2:k < m
     ·obtain ⟨dd,w1,_,w3⟩:=en.at_ (i:=i2) (e:=e2.2) (by rw [Vv,esL,z1];rfl);rw [z3] at w1;cases w1;exact m3 k (by omega) c2 e2 (UX z1) z2 w3
     ·obtain rfl:k=m:=by omega
      have hi2:i2=i:=by
       obtain ⟨p1,p2⟩:=Uy.mp z1;obtain ⟨p3,p4⟩:=Uy.mp m6;have sw:=Vq.mp T.so;rcases XQ i2 i with c | c | c
       ·have:=sw i2 i (by simpa using p1) (by simpa using p3) c;simp [p2,p4] at this;omega
       ·exact c
       ·have:=sw i i2 (by simpa using p3) (by simpa using p1) c;simp [p2,p4] at this;omega
      subst hi2;rw [f1] at z3;cases z3;rw [gn] at c;exact absurd c (by decide)
end
structure gY (K:T5) (J:Hp) (h:VJ) (a:UA) (led:Bool) (ks:List D) (es:Array (Int×T7)) (ep:Nat) (t:V5):Prop where
 at_:h.get? a=some {cls:=.type "set",dict:=none,data:=.set es ep t}
 tab:∃L,Tab t es L
 pl:t.plain=true
 ld:t.led=led
 rm:ks.length * 5 < t.mask * 3
 en:fQ K J es.toList ks
 nd:ks.Nodup
theorem Et (mask i:Nat) (h:i<=mask):i + (acL mask i - i)<=mask:=by unfold acL;split <;> omega
theorem Jl (mask:Nat) (h:Int):∀n,(ST.st mask h n).j + (ST.st mask h n).more<=mask
 | 0=>Et mask _ (YN (aaY _ (by omega)))
 | n + 1=>by
  have ih:=Jl mask h n;show (aai _ (ST.st mask h n)).j + (aai _ (ST.st mask h n)).more<=mask;unfold aai;split
  ·dsimp only;omega
  ·exact Et mask _ (YN (aaY _ (by omega)))
theorem Nn (mask:Nat) (h:Int) (n:Nat):ST.pos mask h n<=mask:=by have:=Jl mask h n;show (ST.st mask h n).j<=mask;omega
theorem JB:Xx 20=32:=by decide +kernel
theorem JC:Xx 76=128:=by decide +kernel
theorem wB {es:Array (Int×T7)}{L:List (Nat×Int×T7)}(T:Tab t es L):L.length=es.size:=by rw [<-Ux,T.en,T8]
section
variable {prog:Uv}{w:US}{E:T7->T_->Prop}{K:T5}{J:Hp}{A:UW}{s:T_}
theorem OF {es:Array (Int×T7)}{t:V5}{ks:List D}{Q:Unit->T_->Prop}(ho:s.heap.get? a=some {cls:=.type "set",dict:=none,data:=.set es ep t}) (T:Tab t es L) (hp:t.plain=true) (hl:t.led=led)
 (en:fQ K J es.toList ks) (nd:ks.Nodup) (W:Nat) (hW:(Xx W=32/\ks.length=5)\/(Xx W=128/\ks.length=19))
 (h:∀(h':VJ) ks' es' ep' t',V2 a s.heap h'->ks.Perm ks'->gY K J h' a led ks' es' ep' t'->Q () {s with heap:=h'}):Uu (UB prog w) A (setRelay a W) Q E s:=by
 have hsz:es.size=ks.length:=by rw [<-Ux,en.length]
 have hm:pg (Xx W - 1):=by rcases hW with ⟨h,_⟩ | ⟨h,_⟩ <;> rw [h];exact .inr (.inl rfl);exact .inr (.inr rfl)
 obtain ⟨t',T3,L',e1,e2,e3,e4,e5,e6⟩:=FH (t:=t) (es:=es) hm (by rcases hW with ⟨h,_⟩ | ⟨h,_⟩ <;> rw [h] <;> omega);unfold setRelay;refine T4 (V9 ho rfl (eO T) ?_);dsimp only;rw [if_neg (by rw [U7];rcases hW with ⟨h,_⟩ | ⟨h,_⟩ <;> rw [h] <;> omega)];have sz':(T3.filterMap (es[·]?)).size=es.size:=by rw [<-Ux,e6.length_eq,Ux]
 rw [e1];have lC:((T3.filterMap (es[·]?)).size != es.size)=false:=by rw [sz'];simp
 refine T4 (YK (a:=(T3.filterMap (es[·]?),t')) ?_ ?_)
 ·show (if ((T3.filterMap (es[·]?)).size != es.size)=true then _ else pure (T3.filterMap (es[·]?),t'))=_;rw [lC];rfl
 ·dsimp only;obtain ⟨ks',p1,p2⟩:=en.perm e6.symm;refine ab0 ho rfl ?_ (by rw [sz',U7];rcases hW with ⟨_,h⟩ | ⟨_,h⟩ <;> omega);have hg:=Vi (adt (T3.filterMap (es[·]?)) t') ho rfl;refine h _ ks' _ _ _ (V_ _ _ _) p1 ⟨hg,⟨L',e5⟩,e4.trans hp,e3.trans hl,?_,p2,p1.nodup_iff.mp nd⟩;rw [<-p1.length_eq,e2];rcases hW with ⟨h,h'⟩ | ⟨h,h'⟩ <;> rw [h,h'] <;> omega
theorem JD {a:UA}{es:Array (Int×T7)}{ep:Nat}{t:V5}{led:Bool}{ks:List D}{x:T7}{d:D}{Q:Bool->T_->Prop}(N:HF K J s) (S:gY K J s.heap a led ks es ep t) (hx:KV K J x d) (hu:A.units + 8 < VI) (hl:ks.length < 76)
  (q1:d∈ks->Q false s) (q2:d∉ks->∀(h':VJ) ks' es' ep' t',V2 a s.heap h'->(d::ks).Perm ks'->gY K J h' a led ks' es' ep' t'->Q true {s with heap:=h'}):
  Uu (UB prog w) A (setAddHashed a x (bZ d)) Q E s:=by
 obtain ⟨L,T⟩:=S.tab;have lenL:L.length=ks.length:=by rw [wB T,<-Ux,S.en.length]
 obtain ⟨n0,b1,b2,b3⟩:=CB T.mo (bZ d) (L.map (·.1)) (by rw [T8];exact T.fl);have hj:pos t.mask (bZ d) n0<=t.mask:=Nn _ _ _
 (unfold setAddHashed setAddHashedIn)
 refine UN (T4 (V9 S.at_ rfl (eO T) ?_));dsimp only;have ns:byScan x es=false:=by obtain ⟨⟨xa,rfl⟩,_⟩:=hx;rfl
 rw [ns]
 (simp only [Um,if_false])
 unfold setSearch;refine T4 (search N S.at_ rfl T S.en hx hu n0 b2 b3 b1 (λhm=>?_) (λhm=>?_) 100000 0 none (UD _) (by rcases T.mo with h | h | h <;> rw [h] at b1 <;> omega) rfl (λk hk=>absurd hk (Vw _)))
 ·exact T6 (q1 hm)
 ·dsimp only;refine T4 (V9 S.at_ rfl (eO T) ?_);dsimp only;obtain ⟨L',T',pm⟩:=T.put (bZ d) x n0 b2 b3 hj (by have:=S.rm;rcases T.mo with h | h | h <;> rw [h] at this <;> omega);have fl:(t.put (pos t.mask (bZ d) n0)).1.mask=t.mask/\(t.put (pos t.mask (bZ d) n0)).1.plain=t.plain/\(t.put (pos t.mask (bZ d) n0)).1.led=t.led:=⟨rfl,rfl,rfl⟩;generalize t.put (pos t.mask (bZ d) n0)=tp at T' fl ⊢;obtain ⟨t',p⟩:=tp;dsimp only at T' fl ⊢;obtain ⟨f1,f2,f3⟩:=fl;have en':∃ks',(d::ks).Perm ks'/\fQ K J (YO es p (bZ d,x)).toList ks':=by refine fQ.perm (es:=(bZ d,x)::es.toList) ?_ (.cons rfl hx S.en);rw [T'.en,T.en];have:=pm.map (·.2);exact this.symm
  obtain ⟨ks',p1,p2⟩:=en';have nd':ks'.Nodup:=p1.nodup_iff.mp (WH.mpr ⟨hm,S.nd⟩);have lk:ks'.length=ks.length + 1:=by rw [<-p1.length_eq];rfl
  rw [f2,S.pl];simp only [if_true];refine T4 (Fg 8 N hx.key ?_);simp only [if_true];have esz:(YO es p (bZ d,x)).size=ks'.length:=by rw [<-Ux,p2.length]
  refine T4 (ab0 S.at_ rfl ?_ (by rw [esz,U7];omega));have hg:=Vi (adt (YO es p (bZ d,x)) t') S.at_ rfl;have hfill:t'.fill=ks'.length:=by unfold adN;rw [T'.dm,<-Ux,T'.pl,T8,wB T',esz];rfl
  have hes:es.size=ks.length:=by rw [<-Ux,S.en.length]
  split
  ·rename_i c;simp only [aa8,Xn] at c;unfold aco at c;rw [hfill,f1,decide_eq_true_eq] at c;have rm:=S.rm;refine T4 (OF (s:={s with heap:=s.heap.update a (adt (YO es p (bZ d,x)) t')}) hg T' (f2.trans S.pl) (f3.trans S.ld) p2 nd' _ ?_ λh' ks2 es2 ep2 t2 g1 g2' g3=>?_)
   ·rw [hes];unfold SetTable.grown;rw [if_neg (by omega)];rcases T.mo with h | h | h
    ·rw [h] at c rm;have:ks.length + 1=5:=by omega
     rw [this];exact .inl ⟨JB,by omega⟩
    ·rw [h] at c rm;have:ks.length + 1=19:=by omega
     rw [this];exact .inr ⟨JC,by omega⟩
    ·rw [h] at c;omega
   ·exact T6 (q2 hm h' ks2 es2 ep2 t2 ((V_ _ _ _).trans g1) (p1.trans g2') g3)
  ·rename_i c;simp only [aa8,Xn] at c;unfold aco at c;rw [hfill,f1,decide_eq_true_eq] at c;exact T6 (q2 hm _ ks' _ _ _ (V_ _ _ _) p1 ⟨hg,⟨L',T'⟩,f2.trans S.pl,f3.trans S.ld,by rw [f1];omega,p2,nd'⟩)
end
theorem gY.keep {K:T5}{J:Hp}{h h':VJ}{a:UA}{led:Bool}{ks:List D}{es:Array (Int×T7)}{ep:Nat}{t:V5}(S:gY K J h a led ks es ep t) (e:∀o,h.get? a=some o->h'.get? a=some o):gY K J h' a led ks es ep t:=
 ⟨e _ S.at_,S.tab,S.pl,S.ld,S.rm,S.en,S.nd⟩
section
variable {prog:Uv}{w:US}{A:UW}{R:ab3->T_->Prop}{I:UA}{fp wr:List UA}{G:Array aew->Array aew->Prop}{n:Nat}{P:Nat->T7->Prop}{St:Nat->T_->Prop}{K:T5}{J:Hp}
theorem Ip (W:WalksS prog w A.in1 I fp wr G n P St) (S:UA) (hSf:S∉fp) (val:Nat->D) (hval:∀i v,P i v->KV K J v (val i)){s0:T_}(N0:HF K J s0) (hnew:∀b∈S::wr,s0.heap.get? b=none) (hu:A.in1.units + 8 < VI) (hn:n<=76){led:Bool}:
  ∀(k i:Nat) (s:T_) (ks:List D) (es:Array (Int×T7)) (ep:Nat) (t:V5),n - i=k->i<=n->St i s->(∀b o,s0.heap.get? b=some o->s.heap.get? b=some o)->gY K J s.heap S led ks es ep t->(∀d,d∈ks↔d∈(Ue i).map val)->
   (∀s' ks' es' ep' t',Moved (S::wr) G s s'->gY K J s'.heap S led ks' es' ep' t'->(∀d,d∈ks'↔d∈(Ue n).map val)->R (.ok (.ret .none)) s')->
   (Wh (UB prog w) A (.builtin "set.update.loop" ⟨[.ref S,.ref I],[]⟩) R s):=by
 (have RL:S∉wr:=λh=>hSf (W.sub _ h))
 (have hsub:∀b∈wr,b∈S::wr:=λb hb=>Ua _ hb)
 have old:∀b o,s0.heap.get? b=some o->b∉S::wr:=λb o e hm=>by rw [hnew b hm] at e;cases e
 intro k
 induction k with
 | zero=>
  intro i s ks es ep t hk hi hst hb hS hm hR;have hin:i=n:=by omega
  subst hin;refine VM X3 ?_;rw [Ve VN _]
  (show Uu _ A.in1 (XA (.ref I) >>= _) _ _ s)
  refine T4 (W.done s _ _ hst λs' RS=>?_)
  (show Uu _ A.in1 (ret UY) _ _ s')
  exact T6 (hR s' ks es ep t (RS.mono hsub) (hS.keep λo e=>RS.heap S o RL e) hm)
 | succ k ih=>
  intro i s ks es ep t hk hi hst hb hS hm hR;have hlt:i < n:=by omega
  have hlen:ks.length<=i:=by have:=VG hS.nd (λd hd=>(hm d).mp hd);simpa using this
  refine VM X3 ?_;rw [Ve VN _]
  (show Uu _ A.in1 (XA (.ref I) >>= _) _ _ s)
  refine T4 (W.item i s _ _ hlt hst λv s' hP RY RS=>?_);have hx:=hval i v hP;obtain ⟨_,x1,x2,vv,x3,x4⟩:=id hx;have hS':=hS.keep (h':=s'.heap) λo e=>RS.heap S o RL e;have hb':∀b o,s0.heap.get? b=some o->s'.heap.get? b=some o:=λb o e=>RS.heap b o (λhm=>old b o e (hsub b hm)) (hb b o e);have N':HF K J s':=N0.keep hb';have mem':∀(ks':List D),(∀d,d∈ks'↔d=val i\/d∈ks)->∀d,d∈ks'↔d∈(Ue (i + 1)).map val:=λks' h d=>by rw [h d,hm d,WL,Us,UI];simp only [Ur,aay,Ul];exact Or.comm
  show Uu _ A.in1 (holding [v] (setAdd S v) >>= _) _ _ s'
  (refine T4 (UN ?_))
  unfold setAdd;refine UN ?_;refine T4 (wG (val i) vv v A.in1 s' N' x1 x3 x4 (by omega) _ _ _ N' ?_);refine JD (s:={s' with toks:=s'.toks + kG (val i)}) (⟨N'.t,N'.l,N'.e,N'.d⟩:HF K J {s' with toks:=s'.toks + kG (val i)}) hS' hx hu (by omega) (λhin=>?_) (λhin h' ks' es' ep' t' Sw Th R4=>?_)
  ·refine T6 ⟨Wu VN _,ih (i + 1) _ ks es ep t (by omega) hlt (W.frame _ s' _ _ RY (X8 _ _) λb hb o e=>e) hb' hS' (mem' ks λd=>⟨.inr,λh=>h.elim (λh=>h▸hin) id⟩) λs'' ks'' es'' ep'' t'' hm'' hS'' RV=>?_⟩;exact hR s'' ks'' es'' ep'' t'' (aeq W.gtrans ((RS.mono hsub).then_heap (X8 _ _) λb o hb e=>e) hm'') hS'' RV
  ·refine T6 ⟨Wu VN _,ih (i + 1) _ ks' es' ep' t' (by omega) hlt (W.frame _ s' _ _ RY (X8 _ _) λb hb o e=>?_) (λb o e=>?_) R4 (mem' ks' λd=>?_) λs'' ks'' es'' ep'' t'' hm'' hS'' RV=>?_⟩
   ·(rw [Sw.2 b (λh:b=S=>hSf (by rw [<-h];exact hb))];exact e)
   ·show h'.get? b=some o;rw [Sw.2 b (λh:b=S=>old b o e (by rw [h];exact Uc))];exact hb' b o e
   ·rw [<-Th.mem_iff,Uw]
   ·refine hR s'' ks'' es'' ep'' t'' (aeq W.gtrans ((RS.mono hsub).then_heap (X8 _ _) λb o hb e=>?_) hm'') hS'' RV
    (rw [Sw.2 b (λh:b=S=>hb (by rw [h];exact Uc))];exact e)
end
theorem Dq {K:T5}{J:Hp}{h:VJ}{a:UA}{led:Bool}(e:h.get? a=some {cls:=.type "set",dict:=none,data:=.set #[] 0 (.fresh 0 0 led)}):gY K J h a led [] #[] 0 (.fresh 0 0 led):=
 ⟨e,⟨[],⟨rfl,rfl,rfl,YJ,(λ_ h=>nomatch h),.inl rfl,UD _,(λ_ h=>nomatch h)⟩⟩,rfl,rfl,(show 0 * 5 < 7 * 3 by decide),.nil,Wz⟩
end DL
namespace ST
open PySem PySem.SetTable
theorem zb {xs:Array Nat}(hs:xs.toList.Pairwise (· < ·)) (hi:i<=xs.size) (h1:∀k,k < i->xs.getD k 0 < j) (h2:∀k,i<=k->k < xs.size->j<=xs.getD k 0):below xs j=i:=by
 obtain ⟨b1,b2,b3⟩:=nS xs j hs;rcases XQ (below xs j) i with c | c | c
 ·have:=h1 _ c;have:=b3 _ (Ud _) (by omega);omega
 ·exact c
 ·have:=b2 _ c;have:=h2 i (Ud _) (by omega);omega
theorem Cq {xs:Array Nat}(hs:xs.toList.Pairwise (· < ·)):below xs 0=0:=zb hs (UD _) (λk h=>absurd h (Vw _)) λk _ _=>UD _
theorem Cp {xs:Array Nat}(hs:xs.toList.Pairwise (· < ·)) (h:xs[i]?=some j):below xs (j + 1)=i + 1:=by
 obtain ⟨hi,e⟩:=VC.mp h;have sw:=Vq.mp hs;have gd:∀k (hk:k < xs.size),xs.getD k 0=xs[k]:=λk hk=>by simp [V8,hk]
 refine zb hs (by omega) (λk hk=>?_) (λk h1 h2=>?_)
 ·rw [gd k (by omega)];by_cases c:k=i
  ·subst c;omega
  ·have:=sw k i (by simp;omega) (by simpa using hi) (by omega);simp at this;omega
 ·rw [gd k h2];have:=sw i k (by simpa using hi) (by simpa using h2) (by omega);simp at this;omega
theorem xA {α:Type}(next:Nat->Nat):∀(f k:Nat) (left:List α) (out:Array α),f=left.length->(ace next f k left out).toList.Perm (out.toList++left)
 | 0,k,left,out,h=>by have:left=[]:=Xo.mp h.symm;subst this;unfold ace;simp
 | f + 1,k,left,out,h=>by
  have hl:next k % left.length < left.length:=aaY _ (by omega);unfold ace;rw [Uk hl];dsimp only;refine (xA next f (k + 1) _ _ (by rw [aa4];simp [hl];omega)).trans ?_;rw [abY,WD]
  (refine ad2 _ ?_)
  have e1:left.eraseIdx (next k % left.length)=left.take (next k % left.length)++left.drop (next k % left.length + 1):=YQ _ _;have e2:left=left.take (next k % left.length)++left[next k % left.length]::left.drop (next k % left.length + 1):=by rw [List.getElem_cons_drop,aaI]
  rw [e1,List.singleton_append];exact (acn.symm).trans (aeX e2.symm)
theorem De {α:Type}(next:Nat->Nat) (xs:Array α):(acM next xs).toList.Perm xs.toList:=by have h:=xA next xs.size 0 xs.toList #[] (by simp);rw [show (#[]:Array α).toList++xs.toList=xs.toList from rfl] at h;exact h
end ST
namespace DL
open PySem PySem.Spec PyProof.Rows L2 ST
structure kj (h:VJ) (a:UA) (led:Bool) (es:Array (Int×T7)) (ep:Nat) (t:V5):Prop where
 at_:h.get? a=some {cls:=.type "set",dict:=none,data:=.set es ep t}
 tab:∃L,Tab t es L
 pl:t.plain=true
 ld:t.led=led
theorem kj.keep {h h':VJ}(S:kj h a led es ep t) (e:∀o,h.get? a=some o->h'.get? a=some o):kj h' a led es ep t:=⟨e _ S.at_,S.tab,S.pl,S.ld⟩
theorem gY.wk {K:T5}{J:Hp}{h:VJ}{a:UA}{led:Bool}{ks:List D}{es:Array (Int×T7)}{ep:Nat}{t:V5}(S:gY K J h a led ks es ep t):kj h a led es ep t:=⟨S.at_,S.tab,S.pl,S.ld⟩
abbrev n_ (w:US):Bool:=!w.params.followText "set-order"
noncomputable def gG (w:US) (a ep:Nat) (es:Array (Int×T7)):Array (Int×T7):=if w.params.followText "set-order"=true then acM (w.params.setOrder a ep) es else es
theorem sI (w:US) (a ep:Nat) (es:Array (Int×T7)):(gG w a ep es).toList.Perm es.toList:=by
 unfold gG;split
 ·exact De _ _
 ·exact .refl _
theorem mQ (w:US) (a ep:Nat) (es:Array (Int×T7)):(gG w a ep es).size=es.size:=by rw [<-Ux,(sI w a ep es).length_eq,Ux]
abbrev oW (a:UA) (slot i n ep:Nat):Obj:={cls:=.type "set_iterator",data:=.fields #[.int slot 0,.int i 0,.ref a,.int n 0,.int ep 0]}
theorem uv:aeF table "set.__iter__"=some Xv.«frozenset.__iter__»:=
 (ade (id':="frozenset.__iter__") (by kernel_rfl) rfl (by decide +kernel) (by kernel_rfl))
theorem f9:Slot "set_iterator" "__next__" "set_iterator.__next__":=
 (.of (owner:="set_iterator") (n:="__next__") (by rw [aaK,Y6];kernel_rfl) (by decide +kernel) (by decide +kernel) (by decide +kernel)
  (by first | exact .inl (by decide +kernel) | exact .inr (by decide +kernel)) (by rw [X4];kernel_rfl))
theorem oQ:aeF table "set_iterator.__next__"=some Xv.«set_iterator.__next__»:=(entryFor_of_tree (by kernel_rfl))
theorem pI (a:T7):ab_ "set_iterator.__next__" ⟨[a],[]⟩:=by unfold ab_;kernel_rfl
section
variable {prog:Uv}{w:US}{A:UW}{E:T7->T_->Prop}{s:T_}
theorem GS {es:Array (Int×T7)}{Q:T7->T_->Prop}(S:kj s.heap a led es ep t)
 (hQ:Q (.ref s.heap.objs.size) {s with heap:=s.heap.push (oW a 0 0 es.size ep)}):Uu (UB prog w) A (ZJ (.ref a)) Q E s:=by
 obtain ⟨L,T⟩:=S.tab;have hT:s.TypeIs (.ref a) "set":=⟨_,S.at_,rfl⟩;refine YR hT acN (U0 acN hT uv ?_ (F.args_set_iter_1 _));show Uu _ _ (Z0 a >>= _) _ _ s;unfold Z0;refine T4 (T4 (Zv S.at_ rfl (eO T) (T6 ?_)));unfold setDrawn adu;refine T4 (T4 (V9 S.at_ rfl (eO T) (T4 (T4 (WR (T6 (T6 ?_)))))));dsimp only;split
 ·rename_i c;have c:(!w.params.followText "set-order" && (!t.plain && decide (es.size > 1)))=true:=c;rw [S.pl] at c;simp at c
 ·(refine T4 (T6 ?_))
  refine T4 (wpAny_setEpoch_of S.at_ rfl (eO T) ?_)
  (refine T4 (UJ ?_))
  exact T6 ⟨_,rfl,"set_iterator",_,⟨_,Uh _ rfl,rfl⟩,f9.lookup,hQ⟩
theorem Aw {t:V5}{Q:Option (T7×Nat)->T_->Prop}(S:kj s.heap a (n_ w) es ep t) (hb:w.params.followText "set-order"=false->X5 t.place slot=i)
 (q1:∀e slot',(gG w a ep es)[i]?=some e->(w.params.followText "set-order"=false->X5 t.place slot'=i + 1)->Q (some (e.2,slot')) s) (q2:(gG w a ep es)[i]?=none->Q none s):
  Uu (UB prog w) A (setNext a slot i ep) Q E s:=by
 obtain ⟨L,T⟩:=S.tab;unfold setNext adu;refine T4 (V9 S.at_ rfl (eO T) ?_);dsimp only
 (refine T4 (T4 (WR (T6 ?_))))
 dsimp only;cases bt:w.params.followText "set-order" with
 | true=>
  rw [show (UB prog w).w.params.followText "set-order"=true from bt];simp only [if_true,bne_self_eq_false,Um,if_false];unfold setWalk adu;refine T4 (T4 (V9 S.at_ rfl (eO T) ?_));dsimp only
  (refine T4 (T4 (WR (T6 ?_))))
  dsimp only;rw [show (UB prog w).w.params.followText "set-order"=true from bt];simp only [if_true];refine T4 (WR (T6 ?_));dsimp only;have ew:gG w a ep es=acM ((UB prog w).w.params.setOrder a ep) es:=by unfold gG;rw [if_pos bt];rfl
  rw [ew] at q1 q2;cases q:(acM ((UB prog w).w.params.setOrder a ep) es)[i]? with
  | none=>exact T6 (q2 q)
  | some e=>exact T6 (q1 e slot q λz=>absurd (bt.symm.trans z) (by decide))
 | false=>
  rw [show (UB prog w).w.params.followText "set-order"=false from bt]
  (simp only [Um,if_false])
  have ew:gG w a ep es=es:=by unfold gG;rw [if_neg (by rw [bt];decide)]
  rw [ew] at q1 q2;have Sl:t.led=true:=by rw [S.ld];show (!w.params.followText "set-order")=true;rw [bt];rfl
  split
  ·rename_i c;have c:(!t.plain && decide (es.size > 1))=true:=c;rw [S.pl] at c;simp at c
  ·refine T4 (YK (a:=()) ?_ ?_)
   ·show (if (!t.led && !es.isEmpty)=true then _ else pure ())=pure ();rw [Sl];rfl
   ·rw [hb bt];cases q:es[i]? with
    | none=>exact T6 (q2 q)
    | some e=>
     have hlen:i < t.place.size:=by
      have h1:=(VC.mp q).1;have h2:t.place.size=es.size:=by rw [<-Ux,T.pl,T8,wB T]
      omega
     have ep':t.place[i]?=some t.place[i]:=Wg hlen;rw [ep'];exact T6 (q1 e _ q λ_=>Cp T.sop ep')
theorem G_ {es:Array (Int×T7)}{t:V5}{Q:Option T7->T_->Prop}(hne:a≠I) (S:kj s.heap a (n_ w) es ep t) (hI:s.heap.get? I=some (oW a slot i es.size ep)) (hb:w.params.followText "set-order"=false->X5 t.place slot=i) (hi:i < es.size)
 (hQ:∀h' slot' e,(gG w a ep es)[i]?=some e->h'.get? I=some (oW a slot' (i + 1) es.size ep)->(w.params.followText "set-order"=false->X5 t.place slot'=i + 1)->V2 I s.heap h'->Q (some e.2) {s with heap:=h'}):
  Uu (UB prog w) A (XA (.ref I)) Q E s:=by
 obtain ⟨L,T⟩:=S.tab;have hT:s.TypeIs (.ref I) "set_iterator":=⟨_,hI,rfl⟩;unfold XA;refine T4 (WU (Vk (name:=XC "__next__") hT f9 (U0 f9 hT oQ ?_ (pI _))));show Uu _ _ (fieldsOf (.ref I) >>= _) _ _ s;refine T4 (X6 hI rfl ?_);dsimp only;refine T4 (Zv S.at_ rfl (eO T) ?_);simp only [bne_self_eq_false,Um,if_false,Vo];refine T4 (Aw S hb (λe slot' q1 q2=>?_) λq=>?_)
 ·dsimp only;refine T4 (ZL hI (by simp) λh1 g1 b1=>?_);refine T4 (ZL (s:={s with heap:=h1}) g1 (by simp) λh2 g2' b2=>?_);exact T6 ⟨_,rfl,T6 (hQ h2 slot' e q1 (g2'.trans (by simp [aad])) q2 (b1.trans b2))⟩
 ·exfalso;have:=(Array.getElem?_eq_none_iff.mp q);rw [mQ] at this;omega
theorem JR {es:Array (Int×T7)}{t:V5}{Q:Option T7->T_->Prop}(hh:A.handled=none) (S:kj s.heap a (n_ w) es ep t) (hI:s.heap.get? I=some (oW a slot es.size es.size ep)) (hb:w.params.followText "set-order"=false->X5 t.place slot=es.size)
 (hQ:∀h',acO I s.heap h'->Q none {s with heap:=h'}):Uu (UB prog w) A (XA (.ref I)) Q E s:=by
 obtain ⟨L,T⟩:=S.tab;have hT:s.TypeIs (.ref I) "set_iterator":=⟨_,hI,rfl⟩;unfold XA;refine T4 (WU (Vk (name:=XC "__next__") hT f9 (U0 f9 hT oQ ?_ (pI _))));show Uu _ _ (fieldsOf (.ref I) >>= _) _ _ s;refine T4 (X6 hI rfl ?_);dsimp only;refine T4 (Zv S.at_ rfl (eO T) ?_);simp only [bne_self_eq_false,Um,if_false,Vo];refine T4 (Aw S hb (λe slot' q1 q2=>?_) λq=>?_)
 ·exfalso;have:=(VC.mp q1).1;rw [mQ] at this;omega
 ·dsimp only;refine T4 (ZL hI (by simp) λh1 g1 b1=>?_);refine T4 ?_;simp only [aeG,aeH]
  (refine T4 (UJ ?_ (by size_fits)))
  (refine T4 (m:=X7 _ _) (YK (a:=UY) (by first | rfl | (simp only [X7];rfl)) ?_))
  (refine UJ ?_ (by size_fits))
  simp only [aeI]
  (refine T4 (abE ?_))
  (first | rw [show A.in1.handled=none from hh] | rw [hh])
  (refine T4 (T6 (acP ?_)))
  (refine T4 (X_ (T:="StopIteration") (b:=true) ⟨_,Uh _ rfl,rfl⟩ abb ?_))
  exact T6 (hQ _ ((b1.extBut.push _).push _))
end
theorem yp:typeLookup (.type "set") "__len__"=pure (some (.builtin "set.__len__")):=by rw [aaK,Y6];kernel_rfl
theorem Gg {M:aeJ}{A:UW}{E:T7->T_->Prop}{s:T_}{α:Type}{c:Prop} [Decidable c] {m1 m2:Sem α}{Q:α->T_->Prop}(hc:c) (h:Uu M A m1 Q E s):Uu M A (if c then m1 else m2) Q E s:=by rw [if_pos hc];exact h
theorem GP {prog:Uv}{w:US}{A:UW}{E:T7->T_->Prop}{s:T_}{a:UA}{Q:Bool->T_->Prop}(hT:s.TypeIs (.ref a) "set") (hQ:Q false s):Uu (UB prog w) A (Zw (.ref a)) Q E s:=by
 have sp:splitId "set.__len__"=some ("set","__len__"):=by decide +kernel
 (unfold Zw)
 refine T4 (Yu hT yp ?_);dsimp -zeta only;rw [sp];dsimp -zeta only;refine T4 (m:=ado (.ref a) (.type "set")) (X_ hT sub_set_self ?_)
 (show Uu _ _ (if (!true)=true then _ else _) _ _ _)
 rw [if_neg (by decide)];refine Gg (by decide +kernel) ?_
 (refine T4 (YY hT ?_))
 exact T6 hQ
theorem qq:Slot "set_iterator" "__iter__" "set_iterator.__iter__":=
 ((.of (owner:="set_iterator") (n:="__iter__") (by rw [aaK,Y6];kernel_rfl) (by decide +kernel) (by decide +kernel) (by decide +kernel)
  ((by first | exact .inl (by decide +kernel) | exact .inr (by decide +kernel))) (by rw [X4];kernel_rfl)))
theorem ym:aeF table "set_iterator.__iter__"=some Xv.«dict_keyiterator.__iter__»:=
 (ade (id':="dict_keyiterator.__iter__") (by kernel_rfl) rfl (by decide +kernel) (by kernel_rfl))
theorem yY (a:T7):ab_ "set_iterator.__iter__" ⟨[a],[]⟩:=by unfold ab_;kernel_rfl
section
variable {prog:Uv}{w:US}{A:UW}{E:T7->T_->Prop}{s:T_}
def kP (w:US) (a ep:Nat) (es:Array (Int×T7)):List T7:=(gG w a ep es).toList.map (·.2)
theorem Gf (hh:A.handled=none) (I a:UA) (hne:a≠I){es:Array (Int×T7)}{t:V5}:
  Walks prog w A I [I,a] [I] es.size (λi v=>(kP w a ep es)[i]?=some v) (λi h=>∃slot,h.get? I=some (oW a slot i es.size ep)/\kj h a (n_ w) es ep t/\(w.params.followText "set-order"=false->X5 t.place slot=i)) where
 sub:=λ_ hb=>by simp at hb;simp [hb]
 frame:=λ_ _ _ ⟨slot,h1,h2,h3⟩ hk=>⟨slot,hk I (by simp) _ h1,h2.keep λo e=>hk a (by simp) o e,h3⟩
 item:=λi s Q E hi ⟨slot,h1,h2,h3⟩ hQ=>by
  refine G_ hne h2 h1 h3 hi λh' slot' e q1 q2 q3 q4=>?_;refine hQ e.2 h' s.toks ?_ ⟨slot',q2,h2.keep λo e=>?_,q3⟩ λb o hb e=>?_
  ·unfold kP;rw [UK,Vv,q1];rfl
  ·rw [q4.2 a hne];exact e
  ·exact q4.extBut b o (λh=>hb (by simp [h])) e
 done:=λs Q E ⟨slot,h1,h2,h3⟩ hQ=>JR hh h2 h1 h3 λh' he=>hQ h' s.toks λb o hb e=>he b o (λh=>hb (by simp [h])) e
 self:=λi s Q E ⟨slot,h1,h2,h3⟩ hQ=>by have hT:s.TypeIs (.ref I) "set_iterator":=⟨_,h1,rfl⟩;refine YR hT qq (U0 qq hT ym ?_ (yY _));show Uu _ _ (ret (.ref I)) _ _ s;exact T6 ⟨_,rfl,"set_iterator",_,hT,f9.lookup,hQ⟩
theorem AU {a:UA}{es:Array (Int×T7)}{ep:Nat}{t:V5}{Q:List T7->T_->Prop}(hh:A.handled=none) (S:kj s.heap a (n_ w) es ep t) (hn:es.size<=76)
  (hQ:∀(h':VJ) (tk:Nat),(∀b o,s.heap.get? b=some o->h'.get? b=some o)->s.heap.objs.size < h'.objs.size->Q (kP w a ep es) {s with heap:=h',toks:=tk}):Uu (UB prog w) A (collect (.ref a)) Q E s:=by
 have ha:a < s.heap.objs.size:=Uq S.at_;have hT:s.TypeIs (.ref a) "set":=⟨_,S.at_,rfl⟩;unfold collect
 (refine T4 (aa_ (VM aaE ?_)))
 (rw [Ve aaF _])
 show Uu _ A.in1 (newList [] >>= λl=>again (.builtin "list.__iadd__" ⟨[l,.ref a],[]⟩)) _ _ s
 (refine T4 (UJ ?_))
 (refine T6 ⟨Wu YM _,VM abV ?_⟩)
 (rw [Ve YM _])
 generalize Sk:({cls:=.type "list",data:=.seq ([]:List T7).toArray}:Obj)=l0;have S1:kj (s.heap.push l0) a (n_ w) es ep t:=S.keep λo e=>T9 _ e;have hT1:Z_ {s with heap:=s.heap.push l0} (.ref a) "set":=⟨_,S1.at_,rfl⟩;show Uu _ A.in1 (Zx (.ref s.heap.objs.size) (.ref a) (.ref s.heap.objs.size)) _ _ _
 (unfold Zx)
 refine T4 (YY hT1 ?_);have h1:adv (.ref s.heap.objs.size) (.ref a)=false:=by show (s.heap.objs.size == a)=false;exact beq_eq_false_iff_ne.mpr (Xf ha)
 have h2:(YE "set" == YE "list")=false:=by decide
 have h3:(YE "set" == YE "tuple")=false:=by decide
 (simp only [h1,h2,h3,adD,Um,if_false])
 refine T4 (GS S1 ?_)
 (refine T4 (UN ?_))
 have z1:(s.heap.push l0).objs.size=s.heap.objs.size + 1:=W2 _ _;rw [z1];have S2:kj ((s.heap.push l0).push (oW a 0 0 es.size ep)) a (n_ w) es ep t:=S1.keep λo e=>T9 _ e;have hT2:Z_ {s with heap:=(s.heap.push l0).push (oW a 0 0 es.size ep)} (.ref a) "set":=⟨_,S2.at_,rfl⟩;refine GP hT2 ?_;refine Gg (by decide +kernel) ?_
 (refine T4 (Zn ?_))
 subst Sk;have hI:((s.heap.push {cls:=.type "list",data:=.seq ([]:List T7).toArray}).push (oW a 0 0 es.size ep)).get? (s.heap.objs.size + 1)=some (oW a 0 0 es.size ep):=by rw [<-z1];exact Uh _ rfl
 have hS₁:((s.heap.push {cls:=.type "list",data:=.seq ([]:List T7).toArray}).push (oW a 0 0 es.size ep)).get? s.heap.objs.size=some {cls:=.type "list",data:=.seq ([]:List T7).toArray}:=T9 _ (Uh _ rfl);refine T4 ?_
 (show Uu _ A.in1 (acD s.heap.objs.size (·.push .none) >>= λ_=>acD s.heap.objs.size (·.pop)) _ _ _)
 (refine T4 (Xa hS₁ rfl ?_))
 (have hS₂:=Vi (Vj (·.push UY)) hS₁ rfl)
 (refine Xa hS₂ rfl ?_)
 (have hS₃:=Vi (Vj (·.pop)) hS₂ rfl)
 have oth:∀b o,b≠s.heap.objs.size->((s.heap.push {cls:=.type "list",data:=.seq ([]:List T7).toArray}).push (oW a 0 0 es.size ep)).get? b=some o->
   ((((s.heap.push {cls:=.type "list",data:=.seq ([]:List T7).toArray}).push (oW a 0 0 es.size ep)).update s.heap.objs.size (Vj (·.push UY))).update s.heap.objs.size (Vj (·.pop))).get? b=some o:=
  (λb o hb e=>(Vr _ _ (VS hb)).trans ((Vr _ _ (VS hb)).trans e))
 have hne:a≠s.heap.objs.size + 1:=UE (V6 ha);have hSf:s.heap.objs.size∉[s.heap.objs.size + 1,a]:=by simp only [Uw,VP,or_false,not_or];exact ⟨UE (V4 _),Xf ha⟩
 obtain ⟨L,T⟩:=S.tab;refine T6 ⟨Wu F.plain_extend_loop _,codeAny_extend_loopS ((Gf (A:=A.in1) (prog:=prog) (w:=w) (es:=es) (ep:=ep) (t:=t) hh (s.heap.objs.size + 1) a hne).toS) (by rw [U7];omega) _ hSf _ es.size 0 _ _ _ rfl (UD _)
  ⟨0,oth _ _ (Xf (V4 _)) hI,S2.keep λo e=>oth _ _ (UE ha) e,λ_=>Cq T.sop⟩ hS₃ (ItemsOf.nil _) λs' acc' c' hm hS' hacc=>?_⟩
 (show Uu _ A (load s.heap.objs.size >>= _) _ _ s')
 (refine T4 (adk hS' ?_))
 have eacc:acc'.toList=kP w a ep es:=by
  obtain ⟨z,q⟩:=hacc;have lw:(kP w a ep es).length=es.size:=by unfold kP;rw [T8,Ux,mQ]
  refine Zd (by rw [Ux,z,lw]) λi x1 x2=>?_;have this:(kP w a ep es)[i]?=some (acc'[i]'(by simpa using x1)):=q i _ (Wg (by simpa using x1));rw [Uk x2] at this
  (exact (Vl this).symm)
 refine T6 ?_;rw [eacc]
 (obtain ⟨h',g',d',tk',os'⟩:=s')
 (have eg:g'=s.gens:=hm.gens)
 (have ed:d'=s.drawn:=hm.drawn)
 have eo:os'=s.os:=hm.os;subst eg;subst ed;subst eo;refine hQ h' tk' (λb o e=>?_) (Uq hS');have lb:=Uq e;refine hm.heap b o ?_ (oth b o (UE lb) (T9 _ (T9 _ e)));simp only [Uw,VP,or_false,not_or];exact ⟨UE lb,UE (V6 lb)⟩
end
theorem F5:aaL (.type "tuple") (.type "set")=pure false:=by rw [X4];kernel_rfl
theorem F4:aaL (.type "tuple") (.type "frozenset")=pure false:=by rw [X4];kernel_rfl
theorem ES:aaL (.type "list") (.type "set")=pure false:=by rw [X4];kernel_rfl
theorem ER:aaL (.type "list") (.type "frozenset")=pure false:=by rw [X4];kernel_rfl
abbrev gp (led:Bool):Obj:={cls:=.type "set",dict:=none,data:=.set #[] 0 (.fresh 0 0 led)}
abbrev dQ (w:US):Bool:=!w.params.followText "set-order"
section
variable {prog:Uv}{w:US}{A:UW}{E:T7->T_->Prop}{s:T_}{K:T5}{J:Hp}
theorem HZ (a:T7){Q₁:T7->T_->Prop}(h:Q₁ (.ref s.heap.objs.size) {s with heap:=s.heap.push (gp (dQ w))}):
  (Wh (UB prog w) A (.call (.builtin "set.__new__") ⟨[.type "set",a],[]⟩) (wants Q₁ E) s):=by
 refine (Zy ?_)
 (show Uu _ A.in1 (do Y_ "set.__new__" ⟨[.type "set",a],[]⟩;again (.builtin "set.__new__" ⟨[.type "set",a],[]⟩)) _ _ s)
 refine T4 (YK (PySem.F.newCall_set_1 a) (T6 ⟨Wu acQ _,VM F.entry_set_new ?_⟩))
 (rw [Ve acQ _])
 (unfold Xv.«set.__new__» acX)
 have hsub:=sub_set_self
 (obtain ⟨hp,g,d,tk,os⟩:=s)
 dsimp only
 wp_walk
 (refine WR (T6 ?_))
 dsimp only;simp only [newObj]
 (refine T4 (wpAny_alloc (T6 ?_)))
 exact T6 h
noncomputable def Gk (prog:Uv) (w:US) (A:UW) (E:T7->T_->Prop) (s:T_) (l:UA) (TQ:Array T7):Prop:=
 ∃(I:UA) (fp:List UA) (St:Nat->T_->Prop) (h2:VJ),WalksS prog w A.in1.in1.in1 I fp [I] (λa b=>b=a) TQ.size (λi v=>TQ[i]?=some v) St/\s.heap.objs.size∉fp/\s.heap.objs.size < I/\St 0 {s with heap:=h2}/\(∀b o,(s.heap.push (gp (dQ w))).get? b=some o->h2.get? b=some o)/\
  ∀R:T7->T_->Prop,R (.ref I) {s with heap:=h2}->Uu (UB prog w) A.in1.in1 (ZJ (.ref l)) R E {s with heap:=s.heap.push (gp (dQ w))}
theorem Av {ol:Obj}{Q:T7->T_->Prop}{TQ:Array T7}(P:VJ->Prop) (Rx:s.heap.get? l=some ol) (hcl:ol.cls=.type T) (To:aaL (.type T) (.type "set")=pure false) (Tn:aaL (.type T) (.type "frozenset")=pure false) (hne:(YE T == YE "dict")=false)
 (it:Gk prog w A E s l TQ)
 (loop:∀{I:UA}{fp:List UA}{St:Nat->T_->Prop}{h2:VJ}{R:_->T_->Prop},WalksS prog w A.in1.in1.in1 I fp [I] (λa b=>b=a) TQ.size (λi v=>TQ[i]?=some v) St->s.heap.objs.size∉fp->s.heap.objs.size < I->St 0 {s with heap:=h2}->(∀b o,(s.heap.push (gp (dQ w))).get? b=some o->h2.get? b=some o)->
 (∀s',Moved [s.heap.objs.size,I] (λa b=>b=a) {s with heap:=h2} s'->P s'.heap->R (.ok (.ret .none)) s')->Wh (UB prog w) A.in1.in1 (.builtin "set.update.loop" ⟨[.ref s.heap.objs.size,.ref I],[]⟩) R {s with heap:=h2})
 (h:∀(h':VJ) (tk:Nat),P h'->(∀b o,b < s.heap.objs.size->s.heap.get? b=some o->h'.get? b=some o)->Q (.ref s.heap.objs.size) {s with heap:=h',toks:=tk}):
  (Uu (UB prog w) A (call (.type "set") [.ref l]) Q E s):=by
 (obtain ⟨c,tl,Tf⟩:=XG.mro)
 (have hmade:=XG.made)
 have hsub:=XG.sub
 (refine aaV (Zy ?_))
 (show Uu _ _ (callAny (.type "set") _) _ _ _)
 (refine T6 ⟨Code.quiet_builtin _ (by decide +kernel),VM F.entry_type_call ?_⟩)
 (rw [Around.under_plain (weight_type_call_type "set" [.ref l] []) rfl])
 (have h1:=XG.notType)
 (have h2:=XG.canCreate)
 have hct:=PySem.F.typeCall_set_1 (.ref l)
 (repeat (any_goals (first | assumption | wp_step)))
 refine Xg (HZ (.ref l) (E:=E) (Q₁:=λobj s₁=>obj=.ref s.heap.objs.size/\s₁={s with heap:=s.heap.push (gp (dQ w))}) ⟨rfl,rfl⟩) λr s₁ hr=>?_;cases r with
 | error e=>exact hr
 | ok fl=>
  cases fl with
  | ret obj=>
   obtain ⟨rfl,rfl⟩:=hr;have hS:(s.heap.push (gp (dQ w))).get? s.heap.objs.size=some (gp (dQ w)):=Uh _ rfl;have hT:Z_ {s with heap:=s.heap.push (gp (dQ w))} (.ref s.heap.objs.size) "set":=⟨_,hS,rfl⟩
   (have hli:=XG.init.lookup)
   (have hbi:=XG.init.bind (.ref s.heap.objs.size))
   (repeat (any_goals (first | assumption | wp_step)))
   refine Xg (Zg (R:=wants (λr s₂=>r=.none/\∃h' tk,s₂={s with heap:=h',toks:=tk}/\P h'/\
     (∀b o,b < s.heap.objs.size->s.heap.get? b=some o->h'.get? b=some o)) E) XG.init.plain F.entry_set_init ((check_set_init_1 hT ?_))) λr₂ s₂ hr₂=>?_
   ·have Ss:(s.heap.push (gp (dQ w))).get? l=some ol:=T9 _ Rx;have Tv:Z_ {s with heap:=s.heap.push (gp (dQ w))} (.ref l) T:=⟨_,Ss,hcl⟩
    (unfold Xv.«set.__init__» noKeywords acu)
    generalize SS:ZJ=PI
    wp_walk
    subst SS;obtain ⟨I,fp,St,h2,W,hSf,hSI,st,hk,hit⟩:=it;refine hit _ (T4 (aa_ (loop W hSf hSI st hk λs' hm hp=>?_)))
    (obtain ⟨h',g',d',tk',os'⟩:=s')
    (have eg:g'=s.gens:=hm.gens)
    (have ed:d'=s.drawn:=hm.drawn)
    have eo:os'=s.os:=hm.os;subst eg;subst ed;subst eo;show Uu _ _ _ _ _ _;refine T6 ?_
    (show Uu _ _ (ret UY) _ _ _)
    refine T6 ⟨rfl,h',tk',rfl,hp,λb o hb e=>hm.heap b o ?_ (hk b o (T9 _ e))⟩;simp only [Uw,VP,or_false,not_or];exact ⟨UE hb,UE (Xh hb hSI)⟩
   ·cases r₂ with
    | error e=>exact hr₂
    | ok fl₂=>
     cases fl₂ with
     | ret r=>
      obtain ⟨rfl,h',tk,rfl,hp,hk'⟩:=hr₂
      (repeat (any_goals (first | assumption | wp_step)))
      exact h _ _ hp hk'
     | _=>exact hr₂.elim
  | _=>exact hr.elim
theorem GQ (hh:A.handled=none) (hl:s.heap.IsTuple l TQ):Gk prog w A E s l TQ:=by
 obtain ⟨ol,Rx,hcl,nl,hdl⟩:=id hl;have hl1:(s.heap.push (gp (dQ w))).IsTuple l TQ:=⟨_,T9 _ Rx,hcl,nl,hdl⟩;have hlS:l < s.heap.objs.size:=Uq Rx;have z1:(s.heap.push (gp (dQ w))).objs.size=s.heap.objs.size + 1:=W2 _ _;have RT:l≠(s.heap.push (gp (dQ w))).objs.size:=by rw [z1];exact UE (V6 hlS)
 refine ⟨_,_,_,_,(Walks.tuple (A:=A.in1.in1.in1) (by simp [hh]) (s.heap.push (gp (dQ w))).objs.size l RT TQ).toS,?_,?_,⟨⟨_,Uh _ rfl,rfl,rfl⟩,hl1.push _⟩,λb o e=>T9 _ e,λR q=>abA hl1 q⟩
 ·rw [z1];simp only [Uw,VP,or_false,not_or];exact ⟨UE (V4 _),Xf hlS⟩
 ·rw [z1];exact V4 _
theorem JY {l:UA}{TQ:Array T7}(hh:A.handled=none) (hl:s.heap.IsList l TQ):Gk prog w A E s l TQ:=by
 obtain ⟨ol,Rx,hcl,nl,hdl⟩:=id hl;have hl1:(s.heap.push (gp (dQ w))).IsList l TQ:=⟨_,T9 _ Rx,hcl,nl,hdl⟩;have hlS:l < s.heap.objs.size:=Uq Rx;have z1:(s.heap.push (gp (dQ w))).objs.size=s.heap.objs.size + 1:=W2 _ _;have RT:l≠(s.heap.push (gp (dQ w))).objs.size:=by rw [z1];exact UE (V6 hlS)
 refine ⟨_,_,_,_,(abS (A:=A.in1.in1.in1) (by simp [hh]) (s.heap.push (gp (dQ w))).objs.size l RT TQ).toS,?_,?_,⟨⟨_,Uh _ rfl,rfl,rfl⟩,hl1.push _⟩,λb o e=>T9 _ e,λR q=>XN hl1 q⟩
 ·rw [z1];simp only [Uw,VP,or_false,not_or];exact ⟨UE (V4 _),Xf hlS⟩
 ·rw [z1];exact V4 _
theorem EV {TQ:Array T7}{ds:List D}(N:HF K J s) (hz:TQ.size=ds.length) (hi:∀i v,TQ[i]?=some v->KV K J v (ds.getD i .non)) (hn:ds.length<=76) (hu:A.units + 16 < VI){St:Nat->T_->Prop}{h2:VJ}{R:_->T_->Prop}(W:WalksS prog w A.in1.in1.in1 I fp [I] (λa b=>b=a) TQ.size (λi v=>TQ[i]?=some v) St) (hSf:s.heap.objs.size∉fp) (hSI:s.heap.objs.size < I) (st:St 0 {s with heap:=h2})
 (hk:∀b o,(s.heap.push (gp (dQ w))).get? b=some o->h2.get? b=some o) (hR:∀s',Moved [s.heap.objs.size,I] (λa b=>b=a) {s with heap:=h2} s'->(∃ks es ep t,gY K J s'.heap s.heap.objs.size (dQ w) ks es ep t/\∀d,d∈ks↔d∈ds)->R (.ok (.ret .none)) s'):Wh (UB prog w) A.in1.in1 (.builtin "set.update.loop" ⟨[.ref s.heap.objs.size,.ref I],[]⟩) R {s with heap:=h2}:=by
 have all:(Ue TQ.size).map (λi=>ds.getD i .non)=ds:=by refine Zd (by simp [hz]) λi a b=>?_;simp [b]
 have hno:∀b,s.heap.objs.size<=b->s.heap.get? b=none:=λb hb=>by
  cases q:s.heap.get? b with
  | none=>rfl
  | some o=>exact absurd (Uq q) (Nat.not_lt.mpr hb)
 refine Ip (A:=A.in1.in1) (K:=K) (J:=J) (s0:=s) (led:=dQ w) W s.heap.objs.size hSf (λi=>ds.getD i .non) hi N (λb hb=>hno b ?_) (by simp only [in1_units];omega) (by omega) TQ.size 0 _ [] #[] 0 (.fresh 0 0 (dQ w)) (by omega) (UD _) st (λb o e=>hk b o (T9 _ e)) (Dq (hk _ _ (Uh _ rfl))) (λd=>by simp) λs' ks es ep t hm hS' hmem=>hR s' hm ⟨ks,es,ep,t,hS',by rw [all] at hmem;exact hmem⟩;rcases Uw.mp hb with rfl | hb
 ·exact Ud _
 ·rw [Ul.mp hb];exact ZI hSI
theorem Ax {TQ:Array T7}{ds:List D}{Q:T7->T_->Prop}(N:HF K J s) (hh:A.handled=none) (hl:s.heap.IsTuple l TQ) (hz:TQ.size=ds.length) (hi:∀i v,TQ[i]?=some v->KV K J v (ds.getD i .non)) (hn:ds.length<=76) (hu:A.units + 16 < VI)
 (h:∀(h':VJ) (tk:Nat) ks es ep t,gY K J h' s.heap.objs.size (dQ w) ks es ep t->(∀d,d∈ks↔d∈ds)->(∀b o,b < s.heap.objs.size->s.heap.get? b=some o->h'.get? b=some o)->Q (.ref s.heap.objs.size) {s with heap:=h',toks:=tk}):
  (Uu (UB prog w) A (call (.type "set") [.ref l]) Q E s):=by obtain ⟨ol,Rx,hcl,_⟩:=id hl;exact Av (λh'=>∃ks es ep t,gY K J h' s.heap.objs.size (dQ w) ks es ep t/\∀d,d∈ks↔d∈ds) Rx hcl F5 F4 (by decide) (GQ hh hl) (λW a b c d e=>EV N hz hi hn hu W a b c d e) λh' tk ⟨ks,es,ep,t,a,b⟩=>h h' tk ks es ep t a b
theorem AY {l:UA}{TQ:Array T7}{ds:List D}{Q:T7->T_->Prop}(N:HF K J s) (hh:A.handled=none) (hl:s.heap.IsList l TQ) (hz:TQ.size=ds.length) (hi:∀i v,TQ[i]?=some v->KV K J v (ds.getD i .non)) (hn:ds.length<=76) (hu:A.units + 16 < VI)
  (h:∀(h':VJ) (tk:Nat) ks es ep t,gY K J h' s.heap.objs.size (dQ w) ks es ep t->(∀d,d∈ks↔d∈ds)->(∀b o,b < s.heap.objs.size->s.heap.get? b=some o->h'.get? b=some o)->Q (.ref s.heap.objs.size) {s with heap:=h',toks:=tk}):
  (Uu (UB prog w) A (call (.type "set") [.ref l]) Q E s):=by obtain ⟨ol,Rx,hcl,_⟩:=id hl;exact Av (λh'=>∃ks es ep t,gY K J h' s.heap.objs.size (dQ w) ks es ep t/\∀d,d∈ks↔d∈ds) Rx hcl ES ER (by decide) (JY hh hl) (λW a b c d e=>EV N hz hi hn hu W a b c d e) λh' tk ⟨ks,es,ep,t,a,b⟩=>h h' tk ks es ep t a b
end
end DL
namespace DL
open PySem PySem.Spec PyProof.Rows L2 ST
open PySem.W (KasT kas_sort kas_ask)
mutual
noncomputable def formOf:D->Fm
 | .int _=>.i
 | .tup xs=>Br xs
 | _=>.b
noncomputable def Br:List D->Fm
 | []=>.tn
 | x::xs=>.tc (formOf x) (Br xs)
end
noncomputable def qN:Fm->D->Bool
 | .i,.int _=>true
 | .tn,.tup xs=>xs.isEmpty
 | .tc x r,.tup (y::ys)=>qN x y && qN r (.tup ys)
 | _,_=>false
theorem tu:∀(f:Fm) (d:D),qN f d=true->mH f d
 | .i,.int k,_=>⟨k,rfl⟩
 | .tn,.tup [],_=>⟨[],rfl,rfl⟩
 | .tc x r,.tup (y::ys),h=>by unfold qN at h;rw [Ub] at h;exact ⟨_,rfl,y,ys,rfl,tu x y h.1,tu r (.tup ys) h.2⟩
noncomputable def I0:List D->Bool
 | []=>true
 | d::r=>(match g8 d with
  | some k=>gS k (d::r)
  | none=>false) && (d::r).all (qN (formOf d))
def mw (ds:List D):Bool:=decide (ds.length < 64) && (areKeys ds && (decide (deps ds<=8) && I0 ds))
theorem Hj (h:I0 ds=true):∃k f,∀d∈ds,g8 d=some k/\mH f d:=by
 cases ds with
 | nil=>exact ⟨.i,.i,λ_ h=>nomatch h⟩
 | cons d r=>
  unfold I0 at h;rw [Ub] at h;cases q:g8 d with
  | none=>rw [q] at h;cases h.1
  | some k=>
   rw [q] at h;exact ⟨k,formOf d,λx hx=>⟨lW h.1 x hx,tu _ _ (Uz.mp h.2 x hx)⟩⟩
theorem sR {n:Nat}:∀{ds:List D},deps ds<=n->∀d∈ds,dep d<=n
 | [],_,_,h=>nomatch h
 | x::r,hn,d,h=>by
  unfold deps at hn
  (rcases Uw.mp h with rfl | h)
  ·omega
  ·exact sR (ds:=r) (by omega) d h
theorem nR {k:Hd}:∀{ds:List D},(∀d∈ds,g8 d=some k)->gS k ds=true
 | [],_=>rfl
 | x::r,h=>by unfold gS;rw [h x (Uc ..),nR λd hd=>h d (Ua _ hd)];cases k <;> rfl
structure O7 (ds:List D) (k:Hd) (f:Fm):Prop where
 ln:ds.length < 64
 ky:areKeys ds=true
 dp:deps ds<=8
 al:∀d∈ds,g8 d=some k/\mH f d
theorem tF (h:mw ds=true):∃k f,O7 ds k f:=by unfold mw at h;rw [Ub,Ub,Ub] at h;obtain ⟨h1,h2,h3,h4⟩:=h;obtain ⟨k,f,h5⟩:=Hj h4;exact ⟨k,f,of_decide_eq_true h1,h2,of_decide_eq_true h3,h5⟩
abbrev kO (X:Cx) (H0:Hp) (a:UA) (ds:List D):HO:=.ext λh=>∃ks es ep t,gY X.K H0 h a (dQ X.w) ks es ep t/\∀d,d∈ks↔d∈ds
section
variable {X:Cx}
theorem IV {K:T5}{J:Hp}{k:Hd}{f:Fm}{ds:List D}{vs:List V}{us:List T7}(o:O7 ds k f) (rs:aK K J ds vs) (rv:Vals vs us):∀i v,us.toArray[i]?=some v->KV K J v (ds.getD i .non):=λi v q=>by
 have l1:vs.length=us.length:=rv.length;have l2:ds.length=vs.length:=rs.length;have hi:i < us.length:=by have:=(VC.mp q).1;simpa using this
 have e:us.getD i UY=v:=by simp at q;simp [Zz,q]
 have r1:=jT rs (i:=i) (by omega);have r2:=jV rv (i:=i) (by omega);rw [e] at r2;have m:=ir (ds:=ds) (i:=i) (by omega);refine ⟨?_,rM o.ky _ m,sR o.dp _ m,_,r1,r2⟩;have hh:=(o.al _ m).1;generalize dz ds i=d at r1 hh;generalize vs.getD i V.non=vv at r1 r2;cases d with
 | tup xs=>cases r1 with
  | tup _ _=>cases r2;exact ⟨_,rfl⟩
 | _=>cases hh
theorem Eh (hu:X.A.units + 64 < VI) (hc:X.calm=true):cR X (.type "set") (λxs H Q=>∃p vs ds J0,xs=[.ref p]/\c7 X.K H p vs/\aS J0 H/\aK X.K J0 ds vs/\mw ds=true/\∀l,H l=none->Q (.ref l) (upd H l (kO X J0 l ds))):=by intro TN s σ H xs us Q I r h;obtain ⟨p,vs,ds,J0,rfl,hq,sm,rs,oks,q⟩:=h;obtain ⟨u,rfl,rx⟩:=vals1 r;cases rx;obtain ⟨k,f,o⟩:=tF oks;have N:HF X.K J0 s:=HF.of (c:=⟨X.K,H,H,λ_=>True⟩) I sm;obtain ⟨TR,r',pt,hz⟩:=I.tuple hq;refine Ax N (I.ok.hd hc) pt (by simp [<-r'.length,rs.length]) (IV o rs r') (by have:=o.ln;omega) (by omega) λh' tk ks es ep t S hm kp=>?_;exact ⟨.ref s.heap.objs.size,_,I.laid (t':=tk) (λb o e=>kp b o (Uq e) e) (Ud _) (show cF X.prog X.w _ _ _ (kO X J0 s.heap.objs.size ds) from ⟨⟨ks,es,ep,t,S,hm⟩,⟨_,S.at_⟩,λh1 h2 ⟨ks,es,ep,t,S,hm⟩ e=>⟨ks,es,ep,t,S.keep e,hm⟩⟩),rfl,q _ (I.hok.fresh (Ud _))⟩
theorem Eg (hu:X.A.units + 64 < VI) (hc:X.calm=true):cR X (.type "set") (λxs H Q=>∃p vs ds J0,xs=[.ref p]/\cg X.K H p vs/\aS J0 H/\aK X.K J0 ds vs/\mw ds=true/\∀l,H l=none->Q (.ref l) (upd H l (kO X J0 l ds))):=by intro TN s σ H xs us Q I r h;obtain ⟨p,vs,ds,J0,rfl,hq,sm,rs,oks,q⟩:=h;obtain ⟨u,rfl,rx⟩:=vals1 r;cases rx;obtain ⟨k,f,o⟩:=tF oks;have N:HF X.K J0 s:=HF.of (c:=⟨X.K,H,H,λ_=>True⟩) I sm;obtain ⟨TR,r',pl,hz⟩:=I.list hq;refine AY N (I.ok.hd hc) pl.isList (by simp [<-r'.length,rs.length]) (IV o rs r') (by have:=o.ln;omega) (by omega) λh' tk ks es ep t S hm kp=>?_;exact ⟨.ref s.heap.objs.size,_,I.laid (t':=tk) (λb o e=>kp b o (Uq e) e) (Ud _) (show cF X.prog X.w _ _ _ (kO X J0 s.heap.objs.size ds) from ⟨⟨ks,es,ep,t,S,hm⟩,⟨_,S.at_⟩,λh1 h2 ⟨ks,es,ep,t,S,hm⟩ e=>⟨ks,es,ep,t,S.keep e,hm⟩⟩),rfl,q _ (I.hok.fresh (Ud _))⟩
theorem Ef (hu:X.A.units + 64 < VI) (hc:X.calm=true):cR X (.type "set") (λxs H Q=>∃p vs ds J0,xs=[.ref p]/\(c7 X.K H p vs\/cg X.K H p vs)/\aS J0 H/\aK X.K J0 ds vs/\mw ds=true/\∀l,H l=none->Q (.ref l) (upd H l (kO X J0 l ds))):=λTN s σ H xs us Q I r ⟨p,vs,ds,J0,h1,h2,h3⟩=>
 h2.elim (λh2=>Eh hu hc TN s σ H xs us Q I r ⟨p,vs,ds,J0,h1,h2,h3⟩) λh2=>Eg hu hc TN s σ H xs us Q I r ⟨p,vs,ds,J0,h1,h2,h3⟩
end
noncomputable def dd:List D->List D
 | []=>[]
 | x::xs=>if (dd xs).any (bq x)=true then dd xs else x::dd xs
def fV (ds:List D):List D:=bX (dd ds)
section
variable {P:D->Prop}
theorem yu (p:gm P):∀(ds:List D),(∀x∈ds,P x)->(dd ds).Nodup/\∀y,y∈dd ds↔y∈ds
 | [],_=>⟨Wz,λ_=>.rfl⟩
 | x::xs,h=>by
  obtain ⟨h1,h2⟩:=yu p xs λy hy=>h y (Ua _ hy);have px:=h x (Uc ..);have eqv:(dd xs).any (bq x)=true↔x∈xs:=by
   rw [Vn];constructor
   ·rintro ⟨z,hz,e⟩;have hz':=(h2 z).mp hz;rw [(p.eq x z px (h z (Ua _ hz'))).mp e];exact hz'
   ·intro hx;exact ⟨x,(h2 x).mpr hx,(p.eq x x px px).mpr rfl⟩
  unfold dd;by_cases c:(dd xs).any (bq x)=true
  ·rw [if_pos c];refine ⟨h1,λy=>?_⟩;rw [h2 y,Uw];exact ⟨.inr,λz=>z.elim (λe=>e▸eqv.mp c) id⟩
  ·rw [if_neg c];refine ⟨WH.mpr ⟨λz=>c (eqv.mpr ((h2 x).mp z)),h1⟩,λy=>?_⟩;rw [Uw,Uw,h2 y]
theorem Gb (p:gm P):∀{A B:List D},(∀x∈A,P x)->A.Pairwise (λa b=>eF a b=true)->B.Pairwise (λa b=>eF a b=true)->(∀y,y∈A↔y∈B)->A=B
 | [],[],_,_,_,_=>rfl
 | [],b::B,_,_,_,h=>by cases (h b).mpr Uc
 | a::A,[],_,_,_,h=>by cases (h a).mp Uc
 | a::A,b::B,hp,hA,hB,h=>by
  obtain ⟨a1,a2⟩:=WV.mp hA;obtain ⟨b1,b2⟩:=WV.mp hB;have pa:=hp a Uc;have pb:=hp b ((h b).mpr Uc);have no:∀z,P z->eF z z=true->False:=λz pz q=>by have:=p.asy z z pz pz q;rw [q] at this;cases this
  have e:a=b:=by
   rcases Uw.mp ((h a).mp Uc) with e | e
   ·exact e
   ·rcases Uw.mp ((h b).mpr Uc) with f | f
    ·exact f.symm
    ·exact (no a pa (p.tra _ _ _ pa pb pa (a1 b f) (b1 a e))).elim
  subst e;have:A=B:=by
   refine Gb p (λx hx=>hp x (Ua _ hx)) a2 b2 λy=>⟨λhy=>?_,λhy=>?_⟩
   ·rcases Uw.mp ((h y).mp (Ua _ hy)) with e | e
    ·subst e;exact (no y pa (a1 y hy)).elim
    ·exact e
   ·rcases Uw.mp ((h y).mpr (Ua _ hy)) with e | e
    ·subst e;exact (no y pa (b1 y hy)).elim
    ·exact e
  rw [this]
theorem wA (p:gm P){ds:List D}(h:∀x∈ds,P x) (nd:ds.Nodup):(bX ds).Pairwise λa b=>eF a b=true:=by
 have up:=Ia p ds h;have pm:=jD ds;have nd':(bX ds).Nodup:=pm.nodup_iff.mpr nd;have both:=aeN up nd';refine (Y5.mp both).imp ?_;rintro a b ⟨ha,hb,h1,h2⟩;cases q:eF a b with
 | true=>rfl
 | false=>exact absurd (p.tri a b (h a (pm.mem_iff.mp ha)) (h b (pm.mem_iff.mp hb)) q h1) h2
theorem Ib (p:gm P){ds ks:List D}(h:∀x∈ds,P x) (nd:ks.Nodup) (hm:∀d,d∈ks↔d∈ds):bX ks=fV ds:=by
 obtain ⟨h1,h2⟩:=yu p ds h;have hk:∀x∈ks,P x:=λx hx=>h x ((hm x).mp hx);have hd:∀x∈dd ds,P x:=λx hx=>h x ((h2 x).mp hx);exact Gb p (λx hx=>hk x ((jD ks).mem_iff.mp hx)) (wA p hk nd) (wA p hd h1) λy=>by rw [(jD ks).mem_iff,hm y];show _↔y∈bX (dd ds);rw [(jD (dd ds)).mem_iff,h2 y]
theorem Ic (p:gm P) (h:∀x∈ds,P x):(fV ds).Pairwise (λa b=>eF a b=true)/\∀d,d∈fV ds↔d∈ds:=by obtain ⟨h1,h2⟩:=yu p ds h;exact ⟨wA p (λx hx=>h x ((h2 x).mp hx)) h1,λd=>by show d∈bX (dd ds)↔_;rw [(jD (dd ds)).mem_iff,h2 d]⟩
end
theorem fQ.reps {K:T5}{J:Hp}{es:List (Int×T7)}{ks:List D}(h:fQ K J es ks):∃vs,aK K J ks vs/\Vals vs (es.map (·.2)):=by
 induction h with
 | nil=>exact ⟨_,.nil,.nil⟩
 | cons _ hk _ ih=>
  obtain ⟨vs,h1,h2⟩:=ih;obtain ⟨_,_,_,v,r,rv⟩:=hk;exact ⟨v::vs,.cons r h1,.cons rv h2⟩
section
variable {X:Cx}
theorem Cs (hu:X.A.units + 64 < VI) (hc:X.calm=true):cR X (.builtin "sorted") (λxs H Q=>∃p ds J0,xs=[.ref p]/\H p=some (kO X J0 p ds)/\aS J0 H/\mw ds=true/\∀l vs',H l=none->aK X.K J0 (fV ds) vs'->Q (.ref l) (upd H l (.lst vs'))):=by
 intro TN s σ H xs us Q I r h;obtain ⟨p,ds,J0,rfl,hp,sm,oks,q⟩:=h;obtain ⟨u,rfl,rx⟩:=vals1 r;cases rx;obtain ⟨k,f,o⟩:=tF oks;have hh:X.A.handled=none:=I.ok.hd hc;have N:HF X.K J0 s:=HF.of (c:=⟨X.K,H,H,λ_=>True⟩) I sm;obtain ⟨⟨ks,es,ep,t,S,hm⟩,_⟩:=(show cF X.prog X.w H s.heap p (kO X J0 p ds) from I.hok p _ hp);obtain ⟨ks',pm,en'⟩:=S.en.perm (sI X.w p ep es).symm;have nd':ks'.Nodup:=pm.nodup_iff.mp S.nd;have hm':∀d,d∈ks'↔d∈ds:=λd=>by rw [<-pm.mem_iff,hm d]
 obtain ⟨vs,rs,rv⟩:=en'.reps;have hv:kP X.w p ep es=(gG X.w p ep es).toList.map (·.2):=rfl;rw [<-hv] at rv;generalize hits:kP X.w p ep es=TR at rv;have l1:vs.length=TR.length:=rv.length;have l2:ks'.length=vs.length:=rs.length;have len:ks'.length<=ds.length:=VG nd' λd hd=>(hm' d).mp hd;have l64:=o.ln;have les:es.size=ks'.length:=by rw [<-Ux,S.en.length,pm.length_eq]
 have out:=Ib (oE f) (λx hx=>(o.al x hx).2) nd' hm';refine qv I (λE C h=>AU hh S.wk (by omega) λh1 tk k1 le=>hits▸h h1 tk k1 (ZI le)) rv l2 (by omega) (DY (N.keep λ_ _ e=>e) rs rv (k:=k) (λd hd=>⟨(o.al d ((hm' d).mp hd)).1,UC (sR o.dp d ((hm' d).mp hd)) (by decide)⟩) (nR λd hd=>(o.al d ((hm' d).mp hd)).1) (λx hx y hy=>(oE f).lt _ _ (o.al _ ((hm' x).mp hx)).2 (o.al _ ((hm' y).mp hy)).2) hu) λl vs' hl rr=>q l vs' hl (out▸rr _ rs)
end
end DL
namespace DL
open PySem PySem.Spec PyProof.Rows L2 ST
section
variable {X:Cx}{c:C}{e:UU}{pos pos2:Pos}
theorem D9:Vd "set"=some (.type "set"):=by decide +kernel
noncomputable def lE:List R->M R
 | [r]=>iz r >>= λxs=>if mw xs=true then .ok (.l .fresh (fV xs)) else .bad
 | _=>.bad
noncomputable def HP (X:Cx):List V->Hp->VK->Prop:=λxs H Q=>∃p vs ds J0,xs=[.ref p]/\(c7 X.K H p vs\/cg X.K H p vs)/\aS J0 H/\aK X.K J0 ds vs/\mw ds=true/\∀l,H l=none->Q (.ref l) (upd H l (kO X J0 l ds))
noncomputable def HQ (X:Cx):List V->Hp->VK->Prop:=λxs H Q=>∃p ds J0,xs=[.ref p]/\H p=some (kO X J0 p ds)/\aS J0 H/\mw ds=true/\∀l vs',H l=none->aK X.K J0 (fV ds) vs'->Q (.ref l) (upd H l (.lst vs'))
theorem wg {J H:Hp}{p:UA}{vs:List V}{ds:List D}{Q:VK}(hq:c7 X.K H p vs\/cg X.K H p vs) (sm:aS J H) (rs:aK X.K J ds vs) (ok:mw ds=true) (q:∀l o l2 vs',H l=none->upd H l o l2=none->aK X.K J (fV ds) vs'->Q (.ref l2) (upd (upd H l o) l2 (.lst vs'))):
  HP X [.ref p] H λv H2=>HQ X [v] H2 Q:=
 ⟨p,vs,ds,J,rfl,hq,sm,rs,ok,λl hl=>⟨l,ds,J,rfl,bO,(Ext.new sm hl _).sub,ok,λl2 vs' h2 rr=>q l _ l2 vs' hl h2 rr⟩⟩
theorem Ag {p p2:Pos}{gs:G (List R)}(hu:X.A.units + 64 < VI) (ha:DS X c [e] gs) (hm:X.mg "sorted"=none) (hm2:X.mg "set"=none) (hK:X.K=c.K:=by rfl) (hc:X.calm=true:=by rfl) (hg:Gl X "sorted":=by rfl) (RP:Gl X "set":=by rfl)
  (he:Uj [.Call (.Name "set" p2) [e] [] pos2] X.env=(false,eval (.Call (.Name "set" p2) [e] [] pos2) X.env)::Uj [] X.env:=by rfl) (hpl:(Vx pos (Uj [] X.env)).any (·.1)=false:=by rfl)
  (RC:Uj [e] X.env=(false,eval e X.env)::Uj [] X.env:=by rfl) (Ry:(Vx pos2 (Uj [] X.env)).any (·.1)=false:=by rfl):
  PD X c (.Call (.Name "sorted" p) [.Call (.Name "set" p2) [e] [] pos2] [] pos) (gN lE gs):=by
 have h1:=mz (p:=p2) (pos:=pos2) (show cR X (.type "set") (HP X) from Ef hu hc) RP hm2 D9 ha (by decide) (by decide) RC Ry;have h2:=tH (p:=p) (pos:=pos) (show cR X (.builtin "sorted") (HQ X) from Cs hu hc) hg hm ly (eH h1 gD he) (by decide) (by decide) he hpl;refine Hx (ta:=Dw) (f:=lE) (r:=λvs H1 Q=>HP X vs H1 λv H2=>HQ X [v] H2 Q) h2 rfl ?_;intro He J H xs vs Q hp rs w;unfold lE at w;split at w
 ·obtain ⟨v,rfl,r⟩:=rs.one;rename_i r0;obtain ⟨xs,q,w⟩:=jf w;split at w
  ·rename_i ok;have fin:∀(vs:List V),aK c.K J xs vs->∀l o l2 vs',H l=none->upd H l o l2=none->aK X.K J (fV xs) vs'->Q (.ref l2) (upd (upd H l o) l2 (.lst vs')):=λvs _ l o l2 vs' hl h2 rr=>by rw [hK] at rr;have e1:=Ext.new hp.sub hl o;have e2:=Ext.new e1.sub h2 (.lst vs');exact w _ _ _ (e1.trans e2) (RR.from e1.h (gF (hp.ext e1) h2 rr))
   cases r0 with
   | d y=>
    cases y with
    | tup ys=>
     cases q;cases r with
     | tup h hs=>exact wg (.inl (by rw [hK];exact fU hp.sub h)) hp.sub (by rw [hK];exact hs) ok (fin _ hs)
    | lst ys=>
     cases q;obtain ⟨p,vs,rfl,hq,hs⟩:=RR.list hp r rfl;exact wg (.inr (by rw [hK];exact hq)) hp.sub (by rw [hK];exact hs) ok (fin _ hs)
    | _=>cases q
   | mo _ _=>cases q
   | mb _ _=>cases q
   | mf _ _=>cases q
   | ln _=>cases q
   | l m ys=>
    cases q;obtain ⟨p,vs,rfl,hq,hs⟩:=RR.list hp r rfl;exact wg (.inr (by rw [hK];exact hq)) hp.sub (by rw [hK];exact hs) ok (fin _ hs)
  ·exact w.elim
 ·exact w.elim
end
end DL
namespace DL
open PySem PySem.Spec PyProof.Rows L2 DX
section
variable {X:Cx}{c:C}{e:UU}{pos pos2:Pos}
theorem FD {p p2:Pos}{gs:G (List R)}(hu:X.A.units + 64 < VI) (ha:jG X c [e] gs) (hm:X.mg "sorted"=none) (hm2:X.mg "set"=none) (hK:X.K=c.K:=by rfl) (hc:X.calm=true:=by rfl) (hg:Gl X "sorted":=by rfl) (RP:Gl X "set":=by rfl)
  (he:Uj [.Call (.Name "set" p2) [e] [] pos2] X.env=(false,eval (.Call (.Name "set" p2) [e] [] pos2) X.env)::Uj [] X.env:=by rfl) (hpl:(Vx pos (Uj [] X.env)).any (·.1)=false:=by rfl)
  (RC:Uj [e] X.env=(false,eval e X.env)::Uj [] X.env:=by rfl) (Ry:(Vx pos2 (Uj [] X.env)).any (·.1)=false:=by rfl):
  QD X c (.Call (.Name "sorted" p) [.Call (.Name "set" p2) [e] [] pos2] [] pos) (gN lE gs):=⟨Ag hu ha.h hm hm2 hK hc hg RP he hpl RC Ry⟩
end
end DL
namespace DL
open PySem PySem.Spec PyProof.Rows L2 ST PySem.SetTable
end DL
namespace DL
open PySem PySem.Spec PyProof.Rows L2 ST
end DL
namespace DL
open PySem PySem.Spec PyProof.Rows L2 ST DX
open PySem.W (KasT kas_sort kas_ask)
end DL
namespace DL
open PySem PySem.Spec PyProof.Rows L2 ST DX
section
variable {X:Cx}{c:C}{e:UU}{pos pos2:Pos}
def zI:List R->M R:=lE
theorem FE {gs:G (List R)}(hu:X.A.units + 64 < VI) (ha:jG X c [e] gs) (hm:X.mg "sorted"=none) (hm2:X.mg "set"=none) (hK:X.K=c.K:=by rfl) (hc:X.calm=true:=by rfl) (hg:Gl X "sorted":=by rfl) (RP:Gl X "set":=by rfl)
 (he:Uj [.Call (.Name "set" p2) [e] [] pos2] X.env=(false,eval (.Call (.Name "set" p2) [e] [] pos2) X.env)::Uj [] X.env:=by rfl) (hpl:(Vx pos (Uj [] X.env)).any (·.1)=false:=by rfl)
 (RC:Uj [e] X.env=(false,eval e X.env)::Uj [] X.env:=by rfl) (Ry:(Vx pos2 (Uj [] X.env)).any (·.1)=false:=by rfl):
  QD X c (.Call (.Name "sorted" p) [.Call (.Name "set" p2) [e] [] pos2] [] pos) (gN zI gs):=⟨Ag hu ha.h hm hm2 hK hc hg RP he hpl RC Ry⟩
end
end DL
namespace DL
open PySem PySem.Spec PyProof.Rows L2 DX
end DL
namespace K55
open PySem DL
def rG:List Str:=["told","least","most"]
noncomputable def rY:G O:=(bL (iN (fh (bB (gN (aT 1 K01.o9) (ao (af 0) aG)))) (iN (bB (g2 (kD λi j=>.bl (decide (i < j))) (af 0) (af 1))) (bB (g2 (kD λi j=>.bl (decide (j < i))) (af 0) (af 2))))) yy c5)
def fR (as:List S):M R:=fin (rY (a_ rG as))
end K55
namespace K55
open PySem DL K01 WP K51 K52
theorem uw (a b:Nat):bq (dN a) (dN b)=(a == b):=by
 show ((a:Int) == (b:Int))=_;by_cases h:a=b
 ·subst h;simp
 ·rw [beq_eq_false_iff_ne.mpr h,beq_eq_false_iff_ne.mpr (by omega)]
structure DN (n:Nat) (w:Wd):Prop where
 mp:∀r∈w.ms,r.2.length<=n/\∀p∈r.2,p < w.m
 ap:∀r∈w.ar,r.2.length<=n/\∀p∈r.2,p.1 < w.m/\p.2 < w.m
def em (m:Nat) (x:Nat×Nat):Nat:=if x.1=0 then x.2 else x.2 + m
theorem inN (l:Nat) (xs:List Nat):inD (dN l) (xs.map dN)=decide (l∈xs):=by
 unfold inD;rw [aaH,U_,Vn,decide_eq_true_eq];constructor
 ·rintro ⟨x,hx,e⟩;have e:bq (dN x) (dN l)=true:=e;rw [uw] at e;rw [<-eq_of_beq e];exact hx
 ·intro h;exact ⟨l,h,by show bq (dN l) (dN l)=true;rw [uw];simp⟩
theorem wY (a b:Nat×Nat):bq (dP a) (dP b)=decide (a=b):=by
 have:bq (dP a) (dP b)=(bq (dN a.1) (dN b.1) && (bq (dN a.2) (dN b.2) && true)):=by show bq (.tup [dN a.1,dN a.2]) (.tup [dN b.1,dN b.2])=_;rw [jM,gM,gM,cB]
 rw [this,uw,uw,U_];obtain ⟨a1,a2⟩:=a;obtain ⟨b1,b2⟩:=b;simp
theorem Pc (l:Nat×Nat) (xs:List (Nat×Nat)):inD (dP l) (xs.map dP)=decide (l∈xs):=by
 unfold inD;rw [aaH,U_,Vn,decide_eq_true_eq];constructor
 ·rintro ⟨x,hx,e⟩;have e:bq (dP x) (dP l)=true:=e;rw [wY,decide_eq_true_eq] at e;rw [<-e];exact hx
 ·intro h;exact ⟨l,h,by show bq (dP l) (dP l)=true;rw [wY];simp⟩
theorem G0 {env:Ev}{Q:O->Prop}{g:G R}{i j k:Nat}{xs zs:List D}(h1:env[i]?=some (some (.own zs))) (h2:env[j]?=some (some (.own xs))) (hij:i≠j) (h:g env=.ok (.d (.int k))) (hk:k < xs.length) (lz:zs.length < 1000) (lx:xs.length<=1000)
  (c:Q (.nx ((env.set j (some (.own (xs.eraseIdx k)))).set i (some (.own (zs++[xs[k]])))))):Wp (ni i j g env) Q:=by refine ⟨_,?_,c⟩;unfold ni;rw [h1,h2];show (if i=j then M.bad else (g env >>= _))=_;rw [if_neg hij,h,aN];show (if 0<=(k:Int)/\(k:Int).toNat < xs.length/\zs.length < sizeLine/\xs.length<=sizeLine then _ else _)=_;rw [if_pos ⟨by omega,by simpa using hk,UG lz (fj (Ud _)),fj lx⟩];rw [Vo,Uk hk]
noncomputable def B6:D->Nat
 | .int i=>i.toNat
 | _=>0
noncomputable def B7:D->Nat×Nat
 | .tup [x,y]=>(B6 x,B6 y)
 | _=>(0,0)
theorem O3 (n:Nat):B6 (dN n)=n:=rfl
theorem Jr (n:Nat×Nat):B7 (dP n)=n:=rfl
theorem back {α:Type}(h:α->D) (u:D->α) (hu:∀x,u (h x)=x){l:List D}(hl:∀d∈l,∃x,d=h x):(l.map u).map h=l:=by rw [UM];refine (Wa (g:=id) λd hd=>?_).trans (List.map_id _);obtain ⟨x,rfl⟩:=hl d hd;show h (u (h x))=h x;rw [hu]
theorem xQ {α:Type}(h:α->D) (u:D->α) (hu:∀x,u (h x)=x) (xs:List α):((bX (xs.map h)).map u).map h=bX (xs.map h):=back h u hu λd hd=>by obtain ⟨x,_,rfl⟩:=Ui.mp (FZ hd);exact ⟨x,rfl⟩
def pF:Fm:=.tc .i (.tc .i .tn)
theorem zO (p:Nat×Nat):mH pF (dP p):=⟨_,rfl,_,_,rfl,⟨_,rfl⟩,_,rfl,_,_,rfl,⟨_,rfl⟩,[],rfl,rfl⟩
theorem Om (xs:List Nat) (hl:xs.length < 64):Ad (xs.map dN)=true:=by unfold Ad;rw [T8,decide_eq_true hl,Xn,Uz];intro d hd;obtain ⟨x,_,rfl⟩:=Ui.mp hd;rfl
theorem Mu (xs:List (Nat×Nat)):∀d∈xs.map dP,g8 d=some .i:=λd hd=>by obtain ⟨x,_,rfl⟩:=Ui.mp hd;rfl
theorem Oo (xs:List (Nat×Nat)) (hl:xs.length < 64):xw (xs.map dP)=true:=by
 have S6:=zB xs;have hc:zw (xs.map dP)=true:=by unfold zw;rw [Uz];intro x hx;rw [Uz];intro y hy;obtain ⟨a,_,rfl⟩:=Ui.mp hx;obtain ⟨b,_,rfl⟩:=Ui.mp hy;exact (oE pF).lt _ _ (zO a) (zO b)
 unfold xw;rw [hc,decide_eq_true S6,T8,decide_eq_true hl];cases xs with
 | nil=>rfl
 | cons x xs=>
  have hh:Hl ((x::xs).map dP)=true:=by show gS .i ((x::xs).map dP)=true;exact nR (Mu (x::xs))
  rw [hh];simp
theorem P0 (xs:List Nat) (hl:xs.length < 64):ng [.l .fresh (xs.map dN)]=.ok (.l .fresh (bX (xs.map dN))):=by show (if xw (xs.map dN)=true then M.ok (R.l .fresh (bX (xs.map dN))) else if Ad (xs.map dN)=true then M.ok (R.l .fresh (bX (xs.map dN))) else .bad)=_;rw [if_pos (Om xs hl)];split <;> rfl
theorem P1 (xs:List (Nat×Nat)) (hl:xs.length < 64):ng [.l .fresh (xs.map dP)]=.ok (.l .fresh (bX (xs.map dP))):=by show (if xw (xs.map dP)=true then M.ok (R.l .fresh (bX (xs.map dP))) else if Ad (xs.map dP)=true then M.ok (R.l .fresh (bX (xs.map dP))) else .bad)=_;rw [if_pos (Oo xs hl)]
noncomputable def iB (w:Wd) (ps:List Nat):Wd:=⟨w.m,w.ms.map λr=>(r.1,(bX ((r.2.map λp=>ps.getD p 0).map dN)).map B6),w.ar.map λr=>(r.1,(bX ((r.2.map λp=>(ps.getD p.1 0,ps.getD p.2 0)).map dP)).map B7)⟩
theorem I_ (xs:List (Nat×Nat)) (hl:xs.length < 64):mw (xs.map dP)=true:=by
 have h1:areKeys (xs.map dP)=true:=by
  induction xs with
  | nil=>rfl
  | cons x xs ih=>
   rw [Ur];show (isKey (dP x) && areKeys (xs.map dP))=true;rw [ih (by simp at hl;omega)];rfl
 have h2:deps (xs.map dP)<=8:=eu λd hd=>by obtain ⟨x,_,rfl⟩:=Ui.mp hd;exact (by decide:(1:Nat)<=8)
 have h3:I0 (xs.map dP)=true:=by
  cases xs with
  | nil=>rfl
  | cons x xs=>
   show (gS .i ((x::xs).map dP) && ((x::xs).map dP).all (qN pF))=true;rw [nR (Mu (x::xs)),Xn,Uz];intro d hd;obtain ⟨y,_,rfl⟩:=Ui.mp hd;rfl
 unfold mw;rw [h1,h3,decide_eq_true h2,T8,decide_eq_true hl];rfl
theorem P4 (xs:List (Nat×Nat)) (hl:xs.length < 64):zI [.d (.tup (xs.map dP))]=.ok (.l .fresh (fV (xs.map dP))):=by show (if mw (xs.map dP)=true then M.ok (R.l .fresh (fV (xs.map dP))) else _)=_;rw [if_pos (I_ xs hl)]
theorem F1 {P:D->Prop}(p:gm P){ds:List D}(h:∀x∈ds,P x):(fV ds).length<=ds.length/\∀d∈fV ds,d∈ds:=by obtain ⟨h1,h2⟩:=yu p ds h;refine ⟨?_,λd hd=>((Ic p h).2 d).mp hd⟩;show (bX (dd ds)).length<=_;rw [FY];exact VG h1 λd hd=>(h2 d).mp hd
theorem Me (xs:List D) (k:Nat) (hk:k<=xs.length):cutD xs none (some (k:Int))=xs.take k:=by unfold cutD;rw [HT.HY,HT.Lc,Nat.min_eq_left hk];simp
theorem MV {i:Int}(h:0<=i):∃k:Nat,i=k:=⟨i.toNat,by omega⟩
end K55
namespace DL
open PySem PySem.Spec PyProof.Rows L2 DX
noncomputable def bP (gt:GT) (gts:G Bool) (act:Ev->M (List D×Ev)):List D->Ev->M (List D×Ev)
 | [],env=>.ok ([],env)
 | d::ds,env=>gt d env >>= λe=>gts e >>= λk=>if k=true then act e >>= λr=>bP gt gts act ds r.2 >>= λz=>.ok (r.1++z.1,z.2) else bP gt gts act ds e
def yS (env:Ev) (σ:L2.St) (p:UA):Prop:=∀(j:Nat) (xs:Mn),env[j]?=some (some (mS xs))->σ[j]?≠some (some (.ref p))
structure vn (Acc:Hp->Hp->List D->Prop):Prop where
 ext:∀{J H J' H':Hp}{ys:List D},Acc J H ys->Ext J H J' H'->Acc J' H' ys
noncomputable def sJ (X:Cx) (c:C) (p:UA) (Acc:Hp->Hp->List D->Prop) (J2 H2:Hp) (N:Nat) (m:Sem Unit) (act:Ev->M (List D×Ev)):Prop:=
 ∀(TN:List (UA×Obj)) (s:T_) (σ:L2.St) (H J:Hp) (env:Ev) (ys:List D) (Qf:List D×Ev->Prop),Inv X TN σ H s->Ext J2 H2 J H->SR c J H σ env->yS env σ p->Acc J H ys->ys.length + N<=sizeLine->cK (act env) Qf c.T->
  Uu (UB X.prog X.w) X.A m (λ_ s'=>∃σ' H' J' r,Inv X TN σ' H' s'/\Ext J2 H2 J' H'/\aS J J'/\SR c J' H' σ' r.2/\yS r.2 σ' p/\Acc J' H' (ys++r.1)/\r.1.length<=N/\Qf r) (λ_ _=>False) s
abbrev F6 (ifs:List UU) (env:Env):Sem Bool:=forIn ifs true λc r=>if r=true then do let ok <-aa5 c env (eval c env);pure (WI ok) else pure (WI r)
abbrev mF (TU TV:UU) (ifs:List UU) (it:T7) (env:Env) (act:Sem Unit) (again':Sem Fin):Sem Fin:=do
 Xz TV.pos
 match <-XA it with
 | none=>pure (.done .next)
 | some v=>
  WE TU it v
  assign TU env v
  let mut ok:=true
  for c in ifs do
   if ok then ok <-aa5 c env (eval c env)
  if ok then
   act
  again'
noncomputable def tZ (prog:Uv) (w:US) (A:UW) (e:UU) (depth:Nat) (it acc:T7) (env:Env) (TU:UU) (ifs:List UU) (m:Sem Unit):Prop:=
 ∀(R:ab3->T_->Prop) (I:Nat->T_->Prop),(∀n s,I n s->Uu (UB prog w) A (XA it) (λr s₁=>match r with
   | none=>R (.ok .next) s₁
   | some v=>Uu (UB prog w) A (WE TU it v) (λ_ s₁=>Uu (UB prog w) A (assign TU env v) (λ_ s₂=>
     Uu (UB prog w) A (F6 ifs env) (λok s₃=>if ok=true then Uu (UB prog w) A m (λ_ s₅=>∃m,m < n/\I m s₅) (λ_ _=>False) s₃ else ∃m,m < n/\I m s₃) (λ_ _=>False) s₂) (λ_ _=>False) s₁) (λ_ _=>False) s₁) (λ_ _=>False) s)->
  ∀(n:Nat) (s:T_),I n s->Wh (UB prog w) A (.compLoop e depth it acc env) R s
section
variable {prog:Uv}{w:US}{A:UW}{TU TV:UU}{ifs:List UU}{TM:Xy}{pos:Pos}{it acc:T7}{env:Env}{depth:Nat}{gens:List aaa}{act:Sem Unit}
theorem AD {R:ab3->T_->Prop}{I:Nat->T_->Prop}{E:T7->T_->Prop}{code:Code}{n:Nat}{s:T_}{Q:Fin->T_->Prop}
  (SV:∀s,R (.ok .next) s->Q (.done .next) s) (SE:∀s,(∃m,m < n/\I m s)->Uu (UB prog w) A (again code) Q E s)
  (t:Uu (UB prog w) A (XA it) (λr s₁=>match r with
   | none=>R (.ok .next) s₁
   | some v=>Uu (UB prog w) A (WE TU it v) (λ_ s₁=>Uu (UB prog w) A (assign TU env v) (λ_ s₂=>
     Uu (UB prog w) A (F6 ifs env) (λok s₃=>if ok=true then Uu (UB prog w) A act (λ_ s₅=>∃m,m < n/\I m s₅) (λ_ _=>False) s₃ else ∃m,m < n/\I m s₃) (λ_ _=>False) s₂) (λ_ _=>False) s₁) (λ_ _=>False) s₁) (λ_ _=>False) s):
  Uu (UB prog w) A (mF TU TV ifs it env act (again code)) Q E s:=by
 refine T4 (Xi (T4 (UZ t (λr s₁ h₁=>?_) λ_ _ f=>f.elim)));cases r with
 | none=>exact T6 (SV _ h₁)
 | some v=>
  refine T4 (UZ h₁ (λ_ s₁' h₁'=>?_) λ_ _ f=>f.elim);refine T4 (UZ h₁' (λ_ s₂ h₂=>T4 (UZ h₂ (λok s₃ h₃=>?_) λ_ _ f=>f.elim)) λ_ _ f=>f.elim);cases ok with
  | false=>exact SE _ h₃
  | true=>exact T4 (UZ h₃ (λ_ s₅ h₅=>SE _ h₅) λ_ _ f=>f.elim)
theorem yD {elt:UU}(ht:YW (.ListComp elt gens TM pos) depth it acc env=mF TU TV ifs it env act (again (.compLoop (.ListComp elt gens TM pos) depth it acc env))):tZ prog w A (.ListComp elt gens TM pos) depth it acc env TU ifs act:=by intro R I turn n s h;refine codeAny_loop rfl I (λn s hI=>?_) n h;show Uu _ A ((YW (.ListComp elt gens TM pos) depth it acc env).onRaise (λx=>do acR x env;acS x)) _ _ s;refine wpAny_noted ?_;rw [ht];exact AD (λ_ h=>h) (λ_ h=>T6 ⟨rfl,h⟩) (turn n s hI)
theorem CU {kx vx:UU}(ht:YW (.DictComp kx vx gens TM pos) depth it acc env=mF TU TV ifs it env act (again (.compLoop (.DictComp kx vx gens TM pos) depth it acc env))):tZ prog w A (.DictComp kx vx gens TM pos) depth it acc env TU ifs act:=by intro R I turn n s h;refine codeAny_loop rfl I (λn s hI=>?_) n h;show Uu _ A ((YW (.DictComp kx vx gens TM pos) depth it acc env).onRaise (λx=>do acR x env;acS x)) _ _ s;refine wpAny_noted ?_;rw [ht];exact AD (λ_ h=>h) (λ_ h=>T6 ⟨rfl,h⟩) (turn n s hI)
end
section
variable {X:Cx}{c:C}{p:UA}{Acc:Hp->Hp->List D->Prop}{J2 H2:Hp}{N:Nat}{m:Sem Unit}{act:Ev->M (List D×Ev)}{TU:UU}{ifs:List UU}{gt:GT}{gts:G Bool}{e:UU}{depth:Nat}{acc:T7}{it:UA}{fp:List UA}{tn:Nat->VJ->Prop}{It:It}{ds:List D}{J1:Hp}
theorem zY (aR:vn Acc) (hc:X.calm=true) (hx:∀v s,X.xe v s->False) (LP:tZ X.prog X.w X.A e depth (.ref it) acc X.env TU ifs m) (hT:DT X c TU gt) (hIf:Ce X c ifs gts) (hA:sJ X c p Acc J2 H2 N m act) (T:Turn X.prog X.w X.K TU It fp it tn)
 (U:Hp->Hp->Prop) (wk:Walk c It ds J1 U){s:T_}{H J:Hp}{ys:List D}{Qf:List D×Ev->Prop}(hU:∀J' H',Ext J2 H2 J' H'->aS J J'->U J' H') (I:Inv X TN σ H s) (st:tn 0 s.heap) (fr:∀b∈fp,ki X TN H b) (e2:Ext J2 H2 J H) (sr:SR c J H σ env) (no:yS env σ p) (ac:Acc J H ys)
 (hl:ys.length + ds.length * N<=sizeLine) (w:cK (bP gt gts act ds env) Qf c.T):
  Wh (UB X.prog X.w) X.A (.compLoop e depth (.ref it) acc X.env) (λr s'=>r=.ok .next/\∃σ' H' J' r',Inv X TN σ' H' s'/\Ext J2 H2 J' H'/\aS J J'/\SR c J' H' σ' r'.2/\yS r'.2 σ' p/\Acc J' H' (ys++r'.1)/\r'.1.length<=ds.length * N/\Qf r') s:=by
 refine LP _ (λn s'=>∃(i:Nat) (σ':L2.St) (H' J':Hp) (env':Ev) (zs:List D),n=ds.length - i/\i<=ds.length/\Inv X TN σ' H' s'/\tn i s'.heap/\(∀b∈fp,H' b=none)/\Ext J2 H2 J' H'/\aS J J'/\SR c J' H' σ' env'/\yS env' σ' p/\Acc J' H' (ys++zs)/\zs.length<=i * N/\
  cK (bP gt gts act (ds.drop i) env') (λr=>Qf (zs++r.1,r.2)) c.T) ?_ ds.length s ⟨0,σ,H,J,env,[],rfl,UD _,I,st,λb hb=>(fr b hb).1,e2,aS.refl J,sr,no,by rw [WG];exact ac,by simp,by rw [aa7];exact w⟩
 rintro n s' ⟨i,σ',H',J',env',zs,rfl,hi,I',st',fr',e',sj,sr',no',ac',hz,w'⟩;have stat:∀{H':Hp},(∀b∈fp,H' b=none)->∀b∈fp,ki X TN H' b:=λhn b hb=>⟨hn b hb,(fr b hb).2⟩;obtain ⟨wk1,wk2⟩:=wk i J' H' sr'.hp (hU J' H' e' sj);by_cases hlt:i < ds.length
 ·obtain ⟨g1,y1⟩:=wk2 ds[i] (by simp [hlt]);rw [Wf hlt] at w';refine UZ (T.item X rfl rfl rfl hc i TN s' σ' H' (λ_ _=>False) I' (stat fr') st' g1) (λr s4 ⟨u,hr,h4⟩=>?_) λ_ _ f=>f.elim;subst hr;refine UZ h4 (λ_ s5 ⟨x,H5,I5,r5,y5,st5,fr5⟩=>?_) λ_ _ f=>f.elim;obtain ⟨J5,e5,rx⟩:=y1 x H5 y5;have I5':=I5.pinned (stat fr5) (T.obj _ _ st5);have again:∀{σ7:L2.St}{H7:Hp}{s7:T_},Inv X (TN++qb fp s5.heap) σ7 H7 s7->Inv X TN σ7 H7 s7/\tn (i + 1) s7.heap/\(∀b∈fp,H7 b=none):=fun {σ7 H7 s7} I7=>by refine ⟨I7.unpinned,T.keep _ _ _ st5 λb hb o e=>(I7.pin (b,o) (U9 _ (U9 _ (kL hb e)))).1,λb hb=>?_⟩;obtain ⟨o,e,d⟩:=T.obj _ _ st5 b hb;exact (I7.pin (b,o) (U9 _ (U9 _ (kL hb e)))).2.1
  refine UZ (hT _ s5 σ' H5 x u (λσ6 H6=>∃e6,H6=H5/\SR c J5 H5 σ6 e6/\KO env' σ' e6 σ6/\cK (gts e6 >>= λk=>if k=true then act e6 >>= λr=>bP gt gts act (ds.drop (i + 1)) r.2 >>= λz=>.ok (r.1++z.1,z.2) else bP gt gts act (ds.drop (i + 1)) e6)
   (λr=>Qf (zs++r.1,r.2)) c.T) I5' r5 ⟨J5,env',ds[i],sr'.ext e5,rx,aF (aM w') λe6 w6 σ6 sr6 ko=>⟨e6,rfl,sr6,ko,w6⟩⟩) (λ_ s6 ⟨σ6,H6,I6,e6,SQ,sr6,ko,w6⟩=>?_) λ_ _ f=>(hx _ _ f).elim
  subst SQ;have no6:yS e6 σ6 p:=λj xs q z=>by obtain ⟨k1,k2⟩:=ko j xs q;exact no' j xs k1 (k2▸z)
  refine UZ (hIf _ s6 σ6 H6 (λk H7=>∃J7,Ext J5 H6 J7 H7/\cK (if k=true then act e6 >>= λr=>bP gt gts act (ds.drop (i + 1)) r.2 >>= λz=>.ok (r.1++z.1,z.2) else bP gt gts act (ds.drop (i + 1)) e6)
   (λr=>Qf (zs++r.1,r.2)) c.T) I6 ⟨J5,e6,sr6,aF (aM w6) λk wk J7 H7 e7=>⟨J7,e7,wk⟩⟩) (λk s7 ⟨H7,I7,J7,e7,w7⟩=>?_) λ_ _ f=>(hx _ _ f).elim
  have sr7:=sr6.ext e7;have ac7:=aR.ext (aR.ext ac' e5) e7;have x7:=(e'.trans e5).trans e7;have j7:=(sj.trans e5.j).trans e7.j;have hm:(i + 1) * N=i * N + N:=by rw [acT,Nat.one_mul]
  cases k with
  | false=>
   rw [if_neg (by decide)] at w7 ⊢;obtain ⟨a1,a2,a3⟩:=again I7;exact ⟨ds.length - (i + 1),by omega,i + 1,σ6,H7,J7,e6,zs,rfl,hlt,a1,a2,a3,x7,j7,sr7,no6,ac7,by omega,w7⟩
  | true=>
   rw [if_pos rfl] at w7 ⊢;have hN:(i + 1) * N<=ds.length * N:=V1 N hlt;refine UZ (hA _ s7 σ6 H7 J7 e6 (ys++zs) _ I7 x7 sr7 no6 ac7 (by rw [Uo];omega) (aM w7)) (λ_ s8 ⟨σ8,H8,J8,r,I8,x8,j8,sr8,no8,ac8,l8,w8⟩=>?_) λ_ _ f=>f.elim;obtain ⟨a1,a2,a3⟩:=again I8;refine ⟨ds.length - (i + 1),by omega,i + 1,σ8,H8,J8,r.2,zs++r.1,rfl,hlt,a1,a2,a3,x8,j7.trans j8,sr8,no8,by rw [<-WD];exact ac8,by rw [Uo];omega,?_⟩;refine aF (aM w8) λz q=>?_;rw [WD];exact q
 ·have Te:i=ds.length:=by omega
  subst Te;rw [YC (Ud _)] at w';refine UZ (T.done X rfl rfl rfl hc _ TN s' σ' H' (λ_ _=>False) I' (stat fr') st' (wk1 (Ud _))) (λr s4 ⟨hr,I9⟩=>?_) λ_ _ f=>f.elim;subst hr;have w9:Qf (zs++[],env'):=w';rw [WG] at w9;exact ⟨rfl,σ',H',J',(zs,env'),I9,e',sj,sr',no',ac',hz,w9⟩
end
section
variable {prog:Uv}{w:US}{A:UW}{R:ab3->T_->Prop}{s:T_}{it acc:T7}{env:Env}{TM:Xy}{pos:Pos}{g0:aaa}{TU TV:UU}{ifs:List UU}{rest:List aaa}
theorem NP (h0:Wh (UB prog w) A (.compLoop (.ListComp elt (g0::⟨TU,TV,ifs,0⟩::rest) TM pos) 1 it acc env) R s)
 (h:Uu (UB prog w) A (ZJ it) (λit' s'=>Wh (UB prog w) A (.compLoop (.ListComp elt (g0::⟨TU,TV,ifs,0⟩::rest) TM pos) 1 it' acc env) R s') (λ_ _=>False) s):
  Wh (UB prog w) A (.compStart (.ListComp elt (g0::⟨TU,TV,ifs,0⟩::rest) TM pos) 1 it acc env) R s:=by
 refine Zy ?_;show Uu _ _ ((acU (.ListComp elt (g0::⟨TU,TV,ifs,0⟩::rest) TM pos) 1 it acc env).onRaise (λx=>do acR x env;Xz acV)) _ _ s;refine adP ?_;unfold acU;show Uu _ _ (ask >>= _) _ _ s;refine T4 (WR (wpAny_ite ?_));split
 ·first
   | exact T4 (T6 (T6 (aaM rfl h0)))
   | exact T6 (aaM rfl h0)
 ·refine T4 (Zn ?_);show Uu _ _ (Xz TV.pos >>= _) _ _ s;exact T4 (Xi (T4 (UZ h (λit' s' h'=>T6 (aaM rfl h')) λ_ _ x=>x.elim)))
theorem NO (h0:Wh (UB prog w) A (.compLoop (.DictComp kx vx (g0::⟨TU,TV,ifs,0⟩::rest) TM pos) 1 it acc env) R s)
 (h:Uu (UB prog w) A (ZJ it) (λit' s'=>Wh (UB prog w) A (.compLoop (.DictComp kx vx (g0::⟨TU,TV,ifs,0⟩::rest) TM pos) 1 it' acc env) R s') (λ_ _=>False) s):
  Wh (UB prog w) A (.compStart (.DictComp kx vx (g0::⟨TU,TV,ifs,0⟩::rest) TM pos) 1 it acc env) R s:=by
 refine Zy ?_;show Uu _ _ ((acU (.DictComp kx vx (g0::⟨TU,TV,ifs,0⟩::rest) TM pos) 1 it acc env).onRaise (λx=>do acR x env;Xz acV)) _ _ s;refine adP ?_;unfold acU;show Uu _ _ (ask >>= _) _ _ s;refine T4 (WR (wpAny_ite ?_));split
 ·first
   | exact T4 (T6 (T6 (aaM rfl h0)))
   | exact T6 (aaM rfl h0)
 ·refine T4 (Zn ?_);show Uu _ _ (Xz TV.pos >>= _) _ _ s;exact T4 (Xi (T4 (UZ h (λit' s' h'=>T6 (aaM rfl h')) λ_ _ x=>x.elim)))
end
noncomputable def jo (gi:G (List D)) (gt:GT) (gts:G Bool) (act:Ev->M (List D×Ev)):Ev->M (List D×Ev):=λenv=>gi env >>= λds=>if ds.length<=1000 then bP gt gts act ds env else .bad
abbrev sV (e TV:UU) (acc:T7) (env:Env):Sem Unit:=do
 let x <-eval TV env
 Xz TV.pos
 let x <-Vy TV env x
 let _ <-runOwn (.compStart e 1 (<-holding [x] (ZJ x)) acc env) env
section
variable {X:Cx}{c:C}{p:UA}{Acc:Hp->Hp->List D->Prop}{J2 H2:Hp}{N:Nat}{m:Sem Unit}{act:Ev->M (List D×Ev)}{TU TV:UU}{ifs:List UU}{gi:G (List D)}{gt:GT}{gts:G Bool}{e:UU}{acc:T7}
theorem Bb (aR:vn Acc) (hc:X.calm=true) (hx:∀v s,X.xe v s->False) (hs:∀x,Vy TV X.env x=pure x)
  (start:∀(it:UA) (R:ab3->T_->Prop) (s:T_),Wh (UB X.prog X.w) X.A (.compLoop e 1 (.ref it) acc X.env) R s->Uu (UB X.prog X.w) X.A (ZJ (.ref it)) (λit' s'=>Wh (UB X.prog X.w) X.A (.compLoop e 1 it' acc X.env) R s') (λ_ _=>False) s->Wh (UB X.prog X.w) X.A (.compStart e 1 (.ref it) acc X.env) R s)
  (LP:∀it:UA,tZ X.prog X.w X.A e 1 (.ref it) acc X.env TU ifs m) (hi:O_ X c TU TV gi) (hT:DT X c TU gt) (hIf:Ce X c ifs gts) (hA:sJ X c p Acc J2 H2 N m act):
  sJ X c p Acc J2 H2 (1000 * N) (sV e TV acc X.env) (jo gi gt gts act):=by
 intro TN s σ H J env ys Qf I x2 sr no ac hl w;refine T4 (UZ (hi TN s σ H (λIt H1=>∃ds J1,Ext J H J1 H1/\Walk c It ds J1 (λJ' _=>aS J1 J')/\cK (if ds.length<=1000 then bP gt gts act ds env else .bad) Qf c.T) I ⟨J,env,sr,aF (aM w) λds wd It J1 H1 e1 wk=>⟨ds,J1,e1,wk,wd⟩⟩) (λxv s1 h1=>?_) λv s f=>(hx v s f).elim);refine T4 (Xi ?_);rw [hs xv];refine T4 (T6 (T4 (UN (UZ h1 (λitv s2 h2=>?_) λv s f=>(hx v s f).elim))));obtain ⟨it,fp,tn,It,H1,rfl,I1,T,st1,f1,ds,J1,e1,wk,w1⟩:=h2;have hsz:ds.length<=1000:=by
  by_cases z:ds.length<=1000
  ·exact z
  ·rw [if_neg z] at w1;exact w1.elim
 rw [if_pos hsz] at w1;have hm:ds.length * N<=1000 * N:=V1 N hsz;have hb:ys.length + ds.length * N<=sizeLine:=UC (Nat.add_le_add_left hm _) hl;have run:=zY aR hc hx (LP it) hT hIf hA T (λJ' _=>aS J1 J') wk (λ_ _ _ h=>h) I1 st1 f1 (x2.trans e1) (sr.ext e1) no (aR.ext ac e1) hb w1;have run':Wh (UB X.prog X.w) X.A (.compLoop e 1 (.ref it) acc X.env) (λr s'=>match r with | .ok f=>Uu (UB X.prog X.w) X.A (pure ()) (λ_ s'=>∃σ' H' J' r,Inv X TN σ' H' s'/\Ext J2 H2 J' H'/\aS J J'/\SR c J' H' σ' r.2/\yS r.2 σ' p/\Acc J' H' (ys++r.1)/\r.1.length<=1000 * N/\Qf r) (λ_ _=>False) s' | .error e=>cameBackBy (UB X.prog X.w) X.A X.env (λ_ _=>False) e s') s2:=Xg run λr s' ⟨hr,σ',H',J',r',q1,q2,q3,q4,q5,q6,q7,q8⟩=>by subst hr;exact T6 ⟨σ',H',J',r',q1,q2,e1.j.trans q3,q4,q5,q6,UC q7 hm,q8⟩
 exact T4 (wpAny_runOwn (h:=none) (start it _ _ run' (T.self _ 0 _ _ _ st1 run')))
end
def gZ (ge:G R):Ev->M (List D×Ev):=λe=>ge e >>= λr=>toD r >>= λy=>.ok ([y],e)
def Cj (c:C) (p:UA):Hp->Hp->List D->Prop:=λJ H ys=>∃us,H p=some (.lst us)/\J p=none/\aK c.K J ys us
theorem sN:vn (Cj c p):=⟨fun {J H J' H' ys} ⟨us,h1,h2,h3⟩ e=>⟨us,e.h _ _ h1,e.frz _ (by rw [h1];intro z;cases z) h2,h3.mono e.j⟩⟩
section
variable {X:Cx}{c:C}{p:UA}{J2 H2:Hp}{elt:UU}{ge:G R}
theorem Ba (hx:∀v s,X.xe v s->False) (hp2:H2 p=none) (hp0:c.H0 p=none) (hE:PD X c elt ge):sJ X c p (Cj c p) J2 H2 1 (do let _ <-call (.builtin "list.append") [.ref p,<-eval elt X.env]) (gZ ge):=by
 intro TN s σ H J env ys Qf I x2 sr no ⟨us,h1,h2,h3⟩ hl w;have hlen:ys.length=us.length:=h3.length;refine T4 (UZ (hE _ s σ H (λv H8=>∃J8 y,Ext J H J8 H8/\Rep c.K J8 y v/\Qf ([y],env)) I ⟨J,env,sr,aF (aM w) λr wr v J8 H8 e8 r8=>?_⟩) (λu8 s8 ⟨v8,H8,I8,r8,J8,y,e8,ry,w8⟩=>?_) λv s f=>(hx v s f).elim)
 ·obtain ⟨y,q,wr⟩:=jg wr;obtain ⟨J9,e9,_,ry⟩:=freeze e8 r8 q;exact ⟨J9,y,e9,ry,wr⟩
 have p8:H8 p=some (.lst us):=e8.h _ _ h1;have J8p:J8 p=none:=e8.frz _ (by rw [h1];intro z;cases z) h2;refine T4 (UZ (mq (X:=X) _ s8 σ H8 (.ref p) [v8] (.ref p) [u8] (λ_ H9=>H9=L2.upd H8 p (.lst (us++[v8]))) I8 rfl (.cons r8 .nil) ⟨_,us,v8,rfl,rfl,p8,by omega,rfl⟩) (λ_ s9 ⟨_,H9,I9,_,h9⟩=>?_) λv s f=>(hx v s f).elim);subst h9;exact T6 ⟨σ,_,J8,([y],env),I9,(x2.trans e8).other hp2 J8p,e8.j,(sr.ext e8).other J8p hp0 no,no,⟨us++[v8],bO,J8p,(h3.mono e8.j).append (.cons ry .nil)⟩,Ud _,w8⟩
end
noncomputable def gA (lim n:Nat) (cap:List Nat) (gi:G (List D)) (gt:GT) (gts:G Bool) (act:Ev->M (List D×Ev)) (fin:List D->M R):G R:=λenv=>gi env >>= λds=>if ds.length<=lim then bP gt gts act ds (cE n cap env) >>= λr=>fin r.1 else .bad
section
variable {X:Cx}{c:C}
structure yM (X:Cx) (TM:Xy) (cap:List Nat) (TV:UU):Prop where
 hk:TM.kind=.function
 hno:II X cap TM=true
 hnames:(TM.names.all λx=>!(x.2 == .local) || (TM.names.lookup x.1 == some .local))=true
 hcl:(dM X.env.cells TM.names []).isSome=true
 hcap:qE X cap=true
 hloc:Ek X cap TM=true
 hnd:z_ cap=true
 hcalm:X.calm=true
 hs:∀x,Vy TV X.env x=pure x
theorem uq {TM:Xy}{cap:List Nat}{TV:UU}(hcl:(dM X.env.cells TM.names []).isSome=true) (hk:TM.kind=.function:=by rfl) (hno:II X cap TM=true:=by rfl) (hnames:(TM.names.all λx=>!(x.2 == .local) || (TM.names.lookup x.1 == some .local))=true:=by rfl)
  (hcap:qE X cap=true:=by rfl) (hloc:Ek X cap TM=true:=by rfl) (hnd:z_ cap=true:=by rfl) (hcalm:X.calm=true:=by rfl) (hs:∀x,Vy TV X.env x=pure x:=by intro _;rfl):yM X TM cap TV:=⟨hk,hno,hnames,hcl,hcap,hloc,hnd,hcalm,hs⟩
noncomputable def DF (X:Cx) (c:C) (cm:Option (T7->Sem Unit)->Sem T7) (g:G R):Prop:=
 ∀{TN:List (UA×Obj)}{s:T_}{σ:L2.St}{H:Hp}{Q:VK}{use:Option (T7->Sem Unit)}{Q0:T7->T_->Prop},Inv X TN σ H s->tD c g σ H Q->
  (∀(acc C:UA) (m:Str->Option T7) (s':T_) (H':Hp) (fl:Flow),s'.heap.Ns C m->((C∈X.ex\/X.s₀.heap.objs.size<=C)/\C≠X.env.locals/\(∀x c,X.env.cells.lookup x=some c->c≠C)/\∀p∈X.pn++TN,p.1≠C)->H' C=none->(∀h'',V2 C s'.heap h''->Inv X TN σ H' {s' with heap:=h''})->Q (.ref acc) H'->compPost (UB X.prog X.w) X.A X.xe use Q0 (.ref acc) C (.ok fl) s')->
  Uu (UB X.prog X.w) X.A (cm use) Q0 X.xe s
theorem lD (own:List Str) (cap:List Nat){e TU TV:UU}{ifs:List UU}{gs:List aaa}{TM:Xy}{gi:G (List D)}{gt:GT}{gts:G Bool}{act:Ev->M (List D×Ev)}{fin:List D->M R}{newAcc:Sem T7}{ob:Obj}{o0:UA->HO}{Acc:UA->Hp->Hp->Hp->List D->Prop}{N lim:Nat}{m:UA->Env->Sem Unit}
  (hcls:clausesOf e=⟨TU,TV,ifs,0⟩::gs) (hi:O9 X c TU TV gi)
  (hnew:∀(s:T_) (Q:T7->T_->Prop) (E:T7->T_->Prop),Q (.ref s.heap.objs.size) {s with heap:=s.heap.push ob}->Uu (UB X.prog X.w) X.A newAcc Q E s)
  (hob:∀(h:VJ) (H:Hp),cF X.prog X.w H (h.push ob) h.objs.size (o0 h.objs.size))
  (aR:∀p H2,vn (Acc p H2)) (a0:∀(p:UA) (H2 J H:Hp),WB < p->H p=some (o0 p)->J p=none->Acc p H2 J H [])
  (hN:lim * N<=sizeLine) (LP:∀(it p:UA) (env:Env),tZ X.prog X.w X.A e 0 (.ref it) (.ref p) env TU ifs (m p env))
  (start:∀(it:UA) (acc:T7) (env:Env) (R:ab3->T_->Prop) (s:T_),Wh (UB X.prog X.w) X.A (.compLoop e 0 (.ref it) acc env) R s->Uu (UB X.prog X.w) X.A (ZJ (.ref it)) (λit' s'=>Wh (UB X.prog X.w) X.A (.compLoop e 0 it' acc env) R s') (notedBy (UB X.prog X.w) X.A env λx s'=>R (.error x) s') s->Wh (UB X.prog X.w) X.A (.compStart e 0 (.ref it) acc env) R s)
  (nofin:∀ys z,fin ys≠.exc z) (hend:∀{p:UA}{H2 J H J' H':Hp}{ys:List D}{r:R},H p=none->aS H H2->Ext J H J' H'->Acc p H2 J' H' ys->fin ys=.ok r->∃J'',Ext J H J'' H'/\RR c H J'' H' r (.ref p))
  (hbody:∀(cl:List (Str×UA)) (C:UA) (s:T_) (H:Hp) (fp:List UA),dM X.env.cells TM.names []=some cl->DT (cT X own cap TM cl C s H fp) c TU gt/\Ce (cT X own cap TM cl C s H fp) c ifs gts/\∀(p:UA) (J2 H2:Hp),H2 p=none->c.H0 p=none->sJ (cT X own cap TM cl C s H fp) c p (Acc p H2) J2 H2 N (m p (cT X own cap TM cl C s H fp).env) act)
  (a:yM X TM cap TV){pos':Pos}:DF X c (λuse=>comprehension e TM X.env pos' newAcc false (eval TV X.env) use) (gA lim own.length cap gi gt gts act fin):=by
 obtain ⟨hk,hno,hnames,hcl,hcap,hloc,hnd,hcalm,hs⟩:=a;intro TN s σ H Q use Q0 I h Sf;obtain ⟨J,env,sr,w⟩:=h;obtain ⟨cl,hcl⟩:=Vu.mp hcl;have Sn:∀j∈cap,∀x,X.N[j]?=some x->dc TM.names x=false:=λj hj x hx=>by have:=Uz.mp hno j hj;rw [hx] at this;simpa using this
 have RD:∀x∈TM.names,x.2=.local->TM.names.lookup x.1=some .local:=λy hy z=>by have:=Uz.mp hnames y hy;rw [z] at this;simpa using this
 have RX:∀j∈cap,∀x,X.N[j]?=some x->(relabel TM X.env).names.lookup x≠some .local:=λj hj x hx z=>by have:=Uz.mp hloc j hj;rw [hx] at this;simp only at this;rw [z] at this;cases this
 refine wpAny_comprehension_free (use:=use) hcls hs (yl hcl) hk RD ?_;refine bN (hi TN s σ H (λIt H1=>∃ds J1,Ext J H J1 H1/\Walk c It ds J1 (λJ' H'=>aS J1 J'/\aS H1 H')/\
  cK (if ds.length<=lim then bP gt gts act ds (cE own.length cap env) >>= λr=>fin r.1 else .bad) (λr=>∀v J' H',Ext J H J' H'->RR c H J' H' r v->Q v H') c.T) I ⟨J,env,sr,aF (aM w) λds wd It J1 H1 e1 wk=>⟨ds,J1,e1,wk,wd⟩⟩) λxv s1 h1=>bN h1 λitv s2 h2=>?_
 obtain ⟨it,fp,tn,It,H2,rfl,I2,T,st2,f2,ds,J2,e2,wk,w2⟩:=h2;have hsz:ds.length<=lim:=by
  by_cases z:ds.length<=lim
  ·exact z
  ·rw [if_neg z] at w2;exact w2.elim
 rw [if_pos hsz] at w2;have w3:=aM w2;refine hnew s2 _ _ (CZ ?_);dsimp only;generalize R6:s2.heap.push ob=Hs;have hC:Hs.objs.size=s2.heap.objs.size + 1:=by rw [<-R6,W2]
 have hp2:H2 s2.heap.objs.size=none:=I2.hok.fresh (Ud _);have kHs:∀b o,s2.heap.get? b=some o->Hs.get? b=some o:=λb o e=>by rw [<-R6];exact T9 _ e
 have I3:Inv X TN σ (L2.upd H2 s2.heap.objs.size (o0 s2.heap.objs.size)) {s2 with heap:=Hs,toks:=s2.toks}:=I2.laid (t':=s2.toks) kHs (Ud _) (by rw [<-R6];exact hob _ _);have f3:∀b∈fp,ki X TN (L2.upd H2 s2.heap.objs.size (o0 s2.heap.objs.size)) b:=λb hb=>by obtain ⟨o,ho,_⟩:=T.obj _ _ st2 b hb;exact ⟨by rw [aV (UE (Uq ho))];exact (f2 b hb).1,(f2 b hb).2⟩
 have hin:∀b∈fp,b < Hs.objs.size:=λb hb=>by obtain ⟨o,ho,_⟩:=T.obj _ _ st2 b hb;exact Xh (Uq ho) (by rw [hC];exact V4 _)
 obtain ⟨h₁,eh₁⟩:∃h₁,h₁=acJ (Hs.push {cls:=.type "dict",data:=.dict #[]}) TM.names:=⟨_,rfl⟩;rw [<-eh₁];have hns₁:h₁.Ns Hs.objs.size (λ_=>none):=by rw [eh₁];exact MW Hs TM.names
 have ck:aep h₁ (Hs.objs.size + 1) (Vb (Hs.objs.size + 1) TM.names []):=by rw [eh₁];exact El Hs TM.names
 have okC:=JM (own:=own) (cap:=cap) I3 hk hcl ck f3 hin;have old1:∀b o,Hs.get? b=some o->h₁.get? b=some o:=λb o e=>by rw [eh₁];exact acK _ _ _ _ (T9 _ e)
 have I4:=GB (tk:=s2.toks) I3 okC hcl ck hcap RX Sn hns₁ old1;have sr2:=sr.ext e2;have srA:SR c J2 (L2.upd H2 s2.heap.objs.size (o0 s2.heap.objs.size)) σ env:=sr2.ext (Ext.new e2.sub hp2 _);have J2p:J2 s2.heap.objs.size=none:=e2.sub.free hp2;have H0p:c.H0 s2.heap.objs.size=none:=sr2.hp.ent.free hp2;have nown:∀(j:Nat) (xs:Mn),(cE own.length cap env)[j]?=some (some (mS xs))->(VL own.length none++cap.map λ(j:Nat)=>(σ[j]?).getD none)[j]?≠some (some (.ref s2.heap.objs.size)):=λj xs q z=>by obtain ⟨a,h1,h2,h3⟩:=iV q;obtain ⟨a',h4,h5,h6⟩:=iV z;rw [h2] at h5;cases h5;obtain ⟨p,k1,k2,_⟩:=sr2.mine h3;rw [h6] at k1;cases k1;exact k2 hp2
 obtain ⟨hT,hIf,hE⟩:=hbody cl Hs.objs.size {s2 with heap:=Hs,toks:=s2.toks} (L2.upd H2 s2.heap.objs.size (o0 s2.heap.objs.size)) fp hcl;have fpC:∀{H':Hp},(∀b∈fp,H' b=none)->∀b∈fp,ki (cT X own cap TM cl Hs.objs.size {s2 with heap:=Hs,toks:=s2.toks} (L2.upd H2 s2.heap.objs.size (o0 s2.heap.objs.size)) fp) [] H' b:=fun {H'} hn b hb=>by
  obtain ⟨m1,_⟩:=g5 TM.names [] cl hcl (λx c h=>by simp at h);refine ⟨hn b hb,UE (hin b hb),λz=>?_,.inl hb,λx d h=>(gf h).elim (λh=>Xf (UG (hin b hb) (Xb (ck.empty _ _ (Yp h)).2))) (λh=>(f2 b hb).2.2.2.2.1 x d (m1 x d h.2)),λp hp=>absurd (show p∈([]:List (UA×Obj)) from hp) (by simp)⟩;rcases Uw.mp (I2.stkSub b z) with e | e
  ·exact (f2 b hb).2.1 e
  ·exact (f2 b hb).2.2.1 e
 have back:∀{pi:List (UA×Obj)}{σ':L2.St}{H':Hp}{s':T_}{h'':VJ},Inv (cT X own cap TM cl Hs.objs.size {s2 with heap:=Hs,toks:=s2.toks} (L2.upd H2 s2.heap.objs.size (o0 s2.heap.objs.size)) fp) pi σ' H' s'->V2 Hs.objs.size s'.heap h''->Inv X TN σ H' {s' with heap:=h''}:=fun {pi σ' H' s' h''} I' sb=>by
  have B:Un (frs X.stack) fp (L2.upd H2 s2.heap.objs.size (o0 s2.heap.objs.size)) H' Hs s'.heap:=I'.base;have ne2:∀{b:UA}{o:Obj},s2.heap.get? b=some o->b≠s2.heap.objs.size/\b≠Hs.objs.size:=fun {b o} e=>
   ⟨UE (Uq e),UE (Xh (Uq e) (by rw [hC];exact V4 _))⟩
  have nH:∀{b:UA}{o:HO},H2 b=some o->L2.upd H2 s2.heap.objs.size (o0 s2.heap.objs.size) b=some o:=fun {b o} e=>by rw [aV (fO e hp2)];exact e
  refine Inv.call' (ch:=fp) (s':={s' with heap:=h''}) I2 I'.os ⟨λb o e n hf hx=>?_,λb o e n hf hx=>?_,λb o e n hx=>?_,λb o e hx=>?_,λb xs e=>B.tups b xs (nH e),λb o u e=>B.frzs b o u (nH e),λb ps e=>B.tbls b ps (nH e)⟩ (AX I'.hok I'.free sb) I'.bare λb hb=>⟨(f2 b hb).2.2.2.1,(f2 b hb).2.1,(f2 b hb).2.2.2.2.1,(f2 b hb).2.2.2.2.2⟩
  ·exact (sb.2 b (ne2 e).2).trans (B.keep b o (kHs b o e) (by rw [aV (ne2 e).1];exact n) hf hx)
  ·obtain ⟨sl,z⟩:=B.slot b o (kHs b o e) (by rw [aV (ne2 e).1];exact n) hf hx;exact ⟨sl,(sb.2 b (ne2 e).2).trans z⟩
  ·exact B.free b o (kHs b o e) (by rw [aV (ne2 e).1];exact n) hx
  ·obtain ⟨o',z⟩:=B.there b o (kHs b o e) hx;exact ⟨o',(sb.2 b (ne2 e).2).trans z⟩
 have run:=λ(s4:T_) (I4:Inv (cT X own cap TM cl Hs.objs.size {s2 with heap:=Hs,toks:=s2.toks} (L2.upd H2 s2.heap.objs.size (o0 s2.heap.objs.size)) fp) [] _ _ s4) (st4:tn 0 s4.heap)=>zY (X:=cT X own cap TM cl Hs.objs.size {s2 with heap:=Hs,toks:=s2.toks} (L2.upd H2 s2.heap.objs.size (o0 s2.heap.objs.size)) fp) (e:=e) (depth:=0) (acc:=.ref s2.heap.objs.size) (aR _ _) hcalm (λ_ _ f=>f) (LP it _ _) hT hIf (hE s2.heap.objs.size J2 H2 hp2 H0p) T (λJ' H'=>aS J2 J'/\aS H2 H') wk (λJ' H' x _=>⟨x.j,x.h⟩) I4 st4 (fpC λb hb=>(f3 b hb).1) (Ext.new e2.sub hp2 _) (srA.cap own.length cap (BH hnd)) nown (a0 _ _ _ _ (D3 I2) bO J2p) (UC (by rw [ZA,Y4];exact V1 N hsz) hN) w3;have st4:=T.keep _ _ _ st2 (λb hb o e=>old1 b o (kHs b o e));have go:=Xg (run _ I4 st4) (R':=compPost (UB X.prog X.w) X.A X.xe use Q0 (.ref s2.heap.objs.size) Hs.objs.size) λr s' ⟨hr,σ',H',J',r',I9,x9,j9,sr9,no9,ac9,l9,w9⟩=>by
  subst hr;obtain ⟨mm,hm,_⟩:=I9.loc;refine Sf s2.heap.objs.size Hs.objs.size mm _ H' _ hm (LU I2 (by rw [hC];exact YI _)) I9.free (λh'' sb=>back I9 sb) ?_;cases q:fin r'.1 with
  | bad=>rw [q] at w9;exact w9.elim
  | exc z=>rw [q] at w9;exact (nofin _ z q).elim
  | ok z=>
   rw [q] at w9;obtain ⟨J9,x10,rr⟩:=hend (e2.h.free hp2) e2.h (e2.trans x9) ac9 q;exact w9 _ J9 H' x10 rr
 exact start it _ _ _ _ go (T.self _ 0 _ _ _ st4 go)
def nN (X:Cx) (c:C) (e:UU) (g:G R):Prop:=∃cm,DF X c cm g/\eval e X.env=cm none/\∀use,evalThenUse e X.env use=(do let _ <-cm (some use))
theorem bS {e:UU}{g:G R}(h:nN X c e g):QD X c e g:=by obtain ⟨cm,core,hev,_⟩:=h;refine ⟨λTN s σ H Q I h=>?_⟩;rw [hev];exact core I h λacc C m s' H' fl hm hz hf hb q=>⟨m,hm,λh'' sb=>⟨.ref acc,H',hb h'' sb,rfl,q⟩⟩
theorem nF (i:Nat){e:UU}{g:G R}{x:Str}{pos' pos2:Pos}(hN:X.N.Nodup) (h:nN X c e g) (hx:X.N[i]?=some x:=by rfl) (SJ:X.env.scope.names.lookup x=some .local:=by rfl)
  (hsw:Yi e (some (.Name x pos')) pos2.line X.env=pure true:=by rfl):gR X c (.Assign [.Name x pos'] e pos2) (bh i g):=by
 obtain ⟨cm,core,_,Sd⟩:=h;refine ⟨λTN s σ H D I ⟨J,env,sr,w⟩=>?_⟩;rw [arm_exec_Assign];refine T4 (Xi ?_);rw [show Z1 [.Name x pos'] e pos2.line X.env=pure true from hsw];refine T4 (T6 ?_);rw [if_pos rfl,Sd];refine T4 (T4 (core (Q:=λv H1=>∃J1 r xx,Ext J H J1 H1/\RR c H J1 H1 r v/\toS r=.ok xx/\oP c J D (.nx (env.set i (some xx)))) I ⟨J,env,sr,aF (aM w) λr wr v J1 H1 e1 r1=>?_⟩ λacc C m s' H' fl hm ap hf hb ⟨J1,r,xx,e1,r1,q1,w1⟩=>?_))
 ·obtain ⟨xx,q,wr⟩:=wF wr;exact ⟨J1,r,xx,e1,r1,q,wr⟩
 ·have I1:L2.Inv X TN σ H' s':=hb s'.heap (aeO ..);show Uu _ _ (do Xz pos';bindName X.env x (.ref acc)) _ _ _;refine T4 (Xi (wpAny_bindName ?_));refine xV I1 hN hx (.inl SJ) (v:=.ref acc) (u:=.ref acc) rfl (λs2 I2 ⟨a,sb,ha⟩=>?_) (.inr SJ);have hac:C≠a:=λz=>by
   rcases ha with e | e
   ·exact ap.2.1 (z.trans e)
   ·exact ap.2.2.1 _ _ e z.symm
  refine ⟨m,hm.sameBut sb hac,λh2 sb2=>?_⟩;refine T6 (T6 ⟨σ.set i (some (.ref acc)),H',Fb I2 ap hf sb2 (o0:=default),?_⟩);exact w1 _ J1 H' e1.j (sr.set e1 r1 q1)
end
noncomputable def pN (n:Nat) (cap:List Nat) (gi0:G (List D)) (gt0:GT) (gts0:G Bool) (gi1:G (List D)) (gt1:GT) (gts1:G Bool) (ge:G R):G R:=gA 10000 n cap gi0 gt0 gts0 (jo gi1 gt1 gts1 (gZ ge)) (λys=>.ok (.l .fresh ys))
theorem Lo (elt t0 i0 t1 i1:UU) (f0 f1:List UU) (TM:Xy) (pos:Pos) (it acc:T7) (env:Env):
  YW (.ListComp elt [⟨t0,i0,f0,0⟩,⟨t1,i1,f1,0⟩] TM pos) 0 it acc env=(do
   Xz i0.pos
   match <-XA it with
   | none=>pure (.done .next)
   | some v=>
    WE t0 it v
    assign t0 env v
    let mut ok:=true
    for c in f0 do
     if ok then ok <-aa5 c env (eval c env)
    if ok then
     let x <-eval i1 env
     Xz i1.pos
     let x <-Vy i1 env x
     let _ <-runOwn (.compStart (.ListComp elt [⟨t0,i0,f0,0⟩,⟨t1,i1,f1,0⟩] TM pos) 1 (<-holding [x] (ZJ x)) acc env) env
    again (.compLoop (.ListComp elt [⟨t0,i0,f0,0⟩,⟨t1,i1,f1,0⟩] TM pos) 0 it acc env)):=by rfl
theorem NV (elt t0 i0 t1 i1:UU) (f0 f1:List UU) (TM:Xy) (pos:Pos) (it acc:T7) (env:Env):
  YW (.ListComp elt [⟨t0,i0,f0,0⟩,⟨t1,i1,f1,0⟩] TM pos) 0 it acc env=mF t0 i0 f0 it env (sV (.ListComp elt [⟨t0,i0,f0,0⟩,⟨t1,i1,f1,0⟩] TM pos) i1 acc env) (again (.compLoop (.ListComp elt [⟨t0,i0,f0,0⟩,⟨t1,i1,f1,0⟩] TM pos) 0 it acc env)):=by
 rw [Lo];refine bind_congr λ_=>bind_congr λr=>?_;cases r with
 | none=>rfl
 | some v=>
  refine bind_congr λ_=>bind_congr λ_=>bind_congr λok=>?_;cases ok with
  | false=>rfl
  | true=>simp only [sV,bind_assoc,pure_bind,if_true]
theorem NW (elt t0 i0 t1 i1:UU) (f0 f1:List UU) (TM:Xy) (pos:Pos) (it acc:T7) (env:Env):
  YW (.ListComp elt [⟨t0,i0,f0,0⟩,⟨t1,i1,f1,0⟩] TM pos) 1 it acc env=mF t1 i1 f1 it env (do let _ <-call (.builtin "list.append") [acc,<-eval elt env]) (again (.compLoop (.ListComp elt [⟨t0,i0,f0,0⟩,⟨t1,i1,f1,0⟩] TM pos) 1 it acc env)):=by rfl
section
variable {X:Cx}{c:C}
theorem GA (own:List Str) (cap:List Nat){elt t0 i0 t1 i1:UU}{f0 f1:List UU}{TM:Xy}{pos:Pos}{gi0 gi1:G (List D)}{gt0 gt1:GT}{gts0 gts1:G Bool}{ge:G R}(hi:ud X c t0 i0 gi0)
  (hbody:∀(cl:List (Str×UA)) (C:UA) (s:T_) (H:Hp) (fp:List UA),dM X.env.cells TM.names []=some cl->oO (cT X own cap TM cl C s H fp) c t0 gt0/\nP (cT X own cap TM cl C s H fp) c f0 gts0/\A8 (cT X own cap TM cl C s H fp) c t1 i1 gi1/\oO (cT X own cap TM cl C s H fp) c t1 gt1/\nP (cT X own cap TM cl C s H fp) c f1 gts1/\QD (cT X own cap TM cl C s H fp) c elt ge)
  (a:yM X TM cap i0:=by exact uq rfl) (hs1:∀(en:Env) x,Vy i1 en x=pure x:=by intro _ _;rfl):nN X c (.ListComp elt [⟨t0,i0,f0,0⟩,⟨t1,i1,f1,0⟩] TM pos) (pN own.length cap gi0 gt0 gts0 gi1 gt1 gts1 ge):=by
 refine ⟨_,?_,rfl,λ_=>rfl⟩;refine lD (e:=.ListComp elt [⟨t0,i0,f0,0⟩,⟨t1,i1,f1,0⟩] TM pos) (ob:={cls:=.type "list",dict:=none,data:=.seq ([]:List T7).toArray}) (o0:=λ_=>.lst []) (Acc:=λp _=>Cj c p) (N:=1000 * 1) (lim:=10000) (m:=λp env=>sV (.ListComp elt [⟨t0,i0,f0,0⟩,⟨t1,i1,f1,0⟩] TM pos) i1 (.ref p) env) own cap rfl hi.h
  (λs Q E q=>UJ q) (λh H=>⟨UD _,[],0,.nil,Uh _ rfl⟩) (λp _=>sN) (λp _ J H _ h1 h2=>⟨[],h1,h2,.nil⟩) (by decide) (λit p env=>yD (NV ..)) (λit acc env R s h0 h=>YD h0 h) (λys z q=>by cases q)
  (fun {p H2 J H J' H' ys r} hp _ e ⟨us,h1,h2,h3⟩ q=>by cases q;exact ⟨J',e,⟨p,us,rfl,h1,h2,hp,h3⟩⟩) (λcl C s H fp hcc=>?_) a
 obtain ⟨b1,b2,b3,b4,b5,b6⟩:=hbody cl C s H fp hcc;exact ⟨b1.h,b2.h,λp J2 H2 hp2 hp0=>Bb sN a.hcalm (λ_ _ f=>f) (λx=>hs1 _ x) (λit R s h0 h=>NP h0 h) (λit=>yD (NW ..)) b3.h b4.h b5.h (Ba (λ_ _ f=>f) hp2 hp0 b6.h)⟩
end
noncomputable def Dm:T7->Option V
 | .int i _=>some (.int i)
 | .ref a=>some (.ref a)
 | _=>none
noncomputable def kN:List T7->Option (List V)
 | []=>some []
 | u::us=>match Dm u,kN us with
  | some v,some vs=>some (v::vs)
  | _,_=>none
open Classical in
noncomputable def lM (h:VJ):Hp:=λa=>match h.get? a with
 | some o=>if o.cls=.type "tuple" then (match o.data with
  | .seq TR _=>(kN TR.toList).map .tup
  | _=>none) else none
 | none=>none
theorem HS (h:Dm u=some v):RelV v u:=by
 cases u with
 | int i t=>cases h;exact ⟨t,rfl⟩
 | ref a=>cases h;exact rfl
 | _=>cases h
theorem xD:∀{us:List T7}{vs:List V},kN us=some vs->Vals vs us
 | [],vs,h=>by cases h;exact .nil
 | u::us,vs,h=>by
  unfold kN at h;cases q:Dm u with
  | none=>rw [q] at h;cases h
  | some v=>
   cases q2:kN us with
   | none=>rw [q,q2] at h;cases h
   | some ws=>rw [q,q2] at h;cases h;exact .cons (HS q) (xD q2)
theorem iZ {h:VJ}(q:lM h a=some o):∃vs ob TR n,o=.tup vs/\h.get? a=some ob/\ob.cls=.type "tuple"/\ob.data=.seq TR n/\Vals vs TR.toList:=by
 unfold lM at q;split at q
 ·rename_i ob hob;split at q
  ·rename_i hc;split at q
   ·rename_i TR n hd;cases z:kN TR.toList with
    | none=>rw [z] at q;cases q
    | some vs=>rw [z] at q;cases q;exact ⟨vs,ob,TR,n,rfl,hob,hc,hd,xD z⟩
   ·cases q
  ·cases q
 ·cases q
theorem La {h:VJ}{TR:List T7}(p:h.IsTuple a TR.toArray) (q:kN TR=some vs):lM h a=some (.tup vs):=by obtain ⟨o,ho,hc,n,hd⟩:=p;unfold lM;rw [ho];simp only [hc,if_true,hd];rw [q];rfl
theorem pW {s:T_}:HF [] (lM s.heap) s:=by
 refine ⟨λa xs h=>?_,λa xs h=>?_,λa h=>?_,λa ep TZ h=>?_⟩
 ·rcases h with (h | ⟨o,h⟩) | ⟨o,TR,n,h,_⟩
  ·obtain ⟨vs,ob,TR,n,e,h1,h2,h3,h4⟩:=iZ h;cases e;exact ⟨TR.toList,h4,ob,h1,h2,n,by rw [h3]⟩
  ·obtain ⟨vs,ob,TR,n,e,_⟩:=iZ h;cases e
  ·cases h
 ·rcases h with (h | ⟨o,h⟩) | ⟨o,TR,n,h,_⟩
  ·obtain ⟨vs,ob,TR,n,e,_⟩:=iZ h;cases e
  ·obtain ⟨vs,ob,TR,n,e,_⟩:=iZ h;cases e
  ·cases h
 ·obtain ⟨vs,ob,TR,n,e,_⟩:=iZ h;cases e
 ·obtain ⟨vs,ob,TR,n,e,_⟩:=iZ h;cases e
theorem Ao {K:T5}{J:Hp}:∀{ds:List D}{vs:List V}{us:List T7},areKeys ds=true->aK K J ds vs->Vals vs us->kN us=some vs
 | _,_,_,_,.nil,.nil=>rfl
 | d::ds,v::vs,u::us,h,.cons r rs,.cons q qs=>by
  unfold areKeys at h;rw [Ub] at h;have ih:=Ao h.2 rs qs;have e:Dm u=some v:=by
   cases d with
   | int i=>cases r;obtain ⟨t,rfl⟩:=q;rfl
   | tup xs=>cases r;cases q;rfl
   | _=>cases h.1
  unfold kN;rw [e,ih]
mutual
theorem kZ {K:T5}{J:Hp}{s:T_}(F:HF K J s):∀{d:D}{v:V},isKey d=true->Rep K J d v->Rep [] (lM s.heap) d v
 | .int i,_,_,.int _=>.int i
 | .tup ds,_,hk,.tup (a:=a) (vs:=vs) h hs=>by obtain ⟨TR,r,p⟩:=F.t _ _ h;exact .tup (.inl (.inl (La p (Ao hk hs r)))) (Aq F hk hs)
 | .non,_,hk,_=>nomatch hk
 | .bl _,_,hk,_=>nomatch hk
 | .str _,_,hk,_=>nomatch hk
 | .lst _,_,hk,_=>nomatch hk
 | .emp,_,hk,_=>nomatch hk
 | .exn _ _ _,_,hk,_=>nomatch hk
 | .dct _ _,_,hk,_=>nomatch hk
theorem Aq {K:T5}{J:Hp}{s:T_}(F:HF K J s):∀{ds:List D}{vs:List V},areKeys ds=true->aK K J ds vs->aK [] (lM s.heap) ds vs
 | [],_,_,.nil=>.nil
 | d::ds,_,h,.cons r rs=>by unfold areKeys at h;rw [Ub] at h;exact .cons (kZ F h.1 r) (Aq F h.2 rs)
end
theorem FF {h h':VJ}{o:Obj} {es ep}(ho:h.get? d=some o) (hd:o.data=.dict es ep) (sb:V2 d h h'):aS (lM h) (lM h'):=λa x q=>by
 obtain ⟨vs,ob,TR,n,rfl,h1,h2,h3,h4⟩:=iZ q;have hne:a≠d:=by rintro rfl;rw [ho] at h1;cases h1;rw [hd] at h3;cases h3
 unfold lM at q ⊢;rw [sb.2 a hne];exact q
def KD:Type:={d:D // isKey d=true/\dep d<=8}
noncomputable instance:DecidableEq KD:=λa b=>adQ (a=b)
def Dn (A:UW):Prop:=A.units + 16 < VI
noncomputable def n8 (prog:Uv) (w:US):HeapKind prog w KD where
 is:=λh k a=>Rep [] (lM h) k.1 (.ref a)
 hash:=λk=>bZ k.1
 draws:=λk=>kG k.1
 room:=Dn
 inj:=fun {h a x y} hx hy=>aab (Rep.inj (s:=({heap:=h}:T_)) pW hx hy (by have:=x.2.2;omega) (by have:=y.2.2;omega))
 keeps:=λhx ho hd sb=>Rep.mono (FF ho hd sb) hx
 pyHash:=fun {A E s k a Q} hu hx q=>wG k.1 (.ref a) (.ref a) A s pW k.2.1 hx rfl (by have:=k.2.2;unfold Dn at hu;omega) E s Q pW q
 eqBool:=fun {A E s x y a b Q} hu hx hy q=>by
  have h:=m9 (s:=s) pW A hx hy rfl rfl (u:=.ref a) (u':=.ref b) (by have:=x.2.2;unfold Dn at hu;omega) (by have:=x.2.2;omega) (by have:=y.2.2;omega);refine h _ _ _ _ ?_;have e:bq x.1 y.1=decide (x=y):=by rw [U_,vS x.2.1 y.2.1,decide_eq_true_eq];exact ⟨λz=>aab z,λz=>congrArg Subtype.val z⟩
  rw [e];exact q
 quiet:=fun {A E s k a Q} hx q=>nJ 8 pW ⟨k.1,.ref a,k.2.1,k.2.2,hx,rfl⟩ q
noncomputable def gU:List D->List D->D->Option D
 | k::ks,v::vs,x=>if bq k x=true then some v else gU ks vs x
 | _,_,_=>none
section
variable {K:T5}{J:Hp}{s:T_}{P:Uv}{w:US}
theorem Bm (F:HF K J s):∀{ks:List D}{us ws:List V}{es:List ZT},areKeys ks=true->(∀k∈ks,∃xs,k=.tup xs)->deps ks<=8->aK K J ks us->ws.length=us.length->ZQ yP ((cj ks).zip (us.zip ws)) es->
  ∃xs:List (KD×UA×T7),es=xs.map (adh (n8 P w))/\xs.map (λx=>x.1.1)=ks/\(∀x∈xs,(n8 P w).is s.heap x.1 x.2.1)/\Vals ws (xs.map λx=>x.2.2)/\Vals us (xs.map λx=>W6 x.2.1)
 | _,_,[],_,_,_,_,.nil,_,h=>by cases h;exact ⟨[],rfl,rfl,λ_ h=>(nomatch h),.nil,.nil⟩
 | k::ks,u::us,v::ws,es,hk,ht,hd,.cons r rs,hl,h=>by
  unfold areKeys at hk;rw [Ub] at hk;unfold deps at hd;have h:ZQ yP ((bZ k,u,v)::(cj ks).zip (us.zip ws)) es:=h;cases h with
  | @cons _ e _ es' h1 h2=>
   obtain ⟨xs,e1,e2,e3,e4,e5⟩:=Bm F hk.2 (λk hk=>ht k (Ua _ hk)) (by omega) rs (by simpa using hl) h2;obtain ⟨xs',rfl⟩:=ht k Uc;obtain ⟨q1,q2,q3⟩:=h1;obtain ⟨eh,ek,ev⟩:=e;cases r with
   | tup t1 t2=>
    rename_i a vs;have q2:ek=.ref a:=q2;have q1:eh=bZ (.tup xs'):=q1;subst q2;subst q1;refine ⟨(⟨.tup xs',hk.1,by omega⟩,a,ev)::xs,by rw [e1];rfl,by rw [Ur,e2],λx hx=>?_,.cons q3 e4,.cons rfl e5⟩
    (rcases Uw.mp hx with rfl | hx)
    ·exact kZ F hk.1 (.tup t1 t2)
    ·exact e3 x hx
 | [],us,v::ws,_,_,_,_,rs,hl,_=>by cases rs;cases hl
 | k::ks,us,[],_,_,_,_,rs,hl,_=>by cases rs;cases hl
theorem Hi {xs:List (KD×UA×T7)}{ks:List D}(e:xs.map (λx=>x.1.1)=ks) (nd:ks.Nodup):(xs.map (·.1)).Nodup:=by
 rw [<-e] at nd;have this:((xs.map (·.1)).map (λk:KD=>k.1)).Nodup:=by rw [UM];exact nd
 exact ad9 (λk:KD=>k.1) (λa b h e=>h (congrArg (λk:KD=>k.1) e)) this
theorem yt:∀{xs:List (KD×UA×T7)}{ks vs:List D}{ws:List V}(k:KD),xs.map (λx=>x.1.1)=ks->aK K J vs ws->Vals ws (xs.map λx=>x.2.2)->
  (∀d,gU ks vs k.1=some d->∃p v,adR xs k=some p/\RelV v p.2/\Rep K J d v)/\(gU ks vs k.1=none->adR xs k=none)
 | [],_,vs,ws,k,e,rs,rv=>by subst e;exact ⟨λd h=>(nomatch h),λ_=>rfl⟩
 | x::xs,_,_,_,k,e,.cons r rs,.cons q rv=>by
  subst e;obtain ⟨i1,i2⟩:=yt (xs:=xs) k rfl rs rv;rw [Ur];unfold gU;by_cases c:x.1=k
  ·have:bq x.1.1 k.1=true:=by rw [c];exact gn _
   rw [if_pos this];have ek:adR (x::xs) k=some x.2:=by unfold adR;rw [List.find?_cons_of_pos (by simpa using c)];rfl
   exact ⟨λd h=>by cases h;exact ⟨x.2,_,ek,q,r⟩,λh=>nomatch h⟩
  ·have:¬bq x.1.1 k.1=true:=λh=>c (aab ((vS x.1.2.1 k.2.1).mp h));rw [if_neg this];have ek:adR (x::xs) k=adR xs k:=by unfold adR;rw [List.find?_cons_of_neg (by simpa using c)]
   rw [ek];exact ⟨i1,i2⟩
theorem sQ {H:Hp}(F:HF K J s) (F':HF K H s) (h:eK K J H a ks vs):∃(xs:List (KD×UA×T7)) (us ws:List V),s.heap.DictOfH (n8 P w) a xs/\xs.map (λx=>x.1.1)=ks/\aK K J ks us/\aK K J vs ws/\Vals ws (xs.map λx=>x.2.2)/\Vals us (xs.map λx=>W6 x.2.1)/\(a == WB)=false:=by obtain ⟨us,ws,ep,h,hk,hv,ok,hs⟩:=h;obtain ⟨o,es,h1,h2,h3,h4⟩:=F'.d _ _ _ h;obtain ⟨xs,e1,e2,e3,e4,e5⟩:=Bm (P:=P) (w:=w) F ok.key ok.tp ok.dp hk (by rw [<-hv.length,<-hk.length,hs.2]) h4;exact ⟨xs,us,ws,⟨o,es,ep,h1,h2,h3,e1,e3,Hi e2 ok.nd⟩,e2,hk,hv,e4,e5,hs.1⟩
end
noncomputable def dD:D->Bool
 | .tup xs=>areKeys xs && decide (deps xs + 1<=8)
 | _=>false
theorem jx (h:dD k=true):∃xs,k=.tup xs/\isKey k=true/\dep k<=8:=by
 cases k with
 | tup xs=>
  unfold dD at h;rw [Ub] at h;exact ⟨xs,rfl,h.1,of_decide_eq_true h.2⟩
 | _=>cases h
noncomputable def rN:R->Option (List D×List D)
 | .d (.dct ks vs)=>some (ks,vs)
 | .mo ks vs=>some (ks,vs)
 | .mb ks vs=>some (ks,vs)
 | .mf ks vs=>some (ks,vs)
 | _=>none
noncomputable def fu (x y:R):M R:=match rN x,y with
 | some z,.d k=>if dD k=true then (match gU z.1 z.2 k with
  | some d=>.ok (.d d)
  | none=>.bad) else .bad
 | _,_=>.bad
section
variable {X:Cx}{c:C}{a b:UU}{ga gb:G R}{pos:Pos}
theorem RR.dk {He J H:Hp}(hp:HI c J H):∀{r:R}{v:V}{z:List D×List D},RR c He J H r v->rN r=some z->∃a,v=.ref a/\eK c.K J H a z.1 z.2
 | .d (.dct ks vs),v,z,h,e=>by
  cases e;cases h with
  | dct h1 h2 h3 h4 h5=>exact ⟨_,rfl,_,_,_,hp.sub _ _ h1,h2,h3,h4,h5⟩
 | .mo ks vs,v,z,⟨a,h1,h2,_⟩,e=>by cases e;exact ⟨a,h1,h2⟩
 | .mf ks vs,v,z,⟨a,h1,h2,_⟩,e=>by cases e;exact ⟨a,h1,h2⟩
 | .mb ks vs,v,z,⟨a,h1,h2⟩,e=>by cases e;exact ⟨a,h1,h2.mono (aS.refl _) hp.ent⟩
 | .ln _,_,_,_,e=>nomatch e
 | .d .non,_,_,_,e=>nomatch e
 | .d (.bl _),_,_,_,e=>nomatch e
 | .d (.int _),_,_,_,e=>nomatch e
 | .d (.str _),_,_,_,e=>nomatch e
 | .d (.tup _),_,_,_,e=>nomatch e
 | .d (.lst _),_,_,_,e=>nomatch e
 | .d .emp,_,_,_,e=>nomatch e
 | .d (.exn _ _ _),_,_,_,e=>nomatch e
 | .l _ _,_,_,_,e=>nomatch e
theorem MD (hu:X.A.units + 64 < VI):pe X (λx y H Q=>∃J p ks vs k d,aS J H/\x=.ref p/\eK X.K J H p ks vs/\Rep X.K J k y/\dD k=true/\gU ks vs k=some d/\∀v,Rep X.K J d v->Q v H):=by
 intro value slice TN s σ H x y v u Q I rx ry h hs;obtain ⟨J,p,ks,vs,k,d,sm,rfl,hd,hk,ok,lk,q⟩:=h;have F:HF X.K J s:=HF.of (c:=⟨X.K,H,H,λ_=>True⟩) I sm;obtain ⟨kx,rfl,k1,k2⟩:=jx ok;obtain ⟨r,rfl⟩:∃r,y=.ref r:=by cases hk;exact ⟨_,rfl⟩
 cases rx;cases ry;obtain ⟨xs,us,ws,hm,e2,_,hv,e4,_,hsm⟩:=sQ (P:=X.prog) (w:=X.w) F (iw I) hd;obtain ⟨pp,v,ea,rv,rd⟩:=(yt ⟨.tup kx,k1,k2⟩ e2 hv e4).1 d lk;have room:(n8 X.prog X.w).room X.A.in1:=by show X.A.units + 1 + 16 < VI;omega
 exact YA (x:=pp.2) hm.typeIs slot_dict_getitem.lookup (wpAny_getItem_heap (Q:=λr s'=>r=pp.2/\EP X TN σ Q r s') room (kZ F k1 hk) hm ea ⟨rfl,v,H,I.tok _,rv,q v rd⟩) hs
theorem fG (hu:X.A.units + 64 < VI) (ha:QD X c a ga) (hb:QD X c b gb) (hK:X.K=c.K:=by rfl) (hs:mV b:=by exact λ_ _=>rfl):QD X c (.Subscript a b pos) (g2 fu ga gb):=have ha:=ha.h;have hb:=hb.h;⟨Ja (MD hu) (by
 intro He He' J H x y u v Q hp rx ry w;unfold fu at w;split at w
 ·rename_i hz;obtain ⟨p,rfl,hd⟩:=rx.dk hp hz;split at w
  ·rename_i ok;split at w
   ·rename_i d hl;exact ⟨J,p,_,_,_,d,hp.sub,rfl,by rw [hK];exact hd,by rw [hK];exact ry,ok,hl,λv rd=>w v J H (Ext.refl hp.sub) (by rw [hK] at rd;exact rd)⟩
   ·exact w.elim
  ·exact w.elim
 ·exact w.elim) ha hb hs⟩
end
noncomputable def vZ:List D->List D->D->D->List D
 | k::ks,v::vs,x,d=>(if bq k x=true then d else v)::vZ ks vs x d
 | _,vs,_,_=>vs
def dput (z:List D×List D) (k d:D):List D×List D:=if (gU z.1 z.2 k).isSome=true then (z.1,vZ z.1 z.2 k d) else (z.1++[k],z.2++[d])
noncomputable def iA (ys:List D):List D×List D:=ys.foldl (λz y=>match y with
 | .tup [k,d]=>dput z k d
 | _=>z) ([],[])
theorem nU (ys:List D) (k d:D):iA (ys++[.tup [k,d]])=dput (iA ys) k d:=by unfold iA;rw [List.foldl_append];rfl
inductive cS (K:T5) (J:Hp):List (KD×UA×T7)->List D->List V->List D->List V->Prop
 | nil:cS K J [] [] [] [] []
 | cons {x:KD×UA×T7}{xs:List (KD×UA×T7)}{ks vs:List D}{us ws:List V}{d:D}{v:V}:RelV v x.2.2->Rep K J d v->cS K J xs ks us vs ws->cS K J (x::xs) (x.1.1::ks) (.ref x.2.1::us) (d::vs) (v::ws)
section
variable {K:T5}{J:Hp}{P:Uv}{w:US}
theorem cS.of:∀{xs:List (KD×UA×T7)}{us:List V}{vs:List D}{ws:List V},aK K J vs ws->Vals ws (xs.map λx=>x.2.2)->Vals us (xs.map λx=>W6 x.2.1)->cS K J xs (xs.map λx=>x.1.1) us vs ws
 | [],_,_,_,.nil,.nil,.nil=>.nil
 | x::xs,u::us,_,_,.cons r rs,.cons q qs,.cons p ps=>by
  have:u=.ref x.2.1:=by
   cases u with
   | ref a=>cases p;rfl
   | int i=>obtain ⟨t,h⟩:=p;cases h
   | str i=>obtain ⟨t,h⟩:=p;cases h
   | byt i=>obtain ⟨t,h⟩:=p;cases h
   | flt i=>obtain ⟨t,h⟩:=p;cases h
   | non=>cases p
   | bl b=>cases p
   | ty n=>cases p
  subst this;exact .cons q r (cS.of rs qs ps)
theorem cS.put {k:KD}(rv:RelV v u) (rd:Rep K J d v):∀{xs:List (KD×UA×T7)}{ks vs:List D}{us ws:List V},cS K J xs ks us vs ws->∃ws',cS K J (xs.map (putAt k u)) ks us (vZ ks vs k.1 d) ws'
 | _,_,_,_,_,.nil=>⟨[],.nil⟩
 | x::xs,_,_,_,_,.cons q r t=>by
  obtain ⟨ws',ih⟩:=cS.put rv rd t;rw [Ur];unfold vZ;by_cases c:x.1=k
  ·have:bq x.1.1 k.1=true:=by rw [c];exact gn _
   rw [if_pos this];have e:putAt k u x=(x.1,x.2.1,u):=by unfold putAt;rw [if_pos c]
   rw [e];exact ⟨v::ws',.cons (x:=(x.1,x.2.1,u)) rv rd ih⟩
  ·have:¬bq x.1.1 k.1=true:=λh=>c (aab ((vS x.1.2.1 k.2.1).mp h));rw [if_neg this];have e:putAt k u x=x:=by unfold putAt;rw [if_neg c]
   rw [e];exact ⟨_,.cons q r ih⟩
theorem cS.snoc {k:KD}{a:UA}{u:T7}{d:D}{v:V}(rv:RelV v u) (rd:Rep K J d v):∀{xs:List (KD×UA×T7)}{ks vs:List D}{us ws:List V},cS K J xs ks us vs ws->cS K J (xs++[(k,a,u)]) (ks++[k.1]) (us++[.ref a]) (vs++[d]) (ws++[v])
 | _,_,_,_,_,.nil=>.cons (x:=(k,a,u)) rv rd .nil
 | _,_,_,_,_,.cons q r t=>.cons q r (cS.snoc rv rd t)
theorem cS.ents:∀{xs:List (KD×UA×T7)}{ks vs:List D}{us ws:List V},cS K J xs ks us vs ws->ZQ yP ((cj ks).zip (us.zip ws)) (xs.map (adh (n8 P w)))
 | _,_,_,_,_,.nil=>.nil
 | _,_,_,_,_,.cons q r t=>.cons ⟨rfl,rfl,q⟩ t.ents
theorem cS.reps:∀{xs:List (KD×UA×T7)}{ks vs:List D}{us ws:List V},cS K J xs ks us vs ws->aK K J vs ws
 | _,_,_,_,_,.nil=>.nil
 | _,_,_,_,_,.cons q r t=>.cons r t.reps
theorem cS.keys:∀{xs:List (KD×UA×T7)}{ks vs:List D}{us ws:List V},cS K J xs ks us vs ws->xs.map (λx=>x.1.1)=ks
 | _,_,_,_,_,.nil=>rfl
 | _,_,_,_,_,.cons q r t=>by rw [Ur,t.keys]
theorem cS.len:∀{xs:List (KD×UA×T7)}{ks vs:List D}{us ws:List V},cS K J xs ks us vs ws->ks.length=vs.length
 | _,_,_,_,_,.nil=>rfl
 | _,_,_,_,_,.cons q r t=>by rw [U4,U4,t.len]
theorem rL:∀{xs ys:List D},areKeys (xs++ys)=(areKeys xs && areKeys ys)
 | [],_=>rfl
 | x::xs,ys=>by show (isKey x && areKeys (xs++ys))=((isKey x && areKeys xs) && areKeys ys);rw [rL,Bool.and_assoc]
theorem zC:∀{xs ys:List D}{n:Nat},deps xs<=n->deps ys<=n->deps (xs++ys)<=n
 | [],_,_,_,h=>h
 | x::xs,ys,n,h1,h2=>by unfold deps at h1;have:=zC (xs:=xs) (ys:=ys) (n:=n) (by omega) h2;show max (dep x) (deps (xs++ys))<=n;omega
theorem aK.snoc (h:aK K J ds vs) (r:Rep K J d v):aK K J (ds++[d]) (vs++[v]):=h.append (.cons r .nil)
end
section
variable {X:Cx}
theorem BR {s:T_}{H J:Hp}(I:Inv X TN σ H s) (sub:aS J H){ks vs:List D}(h:eK X.K J H p ks vs):
  ∃xs:List (KD×UA×T7),s.heap.DictOfH (n8 X.prog X.w) p xs/\xs.length=ks.length/\∀{kxs:List D}{a:UA}{d:D}{v:V}{u:T7}(k1:isKey (.tup kxs)=true) (k2:dep (.tup kxs)<=8),Rep X.K J (.tup kxs) (.ref a)->Rep X.K J d v->RelV v u->
   ∀(h':VJ) (tk:Nat),h'.DictOfH (n8 X.prog X.w) p (storedH xs ⟨.tup kxs,k1,k2⟩ a u)->V2 p s.heap h'->
    ∃o,Inv X TN σ (upd H p o) {s with heap:=h',toks:=tk}/\eK X.K J (upd H p o) p (dput (ks,vs) (.tup kxs) d).1 (dput (ks,vs) (.tup kxs) d).2/\(dput (ks,vs) (.tup kxs) d).1.length<=ks.length + 1:=by
 have F:HF X.K J s:=HF.of (c:=⟨X.K,H,H,λ_=>True⟩) I sub;obtain ⟨xs,us,ws,hm,q2,h3,h4,q4,q5,h7⟩:=sQ (P:=X.prog) (w:=X.w) F (iw I) h;obtain ⟨_,_,_,p9,_,_,h5,_⟩:=h;have rows:cS X.K J xs ks us vs ws:=by have:=cS.of h4 q4 q5;rw [q2] at this;exact this
 refine ⟨xs,hm,by rw [<-q2,T8],fun {kxs a d v u} k1 k2 rk rd r9 h' tk hm' sb=>?_⟩;obtain ⟨o',es',ep',g1',g2'',g3',g4',g5',g6'⟩:=hm';obtain ⟨l1,l2⟩:=yt (K:=X.K) (J:=J) ⟨.tup kxs,k1,k2⟩ q2 h4 q4;have key:∃us' ws',cS X.K J (storedH xs ⟨.tup kxs,k1,k2⟩ a u) (dput (ks,vs) (.tup kxs) d).1 us' (dput (ks,vs) (.tup kxs) d).2 ws'/\aK X.K J (dput (ks,vs) (.tup kxs) d).1 us'/\areKeys (dput (ks,vs) (.tup kxs) d).1=true/\deps (dput (ks,vs) (.tup kxs) d).1<=8/\(∀k∈(dput (ks,vs) (.tup kxs) d).1,∃xs,k=.tup xs)/\(dput (ks,vs) (.tup kxs) d).1.length<=ks.length + 1:=by
  unfold dput;cases lk:gU ks vs (.tup kxs) with
  | some z=>
   obtain ⟨pp,v,ea,_,_⟩:=l1 z lk;rw [storedH_old ea];obtain ⟨ws',t⟩:=cS.put (k:=⟨.tup kxs,k1,k2⟩) r9 rd rows;exact ⟨us,ws',t,h3,h5.key,h5.dp,h5.tp,YI _⟩
  | none=>
   rw [storedH_new (l2 lk)];refine ⟨us++[.ref a],ws++[v],cS.snoc (k:=⟨.tup kxs,k1,k2⟩) r9 rd rows,h3.snoc rk,?_,zC h5.dp (by show max (dep (.tup kxs)) 0<=8;omega),λk hk=>?_,by simp⟩
   ·show areKeys (ks++[.tup kxs])=true;rw [rL,h5.key];show (true && (isKey (.tup kxs) && true))=true;rw [k1];rfl
   ·rcases UI.mp hk with h | h
    ·exact h5.tp k h
    ·exact ⟨kxs,Ul.mp h⟩
 obtain ⟨us',ws',t,tk',kk,kd,kt,kl⟩:=key;have nd':(dput (ks,vs) (.tup kxs) d).1.Nodup:=by rw [<-t.keys];have:((storedH xs ⟨.tup kxs,k1,k2⟩ a u).map (·.1)).Nodup:=g6';have h:=aeP (S:=(·≠·)) (λk:KD=>k.1) (λa b (h:a≠b) e=>h (aab e)) this;rw [UM] at h;exact h
 refine ⟨g6 p ep' ((cj (dput (ks,vs) (.tup kxs) d).1).zip (us'.zip ws')),I.write (e:=p) (by rw [p9];trivial) (.inl rfl) (λb u hb q=>by rw [sb.2 b hb];exact q) ⟨_,g1'⟩ ⟨⟨o',es',g1',g2'',g3',by rw [g4'];exact t.ents⟩,⟨_,g1'⟩,?_⟩,⟨us',ws',ep',bO,tk',t.reps,⟨kk,nd',kd,kt⟩,h7,t.len⟩,kl⟩;rintro h1 h2 ⟨o,es,a1,a2⟩ e;exact ⟨o,es,e o a1,a2⟩
end
def Ci (c:C) (p:UA):Hp->Hp->List D->Prop:=λJ H ys=>eK c.K J H p (iA ys).1 (iA ys).2/\J p=none/\(iA ys).1.length<=ys.length
theorem sM:vn (Ci c p):=⟨fun {J H J' H' ys} ⟨h1,h2,h3⟩ e=>⟨h1.mono e.j e.h,e.frz _ h1.ne h2,h3⟩⟩
noncomputable def nQ (gk gv:G R):Ev->M (List D×Ev):=λe=>gk e >>= λr=>toD r >>= λk=>gv e >>= λr2=>toD r2 >>= λd=>if dD k=true then .ok ([.tup [k,d]],e) else .bad
abbrev Dh (kx vx:UU) (p:UA) (env:Env):Sem Unit:=do
 let kv <-eval kx env
 let vv <-holding [kv] (eval vx env)
 Xz {kx.pos with endLine:=vx.pos.endLine,endCol:=vx.pos.endCol}
 holding [kv,vv] (dictSet p kv vv)
section
variable {X:Cx}{c:C}{p:UA}{J2 H2:Hp}{kx vx:UU}{gk gv:G R}
theorem Bc (hu:X.A.units + 64 < VI) (hK:X.K=c.K) (hx:∀v s,X.xe v s->False) (hp2:H2 p=none) (hp0:c.H0 p=none) (hk:PD X c kx gk) (hv:PD X c vx gv):sJ X c p (Ci c p) J2 H2 1 (Dh kx vx p X.env) (nQ gk gv):=by
 intro TN s σ H J env ys Qf I x2 sr no ⟨h1,h2,h8⟩ hl w;refine T4 (UZ (hk _ s σ H (λv H8=>∃J8 k,Ext J H J8 H8/\Rep c.K J8 k v/\cK (gv env >>= λr2=>toD r2 >>= λd=>if dD k=true then M.ok ([.tup [k,d]],env) else .bad) Qf c.T) I ⟨J,env,sr,aF (aM w) λr wr v J8 H8 e8 r8=>?_⟩) (λu8 s8 ⟨v8,H8,I8,r8,J8,k,e8,rk,w8⟩=>?_) λv s f=>(hx v s f).elim)
 ·obtain ⟨y,q,wr⟩:=jg wr;obtain ⟨J9,e9,_,ry⟩:=freeze e8 r8 q;exact ⟨J9,y,e9,ry,wr⟩
 refine T4 (UN (UZ (hv _ s8 σ H8 (λv H9=>∃J9 d,Ext J8 H8 J9 H9/\Rep c.K J9 d v/\cK (if dD k=true then M.ok ([.tup [k,d]],env) else .bad) Qf c.T) I8 ⟨J8,env,sr.ext e8,aF (aM w8) λr wr v J9 H9 e9 r9=>?_⟩) (λu9 s9 ⟨v9,H9,I9,r9,J9,d,e9,rd,w9⟩=>?_) λv s f=>(hx v s f).elim))
 ·obtain ⟨y,q,wr⟩:=jg wr;obtain ⟨J9',e9',_,ry⟩:=freeze e9 r9 q;exact ⟨J9',y,e9',ry,wr⟩
 refine T4 (Xi (UN ?_));by_cases ok:dD k=true
 case neg=>rw [if_neg ok] at w9;exact w9.elim
 rw [if_pos ok] at w9;have w9:Qf ([.tup [k,d]],env):=w9;obtain ⟨kxs,rfl,k1,k2⟩:=jx ok;have ee:=e8.trans e9;have rk9:=rk.mono e9.j;obtain ⟨a,rfl⟩:∃a,v8=.ref a:=by cases rk;exact ⟨_,rfl⟩
 cases r8;have J9p:J9 p=none:=ee.frz _ h1.ne h2;rw [<-hK] at rk9 rd;have h9:=h1.mono ee.j ee.h;rw [<-hK] at h9;obtain ⟨xs,hm,lx,put⟩:=BR I9 ee.sub h9;refine wpAny_dictSet_heap (knd:=n8 X.prog X.w) (k:=⟨.tup kxs,k1,k2⟩) (show X.A.units + 16 < VI by omega) (kZ (HF.of (c:=⟨X.K,H9,H9,λ_=>True⟩) I9 ee.sub) k1 rk9) hm (λh' hm' sb=>?_) (by rw [lx];omega);obtain ⟨o,W,hd,kl⟩:=put k1 k2 rk9 rd r9 h' _ hm' sb;refine ⟨σ,_,J9,([.tup [.tup kxs,d]],env),W,(x2.trans ee).other hp2 J9p,ee.j,(sr.ext ee).other J9p hp0 no,no,⟨by rw [nU,<-hK];exact hd,J9p,?_⟩,Ud _,w9⟩;rw [nU,Uo];exact UC kl (Nat.add_le_add_right h8 1)
end
noncomputable def qM (n:Nat) (cap:List Nat) (gi0:G (List D)) (gt0:GT) (gts0:G Bool) (gi1:G (List D)) (gt1:GT) (gts1:G Bool) (gk gv:G R):G R:=gA 10000 n cap gi0 gt0 gts0 (jo gi1 gt1 gts1 (nQ gk gv)) (λys=>.ok (.d (.dct (iA ys).1 (iA ys).2)))
theorem Ln (kx vx t0 i0 t1 i1:UU) (f0 f1:List UU) (TM:Xy) (pos:Pos) (it acc:T7) (env:Env):
  YW (.DictComp kx vx [⟨t0,i0,f0,0⟩,⟨t1,i1,f1,0⟩] TM pos) 0 it acc env=(do
   Xz i0.pos
   match <-XA it with
   | none=>pure (.done .next)
   | some v=>
    WE t0 it v
    assign t0 env v
    let mut ok:=true
    for c in f0 do
     if ok then ok <-aa5 c env (eval c env)
    if ok then
     let x <-eval i1 env
     Xz i1.pos
     let x <-Vy i1 env x
     let _ <-runOwn (.compStart (.DictComp kx vx [⟨t0,i0,f0,0⟩,⟨t1,i1,f1,0⟩] TM pos) 1 (<-holding [x] (ZJ x)) acc env) env
    again (.compLoop (.DictComp kx vx [⟨t0,i0,f0,0⟩,⟨t1,i1,f1,0⟩] TM pos) 0 it acc env)):=by rfl
theorem NT (kx vx t0 i0 t1 i1:UU) (f0 f1:List UU) (TM:Xy) (pos:Pos) (it acc:T7) (env:Env):
  YW (.DictComp kx vx [⟨t0,i0,f0,0⟩,⟨t1,i1,f1,0⟩] TM pos) 0 it acc env=mF t0 i0 f0 it env (sV (.DictComp kx vx [⟨t0,i0,f0,0⟩,⟨t1,i1,f1,0⟩] TM pos) i1 acc env) (again (.compLoop (.DictComp kx vx [⟨t0,i0,f0,0⟩,⟨t1,i1,f1,0⟩] TM pos) 0 it acc env)):=by
 rw [Ln];refine bind_congr λ_=>bind_congr λr=>?_;cases r with
 | none=>rfl
 | some v=>
  refine bind_congr λ_=>bind_congr λ_=>bind_congr λok=>?_;cases ok with
  | false=>rfl
  | true=>simp only [sV,bind_assoc,pure_bind,if_true]
theorem NU (kx vx t0 i0 t1 i1:UU) (f0 f1:List UU) (TM:Xy) (pos:Pos) (it:T7) (p:UA) (env:Env):
  YW (.DictComp kx vx [⟨t0,i0,f0,0⟩,⟨t1,i1,f1,0⟩] TM pos) 1 it (.ref p) env=mF t1 i1 f1 it env (Dh kx vx p env) (again (.compLoop (.DictComp kx vx [⟨t0,i0,f0,0⟩,⟨t1,i1,f1,0⟩] TM pos) 1 it (.ref p) env)):=by rfl
section
variable {X:Cx}{c:C}
theorem Mc (hu:X.A.units + 64 < VI) (own:List Str) (cap:List Nat){kx vx t0 i0 t1 i1:UU}{f0 f1:List UU}{TM:Xy}{pos:Pos}{gi0 gi1:G (List D)}{gt0 gt1:GT}{gts0 gts1:G Bool}{gk gv:G R}(hi:ud X c t0 i0 gi0)
  (hbody:∀(cl:List (Str×UA)) (C:UA) (s:T_) (H:Hp) (fp:List UA),dM X.env.cells TM.names []=some cl->oO (cT X own cap TM cl C s H fp) c t0 gt0/\nP (cT X own cap TM cl C s H fp) c f0 gts0/\A8 (cT X own cap TM cl C s H fp) c t1 i1 gi1/\oO (cT X own cap TM cl C s H fp) c t1 gt1/\nP (cT X own cap TM cl C s H fp) c f1 gts1/\QD (cT X own cap TM cl C s H fp) c kx gk/\QD (cT X own cap TM cl C s H fp) c vx gv)
  (a:yM X TM cap i0:=by exact uq rfl) (hs1:∀(en:Env) x,Vy i1 en x=pure x:=by intro _ _;rfl) (hK:X.K=c.K:=by rfl):nN X c (.DictComp kx vx [⟨t0,i0,f0,0⟩,⟨t1,i1,f1,0⟩] TM pos) (qM own.length cap gi0 gt0 gts0 gi1 gt1 gts1 gk gv):=by
 refine ⟨_,?_,rfl,λ_=>rfl⟩;refine lD (e:=.DictComp kx vx [⟨t0,i0,f0,0⟩,⟨t1,i1,f1,0⟩] TM pos) (ob:={cls:=.type "dict",data:=.dict #[]}) (o0:=λa=>g6 a 0 []) (Acc:=λp _=>Ci c p) (N:=1000 * 1) (lim:=10000) (m:=λp env=>sV (.DictComp kx vx [⟨t0,i0,f0,0⟩,⟨t1,i1,f1,0⟩] TM pos) i1 (.ref p) env) own cap rfl hi.h
  (λs Q E q=>UJ q) (λh H=>⟨⟨_,#[],Uh _ rfl,⟨rfl,rfl,rfl⟩,rfl,.nil⟩,⟨_,Uh _ rfl⟩,λh1 h2 ⟨o,es,a1,a2⟩ e=>⟨o,es,e o a1,a2⟩⟩) (λp _=>sM) (λp _ J H hsm h1 h2=>⟨⟨[],[],0,h1,.nil,.nil,⟨rfl,Wz,UD _,λ_ h=>(nomatch h)⟩,beq_eq_false_iff_ne.mpr (VS (UE hsm)),rfl⟩,h2,Ud _⟩) (by decide) (λit p env=>CU (NT ..)) (λit acc env R s h0 h=>aap h0 h) (λys z q=>by cases q)
  (fun {p H2 J H J' H' ys r} hp _ e ⟨⟨us,ws,ep,h1,h3,h4,h5,h7⟩,h2,h8⟩ q=>by
   cases q;have s1:aS J' (upd J' p (g6 p ep ((cj (iA ys).1).zip (us.zip ws)))):=cG h2 _;refine ⟨upd J' p (g6 p ep ((cj (iA ys).1).zip (us.zip ws))),⟨e.h,e.j.trans s1,λa o q=>?_,λa ha ja=>?_⟩,.dct bO (h3.mono s1) (h4.mono s1) h5 h7⟩
   ·by_cases z:a=p
    ·subst z;rw [bO] at q;cases q;exact h1
    ·rw [aV z] at q;exact e.sub _ _ q
   ·have:a≠p:=λz=>ha (z▸hp);rw [aV this];exact e.frz a ha ja) (λcl C s H fp hcc=>?_) a
 obtain ⟨b1,b2,b3,b4,b5,b6,b7⟩:=hbody cl C s H fp hcc;exact ⟨b1.h,b2.h,λp J2 H2 hp2 hp0=>Bb sM a.hcalm (λ_ _ f=>f) (λx=>hs1 _ x) (λit R s h0 h=>NO h0 h) (λit=>CU (NU ..)) b3.h b4.h b5.h (Bc hu hK (λ_ _ f=>f) hp2 hp0 b6.h b7.h)⟩
end
noncomputable def lexLe:List Int->List Int->Bool
 | [],_=>true
 | _::_,[]=>false
 | x::xs,y::ys=>if x=y then lexLe xs ys else decide (x<=y)
theorem kK (x y:Int) (xs ys:List Int):lexLe (x::xs) (y::ys)=if x=y then lexLe xs ys else decide (x<=y):=rfl
theorem oX:lexLe [] []=true:=rfl
theorem vX (y:Int) (ys:List Int):lexLe [] (y::ys)=true:=rfl
theorem vW (x:Int) (xs:List Int):lexLe (x::xs) []=false:=rfl
theorem HU (A:UW) (s:T_) (a:Int) (t:Tok) (c:Int) (u:Tok) (prog:Uv) (w:US) (E:T7->T_->Prop) (Q:T7->T_->Prop) (h:Q (.bool (decide (a<=c))) s):
  Uu (UB prog w) A (abk .LtE (.int a t) (.int c u)) Q E s:=
 (aer h:Uu (UB prog w) A (Vz .LtE (.int a t) (.int c u)) Q E s)
section
open PySem.SeqAt
open PySem.AutoSeq1 (wpAny_loadPart')
open PySem.MeetsSeq PySem.MeetsSeq2 PySem.MeetsSeq3
theorem yq (l b:UA) (TQ TY:Array T7) (n n2:Nat) (dd dd2:Option UA) (sl sl2:Array (Option T7)) (ns ms:List Int) (hi:XD TQ.toList ns) (hj:XD TY.toList ms):
  Meets (Xv.«tuple.__le__» ⟨[.ref l,.ref b],[]⟩)
   (λ_ R s=>s.heap.get? l=some {cls:=.type "tuple",dict:=dd,data:=.seq TQ n,slots:=sl}/\s.heap.get? b=some {cls:=.type "tuple",dict:=dd2,data:=.seq TY n2,slots:=sl2}/\
    R (.ok (.ret (.bool (lexLe ns ms)))) s):=
 .of_wp λprog w A R s h=>by
  obtain ⟨hp,g,d,tk,os⟩:=s;obtain ⟨hl,hb,h⟩:=h;have f2:=Yg;have z1:TQ.size=ns.length:=by rw [<-hi.length];simp
  have z2:TY.size=ms.length:=by rw [<-hj.length];simp
  wp_walk using WJ hl,WJ hb,WQ _ (λrest b s'=>b.1=none/\s'=⟨hp,g,d,tk,os⟩/\∃(vs ws:List T7) (ns' ms':List Int),rest=vs.zip ws/\
   XD vs ns'/\XD ws ms'/\ns'.length + TY.size=ms'.length + TQ.size/\R (.ok (.ret (.bool (lexLe ns' ms')))) ⟨hp,g,d,tk,os⟩) _
  case turn=>
   rintro ⟨y,x⟩ rest b s' ⟨hb',rfl,vs,ws,ns',ms',hz,Sy,hwi,hlen,hR⟩;cases Sy with
   | nil=>rw [List.zip_nil_left] at hz;cases hz
   | cons a t Sz=>
    cases hwi with
    | nil=>rw [List.zip_nil_right] at hz;cases hz
    | cons c u SA=>
     rw [Yo] at hz;injection hz with hyx hrest
     injection hyx with hy hx
     subst hy hx;rw [kK] at hR;simp only [U4] at hlen;obtain ⟨e,he,hiff⟩:=HT.GD A.in1 ⟨hp,g,d,tk,os⟩ a t c u;refine T4 (he prog w _ _ ?_);cases e with
     | true=>
      rw [if_pos (hiff.mp rfl)] at hR
      wp_walk
      exact ⟨rfl,rfl,_,_,_,_,hrest,Sz,SA,by omega,hR⟩
     | false=>
      rw [if_neg (λq=>absurd (hiff.mpr q) UH)] at hR;have Sv:=HU A.in1 ⟨hp,g,d,tk,os⟩ a t c u prog w
      wp_walk using Sv
      exact ⟨_,rfl,by simpa using hR⟩
  case fin=>
   rintro ⟨b1,b2⟩ s' ⟨hb',rfl,vs,ws,ns',ms',hz,Sy,hwi,hlen,hR⟩;simp only at hb';subst hb';have hv:lexLe ns' ms'=decide (TQ.size<=TY.size):=by
    cases Sy with
    | nil=>
     cases hwi with
     | nil=>
      simp only [ZA] at hlen;rw [oX];exact (decide_eq_true (by omega)).symm
     | cons c u hw=>
      simp only [ZA,U4] at hlen;rw [vX];exact (decide_eq_true (by omega)).symm
    | cons a t hv=>
     cases hwi with
     | nil=>
      simp only [ZA,U4] at hlen;rw [vW];exact (decide_eq_false (by omega)).symm
     | cons c u hw=>
      rw [Yo] at hz;cases hz
   rw [hv] at hR
   wp_walk
   exact ⟨_,rfl,by simpa [YL] using hR⟩
  case h=>
   exact ⟨rfl,rfl,TQ.toList,TY.toList,ns,ms,rfl,hi,hj,by omega,h⟩
end
section
variable {prog:Uv}{w:US}{A:UW}{E:T7->T_->Prop}{s:T_}
theorem CQ {TQ TY:Array T7}{Q:T7->T_->Prop}(hl:adV s.heap l TQ) (hb:adV s.heap b TY) (hi:XD TQ.toList ns) (hj:XD TY.toList ms)
 (hu:A.units < VI) (h:Q (.bool (lexLe ns ms)) s):Uu (UB prog w) A (Vz .LtE (.ref l) (.ref b)) Q E s:=by
 obtain ⟨⟨cls,dd,data,sl⟩,ho,hc,n,hd⟩:=id hl;obtain ⟨⟨cls2,dd2,data2,sl2⟩,ho2,hc2,n2,hd2⟩:=id hb;simp only at hc hd hc2 hd2;subst hc hd hc2 hd2;exact aam (op:=.LtE) ⟨_,ho,rfl⟩ ⟨_,ho2,rfl⟩ PySem.F.slot_tuple_le PySem.F.entry_tuple_le (PySem.F.args_tuple_le_2 _ _) (yq l b TQ TY n n2 dd dd2 sl sl2 ns ms hi hj)
  ⟨ho,ho2,show WN (lexLe ns ms)≠aa3/\Q (.bool (lexLe ns ms)) s from ⟨(λx=>nomatch x),h⟩⟩ hu
end
section
variable {X:Cx}{c:C}{a b e:UU}{ga gb:G R}{pos pos2:Pos}
theorem MX (hu:X.A.units < VI):c6 X (Vz .LtE) (λx y H Q=>∃a b ns ms,x=.ref a/\y=.ref b/\c7 X.K H a (ns.map V.int)/\c7 X.K H b (ms.map V.int)/\Q (.bl (lexLe ns ms)) H):=by intro TN s σ H x y v u Q I rx ry h;obtain ⟨a,b,ns,ms,rfl,rfl,ha,hb,q⟩:=h;cases rx;cases ry;obtain ⟨TR,r1,p1,_⟩:=I.tuple ha;obtain ⟨its2,r2,p2,_⟩:=I.tuple hb;exact CQ p1 p2 (L2.intsAre_of r1:XD TR.toArray.toList ns) (L2.intsAre_of r2:XD its2.toArray.toList ms) hu ⟨.bl (lexLe ns ms),H,I,rfl,q⟩
noncomputable def zG:R->R->M R
 | .d (.tup xs),.d (.tup ys)=>match intsOf xs,intsOf ys with
  | some ns,some ms=>.ok (.d (.bl (lexLe ns ms)))
  | _,_=>.bad
 | _,_=>.bad
theorem K3 (hu:X.A.units + 64 < VI) (ha:QD X c a ga) (hb:QD X c b gb) (hK:X.K=c.K:=by rfl):QB X c (.Compare a [.LtE] [b] pos) (bB (g2 zG ga gb)):=have ha:=ha.h;have hb:=hb.h;⟨iS (MX (by omega)) (by
 intro He He' J H x y u v Q hp rx ry w;unfold zG at w;split at w
 ·cases rx with
  | tup h1 s1=>
   cases ry with
   | tup h2 s2=>
    split at w
    ·rename_i ns ms z1 z2;have e1:=kI z1 s1;have e2:=kI z2 s2;subst e1 e2;exact ⟨_,_,ns,ms,rfl,rfl,by rw [hK];exact fU hp.sub h1,by rw [hK];exact fU hp.sub h2,w _ J H (Ext.refl hp.sub) (.bl _)⟩
    ·exact w.elim
 ·exact w.elim) ha hb⟩
end
theorem vJ (gt:GT) (gts:G Bool) (ge:G R):∀(ds:List D) (env:Ev) (k:List D->M R),(bP gt gts (gZ ge) ds env >>= λr=>k r.1)=(fT gt gts ge ds env >>= k)
 | [],env,k=>rfl
 | d::ds,env,k=>by
  unfold bP fT;cases gt d env with
  | bad=>rfl
  | exc z=>rfl
  | ok e=>
   show ((gts e >>= λk=>if k=true then gZ ge e >>= λr=>bP gt gts (gZ ge) ds r.2 >>= λz=>.ok (r.1++z.1,z.2) else bP gt gts (gZ ge) ds e) >>= _)=((gts e >>= λk=>if k=true then ge e >>= λr=>toD r >>= λy=>fT gt gts ge ds e >>= λys=>.ok (y::ys) else fT gt gts ge ds e) >>= _);cases gts e with
   | bad=>rfl
   | exc z=>rfl
   | ok b=>
    cases b with
    | false=>exact vJ gt gts ge ds e k
    | true=>
     show ((gZ ge e >>= λr=>bP gt gts (gZ ge) ds r.2 >>= λz=>.ok (r.1++z.1,z.2)) >>= _)=((ge e >>= λr=>toD r >>= λy=>fT gt gts ge ds e >>= λys=>.ok (y::ys)) >>= _);unfold gZ;cases ge e with
     | bad=>rfl
     | exc z=>rfl
     | ok r=>
      show (((toD r >>= λy=>M.ok ([y],e)) >>= λr=>bP gt gts (gZ ge) ds r.2 >>= λz=>.ok (r.1++z.1,z.2)) >>= _)=((toD r >>= λy=>fT gt gts ge ds e >>= λys=>.ok (y::ys)) >>= _);cases toD r with
      | bad=>rfl
      | exc z=>rfl
      | ok y=>
       have ih:=vJ gt gts ge ds e λys=>k (y::ys);show ((bP gt gts (gZ ge) ds e >>= λz=>.ok ([y]++z.1,z.2)) >>= λr=>k r.1)=((fT gt gts ge ds e >>= λys=>M.ok (y::ys)) >>= k);have e1:((bP gt gts (gZ ge) ds e >>= λz=>M.ok ([y]++z.1,z.2)) >>= λr=>k r.1)=(bP gt gts (gZ ge) ds e >>= λr=>k (y::r.1)):=by cases bP gt gts (gZ ge) ds e <;> rfl
       have e2:((fT gt gts ge ds e >>= λys=>M.ok (y::ys)) >>= k)=(fT gt gts ge ds e >>= λys=>k (y::ys)):=by cases fT gt gts ge ds e <;> rfl
       rw [e1,e2,ih]
theorem JW (n:Nat) (cap:List Nat) (gi:G (List D)) (gt:GT) (gts:G Bool) (ge:G R):bM n cap gi gt gts ge=gA sizeLine n cap gi gt gts (gZ ge) (λys=>.ok (.l .fresh ys)):=by
 funext env;unfold bM gA;cases gi env with
 | bad=>rfl
 | exc z=>rfl
 | ok ds=>
  show (if ds.length<=sizeLine then _ else _)=(if ds.length<=sizeLine then _ else _);by_cases c:ds.length<=sizeLine
  ·rw [if_pos c,if_pos c];exact (vJ gt gts ge ds _ λys=>.ok (.l .fresh ys)).symm
  ·rw [if_neg c,if_neg c]
section
variable {X:Cx}{c:C}
theorem fX (own:List Str) (cap:List Nat){elt TU TV:UU}{ifs:List UU}{TM:Xy}{pos:Pos}{gi:G (List D)}{gt:GT}{gts:G Bool}{ge:G R}(hi:ud X c TU TV gi)
  (hbody:∀(cl:List (Str×UA)) (C:UA) (s:T_) (H:Hp) (fp:List UA),dM X.env.cells TM.names []=some cl->oO (cT X own cap TM cl C s H fp) c TU gt/\nP (cT X own cap TM cl C s H fp) c ifs gts/\QD (cT X own cap TM cl C s H fp) c elt ge) (a:yM X TM cap TV:=by exact uq rfl):nN X c (.ListComp elt [⟨TU,TV,ifs,0⟩] TM pos) (bM own.length cap gi gt gts ge):=by
 refine ⟨_,?_,rfl,λ_=>rfl⟩;rw [JW];refine lD (e:=.ListComp elt [⟨TU,TV,ifs,0⟩] TM pos) (ob:={cls:=.type "list",dict:=none,data:=.seq ([]:List T7).toArray}) (o0:=λ_=>.lst []) (Acc:=λp _=>Cj c p) (N:=1) (lim:=sizeLine) (m:=λp env=>do let _ <-call (.builtin "list.append") [.ref p,<-eval elt env]) own cap rfl hi.h
  (λs Q E q=>UJ q) (λh H=>⟨UD _,[],0,.nil,Uh _ rfl⟩) (λp _=>sN) (λp _ J H _ h1 h2=>⟨[],h1,h2,.nil⟩) (by rw [aes];exact Ud _) (λit p env=>yD (adS ..)) (λit acc env R s h0 h=>YD h0 h) (λys z q=>by cases q)
  (fun {p H2 J H J' H' ys r} hp _ e ⟨us,h1,h2,h3⟩ q=>by cases q;exact ⟨J',e,⟨p,us,rfl,h1,h2,hp,h3⟩⟩) (λcl C s H fp hcc=>?_) a
 obtain ⟨b1,b2,b3⟩:=hbody cl C s H fp hcc;exact ⟨b1.h,b2.h,λp J2 H2 hp2 hp0=>Ba (λ_ _ f=>f) hp2 hp0 b3.h⟩
end
end DL
namespace K23
open PySem DL
def uc:List Str:=["world","many","marks","arrows"]
noncomputable def uL:G O:=(aI (sW (dg 3 (bz (aA 1) (bz (aA 2) (bz (aA 3) dF)))) (af 0))
 (bw (bC (az (gN eU (ao (bM 2 [] (ff (af 2)) (dg 2 (bz (aA 0) (bz (aA 1) dF))) cA (af 0)) aG)) (az (gN eU (ao (bM 2 [] (ff (af 3)) (dg 2 (bz (aA 0) (bz (aA 1) dF))) cA (af 0)) aG)) aQ)))))
def jn (as:List S):M R:=fin (uL (a_ uc as))
def pC:List Str:=["one","other"]
def pT:G O:=(bL (bB (g2 (cL true) (gN (aT 1 K23.jn) (ao (af 0) aG)) (gN (aT 1 K23.jn) (ao (af 1) aG)))) yy c5)
def jl (as:List S):M R:=fin (pT (a_ pC as))
def k_:List Str:=["worlds","world"]
def lF:G O:=(bV (c8 (af 0)) (aA 1) (bL (bB (g2 (kD λi j=>.bl (decide (j < i))) (g2 aY (af 1) (gC (.int 0))) (gC (.int 4)))) yy c5))
def gj (as:List S):M R:=fin (lF (a_ k_ as))
def rH:List Str:=["one","other"]
noncomputable def rZ:G O:=(aI (kH (gN (aT 2 K23.jl) (ao (af 0) (ao (af 1) aG))))
 (kH (gN (aT 1 K23.gj) (ao (bC (az (af 0) (az (af 1) aQ))) aG))))
def gI (as:List S):M R:=fin (rZ (a_ rH as))
def A7:List Str:=["pairs"]
noncomputable def Bu:G O:=(aI (bL (bB (g2 (nc false) (af 0) (gC .non))) (bw (bC aQ)) c5)
 (bw (gN eU (ao (gN zI (ao (af 0) aG)) aG))))
def ig (as:List S):M R:=fin (Bu (a_ A7 as))
def IA:List Str:=["world","one","other","many","marks","arrows","bearing","leading"]
noncomputable def IT:G O:=(aI (sW (dg 3 (bz (aA 3) (bz (aA 4) (bz (aA 5) dF)))) (af 0))
 (aI (bh 6 (gN eU (ao (bM 2 [1] (ff (af 4)) (dg 2 (bz (aA 0) (bz (aA 1) dF))) cA (g2 (j4 false) (af 2) (af 1))) aG)))
 (aI (bh 7 (gN eU (ao (bM 2 [1,2] (ff (af 5)) (dg 2 (bz (aA 0) (bz (aA 1) dF))) cA (g2 (j4 false) (bC (az (af 2) (az (af 3) aQ))) (af 1))) aG)))
 (bw (bC (az (g2 (cL false) (af 1) (af 2)) (az (af 6) (az (af 7) aQ))))))))
def yr (as:List S):M R:=fin (IT (a_ IA as))
def DR:List Str:=["world"]
noncomputable def EE:G O:=(bw (qM 2 [0] (bQ (ao (g2 aY (af 0) (gC (.int 0))) aG)) (aA 0) cA (bQ (ao (g2 aY (af 2) (gC (.int 0))) aG)) (aA 1) cA (bC (az (af 0) (az (af 1) aQ))) (gN (aT 3 K23.yr) (ao (af 2) (ao (af 0) (ao (af 1) aG))))))
def o_ (as:List S):M R:=fin (EE (a_ DR as))
def DQ:List Str:=["first","second","pair","again"]
noncomputable def EC:G O:=(bw (g2 (cL false) (g2 fu (af 0) (bC (az (g2 aY (af 2) (gC (.int 0))) (az (g2 aY (af 3) (gC (.int 0))) aQ)))) (g2 fu (af 1) (bC (az (g2 aY (af 2) (gC (.int 1))) (az (g2 aY (af 3) (gC (.int 1))) aQ))))))
def fJ (as:List S):M R:=fin (EC (a_ DQ as))
def pA:List Str:=["first","second","pairing","pair","again"]
noncomputable def pS:G O:=(aI (bL (jt (s_ (af 2)) (bB (g2 zG (af 3) (g2 aY (af 2) (sY (gC (.int 1))))))) (bw (gC (.bl false))) c5)
 (aI (bV (c8 (af 2)) (aA 4) (bL (iN (fh (bB (gN (aT 4 K23.fJ) (ao (af 0) (ao (af 1) (ao (af 3) (ao (af 4) aG))))))) (fh (bB (gN (aT 4 K23.fJ) (ao (af 0) (ao (af 1) (ao (af 4) (ao (af 3) aG)))))))) (bw (gC (.bl false))) c5))
 (bw (gC (.bl true)))))
def jk (as:List S):M R:=fin (pS (a_ pA as))
def wM:List Str:=["one","other","most","first","second","pairs","longest","told","step"]
noncomputable def xm:G O:=(aI (kH (gN (aT 2 K23.gI) (ao (af 0) (ao (af 1) aG))))
 (aI (kH (gN (aT 3 K55.fR) (ao (af 2) (ao (gC (.int 0)) (ao (gC (.int 4)) aG)))))
 (aI (bh 3 (gN (aT 1 K23.o_) (ao (af 0) aG)))
 (aI (bh 4 (gN (aT 1 K23.o_) (ao (af 1) aG)))
 (aI (bh 5 (pN 2 [1,3,4] (bQ (ao (g2 aY (af 0) (gC (.int 0))) aG)) (aA 0) cA (bQ (ao (g2 aY (af 2) (gC (.int 0))) aG)) (aA 1) (bB (gN (aT 4 K23.fJ) (ao (af 3) (ao (af 4) (ao (bC (az (af 0) (az (af 1) aQ))) (ao (bC (az (af 0) (az (af 1) aQ))) aG)))))) (bC (az (af 0) (az (af 1) aQ)))))
 (aI (d8 5 (bh 6 (cU (az (bC aQ) aQ))))
 (aI (bh 7 (cU (az (bC aQ) aQ)))
 (aI (bV (bQ (ao (af 2) aG)) (aA 8) (aI (d8 5 (bh 6 (pN 2 [5,3,4] (ff (af 6)) (aA 0) cA (c8 (af 2)) (aA 1) (bB (gN (aT 4 K23.jk) (ao (af 3) (ao (af 4) (ao (af 0) (ao (af 1) aG)))))) (g2 cH (af 0) (bC (az (af 1) aQ))))))
 (vN 7 (af 6))))
 (bw (af 7))))))))))
def lT (as:List S):M R:=fin (xm (a_ wM as))
end K23
namespace K23
open PySem DL K01 WP K51 K52 K55
section
variable {α β:Type}
theorem IJ {gts:G Bool}{act:Ev->M (List D×Ev)}{h':β->D}{rest:Ev}(p:β->Bool) (f:β->D):∀(ys:List β),(∀y∈ys,gts (a0::some (.d (h' y))::rest)=.ok (p y)/\(p y=true->act (a0::some (.d (h' y))::rest)=.ok ([f y],a0::some (.d (h' y))::rest)))->
  ∀z:Option S,∃z',bP (aA 1) gts act (ys.map h') (a0::z::rest)=.ok ((ys.filter p).map f,a0::z'::rest)
 | [],_,z=>⟨z,rfl⟩
 | y::ys,H,z=>by
  obtain ⟨h1,h2⟩:=H y Uc;obtain ⟨z',ih⟩:=IJ p f ys (λy hy=>H y (Ua _ hy)) (some (.d (h' y)));refine ⟨z',?_⟩;rw [Ur];unfold bP;show (gts (a0::some (.d (h' y))::rest) >>= λk=>if k=true then act (a0::some (.d (h' y))::rest) >>= λr=>bP (aA 1) gts act (ys.map h') r.2 >>= λz=>.ok (r.1++z.1,z.2) else bP (aA 1) gts act (ys.map h') (a0::some (.d (h' y))::rest))=_;rw [h1,aN];cases q:p y with
  | true=>
   rw [if_pos rfl,h2 q,aN];show (bP (aA 1) gts act (ys.map h') (a0::some (.d (h' y))::rest) >>= _)=_;rw [ih,aN,Yr q];rfl
  | false=>
   rw [if_neg (by decide),ih,Ys (by simp [q])]
theorem Em {gi1:G (List D)}{gts:G Bool}{act:Ev->M (List D×Ev)}{h:α->D}{h':β->D}{rest:Ev}(ys:α->List β) (p:α->β->Bool) (f:α->β->D):∀(xs:List α),(∀x∈xs,(ys x).length<=1000/\(∀z:Option S,gi1 (some (.d (h x))::z::rest)=.ok ((ys x).map h'))/\∀y∈ys x,gts (some (.d (h x))::some (.d (h' y))::rest)=.ok (p x y)/\(p x y=true->act (some (.d (h x))::some (.d (h' y))::rest)=.ok ([f x y],some (.d (h x))::some (.d (h' y))::rest)))->
  ∀z0 z:Option S,∃z0' z',bP (aA 0) cA (jo gi1 (aA 1) gts act) (xs.map h) (z0::z::rest)=.ok (xs.flatMap λx=>((ys x).filter (p x)).map (f x),z0'::z'::rest)
 | [],_,z0,z=>⟨z0,z,rfl⟩
 | x::xs,H,z0,z=>by obtain ⟨h1,h2,h3⟩:=H x Uc;obtain ⟨z1,e1⟩:=IJ (a0:=some (.d (h x))) (p x) (f x) (ys x) h3 z;obtain ⟨z0',z',ih⟩:=Em ys p f xs (λy hy=>H y (Ua _ hy)) (some (.d (h x))) z1;refine ⟨z0',z',?_⟩;rw [Ur];unfold bP;show (jo gi1 (aA 1) gts act (some (.d (h x))::z::rest) >>= _)=_;unfold jo;rw [h2 z,aN,if_pos (by rw [T8];exact h1),e1,aN];show (bP (aA 0) cA (jo gi1 (aA 1) gts act) (xs.map h) (some (.d (h x))::z1::rest) >>= _)=_;rw [ih];rfl
theorem qH {gi0 gi1:G (List D)}{gts:G Bool}{act:Ev->M (List D×Ev)}{fin:List D->M R}{h:α->D}{h':β->D}{xs:List α}(ys:α->List β) (p:α->β->Bool) (f:α->β->D) (hi:gi0 env=.ok (xs.map h)) (hl:xs.length<=10000)
 (H:∀x∈xs,(ys x).length<=1000/\(∀z:Option S,gi1 (some (.d (h x))::z::cE 0 cap env)=.ok ((ys x).map h'))/\∀y∈ys x,gts (some (.d (h x))::some (.d (h' y))::cE 0 cap env)=.ok (p x y)/\(p x y=true->act (some (.d (h x))::some (.d (h' y))::cE 0 cap env)=.ok ([f x y],some (.d (h x))::some (.d (h' y))::cE 0 cap env))):
  gA 10000 2 cap gi0 (aA 0) cA (jo gi1 (aA 1) gts act) fin env=fin (xs.flatMap λx=>((ys x).filter (p x)).map (f x)):=by unfold gA;rw [hi,aN,if_pos (by rw [T8];exact hl)];obtain ⟨z0',z',e⟩:=Em ys p f xs H none none;show (bP (aA 0) cA (jo gi1 (aA 1) gts act) (xs.map h) (none::none::cE 0 cap env) >>= _)=_;rw [e];rfl
theorem qC {ge:G R}(h:ge env=.ok r) (h2:toD r=.ok d):gZ ge env=.ok ([d],env):=by unfold gZ;rw [h,aN,h2];rfl
theorem mW {gk gv:G R}(h:gk env=.ok r) (h2:toD r=.ok k) (h3:gv env=.ok r2) (h4:toD r2=.ok d) (ok:dD k=true):nQ gk gv env=.ok ([.tup [k,d]],env):=by unfold nQ;rw [h,aN,h2,aN,h3,aN,h4,aN,if_pos ok]
end
noncomputable def fq (u:Wd) (a c:Nat):D:=.tup [.bl (bq (dN a) (dN c)),.tup (u.ms.map λr=>.bl (inD (dN a) (r.2.map dN))),.tup (u.ar.map λr=>.bl (inD (dP (a,c)) (r.2.map dP)))]
theorem LC (u:Wd) (hu:A_ u) (a c:Nat):yr [.d u.d,.d (dN a),.d (dN c)]=.ok (.d (fq u a c)):=by have ml:=hu.ml;have al:=hu.al;refine b9 (Dp rfl rfl rfl ?_);refine bD (n1 (qG (xs:=u.ms) (λr=>.str r.1) (λr=>.tup (r.2.map dN)) (λr=>.bl (inD (dN a) (r.2.map dN))) rfl (by omega) λr _=>⟨_,two rfl rfl (PL a r.2),rfl⟩) rfl) rfl ?_;refine bD (n1 (qG (xs:=u.ar) (λr=>.str r.1) (λr=>.tup (r.2.map dP)) (λr=>.bl (inD (dP (a,c)) (r.2.map dP))) rfl (by omega) λr _=>⟨_,two (bF (aH rfl rfl (aH rfl rfl bf)) t2) rfl (PM (a,c) r.2),rfl⟩) rfl) rfl ?_;exact bG (bF (aH rfl rfl (aH rfl rfl (aH rfl rfl bf))) (by show 3<=1000;decide)) rfl rfl
def dJ (m n:Nat):List (Nat×Nat):=(Ue m).flatMap λa=>(Ue n).map λb=>(a,b)
theorem lI {p:Nat×Nat}:p∈dJ m n↔p.1 < m/\p.2 < n:=by
 unfold dJ;simp only [Wo,UQ,Ui];constructor
 ·rintro ⟨a,ha,b,hb,rfl⟩;exact ⟨ha,hb⟩
 ·rintro ⟨h1,h2⟩;exact ⟨p.1,h1,p.2,h2,rfl⟩
theorem oh (m n:Nat):(dJ m n).Nodup:=by unfold dJ;refine aaN.mpr ⟨λa _=>Xc.mpr (ab1 (λh e=>h (by cases e;rfl)) (Xq (n:=n))),?_⟩;refine ab1 ?_ (Xq (n:=m));intro a b hab p h1 q h2 e;subst e;obtain ⟨x,_,rfl⟩:=Ui.mp h1;obtain ⟨y,_,e⟩:=Ui.mp h2;cases e;exact hab rfl
theorem zW (m n:Nat):(dJ m n).length=m * n:=by
 induction m with
 | zero=>simp [dJ]
 | succ m ih=>
  unfold dJ at ih ⊢;rw [WL,ZC,Uo,ih,acT];simp
theorem Kh (h:∀x∈ks,bq x k=false):gU ks vs k=none:=by
 induction ks generalizing vs with
 | nil=>cases vs <;> rfl
 | cons x ks ih=>
  cases vs with
  | nil=>rfl
  | cons v vs=>
   unfold gU;rw [h x Uc,if_neg (by decide)];exact ih λy hy=>h y (Ua _ hy)
theorem wX (f:Nat×Nat->D):∀(n:Nat) (ps:List (Nat×Nat)),ps.length=n->ps.Nodup->iA (ps.map λp=>D.tup [dP p,f p])=(ps.map dP,ps.map f)
 | 0,ps,h,_=>by have:=Xo.mp h;subst this;rfl
 | n + 1,ps,h,nd=>by
  rcases VV ps with rfl | ⟨qs,p,rfl⟩
  ·cases h
  ·rw [VX] at h nd ⊢;have nd':=XR.mp nd;have ih:=wX f n qs (by simpa using h) nd'.1;have hn:gU (qs.map dP) (qs.map f) (dP p)=none:=Kh λx hx=>by obtain ⟨q,hq,rfl⟩:=Ui.mp hx;rw [wY,decide_eq_false_iff_not];rintro rfl;exact nd'.2.2 q hq q Uc rfl
   rw [Us,List.map_singleton,nU,ih];unfold dput;rw [hn];simp
abbrev iC (u:Wd):List D:=(dJ u.m u.m).map dP
abbrev iD (u:Wd):List D:=(dJ u.m u.m).map λp=>fq u p.1 p.2
theorem A3 (u:Wd) (hu:A_ u):o_ [.d u.d]=.ok (.d (.dct (iC u) (iD u))):=by
 have hi:=hu.hi;refine b9 (bG (r:=.d (.dct (iC u) (iD u))) ?_ rfl rfl);refine (qH (xs:=Ue u.m) (h:=dN) (h':=dN) (λ_=>Ue u.m) (λ_ _=>true) (λa b=>.tup [dP (a,b),fq u a b]) ?_ (by simp;omega) λa _=>⟨by simp;omega,λz=>?_,λb _=>⟨rfl,λ_=>mW (bF (aH rfl rfl (aH rfl rfl bf)) t2) rfl (c3 rfl rfl rfl (LC u hu a b)) rfl rfl⟩⟩).trans ?_
 ·exact jC (b_ (two rfl rfl (iQ _ _))) (by omega)
 ·exact jC (b_ (two rfl rfl (iQ _ _))) (by omega)
 ·have ef:(Ue u.m).filter (λ_=>true)=Ue u.m:=Xm.mpr λ_ _=>rfl;have e:((Ue u.m).flatMap λa=>((Ue u.m).filter λ_=>true).map λb=>D.tup [dP (a,b),fq u a b])=(dJ u.m u.m).map λp=>D.tup [dP p,fq u p.1 p.2]:=by rw [ef];unfold dJ;rw [Xr];simp [UM,Function.comp_def]
  rw [e];have h:=wX (λp=>fq u p.1 p.2) _ (dJ u.m u.m) rfl (oh _ _);show M.ok (R.d (.dct (iA ((dJ u.m u.m).map λp=>D.tup [dP p,fq u p.1 p.2])).1 (iA ((dJ u.m u.m).map λp=>D.tup [dP p,fq u p.1 p.2])).2))=_;rw [h]
theorem BC (u:Wd):∀(ps:List (Nat×Nat)) (p:Nat×Nat),p∈ps->gU (ps.map dP) (ps.map λp=>fq u p.1 p.2) (dP p)=some (fq u p.1 p.2)
 | q::ps,p,h=>by
  rw [Ur,Ur];unfold gU;by_cases c:q=p
  ·subst c;rw [if_pos (by rw [wY];simp)]
  ·rw [if_neg (by rw [wY];simpa using c)];rcases Uw.mp h with e | e
   ·exact absurd e.symm c
   ·exact BC u ps p e
theorem zD (u:Wd) (a c:Nat) (ha:a < u.m) (hc:c < u.m):fu (.d (.dct (iC u) (iD u))) (.d (dP (a,c)))=.ok (.d (fq u a c)):=by
 show (if dD (dP (a,c))=true then (match gU (iC u) (iD u) (dP (a,c)) with
  | some d=>M.ok (R.d d)
  | none=>.bad) else .bad)=_
 rw [if_pos (show dD (dP (a,c))=true from rfl),BC u (dJ u.m u.m) (a,c) (lI.mpr ⟨ha,hc⟩)]
theorem AF (u:Wd) (a c:Nat):dep (fq u a c)<=60:=by
 have h1:deps (u.ms.map λr=>D.bl (inD (dN a) (r.2.map dN)))<=0:=eu λx hx=>by obtain ⟨r,_,rfl⟩:=Ui.mp hx;exact UD _
 have h2:deps (u.ar.map λr=>D.bl (inD (dP (a,c)) (r.2.map dP)))<=0:=eu λx hx=>by obtain ⟨r,_,rfl⟩:=Ui.mp hx;exact UD _
 unfold fq;simp only [dep,deps];omega
def iL (v w:Wd) (p q:Nat×Nat):Bool:=bq (fq v p.1 q.1) (fq w p.2 q.2)
def j3 (v w:Wd) (p:Nat×Nat):Prop:=p.1 < v.m/\p.2 < w.m
theorem vq (v w:Wd) (p q:Nat×Nat) (hp:j3 v w p) (hq:j3 v w q):fJ [.d (.dct (iC v) (iD v)),.d (.dct (iC w) (iD w)),.d (dP p),.d (dP q)]=.ok (.d (.bl (iL v w p q))):=by refine b9 (bG (two (x:=.d (fq v p.1 q.1)) (y:=.d (fq w p.2 q.2)) (two rfl (bF (aH (two rfl rfl (iQ _ _)) rfl (aH (two rfl rfl (iQ _ _)) rfl bf)) t2) (zD v p.1 q.1 hp.1 hq.1)) (two rfl (bF (aH (two rfl rfl (EM _ _ _)) rfl (aH (two rfl rfl (EM _ _ _)) rfl bf)) t2) (zD w p.2 q.2 hp.2 hq.2)) (l6 _ _ _ (AF v p.1 q.1) (AF w p.2 q.2))) rfl rfl)
def se (p q:Nat×Nat):Bool:=lexLe [p.1,p.2] [q.1,q.2]
theorem Qp (p q:Nat×Nat):zG (.d (dP p)) (.d (dP q))=.ok (.d (.bl (se p q))):=rfl
noncomputable def gb (v w:Wd) (ps:List (Nat×Nat)) (q:Nat×Nat):Bool:=(match ps.getLast? with
 | some l=>!se q l
 | none=>true) && ps.all λr=>iL v w q r && iL v w r q
theorem eZ {g:G R}(h:g env=.ok (.d (.bl b))):bB g env=.ok b:=by show (g env >>= _)=_;rw [h];rfl
theorem fC {g:G R}(h:g env=.ok (nh (.d (.bl b)))):bB g env=.ok b:=eZ h
theorem bx {f:R->R->M R}{g h:G R}(hx:g env=.ok x) (hy:h env=.ok y) (hf:f x y=.ok (.d (.bl b))):bB (g2 f g h) env=.ok b:=eZ (two hx hy hf)
theorem dB {g:G Bool}(h:g env=.ok b):fh g env=.ok (!b):=by show (g env >>= _)=_;rw [h];rfl
theorem eS {a b:G Bool}(h:a env=.ok false):jt a b env=.ok false:=by unfold jt;rw [h];rfl
theorem dG {a b:G Bool}(h:a env=.ok true) (h2:b env=.ok k):jt a b env=.ok k:=by unfold jt;rw [h];exact h2
theorem M8 {a b:G Bool}(h:a env=.ok (!x)) (h2:b env=.ok (!y)):iN a b env=.ok (!(x && y)):=by
 unfold iN;rw [h];cases x with
 | true=>exact h2
 | false=>rfl
theorem Pj (v w:Wd) (ps:List (Nat×Nat)) (q:Nat×Nat) (hp:∀p∈ps,j3 v w p) (hq:j3 v w q):jk [.d (.dct (iC v) (iD v)),.d (.dct (iC w) (iD w)),.d (.tup (ps.map dP)),.d (dP q)]=.ok (.d (.bl (gb v w ps q))):=by
 have loop:(match ps.getLast? with
   | some l=>!se q l
   | none=>true)=true->Wp (aI (bV (c8 (af 2)) (aA 4) (bL (iN (fh (bB (gN (aT 4 K23.fJ) (ao (af 0) (ao (af 1) (ao (af 3) (ao (af 4) aG))))))) (fh (bB (gN (aT 4 K23.fJ) (ao (af 0) (ao (af 1) (ao (af 4) (ao (af 3) aG)))))))) (bw (gC (.bl false))) c5))
 (bw (gC (.bl true))) [some (.d (.dct (iC v) (iD v))),some (.d (.dct (iC w) (iD w))),some (.d (.tup (ps.map dP))),some (.d (dP q)),none]) (·=.rt (.d (.bl (gb v w ps q)))):=by
  intro hl;refine cY (ds:=ps.map dP) rfl ?_;have key:∀(rs:List (Nat×Nat)),(∀p∈rs,j3 v w p)->∀x:Option S,Wp (eE (aA 4) (bL (iN (fh (bB (gN (aT 4 K23.fJ) (ao (af 0) (ao (af 1) (ao (af 3) (ao (af 4) aG))))))) (fh (bB (gN (aT 4 K23.fJ) (ao (af 0) (ao (af 1) (ao (af 4) (ao (af 3) aG)))))))) (bw (gC (.bl false))) c5) (rs.map dP) [some (.d (.dct (iC v) (iD v))),some (.d (.dct (iC w) (iD w))),some (.d (.tup (ps.map dP))),some (.d (dP q)),x])
    (λo=>((∃e,o=.nx e)/\(rs.all λr=>iL v w q r && iL v w r q)=true)\/(o=.rt (.d (.bl false))/\(rs.all λr=>iL v w q r && iL v w r q)=false)):=by
   intro rs
   induction rs with
   | nil=>intro _ x;exact ⟨_,rfl,.inl ⟨⟨_,rfl⟩,rfl⟩⟩
   | cons r rs ih=>
    intro hr x;have h1:=vq v w q r hq (hr r Uc);have h2:=vq v w r q (hr r Uc) hq;have ht:(iN (fh (bB (gN (aT 4 K23.fJ) (ao (af 0) (ao (af 1) (ao (af 3) (ao (af 4) aG))))))) (fh (bB (gN (aT 4 K23.fJ) (ao (af 0) (ao (af 1) (ao (af 4) (ao (af 3) aG)))))))) [some (.d (.dct (iC v) (iD v))),some (.d (.dct (iC w) (iD w))),some (.d (.tup (ps.map dP))),some (.d (dP q)),some (.d (dP r))]=.ok (!(iL v w q r && iL v w r q)):=M8 (dB (fC (c4 rfl rfl rfl rfl h1))) (dB (fC (c4 rfl rfl rfl rfl h2)));rw [Ur,We];unfold eE;show Wp ((bL _ _ _ [some (.d (.dct (iC v) (iD v))),some (.d (.dct (iC w) (iD w))),some (.d (.tup (ps.map dP))),some (.d (dP q)),some (.d (dP r))]) >>= _) _;cases hc:(iL v w q r && iL v w r q) with
    | true=>
     rw [hc] at ht;rw [pX ht];exact ih (λp hp=>hr p (Ua _ hp)) _
    | false=>
     rw [hc] at ht;rw [nt ht];exact ⟨_,rfl,.inr ⟨rfl,rfl⟩⟩
  refine (key ps hp none).mono ?_;rintro o (⟨⟨e,rfl⟩,h⟩ | ⟨rfl,h⟩)
  ·refine bG rfl rfl ?_;unfold gb;rw [hl,h];rfl
  ·show O.rt _=_;unfold gb;rw [h,Xu]
 refine b9 ?_;cases q':ps.getLast? with
 | none=>
  have:ps=[]:=ZO.mp q';subst this;exact f7 (eS rfl) (loop rfl)
 | some l=>
  obtain ⟨rs,rfl⟩:∃rs,ps=rs++[l]:=by
   rcases VV ps with rfl | ⟨ys,y,rfl⟩
   ·cases q'
   ·rw [VX] at q' ⊢;rw [XX] at q';cases q';exact ⟨ys,rfl⟩
  have hix:aY (.d (.tup ((rs++[l]).map dP))) (.d (.int (-1)))=.ok (.d (dP l)):=by rw [Us];exact By _ _
  have ht:jt (s_ (af 2)) (bB (g2 zG (af 3) (g2 aY (af 2) (sY (gC (.int 1)))))) [some (.d (.dct (iC v) (iD v))),some (.d (.dct (iC w) (iD w))),some (.d (.tup ((rs++[l]).map dP))),some (.d (dP q)),none]=.ok (se q l):=by refine dG ?_ (eZ (two rfl (two rfl rfl hix) (Qp q l)));show M.ok (!((rs++[l]).map dP).isEmpty)=_;simp
  cases hc:se q l with
  | true=>
   rw [hc] at ht;refine bY (uR ht (bG rfl rfl ?_));show O.rt _=_;unfold gb;rw [q'];simp [hc]
  | false=>
   rw [hc] at ht;exact f7 ht (loop (by rw [q'];simp [hc]))
section
variable {env:Ev}{Q:O->Prop}{g:G R}{t:G O}{r:R}{i:Nat}
theorem CO {xs ys:List D}(h0:env[i]?=some (some (.own xs))) (h:g env=.ok r) (h2:iz r=.ok ys) (hl:xs.length + ys.length<=16777216) (k:Q (.nx (env.set i (some (.own (xs++ys)))))):Wp (vN i g env) Q:=by refine ⟨_,?_,k⟩;unfold vN;rw [h0];show (g env >>= _)=_;rw [h,aN,h2,aN,if_pos (by rw [U7];exact hl)]
theorem MN (h:g env=.ok r) (k:Q (.nx env)):Wp (kH g env) Q:=⟨.nx env,by show (g env >>= _)=_;rw [h];rfl,k⟩
theorem Ge (h:env[i]?=some (some (.d d))) (k:Wp (t env) Q):Wp (d8 i t env) Q:=by
 have:d8 i t env=t env:=by unfold d8;rw [h]
 rw [this];exact k
theorem N1 (h:env[i]?=some none) (k:Wp (t env) Q):Wp (d8 i t env) Q:=by
 have:d8 i t env=t env:=by unfold d8;rw [h]
 rw [this];exact k
end
structure Pr (v w:Wd):Prop where
 vo:A_ v
 wo:A_ w
 v4:v.m<=4
 w4:w.m<=4
 mn:v.ms.map Va=w.ms.map Va
 an:v.ar.map Va=w.ar.map Va
def jU (u:Wd):D:=.tup [.tup ((u.ms.map Va).map .str),.tup ((u.ar.map Va).map .str)]
theorem yO (u:Wd) (hu:A_ u):jn [.d u.d]=.ok (.d (jU u)):=by have ml:=hu.ml;have al:=hu.al;refine b9 (Dp rfl rfl rfl (bG (bF (aH (n1 (qG (xs:=u.ms) (λr=>.str r.1) (λr=>.tup (r.2.map dN)) (λr=>.str r.1) rfl (by omega) λr _=>⟨_,rfl,rfl⟩) rfl) rfl (aH (n1 (qG (xs:=u.ar) (λr=>.str r.1) (λr=>.tup (r.2.map dP)) (λr=>.str r.1) rfl (by omega) λr _=>⟨_,rfl,rfl⟩) rfl) rfl bf)) t2) rfl ?_));unfold jU;rw [UM,UM];rfl
theorem B4 (u:Wd):dep (jU u)<=60:=by
 have h:∀ss:List Str,deps (ss.map D.str)<=0:=λss=>eu λx hx=>by obtain ⟨r,_,rfl⟩:=Ui.mp hx;exact UD _
 have h1:=h (u.ms.map Va);have h2:=h (u.ar.map Va);unfold jU;simp only [dep,deps];omega
theorem ia {v w:Wd}(t:Pr v w):gI [.d v.d,.d w.d]=.ok (.d .non):=by
 have ht:jl [.d v.d,.d w.d]=.ok (.d .non):=by
  refine vm (vU (bx (b:=false) (c1 rfl (yO v t.vo)) (c1 rfl (yO w t.wo)) ?_) (fZ ⟨_,rfl⟩));show cL true (.d (jU v)) (.d (jU w))=_;rw [l6 true (.d (jU v)) (.d (jU w)) (B4 v) (B4 w)];have e:jU v=jU w:=by unfold jU;rw [t.mn,t.an]
  show M.ok (R.d (.bl (!bq (jU v) (jU w))))=_;rw [e,gn];rfl
 have hf:gj [.d (.tup [v.d,w.d])]=.ok (.d .non):=by
  have v4:=t.v4;have w4:=t.w4;have one:∀(u:Wd),u.m<=4->bB (g2 (kD λi j=>.bl (decide (j < i))) (g2 aY (af 1) (gC (.int 0))) (gC (.int 4))) [some (.d (.tup [v.d,w.d])),some (.d u.d)]=.ok false:=λu hu=>by refine bx (two rfl rfl (iQ _ _)) rfl ?_;show M.ok (R.d (.bl (decide ((4:Int) < (u.m:Int)))))=_;rw [decide_eq_false (by omega)]
  refine vm (jZ (ds:=[v.d,w.d]) rfl (f_ (λk env=>∃x,env=[some (.d (.tup [v.d,w.d])),x]) [v.d,w.d] ⟨none,rfl⟩ ?_ λe _=>⟨e,rfl⟩));rintro k hk _ ⟨x,rfl⟩
  match k,hk with
  | 0,_=>exact ⟨_,rfl,vU (one v v4) (fZ ⟨_,rfl,_,rfl⟩)⟩
  | 1,_=>exact ⟨_,rfl,vU (one w w4) (fZ ⟨_,rfl,_,rfl⟩)⟩
 refine vm (mZ (c2 rfl rfl ht) ?_);exact MN (c1 (bF (aH rfl rfl (aH rfl rfl bf)) t2) hf) ⟨_,rfl⟩
theorem N3 (d:Nat) (hd:d<=4):K55.fR [.d (.int d),.d (.int 0),.d (.int 4)]=.ok (.d .non):=by refine vm (vU ?_ (fZ ⟨_,rfl⟩));show (if decide ((d:Int) < 0)=true then M.ok true else M.ok (decide ((4:Int) < d)))=M.ok false;rw [decide_eq_false (show ¬(d:Int) < 0 by omega),decide_eq_false (show ¬(4:Int) < d by omega)];rfl
def prs (v w:Wd):List (Nat×Nat):=(dJ v.m w.m).filter λp=>iL v w p p
noncomputable def LG (v w:Wd):Nat->List (List (Nat×Nat))
 | 0=>[[]]
 | j + 1=>(LG v w j).flatMap λah=>((prs v w).filter (gb v w ah)).map λq=>ah++[q]
noncomputable def told (v w:Wd):Nat->List (List (Nat×Nat))
 | 0=>[[]]
 | j + 1=>told v w j++LG v w (j + 1)
abbrev aE (ps:List (Nat×Nat)):D:=.tup (ps.map dP)
theorem Fj (h:p∈prs v w):j3 v w p:=lI.mp (UT.mp h).1
theorem BP (t:Pr v w):(prs v w).length<=16:=by have h1:=UR (λp=>iL v w p p) (dJ v.m w.m);rw [zW] at h1;have h2:=W0 t.v4 t.w4;unfold prs;omega
theorem nO:∀(j:Nat){ps:List (Nat×Nat)},ps∈LG v w j->ps.length=j/\∀p∈ps,j3 v w p
 | 0,ps,h=>by rw [show ps=[] from Ul.mp h];exact ⟨rfl,λ_ h=>by cases h⟩
 | j + 1,ps,h=>by
  obtain ⟨ah,h1,h2⟩:=Wo.mp h;obtain ⟨q,h3,rfl⟩:=Ui.mp h2;obtain ⟨l,k⟩:=nO j h1;refine ⟨by rw [Uo,l];rfl,λp hp=>?_⟩;rcases UI.mp hp with h | h
  ·exact k p h
  ·rw [Ul.mp h];exact Fj (UT.mp h3).1
theorem jN {α β:Type}(f:α->List β) (n:Nat):∀(xs:List α),(∀x∈xs,(f x).length<=n)->(xs.flatMap f).length<=xs.length * n
 | [],_=>by simp
 | x::xs,h=>by have h1:=h x Uc;have h2:=jN f n xs λy hy=>h y (Ua _ hy);rw [List.flatMap_cons,Uo,U4,acT];omega
theorem k9 (t:Pr v w):∀j,(LG v w j).length<=16 ^ j
 | 0=>Ud _
 | j + 1=>by
  have h:=jN (λah=>((prs v w).filter (gb v w ah)).map λq=>ah++[q]) 16 (LG v w j) λah _=>by rw [T8];exact UC (UR _ _) (BP t)
  have h2:=V1 16 (k9 t j);rw [Y3];exact UC h h2
theorem oB (t:Pr v w):∀j,j<=4->(told v w j).length<=(j + 1) * 65536
 | 0,_=>by show 1<=_;omega
 | j + 1,h=>by
  have h1:=oB t j (by omega);have h2:=k9 t (j + 1);have h3:(16:Nat) ^ (j + 1)<=16 ^ 4:=U3 (by decide) h;have h4:(16:Nat) ^ 4=65536:=by decide
  show (told v w j++LG v w (j + 1)).length<=_;rw [Uo];omega
theorem gP:∀(n:Nat){ps:List (Nat×Nat)},ps∈told v w n↔∃j,j<=n/\ps∈LG v w j
 | 0,ps=>by
  constructor
  ·exact λh=>⟨0,Ud _,h⟩
  ·rintro ⟨j,hj,h⟩;have:j=0:=by omega
   subst this;exact h
 | n + 1,ps=>by
  show ps∈told v w n++LG v w (n + 1)↔_;rw [UI,gP n];constructor
  ·rintro (⟨j,hj,h⟩ | h)
   ·exact ⟨j,by omega,h⟩
   ·exact ⟨n + 1,Ud _,h⟩
  ·rintro ⟨j,hj,h⟩;by_cases c:j=n + 1
   ·subst c;exact .inr h
   ·exact .inl ⟨j,by omega,h⟩
theorem jh {v w:Wd}(t:Pr v w) (n:Nat) (hn:n<=4):lT [.d v.d,.d w.d,.d (.int n)]=.ok (.l .fresh ((told v w n).map aE)):=by
 have v4:=t.v4;have w4:=t.w4;refine b9 (mZ (c2 rfl rfl (ia t)) (mZ (c3 rfl rfl rfl (N3 n hn)) (bD (c1 rfl (A3 v t.vo)) rfl (bD (c1 rfl (A3 w t.wo)) rfl ?_))));have hp:pN 2 [1,3,4] (bQ (ao (g2 aY (af 0) (gC (.int 0))) aG)) (aA 0) cA (bQ (ao (g2 aY (af 2) (gC (.int 0))) aG)) (aA 1) (bB (gN (aT 4 K23.fJ) (ao (af 3) (ao (af 4) (ao (bC (az (af 0) (az (af 1) aQ))) (ao (bC (az (af 0) (az (af 1) aQ))) aG)))))) (bC (az (af 0) (az (af 1) aQ)))
   [some (.d v.d),some (.d w.d),some (.d (.int n)),some (.d (.dct (iC v) (iD v))),some (.d (.dct (iC w) (iD w))),none,none,none,none]=.ok (.l .fresh ((prs v w).map dP)):=by
  refine (qH (xs:=Ue v.m) (h:=dN) (h':=dN) (λ_=>Ue w.m) (λa b=>iL v w (a,b) (a,b)) (λa b=>dP (a,b)) (jC (b_ (two rfl rfl (iQ _ _))) (by omega)) (by simp;omega) λa ha=>⟨by simp;omega,λz=>jC (b_ (two rfl rfl (iQ _ _))) (by omega),λb hb=>⟨?_,λ_=>qC (bF (aH rfl rfl (aH rfl rfl bf)) t2) rfl⟩⟩).trans ?_
  ·have ha:a < v.m:=by simpa using ha
   have hb:b < w.m:=by simpa using hb
   exact fC (c4 rfl rfl (bF (aH rfl rfl (aH rfl rfl bf)) t2) (bF (aH rfl rfl (aH rfl rfl bf)) t2) (vq v w (a,b) (a,b) ⟨ha,hb⟩ ⟨ha,hb⟩))
  ·have e:((Ue v.m).flatMap λa=>((Ue w.m).filter λb=>iL v w (a,b) (a,b)).map λb=>dP (a,b))=(prs v w).map dP:=by unfold prs dJ;rw [abl,Xr];congr 1;funext a;rw [aaO,UM];rfl
   rw [e]
 refine bD hp rfl ?_;refine bY (qY rfl (eY (eV (aH (bF bf (by decide)) rfl bf) (by show 1<=1000;decide)) rfl ?_));refine bD (eV (aH (bF bf (by decide)) rfl bf) (by show 1<=1000;decide)) rfl ?_;refine cY (jB (n:=n) rfl (by omega)) ?_;refine gW (λk env=>∃x:Option S,env=[some (.d v.d),some (.d w.d),some (.d (.int n)),some (.d (.dct (iC v) (iD v))),some (.d (.dct (iC w) (iD w))),some (.d (.lst ((prs v w).map dP))),some (.own ((LG v w k).map aE)),some (.own ((told v w k).map aE)),x]) ⟨none,rfl⟩ ?_ ?_
 ·rintro k hk _ ⟨x,rfl⟩;have l1:=k9 t k;have l2:=k9 t (k + 1);have l3:=oB t k (by omega);have p1:(16:Nat) ^ k<=16 ^ 3:=U3 (by decide) (by omega);have p2:(16:Nat) ^ (k + 1)<=16 ^ 4:=U3 (by decide) (by omega);have p3:(16:Nat) ^ 3=4096:=by decide
  have p4:(16:Nat) ^ 4=65536:=by decide
  refine ⟨_,rfl,bY (Ge rfl (eY (r:=.l .fresh ((LG v w (k + 1)).map aE)) ?_ rfl (CO rfl rfl rfl (by simp only [T8];omega) ⟨_,rfl,some (.d (.int k)),?_⟩)))⟩
  ·refine (qH (xs:=LG v w k) (h:=aE) (h':=dP) (λ_=>prs v w) (λah q=>gb v w ah q) (λah q=>aE (ah++[q])) rfl (by omega) λah SG=>⟨by have:=BP t;omega,λz=>rfl,λq hq=>⟨?_,λ_=>qC (two rfl (bF (aH rfl rfl bf) (by show 1<=1000;decide)) (Dz _ _ ?_)) ?_⟩⟩).trans ?_
   ·exact fC (c4 rfl rfl rfl rfl (Pj v w ah q (nO k SG).2 (Fj hq)))
   ·have:=(nO k SG).1;simp;omega
   ·show M.ok (D.tup (ah.map dP++[dP q]))=M.ok (D.tup ((ah++[q]).map dP));rw [Us];rfl
   ·show M.ok (R.l .fresh _)=_;show _=M.ok (R.l .fresh (((LG v w k).flatMap λah=>((prs v w).filter (gb v w ah)).map λq=>ah++[q]).map aE));rw [Xr];simp only [UM];rfl
  ·show _=[_,_,_,_,_,_,_,some (S.own ((told v w k++LG v w (k + 1)).map aE)),_];rw [Us];rfl
 ·rintro _ ⟨x,rfl⟩;exact bG rfl rfl rfl
theorem allM {α:Type}(f:α->Bool) (xs:List α):pM [.l .fresh (xs.map λx=>.bl (f x))]=.ok (.d (.bl (xs.all f))):=by
 have:=all_map (λd=>match d with
  | .bl b=>b
  | _=>false) (xs.map λx=>.bl (f x))
 rw [UM,Y0] at this;exact this
theorem zF:∀{xs ys:List Bool},cB (xs.map D.bl) (ys.map D.bl)=true↔xs=ys
 | [],[]=>by simp [cB]
 | [],_::_=>by simp [cB]
 | _::_,[]=>by simp [cB]
 | x::xs,y::ys=>by rw [Ur,Ur,gM,Ub,zF];simp [bq]
structure oG (v w:Wd) (p q:Nat×Nat):Prop where
 eq:p.1=q.1↔p.2=q.2
 ms:v.ms.map (λr=>decide (p.1∈r.2))=w.ms.map λr=>decide (p.2∈r.2)
 ar:v.ar.map (λr=>decide ((p.1,q.1)∈r.2))=w.ar.map λr=>decide ((p.2,q.2)∈r.2)
theorem i9 (v w:Wd) (p q:Nat×Nat):iL v w p q=true↔oG v w p q:=by
 have e:iL v w p q=((p.1 == q.1) == (p.2 == q.2) && (cB ((v.ms.map λr=>decide (p.1∈r.2)).map D.bl) ((w.ms.map λr=>decide (p.2∈r.2)).map D.bl) && (cB ((v.ar.map λr=>decide ((p.1,q.1)∈r.2)).map D.bl) ((w.ar.map λr=>decide ((p.2,q.2)∈r.2)).map D.bl) && true))):=by unfold iL fq;rw [jM,gM,gM,gM,jM,jM,cB];simp only [K55.inN,K55.Pc,UM,K55.uw];rfl
 rw [e,Ub,Ub,Ub,zF,zF];have e1:((p.1 == q.1) == (p.2 == q.2))=true↔(p.1=q.1↔p.2=q.2):=by rw [beq_iff_eq,U_,beq_iff_eq,beq_iff_eq]
 rw [e1];exact ⟨λ⟨a,b,c,_⟩=>⟨a,b,c⟩,λ⟨a,b,c⟩=>⟨a,b,c,rfl⟩⟩
theorem MQ {p q:Nat×Nat}(h:se p q=false):q.1 < p.1\/(q.1=p.1/\q.2 < p.2):=by
 unfold se at h;rw [kK] at h;by_cases c:(p.1:Int)=q.1
 ·rw [if_pos c,kK] at h;by_cases c2:(p.2:Int)=q.2
  ·rw [if_pos c2,oX] at h;cases h
  ·rw [if_neg c2,decide_eq_false_iff_not] at h;exact .inr ⟨by omega,by omega⟩
 ·rw [if_neg c,decide_eq_false_iff_not] at h;exact .inl (by omega)
theorem MP {p q:Nat×Nat}(h:q.1 < p.1):se p q=false:=by unfold se;rw [kK,if_neg (by omega),decide_eq_false_iff_not];omega
structure Good (v w:Wd) (ps:List (Nat×Nat)):Prop where
 up:ps.Pairwise λp q=>p.1 < q.1
 ag:∀p∈ps,∀q∈ps,oG v w p q
 rg:∀p∈ps,j3 v w p
theorem qP {α:Type}{ps:List α}{l:α}(h:ps.getLast?=some l):∃rs,ps=rs++[l]:=by
 rcases VV ps with rfl | ⟨ys,y,rfl⟩
 ·cases h
 ·rw [VX] at h ⊢;rw [XX] at h;cases h;exact ⟨ys,rfl⟩
theorem kW:p∈prs v w↔j3 v w p/\oG v w p p:=by unfold prs;rw [UT,lI,i9];exact Iff.rfl
theorem pR {v w:Wd}{ps:List (Nat×Nat)}(g:Good v w ps){q:Nat×Nat}(hq:q∈prs v w):gb v w ps q=true↔Good v w (ps++[q]):=by
 obtain ⟨h1,h2⟩:=kW.mp hq;unfold gb;rw [Ub,Uz];constructor
 ·rintro ⟨a,b⟩;have ag:∀r∈ps,oG v w q r/\oG v w r q:=λr hr=>by have:=b r hr;rw [Ub,i9,i9] at this;exact this
  have lt:∀r∈ps,r.1 < q.1:=by
   cases e:ps.getLast? with
   | none=>rw [ZO.mp e];exact λ_ h=>by cases h
   | some l=>
    rw [e] at a;have hl:l.1 < q.1:=by
     obtain ⟨rs,rfl⟩:=qP e;rcases MQ (by simpa using a) with h | ⟨h,h'⟩
     ·exact h
     ·have:=(ag l (by simp)).1.eq;omega
    obtain ⟨rs,rfl⟩:=qP e;intro r hr;rcases UI.mp hr with h | h
    ·have:=(VE.mp g.up).2.2 r h l (by simp);omega
    ·rw [Ul.mp h];exact hl
  refine ⟨VE.mpr ⟨g.up,V0 _ _,λr hr x hx=>by rw [Ul.mp hx];exact lt r hr⟩,λr hr x hx=>?_,λr hr=>?_⟩
  ·rcases UI.mp hr with hr | hr <;> rcases UI.mp hx with hx | hx
   ·exact g.ag r hr x hx
   ·rw [Ul.mp hx];exact (ag r hr).2
   ·rw [Ul.mp hr];exact (ag x hx).1
   ·rw [Ul.mp hr,Ul.mp hx];exact h2
  ·rcases UI.mp hr with hr | hr
   ·exact g.rg r hr
   ·rw [Ul.mp hr];exact h1
 ·intro h;refine ⟨?_,λr hr=>?_⟩
  ·cases e:ps.getLast? with
   | none=>rfl
   | some l=>
    have hl:l∈ps:=by obtain ⟨rs,rfl⟩:=qP e;simp
    have:=(VE.mp h.up).2.2 l hl q (by simp);show (!se q l)=true;rw [MP this];rfl
  ·rw [Ub,i9,i9];exact ⟨h.ag q (by simp) r (by simp [hr]),h.ag r (by simp [hr]) q (by simp)⟩
theorem fN:∀(j:Nat){ps:List (Nat×Nat)},ps∈LG v w j↔ps.length=j/\Good v w ps
 | 0,ps=>by
  constructor
  ·intro h;rw [show ps=[] from Ul.mp h];exact ⟨rfl,.nil,(λ_ h=>nomatch h),(λ_ h=>nomatch h)⟩
  ·rintro ⟨h,_⟩;rw [Xo.mp h];exact Ul.mpr rfl
 | j + 1,ps=>by
  constructor
  ·intro h;obtain ⟨ah,h1,h2⟩:=Wo.mp h;obtain ⟨q,h3,rfl⟩:=Ui.mp h2;obtain ⟨l,g⟩:=(fN j).mp h1;obtain ⟨h4,h5⟩:=UT.mp h3;exact ⟨by rw [Uo,l];rfl,(pR g h4).mp h5⟩
  ·rintro ⟨h,g⟩;rcases VV ps with rfl | ⟨ah,q,rfl⟩
   ·cases h
   ·rw [VX] at h g ⊢;have ga:Good v w ah:=⟨(VE.mp g.up).1,λp hp x hx=>g.ag p (by simp [hp]) x (by simp [hx]),λp hp=>g.rg p (by simp [hp])⟩;have hq:q∈prs v w:=kW.mpr ⟨g.rg q (by simp),g.ag q (by simp) q (by simp)⟩;exact Wo.mpr ⟨ah,(fN j).mpr ⟨by simpa using h,ga⟩,Ui.mpr ⟨q,UT.mpr ⟨hq,(pR ga hq).mpr g⟩,rfl⟩⟩
theorem IY (a b:Nat):eF (dN a) (dN b)=true↔a < b:=by rw [nu,decide_eq_true_eq];omega
theorem CW (a b:Nat×Nat):eF (dP a) (dP b)=true↔BK a b:=by
 have e:eF (dP a) (dP b)=iH [dN a.1,dN a.2] [dN b.1,dN b.2]:=rfl;rw [e,jO,K55.uw];unfold BK;by_cases c:a.1=b.1
 ·rw [if_pos (by simpa using c),jO,K55.uw];by_cases c2:a.2=b.2
  ·rw [if_pos (by simpa using c2)];constructor
   ·intro h;cases h
   ·intro h;omega
  ·rw [if_neg (by simpa using c2)];rw [show eF (D.int a.2) (D.int b.2)=eF (dN a.2) (dN b.2) from rfl,IY];omega
 ·rw [if_neg (by simpa using c)];rw [show eF (D.int a.1) (D.int b.1)=eF (dN a.1) (dN b.1) from rfl,IY];omega
theorem MT {α β:Type}{f:α->β}{xs:List α}(nd:xs.Nodup) (inj:∀a∈xs,∀b∈xs,f a=f b->a=b):(xs.map f).Nodup:=by refine Xc.mpr ((Y5.mp nd).imp ?_);rintro a b ⟨ha,hb,h⟩ e;exact h (inj a ha b hb e)
end K23
namespace DL
open PySem PySem.Spec PyProof.Rows L2 DX
section
variable {X:Cx}{c:C}{e ke a b:UU}{g gk ga gb:G R}{pos:Pos}
def CF (i:Nat):G O:=λenv=>.ok (.nx (env.set i (some (.dk [] []))))
theorem Hy:PE X (.Dict [] [] pos) (λσ H Q=>∀p,H p=none->(p == WB)=false->Q (.ref p) (upd H p (g6 p 0 []))):=λTN s σ H Q I w=>
 wpAny_Dict_empty ⟨.ref s.heap.objs.size,_,I.laid (a:=s.heap.objs.size) (o:=g6 s.heap.objs.size 0 []) (t':=s.toks) (λ_ _ q=>T9 _ q) (Ud _) ⟨⟨_,#[],Uh _ rfl,⟨rfl,rfl,rfl⟩,rfl,.nil⟩,⟨_,Uh _ rfl⟩,λh1 h2 ⟨o,es,a1,a2⟩ e=>⟨o,es,e o a1,a2⟩⟩,rfl,w _ (I.hok.fresh (Ud _)) (beq_eq_false_iff_ne.mpr (VS (UE (D3 I))))⟩
noncomputable def OE (K:T5):Cg:=λo i v H Q=>∃J p ks vs kxs d,aS J H/\o=.ref p/\eK K J H p ks vs/\dD (.tup kxs)=true/\Rep K J (.tup kxs) i/\Rep K J d v/\ks.length<=sizeLine/\∀o,eK K J (upd H p o) p (dput (ks,vs) (.tup kxs) d).1 (dput (ks,vs) (.tup kxs) d).2->Q (upd H p o)
theorem set_dict (hu:X.A.units + 64 < VI):LK X (OE X.K):=by
 intro TN s σ H o i v ov iv u Q I ro ri rv h;obtain ⟨J,p,ks,vs,kxs,d,sm,rfl,hd,ok,rk,rd,hl,q⟩:=h;obtain ⟨_,_,k1,k2⟩:=jx ok;obtain ⟨r,rfl⟩:∃r,i=.ref r:=by cases rk;exact ⟨_,rfl⟩
 cases ro;cases ri;obtain ⟨xs,hm,lx,put⟩:=BR I sm hd;refine wpAny_setItem_heap (knd:=n8 X.prog X.w) (k:=⟨.tup kxs,k1,k2⟩) (show X.A.units + 1 + 16 < VI by omega) (kZ (HF.of (c:=⟨X.K,H,H,λ_=>True⟩) I sm) k1 rk) hm (λh' hm' sb=>?_) (by rw [lx];exact hl);obtain ⟨o,W,hd,_⟩:=put k1 k2 rk rd rv h' _ hm' sb;exact ⟨_,W,q o hd⟩
noncomputable def mO (i:Nat) (gk g:G R):G O:=λenv=>match env[i]? with
 | some (some (.dk ks vs))=>g env >>= λr=>toD r >>= λd=>gk env >>= λr2=>toD r2 >>= λk=>if dD k=true/\ks.length<=1000000 then .ok (.nx (env.set i (some (.dk (dput (ks,vs) k d).1 (dput (ks,vs) k d).2)))) else .bad
 | _=>.bad
theorem Eo {prog:Uv}{w:US}{K:Type} [DecidableEq K] {knd:HeapKind prog w K}{A:UW}{E:T7->T_->Prop}{s:T_}{d a:UA}{k:K}{xs:List (K×UA×T7)}{Q:Bool->T_->Prop}(hu:knd.room A.in1) (hkey:knd.is s.heap k a) (hd:(d == WB)=false)
  (hm:s.heap.DictOfH knd d xs) (h:Q (adR xs k).isSome {s with toks:=s.toks + knd.draws k}):Uu (UB prog w) A (contains (.ref d) (.ref a)) Q E s:=by
 refine wpAny_contains_slot hm.typeIs abF (U0 abF hm.typeIs entry_dict_contains ?_ (args_dict_contains _ _));show Uu _ _ (dictGet d (.ref a) >>= λ_=>_) _ _ s;refine T4 (wpAny_dictGet_heap hu hkey hm ?_);cases q:adR xs k with
 | some p=>rw [q] at h;exact T6 ⟨_,rfl,Vg h⟩
 | none=>rw [q] at h;exact T4 (wpAny_pendingKey_other hd (T6 ⟨_,rfl,Vg h⟩))
noncomputable def Dl (K:T5) (neg:Bool):R2:=λx y H Q=>∃J p ks vs k,aS J H/\y=.ref p/\eK K J H p ks vs/\Rep K J k x/\dD k=true/\Q (.bl (if neg then !(gU ks vs k).isSome else (gU ks vs k).isSome)) H
theorem zy (hu:X.A.units + 64 < VI){TN:List (UA×Obj)}{s:T_}{σ:L2.St}{H:Hp}{x y:V}{v u:T7}{Q:VK}{neg:Bool}(I:Inv X TN σ H s) (rx:RelV x v) (ry:RelV y u) (h:Dl X.K neg x y H Q):Uu (UB X.prog X.w) X.A (contains u v) (λr s'=>EP X TN σ Q (.bool (if neg then !r else r)) s') X.xe s:=by
 obtain ⟨J,p,ks,vs,k,sm,rfl,hd,hk,ok,q⟩:=h;have F:HF X.K J s:=HF.of (c:=⟨X.K,H,H,λ_=>True⟩) I sm;obtain ⟨kx,rfl,k1,k2⟩:=jx ok;obtain ⟨r,rfl⟩:∃r,x=.ref r:=by cases hk;exact ⟨_,rfl⟩
 cases rx;cases ry;obtain ⟨xs,us,ws,hm,e2,_,hv,e4,_,hsm⟩:=sQ (P:=X.prog) (w:=X.w) F (iw I) hd;have e:(adR xs ⟨.tup kx,k1,k2⟩).isSome=(gU ks vs (.tup kx)).isSome:=by
  obtain ⟨l1,l2⟩:=yt (K:=X.K) (J:=J) ⟨.tup kx,k1,k2⟩ e2 hv e4;cases z:gU ks vs (.tup kx) with
  | some d=>obtain ⟨p,_,e,_⟩:=l1 d z;rw [e];rfl
  | none=>rw [l2 z];rfl
 exact Eo (k:=⟨.tup kx,k1,k2⟩) (show X.A.units + 1 + 16 < VI by omega) (kZ F k1 hk) hsm hm ⟨.bl _,H,I.tok _,by rw [e];rfl,q⟩
theorem E7 (hu:X.A.units + 64 < VI):c6 X (Vz .In) (Dl X.K false):=λTN s σ H x y v u Q I rx ry h=>T4 (UZ (zy hu I rx ry h) (λ_ _ h=>T6 h) λ_ _ f=>f)
theorem E_ (hu:X.A.units + 64 < VI):c6 X (Vz .NotIn) (Dl X.K true):=λTN s σ H x y v u Q I rx ry h=>T4 (UZ (zy hu I rx ry h) (λ_ _ h=>T6 h) λ_ _ f=>f)
noncomputable def iF (neg:Bool) (x y:R):M R:=match rN y,x with
 | some z,.d k=>if dD k=true then .ok (.d (.bl (if neg then !(gU z.1 z.2 k).isSome else (gU z.1 z.2 k).isSome))) else .bad
 | _,_=>.bad
theorem za (neg:Bool) (hK:X.K=c.K):BD c (Dl X.K neg) (iF neg):=by
 intro He He' J H x y u v Q hp rx ry w;unfold iF at w;split at w
 ·rename_i hz;obtain ⟨p,rfl,hd⟩:=ry.dk hp hz;split at w
  ·rename_i ok;exact ⟨J,p,_,_,_,hp.sub,rfl,by rw [hK];exact hd,by rw [hK];exact rx,ok,w _ J H (Ext.refl hp.sub) (.bl _)⟩
  ·exact w.elim
 ·exact w.elim
theorem xB (i:Nat){x:Str}{pos' p0:Pos}(hN:X.N.Nodup) (hi:X.N[i]?=some x:=by rfl) (hx:Loc X.env.scope x:=by first | exact Yh rfl | exact WW rfl) (hs:Yi (.Dict [] [] p0) (some (.Name x pos')) pos.line X.env=pure false:=by rfl)
  (hf:X.fn x=true\/X.env.scope.names.lookup x=some .local:=by first | exact .inl rfl | exact .inr rfl):gR X c (.Assign [.Name x pos'] (.Dict [] [] p0) pos) (CF i):=⟨gr (Fp hN hi hx Hy hs hf) λE σ H ⟨J,env,sr,w⟩ p hp hq=>
 w _ J _ (aS.refl J) (sr.setM (y:=.inr ([],[])) (Ext.new sr.hp.sub hp _) hp ⟨p,rfl,⟨[],[],0,bO,.nil,.nil,⟨rfl,Wz,UD _,λ_ h=>(nomatch h)⟩,hq,rfl⟩,sr.hp.sub.free hp,sr.hp.ent.free hp⟩)⟩
theorem tL (i:Nat){x:Str}{p1 p2:Pos}(hu:X.A.units + 64 < VI) (h:QD X c e g) (hk:QD X c ke gk) (hN:X.N[i]?=some x:=by rfl) (hv:pH X.env.scope x:=by first | exact Yh rfl | exact WW (Yh rfl) | exact WW (WW rfl)) (hd:(x == ("__debug__":Str))=false:=by decide)
  (hcd:(x == ("__classdict__":Str))=false:=by decide)
  (ha:∀v,assign (.Subscript (.Name x p1) ke p2) X.env v=(do
   let ov <-holding [v] (eval (.Name x p1) X.env)
   let iv <-holding [v,ov] (eval ke X.env)
   Xz p2
   (holding [v,ov,iv] (setItem ov iv v))
   release [v,ov,iv] []):=by intro _;rfl)
  (hs:Z1 [.Subscript (.Name x p1) ke p2] e pos.line X.env=pure false:=by rfl) (hw:abo [.Subscript (.Name x p1) ke p2] e X.env=pure none:=by rfl)
  (h1:(W7 [.Subscript (.Name x p1) ke p2] X.env).map (·.2)=[assign (.Subscript (.Name x p1) ke p2) X.env]:=by rfl) (hK:X.K=c.K:=by rfl):
  gR X c (.Assign [.Subscript (.Name x p1) ke p2] e pos) (mO i gk g):=have h:=h.h;have hk:=hk.h;⟨
 gr (Fl h (Nj (kh hN hv hd hcd) hk (set_dict hu) ha) hs hw h1) λE σ H ⟨J,env,sr,w⟩=>by
  unfold mO at w;split at w
  ·rename_i ks vs hi;obtain ⟨v,q1,p,rfl,h2,h3,h4⟩:=sr.at_ i _ hi;refine ⟨J,env,sr,aF (aM w) λr wr y J1 H1 e1 r1=>?_⟩;obtain ⟨d,q,wr⟩:=jg wr;obtain ⟨J2,e2,s2,rd⟩:=freeze e1 r1 q;refine ⟨.ref p,q1,?_⟩;refine ⟨J2,env,sr.ext e2,aF (aM wr) λrk wk vk J3 H3 e3 r3=>?_⟩;obtain ⟨k,qk,wk⟩:=jg wk;obtain ⟨J4,e4,s4,rk⟩:=freeze e3 r3 qk;have e5:=e2.trans e4;split at wk
   ·rename_i ok;obtain ⟨kxs,rfl,_⟩:=jx ok.1;have h2':=h2.mono e5.j e5.h;have h3':=e5.frz p h2.ne h3;refine ⟨J4,p,ks,vs,kxs,d,e5.sub,rfl,by rw [hK];exact h2',ok.1,by rw [hK];exact rk,by rw [hK];exact rd.mono e4.j,UC ok.2 (by decide),λo ho=>?_⟩;rw [hK] at ho;exact wk σ J4 _ e5.j ((sr.ext e5).updM (x:=.inr (ks,vs)) (y:=.inr (dput (ks,vs) (.tup kxs) d)) hi q1 h3' h4 ⟨p,rfl,ho,h3',h4⟩)
   ·exact wk.elim
  ·exact w.elim⟩
theorem wc (hu:X.A.units + 64 < VI) (ha:QD X c a ga) (hb:QD X c b gb) (hK:X.K=c.K:=by rfl) (hm:Vs .In b=false:=by rfl):QD X c (.Compare a [.In] [b] pos) (g2 (iF false) ga gb):=⟨qa (E7 hu) (za false hK) ha.h hb.h hm⟩
theorem K2 (hu:X.A.units + 64 < VI) (ha:QD X c a ga) (hb:QD X c b gb) (hK:X.K=c.K:=by rfl) (hm:Vs .In b=false:=by rfl):QB X c (.Compare a [.In] [b] pos) (bB (g2 (iF false) ga gb)):=⟨iS (E7 hu) (za false hK) ha.h hb.h hm⟩
theorem Di (hu:X.A.units + 64 < VI) (ha:QD X c a ga) (hb:QD X c b gb) (hK:X.K=c.K:=by rfl) (hm:Vs .NotIn b=false:=by rfl):QB X c (.Compare a [.NotIn] [b] pos) (bB (g2 (iF true) ga gb)):=⟨iS (E_ hu) (za true hK) ha.h hb.h hm⟩
noncomputable def sU (x y:R):M R:=match x,y with
 | .d d,.d e=>if dep d<=60/\dep e<=60 then (match dI d e with
  | some b=>.ok (.d (.bl b))
  | none=>.bad) else .bad
 | _,_=>.bad
theorem MY (hu:X.A.units + 64 < VI):c6 X (Vz .Lt) (λx y H Q=>∃d e b,Rep X.K H d x/\Rep X.K H e y/\dep d<=60/\dep e<=60/\dI d e=some b/\Q (.bl b) H):=λTN s σ H x y v u Q I rx ry ⟨d,e,b,h1,h2,h3,h4,h5,q⟩=>
 MS (iw I) d X.A h5 h1 h2 rx ry (by omega) (by omega) (by omega) X.prog X.w X.xe _ ⟨.bl b,H,I,rfl,q⟩
theorem LX (hK:X.K=c.K):BD c (λx y H Q=>∃d e b,Rep X.K H d x/\Rep X.K H e y/\dep d<=60/\dep e<=60/\dI d e=some b/\Q (.bl b) H) sU:=by
 intro He He' J H x y u v Q hp rx ry w;unfold sU at w;split at w
 ·split at w
  ·rename_i hd;split at w
   ·rename_i b hb;exact ⟨_,_,b,by rw [hK];exact Rep.mono hp.sub rx,by rw [hK];exact Rep.mono hp.sub ry,hd.1,hd.2,hb,w _ J H (Ext.refl hp.sub) (.bl _)⟩
   ·exact w.elim
  ·exact w.elim
 ·exact w.elim
theorem K4 (hu:X.A.units + 64 < VI) (ha:QD X c a ga) (hb:QD X c b gb) (hK:X.K=c.K:=by rfl):QB X c (.Compare a [.Lt] [b] pos) (bB (g2 sU ga gb)):=⟨iS (MY hu) (LX hK) ha.h hb.h⟩
theorem G7:DO X "list.clear" (λx vs H Q=>∃l xs,x=.ref l/\vs=[]/\H l=some (.lst xs)/\Q .non (upd H l (.lst []))):=by intro TN s σ H x vs v us Q I rx rv h;obtain ⟨l,xs,rfl,rfl,hH,q⟩:=h;cases rx;cases rv.zero;obtain ⟨z,TR,n,r,hl,e⟩:=I.lstM hH;exact aaW F.slot_list_clear ⟨_,e,rfl⟩ F.entry_list_clear (F.args_list_clear_1 _) (AutoSeq1.list_clear_list_0 l TR.toArray n (by rw [Ug];omega)) ⟨e,.non,_,I.lset (its':=[]) hH e rfl .nil (UD _),rfl,q⟩
end
end DL
namespace K22
open PySem DL
end K22
namespace K22
open PySem DL K01 WP K51 K52 K55 K23
section
variable {env:Ev}{tg:GT}{u t:G O}{α:Type}{h:α->D}{Q:O->Prop}{gi:G (List D)}
theorem w_all (I:Ev->Prop) (f:α->Bool):∀(xs:List α) (env:Ev),I env->(∀x∈xs,∀env,I env->∃e,tg (h x) env=.ok e/\Wp (u e) λo=>(f x=true/\∃e',o=.nx e'/\I e')\/(f x=false/\o=.rt (.d (.bl false))))->
  Wp (eE tg u (xs.map h) env) λo=>(xs.all f=true/\∃e',o=.nx e'/\I e')\/(xs.all f=false/\o=.rt (.d (.bl false)))
 | [],env,hI,_=>⟨.nx env,rfl,.inl ⟨rfl,env,rfl,hI⟩⟩
 | x::xs,env,hI,step=>by
  obtain ⟨e,h1,o,ho,hP⟩:=step x Uc env hI;rw [Ur,We];show Wp (tg (h x) env >>= _) _;rw [h1,aN,ho,aN];rcases hP with ⟨hf,e',rfl,hI'⟩ | ⟨hf,rfl⟩
  ·rw [hf,Xn];exact w_all I f xs e' hI' λx hx=>step x (Ua _ hx)
  ·rw [hf];exact ⟨_,rfl,.inr ⟨rfl,rfl⟩⟩
theorem Ji (I:Ev->Prop) (f:α->Bool) (xs:List α) (hg:gi env=.ok (xs.map h)) (h0:I env) (step:∀x∈xs,∀env,I env->∃e,tg (h x) env=.ok e/\Wp (u e) λo=>(f x=true/\∃e',o=.nx e'/\I e')\/(f x=false/\o=.rt (.d (.bl false))))
  (k1:xs.all f=true->∀e,I e->Wp (t e) Q) (k2:xs.all f=false->Q (.rt (.d (.bl false)))):Wp (aI (bV gi tg u) t env) Q:=by
 refine cY hg ((w_all I f xs env h0 step).mono ?_);rintro o (⟨z,e,rfl,hI⟩ | ⟨z,rfl⟩)
 ·exact k1 z e hI
 ·exact k2 z
theorem IW (I:Ev->Prop) (f:α->Bool) (xs:List α) (hg:gi env=.ok (xs.map h)) (h0:I env) (step:∀x∈xs,∀env,I env->∃e,tg (h x) env=.ok e/\Wp (u e) λo=>(f x=true/\∃e',o=.nx e'/\I e')\/(f x=false/\o=.rt (.d (.bl false)))):
  Wp (bV gi tg u env) λo=>(xs.all f=true/\∃e',o=.nx e'/\I e')\/(xs.all f=false/\o=.rt (.d (.bl false))):=jZ hg (w_all I f xs env h0 step)
end
theorem Cv (neg a b:Bool):cL neg (.d (.bl a)) (.d (.bl b))=.ok (.d (.bl (if neg then !(a == b) else a == b))):=by cases neg <;> cases a <;> cases b <;> rfl
def mB (v w:Wd) (p:Nat×Nat):Bool:=(v.ms.zip w.ms).all λr=>decide (p.1∈r.1.2) == decide (p.2∈r.2.2)
def aB (v w:Wd) (p q:Nat×Nat):Bool:=(v.ar.zip w.ar).all λr=>decide ((p.1,q.1)∈r.1.2) == decide ((p.2,q.2)∈r.2.2)
def eB (p q:Nat×Nat):Bool:=(p.1 == q.1) == (p.2 == q.2)
def vM (v w:Wd) (ps:List (Nat×Nat)):Bool:=ps.all λp=>mB v w p && ps.all λq=>eB p q && aB v w p q
theorem nM {α β:Type}(f:α->Bool) (g:β->Bool):∀{xs:List α}{ys:List β},xs.length=ys.length->(((xs.zip ys).all λr=>f r.1 == g r.2)=true↔xs.map f=ys.map g)
 | [],[],_=>by simp
 | x::xs,y::ys,h=>by have ih:=nM f g (xs:=xs) (ys:=ys) (by simpa using h);rw [Yo,We,Ub,ih,Ur,Ur,aeY,beq_iff_eq]
theorem Bq {v w:Wd}(t:Pr v w) (ps:List (Nat×Nat)):vM v w ps=true↔∀p∈ps,∀q∈ps,oG v w p q:=by
 have l1:v.ms.length=w.ms.length:=by have:=congrArg VT t.mn;simpa using this
 have l2:v.ar.length=w.ar.length:=by have:=congrArg VT t.an;simpa using this
 have e1:∀p q:Nat×Nat,eB p q=true↔(p.1=q.1↔p.2=q.2):=λp q=>by unfold eB;rw [beq_iff_eq,U_,beq_iff_eq,beq_iff_eq]
 unfold vM;rw [Uz];constructor
 ·intro h p hp q hq;have h1:=h p hp;rw [Ub,Uz] at h1;have h2:=h1.2 q hq;rw [Ub] at h2;exact ⟨(e1 p q).mp h2.1,(nM (λr:Str×List Nat=>decide (p.1∈r.2)) (λr:Str×List Nat=>decide (p.2∈r.2)) l1).mp h1.1,(nM (λr:Str×List (Nat×Nat)=>decide ((p.1,q.1)∈r.2)) (λr:Str×List (Nat×Nat)=>decide ((p.2,q.2)∈r.2)) l2).mp h2.2⟩
 ·intro h p hp;rw [Ub,Uz];refine ⟨(nM (λr:Str×List Nat=>decide (p.1∈r.2)) (λr:Str×List Nat=>decide (p.2∈r.2)) l1).mpr (h p hp p hp).ms,λq hq=>?_⟩;rw [Ub];exact ⟨(e1 p q).mpr (h p hp q hq).eq,(nM (λr:Str×List (Nat×Nat)=>decide ((p.1,q.1)∈r.2)) (λr:Str×List (Nat×Nat)=>decide ((p.2,q.2)∈r.2)) l2).mpr (h p hp q hq).ar⟩
theorem MR (p q:Nat×Nat):dI (dP p) (dP q)=some (eF (dP p) (dP q)):=by
 have h:(dI (dP p) (dP q)).isSome=true:=by
  show (if bq (.int (p.1:Int)) (.int (q.1:Int))=true then (if bq (.int (p.2:Int)) (.int (q.2:Int))=true then some false else some (decide ((p.2:Int) < q.2))) else some (decide ((p.1:Int) < q.1))).isSome=true;split
  ·split <;> rfl
  ·rfl
 unfold eF;cases z:dI (dP p) (dP q) with
 | some b=>rfl
 | none=>rw [z] at h;cases h
theorem ED {v w:Wd}{ps:List (Nat×Nat)}(g:Good v w ps){q:Nat×Nat}(hq:j3 v w q) (ab:∀rs l,ps=rs++[l]->BK l q) (ag:∀x∈ps++[q],∀y∈ps++[q],oG v w x y):Good v w (ps++[q]):=by
 refine ⟨?_,ag,λp hp=>?_⟩
 ·rw [VE];refine ⟨g.up,V0 _ _,λp hp r hr=>?_⟩;rw [Ul.mp hr];rcases VV ps with rfl | ⟨rs,l,rfl⟩
  ·cases hp
  ·rw [VX] at *;have h1:=ab rs l rfl;have h2:=(ag l (by simp) q (by simp)).eq;have h3:l.1 < q.1:=by
    rcases h1 with h | ⟨h,h'⟩
    ·exact h
    ·have:=h2.mp h;omega
   rcases UI.mp hp with h | h
   ·have:=(VE.mp g.up).2.2 p h l (by simp);omega
   ·rw [Ul.mp h];exact h3
 ·rcases UI.mp hp with h | h
  ·exact g.rg p h
  ·rw [Ul.mp h];exact hq
theorem d9 (ps:List (Nat×Nat)):dD (aE ps)=true:=by
 have h1:∀qs:List (Nat×Nat),areKeys (qs.map dP)=true:=λqs=>by
  induction qs with
  | nil=>rfl
  | cons q qs ih=>rw [Ur];unfold areKeys;rw [ih];rfl
 have h2:deps (ps.map dP)<=1:=eu λx hx=>by obtain ⟨q,_,rfl⟩:=Ui.mp hx;exact Ud _
 show (areKeys (ps.map dP) && decide (deps (ps.map dP) + 1<=8))=true;rw [h1,decide_eq_true (by omega)];rfl
section
variable {env:Ev}{g gk:G R}{r r2:R}{u:G O}{Q:O->Prop}{i:Nat}
theorem CP {ks vs:List D}(h0:env[i]?=some (some (.dk ks vs))) (h:g env=.ok r) (h2:toD r=.ok d) (h3:gk env=.ok r2) (h4:toD r2=.ok k) (ok:dD k=true) (hl:ks.length<=1000000) (q:Q (.nx (env.set i (some (.dk (dput (ks,vs) k d).1 (dput (ks,vs) k d).2))))):Wp (mO i gk g env) Q:=by refine ⟨_,?_,q⟩;unfold mO;rw [h0];simp only;rw [h,aN,h2,aN,h3,aN,h4,aN,if_pos ⟨ok,hl⟩]
theorem Mw (neg:Bool){ks vs:List D}{k:D}(ok:dD k=true):iF neg (.d k) (.mo ks vs)=.ok (.d (.bl (if neg then !(gU ks vs k).isSome else (gU ks vs k).isSome))):=by show (if dD k=true then _ else _)=_;rw [if_pos ok]
theorem Kz {a b:G R}(h:a env=.ok (.d (.bl true))):sZ a b env=.ok (.d (.bl true)):=by unfold sZ;rw [h];rfl
theorem M7 {a b:G R}(h:a env=.ok (.d (.bl false))) (h2:b env=.ok r):sZ a b env=.ok r:=by unfold sZ;rw [h];exact h2
theorem nC {a b:G Bool}(h1:a env=.ok false) (h2:b env=.ok k):iN a b env=.ok k:=by unfold iN;rw [h1];exact h2
end
theorem NI {gs:G (List R)}{env:Ev}{n:Nat}(hg:gs env=.ok [.d (.int (n:Int))]) (h:n<=1000000):bQ gs env=.ok (fB 0 n):=by rw [FJ hg,FL _ (cW.mpr ⟨by omega,by omega⟩)];exact congrArg (λk=>M.ok (fB 0 k)) (Vo n)
theorem Oh (p q:Nat×Nat):sU (.d (dP p)) (.d (dP q))=.ok (.d (.bl (eF (dP p) (dP q)))):=by
 show (if dep (dP p)<=60/\dep (dP q)<=60 then (match dI (dP p) (dP q) with
  | some b=>M.ok (R.d (.bl b))
  | none=>.bad) else .bad)=_
 rw [if_pos ⟨by show 1<=60;decide,by show 1<=60;decide⟩,MR]
theorem Fo (ps:List (Nat×Nat)):dep (aE ps)<=60:=by
 have h2:deps (ps.map dP)<=1:=eu λx hx=>by obtain ⟨q,_,rfl⟩:=Ui.mp hx;exact Ud _
 show deps (ps.map dP) + 1<=60;omega
end K22
namespace DL
open PySem PySem.Spec PyProof.Rows L2 DX
section
variable {X:Cx}{c:C}
noncomputable def gO (n:Nat) (cap:List Nat) (gi:G (List D)) (gt:GT) (gts:G Bool) (gk gv:G R):G R:=gA 1000000 n cap gi gt gts (nQ gk gv) (λys=>.ok (.mf (iA ys).1 (iA ys).2))
theorem O1 (kx vx t0 i0:UU) (f0:List UU) (TM:Xy) (pos:Pos) (it:T7) (p:UA) (env:Env):
  YW (.DictComp kx vx [⟨t0,i0,f0,0⟩] TM pos) 0 it (.ref p) env=mF t0 i0 f0 it env (Dh kx vx p env) (again (.compLoop (.DictComp kx vx [⟨t0,i0,f0,0⟩] TM pos) 0 it (.ref p) env)):=by rfl
theorem Ct (hu:X.A.units + 64 < VI) (own:List Str) (cap:List Nat){kx vx t0 i0:UU}{f0:List UU}{TM:Xy}{pos:Pos}{gi0:G (List D)}{gt0:GT}{gts0:G Bool}{gk gv:G R}(hi:ud X c t0 i0 gi0)
  (hbody:∀(cl:List (Str×UA)) (C:UA) (s:T_) (H:Hp) (fp:List UA),dM X.env.cells TM.names []=some cl->oO (cT X own cap TM cl C s H fp) c t0 gt0/\nP (cT X own cap TM cl C s H fp) c f0 gts0/\QD (cT X own cap TM cl C s H fp) c kx gk/\QD (cT X own cap TM cl C s H fp) c vx gv) (a:yM X TM cap i0:=by exact uq rfl) (hK:X.K=c.K:=by rfl):
  nN X c (.DictComp kx vx [⟨t0,i0,f0,0⟩] TM pos) (gO own.length cap gi0 gt0 gts0 gk gv):=by
 refine ⟨_,?_,rfl,λ_=>rfl⟩;refine lD (e:=.DictComp kx vx [⟨t0,i0,f0,0⟩] TM pos) (ob:={cls:=.type "dict",data:=.dict #[]}) (o0:=λa=>g6 a 0 []) (Acc:=λp _=>Ci c p) (N:=1) (lim:=1000000) (m:=λp env=>Dh kx vx p env) own cap rfl hi.h
  (λs Q E q=>UJ q) (λh H=>⟨⟨_,#[],Uh _ rfl,⟨rfl,rfl,rfl⟩,rfl,.nil⟩,⟨_,Uh _ rfl⟩,λh1 h2 ⟨o,es,a1,a2⟩ e=>⟨o,es,e o a1,a2⟩⟩) (λp _=>sM) (λp _ J H hsm h1 h2=>⟨⟨[],[],0,h1,.nil,.nil,⟨rfl,Wz,UD _,λ_ h=>(nomatch h)⟩,beq_eq_false_iff_ne.mpr (VS (UE hsm)),rfl⟩,h2,Ud _⟩) (by decide) (λit p env=>CU (O1 ..)) (λit acc env R s h0 h=>aap h0 h) (λys z q=>by cases q)
  (fun {p H2 J H J' H' ys r} hp _ e ⟨h1,h2,h8⟩ q=>by cases q;exact ⟨J',e,⟨p,rfl,h1,h2,hp⟩⟩) (λcl C s H fp hcc=>?_) a
 obtain ⟨b1,b2,b3,b4⟩:=hbody cl C s H fp hcc;exact ⟨b1.h,b2.h,λp J2 H2 hp2 hp0=>Bc hu hK (λ_ _ f=>f) hp2 hp0 b3.h b4.h⟩
end
end DL
namespace DL
open PySem PySem.Spec PyProof.Rows L2 DX
open Sem (wp)
section
variable {prog:Uv}{w:US}{A:UW}{E:T7->T_->Prop}{s:T_}{d it:UA}{o:Obj}{es:Array ZT}{ep i:Nat}
theorem GR {Q:T7->T_->Prop}(hd:(d == WB)=false) (ho:s.heap.get? d=some o) (hc:o.ExactDict) (hdat:o.data=.dict es ep)
  (hQ:Q (.ref s.heap.objs.size) {s with heap:=s.heap.push {cls:=.type "dict_keyiterator",data:=.fields #[.ref d,.int 0 0,.int es.size 0,.int ep 0]}}):Uu (UB prog w) A (ZJ (.ref d)) Q E s:=by have hT:s.TypeIs (.ref d) "dict":=⟨o,ho,hc.1⟩;refine YR hT acp (U0 acp hT F.entry_dict_iter ?_ (F.args_dict_iter_1 _));unfold Xv.«dict.__iter__»;refine T4 ?_;unfold adf;refine T4 (aaP hT (T6 ?_));show Uu _ _ (Bind.bind (XH d) _) _ _ s;unfold XH;rw [if_neg (by rw [hd];decide)];refine T4 (T6 (T4 (Xd ho hdat (T4 (XI ho hdat ?_)))));exact T4 (UJ (T6 ⟨_,rfl,"dict_keyiterator",_,⟨_,Uh _ rfl,rfl⟩,VY.lookup,by simpa [aad] using hQ⟩))
theorem G9 {Q:Option T7->T_->Prop}(hit:s.heap.IsKeyIter it d i es.size ep) (hod:s.heap.get? d=some o) (Rj:o.data=.dict es ep) (hi:i < es.size)
  (hQ:∀h',h'.IsKeyIter it d (i + 1) es.size ep->V2 it s.heap h'->Q (some es[i].key) {s with heap:=h'}):Uu (UB prog w) A (XA (.ref it)) Q E s:=by
 obtain ⟨oi,ho,hc,hd⟩:=id hit;unfold XA;refine T4 (WU (Vk (name:=XC "__next__") hit.typeIs VY (U0 VY hit.typeIs Ze ?_ (Y7 _))));refine T4 (T6 (T4 (T4 ?_)));refine T4 (Wq hit.typeIs (T6 (T4 (X6 ho hd ?_))));have hown:VZ "dict_keyiterator"=false:=by decide
 simp only [hown,Um,if_false];show Uu _ _ (ite ((W6 d == UY)=true) _ _) _ _ s;rw [if_neg (show ¬((W6 d == UY)=true) from UH)];refine T4 (T6 (T4 (Xd hod Rj ?_)));rw [if_neg (by simp)];refine T4 (T6 (T4 (XI hod Rj ?_)));rw [if_neg (by simp)];refine T6 ?_;simp only [show ¬((i:Int) < 0) from by omega,if_false,Vo,Wg hi];refine T4 (T4 (Wq hit.typeIs (T6 ?_)));refine T4 (aaQ hit.typeIs ?_);refine T4 (m:=adT (.ref it) 1 (aad ((i:Int) + 1))) (ZP ho hd (by simp) ?_);have Rr:(s.heap.update it (Zl (·.setIfInBounds 1 (aad ((i:Int) + 1))))).IsKeyIter it d (i + 1) es.size ep:=⟨_,Vi _ ho (aaR (Yw hd _)),(ab2 ..).trans hc,by rw [Yw hd];simp [aad]⟩;refine T4 (UN (T4 (aaQ (s:={s with heap:=s.heap.update it (Zl (·.setIfInBounds 1 (aad ((i:Int) + 1))))}) Rr.typeIs ?_)));exact T6 (T6 ⟨_,rfl,T6 (hQ _ Rr (V_ ..))⟩)
theorem JQ {Q:Option T7->T_->Prop}(hh:A.handled=none) (hit:s.heap.IsKeyIter it d i es.size ep) (hod:s.heap.get? d=some o) (Rj:o.data=.dict es ep) (hi:es.size<=i)
  (hQ:∀h',acO it s.heap h'->Q none {s with heap:=h'}):Uu (UB prog w) A (XA (.ref it)) Q E s:=by
 obtain ⟨oi,ho,hc,hd⟩:=id hit;unfold XA;refine T4 (WU (Vk (name:=XC "__next__") hit.typeIs VY (U0 VY hit.typeIs Ze ?_ (Y7 _))));refine T4 (T6 (T4 (T4 ?_)));refine T4 (Wq hit.typeIs (T6 (T4 (X6 ho hd ?_))));have hown:VZ "dict_keyiterator"=false:=by decide
 simp only [hown,Um,if_false];show Uu _ _ (ite ((W6 d == UY)=true) _ _) _ _ s;rw [if_neg (show ¬((W6 d == UY)=true) from UH)];refine T4 (T6 (T4 (Xd hod Rj ?_)));rw [if_neg (by simp)];refine T4 (T6 (T4 (XI hod Rj ?_)));rw [if_neg (by simp)];refine T6 ?_;simp only [show ¬((i:Int) < 0) from by omega,if_false,Vo,aaq hi];refine T4 (T4 (Wq hit.typeIs (T6 ?_)));refine T4 (m:=adT (.ref it) 0 .none) (ZP ho hd (by simp) ?_);refine T4 (m:=aeG (.type "StopIteration") []) ?_;simp only [aeG,aeH];refine T4 (UJ ?_ (by size_fits));refine T4 (m:=X7 _ _) (YK (a:=UY) (by first | rfl | (simp only [X7];rfl)) (UJ ?_ (by size_fits)));simp only [aeI];refine T4 (abE ?_);rw [show A.in1.handled=none from hh];refine T4 (T6 (acP ?_));exact T4 (X_ (T:="StopIteration") (b:=true) ⟨_,Uh _ rfl,rfl⟩ abb (T6 (hQ _ (((V_ ..).extBut.push _).push _))))
end
end DL
namespace DL
open PySem PySem.Spec PyProof.Rows L2 DX
noncomputable def O4 (a:UA) (ep:Nat) (TZ:List (Int×V×V)):It:=⟨λi H=>H a=some (g6 a ep TZ)/\i < TZ.length,λi H x H'=>H'=H/\∃p,TZ[i]?=some p/\x=p.2.1,λi H=>H a=some (g6 a ep TZ)/\TZ.length<=i⟩
theorem p_ {α β:Type}{F:α->β->Prop}:∀{xs:List α}{ys:List β}{i:Nat}(hi:i < ys.length),ZQ F xs ys->∃p,xs[i]?=some p/\F p ys[i]
 | _,_,0,_,.cons h _=>⟨_,rfl,h⟩
 | _,_,i + 1,hi,.cons _ t=>p_ (i:=i) (by simpa using hi) t
theorem Io {P:Uv}{w:US}{K:T5}{tg:UU}(a it:UA) (ep:Nat) (TZ:List (Int×V×V)):Turn P w K tg (O4 a ep TZ) [it] it (λi h=>h.IsKeyIter it a i TZ.length ep) where
 mem:=by simp
 obj:=λi h st b hb=>by cases Ul.mp hb;obtain ⟨o,e,c,d⟩:=st;exact ⟨o,e,λv z=>by rw [d] at z;cases z⟩
 keep:=λi h h' st k=>st.at λo e=>k it (by simp) o e
 item:=by
  rintro X rfl rfl rfl hc i TN s σ H E I hf st ⟨hq,hi⟩;obtain ⟨o,es,h1,h2,h3,h4⟩:=(show cF X.prog X.w H s.heap a (g6 a ep TZ) from I.hok a _ hq).1;have hl:TZ.length=es.size:=by have:=h4.length;simpa using this
  obtain ⟨p,hp,er⟩:=p_ (i:=i) (by simp;omega) h4;obtain ⟨f0,f1,f2,f3,f4,f5⟩:=hf it (by simp);refine G9 (es:=es) (ep:=ep) (hl▸st) h1 h3 (by omega) λh' st' sb=>?_;have I1:Inv X TN σ H {s with heap:=h'}:=I.turned (t':=s.toks) (λb o hb e=>(sb.2 b hb).trans e) f0 f1 f3 f4 f5;obtain ⟨oi,e,c,d⟩:=id st';exact ⟨_,rfl,uK (s:={s with heap:=h'}) e c d (by decide) ⟨p.2.1,H,I1,by simpa using er.2.1,⟨rfl,p,hp,rfl⟩,by rw [hl];exact st',λb hb=>(hf b hb).1⟩⟩
 done:=by
  rintro X rfl rfl rfl hc i TN s σ H E I hf st ⟨hq,hi⟩;obtain ⟨o,es,h1,h2,h3,h4⟩:=(show cF X.prog X.w H s.heap a (g6 a ep TZ) from I.hok a _ hq).1;have hl:TZ.length=es.size:=by have:=h4.length;simpa using this
  obtain ⟨f0,f1,f2,f3,f4,f5⟩:=hf it (by simp);exact JQ (es:=es) (ep:=ep) (I.ok.hd hc) (hl▸st) h1 h3 (by omega) λh' eb=>⟨rfl,I.turned (t':=s.toks) (λb o hb e=>eb b o hb e) f0 f1 f3 f4 f5⟩
 self:=λ_ _ _ _ _ st h=>wpAny_pyIter_keyiter st h
section
variable {X:Cx}{c:C}{e tg:UU}{g:G R}
noncomputable def mL (g:G R):G (List D):=λenv=>g env >>= λr=>match rN r with
 | some z=>.ok z.1
 | none=>.bad
theorem Nl {tl:TE}(hl:PE X e tl):PI X tg e (λσ H Q=>tl σ H λx H1=>∃a ep TZ,x=.ref a/\(a == WB)=false/\H1 a=some (g6 a ep TZ)/\Q (O4 a ep TZ) H1):=λTN s σ H R I h=>bN (hl TN s σ H _ I h) λv s1 ⟨x,H1,I1,r1,a,ep,TZ,ex,hsm,hq,q⟩=>by
 subst ex;cases r1;obtain ⟨o,es,h1,h2,h3,h4⟩:=(show cF X.prog X.w H1 s1.heap a (g6 a ep TZ) from I1.hok a _ hq).1;have hl:TZ.length=es.size:=by have:=h4.length;simpa using this
 refine GR hsm h1 h2 h3 ⟨s1.heap.objs.size,[s1.heap.objs.size],_,_,H1,rfl,I1.kept (t':=s1.toks) (λb o e=>T9 _ e),Io a _ ep TZ,⟨_,Uh _ rfl,rfl,by rw [hl];rfl⟩,λb hb=>?_,q⟩;cases Ul.mp hb;exact I1.fpOk (Ud _) (I1.hok.fresh (Ud _))
theorem jS (h:QD X c e g) (hK:X.K=c.K:=by rfl):ud X c tg e (mL g):=have h:=h.h;⟨qR (Nl h) λσ H Q ⟨J,env,sr,w⟩=>by
 refine ⟨J,env,sr,aF (aM w) λr wr v J1 H1 e1 r1=>?_⟩;cases hz:rN r with
 | none=>rw [hz] at wr;exact wr.elim
 | some z=>
  rw [hz] at wr;obtain ⟨a,rfl,us,ws,ep,h1,h2,h3,h4,h5,h6⟩:=r1.dk (sr.hp.ext e1) hz;have hh:∀ds:List D,(cj ds).length=ds.length:=λds=>by induction ds with
   | nil=>rfl
   | cons d ds ih=>show (cj ds).length + 1=_;rw [ih];rfl
  have lk:((cj z.1).zip (us.zip ws)).length=z.1.length:=by rw [ZD,ZD,hh,<-h2.length,<-h3.length,<-h6];omega
  refine ⟨a,ep,_,rfl,h5,h1,wr _ J1 H1 e1 λi J' H' hp u=>⟨λhl=>⟨u.2 _ _ h1,by omega⟩,λd hd=>?_⟩⟩;have hi:i < z.1.length:=(Uy.mp hd).1;obtain ⟨x,k1,k2⟩:=h2.get hd;refine ⟨⟨u.2 _ _ h1,by omega⟩,λy H2 ⟨e,p,hp',hy⟩=>⟨J',by subst e;exact Ext.refl hp.sub,?_⟩⟩;have:p.2.1=x:=by rw [W4,] at hp';have:=(W4.mp hp'.2).1;rw [k1] at this;cases this;rfl
  rw [hy,this];exact k2.mono u.1⟩
end
end DL
namespace DL
open PySem PySem.Spec PyProof.Rows L2
section
variable {X:Cx}{c:C}{e:UU}{es:List UU}{g:G R}{pos p:Pos}{x y:Str}
def Gi (K:T5) (mg:Str->Option T7) (x:Str):Prop:=∃f,U1 K UL x=some (some (.ref f))/\mg x=some (.ref f)
noncomputable def Ez (y:Str) (F:List S->M R) (g:G R):G R:=λenv=>g env >>= λr=>match F [gV r,.fn y] with
 | .ok r=>.ok (nh r)
 | _=>.bad
theorem HG {k k':Nat}{F:List S->M R}{q:Pos}(G:bE X.prog X.w X.K X.mg X.base k 2 x F) (hv:Gi X.K X.mg y) (hr:dX k' X.A) (ha:QD X c e g) (hk:k<=k':=by decide) (hT:c.K=X.K:=by rfl) (hg:Gl X x:=by rfl) (Tc:Gl X y:=by rfl)
  (hdb:(x == ("__debug__":Str))=false:=by decide) (Sb:(y == ("__debug__":Str))=false:=by decide) (he:Uj [e,.Name y q] X.env=(false,eval e X.env)::Uj [.Name y q] X.env:=by rfl) (RC:Uj [.Name y q] X.env=(false,eval (.Name y q) X.env)::Uj [] X.env:=by rfl)
  (hpl:(Vx pos (Uj [.Name y q] X.env)).any (·.1)=false:=by rfl):QD X c (.Call (.Name x p) [e,.Name y q] [] pos) (Ez y F g):=by obtain ⟨f,fd,ps,h1,h2,h3,h4⟩:=G;obtain ⟨f',h5,h6⟩:=hv;refine ⟨gq (BN (E:=E0) h1 (hr.mono hk) hg h2 h3 h4 .nil Df (eH ha.h (eH (BO (v:=.ref f') Tc h6 rfl Sb) gD RC) he) hdb he hpl) λσ H Q ⟨J,env,sr,w⟩=>?_⟩;refine ⟨J,env,sr,aF (aM w) λr wr v J1 H1 e1 r1=>Jk hT e1 ?_ rfl wr⟩;obtain ⟨_,_,e,a1,_⟩:=kC.args (rs:=[r]) (vs:=[v]) (sr.hp.ext e1) ⟨v,[],rfl,r1,rfl⟩;cases e;exact ⟨v,_,rfl,a1,_,_,rfl,⟨f',rfl,hT▸h5⟩,rfl⟩
noncomputable def zK (i:Nat) (x:Str) (g g':G R):G R:=λenv=>match env[i]? with
 | some (some (.fn z))=>if z=x then g env else g' env
 | _=>.bad
def yx:G R:=λ_=>.bad
theorem BU:QD X c e yx:=⟨λ_ _ _ _ _ _ ⟨_,_,_,w⟩=>w.elim⟩
theorem Al (i:Nat){F:List S->M R}{gs:G (List R)}(G:bE X.prog X.w X.K X.mg X.base k n x F) (hv:Gi X.K X.mg x) (hr:dX k' X.A) (ha:jG X c (e::es) gs) (rest:QD X c (.Call (.Name y p) (e::es) [] pos) g) (hk:k<=k':=by decide) (hT:c.K=X.K:=by rfl)
 (hN:X.N[i]?=some y:=by rfl) (hvs:pH X.env.scope y:=by first | exact Yh rfl | exact WW (Yh rfl) | exact WW (WW rfl)) (hd:(y == ("__debug__":Str))=false:=by decide) (hcd:(y == ("__classdict__":Str))=false:=by decide)
 (he:Uj (e::es) X.env=(false,eval e X.env)::Uj es X.env:=by rfl) (hpl:(Vx pos (Uj es X.env)).any (·.1)=false:=by rfl):QD X c (.Call (.Name y p) (e::es) [] pos) (zK i x (gN (aT n F) gs) g):=by
 refine ⟨λTN s σ H Q I ⟨J,env,sr,w⟩=>?_⟩;obtain ⟨f,fd,ps,h1,h2,h3,h4⟩:=G;obtain ⟨f',h5,h6⟩:=hv;have ef:f'=f:=by rw [h2] at h6;cases h6;rfl
 subst ef;unfold zK at w;split at w
 ·rename_i z hz;split at w
  ·rename_i ez;subst ez;obtain ⟨_,hv,_,rfl,q⟩:=sr.at_ i _ hz;rw [hT,h5] at q;cases q;refine WT (bN (kh hN hvs hd hcd TN s σ H (λv H1=>v=.ref f'/\H1=H) I ⟨_,hv,rfl,rfl⟩) λu s1 ⟨x',H1,I1,rx,ev,eh⟩=>?_);subst ev eh;cases rx;refine abp (h₀:=X.base) I1.ok.mod.kin h3 (bN (ha.h pos TN s1 σ H1 _ I1 (zf hT σ H1 Q ⟨J,env,sr,w⟩)) λus s2 ⟨vs,H2,I2,r,q⟩=>⟨I2.kIn,?_⟩) he hpl;exact FO h1 (hr.mono hk) h4 .nil Df I2 r q
  ·exact rest.h TN s σ H Q I ⟨J,env,sr,w⟩
 ·exact w.elim
end
end DL
namespace K33
open PySem DL
def DP:List Str:=["pairing","pair"]
def EB:G O:=(bw (gN (aT 1 K23.ig) (ao (g2 cH (af 0) (bC (az (af 1) aQ))) aG)))
def o8 (as:List S):M R:=fin (EB (a_ DP as))
def rJ:List Str:=["one","other","side","point"]
noncomputable def r6:G O:=(aI (bL (bB (g2 (cL false) (af 2) (gC (.int 0)))) (bw (bM 1 [3] (bQ (ao (g2 aY (af 1) (gC (.int 0))) aG)) (aA 0) cA (bC (az (af 1) (az (af 0) aQ))))) c5)
 (bw (bM 1 [3] (bQ (ao (g2 aY (af 0) (gC (.int 0))) aG)) (aA 0) cA (bC (az (af 0) (az (af 1) aQ))))))
def gJ (as:List S):M R:=fin (r6 (a_ rJ as))
def wN:List Str:=["one","other"]
noncomputable def xo:G O:=(bw (g2 iu (bM 1 [] (bQ (ao (g2 aY (af 0) (gC (.int 0))) aG)) (aA 0) cA (bC (az (gC (.int 0)) (az (af 0) aQ)))) (bM 1 [] (bQ (ao (g2 aY (af 1) (gC (.int 0))) aG)) (aA 0) cA (bC (az (gC (.int 1)) (az (af 0) aQ))))))
def lU (as:List S):M R:=fin (xo (a_ wN as))
def wL:List Str:=["one","other","pairing","known","grown"]
noncomputable def xj:G O:=(aI (bh 4 (qM 2 [0,1,2] (bQ (ao (g2 aY (af 0) (gC (.int 0))) aG)) (aA 0) cA (c8 (gN (aT 4 K33.gJ) (ao (af 2) (ao (af 3) (ao (gC (.int 0)) (ao (af 0) aG)))))) (aA 1) cA (af 1) (gN (aT 2 K33.o8) (ao (af 4) (ao (af 1) aG)))))
 (bw (bM 2 [0,1,4,3] (ff (gN (aT 2 K33.lU) (ao (af 0) (ao (af 1) aG)))) (dg 2 (bz (aA 0) (bz (aA 1) dF))) cA (bM 1 [4,5] (ff (gN (aT 4 K33.gJ) (ao (af 2) (ao (af 3) (ao (af 0) (ao (af 1) aG)))))) (aA 0) (bB (g2 (iF false) (g2 fu (af 1) (af 0)) (af 2))) (g2 fu (af 1) (af 0))))))
def lS (as:List S):M R:=fin (xj (a_ wL as))
def lV:List Str:=["rows","depths"]
noncomputable def mh:G O:=(bw (gN pM (ao (bM 1 [1] (ff (af 0)) (aA 0) cA (gN sS (ao (bM 1 [1] (ff (af 0)) (aA 0) cA (g2 (nc false) (g2 fu (af 1) (af 0)) (gC .non))) aG))) aG)))
def cV (as:List S):M R:=fin (mh (a_ lV as))
def qB:List Str:=["rows","stays","depths","depth","gone","pairing"]
noncomputable def Bt:G O:=(aI (bh 2 (gO 1 [] (mL (af 0)) (aA 0) cA (af 0) (gC .non)))
 (aI (bh 3 (gC (.int 1)))
 (aI (bh 4 (bM 1 [1,0,2] (mL (af 0)) (aA 0) (fh (bB (zK 1 "answered_still" (gN (aT 2 K33.cV) (ao (g2 fu (af 2) (af 0)) (ao (af 3) aG))) yx))) (af 0)))
 (aI (uF 400000 (s_ (af 4)) (aI (d8 4 (bV (c8 (af 4)) (aA 5) (mO 2 (af 5) (af 3))))
 (aI (sX 3 vK (gC (.int 1)))
 (bh 4 (bM 1 [2,1,0] (mL (af 0)) (aA 0) (jt (bB (g2 (nc false) (g2 fu (af 1) (af 0)) (gC .non))) (fh (bB (zK 2 "answered_still" (gN (aT 2 K33.cV) (ao (g2 fu (af 3) (af 0)) (ao (af 1) aG))) yx)))) (af 0))))))
 (bw (af 2))))))
def mR (as:List S):M R:=fin (Bt (a_ qB as))
def pB:List Str:=["depths","pairing","depth"]
noncomputable def xg:G O:=(bw (l_ (g2 (iF false) (af 1) (af 0)) (sZ (g2 (nc false) (g2 fu (af 0) (af 1)) (gC .non)) (g2 (kD λi j=>.bl (decide (j < i))) (g2 fu (af 0) (af 1)) (af 2)))))
def lR (as:List S):M R:=fin (xg (a_ pB as))
end K33
namespace K33
open PySem DL K01 WP K51 K52 K55 K23
abbrev Ps:=List (Nat×Nat)
section
variable {κ:Type}{rows:κ->List (List κ)}{st:(κ->Bool)->κ->Bool}{i j d e:Nat}{k:κ}{ks:List κ}
noncomputable def LZ (st:(κ->Bool)->κ->Bool):Nat->κ->Bool
 | 0,_=>true
 | j + 1,k=>LZ st j k && st (LZ st j) k
abbrev FN (rows:κ->List (List κ)) (L:κ->Bool) (k:κ):Bool:=(rows k).all λr=>r.any L
abbrev LY (rows:κ->List (List κ)):Nat->κ->Bool:=LZ (FN rows)
theorem yQ:LZ st (j + 1) k=true↔LZ st j k=true/\st (LZ st j) k=true:=by show (LZ st j k && _)=true↔_;rw [Ub]
theorem Po:LY rows (j + 1) k=true↔LY rows j k=true/\∀r∈rows k,∃x∈r,LY rows j x=true:=by rw [yQ];simp only [Uz,Vn]
theorem vA (h:i<=j) (q:LZ st j k=true):LZ st i k=true:=by
 induction h with
 | refl=>exact q
 | step _ ih=>exact ih (yQ.mp q).1
def dZ (st:(κ->Bool)->κ->Bool) (d:Nat) (k:κ):Option Nat:=(Ue (d + 1)).find? λj=>!LZ st j k
abbrev dA (rows:κ->List (List κ)):Nat->κ->Option Nat:=dZ (FN rows)
theorem jK:dZ st d k=none↔LZ st d k=true:=by
 unfold dZ;rw [abD];constructor
 ·intro h;simpa using h d (by simp)
 ·intro h j hj;rw [vA (by have:=UQ.mp hj;omega) h];decide
theorem Bl (h:dZ st d k=some e):LZ st e k=false/\e<=d/\∀i,i < e->LZ st i k=true:=by obtain ⟨h1,h3,h2⟩:=List.find?_range_eq_some.mp h;exact ⟨by simpa using h1,by have:=UQ.mp h3;omega,λi hi=>by simpa using h2 i hi⟩
theorem JN:dZ st (d + 1) k=if (LZ st d k && !LZ st (d + 1) k)=true then some (d + 1) else dZ st d k:=by
 have e:dZ st (d + 1) k=(dZ st d k).or ([d + 1].find? λj=>!LZ st j k):=by show (Ue (d + 1 + 1)).find? _=_;rw [WL,List.find?_append];rfl
 rw [e];cases q:dZ st d k with
 | none=>
  rw [jK.mp q];cases z:LZ st (d + 1) k <;> simp [List.find?,z]
 | some e=>
  have:LZ st d k=false:=by
   cases z:LZ st d k with
   | false=>rfl
   | true=>rw [jK.mpr z] at q;cases q
  rw [this];rfl
theorem Du (hm:∀(L L':κ->Bool),∀k∈ks,(∀x∈ks,L x=true->L' x=true)->st L k=true->st L' k=true) (h:∀k∈ks,LZ st d k=true->LZ st (d + 1) k=true):∀j,∀k∈ks,LZ st d k=true->LZ st j k=true
 | 0,_,_,_=>rfl
 | j + 1,k,hk,q=>yQ.mpr ⟨Du hm h j k hk q,hm _ _ k hk (Du hm h j) (yQ.mp (h k hk q)).2⟩
theorem P8 (hc:∀k∈ks,∀r∈rows k,∀x∈r,x∈ks) (h:∀k∈ks,LY rows d k=true->LY rows (d + 1) k=true):∀j,∀k∈ks,LY rows d k=true->LY rows j k=true:=
 Du (λL L' k hk hx=>by
  simp only [Uz,Vn];exact λg r hr=>let ⟨x,h1,h2⟩:=g r hr;⟨x,h1,hx x (hc k hk r hr x h1) h2⟩) h
noncomputable def r_ (o:Option Nat) (j:Nat):Bool:=match o with
 | none=>true
 | some e=>decide (j < e)
theorem Mv (hs:∀j,LZ st d k=true->LZ st j k=true):r_ (dZ st d k) j=LZ st j k:=by
 cases q:dZ st d k with
 | none=>exact (hs j (jK.mp q)).symm
 | some e=>
  obtain ⟨h1,_,h2⟩:=Bl q;show decide (j < e)=_;by_cases c:j < e
  ·rw [h2 j c,decide_eq_true c]
  ·cases z:LZ st j k with
   | false=>exact decide_eq_false c
   | true=>rw [vA (by omega) z] at h1;cases h1
end
def NN (ps:Ps):Ps:=(fV (ps.map dP)).map B7
theorem OX (ps:Ps):∀d∈ps.map dP,mH pF d:=λd hd=>by obtain ⟨x,_,rfl⟩:=Ui.mp hd;exact zO x
theorem F2 (ps:Ps):(NN ps).map dP=fV (ps.map dP):=back dP B7 Jr λd hd=>by obtain ⟨x,_,rfl⟩:=Ui.mp ((F1 (oE pF) (OX ps)).2 d hd);exact ⟨x,rfl⟩
section
variable {v w:Wd}{ps qs S:Ps}{p:Nat×Nat}{n j:Nat}
structure DJ (v w:Wd) (S:Ps):Prop where
 ag:∀p∈S,∀q∈S,oG v w p q
 rg:∀p∈S,j3 v w p
theorem DJ.sub (h:DJ v w S) (hs:∀p∈ps,p∈S):DJ v w ps:=⟨λp hp q hq=>h.ag p (hs p hp) q (hs q hq),λp hp=>h.rg p (hs p hp)⟩
theorem Bs (g:Good v w ps):ps.Pairwise BK:=g.up.imp λh=>.inl h
theorem zN (hu:ps.Pairwise BK):Good v w ps↔DJ v w ps:=⟨λg=>⟨g.ag,g.rg⟩,λf=>⟨hu.imp_of_mem fun {a b} ha hb h=>by
 have:=(f.ag a ha b hb).eq;unfold BK at h;omega,f.ag,f.rg⟩⟩
theorem Iw (v w:Wd):∀j,(LG v w j).Nodup
 | 0=>V0 _ _
 | j + 1=>by
  refine aaN.mpr ⟨λah _=>Xc.mpr ?_,(Iw v w j).imp_of_mem fun {a b} _ _ hab x hx y hy e=>?_⟩
  ·exact (((oh v.m w.m).filter _).filter _).imp λh e=>h (by simpa using e)
  ·obtain ⟨p,_,rfl⟩:=Ui.mp hx;obtain ⟨q,_,rfl⟩:=Ui.mp hy;exact hab (List.append_inj' e rfl).1
theorem wC (v w:Wd):∀j,(told v w j).Nodup
 | 0=>V0 _ _
 | j + 1=>XR.mpr ⟨wC v w j,Iw v w (j + 1),λa ha b hb e=>by
  obtain ⟨i,hi,h⟩:=(gP j).mp ha;have h1:=(nO i h).1;have h2:=(nO (j + 1) hb).1;rw [e] at h1;omega⟩
def dO (ps:Ps) (p:Nat×Nat):Ps:=NN (ps++[p])
def picks (v w:Wd):Ps:=(Ue v.m).map (λa=>(0,a))++(Ue w.m).map λb=>(1,b)
def nE (v w:Wd) (k:Nat×Nat):Ps:=if k.1=0 then (Ue w.m).map λb=>(k.2,b) else (Ue v.m).map λa=>(a,k.2)
end
end K33
namespace K33
open PySem DL K01 WP K51 K52 K55 K23 K22
section
variable {α:Type} [DecidableEq α] {e:α->D}{f:α->D}{ks:List α}{k:α}{d:D}
theorem kg (he:∀a b,bq (e a) (e b)=decide (a=b)) (f:α->D):∀(ks:List α) (k:α),gU (ks.map e) (ks.map f) (e k)=if k∈ks then some (f k) else none
 | [],_=>rfl
 | a::ks,k=>by
  rw [Ur,Ur,gU,he,kg he f ks k];by_cases h:a=k
  ·subst h;simp
  ·rw [if_neg (by simpa using h)];simp [VS h]
theorem BS (he:∀a b,bq (e a) (e b)=decide (a=b)) (f:α->D) (k:α) (d:D):∀ks:List α,vZ (ks.map e) (ks.map f) (e k) d=ks.map λx=>if x=k then d else f x
 | []=>rfl
 | a::ks=>by rw [Ur,Ur,vZ,he,BS he f k d ks,Ur];simp only [decide_eq_true_eq]
theorem GC (he:∀a b,bq (e a) (e b)=decide (a=b)) (hk:k∈ks):dput (ks.map e,ks.map f) (e k) d=(ks.map e,ks.map λx=>if x=k then d else f x):=by unfold dput;simp only;rw [kg he,if_pos hk,BS he];rfl
theorem qI (he:∀a b,bq (e a) (e b)=decide (a=b)) (f:α->D):∀(n:Nat) (ks:List α),ks.length=n->ks.Nodup->iA (ks.map λk=>D.tup [e k,f k])=(ks.map e,ks.map f)
 | 0,ks,h,_=>by rw [Xo.mp h];rfl
 | n + 1,ks,h,nd=>by
  rcases VV ks with rfl | ⟨qs,p,rfl⟩
  ·cases h
  ·rw [VX] at h nd ⊢;have nd':=XR.mp nd;have hp:p∉qs:=λhq=>nd'.2.2 p hq p (by simp) rfl;rw [Us,Us,Us,Ur,aay,nU,qI he f n qs (by simpa using h) nd'.1];unfold dput;simp only;rw [kg he,if_neg hp];rfl
end
theorem fm (a b:Ps):bq (aE a) (aE b)=decide (a=b):=by
 show cB (a.map dP) (b.map dP)=_
 induction a generalizing b with
 | nil=>cases b <;> simp [cB]
 | cons x a ih=>
  cases b with
  | nil=>simp [cB]
  | cons y b=>rw [Ur,Ur,gM,ih,K55.wY,U_];simp
theorem N8 (ps:Ps) (hl:ps.length < 64):ig [.d (aE ps)]=.ok (.d (aE (NN ps))):=by refine b9 (f7 (bx (b:=false) rfl rfl rfl) (bG (n1 (n1 (x:=.d (aE ps)) (z:=.l .fresh (fV (ps.map dP))) rfl (P4 ps hl)) rfl) rfl ?_));rw [<-F2]
theorem zq (ps:Ps) (p:Nat×Nat) (hl:ps.length < 63):cH (.d (aE ps)) (.d (.tup [dP p]))=.ok (.d (aE (ps++[p]))):=by rw [aE,Dz _ _ (by simp;omega),aE,Us];rfl
theorem Jt (ps:Ps) (p:Nat×Nat) (hl:ps.length < 63):o8 [.d (aE ps),.d (dP p)]=.ok (.d (aE (dO ps p))):=
 b9 (bG (c1 (two rfl (bF (aH rfl rfl bf) (by show 1<=1000;decide)) (zq ps p hl)) (N8 _ (by simp;omega))) rfl rfl)
section
variable {v w:Wd}
theorem Lz (hv:v.m<=1000) (hw:w.m<=1000) (s x:Nat):gJ [.d v.d,.d w.d,.d (.int s),.d (.int x)]=.ok (.l .fresh ((nE v w (s,x)).map dP)):=by
 have hb:cL false (.d (.int (s:Int))) (.d (.int 0))=.ok (.d (.bl (decide (s=0)))):=by rw [K01.eq_int];congr 3;rw [U_];simp
 unfold nE;by_cases h:s=0
 ·rw [if_pos h,UM];exact b9 (bY (uR (bx rfl rfl (hb.trans (by rw [decide_eq_true h]))) (bG (jJ (λb=>dP (x,b)) (jC (b_ (two rfl rfl (iQ _ _))) hw) (by simp;omega) λb _=>⟨_,bF (aH rfl rfl (aH rfl rfl bf)) t2,rfl⟩) rfl rfl)))
 ·rw [if_neg h,UM];exact b9 (f7 (bx rfl rfl (hb.trans (by rw [decide_eq_false h]))) (bG (jJ (λa=>dP (a,x)) (jC (b_ (two rfl rfl (iQ _ _))) hv) (by simp;omega) λb _=>⟨_,bF (aH rfl rfl (aH rfl rfl bf)) t2,rfl⟩) rfl rfl))
theorem Jy (hv:v.m<=1000) (hw:w.m<=1000):lU [.d v.d,.d w.d]=.ok (.l .fresh ((picks v w).map dP)):=by refine b9 (bG (two (jJ (λa=>dP (0,a)) (jC (b_ (two rfl rfl (iQ _ _))) hv) (by simp;omega) λb _=>⟨_,bF (aH rfl rfl (aH rfl rfl bf)) t2,rfl⟩) (jJ (λa=>dP (1,a)) (jC (b_ (two rfl rfl (iQ _ _))) hw) (by simp;omega) λb _=>⟨_,bF (aH rfl rfl (aH rfl rfl bf)) t2,rfl⟩) (z:=.l .fresh ((picks v w).map dP)) ?_) rfl rfl);unfold picks;rw [Us,UM,UM];show (if _<=sizeLine then _ else M.bad)=_;rw [if_pos (by rw [U7];simp;omega)];rfl
end
section
variable {α:Type} [DecidableEq α] {e f:α->D}{ks:List α}{k:α}{env:Ev}
theorem L6 {act:Ev->M (List D×Ev)}{h f:α->D}{rest:Ev}:∀(ys:List α),(∀y∈ys,act (some (.d (h y))::rest)=.ok ([f y],some (.d (h y))::rest))->∀z:Option S,∃z',bP (aA 0) cA act (ys.map h) (z::rest)=.ok (ys.map f,z'::rest)
 | [],_,z=>⟨z,rfl⟩
 | y::ys,H,z=>by obtain ⟨z',ih⟩:=L6 ys (λy hy=>H y (Ua _ hy)) (some (.d (h y)));refine ⟨z',?_⟩;rw [Ur];unfold bP;show (act (some (.d (h y))::rest) >>= _)=_;rw [H y Uc,aN];show (bP (aA 0) cA act (ys.map h) (some (.d (h y))::rest) >>= _)=_;rw [ih];rfl
theorem zA {gi:G (List D)}{gk gv:G R}(he:∀a b,bq (e a) (e b)=decide (a=b)) (nd:ks.Nodup) (hi:gi env=.ok (ks.map e)) (hl:ks.length<=1000000)
 (hb:∀k∈ks,dD (e k)=true/\gk (some (.d (e k))::cE 0 cap env)=.ok (.d (e k))/\∃r,gv (some (.d (e k))::cE 0 cap env)=.ok r/\toD r=.ok (f k)):gO 1 cap gi (aA 0) cA gk gv env=.ok (.mf (ks.map e) (ks.map f)):=by
 obtain ⟨z,h⟩:=L6 (act:=nQ gk gv) (h:=e) (f:=λk=>.tup [e k,f k]) (rest:=cE 0 cap env) ks (λk hk=>by
  obtain ⟨h1,h2,r,h3,h4⟩:=hb k hk;exact mW h2 rfl h3 h4 h1) none
 unfold gO gA;rw [hi,aN,if_pos (by rw [T8];exact hl)];show (bP (aA 0) cA (nQ gk gv) (ks.map e) (none::cE 0 cap env) >>= _)=_;rw [h];show M.ok (R.mf (iA _).1 (iA _).2)=_;rw [qI he f _ ks rfl nd]
theorem jL (he:∀a b,bq (e a) (e b)=decide (a=b)) (hx:rN x=some (ks.map e,ks.map f)) (ok:dD (e k)=true) (hk:k∈ks):fu x (.d (e k))=.ok (.d (f k)):=by unfold fu;rw [hx];simp only;rw [if_pos ok,kg he,if_pos hk]
theorem vR (he:∀a b,bq (e a) (e b)=decide (a=b)) (hx:rN x=some (ks.map e,ks.map f)) (ok:dD (e k)=true):iF false (.d (e k)) x=.ok (.d (.bl (@decide (k∈ks) q))):=by unfold iF;rw [hx];simp only;rw [if_pos ok,kg he];by_cases h:k∈ks <;> simp [h]
end
theorem anyM {α:Type}(f:α->Bool) (xs:List α):sS [.l .fresh (xs.map λx=>.bl (f x))]=.ok (.d (.bl (xs.any f))):=by
 have:=vE (λd=>match d with
  | .bl b=>b
  | _=>false) (xs.map λx=>.bl (f x))
 rw [UM,UM] at this;unfold sS;show (match jY (xs.map λx=>.bl (f x)) with
  | some ks=>M.ok (R.d (.bl (ks.any id)))
  | none=>.bad)=_
 rw [show jY (xs.map λx=>.bl (f x))=some (xs.map f) from this];simp [aaH]
section
variable {v w:Wd}
abbrev b8 (r:List Ps):D:=.lst (r.map aE)
theorem N7 (t:Pr v w) (ks:List Ps) (ps:Ps) (hl:ps.length < 63):lS [.d v.d,.d w.d,.d (aE ps),.db (ks.map aE) (ks.map λ_=>.bl true)]=.ok (.l .fresh (((picks v w).map λk=>((nE v w k).map (dO ps)).filter λx=>decide (x∈ks)).map b8)):=by
 have v4:=t.v4;have w4:=t.w4;have hg:qM 2 [0,1,2] (bQ (ao (g2 aY (af 0) (gC (.int 0))) aG)) (aA 0) cA (c8 (gN (aT 4 K33.gJ) (ao (af 2) (ao (af 3) (ao (gC (.int 0)) (ao (af 0) aG)))))) (aA 1) cA (af 1) (gN (aT 2 K33.o8) (ao (af 4) (ao (af 1) aG)))
   [some (.d v.d),some (.d w.d),some (.d (aE ps)),some (.db (ks.map aE) (ks.map λ_=>.bl true)),none]=.ok (.d (.dct ((dJ v.m w.m).map dP) ((dJ v.m w.m).map λq=>aE (dO ps q)))):=by
  refine (qH (xs:=Ue v.m) (h:=dN) (h':=dP) (λa=>(Ue w.m).map λb=>(a,b)) (λ_ _=>true) (λ_ q=>.tup [dP q,aE (dO ps q)]) (jC (b_ (two rfl rfl (iQ _ _))) (by omega)) (by simp;omega) λa ha=>⟨by simp;omega,λz=>?_,λq hq=>⟨rfl,λ_=>mW rfl rfl (c2 rfl rfl (Jt ps q hl)) rfl rfl⟩⟩).trans ?_
  ·show (gN _ _ _ >>= _)=_;rw [c4 rfl rfl rfl rfl (Lz (v:=v) (w:=w) (by omega) (by omega) 0 a)];rfl
  ·have e:((Ue v.m).flatMap λa=>(((Ue w.m).map λb=>(a,b)).filter λ_=>true).map λq=>D.tup [dP q,aE (dO ps q)])=(dJ v.m w.m).map λq=>D.tup [dP q,aE (dO ps q)]:=by unfold dJ;rw [Xr];congr 1;funext a;rw [Xm.mpr λ_ _=>rfl]
   rw [e];show M.ok (R.d (.dct (iA _).1 (iA _).2))=_;rw [qI K55.wY _ _ _ rfl (oh v.m w.m)]
 refine b9 (bD hg rfl (bG (qG (xs:=picks v w) (λk=>dN k.1) (λk=>dN k.2) (λk=>b8 (((nE v w k).map (dO ps)).filter λx=>decide (x∈ks))) ?_ (by unfold picks;simp;omega) λk hk=>?_) rfl (by rw [UM];rfl)))
 ·show (gN _ _ _ >>= _)=_;rw [c2 rfl rfl (Jy (v:=v) (w:=w) (by omega) (by omega))];rfl
 ·have hin:∀q∈nE v w k,q∈dJ v.m w.m:=λq hq=>by
   rw [lI];have hk:(k.1=0/\k.2 < v.m)\/(k.1≠0/\k.2 < w.m):=by
    unfold picks at hk;simp only [UI,Ui,UQ] at hk;rcases hk with ⟨a,h,rfl⟩ | ⟨a,h,rfl⟩
    ·exact .inl ⟨rfl,h⟩
    ·exact .inr ⟨Nat.one_ne_zero,h⟩
   unfold nE at hq;rcases hk with ⟨h1,h2⟩ | ⟨h1,h2⟩
   ·rw [if_pos h1] at hq;obtain ⟨b,hb,rfl⟩:=Ui.mp hq;exact ⟨h2,UQ.mp hb⟩
   ·rw [if_neg h1] at hq;obtain ⟨b,hb,rfl⟩:=Ui.mp hq;exact ⟨UQ.mp hb,h2⟩
  refine ⟨.l .fresh (((((nE v w k).map (dO ps)).filter λx=>decide (x∈ks))).map aE),?_,rfl⟩;rw [aaO,UM];refine lY (xs:=nE v w k) (h:=dP) (λq=>decide (dO ps q∈ks)) (λq=>aE (dO ps q)) ?_ (by unfold nE;split <;> simp <;> omega) λq hq=>?_
  ·show (gN _ _ _ >>= _)=_;rw [c4 rfl rfl rfl rfl (Lz (v:=v) (w:=w) (by omega) (by omega) k.1 k.2)];rfl
  ·have hd:=jL (e:=dP) (f:=λq=>aE (dO ps q)) K55.wY (x:=.d (.dct ((dJ v.m w.m).map dP) ((dJ v.m w.m).map λq=>aE (dO ps q)))) rfl (k:=q) rfl (hin q hq);exact ⟨bx (two rfl rfl hd) rfl (vR (ks:=ks) (f:=λ_=>.bl true) fm (x:=.mb (ks.map aE) (ks.map λ_=>.bl true)) rfl (d9 (dO ps q))),λ_=>⟨_,two rfl rfl hd,rfl⟩⟩
end
noncomputable def dV:Option Nat->D
 | none=>.non
 | some e=>.int e
theorem CK (o:Option Nat):nc false (.d (dV o)) (.d .non)=.ok (.d (.bl o.isNone)):=by cases o <;> rfl
theorem Jz (rs:List (List Ps)) (ks:List Ps) (f:Ps->Option Nat) (h:∀r∈rs,∀x∈r,x∈ks) (h1:rs.length<=1000) (h2:∀r∈rs,r.length<=1000):cV [.d (.lst (rs.map b8)),.db (ks.map aE) (ks.map λk=>dV (f k))]=.ok (.d (.bl (rs.all λr=>r.any λx=>(f x).isNone))):=by refine b9 (bG (n1 (jJ (xs:=rs) (h:=b8) (λr=>.bl (r.any λx=>(f x).isNone)) rfl (by omega) λr hr=>⟨_,n1 (jJ (xs:=r) (h:=aE) (λx=>.bl (f x).isNone) rfl (by have:=h2 r hr;omega) λx hx=>⟨_,two (two rfl rfl (jL (f:=λk=>dV (f k)) fm rfl (d9 x) (h r hr x hx))) rfl (CK (f x)),rfl⟩) (anyM _ r),rfl⟩) (allM _ rs)) rfl rfl)
theorem part {κ:Type}{p q:κ->Bool}(h:∀k,q k=true->p k=true):∀l:List κ,(l.filter p).length=(l.filter q).length + (l.filter λk=>p k && !q k).length
 | []=>rfl
 | a::l=>by
  have ih:=part h l;cases hq:q a with
  | true=>simp [h a hq,hq];omega
  | false=>cases hp:p a <;> simp [hp,hq] <;> omega
abbrev u5 (rows:Ps->List (List Ps)) (k:Ps):D:=.lst ((rows k).map b8)
abbrev eP (x:Str) (ks:List Ps) (val:Ps->D) (f:Ps->Option Nat) (d:Nat) (g z:Option S):Ev:=[some (.db (ks.map aE) (ks.map val)),some (.fn x),some (.dk (ks.map aE) (ks.map λk=>dV (f k))),some (.d (.int d)),g,z]
noncomputable def IS (c1 c2:G R):G O:=(aI (bh 2 (gO 1 [] (mL (af 0)) (aA 0) cA (af 0) (gC .non)))
 (aI (bh 3 (gC (.int 1)))
 (aI (bh 4 (bM 1 [1,0,2] (mL (af 0)) (aA 0) (fh (bB c1)) (af 0)))
 (aI (uF 400000 (s_ (af 4)) (aI (d8 4 (bV (c8 (af 4)) (aA 5) (mO 2 (af 5) (af 3))))
 (aI (sX 3 vK (gC (.int 1)))
 (bh 4 (bM 1 [2,1,0] (mL (af 0)) (aA 0) (jt (bB (g2 (nc false) (g2 fu (af 1) (af 0)) (gC .non))) (fh (bB c2))) (af 0))))))
 (bw (af 2))))))
abbrev Pe (i r d:Nat) (x:Str) (F:List S->M R):G R:=zK i x (gN (aT 2 F) (ao (g2 fu (af r) (af 0)) (ao (af d) aG))) yx
section
variable {ks:List Ps}{rows:Ps->List (List Ps)}{st:(Ps->Bool)->Ps->Bool}{val:Ps->D}{c1 c2:G R}{x:Str}
theorem Ly (ok:Nat->Prop) (o0:ok 0) (os:∀d,ok d->∀k∈ks,LZ st d k=true->LZ st (d + 1) k=false->ok (d + 1)) (nd:ks.Nodup) (hl:ks.length<=390000)
  (h1:∀k∈ks,∀d,ok d->c1 [some (.d (aE k)),some (.fn x),some (.db (ks.map aE) (ks.map val)),some (.dk (ks.map aE) (ks.map λk=>dV (dZ st d k)))]=.ok (.d (.bl (st (LZ st d) k))))
  (h2:∀k∈ks,∀d,ok d->c2 [some (.d (aE k)),some (.dk (ks.map aE) (ks.map λk=>dV (dZ st d k))),some (.fn x),some (.db (ks.map aE) (ks.map val))]=.ok (.d (.bl (st (LZ st d) k)))):
  ∃d,ok d/\fin (IS c1 c2 (a_ qB [.db (ks.map aE) (ks.map val),.fn x]))=.ok (.mf (ks.map aE) (ks.map λk=>dV (dZ st d k)))/\∀k∈ks,LZ st d k=true->LZ st (d + 1) k=true:=by
 have key:Wp (IS c1 c2 (a_ qB [.db (ks.map aE) (ks.map val),.fn x])) λo=>∃r,o=.rt r/\∃d,ok d/\r=.mf (ks.map aE) (ks.map λk=>dV (dZ st d k))/\∀k∈ks,LZ st d k=true->LZ st (d + 1) k=true:=by
  refine bD (zA (e:=aE) (f:=λk=>dV (dZ st 0 k)) (ks:=ks) fm nd rfl (by omega) λk hk=>⟨d9 k,rfl,_,rfl,by rw [jK.mpr rfl];rfl⟩) rfl (bD rfl rfl (bD (lY (xs:=ks) (h:=aE) (λk=>LZ st 0 k && !LZ st 1 k) aE rfl (by omega) λk hk=>⟨?_,λ_=>⟨_,rfl,rfl⟩⟩) rfl ?_))
  ·exact dB (b:=LZ st 1 k) (eZ (h1 k hk 0 o0))
  ·refine Ld (λn env=>∃d z,ok d/\env=eP x ks val (dZ st d) (d + 1) (some (.own ((ks.filter λk=>LZ st d k && !LZ st (d + 1) k).map aE))) z/\n=(ks.filter (LZ st d)).length) (ks.filter (LZ st 0)).length (by have:=UR (LZ st 0) ks;omega) ⟨0,none,o0,rfl,rfl⟩ ?_;rintro n _ ⟨d,z,od,rfl,rfl⟩;obtain ⟨g,hg⟩:∃g,g=ks.filter λk=>LZ st d k && !LZ st (d + 1) k:=⟨_,rfl⟩;rw [<-hg];have hm:∀k,k∈g↔k∈ks/\LZ st d k=true/\LZ st (d + 1) k=false:=λk=>by rw [hg,UT];simp
   by_cases h0:g=[]
   ·refine .inl ⟨by rw [h0];rfl,bG rfl rfl ⟨_,rfl,d,od,rfl,λk hk q=>?_⟩⟩;cases z:LZ st (d + 1) k with
    | true=>rfl
    | false=>have:=(hm k).mpr ⟨hk,q,z⟩;rw [h0] at this;cases this
   ·have od1:ok (d + 1):=by obtain ⟨y,hy⟩:=List.exists_mem_of_ne_nil g h0;obtain ⟨a,b,c⟩:=(hm y).mp hy;exact os d od y a b c
    refine .inr ⟨?_,?_⟩
    ·show M.ok (!(g.map aE).isEmpty)=_;cases g with
     | nil=>exact absurd rfl h0
     | cons _ _=>rfl
    have Ti:=part (p:=LZ st d) (q:=LZ st (d + 1)) (λk h=>vA (YI d) h) ks;rw [<-hg] at Ti;have g0:0 < g.length:=List.length_pos_iff.mpr h0;refine bY (qY rfl (jZ (ds:=g.map aE) rfl (f_ (λi env=>∃z,env=eP x ks val (λk=>if k∈g.take i then some (d + 1) else dZ st d k) (d + 1) (some (.d (.lst (g.map aE)))) z) (g.map aE) ⟨z,by simp⟩ ?_ ?_)))
    ·rintro i hi _ ⟨z,rfl⟩;have hi':i < g.length:=by simpa using hi
     have e:(g.map aE)[i]=aE g[i]:=U5 ..;have hk:g[i]∈ks:=((hm _).mp (Vm hi')).1;rw [e];have ev:dput (ks.map aE,ks.map λk=>dV (if k∈g.take i then some (d + 1) else dZ st d k)) (aE g[i]) (.int ((d + 1:Nat):Int))=(ks.map aE,ks.map λk=>dV (if k∈g.take (i + 1) then some (d + 1) else dZ st d k)):=by
      rw [GC fm hk,WA,Uk hi'];congr 1;refine Wa λk _=>?_;simp only [UI,Option.toList_some,Ul];by_cases c:k=g[i]
      ·rw [if_pos c,if_pos (.inr c)];rfl
      ·simp only [c,if_false,or_false]
     exact ⟨_,rfl,CP (ks:=ks.map aE) (vs:=ks.map λk=>dV (if k∈g.take i then some (d + 1) else dZ st d k)) rfl rfl rfl rfl rfl (d9 g[i]) (by rw [T8];omega) ⟨_,rfl,some (.d (aE g[i])),by rw [ev];rfl⟩⟩
    ·rintro _ ⟨z,rfl⟩;have ev:(ks.map λk=>dV (if k∈g.take (g.map aE).length then some (d + 1) else dZ st d k))=ks.map λk=>dV (dZ st (d + 1) k):=Wa λk hk=>by
      rw [T8,VQ,JN];congr 1;by_cases c:k∈g
      ·rw [if_pos c,if_pos (by obtain ⟨_,a,b⟩:=(hm k).mp c;rw [a,b];rfl)]
      ·rw [if_neg c,if_neg λz=>c ((hm k).mpr ⟨hk,by simpa using z⟩)]
     show Wp _ _;unfold eP;rw [ev];refine bY (Og rfl rfl rfl rfl (eY (lY (xs:=ks) (h:=aE) (λk=>LZ st (d + 1) k && !LZ st (d + 1 + 1) k) aE rfl (by omega) λk hk=>⟨?_,λ_=>⟨_,rfl,rfl⟩⟩) rfl ⟨(ks.filter (LZ st (d + 1))).length,by omega,d + 1,z,od1,rfl,rfl⟩));have q1:=jL (f:=λk=>dV (dZ st (d + 1) k)) (ks:=ks) (k:=k) (e:=aE) fm (x:=.mo (ks.map aE) (ks.map λk=>dV (dZ st (d + 1) k))) rfl (d9 k) hk;cases c:LZ st (d + 1) k with
     | false=>
      refine eS (bx (two rfl rfl q1) rfl ((CK _).trans ?_));cases z:dZ st (d + 1) k with
      | none=>rw [jK.mp z] at c;cases c
      | some _=>rfl
     | true=>
      rw [jK.mpr c] at q1;refine dG (bx (two rfl rfl q1) rfl (CK none)) (dB (b:=LZ st (d + 1 + 1) k) (eZ ((h2 k hk (d + 1) od1).trans ?_)));show M.ok (R.d (.bl _))=M.ok (R.d (.bl (LZ st (d + 1) k && _)));rw [c];rfl
 obtain ⟨r,h,d,od,rfl,hs⟩:=oF key;exact ⟨d,od,h,hs⟩
end
section
variable {v w:Wd}{B:Ps}
theorem N6 (ks:List Ps) (f:Ps->Option Nat) (p:Ps) (j:Nat):lR [.db (ks.map aE) (ks.map λk=>dV (f k)),.d (aE p),.d (.int j)]=.ok (.d (.bl (decide (p∈ks) && r_ (f p) j))):=by
 have hi:=vR (ks:=ks) (f:=λk=>dV (f k)) fm (x:=.mb (ks.map aE) (ks.map λk=>dV (f k))) rfl (d9 p) (q:=inferInstance);refine b9 (bG (r:=.d (.bl (decide (p∈ks) && r_ (f p) j))) ?_ rfl rfl);unfold l_;rw [show g2 (iF false) (af 1) (af 0) (a_ pB [.db (ks.map aE) (ks.map λk=>dV (f k)),.d (aE p),.d (.int j)])=_ from two rfl rfl hi,aN];by_cases h:p∈ks
 ·rw [decide_eq_true h];have hd:=jL (ks:=ks) (f:=λk=>dV (f k)) fm (x:=.mb (ks.map aE) (ks.map λk=>dV (f k))) rfl (d9 p) h;show sZ _ _ _=M.ok (R.d (.bl (r_ (f p) j)));cases q:f p with
  | none=>rw [q] at hd;exact Kz (two (two rfl rfl hd) rfl rfl)
  | some e=>
   rw [q] at hd;refine M7 (two (two rfl rfl hd) rfl rfl) (two (two rfl rfl hd) rfl ?_);show M.ok (R.d (.bl (decide ((j:Int) < (e:Int)))))=M.ok (R.d (.bl (decide (j < e))));rw [show decide ((j:Int) < (e:Int))=decide (j < e) by rw [U_];simp]
 ·rw [decide_eq_false h];rfl
end
end K33
namespace K33
open PySem DL K01 WP K51 K52 K55 K23
end K33
namespace K33
open PySem DL K01 WP K51 K52 K55 K23 K22
theorem nv (i:Int) (m:Nat) (h:0 < m):∃k:Nat,i % (m:Int)=k/\k < m:=by obtain ⟨k,hk⟩:=MV (Yx i (b:=m) (by omega));have:=Yt i (b:=m) (by omega);exact ⟨k,hk,by omega⟩
end K33
namespace DL
open PySem PySem.Spec PyProof.Rows L2
def FA (K:T5) (x:Str) (st:WM):Prop:=∃f fd,U1 K UL x=some (some (.ref f))/\oJ K x x st f fd
theorem Oc {K:T5}{st:WM}(a:U1 K UL x=some (some (.ref f)))
 (l:K.lookup f=some ⟨u,o,.func (V3 x x (fY st) (c_ st) (bH st) .none v d p n q r),s⟩) (c:YU K q x=true) (k:Xs K (.ref f)=true):FA K x st:=⟨f,_,a,Ey l c k⟩
def FB (K:T5) (mg:Str->Option T7) (x:Str) (st:WM):Prop:=∃f fd,mg x=some (.ref f)/\oJ K x x st f fd
theorem bU {K:T5}{h:VJ}{mg:Str->Option T7}(X:K.In h) (G:h.Ns UL mg){x:Str}{st:WM}(e:FA K x st):FB K mg x st:=let ⟨f,fd,a,F⟩:=e;⟨f,fd,Zm X G a,F⟩
theorem qc {P:Uv}{w:US}{K:T5}{mg:Str->Option T7}{base:VJ}{x:Str}{st:WM}{k:Nat}{Fm:List S->M R}(gB:G O) (N:List Str) (n:Nat) (e:FB K mg x st)
  (hb:N.Nodup->∀(f:UA) (cdv:T7) (A:UW) (outer:List Env) (s:T_) (H:Hp) (E:XK) (J:Hp) (T:Exc->Prop),dX k (A.deeper (ZS x (bH st) s.heap.objs.size f cdv))->
   pG (Er P w K mg base N x (bH st) f cdv A outer s H E) ⟨K,H,J,T⟩ (c_ st) gB)
  (Sc:ie N (N.take n) (bH st):=by exact ⟨rfl,rfl,rfl,by decide +kernel,rfl,by decide +kernel,by decide +kernel⟩)
  (hbi:∀(kV doc pm:T7) (an:Option UA) (cdv ct:T7) (us:List T7),us.length=(N.take n).length->acq (V3 x x (fY st) (c_ st) (bH st) .none kV doc pm an cdv ct) ⟨us,[]⟩=pure ((N.take n).zip us):=by
   intro _ _ _ _ _ _ us hl;rcases us with _ | ⟨_,_ | ⟨_,_ | ⟨_,_ | ⟨_,_ | ⟨_,_ | ⟨_,_ | ⟨_,_⟩⟩⟩⟩⟩⟩⟩ <;> first | exact rfl | (cases hl;done) | exact nomatch hl)
  (hF:∀as r,as.length=(N.take n).length->Fm as=.ok r->fin (gB (a_ N as))=.ok r:=by intro _ _ _ h;exact h):bE P w K mg base (k + 1) (N.take n).length x Fm:=
 let ⟨f,_,hm,F⟩:=e;K1 F hm Sc hbi (hb Sc.nd f) hF
end DL
namespace K32
open PySem DL
end K32
namespace K32
open PySem DL K01 WP K51 K52 K55 K23 K22 K33
end K32
namespace K23
open PySem DL K01 WP K51 K52 K55
def Pz (m:Nat) (o:List Nat):List (List Nat):=((Ue m).filter λp=>!inD (dN p) (o.map dN)).map λp=>o++[p]
noncomputable def OR (m:Nat):Nat->List (List Nat)
 | 0=>[[]]
 | k + 1=>(OR m k).flatMap (Pz m)
noncomputable def fs (k:Nat) (L:List D):S:=match k with
 | 0=>.own L
 | _ + 1=>.d (.lst L)
end K23
namespace K22
open PySem DL K01 WP K51 K52 K55 K23
end K22
namespace K35
open PySem DL
end K35
namespace K35
open PySem DL K01 WP K51 K52 K55 K22 K33 K32
open K23 (Pr told gP fN aE OR fC bx eZ dB Good oG j3 eS dG ig)
section
variable {v w:Wd}{B C:Ps}{n j:Nat}
theorem M9 {env:Ev}{a b:G Bool}(h:a env=.ok true):iN a b env=.ok true:=by unfold iN;rw [h];rfl
end
end K35
namespace DL
open PySem PySem.Spec PyProof.Rows L2
end DL
namespace K81
open PySem DL
end K81
namespace K81
open PySem DL K01 WP K51 K52 K55 K23 K33
end K81
namespace K81
open PySem DL K01 WP K51 K52 K55 K23 K22 K33
theorem PR {gs:G (List R)}{env:Ev}{n:Nat}(hg:gs env=.ok [.d (.int (n:Int))]) (h:n<=1000):yz gs env=.ok (.l .fresh ((Ue n).map dN)):=by unfold yz;rw [hg,aN];simp only;rw [if_pos (cW.mpr ⟨by omega,by omega⟩),Vo,HW]
end K81
namespace DL
open PySem PySem.Spec PyProof.Rows L2
section
variable {X:Cx}{c:C}{o a e:UU}{es:List UU}{go ga:G R}{apos cpos pos:Pos}
theorem D_:cR X (.builtin "abs") (λxs H Q=>∃i:Int,xs=[.int i]/\Q (.int (if i < 0 then -i else i)) H):=by intro TN s σ H xs us Q I r h;obtain ⟨i,rfl,q⟩:=h;obtain ⟨u,rfl,t,rfl⟩:=vals1 r;exact call_abs_int λu tk=>⟨.int _,H,I.tok _,⟨_,rfl⟩,q⟩
noncomputable def Cw:List R->M R
 | [.d (.int i)]=>.ok (.d (.int (if i < 0 then -i else i)))
 | _=>.bad
theorem K5 {p:Pos}{gs:G (List R)}(ha:jG X c (e::es) gs) (hm:X.mg "abs"=none) (hg:Gl X "abs":=by rfl)
  (he:Uj (e::es) X.env=(false,eval e X.env)::Uj es X.env:=by rfl) (hpl:(Vx pos (Uj es X.env)).any (·.1)=false:=by rfl):QD X c (.Call (.Name "abs" p) (e::es) [] pos) (gN Cw gs):=
 ⟨iY D_ (by
  intro He J H xs vs Q hp rs w;unfold Cw at w;split at w
  ·obtain ⟨v,rfl,r⟩:=rs.one;cases r;exact ⟨_,rfl,w _ J H (Ext.refl hp.sub) (.int _)⟩
  ·exact w.elim) (by decide +kernel) hm ha.h hg (by decide) (by decide) he hpl⟩
def N2 (_ j:Int):Prop:=0 < j/\j < 2 ^ 200
theorem Hu:c6 X (Xj .FloorDiv) (rI N2 λi j=>.int (i / j)):=E1 λi j _ _ _ _ _ hc q=>by
 have h1:(0:Int) < j:=hc.1;have h2:j.natAbs < 2 ^ 200:=by have:=hc.2;omega
 exact floordiv_int (by omega) (by rw [ZG i (by omega)];exact q) (.inl (PyProof.noPylong_of_log2 (Xh ((Nat.log2_lt (by omega)).mpr h2) (by decide))))
def CN (_ j:Int):Bool:=decide (0 < j) && below 1606938044258990275541962092341162602522202993782792835301376 j
abbrev l7:R->R->M R:=fI CN λi j=>.int (i / j)
theorem jR (ha:QD X c a ga) (hb:QD X c o go):QD X c (.BinOp a .FloorDiv o pos) (g2 l7 ga go):=⟨kM Hu (y_ (λi j h=>by
 unfold CN at h;rw [Ub] at h;exact ⟨of_decide_eq_true h.1,(cW.mp h.2).2⟩) λ_ _ _=>.int _) ha.h hb.h⟩
theorem NK:rK X (λx lo hi H Q=>∃z:Str,x=.str z/\z.length<=sizeLine/\Q (.str (Wk z lo hi)) H):=by
 intro TN s σ H x v vl vu lo hi sl Q I rx hs pl pu h;obtain ⟨z,rfl,hz,q⟩:=h;obtain ⟨t,rfl⟩:=rx;have fin:∀t' k,EP X TN σ Q (.str (Wk z lo hi) t') {s with toks:=k}:=λt' k=>⟨.str _,H,I.tok _,⟨_,rfl⟩,q⟩;cases pl <;> cases pu
 ·exact ⟨"str",_,Xe.lookup,YG _ _ _,Xp (l:=none) (u:=none) (st:=none) hs rfl (ZE ⟨UC (ZM z _ _) hz,fin⟩)⟩
 ·exact ⟨"str",_,Xe.lookup,YG _ _ _,Xp (l:=none) (u:=some (_,_)) (st:=none) hs rfl (ZE ⟨UC (ZM z _ _) hz,fin⟩)⟩
 ·exact ⟨"str",_,Xe.lookup,YG _ _ _,Xp (l:=some (_,_)) (u:=none) (st:=none) hs rfl (ZE ⟨UC (ZM z _ _) hz,fin⟩)⟩
 ·exact ⟨"str",_,Xe.lookup,YG _ _ _,Xp (l:=some (_,_)) (u:=some (_,_)) (st:=none) hs rfl (ZE ⟨UC (ZM z _ _) hz,fin⟩)⟩
noncomputable def nZ:R->Option Int->Option Int->M R
 | .d (.str z),l,u=>if z.length<=sizeLine then .ok (.d (.str (Wk z l u))) else .bad
 | _,_,_=>.bad
theorem nG {lo hi:Option UU}{gl gh:GO}{p2:Pos}(h:QD X c o go) (hl:A9 X c lo gl) (hh:A9 X c hi gh):QD X c (.Subscript o (.Slice lo hi none p2) pos) (nj nZ go gl gh):=⟨Jb NK (by
 intro He J H x v l u Q hp rx w;unfold nZ at w;split at w
 ·cases rx;split at w
  ·rename_i hz;exact ⟨_,rfl,hz,w _ J H (Ext.refl hp.sub) (.str _)⟩
  ·exact w.elim
 ·exact w.elim) h.h hl.h hh.h⟩
noncomputable def CC (go ga:G R):G R:=λenv=>go env >>= λr=>match r with
 | .d (.str x)=>ga env >>= λk=>(match k with
  | .d (.str y)=>.ok (.d (.int (Txt.find x y)))
  | _=>.bad)
 | _=>.bad
theorem HH (ho:QD X c o go) (ha:QD X c a ga) (hbase:Wt o "find" X.env (eval o X.env)=eval o X.env:=by rfl) (hline:(apos.endLine == cpos.line)=true:=by rfl)
  (htr:Vx cpos (Uj [a] X.env)=[(false,eval a X.env)]:=by rfl):QD X c (.Call (.Attribute o "find" apos) [a] [] cpos) (CC go ga):=by
 refine ⟨λTN s σ H Q I ⟨J,env,sr,w⟩=>?_⟩;refine wpAny_Call_method1_late hbase hline htr (bN (ho.h TN s σ H (λx H1=>∃J1 r,Ext J H J1 H1/\RR c H J1 H1 r x/\cK _ _ _) I ⟨J,env,sr,aF (aM w) λr wr v J1 H1 e1 r1=>⟨J1,r,e1,r1,wr⟩⟩) λov s1 ⟨x,H1,I1,rx,J1,r,e1,r1,wr⟩=>?_);split at wr
 ·rename_i x;cases r1;obtain ⟨t,rfl⟩:=rx;refine ⟨"str","str.find",PySem.F.plainAttrs_str,aaS,PySem.F.type_str_find,YG _ _ _,(λ_ e=>nomatch e),?_⟩;refine method1_gives aaS PySem.F.entry_str_find (bN (ha.h TN s1 σ H1 (λx H2=>∃J2 r,Ext J1 H1 J2 H2/\RR c H1 J2 H2 r x/\cK _ _ _) I1 ⟨J1,env,sr.ext e1,aF (aM wr) λr wr v J2 H2 e2 r2=>⟨J2,r,e2,r2,wr⟩⟩) λkv s2 ⟨y,H2,I2,ry,J2,r',e2,r2,wr⟩=>?_);split at wr
  ·rename_i y;cases r2;obtain ⟨t',rfl⟩:=ry;exact ⟨YG _ _ _,PySem.F.args_str_find_2 _ _,_,gives_str_find x y t t',.int _,H2,I2.tok _,⟨_,rfl⟩,wr _ J2 H2 (e1.trans e2) (.int _)⟩
  ·exact wr.elim
 ·exact wr.elim
end
end DL
namespace K72
open PySem DL
def oK:List Str:=["_law_script","_law_k"]
noncomputable def oR:G O:=(aI (bL (bB (g2 (kD λi j=>.bl (decide (i < j))) (af 1) (gN dY (ao (af 0) aG)))) (bw (g2 aY (af 0) (af 1))) c5)
 (bw (gC (.int 0))))
def gw (as:List S):M R:=fin (oR (a_ oK as))
def t7:List Str:=["_law_cell","_law_count","_law_found","_law_number","_law_k"]
noncomputable def uG:G O:=(aI (bh 2 (cU aQ))
 (aI (bh 3 (gN Cw (ao (g2 l7 (af 0) (gC (.int 2))) aG)))
 (aI (bL (bB (g2 (cL false) (g2 d7 (af 0) (gC (.int 2))) (gC (.int 1)))) (aI (bV (bQ (ao (af 1) aG)) (aA 4) (aI (eX 2 (g2 d7 (af 3) (g2 nY (gC (.int 10)) (gC (.int 20)))))
 (bh 3 (g2 l7 (af 3) (g2 nY (gC (.int 10)) (gC (.int 20)))))))
 (bw (af 2))) c5)
 (aI (bh 3 (g2 iu (g2 d7 (af 3) (g2 nY (gC (.int 10)) (gC (.int 50)))) (gC (.int 1234577))))
 (aI (bV (bQ (ao (af 1) aG)) (aA 4) (aI (bh 3 (g2 d7 (g2 iu (g2 iu (g2 iM (af 3) (gC (.int 30013))) (g2 l7 (af 3) (g2 nY (gC (.int 10)) (gC (.int 30))))) (g2 iM (gC (.int 77)) (af 4))) (g2 iu (g2 nY (gC (.int 10)) (gC (.int 50))) (gC (.int 151)))))
 (eX 2 (g2 l7 (g2 iM (af 3) (g2 iu (g2 l7 (af 3) (g2 nY (gC (.int 10)) (gC (.int 40)))) (gC (.int 3)))) (g2 nY (gC (.int 10)) (gC (.int 9)))))))
 (bw (af 2)))))))
def ji (as:List S):M R:=fin (uG (a_ t7 as))
def q_:List Str:=["_law_name","_law_ahead"]
noncomputable def rQ:G O:=(aI (bL (bB (g2 (j4 false) (af 0) (cU (az (gC (.str "and")) (az (gC (.str "or")) (az (gC (.str "not")) (az (gC (.str "some")) (az (gC (.str "every")) (az (gC (.str "least")) (az (gC (.str "true")) (az (gC (.str "false")) aQ))))))))))) (aI (bL (s_ (af 1)) (bw (g2 cH (gC (.str "q")) (nj nZ (af 0) (pP (gC (.int 1))) uE))) c5)
 (bw (g2 cH (af 0) (gC (.str "q"))))) c5)
 (bw (af 0)))
def iI (as:List S):M R:=fin (rQ (a_ q_ as))
def rB:List Str:=["_law_number","_law_many","_law_letters","_law_stem","_law_k","_law_at_here","_law_found","_law_sign"]
noncomputable def rS:G O:=(aI (bh 2 (gC (.str "abcdefghijklmnopqrstuvwxyz")))
 (aI (bh 3 (gC (.str "")))
 (aI (bV (bQ (ao (gC (.int 7)) aG)) (aA 4) (aI (bh 3 (g2 cH (af 3) (g2 aY (af 2) (g2 d7 (af 0) (gC (.int 26))))))
 (bh 0 (g2 iE (af 0) (gC (.int 26))))))
 (aI (bL (bB (g2 (cL false) (g2 d7 (af 0) (gC (.int 2))) (gC (.int 0)))) (bw (gN kU (ao (bM 1 [3] (bQ (ao (af 1) aG)) (aA 0) cA (gN (aT 2 K72.iI) (ao (nj nZ (af 1) uE (pP (g2 cH (gC (.int 2)) (af 0)))) (ao (gC (.bl true)) aG)))) aG))) c5)
 (aI (bh 3 (nj nZ (af 3) uE (pP (g2 cH (gC (.int 2)) (g2 d7 (g2 iE (af 0) (gC (.int 2))) (gC (.int 6)))))))
 (aI (bh 5 (g2 d7 (g2 iE (af 0) (gC (.int 12))) (gN dY (ao (af 3) aG))))
 (aI (bh 6 (cU aQ))
 (aI (bV (bQ (ao (af 1) aG)) (aA 4) (aI (bh 7 (g2 aY (af 2) (g2 d7 (g2 cH (CC (af 2) (g2 aY (af 3) (af 5))) (g2 iM (gC (.int 5)) (af 4))) (gC (.int 26)))))
 (eX 6 (gN (aT 2 K72.iI) (ao (g2 cH (g2 cH (nj nZ (af 3) uE (pP (af 5))) (af 7)) (nj nZ (af 3) (pP (g2 cH (af 5) (gC (.int 1)))) uE)) (ao (gC (.bl false)) aG))))))
 (bw (gN kU (ao (af 6) aG)))))))))))
def gH (as:List S):M R:=fin (rS (a_ rB as))
noncomputable def AH:List Str:=["_law_many","_law_marks","_law_arrows","_law_number","_law_parts","_law_name","_law_points","_law_point","_law_more_here","_law_pairs","_law_one","_law_other"]
noncomputable def rV:G O:=(aI (bh 4 (cU aQ))
 (aI (bV (c8 (af 1)) (aA 5) (aI (bh 6 (cU aQ))
 (aI (bV (bQ (ao (af 0) aG)) (aA 7) (aI (bL (bB (g2 (cL false) (g2 d7 (af 3) (gC (.int 2))) (gC (.int 1)))) (eX 6 (af 7)) c5)
 (bh 3 (g2 iE (af 3) (gC (.int 2))))))
 (eX 4 (bC (az (af 5) (az (gN eU (ao (af 6) aG)) aQ)))))))
 (aI (bh 8 (cU aQ))
 (aI (bV (c8 (af 2)) (aA 5) (aI (bh 9 (cU aQ))
 (aI (bV (bQ (ao (af 0) aG)) (aA 10) (bV (bQ (ao (af 0) aG)) (aA 11) (aI (bL (bB (g2 (cL false) (g2 d7 (af 3) (gC (.int 2))) (gC (.int 1)))) (eX 9 (bC (az (af 10) (az (af 11) aQ)))) c5)
 (bh 3 (g2 iE (af 3) (gC (.int 2)))))))
 (eX 8 (bC (az (af 5) (az (gN eU (ao (af 9) aG)) aQ)))))))
 (bw (bC (az (af 0) (az (gN eU (ao (af 4) aG)) (az (gN eU (ao (af 8) aG)) aQ)))))))))
def dS (as:List S):M R:=fin (rV (a_ AH as))
def oM:List Str:=["_law_number","_law_at_here","_law_low","_law_k"]
noncomputable def oS:G O:=(aI (bh 2 (gC (.int 1)))
 (aI (bV (bQ (ao (af 1) aG)) (aA 3) (bh 2 (g2 iM (af 2) (gC (.int 2)))))
 (aI (bL (bB (g2 (cL false) (g2 d7 (g2 l7 (af 0) (af 2)) (gC (.int 2))) (gC (.int 1)))) (bw (g2 vL (af 0) (af 2))) c5)
 (bw (g2 iu (af 0) (af 2))))))
def gx (as:List S):M R:=fin (oS (a_ oM as))
noncomputable def pq:List Str:=["_law_world_here","_law_number","_law_left","_law_order","_law_k","_law_marks","_law_name","_law_points","_law_arrows","_law_pairs"]
noncomputable def pQ:G O:=(aI (bh 2 (yz (ao (g2 aY (af 0) (gC (.int 0))) aG)))
 (aI (bh 3 (cU aQ))
 (aI (bV (bQ (ao (g2 aY (af 0) (gC (.int 0))) aG)) (aA 4) (aI (ni 3 2 (g2 d7 (af 1) (gN dY (ao (af 2) aG))))
 (bh 1 (g2 iE (af 1) (gC (.int 5))))))
 (aI (bh 5 (cU aQ))
 (aI (bV (c8 (g2 aY (af 0) (gC (.int 1)))) (dg 2 (bz (aA 6) (bz (aA 7) dF))) (eX 5 (bC (az (af 6) (az (gN eU (ao (gN ng (ao (bM 1 [3] (ff (af 7)) (aA 0) cA (g2 aY (af 1) (af 0))) aG)) aG)) aQ)))))
 (aI (bh 8 (cU aQ))
 (aI (bV (c8 (g2 aY (af 0) (gC (.int 2)))) (dg 2 (bz (aA 6) (bz (aA 9) dF))) (eX 8 (bC (az (af 6) (az (gN eU (ao (gN ng (ao (bM 2 [3] (ff (af 9)) (dg 2 (bz (aA 0) (bz (aA 1) dF))) cA (bC (az (g2 aY (af 2) (af 0)) (az (g2 aY (af 2) (af 1)) aQ)))) aG)) aG)) aQ)))))
 (bw (bC (az (g2 aY (af 0) (gC (.int 0))) (az (gN eU (ao (af 5) aG)) (az (gN eU (ao (af 8) aG)) aQ))))))))))))
def fc (as:List S):M R:=fin (pQ (a_ pq as))
noncomputable def wJ:List Str:=["_law_cell","_law_sizes","_law_xs","_law_marks","_law_arrows","_law_many","_law_fill","_law_one","_law_way","_law_bits","_law_other"]
noncomputable def w_:G O:=(aI (bh 2 (gN (aT 2 K72.ji) (ao (af 0) (ao (gC (.int 7)) aG))))
 (aI (bh 3 (nj zH (gN (aT 2 K72.gH) (ao (g2 aY (af 2) (gC (.int 0))) (ao (gC (.int 3)) aG))) uE (pP (g2 aY (cU (az (gC (.int 0)) (az (gC (.int 1)) (az (gC (.int 1)) (az (gC (.int 2)) (az (gC (.int 1)) (az (gC (.int 3)) aQ))))))) (g2 d7 (g2 aY (af 2) (gC (.int 1))) (gC (.int 6)))))))
 (aI (bh 4 (nj zH (gN (aT 2 K72.gH) (ao (g2 aY (cU (az (g2 aY (af 2) (gC (.int 2))) (az (g2 aY (af 2) (gC (.int 0))) aQ))) (g2 iE (g2 d7 (g2 iE (g2 aY (af 2) (gC (.int 1))) (gC (.int 6))) (gC (.int 4))) (gC (.int 3)))) (ao (gC (.int 3)) aG))) uE (pP (g2 aY (cU (az (gC (.int 1)) (az (gC (.int 1)) (az (gC (.int 2)) (az (gC (.int 0)) (az (gC (.int 1)) (az (gC (.int 3)) aQ))))))) (g2 d7 (g2 iE (g2 aY (af 2) (gC (.int 1))) (gC (.int 24))) (gC (.int 6)))))))
 (aI (bh 5 (g2 aY (af 1) (g2 d7 (g2 iE (g2 aY (af 2) (gC (.int 1))) (gC (.int 144))) (gN dY (ao (af 1) aG)))))
 (aI (bh 6 (g2 aY (cU (az (gC (.int 0)) (az (g2 vL (g2 nY (gC (.int 2)) (gC (.int 60))) (gC (.int 1))) (az (g2 aY (af 2) (gC (.int 3))) (az (g2 aY (af 2) (gC (.int 3))) (az (g2 aY (af 2) (gC (.int 3))) (az (g2 aY (af 2) (gC (.int 3))) aQ))))))) (g2 d7 (g2 iE (g2 aY (af 2) (gC (.int 1))) (gC (.int 10000))) (gC (.int 6)))))
 (aI (d8 4 (d8 3 (bh 7 (gN (aT 4 K72.dS) (ao (af 5) (ao (af 3) (ao (af 4) (ao (af 6) aG))))))))
 (aI (bh 8 (g2 d7 (g2 aY (af 2) (gC (.int 4))) (gC (.int 5))))
 (aI (bL (bB (g2 (cL false) (af 8) (gC (.int 0)))) (bw (bC (az (af 7) (az (gN (aT 2 K72.fc) (ao (af 7) (ao (g2 aY (af 2) (gC (.int 5))) aG))) aQ)))) c5)
 (aI (bL (bB (g2 (cL false) (af 8) (gC (.int 1)))) (aI (bh 9 (gN Cz (ao (gC (.int 1)) (ao (g2 iu (g2 iM (af 5) (gN dY (ao (af 3) aG))) (g2 iM (g2 iM (af 5) (af 5)) (gN dY (ao (af 4) aG)))) aG))))
 (aI (bh 10 (gN (aT 4 K72.dS) (ao (af 5) (ao (af 3) (ao (af 4) (ao (gN (aT 2 K72.gx) (ao (af 6) (ao (g2 d7 (g2 iE (g2 aY (af 2) (gC (.int 4))) (gC (.int 5))) (af 9)) aG))) aG))))))
 (bw (bC (az (af 7) (az (gN (aT 2 K72.fc) (ao (af 10) (ao (g2 aY (af 2) (gC (.int 5))) aG))) aQ)))))) c5)
 (aI (bh 5 (g2 aY (af 1) (g2 d7 (g2 aY (af 2) (gC (.int 6))) (gN dY (ao (af 1) aG)))))
 (aI (bL (bB (g2 (cL false) (af 8) (gC (.int 2)))) (bw (bC (az (af 7) (az (gN (aT 4 K72.dS) (ao (af 5) (ao (af 3) (ao (af 4) (ao (af 6) aG))))) aQ)))) c5)
 (bw (bC (az (af 7) (az (gN (aT 4 K72.dS) (ao (af 5) (ao (af 3) (ao (af 4) (ao (g2 aY (af 2) (gC (.int 5))) aG))))) aQ)))))))))))))))
def gX (as:List S):M R:=fin (w_ (a_ wJ as))
def yR:List Str:=["_law_some","_law_name","_law_thing","_law_other","_law_things"]
noncomputable def zM:G O:=(aI (bV (c8 (af 0)) (dg 2 (bz (aA 3) (bz (aA 4) dF))) (bL (bB (g2 (cL false) (af 3) (af 1))) (bw (g2 (j4 false) (af 2) (af 4))) c5))
 (bw (gC (.bl false))))
def k8 (as:List S):M R:=fin (zM (a_ yR as))
def wI:List Str:=["_law_one","_law_other","_law_pairs","_law_a","_law_b","_law_name","_law_points","_law_c","_law_d","_law_arrows"]
noncomputable def w5:G O:=(aI (bV (c8 (af 2)) (dg 2 (bz (aA 3) (bz (aA 4) dF))) (aI (bV (c8 (g2 aY (af 0) (gC (.int 1)))) (dg 2 (bz (aA 5) (bz (aA 6) dF))) (bL (bB (g2 (cL true) (g2 (j4 false) (af 3) (af 6)) (gN (aT 3 K72.k8) (ao (g2 aY (af 1) (gC (.int 1))) (ao (af 5) (ao (af 4) aG)))))) (bw (gC (.bl false))) c5))
 (bV (c8 (af 2)) (dg 2 (bz (aA 7) (bz (aA 8) dF))) (aI (bL (bB (g2 (cL true) (g2 (cL false) (af 3) (af 7)) (g2 (cL false) (af 4) (af 8)))) (bw (gC (.bl false))) c5)
 (bV (c8 (g2 aY (af 0) (gC (.int 2)))) (dg 2 (bz (aA 5) (bz (aA 9) dF))) (bL (bB (g2 (cL true) (g2 (j4 false) (bC (az (af 3) (az (af 7) aQ))) (af 9)) (gN (aT 3 K72.k8) (ao (g2 aY (af 1) (gC (.int 2))) (ao (af 5) (ao (bC (az (af 4) (az (af 8) aQ))) aG)))))) (bw (gC (.bl false))) c5))))))
 (bw (gC (.bl true))))
def i8 (as:List S):M R:=fin (w5 (a_ wI as))
def t_:List Str:=["_law_pairs","_law_pair"]
def uI:G O:=(bw (gN eU (ao (gN lE (ao (g2 cH (gN yw (ao (af 0) aG)) (cU (az (af 1) aQ))) aG)) aG)))
def jj (as:List S):M R:=fin (uI (a_ t_ as))
noncomputable def mU:List Str:=["_law_one","_law_other","_law_most_pairs","_law_found","_law_last","_law_size","_law_more_here","_law_pairs","_law_a","_law_b"]
noncomputable def nq:G O:=(aI (bh 3 (cU (az (bC aQ) aQ)))
 (aI (d8 6 (bh 4 (cU (az (bC aQ) aQ))))
 (aI (bV (bQ (ao (af 2) aG)) (aA 5) (aI (bh 6 (cU aQ))
 (aI (d8 4 (bV (c8 (af 4)) (aA 7) (bV (bQ (ao (g2 aY (af 0) (gC (.int 0))) aG)) (aA 8) (bV (bQ (ao (g2 aY (af 1) (gC (.int 0))) aG)) (aA 9) (bL (jt (iN (bB (g2 (cL false) (af 7) (bC aQ))) (bB (g2 sU (g2 aY (af 7) (sY (gC (.int 1)))) (bC (az (af 8) (az (af 9) aQ)))))) (bB (gN (aT 3 K72.i8) (ao (af 0) (ao (af 1) (ao (g2 cH (af 7) (bC (az (bC (az (af 8) (az (af 9) aQ))) aQ))) aG)))))) (eX 6 (g2 cH (af 7) (bC (az (bC (az (af 8) (az (af 9) aQ))) aQ)))) c5)))))
 (aI (d8 6 (bh 4 (af 6)))
 (vN 3 (af 6))))))
 (bw (af 3)))))
def ic (as:List S):M R:=fin (nq (a_ mU as))
end K72
namespace K72
open PySem DL K01 WP K51 K52 K55
open K23 (eZ fC bx)
theorem yN (ns:List Int) (k:Nat):gw [.bor (ns.map D.int),.d (.int k)]=.ok (.d (.int (ns.getD k 0))):=by
 refine b9 (bY (jv (c:=decide ((k:Int) < ((ns.map D.int).length:Nat))) rfl (λh=>?_) λh=>?_))
 ·have h:k < ns.length:=by simpa using h
  have e:(ns.map D.int)[k]?=some (.int ns[k]):=by rw [UK,Uk h];rfl
  exact bG (two rfl rfl (uz e)) rfl (by simp [Zz,h])
 ·have h:ns.length<=k:=by simpa using h
  exact fZ (bG rfl rfl (by simp [Zz,h]))
theorem qy (i j:Int) (h1:0 < j) (h2:j < 2 ^ 200):l7 (.d (.int i)) (.d (.int j))=.ok (.d (.int (i / j))):=yv (by
 unfold CN;rw [Ub];exact ⟨decide_eq_true h1,cW.mpr ⟨by omega,h2⟩⟩)
theorem Lw (c:Int):∃xs:List Int,ji [.d (.int c),.d (.int 7)]=.ok (.l .fresh (xs.map .int))/\xs.length=7/\∀x∈xs,0<=x:=by
 have key:Wp (ji [.d (.int c),.d (.int 7)]) λr=>∃xs:List Int,r=.l .fresh (xs.map .int)/\xs.length=7/\∀x∈xs,0<=x:=by
  obtain ⟨n,hn,hn0⟩:∃n:Int,Cw [.d (.int (c / 2))]=.ok (.d (.int n))/\0<=n:=⟨if c / 2 < 0 then -(c / 2) else c / 2,rfl,by split <;> omega⟩;have app:∀{xs:List Int}{y:Int},(∀x∈xs,0<=x)->0<=y->∀x∈xs++[y],0<=x:=λh hy x hx=>by
   rcases UI.mp hx with q | q
   ·exact h x q
   ·rw [Ul.mp q];exact hy
  refine oF (bD rfl rfl (bD (n1 (two rfl rfl (iW c 2 (by decide) (by decide))) hn) rfl (bY (jv (c:=bq (.int (c % 2)) (.int 1)) (bx (two rfl rfl (dW c 2 (by decide))) rfl rfl) (λ_=>?_) λ_=>fZ ?_))))
  ·refine cY (jB (n:=7) rfl (by decide)) ?_;refine gW (n:=7) (λk env=>∃(xs:List Int) (n:Int) (x:Option S),env=[some (.d (.int c)),some (.d (.int 7)),some (.own (xs.map .int)),some (.d (.int n)),x]/\xs.length=k/\0<=n/\∀x∈xs,0<=x) ⟨[],n,none,rfl,rfl,hn0,λ_ h=>nomatch h⟩ ?_ ?_
   ·rintro k hk _ ⟨xs,n,x,rfl,hl,h0,hx⟩;refine ⟨_,rfl,OG rfl (two rfl rfl (dW n (10 ^ 20) (by decide))) rfl (by rw [T8];omega) (eY (two rfl rfl (qy n (10 ^ 20) (by decide) (by decide))) rfl ⟨_,rfl,xs++[n % 10 ^ 20],n / 10 ^ 20,_,by rw [Us];rfl,by simp [hl],aaT h0 (by decide),app hx (Yx _ (by decide))⟩)⟩
   ·rintro _ ⟨xs,n,x,rfl,hl,h0,hx⟩;exact bG rfl rfl ⟨_,rfl,xs,rfl,hl,hx⟩
  ·refine bD (two (two rfl rfl (dW n (10 ^ 50) (by decide))) rfl (lP _ _)) rfl (cY (jB (n:=7) rfl (by decide)) ?_);have hm:=Yx n (b:=10 ^ 50) (by decide);refine gW (n:=7) (λk env=>∃(xs:List Int) (n:Int) (x:Option S),env=[some (.d (.int c)),some (.d (.int 7)),some (.own (xs.map .int)),some (.d (.int n)),x]/\xs.length=k/\0<=n/\∀x∈xs,0<=x) ⟨[],n % 10 ^ 50 + 1234577,none,rfl,rfl,by omega,λ_ h=>nomatch h⟩ ?_ ?_
   ·rintro k hk _ ⟨xs,n,x,rfl,hl,h0,hx⟩;obtain ⟨n',hn'⟩:∃n',n'=(n * 30013 + n / 10 ^ 30 + 77 * k) % (10 ^ 50 + 151):=⟨_,rfl⟩;have p1:0<=n':=hn'▸Yx _ (by decide);have p2:n' < 10 ^ 50 + 151:=hn'▸Yt _ (by decide);have p3:0<=n' / 10 ^ 40:=aaT p1 (by decide);have p4:n' / 10 ^ 40 < 10 ^ 11:=Int.ediv_lt_of_lt_mul (by decide) (Int.lt_trans p2 (by decide));refine ⟨_,rfl,bD (r:=.d (.int n')) ((two (two (two (two rfl rfl (jd n 30013 (by decide) (by decide))) (two rfl rfl (qy n (10 ^ 30) (by decide) (by decide))) (lP _ _)) (two rfl rfl (jd 77 k (by omega) (by omega))) (lP _ _)) (two rfl rfl (lP (10 ^ 50) 151)) (dW _ _ (by decide))).trans (by rw [hn'])) rfl ?_⟩;refine kJ rfl (two (two rfl (two (two rfl rfl (qy n' (10 ^ 40) (by decide) (by decide))) rfl (lP _ 3)) (jd _ _ (by omega) (by omega))) rfl (qy _ (10 ^ 9) (by decide) (by decide))) rfl (by rw [T8];omega) ⟨_,rfl,xs++[n' * (n' / 10 ^ 40 + 3) / 10 ^ 9],n',_,by rw [Us];rfl,by simp [hl],p1,app hx (aaT (Int.mul_nonneg p1 (by omega)) (by decide))⟩
   ·rintro _ ⟨xs,n,x,rfl,hl,h0,hx⟩;exact bG rfl rfl ⟨_,rfl,xs,rfl,hl,hx⟩
 obtain ⟨_,h,xs,rfl,hl⟩:=key;exact ⟨xs,h,hl⟩
theorem Jj (z:Str) (j:Nat) (h:j<=z.length):(Wk z none (some (j:Int))).cps.toList=z.cps.toList.take j:=by rw [dH] at h;rw [show Wk z none (some (j:Int))=_ from acY (x:=z) (j:=j) ⟨by omega,by omega⟩];simp
theorem Le (z:Str) (i:Nat) (h:i<=z.length):(Wk z (some (i:Int)) none).cps.toList=z.cps.toList.drop i:=by rw [dH] at h;rw [show Wk z (some (i:Int)) none=_ from acv (x:=z) (i:=i) ⟨by omega,by omega⟩];rw [show ((z.cps.toList.length:Int) - (i:Int)).toNat=(z.cps.toList.drop i).length by rw [Wn];omega];show ((z.cps.toList.drop i).take (z.cps.toList.drop i).length).toArray.toList=_;rw [VQ]
def Js:List D:=[.str "and",.str "or",.str "not",.str "some",.str "every",.str "least",.str "true",.str "false"]
def j5 (s:Str) (b:Bool):Str:=if inD (.str s) Js=true then (if b=true then ("q":Str)++Wk s (some 1) none else s++"q") else s
theorem qz (x y:Str) (h:x.length + y.length<=1000):cH (.d (.str x)) (.d (.str y))=.ok (.d (.str (x++y))):=OV x y h
theorem vd (s:Str) (l u:Option Int) (h:s.length<=900):nZ (.d (.str s)) l u=.ok (.d (.str (Wk s l u)))/\(Wk s l u).length<=s.length:=by refine ⟨?_,ZM s l u⟩;show (if s.length<=sizeLine then _ else _)=_;rw [if_pos (fj (by omega))]
theorem A1 (s:Str) (b:Bool) (h:s.length<=900):iI [.d (.str s),.d (.bl b)]=.ok (.d (.str (j5 s b))):=by
 obtain ⟨h1,h2⟩:=vd s (some 1) none h;refine b9 (bY (jv (c:=inD (.str s) Js) ?_ (λe=>?_) λe=>fZ (bG rfl rfl ?_)))
 ·refine bx rfl rfl ?_;show (if deps Js<=60/\dep (.str s)<=60 then M.ok (R.d (.bl (inD (.str s) Js))) else .bad)=_;rw [if_pos ⟨by decide,by show (0:Nat)<=60;decide⟩]
 ·cases b with
  | true=>
   refine bY (uR rfl (bG (two rfl (show nj nZ (af 0) (pP (gC (.int 1))) uE _=_ from h1) (qz _ _ (by show 1 + _<=1000;omega))) rfl ?_));unfold j5;rw [if_pos e];rfl
  | false=>
   refine f7 rfl (bG (two rfl rfl (qz _ _ (by show _ + 1<=1000;omega))) rfl ?_);unfold j5;rw [if_pos e];rfl
 ·unfold j5;rw [if_neg (by rw [e];decide)]
theorem EX {α β:Type}{f:α->β}:∀{xs:List α},(∀a∈xs,∀b∈xs,f a=f b->a=b)->xs.Nodup->(xs.map f).Nodup:=λh nd=>K23.MT nd h
theorem IL (s:Str) (h1:1<=s.length):(j5 s true).length=s.length:=by
 unfold j5;split
 ·have h2:=dH s;have h3:("q":Str).cps.toList.length=1:=rfl;rw [if_pos rfl,dH,kT,Uo,show (1:Int)=((1:Nat):Int) from rfl,Le s 1 h1,Wn];omega
 ·rfl
theorem qX (i j:Int):cH (.d (.int i)) (.d (.int j))=.ok (.d (.int (i + j))):=rfl
theorem qW {env:Ev}{f:R->Option Int->Option Int->M R}{g:G R}{lo hi:GO}{x z:R}{l u:Option Int}(h:g env=.ok x) (h2:lo env=.ok l) (h3:hi env=.ok u) (hf:f x l u=.ok z):nj f g lo hi env=.ok z:=by unfold nj;rw [h,aN,h2,aN,h3];exact hf
theorem qS {env:Ev}{g:G R}{i:Int}(h:g env=.ok (.d (.int i))):pP g env=.ok (some i):=by unfold pP;rw [h];rfl
theorem len_str (s:Str) (h:s.length<=1000):dY [.d (.str s)]=.ok (.d (.int (s.length:Nat))):=by show (if s.length<=sizeLine then _ else _)=_;rw [if_pos (fj h)]
theorem IK (s:Str):(j5 s false).cps.toList=s.cps.toList\/(j5 s false).cps.toList=s.cps.toList++[113]:=by
 unfold j5;split
 ·rw [if_neg (by decide),kT];exact .inr rfl
 ·exact .inl rfl
theorem A2 (c:Int) (hc:0<=c):∃ss:List Str,gH [.d (.int c),.d (.int 3)]=.ok (.l .fresh (ss.map .str))/\ss.length=3/\ss.Nodup:=by
 have fin3:∀(f:Nat->Str),(∀a,a < 3->∀b,b < 3->f a=f b->a=b)->(mE ((Ue 3).map f)).length=3/\(mE ((Ue 3).map f)).Nodup:=λf h=>
  ⟨by rw [(oA _).length_eq];simp,(oA _).symm.nodup (EX (λa ha b hb=>h a (UQ.mp ha) b (UQ.mp hb)) Xq)⟩
 have key:Wp (gH [.d (.int c),.d (.int 3)]) λr=>∃ss:List Str,r=.l .fresh (ss.map .str)/\ss.length=3/\ss.Nodup:=by
  refine oF (bD rfl rfl (bD rfl rfl (cY (jB (n:=7) rfl (by decide)) ?_)));refine gW (n:=7) (λk env=>∃(n:Int) (st:Str) (x:Option S),env=[some (.d (.int n)),some (.d (.int 3)),some (.d (.str "abcdefghijklmnopqrstuvwxyz")),some (.d (.str st)),x,none,none,none]/\0<=n/\st.length=k) ⟨c,"",none,rfl,hc,rfl⟩ ?_ ?_
  ·rintro k hk _ ⟨n,st,x,rfl,hn,hl⟩;refine ⟨_,rfl,bD (two rfl (two rfl (two rfl rfl (dW n 26 (by decide))) (EN _ (by omega) (by omega))) (qz st _ (by show st.length + 1<=1000;omega))) rfl (eY (two rfl rfl (iW n 26 (by decide) (by decide))) rfl ⟨_,rfl,n / 26,_,_,rfl,by omega,?_⟩)⟩;rw [dH,kT,Uo,<-dH,hl];rfl
  ·rintro _ ⟨n,st,x,rfl,hn,hl⟩;refine bY (jv (c:=bq (.int (n % 2)) (.int 0)) (bx (two rfl rfl (dW n 2 (by decide))) rfl rfl) (λ_=>?_) λ_=>fZ ?_)
   ·have hs:∀k,k < 3->(Wk st none (some ((2 + k:Nat):Int))).length=2 + k:=λk hk=>by rw [dH,Jj _ _ (by omega),Vf,<-dH];omega
    obtain ⟨h1,h2⟩:=fin3 (λk=>j5 (Wk st none (some ((2 + k:Nat):Int))) true) λa ha b hb e=>by have:=congrArg abM e;rw [IL _ (by rw [hs a ha];omega),IL _ (by rw [hs b hb];omega),hs a ha,hs b hb] at this;omega
    refine bG (n1 (z:=.l .fresh ((mE ((Ue 3).map λk=>j5 (Wk st none (some ((2 + k:Nat):Int))) true)).map .str)) (jJ (xs:=Ue 3) (h:=dN) (λk=>.str (j5 (Wk st none (some ((2 + k:Nat):Int))) true)) (jC (n:=3) rfl (by decide)) (by decide) λk hk=>?_) ?_) rfl ⟨_,rfl,_,rfl,h1,h2⟩
    ·obtain ⟨a,b⟩:=vd st none (some ((2 + k:Nat):Int)) (by omega);exact ⟨_,c2 (qW rfl rfl (qS ((two rfl rfl (qX 2 k)).trans (by rw [show (2:Int) + (k:Int)=((2 + k:Nat):Int) by omega]))) a) rfl (A1 _ true (by omega)),rfl⟩
    ·have:=sorted_strs .fresh ((Ue 3).map λk=>j5 (Wk st none (some ((2 + k:Nat):Int))) true) (by simp);rw [UM] at this;exact this
   ·obtain ⟨q,hq,TL⟩:=K33.nv (n / 2) 6 (by decide);have hq:n / 2 % 6=(q:Int):=hq;obtain ⟨a,b⟩:=vd st none (some ((2 + q:Nat):Int)) (by omega);obtain ⟨s2,hs2⟩:∃s2,s2=Wk st none (some ((2 + q:Nat):Int)):=⟨_,rfl⟩;have l2:s2.length=2 + q:=by rw [hs2,dH,Jj _ _ (by omega),Vf,<-dH];omega
    obtain ⟨at_,hat,R_⟩:=K33.nv (n / 12) s2.length (by omega);obtain ⟨ch,hch⟩:∃ch,s2.cps.toList[at_]?=some ch:=⟨_,Uk (by rw [<-dH];exact R_)⟩;have hix:=Bp (z:=s2) (k:=at_) (by omega) hch;obtain ⟨A,hA⟩:∃A,A=Wk s2 none (some (at_:Int)):=⟨_,rfl⟩;obtain ⟨B,hB⟩:∃B,B=Wk s2 (some ((at_ + 1:Nat):Int)) none:=⟨_,rfl⟩;obtain ⟨eA,lA⟩:=vd s2 none (some (at_:Int)) (by omega);obtain ⟨eB,lB⟩:=vd s2 (some ((at_ + 1:Nat):Int)) none (by omega);rw [<-hA] at eA lA;rw [<-hB] at eB lB;obtain ⟨F,hF⟩:∃F:Int,F=Txt.find "abcdefghijklmnopqrstuvwxyz" ⟨#[ch]⟩:=⟨_,rfl⟩;obtain ⟨sg,hsg⟩:∃sg:Nat->Nat,∀k:Nat,sg k=97 + ((F + 5 * (k:Int)) % 26).toNat:=⟨_,λ_=>rfl⟩;obtain ⟨nm,hnm⟩:∃nm:Nat->Str,∀k:Nat,nm k=A++⟨#[sg k]⟩++B:=⟨_,λ_=>rfl⟩;have cn:∀k,(nm k).cps.toList=A.cps.toList++sg k::B.cps.toList:=λk=>by rw [hnm,kT,kT,WD];rfl
    have lnm:∀k,(nm k).length<=30:=λk=>by rw [dH,cn,Uo,U4,<-dH,<-dH];omega
    obtain ⟨h1,h2⟩:=fin3 (λk=>j5 (nm k) false) λi hi j hj e=>by
     have e:=congrArg (λs:Str=>s.cps.toList) e;have e:(j5 (nm i) false).cps.toList=(j5 (nm j) false).cps.toList:=e;have ln:∀k,(nm k).cps.toList.length=A.cps.toList.length + (B.cps.toList.length + 1):=λk=>by rw [cn,Uo,U4]
     have li:=ln i;have lj:=ln j;have:(nm i).cps.toList=(nm j).cps.toList:=by
      rcases IK (nm i) with p | p <;> rcases IK (nm j) with q | q <;> rw [p,q] at e
      ·exact e
      ·have:=congrArg VT e;simp only [Uo,YZ] at this;omega
      ·have:=congrArg VT e;simp only [Uo,YZ] at this;omega
      ·exact List.append_cancel_right e
     rw [cn,cn] at this;have:=List.append_cancel_left this;have:=(adL this).1;rw [hsg,hsg] at this;omega
    rw [<-hs2] at a;refine bD (qW rfl rfl (qS ((two rfl (two (two rfl rfl (iW n 2 (by decide) (by decide))) rfl (dW _ 6 (by decide))) (qX 2 _)).trans (by rw [hq,show (2:Int) + (q:Int)=((2 + q:Nat):Int) by omega]))) a) rfl ?_;refine bD (r:=.d (.int (at_:Int))) ((two (two rfl rfl (iW n 12 (by decide) (by decide))) (n1 rfl (len_str s2 (by omega))) (dW _ _ (by omega))).trans (by rw [hat])) rfl ?_;refine bD rfl rfl (cY (jB (n:=3) rfl (by decide)) ?_);refine gW (n:=3) (λk env=>∃(x y:Option S),env=[some (.d (.int n)),some (.d (.int 3)),some (.d (.str "abcdefghijklmnopqrstuvwxyz")),some (.d (.str s2)),x,some (.d (.int (at_:Int))),some (.own (((Ue k).map λk=>j5 (nm k) false).map .str)),y]) ⟨_,_,rfl⟩ ?_ ?_
    ·rintro k hk _ ⟨x,y,rfl⟩;have SI:=EN ((F + 5 * (k:Int)) % 26) (by omega) (by omega);rw [<-hsg] at SI;refine ⟨_,rfl,bD (two rfl (two (two (show CC (af 2) (g2 aY (af 3) (af 5)) _=.ok (.d (.int F)) from ?_) (two rfl rfl (jd 5 k (by omega) (by omega))) (qX F _)) rfl (dW _ 26 (by decide))) SI) rfl ?_⟩
     ·show (g2 aY (af 3) (af 5) _ >>= _)=_;rw [two (x:=.d (.str s2)) (y:=.d (.int (at_:Int))) rfl rfl hix,aN,hF]
     ·have e1:=qz A ⟨#[sg k]⟩ (by show A.length + 1<=1000;omega);have e2:=qz (A++⟨#[sg k]⟩) B (by
       rw [dH,kT,Uo,<-dH];show A.length + 1 + B.length<=1000;omega)
      have e3:=A1 (nm k) false (by have:=lnm k;omega);rw [<-hnm] at e2;refine kJ rfl (c2 (two (two (qW rfl rfl (qS rfl) eA) rfl e1) (qW rfl (qS (i:=((at_ + 1:Nat):Int)) ((two rfl rfl (qX _ 1)).trans (by rw [show ((at_:Int) + 1)=((at_ + 1:Nat):Int) by omega]))) rfl eB) e2) rfl e3) rfl (by simp;omega) ⟨_,rfl,some (.d (.int k)),some (.d (.str ⟨#[sg k]⟩)),?_⟩;rw [WL,Us,Us];rfl
    ·rintro _ ⟨x,y,rfl⟩;exact bG (n1 rfl (sorted_strs _ _ (by simp))) rfl ⟨_,rfl,_,rfl,h1,h2⟩
 obtain ⟨_,h,ss,rfl,hl⟩:=key;exact ⟨ss,h,hl⟩
abbrev eW (m:Nat) (A B:List Str) (n:Int) (r:List (Option S)):Ev:=some (.d (.int m))::some (.d (.lst (A.map .str)))::some (.d (.lst (B.map .str)))::some (.d (.int n))::r
theorem D5 {env:Ev}{n:Int}(h:af 3 env=.ok (.d (.int n))):bB (g2 (cL false) (g2 d7 (af 3) (gC (.int 2))) (gC (.int 1))) env=.ok (bq (.int (n % 2)) (.int 1)):=bx (two h rfl (dW n 2 (by decide))) rfl rfl
theorem half {env:Ev}{n:Int}(h:af 3 env=.ok (.d (.int n))):g2 iE (af 3) (gC (.int 2)) env=.ok (.d (.int (n / 2))):=two h rfl (iW n 2 (by decide) (by decide))
theorem A4 (m:Nat) (hm:m<=4) (A B:List Str) (hA:A.length<=3) (hB:B.length<=3) (n:Int):
  ∃ms rs,dS [.d (.int m),.d (.lst (A.map .str)),.d (.lst (B.map .str)),.d (.int n)]=.ok (.d (Wd.d ⟨m,ms,rs⟩))/\ms.map Va=A/\rs.map Va=B/\DN 16 ⟨m,ms,rs⟩:=by
 have RV:m * m<=16:=W0 hm hm;have key:Wp (dS [.d (.int m),.d (.lst (A.map .str)),.d (.lst (B.map .str)),.d (.int n)]) λr=>∃ms rs,r=.d (Wd.d ⟨m,ms,rs⟩)/\ms.map Va=A/\rs.map Va=B/\DN 16 ⟨m,ms,rs⟩:=by
  refine oF (bD rfl rfl (cY (ds:=A.map .str) rfl ?_));refine f_ (λk env=>∃(n:Int) (ms:List (Str×List Nat)) (x y z:Option S),env=eW m A B n [some (.own (ms.map i7)),x,y,z,none,none,none,none]/\ms.map Va=A.take k/\∀r∈ms,r.2.length<=16/\∀p∈r.2,p < m) _ ⟨n,[],none,none,none,rfl,rfl,λ_ h=>nomatch h⟩ ?_ ?_
  ·rintro k hk _ ⟨n,ms,x,y,z,rfl,hf,hp⟩;rw [T8] at hk;have lm:ms.length<=3:=by have:=congrArg VT hf;rw [T8,Vf] at this;omega
   rw [U5];refine ⟨_,rfl,bD rfl rfl (cY (jB (n:=m) rfl (by omega)) ?_)⟩;refine gW (n:=m) (λj env=>∃(n:Int) (xs:List Nat) (z:Option S),env=eW m A B n [some (.own (ms.map i7)),some (.d (.str A[k])),some (.own (xs.map dN)),z,none,none,none,none]/\xs.length<=j/\∀x∈xs,x < m) ⟨n,[],z,rfl,Ud _,λ_ h=>nomatch h⟩ ?_ ?_
   ·rintro j hj _ ⟨n,xs,z,rfl,hl,hx⟩;refine ⟨_,rfl,bY (jv (D5 (n:=n) rfl) (λ_=>kJ rfl rfl rfl (by simp;omega) ?_) λ_=>fZ ?_)⟩
    ·refine eY (half (n:=n) rfl) rfl ⟨_,rfl,n / 2,xs++[j],some (.d (.int j)),by rw [Us];rfl,by simp;omega,λx hx'=>?_⟩;rcases UI.mp hx' with h | h
     ·exact hx x h
     ·rw [Ul.mp h];exact hj
    ·exact eY (half (n:=n) rfl) rfl ⟨_,rfl,n / 2,xs,some (.d (.int j)),rfl,by omega,hx⟩
   ·rintro _ ⟨n,xs,z,rfl,hl,hx⟩;refine kJ rfl (bF (aH rfl rfl (aH (n1 rfl rfl) rfl bf)) t2) rfl (by simp;omega) ⟨_,rfl,n,ms++[(A[k],xs)],_,_,_,by rw [Us];rfl,?_,λr hr=>?_⟩
    ·rw [Us,hf,WA,Uk hk];rfl
    ·rcases UI.mp hr with h | h
     ·exact hp r h
     ·rw [Ul.mp h];exact ⟨by show xs.length<=16;omega,hx⟩
  rintro _ ⟨n,ms,x,y,z,rfl,hf,hp⟩;rw [T8,VQ] at hf;refine bD rfl rfl (cY (ds:=B.map .str) rfl ?_);refine f_ (λk env=>∃(n:Int) (rs:List (Str×List (Nat×Nat))) (x a b c:Option S),env=eW m A B n [some (.own (ms.map i7)),x,y,z,some (.own (rs.map ku)),a,b,c]/\rs.map Va=B.take k/\∀r∈rs,r.2.length<=16/\∀p∈r.2,p.1 < m/\p.2 < m) _ ⟨n,[],x,none,none,none,rfl,rfl,λ_ h=>nomatch h⟩ ?_ ?_
  ·rintro k hk _ ⟨n,rs,x,a,b,c,rfl,hf,hp⟩;rw [T8] at hk;have lm:rs.length<=3:=by have:=congrArg VT hf;rw [T8,Vf] at this;omega
   rw [U5];refine ⟨_,rfl,bD rfl rfl (cY (jB (n:=m) rfl (by omega)) ?_)⟩;refine gW (n:=m) (λi env=>∃(n:Int) (ps:List (Nat×Nat)) (b c:Option S),env=eW m A B n [some (.own (ms.map i7)),some (.d (.str B[k])),y,z,some (.own (rs.map ku)),some (.own (ps.map dP)),b,c]/\ps.length<=i * m/\∀p∈ps,p.1 < m/\p.2 < m) ⟨n,[],b,c,rfl,by simp,λ_ h=>nomatch h⟩ ?_ ?_
   ·rintro i hi _ ⟨n,ps,b,c,rfl,hl,hx⟩;have TH:i * m + m<=m * m:=by rw [<-ab6];exact V1 m hi
    refine ⟨_,rfl,jZ (jB (n:=m) rfl (by omega)) ?_⟩;refine gW (n:=m) (λj env=>∃(n:Int) (ps:List (Nat×Nat)) (c:Option S),env=eW m A B n [some (.own (ms.map i7)),some (.d (.str B[k])),y,z,some (.own (rs.map ku)),some (.own (ps.map dP)),some (.d (.int i)),c]/\ps.length<=i * m + j/\∀p∈ps,p.1 < m/\p.2 < m) ⟨n,ps,c,rfl,hl,hx⟩ ?_ ?_
    ·rintro j hj _ ⟨n,ps,c,rfl,hl,hx⟩;refine ⟨_,rfl,bY (jv (D5 (n:=n) rfl) (λ_=>kJ rfl (bF (aH rfl rfl (aH rfl rfl bf)) t2) rfl (by simp;omega) ?_) λ_=>fZ ?_)⟩
     ·refine eY (half (n:=n) rfl) rfl ⟨_,rfl,n / 2,ps++[(i,j)],some (.d (.int j)),by rw [Us];rfl,by simp;omega,λx hx'=>?_⟩;rcases UI.mp hx' with h | h
      ·exact hx x h
      ·rw [Ul.mp h];exact ⟨hi,hj⟩
     ·exact eY (half (n:=n) rfl) rfl ⟨_,rfl,n / 2,ps,some (.d (.int j)),rfl,by omega,hx⟩
    ·rintro _ ⟨n,ps,c,rfl,hl,hx⟩;exact ⟨_,rfl,n,ps,_,c,rfl,by rw [ab6];exact hl,hx⟩
   ·rintro _ ⟨n,ps,b,c,rfl,hl,hx⟩;refine kJ rfl (bF (aH rfl rfl (aH (n1 rfl rfl) rfl bf)) t2) rfl (by simp;omega) ⟨_,rfl,n,rs++[(B[k],ps)],_,_,_,_,by rw [Us];rfl,?_,λr hr=>?_⟩
    ·rw [Us,hf,WA,Uk hk];rfl
    ·rcases UI.mp hr with h | h
     ·exact hp r h
     ·rw [Ul.mp h];exact ⟨by show ps.length<=16;omega,hx⟩
  rintro _ ⟨n,rs,x,a,b,c,rfl,hf2,hp2⟩;rw [T8,VQ] at hf2;exact bG (bF (aH rfl rfl (aH (n1 rfl rfl) rfl (aH (n1 rfl rfl) rfl bf))) (by show 3<=1000;decide)) rfl ⟨_,rfl,ms,rs,rfl,hf,hf2,⟨hp,hp2⟩⟩
 obtain ⟨_,h,ms,rs,rfl,hk⟩:=key;exact ⟨ms,rs,h,hk⟩
theorem Ls (n:Int) (k:Nat) (hk:k<=60):∃n',gx [.d (.int n),.d (.int k)]=.ok (.d (.int n')):=by
 have key:Wp (gx [.d (.int n),.d (.int k)]) λr=>∃n':Int,r=.d (.int n'):=by
  refine oF (bD rfl rfl (cY (jB (n:=k) rfl (by omega)) ?_));refine gW (n:=k) (λj env=>∃x:Option S,env=[some (.d (.int n)),some (.d (.int k)),some (.d (.int (2 ^ j))),x]) ⟨none,rfl⟩ ?_ ?_
  ·rintro j hj _ ⟨x,rfl⟩;exact ⟨_,rfl,eY (two rfl rfl (jd _ 2 (by decide) (by decide))) rfl ⟨_,rfl,some (.d (.int j)),by rw [Int.pow_succ];rfl⟩⟩
  ·rintro _ ⟨x,rfl⟩;have p0:(0:Int) < 2 ^ k:=Int.pow_pos (by decide);have p1:(2:Int) ^ k < 2 ^ 200:=by have:(2:Nat) ^ k < 2 ^ 200:=Nat.pow_lt_pow_right (by decide) (by omega);exact_mod_cast this
   exact bY (jv (c:=bq (.int (n / 2 ^ k % 2)) (.int 1)) (bx (two (two rfl rfl (qy n _ p0 p1)) rfl (dW _ 2 (by decide))) rfl rfl) (λ_=>bG (two rfl rfl (yK _ _)) rfl ⟨_,rfl,_,rfl⟩) λ_=>fZ (bG (two rfl rfl (lP _ _)) rfl ⟨_,rfl,_,rfl⟩))
 obtain ⟨_,h,n',rfl⟩:=key;exact ⟨n',h⟩
theorem GV {ps:List Nat}{p:Nat}(hp:p < ps.length):aY (.l .own (ps.map dN)) (.d (dN p))=.ok (.d (dN (ps.getD p 0))):=
 uz (by rw [UK,Uk hp];simp [Zz,hp])
theorem LA (u:Wd) (hu:A_ u) (hb:DN 16 u) (h4:u.m<=4) (n:Int):∃ps:List Nat,fc [.d u.d,.d (.int n)]=.ok (.d (iB u ps).d):=by
 have ml:=hu.ml;have al:=hu.al;have key:Wp (fc [.d u.d,.d (.int n)]) λr=>∃ps:List Nat,r=.d (iB u ps).d:=by
  refine oF (bD (r:=.l .fresh ((Ue u.m).map dN)) (K81.PR (b_ (two rfl rfl (iQ _ _))) (by omega)) rfl (bD rfl rfl (cY (jB (n:=u.m) (b_ (two rfl rfl (iQ _ _))) (by omega)) ?_)));refine gW (n:=u.m) (λk env=>∃(c:Int) (ls ps:List Nat) (x:Option S),env=[some (.d u.d),some (.d (.int c)),some (.own (ls.map dN)),some (.own (ps.map dN)),x,none,none,none,none,none]/\ls.length + k=u.m/\ps.length=k) ⟨n,Ue u.m,[],none,rfl,by simp,rfl⟩ ?_ ?_
  ·rintro k hk _ ⟨c,ls,ps,x,rfl,l1,l2⟩;have hlen:(0:Int) < ((ls.map dN).length:Nat):=by simp;omega
   obtain ⟨j,hj,hjl⟩:=K33.nv c (ls.map dN).length (by simp;omega);have Sj:j < ls.length:=by simpa using hjl
   refine ⟨_,rfl,bY (G0 (k:=j) rfl rfl (by decide) ((two rfl (n1 rfl rfl) (dW _ _ hlen)).trans (by rw [hj])) hjl (by simp;omega) (by simp;omega) ?_)⟩;refine eY (two rfl rfl (iW _ 5 (by decide) (by decide))) rfl ⟨_,rfl,c / 5,ls.eraseIdx j,ps++[ls[j]],some (.d (.int k)),?_,?_,?_⟩
   ·rw [Us,U5,show (ls.eraseIdx j).map dN=(ls.map dN).eraseIdx j by simp [YQ,Zk,Z9]];rfl
   ·rw [aa4,if_pos Sj];omega
   ·rw [Uo];simp;omega
  rintro _ ⟨c,ls,ps,x,rfl,l1,l2⟩;refine bD rfl rfl (cY (ds:=u.ms.map i7) ?_ ?_)
  ·show (g2 aY (af 0) (gC (.int 1)) _ >>= _)=_;rw [two (x:=.d u.d) rfl rfl (EM _ _ _)];rfl
  refine f_ (λk env=>∃(y z:Option S),env=[some (.d u.d),some (.d (.int c)),some (.own (ls.map dN)),some (.own (ps.map dN)),x,some (.own ((((iB u ps).ms).take k).map i7)),y,z,none,none]) _ ⟨none,none,rfl⟩ ?_ ?_
  ·rintro k hk _ ⟨y,z,rfl⟩;rw [T8] at hk;rw [U5];obtain ⟨h1,h2⟩:=hb.mp u.ms[k] (Vm hk);refine ⟨_,rfl,kJ rfl (bF (aH rfl rfl (aH (n1 (n1 (jJ (xs:=u.ms[k].2) (h:=dN) (λp=>dN (ps.getD p 0)) rfl (by omega) λp hp=>⟨_,two rfl rfl (GV (by rw [l2];exact h2 p hp)),rfl⟩) (x:=.l .fresh (u.ms[k].2.map λp=>dN (ps.getD p 0))) (z:=.l .fresh (bX ((u.ms[k].2.map λp=>ps.getD p 0).map dN))) ?_) rfl) rfl bf)) t2) rfl (by simp;omega) ⟨_,rfl,some (.d (.str u.ms[k].1)),some (.d (.tup (u.ms[k].2.map dN))),?_⟩⟩
   ·have:=P0 (u.ms[k].2.map λp=>ps.getD p 0) (by simp;omega);rw [UM] at this ⊢;exact this
   ·have hk':k < (iB u ps).ms.length:=by unfold iB;simpa using hk
    rw [WA,Uk hk',Us];have e:(iB u ps).ms[k]=(u.ms[k].1,(bX ((u.ms[k].2.map λp=>ps.getD p 0).map dN)).map B6):=by unfold iB;simp
    show _=[_,_,_,_,_,some (S.own (_++[i7 (iB u ps).ms[k]])),_,_,_,_];rw [e];unfold i7;rw [xQ dN B6 O3];rfl
  rintro _ ⟨y,z,rfl⟩;rw [T8,show u.ms.length=(iB u ps).ms.length by unfold iB;simp,VQ];refine bD rfl rfl (cY (ds:=u.ar.map ku) ?_ ?_)
  ·show (g2 aY (af 0) (gC (.int 2)) _ >>= _)=_;rw [two (x:=.d u.d) rfl rfl (MC _ _ _ _)];rfl
  refine f_ (λk env=>∃(y a:Option S),env=[some (.d u.d),some (.d (.int c)),some (.own (ls.map dN)),some (.own (ps.map dN)),x,some (.own ((iB u ps).ms.map i7)),y,z,some (.own ((((iB u ps).ar).take k).map ku)),a]) _ ⟨y,none,rfl⟩ ?_ ?_
  ·rintro k hk _ ⟨y,a,rfl⟩;rw [T8] at hk;rw [U5];obtain ⟨h1,h2⟩:=hb.ap u.ar[k] (Vm hk);refine ⟨_,rfl,kJ rfl (bF (aH rfl rfl (aH (n1 (n1 (qG (xs:=u.ar[k].2) (λp=>dN p.1) (λp=>dN p.2) (λp=>dP (ps.getD p.1 0,ps.getD p.2 0)) rfl (by omega) λp hp=>⟨_,bF (aH (two rfl rfl (GV (by rw [l2];exact (h2 p hp).1))) rfl (aH (two rfl rfl (GV (by rw [l2];exact (h2 p hp).2))) rfl bf)) t2,rfl⟩) (x:=.l .fresh (u.ar[k].2.map λp=>dP (ps.getD p.1 0,ps.getD p.2 0))) (z:=.l .fresh (bX ((u.ar[k].2.map λp=>(ps.getD p.1 0,ps.getD p.2 0)).map dP))) ?_) rfl) rfl bf)) t2) rfl (by simp;omega) ⟨_,rfl,some (.d (.str u.ar[k].1)),some (.d (.tup (u.ar[k].2.map dP))),?_⟩⟩
   ·have:=P1 (u.ar[k].2.map λp=>(ps.getD p.1 0,ps.getD p.2 0)) (by simp;omega);rw [UM] at this ⊢;exact this
   ·have hk':k < (iB u ps).ar.length:=by unfold iB;simpa using hk
    rw [WA,Uk hk',Us];have e:(iB u ps).ar[k]=(u.ar[k].1,(bX ((u.ar[k].2.map λp=>(ps.getD p.1 0,ps.getD p.2 0)).map dP)).map B7):=by unfold iB;simp
    show _=[_,_,_,_,_,_,_,_,some (S.own (_++[ku (iB u ps).ar[k]])),_];rw [e];unfold ku;rw [xQ dP B7 Jr];rfl
  rintro _ ⟨y,a,rfl⟩;rw [T8,show u.ar.length=(iB u ps).ar.length by unfold iB;simp,VQ];exact bG (bF (aH (two rfl rfl (iQ _ _)) rfl (aH (n1 rfl rfl) rfl (aH (n1 rfl rfl) rfl bf))) (by show 3<=1000;decide)) rfl ⟨_,rfl,ps,rfl⟩
 obtain ⟨_,h,ps,rfl⟩:=key;exact ⟨ps,h⟩
end K72
namespace K72
open PySem DL K01 WP K51 K52 K55 K22 K33
open K23 (Pr aE Good eZ fC bx eS dG ia dB)
noncomputable def mb (ch:List (List Nat)):Nat->List Nat->Option (List Nat)
 | 0,ah=>some ah
 | r + 1,ah=>(ch.getD ah.length []).findSome? λp=>if p∈ah then none else mb ch r (ah++[p])
end K72
namespace K72
open PySem DL K01 WP K51 K52 K55 K22 K33
open K23 (Pr aE Good eZ fC bx eS dG ia dB ig)
end K72
namespace K72
open PySem DL K01 WP K51 K52 K55
open K23 (eZ fC bx Pr)
structure Pn (v w:Wd):Prop where
 t:Pr v w
 mn:(v.ms.map Va).Nodup
 an:(v.ar.map Va).Nodup
theorem Qq {f:List R->M R}{env:Ev}{g h:G R}{x y z:R}(hx:g env=.ok x) (hy:h env=.ok y) (hf:f [x,y]=.ok z):gN f (ao g (ao h aG)) env=.ok z:=by show (ao g (ao h aG) env >>= f)=_;unfold ao aG;rw [hx,hy];exact hf
theorem wW (ss:List Str) (a:Nat) (h:a<=ss.length):zH (.l .fresh (ss.map .str)) none (some (a:Int))=.ok (.l .fresh ((ss.take a).map .str)):=by show M.ok (R.l .fresh (cutD (ss.map D.str) none (some (a:Int))))=_;rw [Me _ _ (by simpa using h),Zk]
theorem Il (u:Wd) (ps:List Nat):(iB u ps).ms.map Va=u.ms.map Va/\(iB u ps).ar.map Va=u.ar.map Va:=by unfold iB;simp only [UM];exact ⟨rfl,rfl⟩
theorem yI {m m':Nat}{ms ms':List (Str×List Nat)}{rs rs':List (Str×List (Nat×Nat))}{A B:List Str}(h1:1<=m) (h2:m<=4) (h3:1<=m') (h4:m'<=4) (e1:ms.map Va=A) (e2:rs.map Va=B) (e3:ms'.map Va=A) (e4:rs'.map Va=B) (lA:A.length<=3) (lB:B.length<=3) (nA:A.Nodup) (nB:B.Nodup):Pn ⟨m,ms,rs⟩ ⟨m',ms',rs'⟩:=by have q1:=congrArg VT e1;have q2:=congrArg VT e2;have q3:=congrArg VT e3;have q4:=congrArg VT e4;rw [T8] at q1 q2 q3 q4;exact ⟨⟨⟨h1,by show m<=8;omega,by show ms.length<=3;omega,by show rs.length<=3;omega⟩,⟨h3,by show m'<=8;omega,by show ms'.length<=3;omega,by show rs'.length<=3;omega⟩,h2,h4,e1.trans e3.symm,e2.trans e4.symm⟩,e1.symm▸nA,e2.symm▸nB⟩
theorem DH (c:Int) (sz:List Nat) (hz:1<=sz.length) (hs:∀n∈sz,1<=n/\n<=4) (x:S) (r0:R) (Tr:x.rd=.ok r0) (hr0:iz r0=.ok (sz.map dN)) (Sk:dY [r0]=.ok (.d (.int ((sz.map dN).length:Nat)))):∃v w:Wd,gX [.d (.int c),x]=.ok (.d (.tup [v.d,w.d]))/\Pn v w/\v.m∈sz/\w.m∈sz:=by
 have key:Wp (gX [.d (.int c),x]) λr=>∃v w:Wd,r=.d (.tup [v.d,w.d])/\Pn v w/\v.m∈sz/\w.m∈sz:=by
  obtain ⟨xs,hx,lx,px⟩:=Lw c;obtain ⟨X,hX⟩:∃X:Nat->Int,∀i,X i=xs.getD i 0:=⟨_,λ_=>rfl⟩;have xi:∀(i:Nat),i < 7->∀env:Ev,af 2 env=.ok (.l .own (xs.map .int))->g2 aY (af 2) (gC (.int i)) env=.ok (.d (.int (X i))):=λi hi env he=>two he rfl (uz (by rw [hX,UK,Uk (by omega)];simp [Zz,show i < xs.length by omega]));have xp:∀i,0<=X i:=λi=>by
   rw [hX,VB];cases q:xs[i]? with
   | none=>exact aet _
   | some y=>exact px y (UX q)
  have x0:=xp 0;have x2:=xp 2;refine oF (bD (c2 rfl rfl hx) rfl ?_);obtain ⟨a,ha,Se⟩:=pZ (xs:=[0,1,1,2,1,3]) (h:=dN) (.l .fresh (([0,1,1,2,1,3]:List Nat).map dN)) rfl (X 1 % 6) (by omega) (by show _ < (6:Int);omega);have Tw:a<=3:=by simp at ha;omega
  obtain ⟨A0,SM,lA0,nA0⟩:=A2 (X 0) x0;refine bD (qW (c2 (xi 0 (by decide) _ rfl) rfl SM) rfl (qS (two (eV rfl (by show 6<=1000;decide)) (two (xi 1 (by decide) _ rfl) rfl (dW _ 6 (by decide))) Se)) (wW A0 a (by omega))) rfl ?_;obtain ⟨A,hA⟩:∃A,A=A0.take a:=⟨_,rfl⟩;have lA:A.length<=3:=by rw [hA,Vf];omega
  have nA:A.Nodup:=hA▸(YF a A0).nodup nA0;rw [<-hA];obtain ⟨n2,_,hn2⟩:=pZ (xs:=[X 2,X 0]) (h:=D.int) (.l .fresh [.int (X 2),.int (X 0)]) rfl (X 1 / 6 % 4 / 3) (by omega) (by show _ < (2:Int);omega);have n2p:0<=n2:=by
   rename_i h;simp at h;rcases h with rfl | rfl
   ·exact x2
   ·exact x0
  obtain ⟨b,hb,S8⟩:=pZ (xs:=[1,1,2,0,1,3]) (h:=dN) (.l .fresh (([1,1,2,0,1,3]:List Nat).map dN)) rfl (X 1 / 24 % 6) (by omega) (by show _ < (6:Int);omega);have Tz:b<=3:=by simp at hb;omega
  obtain ⟨B0,SN,lB0,nB0⟩:=A2 n2 n2p;refine bD (qW (c2 (two (eV (aH (xi 2 (by decide) _ rfl) rfl (aH (xi 0 (by decide) _ rfl) rfl bf)) (by show 2<=1000;decide)) (two (two (two (xi 1 (by decide) _ rfl) rfl (iW _ 6 (by decide) (by decide))) rfl (dW _ 4 (by decide))) rfl (iW _ 3 (by decide) (by decide))) hn2) rfl SN) rfl (qS (two (eV rfl (by show 6<=1000;decide)) (two (two (xi 1 (by decide) _ rfl) rfl (iW _ 24 (by decide) (by decide))) rfl (dW _ 6 (by decide))) S8)) (wW B0 b (by omega))) rfl ?_;obtain ⟨B,hB⟩:∃B,B=B0.take b:=⟨_,rfl⟩;have lB:B.length<=3:=by rw [hB,Vf];omega
  have nB:B.Nodup:=hB▸(YF b B0).nodup nB0;rw [<-hB];have zp:(0:Int) < (sz.length:Nat):=by omega
  have rd1:∀env:Ev,env[1]?=some (some x)->af 1 env=.ok r0:=λenv he=>by show (match env[1]? with | some (some s)=>s.rd | _=>M.bad)=_;rw [he];exact Tr
  have len:∀env:Ev,env[1]?=some (some x)->gN dY (ao (af 1) aG) env=.ok (.d (.int (sz.length:Nat))):=λenv he=>n1 (rd1 _ he) (by rw [Sk,T8]);have pick:∀i:Int,∃m,m∈sz/\1<=m/\m<=4/\aY r0 (.d (.int (i % (sz.length:Nat))))=.ok (.d (dN m)):=λi=>by obtain ⟨m,hm,e⟩:=pZ (xs:=sz) (h:=dN) r0 hr0 (i % (sz.length:Nat)) (Yx _ (by omega)) (Yt _ zp);exact ⟨m,hm,(hs m hm).1,(hs m hm).2,e⟩
  obtain ⟨m,mI,m1,m4,hm⟩:=pick (X 1 / 144);refine bD (two (rd1 _ rfl) (two (two (xi 1 (by decide) _ rfl) rfl (iW _ 144 (by decide) (by decide))) (len _ rfl) (dW _ _ zp)) hm) rfl ?_;obtain ⟨f,_,hf⟩:=pZ (xs:=[0,2 ^ 60 - 1,X 3,X 3,X 3,X 3]) (h:=D.int) (.l .fresh (([0,2 ^ 60 - 1,X 3,X 3,X 3,X 3]:List Int).map D.int)) rfl (X 1 / 10000 % 6) (by omega) (by show _ < (6:Int);omega);refine bD (two (eV (aH rfl rfl (aH (two rfl rfl (yK (2 ^ 60) 1)) rfl (aH (xi 3 (by decide) _ rfl) rfl (aH (xi 3 (by decide) _ rfl) rfl (aH (xi 3 (by decide) _ rfl) rfl (aH (xi 3 (by decide) _ rfl) rfl bf)))))) (by show 6<=1000;decide)) (two (two (xi 1 (by decide) _ rfl) rfl (iW _ 10000 (by decide) (by decide))) rfl (dW _ 6 (by decide))) hf) rfl ?_;obtain ⟨ms,rs,hw,e1,e2,ib⟩:=A4 m m4 A B lA lB f;have world:∀(m:Nat),1<=m->m<=4->∀n:Int,∃ms rs,dS [.d (.int m),.d (.lst (A.map .str)),.d (.lst (B.map .str)),.d (.int n)]=.ok (.d (Wd.d ⟨m,ms,rs⟩))/\ms.map Va=A/\rs.map Va=B/\DN 16 ⟨m,ms,rs⟩:=λm _ h n=>A4 m h A B lA lB n;have turn:∀{ms rs},ms.map Va=A->rs.map Va=B->DN 16 ⟨m,ms,rs⟩->∃ms' rs',fc [.d (Wd.d ⟨m,ms,rs⟩),.d (.int (X 5))]=.ok (.d (Wd.d ⟨m,ms',rs'⟩))/\ms'.map Va=A/\rs'.map Va=B:=fun {ms rs} h1 h2 h3=>by have q1:=congrArg VT h1;have q2:=congrArg VT h2;rw [T8] at q1 q2;obtain ⟨ps,hp⟩:=LA ⟨m,ms,rs⟩ ⟨m1,by show m<=8;omega,by show ms.length<=3;omega,by show rs.length<=3;omega⟩ h3 m4 (X 5);obtain ⟨t1,t2⟩:=Il ⟨m,ms,rs⟩ ps;exact ⟨_,_,hp,t1.trans h1,t2.trans h2⟩
  refine bY (qY rfl (qY rfl (eY (c4 rfl rfl rfl rfl hw) rfl (bD (two (xi 4 (by decide) _ rfl) rfl (dW _ 5 (by decide))) rfl ?_))));refine bY (jv (c:=bq (.int (X 4 % 5)) (.int 0)) (bx rfl rfl rfl) (λ_=>?_) λ_=>fZ ?_)
  ·obtain ⟨ms',rs',ht,t1,t2⟩:=turn e1 e2 ib;exact bG (bF (aH rfl rfl (aH (c2 rfl (xi 5 (by decide) _ rfl) ht) rfl bf)) (by show 2<=1000;decide)) rfl ⟨_,rfl,_,_,rfl,yI m1 m4 m1 m4 e1 e2 t1 t2 lA lB nA nB,mI,mI⟩
  refine bY (jv (c:=bq (.int (X 4 % 5)) (.int 1)) (bx rfl rfl rfl) (λ_=>?_) λ_=>fZ ?_)
  ·have RV:m * m<=16:=W0 m4 m4;have q1:m * A.length<=12:=W0 m4 lA;have q2:m * m * B.length<=48:=W0 RV lB;obtain ⟨bt,S0,b1,b60⟩:∃bt:Nat,Cz [.d (.int 1),.d (.int ((m:Int) * (A.length:Nat) + (m:Int) * m * (B.length:Nat)))]=.ok (.d (.int (bt:Int)))/\1<=bt/\bt<=60:=by refine ⟨max 1 (m * A.length + m * m * B.length),?_,by omega,by omega⟩;show M.ok (R.d (.int (if (m:Int) * (A.length:Nat) + (m:Int) * m * (B.length:Nat) > 1 then (m:Int) * (A.length:Nat) + (m:Int) * m * (B.length:Nat) else 1)))=_;rw [show (m:Int) * (A.length:Nat) + (m:Int) * m * (B.length:Nat)=((m * A.length + m * m * B.length:Nat):Int) by simp];congr 3;split <;> omega
   obtain ⟨k,hk,TJ⟩:=K33.nv (X 4 / 5) bt (by omega);have hix:∀env:Ev,af 2 env=.ok (.l .own (xs.map .int))->af 9 env=.ok (.d (.int (bt:Int)))->g2 d7 (g2 iE (g2 aY (af 2) (gC (.int 4))) (gC (.int 5))) (af 9) env=.ok (.d (.int (k:Int))):=λenv h2 h9=>(two (two (xi 4 (by decide) env h2) rfl (iW _ 5 (by decide) (by decide))) h9 (dW _ _ (by omega))).trans (by rw [hk]);obtain ⟨f',hf'⟩:=Ls f k (by omega);obtain ⟨ms2,rs2,R3,g1,g2',ib2⟩:=world m m1 m4 f';obtain ⟨ms',rs',ht,t1,t2⟩:=turn g1 g2' ib2;have lnA:∀env:Ev,af 3 env=.ok (.d (.lst (A.map .str)))->gN dY (ao (af 3) aG) env=.ok (.d (.int (A.length:Nat))):=λenv he=>n1 he (by show M.ok (R.d (.int ((A.map D.str).length:Nat)))=_;rw [T8]);have lnB:∀env:Ev,af 4 env=.ok (.d (.lst (B.map .str)))->gN dY (ao (af 4) aG) env=.ok (.d (.int (B.length:Nat))):=λenv he=>n1 he (by show M.ok (R.d (.int ((B.map D.str).length:Nat)))=_;rw [T8]);exact bD (Qq rfl (two (two rfl (lnA _ rfl) (jd _ _ (by omega) (by omega))) (two (two rfl rfl (jd _ _ (by omega) (by omega))) (lnB _ rfl) (jd _ _ (by omega) (by omega))) (lP _ _)) S0) rfl (bD (c4 rfl rfl rfl (c2 rfl (hix _ rfl rfl) hf') R3) rfl (bG (bF (aH rfl rfl (aH (c2 rfl (xi 5 (by decide) _ rfl) ht) rfl bf)) (by show 2<=1000;decide)) rfl ⟨_,rfl,_,_,rfl,yI m1 m4 m1 m4 e1 e2 t1 t2 lA lB nA nB,mI,mI⟩))
  obtain ⟨m',mI',m1',m4',hm'⟩:=pick (X 6);refine bD (two (rd1 _ rfl) (two (xi 6 (by decide) _ rfl) (len _ rfl) (dW _ _ zp)) hm') rfl ?_;refine bY (jv (c:=bq (.int (X 4 % 5)) (.int 2)) (bx rfl rfl rfl) (λ_=>?_) λ_=>fZ ?_)
  ·obtain ⟨ms2,rs2,R3,g1,g2',ib2⟩:=world m' m1' m4' f;exact bG (bF (aH rfl rfl (aH (c4 rfl rfl rfl rfl R3) rfl bf)) (by show 2<=1000;decide)) rfl ⟨_,rfl,_,_,rfl,yI m1 m4 m1' m4' e1 e2 g1 g2' lA lB nA nB,mI,mI'⟩
  ·obtain ⟨ms2,rs2,R3,g1,g2',ib2⟩:=world m' m1' m4' (X 5);exact bG (bF (aH rfl rfl (aH (c4 rfl rfl rfl (xi 5 (by decide) _ rfl) R3) rfl bf)) (by show 2<=1000;decide)) rfl ⟨_,rfl,_,_,rfl,yI m1 m4 m1' m4' e1 e2 g1 g2' lA lB nA nB,mI,mI'⟩
 obtain ⟨_,h,v,w,rfl,hk⟩:=key;exact ⟨v,w,h,hk⟩
theorem LB (c:Int) (sz:List Nat) (hz:1<=sz.length) (hs:∀n∈sz,1<=n/\n<=4) (x:S) (hx:x=.d (.lst (sz.map dN))\/x=.bor (sz.map dN)):∃v w:Wd,gX [.d (.int c),x]=.ok (.d (.tup [v.d,w.d]))/\Pn v w/\v.m∈sz/\w.m∈sz:=by
 rcases hx with rfl | rfl
 ·exact DH c sz hz hs _ _ rfl rfl rfl
 ·exact DH c sz hz hs _ _ rfl rfl rfl
theorem N9 (c:Int) (sz:List Nat) (hz:1<=sz.length) (hs:∀n∈sz,1<=n/\n<=4):∃v w:Wd,gX [.d (.int c),.d (.lst (sz.map dN))]=.ok (.d (.tup [v.d,w.d]))/\Pn v w:=by obtain ⟨v,w,h,t,_⟩:=LB c sz hz hs _ (.inl rfl);exact ⟨v,w,h,t⟩
end K72
namespace K72
open PySem DL K01 WP K51 K52 K55 K22
open K23 (eZ fC bx Pr aE eS dG Good j3 prs gb LG told dJ fN nO k9 pR kW lI oG iL i9 CW fs CO)
section
variable {α:Type} [BEq α] [LawfulBEq α] {h:α->D}
noncomputable def mY (rows:List (Str×List α)) (nm:Str) (x:α):Bool:=match rows.find? λr=>decide (r.1=nm) with
 | some r=>decide (x∈r.2)
 | none=>false
theorem eq_str (a b:Str):bq (.str a) (.str b)=decide (a=b):=by unfold bq;rw [U_,beq_iff_eq,decide_eq_true_eq]
theorem Lr (hin:∀(x:α) (xs:List α),j4 false (.d (h x)) (.d (.tup (xs.map h)))=.ok (.d (.bl (decide (x∈xs))))) (rows:List (Str×List α)) (nm:Str) (x:α):
  k8 [.d (.tup (rows.map λr=>.tup [.str r.1,.tup (r.2.map h)])),.d (.str nm),.d (h x)]=.ok (.d (.bl (mY rows nm x))):=by
 refine b9 (cY (ds:=rows.map λr=>.tup [.str r.1,.tup (r.2.map h)]) rfl ?_);obtain ⟨R0,SW⟩:∃R0:S,R0=.d (.tup (rows.map λr=>.tup [.str r.1,.tup (r.2.map h)])):=⟨_,rfl⟩;have key:∀(rs:List (Str×List α)) (a b:Option S),Wp (eE (dg 2 (bz (aA 3) (bz (aA 4) dF))) (bL (bB (g2 (cL false) (af 3) (af 1))) (bw (g2 (j4 false) (af 2) (af 4))) c5) (rs.map λr=>.tup [.str r.1,.tup (r.2.map h)]) [some R0,some (.d (.str nm)),some (.d (h x)),a,b]) λo=>match rs.find? (λr=>decide (r.1=nm)) with
   | some r=>o=.rt (.d (.bl (decide (x∈r.2))))
   | none=>∃e,o=.nx e:=by
  intro rs
  induction rs with
  | nil=>exact λa b=>⟨_,rfl,_,rfl⟩
  | cons r rs ih=>
   intro a b;rw [Ur,List.find?_cons];show Wp (dg 2 (bz (aA 3) (bz (aA 4) dF)) (.tup [.str r.1,.tup (r.2.map h)]) _ >>= _) _;rw [show dg 2 (bz (aA 3) (bz (aA 4) dF)) (.tup [.str r.1,.tup (r.2.map h)]) [some R0,some (.d (.str nm)),some (.d (h x)),a,b]=.ok [some R0,some (.d (.str nm)),some (.d (h x)),some (.d (.str r.1)),some (.d (.tup (r.2.map h)))] from rfl,aN];have ht:bB (g2 (cL false) (af 3) (af 1)) [some R0,some (.d (.str nm)),some (.d (h x)),some (.d (.str r.1)),some (.d (.tup (r.2.map h)))]=.ok (decide (r.1=nm)):=by refine bx rfl rfl ((l6 false (.d (.str r.1)) (.d (.str nm)) (UD _) (UD _)).trans ?_);show M.ok (R.d (.bl (bq (.str r.1) (.str nm))))=_;rw [eq_str]
   cases q:decide (r.1=nm) with
   | true=>
    rw [q] at ht;rw [nt ht,show bw (g2 (j4 false) (af 2) (af 4)) [some R0,some (.d (.str nm)),some (.d (h x)),some (.d (.str r.1)),some (.d (.tup (r.2.map h)))]=.ok (.rt (.d (.bl (decide (x∈r.2))))) from FI (two rfl rfl (hin x r.2)) rfl];exact ⟨_,rfl,rfl⟩
   | false=>
    rw [q] at ht;rw [pX ht];exact ih _ _
 have k0:=key rows none none;rw [SW] at k0;refine k0.mono λo ho=>?_;unfold mY;cases q:rows.find? λr=>decide (r.1=nm) with
 | some r=>rw [q] at ho;rw [ho]
 | none=>
  rw [q] at ho;obtain ⟨e,rfl⟩:=ho;exact bG rfl rfl rfl
theorem Oa {rows:List (Str×List α)}(nd:(rows.map Va).Nodup){i:Nat}(hi:i < rows.length) (x:α):mY rows rows[i].1 x=decide (x∈rows[i].2):=by
 unfold mY;have:rows.find? (λr=>decide (r.1=rows[i].1))=some rows[i]:=by rw [List.find?_eq_some_iff_getElem];refine ⟨decide_eq_true rfl,i,hi,rfl,λj hj=>?_⟩;have:=(Vq.mp nd) j i (by simp;omega) (by simpa using hi) hj;rw [U5,U5] at this;simpa using this
 rw [this]
theorem Bd {A B:List (Str×List α)}(he:A.map Va=B.map Va) (nd:(A.map Va).Nodup) (x y:α):(A.all λr=>decide (x∈r.2) == mY B r.1 y)=(A.zip B).all λr=>decide (x∈r.1.2) == decide (y∈r.2.2):=by
 have hl:A.length=B.length:=by have:=congrArg VT he;simpa using this
 rw [show (A.all λr=>decide (x∈r.2) == mY B r.1 y)=((A.zip B).map Va).all λr=>decide (x∈r.2) == mY B r.1 y by rw [List.map_fst_zip (by omega)],Y0,U_,Uz,Uz];have e:∀r∈A.zip B,mY B r.1.1 y=decide (y∈r.2.2):=λr hr=>by
  obtain ⟨i,hi,rfl⟩:=VD.mp hr;have Td:i < A.length:=by simp at hi;omega
  have SH:i < B.length:=by omega
  rw [List.getElem_zip];have:A[i].1=B[i].1:=by have:=congrArg (λl:List Str=>l[i]?) he;simpa [Td,SH] using this
  show mY B A[i].1 y=_;rw [this,Oa (he▸nd) SH]
 exact ⟨λh r hr=>by have:=h r hr;rw [<-e r hr];exact this,λh r hr=>by have:=h r hr;rw [<-e r hr] at this;exact this⟩
end
variable {v w:Wd}
theorem EH (x:Nat) (xs:List Nat):j4 false (.d (dN x)) (.d (.tup (xs.map dN)))=.ok (.d (.bl (decide (x∈xs)))):=(yC false (dN x) (xs.map dN) (Es _) (UD _)).trans (by rw [K55.inN];rfl)
theorem EI (x:Nat×Nat) (xs:List (Nat×Nat)):j4 false (.d (dP x)) (.d (.tup (xs.map dP)))=.ok (.d (.bl (decide (x∈xs)))):=(yC false (dP x) (xs.map dP) (zB _) (by show 1<=60;decide)).trans (by rw [K55.Pc];rfl)
abbrev eT (v w:Wd) (ps:List (Nat×Nat)) (r:List (Option S)):Ev:=some (.d v.d)::some (.d w.d)::some (.d (aE ps))::r
theorem N4 (t:Pn v w) (ps:List (Nat×Nat)):i8 [.d v.d,.d w.d,.d (aE ps)]=.ok (.d (.bl (vM v w ps))):=by
 refine b9 (Ji (h:=dP) (λenv=>∃a b c d e f g:Option S,env=eT v w ps [a,b,c,d,e,f,g]) (λp=>mB v w p && ps.all λq=>eB p q && aB v w p q) ps rfl ⟨none,none,none,none,none,none,none,rfl⟩ ?_ (λz e _=>bG rfl rfl (by unfold vM;rw [z])) (λz=>by unfold vM;rw [z]));rintro p _ _ ⟨_,_,c0,d0,e0,f0,g0,rfl⟩;refine ⟨eT v w ps [some (.d (dN p.1)),some (.d (dN p.2)),c0,d0,e0,f0,g0],rfl,?_⟩;have em:=Bd t.t.mn t.mn p.1 p.2;refine Ji (h:=i7) (λenv=>∃c d e f g:Option S,env=eT v w ps [some (.d (dN p.1)),some (.d (dN p.2)),c,d,e,f,g]) (λr=>decide (p.1∈r.2) == mY w.ms r.1 p.2) v.ms ?_ ⟨c0,d0,e0,f0,g0,rfl⟩ ?_ (λz e he=>?_) (λz=>.inr ⟨by show (mB v w p && _)=false;unfold mB;rw [<-em,z];rfl,rfl⟩)
 ·show (g2 aY (af 0) (gC (.int 1)) _ >>= _)=_;rw [two (x:=.d v.d) rfl rfl (EM _ _ _)];rfl
 ·rintro r _ _ ⟨_,_,e0,f0,g0,rfl⟩;refine ⟨eT v w ps [some (.d (dN p.1)),some (.d (dN p.2)),some (.d (.str r.1)),some (.d (.tup (r.2.map dN))),e0,f0,g0],rfl,?_⟩;refine jv (c:=!(decide (p.1∈r.2) == mY w.ms r.1 p.2)) (bx (two rfl rfl (EH _ _)) (c3 (two rfl rfl (EM _ _ _)) rfl rfl (Lr (h:=dN) EH w.ms r.1 p.2)) ((K22.Cv ..).trans rfl)) (λz=>bG rfl rfl (.inr ⟨by simpa using z,rfl⟩)) (λz=>fZ (.inl ⟨by simpa using z,_,rfl,_,_,_,_,_,rfl⟩))
 ·obtain ⟨c0,d0,e0,f0,g0,rfl⟩:=he;have hm:mB v w p=true:=by unfold mB;rw [<-em];exact z
  refine (IW (h:=dP) (λenv=>∃c d e f g:Option S,env=eT v w ps [some (.d (dN p.1)),some (.d (dN p.2)),c,d,e,f,g]) (λq=>eB p q && aB v w p q) ps rfl ⟨c0,d0,e0,f0,g0,rfl⟩ ?_).mono ?_
  ·rintro q _ _ ⟨c0,d0,_,_,g0,rfl⟩;refine ⟨eT v w ps [some (.d (dN p.1)),some (.d (dN p.2)),c0,d0,some (.d (dN q.1)),some (.d (dN q.2)),g0],rfl,?_⟩;have he:bB (g2 (cL true) (g2 (cL false) (af 3) (af 7)) (g2 (cL false) (af 4) (af 8))) (eT v w ps [some (.d (dN p.1)),some (.d (dN p.2)),c0,d0,some (.d (dN q.1)),some (.d (dN q.2)),g0])=.ok (!eB p q):=by refine bx (two rfl rfl (l6 false (.d (dN p.1)) (.d (dN q.1)) (UD _) (UD _))) (two rfl rfl (l6 false (.d (dN p.2)) (.d (dN q.2)) (UD _) (UD _))) ?_;show cL true (.d (.bl (bq (dN p.1) (dN q.1)))) (.d (.bl (bq (dN p.2) (dN q.2))))=_;rw [K55.uw,K55.uw,K22.Cv];rfl
   cases hc:eB p q with
   | false=>
    rw [hc] at he;exact OI he (OH rfl rfl (.inr ⟨rfl,rfl⟩))
   | true=>
    rw [hc] at he;refine f7 he ?_;have ea:=Bd t.t.an t.an (p.1,q.1) (p.2,q.2);refine (IW (h:=ku) (λenv=>∃c d g:Option S,env=eT v w ps [some (.d (dN p.1)),some (.d (dN p.2)),c,d,some (.d (dN q.1)),some (.d (dN q.2)),g]) (λr=>decide ((p.1,q.1)∈r.2) == mY w.ar r.1 (p.2,q.2)) v.ar ?_ ⟨c0,d0,g0,rfl⟩ ?_).mono ?_
    ·show (g2 aY (af 0) (gC (.int 2)) _ >>= _)=_;rw [two (x:=.d v.d) rfl rfl (MC _ _ _ _)];rfl
    ·rintro r _ _ ⟨_,d0,_,rfl⟩;refine ⟨eT v w ps [some (.d (dN p.1)),some (.d (dN p.2)),some (.d (.str r.1)),d0,some (.d (dN q.1)),some (.d (dN q.2)),some (.d (.tup (r.2.map dP)))],rfl,?_⟩;refine jv (c:=!(decide ((p.1,q.1)∈r.2) == mY w.ar r.1 (p.2,q.2))) (bx (two (bF (aH rfl rfl (aH rfl rfl bf)) t2) rfl (EI (p.1,q.1) r.2)) (c3 (two rfl rfl (MC _ _ _ _)) rfl (bF (aH rfl rfl (aH rfl rfl bf)) t2) (Lr (h:=dP) EI w.ar r.1 (p.2,q.2))) ((K22.Cv ..).trans rfl)) (λz=>bG rfl rfl (.inr ⟨by simpa using z,rfl⟩)) (λz=>fZ (.inl ⟨by simpa using z,_,rfl,_,_,_,rfl⟩))
    ·rintro o (⟨z,e,rfl,c1,d1,g1,rfl⟩ | ⟨z,rfl⟩)
     ·exact .inl ⟨by show (true && aB v w p q)=true;unfold aB;rw [<-ea,z];rfl,_,rfl,c1,d1,_,_,g1,rfl⟩
     ·exact .inr ⟨by show (true && aB v w p q)=false;unfold aB;rw [<-ea,z];rfl,rfl⟩
  ·rintro o (⟨z,e,rfl,c1,d1,e1,f1,g1,rfl⟩ | ⟨z,rfl⟩)
   ·exact .inl ⟨by rw [hm,z];rfl,_,rfl,_,_,_,_,_,_,_,rfl⟩
   ·exact .inr ⟨by rw [hm,z];rfl,rfl⟩
noncomputable def lC (v w:Wd) (ps:List (Nat×Nat)) (q:Nat×Nat):Bool:=(match ps.getLast? with
 | some l=>eF (dP l) (dP q)
 | none=>true) && vM v w (ps++[q])
theorem L_ (t:Pr v w){ps:List (Nat×Nat)}(g:Good v w ps){q:Nat×Nat}(hq:j3 v w q):lC v w ps q=(iL v w q q && gb v w ps q):=by
 rw [U_,Ub];constructor
 ·intro h;unfold lC at h;rw [Ub,Bq t] at h;have hp:q∈prs v w:=kW.mpr ⟨hq,h.2 q (by simp) q (by simp)⟩;refine ⟨(i9 ..).mpr (kW.mp hp).2,(pR g hp).mpr (ED g hq (λrs l e=>?_) h.2)⟩;subst e;have:=h.1;rw [XX] at this;exact (CW l q).mp this
 ·rintro ⟨h1,h2⟩;have hp:q∈prs v w:=kW.mpr ⟨hq,(i9 ..).mp h1⟩;have g':=(pR g hp).mp h2;unfold lC;rw [Ub,Bq t];refine ⟨?_,g'.ag⟩;cases e:ps.getLast? with
  | none=>rfl
  | some l=>
   obtain ⟨rs,rfl⟩:=K23.qP e;refine (CW l q).mpr (.inl ?_);have:=g'.up;rw [WD] at this;have:=(VE.mp this).2.1;exact (WV.mp this).1 q (by simp)
def kB (v w:Wd) (ps:List (Nat×Nat)) (a:Nat):List (List (Nat×Nat)):=((Ue w.m).filter λb=>lC v w ps (a,b)).map λb=>ps++[(a,b)]
theorem Mj (t:Pr v w){ps:List (Nat×Nat)}(g:Good v w ps):(Ue v.m).flatMap (kB v w ps)=((prs v w).filter (gb v w ps)).map λq=>ps++[q]:=by unfold prs dJ;rw [abG,abl,Xr];rw [Zf,Zf];congr 1;refine Wa λa ha=>?_;unfold kB;rw [aaO,UM];congr 1;refine YS λb hb=>?_;rw [L_ t g ⟨UQ.mp ha,UQ.mp hb⟩,Bool.and_comm];rfl
theorem uQ {env:Ev}{i:Nat}{g:G R}{r:R}{Q:O->Prop}{xs:List D}{d:D}(h0:env[i]?=some (some (.own xs))) (h:g env=.ok r) (h2:toD r=.ok d) (hl:xs.length<=1000000) (k:Q (.nx (env.set i (some (.own (xs++[d])))))):Wp (eX i g env) Q:=by refine ⟨_,?_,k⟩;unfold eX;rw [h0];show (g env >>= _)=_;rw [h,aN,h2,aN,if_pos (Yq hl (by decide))]
theorem JF {env:Ev}{a b:G Bool}{x y:Bool}(h:a env=.ok x) (h2:b env=.ok y):jt a b env=.ok (x && y):=by
 cases x with
 | true=>exact dG h h2
 | false=>exact eS h
abbrev eG (v w:Wd) (n:Nat) (F:List (List (Nat×Nat))) (r:List (Option S)):Ev:=some (.d v.d)::some (.d w.d)::some (.d (.int n))::some (.own (F.map aE))::r
theorem Ma (t:Pn v w) (ps:List (Nat×Nat)) (hl:ps.length < 63) (a b:Nat){env:Ev}(h0:af 0 env=.ok (.d v.d)) (h1:af 1 env=.ok (.d w.d)) (h7:af 7 env=.ok (.d (aE ps))) (h8:af 8 env=.ok (.d (dN a))) (h9:af 9 env=.ok (.d (dN b))):
  jt (iN (bB (g2 (cL false) (af 7) (bC aQ))) (bB (g2 sU (g2 aY (af 7) (sY (gC (.int 1)))) (bC (az (af 8) (az (af 9) aQ)))))) (bB (gN (aT 3 K72.i8) (ao (af 0) (ao (af 1) (ao (g2 cH (af 7) (bC (az (bC (az (af 8) (az (af 9) aQ))) aQ))) aG))))) env=.ok (lC v w ps (a,b)):=by
 have ht:bC (az (af 8) (az (af 9) aQ)) env=.ok (.d (dP (a,b))):=bF (aH h8 rfl (aH h9 rfl bf)) t2;refine JF ?_ (fC (c3 h0 h1 (two h7 (bF (aH ht rfl bf) (by show 1<=1000;decide)) (K33.zq ps (a,b) hl)) (N4 t _)));have he:=bx (f:=cL false) h7 (bF (env:=env) bf (by decide)) (l6 false (.d (aE ps)) (.d (aE [])) (Fo _) (Fo _));rcases VV ps with rfl | ⟨rs,l,rfl⟩
 ·exact K35.M9 he
 ·rw [VX] at h7 he ⊢;rw [show bq (R.dat (.d (aE (rs++[l])))) (R.dat (.d (aE [])))=false by
   show bq (.tup _) (.tup _)=false;rw [jM,Us];cases rs <;> rfl] at he
  rw [XX];refine nC he (bx (two h7 rfl ?_) ht (Oh l (a,b)));show aY (.d (.tup ((rs++[l]).map dP))) (.d (.int (-1)))=_;rw [Us];exact By _ _
theorem Jv (t:Pn v w) (n:Nat) (hn:n<=4):ic [.d v.d,.d w.d,.d (.int n)]=.ok (.l .fresh ((told v w n).map aE)):=by
 have v4:=t.t.v4;have w4:=t.t.w4;have one:cU (az (bC aQ) aQ)=λ_=>.ok (.l .fresh [.tup []]):=by funext env;exact eV (aH (bF bf (by decide)) rfl bf) (by show 1<=1000;decide)
 refine b9 (bD (r:=.l .fresh ([[]].map aE)) (by rw [one];rfl) rfl (bY (K23.N1 rfl (eY (r:=.l .fresh ([[]].map aE)) (by rw [one];rfl) rfl (cY (jB (n:=n) rfl (by omega)) ?_)))));refine gW (n:=n) (λk env=>∃x y a b c:Option S,env=eG v w n (told v w k) [some (fs k ((LG v w k).map aE)),x,y,a,b,c]) ⟨none,none,none,none,none,rfl⟩ ?_ ?_
 ·rintro k hk _ ⟨x,y,a,b,c,rfl⟩;refine ⟨_,rfl,bD rfl rfl ?_⟩;have l0:=k9 t.t k;have l1:=k9 t.t (k + 1);have p0:(16:Nat) ^ k<=16 ^ 3:=U3 (by decide) (by omega);have p1:(16:Nat) ^ (k + 1)<=16 ^ 4:=U3 (by decide) (by omega);have p2:(16:Nat) ^ 3=4096:=by decide
  have p3:(16:Nat) ^ 4=65536:=by decide
  have le:∀(ps:List (Nat×Nat)) (a:Nat),(kB v w ps a).length<=4:=λps a=>by unfold kB;rw [T8];refine UC (UR _ _) (by simpa using w4)
  have lf:∀(ps:List (Nat×Nat)) (i:Nat),i<=4->((Ue i).flatMap (kB v w ps)).length<=16:=λps i hi=>by have:=K23.jN (kB v w ps) 4 (Ue i) λa _=>le ps a;rw [WC] at this;omega
  have loop:Wp (bV (c8 (af 4)) (aA 7) (bV (bQ (ao (g2 aY (af 0) (gC (.int 0))) aG)) (aA 8) (bV (bQ (ao (g2 aY (af 1) (gC (.int 0))) aG)) (aA 9) (bL (jt (iN (bB (g2 (cL false) (af 7) (bC aQ))) (bB (g2 sU (g2 aY (af 7) (sY (gC (.int 1)))) (bC (az (af 8) (az (af 9) aQ)))))) (bB (gN (aT 3 K72.i8) (ao (af 0) (ao (af 1) (ao (g2 cH (af 7) (bC (az (bC (az (af 8) (az (af 9) aQ))) aQ))) aG)))))) (eX 6 (g2 cH (af 7) (bC (az (bC (az (af 8) (az (af 9) aQ))) aQ)))) c5))) (eG v w n (told v w k) [some (.d (.lst ((LG v w k).map aE))),some (.d (.int k)),some (.own []),a,b,c]))
    (λo=>∃e,o=.nx e/\∃a b c:Option S,e=eG v w n (told v w k) [some (.d (.lst ((LG v w k).map aE))),some (.d (.int k)),some (.own ((LG v w (k + 1)).map aE)),a,b,c]):=by
   refine jZ (ds:=(LG v w k).map aE) rfl ?_;refine f_ (λj env=>∃a b c:Option S,env=eG v w n (told v w k) [some (.d (.lst ((LG v w k).map aE))),some (.d (.int k)),some (.own ((((LG v w k).take j).flatMap λps=>(Ue v.m).flatMap (kB v w ps)).map aE)),a,b,c]) _ ⟨a,b,c,rfl⟩ ?_ ?_
   ·rintro j hj _ ⟨a,b,c,rfl⟩;rw [T8] at hj;rw [U5];obtain ⟨ps,hps⟩:∃ps,ps=(LG v w k)[j]:=⟨_,rfl⟩;have lps:ps.length=k:=(nO k (hps▸Vm hj)).1;rw [<-hps];obtain ⟨M0,R7⟩:∃M0,M0=((LG v w k).take j).flatMap λps=>(Ue v.m).flatMap (kB v w ps):=⟨_,rfl⟩;have lM0:M0.length<=65536:=by have:=K23.jN (λps=>(Ue v.m).flatMap (kB v w ps)) 16 ((LG v w k).take j) λps _=>lf ps v.m v4;rw [<-R7,Vf] at this;omega
    rw [<-R7];refine ⟨_,rfl,jZ (jB (n:=v.m) (b_ (two rfl rfl (iQ _ _))) (by omega)) ?_⟩;refine gW (n:=v.m) (λi env=>∃b c:Option S,env=eG v w n (told v w k) [some (.d (.lst ((LG v w k).map aE))),some (.d (.int k)),some (.own ((M0++(Ue i).flatMap (kB v w ps)).map aE)),some (.d (aE ps)),b,c]) ⟨b,c,by simp⟩ ?_ ?_
    ·rintro i hi _ ⟨b,c,rfl⟩;obtain ⟨M1,R8⟩:∃M1,M1=M0++(Ue i).flatMap (kB v w ps):=⟨_,rfl⟩;have lM1:M1.length<=65552:=by rw [R8,Uo];have:=lf ps i (by omega);omega
     rw [<-R8];refine ⟨_,rfl,jZ (jB (n:=w.m) (b_ (two rfl rfl (iQ _ _))) (by omega)) ?_⟩;refine gW (n:=w.m) (λx env=>∃c:Option S,env=eG v w n (told v w k) [some (.d (.lst ((LG v w k).map aE))),some (.d (.int k)),some (.own ((M1++((Ue x).filter λb=>lC v w ps (i,b)).map λb=>ps++[(i,b)]).map aE)),some (.d (aE ps)),some (.d (.int i)),c]) ⟨c,by simp⟩ ?_ ?_
     ·rintro x hx _ ⟨c,rfl⟩;refine ⟨_,rfl,jv (Ma t ps (by omega) i x rfl rfl rfl rfl rfl) (λz=>?_) λz=>?_⟩
      ·refine uQ rfl (two rfl (bF (aH (bF (aH rfl rfl (aH rfl rfl bf)) t2) rfl bf) (by show 1<=1000;decide)) (K33.zq ps (i,x) (by omega))) rfl ?_ ⟨_,rfl,some (.d (.int x)),?_⟩
       ·have:=UR (λb=>lC v w ps (i,b)) (Ue x);rw [WC] at this;rw [T8,Uo,T8];omega
       ·have e:((Ue (x + 1)).filter λb=>lC v w ps (i,b)).map (λb=>ps++[(i,b)])=((Ue x).filter λb=>lC v w ps (i,b)).map (λb=>ps++[(i,b)])++[ps++[(i,x)]]:=by rw [WL,ZN,Yr (p:=λb=>lC v w ps (i,b)) z,Us];rfl
        rw [e,<-WD,Us (l₂:=[ps++[(i,x)]])];rfl
      ·refine fZ ⟨_,rfl,some (.d (.int x)),?_⟩;have e:((Ue (x + 1)).filter λb=>lC v w ps (i,b))=(Ue x).filter λb=>lC v w ps (i,b):=by rw [WL,ZN,Ys (p:=λb=>lC v w ps (i,b)) (by rw [z];decide),List.filter_nil,WG]
       rw [e];rfl
     ·rintro _ ⟨c,rfl⟩;refine ⟨_,rfl,some (.d (.int i)),c,?_⟩;rw [WL,ZC,aar,<-WD,<-R8];rfl
    ·rintro _ ⟨b,c,rfl⟩;refine ⟨_,rfl,some (.d (aE ps)),b,c,?_⟩;rw [WA,Uk hj,<-hps,ZC,<-R7];show _=eG v w n (told v w k) [_,_,some (.own ((M0++[ps].flatMap _).map aE)),_,_,_];rw [aar]
   ·rintro _ ⟨a,b,c,rfl⟩;rw [T8,VQ];refine ⟨_,rfl,a,b,c,?_⟩;have:((LG v w k).flatMap λps=>(Ue v.m).flatMap (kB v w ps))=LG v w (k + 1):=by show _=(LG v w k).flatMap _;rw [Zf,Zf];congr 1;exact Wa λps hps=>Mj t.t ((fN k).mp hps).2
    rw [this]
  have fz:∀{g:G O}{Q:O->Prop},Wp (g (eG v w n (told v w k) [some (.d (.lst ((LG v w k).map aE))),some (.d (.int k)),some (.own []),a,b,c])) Q->Wp (d8 4 g (eG v w n (told v w k) [some (fs k ((LG v w k).map aE)),some (.d (.int k)),some (.own []),a,b,c])) Q:=fun {g Q} h=>by
   cases k with
   | zero=>exact qY rfl h
   | succ k=>exact K23.Ge rfl h
  refine bY (fz (loop.mono ?_));rintro o ⟨e,rfl,a',b',c',rfl⟩;have tl:=K23.oB t.t k (by omega);refine bY (qY rfl (eY rfl rfl (CO (ys:=(LG v w (k + 1)).map aE) rfl rfl rfl ?_ ⟨_,rfl,some (.d (.int k)),some (.d (.lst ((LG v w (k + 1)).map aE))),a',b',c',?_⟩)))
  ·have:(k + 1) * 65536<=4 * 65536:=V1 _ (by omega);rw [T8,T8];omega
  ·show _=eG v w n (told v w k++LG v w (k + 1)) _;unfold eG;rw [Us];rfl
 ·rintro _ ⟨x,y,a,b,c,rfl⟩;exact bG rfl rfl rfl
end K72
namespace K72
open PySem DL K01 WP K51 K52 K55 K22 K33
open K23 (eZ fC bx Pr aE eS dG Good j3 LG told fN dB allM ig)
section
variable {v w:Wd}{B:Ps}{n:Nat}{σ:List Nat}
theorem DI (ps:Ps) (p:Nat×Nat) (hl:ps.length < 63):K72.jj [.d (aE ps),.d (dP p)]=.ok (.d (aE (dO ps p))):=by
 have hc:cH (.l .fresh (ps.map dP)) (.l .fresh [dP p])=.ok (.l .fresh ((ps++[p]).map dP)):=by show (if (ps.map dP).length + [dP p].length<=sizeLine then M.ok (R.l .fresh (ps.map dP++[dP p])) else .bad)=_;rw [if_pos (fj (by simp;omega)),Us];rfl
 have hs:lE [.l .fresh ((ps++[p]).map dP)]=.ok (.l .fresh (fV ((ps++[p]).map dP))):=by show (if mw ((ps++[p]).map dP)=true then _ else _)=_;rw [if_pos (I_ _ (by simp;omega))]
 refine b9 (bG (n1 (n1 (two (n1 rfl rfl) (eV (aH rfl rfl bf) (by show 1<=1000;decide)) hc) hs) rfl) rfl ?_);rw [<-F2];rfl
end
end K72
namespace DL
open PySem PySem.Spec PyProof.Rows L2
section
variable {X:Cx}{c:C}{a b:UU}{ga gb:G R}{pos:Pos}
noncomputable def OC (K:T5):R2:=λx y H Q=>∃l b xs zs,x=.ref l/\y=.ref b/\cg K H l xs/\cg K H b zs/\xs.length + zs.length<=sizeLine/\∀p,H p=none->Q (.ref p) (upd H p (.lst (xs++zs)))
theorem Ku:c6 X (Xj .Add) (OC X.K):=by
 intro TN s σ H x y v u Q I rx ry h;obtain ⟨l,b,xs,zs,rfl,rfl,hl,hb,hz,q⟩:=h;cases rx;cases ry;obtain ⟨TR,r,p1,z1⟩:=I.list hl;obtain ⟨its2,r2,p2,z2⟩:=I.list hb;obtain ⟨⟨cls,dd,data,sl⟩,ho,hc,n,hd⟩:=id p1.isList;obtain ⟨⟨cls2,dd2,data2,sl2⟩,ho2,hc2,n2,hd2⟩:=id p2.isList
 (simp only at hc hd hc2 hd2)
 subst hc hd hc2 hd2;have e1:=r.length;have e2:=r2.length;refine aax ⟨_,ho,rfl⟩ ⟨_,ho2,rfl⟩ noFill_list_add seq_list_add PySem.F.slot_list_add PySem.F.entry_list_add (PySem.F.args_list_add_2 _ _) (list_addW l b TR.toArray its2.toArray n n2 dd dd2 sl sl2 (by rw [Ug,Ug];omega)) ⟨ho,ho2,?_⟩;rw [show TR.toArray++its2.toArray=(TR++its2).toArray by simp];exact ⟨.ref _,_,I.lnew (t':=s.toks) (r.append r2) (by rw [Uo];omega),rfl,q _ I.fresh⟩
def qJ (x y:R):M R:=jq x >>= λxs=>jq y >>= λys=>if xs.length + ys.length<=sizeLine then .ok (.l .fresh (xs++ys)) else .bad
theorem Am (ha:QD X c a ga) (hb:QD X c b gb) (hK:X.K=c.K:=by rfl):QD X c (.BinOp a .Add b pos) (g2 qJ ga gb):=⟨kM Ku (by
 intro He He' J H x y u v Q hp rx ry w;unfold qJ at w;obtain ⟨xs,q1,w⟩:=je w;obtain ⟨ys,q2,w⟩:=je w;obtain ⟨p,vs,rfl,h1,s1⟩:=RR.list hp rx q1;obtain ⟨p2,vs2,rfl,h2,s2⟩:=RR.list hp ry q2;split at w
 ·rename_i hz;rw [s1.length,s2.length] at hz;exact ⟨p,p2,vs,vs2,rfl,rfl,by rw [hK];exact h1,by rw [hK];exact h2,hz,λq hq=>w _ J _ (Ext.new hp.sub hq _) (gF hp hq (s1.append s2))⟩
 ·exact w.elim) ha.h hb.h⟩
end
end DL
namespace DL
open PySem PySem.Spec PyProof.Rows L2 DX
open Sem (wp)
section
variable {prog:Uv}{w:US}{A:UW}{E:T7->T_->Prop}{s:T_}{d it:UA}{o:Obj}{es:Array ZT}{ep i:Nat}
theorem GU {v:UA}{Q:T7->T_->Prop}(hv:s.heap.IsValuesView v d) (ho:s.heap.get? d=some o) (hdat:o.data=.dict es ep)
  (hQ:Q (.ref s.heap.objs.size) {s with heap:=s.heap.push {cls:=.type "dict_valueiterator",data:=.fields #[.ref d,.int 0 0,.int es.size 0,.int ep 0]}}):Uu (UB prog w) A (ZJ (.ref v)) Q E s:=by
 obtain ⟨ov,hov,TF,S7⟩:=id hv;refine YR hv.typeIs aac (U0 aac hv.typeIs F.entry_dict_values_iter ?_ (F.args_dict_values_iter_1 _));unfold Xv.«dict_values.__iter__»;refine T4 (T6 (T4 ?_));unfold adg;refine T4 (abe hov S7 (x:=.ref d) rfl (T6 (T4 ?_)));unfold acf;refine T4 (Xd ho hdat (T4 (XI ho hdat ?_)));have hown:VZ "dict_valueiterator"=false:=by decide
 (simp only [hown,Um,if_false])
 refine UJ (T6 ⟨_,rfl,"dict_valueiterator",_,⟨_,Uh _ rfl,rfl⟩,VH.lookup,?_⟩);simpa [aad] using hQ
theorem Hf {Q:Option T7->T_->Prop}(hit:s.heap.IsValIter it d i es.size ep) (hod:s.heap.get? d=some o) (Rj:o.data=.dict es ep) (hi:i < es.size)
  (hQ:∀h',h'.IsValIter it d (i + 1) es.size ep->V2 it s.heap h'->Q (some es[i].val) {s with heap:=h'}):Uu (UB prog w) A (XA (.ref it)) Q E s:=by
 obtain ⟨oi,ho,hc,hd⟩:=id hit;unfold XA;refine T4 (WU (Vk (name:=XC "__next__") hit.typeIs VH (U0 VH hit.typeIs YT ?_ (Yy _))));refine T4 (T6 (T4 (T4 ?_)));refine T4 (Wr hit.typeIs (T6 (T4 (X6 ho hd ?_))));have hown:VZ "dict_valueiterator"=false:=by decide
 simp only [hown,Um,if_false];show Uu _ _ (ite ((W6 d == UY)=true) _ _) _ _ s;rw [if_neg (show ¬((W6 d == UY)=true) from UH)];refine T4 (T6 (T4 (Xd hod Rj ?_)));rw [if_neg (by simp)];refine T4 (T6 (T4 (XI hod Rj ?_)));rw [if_neg (by simp)];refine T6 ?_;simp only [show ¬((i:Int) < 0) from by omega,if_false,Vo,Wg hi];refine T4 (T4 (Wr hit.typeIs (T6 ?_)));refine T4 (Y8 hit.typeIs ?_);refine T4 (m:=adT (.ref it) 1 (aad ((i:Int) + 1))) (ZP ho hd (by simp) ?_);have Rr:(s.heap.update it (Zl (·.setIfInBounds 1 (aad ((i:Int) + 1))))).IsValIter it d (i + 1) es.size ep:=⟨_,Vi _ ho (aaR (Yw hd _)),(ab2 ..).trans hc,by rw [Yw hd];simp [aad]⟩;refine T4 (UN (T4 (Y8 (s:={s with heap:=s.heap.update it (Zl (·.setIfInBounds 1 (aad ((i:Int) + 1))))}) Rr.typeIs ?_)));refine T4 (Y8 (s:={s with heap:=s.heap.update it (Zl (·.setIfInBounds 1 (aad ((i:Int) + 1))))}) Rr.typeIs ?_);exact T6 (T6 ⟨_,rfl,T6 (hQ _ Rr (V_ ..))⟩)
theorem JS {Q:Option T7->T_->Prop}(hh:A.handled=none) (hit:s.heap.IsValIter it d i es.size ep) (hod:s.heap.get? d=some o) (Rj:o.data=.dict es ep) (hi:es.size<=i)
  (hQ:∀h',acO it s.heap h'->Q none {s with heap:=h'}):Uu (UB prog w) A (XA (.ref it)) Q E s:=by
 obtain ⟨oi,ho,hc,hd⟩:=id hit;unfold XA;refine T4 (WU (Vk (name:=XC "__next__") hit.typeIs VH (U0 VH hit.typeIs YT ?_ (Yy _))));refine T4 (T6 (T4 (T4 ?_)));refine T4 (Wr hit.typeIs (T6 (T4 (X6 ho hd ?_))));have hown:VZ "dict_valueiterator"=false:=by decide
 simp only [hown,Um,if_false];show Uu _ _ (ite ((W6 d == UY)=true) _ _) _ _ s;rw [if_neg (show ¬((W6 d == UY)=true) from UH)];refine T4 (T6 (T4 (Xd hod Rj ?_)));rw [if_neg (by simp)];refine T4 (T6 (T4 (XI hod Rj ?_)));rw [if_neg (by simp)];refine T6 ?_;simp only [show ¬((i:Int) < 0) from by omega,if_false,Vo,aaq hi];refine T4 (T4 (Wr hit.typeIs (T6 ?_)));refine T4 (m:=adT (.ref it) 0 .none) (ZP ho hd (by simp) ?_);refine T4 (m:=aeG (.type "StopIteration") []) ?_;simp only [aeG,aeH];refine T4 (UJ ?_ (by size_fits));refine T4 (m:=X7 _ _) (YK (a:=UY) (by first | rfl | (simp only [X7];rfl)) (UJ ?_ (by size_fits)));simp only [aeI];refine T4 (abE ?_);rw [show A.in1.handled=none from hh];refine T4 (T6 (acP ?_));exact T4 (X_ (T:="StopIteration") (b:=true) ⟨_,Uh _ rfl,rfl⟩ abb (T6 (hQ _ (((V_ ..).extBut.push _).push _))))
end
end DL
namespace DL
open PySem PySem.Spec PyProof.Rows L2 DX
noncomputable def O5 (a:UA) (ep:Nat) (TZ:List (Int×V×V)):It:=⟨λi H=>H a=some (g6 a ep TZ)/\i < TZ.length,λi H x H'=>H'=H/\∃p,TZ[i]?=some p/\x=p.2.2,λi H=>H a=some (g6 a ep TZ)/\TZ.length<=i⟩
theorem turn_val {P:Uv}{w:US}{K:T5}{tg:UU}(a it:UA) (ep:Nat) (TZ:List (Int×V×V)):Turn P w K tg (O5 a ep TZ) [it] it (λi h=>h.IsValIter it a i TZ.length ep) where
 mem:=by simp
 obj:=λi h st b hb=>by cases Ul.mp hb;obtain ⟨o,e,c,d⟩:=st;exact ⟨o,e,λv z=>by rw [d] at z;cases z⟩
 keep:=λi h h' st k=>st.at λo e=>k it (by simp) o e
 item:=by
  rintro X rfl rfl rfl hc i TN s σ H E I hf st ⟨hq,hi⟩;obtain ⟨o,es,h1,h2,h3,h4⟩:=(show cF X.prog X.w H s.heap a (g6 a ep TZ) from I.hok a _ hq).1;have hl:TZ.length=es.size:=by have:=h4.length;simpa using this
  obtain ⟨p,hp,er⟩:=p_ (i:=i) (by simp;omega) h4;obtain ⟨f0,f1,f2,f3,f4,f5⟩:=hf it (by simp);refine Hf (es:=es) (ep:=ep) (hl▸st) h1 h3 (by omega) λh' st' sb=>?_;have I1:Inv X TN σ H {s with heap:=h'}:=I.turned (t':=s.toks) (λb o hb e=>(sb.2 b hb).trans e) f0 f1 f3 f4 f5;obtain ⟨oi,e,c,d⟩:=id st';exact ⟨_,rfl,uK (s:={s with heap:=h'}) e c d (by decide) ⟨p.2.2,H,I1,by simpa using er.2.2,⟨rfl,p,hp,rfl⟩,by rw [hl];exact st',λb hb=>(hf b hb).1⟩⟩
 done:=by
  rintro X rfl rfl rfl hc i TN s σ H E I hf st ⟨hq,hi⟩;obtain ⟨o,es,h1,h2,h3,h4⟩:=(show cF X.prog X.w H s.heap a (g6 a ep TZ) from I.hok a _ hq).1;have hl:TZ.length=es.size:=by have:=h4.length;simpa using this
  obtain ⟨f0,f1,f2,f3,f4,f5⟩:=hf it (by simp);exact JS (es:=es) (ep:=ep) (I.ok.hd hc) (hl▸st) h1 h3 (by omega) λh' eb=>⟨rfl,I.turned (t':=s.toks) (λb o hb e=>eb b o hb e) f0 f1 f3 f4 f5⟩
 self:=λ_ _ _ _ _ st h=>wpAny_pyIter_valiter st h
section
variable {X:Cx}{c:C}{e tg:UU}{g:G R}{apos cpos:Pos}
noncomputable def Mq (g:G R):G (List D):=λenv=>g env >>= λr=>match rN r with
 | some z=>.ok z.2
 | none=>.bad
theorem Kr (d:UA) (o:Obj) (hd:(d == WB)=false) (hc:o.cls=.type "dict"):
  Meets (Xv.«dict.values» ⟨[.ref d],[]⟩) (λ_ R s=>s.heap.get? d=some o/\R (.ok (.ret (.ref s.heap.objs.size))) {s with heap:=s.heap.push {cls:=.type "dict_values",data:=.fields #[.ref d]}}):=
 .of_wp λprog w A R s ⟨ho,h⟩=>by have hT:s.TypeIs (.ref d) "dict":=⟨o,ho,hc⟩;refine T4 ?_;unfold aeu;refine T4 (aaP hT ?_);show Uu _ _ (pure d) _ _ s;refine T6 ?_;show Uu _ _ (XH d >>= _) _ _ s;unfold XH;rw [if_neg (by rw [hd];exact UH)];exact T4 (T6 (T4 (UJ (T6 ⟨_,rfl,h⟩))))
theorem Nm {tl:TE}(hl:PE X e tl) (hbase:Wt e "values" X.env (eval e X.env)=eval e X.env) (hline:(apos.endLine == cpos.line)=true):PI X tg (.Call (.Attribute e "values" apos) [] [] cpos) (λσ H Q=>tl σ H λx H1=>∃a ep TZ,x=.ref a/\(a == WB)=false/\H1 a=some (g6 a ep TZ)/\Q (O5 a ep TZ) H1):=λTN s σ H R I h=>Z3 hbase hline (bN (hl TN s σ H _ I h) λv s1 ⟨x,H1,I1,r1,a,ep,TZ,ex,hsm,hq,q⟩=>by
 subst ex;cases r1;obtain ⟨o,es,h1,h2,h3,h4⟩:=(show cF X.prog X.w H1 s1.heap a (g6 a ep TZ) from I1.hok a _ hq).1;have hl:TZ.length=es.size:=by have:=h4.length;simpa using this
 refine ⟨"dict","dict.values",PySem.F.plainAttrs_dict,PySem.F.slot_dict_values,PySem.F.type_dict_values,⟨o,h1,h2.1⟩,λq e=>⟨o,by cases e;exact h1,h2.2.1⟩,?_⟩;refine seqMethod0_meets F.slot_dict_values F.entry_dict_values ⟨o,h1,h2.1⟩ (F.args_dict_values_1 _) (Kr a o hsm h2.1) ⟨h1,?_⟩;have I2:Inv X TN σ H1 {s1 with heap:=s1.heap.push {cls:=.type "dict_values",data:=.fields #[.ref a]}}:=I1.kept (t':=s1.toks) λb o e=>T9 _ e;refine GU (d:=a) ⟨_,Uh _ rfl,rfl,rfl⟩ (T9 _ h1) h3 ⟨_,[_],_,_,H1,rfl,I2.kept (t':=s1.toks) (λb o e=>T9 _ e),turn_val a _ ep TZ,⟨_,Uh _ rfl,rfl,by rw [hl];rfl⟩,λb hb=>?_,q⟩;cases Ul.mp hb;exact I2.fpOk (Ud _) (I2.hok.fresh (Ud _)))
theorem HL (h:QD X c e g) (hK:X.K=c.K:=by rfl) (hbase:Wt e "values" X.env (eval e X.env)=eval e X.env:=by rfl) (hline:(apos.endLine == cpos.line)=true:=by rfl):ud X c tg (.Call (.Attribute e "values" apos) [] [] cpos) (Mq g):=⟨qR (Nm h.h hbase hline) λσ H Q ⟨J,env,sr,w⟩=>by
 refine ⟨J,env,sr,aF (aM w) λr wr v J1 H1 e1 r1=>?_⟩;cases hz:rN r with
 | none=>rw [hz] at wr;exact wr.elim
 | some z=>
  rw [hz] at wr;obtain ⟨a,rfl,us,ws,ep,h1,h2,h3,h4,h5,h6⟩:=r1.dk (sr.hp.ext e1) hz;have hh:∀ds:List D,(cj ds).length=ds.length:=λds=>by induction ds with
   | nil=>rfl
   | cons d ds ih=>show (cj ds).length + 1=_;rw [ih];rfl
  have lk:((cj z.1).zip (us.zip ws)).length=z.2.length:=by rw [ZD,ZD,hh,<-h2.length,<-h3.length,<-h6];omega
  refine ⟨a,ep,_,rfl,h5,h1,wr _ J1 H1 e1 λi J' H' hp u=>⟨λhl=>⟨u.2 _ _ h1,by omega⟩,λd hd=>?_⟩⟩;have hi:i < z.2.length:=(Uy.mp hd).1;obtain ⟨x,k1,k2⟩:=h3.get hd;refine ⟨⟨u.2 _ _ h1,by omega⟩,λy H2 ⟨e,p,hp',hy⟩=>⟨J',by subst e;exact Ext.refl hp.sub,?_⟩⟩;have:p.2.2=x:=by rw [W4,] at hp';have:=(W4.mp hp'.2).2;rw [k1] at this;cases this;rfl
  rw [hy,this];exact k2.mono u.1⟩
end
end DL
namespace DL
open PySem PySem.Spec PyProof.Rows L2
open PySem.W (KasT kas_sort kas_ask kas_item kat_run kat_snds)
section
variable {prog:Uv}{w:US}{A:UW}{E:T7->T_->Prop}{s:T_}
def kq (kz:List Int) (i j:Nat):Bool:=decide (kz.getD i 0 < kz.getD j 0)
def jQ (kz:List Int) (vs:List T7):List T7:=if vs.length < 2 then vs else (aX (kq kz) (Wy vs.length)).toList.map λi=>vs.getD i UY
theorem Hv (kz:List Int) (vs:List T7):(jQ kz vs).length=vs.length:=by
 unfold jQ;split
 ·rfl
 ·exact Af (kq kz) (by omega)
theorem tw:∀{us:List T7}{kz:List Int}{i:Nat},XD us kz->i < us.length->∃t,us.getD i UY=.int (kz.getD i 0) t
 | _,_,0,.cons n t h,_=>⟨t,rfl⟩
 | _,_,i + 1,.cons n t h,hi=>by obtain ⟨t,e⟩:=tw (i:=i) h (by simpa using hi);exact ⟨t,by simpa using e⟩
theorem FW {a kS:UA}{vs:List T7}{keys:List T7}{kz:List Int}{e e1:Nat}{P:acG->T_->Prop}(hka:kS≠a) (nk:s.heap.get? kS=some (VF "list" keys.toArray e)) (na:s.heap.get? a=some (VF "list" #[] e1)) (hk:XD keys kz) (hlen:kz.length=vs.length) (h64:vs.length < 64)
  (h:∀h' c,(∀b o,b≠a->b≠kS->s.heap.get? b=some o->h'.get? b=some o)->h'.get? a=some (VF "list" (jQ kz vs).toArray c)->P (.done (.ret .none)) {s with heap:=h'}):
  Uu (UB prog w) A (ksk_end a false vs.toArray e1 (.ref kS) keys.toArray) P E s:=by
 have kl:keys.length=vs.length:=by have:=hk.length;omega
 have tail:∀st:SortSt,(arrOf st).map (·.2)=(jQ kz vs).toArray->aeD st=none->Uu (UB prog w) A (ksk_tail a false e1 (.ref kS) st) P E s:=λst ho hf=>by
  have na1:(s.heap.update kS (Vj λ_=>(#[]:Array T7))).get? a=some (VF "list" #[] e1):=by rw [VU _ _ _ _ hka.symm];exact na
  obtain ⟨c2,hc2⟩:∃c2,((s.heap.update kS (Vj λ_=>(#[]:Array T7))).update a (Vj λ_=>(jQ kz vs).toArray)).get? a=some (VF "list" (jQ kz vs).toArray c2):=⟨_,Yn na1 λ_=>(jQ kz vs).toArray⟩;unfold ksk_tail;dsimp only;rw [ho];refine T4 (Xl nk rfl ?_ (by rw [Ug,kl,U7];omega) (UD _));refine T4 (Z8 (T4 (Zt na1 rfl ?_)));refine T4 (Xl na1 rfl ?_ (UD _) (by show (jQ kz vs).toArray.size<=_;rw [Ug,Hv,U7];omega));rw [hf];simp only [bne_self_eq_false,Um,if_false];refine T6 (h _ c2 (λb o n1 n2 q=>?_) hc2);rw [VU _ _ _ _ n1,VU _ _ _ _ n2];exact q
 unfold ksk_end;dsimp only;rw [if_neg UH];by_cases h2:vs.toArray.size < 2
 ·rw [if_pos h2,if_pos h2];refine T4 (T6 ?_);rw [acI];refine T4 (T6 (tail _ ?_ rfl));have h2':vs.length < 2:=by rw [Ug] at h2;exact h2
  unfold jQ;rw [if_pos h2',if_neg UH];show (keys.toArray.zip vs.toArray).map (·.2)=_;apply Array.toList_inj.mp;simp [List.map_snd_zip,kl]
 ·rw [if_neg h2,if_neg h2,if_neg UH];have h2':2<=vs.length:=by rw [Ug] at h2;omega
  rw [ksk_kind (by rw [List.toList_toArray];exact hk) (by rw [Ug];omega)];refine T4 (T6 ?_);refine T4 (UZ (kat_run (E:=E) (Q:=λst' s'=>∃p:Array Nat,p.size=vs.length/\arrOf st'=p.map (kas_item (keys.toArray.zip vs.toArray))/\aeD st'=none/\p=aX (kq kz) (Wy vs.length)/\s'=s)
   kl h2' h64 (λp' st' s' a1 a2 a3 a4=>⟨p',a1,a2,a3,a4⟩) ((fL (by omega)).wp (q:=kq kz) (λi j C hi hj c=>?_) ⟨rfl,rfl⟩)) ?_ λ_ _ e=>e)
  ·obtain ⟨t1,q1⟩:=tw hk (i:=i) (by omega);obtain ⟨t2,q2⟩:=tw hk (i:=j) (by omega);show Uu _ _ (keyLt' _ (keys.getD i UY) (keys.getD j UY)) _ _ _;rw [q1,q2];exact W.kat_lt_int c
  ·rintro ⟨⟨⟩,st'⟩ s' ⟨p,hp,har,hf,rfl,rfl⟩;refine tail st' ?_ hf;rw [kat_snds kl har];unfold jQ;rw [if_neg (by omega)]
end
end DL
namespace DL
open PySem PySem.Spec PyProof.Rows L2
section
variable {prog:Uv}{w:US}{A:UW}{E:T7->T_->Prop}{s:T_}
noncomputable def Gm (prog:Uv) (w:US) (A:UW) (s:T_) (f:T7) (vs:List T7) (kz:List Int):Prop:=kz.length=vs.length/\∀(i:Nat) (v:T7) (k:Int),vs[i]?=some v->kz[i]?=some k->∀h tk,Kp s.heap h->∀(C:T7->T_->Prop) (E':T7->T_->Prop),(∀t tk',C (.int k t) {s with heap:=h,toks:=tk'})->Uu (UB prog w) A (call f [v]) C E' {s with heap:=h,toks:=tk}
theorem Ds {a kS:UA}{s0:T_}{f:T7}{vs:List T7}{kz:List Int}{e1 tk0:Nat}{h0:VJ}{P:acG->T_->Prop}(K:Gm prog w A s0 f vs kz) (k0:∀b o,s0.heap.get? b=some o->b≠a/\b≠kS/\h0.get? b=some o) (hka:kS≠a) (nk:h0.get? kS=some (VF "list" #[] 0)) (na:h0.get? a=some (VF "list" #[] e1)) (h64:vs.length < 64)
  (h:∀h' tk c,(∀b o,s0.heap.get? b=some o->h'.get? b=some o)->h'.get? a=some (VF "list" (jQ kz vs).toArray c)->P (.done (.ret .none)) {s0 with heap:=h',toks:=tk}):
  Uu (UB prog w) A (ksk_rest a f false vs.toArray e1 (.ref kS)) P E {s0 with heap:=h0,toks:=tk0}:=by
 have hlen:=K.1;unfold ksk_rest;refine T4 (Zn ?_);rw [List.forIn_toArray];refine T4 (ksk_fold (λi s'=>∃(h':VJ) (tk:Nat) (kA:List T7) (e:Nat),s'={s0 with heap:=h',toks:=tk}/\(∀b o,s0.heap.get? b=some o->h'.get? b=some o)/\h'.get? a=some (VF "list" #[] e1)/\h'.get? kS=some (VF "list" kA.toArray e)/\XD kA (kz.take i)) vs 0 _
  ⟨h0,tk0,[],0,rfl,λb o q=>(k0 b o q).2.2,na,nk,by simpa using IntsAre.nil⟩ ?_ ?_)
 ·rintro j x s' hx ⟨h',tk,kA,e,rfl,kp,na',nk',hk⟩;simp only [Y4] at hk ⊢;have hj:j < vs.length:=(Uy.mp hx).1;obtain ⟨k,hkj⟩:∃k,kz[j]?=some k:=⟨_,Uk (by omega)⟩;have hz:kA.length<=vs.length:=by have h1:=hk.length;rw [Vf] at h1;omega
  refine T4 (WU (K.2 j x k hx hkj h' tk kp _ _ λt2 tk2=>?_));dsimp only;obtain ⟨c2,hc2⟩:∃c2,(h'.update kS (Vj (·.push (.int k t2)))).get? kS=some (VF "list" (kA.toArray.push (.int k t2)) c2):=⟨_,Yn nk' (·.push (.int k t2))⟩;have ek:kz.take (j + 1)=kz.take j++[k]:=by rw [List.take_add_one,hkj];simp
  refine T4 (Xl nk' rfl ?_ (by rw [Ug,U7];omega) (UC (ab5 (Array.size_push ..)) (by rw [Ug,U7];omega)));refine T6 ⟨rfl,_,_,kA++[.int k t2],c2,rfl,λb o q=>?_,?_,by rw [hc2];simp,by rw [ek];exact ksk_snoc hk⟩
  ·rw [VU _ _ _ _ (k0 b o q).2.1];exact kp b o q
  ·rw [VU _ _ _ _ hka.symm];exact na'
 ·rintro s' ⟨h',tk,kA,e,rfl,kp,na',nk',hk⟩;rw [Y4,aao (by omega)] at hk;refine T4 (aaD nk' rfl ?_);exact FW hka nk' na' hk hlen h64 λh2 c kp2 q=>h h2 tk c (λb o q=>kp2 b o (k0 b o q).1 (k0 b o q).2.1 (kp b o q)) q
theorem sortedK {x f:T7}{kw:List (Str×T7)}{vs:List T7}{kz:List Int}{Q:T7->T_->Prop}(Ri:Coll prog w A.in1 s x vs) (h64:vs.length < 64) (K:Gm prog w A.in1.in1 s f vs kz)
  (ha1:ab_ "sorted" ⟨[x],kw⟩) (ha2:∀x,ab_ "list.sort" ⟨[.ref x],kw⟩) (ht:∀x,Xv.«list.sort» ⟨[.ref x],kw⟩=ksk_tree x f false)
  (h:∀h' tk l n,Kp s.heap h'->s.heap.objs.size<=l->h'.get? l=some (VF "list" (jQ kz vs).toArray n)->Q (.ref l) {s with heap:=h',toks:=tk}):Uu (UB prog w) A (call (.builtin "sorted") [x] kw) Q E s:=by
 have sl:vs.length<=sizeLine:=by rw [U7];omega
 refine call_function_entry_kw kind_sorted plain_sorted entry_sorted ha1 ?_;unfold Xv.«sorted»;refine T4 (m:=checkCount "sorted" 1 1 _) ((T6 ?_));refine T4 (Ri _ _ λh1 tk1 k1 le1=>?_);refine T4 (Zj ?_ sl);have gL:(h1.push (VF "list" vs.toArray 0)).get? h1.objs.size=some (VF "list" vs.toArray 0):=Uh _ rfl;have kp:∀b o,s.heap.get? b=some o->b≠h1.objs.size/\(h1.push (VF "list" vs.toArray 0)).get? b=some o:=λb o e=>by have e1:=k1 b o e;exact ⟨UE (Uq e1),T9 _ e1⟩
 dsimp only;refine T4 (UN (wpAny_call_entry_kw aba ⟨_,gL,rfl⟩ aaG ?_ (ha2 _)));show Uu (UB prog w) A.in1.in1 (Xv.«list.sort» ⟨[.ref h1.objs.size],kw⟩) _ _ _;rw [ht];generalize hh:h1.push (VF "list" vs.toArray 0)=g0 at gL kp ⊢;have z0:h1.objs.size < g0.objs.size:=Uq gL;obtain ⟨e1,g1⟩:∃e1,(g0.update h1.objs.size (Vj λ_=>(#[]:Array T7))).get? h1.objs.size=some (VF "list" #[] e1):=⟨_,(Yn gL λ_=>#[])⟩;have z1:((g0.update h1.objs.size (Vj λ_=>(#[]:Array T7))).push (VF "tuple" vs.toArray 0)).objs.size=g0.objs.size + 1:=by rw [size_push',aah]
 unfold ksk_tree;refine T4 ((aaD gL rfl ?_));refine T4 (Xl gL rfl ?_ (by rw [Ug];exact sl) (UD _));refine T4 ((Zt g1 rfl ?_));refine T4 (aa9 ?_ (show vs.length<=_ from sl));refine T4 ((Zj ?_ (UD _)));refine (UN ?_);refine Ds (s0:=s) (kS:=((g0.update h1.objs.size (Vj λ_=>(#[]:Array T7))).push (VF "tuple" vs.toArray 0)).objs.size) K (λb o q=>⟨(kp b o q).1,?_,?_⟩) ?_ (Uh _ rfl) (T9 _ (T9 _ g1)) h64 λh' tk c k2 q=>⟨_,rfl,T6 ⟨_,rfl,h h' tk _ c k2 le1 q⟩⟩
 ·rw [z1];exact UE (V6 (Uq (kp b o q).2))
 ·exact T9 _ (T9 _ (by rw [VU _ _ _ _ (kp b o q).1];exact (kp b o q).2))
 ·rw [z1];exact Xf (V6 z0)
end
end DL
namespace DL
open PySem PySem.Spec PyProof.Rows L2
open PySem.W (kas_sort)
section
variable {X:Cx}{c:C}{e:UU}{g:G R}{pos:Pos}
noncomputable def mP:D->Int
 | .tup xs=>(xs.length:Nat)
 | _=>0
noncomputable def CJ:D->Bool
 | .tup _=>true
 | _=>false
def mD (ds:List D):List D:=if ds.length < 2 then ds else (aX (kq (ds.map mP)) (Wy ds.length)).toList.map (dz ds)
def EA (g:G R):G R:=λenv=>g env >>= λr=>jq r >>= λds=>if (decide (ds.length < 64) && ds.all CJ)=true then .ok (.l .fresh (mD ds)) else .bad
theorem GY {TN:List (UA×Obj)}{s:T_}{σ:L2.St}{H:Hp}{A:UW}{ds:List D}{vs:List V}{TR:List T7}(I:Inv X TN σ H s) (rs:aK X.K H ds vs) (rv:Vals vs TR) (ht:ds.all CJ=true):Gm X.prog X.w A s (.builtin "len") TR (ds.map mP):=by
 refine ⟨by rw [T8,rs.length,rv.length],λi u k hu hk h tk kp C E' hC=>?_⟩;rw [UK] at hk;cases hd:ds[i]? with
 | none=>rw [hd] at hk;cases hk
 | some d=>
  rw [hd] at hk;cases hk;obtain ⟨v,hv,r⟩:=rs.get hd;obtain ⟨u',hu',ru⟩:=rv.get hv;rw [hu] at hu';cases hu';have td:=Uz.mp ht d (UX hd);cases d with
  | tup xs=>
   cases r with
   | tup h1 h2=>
    cases ru;obtain ⟨js,r',p,z⟩:=I.tuple h1;have e:=h2.length;have e':=r'.length;have hn:=lH;have p':adV (Shared.heap {s with heap:=h,toks:=tk}) _ js.toArray:=let ⟨o,h1,h2⟩:=p;⟨o,kp _ _ h1,h2⟩
    refine len_tuple p' (by simp only [Ug] <;> omega) ?_;have:=hC (tk + 1) (tk + 2);rw [show mP (.tup xs)=((xs.length:Nat):Int) from rfl,e,e',<-Ug] at this;exact this
  | _=>cases td
theorem Fz {p vp kp:Pos}(ha:QD X c e g) (hm:X.mg "sorted"=none) (hml:X.mg "len"=none) (hK:X.K=c.K:=by rfl) (hg:Gl X "sorted":=by rfl) (S_:Gl X "len":=by rfl)
  (he:Vx pos (Uj [e] X.env)=(false,eval e X.env)::Vx pos (Uj [] X.env):=by rfl) (hst:Uj [e] X.env=(false,eval e X.env)::Uj [] X.env:=by rfl)
  (hplain:(Vx pos (Uj [e] X.env)).any (·.1)=false:=by rfl):
  QD X c (.Call (.Name "sorted" p) [e] [⟨some "key",.Name "len" vp,kp⟩] pos) (EA g):=by
 refine ⟨λTN s σ H Q I ⟨J,env,sr,w⟩=>?_⟩;refine WT (lG I hg hm adw ?_ (by decide) (by decide));refine ZX (bN ((eH ha.h gD hst) pos TN s σ H (λvs H1=>∃p ws ds J1,vs=[.ref p]/\cg X.K H1 p ws/\aK X.K J1 ds ws/\Ext J H J1 H1/\ds.length < 64/\ds.all CJ=true/\∀v J' H',Ext J H J' H'->RR c H J' H' (.l .fresh (mD ds)) v->Q v H') I ⟨J,env,sr,aF (aM w) λr wr v J1 H1 e1 r1=>?_⟩) λus s1 ⟨vs,H1,I1,rv,p,ws,ds,J1,hvs,hq,hrs,e1,l64,ht,q⟩=>?_) he hplain rfl rfl
 ·obtain ⟨xs,hx,wr⟩:=je wr;obtain ⟨p,ws,rfl,hl,hs⟩:=RR.list (sr.hp.ext e1) r1 hx;split at wr
  ·rename_i hok;rw [Ub] at hok;exact ⟨p,ws,xs,J1,rfl,by rw [hK];exact hl,by rw [hK];exact hs,e1,of_decide_eq_true hok.1,hok.2,wr⟩
  ·exact wr.elim
 ·subst hvs;obtain ⟨u,rfl,ru⟩:=rv.one;cases ru;refine aaC (lG I1 S_ hml ac5 (aa2 ?_) (by decide) (by decide));obtain ⟨TR,r',Ri⟩:=zP (A:=X.A.in1) I1 (.inl hq);have l1:=r'.length;have l2:=hrs.length;show Uu _ _ (call (.builtin "sorted") [.ref p] [("key",.builtin "len")]) _ _ s1;refine sortedK Ri (by omega) (GY I1 (hrs.mono e1.sub) r' ht) (ksk_s1 _ _) (λx=>ksk_l1 _ _) (λx=>ksk_t4 _ x) λh' tk l n kp hl hg=>?_;have fin:∀(ot:List T7) (vs':List V),vs'.length=ws.length->Vals vs' ot->aK X.K J1 (mD ds) vs'->h'.get? l=some (VF "list" ot.toArray n)->EP X TN σ Q (.ref l) {s1 with heap:=h',toks:=tk}:=λot vs' lv rv' rr hg=>
   ⟨.ref l,_,I1.laid (t':=tk) kp hl (show cF X.prog X.w _ _ _ (.lst vs') from ⟨by rw [lv,U7];omega,ot,n,rv',by simpa [VF] using hg⟩),rfl,q _ J1 _ (e1.trans (Ext.new e1.sub (I1.hok.fresh hl) _)) (RR.from e1.h (gF (sr.hp.ext e1) (I1.hok.fresh hl) (hK▸rr)))⟩
  unfold jQ at hg;by_cases h2:TR.length < 2
  ·rw [if_pos h2] at hg;refine fin TR ws rfl r' ?_ hg;unfold mD;rw [if_pos (by omega)];exact hrs
  ·rw [if_neg h2] at hg;have ib:∀i∈(aX (kq (ds.map mP)) (Wy ds.length)).toList,i < ds.length:=λi hi=>by have:=((fL (n:=ds.length) (by omega)).run (kq (ds.map mP)):fK _ _);have:=(Xw this).mp (Zh.mp hi);simpa using this
   rw [<-l1,<-l2] at hg;refine fin _ _ ?_ (wD r' _ λi hi=>l2▸ib i hi) ?_ hg
   ·rw [T8,<-l2];have:=((fL (n:=ds.length) (by omega)).run (kq (ds.map mP)):fK _ _).size_eq;simpa using this
   ·unfold mD;rw [if_neg (by omega)];exact wm hrs _ ib
end
end DL
namespace K66
open PySem DL
def pD:List Str:=["pairing","letters","told","pair"]
noncomputable def pU:G O:=(aI (bh 2 (cU (az (bC aQ) aQ)))
 (aI (bV (c8 (af 0)) (aA 3) (bh 2 (g2 qJ (af 2) (bM 1 [3] (ff (af 2)) (aA 0) cA (g2 cH (af 0) (bC (az (af 1) aQ)))))))
 (bw (EA (bM 1 [1] (ff (af 2)) (aA 0) (bB (g2 (kD λi j=>.bl (decide (i < j))) (gN dY (ao (af 0) aG)) (af 1))) (af 0))))))
def jm (as:List S):M R:=fin (pU (a_ pD as))
def rD:List Str:=["one","other","letters","known","rows","all_rows"]
noncomputable def rW:G O:=(aI (bh 3 (gO 1 [] (ff (gN (aT 3 K23.lT) (ao (af 0) (ao (af 1) (ao (af 2) aG))))) (aA 0) cA (af 0) (gC (.bl true))))
 (aI (bh 4 (gO 1 [2,0,1,3] (mL (af 3)) (aA 0) (bB (g2 (kD λi j=>.bl (decide (i < j))) (gN dY (ao (af 0) aG)) (af 1))) (af 0) (gN (aT 4 K33.lS) (ao (af 2) (ao (af 3) (ao (af 0) (ao (af 4) aG)))))))
 (aI (bh 5 (gO 1 [2,4] (mL (af 3)) (aA 0) cA (af 0) (pN 2 [2] (ff (gN (aT 2 K66.jm) (ao (af 0) (ao (af 1) aG)))) (aA 0) cA (c8 (g2 fu (af 2) (af 0))) (aA 1) cA (af 1))))
 (bw (Ez "answered_still" K33.mR (af 5))))))
def jX (as:List S):M R:=fin (rW (a_ rD as))
end K66
namespace K66
open PySem DL K01 WP K51 K52 K55 K22 K33
open K23 (Pr aE Good told gP fN)
noncomputable def d_:Ps->List Ps->List Ps
 | [],T=>T
 | p::ps,T=>d_ ps (T++T.map λq=>q++[p])
theorem p6:∀{ps:Ps}{T:List Ps}{q:Ps},q∈d_ ps T↔∃a∈T,∃b,b.Sublist ps/\q=a++b
 | [],T,q=>⟨λh=>⟨q,h,[],.slnil,by simp⟩,λ⟨a,ha,b,hb,e⟩=>by cases hb;simpa [e,d_] using ha⟩
 | p::ps,T,q=>by
  show q∈d_ ps _↔_;rw [p6];constructor
  ·rintro ⟨a,ha,b,hb,rfl⟩;rcases UI.mp ha with h | h
   ·exact ⟨a,h,b,hb.cons _,rfl⟩
   ·obtain ⟨a',h',rfl⟩:=Ui.mp h;exact ⟨a',h',p::b,hb.cons₂ _,by simp⟩
  ·rintro ⟨a,ha,b,hb,rfl⟩;cases hb with
   | cons _ h=>exact ⟨a,UI.mpr (.inl ha),b,h,rfl⟩
   | cons_cons _ h=>exact ⟨a++[p],UI.mpr (.inr (Ui.mpr ⟨a,ha,rfl⟩)),_,h,by simp⟩
def vz (n:Nat) (ps:Ps) (L:List Ps):Prop:=∀q,q∈L↔q.Sublist ps/\q.length < n
section
variable {v w:Wd}{n j:Nat}
def u6 (v w:Wd) (n:Nat) (q:Ps):List (List Ps):=(picks v w).map λk=>((nE v w k).map (dO q)).filter λx=>decide (x∈told v w n)
def RF (v w:Wd) (n:Nat) (pt:Ps->List Ps) (ps:Ps):List (List Ps):=(pt ps).flatMap (u6 v w n)
variable {pt:Ps->List Ps}
theorem IC:∀k,∀r∈RF v w n pt k,∀x∈r,x∈told v w n:=λk r hr x hx=>by obtain ⟨q,_,hr⟩:=Wo.mp hr;obtain ⟨a,_,rfl⟩:=Ui.mp hr;exact of_decide_eq_true (UT.mp hx).2
abbrev LF (v w:Wd) (n:Nat) (pt:Ps->List Ps):Nat->Ps->Bool:=LY (RF v w n pt)
theorem Pk (hp:∀ps,vz n ps (pt ps)){ps:Ps}:LF v w n pt (j + 1) ps=true↔LF v w n pt j ps=true/\∀q,q.Sublist ps->q.length < n->∀k∈picks v w,∃p∈nE v w k,dO q p∈told v w n/\LF v w n pt j (dO q p)=true:=by
 rw [Po];refine and_congr Iff.rfl ⟨λh q h1 h2 k hk=>?_,λh r hr=>?_⟩
 ·obtain ⟨x,hx,hL⟩:=h _ (Wo.mpr ⟨q,((hp ps) q).mpr ⟨h1,h2⟩,Ui.mpr ⟨k,hk,rfl⟩⟩);obtain ⟨hx,hd⟩:=UT.mp hx;obtain ⟨p,hp,rfl⟩:=Ui.mp hx;exact ⟨p,hp,of_decide_eq_true hd,hL⟩
 ·obtain ⟨q,hq,hr⟩:=Wo.mp hr;obtain ⟨k,hk,rfl⟩:=Ui.mp hr;obtain ⟨h1,h2⟩:=((hp ps) q).mp hq;obtain ⟨p,hp,h3,h4⟩:=h q h1 h2 k hk;exact ⟨dO q p,UT.mpr ⟨Ui.mpr ⟨p,hp,rfl⟩,decide_eq_true h3⟩,h4⟩
theorem jP (t:Pr v w){ps:Ps}:ps∈told v w n↔Good v w ps/\ps.length<=n:=by
 rw [gP];constructor
 ·rintro ⟨j,hj,h⟩;obtain ⟨h1,h2⟩:=(fN j).mp h;exact ⟨h2,by omega⟩
 ·rintro ⟨g,h⟩;exact ⟨ps.length,h,(fN _).mpr ⟨rfl,g⟩⟩
end
end K66
namespace K66
open PySem DL K01 WP K51 K52 K55 K22 K33
open PySem.W (kas_sort)
open K23 (Pr aE Good told gP fN eZ fC bx eS dG dB)
def tR (L:List Ps):List Ps:=if L.length < 2 then L else (aX (kq ((L.map aE).map mP)) (Wy L.length)).toList.map λi=>L.getD i []
theorem vQ {L:List Ps}(h:0 < L.length) (i:Nat):i∈(aX (kq ((L.map aE).map mP)) (Wy L.length)).toList↔i < L.length:=by have:=((fL (n:=L.length) h).run (kq ((L.map aE).map mP)):fK _ _);rw [Zh,Xw this];simp
theorem H_ (L:List Ps):mD (L.map aE)=(tR L).map aE:=by
 unfold mD tR;rw [T8];by_cases h:L.length < 2
 ·rw [if_pos h,if_pos h]
 ·rw [if_neg h,if_neg h];refine Eq.trans (Wa λi hi=>?_) (UM (f:=λi=>L.getD i [])).symm;have hi:=(vQ (by omega) i).mp hi;show (L.map aE).getD i .non=aE (L.getD i []);simp [Zz,hi]
theorem G6 {L:List Ps}{q:Ps}:q∈tR L↔q∈L:=by
 unfold tR;by_cases h:L.length < 2
 ·rw [if_pos h]
 ·rw [if_neg h,Ui];constructor
  ·rintro ⟨i,hi,rfl⟩;have hi:=(vQ (by omega) i).mp hi;simp [Zz,hi]
  ·intro hq;obtain ⟨i,hi,rfl⟩:=VD.mp hq;exact ⟨i,(vQ (by omega) i).mpr hi,by simp [Zz,hi]⟩
theorem Ig (L:List Ps):(tR L).length=L.length:=by
 unfold tR;by_cases h:L.length < 2
 ·rw [if_pos h]
 ·rw [if_neg h,T8];have:=((fL (n:=L.length) (by omega)).run (kq ((L.map aE).map mP)):fK _ _).size_eq;simpa using this
def g9 (n:Nat) (ps:Ps):List Ps:=tR ((d_ ps [[]]).filter λq=>decide (q.length < n))
theorem Fq (n:Nat) (ps:Ps):vz n ps (g9 n ps):=λq=>by
 unfold g9;rw [G6,UT,p6,decide_eq_true_eq];constructor
 ·rintro ⟨⟨a,ha,b,hb,rfl⟩,hl⟩;cases Ul.mp ha;exact ⟨hb,hl⟩
 ·rintro ⟨h,hl⟩;exact ⟨⟨[],by simp,q,h,rfl⟩,hl⟩
theorem jy:∀(ps:Ps) (T:List Ps),(d_ ps T).length=T.length * 2 ^ ps.length
 | [],T=>by simp [d_]
 | p::ps,T=>by show (d_ ps _).length=_;rw [jy,Uo,T8,U4,Y3];rw [<-aev,adU,ab8 2]
theorem uV (ps:Ps) (n:Nat):∀(qs:Ps) (T:List Ps) (z:Option S),(∀q∈T,q.length + qs.length<=4)->T.length * 2 ^ qs.length<=16->Wp (eE (aA 3) (bh 2 (g2 qJ (af 2) (bM 1 [3] (ff (af 2)) (aA 0) cA (g2 cH (af 0) (bC (az (af 1) aQ)))))) (qs.map dP) [some (.d (aE ps)),some (.d (.int n)),some (.own (T.map aE)),z])
  λo=>∃z',o=.nx [some (.d (aE ps)),some (.d (.int n)),some (.own ((d_ qs T).map aE)),z']:=by
 intro qs
 induction qs with
 | nil=>exact λT z _ _=>⟨_,rfl,z,rfl⟩
 | cons p qs ih=>
  intro T z h1 h2;have tl:T.length<=16:=by have:1<=2 ^ (p::qs).length:=Nat.one_le_two_pow;exact UC (Nat.le_mul_of_pos_right _ this) h2
  rw [Ur];show Wp (aA 3 (dP p) _ >>= _) _;rw [show aA 3 (dP p) [some (.d (aE ps)),some (.d (.int n)),some (.own (T.map aE)),z]=.ok [some (.d (aE ps)),some (.d (.int n)),some (.own (T.map aE)),some (.d (dP p))] from rfl,aN];have hs:bh 2 (g2 qJ (af 2) (bM 1 [3] (ff (af 2)) (aA 0) cA (g2 cH (af 0) (bC (az (af 1) aQ))))) [some (.d (aE ps)),some (.d (.int n)),some (.own (T.map aE)),some (.d (dP p))]=.ok (.nx [some (.d (aE ps)),some (.d (.int n)),some (.own ((T++T.map λq=>q++[p]).map aE)),some (.d (dP p))]):=by
   show (g2 _ _ _ _ >>= _)=_;rw [two (x:=.l .own (T.map aE)) (z:=.l .fresh ((T++T.map λq=>q++[p]).map aE)) rfl (jJ (xs:=T) (h:=aE) (λq=>aE (q++[p])) rfl (by omega) λq hq=>⟨_,two rfl (bF (aH rfl rfl bf) (by show 1<=1000;decide)) (Dz (q.map dP) [dP p] (by have:=h1 q hq;simp;omega)),?_⟩) ?_]
   ·rfl
   ·show (if (T.map aE).length + (T.map λq=>aE (q++[p])).length<=sizeLine then M.ok (R.l .fresh (T.map aE++T.map λq=>aE (q++[p]))) else .bad)=_;rw [if_pos (fj (by simp;omega)),Us,UM];rfl
   ·skip
    show _=M.ok (aE (q++[p]));rw [show aE (q++[p])=.tup (q.map dP++[dP p]) by simp [aE]];rfl
  rw [hs,aN];refine ih (T++T.map λq=>q++[p]) _ (λq hq=>?_) ?_
  ·rcases UI.mp hq with h | h
   ·have:=h1 q h;simp at this;omega
   ·obtain ⟨q',h',rfl⟩:=Ui.mp h;have:=h1 q' h';simp at this ⊢;omega
  ·rw [Uo,T8,<-aev,adU,ab8 2,<-Y3];exact h2
theorem Jw (ps:Ps) (n:Nat) (hl:ps.length<=4):K66.jm [.d (aE ps),.d (.int n)]=.ok (.l .fresh ((g9 n ps).map aE)):=by
 refine b9 (bD (eV (aH (bF bf (by decide)) rfl bf) (by show 1<=1000;decide)) rfl ?_);refine cY (ds:=ps.map dP) rfl ?_;refine (uV ps n ps [[]] none (by simpa using hl) (by simpa using U3 (by decide:0 < 2) hl)).mono λo ho=>?_;obtain ⟨z,rfl⟩:=ho;show Wp _ _;have ln:(d_ ps [[]]).length<=16:=by rw [jy];simpa using U3 (by decide:0 < 2) hl
 refine bG (r:=.l .fresh ((g9 n ps).map aE)) ?_ rfl rfl;show (bM _ _ _ _ _ _ _ >>= _)=_;rw [lY (xs:=d_ ps [[]]) (h:=aE) (λq=>decide (q.length < n)) aE rfl (by omega) λq hq=>⟨bx (n1 rfl (vV _)) rfl ?_,λ_=>⟨_,rfl,rfl⟩⟩,aN]
 ·show (if (decide ((((d_ ps [[]]).filter λq=>decide (q.length < n)).map aE).length < 64) && (((d_ ps [[]]).filter λq=>decide (q.length < n)).map aE).all CJ)=true then M.ok (R.l .fresh (mD (((d_ ps [[]]).filter λq=>decide (q.length < n)).map aE))) else .bad)=_;rw [if_pos ?_,H_]
  ·rfl
  ·rw [Ub,decide_eq_true_eq,T8];exact ⟨Yq (UR _ _) (by omega),Uz.mpr λd hd=>by obtain ⟨q,_,rfl⟩:=Ui.mp hd;rfl⟩
 ·show M.ok (R.d (.bl (decide (((q.map dP).length:Int) < (n:Int)))))=_;rw [T8];congr 4;simp
end K66
namespace K66
open PySem DL K01 WP K51 K52 K55 K22 K33
open K23 (Pr aE Good told gP fN eZ fC bx eS dG dB jh qH mW qC)
section
variable {α:Type} [DecidableEq α] {e f:α->D}{ks:List α}{k:α}{env:Ev}{p:α->Bool}
theorem L7 {act:Ev->M (List D×Ev)}{gts:G Bool}{h f:α->D}{rest:Ev}:∀(ys:List α),(∀y∈ys,gts (some (.d (h y))::rest)=.ok (p y)/\(p y=true->act (some (.d (h y))::rest)=.ok ([f y],some (.d (h y))::rest)))->∀z:Option S,∃z',bP (aA 0) gts act (ys.map h) (z::rest)=.ok ((ys.filter p).map f,z'::rest)
 | [],_,z=>⟨z,rfl⟩
 | y::ys,H,z=>by
  obtain ⟨z',ih⟩:=L7 ys (λy hy=>H y (Ua _ hy)) (some (.d (h y)));obtain ⟨h1,h2⟩:=H y Uc;refine ⟨z',?_⟩;rw [Ur];unfold bP;show (gts (some (.d (h y))::rest) >>= _)=_;rw [h1,aN,Yb];cases q:p y with
  | false=>exact ih
  | true=>
   show (act (some (.d (h y))::rest) >>= _)=_;rw [h2 q,aN];show (bP (aA 0) gts act (ys.map h) (some (.d (h y))::rest) >>= _)=_;rw [ih];rfl
theorem JO {cap:List Nat}{gi:G (List D)}{gts:G Bool}{gk gv:G R}(p:α->Bool) (he:∀a b,bq (e a) (e b)=decide (a=b)) (nd:ks.Nodup) (hi:gi env=.ok (ks.map e)) (hl:ks.length<=1000000)
  (hb:∀k∈ks,gts (some (.d (e k))::cE 0 cap env)=.ok (p k)/\(p k=true->dD (e k)=true/\gk (some (.d (e k))::cE 0 cap env)=.ok (.d (e k))/\∃r,gv (some (.d (e k))::cE 0 cap env)=.ok r/\toD r=.ok (f k))):gO 1 cap gi (aA 0) gts gk gv env=.ok (.mf ((ks.filter p).map e) ((ks.filter p).map f)):=by
 obtain ⟨z,h⟩:=L7 (p:=p) (act:=nQ gk gv) (gts:=gts) (h:=e) (f:=λk=>.tup [e k,f k]) (rest:=cE 0 cap env) ks (λk hk=>⟨(hb k hk).1,λq=>by
  obtain ⟨h1,h2,r,h3,h4⟩:=(hb k hk).2 q;exact mW h2 rfl h3 h4 h1⟩) none
 unfold gO gA;rw [hi,aN,if_pos (by rw [T8];exact hl)];show (bP (aA 0) gts (nQ gk gv) (ks.map e) (none::cE 0 cap env) >>= _)=_;rw [h];show M.ok (R.mf (iA _).1 (iA _).2)=_;rw [qI he f _ (ks.filter p) rfl (nd.filter _)]
end
section
variable {κ:Type} [DecidableEq κ] {st:(κ->Bool)->κ->Bool}{ks:List κ}
def BI (st:(κ->Bool)->κ->Bool) (ks:List κ) (d:Nat):Prop:=d + (ks.filter (LZ st d)).length<=ks.length
theorem Ol {d:Nat}{k:κ}(h:BI st ks d) (hk:k∈ks) (h1:LZ st d k=true) (h2:LZ st (d + 1) k=false):BI st ks (d + 1):=by
 have sub:∀(xs:List κ),(xs.filter (LZ st (d + 1))).length<=(xs.filter (LZ st d)).length/\(k∈xs->(xs.filter (LZ st (d + 1))).length < (xs.filter (LZ st d)).length):=by
  intro xs
  induction xs with
  | nil=>exact ⟨Ud _,λh=>nomatch h⟩
  | cons x xs ih=>
   have mono:LZ st (d + 1) x=true->LZ st d x=true:=λh=>(yQ.mp h).1;rw [Yb,Yb];cases q1:LZ st (d + 1) x with
   | true=>
    rw [mono q1];simp only [if_true,U4];refine ⟨by omega,λhm=>?_⟩;rcases Uw.mp hm with rfl | hm
    ·rw [h2] at q1;cases q1
    ·have:=ih.2 hm;omega
   | false=>
    cases q2:LZ st d x with
    | true=>
     simp only [if_true,Um,if_false,U4];exact ⟨by omega,λ_=>by omega⟩
    | false=>
     simp only [Um,if_false];refine ⟨ih.1,λhm=>?_⟩;rcases Uw.mp hm with rfl | hm
     ·rw [h1] at q2;cases q2
     ·exact ih.2 hm
 have:=(sub ks).2 hk;unfold BI at *;omega
end
section
variable {rows:Ps->List (List Ps)}{ks:List Ps}
theorem Jx (nd:ks.Nodup) (hl:ks.length<=390000) (hc:∀k∈ks,∀r∈rows k,∀x∈r,x∈ks) (h1:∀k∈ks,(rows k).length<=1000) (h2:∀k∈ks,∀r∈rows k,r.length<=1000):
  ∃d,d<=ks.length/\mR [.db (ks.map aE) (ks.map (u5 rows)),.fn "answered_still"]=.ok (.mf (ks.map aE) (ks.map λk=>dV (dA rows d k)))/\∀k∈ks,LY rows d k=true->LY rows (d + 1) k=true:=by
 have st:∀d k,k∈ks->cV [.d (u5 rows k),.db (ks.map aE) (ks.map λk=>dV (dA rows d k))]=.ok (.d (.bl (FN rows (LY rows d) k))):=λd k hk=>by rw [Jz (rows k) ks (dA rows d) (hc k hk) (h1 k hk) (h2 k hk)];congr 4;funext r;congr 1;funext x;rw [U_,Option.isNone_iff_eq_none,jK]
 have dx:∀k∈ks,∀x:R,rN x=some (ks.map aE,ks.map (u5 rows))->fu x (.d (aE k))=.ok (.d (u5 rows k)):=λk hk x hx=>jL fm hx (d9 k) hk;obtain ⟨d,hd,h,hs⟩:=Ly (ks:=ks) (val:=u5 rows) (x:="answered_still") (st:=FN rows) (c1:=Pe 1 2 3 "answered_still" cV) (c2:=Pe 2 3 1 "answered_still" cV) (BI (FN rows) ks) (by unfold BI;rw [Y4];exact UR _ _) (λd hd k hk q1 q2=>Ol hd hk q1 q2) nd hl
  (λk hk d _=>(c2 (two rfl rfl (dx k hk _ rfl)) rfl (st d k hk)).trans rfl) (λk hk d _=>(c2 (two rfl rfl (dx k hk _ rfl)) rfl (st d k hk)).trans rfl)
 exact ⟨d,by unfold BI at hd;omega,h,hs⟩
end
section
variable {v w:Wd}{n:Nat}
theorem BQ {ps:Ps}(h:ps.length<=4):(g9 n ps).length<=16:=by unfold g9;rw [Ig];refine UC (UR _ _) ?_;rw [jy];simpa using U3 (by decide:0 < 2) h
theorem DG (t:Pr v w) (hn:n<=4):∃d,d<=(told v w n).length/\K66.jX [.d v.d,.d w.d,.d (.int n)]=.ok (.mf ((told v w n).map aE) ((told v w n).map λk=>dV (dA (RF v w n (g9 n)) d k)))/\∀k∈told v w n,LF v w n (g9 n) d k=true->LF v w n (g9 n) (d + 1) k=true:=by
 have v4:=t.v4;have w4:=t.w4;have tl:=K23.oB t n hn;have nd:=wC v w n;have four:∀k∈told v w n,k.length<=4:=λk hk=>UC ((jP t).mp hk).2 hn;have pl:(picks v w).length<=8:=by unfold picks;simp;omega
 have l1:∀q,(u6 v w n q).length<=8:=λq=>by unfold u6;rw [T8];exact pl
 have h1:∀k∈told v w n,(RF v w n (g9 n) k).length<=1000:=λk hk=>by have:=K23.jN (u6 v w n) 8 (g9 n k) λq _=>l1 q;have:=BQ (n:=n) (four k hk);unfold RF;omega
 have h2:∀k∈told v w n,∀r∈RF v w n (g9 n) k,r.length<=1000:=λk _ r hr=>by obtain ⟨q,_,hr⟩:=Wo.mp hr;obtain ⟨a,_,rfl⟩:=Ui.mp hr;refine UC (UR _ _) ?_;rw [T8];unfold nE;split <;> simp <;> omega
 obtain ⟨d,dl,h,hs⟩:=Jx (ks:=told v w n) (rows:=RF v w n (g9 n)) nd (by omega) (λk _=>IC k) h1 h2;refine ⟨d,dl,?_,hs⟩;refine b9 (bD (zA (e:=aE) (f:=λ_=>.bl true) (ks:=told v w n) fm nd ?_ (by omega) λk hk=>⟨d9 k,rfl,_,rfl,rfl⟩) rfl (bD (JO (e:=aE) (f:=u5 (u6 v w n)) (ks:=told v w n) (λk=>decide (k.length < n)) fm nd rfl (by omega) λk hk=>⟨?_,λ_=>⟨d9 k,rfl,_,c4 rfl rfl rfl rfl (N7 t (told v w n) k (by have:=four k hk;omega)),rfl⟩⟩) rfl (bD (zA (e:=aE) (f:=u5 (RF v w n (g9 n))) (ks:=told v w n) fm nd rfl (by omega) λk hk=>⟨d9 k,rfl,_,qH (xs:=g9 n k) (h:=aE) (h':=b8) (u6 v w n) (λ_ _=>true) (λ_ r=>b8 r) ?_ (by have:=BQ (n:=n) (four k hk);omega) λq hq=>⟨by have:=l1 q;omega,λz=>?_,λr hr=>⟨rfl,λ_=>qC rfl rfl⟩⟩,?_⟩) rfl (bG (r:=.mf ((told v w n).map aE) ((told v w n).map λk=>dV (dA (RF v w n (g9 n)) d k))) ?_ rfl rfl))))
 ·show (gN _ _ _ >>= _)=_;rw [c3 rfl rfl rfl (jh t n hn)];rfl
 ·refine bx (n1 rfl (vV _)) rfl ?_;show M.ok (R.d (.bl (decide (((k.map dP).length:Int) < (n:Int)))))=_;rw [T8];congr 4;simp
 ·show (gN _ _ _ >>= _)=_;rw [c2 rfl rfl (Jw k n (four k hk))];rfl
 ·have hq':=(Fq n k q).mp hq;have hm:q∈(told v w n).filter λk=>decide (k.length < n):=UT.mpr ⟨(jP t).mpr ⟨(zN ((Bs ((jP t).mp hk).1).sublist hq'.1)).mpr (DJ.sub ((zN (Bs ((jP t).mp hk).1)).mp ((jP t).mp hk).1) λx hx=>hq'.1.subset hx),by omega⟩,decide_eq_true hq'.2⟩;show (g2 fu _ _ _ >>= _)=_;rw [two rfl rfl (jL (f:=u5 (u6 v w n)) fm rfl (d9 q) hm)];rfl
 ·show M.ok (D.lst ((g9 n k).flatMap λq=>((u6 v w n q).filter λ_=>true).map b8))=M.ok (D.lst (((g9 n k).flatMap (u6 v w n)).map b8));congr 2;rw [Xr];refine congrArg (λf=>(g9 n k).flatMap f) (funext λq=>?_);rw [Xm.mpr λ_ _=>rfl]
 ·show (match K33.mR [.db ((told v w n).map aE) ((told v w n).map (u5 (RF v w n (g9 n)))),.fn "answered_still"] with
   | .ok r=>M.ok (nh r)
   | _=>.bad)=_
  rw [h];rfl
end
end K66
namespace K66
open PySem DL K01 WP K51 K52 K55 K22 K33 K72
open K23 (Pr aE Good told gP fN eZ fC bx eS dG dB jh LG prs ia allM)
section
variable {v w:Wd}{n:Nat}
theorem BE:∀(xs:List Int) (m:Int),m<=jw m xs/\(∀x∈xs,x<=jw m xs)/\(jw m xs=m\/jw m xs∈xs)
 | [],m=>⟨aet _,λ_ h=>(nomatch h),.inl rfl⟩
 | x::xs,m=>by
  obtain ⟨h1,h2,h3⟩:=BE xs (if x > m then x else m);have e:jw m (x::xs)=jw (if x > m then x else m) xs:=rfl;rw [e];have hm:m<=(if x > m then x else m)/\x<=(if x > m then x else m):=by split <;> omega
  refine ⟨ab7 hm.1 h1,λy hy=>?_,?_⟩
  ·rcases Uw.mp hy with rfl | hy
   ·exact ab7 hm.2 h1
   ·exact h2 y hy
  ·rcases h3 with h | h
   ·rw [h];split
    ·exact .inr (by simp)
    ·exact .inl rfl
   ·exact .inr (Ua _ h)
def nI (e:Nat):Int:=e
theorem Oi (es:List Nat):∃m:Nat,p5 0 (es.map nI)=(m:Int)/\(∀e∈es,e<=m)/\(m=0\/m∈es):=by
 cases es with
 | nil=>exact ⟨0,rfl,(λ_ h=>nomatch h),.inl rfl⟩
 | cons x xs=>
  obtain ⟨h1,h2,h3⟩:=BE (xs.map nI) (nI x);have e:p5 0 ((x::xs).map nI)=jw (nI x) (xs.map nI):=rfl;have key:∃m∈x::xs,jw (nI x) (xs.map nI)=nI m:=by
   rcases h3 with h | h
   ·exact ⟨x,by simp,h⟩
   ·obtain ⟨y,hy,q⟩:=Ui.mp h;exact ⟨y,Ua _ hy,q.symm⟩
  obtain ⟨m,hm,q⟩:=key;rw [q] at h1 h2 e;refine ⟨m,e,λy hy=>?_,.inr hm⟩;rcases Uw.mp hy with rfl | hy
  ·exact ad3.mp h1
  ·exact ad3.mp (h2 _ (Ui.mpr ⟨y,hy,rfl⟩))
theorem Bv:∀es:List Nat,intsOf (es.map dN)=some (es.map nI)
 | []=>rfl
 | e::es=>by show (intsOf (es.map dN)).map (_::·)=_;rw [Bv es];rfl
theorem IX {α:Type}{h:α->D}{tg:GT}{g:G Bool}(env:Option S->Ev) (p:α->Bool) (ht:∀x z,tg (h x) (env z)=.ok (env (some (.d (h x))))) (hg:∀x,g (env (some (.d (h x))))=.ok (p x)):∀(xs:List α) (z:Option S),Wp (eE tg (bL (fh g) (bw (gC (.bl false))) c5) (xs.map h) (env z)) λo=>if xs.all p=true then ∃z',o=.nx (env z') else o=.rt (.d (.bl false)):=by
 intro xs
 induction xs with
 | nil=>exact λz=>⟨_,rfl,z,rfl⟩
 | cons x xs ih=>
  intro z;rw [Ur,We];show Wp (tg (h x) (env z) >>= _) _;rw [ht,aN];cases q:p x with
  | true=>
   rw [pX (dB (b:=true) ((hg x).trans (by rw [q])))];exact ih _
  | false=>
   rw [nt (dB (b:=false) ((hg x).trans (by rw [q])))];exact ⟨_,rfl,rfl⟩
end
end K66
namespace K73
open PySem DL
end K73
namespace K73
open PySem DL K01 WP K51 K52 K55 K22 K33 K72
open K23 (Pr aE Good eZ fC bx ia dB ig j3 oG)
end K73
namespace K73
open PySem DL K01 WP K51 K52 K55 K22 K33 K72
open K23 (Pr aE Good eZ fC bx dB ig j3 oG eS dG)
end K73
namespace DL
open PySem PySem.Spec PyProof.Rows L2 DX
theorem NR.snoc {K:T5}{J:Hp}{P:UA->Prop}{b:UA}{ws:List V}{ds:List D}(h1:J b=some (.lst ws)) (h2:aK K J ds ws) (h3:P b):∀{xs:List D}{us:List V},NR K J P xs us->V.ref b∉us->NR K J P (xs++[.lst ds]) (us++[.ref b])
 | [],_,h,_=>by cases h;exact ⟨ds,b,ws,[],rfl,rfl,h1,h2,h3,VP,rfl⟩
 | _::_,_,⟨es,a,vs,us,k1,k2,k3,k4,k5,k6,k7⟩,n=>by
  subst k2;refine ⟨es,a,vs,us++[.ref b],k1,rfl,k3,k4,k5,λm=>?_,k7.snoc h1 h2 h3 λm=>n (Ua _ m)⟩;rcases UI.mp m with m | m
  ·exact k6 m
  ·rw [Ul.mp m] at n;exact n Uc
noncomputable def yW (ge:G R):Ev->M (List D×Ev):=λe=>ge e >>= λr=>match r with
 | .l .fresh ys=>.ok ([.lst ys],e)
 | _=>.bad
def accN (c:C) (p:UA) (H2:Hp):Hp->Hp->List D->Prop:=λJ H ys=>∃us,H p=some (.lst us)/\J p=none/\NR c.K J (λb=>H2 b=none) ys us
theorem Gq {c:C}{p:UA}{H2:Hp}:vn (accN c p H2):=⟨fun {J H J' H' ys} ⟨us,h1,h2,h3⟩ e=>⟨us,e.h _ _ h1,e.frz _ (by rw [h1];intro z;cases z) h2,h3.mono e.j λ_ h=>h⟩⟩
def pO (n:Nat) (cap:List Nat) (gi:G (List D)) (gt:GT) (gts:G Bool) (ge:G R):G R:=gA sizeLine n cap gi gt gts (yW ge) (λys=>.ok (.ln ys))
section
variable {X:Cx}{c:C}{p:UA}{J2 H2:Hp}{elt:UU}{ge:G R}
theorem Gr (hx:∀v s,X.xe v s->False) (hp2:H2 p=none) (hp0:c.H0 p=none) (hE:PD X c elt ge):sJ X c p (accN c p H2) J2 H2 1 (do let _ <-call (.builtin "list.append") [.ref p,<-eval elt X.env]) (yW ge):=by
 intro TN s σ H J env ys Qf I x2 sr no ⟨us,h1,h2,h3⟩ hl w;have hlen:ys.length=us.length:=h3.reps.length;refine T4 (UZ (hE _ s σ H (λv H8=>∃J8 b ws zs,v=.ref b/\Ext J H J8 H8/\H8 b=some (.lst ws)/\J8 b=none/\H b=none/\aK c.K J8 zs ws/\Qf ([.lst zs],env)) I ⟨J,env,sr,aF (aM w) λr wr v J8 H8 e8 r8=>?_⟩) (λu8 s8 ⟨v8,H8,I8,r8,J8,b,ws,zs,hv,e8,k1,k2,k3,k4,w8⟩=>?_) λv s f=>(hx v s f).elim)
 ·split at wr
  ·obtain ⟨b,ws,rfl,k1,k2,k3,k4⟩:=r8;exact ⟨J8,b,ws,_,rfl,e8,k1,k2,k3,k4,wr⟩
  ·exact wr.elim
 subst hv;have p8:H8 p=some (.lst us):=e8.h _ _ h1;have SY:p≠b:=λz=>by rw [z,k3] at h1;cases h1
 have e9:=qL e8 k1 k2 k3;have sj:aS J8 (L2.upd J8 b (.lst ws)):=cG k2 _;have J9p:L2.upd J8 b (.lst ws) p=none:=by rw [aV SY];exact e8.frz _ (by rw [h1];intro z;cases z) h2
 refine T4 (UZ (mq (X:=X) _ s8 σ H8 (.ref p) [.ref b] (.ref p) [u8] (λ_ H9=>H9=L2.upd H8 p (.lst (us++[.ref b]))) I8 rfl (.cons r8 .nil) ⟨_,us,.ref b,rfl,rfl,p8,by omega,rfl⟩) (λ_ s9 ⟨_,H9,I9,_,h9⟩=>?_) λv s f=>(hx v s f).elim);subst h9;refine T6 ⟨σ,_,_,([.lst zs],env),I9,(x2.trans e9).other hp2 J9p,e9.j,(sr.ext e9).other J9p hp0 no,no,⟨us++[.ref b],bO,J9p,(h3.mono e9.j λ_ h=>h).snoc bO (k4.mono sj) (x2.h.free k3) λm=>?_⟩,Ud _,w8⟩;obtain ⟨b',_,e,m1,_⟩:=h3.mem m;cases e;rw [e8.j _ _ m1] at k2;cases k2
theorem Pa (own:List Str) (cap:List Nat){TU TV:UU}{ifs:List UU}{TM:Xy}{pos:Pos}{gi:G (List D)}{gt:GT}{gts:G Bool}(hi:ud X c TU TV gi)
  (hbody:∀(cl:List (Str×UA)) (C:UA) (s:T_) (H:Hp) (fp:List UA),dM X.env.cells TM.names []=some cl->oO (cT X own cap TM cl C s H fp) c TU gt/\nP (cT X own cap TM cl C s H fp) c ifs gts/\QD (cT X own cap TM cl C s H fp) c elt ge) (a:yM X TM cap TV:=by exact uq rfl):nN X c (.ListComp elt [⟨TU,TV,ifs,0⟩] TM pos) (pO own.length cap gi gt gts ge):=by
 refine ⟨_,?_,rfl,λ_=>rfl⟩;refine lD (e:=.ListComp elt [⟨TU,TV,ifs,0⟩] TM pos) (ob:={cls:=.type "list",dict:=none,data:=.seq ([]:List T7).toArray}) (o0:=λ_=>.lst []) (Acc:=accN c) (N:=1) (lim:=sizeLine) (m:=λp env=>do let _ <-call (.builtin "list.append") [.ref p,<-eval elt env]) own cap rfl hi.h
  (λs Q E q=>UJ q) (λh H=>⟨UD _,[],0,.nil,Uh _ rfl⟩) (λp _=>Gq) (λp _ J H _ h1 h2=>⟨[],h1,h2,rfl⟩) (by rw [aes];exact Ud _) (λit p env=>yD (adS ..)) (λit acc env R s h0 h=>YD h0 h) (λys z q=>by cases q)
  (fun {p H2 J H J' H' ys r} hp hs e ⟨us,h1,h2,h3⟩ q=>by cases q;exact ⟨J',e,⟨p,us,rfl,h1,h2,hp,h3.mono (aS.refl _) λ_ h=>hs.free h⟩⟩) (λcl C s H fp hcc=>?_) a
 obtain ⟨b1,b2,b3⟩:=hbody cl C s H fp hcc;exact ⟨b1.h,b2.h,λp J2 H2 hp2 hp0=>Gr (λ_ _ f=>f) hp2 hp0 b3.h⟩
end
mutual
noncomputable def lJ:D->Bool
 | .non=>true
 | .bl _=>true
 | .int _=>true
 | .str _=>true
 | .tup xs=>gQ xs
 | _=>false
noncomputable def gQ:List D->Bool
 | []=>true
 | x::xs=>lJ x && gQ xs
end
noncomputable def CI:D->Bool
 | .lst ds=>gQ ds
 | _=>false
noncomputable def BF:S->Bool
 | .d x=>lJ x
 | .own xs=>gQ xs
 | .bor xs=>gQ xs
 | .ow2 xs=>xs.all CI
 | .fn _=>true
 | _=>false
noncomputable def Ae (env:Ev):Bool:=env.all λo=>match o with
 | some x=>BF x
 | none=>true
theorem BJ {env:Ev}{i:Nat}{x:S}(h:Ae env=true) (q:env[i]?=some (some x)):BF x=true:=Uz.mp h _ (UX q)
section
variable {K:T5}{J:Hp}{b:UA}{ws:List V}{o:HO}
theorem Im (hb:J b=some (.lst ws)){a:UA}{vs:List V}(h:c7 K J a vs):c7 K (L2.upd J b o) a vs:=by
 rcases h with (h | ⟨z,h⟩) | h
 ·exact .inl (.inl (by rw [aV (λe=>by rw [e,hb] at h;cases h)];exact h))
 ·exact .inl (.inr ⟨z,by rw [aV (λe=>by rw [e,hb] at h;cases h)];exact h⟩)
 ·exact .inr h
theorem aK.thaw (hb:J b=some (.lst ws)){ds:List D}{vs:List V}(n:gQ ds=true) (h:aK K J ds vs):aK K (L2.upd J b o) ds vs:=by refine aK.rec (motive_1:=λd v _=>lJ d=true->Rep K (L2.upd J b o) d v) (motive_2:=λds vs _=>gQ ds=true->aK K (L2.upd J b o) ds vs) (λ_=>.non) (λb _=>.bl b) (λi _=>.int i) (λx _=>.str x) (λ_ n=>nomatch n) (λh _ ih n=>.tup (Im hb h) (ih n)) (λ_ _ _ n=>nomatch n) (λ_ _ _ _ _ _ n=>nomatch n) (λ_ _ _ _ _ _ _ n=>nomatch n) (λ_=>.nil) (λ_ _ h1 h2 n=>?_) h n;have n':=W5.mp n;exact .cons (h1 n'.1) (h2 n'.2)
theorem Rep.thaw (hb:J b=some (.lst ws)){d:D}{v:V}(n:lJ d=true) (h:Rep K J d v):Rep K (L2.upd J b o) d v:=by
 cases (aK.thaw hb (ds:=[d]) (by show (lJ d && true)=true;rw [n];rfl) (.cons h .nil)) with
 | cons h _=>exact h
theorem NR.other (hb:J b=some (.lst ws)){P:UA->Prop}:∀{xs:List D}{vs:List V},xs.all CI=true->V.ref b∉vs->NR K J P xs vs->NR K (L2.upd J b o) P xs vs
 | [],_,_,_,h=>h
 | _::_,_,n,nb,⟨ds,a,us,vs,h1,h2,h3,h4,h5,h6,h7⟩=>by subst h1;subst h2;rw [We] at n;have n':=W5.mp n;exact ⟨ds,a,us,vs,rfl,rfl,by rw [aV λe=>nb (by rw [e];exact Uc)];exact h3,h4.thaw hb n'.1,h5,h6,h7.other hb n'.2 λm=>nb (Ua _ m)⟩
theorem NR.thaw (hb:J b=some (.lst ws)){P:UA->Prop}{ds':List D}{ws':List V}(hr:aK K (L2.upd J b (.lst ws')) ds' ws'):∀{xs:List D}{vs:List V}{n:Nat},xs.all CI=true->vs[n]?=some (.ref b)->NR K J P xs vs->NR K (L2.upd J b (.lst ws')) P (xs.set n (.lst ds')) vs
 | [],_,_,_,q,h=>by cases h;cases q
 | _::_,_,n,m,q,⟨ds,a,us,vs,h1,h2,h3,h4,h5,h6,h7⟩=>by
  subst h1;subst h2;rw [We] at m;have m':=W5.mp m;cases n with
  | zero=>
   cases q;exact ⟨ds',b,ws',vs,rfl,rfl,bO,hr,h5,h6,h7.other hb m'.2 h6⟩
  | succ n=>
   have q:vs[n]?=some (.ref b):=q;exact ⟨ds,a,us,vs,rfl,rfl,by rw [aV λe=>h6 (by rw [e];exact UX q)];exact h3,h4.thaw hb m'.1,h5,h6,h7.thaw hb hr m'.2 q⟩
theorem NR.get {P:UA->Prop}:∀{xs:List D}{vs:List V}{n:Nat}{ds:List D},NR K J P xs vs->xs[n]?=some (.lst ds)->∃b ws,vs[n]?=some (.ref b)/\J b=some (.lst ws)/\aK K J ds ws/\P b
 | [],_,_,_,_,q=>by cases q
 | _::_,_,0,_,⟨ds,a,us,vs,h1,h2,h3,h4,h5,_⟩,q=>by subst h1;subst h2;cases q;exact ⟨a,us,rfl,h3,h4,h5⟩
 | _::_,_,n + 1,ds',⟨ds,a,us,vs,h1,h2,h3,h4,h5,h6,h7⟩,q=>by subst h2;exact h7.get (n:=n) q
end
section
variable {X:Cx}{c:C}{pos:Pos}
theorem SR.thaw {J H:Hp}{σ:L2.St}{env:Ev}(sr:SR c J H σ env) (ok:Ae env=true){i n:Nat}{xs ds':List D}{p b:UA}{vs ws ws':List V}(hi:env[i]?=some (some (.ow2 xs))) (hs:σ[i]?=some (some (.ref p))) (hp:H p=some (.lst vs)) (hn:vs[n]?=some (.ref b)) (hb:J b=some (.lst ws)) (h0:c.H0 b=none) (SK:c.J0 b=none)
  (hr:aK c.K J ds' ws') (no:gQ ds'=true):SR c (L2.upd J b (.lst ws')) (L2.upd H b (.lst ws')) σ (env.set i (some (.ow2 (xs.set n (.lst ds'))))):=by
 have ne:∀{a:UA},J a=none->a≠b:=λh e=>by rw [e,hb] at h;cases h
 have hm:V.ref b∈j6 H σ i:=by rw [iP hs hp];exact UX hn
 have inE:∀k ys,env[k]?=some (some (.ow2 ys))->j6 (L2.upd H b (.lst ws')) σ k=j6 H σ k:=λk ys q=>by obtain ⟨p',us,m1,m2,m3,_,_,m4⟩:=sr.nst q;exact (iP m1 (by rw [aV (ne m3)];exact m2)).trans m4.symm
 refine ⟨⟨λa o q=>?_,λa o q=>?_,λa o q=>?_,λa k1 k2=>?_⟩,by simpa using sr.len,λj y q=>?_,λj k ys zs w hjk q1 q2 q3 q4=>?_,sr.sp2.keep λk ys q=>?_⟩
 ·by_cases e:a=b
  ·subst e;rw [bO] at q ⊢;exact q
  ·rw [aV e] at q ⊢;exact sr.hp.sub a o q
 ·rw [aV λe=>by rw [e,h0] at q;cases q];exact sr.hp.ent a o q
 ·rw [aV λe=>by rw [e,SK] at q;cases q];exact sr.hp.entJ a o q
 ·rw [aV λe=>k1 (by rw [e];exact h0)];exact sr.hp.frz a k1 k2
 ·rcases cJ q with ⟨rfl,hl,rfl⟩ | ⟨hj,q⟩
  ·obtain ⟨p',us,m1,m2,m3,m4,m5,m6⟩:=sr.nst hi;rw [hs] at m1;cases m1;rw [hp] at m2;cases m2;exact ⟨.ref p,hs,p,vs,rfl,by rw [aV (ne m3)];exact hp,by rw [aV (ne m3)];exact m3,m4,m5.thaw hb (hr.thaw hb no) (BJ ok hi) hn⟩
  ·obtain ⟨w,k1,k2⟩:=sr.at_ j y q;have hy:=BJ ok q;refine ⟨w,k1,?_⟩;cases y with
   | d x=>exact Rep.thaw hb hy k2
   | bor zs=>obtain ⟨a,us,m1,m2,m3⟩:=k2;exact ⟨a,us,m1,m2,m3.thaw hb hy⟩
   | own zs=>
    obtain ⟨a,us,rfl,m1,m2,m3,m4⟩:=k2;exact ⟨a,us,rfl,by rw [aV (ne m2)];exact m1,by rw [aV (ne m2)];exact m2,m3,m4.thaw hb hy⟩
   | fn _=>exact k2
   | dk _ _=>cases hy
   | db _ _=>cases hy
   | ow2 zs=>
    obtain ⟨a,us,rfl,m1,m2,m3,m4⟩:=k2;exact ⟨a,us,rfl,by rw [aV (ne m2)];exact m1,by rw [aV (ne m2)];exact m2,m3,m4.other hb hy λz=>sr.sp2 i j xs zs (VS hj) hi q _ hm (by rw [iP k1 m1];exact z)⟩
 ·have f:∀(k:Nat) (ys:Mn),(env.set i (some (.ow2 (xs.set n (.lst ds')))))[k]?=some (some (mS ys))->∃ys',env[k]?=some (some (mS ys')):=λk ys q=>by
   rcases cJ q with ⟨rfl,_,_⟩ | ⟨_,q⟩
   ·exact ⟨.nst xs,hi⟩
   ·exact ⟨ys,q⟩
  obtain ⟨ys',r1⟩:=f j ys q1;obtain ⟨zs',r2⟩:=f k zs q2;exact sr.sep j k ys' zs' w hjk r1 r2 q3 q4
 ·rcases cJ q with ⟨rfl,_,_⟩ | ⟨_,q⟩
  ·exact ⟨⟨xs,hi⟩,inE _ _ hi⟩
  ·exact ⟨⟨ys,q⟩,inE _ _ q⟩
structure LL (X:Cx) (c:C) (st:WM) (g:G O):Prop where
 h:PS X st (tW c g)
structure IB (X:Cx) (c:C) (st:List WM) (g:G O):Prop where
 h:jF X st (tW c g)
theorem OB {st:List WM}{g:G O}(h:pG X c st g):IB X c st g:=⟨qd h.h λ_ _ _ q=>Dy q⟩
theorem iT {st:WM}{g:G O}(h:gR X c st g):LL X c st g:=⟨gr h.h λ_ _ _ q=>Dy q⟩
theorem f6 {st:WM}{rest:List WM}{t u:G O}(h:LL X c st t) (h':IB X c rest u):IB X c (st::rest) (aI t u):=⟨qd (Ai h.h h'.h) λE σ H ⟨J,env,sr,w⟩=>by
 refine ⟨J,env,sr,aF (aM w) λo wo=>?_⟩;cases o with
 | nx e=>exact λσ' J' H' s' sr'=>⟨J',e,sr',wo⟩
 | rt r=>exact wo
 | bk e=>exact wo
 | ct e=>exact wo⟩
noncomputable def zL (i:Nat) (gi:G R) (k:List D->Ev->M (List D)):G O:=λenv=>match env[i]? with
 | some (some (.ow2 xs))=>gi env >>= λr=>(match r with
  | .d (.int j)=>(match sd xs.length j with
   | some n=>(match xs[n]? with
    | some (.lst ds)=>if Ae env=true then k ds env >>= λes=>if gQ es=true then .ok (.nx (env.set i (some (.ow2 (xs.set n (.lst es)))))) else .bad else .bad
    | _=>.bad)
   | none=>.bad)
  | _=>.bad)
 | _=>.bad
def CL:List D->Ev->M (List D):=λ_ _=>.ok []
theorem OW {i:Nat}{gi:G R}{k:List D->Ev->M (List D)}{E:Ends}{σ:L2.St}{H:Hp}{Q:VK}(hK:X.K=c.K) (h:tW c (zL i gi k) E σ H)
  (hk:∀(J1 H1:Hp) (env:Ev) (xs ds:List D) (n:Nat) (p b:UA) (vs ws:List V),SR c J1 H1 σ env->Ae env=true->env[i]?=some (some (.ow2 xs))->σ[i]?=some (some (.ref p))->H1 p=some (.lst vs)->vs[n]?=some (.ref b)->J1 b=some (.lst ws)->c.H0 b=none->c.J0 b=none->aK c.K J1 ds ws->cK (k ds env >>= λes=>if gQ es=true then .ok (.nx (env.set i (some (.ow2 (xs.set n (.lst es)))))) else .bad) (oP c c.J0 E) c.T->Q (.ref b) H1):
  BZ (HN X.K) (Ij i) (tD c gi) σ H Q:=by
 obtain ⟨J,env,sr,w⟩:=h;unfold zL at w;split at w
 ·rename_i xs hi;obtain ⟨p,vs,m1,m2,m3,m4,m5,_⟩:=sr.nst hi;refine ⟨.ref p,m1,J,env,sr,aF (aM w) λr wr v J1 H1 e1 r1=>?_⟩;split at wr
  ·rename_i j;cases r1;have sr1:=sr.ext e1;obtain ⟨p',us,k1,k2,k3,k4,k5,_⟩:=sr1.nst hi;rw [m1] at k1;cases k1;rw [e1.h _ _ m2] at k2;cases k2;split at wr
   ·rename_i n hn;split at wr
    ·rename_i ds hds;split at wr
     ·rename_i ok;obtain ⟨b,ws,n1,n2,n3,n4,n5⟩:=k5.get hds;exact ⟨p,vs,j,.ref b,rfl,rfl,cg.of (e1.h _ _ m2),by unfold lq;rw [<-k5.reps.length,hn];exact n1,hk J1 H1 env xs ds n p b vs ws sr1 ok hi m1 (e1.h _ _ m2) n1 n2 n4 n5 n3 wr⟩
     ·exact wr.elim
    ·exact wr.elim
   ·exact wr.elim
  ·exact wr.elim
 ·exact w.elim
theorem K8 (i:Nat){x:Str}{ix:UU}{gi:G R}{p0 p1 p2 pos':Pos}(hi:QD X c ix gi) (hN:X.N[i]?=some x:=by rfl) (hv:pH X.env.scope x:=by first | exact Yh rfl | exact WW (Yh rfl) | exact WW (WW rfl)) (hd:(x == ("__debug__":Str))=false:=by decide) (hcd:(x == ("__classdict__":Str))=false:=by decide)
  (hK:X.K=c.K:=by rfl) (hx:mV ix:=by exact λ_ _=>rfl) (hbase:Wt (.Subscript (.Name x p0) ix p1) "clear" X.env (eval (.Subscript (.Name x p0) ix p1) X.env)=eval (.Subscript (.Name x p0) ix p1) X.env:=by rfl) (hline:(p2.endLine == pos'.line)=true:=by rfl)
  (hs:Yi (.Call (.Attribute (.Subscript (.Name x p0) ix p1) "clear" p2) [] [] pos') none pos.line X.env=pure false:=by rfl):LL X c (.Expr (.Call (.Attribute (.Subscript (.Name x p0) ix p1) "clear" p2) [] [] pos') pos) (zL i gi CL):=
 ⟨gr (nD (Nb Wv PySem.F.slot_list_clear PySem.F.type_list_clear G7 (Jc Bx (kh hN hv hd hcd) hi.h hx) hbase hline) hs) λE σ H h=>OW hK h λJ1 H1 env xs ds n p b vs ws sr ok h1 h2 h3 h4 h5 h6 h7 h8 w=>
  ⟨.inl ⟨rfl,ws,cg.of (sr.hp.sub _ _ h5)⟩,b,ws,rfl,rfl,sr.hp.sub _ _ h5,w σ _ _ (sr.thaw ok h1 h2 h3 h4 h5 h6 h7 .nil rfl).hp.entJ (sr.thaw ok h1 h2 h3 h4 h5 h6 h7 .nil rfl)⟩⟩
noncomputable def zJ (i:Nat) (g:G O):G O:=λenv=>match env[i]? with
 | some (some (.ow2 xs))=>g (env.set i (some (.own xs)))
 | _=>g env
theorem SR.fgt {J H:Hp}{σ:L2.St}{env:Ev}(sr:SR c J H σ env){i:Nat}{xs:List D}(hi:env[i]?=some (some (.ow2 xs))):SR c J H σ (env.set i (some (.own xs))):=by
 refine ⟨sr.hp,by simpa using sr.len,λj y q=>?_,λj k ys zs w hjk q1 q2 q3 q4=>?_,sr.sp2.keep λk ys q=>?_⟩
 ·rcases cJ q with ⟨rfl,hl,rfl⟩ | ⟨hj,q⟩
  ·obtain ⟨p,vs,m1,m2,m3,m4,m5,_⟩:=sr.nst hi;exact ⟨.ref p,m1,p,vs,rfl,m2,m3,m4,m5.reps⟩
  ·exact sr.at_ j y q
 ·have f:∀(k:Nat) (ys:Mn),(env.set i (some (.own xs)))[k]?=some (some (mS ys))->∃ys',env[k]?=some (some (mS ys')):=λk ys q=>by
   rcases cJ q with ⟨rfl,_,_⟩ | ⟨_,q⟩
   ·exact ⟨.nst xs,hi⟩
   ·exact ⟨ys,q⟩
  obtain ⟨ys',r1⟩:=f j ys q1;obtain ⟨zs',r2⟩:=f k zs q2;exact sr.sep j k ys' zs' w hjk r1 r2 q3 q4
 ·rcases cJ q with ⟨_,_,e⟩ | ⟨_,q⟩
  ·cases e
  ·exact ⟨⟨ys,q⟩,rfl⟩
theorem Ak (i:Nat){st:WM}{g:G O}(h:gR X c st g):gR X c st (zJ i g):=⟨λTN s σ H D I ⟨J,env,sr,w⟩=>by
 unfold zJ at w;split at w
 ·rename_i xs hi;exact h.h TN s σ H D I ⟨J,_,sr.fgt hi,w⟩
 ·exact h.h TN s σ H D I ⟨J,env,sr,w⟩⟩
end
end DL
namespace K31
open PySem DL
def ua:List Str:=["depths","depth"]
noncomputable def uJ:G O:=(bw (pO 1 [0] (bQ (ao (g2 iu (af 1) (gC (.int 1))) aG)) (aA 0) cA (bM 1 [1,0] (mL (af 1)) (aA 0) (bB (gN (aT 3 K33.lR) (ao (af 1) (ao (af 0) (ao (af 2) aG))))) (af 0))))
def kF (as:List S):M R:=fin (uJ (a_ ua as))
end K31
namespace K31
open PySem DL K01 WP K51 K52 K55 K23 K22 K33
section
variable {env:Ev}
theorem zx {cap:List Nat}{gi:G (List D)}{ge:G R}{α:Type} [DecidableEq α] {xs:List α}{h:α->D}(f:α->List D) (hi:gi env=.ok (xs.map h)) (hl:xs.length<=1000000)
  (hb:∀x∈xs,ge (some (.d (h x))::cE 0 cap env)=.ok (.l .fresh (f x))):pO 1 cap gi (aA 0) cA ge env=.ok (.ln (xs.map λx=>.lst (f x))):=by obtain ⟨z,e⟩:=L6 (act:=yW ge) (h:=h) (f:=λx=>.lst (f x)) (rest:=cE 0 cap env) xs (λx hx=>by unfold yW;rw [hb x hx];rfl) none;unfold pO gA;rw [hi,aN,if_pos (by rw [U7,T8];omega)];show (bP (aA 0) cA (yW ge) (xs.map h) (none::cE 0 cap env) >>= _)=_;rw [e];rfl
end
section
variable {v w:Wd}
noncomputable def dw (v w:Wd) (ks:List Ps) (ps:Ps):Bool:=((Ue v.m).all λa=>(Ue w.m).any λb=>decide (dO ps (a,b)∈ks)) && (Ue w.m).all λb=>(Ue v.m).any λa=>decide (dO ps (a,b)∈ks)
theorem BW (A:List Ps):dep (b8 A)<=60:=by
 have:deps (A.map aE)<=2:=eu λx hx=>by
  obtain ⟨q,_,rfl⟩:=Ui.mp hx;have:deps (q.map dP)<=1:=eu λx hx=>by obtain ⟨p,_,rfl⟩:=Ui.mp hx;exact Ud _
  show deps (q.map dP) + 1<=2;omega
 show deps (A.map aE) + 1<=60;omega
theorem Eu:∀A B:List Ps,bq (b8 A) (b8 B)=decide (A=B):=by
 intro A;show ∀B:List Ps,cB (A.map aE) (B.map aE)=_
 induction A with
 | nil=>intro B;cases B <;> simp [cB]
 | cons x A ih=>
  intro B;cases B with
  | nil=>simp [cB]
  | cons y B=>rw [Ur,Ur,gM,ih,fm,U_];simp
theorem uA (neg:Bool) (A B:List Ps) (x y:R) (hx:x.dat=b8 A) (hy:y.dat=b8 B):cL neg x y=.ok (.d (.bl (if neg then !decide (A=B) else decide (A=B)))):=by rw [l6 neg x y (by rw [hx];exact BW A) (by rw [hy];exact BW B),hx,hy,Eu]
end
theorem iR {α:Type}{f:α->D}(h:∀x,lJ (f x)=true):∀xs:List α,gQ (xs.map f)=true
 | []=>rfl
 | x::xs=>by show (lJ (f x) && gQ (xs.map f))=true;rw [h x,iR h xs];rfl
theorem C_ (ps:Ps):lJ (aE ps)=true:=iR (f:=dP) (λ_=>rfl) ps
theorem Dc (u:Wd):lJ u.d=true:=by
 have h1:lJ (.tup (u.ms.map i7))=true:=iR (f:=i7) (λr=>by
  show (true && (gQ (r.2.map dN) && true))=true;rw [iR (f:=dN) λ_=>rfl];rfl) u.ms
 have h2:lJ (.tup (u.ar.map ku))=true:=iR (f:=ku) (λr=>by
  show (true && (gQ (r.2.map dP) && true))=true;rw [iR (f:=dP) λ_=>rfl];rfl) u.ar
 show (true && (lJ (.tup (u.ms.map i7)) && (lJ (.tup (u.ar.map ku)) && true)))=true;rw [h1,h2];rfl
theorem IZ (ns:List Int):gQ (ns.map D.int)=true:=iR (λ_=>rfl) ns
theorem BG {α:Type}(f:α->List Ps) (xs:List α):BF (.ow2 (xs.map λx=>b8 (f x)))=true:=by show (xs.map λx=>b8 (f x)).all CI=true;rw [Y0,Uz];exact λx _=>iR C_ (f x)
theorem tP {α:Type}(f:α->List Ps) (xs:List α):dep (.lst (xs.map λx=>b8 (f x)))<=60:=by
 have h2:∀A:List Ps,dep (b8 A)<=3:=λA=>by
  have:deps (A.map aE)<=2:=eu λx hx=>by
   obtain ⟨q,_,rfl⟩:=Ui.mp hx;have:deps (q.map dP)<=1:=eu λx hx=>by obtain ⟨p,_,rfl⟩:=Ui.mp hx;exact Ud _
   show deps (q.map dP) + 1<=2;omega
  show deps (A.map aE) + 1<=3;omega
 have:deps (xs.map λx=>b8 (f x))<=3:=eu λx hx=>by obtain ⟨q,_,rfl⟩:=Ui.mp hx;exact h2 _
 show deps (xs.map λx=>b8 (f x)) + 1<=60;omega
theorem Bo {α:Type}(f:α->List Ps) (xs:List α) (x y:R) (hx:x.dat=.lst (xs.map λx=>b8 (f x))) (hy:y.dat=.lst (xs.map λx=>b8 (f x))):cL false x y=.ok (.d (.bl true)):=by rw [l6 false x y (by rw [hx];exact tP f xs) (by rw [hy];exact tP f xs),hx,hy,gn];rfl
theorem Jp {i:Nat}{gi:G R}{k:List D->Ev->M (List D)}{env:Ev}{xs ds es:List D}{j:Int}{n:Nat}(h0:env[i]?=some (some (.ow2 xs))) (h1:gi env=.ok (.d (.int j))) (h2:L2.sd xs.length j=some n) (h3:xs[n]?=some (.lst ds)) (ok:Ae env=true) (h4:k ds env=.ok es) (no:gQ es=true):zL i gi k env=.ok (.nx (env.set i (some (.ow2 (xs.set n (.lst es)))))):=by unfold zL;rw [h0];simp only;rw [h1,aN];simp only;rw [h2];simp only;rw [h3];simp only;rw [if_pos ok,h4,aN,if_pos no]
end K31
namespace K71
open PySem DL
def rA:List Str:=["_law_found","_law_some","_law_pairs","_law_a","_law_b"]
noncomputable def rR:G O:=(aI (bL (iN (fh (bB (uD "list" (af 0)))) (fh (bB (gN pM (ao (bM 1 [] (ff (af 0)) (aA 0) cA (uD "list" (af 0))) aG))))) (bw (gC (.bl false))) c5)
 (aI (bV (c8 (af 0)) (aA 1) (d8 1 (bV (c8 (af 1)) (aA 2) (aI (bL (iN (fh (bB (uD "tuple" (af 2)))) (fh (bB (gN pM (ao (bM 1 [] (ff (af 2)) (aA 0) cA (uD "tuple" (af 0))) aG))))) (bw (gC (.bl false))) c5)
 (d8 2 (bV (c8 (af 2)) (dg 2 (bz (aA 3) (bz (aA 4) dF))) (bL (iN (bB (uD "bool" (af 3))) (bB (uD "bool" (af 4)))) (bw (gC (.bl false))) c5)))))))
 (bw (gC (.bl true)))))
def jW (as:List S):M R:=fin (rR (a_ rA as))
end K71
namespace K71
open PySem DL K01 WP K51 K52 K55 K22 K33 K72
open K23 (Pr aE Good told eZ fC bx eS dG dB ia allM)
open K31 (zx uA Eu)
theorem L4 {ks:List Ps}(nd:ks.Nodup){k:Nat}(hk:k < ks.length):dput ((ks.take k).map aE,(ks.take k).map λ_=>.bl true) (aE ks[k]) (.bl true)=((ks.take (k + 1)).map aE,(ks.take (k + 1)).map λ_=>.bl true):=by
 have hn:ks[k]∉ks.take k:=λh=>by obtain ⟨i,hi,e⟩:=List.mem_take_iff_getElem.mp h;exact absurd ((Y9 nd).mp e) (by omega)
 unfold dput;simp only;rw [kg fm,if_neg hn,WA,Uk hk,Us,Us];rfl
theorem fill {u:G O}{i j:Nat}{ks:List Ps}{Q:O->Prop}(nd:ks.Nodup) (hl:ks.length<=1000000) (hij:i≠j){env:Ev}(hi:i < env.length) (hj:j < env.length) (he:env[i]?=some (some (.dk [] []))) (k:∀z,Wp (u ((env.set j z).set i (some (.dk (ks.map aE) (ks.map λ_=>.bl true))))) Q):
  Wp (eE (aA j) (mO i (af j) (gC (.bl true))) (ks.map aE) env) λo=>match o with
   | .nx e=>Wp (u e) Q
   | o=>Q o:=by
 have key:∀(n:Nat) (z:Option S),n<=ks.length->Wp (eE (aA j) (mO i (af j) (gC (.bl true))) ((ks.drop n).map aE) ((env.set j z).set i (some (.dk ((ks.take n).map aE) ((ks.take n).map λ_=>.bl true))))) λo=>∃z,o=.nx ((env.set j z).set i (some (.dk (ks.map aE) (ks.map λ_=>.bl true)))):=by
  intro n;generalize hm:ks.length - n=m
  induction m generalizing n with
  | zero=>
   intro z hn;have:n=ks.length:=by omega
   subst this;rw [List.drop_length,VQ];exact ⟨_,rfl,z,rfl⟩
  | succ m ih=>
   intro z hn;have hk:n < ks.length:=by omega
   rw [Wf hk,Ur];have e1:∀x:Option S,((env.set j z).set i x).set j (some (.d (aE ks[n])))=(env.set j (some (.d (aE ks[n])))).set i x:=λx=>by rw [List.set_comm _ _ hij,ad4]
   show Wp (aA j (aE ks[n]) _ >>= _) _;rw [show aA j (aE ks[n]) ((env.set j z).set i (some (.dk ((ks.take n).map aE) ((ks.take n).map λ_=>.bl true))))=.ok ((env.set j (some (.d (aE ks[n])))).set i (some (.dk ((ks.take n).map aE) ((ks.take n).map λ_=>.bl true)))) by show M.ok _=_;rw [e1],aN];have hg:af j ((env.set j (some (.d (aE ks[n])))).set i (some (.dk ((ks.take n).map aE) ((ks.take n).map λ_=>.bl true))))=.ok (.d (aE ks[n])):=by unfold af;rw [UP hij,U8 (by simpa using hj)];rfl
   obtain ⟨_,h1,rfl⟩:=CP (Q:=(·=.nx ((env.set j (some (.d (aE ks[n])))).set i (some (.dk ((ks.take (n + 1)).map aE) ((ks.take (n + 1)).map λ_=>.bl true)))))) (i:=i) (gk:=af j) (g:=gC (.bl true)) (env:=(env.set j (some (.d (aE ks[n])))).set i (some (.dk ((ks.take n).map aE) ((ks.take n).map λ_=>.bl true)))) (k:=aE ks[n]) (d:=.bl true) (U8 (by simpa using hi)) rfl rfl hg rfl (d9 _) (by simp;omega) (by
    rw [L4 nd hk,ad4])
   rw [h1,aN];exact ih (n + 1) (by omega) _ hk
 have h0:=key 0 (env[j]?.getD none) (UD _);rw [aa7] at h0;have e0:(env.set j (env[j]?.getD none)).set i (some (.dk ((ks.take 0).map aE) ((ks.take 0).map λ_=>.bl true)))=env:=by
  have a:env.set j (env[j]?.getD none)=env:=by rw [Uk hj];exact aaU _
  rw [a];have b:env[i]=some (.dk [] []):=by rw [Uk hi] at he;exact Vl he
  show env.set i (some (.dk [] []))=env;rw [<-b];exact aaU _
 rw [e0] at h0;refine h0.mono λo ⟨z,e⟩=>?_;subst e;exact k z
section
variable {v w:Wd}
theorem Gd {t:G O}{env:Ev}{i:Nat}{x:D}{Q:O->Prop}(h:env[i]?=some (some (.d x))) (k:Wp (t env) Q):Wp (d8 i t env) Q:=by
 have:d8 i t env=t env:=by unfold d8;rw [h]
 rw [this];exact k
theorem Ju {α:Type}(f:α->List Ps) (xs:List α) (hx:xs.length<=1000000) (hf:∀x∈xs,∀ps∈f x,ps.length<=1000):K71.jW [.bor (xs.map λx=>b8 (f x))]=.ok (.d (.bl true)):=by
 refine b9 (f7 (nC (dB (b:=true) rfl) (dB (b:=true) (eZ ((n1 (jJ (xs:=xs) (h:=λx=>b8 (f x)) (λ_=>.bl true) rfl hx λ_ _=>⟨_,rfl,rfl⟩) (allM (λ_=>true) xs)).trans (by simp))))) (cY (ds:=xs.map λx=>b8 (f x)) rfl ?_));refine f_ (λ_ env=>∃a b c d:Option S,env=[some (.bor (xs.map λx=>b8 (f x))),a,b,c,d]) _ ⟨none,none,none,none,rfl⟩ ?_ (λ_ ⟨a,b,c,d,e⟩=>by subst e;exact bG rfl rfl rfl);rintro k hk _ ⟨a,b,c,d,rfl⟩;have hk':k < xs.length:=by simpa using hk
 refine ⟨_,by rw [U5];rfl,Gd rfl (jZ (ds:=(f xs[k]).map aE) rfl ?_)⟩;refine f_ (λ_ env=>∃b c d:Option S,env=[some (.bor (xs.map λx=>b8 (f x))),some (.d (b8 (f xs[k]))),b,c,d]) _ ⟨b,c,d,rfl⟩ ?_ (λ_ ⟨b,c,d,e⟩=>⟨_,rfl,_,_,_,_,e⟩);rintro i hi _ ⟨b,c,d,rfl⟩;have hi':i < (f xs[k]).length:=by simpa using hi
 refine ⟨_,by rw [U5];rfl,f7 (nC (dB (b:=true) rfl) (dB (b:=true) (eZ ((n1 (jJ (xs:=(f xs[k])[i]) (h:=dP) (λ_=>.bl true) rfl (by have:=hf _ (Vm hk') _ (Vm hi');omega) λ_ _=>⟨_,rfl,rfl⟩) (allM (λ_=>true) _)).trans (by simp))))) (Gd rfl (jZ (ds:=(f xs[k])[i].map dP) rfl ?_))⟩;refine f_ (λ_ env=>∃c d:Option S,env=[some (.bor (xs.map λx=>b8 (f x))),some (.d (b8 (f xs[k]))),some (.d (aE (f xs[k])[i])),c,d]) _ ⟨c,d,rfl⟩ ?_ (λ_ ⟨c,d,e⟩=>⟨_,rfl,_,_,_,e⟩);rintro j hj _ ⟨c,d,rfl⟩;exact ⟨_,by rw [U5];rfl,vU (nC rfl rfl) (fZ ⟨_,rfl,_,_,rfl⟩)⟩
end
end K71
namespace DL
open PySem PySem.Spec PyProof.Rows L2 DX
def Mp (i:Nat) (g:G O):G O:=λenv=>g (env.set i none)
section
variable {X:Cx}{c:C}
theorem ur {env:Ev}{i j:Nat}{x:S}(h:(env.set i none)[j]?=some (some x)):env[j]?=some (some x):=by
 by_cases e:j=i
 ·subst e;rw [List.getElem?_set] at h;simp at h
 ·rwa [UP (VS e)] at h
theorem HE (i:Nat){st:WM}{g:G O}(h:gR X c st g):gR X c st (Mp i g):=⟨λTN s σ H D I ⟨J,env,sr,w⟩=>
 h.h TN s σ H D I ⟨J,env.set i none,⟨sr.hp,by simpa using sr.len,λj y q=>sr.at_ j y (ur q),λj k ys zs w hjk q1 q2=>sr.sep j k ys zs w hjk (ur q1) (ur q2),sr.sp2.keep λk ys q=>⟨⟨ys,ur q⟩,rfl⟩⟩,w⟩⟩
end
end DL
namespace K61
open PySem DL
def rE:List Str:=["one","other","letters","depths"]
noncomputable def rX:G O:=(aI (kH (gN (aT 2 K23.gI) (ao (af 0) (ao (af 1) aG))))
 (aI (kH (gN (aT 3 K55.fR) (ao (af 2) (ao (gC (.int 1)) (ao (gN dY (ao (gC (.tup [(.str "x"),(.str "y"),(.str "z")])) aG)) aG)))))
 (aI (bh 3 (gN (aT 3 K66.jX) (ao (af 0) (ao (af 1) (ao (af 2) aG)))))
 (bw (gN (aT 2 K31.kF) (ao (af 3) (ao (IM 0 (bM 1 [] (Mq (af 3)) (aA 0) (bB (g2 (nc true) (af 0) (gC .non))) (af 0))) aG)))))))
def iK (as:List S):M R:=fin (rX (a_ rE as))
def rC:List Str:=["_law_pairs","_law_letters","_law_found","_law_pair"]
noncomputable def rT:G O:=(aI (bh 2 (cU (az (bC aQ) aQ)))
 (aI (bV (c8 (af 0)) (aA 3) (bh 2 (g2 qJ (af 2) (bM 1 [3] (ff (af 2)) (aA 0) cA (g2 cH (af 0) (bC (az (af 1) aQ)))))))
 (bw (bM 1 [1] (ff (af 2)) (aA 0) (bB (g2 (kD λi j=>.bl (decide (i < j))) (gN dY (ao (af 0) aG)) (af 1))) (af 0)))))
def iJ (as:List S):M R:=fin (rT (a_ rC as))
def oN:List Str:=["_law_one","_law_other","_law_part","_law_kept","_law_a","_law_b"]
noncomputable def oU:G O:=(aI (bV (bQ (ao (g2 aY (af 0) (gC (.int 0))) aG)) (aA 4) (bL (fh (bB (gN sS (ao (bM 1 [2,4,3] (bQ (ao (g2 aY (af 1) (gC (.int 0))) aG)) (aA 0) cA (g2 (iF false) (gN (aT 2 K72.jj) (ao (af 1) (ao (bC (az (af 2) (az (af 0) aQ))) aG))) (af 3))) aG)))) (bw (gC (.bl false))) c5))
 (aI (bV (bQ (ao (g2 aY (af 1) (gC (.int 0))) aG)) (aA 5) (bL (fh (bB (gN sS (ao (bM 1 [2,5,3] (bQ (ao (g2 aY (af 0) (gC (.int 0))) aG)) (aA 0) cA (g2 (iF false) (gN (aT 2 K72.jj) (ao (af 1) (ao (bC (az (af 0) (az (af 2) aQ))) aG))) (af 3))) aG)))) (bw (gC (.bl false))) c5))
 (bw (gC (.bl true)))))
def iU (as:List S):M R:=fin (oU (a_ oN as))
def t8:List Str:=["_law_one","_law_other","_law_some","_law_letters","_law_kept","_law_pairs","_law_good","_law_found","_law_fine","_law_part"]
noncomputable def uH:G O:=(aI (CF 4)
 (aI (bV (c8 (af 2)) (aA 5) (mO 4 (af 5) (gC (.bl true))))
 (aI (CF 6)
 (aI (bh 7 (cU aQ))
 (aI (bV (c8 (af 2)) (aA 5) (aI (bh 8 (gC (.bl true)))
 (aI (bV (c8 (gN (aT 2 K61.iJ) (ao (af 5) (ao (af 3) aG)))) (aA 9) (aI (bL (bB (g2 (iF true) (af 9) (af 6))) (mO 6 (af 9) (gN (aT 4 K61.iU) (ao (af 0) (ao (af 1) (ao (af 9) (ao (af 4) aG)))))) c5)
 (bh 8 (l_ (af 8) (g2 fu (af 6) (af 9))))))
 (bL (s_ (af 8)) (eX 7 (af 5)) c5))))
 (bw (af 7)))))))
def kE (as:List S):M R:=fin (uH (a_ t8 as))
def Pp:List Str:=["_law_script","_law_letters","_law_sizes","_law_one","_law_other","_law_found","_law_due","_law_k","_law_kept"]
noncomputable def Ms:G O:=(aI (bh 1 (g2 cH (gC (.int 1)) (g2 d7 (gN (aT 2 K72.gw) (ao (af 0) (ao (gC (.int 0)) aG))) (gC (.int 3)))))
 (aI (bh 2 (g2 aY (cU (az (cU (az (gC (.int 1)) (az (gC (.int 2)) (az (gC (.int 3)) (az (gC (.int 4)) (az (gC (.int 3)) aQ)))))) (az (cU (az (gC (.int 1)) (az (gC (.int 2)) (az (gC (.int 3)) (az (gC (.int 4)) (az (gC (.int 3)) (az (gC (.int 2)) aQ))))))) (az (cU (az (gC (.int 1)) (az (gC (.int 2)) (az (gC (.int 2)) (az (gC (.int 3)) (az (gC (.int 2)) (az (gC (.int 3)) (az (gC (.int 2)) (az (gC (.int 3)) (az (gC (.int 1)) (az (gC (.int 4)) aQ))))))))))) aQ)))) (g2 vL (af 1) (gC (.int 1)))))
 (aI (sW (dg 2 (bz (aA 3) (bz (aA 4) dF))) (gN (aT 2 K72.gX) (ao (gN (aT 2 K72.gw) (ao (af 0) (ao (gC (.int 1)) aG))) (ao (af 2) aG))))
 (aI (zJ 5 (bh 5 (gN (aT 3 K61.iK) (ao (af 3) (ao (af 4) (ao (af 1) aG))))))
 (aI (bL (iN (fh (bB (gN (aT 1 K71.jW) (ao (af 5) aG)))) (bB (g2 (cL false) (gN dY (ao (af 5) aG)) (gC (.int 0))))) (bw (gC (.bl false))) c5)
 (aI (bL (bB (g2 (cL true) (g2 aY (af 5) (gC (.int 0))) (gN (aT 3 K72.ic) (ao (af 3) (ao (af 4) (ao (af 1) aG)))))) (bw (gC (.bl false))) c5)
 (aI (bh 6 (g2 aY (af 5) (gC (.int 0))))
 (aI (bV (bQ (ao (gN dY (ao (af 5) aG)) aG)) (aA 7) (aI (bL (iN (bB (g2 (cL true) (g2 aY (af 5) (af 7)) (af 6))) (jt (bB (g2 (kD λi j=>.bl (decide (j < i))) (af 7) (gC (.int 0)))) (bB (g2 (kD λi j=>.bl (decide (j<=i))) (gN dY (ao (af 6) aG)) (gN dY (ao (g2 aY (af 5) (g2 vL (af 7) (gC (.int 1)))) aG)))))) (bw (gC (.bl false))) c5)
 (bh 6 (gN (aT 4 K61.kE) (ao (af 3) (ao (af 4) (ao (af 6) (ao (af 1) aG))))))))
 (aI (bL (bB (g2 (cL true) (af 6) (g2 aY (af 5) (sY (gC (.int 1)))))) (bw (gC (.bl false))) c5)
 (aI (Mp 2 (bh 8 (pO 1 [] (ff (af 5)) (aA 0) cA (gN yw (ao (af 0) aG)))))
 (aI (zL 5 (gC (.int 0)) CL)
 (aI (zJ 5 (eX 5 (cU aQ)))
 (bw (g2 (cL false) (gN (aT 3 K61.iK) (ao (af 3) (ao (af 4) (ao (af 1) aG)))) (af 8)))))))))))))))
def vt (as:List S):M R:=fin (Ms (a_ Pp as))
end K61
namespace K61
open PySem PySem.Spec PyProof.Rows L2 DL DX
structure c9 (w:US) (K:T5) (mg:Str->Option T7):Prop where
 abs:mg "abs"=none
 all:mg "all"=none
 any:mg "any"=none
 bool:mg "bool"=none
 int:mg "int"=none
 isinstance:mg "isinstance"=none
 len:mg "len"=none
 list:mg "list"=none
 max:mg "max"=none
 range:mg "range"=none
 set:mg "set"=none
 sorted:mg "sorted"=none
 tuple:mg "tuple"=none
 FEW_LETTERS:Cc K mg "FEW_LETTERS" (.tup [(.str "x"),(.str "y"),(.str "z")])
 MOST_SMALL:Cc K mg "MOST_SMALL" (.int 4)
 fv_answered_still:Gi K mg "answered_still"
section
variable {P:Uv}{w:US}{K:T5}{mg:Str->Option T7}{base:VJ}{f:UA}{fd:UO}
abbrev xO:WM:=top 6
theorem AN (m:c9 w K mg) (e:FB K mg "is_whole" xO):bE P w K mg base 1 1 "is_whole" K01.o9:=
 qc K01.xh K01.wK 1 e (λnd _ cdv A outer s H E J T hr=>
 (aD (aP (v7 (fP Kf D8 m.int (aa 0) m.isinstance) (ow (K7 (fP tE nT m.bool (aa 0) m.isinstance)))))))
abbrev vg:WM:=top 7
theorem zo (m:c9 w K mg) (e:FB K mg "tongue_of" vg):bE P w K mg base 1 1 "tongue_of" K23.jn:=
 qc K23.uL K23.uc 1 e (λnd _ cdv A outer s H E J T hr=>
 (ay (tM (aa 0) (cP (aW (aC 1 nd) (aW (aC 2 nd) (aW (aC 3 nd) cC)))))
 (aD (aP (aZ (au (cX (ak (bS (fX ["name","points"] [] (cu (aa 2)) (λ_ _ _ _ _ hc=>⟨(cP (aW (aC 0 (bR rfl)) (aW (aC 1 (bR rfl)) cC))),br,(aa 0)⟩))) av) m.tuple) (au (cX (ak (bS (fX ["name","pairs"] [] (cu (aa 3)) (λ_ _ _ _ _ hc=>⟨(cP (aW (aC 0 (bR rfl)) (aW (aC 1 (bR rfl)) cC))),br,(aa 0)⟩))) av) m.tuple) aL)))))))
abbrev qu:WM:=top 8
theorem vH (m:c9 w K mg) (Q4:bE P w K mg base 1 1 "tongue_of" K23.jn) (e:FB K mg "need_tongue" qu):bE P w K mg base 2 2 "need_tongue" K23.jl:=
 qc K23.pT K23.pC 2 e (λnd _ cdv A outer s H E J T hr=>
 (aD (bI (lK hr.units (aU Q4 hr (ak (aa 0) av)) (aU Q4 hr (ak (aa 1) av))) (aD oq) bA)))
abbrev lO:WM:=top 11
theorem pK (m:c9 w K mg) (e:FB K mg "need_few_points" lO):bE P w K mg base 1 1 "need_few_points" K23.gj:=
 qc K23.lF K23.k_ 1 e (λnd _ cdv A outer s H E J T hr=>
 (aD (bu (bW (aa 0)) (aC 1 nd) (aD (bI (iy yF (gT λ_ _ _=>.bl _) (aJ (aa 1) aq) (qf m.MOST_SMALL)) (aD oq) bA)))))
abbrev sG:WM:=top 12
theorem yi (m:c9 w K mg) (Q9:bE P w K mg base 2 2 "need_tongue" K23.jl) (QV:bE P w K mg base 1 1 "need_few_points" K23.gj) (e:FB K mg "need_small" sG):bE P w K mg base 3 2 "need_small" K23.gI:=
 qc K23.rZ K23.rH 2 e (λnd _ cdv A outer s H E J T hr=>
 (ay (jb (aU Q9 hr (ak (aa 0) (ak (aa 1) av))))
 (aD (jb (aU QV hr (ak (aZ (au (aa 0) (au (aa 1) aL))) av))))))
abbrev sF:WM:=top 13
theorem yh (m:c9 w K mg) (Rq:bE P w K mg base 1 1 "is_whole" K01.o9) (e:FB K mg "need_count" sF):bE P w K mg base 2 3 "need_count" K55.fR:=
 qc K55.rY K55.rG 3 e (λnd _ cdv A outer s H E J T hr=>
 (aD (bI (fD (jA (fE (cZ (aU Rq hr (ak (aa 0) av)))) (jA (iy uU (gT λ_ _ _=>.bl _) (aa 0) (aa 1)) (i_ (iy yF (gT λ_ _ _=>.bl _) (aa 0) (aa 2)))))) (aD oq) bA)))
abbrev BY:WM:=top 15
theorem Ej (m:c9 w K mg) (e:FB K mg "rising" BY):bE P w K mg base 1 1 "rising" K23.ig:=
 qc K23.Bu K23.A7 1 e (λnd _ cdv A outer s H E J T hr=>
 (ay (bI (Ft (aa 0) kY) (aD (aP (aZ aL))) bA)
 (aD (aP (cX (ak (FE hr.units (ak (aa 0) av) m.sorted m.set) av) m.tuple)))))
abbrev Jm:WM:=top 16
theorem JJ (m:c9 w K mg) (e:FB K mg "view" Jm):bE P w K mg base 1 3 "view" K23.yr:=
 qc K23.IT K23.IA 3 e (λnd _ cdv A outer s H E J T hr=>
 (ay (tM (aa 0) (cP (aW (aC 3 nd) (aW (aC 4 nd) (aW (aC 5 nd) cC)))))
 (ay (aO 6 nd (cX (ak (bS (fX ["name","points"] [1] (cu (aa 4)) (λ_ _ _ _ _ hc=>⟨(cP (aW (aC 0 (bR rfl)) (aW (aC 1 (bR rfl)) cC))),br,(qh hr.units (aa 2) (aa 1))⟩))) av) m.tuple))
 (ay (aO 7 nd (cX (ak (bS (fX ["name","pairs"] [1,2] (cu (aa 5)) (λ_ _ _ _ _ hc=>⟨(cP (aW (aC 0 (bR rfl)) (aW (aC 1 (bR rfl)) cC))),br,(qh hr.units (aZ (au (aa 2) (au (aa 3) aL))) (aa 1))⟩))) av) m.tuple))
 (aD (aP (aZ (au (qe hr.units (aa 1) (aa 2)) (au (aa 6) (au (aa 7) aL))))))))))
abbrev F3:WM:=top 17
theorem Gx (m:c9 w K mg) (R1:bE P w K mg base 1 3 "view" K23.yr) (e:FB K mg "views" F3):bE P w K mg base 2 1 "views" K23.o_:=
 qc K23.EE K23.DR 1 e (λnd _ cdv A outer s H E J T hr=>
 (aD (aP (bS (Mc hr.units ["one","other"] [0] (fk (bg (ak (aJ (aa 0) aq) av) m.range)) (λ_ _ _ _ _ hc=>⟨(aC 0 (bR rfl)),br,(bg (ak (aJ (aa 2) aq) av) m.range),(aC 1 (bR rfl)),br,(aZ (au (aa 0) (au (aa 1) aL))),(aU R1 hr (ak (aa 2) (ak (aa 0) (ak (aa 1) av))))⟩))))))
abbrev FQ:WM:=top 18
theorem Gv (m:c9 w K mg) (e:FB K mg "agree" FQ):bE P w K mg base 1 4 "agree" K23.fJ:=
 qc K23.EC K23.DQ 4 e (λnd _ cdv A outer s H E J T hr=>
 (aD (aP (qe hr.units (fG hr.units (aa 0) (aZ (au (aJ (aa 2) aq) (au (aJ (aa 3) aq) aL)))) (fG hr.units (aa 1) (aZ (au (aJ (aa 2) aq) (au (aJ (aa 3) aq) aL))))))))
abbrev qp:WM:=top 19
theorem vG (m:c9 w K mg) (Q7:bE P w K mg base 1 4 "agree" K23.fJ) (e:FB K mg "goes_behind" qp):bE P w K mg base 2 4 "goes_behind" K23.jk:=
 qc K23.pS K23.pA 4 e (λnd _ cdv A outer s H E J T hr=>
 (ay (bI (fD (qT (qU (aa 2)) (om (K3 hr.units (aa 3) (aJ (aa 2) (we aq)))))) (aD (aP cI)) bA)
 (ay (bu (bW (aa 2)) (aC 4 nd) (aD (bI (fD (jA (fE (cZ (aU Q7 hr (ak (aa 0) (ak (aa 1) (ak (aa 3) (ak (aa 4) av))))))) (i_ (fE (cZ (aU Q7 hr (ak (aa 0) (ak (aa 1) (ak (aa 4) (ak (aa 3) av)))))))))) (aD (aP cI)) bA)))
 (aD (aP cI)))))
abbrev xS:WM:=top 20
theorem AR (m:c9 w K mg) (QS:bE P w K mg base 3 2 "need_small" K23.gI) (QO:bE P w K mg base 2 3 "need_count" K55.fR) (Rz:bE P w K mg base 2 1 "views" K23.o_) (Q7:bE P w K mg base 1 4 "agree" K23.fJ) (Q8:bE P w K mg base 2 4 "goes_behind" K23.jk) (e:FB K mg "pairings" xS):bE P w K mg base 4 3 "pairings" K23.lT:=
 qc K23.xm K23.wM 3 e (λnd _ cdv A outer s H E J T hr=>
 (ay (jb (aU QS hr (ak (aa 0) (ak (aa 1) av))))
 (ay (jb (aU QO hr (ak (aa 2) (ak aq (ak (qf m.MOST_SMALL) av)))))
 (ay (aO 3 nd (aU Rz hr (ak (aa 0) av)))
 (ay (aO 4 nd (aU Rz hr (ak (aa 1) av)))
 (ay (aO 5 nd (bS (GA ["a","b"] [1,3,4] (fk (bg (ak (aJ (aa 0) aq) av) m.range)) (λ_ _ _ _ _ hc=>⟨(aC 0 (bR rfl)),br,(bg (ak (aJ (aa 2) aq) av) m.range),(aC 1 (bR rfl)),(e_ (cZ (aU Q7 hr (ak (aa 3) (ak (aa 4) (ak (aZ (au (aa 0) (au (aa 1) aL))) (ak (aZ (au (aa 0) (au (aa 1) aL))) av))))))),(aZ (au (aa 0) (au (aa 1) aL)))⟩))))
 (ay (fS 5 (aO 6 nd (bT (au (aZ aL) aL))))
 (ay (aO 7 nd (bT (au (aZ aL) aL)))
 (ay (bu (bg (ak (aa 2) av) m.range) (aC 8 nd) (ay (fS 5 (nF 6 nd (GA ["ahead","pair"] [5,3,4] (cu (aa 6)) (λ_ _ _ _ _ hc=>⟨(aC 0 (bR rfl)),br,(bW (aa 2)),(aC 1 (bR rfl)),(e_ (cZ (aU Q8 hr (ak (aa 3) (ak (aa 4) (ak (aa 0) (ak (aa 1) av))))))),(cO (aa 0) (aZ (au (aa 1) aL)))⟩))))
 (aD (sf 7 (aa 6)))))
 (aD (aP (aa 7))))))))))))
abbrev FP:WM:=top 22
theorem Gu (m:c9 w K mg) (RH:bE P w K mg base 1 1 "rising" K23.ig) (e:FB K mg "added" FP):bE P w K mg base 2 2 "added" K33.o8:=
 qc K33.EB K33.DP 2 e (λnd _ cdv A outer s H E J T hr=>
 (aD (aP (aU RH hr (ak (cO (aa 0) (aZ (au (aa 1) aL))) av)))))
abbrev sH:WM:=top 23
theorem yj (m:c9 w K mg) (e:FB K mg "pairs_with" sH):bE P w K mg base 1 4 "pairs_with" K33.gJ:=
 qc K33.r6 K33.rJ 4 e (λnd _ cdv A outer s H E J T hr=>
 (ay (bI (gE hr.units (aa 2) aq) (aD (aP (bS (fX ["answer"] [3] (fk (bg (ak (aJ (aa 1) aq) av) m.range)) (λ_ _ _ _ _ hc=>⟨(aC 0 (bR rfl)),br,(aZ (au (aa 1) (au (aa 0) aL)))⟩))))) bA)
 (aD (aP (bS (fX ["answer"] [3] (fk (bg (ak (aJ (aa 0) aq) av) m.range)) (λ_ _ _ _ _ hc=>⟨(aC 0 (bR rfl)),br,(aZ (au (aa 0) (au (aa 1) aL)))⟩)))))))
abbrev xT:WM:=top 24
theorem AS (m:c9 w K mg) (e:FB K mg "picks_of" xT):bE P w K mg base 1 2 "picks_of" K33.lU:=
 qc K33.xo K33.wN 2 e (λnd _ cdv A outer s H E J T hr=>
 (aD (aP (gu (bS (fX ["point"] [] (fk (bg (ak (aJ (aa 0) aq) av) m.range)) (λ_ _ _ _ _ hc=>⟨(aC 0 (bR rfl)),br,(aZ (au aq (au (aa 0) aL)))⟩))) (bS (fX ["point"] [] (fk (bg (ak (aJ (aa 1) aq) av) m.range)) (λ_ _ _ _ _ hc=>⟨(aC 0 (bR rfl)),br,(aZ (au aq (au (aa 0) aL)))⟩)))))))
abbrev xR:WM:=top 25
theorem AQ (m:c9 w K mg) (QZ:bE P w K mg base 1 4 "pairs_with" K33.gJ) (RM:bE P w K mg base 2 2 "added" K33.o8) (Rv:bE P w K mg base 1 2 "picks_of" K33.lU) (e:FB K mg "outcomes" xR):bE P w K mg base 3 4 "outcomes" K33.lS:=
 qc K33.xj K33.wL 4 e (λnd _ cdv A outer s H E J T hr=>
 (ay (aO 4 nd (bS (Mc hr.units ["a","pair"] [0,1,2] (fk (bg (ak (aJ (aa 0) aq) av) m.range)) (λ_ _ _ _ _ hc=>⟨(aC 0 (bR rfl)),br,(bW (aU QZ hr (ak (aa 2) (ak (aa 3) (ak aq (ak (aa 0) av)))))),(aC 1 (bR rfl)),br,(aa 1),(aU RM hr (ak (aa 4) (ak (aa 1) av)))⟩))))
 (aD (aP (bS (fX ["side","point"] [0,1,4,3] (cu (aU Rv hr (ak (aa 0) (ak (aa 1) av)))) (λ_ _ _ _ _ hc=>⟨(cP (aW (aC 0 (bR rfl)) (aW (aC 1 (bR rfl)) cC))),br,(bS (fX ["pair"] [4,5] (cu (aU QZ hr (ak (aa 2) (ak (aa 3) (ak (aa 0) (ak (aa 1) av)))))) (λ_ _ _ _ _ hc=>⟨(aC 0 (bR rfl)),(e_ (K2 hr.units (fG hr.units (aa 1) (aa 0)) (aa 2))),(fG hr.units (aa 1) (aa 0))⟩) (uq (qF hc rfl))))⟩)))))))
abbrev mC:WM:=top 26
theorem qZ (m:c9 w K mg) (e:FB K mg "answered_still" mC):bE P w K mg base 1 2 "answered_still" K33.cV:=
 qc K33.mh K33.lV 2 e (λnd _ cdv A outer s H E J T hr=>
 (aD (aP (v5 (ak (bS (fX ["row"] [1] (cu (aa 0)) (λ_ _ _ _ _ hc=>⟨(aC 0 (bR rfl)),br,(v_ (ak (bS (fX ["pairing"] [1] (cu (aa 0)) (λ_ _ _ _ _ hc=>⟨(aC 0 (bR rfl)),br,(Fx (fG hr.units (aa 1) (aa 0)) kY)⟩) (uq (qF hc rfl)))) av) m.any)⟩))) av) m.all))))
abbrev BX:WM:=top 27
theorem Ei (m:c9 w K mg) (QN:bE P w K mg base 1 2 "answered_still" K33.cV) (e:FB K mg "peeled" BX):bE P w K mg base 2 2 "peeled" K33.mR:=
 qc K33.Bt K33.qB 2 e (λnd _ cdv A outer s H E J T hr=>
 (ay (aO 2 nd (bS (Ct hr.units ["pairing"] [] (jS (aa 0)) (λ_ _ _ _ _ hc=>⟨(aC 0 (bR rfl)),br,(aa 0),kY⟩))))
 (ay (aO 3 nd aq)
 (ay (nF 4 nd (fX ["pairing"] [1,0,2] (jS (aa 0)) (λ_ _ _ _ _ hc=>⟨(aC 0 (bR rfl)),(e_ (fE (cZ (Al 1 QN m.fv_answered_still hr (ak (fG hr.units (aa 2) (aa 0)) (ak (aa 3) av)) BU)))),(aa 0)⟩)))
 (ay (Dj 400000 (qU (aa 4)) (ay (fS 4 (bu (bW (aa 4)) (aC 5 nd) (aD (tL 2 hr.units (aa 3) (aa 5)))))
 (ay (Fw 3 nd aq)
 (aD (nF 4 nd (fX ["pairing"] [2,1,0] (jS (aa 0)) (λ_ _ _ _ _ hc=>⟨(aC 0 (bR rfl)),(e_ (fD (qT (Ft (fG hr.units (aa 1) (aa 0)) kY) (om (fE (cZ (Al 2 QN m.fv_answered_still hr (ak (fG hr.units (aa 3) (aa 0)) (ak (aa 1) av)) BU))))))),(aa 0)⟩)))))))
 (aD (aP (aa 2))))))))
abbrev xN:WM:=top 28
theorem AM (m:c9 w K mg) (e:FB K mg "in_layer" xN):bE P w K mg base 1 3 "in_layer" K33.lR:=
 qc K33.xg K33.pB 3 e (λnd _ cdv A outer s H E J T hr=>
 (aD (aP (v7 (wc hr.units (aa 1) (aa 0)) (ow (NB (Fx (fG hr.units (aa 0) (aa 1)) kY) (ow (Nz (fG hr.units (aa 0) (aa 1)) (aa 2)))))))))
abbrev ve:WM:=top 29
theorem zm (m:c9 w K mg) (Rp:bE P w K mg base 1 3 "in_layer" K33.lR) (e:FB K mg "layers_of" ve):bE P w K mg base 2 2 "layers_of" K31.kF:=
 qc K31.uJ K31.ua 2 e (λnd _ cdv A outer s H E J T hr=>
 (aD (aP (bS (Pa ["step"] [0] (fk (bg (ak (gu (aa 1) aq) av) m.range)) (λ_ _ _ _ _ hc=>⟨(aC 0 (bR rfl)),br,(bS (fX ["pairing"] [1,0] (jS (aa 1)) (λ_ _ _ _ _ hc=>⟨(aC 0 (bR rfl)),(e_ (cZ (aU Rp hr (ak (aa 1) (ak (aa 0) (ak (aa 2) av)))))),(aa 0)⟩) (uq (qF hc rfl))))⟩))))))
abbrev qx:WM:=top 32
theorem vI (m:c9 w K mg) (e:FB K mg "parts_below" qx):bE P w K mg base 1 2 "parts_below" K66.jm:=
 qc K66.pU K66.pD 2 e (λnd _ cdv A outer s H E J T hr=>
 (ay (aO 2 nd (bT (au (aZ aL) aL)))
 (ay (bu (bW (aa 0)) (aC 3 nd) (aD (aO 2 nd (Am (aa 2) (bS (fX ["part"] [3] (cu (aa 2)) (λ_ _ _ _ _ hc=>⟨(aC 0 (bR rfl)),br,(cO (aa 0) (aZ (au (aa 1) aL)))⟩)))))))
 (aD (aP (Fz (bS (fX ["part"] [1] (cu (aa 2)) (λ_ _ _ _ _ hc=>⟨(aC 0 (bR rfl)),(e_ (iy uU (gT λ_ _ _=>.bl _) (dR (ak (aa 0) av) m.len) (aa 1))),(aa 0)⟩))) m.sorted m.len))))))
abbrev sD:WM:=top 33
theorem yd (m:c9 w K mg) (Ru:bE P w K mg base 4 3 "pairings" K23.lT) (Rt:bE P w K mg base 3 4 "outcomes" K33.lS) (Q_:bE P w K mg base 1 2 "parts_below" K66.jm) (RE:bE P w K mg base 2 2 "peeled" K33.mR) (e:FB K mg "few_depths" sD):bE P w K mg base 5 3 "few_depths" K66.jX:=
 qc K66.rW K66.rD 3 e (λnd _ cdv A outer s H E J T hr=>
 (ay (aO 3 nd (bS (Ct hr.units ["pairing"] [] (cu (aU Ru hr (ak (aa 0) (ak (aa 1) (ak (aa 2) av))))) (λ_ _ _ _ _ hc=>⟨(aC 0 (bR rfl)),br,(aa 0),cI⟩))))
 (ay (aO 4 nd (bS (Ct hr.units ["pairing"] [2,0,1,3] (jS (aa 3)) (λ_ _ _ _ _ hc=>⟨(aC 0 (bR rfl)),(e_ (iy uU (gT λ_ _ _=>.bl _) (dR (ak (aa 0) av) m.len) (aa 1))),(aa 0),(aU Rt hr (ak (aa 2) (ak (aa 3) (ak (aa 0) (ak (aa 4) av)))))⟩))))
 (ay (nF 5 nd (Ct hr.units ["pairing"] [2,4] (jS (aa 3)) (λ_ _ _ _ _ hc=>⟨(aC 0 (bR rfl)),br,(aa 0),(bS (GA ["part","row"] [2] (cu (aU Q_ hr (ak (aa 0) (ak (aa 1) av)))) (λ_ _ _ _ _ hc=>⟨(aC 0 (bR rfl)),br,(bW (fG hr.units (aa 2) (aa 0))),(aC 1 (bR rfl)),br,(aa 1)⟩) (uq (qF hc rfl))))⟩)))
 (aD (aP (HG RE m.fv_answered_still hr (aa 5))))))))
abbrev sE:WM:=top 34
theorem ye (m:c9 w K mg) (QS:bE P w K mg base 3 2 "need_small" K23.gI) (QO:bE P w K mg base 2 3 "need_count" K55.fR) (Rf:bE P w K mg base 5 3 "few_depths" K66.jX) (Rk:bE P w K mg base 2 2 "layers_of" K31.kF) (e:FB K mg "few_rounds" sE):bE P w K mg base 6 3 "few_rounds" K61.iK:=
 qc K61.rX K61.rE 3 e (λnd _ cdv A outer s H E J T hr=>
 (ay (jb (aU QS hr (ak (aa 0) (ak (aa 1) av))))
 (ay (jb (aU QO hr (ak (aa 2) (ak aq (ak (dR (ak (qf m.FEW_LETTERS) av) m.len) av)))))
 (ay (aO 3 nd (aU Rf hr (ak (aa 0) (ak (aa 1) (ak (aa 2) av)))))
 (aD (aP (aU Rk hr (ak (aa 3) (ak (HJ (bS (fX ["depth"] [] (HL (aa 3)) (λ_ _ _ _ _ hc=>⟨(aC 0 (bR rfl)),(e_ (Fv (aa 0) kY)),(aa 0)⟩))) m.max) av)))))))))
abbrev oZ:WM:=top 36
theorem uh (m:c9 w K mg) (e:FB K mg "_law_cell_at" oZ):bE P w K mg base 1 2 "_law_cell_at" K72.gw:=
 qc K72.oR K72.oK 2 e (λnd _ cdv A outer s H E J T hr=>
 (ay (bI (iy uU (gT λ_ _ _=>.bl _) (aa 1) (dR (ak (aa 0) av) m.len)) (aD (aP (aJ (aa 0) (aa 1)))) bA)
 (aD (aP aq))))
abbrev u7:WM:=top 37
theorem zc (m:c9 w K mg) (e:FB K mg "_law_more" u7):bE P w K mg base 1 2 "_law_more" K72.ji:=
 qc K72.uG K72.t7 2 e (λnd _ cdv A outer s H E J T hr=>
 (ay (aO 2 nd (bT aL))
 (ay (aO 3 nd (K5 (ak (jR (aa 0) aq) av) m.abs))
 (ay (bI (gE hr.units (cD (aa 0) aq) aq) (ay (bu (bg (ak (aa 1) av) m.range) (aC 4 nd) (ay (cQ 2 (cD (aa 3) (jc aq aq)))
 (aD (aO 3 nd (jR (aa 3) (jc aq aq))))))
 (aD (aP (aa 2)))) bA)
 (ay (aO 3 nd (gu (cD (aa 3) (jc aq aq)) aq))
 (ay (bu (bg (ak (aa 1) av) m.range) (aC 4 nd) (ay (aO 3 nd (cD (gu (gu (gg (aa 3) aq) (jR (aa 3) (jc aq aq))) (gg aq (aa 4))) (gu (jc aq aq) aq)))
 (aD (cQ 2 (jR (gg (aa 3) (gu (jR (aa 3) (jc aq aq)) aq)) (jc aq aq))))))
 (aD (aP (aa 2)))))))))
abbrev sq:WM:=top 38
theorem xZ (m:c9 w K mg) (e:FB K mg "_law_freed" sq):bE P w K mg base 1 2 "_law_freed" K72.iI:=
 qc K72.rQ K72.q_ 2 e (λnd _ cdv A outer s H E J T hr=>
 (ay (bI (Ny hr.units (aa 0) (bT (au fH (au fH (au fH (au fH (au fH (au fH (au fH (au fH aL)))))))))) (ay (bI (qU (aa 1)) (aD (aP (cO fH (nG (aa 0) (h_ aq) g_)))) bA)
 (aD (aP (cO (aa 0) fH)))) bA)
 (aD (aP (aa 0)))))
abbrev sy:WM:=top 39
theorem x_ (m:c9 w K mg) (QW:bE P w K mg base 1 2 "_law_freed" K72.iI) (e:FB K mg "_law_names" sy):bE P w K mg base 2 2 "_law_names" K72.gH:=
 qc K72.rS K72.rB 2 e (λnd _ cdv A outer s H E J T hr=>
 (ay (aO 2 nd fH)
 (ay (aO 3 nd fH)
 (ay (bu (bg (ak aq av) m.range) (aC 4 nd) (ay (aO 3 nd (cO (aa 3) (aJ (aa 2) (cD (aa 0) aq))))
 (aD (aO 0 nd (fF (aa 0) aq)))))
 (ay (bI (gE hr.units (cD (aa 0) aq) aq) (aD (aP (uX (ak (bS (fX ["_law_k"] [3] (fk (bg (ak (aa 1) av) m.range)) (λ_ _ _ _ _ hc=>⟨(aC 0 (bR rfl)),br,(aU QW hr (ak (nG (aa 1) g_ (h_ (cO aq (aa 0)))) (ak cI av)))⟩))) av) m.sorted))) bA)
 (ay (aO 3 nd (nG (aa 3) g_ (h_ (cO aq (cD (fF (aa 0) aq) aq)))))
 (ay (aO 5 nd (cD (fF (aa 0) aq) (dR (ak (aa 3) av) m.len)))
 (ay (aO 6 nd (bT aL))
 (ay (bu (bg (ak (aa 1) av) m.range) (aC 4 nd) (ay (aO 7 nd (aJ (aa 2) (cD (cO (HH (aa 2) (aJ (aa 3) (aa 5))) (gg aq (aa 4))) aq)))
 (aD (cQ 6 (aU QW hr (ak (cO (cO (nG (aa 3) g_ (h_ (aa 5))) (aa 7)) (nG (aa 3) (h_ (cO (aa 5) aq)) g_)) (ak cI av)))))))
 (aD (aP (uX (ak (aa 6) av) m.sorted))))))))))))
abbrev sC:WM:=top 40
theorem yc (m:c9 w K mg) (e:FB K mg "_law_world" sC):bE P w K mg base 1 4 "_law_world" K72.dS:=
 qc K72.rV ["_law_many","_law_marks","_law_arrows","_law_number","_law_parts_here","_law_name","_law_points","_law_point","_law_more_here","_law_pairs","_law_one","_law_other"] 4 e (λnd _ cdv A outer s H E J T hr=>
 (ay (aO 4 nd (bT aL))
 (ay (bu (bW (aa 1)) (aC 5 nd) (ay (aO 6 nd (bT aL))
 (ay (bu (bg (ak (aa 0) av) m.range) (aC 7 nd) (ay (bI (gE hr.units (cD (aa 3) aq) aq) (aD (cQ 6 (aa 7))) bA)
 (aD (aO 3 nd (fF (aa 3) aq)))))
 (aD (cQ 4 (aZ (au (aa 5) (au (cX (ak (aa 6) av) m.tuple) aL))))))))
 (ay (aO 8 nd (bT aL))
 (ay (bu (bW (aa 2)) (aC 5 nd) (ay (aO 9 nd (bT aL))
 (ay (bu (bg (ak (aa 0) av) m.range) (aC 10 nd) (aD (bu (bg (ak (aa 0) av) m.range) (aC 11 nd) (ay (bI (gE hr.units (cD (aa 3) aq) aq) (aD (cQ 9 (aZ (au (aa 10) (au (aa 11) aL))))) bA)
 (aD (aO 3 nd (fF (aa 3) aq)))))))
 (aD (cQ 8 (aZ (au (aa 5) (au (cX (ak (aa 9) av) m.tuple) aL))))))))
 (aD (aP (aZ (au (aa 0) (au (cX (ak (aa 4) av) m.tuple) (au (cX (ak (aa 8) av) m.tuple) aL)))))))))))
abbrev o5:WM:=top 41
theorem um (m:c9 w K mg) (e:FB K mg "_law_flipped" o5):bE P w K mg base 1 2 "_law_flipped" K72.gx:=
 qc K72.oS K72.oM 2 e (λnd _ cdv A outer s H E J T hr=>
 (ay (aO 2 nd aq)
 (ay (bu (bg (ak (aa 1) av) m.range) (aC 3 nd) (aD (aO 2 nd (gg (aa 2) aq))))
 (ay (bI (gE hr.units (cD (jR (aa 0) (aa 2)) aq) aq) (aD (aP (qV (aa 0) (aa 2)))) bA)
 (aD (aP (gu (aa 0) (aa 2))))))))
abbrev qo:WM:=top 42
theorem vF (m:c9 w K mg) (e:FB K mg "_law_turned" qo):bE P w K mg base 1 2 "_law_turned" K72.fc:=
 qc K72.pQ K72.pq 2 e (λnd _ cdv A outer s H E J T hr=>
 (ay (aO 2 nd (Dk (ak (aJ (aa 0) aq) av) m.range m.list))
 (ay (aO 3 nd (bT aL))
 (ay (bu (bg (ak (aJ (aa 0) aq) av) m.range) (aC 4 nd) (ay (AV 3 2 (cD (aa 1) (dR (ak (aa 2) av) m.len)))
 (aD (aO 1 nd (fF (aa 1) aq)))))
 (ay (aO 5 nd (bT aL))
 (ay (bu (bW (aJ (aa 0) aq)) (cP (aW (aC 6 nd) (aW (aC 7 nd) cC))) (aD (cQ 5 (aZ (au (aa 6) (au (cX (ak (xC hr.units (ak (bS (fX ["_law_point"] [3] (cu (aa 7)) (λ_ _ _ _ _ hc=>⟨(aC 0 (bR rfl)),br,(aJ (aa 1) (aa 0))⟩))) av) m.sorted) av) m.tuple) aL))))))
 (ay (aO 8 nd (bT aL))
 (ay (bu (bW (aJ (aa 0) aq)) (cP (aW (aC 6 nd) (aW (aC 9 nd) cC))) (aD (cQ 8 (aZ (au (aa 6) (au (cX (ak (xC hr.units (ak (bS (fX ["_law_a","_law_b"] [3] (cu (aa 9)) (λ_ _ _ _ _ hc=>⟨(cP (aW (aC 0 (bR rfl)) (aW (aC 1 (bR rfl)) cC))),br,(aZ (au (aJ (aa 2) (aa 0)) (au (aJ (aa 2) (aa 1)) aL)))⟩))) av) m.sorted) av) m.tuple) aL))))))
 (aD (aP (aZ (au (aJ (aa 0) aq) (au (cX (ak (aa 5) av) m.tuple) (au (cX (ak (aa 8) av) m.tuple) aL))))))))))))))
abbrev xM:WM:=top 43
theorem AL (m:c9 w K mg) (Rg:bE P w K mg base 1 2 "_law_more" K72.ji) (QX:bE P w K mg base 2 2 "_law_names" K72.gH) (QM:bE P w K mg base 1 4 "_law_world" K72.dS) (QU:bE P w K mg base 1 2 "_law_turned" K72.fc) (Q5:bE P w K mg base 1 2 "_law_flipped" K72.gx) (e:FB K mg "_law_two" xM):bE P w K mg base 3 2 "_law_two" K72.gX:=
 qc K72.w_ K72.wJ 2 e (λnd _ cdv A outer s H E J T hr=>
 (ay (aO 2 nd (aU Rg hr (ak (aa 0) (ak aq av))))
 (ay (aO 3 nd (BV (aU QX hr (ak (aJ (aa 2) aq) (ak aq av))) g_ (h_ (aJ (bT (au aq (au aq (au aq (au aq (au aq (au aq aL))))))) (cD (aJ (aa 2) aq) aq)))))
 (ay (aO 4 nd (BV (aU QX hr (ak (aJ (bT (au (aJ (aa 2) aq) (au (aJ (aa 2) aq) aL))) (fF (cD (fF (aJ (aa 2) aq) aq) aq) aq)) (ak aq av))) g_ (h_ (aJ (bT (au aq (au aq (au aq (au aq (au aq (au aq aL))))))) (cD (fF (aJ (aa 2) aq) aq) aq)))))
 (ay (aO 5 nd (aJ (aa 1) (cD (fF (aJ (aa 2) aq) aq) (dR (ak (aa 1) av) m.len))))
 (ay (aO 6 nd (aJ (bT (au aq (au (qV (jc aq aq) aq) (au (aJ (aa 2) aq) (au (aJ (aa 2) aq) (au (aJ (aa 2) aq) (au (aJ (aa 2) aq) aL))))))) (cD (fF (aJ (aa 2) aq) aq) aq)))
 (ay (fS 4 (fS 3 (aO 7 nd (aU QM hr (ak (aa 5) (ak (aa 3) (ak (aa 4) (ak (aa 6) av))))))))
 (ay (aO 8 nd (cD (aJ (aa 2) aq) aq))
 (ay (bI (gE hr.units (aa 8) aq) (aD (aP (aZ (au (aa 7) (au (aU QU hr (ak (aa 7) (ak (aJ (aa 2) aq) av))) aL))))) bA)
 (ay (bI (gE hr.units (aa 8) aq) (ay (aO 9 nd (K6 (ak aq (ak (gu (gg (aa 5) (dR (ak (aa 3) av) m.len)) (gg (gg (aa 5) (aa 5)) (dR (ak (aa 4) av) m.len))) av)) m.max))
 (ay (aO 10 nd (aU QM hr (ak (aa 5) (ak (aa 3) (ak (aa 4) (ak (aU Q5 hr (ak (aa 6) (ak (cD (fF (aJ (aa 2) aq) aq) (aa 9)) av))) av))))))
 (aD (aP (aZ (au (aa 7) (au (aU QU hr (ak (aa 10) (ak (aJ (aa 2) aq) av))) aL))))))) bA)
 (ay (aO 5 nd (aJ (aa 1) (cD (aJ (aa 2) aq) (dR (ak (aa 1) av) m.len))))
 (ay (bI (gE hr.units (aa 8) aq) (aD (aP (aZ (au (aa 7) (au (aU QM hr (ak (aa 5) (ak (aa 3) (ak (aa 4) (ak (aa 6) av))))) aL))))) bA)
 (aD (aP (aZ (au (aa 7) (au (aU QM hr (ak (aa 5) (ak (aa 3) (ak (aa 4) (ak (aJ (aa 2) aq) av))))) aL)))))))))))))))))
abbrev As:WM:=top 44
theorem Cr (m:c9 w K mg) (e:FB K mg "_law_at" As):bE P w K mg base 1 3 "_law_at" K72.k8:=
 qc K72.zM K72.yR 3 e (λnd _ cdv A outer s H E J T hr=>
 (ay (bu (bW (aa 0)) (cP (aW (aC 3 nd) (aW (aC 4 nd) cC))) (aD (bI (gE hr.units (aa 3) (aa 1)) (aD (aP (qh hr.units (aa 2) (aa 4)))) bA)))
 (aD (aP cI))))
abbrev xK:WM:=top 45
theorem AK (m:c9 w K mg) (Ra:bE P w K mg base 1 3 "_law_at" K72.k8) (e:FB K mg "_law_fit" xK):bE P w K mg base 2 3 "_law_fit" K72.i8:=
 qc K72.w5 K72.wI 3 e (λnd _ cdv A outer s H E J T hr=>
 (ay (bu (bW (aa 2)) (cP (aW (aC 3 nd) (aW (aC 4 nd) cC))) (ay (bu (bW (aJ (aa 0) aq)) (cP (aW (aC 5 nd) (aW (aC 6 nd) cC))) (aD (bI (lK hr.units (qh hr.units (aa 3) (aa 6)) (aU Ra hr (ak (aJ (aa 1) aq) (ak (aa 5) (ak (aa 4) av))))) (aD (aP cI)) bA)))
 (aD (bu (bW (aa 2)) (cP (aW (aC 7 nd) (aW (aC 8 nd) cC))) (ay (bI (lK hr.units (qe hr.units (aa 3) (aa 7)) (qe hr.units (aa 4) (aa 8))) (aD (aP cI)) bA)
 (aD (bu (bW (aJ (aa 0) aq)) (cP (aW (aC 5 nd) (aW (aC 9 nd) cC))) (aD (bI (lK hr.units (qh hr.units (aZ (au (aa 3) (au (aa 7) aL))) (aa 9)) (aU Ra hr (ak (aJ (aa 1) aq) (ak (aa 5) (ak (aZ (au (aa 4) (au (aa 8) aL))) av))))) (aD (aP cI)) bA)))))))))
 (aD (aP cI))))
abbrev vc:WM:=top 46
theorem ze (m:c9 w K mg) (e:FB K mg "_law_with" vc):bE P w K mg base 1 2 "_law_with" K72.jj:=
 qc K72.uI K72.t_ 2 e (λnd _ cdv A outer s H E J T hr=>
 (aD (aP (cX (ak (FD hr.units (ak (cO (An (ak (aa 0) av) m.list) (bT (au (aa 1) aL))) av) m.sorted m.set) av) m.tuple))))
abbrev nL:WM:=top 47
theorem sO (m:c9 w K mg) (Rn:bE P w K mg base 2 3 "_law_fit" K72.i8) (e:FB K mg "_law_pairings" nL):bE P w K mg base 3 3 "_law_pairings" K72.ic:=
 qc K72.nq K72.mU 3 e (λnd _ cdv A outer s H E J T hr=>
 (ay (aO 3 nd (bT (au (aZ aL) aL)))
 (ay (fS 6 (aO 4 nd (bT (au (aZ aL) aL))))
 (ay (bu (bg (ak (aa 2) av) m.range) (aC 5 nd) (ay (aO 6 nd (bT aL))
 (ay (fS 4 (bu (bW (aa 4)) (aC 7 nd) (aD (bu (bg (ak (aJ (aa 0) aq) av) m.range) (aC 8 nd) (aD (bu (bg (ak (aJ (aa 1) aq) av) m.range) (aC 9 nd) (aD (bI (fD (qT (fD (jA (gE hr.units (aa 7) (aZ aL)) (i_ (K4 hr.units (aJ (aa 7) (we aq)) (aZ (au (aa 8) (au (aa 9) aL))))))) (om (cZ (aU Rn hr (ak (aa 0) (ak (aa 1) (ak (cO (aa 7) (aZ (au (aZ (au (aa 8) (au (aa 9) aL))) aL))) av)))))))) (aD (cQ 6 (cO (aa 7) (aZ (au (aZ (au (aa 8) (au (aa 9) aL))) aL))))) bA))))))))
 (ay (fS 6 (aO 4 nd (aa 6)))
 (aD (sf 3 (aa 6)))))))
 (aD (aP (aa 3)))))))
abbrev sA:WM:=top 48
theorem yb (m:c9 w K mg) (e:FB K mg "_law_parts" sA):bE P w K mg base 1 2 "_law_parts" K61.iJ:=
 qc K61.rT K61.rC 2 e (λnd _ cdv A outer s H E J T hr=>
 (ay (aO 2 nd (bT (au (aZ aL) aL)))
 (ay (bu (bW (aa 0)) (aC 3 nd) (aD (aO 2 nd (Am (aa 2) (bS (fX ["_law_part"] [3] (cu (aa 2)) (λ_ _ _ _ _ hc=>⟨(aC 0 (bR rfl)),br,(cO (aa 0) (aZ (au (aa 1) aL)))⟩)))))))
 (aD (aP (bS (fX ["_law_part"] [1] (cu (aa 2)) (λ_ _ _ _ _ hc=>⟨(aC 0 (bR rfl)),(e_ (iy uU (gT λ_ _ _=>.bl _) (dR (ak (aa 0) av) m.len) (aa 1))),(aa 0)⟩))))))))
abbrev o6:WM:=top 49
theorem uo (m:c9 w K mg) (Q3:bE P w K mg base 1 2 "_law_with" K72.jj) (e:FB K mg "_law_goes_on" o6):bE P w K mg base 2 4 "_law_goes_on" K61.iU:=
 qc K61.oU K61.oN 4 e (λnd _ cdv A outer s H E J T hr=>
 (ay (bu (bg (ak (aJ (aa 0) aq) av) m.range) (aC 4 nd) (aD (bI (fE (cZ (v_ (ak (bS (fX ["_law_b"] [2,4,3] (fk (bg (ak (aJ (aa 1) aq) av) m.range)) (λ_ _ _ _ _ hc=>⟨(aC 0 (bR rfl)),br,(wc hr.units (aU Q3 hr (ak (aa 1) (ak (aZ (au (aa 2) (au (aa 0) aL))) av))) (aa 3))⟩))) av) m.any))) (aD (aP cI)) bA)))
 (ay (bu (bg (ak (aJ (aa 1) aq) av) m.range) (aC 5 nd) (aD (bI (fE (cZ (v_ (ak (bS (fX ["_law_a"] [2,5,3] (fk (bg (ak (aJ (aa 0) aq) av) m.range)) (λ_ _ _ _ _ hc=>⟨(aC 0 (bR rfl)),br,(wc hr.units (aU Q3 hr (ak (aa 1) (ak (aZ (au (aa 0) (au (aa 2) aL))) av))) (aa 3))⟩))) av) m.any))) (aD (aP cI)) bA)))
 (aD (aP cI)))))
abbrev u_:WM:=top 50
theorem zd (m:c9 w K mg) (Rc:bE P w K mg base 1 2 "_law_parts" K61.iJ) (Q6:bE P w K mg base 2 4 "_law_goes_on" K61.iU) (e:FB K mg "_law_next" u_):bE P w K mg base 3 4 "_law_next" K61.kE:=
 qc K61.uH K61.t8 4 e (λnd _ cdv A outer s H E J T hr=>
 (ay (xB 4 nd)
 (ay (bu (bW (aa 2)) (aC 5 nd) (aD (tL 4 hr.units cI (aa 5))))
 (ay (xB 6 nd)
 (ay (aO 7 nd (bT aL))
 (ay (bu (bW (aa 2)) (aC 5 nd) (ay (aO 8 nd cI)
 (ay (bu (bW (aU Rc hr (ak (aa 5) (ak (aa 3) av)))) (aC 9 nd) (ay (bI (Di hr.units (aa 9) (aa 6)) (aD (tL 6 hr.units (aU Q6 hr (ak (aa 0) (ak (aa 1) (ak (aa 9) (ak (aa 4) av))))) (aa 9))) bA)
 (aD (aO 8 nd (v7 (aa 8) (ow (fG hr.units (aa 6) (aa 9))))))))
 (aD (bI (qU (aa 8)) (aD (cQ 7 (aa 5))) bA)))))
 (aD (aP (aa 7)))))))))
abbrev su:WM:=top 51
theorem x6 (m:c9 w K mg) (e:FB K mg "_law_kinds" su):bE P w K mg base 1 1 "_law_kinds" K71.jW:=
 qc K71.rR K71.rA 1 e (λnd _ cdv A outer s H E J T hr=>
 (ay (bI (fD (jA (fE (cZ (fP zU ug m.list (aa 0) m.isinstance))) (i_ (fE (cZ (v5 (ak (bS (fX ["_law_some"] [] (cu (aa 0)) (λ_ _ _ _ _ hc=>⟨(aC 0 (bR rfl)),br,(fP zU ug m.list (aa 0) m.isinstance)⟩))) av) m.all)))))) (aD (aP cI)) bA)
 (ay (bu (bW (aa 0)) (aC 1 nd) (aD (fS 1 (bu (bW (aa 1)) (aC 2 nd) (ay (bI (fD (jA (fE (cZ (fP kit_tuple rO m.tuple (aa 2) m.isinstance))) (i_ (fE (cZ (v5 (ak (bS (fX ["_law_pair"] [] (cu (aa 2)) (λ_ _ _ _ _ hc=>⟨(aC 0 (bR rfl)),br,(fP kit_tuple rO m.tuple (aa 0) m.isinstance)⟩))) av) m.all)))))) (aD (aP cI)) bA)
 (aD (fS 2 (bu (bW (aa 2)) (cP (aW (aC 3 nd) (aW (aC 4 nd) cC))) (aD (bI (fD (jA (cZ (fP tE nT m.bool (aa 3) m.isinstance)) (i_ (cZ (fP tE nT m.bool (aa 4) m.isinstance))))) (aD (aP cI)) bA))))))))))
 (aD (aP cI)))))
abbrev oz:WM:=top 52
theorem OJ:ie ["_law_script","_law_letters","_law_sizes","_law_one","_law_other","_law_found","_law_due","_law_k","_law_kept"] ["_law_script"] (bH oz):=⟨rfl,rfl,rfl,by decide +kernel,rfl,by decide +kernel,by decide +kernel⟩
theorem Oq (m:c9 w K mg) (QT:bE P w K mg base 1 2 "_law_cell_at" K72.gw) (Ro:bE P w K mg base 3 2 "_law_two" K72.gX) (QY:bE P w K mg base 6 3 "few_rounds" K61.iK) (Rb:bE P w K mg base 1 1 "_law_kinds" K71.jW) (Q2:bE P w K mg base 3 3 "_law_pairings" K72.ic) (Rh:bE P w K mg base 3 4 "_law_next" K61.kE) (F:oJ K "law" "law" oz f fd):jH P w K mg base oH 7 f fd ["_law_script"] (qw K 1 K61.vt):=
 have sc:=OJ
 Ex (k:=6) (gB:=K61.Ms) F sc (λcdv A outer s H E J T hr=>IB.h (
 (f6 (iT (aO 1 sc.nd (cO aq (cD (aU QT hr (ak (aa 0) (ak aq av))) aq))))
 (f6 (iT (aO 2 sc.nd (aJ (bT (au (bT (au aq (au aq (au aq (au aq (au aq aL)))))) (au (bT (au aq (au aq (au aq (au aq (au aq (au aq aL))))))) (au (bT (au aq (au aq (au aq (au aq (au aq (au aq (au aq (au aq (au aq (au aq aL))))))))))) aL)))) (qV (aa 1) aq))))
 (f6 (iT (tM (aU Ro hr (ak (aU QT hr (ak (aa 0) (ak aq av))) (ak (aa 2) av))) (cP (aW (aC 3 sc.nd) (aW (aC 4 sc.nd) cC)))))
 (f6 (iT (Ak 5 (aO 5 sc.nd (aU QY hr (ak (aa 3) (ak (aa 4) (ak (aa 1) av)))))))
 (f6 (iT (bI (fD (jA (fE (cZ (aU Rb hr (ak (aa 5) av)))) (i_ (gE hr.units (dR (ak (aa 5) av) m.len) aq)))) (aD (aP cI)) bA))
 (f6 (iT (bI (lK hr.units (aJ (aa 5) aq) (aU Q2 hr (ak (aa 3) (ak (aa 4) (ak (aa 1) av))))) (aD (aP cI)) bA))
 (f6 (iT (aO 6 sc.nd (aJ (aa 5) aq)))
 (f6 (iT (bu (bg (ak (dR (ak (aa 5) av) m.len) av) m.range) (aC 7 sc.nd) (ay (bI (fD (jA (lK hr.units (aJ (aa 5) (aa 7)) (aa 6)) (i_ (fD (qT (iy yF (gT λ_ _ _=>.bl _) (aa 7) aq) (om (iy Ot (gT λ_ _ _=>.bl _) (dR (ak (aa 6) av) m.len) (dR (ak (aJ (aa 5) (qV (aa 7) aq)) av) m.len)))))))) (aD (aP cI)) bA)
 (aD (aO 6 sc.nd (aU Rh hr (ak (aa 3) (ak (aa 4) (ak (aa 6) (ak (aa 1) av))))))))))
 (f6 (iT (bI (lK hr.units (aa 6) (aJ (aa 5) (we aq))) (aD (aP cI)) bA))
 (f6 (iT (HE 2 (nF 8 sc.nd (Pa ["_law_some"] [] (cu (aa 5)) (λ_ _ _ _ _ hc=>⟨(aC 0 (bR rfl)),br,(An (ak (aa 0) av) m.list)⟩)))))
 (f6 (K8 5 aq)
 (OB (ay (Ak 5 (cQ 5 (bT aL)))
 (aD (aP (qe hr.units (aU QY hr (ak (aa 3) (ak (aa 4) (ak (aa 1) av)))) (aa 8))))))))))))))))))) (λas r _ h=>h)
end
end K61
namespace K61
open PySem DL K01 WP K51 K52 K55 K22 K33 K72 K66
open K23 (Pr aE Good told gP fN eZ fC bx eS dG dB jh LG prs ia allM)
open K31 (zx dw)
open K71 (fill)
section
variable {v w:Wd}{n:Nat}
theorem F7 (t:Pr v w) (hn:n<=3):(told v w n).length<=4369:=by
 have p16:(prs v w).length<=16:=by have h1:=UR (λp=>K23.iL v w p p) (K23.dJ v.m w.m);rw [K23.zW] at h1;have h2:=W0 t.v4 t.w4;unfold prs;omega
 have l16:∀j,(LG v w j).length<=16 ^ j:=by
  intro j
  induction j with
  | zero=>exact Ud _
  | succ j ih=>
   have h:=K23.jN (λah=>((prs v w).filter (K23.gb v w ah)).map λq=>ah++[q]) 16 (LG v w j) λah _=>by rw [T8];exact UC (UR _ _) p16
   have h2:=V1 16 ih;rw [Y3];exact UC h h2
 have h1:=l16 1;have h2:=l16 2;have h3:=l16 3;have e:told v w 3=((told v w 0++LG v w 1)++LG v w 2)++LG v w 3:=rfl;have l3:(told v w 3).length<=4369:=by rw [e,Uo,Uo,Uo];show 1 + _ + _ + _<=_;omega
 have sub:∀m k,(told v w m).length<=(told v w (m + k)).length:=by
  intro m k
  induction k with
  | zero=>exact Ud _
  | succ k ih=>exact UC ih (by show _<=(told v w (m + k)++LG v w (m + k + 1)).length;rw [Uo];omega)
 have:=sub n (3 - n);rw [show n + (3 - n)=3 by omega] at this;omega
theorem Lv (ks:List Ps) (f:Ps->Option Nat) (n:Nat) (hn:n<=10000) (hl:ks.length<=1000000):K31.kF [.db (ks.map aE) (ks.map λk=>dV (f k)),.d (.int n)]=.ok (.ln ((Ue (n + 1)).map λj=>b8 (ks.filter λk=>r_ (f k) j))):=by refine b9 (bG (zx (xs:=Ue (n + 1)) (h:=dN) (λj=>(ks.filter λk=>r_ (f k) j).map aE) ((NI (n:=n + 1) (b_ (two rfl rfl rfl)) (by omega)).trans (by rw [HW])) (by simp;omega) λj _=>lY (xs:=ks) (h:=aE) (λk=>r_ (f k) j) aE rfl hl λk hk=>⟨fC ((c3 rfl rfl rfl (N6 ks f k j)).trans ?_),λ_=>⟨_,rfl,rfl⟩⟩) rfl rfl);rw [decide_eq_true hk,Xn]
theorem tQ (f:Ps->Option Nat):∀ks:List Ps,(ks.filter λk=>(f k).isSome).map (λk=>dV (f k))=(ks.filterMap f).map dN
 | []=>rfl
 | k::ks=>by
  rw [Yb,Yc];cases q:f k with
  | none=>exact tQ f ks
  | some e=>
   simp only [abB,if_true,Ur];rw [tQ f ks,q];rfl
def Fy (v w:Wd) (n j:Nat):List Ps:=(told v w n).filter (LF v w n (g9 n) j)
theorem N5 (t:Pr v w) (h1:1<=n) (h3:n<=3):∃mx:Nat,mx<=4369/\K61.iK [.d v.d,.d w.d,.d (.int n)]=.ok (.ln ((Ue (mx + 1)).map λj=>b8 (Fy v w n j)))/\
  Fy v w n (mx + 1)=Fy v w n mx/\(mx=0\/∃k,k∈Fy v w n (mx - 1)/\k∉Fy v w n mx):=by
 obtain ⟨d,dl,hd,hs⟩:=DG t (show n<=4 by omega);have t9:=F7 t h3;obtain ⟨f,hf⟩:∃f,f=dA (RF v w n (g9 n)) d:=⟨_,rfl⟩;obtain ⟨mx,m1,m2,m3⟩:=Oi ((told v w n).filterMap f);have mb:mx<=4369:=by
  rcases m3 with rfl | hm
  ·omega
  ·obtain ⟨k,hk,q⟩:=WS.mp hm;rw [hf] at q;have:=(Bl q).2.1;omega
 rw [<-hf] at hd;have hi:∀j,∀k∈told v w n,r_ (f k) j=LF v w n (g9 n) j k:=λj k hk=>by rw [hf];exact Mv λj q=>P8 (λk _=>IC k) hs j k hk q
 have hm:∀k∈told v w n,∀e,f k=some e->e<=mx:=λk hk e q=>m2 e (WS.mpr ⟨k,hk,q⟩);have hF:∀j,(told v w n).filter (λk=>r_ (f k) j)=Fy v w n j:=λj=>YS λk hk=>hi j k hk;refine ⟨mx,mb,?_,?_,?_⟩
 ·have hc:K55.fR [.d (.int n),.d (.int 1),.d (.int 3)]=.ok (.d .non):=by
   have:n=1\/n=2\/n=3:=by omega
   rcases this with rfl | rfl | rfl <;> rfl
  have lof:=Lv (told v w n) f mx (by omega) (by omega);rw [show ((Ue (mx + 1)).map λj=>b8 ((told v w n).filter λk=>r_ (f k) j))=(Ue (mx + 1)).map λj=>b8 (Fy v w n j) from Wa λj _=>by rw [hF]] at lof;refine b9 (mZ (c2 rfl rfl (ia t)) (mZ (c3 rfl rfl (n1 rfl rfl) hc) (bD (c3 rfl rfl rfl hd) rfl (bG (c2 rfl (y:=.d (.int (mx:Int))) ?_ lof) rfl rfl))));show (bM _ _ _ _ _ _ _ >>= _)=_;rw [lY (xs:=told v w n) (h:=λk=>dV (f k)) (λk=>(f k).isSome) (λk=>dV (f k)) rfl (by omega) λk hk=>⟨?_,λ_=>⟨_,rfl,rfl⟩⟩,aN,tQ]
  ·show (match intsOf (((told v w n).filterMap f).map dN) with
    | some ns=>M.ok (R.d (.int (p5 0 ns)))
    | none=>.bad)=_
   rw [Bv];show M.ok (R.d (.int (p5 0 _)))=_;rw [m1]
  ·cases q:f k <;> rfl
 ·rw [<-hF,<-hF];refine YS λk hk=>?_;cases q:f k with
  | none=>rfl
  | some e=>
   have:=hm k hk e q;show decide (mx + 1 < e)=decide (mx < e);rw [decide_eq_false (by omega),decide_eq_false (by omega)]
 ·rcases m3 with h | h
  ·exact .inl h
  ·obtain ⟨k,hk,q⟩:=WS.mp h;by_cases z:mx=0
   ·exact .inl z
   ·refine .inr ⟨k,?_,?_⟩
    ·rw [<-hF];refine UT.mpr ⟨hk,?_⟩;rw [q];exact decide_eq_true (by omega)
    ·rw [<-hF];intro h;have:=(UT.mp h).2;rw [q] at this;exact absurd (of_decide_eq_true this) (by omega)
def jz (n:Nat) (ps:Ps):List Ps:=(d_ ps [[]]).filter λq=>decide (q.length < n)
theorem Aj (n:Nat) (ps:Ps):vz n ps (jz n ps):=λq=>by
 unfold jz;rw [UT,p6,decide_eq_true_eq];constructor
 ·rintro ⟨⟨a,ha,b,hb,rfl⟩,hl⟩;cases Ul.mp ha;exact ⟨hb,hl⟩
 ·rintro ⟨h,hl⟩;exact ⟨⟨[],by simp,q,h,rfl⟩,hl⟩
theorem KY {ps:Ps}(hl:ps.length<=4):(jz n ps).length<=16:=by refine UC (UR _ _) ?_;rw [jy];simpa using U3 (by decide:0 < 2) hl
theorem Gh (ps:Ps) (n:Nat) (hl:ps.length<=4):K61.iJ [.d (aE ps),.d (.int n)]=.ok (.l .fresh ((jz n ps).map aE)):=by
 refine b9 (bD (eV (aH (bF bf (by decide)) rfl bf) (by show 1<=1000;decide)) rfl ?_);refine cY (ds:=ps.map dP) rfl ?_;refine (uV ps n ps [[]] none (by simpa using hl) (by simpa using U3 (by decide:0 < 2) hl)).mono λo ho=>?_;obtain ⟨z,rfl⟩:=ho;have ln:(d_ ps [[]]).length<=16:=by rw [jy];simpa using U3 (by decide:0 < 2) hl
 refine bG (lY (xs:=d_ ps [[]]) (h:=aE) (λq=>decide (q.length < n)) aE rfl (by omega) λq hq=>⟨bx (n1 rfl (vV _)) rfl ?_,λ_=>⟨_,rfl,rfl⟩⟩) rfl rfl;show M.ok (R.d (.bl (decide (((q.map dP).length:Int) < (n:Int)))))=_;rw [T8];congr 4;simp
theorem Lu (t:Pr v w) (ks:List Ps) (ps:Ps) (hp:ps.length < 63):K61.iU [.d v.d,.d w.d,.d (aE ps),.db (ks.map aE) (ks.map λ_=>.bl true)]=.ok (.d (.bl (dw v w ks ps))):=by
 have v4:=t.v4;have w4:=t.w4;have hin:∀p:Nat×Nat,iF false (.d (aE (dO ps p))) (.mb (ks.map aE) (ks.map λ_=>.bl true))=.ok (.d (.bl (decide (dO ps p∈ks)))):=λp=>vR (f:=λ_=>.bl true) fm rfl (d9 _);refine b9 (cY (jC (n:=v.m) (b_ (two rfl rfl (iQ _ _))) (by omega)) ((IX (h:=dN) (λz=>[some (.d v.d),some (.d w.d),some (.d (aE ps)),some (.db (ks.map aE) (ks.map λ_=>.bl true)),z,none]) (λa=>(Ue w.m).any λb=>decide (dO ps (a,b)∈ks)) (λx z=>rfl) (λa=>eZ (n1 (jJ (xs:=Ue w.m) (h:=dN) (λb=>.bl (decide (dO ps (a,b)∈ks))) (jC (b_ (two rfl rfl (iQ _ _))) (by omega)) (by simp;omega) λb _=>⟨_,two (c2 rfl (bF (aH rfl rfl (aH rfl rfl bf)) t2) (K72.DI ps (a,b) hp)) rfl (hin (a,b)),rfl⟩) (K33.anyM _ (Ue w.m)))) (Ue v.m) none).mono λo ho=>?_));unfold dw;split at ho
 ·rename_i q1;obtain ⟨z,rfl⟩:=ho;rw [q1,Xn];refine (cY (jC (n:=w.m) (b_ (two rfl rfl (iQ _ _))) (by omega)) ((IX (h:=dN) (λy=>[some (.d v.d),some (.d w.d),some (.d (aE ps)),some (.db (ks.map aE) (ks.map λ_=>.bl true)),z,y]) (λb=>(Ue v.m).any λa=>decide (dO ps (a,b)∈ks)) (λx z=>rfl) (λb=>eZ (n1 (jJ (xs:=Ue v.m) (h:=dN) (λa=>.bl (decide (dO ps (a,b)∈ks))) (jC (b_ (two rfl rfl (iQ _ _))) (by omega)) (by simp;omega) λa _=>⟨_,two (c2 rfl (bF (aH rfl rfl (aH rfl rfl bf)) t2) (K72.DI ps (a,b) hp)) rfl (hin (a,b)),rfl⟩) (K33.anyM _ (Ue v.m)))) (Ue w.m) none).mono λo ho=>?_));split at ho
  ·rename_i q2;obtain ⟨y,rfl⟩:=ho;rw [q2];exact bG rfl rfl rfl
  ·rename_i q2;rw [ho,ZU.mpr q2]
 ·rename_i q1;rw [ho,ZU.mpr q1,acZ]
theorem Bf {ks:List Ps}{ps:Ps}:dw v w ks ps=true↔∀k∈picks v w,∃p∈nE v w k,dO ps p∈ks:=by
 unfold dw;rw [Ub,Uz,Uz];constructor
 ·rintro ⟨h1,h2⟩ k hk;unfold picks at hk;rcases UI.mp hk with h | h
  ·obtain ⟨a,ha,rfl⟩:=Ui.mp h;obtain ⟨b,hb,hf⟩:=Vn.mp (h1 a ha);exact ⟨(a,b),Ui.mpr ⟨b,hb,rfl⟩,of_decide_eq_true hf⟩
  ·obtain ⟨b,hb,rfl⟩:=Ui.mp h;obtain ⟨a,ha,hf⟩:=Vn.mp (h2 b hb);exact ⟨(a,b),Ui.mpr ⟨a,ha,rfl⟩,of_decide_eq_true hf⟩
 ·intro h;refine ⟨λa ha=>?_,λb hb=>?_⟩
  ·obtain ⟨p,hp,h1⟩:=h (0,a) (UI.mpr (.inl (Ui.mpr ⟨a,ha,rfl⟩)));obtain ⟨b,hb,rfl⟩:=Ui.mp (show p∈(Ue w.m).map λb=>(a,b) from hp);exact Vn.mpr ⟨b,hb,decide_eq_true h1⟩
  ·obtain ⟨p,hp,h1⟩:=h (1,b) (UI.mpr (.inr (Ui.mpr ⟨b,hb,rfl⟩)));obtain ⟨a,ha,rfl⟩:=Ui.mp (show p∈(Ue v.m).map λa=>(a,b) from hp);exact Vn.mpr ⟨a,ha,decide_eq_true h1⟩
def stay (v w:Wd) (n:Nat) (ks:List Ps) (ps:Ps):Bool:=(jz n ps).all (dw v w ks)
theorem Ca (t:Pr v w) (j:Nat):(Fy v w n j).filter (stay v w n (Fy v w n j))=Fy v w n (j + 1):=by
 unfold Fy;rw [abG];refine YS λps hps=>?_;rw [U_,Ub,Pk (Fq n)];unfold stay;rw [Uz];constructor
 ·rintro ⟨h,h0⟩;refine ⟨h0,λq h1 h2 k hk=>?_⟩;obtain ⟨p,hp,hm⟩:=Bf.mp (h q ((Aj n ps q).mpr ⟨h1,h2⟩)) k hk;exact ⟨p,hp,UT.mp hm⟩
 ·rintro ⟨h0,h⟩;refine ⟨λq hq=>Bf.mpr λk hk=>?_,h0⟩;obtain ⟨h1,h2⟩:=(Aj n ps q).mp hq;obtain ⟨p,hp,h3,h4⟩:=h q h1 h2 k hk;exact ⟨p,hp,UT.mpr ⟨h3,h4⟩⟩
end
theorem uQ {env:Ev}{i:Nat}{g:G R}{r:R}{Q:O->Prop}{xs:List D}{d:D}(h0:env[i]?=some (some (.own xs))) (h:g env=.ok r) (h2:toD r=.ok d) (hl:xs.length < 1000000) (k:Q (.nx (env.set i (some (.own (xs++[d])))))):Wp (eX i g env) Q:=by refine ⟨_,?_,k⟩;unfold eX;rw [h0];show (g env >>= _)=_;rw [h,aN,h2,aN,if_pos (by rw [U7];omega)]
theorem EY {gs:List Ps}{f:Ps->D}(q:Ps):iF true (.d (aE q)) (.mo (gs.map aE) (gs.map f))=.ok (.d (.bl (!decide (q∈gs)))):=by rw [Mw true (d9 q),kg fm];by_cases h:q∈gs <;> simp [h]
theorem LS {g h:G R}{env:Ev}{a b:Bool}(h1:g env=.ok (.d (.bl a))) (h2:h env=.ok (.d (.bl b))):l_ g h env=.ok (.d (.bl (a && b))):=by
 unfold l_;rw [h1,aN];cases a with
 | true=>rw [Xn];exact h2
 | false=>rfl
section
variable {v w:Wd}
abbrev eN (v w:Wd) (x:S) (n:Nat) (ks gs fs:List Ps) (a b c:Option S):Ev:=[some (.d v.d),some (.d w.d),some x,some (.d (.int n)),some (.dk (ks.map aE) (ks.map λ_=>.bl true)),a,some (.dk (gs.map aE) (gs.map λq=>.bl (dw v w ks q))),some (.own (fs.map aE)),b,c]
theorem Lx (t:Pr v w) (n:Nat) (ks:List Ps) (nd:ks.Nodup) (hl:ks.length<=60000) (hp:∀ps∈ks,ps.length<=4) (x:S) (hx:x=.d (b8 ks)\/x=.bor (ks.map aE)):
  K61.kE [.d v.d,.d w.d,x,.d (.int n)]=.ok (.l .fresh ((ks.filter (stay v w n ks)).map aE)):=by
 have it:∀env:Ev,env[2]?=some (some x)->c8 (af 2) env=.ok (ks.map aE):=λenv he=>by show ((match env[2]? with | some (some s)=>s.rd | _=>M.bad) >>= _)=_;rw [he];rcases hx with rfl | rfl <;> rfl
 refine b9 (bY (Wp.of (a:=.nx [some (.d v.d),some (.d w.d),some x,some (.d (.int n)),some (.dk [] []),none,none,none,none,none]) rfl (cY (it _ rfl) (fill (i:=4) (j:=5) nd (by omega) (by decide) (by show 4 < 10;decide) (by show 5 < 10;decide) rfl λz=>?_))));refine bY (Wp.of (a:=.nx [some (.d v.d),some (.d w.d),some x,some (.d (.int n)),some (.dk (ks.map aE) (ks.map λ_=>.bl true)),z,some (.dk [] []),none,none,none]) rfl (bD (eV bf (by decide)) rfl ?_));refine cY (it _ rfl) (f_ (λk env=>∃(gs:List Ps) (a b c:Option S),gs.Nodup/\gs.length<=16 * k/\env=eN v w x n ks gs ((ks.take k).filter (stay v w n ks)) a b c) (ks.map aE) ⟨[],z,none,none,Wz,Ud _,rfl⟩ ?_ ?_)
 ·rintro k hk _ ⟨gs,a,b,c,g1,g2',rfl⟩;have hk':k < ks.length:=by simpa using hk
  obtain ⟨ps,hps⟩:∃ps,ps=ks[k]:=⟨_,rfl⟩;have ps4:ps.length<=4:=by rw [hps];exact hp _ (Vm hk')
  have pl:=KY (n:=n) ps4;refine ⟨eN v w x n ks gs ((ks.take k).filter (stay v w n ks)) (some (.d (aE ps))) b c,by rw [U5,<-hps];rfl,bD (r:=.d (.bl true)) rfl rfl ?_⟩;have hit:c8 (gN (aT 2 K61.iJ) (ao (af 5) (ao (af 3) aG))) (eN v w x n ks gs ((ks.take k).filter (stay v w n ks)) (some (.d (aE ps))) (some (.d (.bl true))) c)=.ok ((jz n ps).map aE):=by show (gN _ _ _ >>= _)=_;rw [c2 rfl rfl (Gh ps n ps4)];rfl
  refine cY hit (f_ (λi env=>∃(gs:List Ps) (c:Option S),gs.Nodup/\gs.length<=16 * k + i/\env=eN v w x n ks gs ((ks.take k).filter (stay v w n ks)) (some (.d (aE ps))) (some (.d (.bl (((jz n ps).take i).all (dw v w ks))))) c) ((jz n ps).map aE) ⟨gs,c,g1,g2',rfl⟩ ?_ ?_)
  ·rintro i hi _ ⟨gs,c,g1,g2',rfl⟩;have hi':i < (jz n ps).length:=by simpa using hi
   obtain ⟨q,hq⟩:∃q,q=(jz n ps)[i]:=⟨_,rfl⟩;have qm:q∈jz n ps:=by rw [hq];exact Vm hi'
   have q4:q.length<=4:=UC ((Aj n ps q).mp qm).1.length_le ps4;refine ⟨eN v w x n ks gs ((ks.take k).filter (stay v w n ks)) (some (.d (aE ps))) (some (.d (.bl (((jz n ps).take i).all (dw v w ks))))) (some (.d (aE q))),by rw [U5,<-hq];rfl,?_⟩;have fin:∀gs:List Ps,gs.Nodup->gs.length<=16 * k + (i + 1)->q∈gs->Wp (bh 8 (l_ (af 8) (g2 fu (af 6) (af 9))) (eN v w x n ks gs ((ks.take k).filter (stay v w n ks)) (some (.d (aE ps))) (some (.d (.bl (((jz n ps).take i).all (dw v w ks))))) (some (.d (aE q))))) λo=>∃e,o=.nx e/\∃(gs:List Ps) (c:Option S),gs.Nodup/\gs.length<=16 * k + (i + 1)/\e=eN v w x n ks gs ((ks.take k).filter (stay v w n ks)) (some (.d (aE ps))) (some (.d (.bl (((jz n ps).take (i + 1)).all (dw v w ks))))) c:=λgs g1 g2' hm=>by refine eY (r:=.d (.bl (((jz n ps).take (i + 1)).all (dw v w ks)))) ((LS rfl (two rfl rfl (jL (e:=aE) (f:=λq=>.bl (dw v w ks q)) fm rfl (d9 q) hm))).trans ?_) rfl ⟨_,rfl,gs,_,g1,g2',rfl⟩;rw [WA,Uk hi',List.all_append,<-hq];simp
   have hin:=EY (gs:=gs) (f:=λq=>.bl (dw v w ks q)) q;by_cases hm:q∈gs
   ·rw [decide_eq_true hm] at hin;exact f7 (bx rfl rfl hin) (fin gs g1 (by omega) hm)
   ·rw [decide_eq_false hm] at hin;refine bY (uR (bx rfl rfl hin) (CP (k:=aE q) (d:=.bl (dw v w ks q)) rfl (c4 rfl rfl rfl rfl (Lu t ks q (by omega))) rfl rfl rfl (d9 q) (by simp;omega) ?_));have e:dput (gs.map aE,gs.map λq=>.bl (dw v w ks q)) (aE q) (.bl (dw v w ks q))=((gs++[q]).map aE,(gs++[q]).map λq=>.bl (dw v w ks q)):=by unfold dput;simp only;rw [kg fm,if_neg hm,Us,Us];rfl
    rw [e];exact fin (gs++[q]) (XR.mpr ⟨g1,V0 _ _,λa ha b hb e=>hm (by rw [Ul.mp hb] at e;exact e▸ha)⟩) (by simp;omega) (by simp)
  ·rintro _ ⟨gs,c,g1,g2',rfl⟩;rw [T8,VQ];have gl:gs.length<=16 * (k + 1):=by have:gs.length<=16 * k + ((jz n ps).map aE).length:=g2';rw [T8] at this;omega
   have fl:((ks.take k).filter (stay v w n ks)).length<=60000:=by refine UC (UR _ _) ?_;rw [Vf];omega
   have st:(ks.take (k + 1)).filter (stay v w n ks)=(ks.take k).filter (stay v w n ks)++if stay v w n ks ps=true then [ps] else []:=by rw [WA,Uk hk',<-hps,ZN];congr 1;show [ps].filter _=_;rw [Yb];rfl
   refine jv (c:=(jz n ps).all (dw v w ks)) rfl (λq=>?_) λq=>?_
   ·rw [if_pos (show stay v w n ks ps=true from q)] at st;refine uQ rfl rfl rfl (by rw [T8];omega) ⟨_,rfl,gs,some (.d (aE ps)),some (.d (.bl ((jz n ps).all (dw v w ks)))),c,g1,gl,?_⟩;rw [st];show _=[_,_,_,_,_,_,_,some (S.own (aeE aE (_++[ps]))),_,_];rw [Us];rfl
   ·rw [if_neg (by rw [show stay v w n ks ps=false from q];decide),WG] at st;exact fZ ⟨_,rfl,gs,some (.d (aE ps)),some (.d (.bl ((jz n ps).all (dw v w ks)))),c,g1,gl,by rw [st]⟩
 ·rintro _ ⟨gs,a,b,c,g1,g2',rfl⟩;rw [T8,VQ];exact bG rfl rfl rfl
end
end K61
namespace K61
open PySem DL K01 WP K51 K52 K55 K22 K33 K72 K66
open K23 (Pr aE Good told gP fN eZ fC bx eS dG dB jh LG prs ia allM)
open K31 (zx dw uA Jp iR C_ Dc IZ BG tP Bo)
abbrev eM (ns:List Int) (n:Nat) (sz:Option S) (v w:Wd) (L:S) (due:S) (a b:Option S):Ev:=[some (.bor (ns.map D.int)),some (.d (.int n)),sz,some (.d v.d),some (.d w.d),some L,some due,a,b]
section
variable {v w:Wd}{n:Nat}
theorem DK (t:Pr v w) (j:Nat):(Fy v w n (j + 1)).Sublist (Fy v w n j):=by rw [<-Ca t j];exact List.filter_sublist
theorem A5 (t:Pr v w){j:Nat}(h:Fy v w n (j + 1)=Fy v w n j):∀i,Fy v w n (j + i)=Fy v w n j
 | 0=>rfl
 | i + 1=>by have ih:=A5 t h i;rw [show j + (i + 1)=(j + i) + 1 by omega,<-Ca t (j + i),ih,Ca t j,h]
theorem Gj (t:Pr v w){j mx:Nat}(hj:j < mx) (hm:mx=0\/∃k,k∈Fy v w n (mx - 1)/\k∉Fy v w n mx):(Fy v w n (j + 1)).length < (Fy v w n j).length:=by
 refine Nat.lt_of_le_of_ne (DK t j).length_le λe=>?_;have same:=A5 t ((DK t j).eq_of_length e);rcases hm with h | ⟨k,h1,h2⟩
 ·omega
 ·rw [show mx - 1=j + (mx - 1 - j) by omega,same] at h1;rw [show mx=j + (mx - j) by omega,same] at h2;exact h2 h1
end
theorem Kn (ns:List Int) (h:ns.length<=63):vt [.bor (ns.map .int)]=.ok (.d (.bl true)):=by
 obtain ⟨n0,hn0,n03⟩:=nv (ns.getD 0 0) 3 (by decide);obtain ⟨n,hn⟩:∃n,n=n0 + 1:=⟨_,rfl⟩;have Sm:cH (.d (.int 1)) (.d (.int (ns.getD 0 0 % 3)))=.ok (.d (.int (n:Int))):=by show M.ok (R.d (.int (1 + ns.getD 0 0 % 3)))=_;rw [show ns.getD 0 0 % 3=(n0:Int) from hn0,hn];congr 3;omega
 obtain ⟨sz,hsz,s1,s2⟩:∃sz:List Nat,aY (.l .fresh [.lst ([1,2,3,4,3].map dN),.lst ([1,2,3,4,3,2].map dN),.lst ([1,2,2,3,2,3,2,3,1,4].map dN)]) (.d (.int ((n:Int) - 1)))=.ok (.d (.lst (sz.map dN)))/\1<=sz.length/\∀n∈sz,1<=n/\n<=4:=by
  have:n=1\/n=2\/n=3:=by omega
  rcases this with rfl | rfl | rfl
  ·exact ⟨[1,2,3,4,3],rfl,by decide,by decide⟩
  ·exact ⟨[1,2,3,4,3,2],rfl,by decide,by decide⟩
  ·exact ⟨[1,2,2,3,2,3,2,3,1,4],rfl,by decide,by decide⟩
 obtain ⟨v,w,hw,t⟩:=N9 (ns.getD 1 0) sz s1 s2;have tt:=t.t;obtain ⟨mx,m1,fr,last,top⟩:=N5 (n:=n) tt (by omega) (by omega);have tl:=F7 (n:=n) tt (by omega);obtain ⟨L,hL⟩:∃L,L=(Ue (mx + 1)).map λj=>b8 (Fy v w n j):=⟨_,rfl⟩;rw [<-hL] at fr;have lenL:L.length=mx + 1:=by rw [hL];simp
 have atL:∀j,j<=mx->L[j]?=some (b8 (Fy v w n j)):=λj hj=>by rw [hL,UK,Yd (by omega)];rfl
 have ixL:∀j,j<=mx->aY (.l .own L) (.d (.int (j:Nat)))=.ok (.d (b8 (Fy v w n j))):=λj hj=>uz (atL j hj);have fl:dY [.l .own L]=.ok (.d (.int ((mx + 1:Nat):Int))):=by show M.ok (R.d (.int (L.length:Nat)))=_;rw [lenL]
 have fyl:∀j,(Fy v w n j).length<=4369:=λj=>UC (UR _ _) tl;have fy4:∀j,∀ps∈Fy v w n j,ps.length<=4:=λj ps hp=>UC ((jP tt).mp (UT.mp hp).1).2 (by omega);have kinds:=K71.Ju (Fy v w n) (Ue (mx + 1)) (by simp;omega) λj _ ps hp=>by have:=fy4 j ps hp;omega
 rw [<-hL] at kinds;have F0:Fy v w n 0=told v w n:=Xm.mpr λ_ _=>rfl;refine b9 (bD (two rfl (two (c2 rfl rfl (yN ns 0)) rfl (dW _ 3 (by decide))) Sm) rfl (bD (two (eV (aH (eV rfl (by show 5<=1000;decide)) rfl (aH (eV rfl (by show 6<=1000;decide)) rfl (aH (eV rfl (by show 10<=1000;decide)) rfl bf))) (by show 3<=1000;decide)) (two rfl rfl (yK _ _)) hsz) rfl (Dp (c2 (c2 rfl rfl (yN ns 1)) rfl hw) rfl rfl ?_)));refine bY (eY (c3 rfl rfl rfl fr) rfl (f7 (nC (dB (b:=true) (fC (c1 rfl kinds))) (bx (n1 rfl fl) rfl ?_)) (f7 (bx (two rfl rfl (ixL 0 (UD _))) (c3 rfl rfl rfl (Jv t n (by omega))) ((uA true (Fy v w n 0) (told v w n) _ _ rfl rfl).trans (by rw [decide_eq_true F0];rfl))) (bD (two rfl rfl (ixL 0 (UD _))) rfl ?_))))
 ·rw [K01.eq_int];congr 3
 refine cY ((NI (n:=mx + 1) (b_ (n1 rfl fl)) (by omega))) (gW (n:=mx + 1) (λk env=>∃(x:S) (z:Option S),env=eM ns n (some (.d (.lst (sz.map dN)))) v w (.ow2 L) x z none/\((k=0/\x=.d (b8 (Fy v w n 0)))\/(0 < k/\x=.own ((Fy v w n k).map aE)/\z=some (.d (dN (k - 1)))))) ⟨_,none,rfl,.inl ⟨rfl,rfl⟩⟩ ?_ ?_)
 ·rintro k hk _ ⟨x,z,rfl,hx⟩;obtain ⟨x',hx',r,hr,rq,rd,rl⟩:∃x':S,(x'=.d (b8 (Fy v w n k))\/x'=.bor ((Fy v w n k).map aE))/\∃r:R,x.rd=.ok r/\gV r=x'/\r.dat=b8 (Fy v w n k)/\dY [r]=.ok (.d (.int ((Fy v w n k).length:Nat))):=by
   rcases hx with ⟨rfl,rfl⟩ | ⟨_,rfl,_⟩
   ·exact ⟨_,.inl rfl,_,rfl,rfl,rfl,by show M.ok (R.d (.int (((Fy v w n 0).map aE).length:Nat)))=_;rw [T8]⟩
   ·exact ⟨_,.inr rfl,_,rfl,rfl,rfl,by show M.ok (R.d (.int (((Fy v w n k).map aE).length:Nat)))=_;rw [T8]⟩
  have rd6:∀y:Option S,af 6 (eM ns n (some (.d (.lst (sz.map dN)))) v w (.ow2 L) x (some (.d (.int (k:Nat)))) y)=.ok r:=λy=>hr;have ix5:∀y:Option S,g2 aY (af 5) (af 7) (eM ns n (some (.d (.lst (sz.map dN)))) v w (.ow2 L) x (some (.d (.int (k:Nat)))) y)=.ok (.d (b8 (Fy v w n k))):=λy=>two rfl rfl (ixL k (by omega));have nx:=Lx tt n (Fy v w n k) ((wC v w n).filter _) (by have:=fyl k;omega) (fy4 k) x' hx';rw [Ca tt k] at nx;refine ⟨_,rfl,f7 (nC (bx (ix5 none) (rd6 none) ((uA true (Fy v w n k) (Fy v w n k) _ _ rfl rd).trans (by rw [decide_eq_true rfl];rfl))) ?_) (eY (c4 rfl rfl (rd6 none) rfl (by rw [rq];exact nx)) rfl ⟨_,rfl,_,_,rfl,.inr ⟨ab9 _,rfl,rfl⟩⟩)⟩;cases k with
  | zero=>exact eS rfl
  | succ k=>
   have lp:dY [.d (b8 (Fy v w n k))]=.ok (.d (.int ((Fy v w n k).length:Nat))):=by show M.ok (R.d (.int (((Fy v w n k).map aE).length:Nat)))=_;rw [T8]
   refine dG (bx rfl rfl (show M.ok (R.d (.bl (decide ((0:Int) < ((k + 1:Nat):Int)))))=_ by rw [decide_eq_true (by omega)])) (bx (n1 (rd6 none) rl) (n1 (two rfl (two rfl rfl (yK _ _)) (show aY (.l .own L) (.d (.int (((k + 1:Nat):Int) - 1)))=_ by rw [show ((k + 1:Nat):Int) - 1=((k:Nat):Int) by omega];exact ixL k (by omega))) lp) ?_);have:=Gj tt (show k < mx by omega) top;show M.ok (R.d (.bl (decide (((Fy v w n k).length:Int)<=((Fy v w n (k + 1)).length:Int)))))=_;rw [decide_eq_false (by omega)]
 ·rintro _ ⟨x,z,rfl,hx⟩;rcases hx with ⟨e,_⟩ | ⟨_,rfl,rfl⟩
  ·omega
  have noL2:BF (.ow2 L)=true:=by rw [hL];exact BG (Fy v w n) _
  have ixm:aY (.l .own L) (.d (.int (-1)))=.ok (.d (b8 (Fy v w n mx))):=by rw [hL,WL,Us];exact J6 _ _ _
  refine f7 (bx rfl (two rfl rfl ixm) ((uA true (Fy v w n (mx + 1)) (Fy v w n mx) _ _ rfl rfl).trans (by rw [decide_eq_true last];rfl))) ?_;refine bY (eY (env:=eM ns n none v w (.ow2 L) (.own ((Fy v w n (mx + 1)).map aE)) (some (.d (dN mx))) none) (r:=.ln L) ((zx (xs:=Ue (mx + 1)) (h:=λj=>b8 (Fy v w n j)) (λj=>(Fy v w n j).map aE) (by rw [<-hL];rfl) (by simp;omega) λj _=>n1 rfl rfl).trans (by rw [hL])) rfl ?_);show Wp _ _;have th1:zL 5 (gC (.int 0)) CL (eM ns n none v w (.ow2 L) (.own ((Fy v w n (mx + 1)).map aE)) (some (.d (dN mx))) (some (.ow2 L)))=.ok (.nx (eM ns n none v w (.ow2 (L.set 0 (.lst []))) (.own ((Fy v w n (mx + 1)).map aE)) (some (.d (dN mx))) (some (.ow2 L)))):=by
   refine Jp (i:=5) (gi:=gC (.int 0)) (k:=CL) (xs:=L) (j:=0) (n:=0) (es:=[]) rfl rfl ?_ (atL 0 (UD _)) ?_ rfl rfl
   ·unfold L2.sd;rw [lenL,if_pos (by decide),if_pos (by omega)];rfl
   ·show (gQ (ns.map D.int) && (true && (true && (lJ v.d && (lJ w.d && (BF (.ow2 L) && (gQ ((Fy v w n (mx + 1)).map aE) && (true && (BF (.ow2 L) && true)))))))))=true;rw [IZ,Dc,Dc,noL2,iR C_];rfl
  refine bY (Wp.of th1 ?_);have ap:zJ 5 (eX 5 (cU aQ)) (eM ns n none v w (.ow2 (L.set 0 (.lst []))) (.own ((Fy v w n (mx + 1)).map aE)) (some (.d (dN mx))) (some (.ow2 L)))=.ok (.nx (eM ns n none v w (.own (L.set 0 (.lst [])++[.lst []])) (.own ((Fy v w n (mx + 1)).map aE)) (some (.d (dN mx))) (some (.ow2 L)))):=by show eX 5 (cU aQ) (eM ns n none v w (.own (L.set 0 (.lst []))) (.own ((Fy v w n (mx + 1)).map aE)) (some (.d (dN mx))) (some (.ow2 L)))=_;obtain ⟨_,h1,rfl⟩:=uQ (Q:=(·=.nx (eM ns n none v w (.own (L.set 0 (.lst [])++[.lst []])) (.own ((Fy v w n (mx + 1)).map aE)) (some (.d (dN mx))) (some (.ow2 L))))) (env:=eM ns n none v w (.own (L.set 0 (.lst []))) (.own ((Fy v w n (mx + 1)).map aE)) (some (.d (dN mx))) (some (.ow2 L))) (i:=5) (g:=cU aQ) (d:=.lst []) rfl (eV bf (by decide)) rfl (by rw [List.length_set,lenL];omega) rfl;exact h1
  exact bY (Wp.of ap (bG (r:=.d (.bl true)) (two (c3 rfl rfl rfl fr) rfl (Bo (Fy v w n) (Ue (mx + 1)) _ _ (by rw [<-hL];rfl) (by rw [<-hL];rfl))) rfl rfl))
end K61
namespace K61
open PySem PySem.Spec PyProof.Rows L2 DL DX
theorem all_mk {l:aaA}{w:US}{K:T5}{h:VJ}{mg:Str->Option T7}{fa:UA}(X:K.In h) (G:h.Ns UL mg) (Se:mg "law"=some (.ref fa))
  {f39:UA}{o39 n39:Option UA}{s39:Array (Option T7)}{u39 v39 d39 p39 q39 r39:T7}
  {f1c:UA}{od1c:Option UA}{sl1c:Array (Option T7)}{n1c:Nat}{t2:Tok}{t3:Tok}{t4:Tok}
  {t5:Tok}
  (e0:FA K "is_whole" xO)
  (e1:FA K "tongue_of" vg)
  (e2:FA K "need_tongue" qu)
  (e3:FA K "need_few_points" lO)
  (e4:FA K "need_small" sG)
  (e5:FA K "need_count" sF)
  (e6:FA K "rising" BY)
  (e7:FA K "view" Jm)
  (e8:FA K "views" F3)
  (e9:FA K "agree" FQ)
  (e10:FA K "goes_behind" qp)
  (e11:FA K "pairings" xS)
  (e12:FA K "added" FP)
  (e13:FA K "pairs_with" sH)
  (e14:FA K "picks_of" xT)
  (e15:FA K "outcomes" xR)
  (e16:FA K "answered_still" mC)
  (e17:FA K "peeled" BX)
  (e18:FA K "in_layer" xN)
  (e19:FA K "layers_of" ve)
  (e20:FA K "parts_below" qx)
  (e21:FA K "few_depths" sD)
  (e22:FA K "few_rounds" sE)
  (e23:FA K "_law_cell_at" oZ)
  (e24:FA K "_law_more" u7)
  (e25:FA K "_law_freed" sq)
  (e26:FA K "_law_names" sy)
  (e27:FA K "_law_world" sC)
  (e28:FA K "_law_flipped" o5)
  (e29:FA K "_law_turned" qo)
  (e30:FA K "_law_two" xM)
  (e31:FA K "_law_at" As)
  (e32:FA K "_law_fit" xK)
  (e33:FA K "_law_with" vc)
  (e34:FA K "_law_pairings" nL)
  (e35:FA K "_law_parts" sA)
  (e36:FA K "_law_goes_on" o6)
  (e37:FA K "_law_next" u_)
  (e38:FA K "_law_kinds" su)
  (a39:U1 K UL "law"=some (some (.ref f39)))
  (l39:K.lookup f39=some ⟨u39,o39,.func (V3 "law" "law" (fY oz) (c_ oz) (bH oz) .none v39 d39 p39 n39 q39 r39),s39⟩)
  (c39:YU K q39 "law"=true)
  (k39:Xs K (.ref f39)=true)
  (z0:U1 K UL "abs"=some none)
  (z1:U1 K UL "all"=some none)
  (z2:U1 K UL "any"=some none)
  (z3:U1 K UL "bool"=some none)
  (z4:U1 K UL "int"=some none)
  (z5:U1 K UL "isinstance"=some none)
  (z6:U1 K UL "len"=some none)
  (z7:U1 K UL "list"=some none)
  (z8:U1 K UL "max"=some none)
  (z9:U1 K UL "range"=some none)
  (z10:U1 K UL "set"=some none)
  (z11:U1 K UL "sorted"=some none)
  (z12:U1 K UL "tuple"=some none)
  (gFEW_LETTERS:U1 K UL "FEW_LETTERS"=some (some (.ref f1c)))
  (lc1:K.lookup f1c=some ⟨.type "tuple",od1c,.seq #[(.str "x" t2),(.str "y" t3),(.str "z" t4)] n1c,sl1c⟩)
  (gMOST_SMALL:U1 K UL "MOST_SMALL"=some (some (.int 4 t5))):
  ∃fd:UO,(∀(s:T_) (v:T7),acy s fd ⟨[v],[]⟩ [("_law_script",v)])/\∀base:VJ,K.In base->base.Ns UL mg->jH l.prog w K mg base oH 7 fa fd ["_law_script"] (qw K 1 K61.vt):=by
 have e:=Se.symm.trans (Zm X G a39);cases e;obtain ⟨f16,d16,a16,F16⟩:=id e16;have F39:=Ey (st:=oz) l39 c39 k39;have m:c9 w K mg:=⟨U6 X G z0,
   U6 X G z1,
   U6 X G z2,
   U6 X G z3,
   U6 X G z4,
   U6 X G z5,
   U6 X G z6,
   U6 X G z7,
   U6 X G z8,
   U6 X G z9,
   U6 X G z10,
   U6 X G z11,
   U6 X G z12,
   ⟨_,(.ref f1c),Zm X G gFEW_LETTERS,rfl,λ_=>(.tup (vs:=[(L2.V.str "x"),(L2.V.str "y"),(L2.V.str "z")]) (.inr ⟨_,_,n1c,lc1,rfl,rfl,(by show 3<=sizeLine;decide),.cons ⟨_,rfl⟩ (.cons ⟨_,rfl⟩ (.cons ⟨_,rfl⟩ (.nil)))⟩) (.cons (.str _) (.cons (.str _) (.cons (.str _) (.nil)))))⟩,
   ⟨_,(.int 4),Zm X G gMOST_SMALL,⟨_,rfl⟩,λ_=>(.int _)⟩,
   ⟨_,a16,Zm X G a16⟩⟩
 refine ⟨V3 "law" "law" (fY oz) (c_ oz) (bH oz) .none v39 d39 p39 n39 q39 r39,λs v=>.of_eq rfl,λbase _ _=>?_⟩;have C0:=AN (P:=l.prog) (base:=base) m (bU X G e0);have C1:=zo (P:=l.prog) (base:=base) m (bU X G e1);have C2:=vH (P:=l.prog) (base:=base) m C1 (bU X G e2);have C3:=pK (P:=l.prog) (base:=base) m (bU X G e3);have C4:=yi (P:=l.prog) (base:=base) m C2 C3 (bU X G e4);have C5:=yh (P:=l.prog) (base:=base) m C0 (bU X G e5);have C6:=Ej (P:=l.prog) (base:=base) m (bU X G e6);have C7:=JJ (P:=l.prog) (base:=base) m (bU X G e7);have C8:=Gx (P:=l.prog) (base:=base) m C7 (bU X G e8);have C9:=Gv (P:=l.prog) (base:=base) m (bU X G e9);have C10:=vG (P:=l.prog) (base:=base) m C9 (bU X G e10);have C11:=AR (P:=l.prog) (base:=base) m C4 C5 C8 C9 C10 (bU X G e11);have C12:=Gu (P:=l.prog) (base:=base) m C6 (bU X G e12);have C13:=yj (P:=l.prog) (base:=base) m (bU X G e13);have C14:=AS (P:=l.prog) (base:=base) m (bU X G e14);have C15:=AQ (P:=l.prog) (base:=base) m C13 C12 C14 (bU X G e15);have C16:=qZ (P:=l.prog) (base:=base) m (bU X G e16);have C17:=Ei (P:=l.prog) (base:=base) m C16 (bU X G e17);have C18:=AM (P:=l.prog) (base:=base) m (bU X G e18);have C19:=zm (P:=l.prog) (base:=base) m C18 (bU X G e19);have C20:=vI (P:=l.prog) (base:=base) m (bU X G e20);have C21:=yd (P:=l.prog) (base:=base) m C11 C15 C20 C17 (bU X G e21);have C22:=ye (P:=l.prog) (base:=base) m C4 C5 C21 C19 (bU X G e22);have C23:=uh (P:=l.prog) (base:=base) m (bU X G e23);have C24:=zc (P:=l.prog) (base:=base) m (bU X G e24);have C25:=xZ (P:=l.prog) (base:=base) m (bU X G e25);have C26:=x_ (P:=l.prog) (base:=base) m C25 (bU X G e26);have C27:=yc (P:=l.prog) (base:=base) m (bU X G e27);have C28:=um (P:=l.prog) (base:=base) m (bU X G e28);have C29:=vF (P:=l.prog) (base:=base) m (bU X G e29);have C30:=AL (P:=l.prog) (base:=base) m C24 C26 C27 C29 C28 (bU X G e30);have C31:=Cr (P:=l.prog) (base:=base) m (bU X G e31);have C32:=AK (P:=l.prog) (base:=base) m C31 (bU X G e32);have C33:=ze (P:=l.prog) (base:=base) m (bU X G e33);have C34:=sO (P:=l.prog) (base:=base) m C32 (bU X G e34);have C35:=yb (P:=l.prog) (base:=base) m (bU X G e35);have C36:=uo (P:=l.prog) (base:=base) m C33 (bU X G e36);have C37:=zd (P:=l.prog) (base:=base) m C35 C36 (bU X G e37);have C38:=x6 (P:=l.prog) (base:=base) m (bU X G e38);exact Oq m C23 C30 C22 C38 C34 C37 F39
theorem Li (K:T5) (H:Hp) (a:UA) (ns:List Int) (hl:ns.length<=63) (hO:Cd H) (hS:cg K H a (ns.map V.int)):qw K 1 K61.vt [.ref a] H (λv _=>v=.bl true) λ_ _ _=>False:=by
 refine ⟨λ_=>none,[.bor (ns.map D.int)],λ_ _ z=>(by cases z),rfl,⟨_,[],rfl,⟨a,_,rfl,hS,?_⟩,rfl⟩,?_⟩
 ·exact K01.xF ns
 ·rw [Kn ns hl];intro v J H2 _ r;cases r;rfl
theorem walk {l:aaA}{q:Uv}{loose:List Str}{XP:(Str->Option T7)->VJ->Prop}{YP:US->VJ->Prop}{d:DefRec}{K:aeA->T5}(hn:l.most=some 63) (hdf:d.params.defaults=[])
  (hY:∀(w:US) (h:VJ),YP w h->(K w.params).In h)
  (F:∀(w:US) (mg:Str->Option T7) (fa:UA) (h:VJ),(K w.params).In h->h.Ns UL mg->mg d.name=some (.ref fa)->
   ∃fd:UO,(∀(s:T_) (u:T7),acy s fd ⟨[u],[]⟩ [("_law_script",u)])/\∀base:VJ,(K w.params).In base->base.Ns UL mg->jH l.prog w (K w.params) mg base oH 7 fa fd ["_law_script"] (qw (K w.params) 1 K61.vt)):
  adF q loose XP YP l.row.toRowW d [] (λf vs=>adm f vs):=
 L2.Lq (n:=63) (k:=7) (x:="_law_script") (CX:=λ_=>oH) (sp:=λw=>qw (K w.params) 1 K61.vt) hn (by decide) hdf ⟨rfl,by decide,by decide⟩ hY F (λw H a ns hl hO hS=>Li _ H a ns hl hO hS) λ_ _ _ _ _ z=>z
end K61
open PySem PySem.W PyProof.Rows
set_option maxRecDepth 100000 in
set_option maxHeartbeats 0 in
theorem PySem.Challenge.cw_pickalike_k61_rounds_of_few_holds : PySem.Challenge.rw_pickalike_k61_rounds_of_few.Holds := by
 refine holds_law K61.look λsaid=>?_;refine holds_open (q:=K61.VW) (XP:=XL K61.VW []) (YP:=Hook.says K61.HK) K61.left (Hook.of K61.HK) (Hook.keeps K61.HK) (λs e=>xl_of s (W5.mp e).1) XL.keeps (by rfl) (by rfl) (by rfl) (λs e=>recFacts_of (W5.mp e).2) (by rfl) said (by decide +kernel) ⟨rfl,rfl,rfl,rfl,rfl,by decide +kernel⟩ ?hw ?hc
 (case hw=>w_witness2)
 delta K61.HK
 k_fill
 refine K61.walk (l:=Vc) rfl rfl (K:=K61.KF) (λw h Y=>PySem.W.kIn_of Y) ?F
 case F=>
  intro w mg fa h KX G hmg;refine' K61.all_mk KX G hmg ..
  all_goals try first | k_is | (refine' DL.Oc ?a ?l ?c ?k;case a | l | c | k=>k_is)
