import PyProof.Rows.All
import Wide.All
import OpenK.AllK
import Wide.FinOn
import Lean
import PyProof.EqAt
import PyProof.EqKinds
import PyProof.TupleCall
import KE.KIsAll
import PyProof.ExcAttrAll.ValueError
import PyProof.NeKinds
import PyProof.InstStoreFacts
import KE.KUnpackStar
import KE.KSortTup
import PyProof.TupleOfSeq
import PyProof.Rows.SortWalk
import PyProof.EnumFor
import PyProof.EnumStmt
import PyProof.ListRange
import PyProof.TupleKey
import PyProof.SetKind
import PyProof.Rows.SetFrom
import PyProof.SetRoads
import PyProof.CollectWalk
import PyProof.WalksMore
import PyProof.DictKinds
import PyProof.DictCompW
import PyProof.DictRoadsH
import PyProof.DictWalks
import PyProof.StrBlock
import PyProof.StrBlockI
import PyProof.StrLawsIdx
import PySem.Challenge.RW_pickalike_k76_whole_orders_and_counting
noncomputable section
open And renaming intro->aa6
open Array renaming length_toList->UJ,getElem?_toList->VP,getElem?_eq_some_iff->V1,getElem?_eq_getElem->V9,getD->Ww,forIn_toList->YS,getD_eq_getD_getElem?->ZL,append_empty->Z2,getElem?_eq_none->aaQ,toList->aaT,size_append->acn,toList_push->acw
open Array.Perm renaming mem_iff->ZZ,refl->afn
open Bool renaming and_eq_true->Uq,false_eq_true->UE,false_ne_true->UZ,eq_iff_iff->Vk,not_true->WQ,or_eq_true->Xq,and_false->XS,true_and->YT,and_eq_true_iff->abo,not_false->abr,or_false->abU,eq_false_iff->ack,and_self->ad_,false_or->aee
open Classical renaming byContradiction->Xm,propDecidable->ael
open False renaming elim->Ye
open ForInStep renaming yield->WZ
open Function renaming comp_def->aak
open Int renaming toNat_natCast->VY,emod_lt_of_pos->YQ,emod_nonneg->YX,fdiv_eq_ediv_of_nonneg->ZT,ediv_nonneg->abb
open List renaming length_map->Uo,range->Ur,mem_cons_of_mem->Uu,mem_cons_self->Uv,size_toArray->Uy,mem_singleton->Uz,getElem?_eq_getElem->UA,mem_map->UD,map_cons->UH,length_append->UI,mem_cons->UK,map_append->UN,mem_range->UP,getElem?_eq_some_iff->UR,mem_append->US,getElem?_map->UT,all_eq_true->U4,getElem_mem->U9,getElem?_set_ne->Vh,mem_of_getElem?->Vi,mem_append_right->Vm,map_map->Vn,pairwise_map->Vu,pairwise_iff_getElem->Vv,length_take->Vy,not_mem_nil->Vz,mem_filter->VE,length_cons->VG,mem_iff_getElem->VM,length_filter_le->VR,getElem_map->VT,pairwise_singleton->VZ,getElem?_append_right->V0,pairwise_append->V2,getElem?_set_self->V4,replicate->V7,lookup_cons->Wb,length->We,map_congr_left->Wf,eq_nil_or_concat->Wh,concat_eq_append->Wi,nodup_cons->Wq,any_eq_true->Wr,nodup_append->Wx,getElem?_append_left->Wz,append_nil->WB,length_replicate->WC,length_drop->WI,length_eq_zero_iff->WT,length_range->WV,append_assoc->WW,idxOf_lt_length_of_mem->W2,ext_getElem->W8,nodup_range->W9,take_length->Xa,pairwise_cons->Xc,nodup_nil->Xk,mem_append_left->Xn,range_succ->Xw,all_cons->XH,zip_cons_cons->XY,length_singleton->X5,getD_eq_getElem?_getD->Ym,getLast?_concat->Yn,drop_eq_getElem_cons->Yq,getElem?_zip_eq_some->Yv,take_succ->Yw,getElem?_range->Yz,find?_range_eq_some->YD,getElem?_replicate->YE,forIn_cons->YI,filter_cons_of_pos->YN,filter_cons_of_neg->YO,find?_eq_none->YR,length_nil->YW,pairwise_lt_range->Y4,take_sublist->Y5,eraseIdx_eq_take_drop_succ->Zb,filter_congr->Ze,forIn_nil->Zg,getD->Zl,getElem_inj->Zn,eq_nil_of_length_eq_zero->Zp,mem_flatMap->Zs,map_flatMap->Zt,flatMap_def->Zv,map_take->Zy,filterMap_cons->ZC,filter_eq_self->ZK,flatMap_append->ZN,mem_filterMap->ZW,all_map->ZY,getElem_idxOf->Z4,getLast?_eq_none_iff->Z_,getElem_take->aaf,getElem_append_left->aag,any_cons->aas,map_drop->aax,map_fst_zip->aaG,range_succ_eq_map->aaI,drop_eq_nil_of_le->aaK,flatMap_singleton->aaR,of_mem_zip->aaV,map_nil->aaX,foldl_cons->aa1,take_append_drop->aa3,mem_iff_getElem?->aa4,pairwise_flatMap->aa7,range_eq_range'->abm,length_eraseIdx->abn,replicate_succ->aby,filter_flatMap->abE,filterMap_map->abR,contains_cons->abW,getElem_range->ab0,filter_append->ab4,forIn_toArray->ab5,eraseIdx_nil->acq,getElem_drop->acu,idxOf_append->acv,any_map->acL,le_antisymm->acR,range'_succ->acS,perm_middle->acT,zipIdx_cons->acX,filter_map->adx,length_zip->ady,zipIdx_nil->adz,drop_zero->adI,filterMap->adM,map->aeg,lookup->aeS,range'->aeX
open List.Nodup renaming length_le_of_subset->Vs
open List.Pairwise renaming nil->WU,and_mem->X_,imp->acA,of_map->aeE,and->afa,map->afc
open List.Perm renaming append_left->aez,of_eq->afo
open List.cons renaming inj->aef,injEq->afp
open Nat renaming le_refl->Uw,lt_of_lt_of_le->UQ,zero_le->UX,ne_of_lt->UY,le_trans->U1,not_lt_zero->VI,lt_irrefl->Wa,lt_succ_self->Wc,ne_of_gt->WA,pow_le_pow_right->WK,mul_le_mul_right->WL,le_of_succ_le->Xu,lt_trans->XA,mul_le_mul->XU,lt_trichotomy->Yj,le_add_right->Yx,le_succ->Yy,le_of_lt_succ->Y_,lt_succ_of_lt->Zd,le_of_lt->ZV,lt_of_le_of_lt->Z0,zero_add->Z3,div_div_eq_div_mul->aaN,mod_lt->abf,lt_or_eq_of_le->ab1,le_of_eq->acF,succ_mul->acG,pow_succ->acJ,le_of_not_lt->acP,add_mul->adu,add_assoc->aeh
open Ne renaming symm->Ws
open Option renaming isSome_iff_exists->Vq,bind_some->aaD,getD_none->acO,map_some->adb,none->aeR
open Option.some renaming inj->VF,injEq->Wv
open Or renaming inr->XN,inl->Zi
open Prod renaming fst->Ve,snd->abg,ext->afr
open PyProof.Rows renaming slot_tuple_getitem->VA,callWith_type1->Wn,seqObj->X7,IntsAre->YG,subscriptTail_builtinR->Y3,envOfC->ZX,AllBare->aam,listUpdate_at->aav,entry_tuple_getitem->abw,seqEpoch_at->abC,args_tuple_getitem->abS,callWith_builtin1->acE,get?_update_seq->adg,list_sort_plain->adh,entry_list_sort->adi,slicePart_none->adF,slot_list_sort->adJ,args_list_sort->adK,boot_range->adT,sortedHeap->ad0,tupleItemsOf_->ad5,subscriptTail->ad7,sortedHeap_at->aed,IsTup->aeq,lt_int->aeU,lt_str->aeV,le_int->aeZ,keyKind'->ae6
open PyProof.Rows.F renaming plain_set_update_loop->V_,entry_set_update_loop->Ys
open PyProof.Rows.IsTup renaming new->aeu
open PySem renaming wpAny_bind->Uh,wpAny_pure->Uj,Value->Uk,Shared->Um,starEach->Ux,wpAny->UB,Program->UG,Addr->UL,model->UO,wpAny_newObj_type->UU,mainGlobals->UW,wpAny_callSpecial?_slot->U0,wpAny_call_entry->U3,World->U5,FuncData->U6,wpAny_holding->U7,Around->U8,Expr->U_,wpAny_setField_rec->Vf,wpAny_field->Vo,wpAny_mono->Vt,cellsFrom->Vw,bootBuiltins->Vx,Heap->VB,codeAny_builtin->VH,behindInMarks->VU,wpAny_truthy_bool->VV,foldedSetIterable->VX,compareOp->V5,cLine->V6,backTo->Wk,wpAny_seqItems->Wl,sizeLine_eq->Wo,SetTable->Wt,wpAny_setState_of->Wy,wpAny_typeNameOfWhole_keyiter->WJ,codeAny->WM,NameKind->WN,wpAny_attempt->WO,plainId_quiet->WS,letOwnedTupleGo->WX,IsRangeIter->WY,wpAny_loadPart'->W0,wpAny_forIn_list->W7,wpAny_askSetting->W_,wpAny_Call_Name_kw->Xb,builtinLookup_eq_fast->Xe,Stmt->Xg,firstArgMember->Xl,assignEach->Xo,wpAny_passesOwn->Xp,wpAny_updateSeq->Xr,wpAny_specialOf->Xv,pyNext->Xy,codeAny_mono->Xz,wpAny_standAt->XC,binaryOp->XD,mem_of_lookup->XG,wpAny_getItem_str_slice->XM,wpAny_isInstance->XQ,sysModules->XR,wpAny_rule->XX,Scope->X0,standAt->X3,wpAny_typeOf->X4,Builtin->X6,attributeBase->Yg,isSubtype_type->Yt,wpAny_of_eq->YA,wpAny_pyIter_tuple->YL,mem_of_lookup->YM,typeLookup_type->YU,codeAny_of_tree->YV,rawInt->YZ,typeIs_str->Y6,sliceBounds->Y7,wpAny_pyIter_list->Y8,wpAny_pyIter_slot->Zc,wpAny_newTuple->Zf,compTurn->Zh,checkBuiltinCall->Zo,wpAny_updateSeq_pair->Zw,wpAny_execs_nil->ZD,swapsWith->ZE,pyIter->ZF,wpAny_setEntries_of->ZM,post_val_or_str->ZO,wpAny_setField->Z6,wpAny_runValue->Z7,isSubtype_stop->Z8,wpAny_fieldsOf->Z9,Paired->aaa,searchCouldBeSeen->aah,wpAny_dictEntries->aal,swapsWithSole->aan,bindArgs->aao,keywordEach->aap,Keyword->aaq,wpAny_handled->aau,Comprehension->aaz,wpAny_onRaise->aaB,noFill_tuple_add->aaC,richCompare_meets_room->aaL,codeAny_compStart_list->aaO,codeAny_compStart_dict->aaP,wpAny_isTrue_Compare1->aaS,inplaceOp->aaU,concat_meets->aaW,DictEntry->aaZ,isSubtype->aa5,wpAny_dictEpoch->aa9,wpAny_isOneOf_keyiter->aa_,call_meets->abd,wpAny_loadName_local->abh,codeAny_call_builtin->abk,isTrue->abp,IsPair->abt,wpAny_loadName_cell->abv,wpAny_throw->abA,wpAny_letGo->abD,swappedStores->abJ,wpAny_pyIter_range->abK,rangeSize_one->abL,seq_tuple_add->abP,IsPart->abQ,seqIndex?->abT,seqItems?->abY,wpAny_newList->abZ,updateSeq->ab2,slot_dict_contains->ab3,wpAny_load->ab8,wpAny_call->ab_,getItem->acd,wpAny_sequenceKey->ace,typeLookup->acf,slot_list_getitem->acg,callerA->aci,wpAny_pyIter_enum->acs,ofAClassStatement->acy,wpAny_storeSet_of->acz,Result->acD,IsEnum->acI,wpAny_pyHash_int->acM,wpAny_execs_cons->acN,backToKw->ac0,newTuple->ac1,setField->ac2,PassesOwn->ac5,BindsTo->ac6,pushCells->adj,pushCells_keeps->adk,IsEnumOut->adl,pickOrder->ado,noteFrame->ads,theTreesLotGoes->adt,compStart->adv,theWindowsPlace->adw,recursionLimit->adE,newFunctionEnv->adL,entryFor_alias->adO,entryOfKey->adQ,builtinsNs->adR,wpAny_Name->adS,call->adU,isInstance->adW,reduceHash->adX,newExc->adZ,setsByText->ad2,intBits_le_64->ad4,evalPart_none->ad6,call_list_seq->ad8,raiseNew->aea,setSearchFrom->aej,wpAny_notedAt->aek,atKey->aem,Model->aer,storeName->aes,small_one->aet,Fin->aey,bindL->aeH,bindC->aeI,CellsOk->aeW,GenState->ae0,Operator->ae1,Params->ae4,entryFor->ae7
open PySem.Around renaming under_plainId->Vj
open PySem.AutoRange renaming range_iterator___next___range_iterator_1->ZQ
open PySem.AutoSeq1 renaming sub_tuple_tuple->YC
open PySem.Builtin.Dict renaming showsAll->aa8,dictSlotNone->adP
open PySem.Builtin.Dict_items renaming ownsTuple->Zz
open PySem.Builtin.Frozenset renaming sizeOf->aai,updateFrom->ac3,newClass->adC
open PySem.Builtin.List renaming listTooLong->WH,listExtendWith->W3,listLengthHint->Yb,listSameRef->aaj,listTouch->aeo
open PySem.Builtin.Range renaming rangeSize->Wm,small->abG
open PySem.Builtin.Slice renaming slicePlaces->Xi,sliceAdjust->Yo,sliceApplied->ZU,slicePartIndex->acZ,sliceFields->adG
open PySem.Builtin.SmallTypes renaming nextOf->UM,ownedTupleIsFree->Vp,ownedTupleHandOut->V8
open PySem.Builtin.Str renaming occurrences->aat,tooLong->abz
open PySem.Builtin.Tuple renaming tupleHashOf->VL,tupleExact->Wg,tupleItemsOf->Yl,tupleCompareSizes->Y9,tupleIsExact->adB
open PySem.Calls renaming Name_function_global->ZS,spliced_cons->abM,spliced_nil->ab9
open PySem.Challenge renaming rw_pickalike_k76_whole_orders_and_counting->Vb,pw_pickalike_k76_whole_orders_and_counting->VC
open PySem.CmpOp renaming NotIn->aeF,In->afq
open PySem.Data renaming fields->aeG,cell->afl
open PySem.Env renaming kindOf->ae9
open PySem.Expr renaming Call->Yr
open PySem.F renaming slot_dict_keyiterator_next->Wj,slot_tuple_iterator_next->W4,slot_range_iterator_next->W5,plain_list_iadd->Xs,slot_str_getitem->Xx,plainAttrs_list->XI,plain_extend_loop->XJ,slot_enumerate_next->X8,called_set->Yc,slot_tuple_hash->Yk,args_tuple_add_2->YB,entry_tuple_add->YF,slot_zip_next->YY,slot_tuple_add->Y0,entry_proto_collect->Zj,plain_proto_collect->Zk,args_dict_keyiterator_next_1->Zm,entry_dict_keyiterator_next->Zu,args_tuple_iterator_next_1->Zx,args_range_iterator_next_1->ZA,attrBase_ValueError->ZH,entry_tuple_iterator_next->ZJ,entry_range_iterator_next->ZP,slot_list_append->aac,type_list_append->aad,entry_list_iadd->aae,args_enumerate_next_1->aaw,entry_enumerate_next->aaM,slot_str_find->aba,args_list_extend_2->abi,called_tuple->abu,entry_list_extend->abx,entry_extend_loop->abF,slot_list_extend->abV,args_zip_next_1->acB,plain_tuple_new->acC,slot_dict_iter->acV,entry_zip_next->acY,slot_set_iter->adp,plain_set_new->adq,slot_zip_iter->adA
open PySem.Heap renaming get?_push_of_some->Ul,get?_push_size->Us,lt_size->UC,SameBut->Vc,get?_update_self->Vd,size_push->VD,get?_update_other->Wu,ExtBut->ZI,size_update->aaE,get?_update_ne->abB
open PySem.Heap.ExtBut renaming push->acW,refl->afj
open PySem.Heap.IsList renaming push->afi
open PySem.Heap.IsSliceOf renaming new->ae2
open PySem.Heap.IsTuple renaming push->afd
open PySem.Heap.SameBut renaming update->VQ,refl->afb
open PySem.IsL renaming update->afe
open PySem.Moved renaming trans->aeY
open PySem.NameKind renaming free->VO,cell->YJ
open PySem.Obj renaming mapSeq->VJ,data_mapFields->YK,isFreed_of_fields->aa2,cls_mapFields->acp,putSet->ad1,mapFields->aen
open PySem.Paired renaming length->ad3
open PySem.PassesOwn renaming leaving->acr,never->ade
open PySem.SeqAt renaming EqAt->WG,ne_of_list_tuple->aaJ
open PySem.SeqAt.EqAt renaming same->aaY,int_str->abH,str_int->abI,int_int->abO,of_refs->abX,tuple_list->aev,list_tuple->aew,none_bool->aeA,bool_none->aeB,bool_bool->aeC,none_int->aeJ,none_str->aeK,bool_int->aeL,bool_str->aeM,int_none->aeN,int_bool->aeO,str_none->aeP,str_bool->aeQ,str_str->ae3
open PySem.SeqAt.RcAt renaming tuples->acm,lists->acQ,lists_lengths->adY
open PySem.SeqAt.RcNeAt renaming tuples->aeT,lists->ae5
open PySem.SetTable renaming sizeAbove->XZ,below->Yu,insertAt->Za,advance->aaF,tooFull->acU,runEnd->adn,turns->adN,fill->aei
open PySem.Shared renaming TypeIs->aay,heap->adm
open PySem.Str renaming ofString->V3,length->ach
open PySem.StrLaws renaming sliceText_from->ac4,sliceText_to->adD
open PySem.Txt renaming slice->WE,slice_le->Z5
open PySem.Value renaming none->Vl,ref->VN,type->W6,bool->Yd,builtin->aar,notImplemented->abl,int->aep,str->afk
open PySem.Value.ref renaming inj->afs
open PySem.W renaming Frag->Ui,nsIn->Va,mg_none_of->Vg,fnOf->Vr,keepIn->VS,kia_one->WD,kas_desc->WR,kas_place->Xd,mg_of->Xf,codeIn->Xh,findIn->Xj,mroIn->Yh,kas_sort->Yi,InstAt->Yp,clsIn->YH,kas_rev->Zq,kas_asc->Zr,findObj->ZG,methodObj->aab,cellsFrom_some->aaH,OpenLaw->aa0,looks_findIn->abj,kitOne->abq,callWith_K->abN,specialIn->acj,kitx_dict->aco,kas_descPart->acH,takesIn->ac_,kitMeta->ada,kas_count->adf,notCls->adH,WalkO->ad9,kas_bin->aeb,kat_cons->aec,kas_tail3->aex
open PySem.W.Hook renaming obs->afg,val->afh
open PySem.W.OpenLaw renaming wellSaid->adV
open PySem.W.RowW renaming records->aeD
open PySem.W.WData renaming int->afm
open PySem.W.WShape renaming has->ae8
open PySem.Walks renaming list->ae_
open PySem.pickOrder renaming go->acK
open Subtype renaming ext->aaA
open Sum renaming inl->ab6,inr->ab7
open True renaming intro->abe
set_option Elab.async false
set_option linter.all false
set_option autoImplicit true
set_option relaxedAutoImplicit true
set_option maxRecDepth 100000
namespace L2
open PySem PySem.Spec PyProof.Rows
abbrev Key:=Sum Int Str
noncomputable def IM:Key->Uk->Bool
 | .inl k,v=>Value.isInt k v
 | .inr x,v=>Value.isStrOf x v
noncomputable def PV (w:U5):Key->Int
 | .inl k=>hashInt k
 | .inr x=>hashStr w x
theorem d_:∀{k:Key}{v:Uk},IM k v=true->(∃i t,k=ab6 i/\v=aep i t)\/(∃x t,k=ab7 x/\v=afk x t)
 | .inl i,v,h=>by obtain ⟨t,e⟩:=Value.isInt_shape (k:=i) (v:=v) h;exact .inl ⟨i,t,rfl,e⟩
 | .inr x,v,h=>by obtain ⟨t,e⟩:=Value.isStrOf_shape (x:=x) (v:=v) h;exact .inr ⟨x,t,rfl,e⟩
theorem Mz (a b:Int):decide ((ab6 a:Key)=ab6 b)=(a == b):=by
 by_cases e:a=b
 ·subst e;simp
 ·have h:¬(ab6 a:Key)=ab6 b:=λq=>e (Sum.inl.inj q);rw [decide_eq_false h];exact (beq_eq_false_iff_ne.mpr e).symm
theorem MC (a b:Str):decide ((ab7 a:Key)=ab7 b)=decide (a=b):=by
 by_cases e:a=b
 ·subst e;simp
 ·have h:¬(ab7 a:Key)=ab7 b:=λq=>e (Sum.inr.inj q);rw [decide_eq_false h,decide_eq_false e]
theorem MA (a:Int) (b:Str):decide ((ab6 a:Key)=ab7 b)=false:=decide_eq_false (λq=>nomatch q)
theorem MB (a:Str) (b:Int):decide ((ab7 a:Key)=ab6 b)=false:=decide_eq_false (λq=>nomatch q)
noncomputable def vS (prog:UG) (w:U5):PySem.KeyKind prog w Key where
 is:=IM
 hash:=PV w
 inj:=λv a b ha hb=>by
  rcases d_ ha with ⟨i,t,rfl,rfl⟩ | ⟨x,t,rfl,rfl⟩
  ·rcases d_ hb with ⟨j,u,rfl,e⟩ | ⟨y,u,rfl,e⟩
   ·injection e with e1 _;rw [e1]
   ·exact nomatch e
  ·rcases d_ hb with ⟨j,u,rfl,e⟩ | ⟨y,u,rfl,e⟩
   ·exact nomatch e
   ·injection e with e1 _;rw [e1]
 byValue:=λk v h=>by rcases d_ h with ⟨i,t,rfl,rfl⟩ | ⟨x,t,rfl,rfl⟩ <;> rfl
 pyHash:=λhv h=>by
  rcases d_ hv with ⟨i,t,rfl,rfl⟩ | ⟨x,t,rfl,rfl⟩
  ·exact acM h
  ·exact wpAny_pyHash_str h
 eqBool:=λhu hv h=>by
  rcases d_ hu with ⟨i,t,rfl,rfl⟩ | ⟨x,t,rfl,rfl⟩
  ·rcases d_ hv with ⟨j,u,rfl,rfl⟩ | ⟨y,u,rfl,rfl⟩
   ·rw [Mz] at h;exact wpAny_eqBool_int h
   ·rw [MA] at h;exact abH i t y u _ _ _ _ h
  ·rcases d_ hv with ⟨j,u,rfl,rfl⟩ | ⟨y,u,rfl,rfl⟩
   ·rw [MB] at h;exact abI x t j u _ _ _ _ h
   ·rw [MC] at h;exact wpAny_eqBool_str h
 «strs»:=λk x t v h=>by
  rcases d_ h with ⟨i,u,rfl,e⟩ | ⟨y,u,rfl,e⟩
  ·exact nomatch e
  ·injection e with e1 _
   subst e1;cases v <;> rfl
inductive V where
 | non | bl (b:Bool) | int (i:Int) | str (x:Str) | byt (b:Array UInt8) | flt (b:UInt64) | ref (a:UL) | ty (n:String)
 deriving DecidableEq
noncomputable def RelV:V->Uk->Prop
 | .non,u=>u=Vl
 | .bl b,u=>u=Yd b
 | .int i,u=>∃t,u=aep i t
 | .str x,u=>∃t,u=afk x t
 | .byt b,u=>∃t,u=Value.bytes b t
 | .flt b,u=>∃t,u=Value.float b t
 | .ref a,u=>u=VN a
 | .ty n,u=>u=W6 n
abbrev Vals:List V->List Uk->Prop:=aaa RelV
theorem Vals.length {xs:List V}{us:List Uk}(r:Vals xs us):xs.length=us.length:=ad3 r
theorem Vals.get:∀{xs:List V}{us:List Uk}{i:Nat}{x:V},Vals xs us->xs[i]?=some x->∃u,us[i]?=some u/\RelV x u
 | _,_,_,_,.nil,e=>by simp at e
 | _,_,0,_,.cons r _,e=>by simp at e;subst e;exact ⟨_,rfl,r⟩
 | _,_,i + 1,x,.cons _ t,e=>by obtain ⟨u,h1,h2⟩:=Vals.get (i:=i) (x:=x) t (by simpa using e);exact ⟨u,by simpa using h1,h2⟩
theorem Vals.set {x:V}{u:Uk}(r:RelV x u):∀{xs:List V}{us:List Uk}(i:Nat),Vals xs us->Vals (xs.set i x) (us.set i u)
 | _,_,_,.nil=>.nil
 | _,_,0,.cons _ t=>.cons r t
 | _,_,i + 1,.cons q t=>.cons q (Vals.set r i t)
theorem Vals.append:∀{xs ys:List V}{us ws:List Uk},Vals xs us->Vals ys ws->Vals (xs++ys) (us++ws)
 | _,_,_,_,.nil,s=>s
 | _,_,_,_,.cons r t,s=>.cons r (Vals.append t s)
theorem Vals.take:∀{xs:List V}{us:List Uk}(n:Nat),Vals xs us->Vals (xs.take n) (us.take n)
 | _,_,0,_=>.nil
 | _,_,_ + 1,.nil=>.nil
 | _,_,n + 1,.cons r t=>.cons r (Vals.take n t)
theorem Vals.drop:∀{xs:List V}{us:List Uk}(n:Nat),Vals xs us->Vals (xs.drop n) (us.drop n)
 | _,_,0,r=>r
 | _,_,_ + 1,.nil=>.nil
 | _,_,n + 1,.cons _ t=>Vals.drop n t
noncomputable def LC:Option V->Option Uk->Prop
 | some v,some u=>RelV v u
 | none,none=>True
 | _,_=>False
def KV {κ:Type}:List (κ×V)->List (κ×Uk)->Prop:=aaa λ(p:κ×V) (q:κ×Uk)=>p.1=q.1/\RelV p.2 q.2
noncomputable def kV:Key->V
 | .inl i=>.int i
 | .inr x=>.str x
inductive HO where
  | lst (xs:List V)
  | tup (xs:List V)
  | dK (Ue:List (Key×V)) | dT (Ue:List (List Key×V))
  | set (S:Int->Bool) (n:Nat)
  | ins (C dx:UL) (fs:List (Str×V))
  | own (x:UL)
  | xd (fs:List (Str×V))
  | met (f x:UL)
  | rng (lo hi:Int)
  | frz (o:Obj) (u:HO)
  | tbl (ps:Array Uk)
  | ext (φ:VB->Prop)
abbrev Hp:=UL->Option HO
def upd (H:Hp) (a:UL) (o:HO):Hp:=λb=>if b=a then some o else H b
theorem bN {H:Hp}:upd H a o a=some o:=by unfold upd;rw [if_pos rfl]
theorem bq {H:Hp}(h:b≠a):upd H a o b=H b:=by unfold upd;rw [if_neg h]
theorem eu {H:Hp}(h:H a=some o) (h':H b=none):a≠b:=by intro e;subst e;rw [h] at h';cases h'
section
variable (P:UG) (w:U5)
noncomputable def cM (H:Hp) (h:VB) (a:UL):HO->Prop
 | .lst xs=>xs.length<=sizeLine/\∃(its:List Uk) (n:Nat),Vals xs its/\h.get? a=some {cls:=.type "list",data:=.seq its.toArray n}
 | .tup xs=>xs.length<=sizeLine/\∃its:List Uk,Vals xs its/\aeq h a its.toArray
 | .dK Ue=>Ue.length<=sizeLine/\(a == XR)=false/\∃vs,KV Ue vs/\h.DictOf (vS P w) a vs
 | .dT Ue=>Ue.length<=sizeLine/\(a == XR)=false/\∃xs:List (List Key×UL×Uk),
   aaa (λ(p:List Key×V) (q:List Key×UL×Uk)=>p.1=q.1/\H q.2.1=some (.tup (p.1.map kV))/\RelV p.2 q.2.2) Ue xs/\
   ∃o es ep,h.get? a=some o/\o.ExactDict/\o.data=.dict es ep/\es.toList=xs.map (adQ (tupleKind (vS P w)))/\(xs.map (·.1)).Nodup
 | .set S n=>h.SetOf (intKind P w) a S n
 | .ins C dx fs=>H dx=some (.own a)/\fs.length<=1000/\dx≠a/\h.get? a=some (W.instObj C dx)/\
   ∃mA,h.Ns1 dx mA/\(∀f,LC (fs.lookup f) (mA f))/\PySem.Within mA (fs.map (·.1))
 | .own _=>∃o,h.get? a=some o
 | .xd fs=>∃mA,h.Ns1 a mA/\∀f,LC (fs.lookup f) (mA f)
 | .rng lo hi=>∃t u v,h.get? a=some {cls:=.type "range",data:=.fields #[.int lo t,.int hi u,.int 1 v]}
 | .frz o u=>h.get? a=some o/\cM H h a u
 | .tbl ps=>h.get? a=some {cls:=.none,data:=.fields ps}
 | .met f x=>h.get? a=some (aab (.ref f) (.ref x))
 | .ext φ=>φ h/\(∃o,h.get? a=some o)/\∀h1 h2:VB,φ h1->(∀o,h1.get? a=some o->h2.get? a=some o)->φ h2
def fX (H:Hp) (h:VB):Prop:=∀a o,H a=some o->cM P w H h a o
end
section
variable {P:UG}{w:U5}{H H':Hp}{h h':VB}{a:UL}{o:HO}
theorem cM.lt (x:cM P w H h a o):a < h.objs.size:=by
 cases o with
 | lst xs=>obtain ⟨_,_,_,_,e⟩:=x;exact UC e
 | tup xs=>obtain ⟨_,_,_,p⟩:=x;exact p.lt
 | dK Ue=>obtain ⟨_,_,_,_,o,_,_,e,_⟩:=x;exact UC e
 | dT Ue=>obtain ⟨_,_,_,_,o,_,_,e,_⟩:=x;exact UC e
 | set S n=>obtain ⟨o,_,_,_,e,_⟩:=x;exact UC e
 | ins C dx fs=>obtain ⟨_,_,_,e,_⟩:=x;exact UC e
 | own y=>obtain ⟨_,e⟩:=x;exact UC e
 | xd fs=>obtain ⟨_,⟨_,_,_,e,_⟩,_⟩:=x;exact UC e
 | rng lo hi=>obtain ⟨_,_,_,e⟩:=x;exact UC e
 | frz ob u=>obtain ⟨e,_⟩:=x;exact UC e
 | tbl ps=>exact UC (show h.get? a=some _ from x)
 | met f y=>exact UC (show h.get? a=some _ from x)
 | ext φ=>obtain ⟨_,⟨_,e⟩,_⟩:=x;exact UC e
theorem aaa.mapP {α β:Type}{F G:α->β->Prop}:∀{l₁:List α}{l₂:List β},aaa F l₁ l₂->(∀a b,F a b->G a b)->aaa G l₁ l₂
 | _,_,.nil,_=>.nil
 | _,_,.cons r t,f=>.cons (f _ _ r) (aaa.mapP t f)
theorem cM.stay (x:cM P w H h a o) (k:∀b u,(b=a\/H b=some (.own a))->h.get? b=some u->h'.get? b=some u)
  (ho:∀b,H b=some (.own a)->H' b=some (.own a)) (ht:∀b xs,H b=some (.tup xs)->H' b=some (.tup xs)):cM P w H' h' a o:=by
 induction o with
 | lst xs=>obtain ⟨z,its,n,r,e⟩:=x;exact ⟨z,its,n,r,k _ _ (.inl rfl) e⟩
 | tup xs=>obtain ⟨z,its,r,ob,e,c⟩:=x;exact ⟨z,its,r,ob,k _ _ (.inl rfl) e,c⟩
 | dK Ue=>obtain ⟨z,y,vs,r,ob,es,ep,e,c⟩:=x;exact ⟨z,y,vs,r,ob,es,ep,k _ _ (.inl rfl) e,c⟩
 | dT Ue=>
  obtain ⟨z,y,xs,r,ob,es,ep,e,c⟩:=x;exact ⟨z,y,xs,aaa.mapP r λp q z=>⟨z.1,ht _ _ z.2.1,z.2.2⟩,ob,es,ep,k _ _ (.inl rfl) e,c⟩
 | set S n=>obtain ⟨ob,es,ep,t,e,c⟩:=x;exact ⟨ob,es,ep,t,k _ _ (.inl rfl) e,c⟩
 | ins C dx fs=>
  obtain ⟨d,z,ne,e,mA,⟨od,es,ep,e2,c⟩,r⟩:=x;exact ⟨ho _ d,z,ne,k _ _ (.inl rfl) e,mA,⟨od,es,ep,k _ _ (.inr d) e2,c⟩,r⟩
 | own y=>obtain ⟨ob,e⟩:=x;exact ⟨ob,k _ _ (.inl rfl) e⟩
 | xd fs=>obtain ⟨mA,⟨od,es,ep,e,c⟩,r⟩:=x;exact ⟨mA,⟨od,es,ep,k _ _ (.inl rfl) e,c⟩,r⟩
 | rng lo hi=>obtain ⟨t,u,v,e⟩:=x;exact ⟨t,u,v,k _ _ (.inl rfl) e⟩
 | frz ob u ih=>obtain ⟨e,q⟩:=x;exact ⟨k _ _ (.inl rfl) e,ih q⟩
 | tbl ps=>
  have e:h.get? a=some {cls:=.none,data:=.fields ps}:=x;show h'.get? a=some {cls:=.none,data:=.fields ps};exact k a _ (.inl rfl) e
 | met f y=>
  have e:h.get? a=some (aab (.ref f) (.ref y)):=x;show h'.get? a=some (aab (.ref f) (.ref y));exact k a _ (.inl rfl) e
 | ext φ=>obtain ⟨p,⟨o,e⟩,st⟩:=x;exact ⟨st _ _ p λo q=>k _ _ (.inl rfl) q,⟨o,k _ _ (.inl rfl) e⟩,st⟩
theorem fX.lt (x:fX P w H h) (e:H a=some o):a < h.objs.size:=(x a o e).lt
theorem fX.fresh (x:fX P w H h) (e:h.objs.size<=a):H a=none:=by
 cases q:H a with
 | none=>rfl
 | some u=>exact absurd (UQ (x.lt q) e) (Wa _)
theorem fX.kept (x:fX P w H h) (k:∀b u,h.get? b=some u->h'.get? b=some u):fX P w H h':=λa o e=>
 (x a o e).stay (λb u _ q=>k b u q) (λ_ q=>q) λ_ _ q=>q
theorem fX.laid (x:fX P w H h) (k:∀b u,h.get? b=some u->h'.get? b=some u) (hp:h.objs.size<=a) (new:cM P w (upd H a o) h' a o):fX P w (upd H a o) h':=λb u e=>by
 have hn:=x.fresh hp;by_cases hb:b=a
 ·subst hb;rw [bN] at e;cases e;exact new
 ·rw [bq hb] at e;exact (x b u e).stay (λc v _ q=>k c v q) (λc q=>by rw [bq (eu q hn)];exact q) λc xs q=>by rw [bq (eu q hn)];exact q
end
def Rd (H:Hp) (a:UL) (u:HO):Prop:=H a=some u\/∃o,H a=some (.frz o u)
theorem Rd.ok {H:Hp}(r:Rd H a u) (x:fX P w H h):cM P w H h a u:=by
 rcases r with r | ⟨o,r⟩
 ·exact x a u r
 ·obtain ⟨_,q⟩:=x a _ r;exact q
noncomputable def Ik:Option HO->Prop
 | some (.lst _)=>True
 | some (.dK _)=>True
 | some (.dT _)=>True
 | some (.set _ _)=>True
 | some (.ins _ _ _)=>True
 | some (.ext _)=>True
 | _=>False
section
variable {P:UG}{w:U5}{H:Hp}{h h':VB}{x e:UL}{o':HO}
theorem fX.write (ok:fX P w H h) (mu:Ik (H x)) (he:e=x\/H e=some (.own x)) (k:∀b u,b≠e->h.get? b=some u->h'.get? b=some u) (RT:∃u,h'.get? e=some u)
  (new:cM P w (upd H x o') h' x o'):fX P w (upd H x o') h':=λb u q=>by
 have nown:∀c y,H c=some (.own y)->c≠x:=λc y r z=>by subst z;rw [r] at mu;exact mu
 have ntup:∀c xs,H c=some (.tup xs)->c≠x:=λc xs r z=>by subst z;rw [r] at mu;exact mu
 by_cases hb:b=x
 ·subst hb;rw [bN] at q;cases q;exact new
 ·rw [bq hb] at q;by_cases RL:b=e
  ·have q':H b=some (.own x):=by
    rcases he with z | z
    ·exact absurd (RL.trans z) hb
    ·rw [RL];exact z
   rw [q] at q';cases q';obtain ⟨v,hv⟩:=RT;exact ⟨v,by rw [RL];exact hv⟩
  ·refine (ok b u q).stay (λc v hc r=>k c v ?_ r) (λc r=>by rw [bq (nown c b r)];exact r) λc xs r=>by rw [bq (ntup c xs r)];exact r
   rcases hc with rfl | hc
   ·exact RL
   ·rintro rfl;rcases he with z | z
    ·exact nown c b hc z
    ·rw [hc] at z;cases z;exact hb rfl
end
structure Un (fs ex:List UL) (H H':Hp) (h h':VB):Prop where
 keep:∀b o,h.get? b=some o->H b=none->b∉fs->b∉ex->h'.get? b=some o
 slot:∀b o,h.get? b=some o->H b=none->b∈fs->b∉ex->∃sl,h'.get? b=some {o with slots:=sl}
 free:∀b o,h.get? b=some o->H b=none->b∉ex->H' b=none
 there:∀b o,h.get? b=some o->b∉ex->∃o',h'.get? b=some o'
 tups:∀b xs,H b=some (.tup xs)->H' b=some (.tup xs)
 frzs:∀b o u,H b=some (.frz o u)->H' b=some (.frz o u)
 tbls:∀b ps,H b=some (.tbl ps)->∃more,H' b=some (.tbl (ps++more))
section
variable {fs fs' ex ex':List UL}{H H1 H2:Hp}{h h1 h2 h':VB}{a x e:UL}{o:HO}
theorem Un.any (u:Un fs ex H H1 h h1) (q:h.get? b=some ob) (n:H b=none) (hx:b∉ex):∃sl,h1.get? b=some {ob with slots:=sl}:=by
 by_cases hb:b∈fs
 ·exact u.slot b ob q n hb hx
 ·exact ⟨ob.slots,u.keep b ob q n hb hx⟩
theorem Un.kept (k:∀b u,h.get? b=some u->h'.get? b=some u):Un fs ex H H h h':=
 ⟨λb ob q _ _ _=>k b ob q,λb ob q _ _ _=>⟨ob.slots,k b ob q⟩,λ_ _ _ n _=>n,λb ob q _=>⟨ob,k b ob q⟩,λ_ _ q=>q,λ_ _ _ q=>q,λ_ ps q=>⟨#[],by rw [q];simp⟩⟩
theorem Un.refl:Un fs ex H H h h:=Un.kept λ_ _ q=>q
theorem Un.laid (k:∀b u,h.get? b=some u->h'.get? b=some u) (hp:h.objs.size<=a) (hn:H a=none):Un fs ex H (upd H a o) h h' where
 keep:=λb u q _ _ _=>k b u q
 slot:=λb u q _ _ _=>⟨u.slots,k b u q⟩
 free:=λb u q n _=>by rw [bq (UY (UQ (UC q) hp))];exact n
 there:=λb u q _=>⟨u,k b u q⟩
 tups:=λb xs q=>by rw [bq (eu q hn)];exact q
 frzs:=λb u xs q=>by rw [bq (eu q hn)];exact q
 tbls:=λb ps q=>⟨#[],by rw [bq (eu q hn),q];simp⟩
theorem Un.write (mu:Ik (H x)) (he:e=x\/H e=some (.own x)) (k:∀b u,b≠e->h.get? b=some u->h'.get? b=some u) (RT:∃u,h'.get? e=some u):Un fs ex H (upd H x o) h h':=by
 have hx:∀b,H b=none->b≠x:=λb n z=>by subst z;rw [n] at mu;exact mu
 have hb:∀b,H b=none->b≠e:=λb n z=>by
  subst z;rcases he with r | r
  ·exact hx b n r
  ·rw [n] at r;cases r
 have hm:∀b u,H b=some u->¬Ik (some u)->b≠x:=λb u q nm z=>by subst z;rw [q] at mu;exact nm mu
 refine ⟨λb u q n _ _=>k b u (hb b n) q,λb u q n _ _=>⟨u.slots,k b u (hb b n) q⟩,λb u q n _=>by rw [bq (hx b n)];exact n,λb u q _=>?_,
  λb xs q=>by rw [bq (hm b _ q λz=>z)];exact q,λb u xs q=>by rw [bq (hm b _ q λz=>z)];exact q,λb ps q=>⟨#[],by rw [bq (hm b _ q λz=>z),q];simp⟩⟩
 by_cases RL:b=e
 ·subst RL;exact RT
 ·exact ⟨u,k b u RL q⟩
end
def FW (h:VB) (H:Hp):List UL:=(Ur h.objs.size).filter λa=>(H a).isSome
def om (h:VB) (H:Hp):VB:=W.hideAll h (FW h H)
theorem ED (h:VB) (H:Hp):(om h H).objs.size=h.objs.size:=W.hideAll_size _ _
theorem GA {h:VB}{H:Hp}(e:h.get? b=some o) (n:H b=none):(om h H).get? b=some o:=
 W.hideAll_get _ e λhm=>by have q:(H b).isSome=true:=(VE.mp hm).2;rw [n] at q;simp at q
theorem Kf {h:VB}{H:Hp}(e:(om h H).get? b=some o):h.get? b=some o/\H b=none:=by
 have e':h.get? b=some o:=W.of_hideAll (FW h H) e;refine ⟨e',?_⟩;cases q:H b with
 | none=>rfl
 | some x=>
  have hm:b∈FW h H:=VE.mpr ⟨UP.mpr (UC e'),by simp [q]⟩;have z:(om h H).get? b=none:=W.hideAll_none (FW h H) hm;rw [z] at e;cases e
def Js (g h:VB) (L:UL):List (UL×Obj):=(Ur h.objs.size).filterMap λa=>if a=L\/(g.get? a).isSome=true then none else (h.get? a).map λo=>(a,o)
def rest (g h:VB) (L d:UL):List (UL×Obj):=(Js g h L).filter λp=>decide (p.1≠d)
structure Mod (K:Ui) (mg:Str->Option Uk) (base:VB):Prop where
 kin:K.In base
 glob:base.Ns UW mg
 blt:∃mb,base.Ns adR mb/\∀x:Str,x≠"__name__"->mb x=Vx x
 nolimit:base.NoLimit
structure Cx where
 prog:UG
 w:U5
 K:Ui
 mg:Str->Option Uk
 base:VB
 A:U8
 N:List Str
 s₀:Um
 H₀:Hp
 env:Env
 outer:List Env
 stack:List Env
 ex:List UL
 fn:Str->Bool
 calm:Bool
 pn:List (UL×Obj)
 xe:Uk->Um->Prop
def frs (l:List Env):List UL:=l.filterMap (·.frame)
abbrev Cx.fs (X:Cx):List UL:=frs X.outer
def rY (sc:X0) (x:Str):Prop:=sc.names.lookup x=some .local\/sc.names.lookup x=some .cell\/sc.names.lookup x=some .free
def Loc (sc:X0) (x:Str):Prop:=sc.names.lookup x=some .local\/sc.names.lookup x=some .cell
noncomputable def Look (env:Env) (h:VB) (m:Str->Option Uk) (x:Str) (u:Uk):Prop:=
 (env.kindOf x=some .local/\m x=some u)\/((env.kindOf x=some .cell\/env.kindOf x=some .free)/\∃c,env.cells.lookup x=some c/\h.IsCell c (some u))
structure Cx.Ok (X:Cx):Prop where
 mod:Mod X.K X.mg X.base
 kind:X.env.scope.kind=.function
 glob:X.env.globals=UW
 blt:X.env.builtins=adR
 above:X.s₀.heap.objs.size<=X.env.locals
 inj:∀x y c,X.env.cells.lookup x=some c->X.env.cells.lookup y=some c->x=y
 has:∀x,(X.env.kindOf x=some .cell\/X.env.kindOf x=some .free)->∃c,X.env.cells.lookup x=some c
 cab:∀x c,X.fn x=true->X.env.cells.lookup x=some c->X.s₀.heap.objs.size<=c
 hd:X.calm=true->X.A.handled=none
 frames:X.A.frames=some X.stack
 stk:X.stack=X.outer\/(X.stack=X.env::X.outer/\X.env.frame=some X.env.locals)
 exf:∀b∈X.ex,b≠X.env.locals/\∀x c,X.env.cells.lookup x=some c->c≠b
 bs:∀b o,X.base.get? b=some o->X.s₀.heap.get? b=some o/\X.H₀ b=none
 bsz:X.base.objs.size<=X.s₀.heap.objs.size
 noex:∀b o,X.base.get? b=some o->b∉X.ex
 exfs:∀b∈X.ex,b∉X.fs
 funs:X.s₀.heap.FunFrames X.base X.outer
 frf:∀b∈X.fs,X.H₀ b=none
structure Inv (X:Cx) (T9:List (UL×Obj)) (σ:List (Option V)) (H:Hp) (s:Um):Prop where
 ok:X.Ok
 os:s.os=X.s₀.os
 bare:aam s.gens
 base:Un X.fs X.ex X.H₀ H X.s₀.heap s.heap
 loc:∃m,s.heap.Ns X.env.locals m/\∀(i:Nat) (x:Str) (v:V),X.N[i]?=some x->σ[i]?=some (some v)->rY X.env.scope x->∃u,RelV v u/\Look X.env s.heap m x u
 cell:∀x c,X.env.cells.lookup x=some c->∃v,s.heap.IsCell c v
 free:H X.env.locals=none
 freeC:∀x c,X.env.cells.lookup x=some c->H c=none
 pin:∀p∈X.pn++T9,s.heap.get? p.1=some p.2/\H p.1=none/\p.1≠X.env.locals/\p.1∉X.fs/\∀v,p.2.data≠.cell v
 hok:fX X.prog X.w H s.heap
 len:σ.length=X.N.length
section
variable {X:Cx}{T9:List (UL×Obj)}{σ:List (Option V)}{H H':Hp}{s:Um}{h':VB}
theorem Cx.Ok.nofr (ok:X.Ok) (e:X.base.get? b=some o):b∉X.fs:=λhb=>by have:=(ok.funs.mem hb).1;rw [e] at this;cases this
theorem Inv.bs (I:Inv X T9 σ H s):∀b o,X.base.get? b=some o->s.heap.get? b=some o/\H b=none:=λb o e=>
 ⟨I.base.keep b o (I.ok.bs b o e).1 (I.ok.bs b o e).2 (I.ok.nofr e) (I.ok.noex b o e),I.base.free b o (I.ok.bs b o e).1 (I.ok.bs b o e).2 (I.ok.noex b o e)⟩
theorem Inv.bk (I:Inv X T9 σ H s):∀b o,X.base.get? b=some o->s.heap.get? b=some o:=λb o e=>(I.bs b o e).1
theorem Inv.mod (I:Inv X T9 σ H s):Mod X.K X.mg X.base:=I.ok.mod
theorem Inv.kIn (I:Inv X T9 σ H s):X.K.In s.heap:=I.ok.mod.kin.keeps I.bk
theorem Inv.lt (I:Inv X T9 σ H s):X.env.locals < s.heap.objs.size:=let ⟨_,hn,_⟩:=I.loc;hn.lt
theorem Inv.sz (I:Inv X T9 σ H s):X.s₀.heap.objs.size<=s.heap.objs.size:=U1 I.ok.above (ZV I.lt)
theorem Inv.nofs (I:Inv X T9 σ H s) (h:s.heap.objs.size<=a):a∉X.fs:=λhb=>by obtain ⟨_,o,ho,_⟩:=I.ok.funs.mem hb;exact absurd (UQ (UC ho) (U1 I.sz h)) (Wa _)
theorem Inv.cne (I:Inv X T9 σ H s):∀x c,X.env.cells.lookup x=some c->c≠X.env.locals:=λx c e z=>by obtain ⟨v,o,ho,hd⟩:=I.cell x c e;obtain ⟨m,⟨o',es,ep,ho',hd',_⟩,_⟩:=I.loc;rw [z,ho'] at ho;cases ho;rw [hd'] at hd;cases hd
theorem Inv.funs (I:Inv X T9 σ H s):s.heap.FunFrames X.base X.outer:=by
 have all:∀(l:List Env),(∀b∈frs l,b∈X.fs)->X.s₀.heap.FunFrames X.base l->s.heap.FunFrames X.base l:=by
  intro l
  induction l with
  | nil=>intro _ _;trivial
  | cons env r ih=>
   intro hs hl;obtain ⟨hk,⟨L,o,hf,hn,ho,hd⟩,hr⟩:=hl;have hL:L∈X.fs:=hs L (by unfold frs;rw [ZC,hf];exact Uv);obtain ⟨sl,e⟩:=I.base.slot L o ho (I.ok.frf L hL) hL λz=>I.ok.exfs L z hL;exact ⟨hk,⟨L,_,hf,hn,e,hd⟩,ih (λb hb=>hs b (by unfold frs;rw [ZC,hf];exact Uu _ hb)) hr⟩
 exact all X.outer (λ_ hb=>hb) I.ok.funs
theorem Inv.stack (I:Inv X T9 σ H s):s.heap.FunFrames X.base X.stack:=by
 rcases I.ok.stk with e | ⟨e,hf⟩
 ·rw [e];exact I.funs
 ·rw [e];obtain ⟨m,hn,_⟩:=I.loc;refine .cons (by rw [I.ok.kind];decide) hf hn ?_ I.funs;exact Heap.get?_none_of_le (U1 I.ok.bsz I.ok.above)
theorem Inv.stkSub (I:Inv X T9 σ H s):∀b∈frs X.stack,b∈X.env.locals::X.fs:=λb hb=>by
 rcases I.ok.stk with e | ⟨e,hf⟩
 ·rw [e] at hb;exact Uu _ hb
 ·rw [e] at hb;unfold frs at hb;rw [ZC,hf] at hb;exact hb
theorem Inv.stkFree (I:Inv X T9 σ H s):∀b∈frs X.stack,H b=none:=λb hb=>by
 rcases UK.mp (I.stkSub b hb) with e | hb
 ·rw [e];exact I.free
 ·obtain ⟨_,o,ho,_⟩:=I.ok.funs.mem hb;exact I.base.free b o ho (I.ok.frf b hb) λz=>I.ok.exfs b z hb
theorem Inv.step {g':Array ae0}{t':Nat}{d':Drawn}{ch:List UL}(I:Inv X T9 σ H s)
  (hch:∀b∈ch,(b∈X.ex\/X.s₀.heap.objs.size<=b)/\b≠X.env.locals/\(∀x c,X.env.cells.lookup x=some c->c≠b)/\∀p∈X.pn++T9,p.1≠b)
  (keep:∀b o,b≠X.env.locals->b∉X.fs->b∉ch->s.heap.get? b=some o->H b=none->h'.get? b=some o)
  (slot:∀b o,b≠X.env.locals->b∈X.fs->b∉ch->s.heap.get? b=some o->H b=none->∃sl,h'.get? b=some {o with slots:=sl}) (free:∀b o,b∉ch->s.heap.get? b=some o->H b=none->H' b=none)
  (there:∀b o,b∉ch->s.heap.get? b=some o->∃o',h'.get? b=some o')
  (tups:∀b xs,H b=some (.tup xs)->H' b=some (.tup xs)) (frzs:∀b o u,H b=some (.frz o u)->H' b=some (.frz o u)) (tbls:∀b ps,H b=some (.tbl ps)->∃more,H' b=some (.tbl (ps++more)))
  (ns:∀m,s.heap.Ns X.env.locals m->h'.Ns X.env.locals m) (hok:fX X.prog X.w H' h') (hg:aam g'):
  Inv X T9 σ H' {s with heap:=h',gens:=g',drawn:=d',toks:=t'}:=by
 have neL:∀b o,X.s₀.heap.get? b=some o->b≠X.env.locals:=λb o e=>UY (UQ (UC e) I.ok.above);have neC:∀b o,X.s₀.heap.get? b=some o->b∉X.ex->b∉ch:=λb o e hx hb=>by
  rcases (hch b hb).1 with z | z
  ·exact hx z
  ·exact absurd (UQ (UC e) z) (Wa _)
 have cellK:∀x c,X.env.cells.lookup x=some c->∀v,s.heap.IsCell c v->h'.IsCell c v:=λx c e v ⟨o,ho,hd⟩=>by
  have nch:c∉ch:=λz=>(hch c z).2.2.1 x c e rfl;by_cases hc:c∈X.fs
  ·obtain ⟨sl,q⟩:=slot c o (I.cne x c e) hc nch ho (I.freeC x c e);exact ⟨_,q,hd⟩
  ·exact ⟨o,keep c o (I.cne x c e) hc nch ho (I.freeC x c e),hd⟩
 refine ⟨I.ok,I.os,hg,⟨λb o e n hb hx=>?_,λb o e n hb hx=>?_,λb o e n hx=>?_,λb o e hx=>?_,λb xs e=>tups b xs (I.base.tups b xs e),λb o xs e=>frzs b o xs (I.base.frzs b o xs e),λb ps e=>?_⟩,?_,λx c e=>?_,?_,λx c e=>?_,λp hp=>?_,hok,I.len⟩
 ·exact keep b o (neL b o e) hb (neC b o e hx) (I.base.keep b o e n hb hx) (I.base.free b o e n hx)
 ·obtain ⟨sl,e1⟩:=I.base.slot b o e n hb hx;obtain ⟨sl',e2⟩:=slot b _ (neL b o e) hb (neC b o e hx) e1 (I.base.free b o e n hx);exact ⟨sl',e2⟩
 ·obtain ⟨o',e1⟩:=I.base.there b o e hx;exact free b o' (neC b o e hx) e1 (I.base.free b o e n hx)
 ·obtain ⟨o',e1⟩:=I.base.there b o e hx;exact there b o' (neC b o e hx) e1
 ·obtain ⟨m1,e1⟩:=I.base.tbls b ps e;obtain ⟨m2,e2⟩:=tbls b _ e1;exact ⟨m1++m2,by rw [e2,Array.append_assoc]⟩
 ·obtain ⟨m,hn,hl⟩:=I.loc;refine ⟨m,ns m hn,λi x v e1 e2 e3=>?_⟩;obtain ⟨u,r,l⟩:=hl i x v e1 e2 e3;refine ⟨u,r,?_⟩;rcases l with l | ⟨k,c,e,z⟩
  ·exact .inl l
  ·exact .inr ⟨k,c,e,cellK x c e _ z⟩
 ·obtain ⟨v,z⟩:=I.cell x c e;exact ⟨v,cellK x c e v z⟩
 ·obtain ⟨m,⟨o,_,_,ho,_⟩,_⟩:=I.loc;exact free _ o (λz=>(hch _ z).2.1 rfl) ho I.free
 ·obtain ⟨v,o,ho,hd⟩:=I.cell x c e;exact free c o (λz=>(hch c z).2.2.1 x c e rfl) ho (I.freeC x c e)
 ·obtain ⟨e,n,ne,nf,d⟩:=I.pin p hp;have nch:p.1∉ch:=λz=>(hch p.1 z).2.2.2 p hp rfl;exact ⟨keep p.1 p.2 ne nf nch e n,free p.1 p.2 nch e n,ne,nf,d⟩
theorem Inv.un (I:Inv X T9 σ H s) (u:Un X.fs [] H H' s.heap h') (hok:fX X.prog X.w H' h'):Inv X T9 σ H' {s with heap:=h',toks:=t'}:=by
 obtain ⟨m,⟨o,es,ep,ho,r⟩,_⟩:=id I.loc;obtain ⟨sl,hL⟩:=u.any ho I.free (by simp);exact I.step (g':=s.gens) (d':=s.drawn) (ch:=[]) (λ_ z=>nomatch z) (λb o _ hb _ e n=>u.keep b o e n hb (by simp)) (λb o _ hb _ e n=>u.slot b o e n hb (by simp)) (λb o _ e n=>u.free b o e n (by simp)) (λb o _ e=>u.there b o e (by simp)) u.tups u.frzs u.tbls (λm' hm=>by
  obtain ⟨o',es',ep',ho',r'⟩:=hm;rw [ho] at ho';cases ho';exact ⟨_,es',ep',hL,r'⟩) hok I.bare
theorem Inv.call (I:Inv X T9 σ H s) (u:Un (frs X.stack) ch H H' s.heap h') (hok:fX X.prog X.w H' h') (hg:aam g')
 (hch:∀b∈ch,(b∈X.ex\/X.s₀.heap.objs.size<=b)/\b≠X.env.locals/\(∀x c,X.env.cells.lookup x=some c->c≠b)/\∀p∈X.pn++T9,p.1≠b):
  Inv X T9 σ H' {s with heap:=h',gens:=g',drawn:=d',toks:=t'}:=by
 obtain ⟨m,⟨o,es,ep,ho,r⟩,_⟩:=id I.loc;obtain ⟨sl,hL⟩:=u.any ho I.free λz=>(hch _ z).2.1 rfl;exact I.step (ch:=ch) hch (λb o hL hb hc e n=>u.keep b o e n (λz=>(UK.mp (I.stkSub b z)).elim hL hb) hc) (λb o _ _ hc e n=>u.any e n hc) (λb o hc e n=>u.free b o e n hc) (λb o hc e=>u.there b o e hc) u.tups u.frzs u.tbls (λm' hm=>by
  obtain ⟨o',es',ep',ho',r'⟩:=hm;rw [ho] at ho';cases ho';exact ⟨_,es',ep',hL,r'⟩) hok hg
theorem Inv.turned {t':Nat}{it:UL}(I:Inv X T9 σ H s) (k:∀b o,b≠it->s.heap.get? b=some o->h'.get? b=some o) (hn:H it=none) (hL:it≠X.env.locals)
  (h1:it∈X.ex\/X.s₀.heap.objs.size<=it) (h2:∀x c,X.env.cells.lookup x=some c->c≠it) (h3:∀p∈X.pn++T9,p.1≠it):Inv X T9 σ H {s with heap:=h',toks:=t'}:=by
 have nit:∀b u,H b=some u->b≠it:=λb u e z=>by rw [z,hn] at e;cases e
 refine I.step (g':=s.gens) (d':=s.drawn) (ch:=[it]) (λb hb=>?_) (λb o _ _ hc e _=>k b o (λz=>hc (by simp [z])) e) (λb o _ _ hc e _=>⟨o.slots,k b o (λz=>hc (by simp [z])) e⟩) (λ_ _ _ _ n=>n)
  (λb o hc e=>⟨o,k b o (λz=>hc (by simp [z])) e⟩) (λ_ _ e=>e) (λ_ _ _ e=>e) (λb ps e=>⟨#[],by rw [e];simp⟩) (λm hm=>?_) (λb u e=>?_) I.bare
 ·have e:b=it:=by simpa using hb
  subst e;exact ⟨h1,hL,h2,h3⟩
 ·obtain ⟨o,es,ep,ho,r⟩:=hm;exact ⟨o,es,ep,k _ o (Ws hL) ho,r⟩
 ·refine (I.hok b u e).stay (λc v hc q=>k c v ?_ q) (λ_ q=>q) λ_ _ q=>q;rcases hc with z | z
  ·rw [z];exact nit b u e
  ·exact nit c _ z
theorem Inv.tok (I:Inv X T9 σ H s) (t:Nat):Inv X T9 σ H {s with toks:=t}:=I.un (h':=s.heap) (t':=t) Un.refl I.hok
theorem Inv.kept (I:Inv X T9 σ H s) (k:∀b u,s.heap.get? b=some u->h'.get? b=some u):Inv X T9 σ H {s with heap:=h',toks:=t'}:=I.un (Un.kept k) (I.hok.kept k)
theorem Inv.laid (I:Inv X T9 σ H s) (k:∀b u,s.heap.get? b=some u->h'.get? b=some u) (hp:s.heap.objs.size<=a) (new:cM X.prog X.w (upd H a o) h' a o):
  Inv X T9 σ (upd H a o) {s with heap:=h',toks:=t'}:=I.un (Un.laid k hp (I.hok.fresh hp)) (I.hok.laid k hp new)
theorem Inv.write (I:Inv X T9 σ H s) (mu:Ik (H x)) (he:e=x\/H e=some (.own x)) (k:∀b u,b≠e->s.heap.get? b=some u->h'.get? b=some u) (RT:∃u,h'.get? e=some u)
 (new:cM X.prog X.w (upd H x o) h' x o):Inv X T9 σ (upd H x o) {s with heap:=h',toks:=t'}:=I.un (Un.write mu he k RT) (I.hok.write mu he k RT new)
theorem Inv.pins_of (I:Inv X T9 σ H s) (h:∀p∈pins',s.heap.get? p.1=some p.2/\H p.1=none/\p.1≠X.env.locals/\p.1∉X.fs/\∀v,p.2.data≠.cell v):Inv X pins' σ H s:=
 ⟨I.ok,I.os,I.bare,I.base,I.loc,I.cell,I.free,I.freeC,λp hp=>(US.mp hp).elim (λz=>I.pin p (Xn _ z)) (h p),I.hok,I.len⟩
theorem zQ {N:List Str}(hN:N.Nodup){i j:Nat}{x:Str}(a:N[i]?=some x) (b:N[j]?=some x):i=j:=by obtain ⟨h1,e1⟩:=UR.mp a;obtain ⟨h2,e2⟩:=UR.mp b;exact (Zn hN).mp (e1.trans e2.symm)
theorem xK {M:aer}{E:Uk->Um->Prop}{Q:Unit->Um->Prop}(I:Inv X T9 σ H s) (hN:X.N.Nodup) (hi:X.N[i]?=some x) (hx:Loc X.env.scope x) (r:RelV v u)
 (h:∀s',Inv X T9 (σ.set i (some v)) H s'->(∃a,Vc a s.heap s'.heap/\(a=X.env.locals\/X.env.cells.lookup x=some a))->Q () s') (hf:X.fn x=true\/X.env.scope.names.lookup x=some .local:=by first | exact .inl rfl | exact .inr rfl | assumption):UB M A (aes X.env x u) Q E s:=by
 obtain ⟨m,hn,hl⟩:=id I.loc;have hcls:(X.env.scope.kind == .class || (X.env.scope.kind == .module && X.env.locals != X.env.globals))=false:=by rw [I.ok.kind];rfl
 have hiσ:i < σ.length:=by rw [I.len];exact (UR.mp hi).1
 have cne:=I.cne;have tracked:∀{a:UL}{h':VB},(∃o,s.heap.get? a=some o/\H a=none)->Vc a s.heap h'->fX X.prog X.w H h':=fun {a h'} ha hs b ob e=>by
  obtain ⟨_,_,hfree⟩:=ha;refine (I.hok b ob e).stay (λc w' hc q=>(hs.2 c ?_).trans q) (λ_ q=>q) λ_ _ q=>q;rintro rfl;rcases hc with rfl | hc
  ·rw [hfree] at e;cases e
  ·rw [hfree] at hc;cases hc
 rcases hx with hk | hk
 ·refine wpAny_storeName_local hk hn (λh' hn' hs=>?_) hcls;obtain ⟨oL,_,_,Tz,_⟩:=id hn;refine h _ ⟨I.ok,I.os,I.bare,⟨λb o e n hb hx=>?_,λb o e n hb hx=>?_,I.base.free,λb o e hx=>?_,I.base.tups,I.base.frzs,I.base.tbls⟩,⟨_,hn',λj y v' e1 e2 e3=>?_⟩,λy c e=>?_,I.free,I.freeC,λp hp=>?_,tracked ⟨oL,Tz,I.free⟩ hs,by simpa using I.len⟩ ⟨_,hs,.inl rfl⟩
  ·exact (hs.2 b (UY (UQ (UC e) I.ok.above))).trans (I.base.keep b o e n hb hx)
  ·obtain ⟨sl,e1⟩:=I.base.slot b o e n hb hx;exact ⟨sl,(hs.2 b (UY (UQ (UC e) I.ok.above))).trans e1⟩
  ·obtain ⟨o',e1⟩:=I.base.there b o e hx;exact ⟨o',(hs.2 b (UY (UQ (UC e) I.ok.above))).trans e1⟩
  ·by_cases hj:j=i
   ·subst hj;rw [hi] at e1;cases e1;rw [V4 hiσ] at e2;cases e2;exact ⟨u,r,.inl ⟨hk,by simp⟩⟩
   ·rw [Vh (Ws hj)] at e2;obtain ⟨u',r',q⟩:=hl j y v' e1 e2 e3;refine ⟨u',r',?_⟩;rcases q with ⟨k,e⟩ | ⟨k,c,e,z⟩
    ·refine .inl ⟨k,?_⟩;have:y≠x:=λe=>hj (zQ hN e1 (e▸hi));simp [this,e]
    ·exact .inr ⟨k,c,e,z.sameBut hs (cne y c e)⟩
  ·obtain ⟨w',z⟩:=I.cell y c e;exact ⟨w',z.sameBut hs (cne y c e)⟩
  ·obtain ⟨e,n,ne,nf,d⟩:=I.pin p hp;exact ⟨(hs.2 p.1 ne).trans e,n,ne,nf,d⟩
 ·have hfn:X.fn x=true:=by
   rcases hf with z | z
   ·exact z
   ·rw [z] at hk;cases hk
  obtain ⟨c,hc⟩:=I.ok.has x (.inl hk);obtain ⟨w',z⟩:=I.cell x c hc;refine wpAny_storeName_cell I.ok.kind hk hc z (λh' hc' hs=>?_);obtain ⟨oc,hoc,Ss⟩:=id z;refine h {s with heap:=h'} ⟨I.ok,I.os,I.bare,⟨λb o e n hb hx=>?_,λb o e n hb hx=>?_,I.base.free,λb o e hx=>?_,I.base.tups,I.base.frzs,I.base.tbls⟩,⟨m,hn.sameBut hs (Ws (cne x c hc)),λj y v' e1 e2 e3=>?_⟩,λy c' e=>?_,I.free,I.freeC,λp hp=>?_,tracked ⟨oc,hoc,I.freeC x c hc⟩ hs,by simpa using I.len⟩ ⟨c,hs,.inr hc⟩
  ·exact (hs.2 b (UY (UQ (UC e) (I.ok.cab x c hfn hc)))).trans (I.base.keep b o e n hb hx)
  ·obtain ⟨sl,e1⟩:=I.base.slot b o e n hb hx;exact ⟨sl,(hs.2 b (UY (UQ (UC e) (I.ok.cab x c hfn hc)))).trans e1⟩
  ·obtain ⟨o',e1⟩:=I.base.there b o e hx;exact ⟨o',(hs.2 b (UY (UQ (UC e) (I.ok.cab x c hfn hc)))).trans e1⟩
  ·by_cases hj:j=i
   ·subst hj;rw [hi] at e1;cases e1;rw [V4 hiσ] at e2;cases e2;exact ⟨u,r,.inr ⟨.inl hk,c,hc,hc'⟩⟩
   ·rw [Vh (Ws hj)] at e2;obtain ⟨u',r',q⟩:=hl j y v' e1 e2 e3;refine ⟨u',r',?_⟩;rcases q with q | ⟨k,c',e,z'⟩
    ·exact .inl q
    ·refine .inr ⟨k,c',e,z'.sameBut hs ?_⟩;rintro rfl;exact hj (zQ hN e1 (I.ok.inj _ _ _ e hc▸hi))
  ·by_cases hcc:c'=c
   ·subst hcc;exact ⟨_,hc'⟩
   ·obtain ⟨w2,z2⟩:=I.cell y c' e;exact ⟨w2,z2.sameBut hs hcc⟩
  ·obtain ⟨e,n,ne,nf,d⟩:=I.pin p hp;refine ⟨(hs.2 p.1 ?_).trans e,n,ne,nf,d⟩;intro q;rw [q,hoc] at e;have q':oc=p.2:=VF e;exact d w' (by rw [<-q'];exact Ss)
theorem t8 {M:aer}{E:Uk->Um->Prop}{Q:Unit->Um->Prop}(I:Inv X T9 σ H s) (hN:X.N.Nodup) (hi:X.N[i]?=some x) (hx:Loc X.env.scope x) (r:RelV v u)
 (h:∀s',Inv X T9 (σ.set i (some v)) H s'->Q () s') (hf:X.fn x=true\/X.env.scope.names.lookup x=some .local:=by first | exact .inl rfl | exact .inr rfl | assumption):UB M A (aes X.env x u) Q E s:=
 xK I hN hi hx r (λs' I' _=>h s' I') hf
theorem Inv.call' {s':Um}(I:Inv X T9 σ H s) (ho:s'.os=s.os) (u:Un (frs X.stack) ch H H' s.heap s'.heap) (hok:fX X.prog X.w H' s'.heap) (hg:aam s'.gens)
 (hch:∀b∈ch,(b∈X.ex\/X.s₀.heap.objs.size<=b)/\b≠X.env.locals/\(∀x c,X.env.cells.lookup x=some c->c≠b)/\∀p∈X.pn++T9,p.1≠b):Inv X T9 σ H' s':=by obtain ⟨h',g',d',t',o'⟩:=s';have e:o'=s.os:=ho;subst e;exact I.call (g':=g') (t':=t') (d':=d') u hok hg hch
end
abbrev XK:=Uk->Option UL->Hp->Prop
abbrev St:=List (Option V)
abbrev VK:=V->Hp->Prop
abbrev TE:=St->Hp->VK->Prop
abbrev TT:=St->Hp->(Bool->Hp->Prop)->Prop
abbrev TA:=St->Hp->(List V->Hp->Prop)->Prop
structure Ends where
 nx:St->Hp->Prop
 rt:VK
 bk:St->Hp->Prop:=λ_ _=>False
 ct:St->Hp->Prop:=λ_ _=>False
abbrev TS:=Ends->St->Hp->Prop
def EP (X:Cx) (T9:List (UL×Obj)) (σ:St) (Q:VK) (u:Uk) (s':Um):Prop:=∃v H',Inv X T9 σ H' s'/\RelV v u/\Q v H'
def TP (X:Cx) (T9:List (UL×Obj)) (σ:St) (Q:Bool->Hp->Prop) (b:Bool) (s':Um):Prop:=∃H',Inv X T9 σ H' s'/\Q b H'
def AP (X:Cx) (T9:List (UL×Obj)) (σ:St) (Q:List V->Hp->Prop) (us:List Uk) (s':Um):Prop:=∃vs H',Inv X T9 σ H' s'/\Vals vs us/\Q vs H'
noncomputable def SP (X:Cx) (T9:List (UL×Obj)) (D:Ends) (f:Flow) (s':Um):Prop:=
 match f with
 | .next=>∃σ' H',Inv X T9 σ' H' s'/\D.nx σ' H'
 | .brk=>∃σ' H',Inv X T9 σ' H' s'/\D.bk σ' H'
 | .cont=>∃σ' H',Inv X T9 σ' H' s'/\D.ct σ' H'
 | .ret u=>∃v σ' H',Inv X T9 σ' H' s'/\RelV v u/\D.rt v H'
noncomputable def PE (X:Cx) (e:U_) (t:TE):Prop:=
 ∀(T9:List (UL×Obj)) (s:Um) (σ:St) (H:Hp) (Q:VK),Inv X T9 σ H s->t σ H Q->UB (UO X.prog X.w) X.A (eval e X.env) (EP X T9 σ Q) X.xe s
noncomputable def PT (X:Cx) (e:U_) (t:TT):Prop:=
 ∀(T9:List (UL×Obj)) (s:Um) (σ:St) (H:Hp) (Q:Bool->Hp->Prop),Inv X T9 σ H s->t σ H Q->UB (UO X.prog X.w) X.A (abp e X.env (eval e X.env)) (TP X T9 σ Q) X.xe s
noncomputable def PW (X:Cx) (e:U_) (t:TT):Prop:=
 ∀(whole:Sem Uk) (T9:List (UL×Obj)) (s:Um) (σ:St) (H:Hp) (Q:Bool->Hp->Prop),Inv X T9 σ H s->t σ H Q->UB (UO X.prog X.w) X.A (abp e X.env whole) (TP X T9 σ Q) X.xe s
theorem PW.pt (h:PW X e t):PT X e t:=h _
noncomputable def PA (X:Cx) (es:List U_) (t:TA):Prop:=
 ∀(pos:Pos) (T9:List (UL×Obj)) (s:Um) (σ:St) (H:Hp) (Q:List V->Hp->Prop),Inv X T9 σ H s->t σ H Q->UB (UO X.prog X.w) X.A (spliced (Wk pos (Ux es X.env))) (AP X T9 σ Q) X.xe s
noncomputable def PS (X:Cx) (st:Xg) (t:TS):Prop:=
 ∀(T9:List (UL×Obj)) (s:Um) (σ:St) (H:Hp) (D:Ends),Inv X T9 σ H s->t D σ H->UB (UO X.prog X.w) X.A (exec st X.env) (SP X T9 D) X.xe s
noncomputable def kq (X:Cx) (st:List Xg) (t:TS):Prop:=
 ∀(T9:List (UL×Obj)) (s:Um) (σ:St) (H:Hp) (D:Ends),Inv X T9 σ H s->t D σ H->UB (UO X.prog X.w) X.A (execs st X.env) (SP X T9 D) X.xe s
theorem bM {α:Type}{t:Sem α}{Q Q':α->Um->Prop}{M:aer}{A:U8}{E:Uk->Um->Prop}{s:Um}(h:UB M A t Q E s) (hQ:∀a s,Q a s->Q' a s):UB M A t Q' E s:=Vt h hQ λ_ _ x=>x
section
variable {X:Cx}
theorem bin {a b:U_}{ta tb:TE}(ha:PE X a ta) (hb:PE X b tb){T9:List (UL×Obj)}{s:Um}{σ:St}{H:Hp}{R:V->V->Hp->Prop}(I:Inv X T9 σ H s) (h:ta σ H λx H1=>tb σ H1 λy H2=>R x y H2)
  {α:Type}{Q:α->Um->Prop}{f:Uk->Uk->Sem α}
  (hf:∀v u s2 x y H2,Inv X T9 σ H2 s2->RelV x v->RelV y u->R x y H2->UB (UO X.prog X.w) X.A (f v u) Q X.xe s2):
  UB (UO X.prog X.w) X.A (eval a X.env) (λv s₁=>UB (UO X.prog X.w) X.A (eval b X.env) (λu s₂=>UB (UO X.prog X.w) X.A (f v u) Q X.xe s₂) X.xe s₁) X.xe s:=by refine bM (ha T9 s σ H _ I h) λv s1 ⟨x,H1,I1,r1,q1⟩=>?_;refine bM (hb T9 s1 σ H1 _ I1 q1) λu s2 ⟨y,H2,I2,r2,q2⟩=>?_;exact hf v u s2 x y H2 I2 r1 r2 q2
def NP (i:Nat):TE:=λσ H Q=>∃v,σ[i]?=some (some v)/\Q v H
def tC (v:V):TE:=λ_ H Q=>Q v H
theorem lH {pos:Pos}(hN:X.N[i]?=some x) (hv:rY X.env.scope x) (hd:(x == ("__debug__":Str))=false:=by decide) (hcd:(x == ("__classdict__":Str))=false:=by decide):PE X (.Name x pos) (NP i):=by
 intro T9 s σ H Q I h;obtain ⟨v,e,h⟩:=h;obtain ⟨m,hn,hl⟩:=I.loc;obtain ⟨u,r,l⟩:=hl i x v hN e hv;have fin:EP X T9 σ Q u s:=⟨v,H,I,r,h⟩;rcases l with ⟨hk,hm⟩ | ⟨hk,c,hc,hcell⟩
 ·exact adS (abh I.ok.kind hk hn hm fin) hd
 ·rcases hk with hk | hk
  ·exact adS (abv I.ok.kind hk hc hcell fin) hd
  ·exact adS (wpAny_loadName_free I.ok.kind hk hc hcell fin hcd) hd
theorem M7 {i j pos}:PE X (.Constant (.int i) j pos) (tC (.int i)):=λ_ _ _ H _ I h=>wpAny_Constant_int ⟨.int i,H,I.tok _,⟨_,rfl⟩,h⟩
theorem Ou {b j pos}:PE X (.Constant (.bool b) j pos) (tC (.bl b)):=λ_ _ _ H _ I h=>Constant_bool ⟨.bl b,H,I,rfl,h⟩
theorem M9 {j pos}:PE X (.Constant .none j pos) (tC .non):=λ_ _ _ H _ I h=>Constant_none ⟨.non,H,I,rfl,h⟩
theorem Nb {x j pos}:PE X (.Constant (.str x) j pos) (tC (.str x)):=λ_ _ _ H _ I h=>Calls.Constant_str ⟨.str x,H,I.tok _,⟨_,rfl⟩,h⟩
def Gl (X:Cx) (x:Str):Prop:=X.env.kindOf x=some .globalImplicit
theorem BB {E:Uk->Um->Prop}{H:Hp}{pos:Pos}{Q:Uk->Um->Prop}(I:Inv X T9 σ H s) (hg:Gl X x) (hm:X.mg x=some u) (h:Q u s)
 (hd:(x == ("__debug__":Str))=false:=by decide):UB (UO X.prog X.w) X.A (eval (.Name x pos) X.env) Q E s:=
 ZS I.ok.kind hg (Calls.loadGlobal_global (by rw [I.ok.glob];exact I.mod.glob.keeps I.bk) hm h) hd
theorem lF {E:Uk->Um->Prop}{H:Hp}{pos:Pos}{Q:Uk->Um->Prop}(I:Inv X T9 σ H s) (hg:Gl X x) (hm:X.mg x=none) (hv:Vx x=some u) (h:Q u s)
 (hn:x≠"__name__":=by decide) (hd:(x == ("__debug__":Str))=false:=by decide):UB (UO X.prog X.w) X.A (eval (.Name x pos) X.env) Q E s:=by obtain ⟨mb,h1,h2⟩:=I.mod.blt;exact ZS I.ok.kind hg (Calls.loadGlobal_builtin (by rw [I.ok.glob];exact I.mod.glob.keeps I.bk) hm (by rw [I.ok.blt];exact h1.keeps I.bk) ((h2 x hn).trans hv) h) hd
theorem BJ {pos:Pos}(hg:Gl X x) (hm:X.mg x=some u) (r:RelV v u) (hd:(x == ("__debug__":Str))=false:=by decide):PE X (.Name x pos) (tC v):=
 λ_ _ _ H _ I h=>BB I hg hm ⟨v,H,I,r,h⟩ hd
theorem Ky {pos:Pos}(hg:Gl X x) (hm:X.mg x=none) (hv:Vx x=some u) (r:RelV v u) (hn:x≠"__name__":=by decide) (hd:(x == ("__debug__":Str))=false:=by decide):PE X (.Name x pos) (tC v):=
 λ_ _ _ H _ I h=>lF I hg hm hv ⟨v,H,I,r,h⟩ hn hd
variable {a b:U_}{ta tb:TE}{pos:Pos}
noncomputable def PC (X:Cx) (op:CmpOp) (a b:U_) (t:TE):Prop:=
 ∀(T9:List (UL×Obj)) (s:Um) (σ:St) (H:Hp) (Q:VK),Inv X T9 σ H s->t σ H Q->
  UB (UO X.prog X.w) X.A (eval a X.env) (λv s₁=>UB (UO X.prog X.w) X.A (eval b X.env) (λu s₂=>UB (UO X.prog X.w) X.A (V5 op v u) (EP X T9 σ Q) X.xe s₂) X.xe s₁) X.xe s
theorem G0 (b:U_) (h:op≠.In) (h2:op≠.NotIn):VU op b=false:=by
 have e1:(op == afq)=false:=by cases op <;> first | rfl | exact absurd rfl h
 have e2:(op == aeF)=false:=by cases op <;> first | rfl | exact absurd rfl h2
 cases b <;> simp [VU,e1,e2]
def tB (t:TE):TT:=λσ H Q=>t σ H λx H1=>∃c,x=.bl c/\Q c H1
theorem Qx {op:CmpOp}{t:TE}(h:PC X op a b t) (h1:VU op b=false:=by first | exact G0 _ (by decide) (by decide) | rfl):PT X (.Compare a [op] [b] pos) (tB t):=by intro T9 s σ H Q I hw;refine aaS (bM (h T9 s σ H _ I hw) λv s1 h1=>bM h1 λu s2 h2=>bM h2 λc s3 ⟨x,H1,I1,r1,q1⟩=>?_) h1;obtain ⟨d,rfl,q⟩:=q1;cases r1;exact VV ⟨H1,I1,q⟩
theorem Nn {e:U_}{t:TE}(h:PE X e t) (he:∀whole,abp e X.env whole=(do let v <-whole;X3 e.pos;holding [v] (truthy v)):=by intro _;rfl):PT X e (tB t):=by intro T9 s σ H Q I hw;refine isTrue_plain (bM (h T9 s σ H _ I hw) λv s1 ⟨x,H1,I1,r1,q1⟩=>?_) (he _);obtain ⟨d,rfl,q⟩:=q1;cases r1;exact VV ⟨H1,I1,q⟩
variable {tA tB':TT}{rest:List U_}
def Qa (t u:TT):TT:=λσ H Q=>t σ H λc H1=>if c=true then u σ H1 Q else Q false H1
def QE (t u:TT):TT:=λσ H Q=>t σ H λc H1=>if c=true then Q true H1 else u σ H1 Q
def Qh (t:TT):TT:=λσ H Q=>t σ H λc H1=>Q (!c) H1
theorem KQ (ha:PT X a tA):PW X (.BoolOp .And [a] pos) tA:=by
 intro wh T9 s σ H Q I h;refine isTrue_and (bM (ha T9 s σ H Q I h) λc s1 e=>?_);cases c with
 | true=>exact isTrue_and_nil e
 | false=>exact e
theorem Nq (ha:PT X a tA):PW X (.BoolOp .Or [a] pos) tA:=by
 intro wh T9 s σ H Q I h;refine isTrue_or (bM (ha T9 s σ H Q I h) λc s1 e=>?_);cases c with
 | false=>exact isTrue_or_nil e
 | true=>exact e
theorem Np (ha:PT X a tA) (hb:PW X (.BoolOp .And (b::rest) pos) tB'):PW X (.BoolOp .And (a::b::rest) pos) (Qa tA tB'):=by
 intro wh T9 s σ H Q I h;refine isTrue_and (bM (ha T9 s σ H _ I h) λc s1 ⟨H1,I1,q1⟩=>?_);cases c with
 | true=>exact hb wh T9 s1 σ H1 Q I1 q1
 | false=>exact ⟨H1,I1,q1⟩
theorem OC (ha:PT X a tA) (hb:PW X (.BoolOp .Or (b::rest) pos) tB'):PW X (.BoolOp .Or (a::b::rest) pos) (QE tA tB'):=by
 intro wh T9 s σ H Q I h;refine isTrue_or (bM (ha T9 s σ H _ I h) λc s1 ⟨H1,I1,q1⟩=>?_);cases c with
 | true=>exact ⟨H1,I1,q1⟩
 | false=>exact hb wh T9 s1 σ H1 Q I1 q1
theorem Nm (ha:PT X a tA):PT X (.UnaryOp .Not a pos) (Qh tA):=by intro T9 s σ H Q I h;exact isTrue_not (ha T9 s σ H (λc H1=>Q (!c) H1) I h)
def OO (ta tb:TE):TE:=λσ H Q=>ta σ H λx H1=>∃c,x=.bl c/\if c=true then tb σ H1 Q else Q (.bl false) H1
def Qi (ta tb:TE):TE:=λσ H Q=>ta σ H λx H1=>∃c,x=.bl c/\if c=true then Q (.bl true) H1 else tb σ H1 Q
def OT (ta:TE):TE:=λσ H Q=>ta σ H λx H1=>∃c,x=.bl c/\Q (.bl (!c)) H1
theorem Na {op}{t:TE}(h:PE X a t):PE X (.BoolOp op [a] pos) t:=λT9 s σ H Q I hw=>BoolOp_one (h T9 s σ H Q I hw)
theorem M6 (ha:PE X a ta) (hb:PE X (.BoolOp .And (b::rest) pos) tb):PE X (.BoolOp .And (a::b::rest) pos) (OO ta tb):=by
 intro T9 s σ H Q I h;refine BoolOp_and (bM (ha T9 s σ H _ I h) λv s1 ⟨x,H1,I1,r1,q1⟩=>?_);obtain ⟨c,rfl,q1⟩:=q1;cases r1;refine VV ?_;cases c with
 | true=>exact hb T9 s1 σ H1 Q I1 q1
 | false=>exact ⟨.bl false,H1,I1,rfl,q1⟩
theorem Ox (ha:PE X a ta) (hb:PE X (.BoolOp .Or (b::rest) pos) tb):PE X (.BoolOp .Or (a::b::rest) pos) (Qi ta tb):=by
 intro T9 s σ H Q I h;refine BoolOp_or (bM (ha T9 s σ H _ I h) λv s1 ⟨x,H1,I1,r1,q1⟩=>?_);obtain ⟨c,rfl,q1⟩:=q1;cases r1;refine VV ?_;cases c with
 | false=>exact hb T9 s1 σ H1 Q I1 q1
 | true=>exact ⟨.bl true,H1,I1,rfl,q1⟩
theorem M_ (ha:PE X a ta):PE X (.UnaryOp .Not a pos) (OT ta):=by intro T9 s σ H Q I h;refine UnaryOp_ (bM (ha T9 s σ H _ I h) λv s1 ⟨x,H1,I1,r1,q1⟩=>?_);obtain ⟨c,rfl,q1⟩:=q1;cases r1;exact not_of (VV ⟨.bl (!c),H1,I1,rfl,q1⟩)
end
noncomputable def cj (K:Ui) (H:Hp) (a:UL) (xs:List V):Prop:=
 Rd H a (.lst xs)\/
  ∃(o:Obj) (its:Array Uk) (n:Nat),K.lookup a=some o/\o.cls=.type "list"/\o.dict=none/\o.data=.seq its n/\its.size<=sizeLine/\Vals xs its.toList
noncomputable def cY (K:Ui) (H:Hp) (a:UL) (xs:List V):Prop:=
 Rd H a (.tup xs)\/
  ∃(o:Obj) (its:Array Uk) (n:Nat),K.lookup a=some o/\o.cls=.type "tuple"/\o.data=.seq its n/\its.size<=sizeLine/\Vals xs its.toList
noncomputable def Py:Uk->Option V
 | .none=>some .non
 | .bool b=>some (.bl b)
 | .int i _=>some (.int i)
 | .str x _=>some (.str x)
 | .bytes b _=>some (.byt b)
 | .float b _=>some (.flt b)
 | .ref a=>some (.ref a)
 | .type n=>some (.ty n)
 | _=>none
theorem RelV.abs (r:RelV x u):Py u=some x:=by
 cases x with
 | non=>cases r;rfl
 | bl _=>cases r;rfl
 | int _=>obtain ⟨t,rfl⟩:=r;rfl
 | str _=>obtain ⟨t,rfl⟩:=r;rfl
 | byt _=>obtain ⟨t,rfl⟩:=r;rfl
 | flt _=>obtain ⟨t,rfl⟩:=r;rfl
 | ref _=>cases r;rfl
 | ty _=>cases r;rfl
theorem RelV.inj (r:RelV x u) (q:RelV y u):x=y:=VF (r.abs.symm.trans q.abs)
theorem Vals.inj:∀{xs ys:List V}{us:List Uk},Vals xs us->Vals ys us->xs=ys
 | _,_,_,.nil,.nil=>rfl
 | _,_,_,.cons r t,.cons r' t'=>by rw [r.inj r',Vals.inj t t']
section
variable {X:Cx}{T9:List (UL×Obj)}{σ:St}{H:Hp}{s:Um}{a:UL}{xs ys:List V}
theorem cj.of {K:Ui}(h:H a=some (.lst xs)):cj K H a xs:=.inl (.inl h)
theorem Inv.list (I:Inv X T9 σ H s) (h:cj X.K H a xs):∃its:List Uk,Vals xs its/\PlainL s.heap a its.toArray/\xs.length<=sizeLine:=by
 rcases h with h | ⟨o,its,n,hk,hc,hd,hs,hz,r⟩
 ·obtain ⟨z,its,n,r,e⟩:=h.ok I.hok;exact ⟨its,r,⟨_,n,e,rfl,rfl,rfl⟩,z⟩
 ·refine ⟨its.toList,r,⟨o,n,I.kIn a o hk,hc,hd,by simpa using hs⟩,?_⟩;have e:=r.length;simp only [UJ] at e;omega
theorem Inv.tuple (I:Inv X T9 σ H s) (h:cY X.K H a xs):∃its:List Uk,Vals xs its/\aeq s.heap a its.toArray/\xs.length<=sizeLine:=by
 rcases h with h | ⟨o,its,n,hk,hc,hs,hz,r⟩
 ·obtain ⟨z,its,r,p⟩:=h.ok I.hok;exact ⟨its,r,p,z⟩
 ·refine ⟨its.toList,r,⟨o,I.kIn a o hk,hc,n,by simpa using hs⟩,?_⟩;have e:=r.length;simp only [UJ] at e;omega
theorem Inv.list_inj (I:Inv X T9 σ H s) (h:cj X.K H a xs) (h':cj X.K H a ys):xs=ys:=by
 obtain ⟨its,r,⟨o,n,e,_,_,d⟩,_⟩:=I.list h;obtain ⟨its',r',⟨o',n',e',_,_,d'⟩,_⟩:=I.list h';rw [e] at e';cases e';rw [d] at d';injection d' with d1 _
 have:its=its':=by simpa using congrArg aaT d1
 subst this;exact r.inj r'
theorem Inv.tuple_inj (I:Inv X T9 σ H s) (h:cY X.K H a xs) (h':cY X.K H a ys):xs=ys:=by
 obtain ⟨its,r,⟨o,e,_,n,d⟩,_⟩:=I.tuple h;obtain ⟨its',r',⟨o',e',_,n',d'⟩,_⟩:=I.tuple h';rw [e] at e';cases e';rw [d] at d';injection d' with d1 _
 have:its=its':=by simpa using congrArg aaT d1
 subst this;exact r.inj r'
end
abbrev Cx.wish (X:Cx) (E:Uk->Um->Prop):Cx:={X with xe:=E}
abbrev Cx.nox (X:Cx):Cx:=X.wish λ_ _=>False
theorem Cx.Ok.wish {X:Cx}(ok:X.Ok) (E:Uk->Um->Prop):(X.wish E).Ok:=
 ⟨ok.mod,ok.kind,ok.glob,ok.blt,ok.above,ok.inj,ok.has,ok.cab,ok.hd,ok.frames,ok.stk,ok.exf,ok.bs,ok.bsz,ok.noex,ok.exfs,ok.funs,ok.frf⟩
theorem Cx.Ok.unwish {X:Cx}{E:Uk->Um->Prop}(ok:(X.wish E).Ok):X.Ok:=
 ⟨ok.mod,ok.kind,ok.glob,ok.blt,ok.above,ok.inj,ok.has,ok.cab,ok.hd,ok.frames,ok.stk,ok.exf,ok.bs,ok.bsz,ok.noex,ok.exfs,ok.funs,ok.frf⟩
section
variable {X:Cx}{T9:List (UL×Obj)}{σ:St}{H:Hp}{s:Um}{E:Uk->Um->Prop}
theorem Inv.wish (I:Inv X T9 σ H s) (E:Uk->Um->Prop):Inv (X.wish E) T9 σ H s:=⟨I.ok.wish E,I.os,I.bare,I.base,I.loc,I.cell,I.free,I.freeC,I.pin,I.hok,I.len⟩
theorem Inv.unwish (I:Inv (X.wish E) T9 σ H s):Inv X T9 σ H s:=⟨I.ok.unwish,I.os,I.bare,I.base,I.loc,I.cell,I.free,I.freeC,I.pin,I.hok,I.len⟩
theorem SP.unwish {D:Ends}(h:SP (X.wish E) T9 D f s'):SP X T9 D f s':=by
 cases f with
 | next=>obtain ⟨σ',H',I,q⟩:=h;exact ⟨σ',H',I.unwish,q⟩
 | brk=>obtain ⟨σ',H',I,q⟩:=h;exact ⟨σ',H',I.unwish,q⟩
 | cont=>obtain ⟨σ',H',I,q⟩:=h;exact ⟨σ',H',I.unwish,q⟩
 | ret u=>obtain ⟨v,σ',H',I,r,q⟩:=h;exact ⟨v,σ',H',I.unwish,r,q⟩
theorem kq.nox {st:List Xg}{t:TS}(h:kq X.nox st t):kq X st t:=λT9 s σ H D I hw=>
 Vt (h T9 s σ H D (I.wish _) hw) (λ_ _ q=>q.unwish) λ_ _ z=>Ye z
end
section
variable {X:Cx}{st:Xg}{rest:List Xg}{t u:TS}{e:U_}{te:TE}{pos:Pos}
def OS:TS:=λD σ H=>D.nx σ H
def Qk (t u:TS):TS:=λD σ H=>t {D with nx:=u D} σ H
theorem KJ:kq X [] OS:=λ_ _ σ H _ I h=>ZD ⟨σ,H,I,h⟩
theorem Ho (h1:PS X st t) (h2:kq X rest u):kq X (st::rest) (Qk t u):=by
 intro T9 s σ H D I h;refine acN (bM (h1 T9 s σ H {D with nx:=u D} I h) λf s1 q=>?_);cases f with
 | next=>
  obtain ⟨σ',H',I',q⟩:=q;exact h2 T9 s1 σ' H' D I' q
 | ret v=>exact q
 | brk=>exact q
 | cont=>exact q
theorem KL (h1:PS X st t):kq X [st] t:=by
 intro T9 s σ H D I h;refine acN (bM (h1 T9 s σ H D I h) λf s1 q=>?_);cases f with
 | next=>exact ZD q
 | ret v=>exact q
 | brk=>exact q
 | cont=>exact q
theorem Inv.quiet {H:Hp}(I:Inv X T9 σ H s):interactive X.env=false:=by simp [interactive,I.ok.kind]
def OQ (te:TE):TS:=λD σ H=>te σ H λ_ H1=>D.nx σ H1
theorem rq (he:PE X e te) (hs:ZE e none pos.line X.env=pure false:=by rfl):PS X (.Expr e pos) (OQ te):=by intro T9 s σ H D I h;exact wpAny_Expr_any (bM (he T9 s σ H _ I h) λv s1 ⟨x,H1,I1,r1,q1⟩=>⟨σ,H1,I1,q1⟩) I.quiet hs
def Qj (te:TE):TS:=λD σ H=>te σ H D.rt
theorem Nk (he:PE X e te):PS X (.Return (some e) pos) (Qj te):=by intro T9 s σ H D I h;exact wpAny_Return_some (bM (he T9 s σ H _ I h) λv s1 ⟨x,H1,I1,r1,q1⟩=>⟨x,σ,H1,I1,r1,q1⟩)
def Qe (c:TT) (t u:TS):TS:=λD σ H=>c σ H λb H1=>if b=true then t D σ H1 else u D σ H1
theorem OB {c:U_}{a b:List Xg}{tc:TT}(hc:PT X c tc) (ha:kq X a t) (hb:kq X b u):PS X (.If c a b pos) (Qe tc t u):=by
 intro T9 s σ H D I h;refine wpAny_If (bM (hc T9 s σ H _ I h) λd s1 ⟨H1,I1,q1⟩=>?_);cases d with
 | true=>exact ha T9 s1 σ H1 D I1 q1
 | false=>exact hb T9 s1 σ H1 D I1 q1
end
abbrev TG:=V->St->Hp->(St->Hp->Prop)->Prop
abbrev wF:=List V->St->Hp->(St->Hp->Prop)->Prop
noncomputable def PG (X:Cx) (T_:U_) (t:TG):Prop:=
 ∀(T9:List (UL×Obj)) (s:Um) (σ:St) (H:Hp) (v:V) (u:Uk) (Q:St->Hp->Prop),Inv X T9 σ H s->RelV v u->t v σ H Q->
  UB (UO X.prog X.w) X.A (assign T_ X.env u) (λ_ s'=>∃σ' H',Inv X T9 σ' H' s'/\Q σ' H') X.xe s
noncomputable def yK (X:Cx) (ts:List U_) (t:wF):Prop:=
 ∀(T9:List (UL×Obj)) (s:Um) (σ:St) (H:Hp) (vs:List V) (us:List Uk) (Q:St->Hp->Prop),Inv X T9 σ H s->Vals vs us->t vs σ H Q->
  UB (UO X.prog X.w) X.A (assignInOrder ((Xo ts X.env).map (·.2)) us) (λ_ s'=>∃σ' H',Inv X T9 σ' H' s'/\Q σ' H') X.xe s
abbrev Cj:=V->V->V->Hp->(Hp->Prop)->Prop
noncomputable def LB (X:Cx) (t:Cj):Prop:=
 ∀(T9:List (UL×Obj)) (s:Um) (σ:St) (H:Hp) (o i v:V) (ov iv u:Uk) (Q:Hp->Prop),Inv X T9 σ H s->RelV o ov->RelV i iv->RelV v u->t o i v H Q->
  UB (UO X.prog X.w) X.A (setItem ov iv u) (λ_ s'=>∃H',Inv X T9 σ H' s'/\Q H') X.xe s
abbrev LD:=V->V->Hp->VK->Prop
noncomputable def Qs (X:Cx) (op:ae1) (t:LD):Prop:=
 ∀(T9:List (UL×Obj)) (s:Um) (σ:St) (H:Hp) (x y:V) (v u:Uk) (Q:VK),Inv X T9 σ H s->RelV x v->RelV y u->t x y H Q->
  UB (UO X.prog X.w) X.A (aaU op v u) (EP X T9 σ Q) X.xe s
section
variable {X:Cx}{pos:Pos}
def IG (i:Nat):TG:=λv σ H Q=>Q (σ.set i (some v)) H
theorem KA (hN:X.N.Nodup) (hi:X.N[i]?=some x) (hx:Loc X.env.scope x) (hf:X.fn x=true\/X.env.scope.names.lookup x=some .local:=by first | exact .inl rfl | exact .inr rfl | assumption):PG X (.Name x pos) (IG i):=by intro T9 s σ H v u Q I r h;exact wpAny_assign_Name (t8 I hN hi hx r (λs' I'=>⟨_,H,I',h⟩) hf)
def aC:wF:=λvs σ H Q=>vs=[]/\Q σ H
def ao (t:TG) (u:wF):wF:=λvs σ H Q=>∃v r,vs=v::r/\t v σ H λσ' H'=>u r σ' H' Q
theorem KC:yK X [] aC:=by intro T9 s σ H vs us Q I r h;obtain ⟨e,h⟩:=h;subst e;cases r;exact assignInOrder_nil ⟨σ,H,I,h⟩
theorem Hi {e:U_}{es:List U_}{t:TG}{u:wF}(h1:PG X e t) (h2:yK X es u)
  (hs:(Xo (e::es) X.env).map (·.2)=assign e X.env::(Xo es X.env).map (·.2):=by rfl):yK X (e::es) (ao t u):=by
 intro T9 s σ H vs us Q I r h;obtain ⟨v,vr,e1,h⟩:=h;subst e1;cases r with
 | cons r rr=>
  rw [hs];refine assignInOrder_cons (bM (h1 T9 s σ H _ _ _ I r h) λ_ s1 ⟨σ1,H1,I1,q1⟩=>?_);exact h2 T9 s1 σ1 H1 _ _ Q I1 rr q1
def bB (K:Ui) (n:Nat) (t:wF):TG:=λv σ H Q=>∃a xs,v=.ref a/\cY K H a xs/\xs.length=n/\t xs σ H Q
theorem Nf (hc:X.calm=true) (h:yK X es t)
 (hn:(Xo es X.env).length=n:=by rfl) (hst:(Xo es X.env).findIdx? (·.1)=none:=by rfl):PG X (.Tuple es k pos) (bB X.K n t):=by intro T9 s σ H v u Q I r hw;obtain ⟨a,xs,e1,hq,hl,hw⟩:=hw;subst e1;cases r;obtain ⟨its,rv,ht,hz⟩:=I.tuple hq;refine assign_Tuple_tuple (I.ok.hd hc) ht (by simp [hn,<-hl,rv.length]) hst λh' hx=>?_;have I1:Inv X T9 σ H {s with heap:=h'}:=I.kept (t':=s.toks) λb o e=>hx b o (UY (UC e)) e;exact h T9 _ σ H xs _ Q I1 (by simpa using rv) hw
def PM (to ti:TE) (t:Cj):TG:=λv σ H Q=>to σ H λo H1=>ti σ H1 λi H2=>t o i v H2 λH3=>Q σ H3
theorem Nd {o i:U_}{to ti:TE}{t:Cj}(ho:PE X o to) (hi:PE X i ti) (hs:LB X t)
  (ha:∀v,assign (.Subscript o i pos) X.env v=(do
   let ov <-holding [v] (eval o X.env)
   let iv <-holding [v,ov] (eval i X.env)
   X3 pos
   holding [v,ov,iv] (setItem ov iv v)
   release [v,ov,iv] []):=by intro _;rfl):PG X (.Subscript o i pos) (PM to ti t):=by intro T9 s σ H v u Q I r h;rw [ha];refine Uh (U7 (bM (ho T9 s σ H _ I h) λov s1 ⟨x,H1,I1,r1,q1⟩=>?_));refine Uh (U7 (bM (hi T9 s1 σ H1 _ I1 q1) λiv s2 ⟨y,H2,I2,r2,q2⟩=>?_));refine Uh (XC (Uh (U7 (bM (hs T9 s2 σ H2 x y v ov iv u _ I2 r1 r2 r q2) λ_ s3 ⟨H3,I3,q3⟩=>?_))));exact wpAny_release ⟨σ,H3,I3,q3⟩
def HR (te:TE) (g:TG):TS:=λD σ H=>te σ H λx H1=>g x σ H1 D.nx
theorem Fe {tg e:U_}{te:TE}{g:TG}(he:PE X e te) (hg:PG X tg g) (hs:aan [tg] e pos.line X.env=pure false:=by rfl) (hw:abJ [tg] e X.env=pure none:=by rfl)
  (h1:(Xo [tg] X.env).map (·.2)=[assign tg X.env]:=by rfl):PS X (.Assign [tg] e pos) (HR te g):=by intro T9 s σ H D I h;refine wpAny_Assign_stores (bM (he T9 s σ H _ I h) λv s1 ⟨x,H1,I1,r1,q1⟩=>?_) hs hw;rw [h1];exact bM (hg T9 s1 σ H1 x v _ I1 r1 q1) λ_ s2 q=>q
theorem Nl {i:Nat}{x:Str}{e:U_}{te:TE}{pos':Pos}(hN:X.N.Nodup) (hi:X.N[i]?=some x) (hx:Loc X.env.scope x) (he:PE X e te) (hs:ZE e (some (.Name x pos')) pos.line X.env=pure false:=by rfl) (hf:X.fn x=true\/X.env.scope.names.lookup x=some .local:=by first | exact .inl rfl | exact .inr rfl | assumption):
  PS X (.Assign [.Name x pos'] e pos) (HR te (IG i)):=by intro T9 s σ H D I h;refine wpAny_Assign_Name (bM (he T9 s σ H _ I h) λv s1 ⟨y,H1,I1,r1,q1⟩=>?_) hs;exact t8 I1 hN hi hx r1 (λs2 I2=>⟨_,H1,I2,q1⟩) hf
def Qc (i:Nat) (te:TE) (ti:LD):TS:=λD σ H=>∃x,σ[i]?=some (some x)/\te σ H λy H1=>ti x y H1 λz H2=>D.nx (σ.set i (some z)) H2
theorem Ni {i:Nat}{x:Str}{e:U_}{te:TE}{op:ae1}{ti:LD}{pos':Pos}(hN:X.N.Nodup) (hi:X.N[i]?=some x) (hx:Loc X.env.scope x) (he:PE X e te) (ho:Qs X op ti) (hf:X.fn x=true\/X.env.scope.names.lookup x=some .local:=by first | exact .inl rfl | exact .inr rfl | assumption):
  PS X (.AugAssign (.Name x pos') op e pos) (Qc i te ti):=by
 intro T9 s σ H D I h;obtain ⟨v,e1,h⟩:=h;obtain ⟨m,hn,hl⟩:=I.loc;have vis:rY X.env.scope x:=by rcases hx with k | k;exact .inl k;exact .inr (.inl k)
 obtain ⟨u,r,l⟩:=hl i x v hi e1 vis;refine wpAny_AugAssign_Name ?_;have go:UB (UO X.prog X.w) X.A (eval e X.env) (λw s₂=>UB (UO X.prog X.w) X.A (aaU op u w) (λr s₃=>UB (UO X.prog X.w) X.A (aes X.env x r) (λ_=>SP X T9 D .next) X.xe s₃) X.xe s₂) X.xe s:=by refine bM (he T9 s σ H _ I h) λw s1 ⟨y,H1,I1,r1,q1⟩=>?_;refine bM (ho T9 s1 σ H1 v y u w _ I1 r r1 q1) λz s2 ⟨zv,H2,I2,r2,q2⟩=>?_;exact t8 I2 hN hi hx r2 (λs3 I3=>⟨_,H2,I3,q2⟩) hf
 rcases l with ⟨hk,hm⟩ | ⟨hk,c,hc,hcell⟩
 ·exact abh I.ok.kind hk hn hm go
 ·rcases hk with hk | hk
  ·exact abv I.ok.kind hk hc hcell go
  ·rcases hx with k | k
   ·have:X.env.scope.names.lookup x=some .free:=hk;rw [k] at this;cases this
   ·have:X.env.scope.names.lookup x=some .free:=hk;rw [k] at this;cases this
noncomputable def NQ (c:TT) (tb:TS):TS:=λD σ H=>∃W:Nat->St->Hp->Prop,(∃m,W m σ H)/\∀m σ H,W m σ H->
 c σ H λb H1=>if b=true then ∃N:St->Hp->Prop,(∀σ' H',N σ' H'->∃m',m' < m/\W m' σ' H')/\tb {D with nx:=N,ct:=N,bk:=D.nx} σ H1 else D.nx σ H1
theorem Hl {c:U_}{body:List Xg}{tc:TT}{tb:TS}(hp:ac5 (UO X.prog X.w) X.A X.env X.xe) (hc:PT X c tc) (hb:kq X body tb):PS X (.While c body [] pos) (NQ tc tb):=by
 intro T9 s σ H D I h;obtain ⟨W,⟨m0,w0⟩,turn⟩:=h;refine wpAny_While (codeAny_whileLoop (λn s'=>∃σ' H',Inv X T9 σ' H' s'/\W n σ' H') ?_ m0 ⟨σ,H,I,w0⟩);rintro n s1 ⟨σ1,H1,I1,w1⟩;refine Xp hp (bM (hc T9 s1 σ1 H1 _ I1 (turn n σ1 H1 w1)) λb s2 ⟨H2,I2,q2⟩=>?_);cases b with
 | true=>
  obtain ⟨N,hN,q2⟩:=q2;rw [if_pos rfl];refine Xp hp (bM (hb T9 s2 σ1 H2 _ I2 q2) λf s3 q3=>?_);cases f with
  | next=>
   obtain ⟨σ3,H3,I3,n3⟩:=q3;obtain ⟨m',hm,w3⟩:=hN σ3 H3 n3;exact ⟨m',hm,σ3,H3,I3,w3⟩
  | cont=>
   obtain ⟨σ3,H3,I3,n3⟩:=q3;obtain ⟨m',hm,w3⟩:=hN σ3 H3 n3;exact ⟨m',hm,σ3,H3,I3,w3⟩
  | brk=>exact q3
  | ret v=>exact q3
 | false=>
  rw [if_neg UZ];exact ZD ⟨σ1,H2,I2,q2⟩
end
structure It where
 go:Nat->Hp->Prop
 yld:Nat->Hp->V->Hp->Prop
 stop:Nat->Hp->Prop
noncomputable def iR (X:Cx) (T9:List (UL×Obj)) (H:Hp) (b:UL):Prop:=
 H b=none/\b≠X.env.locals/\b∉X.fs/\(b∈X.ex\/X.s₀.heap.objs.size<=b)/\(∀x c,X.env.cells.lookup x=some c->c≠b)/\∀p∈X.pn++T9,p.1≠b
theorem Inv.fpOk {H H':Hp}{s:Um}(I:Inv X T9 σ H s) (hb:s.heap.objs.size<=b) (hn:H' b=none):iR X T9 H' b:=by
 refine ⟨hn,WA (UQ I.lt hb),I.nofs hb,.inr (U1 I.sz hb),λx c e z=>?_,λp hp z=>?_⟩
 ·obtain ⟨v,q⟩:=I.cell x c e;exact absurd (UQ q.lt (by rw [z];exact hb)) (Wa _)
 ·exact absurd (UQ (UC (I.pin p hp).1) (by rw [z];exact hb)) (Wa _)
structure Turn (P:UG) (w:U5) (K:Ui) (tg:U_) (J:It) (fp:List UL) (it:UL) (tn:Nat->VB->Prop):Prop where
 mem:it∈fp
 obj:∀i h,tn i h->∀b∈fp,∃o,h.get? b=some o/\∀v,o.data≠.cell v
 keep:∀i h h',tn i h->(∀b∈fp,∀o,h.get? b=some o->h'.get? b=some o)->tn i h'
 item:∀(X:Cx),X.prog=P->X.w=w->X.K=K->X.calm=true->∀(i:Nat) (T9:List (UL×Obj)) (s:Um) (σ:St) (H:Hp) (E:Uk->Um->Prop),Inv X T9 σ H s->(∀b∈fp,iR X T9 H b)->tn i s.heap->J.go i H->
  UB (UO P w) X.A (Xy (.ref it)) (λr s1=>∃u,r=some u/\
   UB (UO P w) X.A (WX tg (.ref it) u) (λ_ s2=>∃x H',Inv X T9 σ H' s2/\RelV x u/\J.yld i H x H'/\tn (i + 1) s2.heap/\∀b∈fp,H' b=none) E s1) E s
 done:∀(X:Cx),X.prog=P->X.w=w->X.K=K->X.calm=true->∀(i:Nat) (T9:List (UL×Obj)) (s:Um) (σ:St) (H:Hp) (E:Uk->Um->Prop),Inv X T9 σ H s->(∀b∈fp,iR X T9 H b)->tn i s.heap->J.stop i H->
  UB (UO P w) X.A (Xy (.ref it)) (λr s1=>r=none/\Inv X T9 σ H s1) E s
 self:∀(A:U8) (i:Nat) (s:Um) (Q:Uk->Um->Prop) (E:Uk->Um->Prop),tn i s.heap->Q (.ref it) s->UB (UO P w) A (ZF (.ref it)) Q E s
abbrev TI:=St->Hp->(It->Hp->Prop)->Prop
noncomputable def O6 (X:Cx) (T9:List (UL×Obj)) (σ:St) (tg:U_) (R:It->Hp->Prop) (itv:Uk) (s2:Um):Prop:=
 ∃(it:UL) (fp:List UL) (tn:Nat->VB->Prop) (J:It) (H':Hp),itv=.ref it/\Inv X T9 σ H' s2/\Turn X.prog X.w X.K tg J fp it tn/\tn 0 s2.heap/\(∀b∈fp,iR X T9 H' b)/\R J H'
noncomputable def PI (X:Cx) (tg Ua:U_) (wi:TI):Prop:=
 ∀(T9:List (UL×Obj)) (s:Um) (σ:St) (H:Hp) (R:It->Hp->Prop),Inv X T9 σ H s->wi σ H R->
  UB (UO X.prog X.w) X.A (eval Ua X.env) (λv s1=>UB (UO X.prog X.w) X.A (ZF v) (O6 X T9 σ tg R) X.xe s1) X.xe s
theorem yj {M:aer}{E:Uk->Um->Prop}{s:Um}{o:Obj}{Q:Unit->Um->Prop}(ho:s.heap.get? it=some o) (hc:o.cls=.type n) (hd:o.data=.fields vs)
 (hn:["enumerate","zip","dict_itemiterator","dict_reverseitemiterator","odict_iterator","itertools.zip_longest","itertools.pairwise"].contains n=false) (hQ:Q () s):UB M A (WX tg (.ref it) u) Q E s:=by
 unfold WX;cases tg <;> first
  | exact Uj hQ
  | (cases u <;> first
    | exact Uj hQ
    | (refine Uh (ab8 ho ?_);rw [hc,hd];show UB M A (if (["enumerate","zip","dict_itemiterator","dict_reverseitemiterator","odict_iterator","itertools.zip_longest","itertools.pairwise"].contains n && vs[0]? == some (YZ _))=true then _ else _) Q E s;rw [if_neg (by intro h;rw [hn,Bool.false_and] at h;cases h)];exact Uj hQ))
noncomputable def Ie (K:Ui) (a:UL):It:=
 ⟨λi H=>∃xs x,cj K H a xs/\xs[i]?=some x,λi H x H'=>H'=H/\∀xs,cj K H a xs->xs[i]?=some x,λi H=>∃xs,cj K H a xs/\xs.length<=i⟩
noncomputable def Ih (K:Ui) (a:UL):It:=
 ⟨λi H=>∃xs x,cY K H a xs/\xs[i]?=some x,λi H x H'=>H'=H/\∀xs,cY K H a xs->xs[i]?=some x,λi H=>∃xs,cY K H a xs/\xs.length<=i⟩
def Ig (lo:Int) (n:Nat):It:=⟨λi _=>i < n,λi H x H'=>H'=H/\x=.int (lo + i),λi _=>n<=i⟩
theorem F0 {P:UG}{w:U5}{K:Ui}{tg:U_}(a it:UL):Turn P w K tg (Ie K a) [it] it (λi h=>h.IsListIter it a i) where
 mem:=by simp
 obj:=λi h st b hb=>by
  have e:b=it:=by simpa using hb
  subst e;obtain ⟨o,e,c,d⟩:=st;exact ⟨o,e,λv z=>by rw [d] at z;cases z⟩
 keep:=λi h h' st k=>st.at λo e=>k it (by simp) o e
 item:=by intro X hP hw hK hc i T9 s σ H E I hf st hg;subst hP hw hK;obtain ⟨xs,x,hq,hx⟩:=hg;obtain ⟨its,rv,p,hz⟩:=I.list hq;obtain ⟨u,hu,ru⟩:=rv.get hx;obtain ⟨f0,f1,f2,f3,f4,f5⟩:=hf it (by simp);refine wpAny_pyNext_list_item st p.isList (x:=u) (by simpa using hu) λh' st' sb=>?_;have I1:Inv X T9 σ H {s with heap:=h'}:=I.turned (t':=s.toks) (λb o hb e=>(sb.2 b hb).trans e) f0 f1 f3 f4 f5;obtain ⟨o,e,c,d⟩:=id st';exact ⟨u,rfl,yj (s:={s with heap:=h'}) e c d (by decide) ⟨x,H,I1,ru,⟨rfl,λys hy=>by rw [I.list_inj hy hq];exact hx⟩,st',λb hb=>(hf b hb).1⟩⟩
 done:=by intro X hP hw hK hc i T9 s σ H E I hf st hg;subst hP hw hK;obtain ⟨xs,hq,hx⟩:=hg;obtain ⟨its,rv,p,hz⟩:=I.list hq;obtain ⟨f0,f1,f2,f3,f4,f5⟩:=hf it (by simp);have hl:=rv.length;exact wpAny_pyNext_list_end (I.ok.hd hc) st p.isList (by simp;omega) λh' eb=>⟨rfl,I.turned (t':=s.toks) (λb o hb e=>eb b o hb e) f0 f1 f3 f4 f5⟩
 self:=λ_ _ _ _ _ st h=>wpAny_pyIter_listiter st h
theorem Dz {P:UG}{w:U5}{K:Ui}{tg:U_}(a it:UL):Turn P w K tg (Ih K a) [it] it (λi h=>h.IsTupleIter it a i) where
 mem:=by simp
 obj:=λi h st b hb=>by
  have e:b=it:=by simpa using hb
  subst e;obtain ⟨o,e,c,d⟩:=st;exact ⟨o,e,λv z=>by rw [d] at z;cases z⟩
 keep:=λi h h' st k=>st.at λo e=>k it (by simp) o e
 item:=by intro X hP hw hK hc i T9 s σ H E I hf st hg;subst hP hw hK;obtain ⟨xs,x,hq,hx⟩:=hg;obtain ⟨its,rv,p,hz⟩:=I.tuple hq;obtain ⟨u,hu,ru⟩:=rv.get hx;obtain ⟨f0,f1,f2,f3,f4,f5⟩:=hf it (by simp);refine wpAny_pyNext_tuple_item st (show s.heap.IsTuple a its.toArray from p) (x:=u) (by simpa using hu) λh' st' sb=>?_;have I1:Inv X T9 σ H {s with heap:=h'}:=I.turned (t':=s.toks) (λb o hb e=>(sb.2 b hb).trans e) f0 f1 f3 f4 f5;obtain ⟨o,e,c,d⟩:=id st';exact ⟨u,rfl,yj (s:={s with heap:=h'}) e c d (by decide) ⟨x,H,I1,ru,⟨rfl,λys hy=>by rw [I.tuple_inj hy hq];exact hx⟩,st',λb hb=>(hf b hb).1⟩⟩
 done:=by intro X hP hw hK hc i T9 s σ H E I hf st hg;subst hP hw hK;obtain ⟨xs,hq,hx⟩:=hg;obtain ⟨its,rv,p,hz⟩:=I.tuple hq;obtain ⟨f0,f1,f2,f3,f4,f5⟩:=hf it (by simp);have hl:=rv.length;exact wpAny_pyNext_tuple_end (I.ok.hd hc) st (show s.heap.IsTuple a its.toArray from p) (by simp;omega) λh' eb=>⟨rfl,I.turned (t':=s.toks) (λb o hb e=>eb b o hb e) f0 f1 f3 f4 f5⟩
 self:=λ_ _ _ _ _ st h=>wpAny_pyIter_tupleiter st h
theorem Dy {P:UG}{w:U5}{K:Ui}{tg:U_}(it:UL) (lo:Int) (n:Nat):Turn P w K tg (Ig lo n) [it] it (λi h=>WY h it (lo + (i:Nat) * 1) ((n:Int) - (i:Nat)) 1) where
 mem:=by simp
 obj:=λi h st b hb=>by
  have e:b=it:=by simpa using hb
  subst e;exact ⟨_,st,λv z=>by
   have z':aeG _=afl v:=z;cases z'⟩
 keep:=λi h h' st k=>k it (by simp) _ st
 item:=by intro X hP hw hK hc i T9 s σ H E I hf st hg;subst hP hw hK;obtain ⟨f0,f1,f2,f3,f4,f5⟩:=hf it (by simp);have W:=Walks.range (prog:=X.prog) (w:=X.w) (I.ok.hd hc) it lo 1 n;refine W.item i s _ _ hg st λv h' tk hv st' kk=>?_;obtain ⟨t,rfl⟩:=hv;have I1:Inv X T9 σ H {s with heap:=h',toks:=tk}:=I.turned (λb o hb e=>kk b o (by simpa using hb) e) f0 f1 f3 f4 f5;refine ⟨_,rfl,yj (s:={s with heap:=h',toks:=tk}) (n:="range_iterator") st' rfl rfl (by decide) ⟨.int (lo + i),H,I1,⟨t,?_⟩,⟨rfl,rfl⟩,st',λb hb=>(hf b hb).1⟩⟩;rw [Int.mul_one]
 done:=by intro X hP hw hK hc i T9 s σ H E I hf st hg;subst hP hw hK;obtain ⟨f0,f1,f2,f3,f4,f5⟩:=hf it (by simp);exact wpAny_pyNext_range_end (I.ok.hd hc) st (by have:n<=i:=hg;omega) λh' eb=>⟨rfl,I.turned (t':=s.toks) (λb o hb e=>eb b o hb e) f0 f1 f3 f4 f5⟩
 self:=λ_ _ _ _ _ st h=>wpAny_pyIter_rangeiter st h
section
variable {X:Cx}{tg:U_}
theorem HD {T9:List (UL×Obj)}{σ:St}{H:Hp}{s:Um}{R:It->Hp->Prop}{E:Uk->Um->Prop}{lo hi:Int}{t u v:Tok}{tk:Nat}(I:Inv X T9 σ H s) (h1:-(2 ^ 62)<=lo) (h2:lo < 2 ^ 62) (h3:-(2 ^ 62)<=hi) (h4:hi < 2 ^ 62)
  (q:R (Ig lo (hi - lo).toNat) H):UB (UO X.prog X.w) X.A (ZF (.ref s.heap.objs.size)) (O6 X T9 σ tg R) E {s with heap:=s.heap.push {cls:=.type "range",data:=.fields #[.int lo t,.int hi u,.int 1 v]},toks:=tk}:=by
 refine abK (IsRange.new ..) (aet h1 h2 h3 h4) ?_;have I1:Inv X T9 σ H {s with heap:=s.heap.push {cls:=.type "range",data:=.fields #[.int lo t,.int hi u,.int 1 v]},toks:=tk}:=I.kept λb o e=>Ul _ e;refine ⟨(s.heap.push {cls:=.type "range",data:=.fields #[.int lo t,.int hi u,.int 1 v]}).objs.size,[(s.heap.push {cls:=.type "range",data:=.fields #[.int lo t,.int hi u,.int 1 v]}).objs.size],_,_,H,rfl,
  I1.kept (t':=tk) λb o e=>Ul _ e,Dy _ lo (hi - lo).toNat,?_,λb hb=>?_,q⟩
 ·have e1:lo + ((0:Nat):Int) * 1=lo:=by simp
  have e2:(((hi - lo).toNat:Nat):Int) - ((0:Nat):Int)=Wm lo hi 1:=by rw [abL];split <;> omega
  show WY _ _ (lo + ((0:Nat):Int) * 1) ((((hi - lo).toNat:Nat):Int) - ((0:Nat):Int)) 1;rw [e1,e2];exact Us _ rfl
 ·have e:b=(s.heap.push {cls:=.type "range",data:=.fields #[.int lo t,.int hi u,.int 1 v]}).objs.size:=by simpa using hb
  subst e;exact I1.fpOk (Uw _) (I1.hok.fresh (Uw _))
def Of (ta:TA):TI:=λσ H R=>ta σ H λvs H1=>∃j:Int,vs=[.int j]/\-(2 ^ 62)<=j/\j < 2 ^ 62/\R (Ig 0 j.toNat) H1
theorem E_ {a:U_}{ta:TA}{p pos:Pos}(hg:Gl X "range") (hm:X.mg "range"=none) (ha:PA X [a] ta) (hs:Ux [a] X.env=[(false,eval a X.env)]:=by rfl):PI X tg (.Call (.Name "range" p) [a] [] pos) (Of ta):=by
 intro T9 s σ H R I h;refine Call_ (lF I hg hm adT (Wn (bM (ha pos T9 s σ H _ I h) λus s1 ⟨vs,H1,I1,r1,q1⟩=>?_) hs rfl));obtain ⟨j,e,q1,q2,q⟩:=q1;subst e;cases r1 with
 | cons r rr=>
  cases rr;obtain ⟨t,rfl⟩:=r;exact call_range_1 (HD I1 (by omega) (by omega) q1 q2 (by simpa using q))
noncomputable def Qd (wi:TI) (g:TG) (tb:TS):TS:=λD σ H=>wi σ H λJ H1=>∃W:Nat->Nat->St->Hp->Prop,(∃m,W 0 m σ H1)/\∀i m σ H,W i m σ H->
 (J.stop i H/\D.nx σ H)\/(J.go i H/\∃N:St->Hp->Prop,(∀σ' H',N σ' H'->∃m',m' < m/\W (i + 1) m' σ' H')/\∀x H',J.yld i H x H'->g x σ H' λσ2 H2=>tb {D with nx:=N,ct:=N,bk:=D.nx} σ2 H2)
def qz (fp:List UL) (h:VB):List (UL×Obj):=fp.filterMap λb=>(h.get? b).map λo=>(b,o)
theorem kK {h:VB}(hb:b∈fp) (e:h.get? b=some o):(b,o)∈qz fp h:=ZW.mpr ⟨b,hb,by rw [e];rfl⟩
theorem EV {h:VB}{p:UL×Obj}(hp:p∈qz fp h):p.1∈fp/\h.get? p.1=some p.2:=by
 obtain ⟨b,hb,e⟩:=ZW.mp hp;cases q:h.get? b with
 | none=>rw [q] at e;cases e
 | some o=>
  rw [q] at e;have e':(b,o)=p:=VF e;subst e';exact ⟨hb,q⟩
theorem Inv.pinned {H:Hp}{s:Um}(I:Inv X T9 σ H s) (hf:∀b∈fp,iR X T9 H b) (ho:∀b∈fp,∃o,s.heap.get? b=some o/\∀v,o.data≠.cell v):Inv X (T9++qz fp s.heap) σ H s:=
 I.pins_of λp hp=>(US.mp hp).elim (λz=>I.pin p (Vm _ z)) λz=>by obtain ⟨hb,e⟩:=EV z;obtain ⟨f0,f1,f2,_⟩:=hf p.1 hb;obtain ⟨o,e',d⟩:=ho p.1 hb;rw [e] at e';cases e';exact ⟨e,f0,f1,f2,d⟩
theorem Inv.unpinned {H:Hp}(I:Inv X (T9++pl) σ H s):Inv X T9 σ H s:=I.pins_of λp hp=>I.pin p (Vm _ (Xn _ hp))
theorem Nj {Ua:U_}{body:List Xg}{wi:TI}{g:TG}{tb:TS}{pos:Pos}(hp:ac5 (UO X.prog X.w) X.A X.env X.xe) (hc:X.calm=true) (hi:PI X tg Ua wi) (hg:PG X tg g) (hb:kq X body tb)
  (hs:∀x,VX Ua X.env x=pure x:=by intro _;rfl):PS X (.For tg Ua body [] pos) (Qd wi g tb):=by
 intro T9 s σ H D I h;refine wpAny_For (bM (hi T9 s σ H _ I h) λv s1 h1=>bM h1 λitv s2 h2=>?_) hs;obtain ⟨it,fp,tn,J,H2,e,I2,T,st2,f2,W,⟨m0,w0⟩,turn⟩:=h2;subst e;have stat:∀{H':Hp},(∀b∈fp,H' b=none)->∀b∈fp,iR X T9 H' b:=λhn b hb=>⟨hn b hb,(f2 b hb).2⟩;refine codeAny_forLoop_any (λn s'=>∃i σ' H',Inv X T9 σ' H' s'/\tn i s'.heap/\(∀b∈fp,H' b=none)/\W i n σ' H') ?_ m0 ⟨0,σ,H2,I2,st2,λb hb=>(f2 b hb).1,w0⟩;rintro n s3 ⟨i,σ3,H3,I3,st3,fr3,w3⟩;rcases turn i n σ3 H3 w3 with ⟨stop,qn⟩ | ⟨go,N,hN,step⟩
 ·refine Xp hp (bM (T.done X rfl rfl rfl hc i T9 s3 σ3 H3 X.xe I3 (stat fr3) st3 stop) λr s4 ⟨hr,I4⟩=>?_);subst hr;exact ZD ⟨σ3,H3,I4,qn⟩
 ·refine Xp hp (bM (T.item X rfl rfl rfl hc i T9 s3 σ3 H3 X.xe I3 (stat fr3) st3 go) λr s4 ⟨u,hr,h4⟩=>?_);subst hr;refine Xp hp (bM h4 λ_ s5 ⟨x,H5,I5,r5,y5,st5,fr5⟩=>?_);have I5':=I5.pinned (stat fr5) (T.obj _ _ st5);refine Xp hp (bM (hg _ s5 σ3 H5 x u _ I5' r5 (step x H5 y5)) λ_ s6 ⟨σ6,H6,I6,q6⟩=>?_);refine Xp hp (bM (hb _ s6 σ6 H6 _ I6 q6) λf s7 q7=>?_);have again:∀{σ7:St}{H7:Hp},Inv X (T9++qz fp s5.heap) σ7 H7 s7->N σ7 H7->∃m,m < n/\∃i σ' H',Inv X T9 σ' H' s7/\tn i s7.heap/\(∀b∈fp,H' b=none)/\W i m σ' H':=fun {σ7 H7} I7 n7=>by obtain ⟨m',hm,w7⟩:=hN σ7 H7 n7;refine ⟨m',hm,i + 1,σ7,H7,I7.unpinned,T.keep _ _ _ st5 λb hb o e=>(I7.pin (b,o) (Vm _ (Vm _ (kK hb e)))).1,λb hb=>?_,w7⟩;obtain ⟨o,e,d⟩:=T.obj _ _ st5 b hb;exact (I7.pin (b,o) (Vm _ (Vm _ (kK hb e)))).2.1
  cases f with
  | next=>obtain ⟨σ7,H7,I7,n7⟩:=q7;exact again I7 n7
  | cont=>obtain ⟨σ7,H7,I7,n7⟩:=q7;exact again I7 n7
  | brk=>obtain ⟨σ7,H7,I7,q7⟩:=q7;exact ⟨σ7,H7,I7.unpinned,q7⟩
  | ret v=>obtain ⟨x7,σ7,H7,I7,r7,q7⟩:=q7;exact ⟨x7,σ7,H7,I7.unpinned,r7,q7⟩
end
abbrev R2:=V->V->Hp->VK->Prop
noncomputable def c8 (X:Cx) (f:Uk->Uk->Sem Uk) (r:R2):Prop:=
 ∀(T9:List (UL×Obj)) (s:Um) (σ:St) (H:Hp) (x y:V) (v u:Uk) (Q:VK),Inv X T9 σ H s->RelV x v->RelV y u->r x y H Q->
  UB (UO X.prog X.w) X.A (f v u) (EP X T9 σ Q) X.xe s
noncomputable def LF (X:Cx) (f:Uk->Sem Uk) (r:V->Hp->VK->Prop):Prop:=
 ∀(T9:List (UL×Obj)) (s:Um) (σ:St) (H:Hp) (x:V) (v:Uk) (Q:VK),Inv X T9 σ H s->RelV x v->r x H Q->
  UB (UO X.prog X.w) X.A (f v) (EP X T9 σ Q) X.xe s
noncomputable def cL (X:Cx) (f:Uk) (r:List V->Hp->VK->Prop):Prop:=
 ∀(T9:List (UL×Obj)) (s:Um) (σ:St) (H:Hp) (xs:List V) (us:List Uk) (Q:VK),Inv X T9 σ H s->Vals xs us->r xs H Q->
  UB (UO X.prog X.w) X.A (call f us) (EP X T9 σ Q) X.xe s
noncomputable def Pw (X:Cx) (r:V->Hp->(Bool->Hp->Prop)->Prop):Prop:=
 ∀(T9:List (UL×Obj)) (s:Um) (σ:St) (H:Hp) (x:V) (v:Uk) (Q:Bool->Hp->Prop),Inv X T9 σ H s->RelV x v->r x H Q->
  UB (UO X.prog X.w) X.A (truthy v) (TP X T9 σ Q) X.xe s
def FP (r:R2) (ta tb:TE):TE:=λσ H Q=>ta σ H λx H1=>tb σ H1 λy H2=>r x y H2 Q
def QH (r:V->Hp->VK->Prop) (ta:TE):TE:=λσ H Q=>ta σ H λx H1=>r x H1 Q
def rI (C:Int->Int->Prop) (g:Int->Int->V):R2:=λx y H Q=>∃i j,x=.int i/\y=.int j/\C i j/\Q (g i j) H
def sI (g:Int->Int->V):R2:=λx y H Q=>∃i j,x=.int i/\y=.int j/\Q (g i j) H
def rU (g:Int->V):V->Hp->VK->Prop:=λx H Q=>∃i,x=.int i/\Q (g i) H
section
variable {X:Cx}{a b c:U_}{ta tb tc:TE}{pos:Pos}
theorem Gf (ha:PE X a ta) (hb:PE X b tb){T9:List (UL×Obj)}{s:Um}{σ:St}{H:Hp}{R:V->V->Hp->Prop}(I:Inv X T9 σ H s)
  (h:ta σ H λx H1=>tb σ H1 λy H2=>R x y H2){Q:Uk->Um->Prop}{f:Uk->Uk->Sem Uk}
  (hf:∀v u s2 x y H2,Inv X T9 σ H2 s2->RelV x v->RelV y u->R x y H2->UB (UO X.prog X.w) X.A (f v u) Q X.xe s2):
  UB (UO X.prog X.w) X.A (eval a X.env) (λv s₁=>UB (UO X.prog X.w) X.A (eval b X.env) (λu s₂=>UB (UO X.prog X.w) X.A (f v u) Q X.xe s₂) X.xe s₁) X.xe s:=by refine bM (ha T9 s σ H _ I h) λv s1 ⟨x,H1,I1,r1,q1⟩=>?_;refine bM (hb T9 s1 σ H1 _ I1 q1) λu s2 ⟨y,H2,I2,r2,q2⟩=>?_;exact hf v u s2 x y H2 I2 r1 r2 q2
theorem Ow (ho:c8 X (XD op) r) (ha:PE X a ta) (hb:PE X b tb):PE X (.BinOp a op b pos) (FP r ta tb):=by intro T9 s σ H Q I h;exact wpAny_BinOp (Gf ha hb I h λv u s2 x y H2 I2 rx ry q=>ho T9 s2 σ H2 x y v u Q I2 rx ry q)
theorem Oz {r:V->Hp->VK->Prop}(ho:LF X (unaryOp op) r) (ha:PE X a ta):PE X (.UnaryOp op a pos) (QH r ta):=by intro T9 s σ H Q I h;exact UnaryOp_ (bM (ha T9 s σ H _ I h) λv s1 ⟨x,H1,I1,r1,q1⟩=>ho T9 s1 σ H1 x v Q I1 r1 q1)
theorem Pz (ho:c8 X (aaU op) r){H:Hp}{Q:VK}(I:Inv X T9 σ H s)
 (rx:RelV x v) (ry:RelV y u) (q:r x y H Q):UB (UO X.prog X.w) X.A (aaU op v u) (EP X T9 σ Q) X.xe s:=ho T9 s σ H x y v u Q I rx ry q
theorem EW {f:Uk->Uk->Sem Uk}{C:Int->Int->Prop}{g:Int->Int->Int}
  (rule:∀(i j:Int) (t u:Tok) (s:Um) (Q:Uk->Um->Prop) (E:Uk->Um->Prop),C i j->Q (.int (g i j) s.toks) {s with toks:=s.toks + 1}->UB (UO X.prog X.w) X.A (f (.int i t) (.int j u)) Q E s):
  c8 X f (rI C λi j=>.int (g i j)):=by intro T9 s σ H x y v u Q I rx ry h;obtain ⟨i,j,rfl,rfl,hc,q⟩:=h;obtain ⟨t,rfl⟩:=rx;obtain ⟨t',rfl⟩:=ry;exact rule i j t t' s _ _ hc ⟨.int (g i j),H,I.tok _,⟨_,rfl⟩,q⟩
theorem G7 {f:Uk->Uk->Sem Uk}{g:Int->Int->Int}
  (rule:∀(i j:Int) (t u:Tok) (s:Um) (Q:Uk->Um->Prop) (E:Uk->Um->Prop),Q (.int (g i j) s.toks) {s with toks:=s.toks + 1}->UB (UO X.prog X.w) X.A (f (.int i t) (.int j u)) Q E s):
  c8 X f (sI λi j=>.int (g i j)):=by intro T9 s σ H x y v u Q I rx ry h;obtain ⟨i,j,rfl,rfl,q⟩:=h;obtain ⟨t,rfl⟩:=rx;obtain ⟨t',rfl⟩:=ry;exact rule i j t t' s _ _ ⟨.int (g i j),H,I.tok _,⟨_,rfl⟩,q⟩
theorem MQ {f:Uk->Uk->Sem Uk}{g:Int->Int->Bool}
  (rule:∀(i j:Int) (t u:Tok) (s:Um) (Q:Uk->Um->Prop) (E:Uk->Um->Prop),Q (.bool (g i j)) s->UB (UO X.prog X.w) X.A (f (.int i t) (.int j u)) Q E s):
  c8 X f (sI λi j=>.bl (g i j)):=by intro T9 s σ H x y v u Q I rx ry h;obtain ⟨i,j,rfl,rfl,q⟩:=h;obtain ⟨t,rfl⟩:=rx;obtain ⟨t',rfl⟩:=ry;exact rule i j t t' s _ _ ⟨.bl (g i j),H,I,rfl,q⟩
def Pg (i j:Int):Prop:=0 < j/\j < 1073741824
def Ph (i j:Int):Prop:=0<=j/\j<=1000000/\i.natAbs < 2 ^ 64
def B9 (i j:Int):Prop:=(-(2 ^ 64) < i/\i < 2 ^ 64)\/(-(2 ^ 64) < j/\j < 2 ^ 64)
theorem B9.ok (h:B9 i j):IntMulOk i j:=by
 rcases h with ⟨h1,h2⟩ | ⟨h1,h2⟩
 ·exact .of_left (ad4 h1 h2)
 ·exact .of_right (ad4 h1 h2)
theorem EX:c8 X (XD .Add) (sI λi j=>.int (i + j)):=G7 λ_ _ _ _ _ _ _ q=>add_int q
theorem MY:c8 X (XD .Sub) (sI λi j=>.int (i - j)):=G7 λ_ _ _ _ _ _ _ q=>sub_int q
theorem MV:c8 X (XD .Mult) (rI B9 λi j=>.int (i * j)):=EW λ_ _ _ _ _ _ _ hc q=>mul_int q hc.ok
theorem Kl:c8 X (XD .FloorDiv) (rI Pg λi j=>.int (i / j)):=EW λi j _ _ _ _ _ hc q=>by have h1:(0:Int) < j:=hc.1;have h2:j < 1073741824:=hc.2;exact floordiv_int (by omega) (by rw [ZT i (by omega)];exact q) (.inl (PyProof.noPylong_small (by omega)))
theorem MU:c8 X (XD .Mod) (rI (λ_ j=>0 < j) λi j=>.int (i % j)):=EW λi j _ _ _ _ _ hc q=>by have h1:(0:Int) < j:=hc;exact mod_int' (by omega) (by rw [Int.fmod_eq_emod_of_nonneg i (by omega)];exact q)
theorem MX:c8 X (XD .Pow) (rI Ph λi j=>.int (i ^ j.toNat)):=EW λ_ _ _ _ _ _ _ hc q=>pow_int_small hc.1 hc.2.1 hc.2.2 q
theorem JP:c8 X (aaU .Add) (sI λi j=>.int (i + j)):=G7 λ_ _ _ _ _ _ _ q=>iadd_int q
theorem QJ {f:Uk->Sem Uk}{g:Int->Int}
  (rule:∀(i:Int) (t:Tok) (s:Um) (Q:Uk->Um->Prop) (E:Uk->Um->Prop),Q (.int (g i) s.toks) {s with toks:=s.toks + 1}->UB (UO X.prog X.w) X.A (f (.int i t)) Q E s):
  LF X f (rU λi=>.int (g i)):=by intro T9 s σ H x v Q I rx h;obtain ⟨i,rfl,q⟩:=h;obtain ⟨t,rfl⟩:=rx;exact rule i t s _ _ ⟨.int (g i),H,I.tok _,⟨_,rfl⟩,q⟩
theorem NX:LF X (unaryOp .USub) (rU λi=>.int (-i)):=QJ λ_ _ _ _ _ q=>neg_int q
theorem IV:c8 X (V5 .Lt) (sI λi j=>.bl (decide (i < j))):=MQ λ_ _ _ _ _ _ _ q=>lt_int q
theorem De:c8 X (V5 .Gt) (sI λi j=>.bl (decide (j < i))):=MQ λ_ _ _ _ _ _ _ q=>gt_int q
theorem c8.or {f:Uk->Uk->Sem Uk}{r r':R2}(h:c8 X f r) (h':c8 X f r'):c8 X f (λx y H Q=>r x y H Q\/r' x y H Q):=by
 intro T9 s σ H x y v u Q I rx ry q;rcases q with q | q
 ·exact h T9 s σ H x y v u Q I rx ry q
 ·exact h' T9 s σ H x y v u Q I rx ry q
theorem zR (b:U_) (h:op≠.In:=by decide) (h2:op≠.NotIn:=by decide):VU op b=false:=by
 have e1:(op == afq)=false:=by cases op <;> first | rfl | exact absurd rfl h
 have e2:(op == aeF)=false:=by cases op <;> first | rfl | exact absurd rfl h2
 cases b <;> simp [VU,e1,e2]
theorem Kz (ho:c8 X (V5 op) r) (ha:PE X a ta) (hb:PE X b tb) (hm:VU op b=false):PE X (.Compare a [op] [b] pos) (FP r ta tb):=by intro T9 s σ H Q I h;exact wpAny_Compare1 (Gf ha hb I h λv u s2 x y H2 I2 rx ry q=>ho T9 s2 σ H2 x y v u Q I2 rx ry q) hm
def OV (t:TE):TT:=λσ H Q=>t σ H λx H'=>∃k,x=.bl k/\Q k H'
theorem KN {op:CmpOp}{r:R2}(ho:c8 X (V5 op) r) (ha:PE X a ta) (hb:PE X b tb) (hm:VU op b=false):PT X (.Compare a [op] [b] pos) (OV (FP r ta tb)):=by
 intro T9 s σ H Q I h;refine aaS (bM (ha T9 s σ H _ I h) λv s1 ⟨x,H1,I1,r1,q1⟩=>bM (hb T9 s1 σ H1 _ I1 q1) λu s2 ⟨y,H2,I2,r2,q2⟩=>
  bM (ho T9 s2 σ H2 x y v u _ I2 r1 r2 q2) λc s3 ⟨z,H3,I3,r3,k,e,q3⟩=>?_) hm
 subst e;cases r3;exact VV ⟨H3,I3,q3⟩
noncomputable def Gd (K:Ui) (x:V) (H:Hp) (k:Bool):Prop:=
 match x with
 | .non=>k=false
 | .bl b=>k=b
 | .int i=>k=(i != 0)
 | .str y=>y.length<=sizeLine/\k=((y.length:Int) != 0)
 | .byt y=>y.size<=sizeLine/\k=((y.size:Int) != 0)
 | .ref p=>(∃xs,cj K H p xs/\k=!xs.isEmpty)\/(∃xs,cY K H p xs/\k=!xs.isEmpty)\/∃Ue,H p=some (.dK Ue)/\k=!Ue.isEmpty
 | _=>False
theorem CM {κ:Type}{Ue:List (κ×V)}{vs:List (κ×Uk)}(r:KV Ue vs):(!vs.isEmpty)=!Ue.isEmpty:=by cases r <;> rfl
theorem uT {xs:List V}{its:List Uk}(r:Vals xs its):(!its.toArray.isEmpty)=!xs.isEmpty:=by cases r <;> simp
theorem nC:(sizeLine:Nat) < 2 ^ 63:=by rw [Wo];decide
theorem NR:Pw X (λx H Q=>∃k,Gd X.K x H k/\Q k H):=by
 intro T9 s σ H x v Q I rx h;obtain ⟨k,e,q⟩:=h;have hl:=nC;have hs:sizeLine=16777216:=Wo;cases x with
 | non=>
  cases rx;have e':k=false:=e;subst e';exact truthy_none ⟨H,I,q⟩
 | bl b=>
  cases rx;have e':k=b:=e;subst e';exact VV ⟨H,I,q⟩
 | int i=>
  obtain ⟨t,rfl⟩:=rx;have e':k=(i != 0):=e;subst e';exact PySem.P.truthy_int ⟨H,I,q⟩
 | str y=>
  obtain ⟨t,rfl⟩:=rx;obtain ⟨hy,e'⟩:y.length<=sizeLine/\k=((y.length:Int) != 0):=e;subst e';exact PySem.P.truthy_str (by omega) ⟨H,I.tok _,q⟩
 | byt y=>
  obtain ⟨t,rfl⟩:=rx;obtain ⟨hy,e'⟩:y.size<=sizeLine/\k=((y.size:Int) != 0):=e;subst e';exact W.truthy_bytes (by omega) ⟨H,I.tok _,q⟩
 | ref p=>
  cases rx;have e':(∃xs,cj X.K H p xs/\k=!xs.isEmpty)\/(∃xs,cY X.K H p xs/\k=!xs.isEmpty)\/∃Ue,H p=some (.dK Ue)/\k=!Ue.isEmpty:=e;rcases e' with ⟨xs,hx,e'⟩ | ⟨xs,hx,e'⟩ | ⟨Ue,hx,e'⟩
  ·subst e';obtain ⟨its,r,pl,hz⟩:=I.list hx;have hlen:=r.length;exact wpAny_truthy_list pl.isList (by simp only [Uy];omega) ⟨H,I.tok _,by rw [uT r];exact q⟩
  ·subst e';obtain ⟨its,r,pl,hz⟩:=I.tuple hx;have hlen:=r.length;exact truthy_tuple pl (by simp only [Uy];omega) ⟨H,I.tok _,by rw [uT r];exact q⟩
  ·subst e';obtain ⟨hz,hS,vs,r,m⟩:Ue.length<=sizeLine/\(p == XR)=false/\∃vs,KV Ue vs/\s.heap.DictOf (vS X.prog X.w) p vs:=I.hok p _ hx;have hlen:Ue.length=vs.length:=ad3 r;exact wpAny_truthy_dict hS m (by omega) ⟨H,I.tok _,by rw [CM r];exact q⟩
 | _=>exact (show False from e).elim
theorem Hq (ha:PE X a ta) (he:∀whole,abp a X.env whole=(do let v <-whole;X3 a.pos;holding [v] (truthy v))):
  PT X a (λσ H Q=>ta σ H λx H'=>∃k,Gd X.K x H' k/\Q k H'):=by intro T9 s σ H Q I h;exact isTrue_plain (bM (ha T9 s σ H _ I h) λv s1 ⟨x,H1,I1,r1,q1⟩=>NR T9 s1 σ H1 x v Q I1 r1 q1) (he _)
theorem uW:c8 X (XD .Add) (λx y H Q=>∃i j,x=.str i/\y=.str j/\i.length + j.length<=sizeLine/\Q (.str (i++j)) H):=by intro T9 s σ H x y v u Q I rx ry h;obtain ⟨i,j,rfl,rfl,hz,q⟩:=h;obtain ⟨t,rfl⟩:=rx;obtain ⟨t',rfl⟩:=ry;exact add_str (λt' tk=>⟨.str (i++j),H,I.tok _,⟨_,rfl⟩,q⟩) hz
theorem vals1 (r:Vals [x] us):∃u,us=[u]/\RelV x u:=by
 cases r with
 | cons r1 r2=>cases r2;exact ⟨_,rfl,r1⟩
theorem vals2 (r:Vals [x,y] us):∃u w',us=[u,w']/\RelV x u/\RelV y w':=by
 cases r with
 | cons r1 r2=>
  cases r2 with
  | cons r3 r4=>cases r4;exact ⟨_,_,rfl,r1,r3⟩
theorem D9 (hc:X.calm=true):cL X (.builtin "max") (λxs H Q=>∃i j,xs=[.int i,.int j]/\Q (.int (if j > i then j else i)) H):=by
 intro T9 s σ H xs us Q I r h;obtain ⟨i,j,rfl,q⟩:=h;obtain ⟨u,w',rfl,⟨t,rfl⟩,⟨t',rfl⟩⟩:=vals2 r;refine max_two_ints (I.ok.hd hc) λh' tk k=>⟨_,H,I.kept k,?_,q⟩;by_cases hj:j > i
 ·rw [if_pos hj,if_pos hj];exact ⟨_,rfl⟩
 ·rw [if_neg hj,if_neg hj];exact ⟨_,rfl⟩
theorem D8:cL X (.type "int") (λxs H Q=>(∃i,xs=[.int i]/\Q (.int i) H)\/∃k,xs=[.bl k]/\Q (.int (if k then 1 else 0)) H):=by
 intro T9 s σ H xs us Q I r h;rcases h with ⟨i,rfl,q⟩ | ⟨k,rfl,q⟩
 ·obtain ⟨u,rfl,t,rfl⟩:=vals1 r;exact call_int_int ⟨.int i,H,I,⟨_,rfl⟩,q⟩
 ·obtain ⟨u,rfl,r1⟩:=vals1 r;cases r1;exact call_int_bool ⟨.int (if k then 1 else 0),H,I.tok _,⟨_,rfl⟩,q⟩
end
structure dB (k:Nat) (A:U8):Prop where
 hd:A.handled=none
 dp:A.depth + 3 * k + 5 < adE
 un:A.units + 16 * k + 200 < V6
theorem dB.mono (r:dB k A) (h:j<=k):dB j A:=⟨r.hd,by have:=r.dp;omega,by have:=r.un;omega⟩
theorem dB.deeper {A:U8}(r:dB (k + 1) A) (env:Env):dB k (A.deeper env):=
 ⟨r.hd,by have:=r.dp;show A.depth + 1 + 3 * k + 5 < _;omega,by have:=r.un;show A.units + 3 + 16 * k + 200 < _;omega⟩
theorem dB.depth {A:U8}(r:dB k A):A.depth < adE:=by have:=r.dp;omega
theorem dB.units {A:U8}(r:dB k A):A.units + 64 < V6:=by have:=r.un;omega
def Du:TA:=λ_ H Q=>Q [] H
def OP (ta:TE) (tr:TA):TA:=λσ H Q=>ta σ H λx H1=>tr σ H1 λxs H2=>Q (x::xs) H2
section
variable {X:Cx}{e:U_}{es:List U_}{te:TE}{t:TA}{pos:Pos}
theorem gW:PA X [] Du:=λ_ _ _ _ H Q I h=>ab9 ⟨[],H,I,.nil,h⟩
theorem eK (ha:PE X e te) (hr:PA X es t) (hs:Ux (e::es) X.env=(false,eval e X.env)::Ux es X.env:=by rfl):PA X (e::es) (OP te t):=by intro pos T9 s σ H Q I h;rw [hs];show UB _ _ (spliced ((false,eval e X.env)::Wk pos (Ux es X.env))) _ _ s;refine abM (bM (ha T9 s σ H _ I h) λu s1 ⟨x,H1,I1,r1,q1⟩=>?_);exact bM (hr pos T9 s1 σ H1 _ I1 q1) λus s2 ⟨xs,H2,I2,r2,q2⟩=>⟨x::xs,H2,I2,.cons r1 r2,q2⟩
def Ql (t:TA):TE:=λσ H Q=>t σ H λxs H1=>xs.length<=sizeLine/\∀p,H1 p=none->Q (.ref p) (upd H1 p (.tup xs))
def Qg (t:TA):TE:=λσ H Q=>t σ H λxs H1=>xs.length<=sizeLine/\∀p,H1 p=none->Q (.ref p) (upd H1 p (.lst xs))
theorem Nc {x1}(h:PA X es t):PE X (.Tuple es x1 pos) (Ql t):=by intro T9 s σ H Q I hq;refine wpAny_Tuple_spliced (bM (h pos T9 s σ H _ I hq) λus s1 ⟨xs,H1,I1,r,z,q⟩=>⟨by rw [<-r.length];exact z,?_⟩);have hf:H1 s1.heap.objs.size=none:=I1.hok.fresh (Uw _);refine ⟨.ref s1.heap.objs.size,upd H1 s1.heap.objs.size (.tup xs),I1.laid (t':=s1.toks) (λb u e=>Ul _ e) (Uw _) ?_,rfl,q _ hf⟩;exact ⟨z,us,r,⟨_,Us _ rfl,rfl,_,rfl⟩⟩
theorem M8 (h:PA X es t):PE X (.List es pos) (Qg t):=by intro T9 s σ H Q I hq;refine wpAny_List_spliced (bM (h pos T9 s σ H _ I hq) λus s1 ⟨xs,H1,I1,r,z,q⟩=>⟨by rw [<-r.length];exact z,?_⟩);have hf:H1 s1.heap.objs.size=none:=I1.hok.fresh (Uw _);refine ⟨.ref s1.heap.objs.size,upd H1 s1.heap.objs.size (.lst xs),I1.laid (t':=s1.toks) (λb u e=>Ul _ e) (Uw _) ?_,rfl,q _ hf⟩;exact ⟨z,us,0,r,Us _ rfl⟩
end
abbrev Sp:=List V->Hp->VK->XK->Prop
abbrev t9:=List Env->Hp->Um->XK->Uk->Um->Prop
structure Cd (P:UG) (w:U5) (K:Ui) (mg:Str->Option Uk) (base:VB) (A:U8) (outer:List Env) (s:Um) (H:Hp):Prop where
 frames:A.frames=some outer
 mod:Mod K mg base
 bs:∀b o,base.get? b=some o->s.heap.get? b=some o/\H b=none
 bsz:base.objs.size<=s.heap.objs.size
 funs:s.heap.FunFrames base outer
 frf:∀b∈frs outer,H b=none
 hok:fX P w H s.heap
 bare:aam s.gens
noncomputable def CE (outer:List Env) (P:UG) (w:U5) (H:Hp) (s:Um) (Q:VK) (u:Uk) (s':Um):Prop:=
 ∃v H',s'.os=s.os/\aam s'.gens/\Un (frs outer) [] H H' s.heap s'.heap/\fX P w H' s'.heap/\RelV v u/\Q v H'
noncomputable def CR (CX:t9) (outer:List Env) (P:UG) (w:U5) (H:Hp) (s:Um) (Q:VK) (E:XK) (r:acD) (s':Um):Prop:=
 match r with
 | .ok (.ret u)=>CE outer P w H s Q u s'
 | .ok _=>False
 | .error e=>CX outer H s E e s'
structure fM (P:UG) (w:U5) (K:Ui) (mg:Str->Option Uk) (base:VB) (CX:t9) (k:Nat) (f:UL) (fd:U6) (ps:List Str) (sp:Sp):Prop where
 len:∀vs H Q E,sp vs H Q E->vs.length=ps.length
 run:∀(A:U8) (outer:List Env) (s:Um) (H:Hp) (args:Args) (us:List Uk) (vs:List V) (Q:VK) (E:XK),dB k A->Cd P w K mg base A outer s H->ac6 s fd args (ps.zip us)->Vals vs us->sp vs H Q E->
  WM (UO P w) A (.call (.ref f) args) (CR CX outer P w H s Q E) s
section
variable {X:Cx}{T9:List (UL×Obj)}{σ:St}{H:Hp}{s s':Um}
theorem Inv.env0 (I:Inv X T9 σ H s):Cd X.prog X.w X.K X.mg X.base X.A X.stack s H:=
 ⟨I.ok.frames,I.ok.mod,I.bs,U1 I.ok.bsz I.sz,I.stack,I.stkFree,I.hok,I.bare⟩
theorem Inv.after {Q:VK}(I:Inv X T9 σ H s) (h:CE X.stack X.prog X.w H s Q u s'):EP X T9 σ Q u s':=by obtain ⟨v,H',os,bare,un,hok,r,q⟩:=h;obtain ⟨hh,g,d,t,os'⟩:=s';obtain rfl:os'=s.os:=os;exact ⟨v,H',I.call (h':=hh) (g':=g) (d':=d) (t':=t) (ch:=[]) un hok bare (λb z=>absurd z (by simp)),r,q⟩
end
def Jg (sp:Sp) (dvs:List V) (E:XK) (t:TA):TE:=λσ H Q=>t σ H λvs H1=>sp (vs++dvs) H1 Q E
noncomputable def Binds (K:Ui) (fd:U6) (ps:List Str) (ds:List Uk):Prop:=
 ∀(s:Um) (us:List Uk),K.In s.heap->(us++ds).length=ps.length->ac6 s fd ⟨us,[]⟩ (ps.zip (us++ds))
theorem Binds.all {K:Ui}{fd:U6}{ps:List Str}(h:∀us:List Uk,us.length=ps.length->aao fd ⟨us,[]⟩=pure (ps.zip us)):Binds K fd ps []:=λs us _ hl=>by rw [WB] at hl ⊢;exact .of_eq (h us hl)
def Passes (CX:t9) (X:Cx) (E:XK):Prop:=∀(T9:List (UL×Obj)) (σ:St) (H:Hp) (s:Um) (e:Uk) (s':Um),Inv X T9 σ H s->CX X.stack H s E e s'->X.xe e s'
section
variable {X:Cx}{CX:t9}{k:Nat}{f C:UL}{fd:U6}{ps:List Str}{sp:Sp}{dvs:List V}{ds:List Uk}{E:XK}{x m:Str}{p pos apos:Pos}{e o:U_}{es:List U_}{ta:TE}{t:TA}
theorem Fz {H:Hp}{Q:VK}(F:fM X.prog X.w X.K X.mg X.base CX k f fd ps sp) (hr:dB k X.A) (hb:Binds X.K fd ps ds) (hd:Vals dvs ds) (hx:Passes CX X E)
 (I:Inv X T9 σ H s) (r:Vals vs us) (h:sp (vs++dvs) H Q E):UB (UO X.prog X.w) X.A (call (.ref f) us) (EP X T9 σ Q) X.xe s:=by
 have r2:Vals (vs++dvs) (us++ds):=r.append hd;have hl:(us++ds).length=ps.length:=by rw [<-r2.length];exact F.len _ _ _ _ h
 refine ab_ (Xz (F.run X.A X.stack s H ⟨us,[]⟩ (us++ds) (vs++dvs) Q E hr I.env0 (hb s us I.kIn hl) r2 h) λr s' hq=>?_);cases r with
 | error e=>exact hx T9 σ H s e s' I hq
 | ok fl=>
  cases fl with
  | ret u=>exact I.after hq
  | next=>exact Ye hq
  | brk=>exact Ye hq
  | cont=>exact Ye hq
theorem vU (F:fM X.prog X.w X.K X.mg X.base CX k f fd ps sp) (hr:dB k X.A) (hg:Gl X x) (hm:X.mg x=some (.ref f)) (hk:VS X.K (.ref f)=true) (hb:Binds X.K fd ps ds) (hd:Vals dvs ds) (hx:Passes CX X E)
  (ha:PA X (e::es) t) (hdb:(x == ("__debug__":Str))=false:=by decide) (he:Ux (e::es) X.env=(false,eval e X.env)::Ux es X.env:=by rfl) (hpl:(Wk pos (Ux es X.env)).any (·.1)=false:=by rfl):
  PE X (.Call (.Name x p) (e::es) [] pos) (Jg sp dvs E t):=by intro T9 s σ H Q I h;refine Xb (BB I hg hm ?_ hdb);refine abN (h₀:=X.base) I.ok.mod.kin hk (bM (ha pos T9 s σ H _ I h) λus s1 ⟨vs,H1,I1,r,q⟩=>⟨I1.kIn,?_⟩) he hpl;exact Fz F hr hb hd hx I1 r q
end
structure eZ (N P:List Str) (sc:X0):Prop where
 kind:sc.kind=.function
 co:sc.isCoroutine=false
 gen:sc.isGenerator=false
 nd:N.Nodup
 pre:N.take P.length=P
 par:∀x∈P,sc.names.lookup x=some .local\/sc.names.lookup x=some .cell
 nofree:∀y∈sc.names,y.2≠.free
theorem wJ {kindOf:Str->Option WN}:∀{binds:List (Str×Uk)}{m:Str->Option Uk},(∀v,(x,v)∉binds)->aeH kindOf binds m x=m x
 | [],_,_=>rfl
 | (n,v)::r,m,h=>by
  unfold aeH;rw [wJ λw hw=>h w (Uu _ hw)];split
  ·have:x≠n:=by rintro rfl;exact h v Uv
   simp [this]
  ·rfl
theorem wH {kindOf:Str->Option WN}:∀{binds:List (Str×Uk)}{m:Str->Option Uk},(∀v,(x,v)∉binds)->aeI kindOf binds m x=m x
 | [],_,_=>rfl
 | (n,v)::r,m,h=>by
  unfold aeI;rw [wH λw hw=>h w (Uu _ hw)];split
  ·rfl
  ·have:x≠n:=by rintro rfl;exact h v Uv
   simp [this]
theorem wI {kindOf:Str->Option WN}{x:Str}{v:Uk}:∀{P:List Str}{vs:List Uk}{i:Nat}{m:Str->Option Uk},P.Nodup->P[i]?=some x->vs[i]?=some v->kindOf x=some .local->
  aeH kindOf (P.zip vs) m x=some v
 | [],_,_,_,_,h,_,_=>by simp at h
 | _::_,[],_,_,_,_,h,_=>by simp at h
 | p::P,w::vs,0,m,nd,h1,h2,hk=>by simp at h1 h2;subst h1;subst h2;show aeH kindOf ((p,w)::P.zip vs) m p=_;unfold aeH;rw [wJ λv hv=>(Wq.mp nd).1 (aaV hv).1,if_pos hk];simp
 | p::P,w::vs,i + 1,m,nd,h1,h2,hk=>by show aeH kindOf ((p,w)::P.zip vs) m x=_;unfold aeH;exact wI (i:=i) (Wq.mp nd).2 (by simpa using h1) (by simpa using h2) hk
theorem wG {kindOf:Str->Option WN}{x:Str}{v:Uk}:∀{P:List Str}{vs:List Uk}{i:Nat}{m:Str->Option Uk},P.Nodup->P[i]?=some x->vs[i]?=some v->kindOf x≠some .local->
  aeI kindOf (P.zip vs) m x=some v
 | [],_,_,_,_,h,_,_=>by simp at h
 | _::_,[],_,_,_,_,h,_=>by simp at h
 | p::P,w::vs,0,m,nd,h1,h2,hk=>by simp at h1 h2;subst h1;subst h2;show aeI kindOf ((p,w)::P.zip vs) m p=_;unfold aeI;rw [wH λv hv=>(Wq.mp nd).1 (aaV hv).1,if_neg hk];simp
 | p::P,w::vs,i + 1,m,nd,h1,h2,hk=>by show aeI kindOf ((p,w)::P.zip vs) m x=_;unfold aeI;exact wG (i:=i) (Wq.mp nd).2 (by simpa using h1) (by simpa using h2) hk
def start (N:List Str) (vs:List V):St:=vs.map some++V7 (N.length - vs.length) none
noncomputable def p_ (CX:t9) (P:UG) (w:U5) (K:Ui) (mg:Str->Option Uk) (base:VB) (N:List Str) (Ub:Str) (T8:X0) (f:UL) (cd:Uk) (A:U8) (outer:List Env) (s:Um) (H:Hp) (E:XK):Cx where
 prog:=P
 w:=w
 K:=K
 mg:=mg
 base:=base
 A:=A.deeper (ZX Ub T8 s.heap.objs.size f cd)
 N:=N
 s₀:=s
 H₀:=H
 env:=ZX Ub T8 s.heap.objs.size f cd
 outer:=outer
 stack:=ZX Ub T8 s.heap.objs.size f cd::outer
 ex:=[]
 calm:=true
 fn:=λ_=>true
 pn:=[]
 xe:=λe s'=>UB (UO P w) (A.deeper (ZX Ub T8 s.heap.objs.size f cd)) (leaving (ZX Ub T8 s.heap.objs.size f cd) e) (λ_ s''=>CX outer H s E e s'') (λe' s''=>CX outer H s E e' s'') s'
theorem zc {sc:X0}(h:sc.names.lookup x=some .cell):∃c,(Vw n sc.names []).lookup x=some c:=by have q:=aaH sc.names n [] (.inl h);exact Vq.mp q
theorem EG {CX:t9}{P:UG}{w:U5}{K:Ui}{mg:Str->Option Uk}{base:VB}{N ps:List Str}{Ub:Str}{T8:X0}{f:UL}{cd:Uk}{A:U8}{outer:List Env}{s s1:Um}{H:Hp}{E:XK}{us:List Uk}{vs:List V}
  (S:eZ N ps T8) (hd:A.handled=none) (e0:Cd P w K mg base A outer s H) (hl:vs.length=ps.length) (r:Vals vs us)
  (x:InCallC s s.heap.objs.size (aeH (ZX Ub T8 s.heap.objs.size f cd).kindOf (ps.zip us) λ_=>none) (Vw (s.heap.objs.size + 1) T8.names []) (aeI (ZX Ub T8 s.heap.objs.size f cd).kindOf (ps.zip us) λ_=>none) s1):
  Inv (p_ CX P w K mg base N Ub T8 f cd A outer s H E) [] (start N vs) H s1:=by
 have hpl:ps.length<=N.length:=by have:=congrArg We S.pre;rw [Vy] at this;omega
 obtain ⟨h1,tk,rfl,hk⟩:=x.done;have noA:∀b:UL,b∉(p_ CX P w K mg base N Ub T8 f cd A outer s H E).ex:=λb z=>absurd (show b∈([]:List UL) from z) (by simp);refine ⟨⟨e0.mod,S.kind,rfl,rfl,Uw _,λy z c h1 h2=>?_,λy hy=>?_,λy c _ h=>?_,λ_=>hd,Around.frames_deeper e0.frames,.inr ⟨rfl,rfl⟩,λb z=>absurd z (noA b),e0.bs,e0.bsz,λb _ _=>noA b,λb z=>absurd z (noA b),e0.funs,e0.frf⟩,
  rfl,e0.bare,Un.kept hk,⟨_,x.toInCall.ns,λi y v h1 h2 h3=>?_⟩,λy c h=>⟨_,x.cell y c h⟩,e0.hok.fresh (Uw _),λy c h=>?_,λp hp=>absurd (show p∈([]:List (UL×Obj)) from hp) (by simp),e0.hok.kept hk,?_⟩
 ·exact name_of_addr x.apart (XG h1) (XG h2)
 ·have hy:T8.names.lookup y=some .cell\/T8.names.lookup y=some .free:=hy;rcases hy with hy | hy
  ·exact zc hy
  ·exact absurd rfl (S.nofree _ (XG hy))
 ·exact ZV (x.above y c (XG h))
 ·have hi:i < vs.length:=by
   unfold start at h2;by_cases hi:i < vs.length
   ·exact hi
   ·rw [V0 (by simpa using hi)] at h2;rw [YE] at h2;split at h2 <;> cases h2
  have ha:vs[i]?=some v:=by
   unfold start at h2;rw [Wz (by simpa using hi),UT] at h2;cases e:vs[i]? with
   | none=>rw [e] at h2;cases h2
   | some a=>rw [e] at h2;cases h2;rfl
  obtain ⟨u,hu,rv⟩:=r.get ha;have hp:ps[i]?=some y:=by rw [<-S.pre,List.getElem?_take_of_lt (by omega)];exact h1
  have ndP:ps.Nodup:=by rw [<-S.pre];exact S.nd.sublist (Y5 _ _)
  refine ⟨u,rv,?_⟩;rcases S.par y (Vi hp) with k | k
  ·exact .inl ⟨k,wI ndP hp hu k⟩
  ·obtain ⟨c,e⟩:=zc (n:=s.heap.objs.size + 1) k;refine .inr ⟨.inl k,c,e,?_⟩;have q:=x.cell y c e;rw [wG ndP hp hu (by show T8.names.lookup y≠_;rw [k];decide)] at q;exact q
 ·exact e0.hok.fresh (ZV (x.above y c (XG h)))
 ·unfold start;show _=N.length;rw [UI,Uo,WC];omega
theorem IA {K:Ui}{mg:Str->Option Uk}{dV kV doc pm cdv ct oc:Uk}
 {N ps:List Str}{sp:Sp}(lk:K.lookup f=some ⟨oc,od,.func (Vr name Ub params body T8 dV kV doc pm an cdv ct),osl⟩) (hcd:Xh K cdv Ub=true) (S:eZ N ps T8)
 (len:∀vs H Q E,sp vs H Q E->vs.length=ps.length)
 (hbody:∀(A:U8) (outer:List Env) (s:Um) (H:Hp) (vs:List V) (Q:VK) (E:XK),dB k (A.deeper (ZX Ub T8 s.heap.objs.size f cdv))->sp vs H Q E->
 ∃t,kq (p_ CX P w K mg base N Ub T8 f cdv A outer s H E) body t/\t {nx:=λ_ H'=>Q .non H',rt:=Q} (start N vs) H):
  fM P w K mg base CX (k + 1) f (Vr name Ub params body T8 dV kV doc pm an cdv ct) ps sp:=by
 refine ⟨len,λA outer s H args us vs Q E hr e0 hb r RD=>?_⟩;have hl:=len _ _ _ _ RD;have KX:K.In s.heap:=e0.mod.kin.keeps λb o e=>(e0.bs b o e).1;have lim:s.heap.NoLimit:=e0.mod.nolimit.keeps λb o e=>(e0.bs b o e).1;have hkind:∀y∈ps.zip us,T8.names.lookup y.1=some .local\/(T8.names.lookup y.1=some .cell/\((Vw (s.heap.objs.size + 1) T8.names []).lookup y.1).isSome=true):=λ⟨n,v⟩ hy=>by
  rcases S.par n (aaV hy).1 with q | q
  ·exact .inl q
  ·exact .inr ⟨q,aaH _ _ _ (.inl q)⟩
 refine codeAny_call_function hr.depth (KX _ _ lk) rfl S.co S.gen rfl (W.codeRec_of KX hcd) (hb _ _ _ _ ?_);refine wpAny_newFunctionEnv_cells S.kind hkind λenv he s1 x=>?_;subst he;refine ⟨lim.keeps x.toInCall.keep,codeAny_func ?_⟩;obtain ⟨t,ht,hq⟩:=hbody A outer s H vs Q E (hr.deeper _) RD;have I:Inv (p_ CX P w K mg base N Ub T8 f cdv A outer s H E) [] (start N vs) H s1:=EG S hr.hd e0 hl r x;refine Vt (ht [] s1 (start N vs) H _ I hq) (λfl s' hs=>?_) λe s' hs=>hs;have fin:∀{σ':St}{H':Hp}{v:V}{u:Uk},Inv (p_ CX P w K mg base N Ub T8 f cdv A outer s H E) [] σ' H' s'->RelV v u->Q v H'->CE outer P w H s Q u s':=
  fun {σ' H' v u} J rv q=>⟨v,H',J.os,J.bare,J.base,J.hok,rv,q⟩
 cases fl with
 | ret u=>
  obtain ⟨v,σ',H',J,rv,q⟩:=hs;exact fin J rv q
 | next=>
  obtain ⟨σ',H',J,q⟩:=hs;exact fin (v:=V.non) (u:=Vl) J rfl q
 | brk=>
  obtain ⟨_,_,_,q⟩:=hs;exact Ye q
 | cont=>
  obtain ⟨_,_,_,q⟩:=hs;exact Ye q
section
variable {X:Cx}{x:Str}{p pos:Pos}{e:U_}{es:List U_}{t:TA}{id T:String}{r:List V->Hp->VK->Prop}
def Pd (r:List V->Hp->VK->Prop) (t:TA):TE:=λσ H Q=>t σ H λvs H1=>r vs H1 Q
theorem tV (hc:cL X (.builtin id) r) (hg:Gl X x) (hm:X.mg x=none) (hv:Vx x=some (.builtin id)) (ha:PA X (e::es) t) (hn:x≠"__name__":=by decide) (hdb:(x == ("__debug__":Str))=false:=by decide)
  (he:Ux (e::es) X.env=(false,eval e X.env)::Ux es X.env:=by rfl) (hpl:(Wk pos (Ux es X.env)).any (·.1)=false:=by rfl):PE X (.Call (.Name x p) (e::es) [] pos) (Pd r t):=by intro T9 s σ H Q I h;refine Xb (lF I hg hm hv ?_ hn hdb);exact acE (bM (ha pos T9 s σ H _ I h) λus s1 ⟨vs,H1,I1,r1,q1⟩=>hc T9 s1 σ H1 vs us Q I1 r1 q1) he hpl
theorem j_ (hc:cL X (.type T) r) (hg:Gl X x) (hm:X.mg x=none) (hv:Vx x=some (.type T)) (ha:PA X (e::es) t) (hn:x≠"__name__":=by decide) (hdb:(x == ("__debug__":Str))=false:=by decide)
  (he:Ux (e::es) X.env=(false,eval e X.env)::Ux es X.env:=by rfl) (hpl:(Wk pos (Ux es X.env)).any (·.1)=false:=by rfl):PE X (.Call (.Name x p) (e::es) [] pos) (Pd r t):=by intro T9 s σ H Q I h;refine Xb (lF I hg hm hv ?_ hn hdb);exact Wn (bM (ha pos T9 s σ H _ I h) λus s1 ⟨vs,H1,I1,r1,q1⟩=>hc T9 s1 σ H1 vs us Q I1 r1 q1) he hpl
end
end L2
namespace HT
open PySem PyProof.Rows
theorem Gr (A:U8) (s:Um) (a:Int) (t:Tok) (c:Int) (u:Tok):∃e,WG A s (.int a t) (.int c u) e/\(e=true↔a=c):=
 ⟨(a == c),abO a t c u,by simp⟩
section
open PySem.SeqAt
open PySem.AutoSeq1 (wpAny_loadPart')
open PySem.MeetsSeq PySem.MeetsSeq2 PySem.MeetsSeq3
end
section
variable {prog:UG}{w:U5}{A:U8}{E:Uk->Um->Prop}{s:Um}
theorem Jy {vs ws:List Uk}{Q:Uk->Um->Prop}(ht:aeq s.heap t vs.toArray) (hb:aeq s.heap b ws.toArray) (hv:vs≠[])
 (h1:ws=[]->Q (.ref t) s) (h2:ws≠[]->Q (.ref s.heap.objs.size) {s with heap:=s.heap.push {cls:=.type "tuple",data:=.seq (vs++ws).toArray}})
 (hsz:vs.length + ws.length<=sizeLine):UB (UO prog w) A (XD .Add (.ref t) (.ref b)) Q E s:=by
 obtain ⟨⟨cls,dd,data,sl⟩,ho,hc,n,hd⟩:=id ht;obtain ⟨⟨cls2,dd2,data2,sl2⟩,ho2,hc2,n2,hd2⟩:=id hb;simp only at hc hd hc2 hd2;subst hc hd hc2 hd2;have e:vs.toArray++ws.toArray=(vs++ws).toArray:=by simp
 by_cases hw:ws=[]
 ·exact aaW ⟨_,ho,rfl⟩ ⟨_,ho2,rfl⟩ aaC abP Y0 YF (YB _ _)
   (tuple_addW1 t b vs.toArray ws.toArray n n2 dd dd2 sl sl2 (by simpa using hv) (by simp [hw])) ⟨ho,ho2,h1 hw⟩
 ·refine aaW ⟨_,ho,rfl⟩ ⟨_,ho2,rfl⟩ aaC abP Y0 YF (YB _ _)
   (tuple_addW2 t b vs.toArray ws.toArray n n2 dd dd2 sl sl2 (by simpa using hv) (by simpa using hw) (by rw [Uy,Uy];exact hsz)) ⟨ho,ho2,?_⟩
  rw [e];exact h2 hw
noncomputable def bL (n d:Nat):Option Int->Nat
 | none=>d
 | some v=>if v < 0 then (v + (n:Int)).toNat else min v.toNat n
theorem HL (n d:Nat):bL n d none=d:=rfl
theorem K6 (n d k:Nat):bL n d (some (k:Int))=min k n:=by show (if (k:Int) < 0 then ((k:Int) + (n:Int)).toNat else min (k:Int).toNat n)=min k n;rw [if_neg (by omega),VY]
theorem NH (n d:Nat) (hd:d<=n) (o:Option Int):bL n d o<=n:=by
 cases o with
 | none=>exact hd
 | some v=>
  show (if v < 0 then (v + (n:Int)).toNat else min v.toNat n)<=n;by_cases hv:v < 0
  ·rw [if_pos hv];omega
  ·rw [if_neg hv];exact Nat.min_le_right _ _
theorem Bf (v:Int) (n d:Nat):(if v < 0 then max (v + (n:Int)) 0 else min v (n:Int))=((bL n d (some v):Nat):Int):=by
 show (if v < 0 then max (v + (n:Int)) 0 else min v (n:Int))=(((if v < 0 then (v + (n:Int)).toNat else min v.toNat n):Nat):Int);by_cases hv:v < 0
 ·simp only [if_pos hv];omega
 ·simp only [if_neg hv];omega
theorem Cp (lo hi:Option Int) (n:Nat):Yo lo hi 1 (n:Int)=(((bL n 0 lo:Nat):Int),((bL n n hi:Nat):Int)):=by
 have h1:¬((1:Int) < 0):=by omega
 unfold Yo;simp only [h1,if_false];refine afr ?_ ?_
 ·cases lo with
  | none=>rfl
  | some v=>exact Bf v n 0
 ·cases hi with
  | none=>rfl
  | some v=>exact Bf v n n
theorem Dh (i j:Nat):Xi (i:Int) (j:Int) 1=j - i:=by
 unfold Xi;have h1:(1:Int) > 0:=by omega
 simp only [h1,if_true,Int.ediv_one];split <;> omega
theorem vd {Q:Option Int->Um->Prop}(p:abQ v o) (h:Q o s):UB (UO prog w) A (acZ v) Q E s:=by
 cases p with
 | none=>exact adF h
 | int i t=>exact slicePart_int h
theorem lN {sl:UL}{vl vu:Uk}{lo hi:Option Int}{n:Nat}{Q:Int×Int×Nat->Um->Prop}(hs:s.heap.IsSliceOf sl vl vu .none) (pl:abQ vl lo) (pu:abQ vu hi)
  (h:Q (((bL n 0 lo:Nat):Int),1,bL n n hi - bL n 0 lo) s):UB (UO prog w) A (ZU (.ref sl) (pure (n:Int))) Q E s:=by obtain ⟨os,hos,hcs,hds⟩:=id hs;unfold ZU adG;refine Uh (Uh (Vo hos hds (x:=vl) rfl (Uh (Vo hos hds (x:=vu) rfl (Uh (Vo hos hds (x:=.none) rfl (Uj ?_)))))));refine Uh (adF ?_);show UB _ _ (if ((1:Int) == 0)=true then _ else _) _ _ s;rw [if_neg (by decide)];refine Uh (vd pl (Uh (vd pu (Uh (Uj ?_)))));show UB _ _ (match Yo lo hi 1 (n:Int) with | (lo,hi)=>pure (lo,(1:Int),Xi lo hi 1)) _ _ s;rw [Cp lo hi n];show UB _ _ (pure (((bL n 0 lo:Nat):Int),(1:Int),Xi ((bL n 0 lo:Nat):Int) ((bL n n hi:Nat):Int) 1)) _ _ s;rw [Dh];exact Uj h
theorem Hj (xs:Array Uk) (i k:Nat):((Ur k).filterMap λ(m:Nat)=>xs[((i:Int) + (m:Int) * 1).toNat]?).toArray=((xs.toList.drop i).take k).toArray:=by
 have e:(λ(m:Nat)=>xs[((i:Int) + (m:Int) * 1).toNat]?)=λm=>xs[i + m]?:=by
  funext m;have:((i:Int) + (m:Int) * 1).toNat=i + m:=by omega
  rw [this]
 rw [e];have:=pick_run xs i k;rw [abR] at this;have e2:((λx=>xs[x]?) ∘ λx=>i + x)=λm=>xs[i + m]?:=rfl;rw [e2] at this;rw [this]
theorem rP {t sl:UL}{items:Array Uk}{vl vu:Uk}{lo hi:Option Int}{Q:Uk->Um->Prop}(ht:aeq s.heap t items) (hs:s.heap.IsSliceOf sl vl vu .none) (pl:abQ vl lo) (pu:abQ vu hi)
  (hw:¬(bL items.size 0 lo=0/\bL items.size items.size hi=items.size))
  (h:Q (.ref s.heap.objs.size) {s with heap:=s.heap.push {cls:=.type "tuple",data:=.seq ((items.toList.drop (bL items.size 0 lo)).take (bL items.size items.size hi - bL items.size 0 lo)).toArray}})
  (hsz:items.size<=sizeLine):UB (UO prog w) A (acd (.ref t) (.ref sl)) Q E s:=by
 have Ru:sizeOk (.seq ((items.toList.drop (bL items.size 0 lo)).take (bL items.size items.size hi - bL items.size 0 lo)).toArray):=by show ((items.toList.drop (bL items.size 0 lo)).take (bL items.size items.size hi - bL items.size 0 lo)).toArray.size<=sizeLine;rw [Uy,Vy,WI,UJ];omega
 have hj:bL items.size items.size hi<=items.size:=NH _ _ (Uw _) hi;obtain ⟨os,hos,hcs,hds⟩:=id hs;have Se:s.TypeIs (.ref sl) "slice":=⟨os,hos,hcs⟩;unfold acd
 try with_reducible refine U7 ?_
 first | refine Uh (Uj ?_) | skip
 refine Uh (ace ht.typeIs (by decide) ?_);refine Uh (U0 (name:=V3 "__getitem__") ht.typeIs VA
  (U3 VA ht.typeIs abw ?_ (abS _ _)))
 show UB _ _ (Yl (.ref t) >>= _) _ _ s;refine Uh (ad5 ht ?_);refine Uh (X4 Se ?_);rw [if_pos (by decide)];refine Uh (lN hs pl pu ?_);have hno:¬((((bL items.size 0 lo:Nat):Int) == 0 && (1:Int) == 1 && (bL items.size items.size hi - bL items.size 0 lo) == items.size)=true):=by intro q;rw [Uq,Uq] at q;have q1:((bL items.size 0 lo:Nat):Int)=0:=eq_of_beq q.1.1;have q2:bL items.size items.size hi - bL items.size 0 lo=items.size:=eq_of_beq q.2;exact hw ⟨by omega,by omega⟩
 show UB _ _ (if (((bL items.size 0 lo:Nat):Int) == 0 && (1:Int) == 1 && (bL items.size items.size hi - bL items.size 0 lo) == items.size)=true then _ else _) _ _ s;rw [if_neg hno,Hj]
 first
  | exact Uh (m:=Wg _) (UU (Uj ⟨_,rfl,Uj h⟩) Ru)
  | exact Uh (m:=Wg _) (UU (Uh (Uj (Uj ⟨_,rfl,Uj h⟩))) Ru)
  | exact Uh (Uh (m:=Wg _) (UU (Uj (Uj ⟨_,rfl,Uj h⟩)) Ru))
  | exact Uh (Uh (m:=Wg _) (UU (Uj ⟨_,rfl,Uj h⟩) Ru))
end
end HT
namespace L2
open PySem PySem.Spec PyProof.Rows
abbrev TO:=St->Hp->(Option Int->Hp->Prop)->Prop
noncomputable def PO (X:Cx) (e:Option U_) (t:TO):Prop:=
 ∀(T9:List (UL×Obj)) (s:Um) (σ:St) (H:Hp) (Q:Option Int->Hp->Prop),Inv X T9 σ H s->t σ H Q->
  UB (UO X.prog X.w) X.A (evalPart e X.env) (λu s'=>∃o H',Inv X T9 σ H' s'/\abQ u o/\Q o H') X.xe s
def Le:TO:=λ_ H Q=>Q none H
def OU (t:TE):TO:=λσ H Q=>t σ H λx H1=>∃i,x=.int i/\Q (some i) H1
theorem intsAre_of {ns:List Int}:∀{us:List Uk},Vals (ns.map V.int) us->YG us ns:=by
 induction ns with
 | nil=>intro us r;rw [aaX] at r;cases r;exact .nil
 | cons n ns ih=>
  intro us r;rw [UH] at r;cases r with
  | cons r1 r2=>
   obtain ⟨t,e⟩:=r1;subst e;exact .cons n t (ih r2)
section
variable {X:Cx}{e:U_}{te:TE}{lo hi:Option U_}{tl th:TO}{pos p2:Pos}
theorem KH:PO X none Le:=by intro T9 s σ H Q I h;rw [ad6];exact Uj ⟨none,H,I,.none,h⟩
theorem KI (h:PE X e te):PO X (some e) (OU te):=by intro T9 s σ H Q I hw;rw [evalPart_some];refine bM (h T9 s σ H _ I hw) λu s1 ⟨x,H1,I1,r1,q1⟩=>?_;obtain ⟨i,rfl,q⟩:=q1;obtain ⟨t,rfl⟩:=r1;exact ⟨some i,H1,I1,.int i t,q⟩
noncomputable def rX (X:Cx) (r:V->Option Int->Option Int->Hp->VK->Prop):Prop:=
 ∀(T9:List (UL×Obj)) (s:Um) (σ:St) (H:Hp) (x:V) (v vl vu:Uk) (lo hi:Option Int) (sl:UL) (Q:VK),Inv X T9 σ H s->RelV x v->s.heap.IsSliceOf sl vl vu .none->abQ vl lo->abQ vu hi->r x lo hi H Q->
  ∃T id,acf (.type T) "__getitem__"=pure (some (.builtin id))/\s.TypeIs v T/\UB (UO X.prog X.w) X.A (acd v (.ref sl)) (EP X T9 σ Q) X.xe s
theorem rX.or {r r':V->Option Int->Option Int->Hp->VK->Prop}(h:rX X r) (h':rX X r'):rX X (λx lo hi H Q=>r x lo hi H Q\/r' x lo hi H Q):=by
 intro T9 s σ H x v vl vu lo hi sl Q I rx hs pl pu q;rcases q with q | q
 ·exact h T9 s σ H x v vl vu lo hi sl Q I rx hs pl pu q
 ·exact h' T9 s σ H x v vl vu lo hi sl Q I rx hs pl pu q
def QF (r:V->Option Int->Option Int->Hp->VK->Prop) (te:TE) (tl th:TO):TE:=λσ H Q=>te σ H λx H1=>tl σ H1 λl H2=>th σ H2 λu H3=>r x l u H3 Q
theorem Hh {r:V->Option Int->Option Int->Hp->VK->Prop}(hr:rX X r) (he:PE X e te) (hl:PO X lo tl) (hu:PO X hi th):PE X (.Subscript e (.Slice lo hi none p2) pos) (QF r te tl th):=by intro T9 s σ H Q I h;refine Subscript_ (bM (he T9 s σ H _ I h) λv s1 ⟨x,H1,I1,r1,q1⟩=>?_);refine wpAny_Slice (bM (hl T9 s1 σ H1 _ I1 q1) λvl s2 ⟨l,H2,I2,pl,q2⟩=>bM (hu T9 s2 σ H2 _ I2 q2) λvu s3 ⟨u,H3,I3,pu,q3⟩=>?_);rw [ad6];refine Uj ?_;have I4:Inv X T9 σ H3 {s3 with heap:=s3.heap.push {cls:=.type "slice",data:=.fields #[vl,vu,.none]}}:=I3.kept (t':=s3.toks) λb ob q=>Ul _ q;obtain ⟨T,id,hT,ht,hg⟩:=hr T9 {s3 with heap:=s3.heap.push {cls:=.type "slice",data:=.fields #[vl,vu,.none]}} σ H3 x v vl vu l u s3.heap.objs.size Q I4 r1 (ae2 ..) pl pu q3;show UB (UO X.prog X.w) X.A (ad7 e (.Slice lo hi none p2) v (.ref s3.heap.objs.size)) (EP X T9 σ Q) X.xe {s3 with heap:=s3.heap.push {cls:=.type "slice",data:=.fields #[vl,vu,.none]}};exact tail_any (ops:=[.ref s3.heap.objs.size,v]) ht hT hg (by with_unfolding_all rfl)
def mL (xs:List V) (lo hi:Option Int):List V:=(xs.drop (HT.bL xs.length 0 lo)).take (HT.bL xs.length xs.length hi - HT.bL xs.length 0 lo)
theorem se (xs:List V) (lo hi:Option Int):(mL xs lo hi).length<=xs.length:=by unfold mL;rw [Vy,WI];omega
noncomputable def P1 (K:Ui):V->Option Int->Option Int->Hp->VK->Prop:=λx lo hi H Q=>∃a xs,x=.ref a/\cY K H a xs/\
 ¬(HT.bL xs.length 0 lo=0/\HT.bL xs.length xs.length hi=xs.length)/\∀p,H p=none->Q (.ref p) (upd H p (.tup (mL xs lo hi)))
theorem NJ:rX X (P1 X.K):=by
 intro T9 s σ H x v vl vu lo hi sl Q I rx hs pl pu h;obtain ⟨a,xs,rfl,hx,hw,q⟩:=h;cases rx;obtain ⟨its,r,ht,hz⟩:=I.tuple hx;have hlen:its.toArray.size=xs.length:=by rw [Uy];exact r.length.symm
 refine ⟨"tuple",_,VA.lookup,ht.typeIs,?_⟩;refine HT.rP ht hs pl pu (by rw [hlen];exact hw) ?_ (by rw [hlen];exact hz);rw [hlen];refine ⟨.ref s.heap.objs.size,_,I.laid (t':=s.toks) (o:=.tup (mL xs lo hi)) (λb ob q=>Ul _ q) (Uw _) ?_,rfl,q _ (I.hok.fresh (Uw _))⟩;exact ⟨U1 (se xs lo hi) hz,_,(r.drop (HT.bL xs.length 0 lo)).take (HT.bL xs.length xs.length hi - HT.bL xs.length 0 lo),aeu _ _⟩
noncomputable def OE (K:Ui):R2:=λx y H Q=>∃a b xs ys,x=.ref a/\y=.ref b/\cY K H a xs/\cY K H b ys/\xs≠[]/\xs.length + ys.length<=sizeLine/\
 (ys=[]->Q (.ref a) H)/\(ys≠[]->∀p,H p=none->Q (.ref p) (upd H p (.tup (xs++ys))))
theorem Vals.nil_iff (r:Vals xs us):us=[]↔xs=[]:=by
 cases r with
 | nil=>simp
 | cons _ _=>simp
theorem Kh:c8 X (XD .Add) (OE X.K):=by intro T9 s σ H x y v u Q I rx ry h;obtain ⟨a,b,xs,ys,rfl,rfl,ha,hb,hx,hz,q1,q2⟩:=h;cases rx;cases ry;obtain ⟨its,r1,p1,_⟩:=I.tuple ha;obtain ⟨its2,r2,p2,_⟩:=I.tuple hb;refine HT.Jy p1 p2 (λz=>hx (r1.nil_iff.mp z)) (λz=>⟨.ref a,H,I,rfl,q1 (r2.nil_iff.mp z)⟩) (λz=>?_) (by rw [<-r1.length,<-r2.length];exact hz);refine ⟨.ref s.heap.objs.size,_,I.laid (t':=s.toks) (o:=.tup (xs++ys)) (λb ob q=>Ul _ q) (Uw _) ?_,rfl,q2 (λw=>z (r2.nil_iff.mpr w)) _ (I.hok.fresh (Uw _))⟩;exact ⟨by rw [UI];exact hz,_,r1.append r2,aeu _ _⟩
end
def zG (n:Nat) (i:Int):Option Nat:=if 0<=i then (if i < n then some i.toNat else none) else if -(n:Int)<=i then some (i + n).toNat else none
def lW {α:Type}(xs:List α) (i:Int):Option α:=(zG xs.length i).bind λj=>xs[j]?
theorem JR (h:zG n i=some j):abT i n=some j/\j < n/\-(n:Int)<=i/\i < n:=by
 unfold zG at h;by_cases h0:0<=i
 ·rw [if_pos h0] at h;by_cases h1:i < n
  ·rw [if_pos h1] at h;have e:i.toNat=j:=VF h;exact ⟨by rw [seqIndex_of h0 h1,e],by omega,by omega,h1⟩
  ·rw [if_neg h1] at h;cases h
 ·rw [if_neg h0] at h;by_cases h1:-(n:Int)<=i
  ·rw [if_pos h1] at h;have e:(i + n).toNat=j:=VF h;exact ⟨by rw [seqIndex_neg (by omega) h1,e],by omega,h1,by omega⟩
  ·rw [if_neg h1] at h;cases h
theorem vz {α:Type}{xs:List α}{i:Int}{v:α}(h:lW xs i=some v):∃j,abT i xs.length=some j/\xs[j]?=some v/\j < xs.length/\-(xs.length:Int)<=i/\i < xs.length:=by
 unfold lW at h;cases e:zG xs.length i with
 | none=>rw [e] at h;cases h
 | some j=>
  rw [e] at h;obtain ⟨h1,h2,h3,h4⟩:=JR e;exact ⟨j,h1,h,h2,h3,h4⟩
def qP (b:U_):Prop:=∀o i,subscripted b false o i=operate [o,i] (acd o i)
noncomputable def pR (X:Cx) (r:R2):Prop:=
 ∀(value slice:U_) (T9:List (UL×Obj)) (s:Um) (σ:St) (H:Hp) (x y:V) (v u:Uk) (Q:VK),Inv X T9 σ H s->RelV x v->RelV y u->r x y H Q->
  subscripted slice false v u=operate [v,u] (acd v u)->UB (UO X.prog X.w) X.A (ad7 value slice v u) (EP X T9 σ Q) X.xe s
noncomputable def Qo (X:Cx) (id:String) (r:V->List V->Hp->VK->Prop):Prop:=
 ∀(T9:List (UL×Obj)) (s:Um) (σ:St) (H:Hp) (x:V) (xs:List V) (v:Uk) (us:List Uk) (Q:VK),Inv X T9 σ H s->RelV x v->Vals xs us->r x xs H Q->
  UB (UO X.prog X.w) X.A (call (.builtin id) (v::us)) (EP X T9 σ Q) X.xe s
section
variable {X:Cx}{a b:U_}{ta tb:TE}{pos:Pos}
theorem pR.or {r r':R2}(h:pR X r) (h':pR X r'):pR X (λx y H Q=>r x y H Q\/r' x y H Q):=by
 intro value slice T9 s σ H x y v u Q I rx ry q hs;rcases q with q | q
 ·exact h value slice T9 s σ H x y v u Q I rx ry q hs
 ·exact h' value slice T9 s σ H x y v u Q I rx ry q hs
theorem Ov (hr:pR X r) (ha:PE X a ta) (hb:PE X b tb) (hs:qP b):PE X (.Subscript a b pos) (FP r ta tb):=by intro T9 s σ H Q I h;exact Subscript_ (Gf ha hb I h λv u s2 x y H2 I2 rx ry q=>hr a b T9 s2 σ H2 x y v u Q I2 rx ry q (hs _ _))
def Nx (K:Ui):R2:=λx y H Q=>∃p xs i v,x=.ref p/\y=.int i/\cj K H p xs/\lW xs i=some v/\Q v H
def Nz (K:Ui):R2:=λx y H Q=>∃p xs i v,x=.ref p/\y=.int i/\cY K H p xs/\lW xs i=some v/\Q v H
def Ny:R2:=λx y H Q=>∃z i c,x=.str z/\y=.int i/\z.length<=sizeLine/\lW z.cps.toList i=some c/\Q (.str ⟨#[c]⟩) H
theorem JS:pR X (Nx X.K):=by
 intro value slice T9 s σ H x y v u Q I rx ry h hs;obtain ⟨p,xs,i,z,rfl,rfl,hq,he,q⟩:=h;cases rx;obtain ⟨t,rfl⟩:=ry;obtain ⟨its,r,pl,hz⟩:=I.list hq;obtain ⟨j,h1,h2,h3,h4,h5⟩:=vz he;obtain ⟨w,ew,rw'⟩:=r.get h2;have hl:=r.length;have hn:=nC;have fin:EP X T9 σ Q w s:=⟨z,H,I,rw',q⟩;by_cases h0:0<=i
 ·have hj:i.toNat=j:=by rw [seqIndex_of h0 h5] at h1;exact VF h1
  exact item_listR pl.isList h0 (by omega) (by rw [hj];simpa using ew) fin hs
 ·have hj:(i + (its.toArray.size:Int)).toNat=j:=by rw [seqIndex_neg (by omega) h4] at h1;rw [Uy,<-hl];exact VF h1
  exact Y3 (x:=w) pl.isList.typeIs acg.lookup
   (wpAny_getItem_list_neg (Q:=λr s'=>r=w/\EP X T9 σ Q r s') pl.isList (by omega) (by rw [Uy] <;> omega) (by omega) (by rw [hj];simpa using ew) ⟨rfl,fin⟩) hs
theorem Mx:pR X (Nz X.K):=by
 intro value slice T9 s σ H x y v u Q I rx ry h hs;obtain ⟨p,xs,i,z,rfl,rfl,hq,he,q⟩:=h;cases rx;obtain ⟨t,rfl⟩:=ry;obtain ⟨its,r,pl,hz⟩:=I.tuple hq;obtain ⟨j,h1,h2,h3,h4,h5⟩:=vz he;obtain ⟨w,ew,rw'⟩:=r.get h2;have hl:=r.length;have hn:=nC;have fin:EP X T9 σ Q w s:=⟨z,H,I,rw',q⟩;exact Y3 (x:=w) pl.typeIs slot_tuple_getitem.lookup
  (getItem_tuple (j:=j) (Q:=λr s'=>r=w/\EP X T9 σ Q r s') pl (by omega) (by omega) (by rw [Uy,<-hl];exact h1) (by simpa using ew) ⟨rfl,fin⟩) hs
theorem Mw:pR X Ny:=by
 intro value slice T9 s σ H x y v u Q I rx ry h hs;obtain ⟨z,i,c,rfl,rfl,hz,he,q⟩:=h;obtain ⟨t,rfl⟩:=rx;obtain ⟨t',rfl⟩:=ry;obtain ⟨j,h1,h2,h3,h4,h5⟩:=vz he;have hl:z.cps.toList.length=z.length:=by simp [ach]
 rw [hl] at h1 h4 h5;have hn:=nC;exact tail_any (Y6 s z t) slot_str_getitem.lookup (getItem_str (c:=c) (by
  have e1:decide (i < -(2 ^ 63:Int))=false:=decide_eq_false (by omega);have e2:decide (i ≥ 2 ^ 63)=false:=decide_eq_false (by omega);rw [e1,e2,abU]) (by rw [h1];simpa using h2) ⟨.str ⟨#[c]⟩,H,I.tok _,⟨_,rfl⟩,q⟩) hs
def Qy (K:Ui):R2:=λx y H Q=>Nx K x y H Q\/Nz K x y H Q\/Ny x y H Q
theorem Mv:pR X (Qy X.K):=JS.or (Mx.or Mw)
theorem Inv.lst {H:Hp}{s:Um}{xs:List V}(I:Inv X T9 σ H s) (h:H p=some (.lst xs)):
  ∃(its:List Uk) (n:Nat),Vals xs its/\s.heap.get? p=some {cls:=.type "list",data:=.seq its.toArray n}/\xs.length<=sizeLine:=by obtain ⟨z,its,n,r,e⟩:=I.hok p _ h;exact ⟨its,n,r,e,z⟩
theorem Ai (lo hi:Option Int) (n:Nat):(Y7 lo hi none n).1=((HT.bL n 0 lo:Nat):Int)/\(Y7 lo hi none n).2.1=((HT.bL n n hi:Nat):Int)/\(Y7 lo hi none n).2.2=1:=by
 refine ⟨?_,?_,rfl⟩
 ·cases lo with
  | none=>simp [Y7,HT.bL]
  | some i=>
   simp only [Y7,HT.bL,acO,show (1:Int) > 0 by decide,if_true];by_cases h:i < 0
   ·simp only [h,if_true] <;> omega
   ·simp only [h,if_false] <;> omega
 ·cases hi with
  | none=>simp [Y7,HT.bL]
  | some i=>
   simp only [Y7,HT.bL,acO,show (1:Int) > 0 by decide,if_true];by_cases h:i < 0
   ·simp only [h,if_true] <;> omega
   ·simp only [h,if_false] <;> omega
theorem x_ (its:List Uk) (lo hi:Option Int):slicePick its.toArray lo hi none=((its.drop (HT.bL its.length 0 lo)).take (HT.bL its.length its.length hi - HT.bL its.length 0 lo)).toArray:=by obtain ⟨h1,h2,h3⟩:=Ai lo hi its.toArray.size;unfold slicePick;rw [h1,h2,h3];simp only [sliceRange_one,pick_run,Uy] <;> rfl
noncomputable def P0 (K:Ui):V->Option Int->Option Int->Hp->VK->Prop:=λx lo hi H Q=>∃a xs,x=.ref a/\cj K H a xs/\∀p,H p=none->Q (.ref p) (upd H p (.lst (mL xs lo hi)))
theorem K9:rX X (P0 X.K):=by intro T9 s σ H x v vl vu lo hi sl Q I rx hs pl pu h;obtain ⟨a,xs,rfl,hx,q⟩:=h;cases rx;obtain ⟨its,r,ht,hz⟩:=I.list hx;have hlen:=r.length;refine ⟨"list",_,acg.lookup,ht.isList.typeIs,?_⟩;refine wpAny_getItem_list_slice ht.isList hs pl pu .none (by simp) ?_ (by rw [Uy] <;> omega);rw [x_,<-hlen];refine ⟨.ref s.heap.objs.size,_,I.laid (t':=s.toks) (o:=.lst (mL xs lo hi)) (λb ob q=>Ul _ q) (Uw _) ?_,rfl,q _ (I.hok.fresh (Uw _))⟩;exact ⟨U1 (se xs lo hi) hz,_,0,(r.drop (HT.bL xs.length 0 lo)).take (HT.bL xs.length xs.length hi - HT.bL xs.length 0 lo),Us _ rfl⟩
noncomputable def uI:V->Bool
 | .non=>true
 | .bl _=>true
 | .int _=>true
 | .str _=>true
 | _=>false
noncomputable def L8:V->V->Bool
 | .non,.non=>true
 | .bl a,.bl b=>a == b
 | .bl a,.int b=>(if a then 1 else 0) == b
 | .int a,.bl b=>a == (if b then 1 else 0)
 | .int a,.int b=>a == b
 | .str a,.str b=>a == b
 | _,_=>false
theorem L7 (ry:RelV y u) (rx:RelV x v) (fy:uI y=true) (fx:uI x=true):WG A s u v (L8 y x):=by
 cases y with
 | non=>
  cases ry;cases x with
  | non=>cases rx;exact aaY _
  | bl b=>cases rx;exact aeA b
  | int b=>obtain ⟨t,rfl⟩:=rx;exact aeJ b t
  | str b=>obtain ⟨t,rfl⟩:=rx;exact aeK b t
  | _=>exact absurd (show false=true from fx) UZ
 | bl a=>
  cases ry;cases x with
  | non=>cases rx;exact aeB a
  | bl b=>cases rx;exact aeC a b
  | int b=>obtain ⟨t,rfl⟩:=rx;exact aeL a b t
  | str b=>obtain ⟨t,rfl⟩:=rx;exact aeM a b t
  | _=>exact absurd (show false=true from fx) UZ
 | int a=>
  obtain ⟨t',rfl⟩:=ry;cases x with
  | non=>cases rx;exact aeN a t'
  | bl b=>cases rx;exact aeO a t' b
  | int b=>obtain ⟨t,rfl⟩:=rx;exact abO a t' b t
  | str b=>obtain ⟨t,rfl⟩:=rx;exact abH a t' b t
  | _=>exact absurd (show false=true from fx) UZ
 | str a=>
  obtain ⟨t',rfl⟩:=ry;cases x with
  | non=>cases rx;exact aeP a t'
  | bl b=>cases rx;exact aeQ a t' b
  | int b=>obtain ⟨t,rfl⟩:=rx;exact abI a t' b t
  | str b=>obtain ⟨t,rfl⟩:=rx;exact ae3 a t' b t
  | _=>exact absurd (show false=true from fx) UZ
 | _=>exact absurd (show false=true from fy) UZ
theorem yU:cL X (.builtin "len") (λxs H Q=>∃p ys,xs=[.ref p]/\(cj X.K H p ys\/cY X.K H p ys)/\Q (.int ys.length) H):=by
 intro T9 s σ H xs us Q I r h;obtain ⟨p,ys,rfl,hq,q⟩:=h;obtain ⟨u,rfl,rx⟩:=vals1 r;cases rx;have hn:=nC;rcases hq with hq | hq
 ·obtain ⟨its,r',pl,hz⟩:=I.list hq;have hlen:=r'.length;exact Calls.call_len_list pl.isList (by simp only [Uy] <;> omega) ⟨.int ys.length,H,I.tok _,⟨s.toks + 1,by rw [Uy,hlen]⟩,q⟩
 ·obtain ⟨its,r',pl,hz⟩:=I.tuple hq;have hlen:=r'.length;exact len_tuple pl (by simp only [Uy] <;> omega) ⟨.int ys.length,H,I.tok _,⟨s.toks + 1,by rw [Uy,hlen]⟩,q⟩
theorem yV:cL X (.builtin "len") (λxs H Q=>∃z,xs=[.str z]/\z.length<=sizeLine/\Q (.int z.length) H):=by intro T9 s σ H xs us Q I r h;obtain ⟨z,rfl,hz,q⟩:=h;obtain ⟨u,rfl,t,rfl⟩:=vals1 r;have hn:=nC;exact len_str (by omega) ⟨.int z.length,H,I.tok _,⟨_,rfl⟩,q⟩
theorem cL.or {r r':List V->Hp->VK->Prop}(h:cL X f r) (h':cL X f r'):cL X f (λxs H Q=>r xs H Q\/r' xs H Q):=by
 intro T9 s σ H xs us Q I rs q;rcases q with q | q
 ·exact h T9 s σ H xs us Q I rs q
 ·exact h' T9 s σ H xs us Q I rs q
theorem yW:cL X (.type "list") (λxs H Q=>∃p ys,xs=[.ref p]/\(cj X.K H p ys\/cY X.K H p ys)/\∀l,H l=none->Q (.ref l) (upd H l (.lst ys))):=by
 intro T9 s σ H xs us Q I r h;obtain ⟨p,ys,rfl,hq,q⟩:=h;obtain ⟨u,rfl,rx⟩:=vals1 r;cases rx;have fin:∀(its:List Uk),Vals ys its->ys.length<=sizeLine->∀(h':VB) (c':Nat),(∀b o',s.heap.get? b=some o'->h'.get? b=some o')->
   h'.get? s.heap.objs.size=some {cls:=.type "list",dict:=none,data:=.seq its.toArray c',slots:=#[]}->EP X T9 σ Q (.ref s.heap.objs.size) {s with heap:=h'}:=λits r' hz h' c' kp e=>
  ⟨.ref s.heap.objs.size,_,I.laid (t':=s.toks) kp (Uw _) (show cM X.prog X.w _ h' _ (.lst ys) from ⟨hz,its,c',r',e⟩),rfl,q _ (I.hok.fresh (Uw _))⟩
 rcases hq with hq | hq
 ·obtain ⟨its,r',pl,hz⟩:=I.list hq;have hlen:=r'.length;obtain ⟨o,ho,hc,n,hd⟩:=pl.isList;exact ad8 p (.inl rfl) ho hc hd (λh' c' kp e=>fin its r' hz h' c' kp e) (by simp only [Uy] <;> omega)
 ·obtain ⟨its,r',pl,hz⟩:=I.tuple hq;have hlen:=r'.length;obtain ⟨o,ho,hc,n,hd⟩:=pl;exact ad8 p (.inr rfl) ho hc hd (λh' c' kp e=>fin its r' hz h' c' kp e) (by simp only [Uy] <;> omega)
theorem xV:cL X (.type "tuple") (λxs H Q=>∃p ys,xs=[.ref p]/\((cj X.K H p ys/\∀l,H l=none->Q (.ref l) (upd H l (.tup ys)))\/(cY X.K H p ys/\Q (.ref p) H))):=by
 intro T9 s σ H xs us Q I r h;obtain ⟨p,ys,rfl,h⟩:=h;obtain ⟨u,rfl,rx⟩:=vals1 r;cases rx;rcases h with ⟨hq,q⟩ | ⟨hq,q⟩
 ·obtain ⟨its,r',pl,hz⟩:=I.list hq;have hlen:=r'.length;refine call_tuple_list pl.isList (λh' kp=>?_) (by simp only [Uy] <;> omega);have I1:Inv X T9 σ H {s with heap:=h'}:=I.kept (t':=s.toks) kp;have I2:Inv X T9 σ (upd H h'.objs.size (.tup ys)) {s with heap:=h'.push {cls:=.type "tuple",data:=.seq its.toArray}}:=
   I1.laid (t':=s.toks) (λb o e=>Ul _ e) (Uw _) (show cM X.prog X.w _ _ _ (.tup ys) from ⟨hz,its,r',aeu _ _⟩)
  exact ⟨.ref h'.objs.size,_,I2,rfl,q _ (I1.hok.fresh (Uw _))⟩
 ·obtain ⟨its,r',pl,hz⟩:=I.tuple hq;exact call_tuple_same pl ⟨.ref p,H,I,rfl,q⟩
noncomputable def Pf (K:Ui) (T:String) (x:V) (H:Hp):Prop:=match x with
 | .str _=>T="str"
 | .int _=>T="int"
 | .ref p=>(T="list"/\∃xs,cj K H p xs)\/(T="tuple"/\∃o,K.lookup p=some o/\o.cls=.type "tuple"/\o.dict=none)\/
   (T="dict"/\((∃Ue,H p=some (.dK Ue))\/∃Ue,H p=some (.dT Ue)))\/(T="set"/\∃S n,H p=some (.set S n))
 | _=>False
theorem NW {H:Hp}{s:Um}(I:Inv X T9 σ H s) (r:RelV x v) (ty:Pf X.K T x H):
  s.TypeIs v T/\∀a,v=.ref a->∃ob,s.heap.get? a=some ob/\ob.dict=none:=by
 cases x with
 | str z=>
  obtain ⟨t,rfl⟩:=r;cases (show T="str" from ty);exact ⟨Y6 s z t,λ_ e=>nomatch e⟩
 | int i=>
  obtain ⟨t,rfl⟩:=r;cases (show T="int" from ty);exact ⟨typeIs_int s i t,λ_ e=>nomatch e⟩
 | ref p=>
  cases r;rcases ty with ⟨rfl,xs,hq⟩ | ⟨rfl,o,hk,hc,hd⟩ | ⟨rfl,hk⟩ | ⟨rfl,S,n,hk⟩
  ·obtain ⟨its,_,pl,_⟩:=I.list hq;refine ⟨pl.isList.typeIs,λa e=>?_⟩;cases e;obtain ⟨o,n,e,c,hd,_⟩:=pl;exact ⟨o,e,hd⟩
  ·refine ⟨⟨o,I.kIn p o hk,hc⟩,λa e=>?_⟩;cases e;exact ⟨o,I.kIn _ o hk,hd⟩
  ·have z:∃o,s.heap.get? p=some o/\o.ExactDict:=by
    rcases hk with ⟨Ue,hk⟩ | ⟨Ue,hk⟩
    ·obtain ⟨_,_,_,_,o,_,_,e,ex,_⟩:=I.hok p _ hk;exact ⟨o,e,ex⟩
    ·obtain ⟨_,_,_,_,o,_,_,e,ex,_⟩:=I.hok p _ hk;exact ⟨o,e,ex⟩
   obtain ⟨o,e,ex⟩:=z;refine ⟨⟨o,e,ex.1⟩,λa e2=>?_⟩;cases e2;exact ⟨o,e,ex.2.1⟩
  ·obtain ⟨o,_,_,_,e,ex,_⟩:=I.hok p _ hk;refine ⟨⟨o,e,ex.1⟩,λa e2=>?_⟩;cases e2;exact ⟨o,e,ex.2.1⟩
 | _=>exact Ye ty
def QA (K:Ui) (T:String) (r:V->List V->Hp->VK->Prop) (to:TE) (t:TA):TE:=λσ H Q=>to σ H λx H1=>Pf K T x H1/\t σ H1 λxs H2=>r x xs H2 Q
variable {o e:U_}{es:List U_}{to:TE}{t:TA}{name:Str}{apos cpos:Pos}{T id:String}{r:V->List V->Hp->VK->Prop}
theorem ym (pa:PlainAttrs T) (slot:Slot T name id) (hty:typeOf (.builtin id)=pure (.type "method_descriptor")) (hm:Qo X id r) (ho:PE X o to) (ha:PA X (e::es) t)
  (hbase:Yg o name X.env (eval o X.env)=eval o X.env:=by rfl)
  (hfew:((Wk cpos (Ux (e::es) X.env)).all (λx=>!x.1) && (ac0 cpos (aap [] X.env)).all (λx=>x.1.isSome)
   && decide ((e::es).length + ([]:List aaq).length + (if ([]:List aaq).isEmpty then 0 else 1) < 30))=true:=by rfl)
  (hline:(apos.endLine == cpos.line)=true:=by rfl) (hs:Ux (e::es) X.env=(false,eval e X.env)::Ux es X.env:=by rfl) (hplain:(Wk cpos (Ux es X.env)).any (·.1)=false:=by rfl):
  PE X (.Call (.Attribute o name apos) (e::es) [] cpos) (QA X.K T r to t):=by intro T9 s σ H Q I h;refine wpAny_Call_method_late hbase hfew hline rfl (bM (ho T9 s σ H _ I h) λv s1 ⟨x,H1,I1,r1,ty,q1⟩=>?_);obtain ⟨h1,h2⟩:=NW I1 r1 ty;refine ⟨T,id,pa,slot,hty,h1,h2,?_⟩;have hA:=ha cpos T9 s1 σ H1 _ I1 q1;rw [hs] at hA ⊢;refine Calls.callWith_builtin (by show (false || (Wk cpos (Ux es X.env)).any (·.1))=false;rw [hplain] <;> rfl) (Calls.evalArgs_plain ?_);exact bM hA λus s2 ⟨vs,H2,I2,r2,q2⟩=>hm T9 s2 σ H2 x vs v us Q I2 r1 r2 q2
end
noncomputable def Ij (X:Cx) (id:String) (r:V->List V->Hp->VK->Prop):Prop:=
 ∀(T9:List (UL×Obj)) (s:Um) (σ:St) (H:Hp) (x:V) (xs:List V) (v:Uk) (us:List Uk) (Q:VK),Inv X T9 σ H s->RelV x v->Vals xs us->r x xs H Q->
  UB (UO X.prog X.w) X.A (call (.builtin id) (v::us)) (EP X T9 σ Q) X.xe s
theorem Vals.one:∀{x:V}{us:List Uk},Vals [x] us->∃u,us=[u]/\RelV x u
 | _,_,.cons r .nil=>⟨_,rfl,r⟩
theorem Vals.eraseIdx:∀{xs:List V}{us:List Uk}(i:Nat),Vals xs us->Vals (xs.eraseIdx i) (us.eraseIdx i)
 | _,_,_,.nil=>.nil
 | _,_,0,.cons _ t=>t
 | _,_,i + 1,.cons r t=>.cons r (Vals.eraseIdx i t)
theorem wZ {α:Type}:∀(l:List α) (i:Nat),(l.eraseIdx i).length<=l.length
 | [],_=>Uw _
 | _::_,0=>Yy _
 | _::r,i + 1=>Nat.succ_le_succ (wZ r i)
section
variable {X:Cx}{T9:List (UL×Obj)}{σ:St}{H:Hp}{s:Um}{l b:UL}{xs ys zs:List V}
theorem Inv.lset {its its':List Uk}{f:Array Uk->Array Uk}(I:Inv X T9 σ H s) (hH:H l=some (.lst xs))
 (e:s.heap.get? l=some {cls:=.type "list",data:=.seq its.toArray n}) (hf:f its.toArray=its'.toArray) (hv:Vals ys its') (hz:ys.length<=sizeLine):
  Inv X T9 σ (upd H l (.lst ys)) {s with heap:=s.heap.update l (VJ f),toks:=t'}:=by have q:=afe e f;rw [hf] at q;refine I.write (x:=l) (e:=l) (by rw [hH];exact trivial) (.inl rfl) (λb' u hb hu=>(Wu s.heap (VJ f) (Ws hb)).trans hu) ⟨_,q⟩ ?_;exact ⟨hz,its',_,hv,q⟩
theorem Inv.lnew {its:List Uk}(I:Inv X T9 σ H s) (hv:Vals ys its) (hz:ys.length<=sizeLine):
  Inv X T9 σ (upd H s.heap.objs.size (.lst ys)) {s with heap:=s.heap.push {cls:=.type "list",data:=.seq its.toArray},toks:=t'}:=
 I.laid (λ_ _ q=>Ul _ q) (Uw _) ⟨hz,its,0,hv,Us _ rfl⟩
theorem Inv.fresh (I:Inv X T9 σ H s):H s.heap.objs.size=none:=I.hok.fresh (Uw _)
theorem Inv.lstM (I:Inv X T9 σ H s) (hH:H l=some (.lst xs)):xs.length<=sizeLine/\∃(its:List Uk) (n:Nat),Vals xs its/\xs.length=its.length/\s.heap.get? l=some {cls:=.type "list",data:=.seq its.toArray n}:=by obtain ⟨z,its,n,r,e⟩:=I.hok l _ hH;exact ⟨z,its,n,r,r.length,e⟩
theorem zS (h:n<=sizeLine):WH n=false:=by unfold WH;exact decide_eq_false (by omega)
end
section
variable {X:Cx}
noncomputable def K2:V->List V->Hp->VK->Prop:=λx vs H Q=>∃l xs y,x=.ref l/\vs=[y]/\H l=some (.lst xs)/\xs.length < sizeLine/\Q .non (upd H l (.lst (xs++[y])))
theorem qw:Ij X "list.append" K2:=by intro T9 s σ H x vs v us Q I rx rv h;obtain ⟨l,xs,y,rfl,rfl,hH,hz,q⟩:=h;cases rx;obtain ⟨u,rfl,ru⟩:=rv.one;obtain ⟨z,its,n,r,hl,e⟩:=I.lstM hH;refine abd F.slot_list_append ⟨_,e,rfl⟩ F.entry_list_append (F.args_list_append_2 _ _) (PySem.list_append l its.toArray n u (by rw [Uy];omega)) ⟨e,?_⟩;refine ⟨.non,_,I.lset (its':=its++[u]) hH e (by simp) (r.append (.cons ru .nil)) ?_,rfl,q⟩;rw [UI,X5];omega
noncomputable def K3:V->List V->Hp->VK->Prop:=λx vs H Q=>∃l b xs zs,x=.ref l/\vs=[.ref b]/\H l=some (.lst xs)/\H b=some (.lst zs)/\xs.length + zs.length<=sizeLine/\Q .non (upd H l (.lst (xs++zs)))
theorem Pb:Ij X "list.extend" K3:=by
 intro T9 s σ H x vs v us Q I rx rv h;obtain ⟨l,b,xs,zs,rfl,rfl,hH,hB,hz,q⟩:=h;cases rx;obtain ⟨u,rfl,ru⟩:=rv.one;cases ru;obtain ⟨z,its,n,r,hl,e⟩:=I.lstM hH;obtain ⟨z2,its2,n2,r2,hl2,e2⟩:=I.lstM hB;have hsz:its.toArray.size + its2.toArray.size<=sizeLine:=by rw [Uy,Uy];omega
 have Rz:¬(!its.toArray.isEmpty && WH (its.toArray.size + its2.toArray.size))=true:=by rw [zS hsz,XS];exact UZ
 refine abd abV ⟨_,e,rfl⟩ abx (abi _ _)
  (AutoSeq1.list_extend_list_list_0 l its.toArray n b its2.toArray n2 Rz (by rw [Uy];omega) (by omega)) ⟨e,e2,?_⟩
 refine ⟨.non,_,I.lset (its':=its++its2) hH e (by simp) (r.append r2) ?_,rfl,q⟩;rw [UI];omega
noncomputable def NB:V->List V->Hp->VK->Prop:=λx vs H Q=>∃l xs i k y,x=.ref l/\vs=[.int i]/\H l=some (.lst xs)/\-(2 ^ 63)<=i/\i < 2 ^ 63/\abT i xs.length=some k/\xs[k]?=some y/\Q y (upd H l (.lst (xs.eraseIdx k)))
theorem GW:Ij X "list.pop" NB:=by
 intro T9 s σ H x vs v us Q I rx rv h;obtain ⟨l,xs,i,k,y,rfl,rfl,hH,h1,h2,hk,hy,q⟩:=h;cases rx;obtain ⟨u,rfl,ru⟩:=rv.one;obtain ⟨t,rfl⟩:=ru;obtain ⟨z,its,n,r,hl,e⟩:=I.lstM hH;obtain ⟨w,hw,rw'⟩:=r.get hy;refine abd F.slot_list_pop ⟨_,e,rfl⟩ F.entry_list_pop (F.args_list_pop_2 _ _)
  (MeetsSeq.list_pop_at l its.toArray n i t k w (fitsIndex_both h1 h2) (by rw [Uy,<-hl];exact hk) (by rw [<-VP];exact hw) (by rw [Uy];omega)) ⟨e,?_⟩
 refine ⟨y,_,I.lset (its':=its.eraseIdx k) hH e ?_ (r.eraseIdx k) ?_,rw',q⟩
 ·show its.toArray.eraseIdxIfInBounds k=(its.eraseIdx k).toArray;rw [List.eraseIdxIfInBounds_toArray]
 ·have:=wZ xs k;omega
noncomputable def PY:R2:=λx y H Q=>∃l b xs zs,x=.ref l/\y=.ref b/\H l=some (.lst xs)/\H b=some (.lst zs)/\xs.length + zs.length<=sizeLine/\∀p,H p=none->Q (.ref p) (upd H p (.lst (xs++zs)))
theorem EY:c8 X (XD .Add) PY:=by
 intro T9 s σ H x y v u Q I rx ry h;obtain ⟨l,b,xs,zs,rfl,rfl,hH,hB,hz,q⟩:=h;cases rx;cases ry;obtain ⟨z,its,n,r,hl,e⟩:=I.lstM hH;obtain ⟨z2,its2,n2,r2,hl2,e2⟩:=I.lstM hB;refine PySem.P.add_list e e2 ?_ (by rw [Uy,Uy];omega);have ea:its.toArray++its2.toArray=(its++its2).toArray:=by simp
 rw [ea];exact ⟨.ref _,_,I.lnew (t':=s.toks) (r.append r2) (by rw [UI];omega),rfl,q _ I.fresh⟩
end
end L2
namespace Att
open PySem PySem.W PySem.Calls PyProof.Rows
theorem uS:∀(ns:List Int) (vs:List Uk),WellAll P h vs (ns.map afm)->YG vs ns:=by
 intro ns
 induction ns with
 | nil=>
  intro vs w;rw [aaX] at w;cases w;exact .nil
 | cons n ns ih=>
  intro vs w;rw [UH] at w;cases w with
  | cons a b=>
   cases a;exact .cons _ _ (ih _ b)
theorem FF {l:OpenLaw}(hn:l.most=some n){h:VB}
 (hpre:l.row.toRowW.claim.pre args=true) (hwl:WellAll P h vals args):
  ∃a vs ns,vals=[VN a]/\args=[WData.list (ns.map afm)]/\h.get? a=some {cls:=.type "list",data:=.seq vs.toArray}/\YG vs ns/\ns.length<=n:=by
 have hsh:WShape.hasAll [] args [.list .int]=true:=(pre_splitW hpre).1;have hc:l.pre.holds [] {args:=args}=true:=(pre_splitW hpre).2;obtain ⟨d,r,rfl,h1,h2⟩:=hasAllW_cons hsh;obtain rfl:=hasAllW_nil h2;obtain ⟨xs,rfl,h3⟩:=hasW_list h1;obtain ⟨ns,rfl⟩:=items_int h3;have hlen:ns.length<=n:=by
  unfold OpenLaw.pre at hc;have h4:(WTm.not (.lt (.lit (.int (n:Int))) (.len (.arg 0)))).holds [] {args:=[.list (ns.map .int)]}=true:=by have h4:=(holds_andW hc).1;rw [hn] at h4;exact h4
  have h5:=condW_of h4 (w_not (w_lt w_lit (w_len_list (w_arg rfl))));rw [Uo] at h5;refine acP λq=>?_;have q':(n:Int) < ((ns.length:Nat):Int):=by omega
  first
   | (rw [decide_eq_true q'] at h5;exact absurd h5 (by decide))
   | (simp at h5;omega)
 cases hwl with
 | cons w1 w2=>
  cases w2;cases w1 with
  | list ho hall=>exact ⟨_,_,ns,rfl,rfl,ho,uS ns _ hall,hlen⟩
theorem Fc (l:OpenLaw) (args:List WData):l.row.toRowW.claim.post args (.bool true) args=true:=
 postW_of (r:=l.row.toRowW) (X:=(true == true))
  (show ae8 [] (.bool true) .bool=true by first | rfl | decide | simp [ae8,WShape.arms,WShape.armsAll])
  (show (WTm.eq .res (.lit (.bool true))).value [] {args:=args,res:=some (.bool true),after:=args}=some (.bool (true == true)) from w_eq_bool (w_res rfl) w_lit) rfl
theorem AB {l:OpenLaw}{XP:(Str->Option Uk)->VB->Prop}{YP:U5->VB->Prop}{d:DefRec}
 (hn:l.most=some n) (hdf:d.params.defaults=[])
 (call:∀(w:U5) (s₀ s₁:Um) (mg mb:Str->Option Uk) (fa:UL) (o:Obj) (pm cd doc:Uk) (a:UL) (vs:List Uk) (ns:List Int),
 Ground q loose [] XP w s₀ mg mb s₁.heap->YP w s₁.heap->
 s₁.heap.get? fa=some o->o.data=.func (docDef d.name d.params d.body d.scope pm cd doc)->s₁.heap.CodeRec cd d.name->mg d.name=some (.ref fa)->
 s₁.heap.get? a=some {cls:=.type "list",data:=.seq vs.toArray}->YG vs ns->ns.length<=n->s₁.gens=#[]->
 WM (UO l.prog w) aci (.call (.ref fa) ⟨[.ref a],[]⟩) (λr s'=>r=.ok (.ret (.bool true))/\OldK s₁.heap s'.heap/\s'.os=s₁.os/\aam s'.gens) s₁):
  WalkO q loose XP YP l.row.toRowW d [] (λf vs=>adU f vs):=by intro w s₀ s₁ mg mb G Y fa o pm cd doc dV kV ho hd hcd hD hmg hg args vals as hpre hlay hrd hwl hlo;obtain rfl:dV=.none:=Dflts.none hD hdf;obtain rfl:kV=.none:=Dflts.noKw hD;obtain ⟨a,vs,ns,rfl,rfl,hobj,hints,hlen⟩:=FF hn hpre hwl;refine enter_call (Xz (call w s₀ s₁ mg mb fa o pm cd doc a vs ns G Y ho (fd_plain hd) hcd hmg hobj hints hlen hg) λr s' hq=>?_);obtain ⟨rfl,h2,h3,h4⟩:=hq;exact ⟨.inl ⟨.bool true,.bool true,[],rfl,λ_=>rfl,.bool true,Fc l _,λ_=>⟨WU,λ_ hm=>(nomatch hm)⟩⟩,h2,h3,h4⟩
end Att
namespace L2
open PySem PySem.Spec PyProof.Rows
theorem xM:∀{vs:List Uk}{ns:List Int},YG vs ns->Vals (ns.map V.int) vs
 | _,_,.nil=>.nil
 | _,_,.cons n t h=>.cons ⟨t,rfl⟩ (xM h)
def Cf (H:Hp):Prop:=∀b,H b=none\/∃o xs,H b=some (.frz o (.lst xs))
theorem GN {K:Ui}{mg mb:Str->Option Uk}{sp:Sp}{s₁:Um}{vs:List Uk}{ns:List Int}
 (KX:K.In s₁.heap) (hns:s₁.heap.Ns UW mg) (hb:s₁.heap.Ns adR mb) (S9:∀x:Str,x≠"__name__"->mb x=Vx x) (hlim:s₁.heap.NoLimit) (hg:s₁.gens=#[])
 (ha:s₁.heap.get? a=some {cls:=.type "list",data:=.seq vs.toArray}) (hi:YG vs ns) (hl:ns.length<=sizeLine) (hr:dB k aci)
 (F:∀base:VB,K.In base->base.Ns UW mg->fM P w K mg base CX k fa fd [x] sp) (hbind:∀(s:Um) (u:Uk),ac6 s fd ⟨[u],[]⟩ [(x,u)])
 (RD:∀H:Hp,Cf H->cj K H a (ns.map V.int)->sp [.ref a] H (λv _=>v=.bl true) λ_ _ _=>False)
 (R_:∀H e s',CX [] H s₁ (λ_ _ _=>False) e s'->False):
  WM (UO P w) aci (.call (.ref fa) ⟨[.ref a],[]⟩) (λr s'=>r=.ok (.ret (.bool true))/\OldK s₁.heap s'.heap/\s'.os=s₁.os/\aam s'.gens) s₁:=by
 have rv:=xM hi;have lenV:=hi.length;have core:∀H:Hp,Cf H->cj K H a (ns.map V.int)->fX P w H s₁.heap->(∀b,H b≠none->b=a)->(H a≠none->K.lookup a=none)->
   WM (UO P w) aci (.call (.ref fa) ⟨[.ref a],[]⟩) (λr s'=>r=.ok (.ret (.bool true))/\OldK s₁.heap s'.heap/\s'.os=s₁.os/\aam s'.gens) s₁:=by
  intro H hO hS hok hA hK;have base_of:∀{b:UL}{o:Obj},s₁.heap.get? b=some o->H b=none->(om s₁.heap H).get? b=some o:=λe n=>GA e n;have noA:∀{b:UL}{o:Obj}{es:Array aaZ}{ep:Nat},s₁.heap.get? b=some o->o.data=.dict es ep->H b=none:=fun {b o es ep} e d=>by
   cases q:H b with
   | none=>rfl
   | some u=>
    have e':b=a:=hA b (by rw [q];simp);subst e';rw [ha] at e;cases e;have d':Data.seq vs.toArray _=Data.dict es ep:=d;cases d'
  have nsK:∀{b:UL}{m:Str->Option Uk},s₁.heap.Ns b m->(om s₁.heap H).Ns b m:=fun {b m} ⟨o,es,ep,e,d,r⟩=>⟨o,es,ep,base_of e (noA e d),d,r⟩;have SH:K.In (om s₁.heap H):=λb o e=>base_of (KX b o e) (by
   cases q:H b with
   | none=>rfl
   | some u=>
    have e':b=a:=hA b (by rw [q];simp);subst e';rw [hK (by rw [q];simp)] at e;cases e)
  have hM:Mod K mg (om s₁.heap H):=⟨SH,nsK hns,⟨mb,nsK hb,S9⟩,let ⟨mc,h1,h2⟩:=hlim;⟨mc,nsK h1,h2⟩⟩;have e0:Cd P w K mg (om s₁.heap H) aci [] s₁ H:=⟨rfl,hM,λb o e=>Kf e,acF (ED _ _),trivial,λb hb=>absurd (show b∈([]:List UL) from hb) (by simp),hok,.of_eq hg⟩;refine Xz ((F _ SH (nsK hns)).run aci [] s₁ H ⟨[.ref a],[]⟩ [.ref a] [.ref a] _ _ hr e0 (hbind s₁ (.ref a)) (.cons rfl .nil) (RD H hO hS)) λr s' h=>?_;cases r with
  | error e=>exact (R_ H e s' h).elim
  | ok fl=>
   cases fl with
   | next=>exact Ye h
   | brk=>exact Ye h
   | cont=>exact Ye h
   | ret u=>
    obtain ⟨v,H',os,bare,un,Sv,r',q⟩:=h;have q':v=.bl true:=q;subst q';obtain rfl:u=Yd true:=r';refine ⟨rfl,OldK.of_keep λb o e=>?_,os,bare⟩;cases q:H b with
    | none=>exact un.keep b o e q (by intro z;exact absurd (show b∈([]:List UL) from z) (by simp)) (by simp)
    | some u=>
     rcases hO b with z | ⟨ob,xs,z⟩
     ·rw [q] at z;cases z
     ·have z2:=un.frzs b ob _ z;obtain ⟨e1,_⟩:=hok b _ z;obtain ⟨e2,_⟩:=Sv b _ z2;rw [e] at e1;cases e1;exact e2
 cases hk:K.lookup a with
 | some o=>
  have e:=KX a o hk;rw [ha] at e;cases e;refine core (λ_=>none) (λ_=>.inl rfl) (.inr ⟨_,vs.toArray,_,hk,rfl,rfl,rfl,by rw [Uy,lenV];exact hl,by simpa using rv⟩) (λb u z=>by have z':(none:Option HO)=some u:=z;cases z') (λb z=>absurd rfl z) λz=>absurd rfl z
 | none=>
  refine core (λb=>if b=a then some (.frz {cls:=.type "list",data:=.seq vs.toArray} (.lst (ns.map V.int))) else none) (λb=>?_) (.inl (.inr ⟨{cls:=.type "list",data:=.seq vs.toArray},if_pos rfl⟩)) (λb u z=>?_) (λb z=>?_) λ_=>hk
  ·by_cases hb:b=a
   ·exact .inr ⟨_,_,if_pos hb⟩
   ·exact .inl (if_neg hb)
  ·by_cases hb:b=a
   ·have z':=(if_pos hb).symm.trans z;cases z';subst hb;exact ⟨ha,by rw [Uo];exact hl,vs,_,rv,ha⟩
   ·have z':=(if_neg hb).symm.trans z;cases z'
  ·by_cases hb:b=a
   ·exact hb
   ·exact absurd (if_neg hb) z
abbrev QS {K:Ui}{h:VB}(_:K.In h):Ui:=K
theorem Lj {l:aa0}{XP:(Str->Option Uk)->VB->Prop}{YP:U5->VB->Prop}{d:DefRec}{K:ae4->Ui}{CX:U5->t9}{sp:U5->Sp}
 (hn:l.most=some n) (hn2:n<=sizeLine) (hdf:d.params.defaults=[]) (hr:dB k aci)
 (hY:∀(w:U5) (h:VB),YP w h->(K w.params).In h)
 (F:∀(w:U5) (mg:Str->Option Uk) (fa:UL) (h:VB),(K w.params).In h->h.Ns UW mg->mg d.name=some (.ref fa)->
 ∃fd:U6,(∀(s:Um) (u:Uk),ac6 s fd ⟨[u],[]⟩ [(x,u)])/\
 ∀base:VB,(K w.params).In base->base.Ns UW mg->fM l.prog w (K w.params) mg base (CX w) k fa fd [x] (sp w))
 (RD:∀(w:U5) (H:Hp) (a:UL) (ns:List Int),ns.length<=n->Cf H->cj (K w.params) H a (ns.map V.int)->sp w [.ref a] H (λv _=>v=.bl true) λ_ _ _=>False)
 (R_:∀(w:U5) (H:Hp) (s:Um) (e:Uk) (s':Um),CX w [] H s (λ_ _ _=>False) e s'->False):
  ad9 q loose XP YP l.row.toRowW d [] (λf vs=>adU f vs):=by refine Att.AB hn hdf λw s₀ s₁ mg mb fa o pm cd doc a vs ns G Y ho hd hcd hmg hobj hints hlen hg=>?_;have KX:=hY w _ Y;obtain ⟨fd,hb,hF⟩:=F w mg fa _ KX G.T.g hmg;exact GN KX G.T.g G.T.b G.T.builtins G.T.nolimit hg hobj hints (U1 hlen hn2) hr hF hb (λH hO hS=>RD w H a ns hlen hO hS) λH e s'=>R_ w H s₁ e s'
noncomputable def cP (s:Xg):Arguments:=match s with
 | .FunctionDef _ a _ _ _ _ _ _ _ _=>a
 | _=>{posonlyargs:=[],args:=[],vararg:=none,kwonlyargs:=[],kw_defaults:=[],kwarg:=none,defaults:=[]}
noncomputable def bR (s:Xg):List Xg:=match s with
 | .FunctionDef _ _ b _ _ _ _ _ _ _=>b
 | _=>[]
noncomputable def aV (s:Xg):X0:=match s with
 | .FunctionDef _ _ _ _ _ _ sc _ _ _=>sc
 | _=>{kind:=.function,names:=[],isGenerator:=false,isCoroutine:=false}
abbrev oX:t9:=λ_ _ _ _ _ _=>False
abbrev E0:XK:=λ_ _ _=>False
theorem Dg:Passes oX X E0:=λ_ _ _ _ _ _ _ h=>h.elim
structure k7 (K:Ui) (x Ub:Str) (st:Xg) (f:UL) (fd:U6):Prop where
 ex:∃(oc:Uk) (od:Option UL) (kV doc pm:Uk) (an:Option UL) (cdv ct:Uk) (osl:Array (Option Uk)),
  fd=Vr x Ub (cP st) (bR st) (aV st) .none kV doc pm an cdv ct/\K.lookup f=some ⟨oc,od,.func fd,osl⟩/\Xh K cdv Ub=true
 kp:VS K (.ref f)=true
section
variable {P:UG}{w:U5}{K:Ui}{mg:Str->Option Uk}{base:VB}
theorem k7.ok {st:Xg}{N ps:List Str}{sp:Sp}(F:k7 K x Ub st f fd) (S:eZ N ps (aV st)) (len:∀vs H Q E,sp vs H Q E->vs.length=ps.length)
 (hbody:∀(cdv:Uk) (A:U8) (outer:List Env) (s:Um) (H:Hp) (vs:List V) (Q:VK) (E:XK),dB k (A.deeper (ZX Ub (aV st) s.heap.objs.size f cdv))->sp vs H Q E->
 ∃t,kq (p_ oX P w K mg base N Ub (aV st) f cdv A outer s H E).nox (bR st) t/\t {nx:=λ_ H'=>Q .non H',rt:=Q} (start N vs) H):fM P w K mg base oX (k + 1) f fd ps sp:=by obtain ⟨oc,od,kV,doc,pm,an,cdv,ct,osl,rfl,lk,hcd⟩:=F.ex;refine IA lk hcd S len λA outer s H vs Q E hr RD=>?_;obtain ⟨t,h,q⟩:=hbody cdv A outer s H vs Q E hr RD;exact ⟨t,h.nox,q⟩
theorem k7.binds {st:Xg}{ps:List Str}(F:k7 K x Ub st f fd)
 (h:∀(kV doc pm:Uk) (an:Option UL) (cdv ct:Uk) (us:List Uk),us.length=ps.length->aao (Vr x Ub (cP st) (bR st) (aV st) .none kV doc pm an cdv ct) ⟨us,[]⟩=pure (ps.zip us)):Binds K fd ps []:=by obtain ⟨oc,od,kV,doc,pm,an,cdv,ct,osl,rfl,lk,hcd⟩:=F.ex;exact .all (h kV doc pm an cdv ct)
theorem Eu {st:Xg}{kV doc pm cdv ct:Uk}(l:K.lookup f=some ⟨oc,od,.func (Vr x Ub (cP st) (bR st) (aV st) .none kV doc pm an cdv ct),osl⟩)
 (c:Xh K cdv Ub=true) (k:VS K (.ref f)=true):k7 K x Ub st f (Vr x Ub (cP st) (bR st) (aV st) .none kV doc pm an cdv ct):=⟨⟨oc,od,kV,doc,pm,an,cdv,ct,osl,rfl,l,c⟩,k⟩
end
theorem Mr {A B:Prop}(h:B):if false=true then A else B:=by rw [if_neg UZ];exact h
theorem Ms {A B:Prop}(h:A):if true=true then A else B:=by rw [if_pos rfl];exact h
def aU (H H':Hp):Prop:=∀b o,H b=some o->H' b=some o
theorem aU.refl (H:Hp):aU H H:=λ_ _ h=>h
theorem aU.trans {H H1 H2:Hp}(a:aU H H1) (b:aU H1 H2):aU H H2:=λc o h=>b c o (a c o h)
theorem aU.free {H H':Hp}(e:aU H H') (h:H' l=aeR):H l=aeR:=by
 cases q:H l with
 | none=>rfl
 | some o=>
  rw [e l o q] at h;cases h
theorem aU.seq {K:Ui}{H H':Hp}{a:UL}{xs:List V}(e:aU H H') (h:cj K H a xs):cj K H' a xs:=by
 rcases h with (h | ⟨o,h⟩) | h
 ·exact .inl (.inl (e _ _ h))
 ·exact .inl (.inr ⟨o,e _ _ h⟩)
 ·exact .inr h
end L2
set_option maxHeartbeats 4000000
namespace K76
open PySem
def top (i:Nat):Xg:=VC.main.body.getD i (.Pass ⟨0,0,0,0⟩)
end K76
namespace K76
open PySem PySem.Spec PyProof.Rows L2
abbrev E (P:ae4) (k:Str) (t:Nat) (v:Uk):aaZ:=⟨PyData.keyHash P k,.str k t,v⟩
abbrev cU (P:ae4) (k:Str) (t r:Nat):aaZ:=E P k t (.ref r)
noncomputable def Pa (n:Str) (t l k a:Nat) (v w:Uk) (r u:Nat):Obj:=⟨.type "code",none,.fields #[.str n t,.str n (t + 1),.str "/claim/cut.py" (t + 2),.int l 0,.int k 0,.int 0 0,.int 0 0,.int 3 0,.ref a,.bool true,.int 181 0,.ref (a + 1),.none,v,w,.ref r,.int u 0,.int l 0,.str "/claim/cut.py" (u + 1)],#[]⟩
def gy (n:Str) (t l k a u:Nat):Obj:=Pa n t l k a (.ref (a + 2)) (.ref (a + 3)) (a + 4) u
def ny (n:Str) (t l k a u:Nat):Obj:=Pa n t l k a .none .none (a + 2) u
noncomputable def dS (n:Str) (k:Nat) (m:Uk) (c:Nat):Obj:=⟨.type "function",none,.func (Vr n n (cP (top k)) (bR (top k)) (aV (top k)) .none .none .none m none (.ref c) .none),#[]⟩
def Gy:Uk:=.str "pickalike.worlds" 273
def Gz:Uk:=.str "pickalike.checks" 296
def vN:Uk:=.str "pickalike.pairings" 325
def zD:Uk:=.str "pickalike.layers" 373
def tP:Uk:=.str "pickalike.counted" 412
def jM:Uk:=.str "law_pickalike_k76_whole_orders_and_counting" 481
def KF (P:ae4):Ui:=
(nat_lit 2,⟨.none,none,(.dict #[] 0),#[]⟩)::
(nat_lit 3,⟨(.type "dict"),none,(.dict #[E P "__name__" 165 (.str "law_pickalike_k76_whole_orders_and_counting" 481),E P "__doc__" 166 .none,E P "__package__" 167 .none,E P "__loader__" 168 (.builtin "__main__.__loader__#opaque"),E P "__spec__" 169 .none,cU P "__annotations__" 170 6,cU P "__builtins__" 171 4,E P "__file__" 173 (.str "/claim/cut.py" 172),E P "__cached__" 174 .none,cU P "PickError" 206 24,cU P "NoTongue" 222 37,cU P "TooMany" 247 56,cU P "NoCount" 272 75,cU P "is_whole" 281 84,cU P "tongue_of" 287 89,cU P "need_tongue" 295 96,E P "MOST_SMALL" 299 (.int 4 298),cU P "need_few_points" 307 103,cU P "need_small" 315 110,cU P "need_count" 324 117,cU P "rising" 333 124,cU P "view" 339 129,cU P "views" 345 134,cU P "agree" 355 141,cU P "goes_behind" 366 148,cU P "pairings" 372 153,E P "MOST_DEPTH" 376 (.int 6 375),cU P "added" 384 160,cU P "peeled" 390 165,cU P "pairings_with" 396 170,cU P "in_layer" 405 177,cU P "layers_of" 411 182,cU P "grid_of" 419 187,cU P "map_behind" 429 194,cU P "choices_in" 435 199,cU P "mapped_still" 443 206,cU P "counted_depths" 449 211,cU P "counted_layers" 458 218,cU P "counted_map" 470 225,cU P "counted_parted" 480 233,cU P "_law_cell_at" 490 240,cU P "_law_more" 501 247,cU P "_law_freed" 509 254,cU P "_law_names" 515 259,cU P "_law_world" 533 266,cU P "_law_flipped" 543 273,cU P "_law_turned" 549 278,cU P "_law_two" 566 285,cU P "_law_at" 577 292,cU P "_law_fit" 593 299,cU P "_law_pairings" 609 306,cU P "_law_order" 622 313,cU P "law" 628 318] 53),#[]⟩)::
(nat_lit 83,gy "is_whole" 275 17 1 78 279)::
(nat_lit 84,dS "is_whole" 6 Gy 83)::
(nat_lit 88,ny "tongue_of" 282 19 1 85 285)::
(nat_lit 89,dS "tongue_of" 7 Gy 88)::
(nat_lit 95,gy "need_tongue" 288 22 2 90 293)::
(nat_lit 96,dS "need_tongue" 8 Gy 95)::
(nat_lit 102,gy "need_few_points" 300 27 1 97 305)::
(nat_lit 103,dS "need_few_points" 11 Gz 102)::
(nat_lit 109,gy "need_small" 308 31 2 104 313)::
(nat_lit 110,dS "need_small" 12 Gz 109)::
(nat_lit 116,gy "need_count" 316 34 3 111 322)::
(nat_lit 117,dS "need_count" 13 Gz 116)::
(nat_lit 123,gy "rising" 327 38 1 118 331)::
(nat_lit 124,dS "rising" 15 vN 123)::
(nat_lit 128,ny "view" 334 42 3 125 337)::
(nat_lit 129,dS "view" 16 vN 128)::
(nat_lit 133,ny "views" 340 47 1 130 343)::
(nat_lit 134,dS "views" 17 vN 133)::
(nat_lit 140,gy "agree" 346 49 4 135 353)::
(nat_lit 141,dS "agree" 18 vN 140)::
(nat_lit 147,gy "goes_behind" 356 51 4 142 364)::
(nat_lit 148,dS "goes_behind" 19 vN 147)::
(nat_lit 152,ny "pairings" 367 58 3 149 370)::
(nat_lit 153,dS "pairings" 20 vN 152)::
(nat_lit 159,gy "added" 377 72 2 154 382)::
(nat_lit 160,dS "added" 23 zD 159)::
(nat_lit 164,ny "peeled" 385 74 2 161 388)::
(nat_lit 165,dS "peeled" 24 zD 164)::
(nat_lit 169,ny "pairings_with" 391 84 3 166 394)::
(nat_lit 170,dS "pairings_with" 25 zD 169)::
(nat_lit 176,gy "in_layer" 397 86 3 171 403)::
(nat_lit 177,dS "in_layer" 26 zD 176)::
(nat_lit 181,ny "layers_of" 406 88 2 178 409)::
(nat_lit 182,dS "layers_of" 27 zD 181)::
(nat_lit 186,ny "grid_of" 414 91 3 183 417)::
(nat_lit 187,dS "grid_of" 29 tP 186)::
(nat_lit 193,gy "map_behind" 420 95 2 188 427)::
(nat_lit 194,dS "map_behind" 30 tP 193)::
(nat_lit 198,ny "choices_in" 430 104 3 195 433)::
(nat_lit 199,dS "choices_in" 31 tP 198)::
(nat_lit 205,gy "mapped_still" 436 106 2 200 441)::
(nat_lit 206,dS "mapped_still" 32 tP 205)::
(nat_lit 210,ny "counted_depths" 444 108 3 207 447)::
(nat_lit 211,dS "counted_depths" 33 tP 210)::
(nat_lit 217,gy "counted_layers" 450 111 3 212 456)::
(nat_lit 218,dS "counted_layers" 34 tP 217)::
(nat_lit 224,gy "counted_map" 459 115 4 219 468)::
(nat_lit 225,dS "counted_map" 35 tP 224)::
(nat_lit 226,⟨(.type "tuple"),none,(.seq #[.none] 0),#[]⟩)::
(nat_lit 232,gy "counted_parted" 471 121 3 227 478)::
(nat_lit 233,⟨(.type "function"),none,(.func (Vr "counted_parted" "counted_parted" (cP (top 36)) (bR (top 36)) (aV (top 36)) (.ref 226) .none .none (.str "pickalike.counted" 412) none (.ref 232) .none)),#[]⟩)::
(nat_lit 239,gy "_law_cell_at" 483 126 2 234 488)::
(nat_lit 240,dS "_law_cell_at" 38 jM 239)::
(nat_lit 246,gy "_law_more" 491 130 2 241 499)::
(nat_lit 247,dS "_law_more" 39 jM 246)::
(nat_lit 253,gy "_law_freed" 502 143 2 248 507)::
(nat_lit 254,dS "_law_freed" 40 jM 253)::
(nat_lit 258,ny "_law_names" 510 149 2 255 513)::
(nat_lit 259,dS "_law_names" 41 jM 258)::
(nat_lit 265,gy "_law_world" 516 164 4 260 531)::
(nat_lit 266,dS "_law_world" 42 jM 265)::
(nat_lit 272,gy "_law_flipped" 534 183 2 267 541)::
(nat_lit 273,dS "_law_flipped" 43 jM 272)::
(nat_lit 277,ny "_law_turned" 544 190 2 274 547)::
(nat_lit 278,dS "_law_turned" 44 jM 277)::
(nat_lit 284,gy "_law_two" 550 203 2 279 564)::
(nat_lit 285,dS "_law_two" 45 jM 284)::
(nat_lit 291,gy "_law_at" 567 221 3 286 575)::
(nat_lit 292,dS "_law_at" 46 jM 291)::
(nat_lit 298,gy "_law_fit" 578 226 3 293 591)::
(nat_lit 299,dS "_law_fit" 47 jM 298)::
(nat_lit 305,gy "_law_pairings" 594 238 3 300 607)::
(nat_lit 306,dS "_law_pairings" 48 jM 305)::
(nat_lit 312,gy "_law_order" 610 251 4 307 620)::
(nat_lit 313,dS "_law_order" 49 jM 312)::
(nat_lit 317,ny "law" 623 261 1 314 626)::
(nat_lit 318,dS "law" 50 jM 317)::[]
noncomputable def VW:UG:={VC with main:={VC.main with body:=[top 1,top 2,top 3,top 4,top 6,top 7,top 8,top 10,top 11,top 12,top 13,top 15,top 16,top 17,top 18,top 19,top 20,top 22,top 23,top 24,top 25,top 26,top 27,top 29,top 30,top 31,top 32,top 33,top 34,top 35,top 38,top 39,top 40,top 41,top 42,top 43,top 44,top 45,top 46,top 47,top 48,top 49,top 50]}}
noncomputable def HK:W.Hook:=W.kHook KF [2,3,83,84,88,89,95,96,102,103,109,110,116,117,123,124,128,129,133,134,140,141,147,148,152,153,159,160,164,165,169,170,176,177,181,182,186,187,193,194,198,199,205,206,210,211,217,218,224,225,226,232,233,239,240,246,247,253,254,258,259,265,266,272,273,277,278,284,285,291,292,298,299,305,306,312,313,317,318] (λ_=>by kernel_rfl)
def XT:Um->Bool:=λs=>W.xlAt VW [] s && W.recOk (aeD Vb.row.toRowW) s
theorem look:adV Vb=true:=by decide +kernel
theorem left:W.LeftO Vb.row.prog VW ["counted_parted"] XT (afg HK) (afh HK) 4368:=λw=>by kernel_rfl
end K76
namespace DX
open PySem PySem.Spec
open Sem (wp)
abbrev Qu (C t:UL) (dx:Option UL):Obj:={cls:=.ref C,dict:=dx,data:=.fields #[.ref t,.none,.none,.none,.bool false,.none]}
end DX
namespace DX
open PySem PySem.Spec
section
variable {M:aer}{A:U8}{E:Uk->Um->Prop}{s:Um}
noncomputable def Qn (e C:UL) (dx:Option UL) (T:UL) (h:VB):Prop:=
 ∃oe vs oT ts,h.get? e=some oe/\oe.cls=.ref C/\oe.dict=dx/\oe.data=.fields vs/\vs[1]?=some (.ref T)/\T≠e/\h.get? T=some oT/\oT.data=.fields ts/\ts[3]?=some .none
end
end DX
namespace DX
open PySem PySem.Spec PyProof.Rows L2
def N7 (a C:UL) (dx:Option UL):VB->Prop:=λh=>∃oe vs,h.get? a=some oe/\oe.cls=.ref C/\oe.dict=dx/\oe.data=.fields vs
abbrev XO (a C:UL) (dx:Option UL):HO:=.ext (N7 a C dx)
noncomputable def Fl (e C:UL) (dx:Option UL):Option UL->VB->Prop
 | none,h=>∃t,h.get? e=some (Qu C t dx)
 | some T,h=>Qn e C dx T h
structure Pp (P:UG) (w:U5) (fs ex:List UL) (H:Hp) (s:Um) (E:XK) (e C:UL) (dx To:Option UL) (H':Hp) (s':Um):Prop where
 os:s'.os=s.os
 bare:aam s'.gens
 un:Un fs ex H H' s.heap s'.heap
 hok:fX P w H' s'.heap
 fl:Fl e C dx To s'.heap
 newE:s.heap.objs.size<=e
 newT:∀T∈To.toList,s.heap.objs.size<=T
 FW:H' e=some (XO e C dx)
 free:∀T∈To.toList,H' T=none
 wish:E (.ref e) dx H'
def we (P:UG) (w:U5):t9:=λouter H s E v s'=>∃e C dx T H',v=.ref e/\Pp P w (frs outer) [] H s E e C dx (some T) H' s'
end DX
namespace DX
open PySem PySem.Spec PyProof.Rows
open Sem (wp)
section
variable {prog:UG}{w:U5}{A:U8}{E:Uk->Um->Prop}{s:Um}{K:Ui}{x C:UL}{ox:Obj}{od:Option Obj}{name:Str}
theorem Gj {M:aer}{Q:Unit->Um->Prop}(X:K.In s.heap) (I:Yp s.heap x ox C od) (hm:Yh K C (.type "BaseException")=some true) (hq:Q () s):UB M A (Zo "BaseException.__getattribute__" ⟨[.ref x,nameV],[]⟩) Q E s:=by
 have hk:builtinKind "BaseException.__getattribute__"=some .slot:=by decide +kernel
 have RD:splitId "BaseException.__getattribute__"=some ("BaseException","__getattribute__"):=by decide +kernel
 have ha:=F.args_bexc_ga (.ref x) nameV;have L1:=I.type (M:=M);have L2:=W.looks_mroIn (M:=M) X hm;simp only [Zo,hk,RD];have L:W.Looks M s.heap (adW (.ref x) (.type "BaseException")) true:=L1.andThen L2;refine Uh (L.here ?_);obtain ⟨h,g,d,t,os⟩:=s
 repeat (any_goals (first | assumption | wp_step))
theorem entry_class {Q:Fin->Um->Prop}(X:K.In s.heap) (I:Yp s.heap x ox C od) (hf:ZG K C od "__class__"=some (.bind (.builtin "getset_descriptor.__get__") (.builtin "object.__class__"))) (hm:Yh K C (.type "object")=some true) (h:Q (.done (.ret (.ref C))) s):
  UB (UO prog w) A (X6.«object.__getattribute__» ⟨[.ref x,.str "__class__" tk],[]⟩) Q E s:=by obtain ⟨hh,g,d,t,os⟩:=s;have L0:=I.type (M:=UO prog w);have L1:=W.looks_find (M:=UO prog w) X I hf;refine Uh (Uj (Uh (Uj (Uh (L0.at (Uh (L1.at ?_)))))));show UB _ _ (holding [_] (call _ [_,.ref x,.ref C]) >>= ret) _ _ _;exact Uh (U7 (ab_ (W.class_get (ox:=ox) (od:=od) X I hm (Uj h))))
theorem Mc {tk:Tok}{fill expr:Bool}{Q:Uk->Um->Prop}(X:K.In s.heap) (I:Yp s.heap x ox C od) (hga:Xj K (.ref C) "__getattribute__"=some (some (.builtin "BaseException.__getattribute__"))) (hgt:Xj K (.ref C) "__getattr__"=some none)
  (h:WM (UO prog w) A (.call (.builtin "BaseException.__getattribute__") ⟨[.ref x,.str name tk],[]⟩) (λr s'=>match r with | .ok (.ret v)=>UB (UO prog w) A (handedOut v) Q E s' | _=>False) s):UB (UO prog w) A (getAttrBy (.ref x) (.str name tk) fill expr) Q E s:=by
 obtain ⟨hh,g,d,t,os⟩:=s;have L0:=I.type (M:=UO prog w);have L1:=abj (M:=UO prog w) X hga;have L2:=abj (M:=UO prog w) X hgt;have TU:(aar "BaseException.__getattribute__" == aar "object.__getattribute__")=false:=by decide +kernel
 unfold getAttrBy;refine U7 (Uh (L0.at (Uh (L1.at ?_))));dsimp only;rw [TU,XS,if_neg (by decide)];unfold getAttrByItsOwn;refine Uh (L2.at ?_);have h0:(expr && onTheHeap (aar "BaseException.__getattribute__"))=false:=by cases expr <;> rfl
 refine Uh (WO (U7 ?_));unfold callGetattribute;rw [h0,if_neg (by decide)];unfold boundAndCalled;rw [ZH.ga.bind (.ref x)];refine Uh (Uj (ab_ (Xz h λr s' q=>?_)))
 match r,q with
 | .ok (.ret v),q=>exact q
theorem get_class {Q:Option Uk->Um->Prop}(X:K.In s.heap) (I:Yp s.heap x ox C od) (hga:Xj K (.ref C) "__getattribute__"=some (some (.builtin "BaseException.__getattribute__"))) (hgt:Xj K (.ref C) "__getattr__"=some none)
  (hm:Yh K C (.type "BaseException")=some true) (hf:ZG K C od "__class__"=some (.bind (.builtin "getset_descriptor.__get__") (.builtin "object.__class__"))) (ho:Yh K C (.type "object")=some true) (h:Q (some (.ref C)) {s with toks:=s.toks + 1}):
  UB (UO prog w) A (getAttr? (.ref x) "__class__") Q E s:=by obtain ⟨hp,g,d,t,os⟩:=s;unfold getAttr? getAttrBy?;refine Uh (wpAny_mkText (Uh (WO (Mc (s:=⟨hp,g,d,t + 1,os⟩) X I hga hgt ?_))));refine abk ZH.ga.plain F.entry_bexc_ga (Gj (s:=⟨hp,g,d,t + 1,os⟩) X I hm (entry_class (s:=⟨hp,g,d,t + 1,os⟩) X I hf ho ?_));exact Uj (Uj h)
end
end DX
namespace DX
open PySem PySem.Spec PyProof.Rows L2
abbrev Aw:List Uk:=[.type "ValueError",.type "Exception",.type "BaseException",.type "object"]
def quiet:List Str:=["__init__","__setattr__","name","letter","many","told","point","row"]
structure GX (K:Ui) (P:UL):Prop where
 gt:acj K (.builtin "object.__class__") "__get__"=some (some (.builtin "getset_descriptor.__get__"))
 tk:ac_ K (.builtin "object.__class__")=some true
 lk:∃nm q N bs sn sub ab col dd k0 k1 k2 k3 k5,K.lookup P=some (excClassObj nm q P N bs Aw true sn sub ab col dd k0 k1 k2 k3 k5 "ValueError.__new__")/\∀h,K.In h->∃m,h.Ns N m/\∀n∈quiet,m n=none
structure XE (K:Ui) (P C:UL):Prop where
 lk:∃nm q N bs sn sub ab col dd k0 k1 k2 k3 k5,K.lookup C=some (excClassObj nm q C N bs (.ref P::Aw) true sn sub ab col dd k0 k1 k2 k3 k5 "ValueError.__new__")
 ga:Xj K (.ref C) "__getattribute__"=some (some (.builtin "BaseException.__getattribute__"))
 gt:Xj K (.ref C) "__getattr__"=some none
 cl:Xj K (.ref C) "__class__"=some (some (.builtin "object.__class__"))
section
variable {K:Ui}{P C:UL}
theorem Ej (X:XE K P C):∃cd,YH K C=some cd/\cd.mro=.ref C::.ref P::Aw/\cd.hasDict=true/\W.typeIn K (.ref C)=some (.type "type"):=by
 obtain ⟨nm,q,N,bs,sn,sub,ab,col,dd,k0,k1,k2,k3,k5,l⟩:=X.lk;have h1:YH K C=some {name:=nm,bases:=bs,mro:=.ref C::.ref P::Aw,ns:=N,qualname:=q,hasDict:=true,slotNames:=sn,subclasses:=sub,abstract:=ab,collection:=col,hasDel:=false}:=by unfold YH;rw [l]
 refine ⟨_,h1,rfl,rfl,?_⟩;show (K.lookup C).map (·.cls)=_;rw [l];rfl
theorem zO (X:XE K P C) (b:Uk):Yh K C b=some ((VN C::.ref P::Aw).contains b):=by obtain ⟨cd,h1,h2,_⟩:=Ej X;unfold Yh;rw [h1,aaD,h2];rfl
end
theorem MD {K:Ui}{P C:UL}(X:XE K P C){T:String}(h1:ada T=true) (h2:Aw.contains (.type T)=false):abq K (.ref C) (.type T)=some false:=by unfold abq W.kitCls;rw [if_neg (by simp)];simp only [h1,if_true];show Yh K C _=_;rw [zO X,abW,abW,h2];rfl
theorem JK {K:Ui}{C:UL}{od:Option Obj}{name:Str}{a g:Uk}(hc:(YH K C).isSome=true) (ha:Xj K (.ref C) name=some (some a)) (hg:acj K a "__get__"=some (some g)) (ht:ac_ K a=some true):ZG K C od name=some (.bind g a):=by obtain ⟨cd,hc⟩:=Vq.mp hc;unfold ZG;rw [hc,aaD,ha,aaD];simp [hg,ht]
theorem GK {K:Ui}{e P C:UL}(G:GX K P) (E:XE K P C):W.KitX K (.ref e) (.ref C) (λh=>∃ox od,Yp h e ox C od):=by
 obtain ⟨cd,hc,hm,hd,ht⟩:=Ej E;refine ⟨λM h _ ⟨ox,od,I⟩=>I.type,λM h X _=>?_,λh tp dd its n sl X htp=>?_,λX ⟨ox,od,I⟩ k=>?_⟩
 ·unfold YH at hc;split at hc
  ·rename_i ho;intro A' Q' E' s' k q;unfold isType loadHead;exact Uh (wpAny_loadPart (k _ _ (X _ _ ho)) (Uj q))
  ·cases hc
 ·refine ack.mpr λq=>?_;obtain rfl:C=tp:=afs (beq_iff_eq.mp q);unfold YH at hc;split at hc
  ·rename_i ho;have z:=(X _ _ ho).symm.trans htp;cases z
  ·cases hc
 ·exact get_class X I E.ga E.gt (by rw [zO E];simp) (JK (by rw [hc];rfl) E.cl G.gt G.tk) (by rw [zO E];simp) k
end DX
namespace DL
open PySem PySem.Spec PyProof.Rows L2
inductive D where
 | non | bl (b:Bool) | int (i:Int) | str (x:Str) | tup (xs:List D) | lst (xs:List D) | emp
 | exn (cls:Str) (ns:List Str) (ds:List D)
  | dct (ks vs:List D)
mutual
noncomputable def isKey:D->Bool
 | .int _=>true
 | .tup xs=>areKeys xs
 | _=>false
noncomputable def areKeys:List D->Bool
 | []=>true
 | x::xs=>isKey x && areKeys xs
end
mutual
noncomputable def bS:D->Int
 | .int i=>hashInt i
 | .tup xs=>adX (VL (cF xs))
 | _=>0
noncomputable def cF:List D->List Int
 | []=>[]
 | x::xs=>bS x::cF xs
end
mutual
noncomputable def dep:D->Nat
 | .tup xs=>deps xs + 1
 | .lst xs=>deps xs + 1
 | .emp=>5000
 | .exn _ _ _=>5000
 | .dct _ _=>5000
 | _=>0
noncomputable def deps:List D->Nat
 | []=>0
 | x::xs=>max (dep x) (deps xs)
end
structure Ly (ks:List D):Prop where
 key:areKeys ks=true
 nd:ks.Nodup
 dp:deps ks<=8
 tp:∀k∈ks,∃xs,k=.tup xs
def yy (p:Int×V×V) (e:aaZ):Prop:=e.hash=p.1/\RelV p.2.1 e.key/\RelV p.2.2 e.val
abbrev lD (a:UL) (ep:Nat) (Ue:List (Int×V×V)):HO:=.ext λh=>∃o es,h.get? a=some o/\o.ExactDict/\o.data=.dict es ep/\aaa yy Ue es.toList
noncomputable def XF (J:Hp) (dx:Option UL) (ns:List Str) (vs:List V):Prop:=(dx=none/\ns=[]/\vs=[])\/∃d,dx=some d/\ns.length=vs.length/\J d=some (.xd (ns.zip vs))
theorem XF.mono {J J':Hp}(e:aU J J') (h:XF J dx ns vs):XF J' dx ns vs:=by
 rcases h with h | ⟨d,h1,h2,h3⟩
 ·exact .inl h
 ·exact .inr ⟨d,h1,h2,e _ _ h3⟩
mutual
inductive Rep (K:Ui) (J:Hp):D->V->Prop
 | non:Rep K J .non .non
 | bl (b:Bool):Rep K J (.bl b) (.bl b)
 | int (i:Int):Rep K J (.int i) (.int i)
 | str (x:Str):Rep K J (.str x) (.str x)
 | emp {a:UL}:J a=some (.dK [])->Rep K J .emp (.ref a)
 | tup {a:UL}{vs:List V}{ds:List D}:cY K J a vs->aK K J ds vs->Rep K J (.tup ds) (.ref a)
 | lst {a:UL}{vs:List V}{ds:List D}:cj K J a vs->aK K J ds vs->Rep K J (.lst ds) (.ref a)
 | exn {a C:UL}{dx:Option UL}{cls:Str}{ns:List Str}{vs:List V}{ds:List D}:J a=some (DX.XO a C dx)->Va K UW cls=some (some (.ref C))->XF J dx ns vs->aK K J ds vs->(∃P,DX.GX K P/\DX.XE K P C)->Rep K J (.exn cls ns ds) (.ref a)
 | dct {a:UL}{ep:Nat}{ks vs:List D}{us ws:List V}:J a=some (lD a ep ((cF ks).zip (us.zip ws)))->aK K J ks us->aK K J vs ws->Ly ks->(a == XR)=false/\ks.length=vs.length->Rep K J (.dct ks vs) (.ref a)
inductive aK (K:Ui) (J:Hp):List D->List V->Prop
 | nil:aK K J [] []
 | cons {d:D}{v:V}{ds:List D}{vs:List V}:Rep K J d v->aK K J ds vs->aK K J (d::ds) (v::vs)
end
theorem eY {K:Ui}{H H':Hp}{a:UL}{xs:List V}(e:aU H H') (h:cY K H a xs):cY K H' a xs:=by
 rcases h with (h | ⟨o,h⟩) | h
 ·exact .inl (.inl (e _ _ h))
 ·exact .inl (.inr ⟨o,e _ _ h⟩)
 ·exact .inr h
mutual
theorem Rep.mono {K:Ui}{J J':Hp}(e:aU J J'):∀{d:D}{v:V},Rep K J d v->Rep K J' d v
 | _,_,.non=>.non
 | _,_,.bl b=>.bl b
 | _,_,.int i=>.int i
 | _,_,.str x=>.str x
 | _,_,.emp h=>.emp (e _ _ h)
 | _,_,.tup h hs=>.tup (eY e h) (aK.mono e hs)
 | _,_,.lst h hs=>.lst (e.seq h) (aK.mono e hs)
 | _,_,.exn h1 h2 h3 hs hx=>.exn (e _ _ h1) h2 (h3.mono e) (aK.mono e hs) hx
 | _,_,.dct h h1 h2 h3 h4=>.dct (e _ _ h) (aK.mono e h1) (aK.mono e h2) h3 h4
theorem aK.mono {K:Ui}{J J':Hp}(e:aU J J'):∀{ds:List D}{vs:List V},aK K J ds vs->aK K J' ds vs
 | _,_,.nil=>.nil
 | _,_,.cons h hs=>.cons (Rep.mono e h) (aK.mono e hs)
end
section
variable {K:Ui}{J:Hp}
theorem aK.length:∀{ds:List D}{vs:List V},aK K J ds vs->ds.length=vs.length
 | _,_,.nil=>rfl
 | _,_,.cons _ hs=>congrArg (· + 1) (aK.length hs)
theorem aK.get:∀{ds:List D}{vs:List V}{i:Nat}{d:D},aK K J ds vs->ds[i]?=some d->∃v,vs[i]?=some v/\Rep K J d v
 | _,_,_,_,.nil,e=>by simp at e
 | _,_,0,_,.cons r _,e=>by simp at e;subst e;exact ⟨_,rfl,r⟩
 | _,_,i + 1,d,.cons _ t,e=>by obtain ⟨v,h1,h2⟩:=aK.get (i:=i) (d:=d) t (by simpa using e);exact ⟨v,by simpa using h1,h2⟩
theorem aK.append:∀{ds es:List D}{vs us:List V},aK K J ds vs->aK K J es us->aK K J (ds++es) (vs++us)
 | _,_,_,_,.nil,s=>s
 | _,_,_,_,.cons r t,s=>.cons r (aK.append t s)
theorem aK.take:∀{ds:List D}{vs:List V}(n:Nat),aK K J ds vs->aK K J (ds.take n) (vs.take n)
 | _,_,0,_=>.nil
 | _,_,_ + 1,.nil=>.nil
 | _,_,n + 1,.cons r t=>.cons r (aK.take n t)
theorem aK.drop:∀{ds:List D}{vs:List V}(n:Nat),aK K J ds vs->aK K J (ds.drop n) (vs.drop n)
 | _,_,0,r=>r
 | _,_,_ + 1,.nil=>.nil
 | _,_,n + 1,.cons _ t=>aK.drop n t
end
noncomputable def eE (K:Ui) (J H:Hp) (a:UL) (ks vs:List D):Prop:=∃us ws ep,H a=some (lD a ep ((cF ks).zip (us.zip ws)))/\aK K J ks us/\aK K J vs ws/\Ly ks/\(a == XR)=false/\ks.length=vs.length
theorem eE.mono {K:Ui}{J J' H H':Hp}{a:UL}{ks vs:List D}(e:aU J J') (e':aU H H'):eE K J H a ks vs->eE K J' H' a ks vs
 | ⟨us,ws,ep,h1,h2,h3,h4⟩=>⟨us,ws,ep,e' _ _ h1,h2.mono e,h3.mono e,h4⟩
theorem eE.ne {K:Ui}{J H:Hp}{a:UL}{ks vs:List D}:eE K J H a ks vs->H a≠none
 | ⟨us,ws,ep,h1,_⟩=>by rw [h1];intro z;cases z
theorem eE.rep {K:Ui}{J H:Hp}{a:UL}{ks vs:List D}(e:aU J H):eE K J H a ks vs->Rep K H (.dct ks vs) (.ref a)
 | ⟨us,ws,ep,h1,h2,h3,h4,h5⟩=>.dct h1 (h2.mono e) (h3.mono e) h4 h5
structure Exc where
 cls:Str
 ns:List Str
 ds:List D
inductive M (α:Type) where
 | bad | ok (a:α) | exc (x:Exc)
noncomputable def M.bind {α β:Type}:M α->(α->M β)->M β
 | .bad,_=>.bad
 | .ok a,f=>f a
 | .exc x,_=>.exc x
instance:Monad M where
 pure:=M.ok
 bind:=M.bind
@[simp] theorem aQ {α β:Type}(a:α) (f:α->M β):(M.ok a >>= f)=f a:=rfl
noncomputable def cA {α:Type}(m:M α) (Q:α->Prop) (T:Exc->Prop):Prop:=match m with
 | .bad=>False
 | .ok a=>Q a
 | .exc x=>T x
theorem aI {α β:Type}{m:M α}{f:α->M β}{Q:β->Prop}{T:Exc->Prop}(h:cA (m >>= f) Q T):cA m (λa=>cA (f a) Q T) T:=by
 cases m with
 | bad=>exact h
 | ok a=>exact h
 | exc x=>exact h
theorem aE {α:Type}{m:M α}{Q Q':α->Prop}{T:Exc->Prop}(h:cA m Q T) (k:∀a,Q a->Q' a):cA m Q' T:=by
 cases m with
 | bad=>exact h
 | ok a=>exact k a h
 | exc x=>exact h
inductive Md where
 | fresh | own | bor
inductive R where
 | d (x:D) | l (m:Md) (xs:List D)
  | mo (ks vs:List D) | mb (ks vs:List D) | mf (ks vs:List D)
inductive S where
 | d (x:D) | own (xs:List D) | bor (xs:List D) | dk (ks vs:List D) | db (ks vs:List D)
  | fn (x:Str)
abbrev Ev:=List (Option S)
abbrev Mn:=List D ⊕ (List D×List D)
noncomputable def mS:Mn->S
 | .inl xs=>.own xs
 | .inr p=>.dk p.1 p.2
structure C where
 K:Ui
 H0:Hp
 J0:Hp
 T:Exc->Prop
structure HI (c:C) (J H:Hp):Prop where
 sub:aU J H
 ent:aU c.H0 H
 entJ:aU c.J0 J
 frz:∀a,c.H0 a≠none->c.J0 a=none->J a=none
structure Ext (J H J' H':Hp):Prop where
 h:aU H H'
 j:aU J J'
 sub:aU J' H'
 frz:∀a,H a≠none->J a=none->J' a=none
theorem aU.ne {H H':Hp}(e:aU H H') (h:H a≠none):H' a≠none:=by
 cases q:H a with
 | none=>exact absurd q h
 | some o=>rw [e a o q];intro z;cases z
theorem Ext.refl {J H:Hp}(h:aU J H):Ext J H J H:=⟨aU.refl H,aU.refl J,h,λ_ _ q=>q⟩
theorem Ext.trans {J H J1 H1 J2 H2:Hp}(a:Ext J H J1 H1) (b:Ext J1 H1 J2 H2):Ext J H J2 H2:=
 ⟨a.h.trans b.h,a.j.trans b.j,b.sub,λp h q=>b.frz p (aU.ne a.h h) (a.frz p h q)⟩
theorem HI.ext {J H J' H':Hp}(h:HI c J H) (e:Ext J H J' H'):HI c J' H':=
 ⟨e.sub,h.ent.trans e.h,h.entJ.trans e.j,λa h0 j0=>e.frz a (aU.ne h.ent h0) (h.frz a h0 j0)⟩
theorem cJ {H:Hp}(h:H p=none) (o:HO):aU H (upd H p o):=λb u q=>by rw [bq (eu q h)];exact q
theorem Ext.new {J H:Hp}(h:aU J H) (e:H p=none) (o:HO):Ext J H J (upd H p o):=
 ⟨cJ e o,aU.refl J,λb u q=>cJ e o b u (h b u q),λ_ _ q=>q⟩
theorem Ext.newJ {J H:Hp}(h:aU J H) (e:H p=none) (o:HO):Ext J H (upd J p o) (upd H p o):=
 ⟨cJ e o,cJ (h.free e) o,λb u q=>by
  by_cases hb:b=p
  ·subst hb;rw [bN] at q ⊢;exact q
  ·rw [bq hb] at q ⊢;exact h b u q,λa ha q=>by
  have:a≠p:=λz=>ha (z▸e);rw [bq this];exact q⟩
noncomputable def sS (c:C) (J H:Hp):S->V->Prop
 | .d x,v=>Rep c.K J x v
 | .own xs,v=>∃a vs,v=.ref a/\H a=some (.lst vs)/\J a=none/\c.H0 a=none/\aK c.K J xs vs
 | .bor xs,v=>∃a vs,v=.ref a/\cj c.K c.H0 a vs/\aK c.K J xs vs
 | .dk ks vs,v=>∃a,v=.ref a/\eE c.K J H a ks vs/\J a=none/\c.H0 a=none
 | .db ks vs,v=>∃a,v=.ref a/\eE c.K J c.H0 a ks vs
 | .fn x,v=>∃f,v=.ref f/\Va c.K UW x=some (some (.ref f))
theorem sS.ext {c:C}{J H J' H':Hp}(e:Ext J H J' H'):∀{x:S}{v:V},sS c J H x v->sS c J' H' x v
 | .d x,v,h=>Rep.mono e.j h
 | .own xs,v,⟨a,vs,h1,h2,h3,h4,h5⟩=>⟨a,vs,h1,e.h _ _ h2,e.frz a (by rw [h2];intro z;cases z) h3,h4,aK.mono e.j h5⟩
 | .bor xs,v,⟨a,vs,h1,h2,h3⟩=>⟨a,vs,h1,h2,aK.mono e.j h3⟩
 | .dk _ _,v,⟨a,h1,h2,h3,h4⟩=>⟨a,h1,h2.mono e.j e.h,e.frz a h2.ne h3,h4⟩
 | .db _ _,v,⟨a,h1,h2⟩=>⟨a,h1,h2.mono e.j (aU.refl _)⟩
 | .fn _,v,h=>h
structure SR (c:C) (J H:Hp) (σ:L2.St) (env:Ev):Prop where
 hp:HI c J H
 len:env.length=σ.length
 at_:∀(i:Nat) (x:S),env[i]?=some (some x)->∃v,σ[i]?=some (some v)/\sS c J H x v
 sep:∀(i j:Nat) (xs ys:Mn) (v:V),i≠j->env[i]?=some (some (mS xs))->env[j]?=some (some (mS ys))->σ[i]?=some (some v)->σ[j]?≠some (some v)
theorem SR.ext {J H J' H':Hp}(h:SR c J H σ env) (e:Ext J H J' H'):SR c J' H' σ env:=
 ⟨h.hp.ext e,h.len,λi x q=>let ⟨v,q1,q2⟩:=h.at_ i x q;⟨v,q1,q2.ext e⟩,h.sep⟩
theorem SR.mine {c:C}{J H:Hp}{σ:L2.St}{env:Ev}(sr:SR c J H σ env){i:Nat}:∀{x:Mn},env[i]?=some (some (mS x))->∃p,σ[i]?=some (some (.ref p))/\H p≠none/\J p=none/\c.H0 p=none
 | .inl xs,h=>let ⟨_,k1,p,vs,e,k2,k3,k4,_⟩:=sr.at_ i (.own xs) h;⟨p,e▸k1,by rw [k2];exact λz=>(by cases z),k3,k4⟩
 | .inr q,h=>let ⟨_,k1,p,e,k2,k3,k4⟩:=sr.at_ i (.dk q.1 q.2) h;⟨p,e▸k1,k2.ne,k3,k4⟩
noncomputable def RR (c:C) (He J H:Hp):R->V->Prop
 | .d x,v=>Rep c.K J x v
 | .l .fresh xs,v=>∃a vs,v=.ref a/\H a=some (.lst vs)/\J a=none/\He a=none/\aK c.K J xs vs
 | .l .own xs,v=>∃a vs,v=.ref a/\H a=some (.lst vs)/\J a=none/\c.H0 a=none/\aK c.K J xs vs
 | .l .bor xs,v=>∃a vs,v=.ref a/\cj c.K c.H0 a vs/\aK c.K J xs vs
 | .mo ks vs,v=>∃a,v=.ref a/\eE c.K J H a ks vs/\J a=none/\c.H0 a=none
 | .mb ks vs,v=>∃a,v=.ref a/\eE c.K J c.H0 a ks vs
 | .mf ks vs,v=>∃a,v=.ref a/\eE c.K J H a ks vs/\J a=none/\He a=none
theorem RR.ext {c:C}{He J H J' H':Hp}(e:Ext J H J' H'):∀{x:R}{v:V},RR c He J H x v->RR c He J' H' x v
 | .d x,v,h=>Rep.mono e.j h
 | .l .fresh xs,v,⟨a,vs,h1,h2,h3,h4,h5⟩=>⟨a,vs,h1,e.h _ _ h2,e.frz a (by rw [h2];intro z;cases z) h3,h4,aK.mono e.j h5⟩
 | .l .own xs,v,⟨a,vs,h1,h2,h3,h4,h5⟩=>⟨a,vs,h1,e.h _ _ h2,e.frz a (by rw [h2];intro z;cases z) h3,h4,aK.mono e.j h5⟩
 | .l .bor xs,v,⟨a,vs,h1,h2,h3⟩=>⟨a,vs,h1,h2,aK.mono e.j h3⟩
 | .mo _ _,v,⟨a,h1,h2,h3,h4⟩=>⟨a,h1,h2.mono e.j e.h,e.frz a h2.ne h3,h4⟩
 | .mb _ _,v,⟨a,h1,h2⟩=>⟨a,h1,h2.mono e.j (aU.refl _)⟩
 | .mf _ _,v,⟨a,h1,h2,h3,h4⟩=>⟨a,h1,h2.mono e.j e.h,e.frz a h2.ne h3,h4⟩
theorem RR.from {c:C}{He He' J H:Hp}(e:aU He He'):∀{x:R}{v:V},RR c He' J H x v->RR c He J H x v
 | .d x,v,h=>h
 | .l .fresh xs,v,⟨a,vs,h1,h2,h3,h4,h5⟩=>⟨a,vs,h1,h2,h3,e.free h4,h5⟩
 | .l .own xs,v,h=>h
 | .l .bor xs,v,h=>h
 | .mo _ _,v,h=>h
 | .mb _ _,v,h=>h
 | .mf _ _,v,⟨a,h1,h2,h3,h4⟩=>⟨a,h1,h2,h3,e.free h4⟩
noncomputable def kB:R->M (List D)
 | .d (.lst xs)=>.ok xs
 | .l _ xs=>.ok xs
 | _=>.bad
noncomputable def toD:R->M D
 | .d x=>.ok x
 | .l .fresh xs=>.ok (.lst xs)
 | .mf ks vs=>.ok (.dct ks vs)
 | _=>.bad
theorem RR.list {c:C}{He J H:Hp}(hp:HI c J H):∀{r:R}{v:V}{xs:List D},RR c He J H r v->kB r=.ok xs->∃a vs,v=.ref a/\cj c.K H a vs/\aK c.K J xs vs
 | .d (.lst ys),v,xs,h,e=>by
  cases e;cases h with
  | lst h hs=>exact ⟨_,_,rfl,hp.sub.seq h,hs⟩
 | .l .fresh ys,v,xs,⟨a,vs,h1,h2,h3,h4,h5⟩,e=>by cases e;exact ⟨a,vs,h1,cj.of h2,h5⟩
 | .l .own ys,v,xs,⟨a,vs,h1,h2,h3,h4,h5⟩,e=>by cases e;exact ⟨a,vs,h1,cj.of h2,h5⟩
 | .l .bor ys,v,xs,⟨a,vs,h1,h2,h3⟩,e=>by cases e;exact ⟨a,vs,h1,hp.ent.seq h2,h3⟩
 | .d .non,_,_,_,e=>nomatch e
 | .d (.bl _),_,_,_,e=>nomatch e
 | .d (.int _),_,_,_,e=>nomatch e
 | .d (.str _),_,_,_,e=>nomatch e
 | .d (.tup _),_,_,_,e=>nomatch e
 | .d .emp,_,_,_,e=>nomatch e
 | .d (.dct _ _),_,_,_,e=>nomatch e
 | .mo _ _,_,_,_,e=>nomatch e
 | .mb _ _,_,_,_,e=>nomatch e
 | .mf _ _,_,_,_,e=>nomatch e
theorem Bq {Je He J H:Hp}(x:Ext Je He J H) (h2:H a=some o) (h3:J a=none) (h4:He a=none):Ext Je He (upd J a o) H:=by
 refine ⟨x.h,x.j.trans (cJ h3 _),λb u q=>?_,λb hb q=>?_⟩
 ·by_cases hb:b=a
  ·subst hb;rw [bN] at q;cases q;exact h2
  ·rw [bq hb] at q;exact x.sub b u q
 ·have:b≠a:=λz=>hb (z▸h4);rw [bq this];exact x.frz b hb q
theorem freeze {c:C}{Je He J H:Hp}(x:Ext Je He J H):∀{r:R}{v:V}{d:D},RR c He J H r v->toD r=.ok d->∃J',Ext Je He J' H/\aU J J'/\Rep c.K J' d v
 | .d y,v,d,h,e=>by cases e;exact ⟨J,x,aU.refl J,h⟩
 | .l .fresh ys,v,d,⟨a,vs,h1,h2,h3,h4,h5⟩,e=>by cases e;subst h1;exact ⟨_,Bq x h2 h3 h4,cJ h3 _,.lst (.inl (.inl bN)) (aK.mono (cJ h3 _) h5)⟩
 | .mf ks vs,v,d,⟨a,h1,⟨us,ws,ep,h2,m1,m2,m3⟩,h3,h4⟩,e=>by cases e;subst h1;exact ⟨_,Bq x h2 h3 h4,cJ h3 _,.dct bN (m1.mono (cJ h3 _)) (m2.mono (cJ h3 _)) m3.1 m3.2⟩
 | .l .own _,_,_,_,e=>nomatch e
 | .l .bor _,_,_,_,e=>nomatch e
 | .mo _ _,_,_,_,e=>nomatch e
 | .mb _ _,_,_,_,e=>nomatch e
abbrev G (α:Type):=Ev->M α
def tD (c:C) (g:G R):TE:=λσ H Q=>∃J env,SR c J H σ env/\cA (g env) (λr=>∀v J' H',Ext J H J' H'->RR c H J' H' r v->Q v H') c.T
def PD (X:Cx) (c:C) (e:U_) (g:G R):Prop:=PE X e (tD c g)
def tB (c:C) (g:G Bool):TT:=λσ H Q=>∃J env,SR c J H σ env/\cA (g env) (λb=>∀J' H',Ext J H J' H'->Q b H') c.T
def PB (X:Cx) (c:C) (e:U_) (g:G Bool):Prop:=PT X e (tB c g)
noncomputable def kr (c:C) (He J H:Hp):List R->List V->Prop
 | [],vs=>vs=[]
 | r::rs,vs=>∃v us,vs=v::us/\RR c He J H r v/\kr c He J H rs us
def tA (c:C) (g:G (List R)):TA:=λσ H Q=>∃J env,SR c J H σ env/\cA (g env) (λrs=>∀vs J' H',Ext J H J' H'->kr c H J' H' rs vs->Q vs H') c.T
def DQ (X:Cx) (c:C) (es:List U_) (g:G (List R)):Prop:=PA X es (tA c g)
def Qz (c:C) (g:G (List D)):TA:=λσ H Q=>∃J env,SR c J H σ env/\cA (g env) (λds=>∀vs J' H',Ext J H J' H'->aK c.K J' ds vs->Q vs H') c.T
def Qp (X:Cx) (c:C) (es:List U_) (g:G (List D)):Prop:=PA X es (Qz c g)
inductive O where
 | nx (e:Ev) | rt (r:R) | bk (e:Ev) | ct (e:Ev)
noncomputable def RF (c:C) (J H:Hp):R->V->Prop
 | .d x,v=>Rep c.K J x v
 | .l _ xs,v=>∃a vs,v=.ref a/\H a=some (.lst vs)/\J a=none/\c.H0 a=none/\aK c.K J xs vs
 | .mf ks vs,v=>∃a,v=.ref a/\eE c.K J H a ks vs/\J a=none/\c.H0 a=none
 | _,_=>False
noncomputable def oP (c:C) (J:Hp) (E:Ends):O->Prop
 | .nx e=>∀σ' J' H',aU J J'->SR c J' H' σ' e->E.nx σ' H'
 | .rt r=>∀v J' H',aU J J'->HI c J' H'->RF c J' H' r v->E.rt v H'
 | .bk e=>∀σ' J' H',aU J J'->SR c J' H' σ' e->E.bk σ' H'
 | .ct e=>∀σ' J' H',aU J J'->SR c J' H' σ' e->E.ct σ' H'
def tS (c:C) (g:G O):TS:=λE σ H=>∃J env,SR c J H σ env/\cA (g env) (oP c J E) c.T
def Lz (X:Cx) (c:C) (st:Xg) (g:G O):Prop:=PS X st (tS c g)
def Im (X:Cx) (c:C) (st:List Xg) (g:G O):Prop:=kq X st (tS c g)
theorem oP.mono {c:C}{J J1:Hp}{E:Ends}(e:aU J J1):∀{o:O},oP c J E o->oP c J1 E o
 | .nx _,h=>λσ' J' H' q r=>h σ' J' H' (e.trans q) r
 | .rt _,h=>λσ' J' H' q r=>h σ' J' H' (e.trans q) r
 | .bk _,h=>λσ' J' H' q r=>h σ' J' H' (e.trans q) r
 | .ct _,h=>λσ' J' H' q r=>h σ' J' H' (e.trans q) r
theorem fC {t t':TE}(h:PE X e t) (k:∀σ H Q,t' σ H Q->t σ H Q):PE X e t':=λT9 s σ H Q I q=>h T9 s σ H Q I (k σ H Q q)
theorem yp (h:PT X e t) (k:∀σ H Q,t' σ H Q->t σ H Q):PT X e t':=λT9 s σ H Q I q=>h T9 s σ H Q I (k σ H Q q)
theorem yl (h:PA X es t) (k:∀σ H Q,t' σ H Q->t σ H Q):PA X es t':=λpos T9 s σ H Q I q=>h pos T9 s σ H Q I (k σ H Q q)
theorem iQ {st:Xg}{t t':TS}(h:PS X st t) (k:∀D σ H,t' D σ H->t D σ H):PS X st t':=λT9 s σ H D I q=>h T9 s σ H D I (k D σ H q)
theorem Ff {st:List Xg}{t t':TS}(h:kq X st t) (k:∀D σ H,t' D σ H->t D σ H):kq X st t':=λT9 s σ H D I q=>h T9 s σ H D I (k D σ H q)
section
variable {X:Cx}{c:C}{e a b:U_}{ga gb:G R}{pos:Pos}
noncomputable def S.rd:S->M R
 | .d x=>.ok (.d x)
 | .own xs=>.ok (.l .own xs)
 | .bor xs=>.ok (.l .bor xs)
 | .dk ks vs=>.ok (.mo ks vs)
 | .db ks vs=>.ok (.mb ks vs)
 | .fn _=>.bad
noncomputable def af (i:Nat):G R:=λenv=>match env[i]? with
 | some (some x)=>x.rd
 | _=>.bad
theorem Kw (h:PE X (.Name x pos) (NP i)):PD X c (.Name x pos) (af i):=fC h λσ H Q ⟨J,env,sr,w⟩=>by
 unfold af at w;cases q:env[i]? with
 | none=>rw [q] at w;exact w.elim
 | some o=>
  cases o with
  | none=>rw [q] at w;exact w.elim
  | some x=>
   rw [q] at w;obtain ⟨v,h1,h2⟩:=sr.at_ i x q;refine ⟨v,h1,?_⟩;cases x with
   | fn _=>exact w.elim
   | _=>exact w v J H (Ext.refl sr.hp.sub) h2
def gC (d:D):G R:=λ_=>.ok (.d d)
theorem uX (hr:∀J,Rep c.K J d v) (h:PE X e (tC v)):PD X c e (gC d):=fC h λσ H Q ⟨J,env,sr,w⟩=>w v J H (Ext.refl sr.hp.sub) (hr J)
noncomputable def BD (c:C) (r:R2) (f:R->R->M R):Prop:=∀(He He' J H:Hp) (x y:R) (u v:V) (Q:VK),HI c J H->RR c He J H x u->RR c He' J H y v->
 cA (f x y) (λz=>∀w J' H',Ext J H J' H'->RR c H J' H' z w->Q w H') c.T->r u v H Q
def g2 (f:R->R->M R) (ga gb:G R):G R:=λenv=>ga env >>= λx=>gb env >>= λy=>f x y
theorem two {P:R->R->M R}{σ:L2.St}{H:Hp}{k:V->V->Hp->Prop}{Q:VK}{J:Hp}{env:Ev}(sr:SR c J H σ env)
  (w:cA (g2 P ga gb env) (λr=>∀v J' H',Ext J H J' H'->RR c H J' H' r v->Q v H') c.T)
  (hk:∀x y u v J2 H2,SR c J2 H2 σ env->Ext J H J2 H2->RR c H J2 H2 x u->RR c H J2 H2 y v->cA (P x y) (λz=>∀w J' H',Ext J2 H2 J' H'->RR c H2 J' H' z w->Q w H') c.T->k u v H2):
  tD c ga σ H λu H1=>tD c gb σ H1 λv H2=>k u v H2:=by refine ⟨J,env,sr,aE (aI w) λx wx u J1 H1 e1 r1=>?_⟩;have sr1:=sr.ext e1;refine ⟨J1,env,sr1,aE (aI wx) λy wy v J2 H2 e2 r2=>?_⟩;exact hk x y u v J2 H2 (sr1.ext e2) (e1.trans e2) (r1.ext e2) (RR.from e1.h r2) (aE wy λz q w J' H' e3 r3=>q w J' H' ((e1.trans e2).trans e3) (RR.from (e1.h.trans e2.h) r3))
theorem G_ {t:TE}{f:R->R->M R}(ht:PE X e t) (heq:t=FP r (tD c ga) (tD c gb)) (hf:BD c r f):PD X c e (g2 f ga gb):=by subst heq;exact fC ht λσ H Q ⟨J,env,sr,w⟩=>two (k:=λu v H2=>r u v H2 Q) sr w λx y u v J2 H2 sr2 e2 r1 r2 q=>hf H H J2 H2 x y u v Q sr2.hp r1 r2 q
theorem kL {f:R->R->M R}(ho:c8 X (XD op) r) (hf:BD c r f) (ha:PD X c a ga) (hb:PD X c b gb):PD X c (.BinOp a op b pos) (g2 f ga gb):=G_ (Ow ho ha hb) rfl hf
theorem nJ {f:R->R->M R}(ho:c8 X (V5 op) r) (hf:BD c r f) (ha:PD X c a ga) (hb:PD X c b gb) (hm:VU op b=false:=by first | exact zR _ | rfl):PD X c (.Compare a [op] [b] pos) (g2 f ga gb):=G_ (Kz ho ha hb hm) rfl hf
theorem IW {f:R->R->M R}(ho:pR X r) (hf:BD c r f) (ha:PD X c a ga) (hb:PD X c b gb) (hs:qP b:=by exact λ_ _=>rfl):PD X c (.Subscript a b pos) (g2 f ga gb):=G_ (Ov ho ha hb hs) rfl hf
theorem BD.or {r r':R2}{f f':R->R->M R}(p:R->R->Bool) (h:BD c r f) (h':BD c r' f'):BD c (λx y H Q=>r x y H Q\/r' x y H Q) (λx y=>if p x y then f x y else f' x y):=by
 intro He He' J H x y u v Q hp rx ry w;simp only at w;cases q:p x y with
 | true=>rw [q] at w;exact .inl (h He He' J H x y u v Q hp rx ry w)
 | false=>rw [q] at w;exact .inr (h' He He' J H x y u v Q hp rx ry w)
noncomputable def fI (C:Int->Int->Bool) (f:Int->Int->D):R->R->M R
 | .d (.int i),.d (.int j)=>if C i j then .ok (.d (f i j)) else .bad
 | _,_=>.bad
noncomputable def qd (f:Int->Int->D):R->R->M R
 | .d (.int i),.d (.int j)=>.ok (.d (f i j))
 | _,_=>.bad
theorem yQ {P:Int->Int->Prop}{Cb:Int->Int->Bool}{g:Int->Int->V}{f:Int->Int->D}(hC:∀i j,Cb i j=true->P i j) (hr:∀i j J,Rep c.K J (f i j) (g i j)):BD c (rI P g) (fI Cb f):=by
 intro He He' J H x y u v Q hp rx ry w;unfold fI at w;split at w
 ·cases rx;cases ry;rename_i i j;cases q:Cb i j with
  | true=>rw [q] at w;exact ⟨i,j,rfl,rfl,hC i j q,w _ J H (Ext.refl hp.sub) (hr i j J)⟩
  | false=>rw [q] at w;exact w.elim
 ·exact w.elim
theorem kD {g:Int->Int->V}{f:Int->Int->D}(hr:∀i j J,Rep c.K J (f i j) (g i j)):BD c (sI g) (qd f):=by
 intro He He' J H x y u v Q hp rx ry w;unfold qd at w;split at w
 ·cases rx;cases ry;rename_i i j;exact ⟨i,j,rfl,rfl,w _ J H (Ext.refl hp.sub) (hr i j J)⟩
 ·exact w.elim
def below (n:Nat) (j:Int):Bool:=Nat.blt j.natAbs n
theorem cG:below n j=true↔-(n:Int) < j/\j < n:=by unfold below;rw [Nat.blt_eq];omega
def CO (_ j:Int):Bool:=decide (0 < j) && below 1073741824 j
def My (_ j:Int):Bool:=decide (0 < j)
def zH (i j:Int):Bool:=below 18446744073709551616 i || below 18446744073709551616 j
theorem JU (h:zH i j=true):(-(2 ^ 64) < i/\i < 2 ^ 64)\/(-(2 ^ 64) < j/\j < 2 ^ 64):=by unfold zH at h;rw [Xq] at h;exact h.imp cG.mp cG.mp
theorem JT (h:CO i j=true):0 < j/\j < 1073741824:=by unfold CO at h;rw [Uq] at h;exact ⟨of_decide_eq_true h.1,(cG.mp h.2).2⟩
def GI (i j:Int):Bool:=decide (0<=j) && below 1000001 j && below 18446744073709551616 i
theorem JV {i j:Int}(h:GI i j=true):0<=j/\j<=1000000/\i.natAbs < 2 ^ 64:=by unfold GI at h;rw [Uq,Uq] at h;have h2:=cG.mp h.1.2;have h3:=cG.mp h.2;exact ⟨of_decide_eq_true h.1.1,by omega,by omega⟩
abbrev vH:R->R->M R:=qd λi j=>.int (i + j)
abbrev vI:R->R->M R:=qd λi j=>.int (i - j)
abbrev Ma:R->R->M R:=fI zH λi j=>.int (i * j)
abbrev f9:R->R->M R:=fI CO λi j=>.int (i / j)
abbrev dD:R->R->M R:=fI My λi j=>.int (i % j)
abbrev n_:R->R->M R:=fI GI λi j=>.int (i ^ j.toNat)
noncomputable def uF:R->R->M R
 | .d (.str i),.d (.str j)=>if i.length + j.length<=sizeLine then .ok (.d (.str (i++j))) else .bad
 | _,_=>.bad
theorem K5 {K:Ui}{J:Hp}{ds:List D}{vs:List V}{i:Int}{d:D}(h:aK K J ds vs) (e:lW ds i=some d):∃v,lW vs i=some v/\Rep K J d v:=by
 unfold lW at e ⊢;rw [h.length] at e;cases q:zG vs.length i with
 | none=>rw [q] at e;cases e
 | some j=>rw [q] at e;exact h.get e
theorem nQ {f:List D->M R}{Q:R->Prop}{T:Exc->Prop}(w:cA (kB x >>= f) Q T):∃xs,kB x=.ok xs/\cA (f xs) Q T:=by
 cases q:kB x with
 | bad=>rw [q] at w;exact w.elim
 | ok xs=>rw [q] at w;exact ⟨xs,rfl,w⟩
 | exc z=>unfold kB at q;split at q <;> cases q
noncomputable def zE:R->Bool
 | .l .fresh _=>true
 | .l .own _=>true
 | _=>false
noncomputable def uG (x y:R):M R:=if zE x && zE y then kB x >>= λxs=>kB y >>= λys=>if xs.length + ys.length<=sizeLine then .ok (.l .fresh (xs++ys)) else .bad else .bad
theorem RR.made {He J H:Hp}:∀{r:R}{v:V},zE r=true->RR c He J H r v->∃a vs xs,kB r=.ok xs/\v=.ref a/\H a=some (.lst vs)/\aK c.K J xs vs
 | .l .fresh xs,v,_,⟨a,vs,h1,h2,h3,h4,h5⟩=>⟨a,vs,xs,rfl,h1,h2,h5⟩
 | .l .own xs,v,_,⟨a,vs,h1,h2,h3,h4,h5⟩=>⟨a,vs,xs,rfl,h1,h2,h5⟩
 | .l .bor _,_,e,_=>nomatch e
 | .mo _ _,_,e,_=>nomatch e
 | .mb _ _,_,e,_=>nomatch e
 | .mf _ _,_,e,_=>nomatch e
 | .d _,_,e,_=>nomatch e
theorem ia {J H:Hp}(hp:HI c J H) (e:H p=none) (h:aK c.K J xs vs):RR c H J (upd H p (.lst vs)) (.l .fresh xs) (.ref p):=
 ⟨p,vs,rfl,bN,hp.sub.free e,e,h⟩
noncomputable def CD (c:C) (r:List V->Hp->VK->Prop) (f:List R->M R):Prop:=∀(He J H:Hp) (xs:List R) (vs:List V) (Q:VK),HI c J H->kr c He J H xs vs->
 cA (f xs) (λz=>∀w J' H',Ext J H J' H'->RR c H J' H' z w->Q w H') c.T->r vs H Q
def gN (f:List R->M R) (gs:G (List R)):G R:=λenv=>gs env >>= f
theorem Hf {t:TE}{ta:TA}{r:List V->Hp->VK->Prop}{f:List R->M R}{gs:G (List R)}(ht:PE X e t) (heq:t=λσ H Q=>tA c gs σ H λvs H1=>r vs H1 Q) (hf:CD c r f):PD X c e (gN f gs):=by subst heq;refine fC ht λσ H Q ⟨J,env,sr,w⟩=>⟨J,env,sr,aE (aI w) λrs w vs J1 H1 e1 r1=>?_⟩;exact hf H J1 H1 rs vs Q (sr.hp.ext e1) r1 (aE w λz q v J' H' e2 r2=>q v J' H' (e1.trans e2) (RR.from e1.h r2))
def aC:G (List R):=λ_=>.ok []
def ao (g:G R) (gs:G (List R)):G (List R):=λenv=>g env >>= λx=>gs env >>= λxs=>.ok (x::xs)
theorem kr.from {He He' J H:Hp}(e:aU He He'):∀{xs:List R}{vs:List V},kr c He' J H xs vs->kr c He J H xs vs
 | [],_,h=>h
 | _::_,_,⟨v,us,h1,h2,h3⟩=>⟨v,us,h1,RR.from e h2,kr.from e h3⟩
theorem jO {id:String}{x:Str}{p:Pos}{es:List U_}{r:List V->Hp->VK->Prop}{f:List R->M R}{gs:G (List R)}(hc:cL X (.builtin id) r) (hf:CD c r f) (hv:Vx x=some (.builtin id)) (hm:X.mg x=none) (ha:DQ X c (e::es) gs)
  (hg:Gl X x:=by rfl) (hn:x≠"__name__":=by decide) (hdb:(x == ("__debug__":Str))=false:=by decide)
  (he:Ux (e::es) X.env=(false,eval e X.env)::Ux es X.env:=by rfl) (hpl:(Wk pos (Ux es X.env)).any (·.1)=false:=by rfl):PD X c (.Call (.Name x p) (e::es) [] pos) (gN f gs):=
 Hf (ta:=Du) (tV hc hg hm hv ha hn hdb he hpl) rfl hf
theorem qy {r:List V->Hp->VK->Prop}{f:List R->M R}{gs:G (List R)}(hc:cL X (.type T) r) (hf:CD c r f) (hv:Vx x=some (.type T)) (hm:X.mg x=none) (ha:DQ X c (e::es) gs)
 (hg:Gl X x:=by rfl) (hn:x≠"__name__":=by decide) (hdb:(x == ("__debug__":Str))=false:=by decide)
 (he:Ux (e::es) X.env=(false,eval e X.env)::Ux es X.env:=by rfl) (hpl:(Wk pos (Ux es X.env)).any (·.1)=false:=by rfl):PD X c (.Call (.Name x p) (e::es) [] pos) (gN f gs):=
 Hf (ta:=Du) (j_ hc hg hm hv ha hn hdb he hpl) rfl hf
end
section
variable {X:Cx}{c:C}{e a b:U_}{es:List U_}{ga gb g:G R}{pos:Pos}
def aP:G (List D):=λ_=>.ok []
def az (g:G R) (gs:G (List D)):G (List D):=λenv=>g env >>= λx=>toD x >>= λd=>gs env >>= λds=>.ok (d::ds)
theorem jk {α:Type}{f:D->M α}{Q:α->Prop}{T:Exc->Prop}(w:cA (toD x >>= f) Q T):∃d,toD x=.ok d/\cA (f d) Q T:=by
 cases q:toD x with
 | bad=>rw [q] at w;exact w.elim
 | ok xs=>rw [q] at w;exact ⟨xs,rfl,w⟩
 | exc z=>unfold toD at q;split at q <;> cases q
def bB (gs:G (List D)):G R:=λenv=>gs env >>= λds=>if ds.length<=sizeLine then .ok (.d (.tup ds)) else .bad
def c5 (gs:G (List D)):G R:=λenv=>gs env >>= λds=>if ds.length<=sizeLine then .ok (.l .fresh ds) else .bad
theorem qB {J H:Hp}(hp:HI c J H) (e:H p=none) (h:aK c.K J xs vs):Rep c.K (upd J p (.tup vs)) (.tup xs) (.ref p):=
 .tup (.inl (.inl bN)) (h.mono (cJ (hp.sub.free e) _))
noncomputable def iK:R->M (List D)
 | .d (.tup xs)=>.ok xs
 | .d (.lst xs)=>.ok xs
 | .l _ xs=>.ok xs
 | _=>.bad
theorem kQ {He J H:Hp}(hp:HI c J H):∀{r:R}{v:V}{xs:List D},RR c He J H r v->iK r=.ok xs->∃a vs,v=.ref a/\(cj c.K H a vs\/cY c.K H a vs)/\aK c.K J xs vs
 | .d (.tup ys),v,xs,h,e=>by
  cases e;cases h with
  | tup h hs=>exact ⟨_,_,rfl,.inr (eY hp.sub h),hs⟩
 | .d (.lst ys),v,xs,h,e=>let ⟨a,vs,h1,h2,h3⟩:=RR.list hp h e;⟨a,vs,h1,.inl h2,h3⟩
 | .l m ys,v,xs,h,e=>let ⟨a,vs,h1,h2,h3⟩:=RR.list hp h e;⟨a,vs,h1,.inl h2,h3⟩
 | .d .non,_,_,_,e=>nomatch e
 | .d (.bl _),_,_,_,e=>nomatch e
 | .d (.int _),_,_,_,e=>nomatch e
 | .d (.str _),_,_,_,e=>nomatch e
 | .d .emp,_,_,_,e=>nomatch e
 | .d (.dct _ _),_,_,_,e=>nomatch e
theorem jj {α:Type}{f:List D->M α}{Q:α->Prop}{T:Exc->Prop}(w:cA (iK x >>= f) Q T):∃xs,iK x=.ok xs/\cA (f xs) Q T:=by
 cases q:iK x with
 | bad=>rw [q] at w;exact w.elim
 | ok xs=>rw [q] at w;exact ⟨xs,rfl,w⟩
 | exc z=>unfold iK at q;split at q <;> cases q
noncomputable def eV:List R->M R
 | [.d (.str z)]=>if z.length<=sizeLine then .ok (.d (.int z.length)) else .bad
 | [r]=>iK r >>= λxs=>.ok (.d (.int xs.length))
 | _=>.bad
theorem kr.one {He J H:Hp}(h:kr c He J H [r] vs):∃v,vs=[v]/\RR c He J H r v:=by obtain ⟨v,us,rfl,h1,h2⟩:=h;cases h2;exact ⟨v,rfl,h1⟩
theorem kr.two {He J H:Hp}{r r':R}{vs:List V}(h:kr c He J H [r,r'] vs):∃v v',vs=[v,v']/\RR c He J H r v/\RR c He J H r' v':=by obtain ⟨v,us,rfl,h1,v2,us2,rfl,h2,h3⟩:=h;cases h3;exact ⟨v,v2,rfl,h1,h2⟩
noncomputable def dF:List R->M R
 | [r]=>iK r >>= λxs=>.ok (.d (.tup xs))
 | _=>.bad
theorem AD:Vx "tuple"=some (.type "tuple"):=by decide +kernel
theorem uu:Vx "list"=some (.type "list"):=by decide +kernel
noncomputable def qW:List R->M R
 | [r]=>iK r >>= λxs=>.ok (.l .fresh xs)
 | _=>.bad
noncomputable def bw (g:G R):G Bool:=λenv=>g env >>= λr=>match r with
 | .d (.bl k)=>.ok k
 | _=>.bad
theorem jB {f:R->R->M R}(ho:c8 X (V5 op) r) (hf:BD c r f) (ha:PD X c a ga) (hb:PD X c b gb) (hm:VU op b=false:=by first | exact zR _ | rfl):PB X c (.Compare a [op] [b] pos) (bw (g2 f ga gb)):=
 yp (KN ho ha hb hm) λσ H Q ⟨J,env,sr,w⟩=>by
  have w2:=aI w;refine two (k:=λu v H2=>r u v H2 λz H3=>∃k,z=.bl k/\Q k H3) (Q:=λz H3=>∃k,z=.bl k/\Q k H3) sr (aE w2 λr0 wr v J1 H1 e1 r1=>?_)
   λx y u v J2 H2 sr2 e2 r1 r2 q=>hf H H J2 H2 x y u v _ sr2.hp r1 r2 q
  split at wr
  ·cases r1;exact ⟨_,rfl,wr J1 H1 e1⟩
  ·exact wr.elim
def iU (g h:G Bool):G Bool:=λenv=>g env >>= λk=>if k=true then h env else .ok false
def j3 (g h:G Bool):G Bool:=λenv=>g env >>= λk=>if k=true then .ok true else h env
def gM (g:G Bool):G Bool:=λenv=>g env >>= λk=>.ok (!k)
def Qq (X:Cx) (c:C) (e:U_) (g:G Bool):Prop:=PW X e (tB c g)
variable {t u:G Bool}{rest:List U_}
theorem I0 {X:Cx}{e:U_}{t t':TT}(h:PW X e t) (k:∀σ H Q,t' σ H Q->t σ H Q):PW X e t':=λwh T9 s σ H Q I q=>h wh T9 s σ H Q I (k σ H Q q)
noncomputable def jV (g h:G R):G R:=λenv=>g env >>= λr=>match r with
 | .d (.bl true)=>h env
 | .d (.bl false)=>.ok (.d (.bl false))
 | _=>.bad
noncomputable def tH (g h:G R):G R:=λenv=>g env >>= λr=>match r with
 | .d (.bl false)=>h env
 | .d (.bl true)=>.ok (.d (.bl true))
 | _=>.bad
noncomputable def II (g:G R):G R:=λenv=>g env >>= λr=>match r with
 | .d (.bl k)=>.ok (.d (.bl (!k)))
 | _=>.bad
end
section
variable {X:Cx}{c:C}{e a b tg:U_}{es:List U_}{ga gb g:G R}{pos:Pos}{st:Xg}{rest:List Xg}{t u:G O}{tb:G Bool}
def cK:G O:=λenv=>.ok (.nx env)
noncomputable def aH (t u:G O):G O:=λenv=>t env >>= λo=>match o with
 | .nx e=>u e
 | o=>.ok o
def iP (g:G R):G O:=λenv=>g env >>= λ_=>.ok (.nx env)
noncomputable def rF:R->M R
 | .d x=>.ok (.d x)
 | .l .fresh xs=>.ok (.l .fresh xs)
 | .l .own xs=>.ok (.l .fresh xs)
 | .l .bor _=>.bad
 | .mo ks vs=>.ok (.mf ks vs)
 | .mf ks vs=>.ok (.mf ks vs)
 | .mb _ _=>.bad
def br (g:G R):G O:=λenv=>g env >>= λr=>rF r >>= λr=>.ok (.rt r)
theorem RR.rf {J H J1 H1:Hp}(hp:HI c J H):∀{r r':R}{v:V},RR c H J1 H1 r v->rF r=.ok r'->RF c J1 H1 r' v
 | .d x,r',v,h,e=>by cases e;exact h
 | .l .fresh xs,r',v,⟨a,vs,h1,h2,h3,h4,h5⟩,e=>by cases e;exact ⟨a,vs,h1,h2,h3,hp.ent.free h4,h5⟩
 | .l .own xs,r',v,⟨a,vs,h1,h2,h3,h4,h5⟩,e=>by cases e;exact ⟨a,vs,h1,h2,h3,h4,h5⟩
 | .l .bor _,_,_,_,e=>nomatch e
 | .mo _ _,_,v,⟨a,h1,h2,h3,h4⟩,e=>by cases e;exact ⟨a,h1,h2,h3,h4⟩
 | .mb _ _,_,_,_,e=>nomatch e
 | .mf _ _,_,v,⟨a,h1,h2,h3,h4⟩,e=>by cases e;exact ⟨a,h1,h2,h3,hp.ent.free h4⟩
def bJ (b:G Bool) (t u:G O):G O:=λenv=>b env >>= λk=>if k=true then t env else u env
noncomputable def toS:R->M S
 | .d x=>.ok (.d x)
 | .l .fresh xs=>.ok (.own xs)
 | .l .bor xs=>.ok (.bor xs)
 | .l .own _=>.bad
 | .mb ks vs=>.ok (.db ks vs)
 | .mf ks vs=>.ok (.dk ks vs)
 | .mo _ _=>.bad
theorem gD {α:Type}{l:List (Option α)}{i j:Nat}{x y:α}(h:(l.set i (some x))[j]?=some (some y)):(j=i/\i < l.length/\y=x)\/(j≠i/\l[j]?=some (some y)):=by
 by_cases e:j=i
 ·subst e;have hj:j < l.length:=by have:=(UR.mp h).1;simpa using this
  rw [V4 hj] at h;cases h;exact .inl ⟨rfl,hj,rfl⟩
 ·rw [Vh (Ws e)] at h;exact .inr ⟨e,h⟩
theorem SR.setD {J H:Hp}{σ:L2.St}{env:Ev}(sr:SR c J H σ env){i:Nat}{x:S}{v:V}(h:sS c J H x v) (hx:∀xs,x≠mS xs):SR c J H (σ.set i (some v)) (env.set i (some x)):=by
 refine ⟨sr.hp,by simpa using sr.len,λj y q=>?_,λj k xs ys w hjk q1 q2 q3 q4=>?_⟩
 ·rcases gD q with ⟨rfl,hl,rfl⟩ | ⟨hj,q⟩
  ·exact ⟨v,by rw [V4 (by rw [<-sr.len];exact hl)],h⟩
  ·obtain ⟨w,h1,h2⟩:=sr.at_ j y q;exact ⟨w,by rw [Vh (Ws hj)];exact h1,h2⟩
 ·rcases gD q1 with ⟨rfl,hl,e⟩ | ⟨hj,q1⟩
  ·exact hx xs e.symm
  ·rcases gD q2 with ⟨rfl,hl,e⟩ | ⟨hk,q2⟩
   ·exact hx ys e.symm
   ·rw [Vh (Ws hj)] at q3;rw [Vh (Ws hk)] at q4;exact sr.sep j k xs ys w hjk q1 q2 q3 q4
theorem SR.setM {J He:Hp}{σ:L2.St}{env:Ev}(sr:SR c J He σ env){J1 H1:Hp}(e1:Ext J He J1 H1){i:Nat}{y:Mn}{p:UL}(h3:He p=none) (h:sS c J1 H1 (mS y) (.ref p)):SR c J1 H1 (σ.set i (some (.ref p))) (env.set i (some (mS y))):=by
 have sr1:=sr.ext e1;have old:∀(j:Nat) (ys:Mn),env[j]?=some (some (mS ys))->σ[j]?≠some (some (.ref p)):=λj ys qj z=>by obtain ⟨a,k1,k2,_⟩:=sr.mine qj;rw [z] at k1;cases k1;exact k2 h3
 refine ⟨sr1.hp,by simpa using sr.len,λj y q=>?_,λj k ys zs w hjk q1 q2 q3 q4=>?_⟩
 ·rcases gD q with ⟨rfl,hl,rfl⟩ | ⟨hj,q⟩
  ·exact ⟨.ref p,by rw [V4 (by rw [<-sr.len];exact hl)],h⟩
  ·obtain ⟨w,k1,k2⟩:=sr1.at_ j y q;exact ⟨w,by rw [Vh (Ws hj)];exact k1,k2⟩
 ·rcases gD q1 with ⟨rfl,hl,e⟩ | ⟨hj,q1'⟩
  ·rcases gD q2 with ⟨rfl,_,_⟩ | ⟨hk,q2⟩
   ·exact hjk rfl
   ·rw [V4 (by rw [<-sr.len];exact hl)] at q3;cases q3;rw [Vh (Ws hk)] at q4;exact old k zs q2 q4
  ·rw [Vh (Ws hj)] at q3;rcases gD q2 with ⟨rfl,hl,e⟩ | ⟨hk,q2⟩
   ·rw [V4 (by rw [<-sr.len];exact hl)] at q4;cases q4;exact old j ys q1' q3
   ·rw [Vh (Ws hk)] at q4;exact sr.sep j k ys zs w hjk q1' q2 q3 q4
theorem SR.set {J He:Hp}{σ:L2.St}{env:Ev}(sr:SR c J He σ env){J1 H1:Hp}(e1:Ext J He J1 H1) (h:RR c He J1 H1 r v) (q:toS r=.ok x):SR c J1 H1 (σ.set i (some v)) (env.set i (some x)):=by
 have sr1:=sr.ext e1;cases r with
 | d y=>cases q;exact sr1.setD h (λx z=>by cases x <;> cases z)
 | mb _ _=>cases q;exact sr1.setD h (λx z=>by cases x <;> cases z)
 | mf ks vs=>cases q;obtain ⟨p,rfl,h1,h2,h3⟩:=h;exact sr.setM (y:=.inr (ks,vs)) e1 h3 ⟨p,rfl,h1,h2,sr.hp.ent.free h3⟩
 | mo _ _=>cases q
 | l m xs=>
  cases m with
  | own=>cases q
  | bor=>cases q;exact sr1.setD h (λx z=>by cases x <;> cases z)
  | fresh=>
   cases q;obtain ⟨p,vs,rfl,h1,h2,h3,h4⟩:=h;exact sr.setM (y:=.inl xs) e1 h3 ⟨p,vs,rfl,h1,h2,sr.hp.ent.free h3,h4⟩
theorem v_ {α:Type}{f:S->M α}{Q:α->Prop}{T:Exc->Prop}(w:cA (toS x >>= f) Q T):∃d,toS x=.ok d/\cA (f d) Q T:=by
 cases q:toS x with
 | bad=>rw [q] at w;exact w.elim
 | ok xs=>rw [q] at w;exact ⟨xs,rfl,w⟩
 | exc z=>unfold toS at q;split at q <;> cases q
def bf (i:Nat) (g:G R):G O:=λenv=>g env >>= λr=>toS r >>= λx=>.ok (.nx (env.set i (some x)))
abbrev GT:=D->Ev->M Ev
def KO (env:Ev) (σ:L2.St) (e:Ev) (σ':L2.St):Prop:=∀(j:Nat) (xs:Mn),e[j]?=some (some (mS xs))->env[j]?=some (some (mS xs))/\σ'[j]?=σ[j]?
theorem KO.refl:KO env σ env σ:=λ_ _ h=>⟨h,rfl⟩
theorem KO.trans (a:KO env σ e1 s1) (b:KO e1 s1 e2 s2):KO env σ e2 s2:=λj xs h=>by obtain ⟨h1,h2⟩:=b j xs h;obtain ⟨h3,h4⟩:=a j xs h1;exact ⟨h3,h2.trans h4⟩
def tT (c:C) (g:GT):TG:=λv σ H Q=>∃J env d,SR c J H σ env/\Rep c.K J d v/\cA (g d env) (λe=>∀σ',SR c J H σ' e->KO env σ e σ'->Q σ' H) c.T
def DR (X:Cx) (c:C) (tg:U_) (g:GT):Prop:=PG X tg (tT c g)
abbrev ua:=List D->Ev->M Ev
def QG (c:C) (g:ua):wF:=λvs σ H Q=>∃J env ds,SR c J H σ env/\aK c.K J ds vs/\cA (g ds env) (λe=>∀σ',SR c J H σ' e->KO env σ e σ'->Q σ' H) c.T
def Pu (X:Cx) (c:C) (tgs:List U_) (g:ua):Prop:=yK X tgs (QG c g)
theorem IY {t t':TG}(h:PG X e t) (k:∀v σ H Q,t' v σ H Q->t v σ H Q):PG X e t':=λT9 s σ H v u Q I r q=>h T9 s σ H v u Q I r (k v σ H Q q)
theorem E8 {X:Cx}{e:List U_}{t t':wF}(h:yK X e t) (k:∀v σ H Q,t' v σ H Q->t v σ H Q):yK X e t':=λT9 s σ H vs us Q I r q=>h T9 s σ H vs us Q I r (k vs σ H Q q)
def aD (i:Nat):GT:=λd env=>.ok (env.set i (some (.d d)))
noncomputable def dR:ua:=λds env=>match ds with
 | []=>.ok env
 | _=>.bad
noncomputable def bz (t:GT) (u:ua):ua:=λds env=>match ds with
 | d::r=>t d env >>= λe=>u r e
 | []=>.bad
noncomputable def dG (n:Nat) (u:ua):GT:=λd env=>match d with
 | .tup ds=>if ds.length=n then u ds env else .bad
 | _=>.bad
def tF (t:GT) (g:G R):G O:=λenv=>g env >>= λr=>toD r >>= λd=>t d env >>= λe=>.ok (.nx e)
theorem Kr {t:GT}(h:PD X c e g) (ht:DR X c tg t)
  (hq:PS X (.Assign [tg] e pos) (HR (tD c g) (tT c t))):Lz X c (.Assign [tg] e pos) (tF t g):=iQ hq λE σ H ⟨J,env,sr,w⟩=>by refine ⟨J,env,sr,aE (aI w) λr wr v J1 H1 e1 r1=>?_⟩;obtain ⟨d,q,wr⟩:=jk wr;obtain ⟨J1',e1',s1,rd⟩:=freeze e1 r1 q;refine ⟨J1',env,d,sr.ext e1',rd,aE (aI wr) λe2 w2 σ' sr' _=>?_⟩;exact w2 σ' J1' H1 e1'.j sr'
noncomputable def Walk (c:C) (It:It) (ds:List D) (J1:Hp) (U:Hp->Hp->Prop):Prop:=∀(i:Nat) (J H:Hp),HI c J H->U J H->
 (ds.length<=i->It.stop i H)/\∀d,ds[i]?=some d->It.go i H/\∀x H2,It.yld i H x H2->∃J2,Ext J H J2 H2/\Rep c.K J2 d x
noncomputable def tI (c:C) (g:G (List D)):TI:=λσ H Q=>∃J env,SR c J H σ env/\cA (g env) (λds=>∀It J1 H1,Ext J H J1 H1->Walk c It ds J1 (λJ' _=>aU J1 J')->Q It H1) c.T
def O8 (X:Cx) (c:C) (tg Ua:U_) (g:G (List D)):Prop:=PI X tg Ua (tI c g)
theorem q_ {X:Cx}{tg it:U_}{t t':TI}(h:PI X tg it t) (k:∀σ H Q,t' σ H Q->t σ H Q):PI X tg it t':=λT9 s σ H Q I q=>h T9 s σ H Q I (k σ H Q q)
noncomputable def ff (t:GT) (u:G O):List D->Ev->M O
 | [],env=>.ok (.nx env)
 | d::ds,env=>t d env >>= λe=>u e >>= λo=>match o with
  | .nx e=>ff t u ds e
  | .ct e=>ff t u ds e
  | .bk e=>.ok (.nx e)
  | .rt r=>.ok (.rt r)
def cu (g:G (List D)) (t:GT) (u:G O):G O:=λenv=>g env >>= λds=>ff t u ds env
noncomputable def QN (g:G R):G (List D):=λenv=>g env >>= λr=>match r with
 | .d (.tup xs)=>.ok xs
 | _=>.bad
theorem qM {J1:Hp}{a:UL}{vs:List V}{ds:List D}(h:cj c.K J1 a vs\/cj c.K c.H0 a vs) (hs:aK c.K J1 ds vs):Walk c (Ie c.K a) ds J1 (λJ' _=>aU J1 J'):=by intro i J H hp u;have h':cj c.K H a vs:=h.elim (λh=>hp.sub.seq (u.seq h)) λh=>hp.ent.seq h;refine ⟨λhl=>⟨vs,h',by rw [<-hs.length];exact hl⟩,λd hd=>?_⟩;obtain ⟨v,h1,h2⟩:=hs.get hd;refine ⟨⟨vs,v,h',h1⟩,λx H2 ⟨e,hy⟩=>?_⟩;subst e;have:=hy vs h';rw [h1] at this;cases this;exact ⟨J,Ext.refl hp.sub,h2.mono u⟩
def fU (lo:Int) (n:Nat):List D:=(Ur n).map λ(k:Nat)=>.int (lo + (k:Int))
theorem DA {J1:Hp}{lo:Int}{n:Nat}{Ut:Hp->Hp->Prop}:Walk c (Ig lo n) (fU lo n) J1 Ut:=by
 intro i J H hp u;refine ⟨λhl=>(show n<=i by simpa [fU] using hl),λd hd=>?_⟩;have hi:i < n:=by have:=(UR.mp hd).1;simpa [fU] using this
 have hd':d=.int (lo + i):=by unfold fU at hd;rw [UT,Yz hi] at hd;exact (VF hd).symm
 subst hd';exact ⟨hi,λx H2 ⟨e,hx⟩=>by subst e hx;exact ⟨J,Ext.refl hp.sub,.int _⟩⟩
noncomputable def b9 (gs:G (List R)):G (List D):=λenv=>gs env >>= λrs=>match rs with
 | [.d (.int j)]=>if below 4611686018427387904 j then .ok (fU 0 j.toNat) else .bad
 | _=>.bad
noncomputable def QC (c:C) (g:G (List D)):TI:=λσ H Q=>∃J env,SR c J H σ env/\cA (g env) (λds=>∀It J1 H1,Ext J H J1 H1->Walk c It ds J1 (λJ' H'=>aU J1 J'/\aU H1 H')->Q It H1) c.T
def O7 (X:Cx) (c:C) (tg Ua:U_) (g:G (List D)):Prop:=PI X tg Ua (QC c g)
end
section
variable {X:Cx}{c:C}{e a b tg:U_}{es:List U_}{ga gb g:G R}{pos:Pos}
theorem SR.updM {J H:Hp}{σ:L2.St}{env:Ev}(sr:SR c J H σ env){i:Nat}{x y:Mn}{p:UL}{o:HO}(hi:env[i]?=some (some (mS x))) (hs:σ[i]?=some (some (.ref p))) (hJ:J p=none) (h0:c.H0 p=none)
  (h:sS c J (L2.upd H p o) (mS y) (.ref p)):SR c J (L2.upd H p o) σ (env.set i (some (mS y))):=by
 refine ⟨⟨λb o q=>?_,λb o q=>?_,sr.hp.entJ,sr.hp.frz⟩,by simpa using sr.len,λj y q=>?_,λj k ys zs w hjk q1 q2 q3 q4=>?_⟩
 ·have:b≠p:=λz=>by rw [z,hJ] at q;cases q
  rw [bq this];exact sr.hp.sub b o q
 ·have:b≠p:=λz=>by rw [z,h0] at q;cases q
  rw [bq this];exact sr.hp.ent b o q
 ·rcases gD q with ⟨rfl,hl,rfl⟩ | ⟨hj,q⟩
  ·exact ⟨.ref p,hs,h⟩
  ·obtain ⟨w,k1,k2⟩:=sr.at_ j y q;refine ⟨w,k1,?_⟩;have hne:∀(z:Mn) p',y=mS z->w=.ref p'->p'≠p:=λz p' e ew ep=>sr.sep i j x z (.ref p) (Ws hj) hi (e▸q) hs (ep▸ew▸k1);cases y with
   | d x=>exact k2
   | bor zs=>exact k2
   | db _ _=>exact k2
   | fn _=>exact k2
   | dk ks zs=>
    obtain ⟨p',rfl,⟨us,ws,ep,m1,mr⟩,m2⟩:=k2;exact ⟨p',rfl,⟨us,ws,ep,by rw [bq (hne (.inr (ks,zs)) p' rfl rfl)];exact m1,mr⟩,m2⟩
   | own zs=>
    obtain ⟨p',us,rfl,m1,m2,m3,m4⟩:=k2;exact ⟨p',us,rfl,by rw [bq (hne (.inl zs) p' rfl rfl)];exact m1,m2,m3,m4⟩
 ·have f:∀(k:Nat) (ys:Mn),(env.set i (some (mS y)))[k]?=some (some (mS ys))->∃ys',env[k]?=some (some (mS ys')):=λk ys q=>by
   rcases gD q with ⟨rfl,_,_⟩ | ⟨_,q⟩
   ·exact ⟨x,hi⟩
   ·exact ⟨ys,q⟩
  obtain ⟨ys',r1⟩:=f j ys q1;obtain ⟨zs',r2⟩:=f k zs q2;exact sr.sep j k ys' zs' w hjk r1 r2 q3 q4
theorem SR.upd {J H:Hp}{env:Ev}(sr:SR c J H σ env) (hi:env[i]?=some (some (.own xs))) (hs:σ[i]?=some (some (.ref p))) (hH:H p=some (.lst vs)) (hJ:J p=none) (h0:c.H0 p=none)
 (h:aK c.K J xs' vs'):SR c J (L2.upd H p (.lst vs')) σ (env.set i (some (.own xs'))):=sr.updM (x:=.inl xs) (y:=.inl xs') hi hs hJ h0 ⟨p,vs',rfl,bN,hJ,h0,h⟩
noncomputable def gK (i:Nat) (g:G R):G O:=λenv=>match env[i]? with
 | some (some (.own xs))=>g env >>= λr=>toD r >>= λd=>if xs.length < sizeLine then .ok (.nx (env.set i (some (.own (xs++[d]))))) else .bad
 | _=>.bad
noncomputable def gE:R->S
 | .d x=>.d x
 | .l _ xs=>.bor xs
 | .mo ks vs=>.db ks vs
 | .mb ks vs=>.db ks vs
 | .mf ks vs=>.db ks vs
noncomputable def kZ (K:Ui) (J H:Hp):List S->List V->Prop
 | [],vs=>vs=[]
 | s::ss,vs=>∃v us,vs=v::us/\(match s with
  | .d x=>Rep K J x v
  | .bor xs=>∃a ws,v=.ref a/\cj K H a ws/\aK K J xs ws
  | .db ks ws=>∃a,v=.ref a/\eE K J H a ks ws
  | .fn x=>∃f,v=.ref f/\Va K UW x=some (some (.ref f))
  | _=>False)/\kZ K J H ss us
theorem kZ.length {K:Ui}{J H:Hp}:∀{ss:List S}{vs:List V},kZ K J H ss vs->vs.length=ss.length
 | [],_,h=>by cases h;rfl
 | _::_,_,⟨_,_,h,_,h2⟩=>by subst h;exact congrArg (· + 1) h2.length
theorem kZ.get {K:Ui}{J H:Hp}:∀{ss:List S}{vs:List V}{i:Nat}{s:S},kZ K J H ss vs->ss[i]?=some s->∃v,vs[i]?=some v/\(match s with
  | .d x=>Rep K J x v
  | .bor xs=>∃a ws,v=.ref a/\cj K H a ws/\aK K J xs ws
  | .db ks ws=>∃a,v=.ref a/\eE K J H a ks ws
  | .fn x=>∃f,v=.ref f/\Va K UW x=some (some (.ref f))
  | _=>False)
 | [],_,_,_,_,e=>by simp at e
 | _::_,_,0,_,⟨v,us,h,h1,h2⟩,e=>by simp at e;subst e;subst h;exact ⟨v,rfl,h1⟩
 | _::_,_,i + 1,s,⟨v,us,h,h1,h2⟩,e=>by subst h;obtain ⟨v,k1,k2⟩:=kZ.get (i:=i) (s:=s) h2 (by simpa using e);exact ⟨v,by simpa using k1,k2⟩
noncomputable def FR (K:Ui) (H J' H':Hp):R->V->Prop
 | .d x,v=>Rep K J' x v
 | .l _ xs,v=>∃a vs,v=.ref a/\H' a=some (.lst vs)/\J' a=none/\H a=none/\aK K J' xs vs
 | .mf ks vs,v=>∃a,v=.ref a/\eE K J' H' a ks vs/\J' a=none/\H a=none
 | _,_=>False
noncomputable def qI (K:Ui) (n:Nat) (F:List S->M R):Sp:=λvs H Q _=>∃J as,aU J H/\as.length=n/\kZ K J H as vs/\cA (F as) (λr=>∀v J' H',Ext J H J' H'->FR K H J' H' r v->Q v H') (λ_=>False)
noncomputable def fin:M O->M R
 | .ok (.rt r)=>.ok r
 | .ok (.nx _)=>.ok (.d .non)
 | .exc x=>.exc x
 | _=>.bad
def aW (N:List Str) (as:List S):Ev:=as.map some++V7 (N.length - as.length) none
theorem xJ {N:List Str}{as:List S}{i:Nat}{x:S}(h:(aW N as)[i]?=some (some x)):as[i]?=some x:=by
 unfold aW at h;by_cases hi:i < as.length
 ·rw [Wz (by simpa using hi),UT] at h;cases q:as[i]? with
  | none=>rw [q] at h;cases h
  | some y=>rw [q] at h;cases h;rfl
 ·rw [V0 (by simpa using hi),YE] at h;split at h <;> cases h
theorem HQ {N:List Str}{vs:List V}{i:Nat}{v:V}(h:vs[i]?=some v):(L2.start N vs)[i]?=some (some v):=by unfold L2.start;have hi:i < vs.length:=(UR.mp h).1;rw [Wz (by simpa using hi),UT,h];rfl
theorem Al {K:Ui}{J H:Hp}{T:Exc->Prop}{N:List Str}{as:List S}{vs:List V}(hs:aU J H) (h:kZ K J H as vs):SR ⟨K,H,J,T⟩ J H (L2.start N vs) (aW N as):=by
 have own:∀(i:Nat) (xs:Mn),(aW N as)[i]?≠some (some (mS xs)):=λi xs q=>by obtain ⟨v,_,k⟩:=h.get (xJ q);cases xs <;> exact k
 refine ⟨⟨hs,aU.refl H,aU.refl J,λ_ _ q=>q⟩,?_,λi x q=>?_,λi j xs ys v _ q=>absurd q (own i xs)⟩
 ·unfold aW L2.start;rw [UI,UI,Uo,Uo,WC,WC,h.length]
 ·obtain ⟨v,k1,k2⟩:=h.get (xJ q);refine ⟨v,HQ k1,?_⟩;cases x with
  | d y=>exact k2
  | own y=>exact k2.elim
  | bor y=>exact k2
  | dk _ _=>exact k2.elim
  | db _ _=>exact k2
  | fn _=>exact k2
abbrev Em (P:UG) (w:U5) (K:Ui) (mg:Str->Option Uk) (base:VB) (N:List Str) (Ub:Str) (sc:X0) (f:UL) (cd:Uk) (A:U8) (outer:List Env) (s:Um) (H:Hp) (E:XK):Cx:=(p_ oX P w K mg base N Ub sc f cd A outer s H E).nox
theorem Et {P:UG}{w:U5}{K:Ui}{mg:Str->Option Uk}{base:VB}{x Ub:Str}{st:Xg}{f:UL}{fd:U6}{N ps:List Str}{k:Nat}{Fm:List S->M R}(F:k7 K x Ub st f fd) (Sc:eZ N ps (aV st)){gB:G O}
  (hb:∀(cdv:Uk) (A:U8) (outer:List Env) (s:Um) (H:Hp) (E:XK) (J:Hp) (T:Exc->Prop),dB k (A.deeper (ZX Ub (aV st) s.heap.objs.size f cdv))->
   Im (Em P w K mg base N Ub (aV st) f cdv A outer s H E) ⟨K,H,J,T⟩ (bR st) gB)
  (hF:∀as r,as.length=ps.length->Fm as=.ok r->fin (gB (aW N as))=.ok r):fM P w K mg base oX (k + 1) f fd ps (qI K ps.length Fm):=by
 refine F.ok Sc (λvs H Q E h=>?_) (λcdv A outer s H vs Q E hr h=>?_)
 ·obtain ⟨J,as,h1,h2,h3,h4⟩:=h;rw [h3.length,h2]
 ·obtain ⟨J,as,h1,h2,h3,h4⟩:=h;refine ⟨_,hb cdv A outer s H E J (λ_=>False) hr,J,aW N as,Al h1 h3,?_⟩;cases q:Fm as with
  | bad=>rw [q] at h4;exact h4.elim
  | exc x=>rw [q] at h4;exact h4.elim
  | ok r=>
   rw [q] at h4;have z:=hF as r h2 q;have ext:∀{J' H':Hp},HI ⟨K,H,J,λ_=>False⟩ J' H'->Ext J H J' H':=λhp=>⟨hp.ent,hp.entJ,hp.sub,hp.frz⟩;cases qg:gB (aW N as) with
   | bad=>rw [qg] at z;cases z
   | exc x=>rw [qg] at z;cases z
   | ok o=>
    rw [qg] at z;cases o with
    | bk _=>cases z
    | ct _=>cases z
    | nx env=>cases z;exact λσ' J' H' _ sr=>h4 .non J' H' (ext sr.hp) .non
    | rt r'=>
     cases z;exact λv J' H' _ hp rf=>h4 v J' H' (ext hp) (by
      cases r with
      | d x=>exact rf
      | l m xs=>exact rf
      | mo _ _=>exact rf
      | mf _ _=>exact rf
      | mb _ _=>exact rf)
noncomputable def nj:R->R
 | .d x=>.d x
 | .l _ xs=>.l .fresh xs
 | .mo ks vs=>.mo ks vs
 | .mb ks vs=>.mb ks vs
 | .mf ks vs=>.mf ks vs
noncomputable def aO (n:Nat) (F:List S->M R):List R->M R:=λrs=>if rs.length=n then (match F (rs.map gE) with
 | .ok r=>.ok (nj r)
 | _=>.bad) else .bad
theorem kr.args {He J H:Hp}(hp:HI c J H):∀{rs:List R}{vs:List V},kr c He J H rs vs->kZ c.K J H (rs.map gE) vs
 | [],_,h=>h
 | r::rs,_,⟨v,us,h,h1,h2⟩=>by
  refine ⟨v,us,h,?_,kr.args hp h2⟩;cases r with
  | d x=>exact h1
  | l m xs=>exact RR.list hp h1 rfl
  | mo _ _=>obtain ⟨a,h1,h2,_⟩:=h1;exact ⟨a,h1,h2⟩
  | mb _ _=>obtain ⟨a,h1,h2⟩:=h1;exact ⟨a,h1,h2.mono (aU.refl _) hp.ent⟩
  | mf _ _=>obtain ⟨a,h1,h2,_⟩:=h1;exact ⟨a,h1,h2⟩
theorem Jc {F:List S->M R}{J H J1 H1:Hp}{Q:VK}{as:List S}{T:Exc->Prop}(hT:c.K=X.K) (e1:Ext J H J1 H1) (ar:kZ c.K J1 H1 as vs) (hl:as.length=n)
 (wr:cA (match F as with
 | .ok r=>.ok (nj r)
 | _=>.bad) (λr=>∀v J' H',Ext J H J' H'->RR c H J' H' r v->Q v H') T):qI X.K n F (vs++[]) H1 Q E0:=by
 rw [hT] at ar;refine ⟨J1,as,e1.sub,hl,by rw [WB];exact ar,?_⟩;cases q:F as with
 | bad=>rw [q] at wr;exact wr
 | exc x=>rw [q] at wr;exact wr
 | ok r=>
  rw [q] at wr;intro v J' H' e2 fr;refine wr v J' H' (e1.trans e2) ?_;cases r with
  | d y=>exact (show Rep c.K J' y v from hT▸fr)
  | mo _ _=>exact fr.elim
  | mb _ _=>exact fr.elim
  | mf _ _=>obtain ⟨a,h1,h2,h3,h4⟩:=fr;exact ⟨a,h1,hT▸h2,h3,e1.h.free h4⟩
  | l m ys=>
   obtain ⟨a,us,h1,h2,h3,h4,h5⟩:=fr;exact ⟨a,us,h1,h2,h3,e1.h.free h4,hT▸h5⟩
theorem yT {n:Nat}{F:List S->M R}{gs:G (List R)}(hT:c.K=X.K):∀σ H Q,tD c (gN (aO n F) gs) σ H Q->Jg (qI X.K n F) [] E0 (tA c gs) σ H Q:=λσ H Q ⟨J,env,sr,w⟩=>by
 refine ⟨J,env,sr,aE (aI w) λrs wr vs J1 H1 e1 r1=>?_⟩;unfold aO at wr;split at wr
 ·rename_i hl;exact Jc hT e1 (r1.args (sr.hp.ext e1)) (by simpa using hl) wr
 ·exact wr.elim
theorem Ku {F:List S->M R}{gs:G (List R)}(G:fM X.prog X.w X.K X.mg X.base oX k f fd ps (qI X.K n F)) (hr:dB k X.A) (hm:X.mg x=some (.ref f)) (hk:VS X.K (.ref f)=true)
 (hb:Binds X.K fd ps []) (ha:DQ X c (e::es) gs) (hT:c.K=X.K:=by rfl) (hg:Gl X x:=by rfl) (hdb:(x == ("__debug__":Str))=false:=by decide) (he:Ux (e::es) X.env=(false,eval e X.env)::Ux es X.env:=by rfl)
 (hpl:(Wk pos (Ux es X.env)).any (·.1)=false:=by rfl):PD X c (.Call (.Name x p) (e::es) [] pos) (gN (aO n F) gs):=
 fC (vU (E:=E0) G hr hg hm hk hb .nil Dg ha hdb he hpl) (yT hT)
end
noncomputable def d9 (cells:List (Str×UL)):List (Str×WN)->List (Str×UL)->Option (List (Str×UL))
 | [],cs=>some cs
 | (n,k)::r,cs=>if k == .free then (match cells.lookup n with
  | some a=>d9 cells r ((n,a)::cs)
  | none=>none) else d9 cells r cs
theorem mJ {env:Env}:∀(names:List (Str×WN)) (cs cl:List (Str×UL)),d9 env.cells names cs=some cl->
  (forIn names cs λ(x:Str×WN) (r:List (Str×UL))=>(if (x.2 == .free)=true then do let a <-cellOf env x.1;pure (WZ ((x.1,a)::r)) else pure (WZ r):Sem (ForInStep (List (Str×UL)))))=(pure cl:Sem (List (Str×UL)))
 | [],cs,cl,h=>by cases h;rfl
 | (n,k)::r,cs,cl,h=>by
  unfold d9 at h;rw [YI];cases hk:(k == VO) with
  | true=>
   rw [hk,if_pos rfl] at h;cases hc:env.cells.lookup n with
   | none=>rw [hc] at h;cases h
   | some a=>
    rw [hc] at h;have e:cellOf env n=pure a:=by unfold cellOf;rw [hc]
    simp only [hk,if_true,e];exact mJ r ((n,a)::cs) cl h
  | false=>
   rw [hk,if_neg (by decide)] at h;simp only [hk];exact mJ r cs cl h
theorem xZ {T8:X0}{env:Env}{cl:List (Str×UL)}(h:d9 env.cells T8.names []=some cl):closureFor T8 env=pure cl:=by have q:=mJ (env:=env) T8.names [] cl h;unfold closureFor;show ((forIn T8.names [] λ(x:Str×WN) (r:List (Str×UL))=>(if (x.2 == .free)=true then do let a <-cellOf env x.1;pure (WZ ((x.1,a)::r)) else pure (WZ r):Sem (ForInStep (List (Str×UL))))) >>= λz=>pure z)=pure cl;rw [q];rfl
theorem gT {cells:List (Str×UL)}:∀(names:List (Str×WN)) (cs cl:List (Str×UL)),d9 cells names cs=some cl->(∀x c,cs.lookup x=some c->cells.lookup x=some c)->
  (∀x c,cl.lookup x=some c->cells.lookup x=some c)/\(∀x,((cs.lookup x).isSome=true\/(x,VO)∈names)->(cl.lookup x).isSome=true)
 | [],cs,cl,h,k=>by cases h;exact ⟨k,λx hx=>hx.elim id λz=>by cases z⟩
 | (n,kd)::r,cs,cl,h,k=>by
  unfold d9 at h;cases hk:(kd == VO) with
  | true=>
   rw [hk,if_pos rfl] at h;cases hc:cells.lookup n with
   | none=>rw [hc] at h;cases h
   | some a=>
    rw [hc] at h;obtain ⟨h1,h2⟩:=gT r ((n,a)::cs) cl h (λx c q=>by
     rw [Wb] at q;cases e:x == n with
     | true=>
      rw [e] at q;cases q;have:x=n:=by simpa using e
      rw [this];exact hc
     | false=>rw [e] at q;exact k x c q)
    refine ⟨h1,λx hx=>h2 x ?_⟩;by_cases e:x=n
    ·left;subst e;rw [Wb];simp
    ·have e':(x == n)=false:=by simpa using e
     rcases hx with hx | hx
     ·left;rw [Wb,e'];exact hx
     ·right;rcases UK.mp hx with z | z
      ·cases z;exact absurd rfl e
      ·exact z
  | false=>
   rw [hk,if_neg (by decide)] at h;obtain ⟨h1,h2⟩:=gT r cs cl h k;refine ⟨h1,λx hx=>h2 x ?_⟩;rcases hx with hx | hx
   ·exact .inl hx
   ·rcases UK.mp hx with z | z
    ·cases z;simp at hk
    ·exact .inr z
section
variable {X:Cx}
def cN (X:Cx) (own:List Str) (cap:List Nat):List Str:=own++cap.map λ(j:Nat)=>(X.N[j]?).getD ("":Str)
noncomputable def L3 (X:Cx) (own:List Str) (cap:List Nat) (T8:X0) (cl:List (Str×UL)) (C:UL) (s:Um) (H:Hp) (fp:List UL):Cx where
 prog:=X.prog
 w:=X.w
 K:=X.K
 mg:=X.mg
 base:=X.base
 A:=X.A
 N:=cN X own cap
 s₀:=s
 H₀:=H
 env:=compEnvC T8 cl C X.env
 outer:=X.stack
 stack:=X.stack
 ex:=fp
 fn:=λ_=>false
 calm:=X.calm
 pn:=[]
 xe:=λ_ _=>False
noncomputable def qR (X:Cx) (cap:List Nat):Bool:=cap.all λj=>match X.N[j]? with
 | some x=>(match X.env.scope.names.lookup x with
  | some .cell=>true
  | some .free=>true
  | _=>false)
 | none=>false
theorem z_ {T8:X0}(hc:∀y∈T8.names,y.2≠.cell):∀{x:Str},((relabel T8 env).names.lookup x=some .cell\/(relabel T8 env).names.lookup x=some .free)->(x,VO)∈T8.names:=by
 unfold relabel;have main:∀(names:List (Str×WN)),(∀y∈names,y.2≠.cell)->∀x,((names.map λ(n,k)=>if (k == VO && env.scope.kind == .function && env.kindOf n == some .cell) then (n,YJ) else (n,k)).lookup x=some .cell\/
   (names.map λ(n,k)=>if (k == VO && env.scope.kind == .function && env.kindOf n == some .cell) then (n,YJ) else (n,k)).lookup x=some .free)->(x,VO)∈names:=by
  intro names
  induction names with
  | nil=>intro _ x h;simp at h
  | cons p r ih=>
   obtain ⟨n,k⟩:=p;intro hc x h;rw [UH] at h;simp only at h;by_cases hx:x=n
   ·subst hx;have hk:k≠.cell:=hc (x,k) Uv;have:k=.free:=by
     by_cases q:(k == VO && env.scope.kind == .function && env.kindOf x == some .cell)=true
     ·rw [Uq,Uq] at q;simpa using q.1.1
     ·rw [if_neg q,Wb] at h;simp at h;rcases h with h | h
      ·exact absurd h hk
      ·exact h
    subst this;exact Uv
   ·have hx':(x == n)=false:=by simpa using hx
    refine Uu _ (ih (λy hy=>hc y (Uu _ hy)) x ?_);have red:∀(q:Str×WN) (l:List (Str×WN)),q.1=n->aeS x (q::l)=aeS x l:=λq l hq=>by obtain ⟨q1,q2⟩:=q;simp only at hq;subst hq;rw [Wb,hx']
    have hq:(if (k == VO && env.scope.kind == .function && env.kindOf n == some .cell) then (n,YJ) else (n,k)).1=n:=by split <;> rfl
    rw [red _ _ hq] at h;exact h
 intro x h;exact main T8.names hc x h
end
section
variable {X:Cx}{c:C}
noncomputable def Cg (X:Cx) (c:C) (ifs:List U_) (g:G Bool):Prop:=
 ∀(T9:List (UL×Obj)) (s:Um) (σ:L2.St) (H:Hp) (Q:Bool->Hp->Prop),Inv X T9 σ H s->tB c g σ H Q->
  UB (UO X.prog X.w) X.A (forIn ifs true λc r=>if r=true then do let ok <-abp c X.env (eval c X.env);pure (WZ ok) else pure (WZ r)) (TP X T9 σ Q) X.xe s
def dY:G Bool:=λ_=>.ok true
noncomputable def fJ (gt:GT) (gts:G Bool) (ge:G R):List D->Ev->M (List D)
 | [],_=>.ok []
 | d::ds,env=>gt d env >>= λe=>gts e >>= λk=>if k=true then ge e >>= λr=>toD r >>= λy=>fJ gt gts ge ds e >>= λys=>.ok (y::ys) else fJ gt gts ge ds e
def cE (n:Nat) (cap:List Nat) (env:Ev):Ev:=V7 n none++cap.map λ(j:Nat)=>(env[j]?).getD none
noncomputable def cB (n:Nat) (cap:List Nat) (gi:G (List D)) (gt:GT) (gts:G Bool) (ge:G R):G R:=λenv=>gi env >>= λds=>if ds.length<=sizeLine then fJ gt gts ge ds (cE n cap env) >>= λys=>.ok (.l .fresh ys) else .bad
theorem kE {α:Type}{n:Nat}{cap:List Nat}{env:List (Option α)}{i:Nat}{x:α}(h:(V7 n none++cap.map λ(j:Nat)=>(env[j]?).getD none)[i]?=some (some x)):∃j,n<=i/\cap[i - n]?=some j/\env[j]?=some (some x):=by
 by_cases hi:i < n
 ·rw [Wz (by simpa using hi),YE] at h;split at h <;> cases h
 ·rw [V0 (by simpa using hi),WC,UT] at h;cases q:cap[i - n]? with
  | none=>rw [q] at h;cases h
  | some j=>
   rw [q] at h;refine ⟨j,by omega,rfl,?_⟩;have h':(env[j]?).getD none=some x:=VF h;cases z:env[j]? with
   | none=>rw [z] at h';cases h'
   | some o=>rw [z] at h';exact congrArg some h'
theorem Ob {α:Type}{n:Nat}{cap:List Nat}{env:List (Option α)}{i j:Nat}{x:α}(h1:n<=i) (h2:cap[i - n]?=some j) (h3:env[j]?=some (some x)):(V7 n none++cap.map λ(j:Nat)=>(env[j]?).getD none)[i]?=some (some x):=by rw [V0 (by simpa using h1),WC,UT,h2];simp [h3]
theorem SR.cap {J H:Hp}{σ:L2.St}{env:Ev}(sr:SR c J H σ env) (n:Nat) (cap:List Nat) (hnd:cap.Nodup):SR c J H (V7 n none++cap.map λ(j:Nat)=>(σ[j]?).getD none) (cE n cap env):=by
 refine ⟨sr.hp,by simp [cE],λi x q=>?_,λi j xs ys v hij q1 q2 q3 q4=>?_⟩
 ·obtain ⟨j,h1,h2,h3⟩:=kE q;obtain ⟨v,k1,k2⟩:=sr.at_ j x h3;exact ⟨v,Ob h1 h2 k1,k2⟩
 ·obtain ⟨a,h1,h2,h3⟩:=kE q1;obtain ⟨b,h4,h5,h6⟩:=kE q2;obtain ⟨a',h7,h8,h9⟩:=kE q3;obtain ⟨b',TV,h11,h12⟩:=kE q4;rw [h2] at h8;cases h8;rw [h5] at h11;cases h11;have hab:a≠b:=λz=>by subst z;have e1:=(UR.mp h2);have e2:=(UR.mp h5);have:=(Zn hnd).mp (e1.2.trans e2.2.symm);omega
  exact sr.sep a b xs ys v hab h3 h6 h9 h12
theorem SR.other {J H:Hp}(sr:SR c J H σ env) (hJ:J p=none) (h0:c.H0 p=none) (hn:∀(j:Nat) (xs:Mn),env[j]?=some (some (mS xs))->σ[j]?≠some (some (.ref p))):SR c J (L2.upd H p o) σ env:=by
 refine ⟨⟨λb u q=>?_,λb u q=>?_,sr.hp.entJ,sr.hp.frz⟩,sr.len,λj y q=>?_,sr.sep⟩
 ·have:b≠p:=λz=>by rw [z,hJ] at q;cases q
  rw [bq this];exact sr.hp.sub b u q
 ·have:b≠p:=λz=>by rw [z,h0] at q;cases q
  rw [bq this];exact sr.hp.ent b u q
 ·obtain ⟨w,k1,k2⟩:=sr.at_ j y q;refine ⟨w,k1,?_⟩;cases y with
  | d x=>exact k2
  | bor zs=>exact k2
  | db _ _=>exact k2
  | fn _=>exact k2
  | dk ks zs=>
   obtain ⟨p',rfl,⟨us,ws,ep,m1,mr⟩,m2⟩:=k2;have hne:p'≠p:=λz=>hn j (.inr (ks,zs)) q (z▸k1);exact ⟨p',rfl,⟨us,ws,ep,by rw [bq hne];exact m1,mr⟩,m2⟩
  | own zs=>
   obtain ⟨p',us,rfl,m1,m2,m3,m4⟩:=k2;have hne:p'≠p:=λz=>hn j (.inl zs) q (z▸k1);exact ⟨p',us,rfl,by rw [bq hne];exact m1,m2,m3,m4⟩
theorem Ext.other {J H J' H':Hp}(e:Ext J H J' H') (h:H p=none) (hJ:J' p=none):Ext J H J' (L2.upd H' p o):=
 ⟨λb u q=>by rw [bq (eu q h)];exact e.h b u q,e.j,λb u q=>by
  have:b≠p:=λz=>by rw [z,hJ] at q;cases q
  rw [bq this];exact e.sub b u q,e.frz⟩
theorem AO {H:Hp}(x:fX P w H h) (hn:H a=none) (sb:Vc a h h'):fX P w H h':=λb u e=>by
 refine (x b u e).stay (λd v hd q=>(sb.2 d ?_).trans q) (λ_ q=>q) λ_ _ q=>q;rintro rfl;rcases hd with rfl | hd
 ·rw [hn] at e;cases e
 ·rw [hn] at hd;cases hd
theorem Qm {T9:List (UL×Obj)}{σ:L2.St}{H:Hp}{s:Um}{own:List Str}{cap:List Nat}{T8:X0}{cl:List (Str×UL)}{fp:List UL}{h1:VB}{m:Str->Option Uk}{tk:Nat}(I:Inv X T9 σ H s) (ok:(L3 X own cap T8 cl s.heap.objs.size s H fp).Ok)
  (hcl:d9 X.env.cells T8.names []=some cl) (hcell:∀y∈T8.names,y.2≠.cell) (hcap:qR X cap=true) (Rt:∀j∈cap,∀x,X.N[j]?=some x->(relabel T8 X.env).names.lookup x≠some .local)
  (hns:h1.Ns s.heap.objs.size m) (old:∀b o,s.heap.get? b=some o->h1.get? b=some o):
  Inv (L3 X own cap T8 cl s.heap.objs.size s H fp) [] (V7 own.length none++cap.map λ(j:Nat)=>(σ[j]?).getD none) H {s with heap:=h1,toks:=tk}:=by
 obtain ⟨m1,m2⟩:=gT T8.names [] cl hcl (λx c h=>by simp at h);refine ⟨ok,rfl,I.bare,Un.kept old,⟨m,hns,λi x v q1 q2 q3=>?_⟩,λx d h=>?_,I.hok.fresh (Uw _),λx d h=>I.freeC x d (m1 x d h),λp hp=>absurd (show p∈([]:List (UL×Obj)) from hp) (by simp),I.hok.kept old,?_⟩
 ·obtain ⟨j,h2,h3,h4⟩:=kE q2;have q1':(own++cap.map λ(j:Nat)=>(X.N[j]?).getD ("":Str))[i]?=some x:=q1;rw [V0 (by exact h2),UT,h3] at q1';have hj:j∈cap:=Vi h3;have hc:(match X.N[j]? with
   | some x=>(match X.env.scope.names.lookup x with
    | some .cell=>true
    | some .free=>true
    | _=>false)
   | none=>false)=true:=by unfold qR at hcap;exact U4.mp hcap j hj
  cases hx:X.N[j]? with
  | none=>rw [hx] at hc;cases hc
  | some y=>
   rw [adb,hx] at q1';rw [hx] at hc;have e:y=x:=by simpa using q1'
   subst e;have kd:X.env.kindOf y=some .cell\/X.env.kindOf y=some .free:=by
    unfold ae9;simp only at hc;split at hc
    ·rename_i z;exact .inl z
    ·rename_i z;exact .inr z
    ·cases hc
   obtain ⟨mX,nX,lX⟩:=I.loc;obtain ⟨u,ru,lu⟩:=lX j y v hx h4 (kd.elim (λz=>.inr (.inl z)) λz=>.inr (.inr z));refine ⟨u,ru,.inr ?_⟩;have kd':(relabel T8 X.env).names.lookup y=some .cell\/(relabel T8 X.env).names.lookup y=some .free:=by
    rcases q3 with z | z | z
    ·exact absurd z (Rt j hj y hx)
    ·exact .inl z
    ·exact .inr z
   refine ⟨kd',?_⟩;obtain ⟨d,hd⟩:=Vq.mp (m2 y (.inr (z_ hcell kd')));refine ⟨d,hd,?_⟩;rcases lu with ⟨z,_⟩ | ⟨_,d',hd',z⟩
   ·rcases kd with k | k <;> (rw [k] at z;cases z)
   ·have:=m1 y d hd;rw [hd'] at this;cases this;obtain ⟨o,ho,hod⟩:=z;exact ⟨o,old _ _ ho,hod⟩
 ·obtain ⟨v,o,ho,hod⟩:=I.cell x d (m1 x d h);exact ⟨v,o,old _ _ ho,hod⟩
 ·show _=(own++cap.map λ(j:Nat)=>(X.N[j]?).getD ("":Str)).length;simp
noncomputable def Ef (X:Cx) (cap:List Nat) (T8:X0):Bool:=cap.all λj=>match X.N[j]? with
 | some x=>!((relabel T8 X.env).names.lookup x == some .local)
 | none=>true
noncomputable def zP:List Nat->Bool
 | []=>true
 | x::r=>!(r.contains x) && zP r
theorem BH:∀{l:List Nat},zP l=true->l.Nodup
 | [],_=>Xk
 | x::r,h=>by unfold zP at h;rw [Uq] at h;refine Wq.mpr ⟨λz=>?_,BH h.2⟩;have:=h.1;simp [z] at this
theorem LJ {X:Cx}{H:Hp}{s:Um}(I:L2.Inv X T9 σ H s) (h:s.heap.objs.size<=T):(T∈X.ex\/X.s₀.heap.objs.size<=T)/\T≠X.env.locals/\(∀x c,X.env.cells.lookup x=some c->c≠T)/\∀p∈X.pn++T9,p.1≠T:=by have ne:∀b,b < s.heap.objs.size->b≠T:=λb hb z=>absurd (UQ (z▸hb) h) (Wa _);refine ⟨.inr (U1 I.sz h),(ne _ I.lt).symm,λx c hc=>?_,λp hp=>ne _ (UC (I.pin p hp).1)⟩;obtain ⟨v,o,hv,_⟩:=I.cell x c hc;exact ne _ (UC hv)
theorem E7 {X:Cx}{H:Hp}{s:Um}{C:UL}{o0:Obj}(I:L2.Inv X T9 σ H s) (ap:(C∈X.ex\/X.s₀.heap.objs.size<=C)/\C≠X.env.locals/\(∀x c,X.env.cells.lookup x=some c->c≠C)/\∀p∈X.pn++T9,p.1≠C) (hf:H C=none) (sb:Vc C s.heap h'):L2.Inv X T9 σ H {s with heap:=h'}:=by
 refine I.call' (ch:=[C]) rfl ⟨λb o hb hn _ hx=>?_,λb o hb hn _ hx=>⟨o.slots,?_⟩,λ_ _ _ n _=>n,λb o hb hx=>⟨o,?_⟩,λ_ _ q=>q,λ_ _ _ q=>q,λ_ ps q=>⟨#[],by rw [q];simp⟩⟩ (λa o ha=>?_) I.bare (λb hb=>by rw [Uz.mp hb];exact ap)
 ·exact (sb.2 b λz=>hx (by simp [z])).trans hb
 ·exact (sb.2 b λz=>hx (by simp [z])).trans hb
 ·exact (sb.2 b λz=>hx (by simp [z])).trans hb
 ·refine (I.hok a o ha).stay (λb u hb q=>(sb.2 b λz=>?_).trans q) (λ_ q=>q) λ_ _ q=>q;rcases hb with rfl | hb
  ·rw [z,hf] at ha;cases ha
  ·rw [z,hf] at hb;cases hb
end
mutual
noncomputable def bh:D->D->Bool
 | .non,.non=>true
 | .bl p,.bl q=>p == q
 | .bl p,.int q=>(if p then 1 else 0) == q
 | .int p,.bl q=>p == (if q then 1 else 0)
 | .int p,.int q=>p == q
 | .str p,.str q=>p == q
 | .tup p,.tup q=>cD p q
 | .lst p,.lst q=>cD p q
 | .emp,.emp=>true
 | .exn _ _ _,.exn _ _ _=>true
 | .dct _ _,.dct _ _=>true
 | _,_=>false
noncomputable def cD:List D->List D->Bool
 | [],[]=>true
 | x::xs,y::ys=>bh x y && cD xs ys
 | _,_=>false
end
mutual
theorem gU:∀d:D,bh d d=true
 | .non=>by simp [bh]
 | .bl _=>by simp [bh]
 | .int _=>by simp [bh]
 | .str _=>by simp [bh]
 | .tup xs=>by simp only [bh];exact qa xs
 | .lst xs=>by simp only [bh];exact qa xs
 | .emp=>by simp [bh]
 | .exn _ _ _=>by simp [bh]
 | .dct _ _=>by simp [bh]
theorem qa:∀ds:List D,cD ds ds=true
 | []=>by simp [cD]
 | x::xs=>by simp only [cD,gU x,qa xs,ad_]
end
theorem n8:∀{xs ys:List D},xs.length≠ys.length->cD xs ys=false
 | [],[],h=>absurd rfl h
 | [],_::_,_=>by simp [cD]
 | _::_,[],_=>by simp [cD]
 | x::xs,y::ys,h=>by simp only [cD,n8 (xs:=xs) (ys:=ys) (λz=>h (congrArg (· + 1) z)),XS]
noncomputable def oF (xs ys:List D) (j:Nat):Bool:=match xs[j]?,ys[j]? with
 | some x,some y=>bh x y
 | _,_=>false
theorem n9:∀{xs ys:List D},xs.length=ys.length->(Ur xs.length).all (oF xs ys)=cD xs ys
 | [],[],_=>by simp [cD]
 | x::xs,y::ys,h=>by have ih:=n9 (xs:=xs) (ys:=ys) (by simpa using h);rw [VG,aaI,XH,ZY];simp only [cD];rw [<-ih];rfl
theorem zj (xs ys:List D):((Ur (min xs.length ys.length)).all (oF xs ys) && xs.length == ys.length)=cD xs ys:=by
 by_cases h:xs.length=ys.length
 ·rw [<-h,Nat.min_self,n9 h];simp
 ·rw [n8 h,beq_eq_false_iff_ne.mpr h,XS]
section
structure HF (K:Ui) (J:Hp) (s:Um):Prop where
 t:∀a xs,cY K J a xs->∃its:List Uk,Vals xs its/\s.heap.IsTuple a its.toArray
 l:∀a xs,cj K J a xs->∃its:List Uk,Vals xs its/\s.heap.IsList a its.toArray
 e:∀a,J a=some (.dK [])->∃o,s.heap.get? a=some o/\o.cls=.type "dict"
 d:∀a ep Ue,J a=some (lD a ep Ue)->∃o es,s.heap.get? a=some o/\o.ExactDict/\o.data=.dict es ep/\aaa yy Ue es.toList
variable {K:Ui}{J:Hp}{s:Um}
theorem HF.of {X:Cx}{c:C}{H:Hp}(I:Inv X T9 σ H s) (hs:aU J H):HF X.K J s:=
 ⟨λa xs h=>let ⟨its,r,p,_⟩:=I.tuple (eY hs h);⟨its,r,p⟩,λa xs h=>let ⟨its,r,p,_⟩:=I.list (hs.seq h);⟨its,r,p.isList⟩,λa h=>by
  obtain ⟨_,_,vs,_,p⟩:=(show cM X.prog X.w H s.heap a (.dK []) from I.hok a _ (hs _ _ h));obtain ⟨o,es,ep,h1,h2,_⟩:=p;exact ⟨o,h1,h2.1⟩,λa ep Ue h=>(show cM X.prog X.w H s.heap a (lD a ep Ue) from I.hok a _ (hs _ _ h)).1⟩
theorem EI {xs ys:List Uk}(h:s.heap.IsTuple a xs.toArray) (h':s.heap.IsTuple a ys.toArray):xs=ys:=by
 obtain ⟨o,ho,_,n,hd⟩:=h;obtain ⟨o',ho',_,n',hd'⟩:=h';rw [ho] at ho';cases ho';rw [hd] at hd';injection hd' with h1 _
 simpa using congrArg aaT h1
theorem CN {xs ys:List Uk}(h:s.heap.IsList a xs.toArray) (h':s.heap.IsList a ys.toArray):xs=ys:=by
 obtain ⟨o,ho,_,n,hd⟩:=h;obtain ⟨o',ho',_,n',hd'⟩:=h';rw [ho] at ho';cases ho';rw [hd] at hd';injection hd' with h1 _
 simpa using congrArg aaT h1
mutual
theorem Rep.inj (F:HF K J s):∀{d e:D}{v:V},Rep K J d v->Rep K J e v->dep d<=1000->dep e<=1000->d=e
 | _,_,_,.emp _,_,h,_=>by unfold dep at h;omega
 | _,_,_,.exn _ _ _ _ _,_,h,_=>by unfold dep at h;omega
 | _,_,_,.dct _ _ _ _ _,_,h,_=>by unfold dep at h;omega
 | _,_,_,.non,.non,_,_=>rfl
 | _,_,_,.bl _,.bl _,_,_=>rfl
 | _,_,_,.int _,.int _,_,_=>rfl
 | _,_,_,.str _,.str _,_,_=>rfl
 | _,_,_,.tup _ _,.emp _,_,h=>by unfold dep at h;omega
 | _,_,_,.lst _ _,.emp _,_,h=>by unfold dep at h;omega
 | _,_,_,.tup _ _,.exn _ _ _ _ _,_,h=>by unfold dep at h;omega
 | _,_,_,.tup _ _,.dct _ _ _ _ _,_,h=>by unfold dep at h;omega
 | _,_,_,.lst _ _,.exn _ _ _ _ _,_,h=>by unfold dep at h;omega
 | _,_,_,.lst _ _,.dct _ _ _ _ _,_,h=>by unfold dep at h;omega
 | _,_,_,.tup h hs,.tup h' hs',k,k'=>by obtain ⟨its,r,p⟩:=F.t _ _ h;obtain ⟨its',r',p'⟩:=F.t _ _ h';have:=EI p p';subst this;have:=r.inj r';subst this;rw [aK.inj F hs hs' (by unfold dep at k;omega) (by unfold dep at k';omega)]
 | _,_,_,.lst h hs,.lst h' hs',k,k'=>by obtain ⟨its,r,p⟩:=F.l _ _ h;obtain ⟨its',r',p'⟩:=F.l _ _ h';have:=CN p p';subst this;have:=r.inj r';subst this;rw [aK.inj F hs hs' (by unfold dep at k;omega) (by unfold dep at k';omega)]
 | _,_,_,.tup h _,.lst h' _,_,_=>by obtain ⟨its,r,p⟩:=F.t _ _ h;obtain ⟨its',r',p'⟩:=F.l _ _ h';exact absurd rfl (aaJ p' p)
 | _,_,_,.lst h _,.tup h' _,_,_=>by obtain ⟨its,r,p⟩:=F.l _ _ h;obtain ⟨its',r',p'⟩:=F.t _ _ h';exact absurd rfl (aaJ p p')
theorem aK.inj (F:HF K J s):∀{ds es:List D}{vs:List V},aK K J ds vs->aK K J es vs->deps ds<=1000->deps es<=1000->ds=es
 | _,_,_,.nil,.nil,_,_=>rfl
 | _,_,_,.cons h hs,.cons h' hs',k,k'=>by rw [Rep.inj F h h' (by unfold deps at k;omega) (by unfold deps at k';omega),aK.inj F hs hs' (by unfold deps at k;omega) (by unfold deps at k';omega)]
end
theorem jE {A:U8}(h:s.heap.IsTuple a its) (r:RelV v u) (f:uI v=true) (hu:A.units < V6):WG A s (.ref a) u false/\WG A s u (.ref a) false:=by
 cases v with
 | non=>cases r;exact ⟨.tuple_none h hu,.none_tuple h hu⟩
 | bl b=>cases r;exact ⟨.tuple_bool b h hu,.bool_tuple b h hu⟩
 | int i=>obtain ⟨t,rfl⟩:=r;exact ⟨.tuple_int i t h hu,.int_tuple i t h hu⟩
 | str x=>obtain ⟨t,rfl⟩:=r;exact ⟨.tuple_str x t h hu,.str_tuple x t h hu⟩
 | _=>exact absurd (show false=true from f) UZ
theorem j6 {A:U8}(h:s.heap.IsList a its) (r:RelV v u) (f:uI v=true) (hu:A.units < V6):WG A s (.ref a) u false/\WG A s u (.ref a) false:=by
 cases v with
 | non=>cases r;exact ⟨.list_none h hu,.none_list h hu⟩
 | bl b=>cases r;exact ⟨.list_bool b h hu,.bool_list b h hu⟩
 | int i=>obtain ⟨t,rfl⟩:=r;exact ⟨.list_int i t h hu,.int_list i t h hu⟩
 | str x=>obtain ⟨t,rfl⟩:=r;exact ⟨.list_str x t h hu,.str_list x t h hu⟩
 | _=>exact absurd (show false=true from f) UZ
noncomputable def qq:D->Bool
 | .tup _=>false
 | .lst _=>false
 | .emp=>false
 | .exn _ _ _=>false
 | .dct _ _=>false
 | _=>true
theorem Rep.flat (h:Rep K J d v) (f:qq d=true):uI v=true:=by cases h <;> first | rfl | cases f
theorem Gs (h:Rep K J d v) (h':Rep K J e w) (f:qq d=true) (f':qq e=true):L8 v w=bh d e:=by cases h <;> cases h' <;> first | rfl | cases f | cases f' | simp [L8,bh]
theorem in1_units (A:U8):A.in1.units=A.units + 1:=rfl
theorem uH (F:HF K J s) (A:U8) (hd:Rep K J d v) (he:Rep K J e w) (rv:RelV v u) (rw':RelV w u') (f:qq d=true) (hu:A.units < V6) (hu':dep e<=1000):WG A s u u' (bh d e):=by
 cases q:qq e with
 | true=>rw [<-Gs hd he f q];exact L7 rv rw' (hd.flat f) (he.flat q)
 | false=>
  cases he with
  | tup h' hs'=>
   cases rw';obtain ⟨its',r',p'⟩:=F.t _ _ h';have:=(jE p' rv (hd.flat f) hu).2;cases hd <;> first | exact this | cases f
  | lst h' hs'=>
   cases rw';obtain ⟨its',r',p'⟩:=F.l _ _ h';have:=(j6 p' rv (hd.flat f) hu).2;cases hd <;> first | exact this | cases f
  | emp _=>unfold dep at hu';omega
  | exn _ _ _ _ _=>unfold dep at hu';omega
  | dct _ _ _ _ _=>unfold dep at hu';omega
  | _=>cases q
mutual
theorem m_ (F:HF K J s):∀{d e:D}{v w:V}{u u':Uk}(A:U8),Rep K J d v->Rep K J e w->RelV v u->RelV w u'->A.units + dep d < V6->dep d<=1000->dep e<=1000->WG A s u u' (bh d e)
 | .tup ds,e,_,w,u,u',A,.tup h hs,he,rv,rw',hu,hd1,hu'=>by
  cases rv;obtain ⟨its,r,p⟩:=F.t _ _ h;have QW:A.units < V6:=by unfold dep at hu;omega
  cases he with
  | tup h' hs'=>
   cases rw';obtain ⟨its',r',p'⟩:=F.t _ _ h';rename_i a vs b ws es;by_cases q:a=b
   ·subst q;have:=Rep.inj F (.tup h hs) (.tup h' hs') hd1 hu';rw [<-this,gU];exact aaY _
   ·have l1:its.length=ds.length:=by rw [<-r.length,hs.length]
    have l2:its'.length=es.length:=by rw [<-r'.length,hs'.length]
    simp only [bh];rw [<-zj,<-l1,<-l2];refine abX q ?_;have:=acm (e:=oF ds es) p p' QW λj j1 j2=>by
     have k1:j < ds.length:=by rw [<-l1];simpa using j1
     have k2:j < es.length:=by rw [<-l2];simpa using j2
     have:=nc F A.in1 hs hs' r r' (by rw [in1_units];unfold dep at hu;omega) (by unfold dep at hd1;omega) (by unfold dep at hu';omega) j k1 k2;have m1:j < its.length:=by simpa using j1
     have m2:j < its'.length:=by simpa using j2
     simpa [m1,m2] using this
    simpa using this
  | lst h' hs'=>
   cases rw';obtain ⟨its',r',p'⟩:=F.l _ _ h';exact aev p p' QW
  | non=>exact (jE p rw' rfl QW).1
  | bl _=>exact (jE p rw' rfl QW).1
  | int _=>exact (jE p rw' rfl QW).1
  | str _=>exact (jE p rw' rfl QW).1
  | emp _=>unfold dep at hu';omega
  | exn _ _ _ _ _=>unfold dep at hu';omega
  | dct _ _ _ _ _=>unfold dep at hu';omega
 | .lst ds,e,_,w,u,u',A,.lst h hs,he,rv,rw',hu,hd1,hu'=>by
  cases rv;obtain ⟨its,r,p⟩:=F.l _ _ h;have QW:A.units < V6:=by unfold dep at hu;omega
  cases he with
  | lst h' hs'=>
   cases rw';obtain ⟨its',r',p'⟩:=F.l _ _ h';rename_i a vs b ws es;by_cases q:a=b
   ·subst q;have:=Rep.inj F (.lst h hs) (.lst h' hs') hd1 hu';rw [<-this,gU];exact aaY _
   ·have l1:its.length=ds.length:=by rw [<-r.length,hs.length]
    have l2:its'.length=es.length:=by rw [<-r'.length,hs'.length]
    simp only [bh];refine abX q ?_;by_cases z:ds.length=es.length
    ·rw [<-n9 z,<-l1];have:=acQ (e:=oF ds es) p p' (by simp;omega) QW λj j1 j2=>by
      have k1:j < ds.length:=by rw [<-l1];simpa using j1
      have k2:j < es.length:=by rw [<-l2];simpa using j2
      have:=nc F A.in1 hs hs' r r' (by rw [in1_units];unfold dep at hu;omega) (by unfold dep at hd1;omega) (by unfold dep at hu';omega) j k1 k2;have m1:j < its.length:=by simpa using j1
      have m2:j < its'.length:=by simpa using j2
      simpa [m1,m2] using this
     simpa using this
    ·rw [n8 z];exact adY p p' (by simp;omega) QW
  | tup h' hs'=>
   cases rw';obtain ⟨its',r',p'⟩:=F.t _ _ h';exact aew p p' QW
  | non=>exact (j6 p rw' rfl QW).1
  | bl _=>exact (j6 p rw' rfl QW).1
  | int _=>exact (j6 p rw' rfl QW).1
  | str _=>exact (j6 p rw' rfl QW).1
  | emp _=>unfold dep at hu';omega
  | exn _ _ _ _ _=>unfold dep at hu';omega
  | dct _ _ _ _ _=>unfold dep at hu';omega
 | .non,e,v,w,u,u',A,hd,he,rv,rw',hu,_,hu'=>uH F A hd he rv rw' rfl (by omega) hu'
 | .bl _,e,v,w,u,u',A,hd,he,rv,rw',hu,_,hu'=>uH F A hd he rv rw' rfl (by omega) hu'
 | .int _,e,v,w,u,u',A,hd,he,rv,rw',hu,_,hu'=>uH F A hd he rv rw' rfl (by omega) hu'
 | .emp,e,v,w,u,u',A,hd,he,rv,rw',hu,hd1,hu'=>by unfold dep at hd1;omega
 | .exn _ _ _,e,v,w,u,u',A,hd,he,rv,rw',hu,hd1,hu'=>by unfold dep at hd1;omega
 | .dct _ _,e,v,w,u,u',A,hd,he,rv,rw',hu,hd1,hu'=>by unfold dep at hd1;omega
 | .str _,e,v,w,u,u',A,hd,he,rv,rw',hu,_,hu'=>uH F A hd he rv rw' rfl (by omega) hu'
theorem nc (F:HF K J s):∀{ds es:List D}{vs ws:List V}{us us':List Uk}(A:U8),aK K J ds vs->aK K J es ws->Vals vs us->Vals ws us'->A.units + deps ds < V6->deps ds<=1000->deps es<=1000->
  ∀(j:Nat) (h1:j < ds.length) (h2:j < es.length),WG A s (us.getD j .none) (us'.getD j .none) (oF ds es j)
 | _,_,_,_,_,_,A,.cons h hs,.cons h' hs',.cons r rs,.cons r' rs',hu,k1,k2,0,_,_=>m_ F A h h' r r' (by unfold deps at hu;omega) (by unfold deps at k1;omega) (by unfold deps at k2;omega)
 | _,_,_,_,_,_,A,.cons h hs,.cons h' hs',.cons r rs,.cons r' rs',hu,k1,k2,j + 1,h1,h2=>nc F A hs hs' rs rs' (by unfold deps at hu;omega) (by unfold deps at k1;omega) (by unfold deps at k2;omega) j (by simpa using h1) (by simpa using h2)
end
end
section
variable {K:Ui}{J:Hp}{s:Um}
theorem Fw (F:HF K J s) (A:U8) (hd:Rep K J d v) (he:Rep K J e w) (rv:RelV v u) (rw':RelV w u') (hu:A.units + dep d < V6) (hd1:dep d<=1000) (hu':dep e<=1000):SeqAt.RcAt A s u u' (bh d e)/\SeqAt.RcNeAt A s u u' (!bh d e):=by
 have QW:A.units < V6:=by omega
 cases hd with
 | non=>
  cases rv;cases he with
  | non=>cases rw';exact ⟨.none_none,.none_none⟩
  | bl b=>cases rw';exact ⟨.none_bool b,.none_bool b⟩
  | int i=>obtain ⟨t,rfl⟩:=rw';exact ⟨.none_int i t,.none_int i t⟩
  | str x=>obtain ⟨t,rfl⟩:=rw';exact ⟨.none_str x t,.none_str x t⟩
  | tup h hs=>cases rw';obtain ⟨its,r,p⟩:=F.t _ _ h;exact ⟨.none_tuple p QW,.none_tuple p QW⟩
  | lst h hs=>cases rw';obtain ⟨its,r,p⟩:=F.l _ _ h;exact ⟨.none_list p QW,.none_list p QW⟩
  | emp _=>unfold dep at hu';omega
  | exn _ _ _ _ _=>unfold dep at hu';omega
  | dct _ _ _ _ _=>unfold dep at hu';omega
 | bl a=>
  cases rv;cases he with
  | non=>cases rw';exact ⟨.bool_none a,.bool_none a⟩
  | bl b=>cases rw';exact ⟨.bool_bool a b,.bool_bool a b⟩
  | int i=>obtain ⟨t,rfl⟩:=rw';exact ⟨.bool_int a i t,.bool_int a i t⟩
  | str x=>obtain ⟨t,rfl⟩:=rw';exact ⟨.bool_str a x t,.bool_str a x t⟩
  | tup h hs=>cases rw';obtain ⟨its,r,p⟩:=F.t _ _ h;exact ⟨.bool_tuple a p QW,.bool_tuple a p QW⟩
  | lst h hs=>cases rw';obtain ⟨its,r,p⟩:=F.l _ _ h;exact ⟨.bool_list a p QW,.bool_list a p QW⟩
  | emp _=>unfold dep at hu';omega
  | exn _ _ _ _ _=>unfold dep at hu';omega
  | dct _ _ _ _ _=>unfold dep at hu';omega
 | int a=>
  obtain ⟨t0,rfl⟩:=rv;cases he with
  | non=>cases rw';exact ⟨.int_none a t0,.int_none a t0⟩
  | bl b=>cases rw';exact ⟨.int_bool a t0 b,.int_bool a t0 b⟩
  | int i=>obtain ⟨t,rfl⟩:=rw';exact ⟨.int_int a t0 i t,.int_int a t0 i t⟩
  | str x=>obtain ⟨t,rfl⟩:=rw';exact ⟨.int_str a t0 x t,.int_str a t0 x t⟩
  | tup h hs=>cases rw';obtain ⟨its,r,p⟩:=F.t _ _ h;exact ⟨.int_tuple a t0 p QW,.int_tuple a t0 p QW⟩
  | lst h hs=>cases rw';obtain ⟨its,r,p⟩:=F.l _ _ h;exact ⟨.int_list a t0 p QW,.int_list a t0 p QW⟩
  | emp _=>unfold dep at hu';omega
  | exn _ _ _ _ _=>unfold dep at hu';omega
  | dct _ _ _ _ _=>unfold dep at hu';omega
 | str a=>
  obtain ⟨t0,rfl⟩:=rv;cases he with
  | non=>cases rw';exact ⟨.str_none a t0,.str_none a t0⟩
  | bl b=>cases rw';exact ⟨.str_bool a t0 b,.str_bool a t0 b⟩
  | int i=>obtain ⟨t,rfl⟩:=rw';exact ⟨.str_int a t0 i t,.str_int a t0 i t⟩
  | str x=>obtain ⟨t,rfl⟩:=rw';exact ⟨.str_str a t0 x t,.str_str a t0 x t⟩
  | tup h hs=>cases rw';obtain ⟨its,r,p⟩:=F.t _ _ h;exact ⟨.str_tuple a t0 p QW,.str_tuple a t0 p QW⟩
  | lst h hs=>cases rw';obtain ⟨its,r,p⟩:=F.l _ _ h;exact ⟨.str_list a t0 p QW,.str_list a t0 p QW⟩
  | emp _=>unfold dep at hu';omega
  | exn _ _ _ _ _=>unfold dep at hu';omega
  | dct _ _ _ _ _=>unfold dep at hu';omega
 | tup h hs=>
  cases rv;obtain ⟨its,r,p⟩:=F.t _ _ h;cases he with
  | non=>cases rw';exact ⟨.tuple_none p QW,.tuple_none p QW⟩
  | bl b=>cases rw';exact ⟨.tuple_bool b p QW,.tuple_bool b p QW⟩
  | int i=>obtain ⟨t,rfl⟩:=rw';exact ⟨.tuple_int i t p QW,.tuple_int i t p QW⟩
  | str x=>obtain ⟨t,rfl⟩:=rw';exact ⟨.tuple_str x t p QW,.tuple_str x t p QW⟩
  | lst h' hs'=>cases rw';obtain ⟨its',r',p'⟩:=F.l _ _ h';exact ⟨.tuple_list p p' QW,.tuple_list p p' QW⟩
  | emp _=>unfold dep at hu';omega
  | exn _ _ _ _ _=>unfold dep at hu';omega
  | dct _ _ _ _ _=>unfold dep at hu';omega
  | tup h' hs'=>
   cases rw';obtain ⟨its',r',p'⟩:=F.t _ _ h';rename_i a vs ds b ws es;have l1:its.length=ds.length:=by rw [<-r.length,hs.length]
   have l2:its'.length=es.length:=by rw [<-r'.length,hs'.length]
   have it:∀(j:Nat) (j1:j < its.toArray.size) (j2:j < its'.toArray.size),WG A.in1 s its.toArray[j] its'.toArray[j] (oF ds es j):=λj j1 j2=>by
    have k1:j < ds.length:=by rw [<-l1];simpa using j1
    have k2:j < es.length:=by rw [<-l2];simpa using j2
    have:=nc F A.in1 hs hs' r r' (by rw [in1_units];unfold dep at hu;omega) (by unfold dep at hd1;omega) (by unfold dep at hu';omega) j k1 k2;have m1:j < its.length:=by simpa using j1
    have m2:j < its'.length:=by simpa using j2
    simpa [m1,m2] using this
   simp only [bh];rw [<-zj,<-l1,<-l2];have q1:=acm p p' QW it;have q2:=aeT p p' QW it;exact ⟨by simpa using q1,by simpa using q2⟩
 | emp _=>unfold dep at hd1;omega
 | exn _ _ _ _ _=>unfold dep at hd1;omega
 | dct _ _ _ _ _=>unfold dep at hd1;omega
 | lst h hs=>
  cases rv;obtain ⟨its,r,p⟩:=F.l _ _ h;cases he with
  | non=>cases rw';exact ⟨.list_none p QW,.list_none p QW⟩
  | bl b=>cases rw';exact ⟨.list_bool b p QW,.list_bool b p QW⟩
  | int i=>obtain ⟨t,rfl⟩:=rw';exact ⟨.list_int i t p QW,.list_int i t p QW⟩
  | str x=>obtain ⟨t,rfl⟩:=rw';exact ⟨.list_str x t p QW,.list_str x t p QW⟩
  | tup h' hs'=>cases rw';obtain ⟨its',r',p'⟩:=F.t _ _ h';exact ⟨.list_tuple p p' QW,.list_tuple p p' QW⟩
  | emp _=>unfold dep at hu';omega
  | exn _ _ _ _ _=>unfold dep at hu';omega
  | dct _ _ _ _ _=>unfold dep at hu';omega
  | lst h' hs'=>
   cases rw';obtain ⟨its',r',p'⟩:=F.l _ _ h';rename_i a vs ds b ws es;have l1:its.length=ds.length:=by rw [<-r.length,hs.length]
   have l2:its'.length=es.length:=by rw [<-r'.length,hs'.length]
   have it:∀(j:Nat) (j1:j < its.toArray.size) (j2:j < its'.toArray.size),WG A.in1 s its.toArray[j] its'.toArray[j] (oF ds es j):=λj j1 j2=>by
    have k1:j < ds.length:=by rw [<-l1];simpa using j1
    have k2:j < es.length:=by rw [<-l2];simpa using j2
    have:=nc F A.in1 hs hs' r r' (by rw [in1_units];unfold dep at hu;omega) (by unfold dep at hd1;omega) (by unfold dep at hu';omega) j k1 k2;have m1:j < its.length:=by simpa using j1
    have m2:j < its'.length:=by simpa using j2
    simpa [m1,m2] using this
   simp only [bh];by_cases z:ds.length=es.length
   ·rw [<-n9 z,<-l1];have q1:=acQ p p' (by simp;omega) QW it;have q2:=ae5 p p' (by simp;omega) QW it;exact ⟨by simpa using q1,by simpa using q2⟩
   ·rw [n8 z];exact ⟨.lists_lengths p p' (by simp;omega) QW,.lists_lengths p p' (by simp;omega) QW⟩
end
section
variable {X:Cx}{c:C}{e a b tg:U_}{es:List U_}{ga gb g:G R}{pos:Pos}
theorem RR.rep {He J H:Hp}(hp:HI c J H):∀{r:R}{v:V}{d:D},RR c He J H r v->(∀xs,r=.l .fresh xs\/r=.l .own xs\/r=.l .bor xs->d=.lst xs)->(∀x,r=.d x->d=x)->(∀ks vs,r≠.mo ks vs/\r≠.mb ks vs/\r≠.mf ks vs)->Rep c.K H d v
 | .mo _ _,_,_,_,_,_,n=>((n _ _).1 rfl).elim
 | .mb _ _,_,_,_,_,_,n=>((n _ _).2.1 rfl).elim
 | .mf _ _,_,_,_,_,_,n=>((n _ _).2.2 rfl).elim
 | .d x,v,d,h,_,k,_=>by rw [k x rfl];exact Rep.mono hp.sub h
 | .l m xs,v,d,h,k,_,_=>by have e:d=.lst xs:=k xs (by cases m;exact .inl rfl;exact .inr (.inl rfl);exact .inr (.inr rfl));obtain ⟨a,vs,rfl,h1,h2⟩:=RR.list hp h rfl;rw [e];exact .lst h1 (h2.mono hp.sub)
noncomputable def R.dat:R->D
 | .d x=>x
 | .l _ xs=>.lst xs
 | .mo ks vs=>.dct ks vs
 | .mb ks vs=>.dct ks vs
 | .mf ks vs=>.dct ks vs
theorem RR.dat {He J H:Hp}(hp:HI c J H){r:R}(h:RR c He J H r v):Rep c.K H r.dat v:=by
 by_cases hm:∃ks vs,r=.mo ks vs
 ·obtain ⟨ks,vs,rfl⟩:=hm;obtain ⟨a,rfl,h,_⟩:=h;exact h.rep hp.sub
 by_cases hb:∃ks vs,r=.mb ks vs
 ·obtain ⟨ks,vs,rfl⟩:=hb;obtain ⟨a,rfl,h⟩:=h;exact (h.mono (aU.refl _) hp.ent).rep hp.sub
 by_cases hf:∃ks vs,r=.mf ks vs
 ·obtain ⟨ks,vs,rfl⟩:=hf;obtain ⟨a,rfl,h,_⟩:=h;exact h.rep hp.sub
 refine h.rep hp (λxs q=>?_) (λx q=>by rw [q];rfl) λks vs=>⟨λz=>hm ⟨_,_,z⟩,λz=>hb ⟨_,_,z⟩,λz=>hf ⟨_,_,z⟩⟩;rcases q with q | q | q <;> (rw [q];rfl)
def Hy (K:Ui) (neg:Bool):R2:=λx y H Q=>∃d e,Rep K H d x/\Rep K H e y/\dep d<=60/\dep e<=60/\Q (.bl (if neg then !bh d e else bh d e)) H
theorem fk {H:Hp}(I:Inv X T9 σ H s):HF X.K H s:=HF.of (c:=⟨X.K,H,H,λ_=>True⟩) I (aU.refl H)
theorem E1 (hu:X.A.units + 64 < V6):c8 X (V5 .Eq) (Hy X.K false):=by intro T9 s σ H x y v u Q I rx ry h;obtain ⟨d,e,h1,h2,h3,h4,q⟩:=h;exact (Fw (fk I) X.A h1 h2 rx ry (by omega) (by omega) (by omega)).1 X.prog X.w X.xe _ ⟨.bl _,H,I,rfl,q⟩
theorem MW (hu:X.A.units + 64 < V6):c8 X (V5 .NotEq) (Hy X.K true):=by intro T9 s σ H x y v u Q I rx ry h;obtain ⟨d,e,h1,h2,h3,h4,q⟩:=h;exact (Fw (fk I) X.A h1 h2 rx ry (by omega) (by omega) (by omega)).2 X.prog X.w X.xe _ ⟨.bl _,H,I,rfl,q⟩
def bX (neg:Bool) (x y:R):M R:=if dep x.dat<=60/\dep y.dat<=60 then .ok (.d (.bl (if neg then !bh x.dat y.dat else bh x.dat y.dat))) else .bad
theorem Cs (neg:Bool) (hK:X.K=c.K):BD c (Hy X.K neg) (bX neg):=by
 intro He He' J H x y u v Q hp rx ry w;unfold bX at w;split at w
 ·rename_i hd;exact ⟨x.dat,y.dat,by rw [hK];exact rx.dat hp,by rw [hK];exact ry.dat hp,hd.1,hd.2,w _ J H (Ext.refl hp.sub) (.bl _)⟩
 ·exact w.elim
def inD (d:D) (xs:List D):Bool:=xs.any λx=>bh x d
noncomputable def Hz (K:Ui) (neg:Bool):R2:=λx y H Q=>∃d p vs ds,Rep K H d x/\dep d<=60/\y=.ref p/\(cj K H p vs\/cY K H p vs)/\aK K H ds vs/\deps ds<=60/\Q (.bl (if neg then !inD d ds else inD d ds)) H
theorem xr {K:Ui}{H:Hp}{y:Uk}:∀{ds:List D}{vs:List V}{us:List Uk},aK K H ds vs->Vals vs us->deps ds<=60->y∈us->∃d' v',Rep K H d' v'/\RelV v' y/\dep d'<=60
 | _,_,_,.nil,.nil,_,hy=>nomatch hy
 | _,_,_,.cons r hs,.cons q rs,hd,hy=>by
  unfold deps at hd;rcases UK.mp hy with rfl | hy
  ·exact ⟨_,_,r,q,by omega⟩
  ·exact xr hs rs (by omega) hy
open Classical in
noncomputable def Cq (K:Ui) (H:Hp) (d:D) (y:Uk):Bool:=decide (∃d' v',Rep K H d' v'/\RelV v' y/\dep d'<=1000/\bh d' d=true)
theorem Bb {K:Ui}{H:Hp}{s:Um}(F:HF K H s){d d':D}{v':V}{y:Uk}(r':Rep K H d' v') (q':RelV v' y) (hd:dep d'<=1000):Cq K H d y=bh d' d:=by
 classical
 unfold Cq;cases z:bh d' d with
 | true=>exact decide_eq_true ⟨d',v',r',q',hd,z⟩
 | false=>
  refine decide_eq_false ?_;rintro ⟨d2,v2,r2,q2,hd2,z2⟩;have:v2=v':=q2.inj q';subst this;rw [Rep.inj F r2 r' hd2 hd] at z2;rw [z] at z2;cases z2
theorem yM {K:Ui}{H:Hp}{s:Um}(F:HF K H s){d:D}:∀{ds:List D}{vs:List V}{us:List Uk},aK K H ds vs->Vals vs us->deps ds<=1000->us.any (Cq K H d)=inD d ds
 | _,_,_,.nil,.nil,_=>rfl
 | _,_,_,.cons r hs,.cons q rs,hd=>by unfold deps at hd;unfold inD;rw [aas,aas,yM F hs rs (by omega),Bb F r q (by omega)];rfl
theorem um {A:U8}{s:Um}{K:Ui}{H:Hp}(F:HF K H s){d:D}{x:V}{u:Uk}(h:Rep K H d x) (rx:RelV x u) (Ry:dep d<=60) (hA:A.units + 60 < V6){ds:List D}{vs:List V}{us:List Uk}(hs:aK K H ds vs) (rs:Vals vs us) (hd:deps ds<=60):
  ∃e:Uk->Bool,(∀y∈us,WG A s y u (e y))/\us.any e=inD d ds:=by refine ⟨Cq K H d,λy hy=>?_,yM F hs rs (by omega)⟩;obtain ⟨d',v',r',q',hd'⟩:=xr hs rs hd hy;rw [Bb F r' q' (by omega)];exact m_ F A r' h q' rx (by omega) (by omega) (by omega)
theorem E2 (hu:X.A.units + 64 < V6):c8 X (V5 .In) (Hz X.K false):=by
 intro T9 s σ H x y v u Q I rx ry h;obtain ⟨d,p,vs,ds,h1,Ry,rfl,h2,h3,h4,q⟩:=h;cases ry;have F:=fk I;rcases h2 with h2 | h2
 ·obtain ⟨its,r,pl⟩:=F.l _ _ h2;obtain ⟨e,he,hany⟩:=um (A:=X.A.in1) F h1 rx Ry (by rw [in1_units];omega) h3 r h4;exact SeqAt.in_listAt e pl (λz hz=>he z (by simpa using hz)) ⟨.bl _,H,I,rfl,by rw [show its.toArray.any e=its.any e by simp,hany];exact q⟩
 ·obtain ⟨its,r,pl⟩:=F.t _ _ h2;obtain ⟨e,he,hany⟩:=um (A:=X.A.in1) F h1 rx Ry (by rw [in1_units];omega) h3 r h4;exact SeqAt.in_tupleAt e pl (λz hz=>he z (by simpa using hz)) ⟨.bl _,H,I,rfl,by rw [show its.toArray.any e=its.any e by simp,hany];exact q⟩
theorem E4 (hu:X.A.units + 64 < V6):c8 X (V5 .NotIn) (Hz X.K true):=by
 intro T9 s σ H x y v u Q I rx ry h;obtain ⟨d,p,vs,ds,h1,Ry,rfl,h2,h3,h4,q⟩:=h;cases ry;have F:=fk I;rcases h2 with h2 | h2
 ·obtain ⟨its,r,pl⟩:=F.l _ _ h2;obtain ⟨e,he,hany⟩:=um (A:=X.A.in1) F h1 rx Ry (by rw [in1_units];omega) h3 r h4;exact SeqAt.notIn_listAt e pl (λz hz=>he z (by simpa using hz)) ⟨.bl _,H,I,rfl,by rw [show its.toArray.any e=its.any e by simp,hany];exact q⟩
 ·obtain ⟨its,r,pl⟩:=F.t _ _ h2;obtain ⟨e,he,hany⟩:=um (A:=X.A.in1) F h1 rx Ry (by rw [in1_units];omega) h3 r h4;exact SeqAt.notIn_tupleAt e pl (λz hz=>he z (by simpa using hz)) ⟨.bl _,H,I,rfl,by rw [show its.toArray.any e=its.any e by simp,hany];exact q⟩
noncomputable def fH (neg:Bool) (x y:R):M R:=iK y >>= λys=>if deps ys<=60/\dep x.dat<=60 then .ok (.d (.bl (if neg then !inD x.dat ys else inD x.dat ys))) else .bad
theorem Ct (neg:Bool) (hK:X.K=c.K):BD c (Hz X.K neg) (fH neg):=by
 intro He He' J H x y u v Q hp rx ry w;obtain ⟨ys,q,w⟩:=jj w;obtain ⟨p,vs,rfl,h1,h2⟩:=kQ hp ry q;split at w
 ·rename_i hd;exact ⟨x.dat,p,vs,ys,by rw [hK];exact rx.dat hp,hd.2,rfl,by rw [hK];exact h1,by rw [hK];exact h2.mono hp.sub,hd.1,w _ J H (Ext.refl hp.sub) (.bl _)⟩
 ·exact w.elim
abbrev GO:=G (Option Int)
def tO (c:C) (g:GO):TO:=λσ H Q=>∃J env,SR c J H σ env/\cA (g env) (λo=>∀J' H',Ext J H J' H'->Q o H') c.T
def LA (X:Cx) (c:C) (e:Option U_) (g:GO):Prop:=PO X e (tO c g)
theorem IZ {X:Cx}{e:Option U_}{t t':TO}(h:PO X e t) (k:∀σ H Q,t' σ H Q->t σ H Q):PO X e t':=λT9 s σ H Q I q=>h T9 s σ H Q I (k σ H Q q)
def uK:GO:=λ_=>.ok none
noncomputable def qf (g:G R):GO:=λenv=>g env >>= λr=>match r with
 | .d (.int i)=>.ok (some i)
 | _=>.bad
def cutD (xs:List D) (lo hi:Option Int):List D:=(xs.drop (HT.bL xs.length 0 lo)).take (HT.bL xs.length xs.length hi - HT.bL xs.length 0 lo)
theorem aK.cut {K:Ui}{J:Hp}{xs:List D}{vs:List V}(h:aK K J xs vs) (lo hi:Option Int):aK K J (cutD xs lo hi) (mL vs lo hi):=by unfold cutD mL;rw [h.length];exact (h.drop _).take _
def nq (f:R->Option Int->Option Int->M R) (g:G R) (lo hi:GO):G R:=λenv=>g env >>= λx=>lo env >>= λl=>hi env >>= λu=>f x l u
theorem IX {r:V->Option Int->Option Int->Hp->VK->Prop}{f:R->Option Int->Option Int->M R}{lo hi:Option U_}{gl gh:GO}{p2:Pos}(hr:rX X r) (hf:∀(He J H:Hp) (x:R) (v:V) (l u:Option Int) (Q:VK),HI c J H->RR c He J H x v->
   cA (f x l u) (λz=>∀w J' H',Ext J H J' H'->RR c H J' H' z w->Q w H') c.T->r v l u H Q) (h:PD X c e g) (hl:LA X c lo gl) (hh:LA X c hi gh):PD X c (.Subscript e (.Slice lo hi none p2) pos) (nq f g gl gh):=
 fC (Hh hr h hl hh) λσ H Q ⟨J,env,sr,w⟩=>by refine ⟨J,env,sr,aE (aI w) λx wx v J1 H1 e1 r1=>?_⟩;refine ⟨J1,env,sr.ext e1,aE (aI wx) λl wl J2 H2 e2=>?_⟩;refine ⟨J2,env,(sr.ext e1).ext e2,aE (aI wl) λu wu J3 H3 e3=>?_⟩;have ee:=(e1.trans e2).trans e3;exact hf H J3 H3 x v l u Q (sr.hp.ext ee) ((r1.ext e2).ext e3) (aE wu λz q w J' H' e4 r4=>q w J' H' (ee.trans e4) (RR.from ee.h r4))
def PL (x:R) (l u:Option Int):M R:=kB x >>= λxs=>.ok (.l .fresh (cutD xs l u))
theorem Dt {ss:List Str}:∀{us:List Uk},Vals (ss.map V.str) us->StrsAre us ss:=by
 induction ss with
 | nil=>intro us h;cases h;exact .nil
 | cons x r ih=>
  intro us h;cases h with
  | cons q rs=>
   obtain ⟨t,rfl⟩:=q;exact .cons x t (ih rs)
theorem xO:∀{us:List Uk}{ss:List Str},StrsAre us ss->Vals (ss.map V.str) us
 | _,_,.nil=>.nil
 | _,_,.cons y t h=>.cons ⟨t,rfl⟩ (xO h)
def j5 (x y:Str):Bool:=decide (x.cps.toList<=y.cps.toList)
def mE (ss:List Str):List Str:=ss.mergeSort j5
theorem wY (x y z:Str) (h1:j5 x y=true) (h2:j5 y z=true):j5 x z=true:=by unfold j5 at *;exact decide_eq_true (List.le_trans (of_decide_eq_true h1) (of_decide_eq_true h2))
theorem ER (x y:Str):(j5 x y || j5 y x)=true:=by
 unfold j5;rw [Xq];rcases List.le_total x.cps.toList y.cps.toList with h | h
 ·exact .inl (decide_eq_true h)
 ·exact .inr (decide_eq_true h)
theorem GP (h1:j5 x y=true) (h2:j5 y x=true):x=y:=by unfold j5 at *;have:=acR (of_decide_eq_true h1) (of_decide_eq_true h2);obtain ⟨⟨cx⟩⟩:=x;obtain ⟨⟨cy⟩⟩:=y;simp only at this;rw [this]
theorem Aj (ss:List Str):(mE ss).Pairwise λx y=>j5 x y=true:=List.pairwise_mergeSort wY ER ss
theorem oU (ss:List Str):(mE ss).Perm ss:=List.mergeSort_perm ss j5
theorem u6:∀(x:Str) (r:List Str),risingS x r=true->(x::r).Pairwise λx y=>j5 x y=true
 | x,[],_=>by simp
 | x,y::r,h=>by
  unfold risingS at h;rw [Uq] at h;have hy:=u6 y r h.2;have hxy:j5 x y=true:=by
   have h1:=h.1;rw [ltCps_eq] at h1;unfold j5;refine decide_eq_true ?_;have:¬y.cps.toList < x.cps.toList:=by simpa using h1
   exact this
  refine Xc.mpr ⟨λz hz=>?_,hy⟩;rcases UK.mp hz with rfl | hz
  ·exact hxy
  ·exact wY x y z hxy ((Xc.mp hy).1 z hz)
theorem Dr {ss ss':List Str}(hp:ss'.Perm ss) (hs:sortedS ss'=true):ss'=mE ss:=by
 have pw:ss'.Pairwise λx y=>j5 x y=true:=by
  cases ss' with
  | nil=>exact WU
  | cons x r=>exact u6 x r hs
 exact (hp.trans (oU ss).symm).eq_of_pairwise (λx y _ _ h1 h2=>GP h1 h2) pw (Aj ss)
theorem yY:cL X (.builtin "sorted") (λxs H Q=>∃p ss,xs=[.ref p]/\cj X.K H p (ss.map V.str)/\ss.length < 64/\∀ss',ss'.Perm ss->sortedS ss'=true->∀l,H l=none->Q (.ref l) (upd H l (.lst (ss'.map V.str)))):=by
 intro T9 s σ H xs us Q I r h;obtain ⟨p,ss,rfl,hq,hl,q⟩:=h;obtain ⟨u,rfl,rx⟩:=vals1 r;cases rx;obtain ⟨its,r',pl,hz⟩:=I.list hq;have hlen:=r'.length;refine sorted_strs pl.isList (Dt r') (by rw [<-hlen,Uo];exact hl) λout ss' a1 a2 a3=>?_;obtain ⟨n,hn⟩:=sortedAll_at s.heap its out;have kp:∀b o,s.heap.get? b=some o->(sortedAll s.heap its out).get? b=some o:=λb o e=>sortedAll_old e;have fr:H (s.heap.objs.size + 1)=none:=I.hok.fresh (Yy _);have ll:(ss'.map V.str).length=(ss.map V.str).length:=by rw [Uo,Uo,a2.length_eq]
 refine ⟨.ref (s.heap.objs.size + 1),_,I.laid (t':=s.toks) kp (Yy _) (show cM X.prog X.w _ _ _ (.lst (ss'.map V.str)) from ⟨by rw [ll];exact hz,out.toList,n,xO a1,by simpa [X7] using hn⟩),rfl,q ss' a2 a3 _ fr⟩
noncomputable def strsOf:List D->Option (List Str)
 | []=>some []
 | .str x::r=>(strsOf r).map (x::·)
 | _::_=>none
theorem vf {K:Ui}{J:Hp}:∀{ds:List D}{vs:List V}{ss:List Str},strsOf ds=some ss->aK K J ds vs->vs=ss.map V.str
 | [],_,_,h,.nil=>by cases h;rfl
 | .str x::r,_,ss,h,.cons q rs=>by
  unfold strsOf at h;cases z:strsOf r with
  | none=>rw [z] at h;cases h
  | some ss'=>
   rw [z] at h;cases h;cases q;rw [vf z rs];rfl
theorem xw {K:Ui}{J:Hp}:∀(ss:List Str),aK K J (ss.map D.str) (ss.map V.str)
 | []=>.nil
 | x::r=>.cons (.str x) (xw r)
noncomputable def kT:List R->M R
 | [r]=>kB r >>= λxs=>match strsOf xs with
  | some ss=>if ss.length < 64 then .ok (.l .fresh ((mE ss).map .str)) else .bad
  | none=>.bad
 | _=>.bad
theorem ly:Vx "sorted"=some (.builtin "sorted"):=by decide +kernel
theorem foldl_size (c:Array Nat):∀(k:Nat) (acc:Array Nat),((V7 k c).foldl (·++·) acc).size=acc.size + k * c.size
 | 0,acc=>by simp
 | k + 1,acc=>by rw [aby,aa1,foldl_size c k,acn,acG];omega
def tY (x:Str) (n:Nat):Str:=⟨(V7 n x.cps).foldl (·++·) #[]⟩
theorem AN (x:Str) (n:Nat):(tY x n).length=n * x.length:=by unfold tY ach;simp only;rw [foldl_size];simp
theorem Km:c8 X (XD .Mult) (λx y H Q=>∃z n,x=.str z/\y=.int n/\0<=n/\n<=1000/\z.length<=1000/\Q (.str (tY z n.toNat)) H):=by
 intro T9 s σ H x y v u Q I rx ry h;obtain ⟨z,n,rfl,rfl,h0,h1,h2,q⟩:=h;obtain ⟨t,rfl⟩:=rx;obtain ⟨t',rfl⟩:=ry;have hz:abz (z.length * n.toNat)=false:=by have:z.length * n.toNat<=1000 * 1000:=XU h2 (by omega);unfold abz;exact decide_eq_false (by have:=Wo;omega)
 refine PySem.P.mul_str (by
  rw [decide_eq_false (by omega:¬n < -(2 ^ 63:Int)),decide_eq_false (by omega:¬n ≥ 2 ^ 63)];rfl) (λhn _=>?_) (λ_ _=>hz) ?_
 ·have:(2 ^ 63 - 1:Int) / 1000<=(2 ^ 63 - 1) / n:=by refine (Int.le_ediv_iff_mul_le (by omega)).mpr ?_;have:(2 ^ 63 - 1:Int) / 1000 * n<=(2 ^ 63 - 1:Int) / 1000 * 1000:=Int.mul_le_mul_of_nonneg_left h1 (by decide);exact Int.le_trans this (by decide)
  have e:(2 ^ 63 - 1:Int) / 1000=9223372036854775:=by decide
  omega
 ·split
  ·rename_i hn;have e:n=0:=by omega
   subst e;exact ⟨by decide,.str _,H,I.tok _,⟨_,rfl⟩,q⟩
  ·split
   ·rename_i hn hc;have e:tY z n.toNat=z:=by
     unfold tY;rw [Xq] at hc;rcases hc with hc | hc
     ·have e:n=1:=by simpa using hc
      subst e;simp
     ·have e:z.length=0:=by simpa using hc
      have e2:z.cps=#[]:=by unfold ach at e;exact Array.eq_empty_of_size_eq_zero e
      obtain ⟨cz⟩:=z;simp only at e2;subst e2;congr 1;generalize n.toNat=k
      induction k with
      | zero=>rfl
      | succ k ih=>rw [aby,aa1];exact ih
    rw [e] at q;exact ⟨.str z,H,I,⟨_,rfl⟩,q⟩
   ·exact ⟨by
     have:=AN z n.toNat
     unfold tY at this;rw [this,Nat.mul_comm];have:z.length * n.toNat<=1000 * 1000:=XU h2 (by omega);rw [Wo];omega,.str _,H,I.tok _,⟨_,rfl⟩,q⟩
noncomputable def CJ:R->R->M R
 | .d (.str z),.d (.int n)=>if 0<=n/\n<=1000/\z.length<=1000 then .ok (.d (.str (tY z n.toNat))) else .bad
 | _,_=>.bad
noncomputable def pN:D->String
 | .non=>"NoneType"
 | .bl _=>"bool"
 | .int _=>"int"
 | .str _=>"str"
 | .tup _=>"tuple"
 | .lst _=>"list"
 | .emp=>"dict"
 | .exn _ _ _=>"exc"
 | .dct _ _=>"dict"
def Ao (t T:String):Bool:=t == T || (t == "bool" && T == "int")
noncomputable def EH:R->Bool
 | .d (.int _)=>true
 | _=>false
noncomputable def Mm:R->Bool
 | .d (.str _)=>true
 | _=>false
def iO (x y:R):M R:=if EH x then vH x y else if Mm x then uF x y else uG x y
def iM (x y:R):M R:=if EH x then Ma x y else CJ x y
noncomputable def aY (x y:R):M R:=match x,y with
 | .d (.str z),.d (.int i)=>if z.length<=sizeLine then (match lW z.cps.toList i with
  | some k=>.ok (.d (.str ⟨#[k]⟩))
  | none=>.bad) else .bad
 | x,.d (.int i)=>iK x >>= λxs=>(match lW xs i with
  | some d=>.ok (.d d)
  | none=>.bad)
 | _,_=>.bad
noncomputable def bu (P:UG) (w:U5) (K:Ui) (mg:Str->Option Uk) (base:VB) (k n:Nat) (x:Str) (Fm:List S->M R):Prop:=
 ∃f fd ps,fM P w K mg base oX k f fd ps (qI K n Fm)/\mg x=some (.ref f)/\VS K (.ref f)=true/\Binds K fd ps []
theorem LR {P:UG}{w:U5}{K:Ui}{mg:Str->Option Uk}{base:VB}{x Ub:Str}{st:Xg}{f:UL}{fd:U6}{N ps:List Str}{k:Nat}{Fm:List S->M R}(F:k7 K x Ub st f fd) (hm:mg x=some (.ref f)) (Sc:eZ N ps (aV st))
  (hbi:∀(kV doc pm:Uk) (an:Option UL) (cdv ct:Uk) (us:List Uk),us.length=ps.length->aao (Vr x Ub (cP st) (bR st) (aV st) .none kV doc pm an cdv ct) ⟨us,[]⟩=pure (ps.zip us)){gB:G O}
  (hb:∀(cdv:Uk) (A:U8) (outer:List Env) (s:Um) (H:Hp) (E:XK) (J:Hp) (T:Exc->Prop),dB k (A.deeper (ZX Ub (aV st) s.heap.objs.size f cdv))->
   Im (Em P w K mg base N Ub (aV st) f cdv A outer s H E) ⟨K,H,J,T⟩ (bR st) gB)
  (hF:∀as r,as.length=ps.length->Fm as=.ok r->fin (gB (aW N as))=.ok r):bu P w K mg base (k + 1) ps.length x Fm:=
 ⟨f,fd,ps,Et F Sc hb hF,hm,F.kp,F.binds hbi⟩
noncomputable def G1:List Str->Bool
 | []=>true
 | x::r=>!(r.contains x) && G1 r
theorem cH:∀{l:List Str},G1 l=true->l.Nodup
 | [],_=>Xk
 | x::r,h=>by unfold G1 at h;rw [Uq] at h;refine Wq.mpr ⟨λz=>?_,cH h.2⟩;have:=h.1;simp [z] at this
theorem Gu {H:Hp}{s:Um}{a C:UL}{dx:Option UL}(I:L2.Inv X T9 σ H s) (h:H a=some (DX.XO a C dx)) (xf:XF H dx ns vs):∃ox od,Yp s.heap a ox C od/\od.isSome=dx.isSome/\(∀d,dx=some d->∃o,od=some o/\s.heap.get? d=some o):=by
 obtain ⟨⟨oe,fs,h1,h2,h3,h4⟩,_⟩:=I.hok a _ h;have hn:adH oe=true:=by unfold adH;rw [h4]
 rcases xf with ⟨rfl,_⟩ | ⟨d,rfl,_,hd⟩
 ·exact ⟨oe,none,⟨h1,h2,hn,by rw [h3];exact abe⟩,rfl,λd z=>by cases z⟩
 ·obtain ⟨m,⟨o,es,ep,k1,_⟩,_⟩:=I.hok d _ hd;exact ⟨oe,some o,⟨h1,h2,hn,by rw [h3];exact k1⟩,rfl,λd' z=>by cases z;exact ⟨o,rfl,k1⟩⟩
noncomputable def DK (T:String):Prop:=(∀(K:Ui) (t:String),t∈["NoneType","bool","int","str","tuple","list","dict"]->abq K (.type t) (.type T)=some (Ao t T))/\ada T=true/\DX.Aw.contains (.type T)=false/\Ao "exc" T=false
theorem JY:DK "int":=⟨λK t h=>by
 simp only [UK,Vz,or_false] at h;rcases h with rfl | rfl | rfl | rfl | rfl | rfl | rfl <;> rfl,by decide +kernel,by decide,by decide⟩
theorem GJ:DK "bool":=⟨λK t h=>by
 simp only [UK,Vz,or_false] at h;rcases h with rfl | rfl | rfl | rfl | rfl | rfl | rfl <;> rfl,by decide +kernel,by decide,by decide⟩
theorem kit_tuple:DK "tuple":=⟨λK t h=>by
 simp only [UK,Vz,or_false] at h;rcases h with rfl | rfl | rfl | rfl | rfl | rfl | rfl <;> rfl,by decide +kernel,by decide,by decide⟩
theorem AI {T:String}(kit:DK T):
  cL X (.builtin "isinstance") (λxs H Q=>∃d x,xs=[x,.ty T]/\Rep X.K H d x/\Q (.bl (Ao (pN d) T)) H):=by
 intro T9 s σ H xs us Q I r h;obtain ⟨d,x,rfl,hd,q⟩:=h;obtain ⟨u,w',rfl,rx,ry⟩:=vals2 r;cases ry;have fin:∀tk,EP X T9 σ Q (.bool (Ao (pN d) T)) {s with toks:=tk}:=λtk=>⟨.bl _,H,I.tok tk,rfl,q⟩;have F:=fk I;cases hd with
 | non=>cases rx;exact WD W.kitx_none I.kIn abe (kit.1 X.K _ (by simp [pN])) (λz=>nomatch z) fin
 | bl y=>cases rx;exact WD W.kitx_bool I.kIn abe (kit.1 X.K _ (by simp [pN])) (λz=>nomatch z) fin
 | int i=>obtain ⟨t,rfl⟩:=rx;exact WD W.kitx_int I.kIn abe (kit.1 X.K _ (by simp [pN])) (λz=>nomatch z) fin
 | str y=>obtain ⟨t,rfl⟩:=rx;exact WD W.kitx_str I.kIn abe (kit.1 X.K _ (by simp [pN])) (λz=>nomatch z) fin
 | tup h hs=>
  cases rx;obtain ⟨its,r,o,h1,h2,_⟩:=F.t _ _ h;exact WD W.kitx_tuple I.kIn ⟨o,h1,h2⟩ (kit.1 X.K _ (by simp [pN])) (λz=>nomatch z) fin
 | lst h hs=>
  cases rx;obtain ⟨its,r,o,h1,h2,_⟩:=F.l _ _ h;exact WD W.kitx_list I.kIn ⟨o,h1,h2⟩ (kit.1 X.K _ (by simp [pN])) (λz=>nomatch z) fin
 | emp h=>
  cases rx;obtain ⟨o,h1,h2⟩:=F.e _ h;exact WD aco I.kIn ⟨o,h1,h2⟩ (kit.1 X.K _ (by simp [pN])) (λz=>nomatch z) fin
 | dct h _ _ _ _=>
  cases rx;obtain ⟨o,es,h1,h2,_⟩:=F.d _ _ _ h;exact WD aco I.kIn ⟨o,h1,h2.1⟩ (kit.1 X.K _ (by simp [pN])) (λz=>nomatch z) fin
 | exn h1 h2 h3 hs hx=>
  cases rx;obtain ⟨P,G,E⟩:=hx;obtain ⟨ox,od,J,_⟩:=Gu I h1 h3;simp only [pN,kit.2.2.2] at fin;exact WD (DX.GK G E) I.kIn ⟨ox,od,J⟩ (DX.MD E kit.2.1 kit.2.2.1) (λz=>nomatch z) fin
def IF (T:String) (g:G R):G R:=λenv=>g env >>= λr=>.ok (.d (.bl (Ao (pN r.dat) T)))
noncomputable def nW:List D->Option (List Bool)
 | []=>some []
 | .bl k::r=>(nW r).map (k::·)
 | _::_=>none
theorem wK {K:Ui}{J:Hp}:∀{ds:List D}{vs:List V}{ks:List Bool},nW ds=some ks->aK K J ds vs->vs=ks.map V.bl
 | [],_,_,h,.nil=>by cases h;rfl
 | .bl x::r,_,ks,h,.cons q rs=>by
  unfold nW at h;cases z:nW r with
  | none=>rw [z] at h;cases h
  | some ks'=>
   rw [z] at h;cases h;cases q;rw [wK z rs];rfl
theorem Av:∀{ks:List Bool}{us:List Uk},Vals (ks.map V.bl) us->us=ks.map Yd
 | [],_,.nil=>rfl
 | k::ks,_,.cons r rs=>by cases r;rw [Av rs];rfl
theorem all_range (ks:List Bool):(Ur ks.length).all (λi=>ks.getD i true)=ks.all id:=by
 induction ks with
 | nil=>rfl
 | cons k r ih=>
  rw [VG,aaI,XH,ZY,XH];simp only [List.getD_cons_zero];rw [<-ih];rfl
theorem D7 (hc:X.calm=true):cL X (.builtin "all") (λxs H Q=>∃(p:UL) (ks:List Bool),xs=[.ref p]/\cj X.K H p (ks.map V.bl)/\Q (.bl (ks.all id)) H):=by
 intro T9 s σ H xs us Q I r h;obtain ⟨p,ks,rfl,hq,q⟩:=h;obtain ⟨u,rfl,rx⟩:=vals1 r;cases rx;obtain ⟨its,r',pl,hz⟩:=I.list hq;have hi:=Av r';subst hi;have TH:p≠s.heap.objs.size:=by obtain ⟨o,h1,_⟩:=pl.isList;exact UY (UC h1)
 refine call_all_walk (Y8 pl.isList ⟨s.heap.objs.size,_,_,_,_,_,(λi=>ks.getD i true),rfl,ae_ (A:=X.A.in1) (show X.A.in1.handled=none from I.ok.hd hc) s.heap.objs.size p TH (ks.map Yd).toArray,⟨⟨_,Us _ rfl,rfl,rfl⟩,afi pl.isList _⟩,?_,λh' tk k=>?_⟩)
 ·intro i v s' Q' E' hP hQ;have e:∃k,ks[i]?=some k/\v=.bool k:=by
   have hP':(ks.map Yd)[i]?=some v:=by simpa using hP
   rw [UT] at hP';cases z:ks[i]? with
   | none=>rw [z] at hP';cases hP'
   | some k=>rw [z] at hP';cases hP';exact ⟨k,rfl,rfl⟩
  obtain ⟨k,e1,rfl⟩:=e;simp only at hQ;rw [Ym,e1] at hQ;exact VV hQ
 ·have sz:(ks.map Yd).toArray.size=ks.length:=by simp
  rw [sz,all_range];refine ⟨.bl (ks.all id),H,?_,rfl,q⟩;refine I.kept λb o e=>k b o (λz=>?_) (Ul _ e);have:b=s.heap.objs.size:=by simpa using z
  exact absurd (this▸UC e) (Wa _)
noncomputable def qb:List R->M R
 | [r]=>kB r >>= λxs=>match nW xs with
  | some ks=>.ok (.d (.bl (ks.all id)))
  | none=>.bad
 | _=>.bad
theorem DZ:Vx "all"=some (.builtin "all"):=by decide +kernel
noncomputable def QL (neg:Bool):R->R->M R
 | .d (.str i),.d (.str j)=>.ok (.d (.bl (if neg then !(!(aat j i 0 j.length 1).isEmpty) else !(aat j i 0 j.length 1).isEmpty)))
 | _,_=>.bad
noncomputable def QT (p q:Int->Int->Bool) (ga gb gc:G R):G R:=λenv=>ga env >>= λx=>gb env >>= λy=>match x,y with
 | .d (.int i),.d (.int j)=>if p i j then (gc env >>= λz=>match z with
  | .d (.int k)=>.ok (.d (.bl (q j k)))
  | _=>.bad) else .ok (.d (.bl false))
 | _,_=>.bad
noncomputable def CI:List R->M R
 | [.d (.int i),.d (.int j)]=>.ok (.d (.int (if j > i then j else i)))
 | _=>.bad
theorem Kv (hm:X.mg x=some u) (r:RelV v u) (hr:∀J,Rep c.K J d v) (hg:Gl X x:=by rfl) (hd:(x == ("__debug__":Str))=false:=by decide):PD X c (.Name x pos) (gC d):=uX hr (BJ hg hm r hd)
theorem LO {H:Hp}{s:Um}(I:Inv X T9 σ H s):XR < s.heap.objs.size:=by have h:UW < s.heap.objs.size:=(I.mod.glob.keeps I.bk).lt;exact XA (by decide) h
theorem EZ:c8 X (XD .Add) (λx y H Q=>∃a b xs ys,x=.ref a/\y=.ref b/\cY X.K H a xs/\cY X.K H b ys/\xs.length + ys.length<=sizeLine/\
  (xs=[]->Q (.ref b) H)/\(ys=[]->Q (.ref a) H)/\∀p,H p=none->Q (.ref p) (upd H p (.tup (xs++ys)))):=by
 intro T9 s σ H x y v u Q I rx ry h;obtain ⟨a,b,xs,ys,rfl,rfl,ha,hb,hz,q0,q1,q2⟩:=h;by_cases hx:xs=[]
 ·cases rx;cases ry;obtain ⟨its,r1,p1,_⟩:=I.tuple ha;obtain ⟨its2,r2,p2,_⟩:=I.tuple hb;have he:its=[]:=r1.nil_iff.mpr hx;subst he;obtain ⟨⟨cls,dd,data,sl⟩,ho,hc,n,hd⟩:=id p1;obtain ⟨⟨cls2,dd2,data2,sl2⟩,ho2,hc2,n2,hd2⟩:=id p2;simp only at hc hd hc2 hd2;subst hc hd hc2 hd2;exact aaW ⟨_,ho,rfl⟩ ⟨_,ho2,rfl⟩ aaC abP Y0 YF (YB _ _) (tuple_addW0 a b _ _ n n2 dd dd2 sl sl2 rfl) ⟨ho,ho2,⟨.ref b,H,I,rfl,q0 hx⟩⟩
 ·exact Kh T9 s σ H (.ref a) (.ref b) v u Q I rx ry ⟨a,b,xs,ys,rfl,rfl,ha,hb,hx,hz,q1,λ_=>q2⟩
noncomputable def CH:R->R->M R
 | .d (.tup xs),.d (.tup ys)=>if xs.length + ys.length<=sizeLine then .ok (.d (.tup (xs++ys))) else .bad
 | _,_=>.bad
theorem Jv (hK:X.K=c.K):BD c (λx y H Q=>∃a b xs ys,x=.ref a/\y=.ref b/\cY X.K H a xs/\cY X.K H b ys/\xs.length + ys.length<=sizeLine/\
  (xs=[]->Q (.ref b) H)/\(ys=[]->Q (.ref a) H)/\∀p,H p=none->Q (.ref p) (upd H p (.tup (xs++ys)))) CH:=by
 intro He He' J H x y u v Q hp rx ry w;unfold CH at w;split at w
 ·rename_i ds es;cases rx with
  | tup h1 s1=>
   cases ry with
   | tup h2 s2=>
    split at w
    ·rename_i hz;rw [s1.length,s2.length] at hz;refine ⟨_,_,_,_,rfl,rfl,by rw [hK];exact eY hp.sub h1,by rw [hK];exact eY hp.sub h2,hz,λe=>?_,λe=>?_,λp hp'=>w _ _ _ (Ext.newJ hp.sub hp' _) (qB hp hp' (s1.append s2))⟩
     ·have e':ds=[]:=Zp (by rw [s1.length,e];rfl);subst e';exact w _ J H (Ext.refl hp.sub) (.tup h2 s2)
     ·have e':es=[]:=Zp (by rw [s2.length,e];rfl);subst e';rw [WB] at w;exact w _ J H (Ext.refl hp.sub) (.tup h1 s1)
    ·exact w.elim
 ·exact w.elim
noncomputable def Mq:R->Bool
 | .d (.tup _)=>true
 | _=>false
def bY (x y:R):M R:=if Mq x then CH x y else iO x y
noncomputable def intsOf:List D->Option (List Int)
 | []=>some []
 | .int i::r=>(intsOf r).map (i::·)
 | _::_=>none
theorem oq {K:Ui}{J:Hp}:∀{ds:List D}{vs:List V}{ns:List Int},intsOf ds=some ns->aK K J ds vs->vs=ns.map V.int
 | [],_,_,h,.nil=>by cases h;rfl
 | .int x::r,_,ks,h,.cons q rs=>by
  unfold intsOf at h;cases z:intsOf r with
  | none=>rw [z] at h;cases h
  | some ks'=>
   rw [z] at h;cases h;cases q;rw [oq z rs];rfl
def signs (x:Str):List D:=x.cps.toList.map λk=>.str ⟨#[k]⟩
noncomputable def QM (g:G R):G (List D):=λenv=>g env >>= λr=>match r with
 | .d (.str x)=>.ok (signs x)
 | _=>.bad
theorem AR {prog:UG}{w:U5}{A:U8}{E:Uk->Um->Prop}{s:Um}{t sl:UL}{items:Array Uk}{vl vu:Uk}{lo hi:Option Int}{Q:Uk->Um->Prop}(ht:aeq s.heap t items) (hs:s.heap.IsSliceOf sl vl vu .none) (pl:abQ vl lo) (pu:abQ vu hi)
  (hw:HT.bL items.size 0 lo=0/\HT.bL items.size items.size hi=items.size) (h:Q (.ref t) s):UB (UO prog w) A (acd (.ref t) (.ref sl)) Q E s:=by
 obtain ⟨os,hos,hcs,hds⟩:=id hs;have Se:s.TypeIs (.ref sl) "slice":=⟨os,hos,hcs⟩;unfold acd
 try with_reducible refine U7 ?_
 first | refine Uh (Uj ?_) | skip
 refine Uh (ace ht.typeIs (by decide) ?_);refine Uh (U0 (name:=V3 "__getitem__") ht.typeIs VA
  (U3 VA ht.typeIs abw ?_ (abS _ _)))
 show UB _ _ (Yl (.ref t) >>= _) _ _ s;refine Uh (ad5 ht ?_);refine Uh (X4 Se ?_);rw [if_pos (by decide)];refine Uh (HT.lN hs pl pu ?_);have hyes:(((HT.bL items.size 0 lo:Nat):Int) == 0 && (1:Int) == 1 && (HT.bL items.size items.size hi - HT.bL items.size 0 lo) == items.size)=true:=by rw [hw.1,hw.2];simp
 show UB _ _ (if (((HT.bL items.size 0 lo:Nat):Int) == 0 && (1:Int) == 1 && (HT.bL items.size items.size hi - HT.bL items.size 0 lo) == items.size)=true then _ else _) _ _ s;rw [if_pos hyes];unfold adB;refine Uh (Uh (X4 ht.typeIs (Uj ?_)));rw [if_pos (by decide)];exact Uh (XX (Uj ⟨_,rfl,Uj h⟩))
theorem FH:rX X (λx lo hi H Q=>∃a xs,x=.ref a/\cY X.K H a xs/\((HT.bL xs.length 0 lo=0/\HT.bL xs.length xs.length hi=xs.length)->Q (.ref a) H)/\∀p,H p=none->Q (.ref p) (upd H p (.tup (mL xs lo hi)))):=by
 intro T9 s σ H x v vl vu lo hi sl Q I rx hs pl pu h;obtain ⟨a,xs,rfl,hx,q0,q1⟩:=h;by_cases hw:HT.bL xs.length 0 lo=0/\HT.bL xs.length xs.length hi=xs.length
 ·cases rx;obtain ⟨its,r,ht,hz⟩:=I.tuple hx;have hlen:its.toArray.size=xs.length:=by rw [Uy];exact r.length.symm
  exact ⟨"tuple",_,VA.lookup,ht.typeIs,AR ht hs pl pu (by rw [hlen];exact hw) ⟨.ref a,H,I,rfl,q0 hw⟩⟩
 ·exact NJ T9 s σ H (.ref a) v vl vu lo hi sl Q I rx hs pl pu ⟨a,xs,rfl,hx,hw,q1⟩
theorem CC {xs:List D}{lo hi:Option Int}(h:HT.bL xs.length 0 lo=0/\HT.bL xs.length xs.length hi=xs.length):cutD xs lo hi=xs:=by unfold cutD;rw [h.1,h.2];simp
noncomputable def Gv:R->Option Int->Option Int->M R
 | .d (.tup xs),l,u=>.ok (.d (.tup (cutD xs l u)))
 | _,_,_=>.bad
theorem P_ (hK:X.K=c.K) (He J H:Hp) (x:R) (v:V) (l u:Option Int) (Q:VK) (hp:HI c J H) (rx:RR c He J H x v) (w:cA (Gv x l u) (λz=>∀w J' H',Ext J H J' H'->RR c H J' H' z w->Q w H') c.T):
  ∃a xs,v=.ref a/\cY X.K H a xs/\((HT.bL xs.length 0 l=0/\HT.bL xs.length xs.length u=xs.length)->Q (.ref a) H)/\∀p,H p=none->Q (.ref p) (upd H p (.tup (mL xs l u))):=by
 unfold Gv at w;split at w
 ·rename_i ds;cases rx with
  | tup h1 s1=>
   refine ⟨_,_,rfl,by rw [hK];exact eY hp.sub h1,λhw=>?_,λp hp'=>w _ _ _ (Ext.newJ hp.sub hp' _) (qB hp hp' (s1.cut _ _))⟩;rw [<-s1.length] at hw;rw [CC hw] at w;exact w _ J H (Ext.refl hp.sub) (.tup h1 s1)
 ·exact w.elim
def zq (x:R) (l u:Option Int):M R:=if Mq x then Gv x l u else PL x l u
end
structure vm (prog:UG) (w:U5) (it src:UL) (vals:Array Uk) (St:Nat->VB->Prop):Prop where
 keep:∀(k:Nat) (h h':VB),St k h->(∀o,h.get? it=some o->h'.get? it=some o)->(∀o,h.get? src=some o->h'.get? src=some o)->St k h'
 there:∀(k:Nat) (h:VB),St k h->∃o,h.get? it=some o/\∀v,o.data≠.cell v
 item:∀(A:U8) (s:Um) (k:Nat) (x:Uk) (Q:Uk->Um->Prop) (E:Uk->Um->Prop),St k s.heap->vals[k]?=some x->(∀h',St (k + 1) h'->Vc it s.heap h'->Q x {s with heap:=h'})->
  UB (UO prog w) A (UM (.ref it)) Q E s
 fin:∀(A:U8) (s:Um) (k:Nat) (Q:Uk->Um->Prop) (E:Uk->Um->Prop),A.handled=none->St k s.heap->vals[k]?=none->
  (∀h' e,ZI it s.heap h'->(∃o,h'.get? e=some o/\o.cls=.type "StopIteration")->E (.ref e) {s with heap:=h'})->UB (UO prog w) A (UM (.ref it)) Q E s
theorem l7 (prog:UG) (w:U5) (it l:UL) (vals:Array Uk) (hne:l≠it):vm prog w it l vals (λk h=>h.IsListIter it l k/\h.IsList l vals) where
 keep:=λk h h' st k1 k2=>⟨st.1.at λo e=>k1 o e,st.2.at λo e=>k2 o e⟩
 there:=λk h st=>by obtain ⟨⟨o,e,_,d⟩,_⟩:=st;exact ⟨o,e,λv z=>by rw [d] at z;cases z⟩
 item:=λA s k x Q E st hx hQ=>wpAny_nextOf_list_item st.1 st.2 hx λh' a1 a2=>hQ h' ⟨a1,st.2.extBut a2.extBut hne⟩ a2
 fin:=λA s k Q E hh st hx hE=>wpAny_nextOf_list_end hh st.1 st.2 hx hE
theorem next_tuple_item {prog:UG}{w:U5}{A:U8}{E:Uk->Um->Prop}{s:Um}{it t:UL}{k:Nat}{vals:Array Uk}{x:Uk}{Q:Uk->Um->Prop}(hit:s.heap.IsTupleIter it t k) (ht:s.heap.IsTuple t vals) (hx:vals[k]?=some x)
  (hQ:∀h',h'.IsTupleIter it t (k + 1)->Vc it s.heap h'->Q x {s with heap:=h'}):UB (UO prog w) A (UM (.ref it)) Q E s:=by obtain ⟨oi,RI,SO,hdi⟩:=id hit;obtain ⟨ot,Sx,_,nt,hdt⟩:=ht;unfold UM;refine Uh (U0 (name:=V3 "__next__") hit.typeIs W4 (U3 W4 hit.typeIs ZJ ?_ (Zx _)));show UB _ _ (field (.ref it) 0 >>= _) _ _ s;refine Uh (Vo RI hdi (x:=.ref t) rfl ?_);show UB _ _ (if (VN t == Vl)=true then _ else _) _ _ s;rw [if_neg (show ¬(VN t == Vl)=true from λz=>UZ z)];show UB _ _ (field (.ref it) 1 >>= _) _ _ s;refine Uh (Vo RI hdi (x:=.int k 0) rfl ?_);show UB _ _ (abY (.ref t) >>= _) _ _ s;refine Uh (Wl Sx hdt ?_);simp only [VY,hx];refine Uh (Z6 RI hdi (by simp) (Uj ⟨x,rfl,Uj (hQ _ ?_ (VQ ..))⟩));exact ⟨_,Vd _ RI (aa2 (YK hdi _)),(acp ..).trans SO,by rw [YK hdi] <;> simp [YZ]⟩
theorem next_tuple_end {prog:UG}{w:U5}{A:U8}{E:Uk->Um->Prop}{s:Um}{it t:UL}{k:Nat}{vals:Array Uk}{Q:Uk->Um->Prop}(hh:A.handled=none) (hit:s.heap.IsTupleIter it t k) (ht:s.heap.IsTuple t vals) (hx:vals[k]?=none)
  (hE:∀h' e,ZI it s.heap h'->(∃o,h'.get? e=some o/\o.cls=.type "StopIteration")->E (.ref e) {s with heap:=h'}):UB (UO prog w) A (UM (.ref it)) Q E s:=by
 obtain ⟨oi,RI,SO,hdi⟩:=id hit;obtain ⟨ot,Sx,_,nt,hdt⟩:=ht;unfold UM;refine Uh (U0 (name:=V3 "__next__") hit.typeIs W4 (U3 W4 hit.typeIs ZJ ?_ (Zx _)));show UB _ _ (field (.ref it) 0 >>= _) _ _ s;refine Uh (Vo RI hdi (x:=.ref t) rfl ?_);show UB _ _ (if (VN t == Vl)=true then _ else _) _ _ s;rw [if_neg (show ¬(VN t == Vl)=true from λz=>UZ z)];show UB _ _ (field (.ref it) 1 >>= _) _ _ s;refine Uh (Vo RI hdi (x:=.int k 0) rfl ?_);show UB _ _ (abY (.ref t) >>= _) _ _ s;refine Uh (Wl Sx hdt ?_);simp only [VY,hx];refine Uh (XX (Uh (Z6 RI hdi (by simp) ?_)));show UB _ _ (adZ (.type "StopIteration") [] >>= _) _ _ _;refine Uh ?_;simp only [adZ,ac1];refine Uh (UU ?_ (by size_fits));refine Uh (m:=Xl _ _) (YA (a:=Vl) (by first | rfl | (simp only [Xl];rfl)) ?_);refine UU ?_ (by size_fits);simp only [aea];refine Uh (aau ?_)
 first | rw [show A.in1.handled=none from hh] | rw [hh]
 refine Uh (Uj (abA ?_));exact hE _ _ (((VQ ..).extBut.push _).push _) ⟨_,Us _ rfl,rfl⟩
theorem kH (prog:UG) (w:U5) (it t:UL) (vals:Array Uk) (hne:t≠it):vm prog w it t vals (λk h=>h.IsTupleIter it t k/\h.IsTuple t vals) where
 keep:=λk h h' st k1 k2=>by obtain ⟨⟨o,e,r⟩,⟨o2,e2,r2⟩⟩:=st;exact ⟨⟨o,k1 o e,r⟩,⟨o2,k2 o2 e2,r2⟩⟩
 there:=λk h st=>by obtain ⟨⟨o,e,_,d⟩,_⟩:=st;exact ⟨o,e,λv z=>by rw [d] at z;cases z⟩
 item:=λA s k x Q E st hx hQ=>next_tuple_item st.1 st.2 hx λh' a1 a2=>hQ h' ⟨a1,st.2.extBut a2.extBut hne⟩ a2
 fin:=λA s k Q E hh st hx hE=>next_tuple_end hh st.1 st.2 hx hE
abbrev Ji (h:VB) (o1 o2:Obj):VB:=((h.push o1).push o2).push {cls:=.type "tuple",data:=.seq #[.ref h.objs.size,.ref (h.push o1).objs.size]}
abbrev B8 (h:VB) (o1 o2:Obj):VB:=(Ji h o1 o2).push {cls:=.type "tuple",data:=.seq #[.none,.none]}
abbrev Az (h:VB) (o1 o2:Obj):VB:=(B8 h o1 o2).push {cls:=.type "zip",data:=.fields #[.none,.bool false,.bool false,.ref ((h.push o1).push o2).objs.size,.ref (Ji h o1 o2).objs.size]}
def f_ (k:String) (l:UL):Obj:={cls:=.type k,data:=.fields #[.ref l,.int 0 0]}
def DJ (k:String) (h:VB) (l:UL) (vals:Array Uk):Prop:=(k="list_iterator"/\h.IsList l vals)\/(k="tuple_iterator"/\h.IsTuple l vals)
theorem oG {prog:UG}{w:U5}{A:U8}{E:Uk->Um->Prop}{s:Um}{k:String}{l:UL}{vals:Array Uk}{Q:Uk->Um->Prop}(x:DJ k s.heap l vals) (h:Q (.ref s.heap.objs.size) {s with heap:=s.heap.push (f_ k l)}):UB (UO prog w) A (ZF (.ref l)) Q E s:=by
 rcases x with ⟨rfl,x⟩ | ⟨rfl,x⟩
 ·exact Y8 x h
 ·exact YL x h
noncomputable def SQ (k:String) (it l:UL) (vals:Array Uk) (m:Nat) (h:VB):Prop:=(k="list_iterator"/\h.IsListIter it l m/\h.IsList l vals)\/(k="tuple_iterator"/\h.IsTupleIter it l m/\h.IsTuple l vals)
def IQ (k:String) (it l:UL) (m:Nat) (h:VB):Prop:=(k="list_iterator"/\h.IsListIter it l m)\/(k="tuple_iterator"/\h.IsTupleIter it l m)
theorem SQ.iq {k:String}{it l:UL}{vals:Array Uk}{m:Nat}{h:VB}(x:SQ k it l vals m h):IQ k it l m h:=x.elim (λx=>.inl ⟨x.1,x.2.1⟩) λx=>.inr ⟨x.1,x.2.1⟩
theorem Es (prog:UG) (w:U5) (k:String) (it l:UL) (vals:Array Uk) (hne:l≠it):vm prog w it l vals (SQ k it l vals) where
 keep:=λm h h' st k1 k2=>by
  rcases st with ⟨e,st⟩ | ⟨e,st⟩
  ·exact .inl ⟨e,(l7 prog w it l vals hne).keep m h h' st k1 k2⟩
  ·exact .inr ⟨e,(kH prog w it l vals hne).keep m h h' st k1 k2⟩
 there:=λm h st=>by
  rcases st with ⟨e,st⟩ | ⟨e,st⟩
  ·exact (l7 prog w it l vals hne).there m h st
  ·exact (kH prog w it l vals hne).there m h st
 item:=λA s m x Q E st hx hQ=>by
  rcases st with ⟨e,st⟩ | ⟨e,st⟩
  ·exact (l7 prog w it l vals hne).item A s m x Q E st hx λh' a1 a2=>hQ h' (.inl ⟨e,a1⟩) a2
  ·exact (kH prog w it l vals hne).item A s m x Q E st hx λh' a1 a2=>hQ h' (.inr ⟨e,a1⟩) a2
 fin:=λA s m Q E hh st hx hE=>by
  rcases st with ⟨e,st⟩ | ⟨e,st⟩
  ·exact (l7 prog w it l vals hne).fin A s m Q E hh st hx hE
  ·exact (kH prog w it l vals hne).fin A s m Q E hh st hx hE
def ku (k:String) (K:Ui) (H:Hp) (l:UL) (xs:List V):Prop:=(k="list_iterator"/\cj K H l xs)\/(k="tuple_iterator"/\cY K H l xs)
section
variable {X:Cx}{T9:List (UL×Obj)}{σ:L2.St}{H:Hp}{s:Um}
theorem ku.get {k:String}{l:UL}{xs:List V}(I:Inv X T9 σ H s) (h:ku k X.K H l xs):∃its:List Uk,Vals xs its/\DJ k s.heap l its.toArray:=by
 rcases h with ⟨e,h⟩ | ⟨e,h⟩
 ·obtain ⟨its,r,p,_⟩:=I.list h;exact ⟨its,r,.inl ⟨e,p.isList⟩⟩
 ·obtain ⟨its,r,p,_⟩:=I.tuple h;exact ⟨its,r,.inr ⟨e,p⟩⟩
theorem ku.inj {k:String}{l:UL}{xs ys:List V}(I:Inv X T9 σ H s) (h:ku k X.K H l xs) (h':ku k X.K H l ys):xs=ys:=by
 rcases h with ⟨e,h⟩ | ⟨e,h⟩ <;> rcases h' with ⟨e',h'⟩ | ⟨e',h'⟩
 ·exact I.list_inj h h'
 ·rw [e] at e';exact absurd e' (by decide)
 ·rw [e] at e';exact absurd e' (by decide)
 ·exact I.tuple_inj h h'
theorem ku.ne {k:String}{l b:UL}{xs:List V}(I:Inv X T9 σ H s) (h:ku k X.K H l xs) (f:iR X T9 H b):l≠b:=by
 have t:(∃o,H l=some o)\/∃o,X.K.lookup l=some o:=by
  rcases h with ⟨_,h⟩ | ⟨_,h⟩ <;> rcases h with (h | ⟨o,h⟩) | ⟨o,_,_,h,_⟩
  ·exact .inl ⟨_,h⟩
  ·exact .inl ⟨_,h⟩
  ·exact .inr ⟨o,h⟩
  ·exact .inl ⟨_,h⟩
  ·exact .inl ⟨_,h⟩
  ·exact .inr ⟨o,h⟩
 rintro rfl;rcases t with ⟨o,t⟩ | ⟨o,t⟩
 ·rw [f.1] at t;cases t
 ·have hb:X.base.get? l=some o:=I.ok.mod.kin l o t;rcases f.2.2.2.1 with z | z
  ·exact I.ok.noex l o hb z
  ·exact absurd (UQ (UC (I.ok.bs l o hb).1) z) (Wa _)
end
theorem IQ.keep {k:String}{it l:UL}{m:Nat}{h h':VB}(x:IQ k it l m h) (kp:∀o,h.get? it=some o->h'.get? it=some o):IQ k it l m h':=by
 rcases x with ⟨e,o,h1,r⟩ | ⟨e,o,h1,r⟩
 ·exact .inl ⟨e,o,kp o h1,r⟩
 ·exact .inr ⟨e,o,kp o h1,r⟩
theorem IQ.obj {k:String}{it l:UL}{m:Nat}{h:VB}(x:IQ k it l m h):∃o,h.get? it=some o/\∀v,o.data≠.cell v:=by rcases x with ⟨e,o,h1,_,d⟩ | ⟨e,o,h1,_,d⟩ <;> exact ⟨o,h1,λv z=>by rw [d] at z;cases z⟩
theorem IQ.sq {k:String}{it l:UL}{m:Nat}{h:VB}{vals:Array Uk}(x:IQ k it l m h) (q:DJ k h l vals):SQ k it l vals m h:=by
 rcases x with ⟨e,x⟩ | ⟨e,x⟩ <;> rcases q with ⟨e',q⟩ | ⟨e',q⟩
 ·exact .inl ⟨e,x,q⟩
 ·rw [e] at e';exact absurd e' (by decide)
 ·rw [e] at e';exact absurd e' (by decide)
 ·exact .inr ⟨e,x,q⟩
section
variable {X:Cx}{c:C}{e a b:U_}{es:List U_}{ga gb g:G R}{pos:Pos}{elts:List U_}{kk:Nat}{tp:Pos}
noncomputable def yO:R->M (List D)
 | .d (.tup xs)=>.ok xs
 | .d (.lst xs)=>.ok xs
 | .l _ xs=>.ok xs
 | _=>.bad
theorem ku.same {k:String}{K:Ui}{H H':Hp}{l:UL}{xs:List V}(e:aU H H') (h:ku k K H l xs):ku k K H' l xs:=h.elim (λh=>.inl ⟨h.1,e.seq h.2⟩) λh=>.inr ⟨h.1,eY e h.2⟩
theorem NK {He J1 H1:Hp}{r:R}{v:V}{xs:List D}(hp:HI c J1 H1) (h:RR c He J1 H1 r v) (q:yO r=.ok xs):∃k l vs,v=.ref l/\aK c.K J1 xs vs/\ku k c.K H1 l vs:=by
 unfold yO at q;split at q
 ·cases q;cases h with
  | tup h1 h2=>exact ⟨"tuple_iterator",_,_,rfl,h2,.inr ⟨rfl,eY hp.sub h1⟩⟩
 ·cases q;cases h with
  | lst h1 h2=>exact ⟨"list_iterator",_,_,rfl,h2,.inl ⟨rfl,hp.sub.seq h1⟩⟩
 ·cases q;obtain ⟨a,vs,rfl,h1,h2⟩:=RR.list hp h rfl;exact ⟨"list_iterator",_,_,rfl,h2,.inl ⟨rfl,h1⟩⟩
 ·cases q
theorem Lk {α:Type}{x:R}{f:List D->M α}{Q:α->Prop}{T:Exc->Prop}(w:cA (yO x >>= f) Q T):∃xs,yO x=.ok xs/\cA (f xs) Q T:=by
 cases q:yO x with
 | bad=>rw [q] at w;exact w.elim
 | ok xs=>rw [q] at w;exact ⟨xs,rfl,w⟩
 | exc z=>unfold yO at q;split at q <;> cases q
end
section
variable {X:Cx}{c:C}{e a b tg:U_}{es:List U_}{ga gb g:G R}{pos:Pos}
def Ce (K:Ui) (mg:Str->Option Uk) (x:Str) (d:D):Prop:=∃u v,mg x=some u/\RelV v u/\∀J,Rep K J d v
theorem D4:Vx "int"=some (.type "int"):=by decide +kernel
theorem Cw:Vx "bool"=some (.type "bool"):=by decide +kernel
theorem r_:Vx "tuple"=some (.type "tuple"):=by decide +kernel
end
section
variable {X:Cx}{c:C}{e a b tg:U_}{es:List U_}{ga gb g:G R}{pos:Pos}{st:Xg}{t u:G O}{tb:G Bool}
def yh:G O:=λ_=>.bad
noncomputable def vK (g:G R):G R:=λenv=>g env >>= λr=>match r with
 | .d (.int i)=>.ok (.d (.int (-i)))
 | _=>.bad
noncomputable def HS:R->M Bool
 | .d .non=>.ok false
 | .d (.bl b)=>.ok b
 | .d (.int i)=>.ok (i != 0)
 | .d (.str y)=>if y.length<=sizeLine then .ok ((y.length:Int) != 0) else .bad
 | .d (.tup xs)=>.ok (!xs.isEmpty)
 | .d (.lst xs)=>.ok (!xs.isEmpty)
 | .d .emp=>.ok false
 | .d (.exn _ _ _)=>.bad
 | .d (.dct _ _)=>.bad
 | .l _ xs=>.ok (!xs.isEmpty)
 | _=>.bad
theorem Ml {K:Ui}{J:Hp}{ds:List D}{vs:List V}(h:aK K J ds vs):ds.isEmpty=vs.isEmpty:=by cases h <;> rfl
theorem Lg {He J H:Hp}(hp:HI c J H){Q:Bool->Prop}{T:Exc->Prop}:∀{r:R}{v:V},RR c He J H r v->cA (HS r) Q T->∃k,Gd c.K v H k/\Q k
 | .d .non,_,h,w=>by cases h;exact ⟨_,rfl,w⟩
 | .d (.bl b),_,h,w=>by cases h;exact ⟨_,rfl,w⟩
 | .d (.int i),_,h,w=>by cases h;exact ⟨_,rfl,w⟩
 | .d (.str y),_,h,w=>by
  cases h;unfold HS at w;simp only at w;split at w
  ·rename_i hz;exact ⟨_,⟨hz,rfl⟩,w⟩
  ·exact w.elim
 | .d (.tup xs),_,h,w=>by
  cases h with
  | tup h1 h2=>exact ⟨_,.inr (.inl ⟨_,eY hp.sub h1,rfl⟩),by rw [<-Ml h2];exact w⟩
 | .d (.lst xs),_,h,w=>by
  cases h with
  | lst h1 h2=>exact ⟨_,.inl ⟨_,hp.sub.seq h1,rfl⟩,by rw [<-Ml h2];exact w⟩
 | .d .emp,_,h,w=>by
  cases h with
  | emp h1=>exact ⟨_,.inr (.inr ⟨_,hp.sub _ _ h1,rfl⟩),w⟩
 | .d (.exn _ _ _),_,_,w=>w.elim
 | .d (.dct _ _),_,_,w=>w.elim
 | .mo _ _,_,_,w=>w.elim
 | .mb _ _,_,_,w=>w.elim
 | .mf _ _,_,_,w=>w.elim
 | .l m xs,_,h,w=>by obtain ⟨a,vs,rfl,h1,h2⟩:=RR.list hp h rfl;exact ⟨_,.inl ⟨_,h1,rfl⟩,by rw [<-Ml h2];exact w⟩
def tK (g:G R):G Bool:=λenv=>g env >>= HS
noncomputable def lQ (tb:G Bool) (u:G O):Nat->Ev->M O
 | 0,_=>.bad
 | n + 1,env=>tb env >>= λk=>if k=true then u env >>= λo=>(match o with
  | .nx e=>lQ tb u n e
  | .ct e=>lQ tb u n e
  | .bk e=>.ok (.nx e)
  | .rt r=>.ok (.rt r)) else .ok (.nx env)
def uL (n:Nat) (tb:G Bool) (u:G O):G O:=λenv=>lQ tb u n env
theorem aK.eraseIdx {K:Ui}{J:Hp}:∀{ds:List D}{vs:List V}(k:Nat),aK K J ds vs->aK K J (ds.eraseIdx k) (vs.eraseIdx k)
 | _,_,_,.nil=>by rw [acq,acq];exact .nil
 | _,_,0,.cons _ t=>t
 | _,_,k + 1,.cons r t=>.cons r (aK.eraseIdx k t)
noncomputable def QO (i j:Nat):G O:=λenv=>match env[j]? with
 | some (some (.own xs))=>(match xs[xs.length - 1]? with
  | some d=>.ok (.nx ((env.set j (some (.own xs.dropLast))).set i (some (.d d))))
  | none=>.bad)
 | _=>.bad
noncomputable def nk (i j:Nat) (g:G R):G O:=λenv=>match env[i]?,env[j]? with
 | some (some (.own zs)),some (some (.own xs))=>if i=j then .bad else g env >>= λr=>(match r with
  | .d (.int k)=>if 0<=k/\k.toNat < xs.length/\zs.length < sizeLine/\xs.length<=sizeLine then (match xs[k.toNat]? with
   | some d=>.ok (.nx ((env.set j (some (.own (xs.eraseIdx k.toNat)))).set i (some (.own (zs++[d])))))
   | none=>.bad) else .bad
  | _=>.bad)
 | _,_=>.bad
theorem OM {k:Int}{n:Nat}(h0:0<=k) (h:k.toNat < n):abT k n=some k.toNat:=by
 unfold abT;have h1:¬k < 0:=by omega
 have h2:k < n:=by omega
 simp [h1,h0,h2]
theorem M5 {J H:Hp}{σ:L2.St}{env:Ev}(sr:SR c J H σ env){i j:Nat}{xs ys:List D}{p q:UL}(hij:i≠j) (hi:env[i]?=some (some (.own xs))) (hj:env[j]?=some (some (.own ys))) (h1:σ[i]?=some (some (.ref p))) (h2:σ[j]?=some (some (.ref q))):p≠q:=λz=>
 sr.sep i j (.inl xs) (.inl ys) (.ref p) hij hi hj h1 (z▸h2)
end
open PySem.AutoSeq1 in
theorem Er (T:String) (hT:T="tuple"\/T="list") (l b:UL) (xs ys:Array Uk) (n m:Nat) (dd:Option UL) (sl:Array (Option Uk)) (z0:¬(!xs.isEmpty && WH (xs.size + ys.size))=true) (z1:xs.size<=sizeLine) (z2:xs.size + ys.size<=sizeLine + 1):
  Meets (X6.«list.extend» ⟨[.ref l,.ref b],[]⟩) λ_ R s=>s.heap.get? l=some {cls:=.type "list",dict:=none,data:=.seq xs n,slots:=#[]}/\
   s.heap.get? b=some {cls:=.type T,dict:=dd,data:=.seq ys m,slots:=sl}/\R (.ok (.ret Vl)) {s with heap:=s.heap.update l (VJ λx=>x++ys),toks:=s.toks}:=
 .of_wp λprog w A R s h=>by
  obtain ⟨hp,gs,dr,tk,os⟩:=s;obtain ⟨h1,h2,h3⟩:=h;have t1:=AutoSeq1.idx_int;have t2:=YC;have t3:=AutoSeq1.sub_list_list;have t4:=AutoSeq1.sub_tuple_list;have t5:=AutoSeq1.sub_list_tuple;have z3:(xs++ys).size<=sizeLine + 1:=by rw [acn];exact z2
  rcases hT with rfl | rfl
  ·wp_walk using (Xr h1 rfl (hz:=z1) (_hz':=z3)),W0 h1,W0 h2
   exact ⟨_,rfl,h3⟩
  ·wp_walk using (Xr h1 rfl (hz:=z1) (_hz':=z3)),W0 h1,W0 h2
   exact ⟨_,rfl,h3⟩
section
variable {X:Cx}{c:C}{e a b tg:U_}{es:List U_}{ga gb g:G R}{pos:Pos}
noncomputable def PZ (K:Ui):V->List V->Hp->VK->Prop:=λx vs H Q=>∃l b xs zs,x=.ref l/\vs=[.ref b]/\H l=some (.lst xs)/\(cj K H b zs\/cY K H b zs)/\xs.length + zs.length<=sizeLine/\Q .non (upd H l (.lst (xs++zs)))
theorem MN:Ij X "list.extend" (PZ X.K):=by
 intro T9 s σ H x vs v us Q I rx rv h;obtain ⟨l,b,xs,zs,rfl,rfl,hH,hB,hz,q⟩:=h;cases rx;obtain ⟨u,rfl,ru⟩:=rv.one;cases ru;obtain ⟨z,its,n,r,hl,e⟩:=I.lstM hH;have obj:∃T its2,(T="tuple"\/T="list")/\Vals zs its2/\∃dd m sl,s.heap.get? b=some {cls:=.type T,dict:=dd,data:=.seq its2.toArray m,slots:=sl}:=by
  rcases hB with hB | hB
  ·obtain ⟨its2,r2,pl,_⟩:=I.list hB;obtain ⟨⟨cls,dd,data,sl⟩,ho,hc,m,hd⟩:=pl.isList;simp only at hc hd;subst hc hd;exact ⟨"list",its2,.inr rfl,r2,dd,m,sl,ho⟩
  ·obtain ⟨its2,r2,pl,_⟩:=I.tuple hB;obtain ⟨⟨cls,dd,data,sl⟩,ho,hc,m,hd⟩:=pl;simp only at hc hd;subst hc hd;exact ⟨"tuple",its2,.inl rfl,r2,dd,m,sl,ho⟩
 obtain ⟨T,its2,hT,r2,dd,m,sl,e2⟩:=obj;have hl2:=r2.length;have hsz:its.toArray.size + its2.toArray.size<=sizeLine:=by rw [Uy,Uy];omega
 have Rz:¬(!its.toArray.isEmpty && WH (its.toArray.size + its2.toArray.size))=true:=by rw [zS hsz,XS];exact UZ
 refine abd abV ⟨_,e,rfl⟩ abx (abi _ _) (Er T hT l b its.toArray its2.toArray n m dd sl Rz (by rw [Uy];omega) (by omega)) ⟨e,e2,?_⟩;refine ⟨.non,_,I.lset (its':=its++its2) hH e (by simp) (r.append r2) ?_,rfl,q⟩;rw [UI];omega
noncomputable def vJ (i:Nat) (g:G R):G O:=λenv=>match env[i]? with
 | some (some (.own xs))=>g env >>= λr=>iK r >>= λys=>if xs.length + ys.length<=sizeLine then .ok (.nx (env.set i (some (.own (xs++ys))))) else .bad
 | _=>.bad
noncomputable def tU:V->Option (Option Bool)
 | .non=>some none
 | .bl k=>some (some k)
 | _=>none
theorem Ab (rx:RelV x v) (ry:RelV y u) (h:tU y=some o):isSame v u=pure (tU x == some o):=by
 cases y with
 | non=>
  cases h;cases ry;cases x with
  | non=>cases rx;rfl
  | bl k=>cases rx;rfl
  | int i=>obtain ⟨t,rfl⟩:=rx;rfl
  | str z=>obtain ⟨t,rfl⟩:=rx;rfl
  | byt z=>obtain ⟨t,rfl⟩:=rx;rfl
  | flt z=>obtain ⟨t,rfl⟩:=rx;rfl
  | ref p=>cases rx;rfl
  | ty n=>cases rx;rfl
 | bl k'=>
  cases h;cases ry;cases x with
  | non=>cases rx;rfl
  | bl k=>cases rx;cases k <;> cases k' <;> rfl
  | int i=>obtain ⟨t,rfl⟩:=rx;rfl
  | str z=>obtain ⟨t,rfl⟩:=rx;rfl
  | byt z=>obtain ⟨t,rfl⟩:=rx;rfl
  | flt z=>obtain ⟨t,rfl⟩:=rx;rfl
  | ref p=>cases rx;rfl
  | ty n=>cases rx;rfl
 | _=>cases h
theorem E3:c8 X (V5 .Is) (λx y H Q=>∃o,tU y=some o/\Q (.bl (tU x == some o)) H):=by intro T9 s σ H x y v u Q I rx ry h;obtain ⟨o,ho,q⟩:=h;show UB _ _ (do return Yd (<-isSame v u)) _ _ s;rw [Ab rx ry ho];exact Uh (Uj (Uj ⟨.bl _,H,I,rfl,q⟩))
theorem w_:c8 X (V5 .IsNot) (λx y H Q=>∃o,tU y=some o/\Q (.bl (!(tU x == some o))) H):=by intro T9 s σ H x y v u Q I rx ry h;obtain ⟨o,ho,q⟩:=h;show UB _ _ (do return Yd (!(<-isSame v u))) _ _ s;rw [Ab rx ry ho];exact Uh (Uj (Uj ⟨.bl _,H,I,rfl,q⟩))
noncomputable def Dd:R->Option (Option Bool)
 | .d .non=>some none
 | .d (.bl k)=>some (some k)
 | _=>none
noncomputable def iL (neg:Bool) (x y:R):M R:=match Dd y with
 | some o=>.ok (.d (.bl (if neg then !(Dd x == some o) else Dd x == some o)))
 | none=>.bad
theorem jc {He J H:Hp}:∀{r:R}{v:V},RR c He J H r v->tU v=Dd r
 | .d .non,_,h=>by cases h;rfl
 | .d (.bl _),_,h=>by cases h;rfl
 | .d (.int _),_,h=>by cases h;rfl
 | .d (.str _),_,h=>by cases h;rfl
 | .d (.tup _),_,h=>by cases h;rfl
 | .d (.lst _),_,h=>by cases h;rfl
 | .d .emp,_,h=>by cases h;rfl
 | .d (.exn _ _ _),_,h=>by cases h;rfl
 | .d (.dct _ _),_,h=>by cases h;rfl
 | .l .fresh _,_,h=>by obtain ⟨_,_,rfl,_⟩:=h;rfl
 | .l .own _,_,h=>by obtain ⟨_,_,rfl,_⟩:=h;rfl
 | .l .bor _,_,h=>by obtain ⟨_,_,rfl,_⟩:=h;rfl
 | .mo _ _,_,h=>by obtain ⟨_,rfl,_⟩:=h;rfl
 | .mb _ _,_,h=>by obtain ⟨_,rfl,_⟩:=h;rfl
 | .mf _ _,_,h=>by obtain ⟨_,rfl,_⟩:=h;rfl
end
theorem Be {P:UG}{w:U5}{K:Ui}{mg:Str->Option Uk}{base:VB}{x Ub:Str}{st:Xg}{f:UL}{fd:U6}{ps:List Str}{k:Nat}{Fm:List S->M R}(F:k7 K x Ub st f fd) (hm:mg x=some (.ref f))
  (hbi:∀(kV doc pm:Uk) (an:Option UL) (cdv ct:Uk) (us:List Uk),us.length=ps.length->aao (Vr x Ub (cP st) (bR st) (aV st) .none kV doc pm an cdv ct) ⟨us,[]⟩=pure (ps.zip us))
  (hF:∀as,Fm as=.bad):bu P w K mg base k ps.length x Fm:=
 ⟨f,fd,ps,⟨λvs H Q E ⟨J,as,_,_,_,h⟩=>(by rw [hF as] at h;exact h.elim),λA outer s H args us vs Q E _ _ _ _ ⟨J,as,_,_,_,h⟩=>(by rw [hF as] at h;exact h.elim)⟩,hm,F.kp,F.binds hbi⟩
section
variable {X:Cx}{c:C}{e a b d tg:U_}{es:List U_}{ga gb g:G R}{pos:Pos}
def PN (K:Ui) (tl:TE):TI:=λσ H R=>tl σ H λx H1=>∃a,x=.ref a/\(((∃xs,cj K H1 a xs)/\R (Ie K a) H1)\/((∃xs,cY K H1 a xs)/\R (Ih K a) H1))
theorem E9 {tl:TE}(hl:PE X e tl):PI X tg e (PN X.K tl):=λT9 s σ H R I h=>bM (hl T9 s σ H _ I h) λv s1 ⟨x,H1,I1,r1,a,ex,q1⟩=>by
 subst ex;cases r1;have fp:∀b∈[s1.heap.objs.size],iR X T9 H1 b:=λb hb=>by rw [Uz] at hb;subst hb;exact I1.fpOk (Uw _) (I1.hok.fresh (Uw _))
 rcases q1 with ⟨⟨xs,hq⟩,q⟩ | ⟨⟨xs,hq⟩,q⟩
 ·obtain ⟨its,rv,p,hz⟩:=I1.list hq;exact Y8 p.isList ⟨s1.heap.objs.size,[s1.heap.objs.size],_,_,H1,rfl,I1.kept (t':=s1.toks) (λb o e=>Ul _ e),F0 a _,⟨_,Us _ rfl,rfl,rfl⟩,fp,q⟩
 ·obtain ⟨its,rv,p,hz⟩:=I1.tuple hq;exact YL (show s1.heap.IsTuple a its.toArray from p) ⟨s1.heap.objs.size,[s1.heap.objs.size],_,_,H1,rfl,I1.kept (t':=s1.toks) (λb o e=>Ul _ e),Dz a _,⟨_,Us _ rfl,rfl,rfl⟩,fp,q⟩
theorem xP {J1:Hp}{a:UL}{vs:List V}{ds:List D}{U:Hp->Hp->Prop}(hU:∀J H,U J H->aU J1 J) (h:cY c.K J1 a vs) (hs:aK c.K J1 ds vs):Walk c (Ih c.K a) ds J1 U:=by intro i J H hp u;have h':=eY hp.sub (eY (hU J H u) h);refine ⟨λhl=>⟨vs,h',by rw [<-hs.length];exact hl⟩,λd hd=>?_⟩;obtain ⟨v,k1,k2⟩:=hs.get hd;refine ⟨⟨vs,v,h',k1⟩,λx H2 ⟨e,hy⟩=>?_⟩;subst e;have:=hy vs h';rw [k1] at this;cases this;exact ⟨J,Ext.refl hp.sub,k2.mono (hU J _ u)⟩
noncomputable def fO (g:G R):G (List D):=λenv=>g env >>= λr=>match r with
 | .d (.tup xs)=>.ok xs
 | .d (.lst xs)=>.ok xs
 | .l .fresh xs=>.ok xs
 | .l .bor xs=>.ok xs
 | _=>.bad
def jL (g:G R):G (List D):=λenv=>g env >>= iK
end
section
variable {X:Cx}{c:C}{st:Xg}{g:G O}
theorem SR.frz {J H:Hp}{σ:L2.St}{env:Ev}(sr:SR c J H σ env){i:Nat}{x:Mn}{a:UL}{o:HO}{d:D}(hi:env[i]?=some (some (mS x))) (h1:σ[i]?=some (some (.ref a))) (h2:H a=some o) (h3:J a=none) (h4:c.H0 a=none) (h5:Rep c.K (L2.upd J a o) d (.ref a)):∃J',aU J J'/\SR c J' H σ (env.set i (some (.d d))):=by
 have s1:aU J (L2.upd J a o):=cJ h3 _;refine ⟨L2.upd J a o,s1,⟨⟨λb o q=>?_,sr.hp.ent,sr.hp.entJ.trans s1,λb k1 k2=>?_⟩,by simpa using sr.len,λj y q=>?_,λj k ys zs w hjk q1 q2 q3 q4=>?_⟩⟩
 ·by_cases hb:b=a
  ·subst hb;rw [bN] at q;cases q;exact h2
  ·rw [bq hb] at q;exact sr.hp.sub b o q
 ·have:b≠a:=λz=>k1 (z▸h4);rw [bq this];exact sr.hp.frz b k1 k2
 ·rcases gD q with ⟨rfl,hl,rfl⟩ | ⟨hj,q⟩
  ·exact ⟨.ref a,h1,h5⟩
  ·obtain ⟨w,k1,k2⟩:=sr.at_ j y q;refine ⟨w,k1,?_⟩;have hne:∀(z:Mn) p',y=mS z->w=.ref p'->p'≠a:=λz p' e ew ep=>sr.sep i j x z (.ref a) (Ws hj) hi (e▸q) h1 (ep▸ew▸k1);cases y with
   | d x=>exact Rep.mono s1 k2
   | bor zs=>obtain ⟨p,us,m1,m2,m3⟩:=k2;exact ⟨p,us,m1,m2,m3.mono s1⟩
   | db _ _=>obtain ⟨p,m1,m2⟩:=k2;exact ⟨p,m1,m2.mono s1 (aU.refl _)⟩
   | fn _=>exact k2
   | dk ks zs=>
    obtain ⟨p,rfl,m1,m2,m3⟩:=k2;exact ⟨p,rfl,m1.mono s1 (aU.refl _),by rw [bq (hne (.inr (ks,zs)) p rfl rfl)];exact m2,m3⟩
   | own zs=>
    obtain ⟨p,us,rfl,m1,m2,m3,m4⟩:=k2;exact ⟨p,us,rfl,m1,by rw [bq (hne (.inl zs) p rfl rfl)];exact m2,m3,m4.mono s1⟩
 ·have f:∀(k:Nat) (ys:Mn),(env.set i (some (.d d)))[k]?=some (some (mS ys))->env[k]?=some (some (mS ys)):=λk ys q=>by
   rcases gD q with ⟨rfl,_,z⟩ | ⟨_,q⟩
   ·cases ys <;> cases z
   ·exact q
  exact sr.sep j k ys zs w hjk (f j ys q1) (f k zs q2) q3 q4
noncomputable def fF (i:Nat) (g:G O):G O:=λenv=>match env[i]? with
 | some (some (.own xs))=>g (env.set i (some (.d (.lst xs))))
 | some (some (.dk ks vs))=>g (env.set i (some (.d (.dct ks vs))))
 | _=>g env
end
structure QD (X:Cx) (c:C) (x0:U_) (x1:G R):Prop where
 h:PD X c x0 x1
structure QB (X:Cx) (c:C) (x0:U_) (x1:G Bool):Prop where
 h:PB X c x0 x1
structure i6 (X:Cx) (c:C) (x0:List U_) (x1:G (List R)):Prop where
 h:DQ X c x0 x1
structure DS (X:Cx) (c:C) (x0:List U_) (x1:G (List D)):Prop where
 h:Qp X c x0 x1
structure jF (X:Cx) (c:C) (x0:Xg) (x1:G O):Prop where
 h:Lz X c x0 x1
structure o9 (X:Cx) (c:C) (x0:List Xg) (x1:G O):Prop where
 h:Im X c x0 x1
structure yL (X:Cx) (c:C) (x0:U_) (x1:G Bool):Prop where
 h:Qq X c x0 x1
structure pZ (X:Cx) (c:C) (x0:U_) (x1:GT):Prop where
 h:DR X c x0 x1
structure Ci (X:Cx) (c:C) (x0:List U_) (x1:ua):Prop where
 h:Pu X c x0 x1
structure A2 (X:Cx) (c:C) (x0:U_) (x1:U_) (x2:G (List D)):Prop where
 h:O8 X c x0 x1 x2
structure wD (X:Cx) (c:C) (x0:U_) (x1:U_) (x2:G (List D)):Prop where
 h:O7 X c x0 x1 x2
structure pY (X:Cx) (c:C) (x0:List U_) (x1:G Bool):Prop where
 h:Cg X c x0 x1
structure A3 (X:Cx) (c:C) (x0:Option U_) (x1:GO):Prop where
 h:LA X c x0 x1
section
variable {X:Cx}{c:C}{e a b:U_}{ga gb:G R}{pos:Pos}
theorem aa (i:Nat) (hN:X.N[i]?=some x:=by rfl) (hv:rY X.env.scope x:=by first | exact Zi rfl | exact XN (Zi rfl) | exact XN (XN rfl)) (hd:(x == ("__debug__":Str))=false:=by decide)
 (hcd:(x == ("__classdict__":Str))=false:=by decide):QD X c (.Name x pos) (af i):=⟨Kw (lH hN hv hd hcd)⟩
theorem aq:QD X c (.Constant (.int i) j pos) (gC (.int i)):=⟨uX (λ_=>.int i) M7⟩
theorem eH:QD X c (.Constant (.bool i) j pos) (gC (.bl i)):=⟨uX (λ_=>.bl i) Ou⟩
theorem jg:QD X c (.Constant .none j pos) (gC .non):=⟨uX (λ_=>.non) M9⟩
theorem fm:QD X c (.Constant (.str x) j pos) (gC (.str x)):=⟨uX (λ_=>.str x) Nb⟩
theorem rH (ha:QD X c a ga) (hb:QD X c b gb):QD X c (.BinOp a .Sub b pos) (g2 vI ga gb):=have ha:=ha.h;have hb:=hb.h;⟨kL MY (kD λ_ _ _=>.int _) ha hb⟩
theorem dX (ha:QD X c a ga) (hb:QD X c b gb):QD X c (.BinOp a .FloorDiv b pos) (g2 f9 ga gb):=have ha:=ha.h;have hb:=hb.h;⟨kL Kl (yQ (λi j h=>JT h) λ_ _ _=>.int _) ha hb⟩
theorem bV (ha:QD X c a ga) (hb:QD X c b gb):QD X c (.BinOp a .Mod b pos) (g2 dD ga gb):=have ha:=ha.h;have hb:=hb.h;⟨kL MU (yQ (λi j h=>by unfold My at h;exact of_decide_eq_true h) λ_ _ _=>.int _) ha hb⟩
theorem jh (ha:QD X c a ga) (hb:QD X c b gb):QD X c (.BinOp a .Pow b pos) (g2 n_ ga gb):=have ha:=ha.h;have hb:=hb.h;⟨kL MX (yQ (λi j h=>JV h) λ_ _ _=>.int _) ha hb⟩
theorem Nt (ha:QD X c a ga) (hb:QD X c b gb):QD X c (.Compare a [.Gt] [b] pos) (g2 (qd λi j=>.bl (decide (j < i))) ga gb):=have ha:=ha.h;have hb:=hb.h;⟨nJ De (kD λ_ _ _=>.bl _) ha hb⟩
theorem au:i6 X c [] aC:=⟨yl gW λσ H Q ⟨J,env,sr,w⟩=>w [] J H (Ext.refl sr.hp.sub) rfl⟩
theorem ak {es:List U_}{g:G R}{gs:G (List R)}(h:QD X c e g) (hs:i6 X c es gs) (hst:Ux (e::es) X.env=(false,eval e X.env)::Ux es X.env:=by rfl):i6 X c (e::es) (ao g gs):=have h:=h.h;have hs:=hs.h;⟨
 yl (eK h hs hst) λσ H Q ⟨J,env,sr,w⟩=>by
  refine ⟨J,env,sr,aE (aI w) λx wx u J1 H1 e1 r1=>?_⟩;refine ⟨J1,env,sr.ext e1,aE (aI wx) λxs wy us J2 H2 e2 r2=>?_⟩;exact wy (u::us) J2 H2 (e1.trans e2) ⟨u,us,rfl,r1.ext e2,kr.from e1.h r2⟩⟩
end
section
variable {X:Cx}{c:C}{e a b:U_}{es:List U_}{ga gb g:G R}{pos:Pos}
theorem aJ:DS X c [] aP:=⟨yl gW λσ H Q ⟨J,env,sr,w⟩=>w [] J H (Ext.refl sr.hp.sub) .nil⟩
theorem ay {gs:G (List D)}(h:QD X c e g) (hs:DS X c es gs) (hst:Ux (e::es) X.env=(false,eval e X.env)::Ux es X.env:=by rfl):DS X c (e::es) (az g gs):=have h:=h.h;have hs:=hs.h;⟨
 yl (eK h hs hst) λσ H Q ⟨J,env,sr,w⟩=>by
  refine ⟨J,env,sr,aE (aI w) λx wx u J1 H1 e1 r1=>?_⟩;obtain ⟨d,q,wx⟩:=jk wx;obtain ⟨J1',e1',s1,rd⟩:=freeze e1 r1 q;refine ⟨J1',env,sr.ext e1',aE (aI wx) λxs wy us J2 H2 e2 r2=>?_⟩;exact wy (u::us) J2 H2 (e1'.trans e2) (.cons (rd.mono e2.j) r2)⟩
theorem aZ {k}{gs:G (List D)}(h:DS X c es gs):QD X c (.Tuple es k pos) (bB gs):=have h:=h.h;⟨fC (Nc h) λσ H Q ⟨J,env,sr,w⟩=>by
 refine ⟨J,env,sr,aE (aI w) λds wd vs J1 H1 e1 r1=>?_⟩;split at wd
 ·rename_i hz;rw [r1.length] at hz;exact ⟨hz,λp hp=>wd _ _ _ (e1.trans (Ext.newJ e1.sub hp _)) (qB (sr.hp.ext e1) hp r1)⟩
 ·exact wd.elim⟩
theorem bU {gs:G (List D)}(h:DS X c es gs):QD X c (.List es pos) (c5 gs):=have h:=h.h;⟨fC (M8 h) λσ H Q ⟨J,env,sr,w⟩=>by
 refine ⟨J,env,sr,aE (aI w) λds wd vs J1 H1 e1 r1=>?_⟩;split at wd
 ·rename_i hz;rw [r1.length] at hz;exact ⟨hz,λp hp=>wd _ _ _ (e1.trans (Ext.new e1.sub hp _)) (RR.from e1.h (ia (sr.hp.ext e1) hp r1))⟩
 ·exact wd.elim⟩
theorem e_ {p:Pos}{gs:G (List R)}(ha:i6 X c (e::es) gs) (hm:X.mg "len"=none) (hK:X.K=c.K:=by rfl) (hg:Gl X "len":=by rfl)
  (he:Ux (e::es) X.env=(false,eval e X.env)::Ux es X.env:=by rfl) (hpl:(Wk pos (Ux es X.env)).any (·.1)=false:=by rfl):QD X c (.Call (.Name "len" p) (e::es) [] pos) (gN eV gs):=have ha:=ha.h;⟨
 jO (yV.or yU) (by
  intro He J H xs vs Q hp rs w;unfold eV at w;split at w
  ·obtain ⟨v,rfl,r⟩:=rs.one;cases r;split at w
   ·rename_i hz;exact .inl ⟨_,rfl,hz,w _ J H (Ext.refl hp.sub) (.int _)⟩
   ·exact w.elim
  ·obtain ⟨v,rfl,r⟩:=rs.one;obtain ⟨xs,q,w⟩:=jj w;obtain ⟨p,vs,rfl,hq,hs⟩:=kQ hp r q;have w':=w (.int vs.length) J H (Ext.refl hp.sub) (by rw [hs.length];exact .int _);exact .inr ⟨p,vs,rfl,by rw [hK];exact hq,w'⟩
  ·exact w.elim) PySem.boot_len hm ha hg (by decide) (by decide) he hpl⟩
theorem cV {gs:G (List R)}(ha:i6 X c (e::es) gs) (hm:X.mg "tuple"=none) (hK:X.K=c.K:=by rfl) (hg:Gl X "tuple":=by rfl)
 (he:Ux (e::es) X.env=(false,eval e X.env)::Ux es X.env:=by rfl) (hpl:(Wk pos (Ux es X.env)).any (·.1)=false:=by rfl):QD X c (.Call (.Name "tuple" p) (e::es) [] pos) (gN dF gs):=have ha:=ha.h;⟨
 qy xV (by
  intro He J H xs vs Q hp rs w;unfold dF at w;split at w
  ·obtain ⟨v,rfl,r⟩:=rs.one;rename_i r0;obtain ⟨xs,q,w⟩:=jj w;cases r0 with
   | d y=>
    cases y with
    | tup ys=>
     cases q;cases r with
     | tup h hs=>exact ⟨_,_,rfl,.inr ⟨by rw [hK];exact eY hp.sub h,w _ J H (Ext.refl hp.sub) (.tup h hs)⟩⟩
    | lst ys=>
     cases q;obtain ⟨p,vs,rfl,hq,hs⟩:=RR.list hp r rfl;exact ⟨p,vs,rfl,.inl ⟨by rw [hK];exact hq,λl hl=>w _ _ _ (Ext.newJ hp.sub hl _) (qB hp hl hs)⟩⟩
    | _=>cases q
   | mo _ _=>cases q
   | mb _ _=>cases q
   | mf _ _=>cases q
   | l m ys=>
    cases q;obtain ⟨p,vs,rfl,hq,hs⟩:=RR.list hp r rfl;exact ⟨p,vs,rfl,.inl ⟨by rw [hK];exact hq,λl hl=>w _ _ _ (Ext.newJ hp.sub hl _) (qB hp hl hs)⟩⟩
  ·exact w.elim) AD hm ha hg (by decide) (by decide) he hpl⟩
theorem Hx {p:Pos}{gs:G (List R)}(ha:i6 X c (e::es) gs) (hm:X.mg "list"=none) (hK:X.K=c.K:=by rfl) (hg:Gl X "list":=by rfl)
  (he:Ux (e::es) X.env=(false,eval e X.env)::Ux es X.env:=by rfl) (hpl:(Wk pos (Ux es X.env)).any (·.1)=false:=by rfl):QD X c (.Call (.Name "list" p) (e::es) [] pos) (gN qW gs):=have ha:=ha.h;⟨
 qy yW (by
  intro He J H xs vs Q hp rs w;unfold qW at w;split at w
  ·obtain ⟨v,rfl,r⟩:=rs.one;obtain ⟨xs,q,w⟩:=jj w;obtain ⟨p,vs,rfl,hq,hs⟩:=kQ hp r q;exact ⟨p,vs,rfl,by rw [hK];exact hq,λl hl=>w _ _ _ (Ext.new hp.sub hl _) (ia hp hl hs)⟩
  ·exact w.elim) uu hm ha hg (by decide) (by decide) he hpl⟩
theorem dW (h:QD X c e g) (he:∀whole,abp e X.env whole=(do let v <-whole;X3 e.pos;holding [v] (truthy v)):=by intro _;rfl):QB X c e (bw g):=have h:=h.h;⟨yp (Nn h he) λσ H Q ⟨J,env,sr,w⟩=>by
 refine ⟨J,env,sr,aE (aI w) λr wr v J1 H1 e1 r1=>?_⟩;split at wr
 ·cases r1;exact ⟨_,rfl,wr J1 H1 e1⟩
 ·exact wr.elim⟩
theorem rC {f:R->R->M R}(ho:c8 X (V5 op) r) (hf:BD c r f) (ha:QD X c a ga) (hb:QD X c b gb) (hm:VU op b=false:=by first | exact zR _ | rfl):QB X c (.Compare a [op] [b] pos) (bw (g2 f ga gb)):=⟨jB ho hf ha.h hb.h hm⟩
variable {t u:G Bool}{rest:List U_}
theorem jd (h:yL X c e t):QB X c e t:=have h:=h.h;⟨PW.pt h⟩
theorem oH (h:QB X c a t):yL X c (.BoolOp .And [a] pos) t:=have h:=h.h;⟨KQ h⟩
theorem rD (h:QB X c a t):yL X c (.BoolOp .Or [a] pos) t:=have h:=h.h;⟨Nq h⟩
theorem rB (h:QB X c a t) (h':yL X c (.BoolOp .And (b::rest) pos) u):yL X c (.BoolOp .And (a::b::rest) pos) (iU t u):=have h:=h.h;have h':=h'.h;⟨I0 (Np h h') λσ H Q ⟨J,env,sr,w⟩=>by
 refine ⟨J,env,sr,aE (aI w) λk wk J1 H1 e1=>?_⟩;cases k with
 | true=>
  rw [if_pos rfl] at wk ⊢;exact ⟨J1,env,sr.ext e1,aE wk λk q J2 H2 e2=>q J2 H2 (e1.trans e2)⟩
 | false=>
  rw [if_neg (by decide)] at wk ⊢;exact wk J1 H1 e1⟩
theorem qA (h:QB X c a t) (h':yL X c (.BoolOp .Or (b::rest) pos) u):yL X c (.BoolOp .Or (a::b::rest) pos) (j3 t u):=have h:=h.h;have h':=h'.h;⟨I0 (OC h h') λσ H Q ⟨J,env,sr,w⟩=>by
 refine ⟨J,env,sr,aE (aI w) λk wk J1 H1 e1=>?_⟩;cases k with
 | true=>
  rw [if_pos rfl] at wk ⊢;exact wk J1 H1 e1
 | false=>
  rw [if_neg (by decide)] at wk ⊢;exact ⟨J1,env,sr.ext e1,aE wk λk q J2 H2 e2=>q J2 H2 (e1.trans e2)⟩⟩
theorem je (h:QB X c a t):QB X c (.UnaryOp .Not a pos) (gM t):=have h:=h.h;⟨yp (Nm h) λσ H Q ⟨J,env,sr,w⟩=>⟨J,env,sr,aE (aI w) λk wk J1 H1 e1=>wk J1 H1 e1⟩⟩
theorem oK {op}(h:QD X c a ga):QD X c (.BoolOp op [a] pos) ga:=have h:=h.h;⟨Na h⟩
theorem vY (h:QD X c a ga) (h':QD X c (.BoolOp .And (b::rest) pos) gb):QD X c (.BoolOp .And (a::b::rest) pos) (jV ga gb):=have h:=h.h;have h':=h'.h;⟨fC (M6 h h') λσ H Q ⟨J,env,sr,w⟩=>by
 refine ⟨J,env,sr,aE (aI w) λr wr v J1 H1 e1 r1=>?_⟩;split at wr
 ·cases r1;exact ⟨true,rfl,Ms ⟨J1,env,sr.ext e1,aE wr λz q v J2 H2 e2 r2=>q v J2 H2 (e1.trans e2) (RR.from e1.h r2)⟩⟩
 ·cases r1;exact ⟨false,rfl,Mr (wr _ J1 H1 e1 (.bl _))⟩
 ·exact wr.elim⟩
theorem Nu (h:QD X c a ga) (h':QD X c (.BoolOp .Or (b::rest) pos) gb):QD X c (.BoolOp .Or (a::b::rest) pos) (tH ga gb):=have h:=h.h;have h':=h'.h;⟨fC (Ox h h') λσ H Q ⟨J,env,sr,w⟩=>by
 refine ⟨J,env,sr,aE (aI w) λr wr v J1 H1 e1 r1=>?_⟩;split at wr
 ·cases r1;exact ⟨false,rfl,Mr ⟨J1,env,sr.ext e1,aE wr λz q v J2 H2 e2 r2=>q v J2 H2 (e1.trans e2) (RR.from e1.h r2)⟩⟩
 ·cases r1;exact ⟨true,rfl,Ms (wr _ J1 H1 e1 (.bl _))⟩
 ·exact wr.elim⟩
theorem K1 (h:QD X c a ga):QD X c (.UnaryOp .Not a pos) (II ga):=have h:=h.h;⟨fC (M_ h) λσ H Q ⟨J,env,sr,w⟩=>by
 refine ⟨J,env,sr,aE (aI w) λr wr v J1 H1 e1 r1=>?_⟩;split at wr
 ·cases r1;exact ⟨_,rfl,wr _ J1 H1 e1 (.bl _)⟩
 ·exact wr.elim⟩
end
section
variable {X:Cx}{c:C}{e a b tg:U_}{es:List U_}{ga gb g:G R}{pos:Pos}{st:Xg}{rest:List Xg}{t u:G O}{tb:G Bool}
theorem bx:o9 X c [] cK:=⟨Ff KJ λE σ H ⟨J,env,sr,w⟩=>w σ J H (aU.refl J) sr⟩
theorem av (h:jF X c st t) (h':o9 X c rest u):o9 X c (st::rest) (aH t u):=have h:=h.h;have h':=h'.h;⟨Ff (Ho h h') λE σ H ⟨J,env,sr,w⟩=>by
 refine ⟨J,env,sr,aE (aI w) λo wo=>?_⟩;cases o with
 | nx e=>exact λσ' J' H' s' sr'=>⟨J',e,sr',aE wo λo q=>q.mono s'⟩
 | rt r=>exact wo
 | bk e=>exact wo
 | ct e=>exact wo⟩
theorem aA (h:jF X c st t):o9 X c [st] t:=have h:=h.h;⟨KL h⟩
theorem fD (h:QD X c e g) (hs:ZE e none pos.line X.env=pure false:=by rfl):jF X c (.Expr e pos) (iP g):=have h:=h.h;⟨iQ (rq h hs) λE σ H ⟨J,env,sr,w⟩=>
 ⟨J,env,sr,aE (aI w) λr wr v J1 H1 e1 r1=>wr σ J1 H1 e1.j (sr.ext e1)⟩⟩
theorem aN (h:QD X c e g):jF X c (.Return (some e) pos) (br g):=have h:=h.h;⟨iQ (Nk h) λE σ H ⟨J,env,sr,w⟩=>by
 refine ⟨J,env,sr,aE (aI w) λr wr v J1 H1 e1 r1=>?_⟩;cases q:rF r with
 | bad=>rw [q] at wr;exact wr.elim
 | exc x=>cases r with
  | d _=>cases q
  | l m _=>cases m <;> cases q
  | mo _ _=>cases q
  | mb _ _=>cases q
  | mf _ _=>cases q
 | ok r'=>rw [q] at wr;exact wr v J1 H1 e1.j (sr.hp.ext e1) (RR.rf sr.hp r1 q)⟩
theorem bF {x:U_}{as bs:List Xg}(hx:QB X c x tb) (h:o9 X c as t) (h':o9 X c bs u):jF X c (.If x as bs pos) (bJ tb t u):=have hx:=hx.h;have h:=h.h;have h':=h'.h;⟨iQ (OB hx h h') λE σ H ⟨J,env,sr,w⟩=>by
 refine ⟨J,env,sr,aE (aI w) λk wk J1 H1 e1=>?_⟩;cases k with
 | true=>
  rw [if_pos rfl] at wk ⊢;exact ⟨J1,env,sr.ext e1,aE wk λo q=>q.mono e1.j⟩
 | false=>
  rw [if_neg (by decide)] at wk ⊢;exact ⟨J1,env,sr.ext e1,aE wk λo q=>q.mono e1.j⟩⟩
theorem aM (i:Nat){x:Str}{pos':Pos}(hN:X.N.Nodup) (h:QD X c e g) (hi:X.N[i]?=some x:=by rfl) (hx:Loc X.env.scope x:=by first | exact Zi rfl | exact XN rfl) (hs:ZE e (some (.Name x pos')) pos.line X.env=pure false:=by rfl)
  (hf:X.fn x=true\/X.env.scope.names.lookup x=some .local:=by first | exact .inl rfl | exact .inr rfl):jF X c (.Assign [.Name x pos'] e pos) (bf i g):=have h:=h.h;⟨iQ (Nl hN hi hx h hs hf) λE σ H ⟨J,env,sr,w⟩=>by
 refine ⟨J,env,sr,aE (aI w) λr wr v J1 H1 e1 r1=>?_⟩;obtain ⟨x,q,wr⟩:=v_ wr;exact wr (σ.set i (some v)) J1 H1 e1.j (sr.set e1 r1 q)⟩
theorem aF (i:Nat){x:Str}(hN:X.N.Nodup) (hi:X.N[i]?=some x:=by rfl) (hx:Loc X.env.scope x:=by first | exact Zi rfl | exact XN rfl) (hf:X.fn x=true\/X.env.scope.names.lookup x=some .local:=by first | exact .inl rfl | exact .inr rfl):pZ X c (.Name x pos) (aD i):=⟨
 IY (KA hN hi hx hf) λv σ H Q ⟨J,env,d,sr,rd,w⟩=>w _ (sr.setD (x:=.d d) rd λx z=>by cases x <;> cases z) λj xs q=>by
  rcases gD q with ⟨_,_,e⟩ | ⟨hj,q⟩
  ·cases xs <;> cases e
  ·exact ⟨q,Vh (Ws hj)⟩⟩
theorem cC:Ci X c [] dR:=⟨E8 KC λvs σ H Q ⟨J,env,ds,sr,rd,w⟩=>by
 cases rd with
 | nil=>exact ⟨rfl,w σ sr KO.refl⟩
 | cons _ _=>exact w.elim⟩
theorem aX {t:GT}{u:ua}(h:pZ X c e t) (h':Ci X c es u) (hs:(Xo (e::es) X.env).map (·.2)=assign e X.env::(Xo es X.env).map (·.2):=by rfl):Ci X c (e::es) (bz t u):=have h:=h.h;have h':=h'.h;⟨
 E8 (Hi h h' hs) λvs σ H Q ⟨J,env,ds,sr,rd,w⟩=>by
  cases rd with
  | nil=>exact w.elim
  | cons r rs=>
   refine ⟨_,_,rfl,J,env,_,sr,r,aE (aI w) λe1 w1 σ' sr' ko=>?_⟩;exact ⟨J,e1,_,sr',rs,aE w1 λe2 q σ2 sr2 ko2=>q σ2 sr2 (ko.trans ko2)⟩⟩
theorem cQ {k:Nat}{u:ua}{n:Nat}(h:Ci X c es u) (hc:X.calm=true:=by rfl) (hK:X.K=c.K:=by rfl) (hn:(Xo es X.env).length=n:=by rfl) (hst:(Xo es X.env).findIdx? (·.1)=none:=by rfl):pZ X c (.Tuple es k pos) (dG n u):=have h:=h.h;⟨
 IY (Nf hc h hn hst) λv σ H Q ⟨J,env,d,sr,rd,w⟩=>by
  cases rd with
  | tup h1 h2=>
   unfold dG at w;simp only at w;split at w
   ·rename_i hl;exact ⟨_,_,rfl,by rw [hK];exact eY sr.hp.sub h1,by rw [<-h2.length];exact hl,J,env,_,sr,h2,w⟩
   ·exact w.elim
  | _=>exact w.elim⟩
theorem bI {Ua:U_}{body:List Xg}{gi:G (List D)}{t:GT}(hi:A2 X c tg Ua gi) (ht:pZ X c tg t) (hb:o9 X c body u) (hp:ac5 (UO X.prog X.w) X.A X.env X.xe:=by first | exact ade | exact acr) (hc:X.calm=true:=by rfl)
  (hs:∀x,VX Ua X.env x=pure x:=by intro _;rfl):jF X c (.For tg Ua body [] pos) (cu gi t u):=have hi:=hi.h;have ht:=ht.h;have hb:=hb.h;⟨iQ (Nj hp hc hi ht hb hs) λE σ H ⟨J,env,sr,w⟩=>by
 refine ⟨J,env,sr,aE (aI w) λds wd It J1 H1 e1 wk=>?_⟩;refine ⟨λi m σ H=>m=ds.length - i/\∃J' env,aU J1 J'/\SR c J' H σ env/\cA (ff t u (ds.drop i) env) (oP c J' E) c.T,
  ⟨ds.length,by simp,J1,env,aU.refl J1,sr.ext e1,by rw [adI];exact aE wd λo q=>q.mono e1.j⟩,?_⟩
 rintro i m σ H ⟨rfl,J',env,s',sr',w'⟩;obtain ⟨w1,w2⟩:=wk i J' H sr'.hp s';by_cases hlt:i < ds.length
 ·obtain ⟨g1,y1⟩:=w2 ds[i] (by simp [hlt]);rw [Yq hlt] at w';refine .inr ⟨g1,λσ2 H2=>∃J2 env2,aU J' J2/\SR c J2 H2 σ2 env2/\cA (ff t u (ds.drop (i + 1)) env2) (oP c J2 E) c.T,?_,?_⟩
  ·rintro σ2 H2 ⟨J2,env2,s2,sr2,w2⟩;exact ⟨ds.length - (i + 1),by omega,rfl,J2,env2,s'.trans s2,sr2,w2⟩
  ·intro x H2 hy;obtain ⟨J2,e2,rx⟩:=y1 x H2 hy;refine ⟨J2,env,ds[i],sr'.ext e2,rx,aE (aI w') λenv3 w3 σ3 sr3 _=>?_⟩;refine ⟨J2,env3,sr3,aE (aI w3) λo wo=>?_⟩;cases o with
   | nx env4=>exact λσ4 J4 H4 s4 sr4=>⟨J4,env4,e2.j.trans s4,sr4,aE wo λo q=>q.mono (e2.j.trans s4)⟩
   | ct env4=>exact λσ4 J4 H4 s4 sr4=>⟨J4,env4,e2.j.trans s4,sr4,aE wo λo q=>q.mono (e2.j.trans s4)⟩
   | bk env4=>exact λσ4 J4 H4 s4 sr4=>wo σ4 J4 H4 (e2.j.trans s4) sr4
   | rt r=>exact λv J4 H4 s4 h4 r4=>wo v J4 H4 (e2.j.trans s4) h4 r4
 ·rw [aaK (by omega)] at w';exact .inl ⟨w1 (by omega),w' σ J' H (aU.refl J') sr'⟩⟩
theorem bA {p:Pos}{gs:G (List R)}(ha:i6 X c [a] gs) (hm:X.mg "range"=none) (hg:Gl X "range":=by rfl) (hs:Ux [a] X.env=[(false,eval a X.env)]:=by rfl):A2 X c tg (.Call (.Name "range" p) [a] [] pos) (b9 gs):=have ha:=ha.h;⟨
 q_ (E_ hg hm ha hs) λσ H Q ⟨J,env,sr,w⟩=>by
  refine ⟨J,env,sr,aE (aI w) λrs wr vs J1 H1 e1 r1=>?_⟩;split at wr
  ·split at wr
   ·rename_i h;obtain ⟨v,rfl,r⟩:=r1.one;cases r;have h:=cG.mp h;exact ⟨_,rfl,Int.le_of_lt h.1,h.2,wr _ J1 H1 e1 DA⟩
   ·exact wr.elim
  ·exact wr.elim⟩
theorem gX {gi:G (List D)}(h:A2 X c tg e gi):wD X c tg e gi:=have h:=h.h;⟨q_ h λσ H Q ⟨J,env,sr,w⟩=>
 ⟨J,env,sr,aE w λds q It J1 H1 e1 wk=>q It J1 H1 e1 λi J' H' hp u=>wk i J' H' hp u.1⟩⟩
end
section
variable {X:Cx}{c:C}{e a b tg:U_}{es:List U_}{ga gb g:G R}{pos:Pos}
theorem dw (i:Nat){x:Str}{p1 p2 pos':Pos}(h:QD X c e g) (hN:X.N[i]?=some x:=by rfl) (hv:rY X.env.scope x:=by first | exact Zi rfl | exact XN (Zi rfl) | exact XN (XN rfl)) (hd:(x == ("__debug__":Str))=false:=by decide)
  (hcd:(x == ("__classdict__":Str))=false:=by decide)
  (hbase:Yg (.Name x p1) "append" X.env (eval (.Name x p1) X.env)=eval (.Name x p1) X.env:=by rfl)
  (hfew:((Wk pos' (Ux [e] X.env)).all (λx=>!x.1) && (ac0 pos' (aap [] X.env)).all (λx=>x.1.isSome)
   && decide (([e]:List U_).length + ([]:List aaq).length + (if ([]:List aaq).isEmpty then 0 else 1) < 30))=true:=by rfl)
  (hline:(p2.endLine == pos'.line)=true:=by rfl) (hst:Ux [e] X.env=(false,eval e X.env)::Ux [] X.env:=by rfl) (hplain:(Wk pos' (Ux [] X.env)).any (·.1)=false:=by rfl)
  (hs:ZE (.Call (.Attribute (.Name x p1) "append" p2) [e] [] pos') none pos.line X.env=pure false:=by rfl):jF X c (.Expr (.Call (.Attribute (.Name x p1) "append" p2) [e] [] pos') pos) (gK i g):=have h:=h.h;⟨
 iQ (rq (ym XI aac aad qw (lH hN hv hd hcd) (eK h gW hst) hbase hfew hline hst hplain) hs) λE σ H ⟨J,env,sr,w⟩=>by
  unfold gK at w;split at w
  ·rename_i xs hi;obtain ⟨v,h1,a,vs,rfl,h2,h3,h4,h5⟩:=sr.at_ i _ hi;refine ⟨.ref a,h1,.inl ⟨rfl,vs,cj.of h2⟩,?_⟩;refine ⟨J,env,sr,aE (aI w) λr wr y J1 H1 e1 r1=>?_⟩;obtain ⟨d,q,wr⟩:=jk wr;obtain ⟨J2,e2,s2,rd⟩:=freeze e1 r1 q;split at wr
   ·rename_i hz;refine ⟨a,vs,y,rfl,rfl,e2.h _ _ h2,by rw [<-h5.length];exact hz,?_⟩;refine wr σ J2 _ e2.j ?_;exact (sr.ext e2).upd hi h1 (e2.h _ _ h2) (e2.frz a (by rw [h2];intro z;cases z) h3) h4 ((h5.mono e2.j).append (.cons rd .nil))
   ·exact wr.elim
  ·exact w.elim⟩
end
section
variable {X:Cx}{c:C}
theorem bP:pY X c [] dY:=⟨λT9 s σ H Q I ⟨J,env,sr,w⟩=>wpAny_tests_nil ⟨H,I,w J H (Ext.refl sr.hp.sub)⟩⟩
theorem g9 {g:G Bool}(h:QB X c x g):pY X c [x] g:=have h:=h.h;⟨λT9 s σ H Q I q=>wpAny_tests_one (h T9 s σ H Q I q)⟩
end
section
variable {K:Ui}{J:Hp}{s:Um}
variable {X:Cx}{c:C}{e a b tg:U_}{es:List U_}{ga gb g:G R}{pos:Pos}
theorem lJ (hu:X.A.units + 64 < V6) (ha:QD X c a ga) (hb:QD X c b gb) (hK:X.K=c.K:=by rfl):QD X c (.Compare a [.Eq] [b] pos) (g2 (bX false) ga gb):=have ha:=ha.h;have hb:=hb.h;⟨nJ (E1 hu) (Cs false hK) ha hb⟩
theorem fS (hu:X.A.units + 64 < V6) (ha:QD X c a ga) (hb:QD X c b gb) (hK:X.K=c.K:=by rfl):QB X c (.Compare a [.Eq] [b] pos) (bw (g2 (bX false) ga gb)):=have ha:=ha.h;have hb:=hb.h;⟨jB (E1 hu) (Cs false hK) ha hb⟩
theorem lI (hu:X.A.units + 64 < V6) (ha:QD X c a ga) (hb:QD X c b gb) (hK:X.K=c.K:=by rfl):QB X c (.Compare a [.NotEq] [b] pos) (bw (g2 (bX true) ga gb)):=have ha:=ha.h;have hb:=hb.h;⟨jB (MW hu) (Cs true hK) ha hb⟩
theorem lK (hu:X.A.units + 64 < V6) (ha:QD X c a ga) (hb:QD X c b gb) (hK:X.K=c.K:=by rfl) (hm:VU .In b=false:=by rfl):QD X c (.Compare a [.In] [b] pos) (g2 (fH false) ga gb):=have ha:=ha.h;have hb:=hb.h;⟨nJ (E2 hu) (Ct false hK) ha hb hm⟩
theorem Nr (hu:X.A.units + 64 < V6) (ha:QD X c a ga) (hb:QD X c b gb) (hK:X.K=c.K:=by rfl) (hm:VU .In b=false:=by rfl):QB X c (.Compare a [.In] [b] pos) (bw (g2 (fH false) ga gb)):=have ha:=ha.h;have hb:=hb.h;⟨jB (E2 hu) (Ct false hK) ha hb hm⟩
theorem xj (hu:X.A.units + 64 < V6) (ha:QD X c a ga) (hb:QD X c b gb) (hK:X.K=c.K:=by rfl) (hm:VU .NotIn b=false:=by rfl):QB X c (.Compare a [.NotIn] [b] pos) (bw (g2 (fH true) ga gb)):=have ha:=ha.h;have hb:=hb.h;⟨jB (E4 hu) (Ct true hK) ha hb hm⟩
end
section
variable {X:Cx}{c:C}{e a b tg:U_}{es:List U_}{ga gb g:G R}{pos:Pos}
theorem g_:A3 X c none uK:=⟨IZ KH λσ H Q ⟨J,env,sr,w⟩=>w J H (Ext.refl sr.hp.sub)⟩
theorem h_ (h:QD X c e g):A3 X c (some e) (qf g):=have h:=h.h;⟨IZ (KI h) λσ H Q ⟨J,env,sr,w⟩=>by
 refine ⟨J,env,sr,aE (aI w) λr wr v J1 H1 e1 r1=>?_⟩;split at wr
 ·cases r1;exact ⟨_,rfl,wr J1 H1 e1⟩
 ·exact wr.elim⟩
theorem uZ {p:Pos}{gs:G (List R)}(ha:i6 X c (e::es) gs) (hm:X.mg "sorted"=none) (hK:X.K=c.K:=by rfl) (hg:Gl X "sorted":=by rfl)
  (he:Ux (e::es) X.env=(false,eval e X.env)::Ux es X.env:=by rfl) (hpl:(Wk pos (Ux es X.env)).any (·.1)=false:=by rfl):QD X c (.Call (.Name "sorted" p) (e::es) [] pos) (gN kT gs):=have ha:=ha.h;⟨
 jO yY (by
  intro He J H xs vs Q hp rs w;unfold kT at w;split at w
  ·obtain ⟨v,rfl,r⟩:=rs.one;obtain ⟨xs,q,w⟩:=nQ w;obtain ⟨p,vs,rfl,h1,h2⟩:=RR.list hp r q;split at w
   ·rename_i ss z;split at w
    ·rename_i hl;have:=vf z h2;subst this;refine ⟨p,ss,rfl,by rw [hK];exact h1,hl,λss' hp' hs' l hl'=>?_⟩;rw [Dr hp' hs'];exact w _ _ _ (Ext.new hp.sub hl' _) (ia hp hl' (xw _))
    ·exact w.elim
   ·exact w.elim
  ·exact w.elim) ly hm ha hg (by decide) (by decide) he hpl⟩
theorem gZ (ha:QD X c a ga) (hb:QD X c b gb):QD X c (.BinOp a .Add b pos) (g2 iO ga gb):=by
 have ha:=ha.h;have hb:=hb.h;refine ⟨?_⟩;have h1:BD c (sI λi j=>.int (i + j)) vH:=kD λ_ _ _=>.int _;have q:=kL (pos:=pos) (EX.or (uW.or EY)) (BD.or (c:=c) (λx _=>EH x) h1 (BD.or (c:=c) (λx _=>Mm x) (f:=uF) (f':=uG) (by
  intro He He' J H x y u v Q hp rx ry w;unfold uF at w;split at w
  ·cases rx;cases ry;split at w
   ·rename_i h;exact ⟨_,_,rfl,rfl,h,w _ J H (Ext.refl hp.sub) (.str _)⟩
   ·exact w.elim
  ·exact w.elim) (by
  intro He He' J H x y u v Q hp rx ry w;unfold uG at w;split at w
  ·rename_i hm;rw [Uq] at hm;obtain ⟨p,vs,xs,e1,rfl,h1,s1⟩:=rx.made hm.1;obtain ⟨p2,vs2,ys,e2,rfl,h2,s2⟩:=ry.made hm.2;rw [e1,e2] at w;simp only [aQ] at w;split at w
   ·rename_i hz;rw [s1.length,s2.length] at hz;exact ⟨p,p2,vs,vs2,rfl,rfl,h1,h2,hz,λq hq=>w _ J _ (Ext.new hp.sub hq _) (ia hp hq (s1.append s2))⟩
   ·exact w.elim
  ·exact w.elim))) ha hb
 exact q
theorem fZ (ha:QD X c a ga) (hb:QD X c b gb):QD X c (.BinOp a .Mult b pos) (g2 iM ga gb):=by
 have ha:=ha.h;have hb:=hb.h;refine ⟨?_⟩;have h1:BD c (rI B9 λi j=>.int (i * j)) Ma:=yQ (λi j h=>JU h) λ_ _ _=>.int _;exact kL (pos:=pos) (MV.or Km) (BD.or (c:=c) (λx _=>EH x) h1 (f':=CJ) (by
  intro He He' J H x y u v Q hp rx ry w;unfold CJ at w;split at w
  ·cases rx;cases ry;split at w
   ·rename_i h;exact ⟨_,_,rfl,rfl,h.1,h.2.1,h.2.2,w _ J H (Ext.refl hp.sub) (.str _)⟩
   ·exact w.elim
  ·exact w.elim)) ha hb
theorem aG (ha:QD X c a ga) (hb:QD X c b gb) (hK:X.K=c.K:=by rfl) (hs:qP b:=by exact λ_ _=>rfl):QD X c (.Subscript a b pos) (g2 aY ga gb):=have ha:=ha.h;have hb:=hb.h;⟨IW Mv (by
 intro He He' J H x y u v Q hp rx ry w;rw [hK];unfold aY at w;split at w
 ·cases rx;cases ry;split at w
  ·rename_i h;split at w
   ·rename_i k hk;exact .inr (.inr ⟨_,_,k,rfl,rfl,h,hk,w _ J H (Ext.refl hp.sub) (.str _)⟩)
   ·exact w.elim
  ·exact w.elim
 ·cases ry;obtain ⟨xs,q,w⟩:=jj w;obtain ⟨p,vs,rfl,hl,hs⟩:=kQ hp rx q;split at w
  ·rename_i d hd;obtain ⟨z,h1,h2⟩:=K5 hs hd;have fin:=w z J H (Ext.refl hp.sub) h2;rcases hl with hl | hl
   ·exact .inl ⟨p,vs,_,z,rfl,rfl,hl,h1,fin⟩
   ·exact .inr (.inl ⟨p,vs,_,z,rfl,rfl,hl,h1,fin⟩)
  ·exact w.elim
 ·exact w.elim) ha hb hs⟩
theorem aT {F:List S->M R}{gs:G (List R)}(G:bu X.prog X.w X.K X.mg X.base k n x F) (hr:dB k' X.A) (ha:i6 X c (e::es) gs) (hk:k<=k':=by decide) (hT:c.K=X.K:=by rfl) (hg:Gl X x:=by rfl) (hdb:(x == ("__debug__":Str))=false:=by decide)
 (he:Ux (e::es) X.env=(false,eval e X.env)::Ux es X.env:=by rfl) (hpl:(Wk pos (Ux es X.env)).any (·.1)=false:=by rfl):QD X c (.Call (.Name x p) (e::es) [] pos) (gN (aO n F) gs):=by have ha:=ha.h;refine ⟨?_⟩;obtain ⟨f,fd,ps,h1,h2,h3,h4⟩:=G;exact Ku h1 (hr.mono hk) h2 h3 h4 ha hT hg hdb he hpl
theorem tX (h:QD X c e g) (ht:pZ X c tg t) (hs:aan [tg] e pos.line X.env=pure false:=by rfl) (hw:abJ [tg] e X.env=pure none:=by rfl)
 (h1:(Xo [tg] X.env).map (·.2)=[assign tg X.env]:=by rfl):jF X c (.Assign [tg] e pos) (tF t g):=have h:=h.h;have ht:=ht.h;⟨Kr h ht (Fe h ht hs hw h1)⟩
theorem oN {T:String}{Ts:Str}{p p2:Pos}(kit:DK T) (hT:Vx Ts=some (.type T)) (mT:X.mg Ts=none)
  (h:QD X c a g) (hm:X.mg "isinstance"=none) (hK:X.K=c.K:=by rfl) (hg:Gl X "isinstance":=by rfl) (Tj:Gl X Ts:=by rfl) (hn:Ts≠"__name__":=by decide) (Tf:(Ts == ("__debug__":Str))=false:=by decide)
  (he:Ux [a,.Name Ts p2] X.env=(false,eval a X.env)::Ux [.Name Ts p2] X.env:=by rfl) (RX:Ux [.Name Ts p2] X.env=(false,eval (.Name Ts p2) X.env)::Ux [] X.env:=by rfl)
  (hpl:(Wk pos (Ux [.Name Ts p2] X.env)).any (·.1)=false:=by rfl):QD X c (.Call (.Name "isinstance" p) [a,.Name Ts p2] [] pos) (IF T g):=have h:=h.h;⟨
 fC (tV (AI kit) hg hm (by decide +kernel) (eK h (eK (Ky Tj mT hT (v:=.ty T) rfl hn Tf) gW RX) he) (by decide) (by decide) he hpl) λσ H Q ⟨J,env,sr,w⟩=>by
  refine ⟨J,env,sr,aE (aI w) λr wr v J1 H1 e1 r1=>?_⟩;exact ⟨r.dat,v,rfl,by rw [hK];exact r1.dat (sr.hp.ext e1),wr _ J1 H1 e1 (.bl _)⟩⟩
theorem vX {p:Pos}{gs:G (List R)}(ha:i6 X c (e::es) gs) (hm:X.mg "all"=none) (hK:X.K=c.K:=by rfl) (hc:X.calm=true:=by rfl) (hg:Gl X "all":=by rfl)
  (he:Ux (e::es) X.env=(false,eval e X.env)::Ux es X.env:=by rfl) (hpl:(Wk pos (Ux es X.env)).any (·.1)=false:=by rfl):QD X c (.Call (.Name "all" p) (e::es) [] pos) (gN qb gs):=have ha:=ha.h;⟨
 jO (D7 hc) (by
  intro He J H xs vs Q hp rs w;unfold qb at w;split at w
  ·obtain ⟨v,rfl,r⟩:=rs.one;obtain ⟨xs,q,w⟩:=nQ w;obtain ⟨p,vs,rfl,h1,h2⟩:=RR.list hp r q;split at w
   ·rename_i ks z;have:=wK z h2;subst this;exact ⟨p,ks,rfl,by rw [hK];exact h1,w _ J H (Ext.refl hp.sub) (.bl _)⟩
   ·exact w.elim
  ·exact w.elim) DZ hm ha hg (by decide) (by decide) he hpl⟩
theorem K0 {p:Pos}{gs:G (List R)}(ha:i6 X c (e::es) gs) (hm:X.mg "max"=none) (hc:X.calm=true:=by rfl) (hg:Gl X "max":=by rfl)
  (he:Ux (e::es) X.env=(false,eval e X.env)::Ux es X.env:=by rfl) (hpl:(Wk pos (Ux es X.env)).any (·.1)=false:=by rfl):QD X c (.Call (.Name "max" p) (e::es) [] pos) (gN CI gs):=have ha:=ha.h;⟨
 jO (D9 hc) (by
  intro He J H xs vs Q hp rs w;unfold CI at w;split at w
  ·obtain ⟨v,v',rfl,r,r'⟩:=rs.two;cases r;cases r';exact ⟨_,_,rfl,w _ J H (Ext.refl hp.sub) (.int _)⟩
  ·exact w.elim) (by decide +kernel) hm ha hg (by decide) (by decide) he hpl⟩
theorem cI (ha:QD X c a ga) (hb:QD X c b gb) (hK:X.K=c.K:=by rfl):QD X c (.BinOp a .Add b pos) (g2 bY ga gb):=by
 have ha:=ha.h;have hb:=hb.h;refine ⟨?_⟩;have h1:BD c (sI λi j=>.int (i + j)) vH:=kD λ_ _ _=>.int _;exact kL (pos:=pos) (EZ.or (EX.or (uW.or EY))) (BD.or (c:=c) (λx _=>Mq x) (Jv hK) (BD.or (c:=c) (λx _=>EH x) h1 (BD.or (c:=c) (λx _=>Mm x) (f:=uF) (f':=uG) (by
  intro He He' J H x y u v Q hp rx ry w;unfold uF at w;split at w
  ·cases rx;cases ry;split at w
   ·rename_i h;exact ⟨_,_,rfl,rfl,h,w _ J H (Ext.refl hp.sub) (.str _)⟩
   ·exact w.elim
  ·exact w.elim) (by
  intro He He' J H x y u v Q hp rx ry w;unfold uG at w;split at w
  ·rename_i hm;rw [Uq] at hm;obtain ⟨p,vs,xs,e1,rfl,h1,s1⟩:=rx.made hm.1;obtain ⟨p2,vs2,ys,e2,rfl,h2,s2⟩:=ry.made hm.2;rw [e1,e2] at w;simp only [aQ] at w;split at w
   ·rename_i hz;rw [s1.length,s2.length] at hz;exact ⟨p,p2,vs,vs2,rfl,rfl,h1,h2,hz,λq hq=>w _ J _ (Ext.new hp.sub hq _) (ia hp hq (s1.append s2))⟩
   ·exact w.elim
  ·exact w.elim)))) ha hb
theorem BQ {lo hi:Option U_}{gl gh:GO}{p2:Pos}(h:QD X c e g) (hl:A3 X c lo gl) (hh:A3 X c hi gh) (hK:X.K=c.K:=by rfl):QD X c (.Subscript e (.Slice lo hi none p2) pos) (nq zq g gl gh):=have h:=h.h;have hl:=hl.h;have hh:=hh.h;⟨IX (FH.or K9) (by
 intro He J H x v l u Q hp rx w;unfold zq at w;split at w
 ·exact .inl (P_ hK He J H x v l u Q hp rx w)
 ·obtain ⟨xs,q,w⟩:=nQ w;obtain ⟨p,vs,rfl,h1,h2⟩:=rx.list hp q;exact .inr ⟨p,vs,rfl,by rw [hK];exact h1,λp' hp'=>w _ _ _ (Ext.new hp.sub hp' _) (ia hp hp' (h2.cut l u))⟩) h hl hh⟩
theorem jf (h:Ce X.K X.mg x d) (hK:X.K=c.K:=by rfl) (hg:Gl X x:=by rfl) (hd:(x == ("__debug__":Str))=false:=by decide):QD X c (.Name x pos) (gC d):=by refine ⟨?_⟩;obtain ⟨u,v,h1,h2,h3⟩:=h;exact Kv h1 h2 (λJ=>hK▸h3 J) hg hd
end
section
variable {X:Cx}{c:C}{e a b tg:U_}{es:List U_}{ga gb g:G R}{pos:Pos}{st:Xg}{t u:G O}{tb:G Bool}
theorem oJ:jF X c st yh:=⟨λT9 s σ H D I ⟨J,env,sr,w⟩=>w.elim⟩
theorem BP (h:QD X c a g):QD X c (.UnaryOp .USub a pos) (vK g):=have h:=h.h;⟨fC (Oz NX h) λσ H Q ⟨J,env,sr,w⟩=>by
 refine ⟨J,env,sr,aE (aI w) λr wr v J1 H1 e1 r1=>?_⟩;split at wr
 ·cases r1;exact ⟨_,rfl,wr _ J1 H1 e1 (.int _)⟩
 ·exact wr.elim⟩
theorem rE (h:QD X c e g) (hK:X.K=c.K:=by rfl) (he:∀whole,abp e X.env whole=(do let v <-whole;X3 e.pos;holding [v] (truthy v)):=by intro _;rfl):QB X c e (tK g):=have h:=h.h;⟨yp (Hq h he) λσ H Q ⟨J,env,sr,w⟩=>by
 refine ⟨J,env,sr,aE (aI w) λr wr v J1 H1 e1 r1=>?_⟩;rw [hK];obtain ⟨k,k1,k2⟩:=Lg (sr.hp.ext e1) r1 wr;exact ⟨k,k1,k2 J1 H1 e1⟩⟩
theorem Dj (n:Nat){body:List Xg}(ht:QB X c e tb) (hb:o9 X c body u) (hp:ac5 (UO X.prog X.w) X.A X.env X.xe:=by first | exact ade | exact acr):jF X c (.While e body [] pos) (uL n tb u):=have ht:=ht.h;have hb:=hb.h;⟨iQ (Hl hp ht hb) λE σ H ⟨J,env,sr,w⟩=>by
 refine ⟨λm σ H=>∃J' env,aU J J'/\SR c J' H σ env/\cA (lQ tb u m env) (oP c J' E) c.T,⟨n,J,env,aU.refl J,sr,w⟩,?_⟩;rintro m σ H ⟨J',env,s',sr',w'⟩;cases m with
 | zero=>exact w'.elim
 | succ m=>
  refine ⟨J',env,sr',aE (aI w') λk wk J1 H1 e1=>?_⟩;cases k with
  | false=>
   rw [if_neg (by decide)] at wk ⊢;exact wk σ J1 H1 e1.j (sr'.ext e1)
  | true=>
   rw [if_pos rfl] at wk ⊢;refine ⟨λσ2 H2=>∃J2 env2,aU J1 J2/\SR c J2 H2 σ2 env2/\cA (lQ tb u m env2) (oP c J2 E) c.T,?_,?_⟩
   ·rintro σ2 H2 ⟨J2,env2,s2,sr2,w2⟩;exact ⟨m,Wc m,J2,env2,(s'.trans e1.j).trans s2,sr2,w2⟩
   ·refine ⟨J1,env,sr'.ext e1,aE (aI wk) λo wo=>?_⟩;cases o with
    | nx env4=>exact λσ4 J4 H4 s4 sr4=>⟨J4,env4,s4,sr4,aE wo λo q=>q.mono (e1.j.trans s4)⟩
    | ct env4=>exact λσ4 J4 H4 s4 sr4=>⟨J4,env4,s4,sr4,aE wo λo q=>q.mono (e1.j.trans s4)⟩
    | bk env4=>exact λσ4 J4 H4 s4 sr4=>wo σ4 J4 H4 (e1.j.trans s4) sr4
    | rt r=>exact λv J4 H4 s4 h4 r4=>wo v J4 H4 (e1.j.trans s4) h4 r4⟩
theorem AM (i j:Nat){x y:Str}{p1 p2 pos' q1 q2 q3:Pos}(h:QD X c e g) (hi:X.N[i]?=some x:=by rfl) (TQ:rY X.env.scope x:=by first | exact Zi rfl | exact XN (Zi rfl) | exact XN (XN rfl)) (hdx:(x == ("__debug__":Str))=false:=by decide) (Tc:(x == ("__classdict__":Str))=false:=by decide)
  (hj:X.N[j]?=some y:=by rfl) (TR:rY X.env.scope y:=by first | exact Zi rfl | exact XN (Zi rfl) | exact XN (XN rfl)) (Sg:(y == ("__debug__":Str))=false:=by decide) (Td:(y == ("__classdict__":Str))=false:=by decide)
  (hbase:Yg (.Name x p1) "append" X.env (eval (.Name x p1) X.env)=eval (.Name x p1) X.env:=by rfl)
  (hfew:((Wk pos' (Ux [.Call (.Attribute (.Name y q1) "pop" q2) [e] [] q3] X.env)).all (λx=>!x.1) && (ac0 pos' (aap [] X.env)).all (λx=>x.1.isSome)
   && decide (([.Call (.Attribute (.Name y q1) "pop" q2) [e] [] q3]:List U_).length + ([]:List aaq).length + (if ([]:List aaq).isEmpty then 0 else 1) < 30))=true:=by rfl)
  (hline:(p2.endLine == pos'.line)=true:=by rfl)
  (hst:Ux [.Call (.Attribute (.Name y q1) "pop" q2) [e] [] q3] X.env=(false,eval (.Call (.Attribute (.Name y q1) "pop" q2) [e] [] q3) X.env)::Ux [] X.env:=by rfl) (hplain:(Wk pos' (Ux [] X.env)).any (·.1)=false:=by rfl)
  (RK:Yg (.Name y q1) "pop" X.env (eval (.Name y q1) X.env)=eval (.Name y q1) X.env:=by rfl)
  (RZ:((Wk q3 (Ux [e] X.env)).all (λx=>!x.1) && (ac0 q3 (aap [] X.env)).all (λx=>x.1.isSome)
   && decide (([e]:List U_).length + ([]:List aaq).length + (if ([]:List aaq).isEmpty then 0 else 1) < 30))=true:=by rfl)
  (RP:(q2.endLine == q3.line)=true:=by rfl) (R6:Ux [e] X.env=(false,eval e X.env)::Ux [] X.env:=by rfl) (RH:(Wk q3 (Ux [] X.env)).any (·.1)=false:=by rfl)
  (hs:ZE (.Call (.Attribute (.Name x p1) "append" p2) [.Call (.Attribute (.Name y q1) "pop" q2) [e] [] q3] [] pos') none pos.line X.env=pure false:=by rfl):jF X c (.Expr (.Call (.Attribute (.Name x p1) "append" p2) [.Call (.Attribute (.Name y q1) "pop" q2) [e] [] q3] [] pos') pos) (nk i j g):=have h:=h.h;⟨
 iQ (rq (ym XI aac aad qw (lH hi TQ hdx Tc) (eK (ym XI PySem.F.slot_list_pop PySem.F.type_list_pop GW (lH hj TR Sg Td) (eK h gW R6) RK RZ RP R6 RH) gW hst) hbase hfew hline hst hplain) hs) λE σ H ⟨J,env,sr,w⟩=>by
  unfold nk at w;split at w
  ·rename_i zs xs Sk Sm;split at w
   ·exact w.elim
   ·rename_i hij;obtain ⟨_,k1,p,us,rfl,k2,k3,k4,k5⟩:=sr.at_ i _ Sk;obtain ⟨_,l1,q,vs,rfl,l2,l3,l4,l5⟩:=sr.at_ j _ Sm;refine ⟨.ref p,k1,.inl ⟨rfl,us,cj.of k2⟩,?_⟩;refine ⟨.ref q,l1,.inl ⟨rfl,vs,cj.of l2⟩,?_⟩;refine ⟨J,env,sr,aE (aI w) λr wr v J1 H1 e1 r1=>?_⟩;split at wr
    ·rename_i k;cases r1;split at wr
     ·rename_i hk;split at wr
      ·rename_i d hd;obtain ⟨z,hz,rz⟩:=l5.get hd;have m2:=e1.h _ _ l2;have n2:=e1.h _ _ k2;have hpq:q≠p:=λzz=>M5 sr hij Sk Sm k1 l1 zz.symm;refine ⟨q,vs,k,k.toNat,z,rfl,rfl,m2,by omega,?_,OM hk.1 (by rw [<-l5.length];exact hk.2.1),hz,?_⟩
       ·have z1:=hk.2.1;have z2:=hk.2.2.2;have z3:sizeLine=16777216:=Wo;omega
       ·refine ⟨p,us,z,rfl,rfl,by rw [bq (Ws hpq)];exact n2,by rw [<-k5.length];exact hk.2.2.1,?_⟩;have sr1:=sr.ext e1;have J1p:J1 p=none:=e1.frz p (by rw [k2];intro z;cases z) k3;have J1q:J1 q=none:=e1.frz q (by rw [l2];intro z;cases z) l3;have sr2:=sr1.upd (xs':=xs.eraseIdx k.toNat) (vs':=vs.eraseIdx k.toNat) Sm l1 m2 J1q l4 ((l5.mono e1.j).eraseIdx _);have Sl:(env.set j (some (.own (xs.eraseIdx k.toNat))))[i]?=some (some (.own zs)):=by rw [Vh (Ws hij)];exact Sk
        have sr3:=sr2.upd (xs':=zs++[d]) (vs':=us++[z]) Sl k1 (by rw [bq (Ws hpq)];exact n2) J1p k4 ((k5.mono e1.j).append (.cons (rz.mono e1.j) .nil));exact wr σ J1 _ e1.j sr3
      ·exact wr.elim
     ·exact wr.elim
    ·exact wr.elim
  ·exact w.elim⟩
end
section
variable {X:Cx}{c:C}{e a b tg:U_}{es:List U_}{ga gb g:G R}{pos:Pos}
theorem sH (i:Nat){x:Str}{p1 p2 pos':Pos}(h:QD X c e g) (hN:X.N[i]?=some x:=by rfl) (hv:rY X.env.scope x:=by first | exact Zi rfl | exact XN (Zi rfl) | exact XN (XN rfl)) (hd:(x == ("__debug__":Str))=false:=by decide)
  (hcd:(x == ("__classdict__":Str))=false:=by decide)
  (hbase:Yg (.Name x p1) "extend" X.env (eval (.Name x p1) X.env)=eval (.Name x p1) X.env:=by rfl)
  (hfew:((Wk pos' (Ux [e] X.env)).all (λx=>!x.1) && (ac0 pos' (aap [] X.env)).all (λx=>x.1.isSome)
   && decide (([e]:List U_).length + ([]:List aaq).length + (if ([]:List aaq).isEmpty then 0 else 1) < 30))=true:=by rfl)
  (hline:(p2.endLine == pos'.line)=true:=by rfl) (hst:Ux [e] X.env=(false,eval e X.env)::Ux [] X.env:=by rfl) (hplain:(Wk pos' (Ux [] X.env)).any (·.1)=false:=by rfl)
  (hs:ZE (.Call (.Attribute (.Name x p1) "extend" p2) [e] [] pos') none pos.line X.env=pure false:=by rfl) (hK:X.K=c.K:=by rfl):jF X c (.Expr (.Call (.Attribute (.Name x p1) "extend" p2) [e] [] pos') pos) (vJ i g):=have h:=h.h;⟨
 iQ (rq (ym XI PySem.F.slot_list_extend PySem.F.type_list_extend MN (lH hN hv hd hcd) (eK h gW hst) hbase hfew hline hst hplain) hs) λE σ H ⟨J,env,sr,w⟩=>by
  unfold vJ at w;split at w
  ·rename_i xs hi;obtain ⟨v,h1,a,vs,rfl,h2,h3,h4,h5⟩:=sr.at_ i _ hi;refine ⟨.ref a,h1,.inl ⟨rfl,vs,cj.of h2⟩,?_⟩;refine ⟨J,env,sr,aE (aI w) λr wr y J1 H1 e1 r1=>?_⟩;obtain ⟨ys,q,wr⟩:=jj wr;split at wr
   ·rename_i hz;obtain ⟨p,ws,rfl,hq,hs⟩:=kQ (sr.hp.ext e1) r1 q;refine ⟨a,p,vs,ws,rfl,rfl,e1.h _ _ h2,by rw [hK];exact hq,by rw [<-h5.length,<-hs.length];exact hz,?_⟩;refine wr σ J1 _ e1.j ?_;exact (sr.ext e1).upd hi h1 (e1.h _ _ h2) (e1.frz a (by rw [h2];intro z;cases z) h3) h4 ((h5.mono e1.j).append hs)
   ·exact wr.elim
  ·exact w.elim⟩
theorem Fo (ha:QD X c a ga) (hb:QD X c b gb):QD X c (.Compare a [.Is] [b] pos) (g2 (iL false) ga gb):=have ha:=ha.h;have hb:=hb.h;⟨nJ E3 (by
 intro He He' J H x y u v Q hp rx ry w;unfold iL at w;split at w
 ·rename_i o ho;refine ⟨o,by rw [jc ry];exact ho,?_⟩;rw [jc rx];exact w _ J H (Ext.refl hp.sub) (.bl _)
 ·exact w.elim) ha hb⟩
theorem Fp (ha:QD X c a ga) (hb:QD X c b gb):QD X c (.Compare a [.IsNot] [b] pos) (g2 (iL true) ga gb):=have ha:=ha.h;have hb:=hb.h;⟨nJ w_ (by
 intro He He' J H x y u v Q hp rx ry w;unfold iL at w;split at w
 ·rename_i o ho;refine ⟨o,by rw [jc ry];exact ho,?_⟩;rw [jc rx];exact w _ J H (Ext.refl hp.sub) (.bl _)
 ·exact w.elim) ha hb⟩
theorem Fg (ha:QD X c a ga) (hb:QD X c b gb):QB X c (.Compare a [.Is] [b] pos) (bw (g2 (iL false) ga gb)):=have ha:=ha.h;have hb:=hb.h;⟨jB E3 (by
 intro He He' J H x y u v Q hp rx ry w;unfold iL at w;split at w
 ·rename_i o ho;refine ⟨o,by rw [jc ry];exact ho,?_⟩;rw [jc rx];exact w _ J H (Ext.refl hp.sub) (.bl _)
 ·exact w.elim) ha hb⟩
theorem Fi (ha:QD X c a ga) (hb:QD X c b gb):QB X c (.Compare a [.IsNot] [b] pos) (bw (g2 (iL true) ga gb)):=have ha:=ha.h;have hb:=hb.h;⟨jB w_ (by
 intro He He' J H x y u v Q hp rx ry w;unfold iL at w;split at w
 ·rename_i o ho;refine ⟨o,by rw [jc ry];exact ho,?_⟩;rw [jc rx];exact w _ J H (Ext.refl hp.sub) (.bl _)
 ·exact w.elim) ha hb⟩
end
section
variable {X:Cx}{c:C}{e a b d tg:U_}{es:List U_}{ga gb g:G R}{pos:Pos}
theorem c6 (h:QD X c e g) (hK:X.K=c.K:=by rfl):A2 X c tg e (fO g):=have h:=h.h;⟨q_ (E9 h) λσ H Q ⟨J,env,sr,w⟩=>by
 refine ⟨J,env,sr,aE (aI w) λr wr v J1 H1 e1 r1=>?_⟩;rw [hK];split at wr
 ·cases r1 with
  | tup h1 h2=>exact ⟨_,rfl,.inr ⟨⟨_,eY e1.sub h1⟩,wr _ J1 H1 e1 (xP (λJ H u=>u) h1 h2)⟩⟩
 ·cases r1 with
  | lst h1 h2=>exact ⟨_,rfl,.inl ⟨⟨_,e1.sub.seq h1⟩,wr _ J1 H1 e1 (qM (.inl h1) h2)⟩⟩
 ·obtain ⟨J2,e2,s2,rd⟩:=freeze e1 r1 rfl;cases rd with
  | lst h1 h2=>exact ⟨_,rfl,.inl ⟨⟨_,e2.sub.seq h1⟩,wr _ J2 H1 e2 (qM (.inl h1) h2)⟩⟩
 ·obtain ⟨a,vs,rfl,h1,h2⟩:=r1;exact ⟨_,rfl,.inl ⟨⟨_,(sr.hp.ext e1).ent.seq h1⟩,wr _ J1 H1 e1 (qM (.inr h1) h2)⟩⟩
 ·exact wr.elim⟩
theorem eS (h:QD X c e g) (hK:X.K=c.K:=by rfl):wD X c tg e (jL g):=have h:=h.h;⟨q_ (E9 h) λσ H Q ⟨J,env,sr,w⟩=>by
 refine ⟨J,env,sr,aE (aI w) λr wr v J1 H1 e1 r1=>?_⟩;rw [hK];have lst:∀{xs:List D},kB r=.ok xs->(∀It J1' H1',Ext J H J1' H1'->Walk c It xs J1' (λJ' H'=>aU J1' J'/\aU H1' H')->Q It H1')->∃a,v=.ref a/\(((∃xs,cj c.K H1 a xs)/\Q (Ie c.K a) H1)\/((∃xs,cY c.K H1 a xs)/\Q (Ih c.K a) H1)):=fun {xs} q wr=>by obtain ⟨a,vs,rfl,h1,h2⟩:=RR.list (sr.hp.ext e1) r1 q;refine ⟨a,rfl,.inl ⟨⟨_,h1⟩,wr _ J1 H1 e1 λi J' H' hp u=>?_⟩⟩;have h':=u.2.seq h1;refine ⟨λhl=>⟨vs,h',by rw [<-h2.length];exact hl⟩,λd hd=>?_⟩;obtain ⟨v,k1,k2⟩:=h2.get hd;refine ⟨⟨vs,v,h',k1⟩,λx H2 ⟨e,hy⟩=>?_⟩;subst e;have:=hy vs h';rw [k1] at this;cases this;exact ⟨J',Ext.refl hp.sub,k2.mono u.1⟩
 cases r with
 | d y=>
  cases y with
  | tup xs=>
   cases r1 with
   | tup h1 h2=>exact ⟨_,rfl,.inr ⟨⟨_,eY e1.sub h1⟩,wr _ J1 H1 e1 (xP (λJ H u=>u.1) h1 h2)⟩⟩
  | lst xs=>exact lst rfl wr
  | _=>exact wr.elim
 | l m xs=>exact lst rfl wr
 | mo _ _=>exact wr.elim
 | mb _ _=>exact wr.elim
 | mf _ _=>exact wr.elim⟩
end
section
variable {X:Cx}{c:C}{st:Xg}{g:G O}
theorem gY (i:Nat) (h:jF X c st g):jF X c st (fF i g):=have h:=h.h;⟨λT9 s σ H D I ⟨J,env,sr,w⟩=>by
 unfold fF at w;split at w
 ·rename_i xs hi;obtain ⟨v,h1,a,vs,rfl,h2,h3,h4,h5⟩:=sr.at_ i _ hi;obtain ⟨J',s1,sr'⟩:=sr.frz (x:=.inl xs) hi h1 h2 h3 h4 (.lst (.inl (.inl bN)) (h5.mono (cJ h3 _)));exact h T9 s σ H D I ⟨J',_,sr',aE w λo q=>q.mono s1⟩
 ·rename_i ks vs hi;obtain ⟨v,h1,a,rfl,⟨us,ws,ep,h2,m1,m2,m3,m4⟩,h3,h4⟩:=sr.at_ i _ hi;obtain ⟨J',s1,sr'⟩:=sr.frz (x:=.inr (ks,vs)) hi h1 h2 h3 h4 (.dct bN (m1.mono (cJ h3 _)) (m2.mono (cJ h3 _)) m3 m4);exact h T9 s σ H D I ⟨J',_,sr',aE w λo q=>q.mono s1⟩
 ·exact h T9 s σ H D I ⟨J,env,sr,w⟩⟩
end
section
variable {X:Cx}{c:C}
theorem vW {P:UG}{w:U5}{K:Ui}{mg:Str->Option Uk}{base:VB}{x Ub:Str}{st:Xg}{f:UL}{fd:U6}{N ps:List Str}{k:Nat}{Fm:List S->M R}(F:k7 K x Ub st f fd) (hm:mg x=some (.ref f)) (Sc:eZ N ps (aV st))
  (hbi:∀(kV doc pm:Uk) (an:Option UL) (cdv ct:Uk) (us:List Uk),us.length=ps.length->aao (Vr x Ub (cP st) (bR st) (aV st) .none kV doc pm an cdv ct) ⟨us,[]⟩=pure (ps.zip us)){gB:G O}
  (hb:∀(cdv:Uk) (A:U8) (outer:List Env) (s:Um) (H:Hp) (E:XK) (J:Hp) (T:Exc->Prop),dB k (A.deeper (ZX Ub (aV st) s.heap.objs.size f cdv))->
   o9 (Em P w K mg base N Ub (aV st) f cdv A outer s H E) ⟨K,H,J,T⟩ (bR st) gB)
  (hF:∀as r,as.length=ps.length->Fm as=.ok r->fin (gB (aW N as))=.ok r):bu P w K mg base (k + 1) ps.length x Fm:=
 LR F hm Sc hbi (λcdv A outer s H E J T hr=>(hb cdv A outer s H E J T hr).h) hF
theorem KR {P:UG}{w:U5}{K:Ui}{mg:Str->Option Uk}{base:VB}{x Ub:Str}{st:Xg}{f:UL}{fd:U6}{N ps:List Str}{k:Nat}{Fm:List S->M R}(F:k7 K x Ub st f fd) (Sc:eZ N ps (aV st)){gB:G O}
  (hb:∀(cdv:Uk) (A:U8) (outer:List Env) (s:Um) (H:Hp) (E:XK) (J:Hp) (T:Exc->Prop),dB k (A.deeper (ZX Ub (aV st) s.heap.objs.size f cdv))->
   o9 (Em P w K mg base N Ub (aV st) f cdv A outer s H E) ⟨K,H,J,T⟩ (bR st) gB)
  (hF:∀as r,as.length=ps.length->Fm as=.ok r->fin (gB (aW N as))=.ok r):fM P w K mg base oX (k + 1) f fd ps (qI K ps.length Fm):=
 Et F Sc (λcdv A outer s H E J T hr=>(hb cdv A outer s H E J T hr).h) hF
end
end DL
namespace K01
open PySem DL
def wB:List Str:=["thing"]
def wV:G O:=(br (jV (IF "int" (af 0)) (II (IF "bool" (af 0)))))
def pP (as:List S):M R:=fin (wV (aW wB as))
theorem fG (h:n<=1000):n<=sizeLine:=U1 h (by decide)
theorem Bd (f:D->Bool):∀(ds:List D),nW (ds.map λd=>.bl (f d))=some (ds.map f)
 | []=>rfl
 | d::r=>by simp only [UH,nW,Bd f r];rfl
theorem all_map (f:D->Bool) (ds:List D):qb [.l .fresh (ds.map λd=>.bl (f d))]=.ok (.d (.bl (ds.all f))):=by unfold qb;simp only [kB,aQ,Bd];congr 3;simp [ZY]
theorem qQ {α:Type}{xs:List α}{k:Nat}{x:α}(h:xs[k]?=some x):L2.lW xs (k:Int)=some x:=by have hk:k < xs.length:=(UR.mp h).1;unfold L2.lW L2.zG;rw [if_pos (by omega),if_pos (by omega)];simpa using h
theorem ng {xs:List D}{k:Nat}{x:D}(h:xs[k]?=some x):aY (.d (.tup xs)) (.d (.int k))=.ok (.d x):=by unfold aY;simp only [iK,aQ,qQ h]
theorem qV {m:Md}{xs:List D}{k:Nat}{x:D}(h:xs[k]?=some x):aY (.l m xs) (.d (.int k))=.ok (.d x):=by unfold aY;simp only [iK,aQ,qQ h]
theorem Bo {z:Str}{k:Nat}{c:Nat}(hz:z.length<=1000) (h:z.cps.toList[k]?=some c):aY (.d (.str z)) (.d (.int k))=.ok (.d (.str ⟨#[c]⟩)):=by unfold aY;simp only [fG hz,if_true,qQ h]
theorem J6 (xs:List D):eV [.d (.tup xs)]=.ok (.d (.int xs.length)):=rfl
theorem eq_int (neg:Bool) (i j:Int):bX neg (.d (.int i)) (.d (.int j))=.ok (.d (.bl (if neg then !(i == j) else i == j))):=rfl
theorem fP (a:D) (r:List D):aY (.d (.tup (a::r))) (.d (.int 0))=.ok (.d a):=ng (k:=0) rfl
theorem EJ (a b:D) (r:List D):aY (.d (.tup (a::b::r))) (.d (.int 1))=.ok (.d b):=ng (k:=1) rfl
theorem Mt (a b c:D) (r:List D):aY (.d (.tup (a::b::c::r))) (.d (.int 2))=.ok (.d c):=ng (k:=2) rfl
theorem P4 (n:Nat) (h:n<=1000):below 4611686018427387904 (n:Int)=true:=cG.mpr ⟨by omega,by omega⟩
def I_ (j:Int):M (List D):=if below 4611686018427387904 j then .ok (fU 0 j.toNat) else .bad
theorem NG (j:Int) (h:below 4611686018427387904 j=true):I_ j=.ok (fU 0 j.toNat):=by unfold I_;exact if_pos h
theorem NF {gs:G (List R)}(hg:gs env=.ok [.d (.int j)]):b9 gs env=I_ j:=by unfold b9 I_;rw [hg];rfl
theorem jC {gs:G (List R)}{env:Ev}{n:Nat}(hg:gs env=.ok [.d (.int (n:Int))]) (h:n<=1000):b9 gs env=.ok (fU 0 n):=by rw [NF hg,NG _ (P4 n h)];exact congrArg (λk=>M.ok (fU 0 k)) (VY n)
theorem FG {t u:G O}(h:t env=.ok (.nx e)):aH t u env=u e:=by unfold aH;rw [h];rfl
theorem Mb {g:G (List D)}{u:G O}(h:g env=.ok ds):cu g t u env=ff t u ds env:=by unfold cu;rw [h];rfl
theorem lP (i j:Int):iO (.d (.int i)) (.d (.int j))=.ok (.d (.int (i + j))):=rfl
theorem Dv (i j:Int):vI (.d (.int i)) (.d (.int j))=.ok (.d (.int (i - j))):=rfl
theorem yf {C:Int->Int->Bool}{f:Int->Int->D}(h:C i j=true):fI C f (.d (.int i)) (.d (.int j))=.ok (.d (f i j)):=by show (if C i j=true then M.ok (R.d (f i j)) else M.bad)=_;rw [if_pos h]
theorem ji (i j:Int) (h1:-(2 ^ 64) < j) (h2:j < 2 ^ 64):iM (.d (.int i)) (.d (.int j))=.ok (.d (.int (i * j))):=yf (C:=zH) (f:=λi j=>.int (i * j)) (by unfold zH;rw [Xq];exact XN (cG.mpr ⟨h1,h2⟩))
theorem gq (i j:Int) (h1:0 < j) (h2:j < 1073741824):f9 (.d (.int i)) (.d (.int j))=.ok (.d (.int (i / j))):=yf (by
 unfold CO;rw [Uq];exact ⟨decide_eq_true h1,cG.mpr ⟨by omega,h2⟩⟩)
theorem c_ (i j:Int) (h1:0 < j):dD (.d (.int i)) (.d (.int j))=.ok (.d (.int (i % j))):=yf (decide_eq_true h1)
theorem OW (x y:Str) (h:x.length + y.length<=1000):iO (.d (.str x)) (.d (.str y))=.ok (.d (.str (x++y))):=by show (if x.length + y.length<=sizeLine then M.ok (R.d (D.str (x++y))) else M.bad)=_;rw [if_pos (fG h)]
def LH:Str:="abcdefghijklmnopqrstuvwxyz"
theorem LI:∀k:Fin 26,LH.cps.toList[k.val]?=some (97 + k.val):=by decide +kernel
theorem Jm:LH.length<=1000:=by decide +kernel
theorem EK (i:Int) (h0:0<=i) (h:i < 26):aY (.d (.str "abcdefghijklmnopqrstuvwxyz")) (.d (.int i))=.ok (.d (.str ⟨#[97 + i.toNat]⟩)):=by
 have e:i=((i.toNat:Nat):Int):=by omega
 have:=Bo (z:=LH) (k:=i.toNat) Jm (LI ⟨i.toNat,by omega⟩);rw [e];exact this
theorem kR (x y:Str):(x++y).cps.toList=x.cps.toList++y.cps.toList:=by show (x.cps++y.cps).toList=_;simp
theorem dI (x:Str):x.length=x.cps.toList.length:=by show x.cps.size=_;simp
theorem strs_map:∀(ss:List Str),strsOf (ss.map .str)=some ss
 | []=>rfl
 | s::r=>by simp only [UH,strsOf,strs_map r];rfl
theorem sorted_strs (m:Md) (ss:List Str) (h:ss.length < 64):kT [.l m (ss.map .str)]=.ok (.l .fresh ((mE ss).map .str)):=by unfold kT;simp only [kB,aQ,strs_map,h,if_true]
theorem jy {b:G Bool}{t u:G O}(h:b env=.ok false):bJ b t u env=u env:=by unfold bJ;rw [h];rfl
theorem jb {b:G Bool}{t u:G O}(h:b env=.ok true):bJ b t u env=t env:=by unfold bJ;rw [h];rfl
theorem Ol {g:G R}{f:List R->M R}(h:g env=.ok r) (hf:f [r]=.ok r'):gN f (ao g aC) env=.ok r':=by unfold gN ao;rw [h];exact hf
theorem Fy {g:G R}(h:g env=.ok r) (h2:rF r=.ok r'):br g env=.ok (.rt r'):=by unfold br;rw [h,aQ,h2];rfl
abbrev dN (k:Nat):D:=.int k
abbrev dP (p:Nat×Nat):D:=.tup [.int p.1,.int p.2]
def pI (p q:Nat×Nat):Prop:=p.1 < q.1\/(p.1=q.1/\p.2 < q.2)
structure Wd where
 m:Nat
 ms:List (Str×List Nat)
 ar:List (Str×List (Nat×Nat))
abbrev kj (r:Str×List Nat):D:=.tup [.str r.1,.tup (r.2.map dN)]
abbrev oQ (r:Str×List (Nat×Nat)):D:=.tup [.str r.1,.tup (r.2.map dP)]
def Wd.d (w:Wd):D:=.tup [.int w.m,.tup (w.ms.map kj),.tup (w.ar.map oQ)]
theorem xu {K:Ui}{J:L2.Hp}:∀(ns:List Int),aK K J (ns.map D.int) (ns.map L2.V.int)
 | []=>.nil
 | n::r=>.cons (.int n) (xu r)
end K01
namespace DX
open PySem PySem.Spec
open Builtin Builtin.ObjectAttr
end DX
namespace DX
open PySem PySem.Spec
end DX
namespace DX
open PySem PySem.Spec PyProof.Rows L2
end DX
namespace DL
open PySem PySem.Spec PyProof.Rows L2 DX
noncomputable def Px (K:Ui) (J:Hp) (x:Exc) (v:Uk) (dx:Option UL):Prop:=
 ∃a C vs,v=.ref a/\J a=some (XO a C dx)/\Va K UW x.cls=some (some (.ref C))/\XF J dx x.ns vs/\aK K J x.ds vs/\∃P,GX K P/\XE K P C
def XW (K:Ui) (J H:Hp) (E:XK) (x:Exc):Prop:=∀v dx J' H',Ext J H J' H'->Px K J' x v dx->E v dx H'
noncomputable def Ak (K:Ui) (n:Nat) (F:List S->M R):Sp:=λvs H Q E=>∃J as,aU J H/\as.length=n/\kZ K J H as vs/\cA (F as) (λr=>∀v J' H',Ext J H J' H'->FR K H J' H' r v->Q v H') (XW K J H E)
abbrev Qt (P:UG) (w:U5) (K:Ui) (mg:Str->Option Uk) (base:VB) (N:List Str) (Ub:Str) (sc:X0) (f:UL) (cd:Uk) (A:U8) (outer:List Env) (s:Um) (H:Hp) (E:XK):Cx:=p_ (we P w) P w K mg base N Ub sc f cd A outer s H E
end DL
namespace DX
open PySem PySem.Spec PyProof.Rows L2
end DX
namespace DL
open PySem PySem.Spec PyProof.Rows L2 DX
end DL
namespace DX
open PySem PySem.Spec PyProof.Rows L2
end DX
namespace DL
open PySem PySem.Spec PyProof.Rows L2 DX
end DL
namespace DX
open PySem PySem.Spec PyProof.Rows L2
open Sem (wp)
end DX
namespace DL
open PySem PySem.Spec PyProof.Rows L2 DX
noncomputable def F7 (P:UG) (w:U5) (K:Ui) (mg:Str->Option Uk) (base:VB) (k n:Nat) (x:Str) (Fm:List S->M R):Prop:=
 ∃f fd ps,fM P w K mg base (we P w) k f fd ps (Ak K n Fm)/\mg x=some (.ref f)/\VS K (.ref f)=true/\Binds K fd ps []
section
variable {X:Cx}{c:C}{e a:U_}{es:List U_}{pos:Pos}{g:G R}{L:List Str}
theorem Hg {k n:Nat}{f:UL}{fd:U6}{ps:List Str}{F:List S->M R}{x:Str}{p:Pos}{gs:G (List R)}(G:fM X.prog X.w X.K X.mg X.base (we X.prog X.w) k f fd ps (Ak X.K n F)) (hr:dB k X.A) (hm:X.mg x=some (.ref f)) (hk:VS X.K (.ref f)=true)
  (hb:Binds X.K fd ps []) (ha:DQ X c (e::es) gs) (hT:c.K=X.K:=by rfl) (hg:Gl X x:=by rfl) (hdb:(x == ("__debug__":Str))=false:=by decide) (he:Ux (e::es) X.env=(false,eval e X.env)::Ux es X.env:=by rfl)
  (hpl:(Wk pos (Ux es X.env)).any (·.1)=false:=by rfl):PD X c (.Call (.Name x p) (e::es) [] pos) (gN (aO n F) gs):=by
 refine fC (vU (E:=λ_ _ _=>False) G hr hg hm hk hb .nil (λT9 σ H s v s' I ⟨e,C,dx,T,H',ev,f⟩=>f.wish.elim) ha hdb he hpl) λσ H Q ⟨J,env,sr,w⟩=>?_;refine ⟨J,env,sr,aE (aI w) λrs wr vs J1 H1 e1 r1=>?_⟩;unfold aO at wr;split at wr
 ·rename_i hl;have h1:=sr.hp.ext e1;have ar:=r1.args h1;rw [hT] at ar;refine ⟨J1,rs.map gE,e1.sub,by simpa using hl,by rw [WB];exact ar,?_⟩;cases q:F (rs.map gE) with
  | bad=>rw [q] at wr;exact wr
  | exc x=>rw [q] at wr;exact wr.elim
  | ok r=>
   rw [q] at wr;intro v J' H' e2 fr;refine wr v J' H' (e1.trans e2) ?_;cases r with
   | d y=>exact (show Rep c.K J' y v from hT▸fr)
   | mo _ _=>exact fr.elim
   | mb _ _=>exact fr.elim
   | mf _ _=>obtain ⟨a,h1,h2,h3,h4⟩:=fr;exact ⟨a,h1,hT▸h2,h3,e1.h.free h4⟩
   | l m ys=>
    obtain ⟨a,us,h1,h2,h3,h4,h5⟩:=fr;exact ⟨a,us,h1,h2,h3,e1.h.free h4,hT▸h5⟩
 ·exact wr.elim
theorem Hu {F:List S->M R}{gs:G (List R)}(G:F7 X.prog X.w X.K X.mg X.base k n x F) (hr:dB k' X.A) (ha:i6 X c (e::es) gs) (hk:k<=k':=by decide) (hT:c.K=X.K:=by rfl) (hg:Gl X x:=by rfl) (hdb:(x == ("__debug__":Str))=false:=by decide)
 (he:Ux (e::es) X.env=(false,eval e X.env)::Ux es X.env:=by rfl) (hpl:(Wk pos (Ux es X.env)).any (·.1)=false:=by rfl):QD X c (.Call (.Name x p) (e::es) [] pos) (gN (aO n F) gs):=by obtain ⟨f,fd,ps,h1,h2,h3,h4⟩:=G;exact ⟨Hg h1 (hr.mono hk) h2 h3 h4 ha.h hT hg hdb he hpl⟩
end
structure nS (K:Ui) (x Ub:Str) (st:Xg) (f:UL) (fd:U6):Prop where
 ex:∃(oc:Uk) (od:Option UL) (T:UL) (o:Obj) (n:Nat) (kV doc pm:Uk) (an:Option UL) (cdv ct:Uk) (osl:Array (Option Uk)),
  fd=Vr x Ub (cP st) (bR st) (aV st) (.ref T) kV doc pm an cdv ct/\K.lookup f=some ⟨oc,od,.func fd,osl⟩/\Xh K cdv Ub=true/\K.lookup T=some o/\o.data=.seq #[.none] n
 kp:VS K (.ref f)=true
section
variable {P:UG}{w:U5}{K:Ui}{mg:Str->Option Uk}{base:VB}
theorem JJ {st:Xg}{N ps:List Str}{Fm:List S->M R}(F:nS K x Ub st f fd) (Sc:eZ N ps (aV st)){gB:G O}
 (hb:∀(cdv:Uk) (A:U8) (outer:List Env) (s:Um) (H:Hp) (E:XK) (J:Hp),dB k (A.deeper (ZX Ub (aV st) s.heap.objs.size f cdv))->Im (Qt P w K mg base N Ub (aV st) f cdv A outer s H E) ⟨K,H,J,XW K J H E⟩ (bR st) gB)
 (hF:∀as,as.length=ps.length->Fm as≠.bad->fin (gB (aW N as))=Fm as):fM P w K mg base (we P w) (k + 1) f fd ps (Ak K ps.length Fm):=by
 obtain ⟨oc,od,T,o,n,kV,doc,pm,an,cdv,ct,osl,rfl,lk,hcd,lT,dT⟩:=F.ex;refine IA lk hcd Sc (λvs H Q E ⟨J,as,h1,h2,h3,h4⟩=>by rw [h3.length,h2]) λA outer s H vs Q E hr ⟨J,as,h1,h2,h3,h4⟩=>?_;refine ⟨_,hb cdv A outer s H E J hr,J,aW N as,Al h1 h3,?_⟩;have z:=hF as h2 (λq=>by rw [q] at h4;exact h4);rw [<-z] at h4;have ext:∀{J' H':Hp},HI ⟨K,H,J,XW K J H E⟩ J' H'->Ext J H J' H':=λhp=>⟨hp.ent,hp.entJ,hp.sub,hp.frz⟩;cases qg:gB (aW N as) with
 | bad=>rw [qg] at h4;exact h4
 | exc x=>rw [qg] at h4;exact h4
 | ok o=>
  rw [qg] at h4;cases o with
  | bk _=>exact h4.elim
  | ct _=>exact h4.elim
  | nx env=>exact λσ' J' H' _ sr=>h4 .non J' H' (ext sr.hp) .non
  | rt r=>exact λv J' H' _ hp rf=>h4 v J' H' (ext hp) (by
    cases r with
    | d x=>exact rf
    | mo _ _=>exact rf
    | mf _ _=>exact rf
    | mb _ _=>exact rf
    | l m xs=>exact rf)
noncomputable def Pj (P:UG) (w:U5) (K:Ui) (mg:Str->Option Uk) (base:VB) (k n:Nat) (x:Str) (Fm:List S->M R):Prop:=
 ∃f fd ps,fM P w K mg base (we P w) k f fd ps (Ak K (n + 1) Fm)/\mg x=some (.ref f)/\VS K (.ref f)=true/\Binds K fd ps [.none]
theorem nS.bindsAll {st:Xg}{ps:List Str}(F:nS K x Ub st f fd)
 (h:∀(T:UL) (kV doc pm:Uk) (an:Option UL) (cdv ct:Uk) (us:List Uk),us.length=ps.length->∃k:Option (Array Uk)->Sem (List (Str×Uk)),
 aao (Vr x Ub (cP st) (bR st) (aV st) (.ref T) kV doc pm an cdv ct) ⟨us,[]⟩=abY (.ref T) >>= k/\k (some #[.none])=pure (ps.zip us)):Binds K fd ps []:=by obtain ⟨oc,od,T,o,n,kV,doc,pm,an,cdv,ct,osl,rfl,lk,hcd,lT,dT⟩:=F.ex;intro s us hK hl;rw [WB] at hl ⊢;obtain ⟨k,h1,h2⟩:=h T kV doc pm an cdv ct us hl;exact .of_defaults (T:=T) (items:=#[.none]) rfl (hK _ _ lT) dT h1 h2
theorem nS.bindsOne {st:Xg}{ps:List Str}(F:nS K x Ub st f fd)
 (h:∀(T:UL) (kV doc pm:Uk) (an:Option UL) (cdv ct:Uk) (us:List Uk),us.length + 1=ps.length->∃k:Option (Array Uk)->Sem (List (Str×Uk)),
 aao (Vr x Ub (cP st) (bR st) (aV st) (.ref T) kV doc pm an cdv ct) ⟨us,[]⟩=abY (.ref T) >>= k/\k (some #[.none])=pure (ps.zip (us++[.none]))):Binds K fd ps [.none]:=by obtain ⟨oc,od,T,o,n,kV,doc,pm,an,cdv,ct,osl,rfl,lk,hcd,lT,dT⟩:=F.ex;intro s us hK hl;obtain ⟨k,h1,h2⟩:=h T kV doc pm an cdv ct us (by simpa using hl);exact .of_defaults (T:=T) (items:=#[.none]) rfl (hK _ _ lT) dT h1 h2
end
end DL
namespace DL
open PySem PySem.Spec PyProof.Rows L2
noncomputable def vq (A:U8) (s:Um) (y x:Uk) (b:Bool):Prop:=
 ∀(prog:UG) (w:U5) (E:Uk->Um->Prop) (Q:Uk->Um->Prop),Q (.bool b) s->UB (UO prog w) A (richCompare .Lt y x) Q E s
inductive gI (A:U8) (s:Um) (fin:Bool):List (Uk×Uk)->Bool->Prop
 | nil:gI A s fin [] fin
 | yes {x y:Uk}{r:List (Uk×Uk)}{b:Bool}:WG A s x y true->gI A s fin r b->gI A s fin ((x,y)::r) b
 | no {x y:Uk}{r:List (Uk×Uk)}{b:Bool}:WG A s x y false->vq A s x y b->gI A s fin ((x,y)::r) b
section
open PySem.SeqAt
open PySem.AutoSeq1 (wpAny_loadPart')
open PySem.MeetsSeq PySem.MeetsSeq2 PySem.MeetsSeq3
theorem FY (l b:UL) (items Uc:Array Uk) (n n2:Nat) (dd dd2:Option UL) (sl sl2:Array (Option Uk)) (ans:Bool):
  Meets (X6.«tuple.__lt__» ⟨[.ref l,.ref b],[]⟩)
   (λA R s=>s.heap.get? l=some {cls:=.type "tuple",dict:=dd,data:=.seq items n,slots:=sl}/\s.heap.get? b=some {cls:=.type "tuple",dict:=dd2,data:=.seq Uc n2,slots:=sl2}/\
    gI A.in1 s (decide (items.size < Uc.size)) (items.toList.zip Uc.toList) ans/\R (.ok (.ret (.bool ans))) s):=
 .of_wp λprog w A R s h=>by
  obtain ⟨hp,g,d,tk,os⟩:=s;obtain ⟨hl,hb,hP,h⟩:=h;have f2:=YC
  wp_walk using W0 hl,W0 hb,W7 _ (λrest b s'=>b.1=none/\s'=⟨hp,g,d,tk,os⟩/\gI A.in1 ⟨hp,g,d,tk,os⟩ (decide (items.size < Uc.size)) rest ans) _
  case turn=>
   rintro ⟨y,x⟩ rest b s' ⟨hb',rfl,hq⟩;cases hq with
   | yes he hr=>
    refine Uh (he prog w _ _ ?_)
    wp_walk
    exact ⟨rfl,rfl,hr⟩
   | no he hlt=>
    refine Uh (he prog w _ _ ?_);have Sz:=hlt prog w
    wp_walk using Sz
    exact ⟨_,rfl,by simpa using h⟩
  case fin=>
   rintro ⟨b1,b2⟩ s' ⟨hb',rfl,hq⟩;simp only at hb';subst hb';cases hq
   wp_walk
   exact ⟨_,rfl,by simpa [Y9] using h⟩
  case h=>
   exact ⟨rfl,rfl,hP⟩
end
section
variable {K:Ui}{J:Hp}{s:Um}
theorem Kc {A:U8}{items Uc:Array Uk}(hl:s.heap.IsTuple l items) (hb:s.heap.IsTuple b Uc) (hP:gI A.in1 s (decide (items.size < Uc.size)) (items.toList.zip Uc.toList) ans)
 (hu:A.units < V6):vq A s (.ref l) (.ref b) ans:=λprog w E Q h=>by
 obtain ⟨⟨cls,dd,data,sl⟩,ho,hc,n,hd⟩:=id hl;obtain ⟨⟨cls2,dd2,data2,sl2⟩,ho2,hc2,n2,hd2⟩:=id hb;simp only at hc hd hc2 hd2;subst hc hd hc2 hd2;exact aaL (op:=.Lt) ⟨_,ho,rfl⟩ ⟨_,ho2,rfl⟩ PySem.F.slot_tuple_lt PySem.F.entry_tuple_lt (PySem.F.args_tuple_lt_2 _ _) (FY l b items Uc n n2 dd dd2 sl sl2 ans)
  ⟨ho,ho2,hP,show Yd ans≠abl/\Q (.bool ans) s from ⟨(λx=>nomatch x),h⟩⟩ hu
mutual
noncomputable def dO:D->D->Option Bool
 | .bl p,y=>match y with
  | .bl q=>some (!p && q)
  | _=>none
 | .int i,y=>match y with
  | .int j=>some (decide (i < j))
  | _=>none
 | .str x,y=>match y with
  | .str z=>some (decide (x.cps.toList < z.cps.toList))
  | _=>none
 | .tup xs,y=>match y with
  | .tup ys=>kh xs ys
  | _=>none
 | _,_=>none
noncomputable def kh:List D->List D->Option Bool
 | [],ys=>some (!ys.isEmpty)
 | x::xs,ys=>match ys with
  | []=>some false
  | y::ys=>if bh x y=true then kh xs ys else dO x y
end
theorem Ka (A:U8) (h:dO (.bl p) e=some b) (re:Rep K J e w) (rw':RelV w u'):vq A s (.bool p) u' b:=by
 unfold dO at h;cases e with
 | bl q=>
  cases re;cases rw';simp only [Wv] at h;subst h;intro prog w E Q hq;refine (lt_bool (p:=p) (q:=q) ?_:UB (UO prog w) A (V5 .Lt (.bool p) (.bool q)) Q E s);cases p <;> cases q <;> exact hq
 | _=>cases h
theorem GS (A:U8) (h:dO (.int p) e=some b) (re:Rep K J e w) (rw':RelV w u'):vq A s (.int p t) u' b:=by
 unfold dO at h;cases e with
 | int q=>
  cases re;obtain ⟨t',rfl⟩:=rw';simp only [Wv] at h;subst h;intro prog w E Q hq;exact (aeU hq:UB (UO prog w) A (V5 .Lt (.int p t) (.int q t')) Q E s)
 | _=>cases h
theorem GU (A:U8) (h:dO (.str p) e=some b) (re:Rep K J e w) (rw':RelV w u'):vq A s (.str p t) u' b:=by
 unfold dO at h;cases e with
 | str q=>
  cases re;obtain ⟨t',rfl⟩:=rw';simp only [Wv] at h;subst h;intro prog w E Q hq;exact (aeV hq:UB (UO prog w) A (V5 .Lt (.str p t) (.str q t')) Q E s)
 | _=>cases h
noncomputable def Gb (K:Ui) (J:Hp) (s:Um) (d:D):Prop:=∀{e:D}{v w:V}{u u':Uk}{b:Bool}(A:U8),dO d e=some b->Rep K J d v->Rep K J e w->RelV v u->RelV w u'->A.units + dep d < V6->dep d<=1000->dep e<=1000->vq A s u u' b
noncomputable def ud (K:Ui) (J:Hp) (s:Um) (ds:List D):Prop:=∀{es:List D}{vs ws:List V}{us us':List Uk}{b:Bool}{n1 n2:Nat}(A:U8),kh ds es=some b->aK K J ds vs->aK K J es ws->Vals vs us->Vals ws us'->A.units + deps ds < V6->deps ds<=1000->deps es<=1000->
  us.length + n2=us'.length + n1->gI A s (decide (n1 < n2)) (us.zip us') b
theorem GV (F:HF K J s) (ih:ud K J s ds):Gb K J s (.tup ds):=by
 intro e v w u u' b A h rd re rv rw' hu k1 k2;unfold dO at h;cases e with
 | tup es=>
  simp only at h;cases rd with
  | tup h1 hs=>
   cases re with
   | tup h2 hs'=>
    cases rv;cases rw';obtain ⟨its,r,p⟩:=F.t _ _ h1;obtain ⟨its',r',p'⟩:=F.t _ _ h2;refine Kc p p' ?_ (by unfold dep at hu;omega);have:=ih A.in1 (n1:=its.length) (n2:=its'.length) h hs hs' r r' (by rw [in1_units];unfold dep at hu;omega) (by unfold dep at k1;omega) (by unfold dep at k2;omega) (by omega);simpa using this
 | _=>cases h
theorem ET:ud K J s []:=by
 intro es vs ws us us' b n1 n2 A h rd re rv rw' hu k1 k2 hl;cases rd;cases rv;cases re with
 | nil=>
  cases rw';simp only [kh,List.isEmpty_nil,WQ,Wv] at h;subst h;have:decide (n1 < n2)=false:=decide_eq_false (by simp at hl;omega);rw [this];exact .nil
 | cons _ _=>
  cases rw';simp only [kh,List.isEmpty_cons,abr,Wv] at h;subst h;have:decide (n1 < n2)=true:=decide_eq_true (by simp at hl;omega);rw [this];exact .nil
theorem CY (F:HF K J s) (ix:Gb K J s x) (ih:ud K J s xs):ud K J s (x::xs):=by
 intro es vs ws us us' b n1 n2 A h rd re rv rw' hu k1 k2 hl;cases rd with
 | cons q1 r1=>
  cases rv with
  | cons t1 u1=>
   cases re with
   | nil=>
    cases rw';simp only [kh,Wv] at h;subst h;have:decide (n1 < n2)=false:=decide_eq_false (by simp at hl;omega);rw [this];exact .nil
   | cons q2 r2=>
    cases rw' with
    | cons t2 u2=>
     unfold deps at hu k1 k2;rename_i y v' ys ws' u0 us0;have he:=m_ F A q1 q2 t1 t2 (by omega) (by omega) (by omega);simp only [kh] at h;cases z:bh x y with
     | true=>
      rw [z,if_pos rfl] at h;rw [z] at he;exact .yes he (ih A h r1 r2 u1 u2 (by omega) (by omega) (by omega) (by simp at hl;omega))
     | false=>
      rw [z,if_neg UZ] at h;rw [z] at he;exact .no he (ix A h q1 q2 t1 t2 (by omega) (by omega) (by omega))
mutual
theorem ML (F:HF K J s):∀d:D,Gb K J s d
 | .bl p=>λA h rd re rv rw' _ _ _=>by cases rd;cases rv;exact Ka A h re rw'
 | .int p=>λA h rd re rv rw' _ _ _=>by cases rd;obtain ⟨t,rfl⟩:=rv;exact GS A h re rw'
 | .str p=>λA h rd re rv rw' _ _ _=>by cases rd;obtain ⟨t,rfl⟩:=rv;exact GU A h re rw'
 | .tup ds=>GV F (yk F ds)
 | .non=>λA h _ _ _ _ _ _ _=>by unfold dO at h;cases h
 | .lst _=>λA h _ _ _ _ _ _ _=>by unfold dO at h;cases h
 | .emp=>λA h _ _ _ _ _ _ _=>by unfold dO at h;cases h
 | .exn _ _ _=>λA h _ _ _ _ _ _ _=>by unfold dO at h;cases h
 | .dct _ _=>λA h _ _ _ _ _ _ _=>by unfold dO at h;cases h
theorem yk (F:HF K J s):∀ds:List D,ud K J s ds
 | []=>ET
 | x::xs=>CY F (ML F x) (yk F xs)
end
end
end DL
namespace DL
open PySem PySem.Spec PyProof.Rows L2
open PySem.W (KasT kas_sort kas_asc kas_desc kas_rev kas_tail3 kas_descPart kas_count kas_place kas_bin)
noncomputable def a_ {α:Type}(q:Nat->Nat->Bool):KasT α->α
 | .ret a=>a
 | .ask i j k=>a_ q (k (q i j))
inductive fL (n:Nat){α:Type}(P:α->Prop):KasT α->Prop
 | ret {a:α}:P a->fL n P (.ret a)
 | ask {i j:Nat}{k:Bool->KasT α}:i < n->j < n->(∀b,fL n P (k b))->fL n P (.ask i j k)
theorem fL.bind {α β:Type}{P:α->Prop}{R:β->Prop}{f:α->KasT β}{t:KasT α}(h:fL n P t) (hf:∀a,P a->fL n R (f a)):fL n R (t.bind f):=by
 induction h with
 | ret p=>exact hf _ p
 | ask h1 h2 _ ih=>exact .ask h1 h2 ih
theorem fL.run {n:Nat}{α:Type}{P:α->Prop}{t:KasT α}(q:Nat->Nat->Bool) (h:fL n P t):P (a_ q t):=by
 induction h with
 | ret p=>exact p
 | ask _ _ _ ih=>exact ih _
theorem fL.wp {α:Type}{P:α->Prop}{t:KasT α}{q:Nat->Nat->Bool}{cmp:Nat->Nat->(Bool->Um->Prop)->Um->Prop}{G:α->Um->Prop}(h:fL n P t)
 (hc:∀i j C,i < n->j < n->C (q i j) s->cmp i j C s) (hG:G (a_ q t) s):t.kasWp cmp G s:=by
 induction h with
 | ret p=>exact hG
 | ask h1 h2 _ ih=>exact hc _ _ _ h1 h2 (ih _ hG)
def gw (n:Nat) (p:Array Nat):Prop:=p.Perm (Ur n).toArray
theorem gw.lt {p:Array Nat}(h:gw n p) (hn:0 < n) (k:Nat):p.getD k 0 < n:=by
 by_cases hk:k < p.size
 ·have e:p.getD k 0=p[k]:=by simp [Ww,hk]
  rw [e];have hm:p[k]∈p:=Array.getElem_mem hk;have:=(ZZ h).mp hm;simpa using this
 ·have e:p.getD k 0=0:=by simp [Ww,hk]
  rw [e];exact hn
theorem gw.rev (h:gw n p) (i j:Nat):gw n (Zq p i j):=(mirror_perm _ _ _ _).trans h
theorem gw.bub (h:gw n p) (i j:Nat):gw n (bubble p i j):=(bubble_perm _ _ _).trans h
variable {n:Nat}
theorem Cr {p:Array Nat}(hn:0 < n) (h:gw n p):∀f m,fL n (λ_:Nat=>True) (Zr p f m)
 | 0,m=>.ret trivial
 | f + 1,m=>.ask (h.lt hn _) (h.lt hn _) λb=>by cases b with
  | true=>exact .ret trivial
  | false=>exact Cr hn h f (m + 1)
theorem ur (hn:0 < n):∀f {p:Array Nat} m q,gw n p->fL n (λr:Array Nat×Nat×Nat=>gw n r.1) (WR f p m q)
 | 0,p,m,q,h=>.ret h
 | f + 1,p,m,q,h=>.ask (h.lt hn _) (h.lt hn _) λb=>by
  cases b with
  | true=>
   simp only [if_true];by_cases hq:q > 0
   ·rw [if_pos hq];exact ur hn f _ _ (h.rev _ _)
   ·rw [if_neg hq];exact ur hn f _ _ h
  | false=>
   simp only [UE,if_false];refine .ask (h.lt hn _) (h.lt hn _) λb=>?_;cases b with
   | true=>exact .ret h
   | false=>exact ur hn f _ _ h
theorem DV (hn:0 < n) (h:gw n p) (m k:Nat):fL n (λr:Nat×Array Nat=>gw n r.2) (aex m k p):=(Cr hn (h.rev 0 m) _ _).bind λa _=>.ret (h.rev _ _)
theorem Bc (hn:0 < n) (h:gw n p) (m k:Nat):fL n (λr:Nat×Array Nat=>gw n r.2) (acH m k p):=(ur hn _ _ _ h).bind λr hr=>by
 split
 ·exact DV hn (hr.rev _ _) _ _
 ·exact DV hn hr _ _
theorem Ju (hn:0 < n) (h:gw n p) (k:Nat):fL n (λr:Nat×Array Nat=>gw n r.2) (adf k p):=(Cr hn h _ _).bind λm _=>by
 split
 ·exact .ret h
 ·split
  ·refine .ask (h.lt hn _) (h.lt hn _) λb=>?_;cases b with
   | true=>exact .ret h
   | false=>exact Bc hn (h.rev _ _) _ _
  ·exact Bc hn h _ _
theorem vA (hn:0 < n){p:Array Nat}(h:gw n p) (k:Nat):∀f l r,fL n (λ_:Nat=>True) (Xd p k f l r)
 | 0,l,r=>.ret trivial
 | f + 1,l,r=>by
  unfold Xd;split
  ·exact .ret trivial
  ·refine .ask (h.lt hn _) (h.lt hn _) λb=>?_;cases b with
   | true=>exact vA hn h k f _ _
   | false=>exact vA hn h k f _ _
theorem Iq (hn:0 < n):∀f {p:Array Nat} k,gw n p->fL n (gw n) (aeb f p k)
 | 0,p,k,h=>.ret h
 | f + 1,p,k,h=>(vA hn h k _ _ _).bind λl _=>Iq hn f _ (h.bub _ _)
theorem ju (hn:0 < n):fL n (gw n) (Yi n):=(Ju hn (show gw n _ from afn _) n).bind λr hr=>by
 split
 ·exact Iq hn _ _ hr
 ·exact .ret hr
end DL
namespace DL
open PySem PySem.Spec PyProof.Rows L2
open PySem.W (KasT kas_sort kas_ask kas_item kat_run kat_snds KatLex kat_cons kat_yes kat_no kat_lt kat_one KatTups kat_kind Looks)
section
variable {prog:UG}{w:U5}{A:U8}{E:Uk->Um->Prop}{s:Um}
def qx (q:Nat->Nat->Bool) (vs:List Uk):List Uk:=(a_ q (Yi vs.length)).toList.map λi=>vs.getD i Vl
theorem G9 (q:Nat->Nat->Bool){vs:List Uk}(h:0 < vs.length):(qx q vs).length=vs.length:=by unfold qx;rw [Uo,UJ];have:=((ju h).run q:gw _ _).size_eq;simpa using this
theorem CU {vs:List Uk}{q:Nat->Nat->Bool}{P:aey->Um->Prop}(ho:s.heap.get? a=some (X7 "list" vs.toArray n)) (h2:2<=vs.length) (h64:vs.length < 64)
 (hk:∀h' C,(∀b o,b≠a->s.heap.get? b=some o->h'.get? b=some o)->C κ {s with heap:=h'}->UB (UO prog w) A (ae6 vs.toArray) C (λ_ _=>False) {s with heap:=h'})
 (hc:∀h',(∀b o,b≠a->s.heap.get? b=some o->h'.get? b=some o)->∀i j C,i < vs.length->j < vs.length->C (q i j) {s with heap:=h'}->kas_ask prog w A κ vs i j C {s with heap:=h'})
 (h:P (.done (.ret .none)) {s with heap:=ad0 s.heap a vs (qx q vs).toArray}):UB (UO prog w) A (X6.«list.sort» ⟨[.ref a],[]⟩) P E s:=by
 have la:a < s.heap.objs.size:=UC ho;have sl:vs.length<=sizeLine:=by rw [Wo];omega
 obtain ⟨e1,g1⟩:∃e1,(s.heap.update a (VJ λ_=>(#[]:Array Uk))).get? a=some (X7 "list" #[] e1):=⟨_,(adg ho λ_=>#[])⟩;have z1:(s.heap.update a (VJ λ_=>(#[]:Array Uk))).objs.size=s.heap.objs.size:=(aaE _ _ _);have g3:(((s.heap.update a (VJ λ_=>(#[]:Array Uk))).push (X7 "tuple" vs.toArray 0)).push (X7 "list" #[] 0)).get? a=some (X7 "list" #[] e1):=(Ul _ ((Ul _ g1)));have kp:∀b o,b≠a->s.heap.get? b=some o->(((s.heap.update a (VJ λ_=>(#[]:Array Uk))).push (X7 "tuple" vs.toArray 0)).push (X7 "list" #[] 0)).get? b=some o:=λb o nb q=>
  Ul _ (Ul _ (by rw [abB _ _ _ _ nb];exact q))
 rw [adh];refine Uh ((listItems_at ho rfl ?_));refine Uh (aav ho rfl ?_ (by rw [Uy];exact sl) (UX _));refine Uh ((abC g1 rfl ?_));refine Uh (Zf ?_ (show vs.length<=_ from sl));refine Uh ((abZ ?_ (UX _)));refine (U7 ?_);dsimp only;have n2:¬vs.toArray.size < 2:=by (rw [Uy]);omega
 rw [if_neg n2,if_neg n2];refine Uh (Vt (hk _ (λk s'=>k=κ/\s'=_) kp ⟨rfl,rfl⟩) ?_ λ_ _ x=>x.elim);rintro _ _ ⟨rfl,rfl⟩;refine Uh (Vt (kat_run (E:=E) (Q:=λst' s'=>∃p:Array Nat,p.size=vs.length/\arrOf st'=p.map (kas_item (vs.toArray.zip vs.toArray))/\failedOf st'=none/\p=a_ q (Yi vs.length)/\s'=_)
  rfl h2 h64 (λp' st' s' a1 a2 a3 a4=>⟨p',a1,a2,a3,a4⟩) ((ju (by omega)).wp (q:=q) (hc _ kp) ⟨rfl,rfl⟩)) ?_ λ_ _ e=>e)
 rintro ⟨⟨⟩,st'⟩ s' ⟨p,hp,har,hf,rfl,rfl⟩;dsimp only;have ou:(arrOf st').map (·.2)=(qx q vs).toArray:=kat_snds rfl har;rw [ou];refine Uh ((abC g3 rfl ?_));refine Uh (aav g3 rfl ?_ (UX _) (U1 (acF (Uy.trans (G9 q (UQ Nat.zero_lt_two h2)))) (Nat.le_succ_of_le sl)));rw [hf];simp only [bne_self_eq_false,UE,if_false];exact Uj h
end
end DL
namespace DL
open PySem PySem.Spec PyProof.Rows L2
open PySem.W (KasT kas_sort kas_ask KatLex kat_nil kat_cons kat_yes kat_no kat_lt kat_one KatTups kat_kind Looks)
section
variable {prog:UG}{w:U5}{A:U8}{E:Uk->Um->Prop}{s:Um}{K:Ui}{J:Hp}
theorem wX {fin ans:Bool}{Q:Bool->Um->Prop}(h:gI A s fin zs ans) (hq:Q ans s):∀{i:Nat},(b && i == 0)=false->KatLex prog w A b fin Q zs i s:=by
 induction h with
 | nil=>intro i _;exact kat_nil hq
 | yes he _ ih=>intro i _;exact aec (he prog w _ _ (kat_yes (ih hq (by cases b <;> rfl))))
 | no he hl=>
  intro i hb;refine aec (he prog w _ _ (kat_no ?_));rw [hb];exact kat_one _ _ (hl prog w _ _ hq)
theorem JW {fin ans e:Bool}{Q:Bool->Um->Prop}(he:WG A s u u' e) (h1:e=true->gI A s fin zs ans)
 (h2:e=false->UB (UO prog w) A (oneLt' true u u') Q (λ_ _=>False) s) (hq:Q ans s):KatLex prog w A true fin Q ((u,u')::zs) 0 s:=by
 cases e with
 | true=>exact aec (he prog w _ _ (kat_yes (wX (h1 rfl) hq rfl)))
 | false=>exact aec (he prog w _ _ (kat_no (h2 rfl)))
inductive Hd where
 | t | i | x
noncomputable def gV:D->Option Hd
 | .tup (.tup _::_)=>some .t
 | .tup (.int _::_)=>some .i
 | .tup (.str _::_)=>some .x
 | _=>none
noncomputable def Hd.flag:Hd->Bool
 | .t=>false
 | _=>true
noncomputable def Hd.ty:Hd->Uk
 | .t=>.type "tuple"
 | .i=>.type "int"
 | .x=>.type "str"
theorem G6 {k:Hd}{C:Bool->Um->Prop}(hd:gV (.tup (x::xs))=some k) (he:gV (.tup (y::ys))=some k) (hf:k.flag=true) (h:dO x y=some b) (rd:Rep K J x v) (re:Rep K J y v') (rv:RelV v u) (rv':RelV v' u') (c:C b s):
  UB (UO prog w) A (oneLt' true u u') C E s:=by
 cases x with
 | int x=>
  cases hd;cases y with
  | int y=>
   cases rd;cases re;obtain ⟨tk,rfl⟩:=rv;obtain ⟨tk',rfl⟩:=rv';unfold dO at h;simp only [Wv] at h;refine oneLt_int ?_;rw [h];exact c
  | _=>cases he
 | str x=>
  cases hd;cases y with
  | str y=>
   cases rd;cases re;obtain ⟨tk,rfl⟩:=rv;obtain ⟨tk',rfl⟩:=rv';unfold dO at h;simp only [Wv] at h;refine oneLt_str ?_;rw [h];exact c
  | _=>cases he
 | tup _=>cases hd;cases hf
 | _=>cases hd
theorem JX (F:HF K J s){k:Hd}{C:Bool->Um->Prop}(hd:gV d=some k) (he:gV e=some k) (h:dO d e=some b) (rd:Rep K J d v) (re:Rep K J e v') (rv:RelV v u) (rv':RelV v' u')
 (hu:A.units + dep d < V6) (k1:dep d<=1000) (k2:dep e<=1000) (c:C b s):UB (UO prog w) A (keyLt' (tuples' k.flag) u u') C E s:=by
 cases d with
 | tup ds=>
  cases e with
  | tup es=>
   unfold dO at h;simp only at h;cases rd with
   | tup h1 hs=>
    cases re with
    | tup h2 hs'=>
     cases rv;cases rv';obtain ⟨its,r,p⟩:=F.t _ _ h1;obtain ⟨its',r',p'⟩:=F.t _ _ h2;obtain ⟨o,ho,hc,m,dm⟩:=id p;obtain ⟨o',ho',hc',m',dm'⟩:=id p';refine kat_lt ho dm ho' dm' ?_;simp only [Uy];cases hf:k.flag with
     | false=>
      exact wX (yk F ds A (n1:=its.length) (n2:=its'.length) h hs hs' r r' (by unfold dep at hu;omega) (by unfold dep at k1;omega) (by unfold dep at k2;omega) (by omega)) c rfl
     | true=>
      cases hs with
      | nil=>cases hd
      | cons q1 t1=>
       cases hs' with
       | nil=>cases he
       | cons q2 t2=>
        cases r with
        | cons a1 b1=>
         cases r' with
         | cons a2 b2=>
          unfold dep deps at hu k1 k2;rw [XY];unfold kh at h;simp only at h;refine JW (ans:=b) (m_ F A q1 q2 a1 a2 (by omega) (by omega) (by omega)) (λz=>?_) (λz=>?_) c
          ·rw [z,if_pos rfl] at h;exact yk F _ A h t1 t2 b1 b2 (by omega) (by omega) (by omega) (by simp;omega)
          ·rw [z,if_neg UZ] at h;exact G6 hd he hf h q1 q2 a1 a2 c
  | _=>cases he
 | _=>cases hd
noncomputable def gP (k:Hd):List D->Bool
 | []=>true
 | d::r=>(match gV d,k with
  | some .t,.t=>true
  | some .i,.i=>true
  | some .x,.x=>true
  | _,_=>false) && gP k r
theorem lV {k:Hd}:∀{ds:List D},gP k ds=true->∀d∈ds,gV d=some k
 | [],_,_,hm=>nomatch hm
 | x::r,h,d,hm=>by
  unfold gP at h;rw [Uq] at h;rcases UK.mp hm with rfl | hm
  ·cases q:gV d with
   | none=>rw [q] at h;cases h.1
   | some k'=>rw [q] at h;cases k' <;> cases k <;> first | rfl | cases h.1
  ·exact lV h.2 d hm
theorem EC (F:HF K J s){k:Hd}(hd:gV d=some k) (rd:Rep K J d v) (rv:RelV v u):∃a o xs n f,u=.ref a/\s.heap.get? a=some o/\o.cls=.type "tuple"/\o.data=.seq xs n/\xs[0]?=some f/\Looks (UO prog w) s.heap (typeOf f) k.ty:=by
 cases d with
 | tup ds=>
  cases rd with
  | tup h1 hs=>
   cases rv;obtain ⟨its,r,p⟩:=F.t _ _ h1;obtain ⟨o,ho,hc,m,dm⟩:=id p;cases hs with
   | nil=>cases hd
   | cons q1 t1=>
    cases r with
    | cons a1 b1=>
     refine ⟨_,o,_,m,_,rfl,ho,hc,dm,rfl,?_⟩;rename_i x v' ds' vs' u us;cases x with
     | tup _=>
      cases hd;cases q1 with
      | tup h2 _=>
       cases a1;obtain ⟨its2,_,p2⟩:=F.t _ _ h2;obtain ⟨o2,ho2,hc2,_,_⟩:=id p2;have:=(Looks.ld (M:=UO prog w) (part:=none) ho2).andThen (f:=λo=>pure o.cls) (b:=o2.cls) .now;rw [hc2] at this;exact this
     | int _=>
      cases hd;cases q1;obtain ⟨tk,rfl⟩:=a1;exact .now
     | str _=>
      cases hd;cases q1;obtain ⟨tk,rfl⟩:=a1;exact .now
     | _=>cases hd
 | _=>cases hd
theorem uQ (F:HF K J s){k:Hd}:∀{ds:List D}{vs:List V}{us:List Uk},gP k ds=true->aK K J ds vs->Vals vs us->∃fs,KatTups s.heap us fs/\fs.length=us.length/\∀v∈fs,Looks (UO prog w) s.heap (typeOf v) k.ty
 | _,_,_,_,.nil,.nil=>⟨[],trivial,rfl,λ_ h=>nomatch h⟩
 | d::ds,_,_,h,.cons q rs,.cons a b=>by
  have hd:=lV h d (Uv ..);unfold gP at h;rw [Uq] at h;obtain ⟨fs,h1,h2,h3⟩:=uQ F h.2 rs b;obtain ⟨p,o,xs,n,f,rfl,e1,e2,e3,e4,e5⟩:=EC (prog:=prog) (w:=w) F hd q a;refine ⟨f::fs,⟨⟨p,o,xs,n,rfl,e1,e2,e3,e4⟩,h1⟩,by simp [h2],λv hv=>?_⟩;rcases UK.mp hv with rfl | hv
  ·exact e5
  ·exact h3 v hv
theorem JI (k:Hd):(k.ty != W6 "tuple")=k.flag:=by cases k <;> decide
theorem EL (F:HF K J s){k:Hd}{us:List Uk}(h:gP k ds=true) (rs:aK K J ds vs) (rv:Vals vs us) (hl:0 < us.length){C:SortKind->Um->Prop}(c:C (tuples' k.flag) s):UB (UO prog w) A (ae6 us.toArray) C E s:=by obtain ⟨fs,h1,h2,h3⟩:=uQ (prog:=prog) (w:=w) F h rs rv;refine kat_kind h1 (by omega) h3 (by cases k <;> decide) ?_;rw [JI];exact c
end
end DL
namespace DL
open PySem PySem.Spec PyProof.Rows L2
open PySem.W (KasT kas_sort kas_ask)
section
variable {prog:UG}{w:U5}{A:U8}{E:Uk->Um->Prop}{s:Um}
theorem CT {vs:List Uk}{P:aey->Um->Prop}(ho:s.heap.get? a=some (X7 "list" vs.toArray n)) (h2:vs.length < 2)
 (h:P (.done (.ret .none)) {s with heap:=ad0 s.heap a vs vs.toArray}):UB (UO prog w) A (X6.«list.sort» ⟨[.ref a],[]⟩) P E s:=by
 have sl:vs.length<=sizeLine:=by rw [Wo];omega
 obtain ⟨e1,g1⟩:∃e1,(s.heap.update a (VJ λ_=>(#[]:Array Uk))).get? a=some (X7 "list" #[] e1):=⟨_,(adg ho λ_=>#[])⟩;have g3:(((s.heap.update a (VJ λ_=>(#[]:Array Uk))).push (X7 "tuple" vs.toArray 0)).push (X7 "list" #[] 0)).get? a=some (X7 "list" #[] e1):=(Ul _ ((Ul _ g1)));rw [adh];refine Uh ((listItems_at ho rfl ?_));refine Uh (aav ho rfl ?_ (by rw [Uy];exact sl) (UX _));refine Uh ((abC g1 rfl ?_));refine Uh (Zf ?_ (show vs.length<=_ from sl));refine Uh ((abZ ?_ (UX _)));refine (U7 ?_);dsimp only;have n2:vs.toArray.size < 2:=by (rw [Uy]);omega
 rw [if_pos n2,if_pos n2];refine (Uh (Uj ?_));rw [StateT.run_pure];refine (Uh (Uj ?_));dsimp only;have ou:(arrOf (SortSt.mk' general' (vs.toArray.zip vs.toArray) #[] 7 none)).map (·.2)=vs.toArray:=by
  show (vs.toArray.zip vs.toArray).map (·.2)=vs.toArray
  match vs,h2 with
  | [],_=>simp
  | [_],_=>simp
 rw [ou];refine Uh ((abC g3 rfl ?_));refine Uh (aav g3 rfl ?_ (UX _) (by rw [Uy];omega));simp only [bne_self_eq_false,UE,if_false];exact Uj h
abbrev Kp (h h':VB):Prop:=∀b o,h.get? b=some o->h'.get? b=some o
noncomputable def yu (prog:UG) (w:U5) (A:U8) (s:Um) (vs:List Uk) (q:Nat->Nat->Bool):Prop:=2<=vs.length->∃κ,∀h' tk,Kp s.heap h'->
 (∀C:SortKind->Um->Prop,C κ {s with heap:=h',toks:=tk}->UB (UO prog w) A (ae6 vs.toArray) C (λ_ _=>False) {s with heap:=h',toks:=tk})/\
 ∀i j (C:Bool->Um->Prop),i < vs.length->j < vs.length->C (q i j) {s with heap:=h',toks:=tk}->kas_ask prog w A κ vs i j C {s with heap:=h',toks:=tk}
noncomputable def Coll (prog:UG) (w:U5) (A:U8) (s:Um) (x:Uk) (vs:List Uk):Prop:=∀(E:Uk->Um->Prop) (C:List Uk->Um->Prop),(∀h1 tk,Kp s.heap h1->s.heap.objs.size<=h1.objs.size->C vs {s with heap:=h1,toks:=tk})->UB (UO prog w) A (collect x) C E s
theorem Bg {o:Obj}{vs:List Uk}(hT:T="list"\/T="tuple") (ho:s.heap.get? a=some o) (hc:o.cls=.type T) (hd:o.data=.seq vs.toArray n) (sl:vs.length<=sizeLine):Coll prog w A s (.ref a) vs:=by
 intro E C h;generalize hh:(s.heap.push (X7 "list" #[] 0)).update s.heap.objs.size (VJ (·++vs.toArray))=h1;have hS:(s.heap.push (X7 "list" #[] 0)).get? s.heap.objs.size=some (X7 "list" #[] 0):=Us _ rfl;have RC:=Vd (VJ (·++vs.toArray)) hS rfl;rw [hh] at RC;have k1:Kp s.heap h1:=λb o e=>by rw [<-hh,abB _ _ _ _ (UY (UC e))];exact Ul _ e
 have z1:s.heap.objs.size<=h1.objs.size:=by rw [<-hh,aaE,size_push'];exact Yy _
 have fin:=h h1 s.toks k1 z1;unfold collect;refine Uh (Z7 (VH Zj ?_));rw [Vj Zk _];show UB _ A.in1 (newList [] >>= λl=>again (.builtin "list.__iadd__" ⟨[l,.ref a],[]⟩)) _ _ s;refine Uh (UU ?_);refine Uj ⟨WS Xs _,VH aae ?_⟩;rw [Vj Xs _];have fin':UB (UO prog w) A (load s.heap.objs.size >>= λo=>match o.data with
   | .seq xs _=>pure xs.toList
   | _=>unsupported "internal:collect") C E {s with heap:=h1}:=by
  refine Uh (ab8 RC (Uj ?_));have e:((#[]:Array Uk)++vs.toArray).toList=vs:=by simp
  show C ((#[]:Array Uk)++vs.toArray).toList _;rw [e];exact fin
 refine Vt (wpAny_extend_seq (hsz:=by rw [Uy];exact sl) (A:=A) (R:=λr s'=>r=.ok (.ret (.ref s.heap.objs.size))/\s'={s with heap:=h1})
  (s:={s with heap:=s.heap.push (X7 "list" #[] 0)}) _ a _ 0 hT hS (Ul _ ho) hc hd ⟨rfl,by rw [<-hh]⟩) (λf s' q=>?_) (λe s' q=>absurd q.1 (by simp))
 cases f with
 | done f=>
  obtain ⟨e,rfl⟩:=q;cases e;exact fin'
 | again c'=>exact ⟨q.1,Xz q.2 λr s'' hr=>by obtain ⟨rfl,rfl⟩:=hr;exact fin'⟩
theorem La {q:Nat->Nat->Bool}{Q:Uk->Um->Prop}{vs:List Uk}(RN:Coll prog w A.in1 s x vs) (h64:vs.length < 64) (ha:yu prog w A.in1.in1 s vs q)
 (h:∀h' tk l n,Kp s.heap h'->s.heap.objs.size<=l->h'.get? l=some (X7 "list" (if vs.length < 2 then vs else qx q vs).toArray n)->Q (.ref l) {s with heap:=h',toks:=tk}):UB (UO prog w) A (call (.builtin "sorted") [x]) Q E s:=by
 have sl:vs.length<=sizeLine:=by rw [Wo];omega
 refine (Calls.call_function_entry kind_sorted plain_sorted entry_sorted (args_sorted1 _) ?_);unfold X6.«sorted»;refine Uh (m:=checkCount "sorted" 1 1 _) ((Uj ?_));refine Uh (RN _ _ λh1 tk1 k1 le1=>?_);refine Uh (abZ ?_ sl);have gL:(h1.push (X7 "list" vs.toArray 0)).get? h1.objs.size=some (X7 "list" vs.toArray 0):=Us _ rfl;have kp:∀b o,s.heap.get? b=some o->b≠h1.objs.size/\(h1.push (X7 "list" vs.toArray 0)).get? b=some o:=λb o e=>by have e1:=k1 b o e;exact ⟨UY (UC e1),Ul _ e1⟩
 have kend:∀out,Kp s.heap (ad0 (h1.push (X7 "list" vs.toArray 0)) h1.objs.size vs out):=λout b o e=>by obtain ⟨g1,g2'⟩:=kp b o e;rw [sortedHeap_old g1 (UC g2')];exact g2'
 dsimp only;by_cases h2:vs.length < 2
 ·refine Uh (U7 (U3 adJ ⟨_,gL,rfl⟩ adi (CT gL h2 ⟨_,rfl,?_⟩) (adK _)));obtain ⟨n,hn'⟩:=aed (out:=vs.toArray) gL;rw [if_pos h2] at h;exact Uj ⟨_,rfl,h _ tk1 _ n (kend _) le1 hn'⟩
 ·obtain ⟨κ,ask⟩:=ha (by omega);refine Uh (U7 (U3 adJ ⟨_,gL,rfl⟩ adi (CU (κ:=κ) (q:=q) gL (by omega) h64 (λh' C k c=>?_) (λh' k i j C hi hj c=>?_) ⟨_,rfl,?_⟩) (adK _)))
  ·exact (ask h' tk1 λb o e=>k b o (kp b o e).1 (kp b o e).2).1 C c
  ·exact (ask h' tk1 λb o e=>k b o (kp b o e).1 (kp b o e).2).2 i j C hi hj c
  ·obtain ⟨n,hn'⟩:=aed (out:=(qx q vs).toArray) gL;rw [if_neg h2] at h;exact Uj ⟨_,rfl,h _ tk1 _ n (kend _) le1 hn'⟩
end
def dM (ds:List D) (i:Nat):D:=ds.getD i .non
def ltB (ds:List D) (i j:Nat):Bool:=(dO (dM ds i) (dM ds j)).getD false
def bQ (ds:List D):List D:=if ds.length < 2 then ds else (a_ (ltB ds) (Yi ds.length)).toList.map (dM ds)
def zd (ds:List D):Bool:=ds.all λx=>ds.all λy=>(dO x y).isSome
noncomputable def G4 (ds:List D):Bool:=match ds with
 | []=>false
 | d::_=>match gV d with
  | some k=>gP k ds
  | none=>false
def w5 (ds:List D):Bool:=decide (ds.length < 2) || (decide (ds.length < 64) && (decide (deps ds<=60) && (G4 ds && zd ds)))
section
variable {K:Ui}{J:Hp}
theorem jS {ds:List D}{vs:List V}(h:aK K J ds vs):∀{i:Nat},i < ds.length->Rep K J (dM ds i) (vs.getD i V.non):=by
 induction ds generalizing vs with
 | nil=>intro i hi;exact absurd hi (VI _)
 | cons x r ih=>
  intro i hi;cases h with
  | cons q rs=>
   cases i with
   | zero=>simpa [dM] using q
   | succ i=>simpa [dM] using ih rs (i:=i) (by simpa using hi)
theorem jU {vs:List V}{us:List Uk}(h:Vals vs us):∀{i:Nat},i < vs.length->RelV (vs.getD i V.non) (us.getD i Vl):=by
 induction vs generalizing us with
 | nil=>intro i hi;exact absurd hi (VI _)
 | cons x r ih=>
  intro i hi;cases h with
  | cons q rs=>
   cases i with
   | zero=>simpa using q
   | succ i=>simpa using ih rs (i:=i) (by simpa using hi)
theorem BR {ds:List D}{vs:List V}(h:aK K J ds vs):∀ix:List Nat,(∀i∈ix,i < ds.length)->aK K J (ix.map (dM ds)) (ix.map λi=>vs.getD i V.non)
 | [],_=>.nil
 | i::r,hi=>.cons (jS h (hi i (Uv ..))) (BR h r λj hj=>hi j (Uu _ hj))
theorem B5 {vs:List V}{us:List Uk}(h:Vals vs us):∀ix:List Nat,(∀i∈ix,i < vs.length)->Vals (ix.map λi=>vs.getD i V.non) (ix.map λi=>us.getD i Vl)
 | [],_=>.nil
 | i::r,hi=>.cons (jU h (hi i (Uv ..))) (B5 h r λj hj=>hi j (Uu _ hj))
theorem JC {ds:List D}:∀{i:Nat},i < ds.length->dep (dM ds i)<=deps ds:=by
 induction ds with
 | nil=>intro i hi;exact absurd hi (VI _)
 | cons x r ih=>
  intro i hi;unfold deps;cases i with
  | zero=>show dep x<=_;omega
  | succ i=>
   have:=ih (i:=i) (by simpa using hi);have e:dM (x::r) (i + 1)=dM r i:=rfl;rw [e];omega
theorem ir {ds:List D}(hi:i < ds.length):dM ds i∈ds:=by
 have e:dM ds i=ds[i]:=by simp [dM,hi]
 rw [e];exact U9 hi
theorem HF.keep {s s':Um}(F:HF K J s) (k:∀b o,s.heap.get? b=some o->s'.heap.get? b=some o):HF K J s':=
 ⟨λa xs h=>let ⟨its,r,o,ho,p⟩:=F.t a xs h;⟨its,r,o,k _ _ ho,p⟩,λa xs h=>let ⟨its,r,o,ho,p⟩:=F.l a xs h;⟨its,r,o,k _ _ ho,p⟩,λa h=>let ⟨o,ho,p⟩:=F.e a h;⟨o,k _ _ ho,p⟩,λa ep Ue h=>let ⟨o,es,ho,p⟩:=F.d a ep Ue h;⟨o,es,k _ _ ho,p⟩⟩
theorem DT {A:U8}(F:HF K J s) (rs:aK K J ds vs) (rv:Vals vs its) (hk:∀d∈ds,gV d=some k/\dep d<=60) (hk':gP k ds=true) (hc:∀x∈ds,∀y∈ds,(dO x y).isSome=true) (hu:A.units + 62 < V6):yu prog w A s its (ltB ds):=by
 intro h2;have l1:vs.length=its.length:=rv.length;have l2:ds.length=vs.length:=rs.length;refine ⟨tuples' k.flag,λh' tk kp=>⟨λC cc=>EL (F.keep kp) hk' rs rv (by omega) cc,λi j C hi hj cc=>?_⟩⟩;have hi':i < ds.length:=by omega
 have hj':j < ds.length:=by omega
 obtain ⟨a1,d1⟩:=hk _ (ir hi');obtain ⟨a2,d2⟩:=hk _ (ir hj');have hb:dO (dM ds i) (dM ds j)=some (ltB ds i j):=by
  have:=hc _ (ir hi') _ (ir hj');unfold ltB;cases z:dO (dM ds i) (dM ds j) with
  | none=>rw [z] at this;cases this
  | some b=>rfl
 exact JX (F.keep kp) a1 a2 hb (jS rs hi') (jS rs hj') (jU rv (by omega)) (jU rv (by omega)) (by omega) (by omega) (by omega) cc
end
noncomputable def isInt:D->Bool
 | .int _=>true
 | _=>false
def zT (ds:List D):Bool:=decide (ds.length < 64) && ds.all isInt
theorem Bv {K:Ui}{J:Hp}:∀{ds:List D}{vs:List V}{us:List Uk},ds.all isInt=true->aK K J ds vs->Vals vs us->∃ns,YG us ns
 | _,_,_,_,.nil,.nil=>⟨[],.nil⟩
 | d::ds,_,_,h,.cons r rs,.cons v vs=>by
  (rw [XH,Uq] at h)
  obtain ⟨ns,hn⟩:=Bv h.2 rs vs;cases d with
  | int i=>
   cases r;obtain ⟨t,rfl⟩:=v;exact ⟨i::ns,.cons i t hn⟩
  | _=>cases h.1
theorem LL {K:Ui}{J:Hp}{prog:UG}{w:U5}{A:U8}{s:Um}{ds:List D}{vs:List V}{its:List Uk}(rs:aK K J ds vs) (rv:Vals vs its) (hi:ds.all isInt=true):yu prog w A s its (ltB ds):=by
 intro h2;have l1:vs.length=its.length:=rv.length;have l2:ds.length=vs.length:=rs.length;obtain ⟨ns,hI⟩:=Bv hi rs rv;refine ⟨oneType',λh' tk kp=>⟨λC cc=>?_,λi j C hi' hj' cc=>?_⟩⟩
 ·clear l1 rv
  match its,hI,h2 with
  | v1::v2::r,hI,_=>rw [keyKind_ints hI];exact Uj cc
 ·have ai:=U4.mp hi _ (ir (i:=i) (by omega));have aj:=U4.mp hi _ (ir (i:=j) (by omega));have r1:=jS rs (i:=i) (by omega);have r2:=jS rs (i:=j) (by omega);have v1:=jU rv (i:=i) (by omega);have v2:=jU rv (i:=j) (by omega);show UB _ _ (keyLt' oneType' (its.getD i Vl) (its.getD j Vl)) _ _ _;rw [keyLt'_oneType];have e:ltB ds i j=(dO (dM ds i) (dM ds j)).getD false:=rfl;rw [e] at cc;generalize dM ds i=di at ai r1 cc;generalize dM ds j=dj at aj r2 cc;generalize vs.getD i V.non=wi at r1 v1;generalize vs.getD j V.non=wj at r2 v2;cases di with
  | int a=>
   cases dj with
   | int b=>
    cases r1;cases r2;obtain ⟨t1,q1⟩:=v1;obtain ⟨t2,q2⟩:=v2;rw [q1,q2];refine oneLt_int ?_;unfold dO at cc;exact cc
   | _=>cases aj
  | _=>cases ai
section
variable {X:Cx}{c:C}{e:U_}{es:List U_}{pos:Pos}
theorem qH {H:Hp}{Q:VK}{E:Uk->Um->Prop}{vs:List V}{ds:List D}(I:Inv X T9 σ H s) (RN:Coll X.prog X.w X.A.in1 s x its) (rv:Vals vs its) (l2:ds.length=vs.length) (l64:ds.length < 64)
 (ha:yu X.prog X.w X.A.in1.in1 s its (ltB ds)) (q:∀l vs',H l=none->(∀J,aK X.K J ds vs->aK X.K J (bQ ds) vs')->Q (.ref l) (upd H l (.lst vs'))):UB (UO X.prog X.w) X.A (call (.builtin "sorted") [x]) (EP X T9 σ Q) E s:=by
 have l1:vs.length=its.length:=rv.length;refine La RN (by omega) ha λh' tk l n kp hl hg=>?_;have fin:∀(ot:List Uk) (vs':List V),vs'.length=vs.length->Vals vs' ot->(∀J,aK X.K J ds vs->aK X.K J (bQ ds) vs')->h'.get? l=some (X7 "list" ot.toArray n)->EP X T9 σ Q (.ref l) {s with heap:=h',toks:=tk}:=λot vs' lv rv' rr hg=>
  ⟨.ref l,_,I.laid (t':=tk) kp hl (show cM X.prog X.w _ _ _ (.lst vs') from ⟨by rw [lv,Wo];omega,ot,n,rv',by simpa [X7] using hg⟩),rfl,q l vs' (I.hok.fresh hl) rr⟩
 by_cases h2:its.length < 2
 ·rw [if_pos h2] at hg;refine fin its vs rfl rv (λJ rj=>?_) hg;unfold bQ;rw [if_pos (by omega)];exact rj
 ·rw [if_neg h2] at hg;have ib:∀i∈(a_ (ltB ds) (Yi ds.length)).toList,i < ds.length:=λi hi=>by have:=((ju (n:=ds.length) (by omega)).run (ltB ds):gw _ _);have:=(ZZ this).mp (Array.mem_toList_iff.mp hi);simpa using this
  have e1:qx (ltB ds) its=(a_ (ltB ds) (Yi ds.length)).toList.map λi=>its.getD i Vl:=by unfold qx;rw [l2,l1]
  rw [e1] at hg;refine fin _ _ ?_ (B5 rv _ λi hi=>l2▸ib i hi) (λJ rj=>?_) hg
  ·rw [Uo,<-l2];have:=((ju (n:=ds.length) (by omega)).run (ltB ds):gw _ _).size_eq;simpa using this
  ·unfold bQ;rw [if_neg (by omega)];exact BR rj _ ib
theorem GC {H:Hp}(I:Inv X T9 σ H s) (h:cj X.K H p vs\/cY X.K H p vs):∃its,Vals vs its/\Coll X.prog X.w A s (.ref p) its:=by
 rcases h with h | h
 ·obtain ⟨its,r,⟨o,n,ho,hc,_,hd⟩,hz⟩:=I.list h;exact ⟨its,r,Bg (.inl rfl) ho hc hd (r.length▸hz)⟩
 ·obtain ⟨its,r,pt,hz⟩:=I.tuple h;obtain ⟨o,ho,hc,n,hd⟩:=pt;exact ⟨its,r,Bg (.inr rfl) ho hc hd (r.length▸hz)⟩
theorem G5 {H:Hp}{ds:List D}(hu:X.A.units + 64 < V6) (I:Inv X T9 σ H s) (rs:aK X.K H ds vs) (rv:Vals vs its) (ok:w5 ds=true):ds.length < 64/\yu X.prog X.w X.A.in1.in1 s its (ltB ds):=by
 have l1:vs.length=its.length:=rv.length;have l2:ds.length=vs.length:=rs.length;by_cases h2:ds.length < 2
 ·exact ⟨by omega,λh=>absurd h (by omega)⟩
 ·unfold w5 at ok;rw [decide_eq_false h2,aee,Uq,Uq,Uq] at ok;obtain ⟨o1,o2,o3,o4⟩:=ok;have o2:=of_decide_eq_true o2;obtain ⟨k,hk⟩:∃k,gP k ds=true:=by
   unfold G4 at o3;cases ds with
   | nil=>cases o3
   | cons d r=>
    simp only at o3;cases z:gV d with
    | none=>rw [z] at o3;cases o3
    | some k=>rw [z] at o3;exact ⟨k,o3⟩
  refine ⟨of_decide_eq_true o1,DT (fk I) rs rv (k:=k) (λd hd=>⟨lV hk d hd,?_⟩) hk (λx hx y hy=>U4.mp (U4.mp o4 _ hx) _ hy) hu⟩;obtain ⟨i,hi,rfl⟩:=VM.mp hd;have:=JC hi;have e:dM ds i=ds[i]:=by simp [dM,hi]
  rw [e] at this;omega
theorem yZ (hu:X.A.units + 64 < V6):cL X (.builtin "sorted") (λxs H Q=>∃p vs ds,xs=[.ref p]/\(cj X.K H p vs\/cY X.K H p vs)/\aK X.K H ds vs/\(w5 ds=true\/zT ds=true)/\∀l vs',H l=none->(∀J,aK X.K J ds vs->aK X.K J (bQ ds) vs')->Q (.ref l) (upd H l (.lst vs'))):=by
 intro T9 s σ H xs us Q I r h;obtain ⟨p,vs,ds,rfl,hq,rs,ok,q⟩:=h;obtain ⟨u,rfl,rx⟩:=vals1 r;cases rx;obtain ⟨its,rv,col⟩:=GC I hq;rcases ok with ok | ok
 ·obtain ⟨l64,ha⟩:=G5 hu I rs rv ok;exact qH I col rv rs.length l64 ha q
 ·unfold zT at ok;rw [Uq] at ok;exact qH I col rv rs.length (of_decide_eq_true ok.1) (LL rs rv ok.2) q
end
end DL
namespace DL
open PySem PySem.Spec PyProof.Rows L2
section
variable {X:Cx}{c:C}{e:U_}{g:G R}{pos:Pos}
noncomputable def tG (i:Nat) (f:R->R->M R) (g:G R):G O:=λenv=>match env[i]? with
 | some (some (.d d))=>g env >>= λy=>f (.d d) y >>= λz=>toS z >>= λx=>.ok (.nx (env.set i (some x)))
 | _=>.bad
theorem Ks (i:Nat){x:Str}{pos':Pos}{op:ae1}{r:R2}{f:R->R->M R}(hN:X.N.Nodup) (ho:c8 X (aaU op) r) (hb:BD c r f) (h:PD X c e g) (hi:X.N[i]?=some x:=by rfl) (hx:Loc X.env.scope x:=by first | exact Zi rfl | exact XN rfl)
  (hf:X.fn x=true\/X.env.scope.names.lookup x=some .local:=by first | exact .inl rfl | exact .inr rfl):Lz X c (.AugAssign (.Name x pos') op e pos) (tG i f g):=
 iQ (Ni hN hi hx h (λT9 s σ H x y v u Q I rx ry q=>Pz ho I rx ry q) hf) λE σ H ⟨J,env,sr,w⟩=>by
 unfold tG at w;split at w
 ·rename_i d hd;obtain ⟨v,h1,h2⟩:=sr.at_ i _ hd;refine ⟨v,h1,J,env,sr,aE (aI w) λy wr v' J1 H1 e1 r1=>?_⟩;have sr1:=sr.ext e1;refine hb H H J1 H1 (.d d) y v v' _ sr1.hp (Rep.mono e1.j h2) r1 (aE (aI wr) λz wz w' J2 H2 e2 r2=>?_);obtain ⟨x,q,wz⟩:=v_ wz;exact wz (σ.set i (some w')) J2 H2 (e1.j.trans e2.j) (sr1.set e2 r2 q)
 ·exact w.elim
end
section
variable {X:Cx}{c:C}{e:U_}{es:List U_}{pos:Pos}
noncomputable def zm:List R->M R
 | [.d (.int i)]=>.ok (.d (.int i))
 | [.d (.bl k)]=>.ok (.d (.int (if k then 1 else 0)))
 | _=>.bad
theorem D3:Vx "int"=some (.type "int"):=by decide +kernel
end
end DL
namespace DL
open PySem PySem.Spec PyProof.Rows L2 DX
section
variable {M:aer}{A:U8}{E:Uk->Um->Prop}{s:Um}
theorem C_ {T8:X0}{globals:UL}{closure:List (Str×UL)}{Ub:Str}{func:Option UL}{code:Uk}{outer:Env}{builtins:UL}{Q:Env->Um->Prop}
  (hQ:Q (newEnv T8 s.heap.objs.size globals (Vw (s.heap.objs.size + 1) T8.names closure) Ub func code (some outer) builtins) {s with heap:=adj (s.heap.push {cls:=.type "dict",data:=.dict #[]}) T8.names}):
  UB M A (adL T8 globals closure [] Ub func code (some outer) builtins) Q E s:=by simp only [adL,Option.isSome_some,if_true];refine Uh (wpAny_alloc ?_);refine Uh (wpAny_layCells _ (λname kind cells=>by cases hkc:kind == YJ <;> simp [hkc]) _ _ _ _ ?_);rw [show ({s with heap:=s.heap.push {cls:=.type "dict",data:=.dict #[]}}:Um).heap.objs.size=s.heap.objs.size + 1 from VD ..];simp only [Zg];exact Uh (Uj (Uj hQ))
theorem jI:∀(names:List (Str×WN)) (n:Nat) (acc:List (Str×UL)) (x:Str),(∀y∈names,y.2=.cell->y.1≠x)->(Vw n names acc).lookup x=acc.lookup x
 | [],_,_,_,_=>by unfold Vw;rfl
 | (y,k)::r,n,acc,x,h=>by
  have hr:∀z∈r,z.2=.cell->z.1≠x:=λz hz=>h z (Uu _ hz);unfold Vw;split
  ·rename_i hk;rw [jI r _ _ x hr];have hy:y≠x:=h (y,k) (Uv ..) (by simpa using hk);have:(x == y)=false:=by
    cases q:x == y with
    | false=>rfl
    | true=>exact absurd (eq_of_beq q).symm hy
   rw [Wb,this]
  ·exact jI r _ _ x hr
end
theorem xY:∀(names:List (Str×WN)) (n:Nat) (acc:List (Str×UL)),Vw n names acc=Vw n names []++acc:=by
 intro names
 suffices ∀(n:Nat) (a b:List (Str×UL)),Vw n names (a++b)=Vw n names a++b by intro n acc;exact this n [] acc
 induction names with
 | nil=>intro n a b;unfold Vw;rfl
 | cons p r ih=>
  obtain ⟨y,k⟩:=p;intro n a b;unfold Vw;split
  ·exact ih _ (_::a) b
  ·exact ih _ a b
def c9 (names:List (Str×WN)) (x:Str):Bool:=names.any λy=>y.1 == x && y.2 == .cell
theorem gx:∀(names:List (Str×WN)) (n:Nat) (acc:List (Str×UL)) (x:Str),((acc.lookup x).isSome=true\/c9 names x=true)->((Vw n names acc).lookup x).isSome=true
 | [],_,_,_,h=>by
  unfold Vw;rcases h with h | h
  ·exact h
  ·cases h
 | (y,k)::r,n,acc,x,h=>by
  unfold Vw;have e:c9 ((y,k)::r) x=((y == x && k == .cell) || c9 r x):=rfl;rw [e] at h;split
  ·rename_i hk;refine gx r _ _ x ?_;by_cases hx:x=y
   ·left;subst hx;rw [Wb];simp
   ·rcases h with h | h
    ·left;rw [Wb];cases q:x == y with
     | true=>exact absurd (eq_of_beq q) hx
     | false=>exact h
    ·rw [Xq,Uq] at h;rcases h with h | h
     ·exact absurd (eq_of_beq h.1).symm hx
     ·exact .inr h
  ·rename_i hk;refine gx r _ _ x ?_;rcases h with h | h
   ·exact .inl h
   ·rw [Xq,Uq] at h;rcases h with h | h
    ·exact absurd h.2 hk
    ·exact .inr h
theorem fY {cl:List (Str×UL)}(h:(Vw n names cl).lookup x=some d):
  (Vw n names []).lookup x=some d\/(c9 names x=false/\cl.lookup x=some d):=by
 rw [xY,List.lookup_append] at h;cases q:(Vw n names []).lookup x with
 | some e=>rw [q] at h;left;simpa using h
 | none=>
  rw [q] at h;right;refine ⟨?_,by simpa using h⟩;cases z:c9 names x with
  | false=>rfl
  | true=>
   have:=gx names n [] x (.inr z);rw [q] at this;cases this
theorem pJ {T8:X0}(h:(relabel T8 env).names.lookup x=some .cell\/(relabel T8 env).names.lookup x=some .free):(x,VO)∈T8.names\/c9 T8.names x=true:=by
 unfold relabel at h;revert h;generalize T8.names=names
 induction names with
 | nil=>intro h;simp at h
 | cons p r ih=>
  obtain ⟨n,k⟩:=p;intro h;rw [UH] at h;simp only at h;by_cases hx:x=n
  ·subst hx;cases k with
   | free=>exact .inl (Uv ..)
   | cell=>right;unfold c9;simp
   | _=>simp [Wb] at h
  ·have e:(x == n)=false:=by simpa using hx
   have h':(r.map λ(n,k)=>if (k == VO && env.scope.kind == .function && env.kindOf n == some .cell) then (n,YJ) else (n,k)).lookup x=some .cell\/(r.map λ(n,k)=>if (k == VO && env.scope.kind == .function && env.kindOf n == some .cell) then (n,YJ) else (n,k)).lookup x=some .free:=by split at h <;> simpa [Wb,e] using h
   rcases ih h' with z | z
   ·exact .inl (Uu _ z)
   ·right;unfold c9 at z ⊢;rw [aas,z,Bool.or_true]
section
variable {X:Cx}
noncomputable def cZ (X:Cx) (own:List Str) (cap:List Nat) (T8:X0) (cl:List (Str×UL)) (C:UL) (s:Um) (H:Hp) (fp:List UL):Cx:=
 {L3 X own cap T8 (Vw (C + 1) T8.names cl) C s H fp with fn:=c9 T8.names}
theorem JA {H:Hp}{s:Um}{T8:X0}(I:Inv X T9 σ H s) (hk:T8.kind=.function)
 (hcl:d9 X.env.cells T8.names []=some cl) (ck:aeW h1 (s.heap.objs.size + 1) (Vw (s.heap.objs.size + 1) T8.names [])) (hfp:∀b∈fp,iR X T9 H b) (hin:∀b∈fp,b < s.heap.objs.size):(cZ X own cap T8 cl s.heap.objs.size s H fp).Ok:=by
 obtain ⟨m1,m2⟩:=gT T8.names [] cl hcl (λx c h=>by simp at h);have lo:∀{x:Str}{d:UL},(Vw (s.heap.objs.size + 1) T8.names []).lookup x=some d->s.heap.objs.size + 1<=d:=fun {x d} h=>(ck.empty _ _ (YM h)).2;have old:∀{x:Str}{d:UL},cl.lookup x=some d->d < s.heap.objs.size:=fun {x d} h=>by obtain ⟨v,z⟩:=I.cell x d (m1 x d h);exact z.lt
 refine ⟨I.ok.mod,hk,I.ok.glob,I.ok.blt,Uw _,λx y d h1 h2=>?_,λx hx=>?_,λx d hf h=>?_,λhc=>I.ok.hd hc,I.ok.frames,.inl rfl,λb hb=>⟨UY (hin b hb),λx d h=>?_⟩,
  I.bs,U1 I.ok.bsz I.sz,λb o h hb=>?_,λb hb hf=>?_,I.stack,I.stkFree⟩
 ·rcases fY h1 with h1 | ⟨_,h1⟩
  ·rcases fY h2 with h2 | ⟨_,h2⟩
   ·exact name_of_addr ck.apart (YM h1) (YM h2)
   ·exact absurd (UQ (old h2) (Xu (lo h1))) (Wa _)
  ·rcases fY h2 with h2 | ⟨_,h2⟩
   ·exact absurd (UQ (old h1) (Xu (lo h2))) (Wa _)
   ·exact I.ok.inj x y d (m1 x d h1) (m1 y d h2)
 ·refine Vq.mp (gx _ _ _ x ?_);rcases pJ hx with z | z
  ·exact .inl (m2 x (.inr z))
  ·exact .inr z
 ·rcases fY h with h | ⟨z,h⟩
  ·exact Xu (lo h)
  ·have hf':c9 T8.names x=true:=hf;rw [z] at hf';cases hf'
 ·rcases fY h with h | ⟨_,h⟩
  ·exact WA (UQ (hin b hb) (Xu (lo h)))
  ·exact (hfp b hb).2.2.2.2.1 x d (m1 x d h)
 ·rcases (hfp b hb).2.2.2.1 with z | z
  ·exact I.ok.noex b o h z
  ·exact absurd (UQ (UC (I.ok.bs b o h).1) z) (Wa _)
 ·rcases UK.mp (I.stkSub b hf) with e | e
  ·exact (hfp b hb).2.1 e
  ·exact (hfp b hb).2.2.1 e
end
theorem zM {cl:List (Str×UL)}(h:c9 names x=false):(Vw n names cl).lookup x=cl.lookup x:=
 jI names n cl x λy hy hk e=>by unfold c9 at h;have:=List.any_eq_false.mp h y hy;simp [hk,e] at this
section
variable {X:Cx}
theorem Gn {T9:List (UL×Obj)}{σ:L2.St}{H:Hp}{s:Um}{own:List Str}{cap:List Nat}{T8:X0}{cl:List (Str×UL)}{fp:List UL}{h1:VB}{m:Str->Option Uk}{tk:Nat}(I:Inv X T9 σ H s) (ok:(cZ X own cap T8 cl s.heap.objs.size s H fp).Ok)
  (hcl:d9 X.env.cells T8.names []=some cl) (ck:aeW h1 (s.heap.objs.size + 1) (Vw (s.heap.objs.size + 1) T8.names [])) (hcap:qR X cap=true) (Rt:∀j∈cap,∀x,X.N[j]?=some x->(relabel T8 X.env).names.lookup x≠some .local)
  (hno:∀j∈cap,∀x,X.N[j]?=some x->c9 T8.names x=false) (hns:h1.Ns s.heap.objs.size m) (old:∀b o,s.heap.get? b=some o->h1.get? b=some o):
  Inv (cZ X own cap T8 cl s.heap.objs.size s H fp) [] (V7 own.length none++cap.map λ(j:Nat)=>(σ[j]?).getD none) H {s with heap:=h1,toks:=tk}:=by
 obtain ⟨m1,m2⟩:=gT T8.names [] cl hcl (λx c h=>by simp at h);refine ⟨ok,rfl,I.bare,Un.kept old,⟨m,hns,λi x v q1 q2 q3=>?_⟩,λx d h=>?_,I.hok.fresh (Uw _),λx d h=>?_,λp hp=>absurd (show p∈([]:List (UL×Obj)) from hp) (by simp),I.hok.kept old,?_⟩
 ·obtain ⟨j,h2,h3,h4⟩:=kE q2;have q1':(own++cap.map λ(j:Nat)=>(X.N[j]?).getD ("":Str))[i]?=some x:=q1;rw [V0 (by exact h2),UT,h3] at q1';have hj:j∈cap:=Vi h3;have hc:(match X.N[j]? with
   | some x=>(match X.env.scope.names.lookup x with
    | some .cell=>true
    | some .free=>true
    | _=>false)
   | none=>false)=true:=by unfold qR at hcap;exact U4.mp hcap j hj
  cases hx:X.N[j]? with
  | none=>rw [hx] at hc;cases hc
  | some y=>
   rw [adb,hx] at q1';rw [hx] at hc;have e:y=x:=by simpa using q1'
   subst e;have kd:X.env.kindOf y=some .cell\/X.env.kindOf y=some .free:=by
    unfold ae9;simp only at hc;split at hc
    ·rename_i z;exact .inl z
    ·rename_i z;exact .inr z
    ·cases hc
   obtain ⟨mX,nX,lX⟩:=I.loc;obtain ⟨u,ru,lu⟩:=lX j y v hx h4 (kd.elim (λz=>.inr (.inl z)) λz=>.inr (.inr z));refine ⟨u,ru,.inr ?_⟩;have kd':(relabel T8 X.env).names.lookup y=some .cell\/(relabel T8 X.env).names.lookup y=some .free:=by
    rcases q3 with z | z | z
    ·exact absurd z (Rt j hj y hx)
    ·exact .inl z
    ·exact .inr z
   refine ⟨kd',?_⟩;have no:=hno j hj y hx;have fr:(y,VO)∈T8.names:=by
    rcases pJ kd' with z | z
    ·exact z
    ·rw [no] at z;cases z
   obtain ⟨d,hd⟩:=Vq.mp (m2 y (.inr fr));refine ⟨d,(zM no).trans hd,?_⟩;rcases lu with ⟨z,_⟩ | ⟨_,d',hd',z⟩
   ·rcases kd with k | k <;> (rw [k] at z;cases z)
   ·have:=m1 y d hd;rw [hd'] at this;cases this;obtain ⟨o,ho,hod⟩:=z;exact ⟨o,old _ _ ho,hod⟩
 ·rcases fY h with h | ⟨_,h⟩
  ·exact ⟨none,(ck.empty _ _ (YM h)).1⟩
  ·obtain ⟨v,o,ho,hod⟩:=I.cell x d (m1 x d h);exact ⟨v,o,old _ _ ho,hod⟩
 ·rcases fY h with h | ⟨_,h⟩
  ·exact I.hok.fresh (Xu (ck.empty _ _ (YM h)).2)
  ·exact I.freeC x d (m1 x d h)
 ·show _=(own++cap.map λ(j:Nat)=>(X.N[j]?).getD ("":Str)).length;simp
end
theorem MP (h:VB) (names:List (Str×WN)):(adj (h.push {cls:=.type "dict",data:=.dict #[]}) names).Ns h.objs.size (λ_=>none):=
 (Heap.Ns.new h (.type "dict")).keeps λb o e=>adk _ _ _ _ e
theorem Eg (h:VB) (names:List (Str×WN)):aeW (adj (h.push {cls:=.type "dict",data:=.dict #[]}) names) (h.objs.size + 1) (Vw (h.objs.size + 1) names []):=by have:=cellsFrom_ok names (h.push {cls:=.type "dict",data:=.dict #[]}) (h.objs.size + 1) [] ⟨λ_ _ hm=>(nomatch hm),WU⟩ (by rw [VD];exact Uw _);rw [VD] at this;exact this
noncomputable def Ir (X:Cx) (cap:List Nat) (T8:X0):Bool:=cap.all λj=>match X.N[j]? with
 | some x=>!c9 T8.names x
 | none=>true
section
variable {X:Cx}{c:C}
theorem qS {names names2:List (Str×WN)}(h:d9 cells names []=some cl)
 (hn:(names2.all λy=>!(y.2 == .free) || ((names.any λz=>z.1 == y.1 && z.2 == .free) || c9 names y.1))=true):(d9 (Vw n names cl) names2 []).isSome=true:=by
 obtain ⟨_,m2⟩:=gT names [] cl h (λx c h=>by simp at h);have go:∀(l:List (Str×WN)) (cs:List (Str×UL)),(l.all λy=>!(y.2 == .free) || ((names.any λz=>z.1 == y.1 && z.2 == .free) || c9 names y.1))=true->(d9 (Vw n names cl) l cs).isSome=true:=by
  intro l
  induction l with
  | nil=>intro cs _;rfl
  | cons y r ih=>
   obtain ⟨y,k⟩:=y;intro cs hl;rw [XH,Uq] at hl;unfold d9;split
   ·rename_i hk;have h1:=hl.1;simp only [hk,WQ,aee,Xq] at h1;have:((Vw n names cl).lookup y).isSome=true:=by
     refine gx names n cl y ?_;rcases h1 with z | z
     ·obtain ⟨q,hq,e⟩:=Wr.mp z;rw [Uq] at e;have e1:q=(y,VO):=by
       obtain ⟨q1,q2⟩:=q;have a1:q1=y:=eq_of_beq e.1;have a2:q2=VO:=by simpa using e.2
       rw [a1,a2]
      exact .inl (m2 y (.inr (e1▸hq)))
     ·exact .inr z
    obtain ⟨a,ha⟩:=Vq.mp this;rw [ha];exact ih _ hl.2
   ·exact ih _ hl.2
 exact go names2 [] hn
end
section
variable {X:Cx}{c:C}{e:U_}{es:List U_}{g:G R}{pos:Pos}
theorem xo {p:Pos}{gs:G (List R)}(ha:i6 X c (e::es) gs) (hm:X.mg "int"=none) (hg:Gl X "int":=by rfl)
  (he:Ux (e::es) X.env=(false,eval e X.env)::Ux es X.env:=by rfl) (hpl:(Wk pos (Ux es X.env)).any (·.1)=false:=by rfl):QD X c (.Call (.Name "int" p) (e::es) [] pos) (gN zm gs):=have ha:=ha.h;⟨
 qy D8 (by
  intro He J H xs vs Q hp rs w;unfold zm at w;split at w
  ·obtain ⟨v,rfl,r⟩:=rs.one;cases r;exact .inl ⟨_,rfl,w _ J H (Ext.refl hp.sub) (.int _)⟩
  ·obtain ⟨v,rfl,r⟩:=rs.one;cases r;exact .inr ⟨_,rfl,w _ J H (Ext.refl hp.sub) (.int _)⟩
  ·exact w.elim) D3 hm ha hg (by decide) (by decide) he hpl⟩
theorem Fj (i:Nat) (hN:X.N.Nodup) (h:QD X c e g) (hi:X.N[i]?=some x:=by rfl) (hx:Loc X.env.scope x:=by first | exact Zi rfl | exact XN rfl) (hf:X.fn x=true\/X.env.scope.names.lookup x=some .local:=by first | exact .inl rfl | exact .inr rfl):
  jF X c (.AugAssign (.Name x pos') .Add e pos) (tG i vH g):=have h:=h.h;⟨Ks i hN JP (kD λ_ _ _=>.int _) h hi hx hf⟩
theorem JM {K:Ui}{st:Xg}{kV doc pm cdv ct:Uk}(l:K.lookup f=some ⟨oc,od,.func (Vr x Ub (cP st) (bR st) (aV st) (.ref T) kV doc pm an cdv ct),osl⟩)
 (cd:Xh K cdv Ub=true) (k:VS K (.ref f)=true) (lT:K.lookup T=some ⟨oT,dT,.seq #[.none] n,sT⟩):nS K x Ub st f (Vr x Ub (cP st) (bR st) (aV st) (.ref T) kV doc pm an cdv ct):=
 ⟨⟨oc,od,T,_,n,kV,doc,pm,an,cdv,ct,osl,rfl,l,cd,lT,rfl⟩,k⟩
end
end DL
namespace K51
open PySem DL
end K51
namespace WP
open PySem DL K01
def Wp {α:Type}(m:M α) (P:α->Prop):Prop:=∃a,m=.ok a/\P a
section
variable {α β:Type}{m:M α}{P P':α->Prop}{a:α}{env:Ev}{Q:O->Prop}{t u:G O}{g:G R}{r r':R}{i:Nat}{b:G Bool}
theorem Wp.mono (h:Wp m P) (k:∀a,P a->P' a):Wp m P':=let ⟨a,h1,h2⟩:=h;⟨a,h1,k a h2⟩
theorem Wp.eq (h:Wp m (·=a)):m=.ok a:=let ⟨_,h1,h2⟩:=h;h2▸h1
theorem oW {P:R->Prop}(h:Wp (t env) λo=>∃r,o=.rt r/\P r):Wp (fin (t env)) P:=by obtain ⟨_,h1,r,rfl,h2⟩:=h;exact ⟨r,by rw [h1];rfl,h2⟩
theorem qL (h:Wp (t env) λo=>∃e,o=.nx e):fin (t env)=.ok (.d .non):=by obtain ⟨_,h1,r,rfl⟩:=h;rw [h1];rfl
theorem cg (h:Wp (t env) (·=.rt r)):fin (t env)=.ok r:=by rw [h.eq];rfl
theorem b_ (h:Wp (t env) λo=>match o with
 | .nx e=>Wp (u e) Q
 | o=>Q o):Wp (aH t u env) Q:=by
 obtain ⟨o,h1,h2⟩:=h;show Wp (t env >>= _) Q;rw [h1];cases o with
 | nx e=>exact h2
 | rt r=>exact ⟨_,rfl,h2⟩
 | bk e=>exact ⟨_,rfl,h2⟩
 | ct e=>exact ⟨_,rfl,h2⟩
theorem fK (h:g env=.ok r) (h2:toS r=.ok x) (k:Q (.nx (env.set i (some x)))):Wp (bf i g env) Q:=⟨_,by show (g env >>= _)=_;rw [h,aQ,h2];rfl,k⟩
theorem bC (h:g env=.ok r) (h2:toS r=.ok x) (k:Wp (u (env.set i (some x))) Q):Wp (aH (bf i g) u env) Q:=b_ (fK h h2 k)
theorem bE (h:g env=.ok r) (h2:rF r=.ok r') (k:Q (.rt r')):Wp (br g env) Q:=⟨_,Fy h h2,k⟩
theorem OI (h:g env=.ok r) (h2:rF r=.ok r') (k:Q (.rt r')):Wp (aH (br g) u env) Q:=b_ (bE h h2 k)
theorem fQ (k:Q (.nx env)):Wp (cK env) Q:=⟨_,rfl,k⟩
theorem P9 (k:Wp (u env) Q):Wp (aH cK u env) Q:=b_ (fQ k)
theorem ow (h:b env=.ok true) (k:Wp (t env) Q):Wp (bJ b t u env) Q:=by rw [jb h];exact k
theorem vP (h:b env=.ok false) (k:Wp (u env) Q):Wp (bJ b t u env) Q:=by rw [jy h];exact k
theorem jz (h:b env=.ok c) (k1:c=true->Wp (t env) Q) (k2:c=false->Wp (u env) Q):Wp (bJ b t u env) Q:=by
 cases c with
 | true=>exact ow h (k1 rfl)
 | false=>exact vP h (k2 rfl)
theorem OJ {v:G O}(h:b env=.ok true) (k:Wp (aH t v env) Q):Wp (aH (bJ b t u) v env) Q:=by
 have:aH (bJ b t u) v env=aH t v env:=by unfold aH;rw [jb h]
 rw [this];exact k
theorem P8 {v:G O}(h:b env=.ok false) (k:Wp (aH u v env) Q):Wp (aH (bJ b t u) v env) Q:=by
 have:aH (bJ b t u) v env=aH u v env:=by unfold aH;rw [jy h]
 rw [this];exact k
theorem gA {v:G O}(h:b env=.ok false) (k:Wp (v env) Q):Wp (aH (bJ b t cK) v env) Q:=P8 h (P9 k)
theorem kI {xs:List D}(h0:env[i]?=some (some (.own xs))) (h:g env=.ok r) (h2:toD r=.ok d) (hl:xs.length<=1000) (k:Q (.nx (env.set i (some (.own (xs++[d])))))):Wp (gK i g env) Q:=by refine ⟨_,?_,k⟩;unfold gK;rw [h0];show (g env >>= _)=_;rw [h,aQ,h2,aQ,if_pos (Z0 hl (by decide))]
theorem OH {xs:List D}{d:D}(h0:env[i]?=some (some (.own xs))) (h:g env=.ok r) (h2:toD r=.ok d) (hl:xs.length<=1000) (k:Wp (u (env.set i (some (.own (xs++[d]))))) Q):Wp (aH (gK i g) u env) Q:=b_ (kI h0 h h2 hl k)
theorem mz {gi:G (List D)}(h:gi env=.ok ds) (k:Wp (ff tg u ds env) Q):Wp (cu gi tg u env) Q:=by rw [Mb h];exact k
theorem eX {gi:G (List D)}{v:G O}(h:gi env=.ok ds) (k:Wp (ff tg t ds env) λo=>match o with
 | .nx e=>Wp (v e) Q
 | o=>Q o):Wp (aH (cu gi tg t) v env) Q:=b_ (mz h k)
theorem kc {tg:GT}(I:Nat->Ev->Prop) (ds:List D) (h0:I 0 env) (step:∀(k:Nat) (hk:k < ds.length) (env:Ev),I k env->∃e,tg ds[k] env=.ok e/\Wp (u e) λo=>∃e,o=.nx e/\I (k + 1) e)
  (k:∀e,I ds.length e->Q (.nx e)):Wp (ff tg u ds env) Q:=by
 have key:∀(es:List D) (i:Nat) (env:Ev),ds.drop i=es->i<=ds.length->I i env->Wp (ff tg u es env) Q:=by
  intro es
  induction es with
  | nil=>
   intro i env hd hi hI;have:i=ds.length:=by have:=congrArg We hd;rw [WI] at this;simp at this;omega
   subst this;exact ⟨_,rfl,k _ hI⟩
  | cons d es ih=>
   intro i env hd hi hI;have hlt:i < ds.length:=by have:=congrArg We hd;rw [WI] at this;simp at this;omega
   have e1:=Yq hlt;rw [hd] at e1;obtain ⟨q1,q2⟩:=aef e1;obtain ⟨e,h1,_,h2,e2,rfl,h3⟩:=step i hlt env hI;unfold ff;rw [q1,h1,aQ,h2,aQ];exact ih (i + 1) e2 q2.symm (by omega) h3
 exact key ds 0 env rfl (UX _) h0
theorem iA {tg:GT}(I:Nat->Ev->Prop) (h0:I 0 env) (step:∀(k:Nat),k < n->∀env,I k env->∃e,tg (.int k) env=.ok e/\Wp (u e) λo=>∃e,o=.nx e/\I (k + 1) e)
 (k:∀e,I n e->Q (.nx e)):Wp (ff tg u (fU 0 n) env) Q:=by
 have hl:(fU 0 n).length=n:=by simp [fU]
 refine kc I (fU 0 n) h0 (λj hj env hI=>?_) (by rw [hl];exact k);obtain ⟨e,h1,h2⟩:=step j (by rw [hl] at hj;exact hj) env hI;refine ⟨e,?_,h2⟩;rw [<-h1];simp [fU]
theorem n1 {f:List R->M R}(hx:g env=.ok x) (hf:f [x]=.ok z):gN f (ao g aC) env=.ok z:=Ol hx hf
theorem two {f:R->R->M R}{h:G R}{x y z:R}(hx:g env=.ok x) (hy:h env=.ok y) (hf:f x y=.ok z):g2 f g h env=.ok z:=by show (g env >>= _)=_;rw [hx,aQ,hy,aQ,hf]
theorem c1 {F:List S->M R}(hx:g env=.ok x) (hF:F [gE x]=.ok z):gN (aO 1 F) (ao g aC) env=.ok (nj z):=by show (ao g aC env >>= _)=_;unfold ao aC;rw [hx];show (match F [gE x] with | .ok r=>M.ok (nj r) | _=>M.bad)=_;rw [hF]
theorem c2 {F:List S->M R}{h:G R}(hx:g env=.ok x) (hy:h env=.ok y) (hF:F [gE x,gE y]=.ok z):gN (aO 2 F) (ao g (ao h aC)) env=.ok (nj z):=by show (ao g (ao h aC) env >>= _)=_;unfold ao aC;rw [hx,hy];show (match F [gE x,gE y] with | .ok r=>M.ok (nj r) | _=>M.bad)=_;rw [hF]
theorem c3 {F:List S->M R}{h k:G R}(hx:g env=.ok x) (hy:h env=.ok y) (hw:k env=.ok w) (hF:F [gE x,gE y,gE w]=.ok z):gN (aO 3 F) (ao g (ao h (ao k aC))) env=.ok (nj z):=by show (ao g (ao h (ao k aC)) env >>= _)=_;unfold ao aC;rw [hx,hy,hw];show (match F [gE x,gE y,gE w] with | .ok r=>M.ok (nj r) | _=>M.bad)=_;rw [hF]
theorem c4 {F:List S->M R}{h k l:G R}(hx:g env=.ok x) (hy:h env=.ok y) (hw:k env=.ok w) (hv:l env=.ok v) (hF:F [gE x,gE y,gE w,gE v]=.ok z):gN (aO 4 F) (ao g (ao h (ao k (ao l aC)))) env=.ok (nj z):=by show (ao g (ao h (ao k (ao l aC))) env >>= _)=_;unfold ao aC;rw [hx,hy,hw,hv];show (match F [gE x,gE y,gE w,gE v] with | .ok r=>M.ok (nj r) | _=>M.bad)=_;rw [hF]
theorem i_ (h:g env=.ok r) (k:Wp (u env) Q):Wp (aH (iP g) u env) Q:=b_ ⟨.nx env,by show (g env >>= _)=_;rw [h];rfl,k⟩
theorem LS {n:Nat}{cap:List Nat}{gi:G (List D)}{tg:GT}{ge:G R}{gts:G Bool}{α:Type}{xs:List α}{h:α->D}(o:α->Ev) (p:α->Bool) (f:α->D) (hi:gi env=.ok (xs.map h)) (hl:xs.length<=1000000)
  (ho:∀x,(o x).length=n) (ht:∀x (e:Ev),e.length=n->tg (h x) (e++cE 0 cap env)=.ok (o x++cE 0 cap env))
  (hb:∀x∈xs,gts (o x++cE 0 cap env)=.ok (p x)/\(p x=true->∃r,ge (o x++cE 0 cap env)=.ok r/\toD r=.ok (f x))):cB n cap gi tg gts ge env=.ok (.l .fresh ((xs.filter p).map f)):=by
 have key:∀(es:List α) (x:Ev),x.length=n->(∀d∈es,d∈xs)->fJ tg gts ge (es.map h) (x++cE 0 cap env)=.ok ((es.filter p).map f):=by
  intro es
  induction es with
  | nil=>exact λ_ _ _=>rfl
  | cons d es ih=>
   intro x hx hm;obtain ⟨h0,h1⟩:=hb d (hm d Uv);have ih:=ih (o d) (ho d) λe he=>hm e (Uu _ he);rw [UH];unfold fJ;rw [ht d x hx,aQ,h0,aQ];cases q:p d with
   | true=>
    obtain ⟨r,h1,h2⟩:=h1 q;rw [if_pos rfl,h1,aQ,h2,aQ,ih,YN q];rfl
   | false=>
    rw [if_neg (by decide),YO (by simp [q])];exact ih
 unfold cB;rw [hi,aQ,if_pos (by rw [Wo,Uo];omega)];show (fJ tg gts ge _ (V7 n none++cE 0 cap env) >>= _)=_;rw [key xs _ WC λ_ h=>h];rfl
theorem Ip {α:Type}(xs:List α):xs.filter (λ_=>true)=xs:=ZK.mpr λ_ _=>rfl
theorem uz {gi:G (List D)}{ge:G R}{gts:G Bool}{α:Type}{xs:List α}{h:α->D}(p:α->Bool) (f:α->D) (hi:gi env=.ok (xs.map h)) (hl:xs.length<=1000000)
 (hb:∀x∈xs,gts (some (.d (h x))::cE 0 cap env)=.ok (p x)/\(p x=true->∃r,ge (some (.d (h x))::cE 0 cap env)=.ok r/\toD r=.ok (f x))):cB 1 cap gi (aD 0) gts ge env=.ok (.l .fresh ((xs.filter p).map f)):=
 LS (λx=>[some (.d (h x))]) p f hi hl (λ_=>rfl) (λ_ e he=>match e,he with | [_],_=>rfl) hb
theorem mK {gi:G (List D)}{ge:G R}{α:Type}{xs:List α}{h:α->D}(f:α->D) (hi:gi env=.ok (xs.map h)) (hl:xs.length<=1000000)
 (hb:∀x∈xs,∃r,ge (some (.d (h x))::cE 0 cap env)=.ok r/\toD r=.ok (f x)):cB 1 cap gi (aD 0) dY ge env=.ok (.l .fresh (xs.map f)):=by
 have:=uz (gts:=dY) (λ_=>true) f hi hl λx hx=>⟨rfl,λ_=>hb x hx⟩
 rwa [Ip] at this
theorem ze {cap:List Nat}{gi:G (List D)}{ge:G R}{gts:G Bool}{α:Type}{xs:List α}(a b:α->D) (p:α->Bool) (f:α->D) (hi:gi env=.ok (xs.map λx=>.tup [a x,b x])) (hl:xs.length<=1000)
  (h:∀x∈xs,gts (some (.d (a x))::some (.d (b x))::cE 0 cap env)=.ok (p x)/\(p x=true->∃r,ge (some (.d (a x))::some (.d (b x))::cE 0 cap env)=.ok r/\toD r=.ok (f x))):cB 2 cap gi (dG 2 (bz (aD 0) (bz (aD 1) dR))) gts ge env=.ok (.l .fresh ((xs.filter p).map f)):=
 LS (λx=>[some (.d (a x)),some (.d (b x))]) p f hi (by omega) (λ_=>rfl) (λ_ e he=>match e,he with | [_,_],_=>rfl) h
theorem uA {gi:G (List D)}{ge:G R}{α:Type}{xs:List α}(a b:α->D) (f:α->D) (hi:gi env=.ok (xs.map λx=>.tup [a x,b x])) (hl:xs.length<=1000)
 (h:∀x∈xs,∃r,ge (some (.d (a x))::some (.d (b x))::cE 0 cap env)=.ok r/\toD r=.ok (f x)):cB 2 cap gi (dG 2 (bz (aD 0) (bz (aD 1) dR))) dY ge env=.ok (.l .fresh (xs.map f)):=by
 have:=ze (gts:=dY) a b (λ_=>true) f hi hl λx hx=>⟨rfl,λ_=>h x hx⟩
 rwa [Ip] at this
theorem ND (n:Nat):fU 0 n=(Ur n).map dN:=by simp [fU]
theorem mP {gs:G (List R)}{n:Nat}(hg:gs env=.ok [.d (.int (n:Int))]) (h:n<=1000):b9 gs env=.ok ((Ur n).map dN):=by rw [jC hg h,ND]
theorem cT (h:g env=.ok x):ao g aC env=.ok [x]:=by show (g env >>= _)=_;rw [h];rfl
theorem bg:aP env=.ok []:=rfl
theorem aL {gs:G (List D)}(h:g env=.ok r) (h2:toD r=.ok d) (k:gs env=.ok ds):az g gs env=.ok (d::ds):=by show (g env >>= _)=_;rw [h,aQ,h2,aQ,k];rfl
theorem bD {gs:G (List D)}{ds:List D}(h:gs env=.ok ds) (hl:ds.length<=1000):bB gs env=.ok (.d (.tup ds)):=by show (gs env >>= _)=_;rw [h,aQ,if_pos (fG hl)]
theorem fR {gs:G (List D)}{ds:List D}(h:gs env=.ok ds) (hl:ds.length<=1000):c5 gs env=.ok (.l .fresh ds):=by show (gs env >>= _)=_;rw [h,aQ,if_pos (fG hl)]
theorem qu {α:Type}{xs:List α}{h:α->D}(f:R) (hf:iK f=.ok (xs.map h)) (i:Int) (h0:0<=i) (hi:i < xs.length):∃x∈xs,aY f (.d (.int i))=.ok (.d (h x)):=by
 obtain ⟨k,rfl⟩:=Int.eq_ofNat_of_zero_le h0;have hk:k < xs.length:=by omega
 refine ⟨xs[k],U9 hk,?_⟩;have h1:(xs.map h)[k]?=some (h xs[k]):=by rw [UT,UA hk];rfl
 cases f with
 | d x=>
  cases x with
  | tup ys=>cases hf;exact ng h1
  | lst ys=>cases hf;unfold aY;simp only [iK,aQ,qQ h1]
  | _=>cases hf
 | l m x=>cases hf;exact qV h1
 | mo _ _=>cases hf
 | mb _ _=>cases hf
 | mf _ _=>cases hf
theorem rK (h:env[i]?=some (some (.own xs))) (k:Wp (t (env.set i (some (.d (.lst xs))))) Q):Wp (fF i t env) Q:=by
 have:fF i t env=t (env.set i (some (.d (.lst xs)))):=by unfold fF;rw [h]
 rw [this];exact k
theorem Og (h:g env=.ok r) (h2:toD r=.ok d) (h3:tg d env=.ok e) (k:Q (.nx e)):Wp (tF tg g env) Q:=⟨_,by show (g env >>= _)=_;rw [h,aQ,h2,aQ,h3];rfl,k⟩
theorem Dn (h:g env=.ok r) (h2:toD r=.ok d) (h3:tg d env=.ok e) (k:Wp (u e) Q):Wp (aH (tF tg g) u env) Q:=b_ (Og h h2 h3 k)
theorem Ge {α:Type}(xs:List α) (z:α):L2.lW (xs++[z]) (-1)=some z:=by unfold L2.lW L2.zG;rw [if_neg (by decide),if_pos (by simp;omega)];rw [show ((-1:Int) + ((xs++[z]).length:Nat)).toNat=xs.length by simp;omega];simp
theorem Bx (xs:List D) (z:D):aY (.d (.tup (xs++[z]))) (.d (.int (-1)))=.ok (.d z):=by unfold aY;simp only [iK,aQ,Ge]
theorem uR (neg:Bool) (x:D) (ys:List D) (h:deps ys<=60) (hx:dep x<=60):fH neg (.d x) (.d (.tup ys))=.ok (.d (.bl (if neg then !inD x ys else inD x ys))):=by show (if deps ys<=60/\dep x<=60 then M.ok (R.d (.bl (if neg then !inD x ys else inD x ys))) else M.bad)=_;rw [if_pos ⟨h,hx⟩]
theorem qT (neg:Bool) (x y:R) (h:dep x.dat<=60) (hx:dep y.dat<=60):bX neg x y=.ok (.d (.bl (if neg then !bh x.dat y.dat else bh x.dat y.dat))):=by unfold bX;rw [if_pos ⟨h,hx⟩]
theorem gJ:∀{xs:List D},(∀x∈xs,dep x<=n)->deps xs<=n
 | [],_=>UX _
 | x::xs,h=>by have h1:=h x Uv;have h2:=gJ (xs:=xs) λy hy=>h y (Uu _ hy);simp only [deps];omega
theorem uB (xs:List Nat):deps (xs.map dN)<=60:=gJ λx hx=>by obtain ⟨k,_,rfl⟩:=UD.mp hx;exact UX _
theorem zf (xs:List (Nat×Nat)):deps (xs.map dP)<=60:=gJ λx hx=>by obtain ⟨k,_,rfl⟩:=UD.mp hx;exact (by decide:(1:Nat)<=60)
theorem B6 {tb:G Bool}(I:Nat->Ev->Prop) (step:∀d env,I d env->(tb env=.ok false/\Q (.nx env))\/(tb env=.ok true/\Wp (t env) λo=>match o with
  | .nx e=>∃d',d' < d/\I d' e
  | .rt r=>Q (.rt r)
  | _=>False)):∀(n d:Nat) (env:Ev),I d env->d < n->Wp (lQ tb t n env) Q
 | 0,d,env,_,h=>absurd h (VI _)
 | n + 1,d,env,hI,h=>by
  unfold lQ;rcases step d env hI with ⟨h1,h2⟩ | ⟨h1,o,h2,h3⟩
  ·rw [h1];exact ⟨_,rfl,h2⟩
  ·rw [h1,aQ,if_pos rfl,h2,aQ];cases o with
   | nx e=>
    obtain ⟨d',hd,hI'⟩:=h3;exact B6 I step n d' e hI' (by omega)
   | rt r=>exact ⟨_,rfl,h3⟩
   | bk e=>exact h3.elim
   | ct e=>exact h3.elim
theorem K7 {tb:G Bool}(I:Nat->Ev->Prop) (d:Nat) (hd:d < n) (h0:I d env) (step:∀d env,I d env->(tb env=.ok false/\Wp (u env) Q)\/(tb env=.ok true/\Wp (t env) λo=>match o with
 | .nx e=>∃d',d' < d/\I d' e
 | .rt r=>Q (.rt r)
 | _=>False)):Wp (aH (uL n tb t) u env) Q:=b_ (B6 I (λd env h=>by
  rcases step d env h with h | ⟨h1,h2⟩
  ·exact .inl h
  ·refine .inr ⟨h1,h2.mono λo ho=>?_⟩;cases o <;> exact ho) n d env h0 hd)
theorem Oh {f:R->R->M R}(h0:env[i]?=some (some (.d d))) (h:g env=.ok y) (hf:f (.d d) y=.ok z) (h2:toS z=.ok x) (k:Q (.nx (env.set i (some x)))):Wp (tG i f g env) Q:=by refine ⟨_,?_,k⟩;unfold tG;rw [h0];show (g env >>= _)=_;rw [h,aQ,hf,aQ,h2];rfl
end
end WP
namespace K51
open PySem DL K01 WP
structure A4 (w:Wd):Prop where
 lo:1<=w.m
 hi:w.m<=8
 ml:w.ms.length<=3
 al:w.ar.length<=3
theorem yq (xs ys:List D) (h:xs.length + ys.length<=1000):bY (.d (.tup xs)) (.d (.tup ys))=.ok (.d (.tup (xs++ys))):=by show (if xs.length + ys.length<=sizeLine then M.ok (R.d (.tup (xs++ys))) else M.bad)=_;rw [if_pos (fG h)]
theorem PR (l:Nat) (xs:List Nat):fH false (.d (dN l)) (.d (.tup (xs.map dN)))=.ok (.d (.bl (inD (dN l) (xs.map dN)))):=uR false _ _ (uB xs) (UX _)
theorem Mj (l:Nat×Nat) (xs:List (Nat×Nat)):fH false (.d (dP l)) (.d (.tup (xs.map dP)))=.ok (.d (.bl (inD (dP l) (xs.map dP)))):=uR false _ _ (zf xs) (by show (1:Nat)<=60;decide)
theorem t2:(2:Nat)<=1000:=by decide
end K51
namespace K51
open PySem DL K01 WP
open PySem.W (kas_sort)
theorem FI (ds:List D):(bQ ds).length=ds.length:=by
 unfold bQ;by_cases h:ds.length < 2
 ·rw [if_pos h]
 ·rw [if_neg h,Uo];have:=(ju (n:=ds.length) (by omega)).run (ltB ds);have:=this.size_eq;simpa using this
theorem FJ {ds:List D}{x:D}(hx:x∈bQ ds):x∈ds:=by
 unfold bQ at hx;by_cases h:ds.length < 2
 ·rwa [if_pos h] at hx
 ·rw [if_neg h] at hx;have hp:=(ju (n:=ds.length) (by omega)).run (ltB ds);obtain ⟨i,hi,rfl⟩:=UD.mp hx;have hi:i∈a_ (ltB ds) (Yi ds.length):=by simpa using hi
  have:=(ZZ hp).mp hi;exact ir (by simpa using this)
end K51
namespace K51
open PySem DL K01 WP
end K51
namespace DL
open PySem PySem.Spec PyProof.Rows L2
open PySem.W (KasT kas_sort kas_asc kas_desc kas_rev kas_tail3 kas_descPart kas_count kas_place kas_bin)
theorem run_bind {α β:Type}(q:Nat->Nat->Bool) (f:α->KasT β):∀t:KasT α,a_ q (t.bind f)=a_ q (f (a_ q t))
 | .ret _=>rfl
 | .ask i j k=>run_bind q f (k (q i j))
theorem HJ {n:Nat}{α:Type}{P:α->Prop}{t:KasT α}{q q':Nat->Nat->Bool}(h:fL n P t) (e:∀i j,i < n->j < n->q i j=q' i j):a_ q t=a_ q' t:=by
 induction h with
 | ret _=>rfl
 | @ask i j k h1 h2 _ ih=>
  show a_ q (k (q i j))=a_ q' (k (q' i j));rw [e _ _ h1 h2];exact ih _
structure Ord (q:Nat->Nat->Bool):Prop where
 asy:∀a b,q a b=true->q b a=false
 tra:∀a b c,q b a=false->q c b=false->q c a=false
section
variable {q:Nat->Nat->Bool}{n:Nat}
abbrev bG (p:Array Nat) (k:Nat):Nat:=p.getD k 0
def Up (q:Nat->Nat->Bool) (p:Array Nat) (k:Nat):Prop:=∀i j,i<=j->j < k->q (bG p j) (bG p i)=false
def Down (q:Nat->Nat->Bool) (p:Array Nat) (k:Nat):Prop:=∀i j,i<=j->j < k->q (bG p i) (bG p j)=false
theorem Ord.irr (O:Ord q) (a:Nat):q a a=false:=by
 cases h:q a a with
 | false=>rfl
 | true=>rw [<-h];exact (O.asy a a h)
theorem getD_eq (h:p[i]?=p'[j]?):bG p i=bG p' j:=by show p.getD i 0=p'.getD j 0;rw [ZL,ZL,h]
theorem jt {p:Array Nat}(hj:j<=p.size) (k:Nat):bG (Zq p i j) k=if i<=k/\k < j then bG p (i + j - 1 - k) else bG p k:=by
 have e:=getElem?_mirror_all (xs:=p) (i:=i) hj k;by_cases c:i<=k/\k < j
 ·rw [if_pos c] at e ⊢;exact getD_eq e
 ·rw [if_neg c] at e ⊢;exact getD_eq e
theorem DU {p:Array Nat}(hs:src < p.size) (hd:d<=src) (k:Nat):bG (bubble p src d) k=if k=src - d then bG p src else if src - d < k/\k<=src then bG p (k - 1) else bG p k:=by
 have e:=getElem?_bubble hs d hd k;by_cases c:k=src - d
 ·rw [if_pos c] at e ⊢;exact getD_eq e
 ·rw [if_neg c] at e ⊢;by_cases c':src - d < k/\k<=src
  ·rw [if_pos c'] at e ⊢;exact getD_eq e
  ·rw [if_neg c'] at e ⊢;exact getD_eq e
theorem iY (p:Array Nat) (i j:Nat):(Zq p i j).size=p.size:=mirror_size _ _ _ _
theorem Up.one (O:Ord q) (p:Array Nat):Up q p 1:=λi j h1 h2=>by
 have:i=j:=by omega
 rw [this];exact O.irr _
theorem Up.more (O:Ord q) (h:Up q p k) (h1:1<=k) (e:q (bG p k) (bG p (k - 1))=false):Up q p (k + 1):=λi j hi hj=>by
 by_cases c:j < k
 ·exact h i j hi c
 ·have:j=k:=by omega
  subst this;by_cases c':i=j
  ·rw [c'];exact O.irr _
  ·exact O.tra _ _ _ (h i (j - 1) (by omega) (by omega)) e
theorem Down.more (O:Ord q) (h:Down q p k) (h1:1<=k) (e:q (bG p (k - 1)) (bG p k)=false):Down q p (k + 1):=λi j hi hj=>by
 by_cases c:j < k
 ·exact h i j hi c
 ·have:j=k:=by omega
  subst this;by_cases c':i=j
  ·rw [c'];exact O.irr _
  ·exact O.tra _ _ _ e (h i (j - 1) (by omega) (by omega))
theorem yP (O:Ord q) (p:Array Nat):∀(f m:Nat),1<=m->Up q p m->m<=a_ q (Zr p f m)/\a_ q (Zr p f m)<=m + f/\Up q p (a_ q (Zr p f m))/\(a_ q (Zr p f m)=m + f\/q (bG p (a_ q (Zr p f m))) (bG p (a_ q (Zr p f m) - 1))=true)
 | 0,m,h1,h=>⟨Uw _,Uw _,h,.inl rfl⟩
 | f + 1,m,h1,h=>by
  have e:a_ q (Zr p (f + 1) m)=if q (bG p m) (bG p (m - 1))=true then m else a_ q (Zr p f (m + 1)):=by
   show a_ q (if q (bG p m) (bG p (m - 1))=true then KasT.ret m else Zr p f (m + 1))=_;by_cases c:q (bG p m) (bG p (m - 1))=true
   ·rw [if_pos c,if_pos c];rfl
   ·rw [if_neg c,if_neg c]
  rw [e];by_cases c:q (bG p m) (bG p (m - 1))=true
  ·rw [if_pos c];exact ⟨Uw _,by omega,h,.inr c⟩
  ·rw [if_neg c];obtain ⟨a1,a2,a3,a4⟩:=yP O p f (m + 1) (by omega) (h.more O h1 (by simpa using c));refine ⟨by omega,by omega,a3,?_⟩;rcases a4 with a4 | a4
   ·exact .inl (by omega)
   ·exact .inr a4
def Alike (q:Nat->Nat->Bool) (p:Array Nat) (i j:Nat):Prop:=∀a b,i<=a->a < j->i<=b->b < j->q (bG p a) (bG p b)=false
theorem xy {p:Array Nat}{i j k:Nat}(hj:j<=p.size) (ha:Alike q p i j) (hd:Down q p j) (O:Ord q):Down q (Zq p i j) j:=λa b h1 h2=>by
 rw [jt hj,jt hj];by_cases c:i<=a/\a < j
 ·rw [if_pos c];by_cases c':i<=b/\b < j
  ·rw [if_pos c'];exact ha _ _ (by omega) (by omega) (by omega) (by omega)
  ·omega
 ·rw [if_neg c];by_cases c':i<=b/\b < j
  ·rw [if_pos c'];exact hd _ _ (by omega) (by omega)
  ·rw [if_neg c'];exact hd _ _ h1 h2
theorem NC {p:Array Nat}(hj:j<=p.size) (hd:Down q p j):Up q (Zq p 0 j) j:=λa b h1 h2=>by rw [jt hj,jt hj,if_pos (by omega),if_pos (by omega)];exact hd _ _ (by omega) (by omega)
theorem u5 {p:Array Nat}(hj:j<=p.size) (h:j<=k):bG (Zq p i j) k=bG p k:=by rw [jt hj,if_neg (by omega)]
theorem lY (O:Ord q):∀(f:Nat) (p:Array Nat) (m e:Nat),1<=m->e + 1<=m->m + f<=p.size->Down q p m->Alike q p (m - (e + 1)) m->
  (a_ q (WR f p m e)).1.size=p.size/\m<=(a_ q (WR f p m e)).2.1/\(a_ q (WR f p m e)).2.1<=m + f/\(a_ q (WR f p m e)).2.2 + 1<=(a_ q (WR f p m e)).2.1/\
  Down q (a_ q (WR f p m e)).1 (a_ q (WR f p m e)).2.1/\Alike q (a_ q (WR f p m e)).1 ((a_ q (WR f p m e)).2.1 - ((a_ q (WR f p m e)).2.2 + 1)) (a_ q (WR f p m e)).2.1
 | 0,p,m,e,h1,h2,h3,h4,h5=>⟨rfl,Uw _,Uw _,h2,h4,h5⟩
 | f + 1,p,m,e,h1,h2,h3,h4,h5=>by
  have solo:∀(p:Array Nat) (m:Nat),Alike q p (m + 1 - (0 + 1)) (m + 1):=λp m a b c1 c2 c3 c4=>by
   have:a=b:=by omega
   rw [this];exact O.irr _
  cases c:q (bG p m) (bG p (m - 1)) with
  | true=>
   have c2:=O.asy _ _ c;by_cases he:e > 0
   ·have er:a_ q (WR (f + 1) p m e)=a_ q (WR f (Zq p (m - (e + 1)) m) (m + 1) 0):=by show a_ q (if q (bG p m) (bG p (m - 1))=true then _ else _)=_;rw [if_pos c,if_pos he]
    rw [er];have hr:=xy (k:=0) (i:=m - (e + 1)) (by omega:m<=p.size) h5 h4 O;have hl:bG (Zq p (m - (e + 1)) m) (m - 1)=bG p (m - (e + 1)):=by rw [jt (by omega),if_pos (by omega)];congr 1;omega
    obtain ⟨a0,a1,a2,a3,a4,a5⟩:=lY O f (Zq p (m - (e + 1)) m) (m + 1) 0 (by omega) (by omega) (by rw [iY];omega)
     (hr.more O h1 (by
      rw [hl,u5 (by omega) (Uw _)];exact O.tra _ _ _ c2 (h5 _ _ (by omega) (by omega) (by omega) (by omega)))) (solo _ _)
    rw [iY] at a0;exact ⟨a0,by omega,by omega,a3,a4,a5⟩
   ·have er:a_ q (WR (f + 1) p m e)=a_ q (WR f p (m + 1) 0):=by show a_ q (if q (bG p m) (bG p (m - 1))=true then _ else _)=_;rw [if_pos c,if_neg he]
    rw [er];obtain ⟨a0,a1,a2,a3,a4,a5⟩:=lY O f p (m + 1) 0 (by omega) (by omega) (by omega) (h4.more O h1 c2) (solo _ _);exact ⟨a0,by omega,by omega,a3,a4,a5⟩
  | false=>
   cases c2:q (bG p (m - 1)) (bG p m) with
   | true=>
    have er:a_ q (WR (f + 1) p m e)=(p,m,e):=by show a_ q (if q (bG p m) (bG p (m - 1))=true then _ else _)=_;rw [if_neg (by rw [c];decide)];show a_ q (if q (bG p (m - 1)) (bG p m)=true then _ else _)=_;rw [if_pos c2];rfl
    rw [er];exact ⟨rfl,Uw _,Yx _ _,h2,h4,h5⟩
   | false=>
    have er:a_ q (WR (f + 1) p m e)=a_ q (WR f p (m + 1) (e + 1)):=by show a_ q (if q (bG p m) (bG p (m - 1))=true then _ else _)=_;rw [if_neg (by rw [c];decide)];show a_ q (if q (bG p (m - 1)) (bG p m)=true then _ else _)=_;rw [if_neg (by rw [c2];decide)]
    rw [er];have hal:Alike q p (m + 1 - (e + 1 + 1)) (m + 1):=λa b d1 d2 d3 d4=>by
     by_cases ea:a=m
     ·subst ea;by_cases eb:b=a
      ·rw [eb];exact O.irr _
      ·exact O.tra _ _ _ (h5 (a - 1) b (by omega) (by omega) (by omega) (by omega)) c
     ·by_cases eb:b=m
      ·subst eb;exact O.tra _ _ _ c2 (h5 a (b - 1) (by omega) (by omega) (by omega) (by omega))
      ·exact h5 a b (by omega) (by omega) (by omega) (by omega)
    obtain ⟨a0,a1,a2,a3,a4,a5⟩:=lY O f p (m + 1) (e + 1) (by omega) (by omega) (by omega) (h4.more O h1 c2) hal;exact ⟨a0,by omega,by omega,a3,a4,a5⟩
def Got (q:Nat->Nat->Bool) (N s:Nat) (r:Nat×Array Nat):Prop:=r.2.size=s/\1<=r.1/\r.1<=N/\Up q r.2 r.1
theorem BX (O:Ord q){p:Array Nat}(h1:1<=m) (hm:m<=N) (hN:N<=p.size) (hd:Down q p m):Got q N p.size (a_ q (aex m N p)):=by unfold aex;rw [run_bind];obtain ⟨a1,a2,a3,_⟩:=yP O (Zq p 0 m) (N - m) m h1 (NC (by omega) hd);exact ⟨iY _ _ _,by show 1<=a_ q (Zr _ _ _);omega,by show a_ q (Zr _ _ _)<=N;omega,a3⟩
theorem BI (O:Ord q){p:Array Nat}(h1:1<=m) (hm:m + 1<=N) (hN:N<=p.size) (hd:Down q p (m + 1)):Got q N p.size (a_ q (acH m N p)):=by
 unfold acH;rw [run_bind];obtain ⟨a0,a1,a2,a3,a4,a5⟩:=lY O (N - (m + 1)) p (m + 1) 0 (by omega) (by omega) (by omega) hd (λa b c1 c2 c3 c4=>by
  have:a=b:=by omega
  rw [this];exact O.irr _)
 generalize a_ q (WR (N - (m + 1)) p (m + 1) 0)=r at *;obtain ⟨p',m',e'⟩:=r;simp only at *;by_cases c:e' > 0
 ·rw [if_pos c];have:=BX (N:=N) O (p:=Zq p' (m' - (e' + 1)) m') (m:=m') (by omega) (by omega) (by rw [iY];omega) (xy (k:=0) (by omega) a5 a4 O);rw [iY,a0] at this;exact this
 ·rw [if_neg c];have:=BX (N:=N) O (p:=p') (m:=m') (by omega) (by omega) (by omega) a4;rw [a0] at this;exact this
theorem Gm (O:Ord q){p:Array Nat}(h1:1<=N) (hN:N<=p.size):Got q N p.size (a_ q (adf N p)):=by
 unfold adf;rw [run_bind];obtain ⟨a1,a2,a3,a4⟩:=yP O p (N - 1) 1 (Uw _) (Up.one O p);generalize a_ q (Zr p (N - 1) 1)=m at *;by_cases c:(m == N)=true
 ·rw [if_pos c];exact ⟨rfl,a1,by show m<=N;omega,a3⟩
 ·rw [if_neg c];have hm:m + 1<=N:=by
   have:m≠N:=by simpa using c
   omega
  have a4:q (bG p m) (bG p (m - 1))=true:=by
   rcases a4 with h | h
   ·omega
   ·exact h
  have a5:=O.asy _ _ a4;by_cases c':m > 1
  ·rw [if_pos c'];show Got q N p.size (a_ q (if q (bG p 0) (bG p (m - 1))=true then _ else _));by_cases d:q (bG p 0) (bG p (m - 1))=true
   ·rw [if_pos d];exact ⟨rfl,a1,by show m<=N;omega,a3⟩
   ·rw [if_neg d];have d:q (bG p 0) (bG p (m - 1))=false:=by simpa using d
    have all:∀a b,a < m->b < m->q (bG p a) (bG p b)=false:=λa b ha hb=>O.tra _ _ _ (O.tra _ _ _ (a3 b (m - 1) (by omega) (by omega)) d) (a3 0 a (by omega) (by omega));have hd:Down q (Zq p 0 m) m:=λa b h1 h2=>by rw [jt (by omega),jt (by omega),if_pos (by omega),if_pos (by omega)];exact all _ _ (by omega) (by omega)
    have:=BI O (p:=Zq p 0 m) (m:=m) (N:=N) (by omega) hm (by rw [iY];exact hN) (hd.more O (by omega) (by
     rw [u5 (by omega) (Uw _),jt (by omega),if_pos (by omega),show 0 + m - 1 - (m - 1)=0 by omega];exact O.tra _ _ _ a5 d))
    rw [iY] at this;exact this
  ·rw [if_neg c'];have:m=1:=by omega
   subst this;refine BI O (Uw _) hm hN ?_;exact Down.more O (λi j h1 h2=>by
    have:i=j:=by omega
    rw [this];exact O.irr _) (Uw _) a5
theorem tW (O:Ord q) (hs:Up q p k):∀(f l r:Nat),l<=r->r<=k->r - l<=f->(∀i,i < l->q (bG p k) (bG p i)=false)->(∀i,r<=i->i < k->q (bG p k) (bG p i)=true)->
  a_ q (Xd p k f l r)<=k/\(∀i,i < a_ q (Xd p k f l r)->q (bG p k) (bG p i)=false)/\∀i,a_ q (Xd p k f l r)<=i->i < k->q (bG p k) (bG p i)=true
 | 0,l,r,h1,h2,h3,h4,h5=>⟨by show l<=k;omega,h4,λi hi=>h5 i (by show r<=i;have:l<=i:=hi;omega)⟩
 | f + 1,l,r,h1,h2,h3,h4,h5=>by
  by_cases c:l ≥ r
  ·have e:a_ q (Xd p k (f + 1) l r)=l:=by unfold Xd;rw [if_pos c];rfl
   rw [e];exact ⟨by omega,h4,λi hi=>h5 i (by omega)⟩
  ·cases d:q (bG p k) (bG p ((l + r) / 2)) with
   | true=>
    have e:a_ q (Xd p k (f + 1) l r)=a_ q (Xd p k f l ((l + r) / 2)):=by rw [Xd,if_neg c];show a_ q (if q (bG p k) (bG p ((l + r) / 2))=true then _ else _)=_;rw [if_pos d]
    rw [e];refine tW O hs f l ((l + r) / 2) (by omega) (by omega) (by omega) h4 λi i1 i2=>?_;by_cases ci:r<=i
    ·exact h5 i ci i2
    ·cases dd:q (bG p k) (bG p i) with
     | true=>rfl
     | false=>
      have:=O.tra _ _ _ (hs ((l + r) / 2) i i1 i2) dd;rw [d] at this;cases this
   | false=>
    have e:a_ q (Xd p k (f + 1) l r)=a_ q (Xd p k f ((l + r) / 2 + 1) r):=by rw [Xd,if_neg c];show a_ q (if q (bG p k) (bG p ((l + r) / 2))=true then _ else _)=_;rw [if_neg (by rw [d];decide)]
    rw [e];refine tW O hs f ((l + r) / 2 + 1) r (by omega) (by omega) (by omega) (λi hi=>?_) h5;exact O.tra _ _ _ (hs i ((l + r) / 2) (by omega) (by omega)) d
theorem LQ (O:Ord q){p:Array Nat}(hk:k < p.size) (hl:l<=k) (hs:Up q p k) (h1:∀i,i < l->q (bG p k) (bG p i)=false) (h2:∀i,l<=i->i < k->q (bG p k) (bG p i)=true):Up q (bubble p k (k - l)) (k + 1):=λi j hi hj=>by
 rw [DU hk (by omega),DU hk (by omega),show k - (k - l)=l by omega];by_cases a:i=l
 ·rw [if_pos a];by_cases b:j=l
  ·rw [if_pos b];exact O.irr _
  ·rw [if_neg b,if_pos (by omega)];exact O.asy _ _ (h2 (j - 1) (by omega) (by omega))
 ·rw [if_neg a];by_cases b:j=l
  ·rw [if_pos b,if_neg (by omega)];exact h1 i (by omega)
  ·rw [if_neg b];by_cases a':l < i/\i<=k
   ·rw [if_pos a',if_pos (by omega)];exact hs _ _ (by omega) (by omega)
   ·rw [if_neg a'];by_cases b':l < j/\j<=k
    ·rw [if_pos b'];exact hs _ _ (by omega) (by omega)
    ·rw [if_neg b'];exact hs _ _ hi (by omega)
theorem DW (O:Ord q):∀(f:Nat) (p:Array Nat) (k:Nat),k + f<=p.size->Up q p k->Up q (a_ q (aeb f p k)) (k + f)
 | 0,p,k,_,h=>h
 | f + 1,p,k,hs,h=>by
  have e:a_ q (aeb (f + 1) p k)=a_ q (aeb f (bubble p k (k - a_ q (Xd p k k 0 k))) (k + 1)):=by rw [aeb,run_bind]
  rw [e];obtain ⟨a1,a2,a3⟩:=tW O h k 0 k (UX _) (Uw _) (by omega) (λi hi=>by omega) (λi h1 h2=>by omega);have:=DW O f (bubble p k (k - a_ q (Xd p k k 0 k))) (k + 1) (by rw [bubble_size];omega) (LQ O (by omega) a1 h a2 a3);rw [show k + (f + 1)=k + 1 + f by omega];exact this
theorem K_ (O:Ord q) (n:Nat) (hn:1<=n):Up q (a_ q (Yi n)) n:=by
 unfold Yi;rw [run_bind];obtain ⟨a0,a1,a2,a3⟩:=Gm O (p:=(Ur n).toArray) (N:=n) hn (by simp);generalize a_ q (adf n (Ur n).toArray)=r at *;have a0:r.2.size=n:=by simpa using a0
 by_cases c:r.1 < n
 ·rw [if_pos c];have:=DW O (n - max r.1 1) r.2 (max r.1 1) (by omega) (by rw [show max r.1 1=r.1 by omega];exact a3)
  rwa [show max r.1 1 + (n - max r.1 1)=n by omega] at this
 ·rw [if_neg c];have:r.1=n:=by omega
  rw [this] at a3;exact a3
end
end DL
namespace DL
open PySem PySem.Spec PyProof.Rows L2
open PySem.W (kas_sort)
def eF (x y:D):Bool:=(dO x y).getD false
structure f7 (P:D->Prop):Prop where
 eq:∀x y,P x->P y->(bh x y=true↔x=y)
 lt:∀x y,P x->P y->(dO x y).isSome=true
 asy:∀x y,P x->P y->eF x y=true->eF y x=false
 tri:∀x y,P x->P y->eF x y=false->eF y x=false->x=y
 tra:∀x y z,P x->P y->P z->eF x y=true->eF y z=true->eF x z=true
def iH (xs ys:List D):Bool:=eF (.tup xs) (.tup ys)
theorem jN (x y:D) (xs ys:List D):iH (x::xs) (y::ys)=if bh x y=true then iH xs ys else eF x y:=by
 show (if bh x y=true then kh xs ys else dO x y).getD false=_;by_cases h:bh x y=true
 ·rw [if_pos h,if_pos h];rfl
 ·rw [if_neg h,if_neg h];rfl
variable {P R:D->Prop}
theorem jK (xs ys:List D):bh (.tup xs) (.tup ys)=cD xs ys:=by rw [bh]
theorem iu (x y:D) (xs ys:List D):cD (x::xs) (y::ys)=(bh x y && cD xs ys):=by rw [cD]
structure lq (Q:List D->Prop):Prop where
 eq:∀x y,Q x->Q y->(cD x y=true↔x=y)
 lt:∀x y,Q x->Q y->(kh x y).isSome=true
 asy:∀x y,Q x->Q y->iH x y=true->iH y x=false
 tri:∀x y,Q x->Q y->iH x y=false->iH y x=false->x=y
 tra:∀x y z,Q x->Q y->Q z->iH x y=true->iH y z=true->iH x z=true
theorem lq.tot {Q:List D->Prop}(h:lq Q):f7 λd=>∃xs,d=.tup xs/\Q xs where
 eq:=by rintro _ _ ⟨x,rfl,hx⟩ ⟨y,rfl,hy⟩;rw [jK,h.eq x y hx hy];exact ⟨λe=>e▸rfl,λe=>by cases e;rfl⟩
 lt:=by rintro _ _ ⟨x,rfl,hx⟩ ⟨y,rfl,hy⟩;exact h.lt x y hx hy
 asy:=by rintro _ _ ⟨x,rfl,hx⟩ ⟨y,rfl,hy⟩;exact h.asy x y hx hy
 tri:=by rintro _ _ ⟨x,rfl,hx⟩ ⟨y,rfl,hy⟩ h1 h2;rw [h.tri x y hx hy h1 h2]
 tra:=by rintro _ _ _ ⟨x,rfl,hx⟩ ⟨y,rfl,hy⟩ ⟨z,rfl,hz⟩;exact h.tra x y z hx hy hz
theorem BC (p:f7 P) (px:P x) (py:P y) (pz:P z) (h:iH r s=true->iH s t=true->iH r t=true) (h1:iH (x::r) (y::s)=true) (h2:iH (y::s) (z::t)=true):iH (x::r) (z::t)=true:=by
 rw [jN] at h1 h2 ⊢;by_cases e:x=y
 ·subst e;rw [if_pos ((p.eq x x px px).mpr rfl)] at h1;by_cases f:x=z
  ·subst f;rw [if_pos ((p.eq x x px px).mpr rfl)] at h2 ⊢;exact h h1 h2
  ·rw [if_neg λq=>f ((p.eq x z px pz).mp q)] at h2 ⊢;exact h2
 ·rw [if_neg λq=>e ((p.eq x y px py).mp q)] at h1;by_cases f:y=z
  ·subst f;rw [if_neg λq=>e ((p.eq x y px py).mp q)];exact h1
  ·rw [if_neg λq=>f ((p.eq y z py pz).mp q)] at h2;have h3:=p.tra x y z px py pz h1 h2;by_cases g:x=z
   ·subst g;have:=p.asy x x px px h3;rw [h3] at this;cases this
   ·rw [if_neg λq=>g ((p.eq x z px pz).mp q)];exact h3
theorem lq.cons {Q:List D->Prop}(p:f7 P) (h:lq Q):lq λxs=>∃x r,xs=x::r/\P x/\Q r where
 eq:=by rintro _ _ ⟨x,r,rfl,px,qr⟩ ⟨y,s,rfl,py,qs⟩;rw [iu,Uq,p.eq x y px py,h.eq r s qr qs];exact ⟨λe=>by rw [e.1,e.2],λe=>by cases e;exact ⟨rfl,rfl⟩⟩
 lt:=by
  rintro _ _ ⟨x,r,rfl,px,qr⟩ ⟨y,s,rfl,py,qs⟩;show (if bh x y=true then kh r s else dO x y).isSome=true;split
  ·exact h.lt r s qr qs
  ·exact p.lt x y px py
 asy:=by
  rintro _ _ ⟨x,r,rfl,px,qr⟩ ⟨y,s,rfl,py,qs⟩ hl;rw [jN] at hl ⊢;by_cases e:x=y
  ·subst e;rw [if_pos ((p.eq x x px px).mpr rfl)] at hl ⊢;exact h.asy r s qr qs hl
  ·rw [if_neg λz=>e ((p.eq x y px py).mp z)] at hl;rw [if_neg λz=>e ((p.eq y x py px).mp z).symm];exact p.asy x y px py hl
 tri:=by
  rintro _ _ ⟨x,r,rfl,px,qr⟩ ⟨y,s,rfl,py,qs⟩ h1 h2;rw [jN] at h1 h2;by_cases e:x=y
  ·subst e;rw [if_pos ((p.eq x x px px).mpr rfl)] at h1 h2;rw [h.tri r s qr qs h1 h2]
  ·rw [if_neg λz=>e ((p.eq x y px py).mp z)] at h1;rw [if_neg λz=>e ((p.eq y x py px).mp z).symm] at h2;exact absurd (p.tri x y px py h1 h2) e
 tra:=by rintro _ _ _ ⟨x,r,rfl,px,qr⟩ ⟨y,s,rfl,py,qs⟩ ⟨z,t,rfl,pz,qt⟩ h1 h2;exact BC p px py pz (h.tra r s t qr qs qt) h1 h2
theorem lq.nil:lq λxs=>xs=[] where
 eq:=by rintro _ _ rfl rfl;simp [cD]
 lt:=by rintro _ _ rfl rfl;rfl
 asy:=by rintro _ _ rfl rfl h;cases h
 tri:=by rintro _ _ rfl rfl _ _;rfl
 tra:=by rintro _ _ _ rfl rfl rfl h;cases h
theorem f7.list (p:f7 P):lq λxs=>∀x∈xs,P x where
 eq:=by
  intro xs
  induction xs with
  | nil=>intro ys _ _;cases ys <;> simp [cD]
  | cons x xs ih=>
   intro ys hx hy;cases ys with
   | nil=>simp [cD]
   | cons y ys=>
    rw [iu,Uq,p.eq x y (hx x Uv) (hy y Uv),ih ys (λz hz=>hx z (Uu _ hz)) λz hz=>hy z (Uu _ hz)];exact ⟨λe=>by rw [e.1,e.2],λe=>by cases e;exact ⟨rfl,rfl⟩⟩
 lt:=by
  intro xs
  induction xs with
  | nil=>intro ys _ _;rfl
  | cons x xs ih=>
   intro ys hx hy;cases ys with
   | nil=>rfl
   | cons y ys=>
    show (if bh x y=true then kh xs ys else dO x y).isSome=true;split
    ·exact ih ys (λz hz=>hx z (Uu _ hz)) λz hz=>hy z (Uu _ hz)
    ·exact p.lt x y (hx x Uv) (hy y Uv)
 asy:=by
  intro xs
  induction xs with
  | nil=>
   intro ys _ _ h;cases ys with
   | nil=>cases h
   | cons y ys=>rfl
  | cons x xs ih=>
   intro ys hx hy hl;cases ys with
   | nil=>cases hl
   | cons y ys=>
    have px:=hx x Uv;have py:=hy y Uv;rw [jN] at hl ⊢;by_cases e:x=y
    ·subst e;rw [if_pos ((p.eq x x px px).mpr rfl)] at hl ⊢;exact ih ys (λz hz=>hx z (Uu _ hz)) (λz hz=>hy z (Uu _ hz)) hl
    ·rw [if_neg λz=>e ((p.eq x y px py).mp z)] at hl;rw [if_neg λz=>e ((p.eq y x py px).mp z).symm];exact p.asy x y px py hl
 tri:=by
  intro xs
  induction xs with
  | nil=>
   intro ys _ _ h1 h2;cases ys with
   | nil=>rfl
   | cons y ys=>cases h1
  | cons x xs ih=>
   intro ys hx hy h1 h2;cases ys with
   | nil=>cases h2
   | cons y ys=>
    have px:=hx x Uv;have py:=hy y Uv;rw [jN] at h1 h2;by_cases e:x=y
    ·subst e;rw [if_pos ((p.eq x x px px).mpr rfl)] at h1 h2;rw [ih ys (λz hz=>hx z (Uu _ hz)) (λz hz=>hy z (Uu _ hz)) h1 h2]
    ·rw [if_neg λz=>e ((p.eq x y px py).mp z)] at h1;rw [if_neg λz=>e ((p.eq y x py px).mp z).symm] at h2;exact absurd (p.tri x y px py h1 h2) e
 tra:=by
  intro xs
  induction xs with
  | nil=>
   intro ys zs _ _ _ h1 h2;cases ys with
   | nil=>cases h1
   | cons y ys=>
    cases zs with
    | nil=>cases h2
    | cons z zs=>rfl
  | cons x xs ih=>
   intro ys zs hx hy hz h1 h2;cases ys with
   | nil=>cases h1
   | cons y ys=>
    cases zs with
    | nil=>cases h2
    | cons z zs=>
     have px:=hx x Uv;have py:=hy y Uv;have pz:=hz z Uv;exact BC p px py pz (ih ys zs (λz hz=>hx z (Uu _ hz)) (λz hz=>hy z (Uu _ hz)) λw hw=>hz w (Uu _ hw)) h1 h2
theorem OX:f7 λd=>∃k,d=.bl k where
 eq:=by rintro _ _ ⟨x,rfl⟩ ⟨y,rfl⟩;simp [bh]
 lt:=by rintro _ _ ⟨x,rfl⟩ ⟨y,rfl⟩;rfl
 asy:=by rintro _ _ ⟨x,rfl⟩ ⟨y,rfl⟩;revert x y;decide
 tri:=by
  rintro _ _ ⟨x,rfl⟩ ⟨y,rfl⟩ h1 h2;revert h1 h2;cases x <;> cases y <;> intro h1 h2
  ·rfl
  ·exact absurd h1 (by decide)
  ·exact absurd h2 (by decide)
  ·rfl
 tra:=by rintro _ _ _ ⟨x,rfl⟩ ⟨y,rfl⟩ ⟨z,rfl⟩;revert x y z;decide
theorem nE (x y:Int):eF (.int x) (.int y)=decide (x < y):=rfl
theorem OY:f7 λd=>∃k,d=.int k where
 eq:=by rintro _ _ ⟨x,rfl⟩ ⟨y,rfl⟩;simp [bh]
 lt:=by rintro _ _ ⟨x,rfl⟩ ⟨y,rfl⟩;rfl
 asy:=by rintro _ _ ⟨x,rfl⟩ ⟨y,rfl⟩ h;rw [nE,decide_eq_true_eq] at h;rw [nE,decide_eq_false_iff_not];omega
 tri:=by rintro _ _ ⟨x,rfl⟩ ⟨y,rfl⟩ h1 h2;rw [nE,decide_eq_false_iff_not] at h1 h2;rw [show x=y by omega]
 tra:=by rintro _ _ _ ⟨x,rfl⟩ ⟨y,rfl⟩ ⟨z,rfl⟩ h1 h2;rw [nE,decide_eq_true_eq] at h1 h2 ⊢;omega
theorem qZ (x y:Str):eF (.str x) (.str y)=decide (x.cps.toList < y.cps.toList):=rfl
theorem Ld {x y:Str}(h:x.cps.toList=y.cps.toList):x=y:=by obtain ⟨⟨cx⟩⟩:=x;obtain ⟨⟨cy⟩⟩:=y;simp only at h;rw [h]
theorem OZ:f7 λd=>∃k,d=.str k where
 eq:=by rintro _ _ ⟨x,rfl⟩ ⟨y,rfl⟩;simp [bh]
 lt:=by rintro _ _ ⟨x,rfl⟩ ⟨y,rfl⟩;rfl
 asy:=by rintro _ _ ⟨x,rfl⟩ ⟨y,rfl⟩ h;rw [qZ,decide_eq_true_eq] at h;rw [qZ,decide_eq_false_iff_not];exact List.lt_asymm h
 tri:=by rintro _ _ ⟨x,rfl⟩ ⟨y,rfl⟩ h1 h2;rw [qZ,decide_eq_false_iff_not] at h1 h2;rw [Ld (acR h2 h1)]
 tra:=by rintro _ _ _ ⟨x,rfl⟩ ⟨y,rfl⟩ ⟨z,rfl⟩ h1 h2;rw [qZ,decide_eq_true_eq] at h1 h2 ⊢;exact List.lt_trans h1 h2
inductive Fm where
 | b | i | s | hom (t:Fm) | tn | tc (x r:Fm)
noncomputable def mG:Fm->D->Prop
 | .b,d=>∃k,d=.bl k
 | .i,d=>∃k,d=.int k
 | .s,d=>∃k,d=.str k
 | .hom t,d=>∃xs,d=.tup xs/\∀x∈xs,mG t x
 | .tn,d=>∃xs,d=.tup xs/\xs=[]
 | .tc x r,d=>∃xs,d=.tup xs/\∃y ys,xs=y::ys/\mG x y/\mG r (.tup ys)
theorem f7.tail {Q:List D->Prop}(h:f7 R) (k:∀xs,Q xs->R (.tup xs)):lq Q where
 eq:=λx y hx hy=>by have:=h.eq _ _ (k x hx) (k y hy);rw [jK] at this;rw [this];exact ⟨λe=>by cases e;rfl,λe=>e▸rfl⟩
 lt:=λx y hx hy=>h.lt _ _ (k x hx) (k y hy)
 asy:=λx y hx hy=>h.asy _ _ (k x hx) (k y hy)
 tri:=λx y hx hy h1 h2=>by have:=h.tri _ _ (k x hx) (k y hy) h1 h2;cases this;rfl
 tra:=λx y z hx hy hz=>h.tra _ _ _ (k x hx) (k y hy) (k z hz)
theorem jW:∀t:Fm,f7 (mG t)
 | .b=>OX
 | .i=>OY
 | .s=>OZ
 | .hom t=>(jW t).list.tot
 | .tn=>lq.nil.tot
 | .tc x r=>(lq.cons (jW x) (f7.tail (Q:=λys=>mG r (.tup ys)) (jW r) λ_ h=>h)).tot
theorem ON (ds:List D):(bQ ds).length=ds.length:=by
 unfold bQ;by_cases h:ds.length < 2
 ·rw [if_pos h]
 ·rw [if_neg h,Uo];have:=((ju (n:=ds.length) (by omega)).run (ltB ds)).size_eq;simpa using this
theorem Ke (ds:List D):(Ur ds.length).map (dM ds)=ds:=by refine W8 (by simp) λi h1 h2=>?_;rw [VT,ab0];unfold dM;rw [Ym,UA h2];rfl
theorem jD (ds:List D):(bQ ds).Perm ds:=by
 unfold bQ;by_cases h:ds.length < 2
 ·rw [if_pos h]
 ·rw [if_neg h];have hp:=(ju (n:=ds.length) (by omega)).run (ltB ds);have hq:(a_ (ltB ds) (Yi ds.length)).toList.Perm (Ur ds.length):=by have:=Array.perm_iff_toList_perm.mp hp;simpa using this
  have:=hq.map (dM ds)
  rwa [Ke] at this
theorem HN (p:f7 P) (ds:List D) (h:∀x∈ds,P x):(bQ ds).Pairwise λx y=>eF y x=false:=by
 unfold bQ;by_cases h2:ds.length < 2
 ·rw [if_pos h2]
  match ds,h2 with
  | [],_=>exact .nil
  | [x],_=>exact VZ _ _
 ·rw [if_neg h2];have hn:0 < ds.length:=by omega
  have hb:=ju (n:=ds.length) hn;have at_P:∀i,i < ds.length->P (dM ds i):=λi hi=>h _ (ir hi)
  let q':Nat->Nat->Bool:=λi j=>if i < ds.length then (if j < ds.length then ltB ds i j else true) else false
  have hq:a_ (ltB ds) (Yi ds.length)=a_ q' (Yi ds.length):=HJ hb λi j hi hj=>by simp [q',hi,hj]
  have O:Ord q':=by
   constructor
   ·intro a b hab;by_cases ha:a < ds.length <;> by_cases hb:b < ds.length <;> simp [q',ha,hb] at hab ⊢
    exact p.asy _ _ (at_P a ha) (at_P b hb) hab
   ·intro a b c hab hbc;by_cases ha:a < ds.length <;> by_cases hb:b < ds.length <;> by_cases hc:c < ds.length <;> simp [q',ha,hb,hc] at hab hbc ⊢
    have h1:eF (dM ds b) (dM ds a)=false:=hab;have h2:eF (dM ds c) (dM ds b)=false:=hbc;show eF (dM ds c) (dM ds a)=false;cases g:eF (dM ds c) (dM ds a) with
    | false=>rfl
    | true=>
     have pa:=at_P a ha;have pb:=at_P b hb;have pc:=at_P c hc;cases g2:eF (dM ds a) (dM ds b) with
     | true=>
      have:=p.tra _ _ _ pc pa pb g g2;rw [this] at h2;cases h2
     | false=>
      rw [<-p.tri _ _ pb pa h1 g2] at g;rw [g] at h2;cases h2
  have up:=K_ O ds.length (by omega);have hs:=(hb.run (ltB ds));rw [hq] at hs ⊢;have hsz:(a_ q' (Yi ds.length)).size=ds.length:=by simpa using hs.size_eq
  generalize a_ q' (Yi ds.length)=A at *;rw [Vu,Vv];intro i j hi hj hij;rw [UJ] at hi hj;have:=up i j (by omega) (by omega);have e:∀k (hk:k < A.size),bG A k=A.toList[k]'(by rw [UJ];exact hk):=λk hk=>by show A.getD k 0=_;simp [Ww,hk]
  rw [e i hi,e j hj] at this;have l:∀k (hk:k < A.size),A.toList[k]'(by rw [UJ];exact hk) < ds.length:=λk hk=>by rw [<-e k hk];exact hs.lt hn k
  have li:=l i hi;have lj:=l j hj;simp only [q',li,lj,if_true] at this;exact this
end DL
namespace K52
open PySem DL
end K52
namespace K52
open PySem DL K01 WP K51
variable {P:D->Prop}
end K52
namespace DL
open PySem PySem.Spec PyProof.Rows L2
section
variable {w:U5}{prog:UG}{A:U8}{s:Um}{E:Uk->Um->Prop}
theorem JE {e it l:UL}{k:Nat}{vals:Array Uk}{x old:Uk}{S:Nat->VB->Prop}{Q:Uk->Um->Prop}(N:vm prog w it l vals S) (he:acI s.heap e it k old) (st:S k s.heap) (hx:vals[k]?=some x) (hne:e≠it) (hle:l≠e)
  (hQ:∀h',adl h' e it ((k:Int) + 1) x s.heap.objs.size->S (k + 1) h'->h'.get? s.heap.objs.size=some {cls:=.type "tuple",data:=.seq #[.int k s.toks,x]}->
   (∀(b:UL) o,b≠e->b≠it->s.heap.get? b=some o->h'.get? b=some o)->Q (.ref s.heap.objs.size) {s with heap:=h',toks:=s.toks + 1}):
  (UB (UO prog w) A (X6.«enumerate.__next__» ⟨[.ref e],[]⟩) (λfin s'=>∃v,fin=.done (.ret v)/\Q v s') E s):=by
 have move:∀{m:Nat}{h h':VB},S m h->Vc e h h'->S m h':=λst sb=>N.keep _ _ _ st (λo z=>sb.extBut _ _ (Ws hne) z) λo z=>sb.extBut _ _ hle z
 (obtain ⟨hp,g,d,tk,os⟩:=s)
 (show UB _ _ (field (.ref e) 2 >>= _) _ _ _)
 (refine Uh (Vo he rfl (x:=.ref it) rfl ?_))
 refine Uh (N.item _ _ k x _ _ st hx λg1 st1 b1=>?_)
 replace b1:Vc it hp g1:=b1
 have e1:acI g1 e it k old:=(b1.2 e hne).trans he;show UB _ _ (field (.ref e) 3 >>= _) _ _ ⟨g1,g,d,tk,os⟩;refine Uh (Vo e1 rfl (x:=YZ k) rfl ?_);show UB _ _ (field (.ref e) 4 >>= _) _ _ ⟨g1,g,d,tk,os⟩;refine Uh (Vo e1 rfl (x:=.none) rfl ?_);show UB _ _ (mkInt k >>= _) _ _ ⟨g1,g,d,tk,os⟩
 (refine Uh (wpAny_mkInt ?_))
 show UB _ _ (ac2 (.ref e) 3 (YZ ((k:Int) + 1)) >>= _) _ _ ⟨g1,g,d,tk + 1,os⟩;refine Uh (Vf e1 (by simp) λg2 e2 b2=>?_)
 replace b2:Vc e g1 g2:=b2
 replace e2:acI g2 e it ((k:Int) + 1) old:=e2
 show UB _ _ (ac2 (.ref e) 4 .none >>= _) _ _ ⟨g2,g,d,tk + 1,os⟩;refine Uh (Vf e2 (by simp) λg3 e3 b3=>?_)
 replace b3:Vc e g2 g3:=b3
 replace e3:acI g3 e it ((k:Int) + 1) old:=e3
 show UB _ _ (ac1 [.int k tk,x] >>= _) _ _ ⟨g3,g,d,tk + 1,os⟩
 (refine Uh (Zf ?_))
 have e4:acI (g3.push {cls:=.type "tuple",data:=.seq #[.int k tk,x]}) e it ((k:Int) + 1) old:=Ul _ e3;have z3:g3.objs.size=hp.objs.size:=by rw [b3.1,b2.1,b1.1]
 (have hel:e < hp.objs.size:=UC he)
 have t4:(g3.push {cls:=.type "tuple",data:=.seq #[.int k tk,x]}).get? hp.objs.size=some {cls:=.type "tuple",data:=.seq #[.int k tk,x]}:=by rw [<-z3];exact Us _ rfl
 have k4:∀b o,b≠e->b≠it->hp.get? b=some o->(g3.push {cls:=.type "tuple",data:=.seq #[.int k tk,x]}).get? b=some o:=λb o c1 c2 z=>Ul _ (b3.extBut b o c1 (b2.extBut b o c1 (b1.extBut b o c2 z)));have st4:S (k + 1) (g3.push {cls:=.type "tuple",data:=.seq #[.int k tk,x]}):=N.keep _ _ _ (move (move st1 b2) b3) (λo z=>Ul _ z) λo z=>Ul _ z;show UB _ _ (Vp (.ref e) >>= _) _ _ ⟨g3.push {cls:=.type "tuple",data:=.seq #[.int k tk,x]},g,d,tk + 1,os⟩;rw [z3];refine Uh ?_
 (unfold Vp)
 refine Uh (Vo e4 rfl (x:=.none) rfl (Uj ?_));simp only [if_true]
 (refine Uh (XX ?_))
 refine Uh (Vo e4 rfl (x:=old) rfl ?_);refine Uh (Vf e4 (by simp) λg5 e5 b5=>?_)
 replace b5:Vc e _ g5:=b5
 replace e5:acI g5 e it ((k:Int) + 1) x:=e5
 show UB _ _ (V8 (.ref e) (.ref hp.objs.size) >>= _) _ _ ⟨g5,g,d,tk + 1,os⟩;refine Uh ?_
 (unfold V8)
 refine Uh (Vf e5 (by simp) λg6 e6 b6=>?_)
 replace b6:Vc e g5 g6:=b6
 replace e6:adl g6 e it ((k:Int) + 1) x hp.objs.size:=e6
 refine Vf e6 (by simp) λg7 e7 b7=>?_
 replace b7:Vc e g6 g7:=b7
 replace e7:adl g7 e it ((k:Int) + 1) x hp.objs.size:=e7
 refine Uh (abD (Uj ⟨_,rfl,hQ g7 e7 (move (move (move st4 b5) b6) b7) ?_ ?_⟩))
 ·exact b7.extBut _ _ (WA hel) (b6.extBut _ _ (WA hel) (b5.extBut _ _ (WA hel) t4))
 ·exact λb o c1 c2 z=>b7.extBut b o c1 (b6.extBut b o c1 (b5.extBut b o c1 (k4 b o c1 c2 z)))
theorem JF {e it l:UL}{k:Nat}{vals:Array Uk}{x old:Uk}{S:Nat->VB->Prop}{Q:Option Uk->Um->Prop}(N:vm prog w it l vals S) (he:acI s.heap e it k old) (st:S k s.heap) (hx:vals[k]?=some x) (hne:e≠it) (hle:l≠e)
  (hQ:∀h',adl h' e it ((k:Int) + 1) x s.heap.objs.size->S (k + 1) h'->h'.get? s.heap.objs.size=some {cls:=.type "tuple",data:=.seq #[.int k s.toks,x]}->
   (∀b o,b≠e->b≠it->s.heap.get? b=some o->h'.get? b=some o)->Q (some (.ref s.heap.objs.size)) {s with heap:=h',toks:=s.toks + 1}):UB (UO prog w) A (Xy (.ref e)) Q E s:=by
 have zt:s.TypeIs (.ref e) "enumerate":=⟨_,he,rfl⟩;unfold Xy;exact Uh (WO (U0 (name:=V3 "__next__") zt X8 (U3 X8 zt aaM
  (JE N he st hx hne hle λh' a1 a2 a3 a4=>Uj (hQ h' a1 a2 a3 a4)) (aaw _))))
theorem JD {e it l:UL}{k:Nat}{vals:Array Uk}{old:Uk}{S:Nat->VB->Prop}{Q:Option Uk->Um->Prop}(hh:A.handled=none) (N:vm prog w it l vals S) (he:acI s.heap e it k old) (st:S k s.heap) (hx:vals[k]?=none)
  (hQ:∀h',ZI it s.heap h'->Q none {s with heap:=h'}):(UB (UO prog w) A (Xy (.ref e)) Q E s):=by
 have zt:s.TypeIs (.ref e) "enumerate":=⟨_,he,rfl⟩;unfold Xy;refine Uh (WO (U0 (name:=V3 "__next__") zt X8 (U3 X8 zt aaM ?_ (aaw _))))
 (show UB _ _ (field (.ref e) 2 >>= _) _ _ _)
 (refine Uh (Vo he rfl (x:=.ref it) rfl ?_))
 refine Uh (N.fin _ _ k _ _ hh st hx λh' x he' ⟨o,ho,hc⟩=>?_);exact Uh (XQ (T:="StopIteration") (b:=true) ⟨o,ho,hc⟩ Z8 (Uj (hQ _ he')))
end
abbrev Iz (h:VB) (k:String) (l:UL):VB:=h.push (f_ k l)
abbrev L5 (h:VB) (k:String) (l:UL):VB:=(Iz h k l).push {cls:=.type "enumerate",data:=.fields #[.none,.bool false,.ref h.objs.size,YZ 0,.none,.none]}
theorem L6 (k:String) (l:UL) (xs:Array Uk):
  Meets (X6.«enumerate.__new__» ⟨[.type "enumerate",.ref l],[]⟩) (λ_ R s=>DJ k s.heap l xs/\R (.ok (.ret (.ref (Iz s.heap k l).objs.size))) {s with heap:=L5 s.heap k l}):=
 .of_wp λprog w A (R:acD->Um->Prop) s h=>by
  obtain ⟨hp,g,d,tk,os⟩:=s;obtain ⟨q1,h⟩:=h;have hsub:=sub_enumerate;have L1:DJ k (adm ⟨hp,g,d,tk,os⟩) l xs:=q1
  wp_walk using oG L1
  (refine wpAny_stack_any λst=>Uj ?_)
  split
  ·rename_i c _ _ _ _ _
   (cases (c == W6 "enumerate"))
   ·wp_walk using oG L1
    exact ⟨_,rfl,h⟩
   ·wp_walk using oG L1
    exact ⟨_,rfl,h⟩
  ·wp_walk using oG L1
   exact ⟨_,rfl,h⟩
noncomputable def O4 (K:Ui) (k:String) (l:UL):It:=
 ⟨λi H=>∃xs x,ku k K H l xs/\xs[i]?=some x,
  λi H v H'=>∃p,H p=none/\v=.ref p/\∀xs x,ku k K H l xs->xs[i]?=some x->H'=upd H p (.tup [.int i,x]),
  λi H=>∃xs,ku k K H l xs/\xs.length<=i⟩
def Pe (k:String) (l e it:UL) (i:Nat) (h:VB):Prop:=(∃old,acI h e it i old)/\IQ k it l i h
theorem FZ {P:UG}{w:U5}{K:Ui}{elts:List U_}{kk:Nat}{tp:Pos}(k:String) (l e it:UL) (n1:e≠it):
  Turn P w K (.Tuple elts kk tp) (O4 K k l) [e,it] e (Pe k l e it) where
 mem:=by simp
 obj:=λi h st b hb=>by
  obtain ⟨⟨old,he⟩,q1⟩:=st
  (simp only [UK,Vz,or_false] at hb)
  rcases hb with rfl | rfl
  ·exact ⟨_,he,λv q=>by cases (show aeG _=afl v from q)⟩
  ·exact q1.obj
 keep:=λi h h' st kp=>by obtain ⟨⟨old,he⟩,q1⟩:=st;exact ⟨⟨old,kp e (by simp) _ he⟩,q1.keep λo z=>kp it (by simp) o z⟩
 item:=by
  intro X hP hw hK hc i T9 s σ H E I hf st hg;subst hP hw hK;obtain ⟨⟨old,he⟩,q1⟩:=st;obtain ⟨xs,x,s1,hx⟩:=hg;obtain ⟨its,r1,p1⟩:=s1.get I;obtain ⟨u,hu,ru⟩:=r1.get hx;have ne1:∀b∈[e,it],l≠b:=λb hb=>s1.ne I (hf b hb);refine JF (Es X.prog X.w k it l its.toArray (ne1 it (by simp))) he (q1.sq p1) (by simpa using hu) n1 (ne1 e (by simp)) λh' a1 a3 a5 hk=>?_;refine ⟨_,rfl,wpAny_letOwnedTupleGo_enum (s:={s with heap:=h',toks:=s.toks + 1}) a1 λh'' z'' sb=>?_⟩;have fT:H s.heap.objs.size=none:=I.hok.fresh (Uw _);have old':∀{b:UL}{o:Obj},s.heap.get? b=some o->b≠s.heap.objs.size:=λe=>UY (UC e);have eT:e≠s.heap.objs.size:=old' he;have kk':∀b o,b∉[e,it]->s.heap.get? b=some o->h''.get? b=some o:=λb o hb z=>by simp only [UK,Vz,or_false,not_or] at hb;exact sb.extBut _ _ hb.1 (hk b o hb.1 hb.2 z)
  have Tn:∀b∈[e,it],b≠s.heap.objs.size:=λb hb=>by
   (simp only [UK,Vz,or_false] at hb)
   rcases hb with rfl | rfl
   ·exact old' he
   ·exact old' q1.obj.choose_spec.1
  have up':∀{b:UL}{o:HO},H b=some o->upd H s.heap.objs.size (.tup [.int i,x]) b=some o:=λz=>by rw [bq (eu z fT)];exact z
  have I2:Inv X T9 σ (upd H s.heap.objs.size (.tup [.int i,x])) {s with heap:=h'',gens:=s.gens,drawn:=s.drawn,toks:=s.toks + 1}:=by
   refine I.step (ch:=[e,it]) (λb hb=>⟨(hf b hb).2.2.2.1,(hf b hb).2.1,(hf b hb).2.2.2.2.1,(hf b hb).2.2.2.2.2⟩) (λb o _ _ hb z _=>kk' b o hb z) (λb o _ _ hb z _=>⟨o.slots,kk' b o hb z⟩) (λb o hb z n=>by rw [bq (old' z)];exact n)
    (λb o hb z=>⟨o,kk' b o hb z⟩) (λb xs z=>up' z) (λb o q z=>up' z) (λb ps z=>⟨#[],by rw [Z2];exact up' z⟩) (λm hm=>?_) (λb q z=>?_) I.bare
   ·obtain ⟨o,es,ep,ho,r⟩:=hm;exact ⟨o,es,ep,kk' _ o (λhb=>(hf _ hb).2.1 rfl) ho,r⟩
   ·by_cases hb:b=s.heap.objs.size
    ·subst hb;rw [bN] at z;cases z;refine ⟨(by show 2<=sizeLine;decide),[.int i s.toks,u],.cons ⟨_,rfl⟩ (.cons ru .nil),⟨_,sb.extBut _ _ (Ws eT) a5,rfl,0,rfl⟩⟩
    ·rw [bq hb] at z;have nch:∀d,(d=b\/H d=some (.own b))->d∉[e,it]:=λd hd hm=>by
      have:=(hf d hm).1;rcases hd with rfl | hd
      ·rw [this] at z;cases z
      ·rw [this] at hd;cases hd
     exact (I.hok b q z).stay (λd o hd ho=>kk' d o (nch d hd) ho) (λ_ h=>up' h) λ_ _ h=>up' h
  refine ⟨.ref s.heap.objs.size,_,I2,rfl,⟨s.heap.objs.size,fT,rfl,λxs' x' c1 c3=>?_⟩,⟨⟨_,by simpa using z''⟩,a3.iq.keep λo z=>sb.extBut _ _ (Ws n1) z⟩,λb hb=>by rw [bq (Tn b hb)];exact (hf b hb).1⟩;have e1:=ku.inj I c1 s1;subst e1;rw [hx] at c3;cases c3;rfl
 done:=by
  intro X hP hw hK hc i T9 s σ H E I hf st hg;subst hP hw hK;obtain ⟨⟨old,he⟩,q1⟩:=st;obtain ⟨xs,s1,hend⟩:=hg;obtain ⟨its,r1,p1⟩:=s1.get I;have ne1:∀b∈[e,it],l≠b:=λb hb=>s1.ne I (hf b hb);have RY:its.toArray[i]?=none:=by have e1:=r1.length;simp;omega
  refine JD (I.ok.hd hc) (Es X.prog X.w k it l its.toArray (ne1 it (by simp))) he (q1.sq p1) RY λh' hk=>⟨rfl,?_⟩;have kk':∀b o,b∉[e,it]->s.heap.get? b=some o->h'.get? b=some o:=λb o hb z=>by simp only [UK,Vz,or_false,not_or] at hb;exact hk b o hb.2 z
  refine I.step (ch:=[e,it]) (g':=s.gens) (d':=s.drawn) (t':=s.toks) (λb hb=>⟨(hf b hb).2.2.2.1,(hf b hb).2.1,(hf b hb).2.2.2.2.1,(hf b hb).2.2.2.2.2⟩) (λb o _ _ hb z _=>kk' b o hb z) (λb o _ _ hb z _=>⟨o.slots,kk' b o hb z⟩) (λb o hb z n=>n)
    (λb o hb z=>⟨o,kk' b o hb z⟩) (λb xs z=>z) (λb o q z=>z) (λb ps z=>⟨#[],by rw [Z2];exact z⟩) (λm hm=>?_) (λb q z=>?_) I.bare
  ·obtain ⟨o,es,ep,ho,r⟩:=hm;exact ⟨o,es,ep,kk' _ o (λhb=>(hf _ hb).2.1 rfl) ho,r⟩
  ·have nch:∀d,(d=b\/H d=some (.own b))->d∉[e,it]:=λd hd hm=>by
    have:=(hf d hm).1;rcases hd with rfl | hd
    ·rw [this] at z;cases z
    ·rw [this] at hd;cases hd
   exact (I.hok b q z).stay (λd o hd ho=>kk' d o (nch d hd) ho) (λ_ h=>h) λ_ _ h=>h
 self:=λA i s Q E st h=>by obtain ⟨⟨old,he⟩,_⟩:=st;exact acs he h
section
variable {X:Cx}{c:C}{a:U_}{pos:Pos}{elts:List U_}{kk:Nat}{tp:Pos}
theorem D0:Vx "enumerate"=some (.type "enumerate"):=by decide +kernel
def Oe (K:Ui) (ta:TA):TI:=λσ H Q=>ta σ H λvs H1=>∃k l xs,vs=[.ref l]/\ku k K H1 l xs/\Q (O4 K k l) H1
theorem KG {ta:TA}{p:Pos}(hg:Gl X "enumerate") (hm:X.mg "enumerate"=none) (ha:PA X [a] ta) (hs:Ux [a] X.env=[(false,eval a X.env)]:=by rfl) (hs2:Ux [] X.env=[]:=by rfl):
  PI X (.Tuple elts kk tp) (.Call (.Name "enumerate" p) [a] [] pos) (Oe X.K ta):=by
 intro T9 s σ H R I h;refine Call_ (lF I hg hm D0 (Wn (bM (ha pos T9 s σ H _ I h) λus s1 ⟨vs,H1,I1,r1,q1⟩=>?_) (by rw [hs,hs2]) (by rw [hs2];rfl)));obtain ⟨k,l,xs,e,s1',q⟩:=q1;subst e;obtain ⟨its,v1,p1⟩:=s1'.get I1;cases r1 with
 | cons r rr=>
  cases rr;cases r;refine callType_new F.called_enumerate (by decide) (F.typeCall_enumerate_1 _) (F.newCall_enumerate_1 _) (λ_=>by first | exact F.args_object_init _ | rfl | decide) F.entry_enumerate_new (L6 k l its.toArray) ?_;refine ⟨p1,?_⟩;have gp:∀{h:VB}{q:UL}{u:Obj}(o:Obj),h.get? q=some u->(h.push o).get? q=some u:=λo e=>Ul _ e;refine ⟨⟨_,Us _ rfl,rfl⟩,acs (old:=.none) (i:=0) (Us _ rfl) ?_⟩;have e1:(Iz s1.heap k l).objs.size=s1.heap.objs.size + 1:=VD ..;have I5:Inv X T9 σ H1 {s1 with heap:=L5 s1.heap k l}:=I1.kept (t':=s1.toks) λb o h=>gp _ (gp _ h);refine ⟨_,[(Iz s1.heap k l).objs.size,s1.heap.objs.size],Pe k l _ _,_,H1,rfl,I5,FZ k l _ _ (by rw [e1];exact WA (Wc _)),?_,?_,q⟩
  ·refine ⟨⟨.none,Us _ rfl⟩,?_⟩;have h1:(L5 s1.heap k l).get? s1.heap.objs.size=some (f_ k l):=gp _ (Us _ rfl);rcases p1 with ⟨rfl,_⟩ | ⟨rfl,_⟩
   ·exact .inl ⟨rfl,_,h1,rfl,rfl⟩
   ·exact .inr ⟨rfl,_,h1,rfl,rfl⟩
  ·intro b hb;have hle:s1.heap.objs.size<=b:=by
    (simp only [UK,Vz,or_false] at hb)
    rcases hb with rfl | rfl
    ·rw [e1];exact Yy _
    ·exact Uw _
   exact I1.fpOk hle (I1.hok.fresh hle)
end
section
variable {X:Cx}{c:C}{e a b:U_}{es elts:List U_}{pos tp:Pos}{kk:Nat}
noncomputable def LK:R->M (List D)
 | .d (.tup xs)=>.ok xs
 | .d (.lst xs)=>.ok xs
 | _=>.bad
noncomputable def QK (gs:G (List R)):G (List D):=λenv=>gs env >>= λrs=>match rs with
 | [x,y]=>LK x >>= λxs=>LK y >>= λys=>.ok (List.zipWith (λa b=>.tup [a,b]) xs ys)
 | _=>.bad
theorem yX:cL X (.type "range") (λxs H Q=>∃j:Int,xs=[.int j]/\∀p,H p=none->Q (.ref p) (upd H p (.rng 0 j))):=by intro T9 s σ H xs us Q I r h;obtain ⟨j,rfl,q⟩:=h;obtain ⟨u,rfl,t,rfl⟩:=vals1 r;refine call_range_1 ⟨.ref s.heap.objs.size,_,I.laid (λb o e=>Ul _ e) (Uw _) (show cM X.prog X.w _ _ _ (.rng 0 j) from ⟨_,_,_,Us _ rfl⟩),rfl,q _ (I.hok.fresh (Uw _))⟩
def mw (n:Nat):List V:=(Ur n).map λ(k:Nat)=>V.int k
theorem HY {acc:Array Uk}(h:ItemsOf (λi v=>∃t,v=.int (0 + (i:Int) * 1) t) acc n):Vals (mw n) acc.toList:=by
 have key:∀(us:List Uk) (i:Nat),(∀j v,us[j]?=some v->∃t:Tok,v=aep ((i + j:Nat):Int) t)->Vals ((aeX i us.length).map λ(k:Nat)=>V.int k) us:=by
  intro us
  induction us with
  | nil=>exact λi _=>.nil
  | cons u us ih=>
   intro i hj;obtain ⟨t,e⟩:=hj 0 u rfl;rw [VG,acS,UH];refine .cons ⟨t,by rw [e];rfl⟩ (ih (i + 1) λj v hv=>?_);obtain ⟨t,e⟩:=hj (j + 1) v (by simpa using hv);exact ⟨t,by rw [e];congr 2;omega⟩
 have e:acc.toList.length=n:=by rw [UJ];exact h.1
 unfold mw;rw [abm,<-e];refine key acc.toList 0 λj v hv=>?_;obtain ⟨t,q⟩:=h.2 j v (by simpa using hv);exact ⟨t,by rw [q];congr 1;omega⟩
theorem xU (hc:X.calm=true):cL X (.type "list") (λxs H Q=>∃(p:UL) (j:Int),xs=[.ref p]/\H p=some (.rng 0 j)/\-(2 ^ 24)<=j/\j<=2 ^ 24/\∀l,H l=none->Q (.ref l) (upd H l (.lst (mw j.toNat)))):=by
 intro T9 s σ H xs us Q I r h;obtain ⟨p,j,rfl,hp,h0,h1,q⟩:=h;obtain ⟨u,rfl,rx⟩:=vals1 r;cases rx;obtain ⟨t,u,v,ho⟩:=I.hok p _ hp;have hn:Wm 0 j 1=(j.toNat:Int):=by rw [abL];split <;> omega
 refine call_list_range (I.ok.hd hc) ho (aet (by decide) (by decide) (by omega) (by omega)) hn (by omega) λh' tk acc' c' kp e hi=>?_;have hv:=HY hi;refine ⟨.ref s.heap.objs.size,_,I.laid kp (Uw _) (show cM X.prog X.w _ h' _ (.lst (mw j.toNat)) from ⟨?_,acc'.toList,c',hv,e⟩),rfl,q _ (I.hok.fresh (Uw _))⟩;unfold mw;rw [Uo,WV];show j.toNat<=2 ^ 24;omega
noncomputable def yi (gs:G (List R)):G R:=λenv=>gs env >>= λrs=>match rs with
 | [.d (.int j)]=>if below 16777216 j then .ok (.l .fresh (fU 0 j.toNat)) else .bad
 | _=>.bad
theorem HH {K:Ui}{J:Hp}(n:Nat):aK K J (fU 0 n) (mw n):=by
 unfold fU mw;generalize Ur n=ks
 induction ks with
 | nil=>exact .nil
 | cons k ks ih=>
  rw [UH,UH,Int.zero_add];exact .cons (.int _) ih
end
end DL
namespace DL
open PySem PySem.Spec PyProof.Rows L2 DX
section
variable {X:Cx}{c:C}{e a:U_}{es:List U_}{ga g:G R}{pos:Pos}{L:List Str}{T:Str->Bool}
theorem Dk {p p2 pos2:Pos}{gs:G (List R)}(ha:i6 X c [a] gs) (hm:X.mg "range"=none) (hm2:X.mg "list"=none) (hc:X.calm=true:=by rfl) (hK:X.K=c.K:=by rfl) (hg:Gl X "range":=by rfl) (RO:Gl X "list":=by rfl)
  (hs:Ux [a] X.env=(false,eval a X.env)::Ux [] X.env:=by rfl) (hs0:(Wk pos (Ux [] X.env)).any (·.1)=false:=by rfl) (hs2:Ux [Yr (.Name "range" p) [a] [] pos] X.env=(false,eval (Yr (.Name "range" p) [a] [] pos) X.env)::Ux [] X.env:=by rfl) (RV:(Wk pos2 (Ux [] X.env)).any (·.1)=false:=by rfl):
  QD X c (.Call (.Name "list" p2) [.Call (.Name "range" p) [a] [] pos] [] pos2) (yi gs):=by
 have ha:=ha.h;refine ⟨?_⟩;have h1:=j_ (p:=p) (pos:=pos) yX hg hm adT ha (by decide) (by decide) hs hs0;have h2:=j_ (p:=p2) (pos:=pos2) (xU hc) RO hm2 uu (eK h1 gW hs2) (by decide) (by decide) hs2 RV;refine fC h2 λσ H Q ⟨J,env,sr,w⟩=>?_;refine ⟨J,env,sr,aE (aI w) λrs wr vs J1 H1 e1 r1=>?_⟩;split at wr
 ·rename_i j;obtain ⟨v,rfl,r⟩:=r1.one;cases r;split at wr
  ·rename_i hb;obtain ⟨b1,b2⟩:=cG.mp hb;refine ⟨j,rfl,λq hq=>?_⟩;refine ⟨q,j,rfl,bN,by omega,by omega,λl hl=>?_⟩;have hp1:=sr.hp.ext e1;have e2:=Ext.new hp1.sub hq (.rng 0 j);have hp2:=hp1.ext e2;have hr:RR c H1 J1 (upd (upd H1 q (.rng 0 j)) l (.lst (mw j.toNat))) (.l .fresh (fU 0 j.toNat)) (.ref l):=by obtain ⟨a,us,x1,x2,x3,x4,x5⟩:=ia (c:=c) hp2 hl (HH j.toNat);exact ⟨a,us,x1,x2,x3,e2.h.free x4,x5⟩
   exact wr _ _ _ ((e1.trans e2).trans (Ext.new hp2.sub hl _)) (by
    obtain ⟨a,us,x1,x2,x3,x4,x5⟩:=hr;exact ⟨a,us,x1,x2,x3,e1.h.free x4,x5⟩)
  ·exact wr.elim
 ·exact wr.elim
end
end DL
namespace DL
open PySem PySem.Spec PyProof.Rows L2
section
variable {X:Cx}{c:C}{a:U_}{pos:Pos}{elts:List U_}{kk:Nat}{tp:Pos}
def lZ (xs:List D):List D:=xs.zipIdx.map λp=>.tup [.int p.2,p.1]
theorem Gq {xs:List D}{i:Nat}{d:D}(h:(lZ xs)[i]?=some d):∃x,xs[i]?=some x/\d=.tup [.int i,x]:=by
 unfold lZ at h;rw [UT,List.getElem?_zipIdx] at h;cases q:xs[i]? with
 | none=>rw [q] at h;simp at h
 | some x=>rw [q] at h;simp at h;exact ⟨x,rfl,h.symm⟩
theorem Ep (xs:List D):(lZ xs).length=xs.length:=by unfold lZ;simp
noncomputable def IE (gs:G (List R)):G (List D):=λenv=>gs env >>= λrs=>match rs with
 | [x]=>yO x >>= λxs=>.ok (lZ xs)
 | _=>.bad
end
end DL
namespace DL
open PySem PySem.Spec PyProof.Rows L2 DX
open PySem.W (KasT kas_sort kas_ask)
section
variable {X:Cx}{c:C}{e:U_}{es:List U_}{pos:Pos}
noncomputable def nh:List R->M R
 | [r]=>iK r >>= λxs=>if w5 xs=true then .ok (.l .fresh (bQ xs)) else if zT xs=true then .ok (.l .fresh (bQ xs)) else .bad
 | _=>.bad
theorem xm {p:Pos}{gs:G (List R)}(hu:X.A.units + 64 < V6) (ha:i6 X c (e::es) gs) (hm:X.mg "sorted"=none) (hK:X.K=c.K:=by rfl) (hg:Gl X "sorted":=by rfl)
  (he:Ux (e::es) X.env=(false,eval e X.env)::Ux es X.env:=by rfl) (hpl:(Wk pos (Ux es X.env)).any (·.1)=false:=by rfl):QD X c (.Call (.Name "sorted" p) (e::es) [] pos) (gN nh gs):=have ha:=ha.h;⟨
 jO (yZ hu) (by
  intro He J H xs vs Q hp rs w;unfold nh at w;split at w
  ·obtain ⟨v,rfl,r⟩:=rs.one;obtain ⟨xs,q,w⟩:=jj w;obtain ⟨p,vs,rfl,h1,h2⟩:=kQ hp r q;rw [hK];split at w
   ·rename_i ok;exact ⟨p,vs,xs,rfl,h1,h2.mono hp.sub,.inl ok,λl vs' hl rr=>w _ _ _ (Ext.new hp.sub hl _) (ia hp hl (rr _ h2))⟩
   ·split at w
    ·rename_i ok;exact ⟨p,vs,xs,rfl,h1,h2.mono hp.sub,.inr ok,λl vs' hl rr=>w _ _ _ (Ext.new hp.sub hl _) (ia hp hl (rr _ h2))⟩
    ·exact w.elim
  ·exact w.elim) ly hm ha hg (by decide) (by decide) he hpl⟩
end
end DL
namespace DL
open PySem PySem.Spec PyProof.Rows L2 DX
end DL
namespace ST
open PySem PySem.SetTable
theorem vM (xs:Array Nat) (j:Nat) (hs:xs.toList.Pairwise (· < ·)):∀(f lo hi:Nat),hi<=xs.size->lo<=hi->hi - lo<=f->(∀i,i < lo->xs.getD i 0 < j)->(∀i,hi<=i->i < xs.size->j<=xs.getD i 0)->
  below.go xs j f lo hi<=xs.size/\(∀i,i < below.go xs j f lo hi->xs.getD i 0 < j)/\∀i,below.go xs j f lo hi<=i->i < xs.size->j<=xs.getD i 0
 | 0,lo,hi,h1,h2,h3,h4,h5=>by
  have:lo=hi:=by omega
  subst this;exact ⟨h1,h4,h5⟩
 | f + 1,lo,hi,h1,h2,h3,h4,h5=>by
  have mono:∀a b,a<=b->b < xs.size->xs.getD a 0<=xs.getD b 0:=λa b hab hb=>by
   rcases ab1 hab with h | h
   ·have:=Vv.mp hs a b (by simpa using XA h hb) (by simpa using hb) h;simp [Ww,XA h hb,hb] at this ⊢;omega
   ·rw [h];exact Uw _
  unfold below.go;by_cases c:lo < hi
  ·rw [if_pos c];have hm:(lo + hi) / 2 < xs.size:=by omega
   have e:xs.getD ((lo + hi) / 2) j=xs.getD ((lo + hi) / 2) 0:=by simp [Ww,hm]
   by_cases d:xs.getD ((lo + hi) / 2) j < j
   ·simp only [d,if_true];rw [e] at d;exact vM xs j hs f _ hi h1 (by omega) (by omega) (λi hi'=>Z0 (mono i ((lo + hi) / 2) (by omega) hm) d) h5
   ·simp only [d,if_false];rw [e] at d;exact vM xs j hs f lo _ (by omega) (by omega) (by omega) h4 (λi hi' hs'=>U1 (by omega) (mono ((lo + hi) / 2) i hi' hs'))
  ·rw [if_neg c];have:lo=hi:=by omega
   subst this;exact ⟨h1,h4,h5⟩
theorem nV (xs:Array Nat) (j:Nat) (hs:xs.toList.Pairwise (· < ·)):below xs j<=xs.size/\(∀i,i < below xs j->xs.getD i 0 < j)/\∀i,below xs j<=i->i < xs.size->j<=xs.getD i 0:=
 vM xs j hs xs.size 0 xs.size (Uw _) (UX _) (by omega) (λi h=>absurd h (VI _)) (λi h1 h2=>by omega)
theorem below_at {xs:Array Nat}(hs:xs.toList.Pairwise (· < ·)) (h:xs[i]?=some j):below xs j=i:=by
 obtain ⟨hi,e⟩:=V1.mp h;obtain ⟨b1,b2,b3⟩:=nV xs j hs;have g:xs.getD i 0=j:=by simp [Ww,hi,e]
 rcases Yj (below xs j) i with c | c | c
 ·have h1:=b3 (below xs j) (Uw _) (by omega);have:=Vv.mp hs (below xs j) i (by simpa using XA c hi) (by simpa using hi) c;simp [Ww,XA c hi] at h1;simp at this;omega
 ·exact c
 ·have:=b2 i c;omega
theorem xF {t:Wt}(hs:t.place.toList.Pairwise (· < ·)) (h:t.place[i]?=some j):t.slot j=.live i:=by unfold slot;rw [below_at hs h];show (if (t.place[i]? == some j)=true then Slot.live i else _)=_;rw [h];simp
theorem Dq {t:Wt}(hd:t.dummies=#[]) (h:j∉t.place.toList):t.slot j=.empty:=by
 unfold slot;have h1:(t.place[below t.place j]? == some j)=false:=by
  rw [beq_eq_false_iff_ne];intro z;exact h (by
   obtain ⟨hi,e⟩:=V1.mp z;rw [<-e];simp)
 have h2:has t.dummies j=false:=by rw [hd];rfl
 simp only [h1,h2,UE,if_false]
noncomputable def st (mask:Nat) (h:Int):Nat->Probe
 | 0=>({mask:=mask,place:=#[],dummies:=#[],finger:=0,led:=true,moves:=0,plain:=true}:Wt).probeStart h
 | n + 1=>({mask:=mask,place:=#[],dummies:=#[],finger:=0,led:=true,moves:=0,plain:=true}:Wt).advance (st mask h n)
abbrev pos (mask:Nat) (h:Int) (n:Nat):Nat:=(st mask h n).j
theorem t7 (mask:Nat) (h:Int):∀n,(st mask h n).dummy=none
 | 0=>rfl
 | n + 1=>by
  unfold st advance;split
  ·exact t7 mask h n
  ·exact t7 mask h n
noncomputable def tn (mask:Nat) (h:Int):Nat->Nat×Nat
 | 0=>(bits h % (mask + 1),bits h)
 | k + 1=>leap mask (tn mask h k).1 (tn mask h k).2
theorem xA (mask:Nat) (h:Int):∀(m n:Nat) (i p j:Nat),st mask h n={j:=j,more:=m,i:=i,perturb:=p,dummy:=none}->st mask h (n + m)={j:=j + m,more:=0,i:=i,perturb:=p,dummy:=none}
 | 0,n,i,p,j,e=>e
 | m + 1,n,i,p,j,e=>by
  have e1:st mask h (n + 1)={j:=j + 1,more:=m,i:=i,perturb:=p,dummy:=none}:=by show advance _ (st mask h n)=_;rw [e];unfold advance;simp
  have:=xA mask h m (n + 1) i p (j + 1) e1;rw [show n + (m + 1)=n + 1 + m by omega,this];congr 1;omega
theorem B3 (mask:Nat) (h:Int):∀k,∃n,n<=10 * k/\st mask h n={j:=(tn mask h k).1,more:=runEnd mask (tn mask h k).1 - (tn mask h k).1,i:=(tn mask h k).1,perturb:=(tn mask h k).2,dummy:=none}
 | 0=>⟨0,Uw _,rfl⟩
 | k + 1=>by
  obtain ⟨n,hn,e⟩:=B3 mask h k;have hm:runEnd mask (tn mask h k).1 - (tn mask h k).1<=9:=by unfold runEnd;split <;> omega
  have:=xA mask h _ n _ _ _ e;refine ⟨n + (runEnd mask (tn mask h k).1 - (tn mask h k).1) + 1,by omega,?_⟩;show advance _ (st mask h (n + (runEnd mask (tn mask h k).1 - (tn mask h k).1)))=_;rw [this];unfold advance;simp;exact ⟨rfl,rfl,rfl,rfl⟩
theorem vg (mask:Nat) (h:Int):∀k,(tn mask h k).2=bits h / 32 ^ k
 | 0=>by simp [tn]
 | k + 1=>by show (tn mask h k).2 / 32=_;rw [vg mask h k,aaN,acJ]
theorem Jw (h:Int):bits h < 2 ^ 64:=by unfold bits;have:=YQ h (b:=2 ^ 64) (by decide);omega
def EO (mask i:Nat):Nat:=(i * 5 + 1) % (mask + 1)
noncomputable def iG (mask:Nat):Nat->Nat->Nat
 | 0,i=>i
 | r + 1,i=>EO mask (iG mask r i)
theorem Aq (mask:Nat) (h:Int):∀r,(tn mask h (12 + r)).1=iG mask r (tn mask h 12).1
 | 0=>rfl
 | r + 1=>by
  show (leap mask (tn mask h (12 + r)).1 (tn mask h (12 + r)).2).1=EO mask (iG mask r (tn mask h 12).1);rw [<-Aq mask h r,vg];unfold leap EO;have:bits h / 32 ^ (12 + r) / 32=0:=by rw [aaN,<-acJ];refine Nat.div_eq_of_lt (UQ (Jw h) ?_);refine U1 (show 2 ^ 64<=32 ^ 13 by decide) (WK (by decide) (by omega))
  rw [this]
theorem PF:∀i:Fin 8,∀j:Fin 8,(Ur 8).any (λr=>iG 7 r i.val == j.val)=true:=by decide +kernel
theorem Oc:∀i:Fin 32,∀j:Fin 32,(Ur 32).any (λr=>iG 31 r i.val == j.val)=true:=by decide +kernel
def L4:List Nat:=(Ur 128).map λr=>iG 127 r 0
theorem Bh:∀j:Fin 128,L4.contains j.val=true:=by decide +kernel
theorem Jz:iG 127 128 0=0:=by decide +kernel
theorem oz (mask:Nat):∀a b i,iG mask (a + b) i=iG mask a (iG mask b i)
 | 0,b,i=>by rw [Z3];rfl
 | a + 1,b,i=>by rw [show a + 1 + b=(a + b) + 1 by omega];show EO mask (iG mask (a + b) i)=EO mask (iG mask a (iG mask b i));rw [oz mask a b i]
def pT (mask:Nat):Prop:=mask=7\/mask=31\/mask=127
theorem El {mask:Nat}(hm:pT mask) (i j:Nat) (hi:i<=mask) (hj:j<=mask):∃r,r<=mask/\iG mask r i=j:=by
 rcases hm with rfl | rfl | rfl
 ·have:=PF ⟨i,by omega⟩ ⟨j,by omega⟩;rw [Wr] at this;obtain ⟨r,h1,h2⟩:=this;exact ⟨r,by have:=UP.mp h1;omega,by simpa using h2⟩
 ·have:=Oc ⟨i,by omega⟩ ⟨j,by omega⟩;rw [Wr] at this;obtain ⟨r,h1,h2⟩:=this;exact ⟨r,by have:=UP.mp h1;omega,by simpa using h2⟩
 ·have hi':=Bh ⟨i,by omega⟩;have hj':=Bh ⟨j,by omega⟩;rw [List.contains_iff_mem] at hi' hj';obtain ⟨a,ha,ea⟩:=UD.mp hi';obtain ⟨b,hb,eb⟩:=UD.mp hj';have ha:=UP.mp ha;have hb:=UP.mp hb;have ea:iG 127 a 0=i:=ea;have eb:iG 127 b 0=j:=eb;by_cases c:a<=b
  ·refine ⟨b - a,by omega,?_⟩;rw [<-ea,<-oz,show b - a + a=b by omega];exact eb
  ·refine ⟨128 + b - a,by omega,?_⟩;rw [<-ea,<-oz,show 128 + b - a + a=b + 128 by omega,oz,Jz];exact eb
theorem Dw (mask:Nat) (h:Int) (k:Nat):(tn mask h k).1<=mask:=by
 cases k with
 | zero=>exact Y_ (abf _ (by omega))
 | succ k=>exact Y_ (abf _ (by omega))
theorem visits {mask:Nat}(hm:pT mask) (h:Int) (j:Nat) (hj:j<=mask):∃n,n<=10 * (mask + 12)/\pos mask h n=j:=by obtain ⟨r,hr,e⟩:=El hm (tn mask h 12).1 j (Dw mask h 12) hj;obtain ⟨n,hn,q⟩:=B3 mask h (12 + r);refine ⟨n,by omega,?_⟩;show (st mask h n).j=j;rw [q];show (tn mask h (12 + r)).1=j;rw [Aq,e]
theorem CK {mask:Nat}(hm:pT mask) (h:Int) (P:List Nat) (hP:P.length<=mask):∃n,n<=10 * (mask + 12)/\pos mask h n∉P/\∀m,m < n->pos mask h m∈P:=by
 have ex:∃j,j<=mask/\j∉P:=by
  by_cases c:∀j,j<=mask->j∈P
  ·exfalso;have:(Ur (mask + 1)).length<=P.length:=Vs W9 λj hj=>c j (by have:=UP.mp hj;omega);rw [WV] at this;omega
  ·exact Xm λz=>c λj hj=>Xm λy=>z ⟨j,hj,y⟩
 obtain ⟨j,hj,hn⟩:=ex;obtain ⟨n,hn1,hn2⟩:=visits hm h j hj;have key:∀k,k<=n->(∃m,m<=k/\pos mask h m∉P/\∀m',m' < m->pos mask h m'∈P)\/∀m,m<=k->pos mask h m∈P:=by
  intro k
  induction k with
  | zero=>
   intro _;by_cases c:pos mask h 0∈P
   ·exact .inr λm hm=>by rw [show m=0 by omega];exact c
   ·exact .inl ⟨0,Uw _,c,λm' h'=>absurd h' (VI _)⟩
  | succ k ih=>
   intro hk;rcases ih (by omega) with ⟨m,h1,h2⟩ | h1
   ·exact .inl ⟨m,by omega,h2⟩
   ·by_cases c:pos mask h (k + 1)∈P
    ·exact .inr λm hm=>by
      by_cases d:m<=k
      ·exact h1 m d
      ·rw [show m=k + 1 by omega];exact c
    ·exact .inl ⟨k + 1,Uw _,c,λm' h'=>h1 m' (by omega)⟩
 rcases key n (Uw _) with ⟨m,h1,h2,h3⟩ | h1
 ·exact ⟨m,by omega,h2,h3⟩
 ·exact absurd (h1 n (Uw _)) (by rw [hn2];exact hn)
def Reach (mask:Nat) (P:List Nat) (h:Int) (j:Nat):Prop:=∃n,pos mask h n=j/\∀m,m < n->pos mask h m∈P
theorem Reach.mono {mask:Nat}{P P':List Nat}{h:Int}{j:Nat}(r:Reach mask P h j) (s:∀x∈P,x∈P'):Reach mask P' h j:=
 let ⟨n,h1,h2⟩:=r;⟨n,h1,λm hm=>s _ (h2 m hm)⟩
structure Tab (t:Wt) (es:Array (Int×Uk)) (L:List (Nat×Int×Uk)):Prop where
 dm:t.dummies=#[]
 pl:t.place.toList=L.map (·.1)
 en:es.toList=L.map (·.2)
 so:(L.map (·.1)).Pairwise (· < ·)
 bd:∀e∈L,e.1<=t.mask
 mo:pT t.mask
 fl:L.length<=t.mask
 pr:∀e∈L,Reach t.mask (L.map (·.1)) e.2.1 e.1
section
variable {t:Wt}{es:Array (Int×Uk)}{L:List (Nat×Int×Uk)}
theorem Tab.at_ (T:Tab t es L){i:Nat}{e:Nat×Int×Uk}(h:L[i]?=some e):t.place[i]?=some e.1/\es[i]?=some e.2:=by
 constructor
 ·rw [<-VP,T.pl,UT,h];rfl
 ·rw [<-VP,T.en,UT,h];rfl
theorem Tab.sop (T:Tab t es L):t.place.toList.Pairwise (· < ·):=by rw [T.pl];exact T.so
theorem zV (T:Tab t es L) (hashAt:Nat->Int) (hA:∀i e,es[i]?=some e->hashAt i=e.1) (h:Int) (n0:Nat) (hf:pos t.mask h n0∉L.map (·.1)) (hb:∀m,m < n0->pos t.mask h m∈L.map (·.1)):
  ∀(d n F:Nat),n0 - n=d->n<=n0->d < F->∃m,n<=m/\m<=n0/\(∀k,n<=k->k < m->∀e∈L,e.1=pos t.mask h k->e.2.1≠h)/\
   ((m=n0/\probe.go t hashAt h F (st t.mask h n)=some (.empty (pos t.mask h n0) none))\/(m < n0/\∃i e,L[i]?=some e/\e.1=pos t.mask h m/\e.2.1=h/\probe.go t hashAt h F (st t.mask h n)=some (.candidate (pos t.mask h m) i (st t.mask h (m + 1)))))
 | d,n,0,_,_,h=>absurd h (VI _)
 | d,n,F + 1,hd,hn,hF=>by
  by_cases c:n=n0
  ·subst c;refine ⟨n,Uw _,Uw _,λk h1 h2=>by omega,.inl ⟨rfl,?_⟩⟩;unfold probe.go;rw [Dq T.dm (by rw [T.pl];exact hf)];show some (Met.empty _ (st t.mask h n).dummy)=_;rw [t7]
  ·obtain ⟨e,he,ej⟩:=UD.mp (hb n (by omega));obtain ⟨i,hi,rfl⟩:=VM.mp he;have hL:L[i]?=some L[i]:=UA hi;obtain ⟨p1,p2⟩:=T.at_ hL;have hs:t.slot (pos t.mask h n)=.live i:=xF T.sop (by rw [p1,ej]);have hh:=hA i _ p2;have uniq:∀e∈L,e.1=pos t.mask h n->e=L[i]:=λe he q=>by
    obtain ⟨k,hk,rfl⟩:=VM.mp he;have:k=i:=by
     have sw:=Vv.mp T.so;rcases Yj k i with c | c | c
     ·have:=sw k i (by simpa using hk) (by simpa using hi) c;simp at this;omega
     ·exact c
     ·have:=sw i k (by simpa using hi) (by simpa using hk) c;simp at this;omega
    subst this;rfl
   by_cases q:L[i].2.1=h
   ·refine ⟨n,Uw _,by omega,λk h1 h2=>by omega,.inr ⟨by omega,i,L[i],hL,ej,q,?_⟩⟩;unfold probe.go;rw [hs];show (if (hashAt i == h)=true then _ else _)=_;rw [hh,q,if_pos (by simp)];rfl
   ·obtain ⟨m,m1,m2,m3,m4⟩:=zV T hashAt hA h n0 hf hb (n0 - (n + 1)) (n + 1) F rfl (by omega) (by omega);have eg:probe.go t hashAt h (F + 1) (st t.mask h n)=probe.go t hashAt h F (st t.mask h (n + 1)):=by rw [probe.go,hs];show (if (hashAt i == h)=true then _ else _)=_;rw [hh,if_neg (by simpa using q)];rfl
    rw [eg];refine ⟨m,by omega,m2,λk h1 h2 e he' ek=>?_,m4⟩;by_cases z:k=n
    ·subst z;rw [uniq e he' ek];exact q
    ·exact m3 k (by omega) h2 e he' ek
theorem pD {α:Type}(xs:Array α) (p:Nat) (x:α) (hp:p<=xs.size):(insertAt xs p x).toList=xs.toList.take p++x::xs.toList.drop p:=by
 unfold insertAt;simp
 (exact List.take_of_length_le (by simp))
theorem Tab.put (T:Tab t es L) (h:Int) (x:Uk) (n0:Nat) (hf:pos t.mask h n0∉L.map (·.1)) (hb:∀m,m < n0->pos t.mask h m∈L.map (·.1)) (hj:pos t.mask h n0<=t.mask) (hl:L.length + 1<=t.mask):
  ∃L',Tab (t.put (pos t.mask h n0)).1 (insertAt es (t.put (pos t.mask h n0)).2 (h,x)) L'/\L'.Perm ((pos t.mask h n0,h,x)::L):=by
 obtain ⟨b1,b2,b3⟩:=nV t.place (pos t.mask h n0) T.sop;generalize hp:below t.place (pos t.mask h n0)=p at b1 b2 b3;have hsz:t.place.size=L.length:=by rw [<-UJ,T.pl,Uo]
 have hes:es.size=L.length:=by rw [<-UJ,T.en,Uo]
 have perm:(L.take p++(pos t.mask h n0,h,x)::L.drop p).Perm ((pos t.mask h n0,h,x)::L):=by
  have:=acT (a:=(pos t.mask h n0,h,x)) (l₁:=L.take p) (l₂:=L.drop p)
  rwa [aa3] at this
 have e1:(t.put (pos t.mask h n0))=({t with place:=insertAt t.place p (pos t.mask h n0),dummies:=#[]},p):=by unfold SetTable.put;rw [hp,T.dm];rfl
 rw [e1];have getP:∀i (hi:i < L.length),t.place.getD i 0=L[i].1:=λi hi=>by
  have:=(T.at_ (UA hi)).1;have hi':i < t.place.size:=by omega
  simp [Ww,hi'];rw [V9 hi'] at this;exact VF this
 refine ⟨L.take p++(pos t.mask h n0,h,x)::L.drop p,⟨rfl,?_,?_,?_,λe he=>?_,T.mo,?_,λe he=>?_⟩,perm⟩
 ·show (insertAt t.place p (pos t.mask h n0)).toList=_;rw [pD _ _ _ b1,T.pl];simp [Zy,aax]
 ·show (insertAt es p (h,x)).toList=_;rw [pD _ _ _ (by omega),T.en];simp [Zy,aax]
 ·rw [UN,UH,V2];refine ⟨?_,?_,?_⟩
  ·rw [Zy];exact T.so.sublist (Y5 _ _)
  ·rw [Xc];refine ⟨λa ha=>?_,?_⟩
   ·obtain ⟨e,he,rfl⟩:=UD.mp ha;obtain ⟨i,hi,rfl⟩:=VM.mp he;rw [acu];rw [WI] at hi;have:=b3 (p + i) (by omega) (by omega);rw [getP _ (by omega)] at this;rcases ab1 this with c | c
    ·exact c
    ·exact absurd (UD.mpr ⟨L[p + i],U9 _,c.symm⟩) hf
   ·rw [aax];exact T.so.sublist (List.drop_sublist _ _)
  ·intro a ha b hb;obtain ⟨e,he,rfl⟩:=UD.mp ha;obtain ⟨i,hi,rfl⟩:=VM.mp he;rw [aaf];rw [Vy] at hi;have h1:=b2 i (by omega);rw [getP _ (by omega)] at h1
   (rcases UK.mp hb with rfl | hb)
   ·exact h1
   ·obtain ⟨e,he,rfl⟩:=UD.mp hb;obtain ⟨k,hk,rfl⟩:=VM.mp he;rw [acu];rw [WI] at hk;have:=b3 (p + k) (by omega) (by omega);rw [getP _ (by omega)] at this;omega
 ·rcases UK.mp (perm.mem_iff.mp he) with rfl | he
  ·exact hj
  ·exact T.bd e he
 ·rw [perm.length_eq];exact hl
 ·have sub:∀y∈L.map (·.1),y∈(L.take p++(pos t.mask h n0,h,x)::L.drop p).map (·.1):=λy hy=>by obtain ⟨e,he,rfl⟩:=UD.mp hy;exact UD.mpr ⟨e,perm.mem_iff.mpr (Uu _ he),rfl⟩
  rcases UK.mp (perm.mem_iff.mp he) with rfl | he
  ·exact ⟨n0,rfl,λm hm=>sub _ (hb m hm)⟩
  ·exact (T.pr e he).mono sub
end
theorem nM (mask:Nat) (h:Int) (n i p m:Nat) (e:st mask h n={j:=i,more:=m,i:=i,perturb:=p,dummy:=none}):∀r,r<=m->st mask h (n + r)={j:=i + r,more:=m - r,i:=i,perturb:=p,dummy:=none}
 | 0,_=>e
 | r + 1,hr=>by show advance _ (st mask h (n + r))=_;rw [nM mask h n i p m e r (by omega)];unfold advance;rw [if_pos (by show m - r > 0;omega)];show Probe.mk _ _ _ _ _=_;congr 1
theorem F1 (mask:Nat) (h:Int) (k n:Nat) (e:st mask h n={j:=(tn mask h k).1,more:=runEnd mask (tn mask h k).1 - (tn mask h k).1,i:=(tn mask h k).1,perturb:=(tn mask h k).2,dummy:=none}):
  st mask h (n + (runEnd mask (tn mask h k).1 - (tn mask h k).1) + 1)={j:=(tn mask h (k + 1)).1,more:=runEnd mask (tn mask h (k + 1)).1 - (tn mask h (k + 1)).1,i:=(tn mask h (k + 1)).1,perturb:=(tn mask h (k + 1)).2,dummy:=none}:=by show advance _ (st mask h (n + (runEnd mask (tn mask h k).1 - (tn mask h k).1)))=_;rw [nM mask h n _ _ _ e _ (Uw _)];unfold advance;simp;exact ⟨rfl,rfl,rfl,rfl⟩
theorem wO (mask:Nat) (h:Int) (owner:Array (Option Nat)) (G:List Nat) (ho:∀j,j<=mask->((owner.getD j (some 0)).isNone=true↔j∉G)):
  ∀(f k n:Nat),st mask h n={j:=(tn mask h k).1,more:=runEnd mask (tn mask h k).1 - (tn mask h k).1,i:=(tn mask h k).1,perturb:=(tn mask h k).2,dummy:=none}->(∀m,m < n->pos mask h m∈G)->
   (∃n',layClean.free mask owner f (tn mask h k).1 (tn mask h k).2=some (pos mask h n')/\pos mask h n'<=mask/\pos mask h n'∉G/\∀m,m < n'->pos mask h m∈G)\/(layClean.free mask owner f (tn mask h k).1 (tn mask h k).2=none/\∀r,r < f->(tn mask h (k + r)).1∈G)
 | 0,k,n,e,hb=>.inr ⟨rfl,λr hr=>absurd hr (VI _)⟩
 | f + 1,k,n,e,hb=>by
  have hi:=Dw mask h k;have re:runEnd mask (tn mask h k).1<=mask/\(tn mask h k).1<=runEnd mask (tn mask h k).1:=by unfold runEnd;split <;> omega
  unfold layClean.free;cases q:(Ur (runEnd mask (tn mask h k).1 + 1 - (tn mask h k).1)).find? λr=>(owner.getD ((tn mask h k).1 + r) (some 0)).isNone with
  | some r=>
   have h1:=List.find?_some q;have h2:=UP.mp (List.mem_of_find?_eq_some q);have h3:pos mask h (n + r)=(tn mask h k).1 + r:=by show (st mask h (n + r)).j=_;rw [nM mask h n _ _ _ e r (by omega)]
   refine .inl ⟨n + r,?_,?_,?_,?_⟩
   ·show some _=_;rw [h3]
   ·rw [h3];omega
   ·rw [h3];exact (ho _ (by omega)).mp h1
   ·intro m hm;by_cases c:m < n
    ·exact hb m c
    ·obtain ⟨s,rfl⟩:∃s,m=n + s:=⟨m - n,by omega⟩;have h4:pos mask h (n + s)=(tn mask h k).1 + s:=by show (st mask h (n + s)).j=_;rw [nM mask h n _ _ _ e s (by omega)]
     rw [h4];refine Xm λz=>?_;have z':=(ho ((tn mask h k).1 + s) (by omega)).mpr z;rw [List.find?_eq_some_iff_append] at q;obtain ⟨_,as,bs,eq,hall⟩:=q;have hs:s∈as:=by
      have hlen:as.length=r:=by
       have hl:as.length < (Ur (runEnd mask (tn mask h k).1 + 1 - (tn mask h k).1)).length:=by rw [eq];simp
       have e3:(Ur (runEnd mask (tn mask h k).1 + 1 - (tn mask h k).1))[as.length]?=some r:=by rw [eq];simp
       rw [WV] at hl;rw [Yz hl] at e3;exact VF e3
      have e4:(Ur (runEnd mask (tn mask h k).1 + 1 - (tn mask h k).1))[s]?=some s:=Yz (by omega);rw [eq,Wz (by omega)] at e4;exact Vi e4
     have:=hall s hs;rw [z'] at this;exact absurd this (by decide)
  | none=>
   have hall:=YR.mp q;have occ:∀s,s<=runEnd mask (tn mask h k).1 - (tn mask h k).1->(tn mask h k).1 + s∈G:=λs hs=>Xm λz=>by have z':=(ho ((tn mask h k).1 + s) (by omega)).mpr z;exact hall s (UP.mpr (by omega)) z'
   have nb:∀m,m < n + (runEnd mask (tn mask h k).1 - (tn mask h k).1) + 1->pos mask h m∈G:=λm hm=>by
    by_cases c:m < n
    ·exact hb m c
    ·obtain ⟨s,rfl⟩:∃s,m=n + s:=⟨m - n,by omega⟩;have h4:pos mask h (n + s)=(tn mask h k).1 + s:=by show (st mask h (n + s)).j=_;rw [nM mask h n _ _ _ e s (by omega)]
     rw [h4];exact occ s (by omega)
   rcases wO mask h owner G ho f (k + 1) _ (F1 mask h k n e) nb with ⟨n',g1,g2',g3⟩ | ⟨g1,g2'⟩
   ·exact .inl ⟨n',g1,g2',g3⟩
   ·refine .inr ⟨g1,λr hr=>?_⟩;cases r with
    | zero=>have:=occ 0 (UX _);exact this
    | succ r=>have:=g2' r (by omega);rwa [show k + (r + 1)=k + 1 + r by omega]
theorem JL {mask:Nat}(hm:pT mask) (h:Int) (owner:Array (Option Nat)) (G:List Nat) (hG:G.length<=mask) (ho:∀j,j<=mask->((owner.getD j (some 0)).isNone=true↔j∉G)):
  ∃n',layClean.free mask owner (turns mask) (bits h % (mask + 1)) (bits h)=some (pos mask h n')/\pos mask h n'<=mask/\pos mask h n'∉G/\∀m,m < n'->pos mask h m∈G:=by
 rcases wO mask h owner G ho (turns mask) 0 0 rfl (λm hm=>absurd hm (VI _)) with a | ⟨_,b⟩
 ·exact a
 ·exfalso;have all:∀j,j<=mask->j∈G:=λj hj=>by obtain ⟨r,hr,e⟩:=El hm (tn mask h 12).1 j (Dw mask h 12) hj;have:=b (12 + r) (by unfold turns;omega);rw [Z3,Aq,e] at this;exact this
  have:(Ur (mask + 1)).length<=G.length:=Vs W9 λj hj=>all j (by have:=UP.mp hj;omega);rw [WV] at this;omega
structure Own (mask:Nat) (owner:Array (Option Nat)) (G:List Nat) (hs:List Int):Prop where
 sz:owner.size=mask + 1
 ln:G.length=hs.length
 nd:G.Nodup
 bd:∀j∈G,j<=mask
 at_:∀j,j<=mask->owner.getD j none=if j∈G then some (G.idxOf j) else none
 pr:∀k (h1:k < G.length) (h2:k < hs.length),Reach mask G hs[k] G[k]
theorem Own.occ {mask:Nat}{owner:Array (Option Nat)}{G:List Nat}{hs:List Int}(O:Own mask owner G hs):∀j,j<=mask->((owner.getD j (some 0)).isNone=true↔j∉G):=λj hj=>by
 have e:owner.getD j (some 0)=owner.getD j none:=by
  have:j < owner.size:=by rw [O.sz];omega
  simp [Ww,this]
 rw [e,O.at_ j hj];split <;> simp_all
theorem Own.step {mask:Nat}{owner:Array (Option Nat)}{G:List Nat}{hs:List Int}(O:Own mask owner G hs) (hm:pT mask) (hl:hs.length<=mask) (h:Int):
  ∃j,layClean.free mask owner (turns mask) (bits h % (mask + 1)) (bits h)=some j/\Own mask (owner.setIfInBounds j (some hs.length)) (G++[j]) (hs++[h]):=by
 obtain ⟨n',e,b,f,r⟩:=JL hm h owner G (by rw [O.ln];exact hl) O.occ;refine ⟨_,e,⟨by rw [Array.size_setIfInBounds,O.sz],by simp [O.ln],?_,λj hj=>?_,λj hj=>?_,λk h1 h2=>?_⟩⟩
 ·rw [Wx];refine ⟨O.nd,by simp,λa ha b hb=>?_⟩;rw [Uz] at hb;subst hb;intro z;subst z;exact f ha
 ·rcases US.mp hj with h1 | h1
  ·exact O.bd j h1
  ·rw [Uz.mp h1];exact b
 ·have hsz:j < owner.size:=by rw [O.sz];omega
  by_cases c:j=pos mask h n'
  ·subst c;rw [if_pos (by simp)];simp [Ww,hsz];rw [acv,if_neg f];simp [O.ln]
  ·have e1:(owner.setIfInBounds (pos mask h n') (some hs.length)).getD j none=owner.getD j none:=by simp [Ww,hsz];rw [Array.getElem_setIfInBounds_ne];exact λz=>c z.symm
   rw [e1,O.at_ j hj];by_cases d:j∈G
   ·rw [if_pos d,if_pos (Xn _ d),acv,if_pos d]
   ·rw [if_neg d,if_neg (by simp [d,c])]
 ·have sub:∀x∈G,x∈G++[pos mask h n']:=λx hx=>Xn _ hx;by_cases c:k < G.length
  ·have:=(O.pr k c (by rw [<-O.ln];exact c)).mono sub;rw [aag c,aag (by rw [<-O.ln];exact c)];exact this
  ·have hk:k=G.length:=by simp at h1;omega
   subst hk;have e1:(G++[pos mask h n'])[G.length]=pos mask h n':=by simp
   have e2:(hs++[h])[G.length]=h:=by simp [O.ln]
   rw [e1,e2];exact ⟨n',rfl,λm hm=>sub _ (r m hm)⟩
theorem zL {mask:Nat}(hm:pT mask):∀(rest hs:List Int) (owner:Array (Option Nat)) (G:List Nat),Own mask owner G hs->(hs++rest).length<=mask->∃owner' G',rest.foldl (λacc h=>do
  let (owner,k) <-acc
  let j <-layClean.free mask owner (turns mask) (bits h % (mask + 1)) (bits h)
  pure (owner.setIfInBounds j (some k),k + 1)) (some (owner,hs.length))=some (owner',(hs++rest).length)/\Own mask owner' G' (hs++rest)
 | [],hs,owner,G,O,_=>⟨owner,G,by simp,by simpa using O⟩
 | h::rest,hs,owner,G,O,hl=>by
  obtain ⟨j,e,O'⟩:=O.step hm (by simp at hl;omega) h;obtain ⟨owner',G',e2,O2⟩:=zL hm rest (hs++[h]) _ _ O' (by simpa using hl);refine ⟨owner',G',?_,by simpa using O2⟩;rw [aa1];have e3:(do
   let (owner,k) <-some (owner,hs.length)
   let j <-layClean.free mask owner (turns mask) (bits h % (mask + 1)) (bits h)
   pure (owner.setIfInBounds j (some k),k + 1):Option (Array (Option Nat)×Nat))=some (owner.setIfInBounds j (some hs.length),(hs++[h]).length):=by show Option.bind (layClean.free mask owner (turns mask) (bits h % (mask + 1)) (bits h)) _=_;rw [e];simp
  rw [e3];simpa using e2
theorem Kq (mask:Nat):Own mask (Array.replicate (mask + 1) none) [] []:=
 ⟨by simp,rfl,Xk,λj h=>absurd h (by simp),λj hj=>by simp [Ww],λk h1=>absurd h1 (by simp)⟩
theorem MH {mask:Nat}(hm:pT mask) (hs:Array Int) (hl:hs.size<=mask):∃owner G,layClean mask hs=some owner/\Own mask owner G hs.toList:=by obtain ⟨owner,G,e,O⟩:=zL hm hs.toList [] _ [] (Kq mask) (by simpa using hl);refine ⟨owner,G,?_,by simpa using O⟩;unfold layClean;rw [<-Array.foldl_toList];have e':=congrArg (Option.map (·.1)) e;exact e'
theorem JZ {t:Wt}{es:Array (Int×Uk)}{mask:Nat}(hm:pT mask) (finger moves:Nat) (led plain:Bool) (hl:es.size<=mask):
  ∃t' Ug L',laid mask finger moves led plain (es.map (·.1))=some (t',Ug)/\t'.mask=mask/\t'.led=led/\t'.plain=plain/\Tab t' (Ug.filterMap (es[·]?)) L'/\(Ug.filterMap (es[·]?)).toList.Perm es.toList:=by
 obtain ⟨owner,G,e,O⟩:=MH hm (es.map (·.1)) (by simpa using hl);have hlen:G.length=es.size:=by rw [O.ln];simp
 (let live:=(Ur (mask + 1)).filterMap λj=>(owner.getD j none).map (j,·))
 have lv:∀p,p∈live↔p.1∈G/\p.2=G.idxOf p.1:=λp=>by
  show p∈(Ur (mask + 1)).filterMap _↔_;rw [ZW];constructor
  ·rintro ⟨j,hj,q⟩;have hj':j<=mask:=by have:=UP.mp hj;omega
   rw [O.at_ j hj'] at q;by_cases c:j∈G
   ·rw [if_pos c] at q;have q:(j,G.idxOf j)=p:=by simpa using q
    subst q;exact ⟨c,rfl⟩
   ·rw [if_neg c] at q;exact absurd q (by simp)
  ·rintro ⟨h1,h2⟩;refine ⟨p.1,UP.mpr (by have:=O.bd _ h1;omega),?_⟩;rw [O.at_ _ (O.bd _ h1),if_pos h1];show some (p.1,G.idxOf p.1)=some p;rw [<-h2]
 have so1:live.Pairwise λa b=>a.1 < b.1:=by
  show ((Ur (mask + 1)).filterMap _).Pairwise _;rw [List.pairwise_filterMap];refine Y4.imp ?_;intro a b hab x hx y hy;cases q1:owner.getD a none with
  | none=>rw [q1] at hx;exact absurd hx (by simp)
  | some k1=>cases q2:owner.getD b none with
   | none=>rw [q2] at hy;exact absurd hy (by simp)
   | some k2=>
    rw [q1] at hx;rw [q2] at hy;have hx:(a,k1)=x:=by simpa using hx
    have hy:(b,k2)=y:=by simpa using hy
    subst hx;subst hy;exact hab
 have ord:(live.map (·.2)).Perm (Ur es.size):=by
  rw [List.perm_ext_iff_of_nodup _ W9]
  ·intro k;rw [UD,UP];constructor
   ·rintro ⟨p,hp,rfl⟩;obtain ⟨h1,h2⟩:=(lv p).mp hp;rw [h2,<-hlen];exact W2 h1
   ·intro hk;rw [<-hlen] at hk;exact ⟨(G[k],k),(lv _).mpr ⟨U9 _,(O.nd.idxOf_getElem k hk).symm⟩,rfl⟩
  ·show (live.map (·.2)).Pairwise _;rw [Vu];refine (X_.mp so1).imp ?_;rintro a b ⟨ha,hb,hab⟩ z;obtain ⟨a1,a2⟩:=(lv a).mp ha;obtain ⟨b1,b2⟩:=(lv b).mp hb;rw [a2,b2] at z;have ga:=Z4 (W2 a1);have gb:=Z4 (W2 b1);have:a.1=b.1:=by rw [<-ga,<-gb];congr 1
   omega
 have inR:∀p∈live,∃h:p.2 < es.size,True:=λp hp=>by have:p.2∈live.map (·.2):=UD.mpr ⟨p,hp,rfl⟩;exact ⟨UP.mp (ord.mem_iff.mp this),trivial⟩
 let L':=live.map λp=>(p.1,es.getD p.2 default)
 have eL:(live.map (·.2)).toArray.filterMap (es[·]?)=(L'.map (·.2)).toArray:=by
  rw [List.filterMap_toArray];congr 1;show adM _ (live.map _)=(live.map _).map _;rw [abR,Vn];have:∀(l:List (Nat×Nat)),(∀p∈l,p∈live)->adM ((λx=>es[x]?) ∘ λx=>x.snd) l=aeg ((λx=>x.snd) ∘ λp=>(p.fst,es.getD p.snd default)) l:=by
   intro l
   induction l with
   | nil=>intro _;rfl
   | cons p l ih=>
    intro hl;obtain ⟨hp,_⟩:=inR p (hl p (by simp));rw [List.filterMap_cons_some (b:=es.getD p.2 default)]
    ·rw [UH,ih λq hq=>hl q (by simp [hq])];rfl
    ·show es[p.2]?=_;simp [Ww,hp]
  exact this live λp hp=>hp
 have eP:L'.map (·.1)=live.map (·.1):=by show (live.map _).map _=_;rw [Vn];rfl
 have memP:∀j,j∈live.map (·.1)↔j∈G:=λj=>by
  rw [UD];constructor
  ·rintro ⟨p,hp,rfl⟩;exact ((lv p).mp hp).1
  ·intro h;exact ⟨(j,G.idxOf j),(lv _).mpr ⟨h,rfl⟩,rfl⟩
 have lenL:L'.length=es.size:=by have:=ord.length_eq;rw [Uo,WV] at this;show (live.map _).length=_;rw [Uo,this]
 refine ⟨{mask,place:=(live.map (·.1)).toArray,dummies:=#[],finger,led,moves,plain},(live.map (·.2)).toArray,L',?_,rfl,rfl,rfl,⟨rfl,?_,?_,?_,λx hx=>?_,hm,?_,λx hx=>?_⟩,?_⟩
 ·unfold laid;rw [e];rfl
 ·show (live.map (·.1)).toArray.toList=_;rw [eP]
 ·rw [eL]
 ·rw [eP,Vu];exact so1
 ·obtain ⟨p,hp,rfl⟩:=UD.mp hx;exact O.bd _ ((lv p).mp hp).1
 ·show L'.length<=mask;rw [lenL];exact hl
 ·obtain ⟨p,hp,rfl⟩:=UD.mp hx;obtain ⟨h1,h2⟩:=(lv p).mp hp;obtain ⟨hs,_⟩:=inR p hp;have r:=O.pr p.2 (by omega) (by simpa using hs);have e1:G[p.2]'(by omega)=p.1:=by have:=Z4 (W2 h1);rw [<-this];congr 1
  have e2:((es.map (·.1)).toList[p.2]'(by simpa using hs))=(es.getD p.2 default).1:=by simp [Ww,hs]
  rw [e1,e2] at r;show Reach mask (L'.map (·.1)) (es.getD p.2 default).1 p.1;refine r.mono λy hy=>?_;rw [eP];exact (memP y).mpr hy
 ·rw [eL];show (L'.map (·.2)).Perm es.toList;have e1:(live.map (·.2)).map (λk=>es.getD k default)=L'.map (·.2):=by show _=(live.map _).map _;rw [Vn,Vn];rfl
  rw [<-e1];refine (ord.map _).trans ?_;have:(Ur es.size).map (λk=>es.getD k default)=es.toList:=by refine W8 (by simp) λi h1 h2=>?_;simp at h1;simp [Ww,h1]
  rw [this]
theorem Fx {t:Wt}{es:Array (Int×Uk)}(hm:pT (sizeAbove w - 1)) (hl:es.size<=sizeAbove w - 1):
  ∃t' Ug L',t.relaid (es.map (·.1)) w=some (t',Ug)/\t'.mask=sizeAbove w - 1/\t'.led=t.led/\t'.plain=t.plain/\Tab t' (Ug.filterMap (es[·]?)) L'/\(Ug.filterMap (es[·]?)).toList.Perm es.toList:=
 JZ (t:=t) hm t.finger (t.movedTo (sizeAbove w - 1)) t.led t.plain hl
end ST
namespace DL
open PySem PySem.Spec PyProof.Rows L2
mutual
noncomputable def kF:D->Nat
 | .int _=>1
 | .tup xs=>fB xs + 1
 | _=>0
noncomputable def fB:List D->Nat
 | []=>0
 | x::xs=>kF x + fB xs
end
theorem r6:∀{ds:List D},areKeys ds=true->∀d∈ds,isKey d=true
 | [],_,_,h=>nomatch h
 | x::xs,h,d,hm=>by
  unfold areKeys at h;rw [Uq] at h
  (rcases UK.mp hm with rfl | hm)
  ·exact h.1
  ·exact r6 h.2 d hm
mutual
theorem zJ:∀{d e:D},isKey d=true->isKey e=true->bh d e=true->d=e
 | .int i,.int j,_,_,h=>by simp [bh] at h;rw [h]
 | .tup xs,.tup ys,hd,he,h=>by unfold isKey at hd he;simp only [bh] at h;rw [keys_eq hd he h]
 | .int _,.tup _,_,_,h=>by simp [bh] at h
 | .tup _,.int _,_,_,h=>by simp [bh] at h
theorem keys_eq:∀{ds es:List D},areKeys ds=true->areKeys es=true->cD ds es=true->ds=es
 | [],[],_,_,_=>rfl
 | x::xs,y::ys,hd,he,h=>by unfold areKeys at hd he;rw [Uq] at hd he;simp only [cD,Uq] at h;rw [zJ hd.1 he.1 h.1,keys_eq hd.2 he.2 h.2]
 | [],_::_,_,_,h=>by simp [cD] at h
 | _::_,[],_,_,h=>by simp [cD] at h
end
theorem vO (hd:isKey d=true) (he:isKey e=true):bh d e=true↔d=e:=⟨zJ hd he,λh=>by rw [h];exact gU _⟩
section
variable {prog:UG}{w:U5}{E:Uk->Um->Prop}{K:Ui}{J:Hp}
noncomputable def DH (prog:UG) (w:U5) (A:U8) (K:Ui) (J:Hp) (d:D) (u:Uk):Prop:=
 ∀(E:Uk->Um->Prop) (s:Um) (Q:Int->Um->Prop),HF K J s->Q (bS d) {s with toks:=s.toks + kF d}->UB (UO prog w) A (pyHash u) Q E s
inductive kP (prog:UG) (w:U5) (A:U8) (K:Ui) (J:Hp):List D->List Uk->Prop
 | nil:kP prog w A K J [] []
 | cons {d:D}{u:Uk}{ds:List D}{us:List Uk}:DH prog w A K J d u->kP prog w A K J ds us->kP prog w A K J (d::ds) (u::us)
theorem uP:∀(a b:List D),cF (a++b)=cF a++cF b
 | [],b=>rfl
 | x::a,b=>by show bS x::cF (a++b)=_;rw [uP a b];rfl
theorem uC:∀(a b:List D),fB (a++b)=fB a + fB b
 | [],b=>by show fB b=0 + _;omega
 | x::a,b=>by show kF x + fB (a++b)=kF x + fB a + fB b;rw [uC a b];omega
theorem Gx {A:U8}{s:Um}{o:Obj}{its:List Uk}{Q:Int->Um->Prop}(N:HF K J s) (ho:s.heap.get? a=some o) (hc:o.cls=.type "tuple") (hd:o.data=.seq its.toArray n) (hu:A.units < V6)
 (hl:kP prog w A.in1 K J ds its) (h:Q (adX (VL (cF ds))) {s with toks:=s.toks + (fB ds + 1)}):UB (UO prog w) A (pyHash (.ref a)) Q E s:=by
 have hT:s.TypeIs (.ref a) "tuple":=⟨o,ho,hc⟩;unfold pyHash
 (first | unfold pyHashByItsType | skip)
 (first | refine Uh (wpAny_cRoomFor_or (.inr hu) ?_) | skip)
 (refine Uh (Xv hT Yk.lookup ?_))
 (show UB _ _ (if (some (aar "tuple.__hash__") == some Vl)=true then _ else _) Q E s)
 (rw [if_neg (by rw [beq_builtin_none];exact UZ)])
 (refine Uh (Xv hT Yk.lookup ?_))
 (show UB _ _ (callSpecialIfBoundUnlessNone? (.ref a) "__hash__" _ >>= _) Q E s)
 (refine Uh (wpAny_callSpecialIfBoundUnlessNone?_slot hT Yk (U3 Yk hT F.entry_tuple_hash ?_ (F.args_tuple_hash_1 _))))
 (show UB _ _ (Yl (.ref a) >>= _) _ _ s)
 (refine Uh (wpAny_tupleItemsOf ho hd ?_))
 refine Uh ?_;rw [<-YS];refine W7 _
  (λrest (b:Array Int) s'=>∃done left,ds=done++left/\kP prog w A.in1 K J left rest/\b.toList=cF done/\s'={s with toks:=s.toks + fB done})
  _ ?_ ?_ _ _ ⟨[],ds,rfl,hl,rfl,rfl⟩
 ·(rintro x rest b s' ⟨done,left,rfl,hl,hb,rfl⟩)
  cases hl with
  | @cons k _ ks' _ h1 hl'=>
   refine Uh (h1 _ _ _ ⟨N.t,N.l,N.e,N.d⟩ ?_);have e1:(b.push (bS k)).toList=cF (done++[k]):=by rw [acw,uP,hb];rfl
   have e2:s.toks + fB done + kF k=s.toks + fB (done++[k]):=by rw [uC];show _=s.toks + (fB done + (kF k + 0));omega
   first
    | exact Uj ⟨done++[k],ks',by simp,hl',e1,by rw [e2]⟩
    | exact Uh (Uj (Uj ⟨done++[k],ks',by simp,hl',e1,by rw [e2]⟩))
 ·(rintro b s' ⟨done,left,rfl,hl,hb,rfl⟩)
  cases hl;rw [WB] at h
  (show UB _ _ (retInt (VL b.toList)) _ _ _)
  rw [hb];refine wpAny_ret_mkInt ?_;show UB _ _ (if (decide (-(2:Int) ^ 63<=VL (cF done)) && decide (VL (cF done) < 2 ^ 63))=true then _ else _) Q E _;unfold adX at h;by_cases hr:(decide (-(2:Int) ^ 63<=VL (cF done)) && decide (VL (cF done) < 2 ^ 63))=true
  ·rw [if_pos hr];rw [if_pos hr] at h
   (exact Uj (by simpa [aeh] using h))
  ·rw [if_neg hr];rw [if_neg hr] at h
   (exact Uh (XX (Uj (by simpa [aeh] using h))))
mutual
theorem wc:∀(d:D) (v:V) (u:Uk) (A:U8) (s:Um),HF K J s->isKey d=true->Rep K J d v->RelV v u->A.units + dep d < V6->DH prog w A K J d u
 | .int i,v,u,A,s,N,hk,hr,rv,hu=>λE s' Q N' h=>by cases hr;obtain ⟨t,rfl⟩:=rv;exact acM h
 | .tup ds,v,u,A,s,N,hk,hr,rv,hu=>λE s' Q N' h=>by
  cases hr with
  | tup h1 hs=>
   cases rv;obtain ⟨its,r,o,ho,hc,n,hd⟩:=N'.t _ _ h1;exact Gx N' ho hc hd (by unfold dep at hu;omega) (Ay ds _ _ A.in1 s N hk hs r (by rw [in1_units];unfold dep at hu;omega)) h
 | .non,v,u,A,s,N,hk,hr,rv,hu=>nomatch hk
 | .bl _,v,u,A,s,N,hk,hr,rv,hu=>nomatch hk
 | .str _,v,u,A,s,N,hk,hr,rv,hu=>nomatch hk
 | .lst _,v,u,A,s,N,hk,hr,rv,hu=>nomatch hk
 | .emp,v,u,A,s,N,hk,hr,rv,hu=>nomatch hk
 | .exn _ _ _,v,u,A,s,N,hk,hr,rv,hu=>nomatch hk
 | .dct _ _,v,u,A,s,N,hk,hr,rv,hu=>nomatch hk
theorem Ay:∀(ds:List D) (vs:List V) (us:List Uk) (A:U8) (s:Um),HF K J s->areKeys ds=true->aK K J ds vs->Vals vs us->A.units + deps ds < V6->kP prog w A K J ds us
 | [],vs,us,A,s,N,hk,hr,rv,hu=>by cases hr;cases rv;exact .nil
 | d::ds,vs,us,A,s,N,hk,hr,rv,hu=>by
  unfold areKeys at hk;rw [Uq] at hk;unfold deps at hu;cases hr with
  | cons a b=>
   cases rv with
   | cons c e=>exact .cons (wc d _ _ A s N hk.1 a c (by omega)) (Ay ds _ _ A s N hk.2 b e (by omega))
end
end
def iS (K:Ui) (J:Hp) (n:Nat) (u:Uk):Prop:=∃d v,isKey d=true/\dep d<=n/\Rep K J d v/\RelV v u
section
variable {prog:UG}{w:U5}{E:Uk->Um->Prop}{K:Ui}{J:Hp}{A:U8}{s:Um}
theorem zI {n:Nat}:∀{ds:List D}{vs:List V}{us:List Uk},areKeys ds=true->deps ds<=n->aK K J ds vs->Vals vs us->∀u∈us,iS K J n u
 | _,_,_,_,_,.nil,.nil=>λu h=>nomatch h
 | d::ds,_,_,hk,hn,.cons a b,.cons c e=>λu h=>by
  unfold areKeys at hk;rw [Uq] at hk;unfold deps at hn
  (rcases UK.mp h with rfl | h)
  ·exact ⟨d,_,hk.1,by omega,a,c⟩
  ·exact zI hk.2 (by omega) b e u h
theorem iS.cases' (N:HF K J s) (h:iS K J n u):(∃i t,u=.int i t)\/∃a o its m k,u=.ref a/\s.heap.get? a=some o/\o.cls=.type "tuple"/\o.data=.seq its m/\n=k + 1/\∀y∈its.toList,iS K J k y:=by
 obtain ⟨d,v,hk,hn,hr,rv⟩:=h;cases d with
 | int i=>
  cases hr;obtain ⟨t,rfl⟩:=rv;exact .inl ⟨_,_,rfl⟩
 | tup ds=>
  cases hr with
  | tup h1 hs=>
   cases rv;obtain ⟨its,r,o,ho,hc,m,hd⟩:=N.t _ _ h1;unfold dep at hn;obtain ⟨k,rfl⟩:∃k,n=k + 1:=⟨n - 1,by omega⟩;exact .inr ⟨_,o,_,m,k,rfl,ho,hc,hd,rfl,zI hk (by omega) hs r⟩
 | _=>cases hk
theorem nL:∀(n:Nat){u:Uk}{Q:Bool->Um->Prop},HF K J s->iS K J n u->Q true s->UB (UO prog w) A (eqIsQuiet n u) Q E s
 | n,u,Q,N,hk,h=>by
  rcases hk.cases' N with ⟨i,t,rfl⟩ | ⟨a,o,its,m,k,rfl,ho,hc,hd,rfl,hi⟩
  ·rw [eqIsQuiet_byValue _ rfl];exact Uj h
  ·have hT:s.TypeIs (.ref a) "tuple":=⟨o,ho,hc⟩;unfold eqIsQuiet
   (refine Uh (Xv hT F.slot_tuple_eq.lookup ?_))
   (show UB _ _ (adW (.ref a) (.type "tuple") >>= _) _ _ s)
   (refine Uh (XQ hT isSubtype_tuple_tuple ?_))
   (simp only [WQ,UE,if_false])
   (refine Uh (Wl ho hd ?_))
   refine Uh ?_;show UB _ _ (forIn its _ _) _ _ s;rw [<-YS];refine W7 _ (λrest r s'=>r.1=none/\s=s'/\∀v∈rest,iS K J k v) _ ?_ ?_ _ _ ⟨rfl,rfl,hi⟩
   ·(rintro v rest r s' ⟨hr,rfl,hall⟩)
    refine Uh (nL k N (hall v Uv) ?_)
    (simp only [WQ,UE,if_false])
    (exact Uj ⟨rfl,rfl,λu hu'=>hall u (Uu _ hu')⟩)
   ·(rintro ⟨r1,r2⟩ s' ⟨hr,rfl,_⟩)
    simp only at hr;subst hr;exact Uj h
theorem Fb:∀(n:Nat){u:Uk}{Q:Bool->Um->Prop},HF K J s->iS K J n u->Q true s->UB (UO prog w) A (hashByValue n u) Q E s
 | n,u,Q,N,hk,h=>by
  rcases hk.cases' N with ⟨i,t,rfl⟩ | ⟨a,o,its,m,k,rfl,ho,hc,hd,rfl,hi⟩
  ·cases n <;> exact Uj h
  ·have hT:s.TypeIs (.ref a) "tuple":=⟨o,ho,hc⟩;unfold hashByValue
   (refine Uh (Xv hT Yk.lookup ?_))
   show UB _ _ (abY (.ref a) >>= _) _ _ s
   (refine Uh (Wl ho hd ?_))
   refine Uh ?_;show UB _ _ (forIn its _ _) _ _ s;rw [<-YS];refine W7 _ (λrest r s'=>r.1=none/\s=s'/\∀v∈rest,iS K J k v) _ ?_ ?_ _ _ ⟨rfl,rfl,hi⟩
   ·(rintro v rest r s' ⟨hr,rfl,hall⟩)
    refine Uh (Fb k N (hall v Uv) ?_)
    (simp only [WQ,UE,if_false])
    (exact Uj ⟨rfl,rfl,λu hu'=>hall u (Uu _ hu')⟩)
   ·(rintro ⟨r1,r2⟩ s' ⟨hr,rfl,_⟩)
    simp only at hr;subst hr;exact Uj h
theorem nG:∀(n:Nat){u:Uk}{Q:Bool->Um->Prop},HF K J s->iS K J n u->Q false s->UB (UO prog w) A (acy n u) Q E s
 | n,u,Q,N,hk,h=>by
  rcases hk.cases' N with ⟨i,t,rfl⟩ | ⟨a,o,its,m,k,rfl,ho,hc,hd,rfl,hi⟩
  ·cases n <;> exact Uj h
  ·have hT:s.TypeIs (.ref a) "tuple":=⟨o,ho,hc⟩;unfold acy
   (refine Uh (X4 hT ?_))
   dsimp only
   (refine Uh (Uj ?_))
   (simp only [WQ,UE,if_false])
   (refine Uh (Wl ho hd ?_))
   dsimp only;refine Uh ?_;show UB _ _ (forIn its _ _) _ _ s;rw [<-YS];refine W7 _ (λrest r s'=>r.1=none/\s=s'/\∀v∈rest,iS K J k v) _ ?_ ?_ _ _ ⟨rfl,rfl,hi⟩
   ·(rintro v rest r s' ⟨hr,rfl,hall⟩)
    refine Uh (nG k N (hall v Uv) ?_)
    (simp only [UE,if_false])
    (exact Uj ⟨rfl,rfl,λu hu'=>hall u (Uu _ hu')⟩)
   ·(rintro ⟨r1,r2⟩ s' ⟨hr,rfl,_⟩)
    simp only at hr;subst hr;exact Uj h
theorem NY {Q:Bool->Um->Prop}(N:HF K J s) (hx:iS K J 8 x) (hy:∀y∈ys,iS K J 8 y) (h:Q false s):UB (UO prog w) A (aah x ys) Q E s:=by
 unfold aah;refine Uh ?_;refine W7 _ (λrest r s'=>r.1=none/\s=s'/\∀v∈rest,iS K J 8 v) _ ?_ ?_ _ _ ⟨rfl,rfl,hy⟩
 ·(rintro v rest r s' ⟨hr,rfl,hall⟩)
  have nx:∀u∈rest,iS K J 8 u:=λu hu'=>hall u (Uu _ hu');dsimp only;have hv:=hall v Uv;split
  ·split
   ·exact Uj ⟨rfl,rfl,nx⟩
   ·refine Uh (nL 8 N hx ?_)
    (simp only [WQ,UE,if_false])
    refine Uh (nL 8 N hv ?_)
    (simp only [WQ,UE,if_false])
    refine Uh (nG 8 N hx ?_)
    (simp only [UE,if_false])
    refine Uh (nG 8 N hv ?_)
    (simp only [UE,if_false])
    exact Uj ⟨rfl,rfl,nx⟩
  ·split
   ·exact Uj ⟨rfl,rfl,nx⟩
   ·refine Uh (nL 8 N hx ?_)
    (simp only [WQ,UE,if_false])
    refine Uh (nL 8 N hv ?_)
    (simp only [WQ,UE,if_false])
    refine Uh (nG 8 N hx ?_)
    (simp only [UE,if_false])
    refine Uh (nG 8 N hv ?_)
    (simp only [UE,if_false])
    exact Uj ⟨rfl,rfl,nx⟩
 ·(rintro ⟨r1,r2⟩ s' ⟨hr,rfl,_⟩)
  simp only at hr;subst hr;exact Uj h
end
end DL
namespace DL
open PySem PySem.Spec PyProof.Rows L2 ST
def KV (K:Ui) (J:Hp) (u:Uk) (d:D):Prop:=(∃a,u=.ref a)/\isKey d=true/\dep d<=8/\∃v,Rep K J d v/\RelV v u
theorem KV.key {K:Ui}{J:Hp}{u:Uk}{d:D}(h:KV K J u d):iS K J 8 u:=let ⟨_,a,b,v,c,e⟩:=h;⟨d,v,a,b,c,e⟩
inductive fE (K:Ui) (J:Hp):List (Int×Uk)->List D->Prop
 | nil:fE K J [] []
 | cons {h:Int}{x:Uk}{d:D}{es:List (Int×Uk)}{ks:List D}:h=bS d->KV K J x d->fE K J es ks->fE K J ((h,x)::es) (d::ks)
section
variable {K:Ui}{J:Hp}
theorem fE.length {es:List (Int×Uk)}{ks:List D}(h:fE K J es ks):es.length=ks.length:=by
 induction h with
 | nil=>rfl
 | cons _ _ _ ih=>simp [ih]
theorem fE.at_ (h:fE K J es ks):∀{i:Nat}{e:Int×Uk},es[i]?=some e->∃d,ks[i]?=some d/\KV K J e.2 d/\e.1=bS d:=by
 induction h with
 | nil=>intro i e q;simp at q
 | @cons hh x d es ks h1 h2 _ ih=>
  intro i e q;cases i with
  | zero=>simp at q;subst q;exact ⟨d,rfl,h2,h1⟩
  | succ i=>simp at q;obtain ⟨d',a,b⟩:=ih q;exact ⟨d',by simpa using a,b⟩
theorem fE.mem (h:fE K J es ks):∀e∈es,∃d∈ks,KV K J e.2 d/\e.1=bS d:=λe he=>by obtain ⟨i,hi⟩:=aa4.mp he;obtain ⟨d,h1,h2⟩:=h.at_ hi;exact ⟨d,Vi h1,h2⟩
theorem fE.back {es:List (Int×Uk)}{ks:List D}(h:fE K J es ks){i:Nat}{d:D}(q:ks[i]?=some d):∃e,es[i]?=some e/\KV K J e.2 d/\e.1=bS d:=by
 have hi:i < es.length:=by rw [h.length];exact (UR.mp q).1
 obtain ⟨d',h1,h2⟩:=h.at_ (UA hi);rw [q] at h1;cases h1;exact ⟨_,UA hi,h2⟩
theorem fE.perm {es es':List (Int×Uk)}(p:es.Perm es'):∀{ks:List D},fE K J es ks->∃ks',ks.Perm ks'/\fE K J es' ks':=by
 induction p with
 | nil=>intro ks h;exact ⟨ks,.refl _,h⟩
 | cons x _ ih=>
  intro ks h;cases h with
  | cons h1 h2 h3=>obtain ⟨ks',a,b⟩:=ih h3;exact ⟨_,a.cons _,.cons h1 h2 b⟩
 | swap x y l=>
  intro ks h;cases h with
  | cons h1 h2 h3=>cases h3 with
   | cons h4 h5 h6=>exact ⟨_,.swap _ _ _,.cons h4 h5 (.cons h1 h2 h6)⟩
 | trans _ _ ih1 ih2=>
  intro ks h;obtain ⟨k1,a,b⟩:=ih1 h;obtain ⟨k2,c,d⟩:=ih2 b;exact ⟨k2,a.trans c,d⟩
end
theorem eU {t:Wt}{es:Array (Int×Uk)}(T:Tab t es L):t.fits es.size=true:=by
 have h1:t.place.size=L.length:=by rw [<-UJ,T.pl,Uo]
 have h2:es.size=L.length:=by rw [<-UJ,T.en,Uo]
 have h3:t.fill=L.length:=by unfold aei;rw [T.dm,h1];rfl
 unfold SetTable.fits;rw [h1,h2,h3];simp [T.fl]
theorem Lf {t:Wt}(T:Tab t es L):t.gaveWay=false:=by unfold SetTable.gaveWay;rcases T.mo with h | h | h <;> rw [h] <;> rfl
section
variable {prog:UG}{w:U5}{E:Uk->Um->Prop}{K:Ui}{J:Hp}{A:U8}{s:Um}
theorem search {a:UL}{o:Obj}{es:Array (Int×Uk)}{ep:Nat}{t:Wt}{L:List (Nat×Int×Uk)}{ks:List D}{x:Uk}{d:D}{Q:SetFound->Um->Prop}(N:HF K J s) (ho:s.heap.get? a=some o) (hd:o.data=.set es ep t) (T:Tab t es L) (en:fE K J es.toList ks)
  (hx:KV K J x d) (hu:A.units + 8 < V6) (n0:Nat) (hf:pos t.mask (bS d) n0∉L.map (·.1)) (hb:∀m,m < n0->pos t.mask (bS d) m∈L.map (·.1)) (hn0:n0<=10 * (t.mask + 12))
  (q1:d∈ks->Q (.there none) s) (q2:d∉ks->Q (.free (pos t.mask (bS d) n0) false) s):
  ∀(fuel n:Nat) (stand:Option SetTable.Probe),n<=n0->n0 - n < fuel->stand.getD (t.probeStart (bS d))=st t.mask (bS d) n->(∀k,k < n->∀(i:Nat) (e:Nat×Int×Uk),L[i]?=some e->e.1=pos t.mask (bS d) k->ks[i]?≠some d)->
   UB (UO prog w) A (aej a x (bS d) true fuel stand) Q E s
 | 0,n,stand,h1,h2,h3,h4=>absurd h2 (VI _)
 | fuel + 1,n,stand,h1,h2,h3,h4=>by
  have esL:∀i,es[i]?=(L[i]?).map (λe:Nat×Int×Uk=>e.2):=λi=>by rw [<-VP,T.en,UT]
  unfold aej;refine Uh (Wy ho hd (eU T) ?_);dsimp only;rw [Lf T]
  (simp only [UE,if_false])
  rw [h3];obtain ⟨m,m1,m2,m3,m4⟩:=zV T (λi=>(es[i]?.map (·.1)).getD 0) (λi e q=>by rw [q];rfl) (bS d) n0 hf hb (n0 - n) n (10 * adN t.mask) rfl h1 (by unfold adN;omega);generalize hP:SetTable.probe t _ (bS d) (st t.mask (bS d) n)=r;rcases m4 with ⟨rfl,m4⟩ | ⟨m5,i,e,m6,m7,m8,m4⟩
  ·have:r=_:=hP.symm.trans m4;subst this;dsimp only;refine Uj (q2 λhm=>?_);obtain ⟨i,hi⟩:=aa4.mp hm;obtain ⟨e,e1,e2,e3⟩:=en.back hi;rw [VP,esL] at e1;obtain ⟨e',e4,rfl⟩:=Option.map_eq_some_iff.mp e1;have hm':=Vi e4;obtain ⟨k,k1,k2⟩:=T.pr _ hm';rw [e3] at k1 k2;have kl:k < m:=by
    rcases Yj k m with c | c | c
    ·exact c
    ·subst c;rw [k1] at hf;exact absurd (UD.mpr ⟨_,hm',rfl⟩) hf
    ·exact absurd (k2 m c) hf
   by_cases c:k < n
   ·exact h4 k c i e' e4 k1.symm hi
   ·exact m3 k (by omega) kl e' hm' k1.symm e3
  ·have:r=_:=hP.symm.trans m4;subst this;dsimp only;have hei:es[i]?=some e.2:=by rw [esL,m6];rfl
   obtain ⟨d',f1,f2,f3⟩:=en.at_ (by rw [VP];exact hei);obtain ⟨⟨ya,g0⟩,g1,g2',v',g3,g4⟩:=id f2;obtain ⟨_,x1,x2,v,x3,x4⟩:=id hx;obtain ⟨j,hh,y⟩:=e;dsimp only at g0 g4 m7 m8 hei;subst g0;have cmp:=m_ N A g3 x3 g4 x4 (by omega) (by omega) (by omega);have pass:∀(k:Sem SetFound),UB (UO prog w) A k Q E s->UB (UO prog w) A (if (!t.led)=true then do
     let c <-aah x (aeg (λx=>x.snd) (Array.filter (λx=>x.fst == bS d) es).toList)
     if c=true then do unsupported "set:the-search-would-show-the-table";k else k
     else k) Q E s:=λk hk=>by
    split
    ·refine Uh (NY N hx.key (λy hy=>?_) ?_)
     ·obtain ⟨e',he',rfl⟩:=UD.mp hy;have:e'∈es.toList:=by rw [Array.toList_filter] at he';exact (VE.mp he').1
      obtain ⟨d2,_,h2,_⟩:=en.mem e' this;exact h2.key
     ·(simp only [UE,if_false])
      exact hk
    ·exact hk
   refine pass _ ?_;rw [hei];dsimp only;refine Uh (U7 (cmp _ _ _ _ ?_));refine Uh (Wy ho hd (eU T) ?_);dsimp only;by_cases c:bh d' d=true
   ·rw [c]
    (simp only [ad_,if_true])
    refine Uj (q1 ?_);rw [<-zJ g1 x1 c];exact Vi f1
   ·rw [Bool.not_eq_true] at c;rw [c];have sm:t.sameMemory t.moves t.mask=some true:=by unfold SetTable.sameMemory;simp
    have sl:t.slot (pos t.mask (bS d) m)=.live i:=xF T.sop (by rw [<-m7];exact (T.at_ m6).1);rw [sm];simp only [XS,UE,if_false,if_true];rw [sl];dsimp only;rw [hei];dsimp only;refine Uh (wpAny_isSame_ref_self ?_);simp only [if_true]
    (refine Uh (Uj ?_))
    dsimp only;refine search N ho hd T en hx hu n0 hf hb hn0 q1 q2 fuel (m + 1) _ (by omega) (by omega) rfl λk hk i2 e2 z1 z2 z3=>?_;by_cases c1:k < n
    ·exact h4 k c1 i2 e2 z1 z2 z3
    ·by_cases c2:k < m
     ·obtain ⟨dd,w1,_,w3⟩:=en.at_ (i:=i2) (e:=e2.2) (by rw [VP,esL,z1];rfl);rw [z3] at w1;cases w1;exact m3 k (by omega) c2 e2 (Vi z1) z2 w3
     ·obtain rfl:k=m:=by omega
      have hi2:i2=i:=by
       obtain ⟨p1,p2⟩:=UR.mp z1;obtain ⟨p3,p4⟩:=UR.mp m6;have sw:=Vv.mp T.so;rcases Yj i2 i with c | c | c
       ·have:=sw i2 i (by simpa using p1) (by simpa using p3) c;simp [p2,p4] at this;omega
       ·exact c
       ·have:=sw i i2 (by simpa using p3) (by simpa using p1) c;simp [p2,p4] at this;omega
      subst hi2;rw [f1] at z3;cases z3;rw [gU] at c;exact absurd c (by decide)
end
structure gQ (K:Ui) (J:Hp) (h:VB) (a:UL) (led:Bool) (ks:List D) (es:Array (Int×Uk)) (ep:Nat) (t:Wt):Prop where
 at_:h.get? a=some {cls:=.type "set",dict:=none,data:=.set es ep t}
 tab:∃L,Tab t es L
 pl:t.plain=true
 ld:t.led=led
 rm:ks.length * 5 < t.mask * 3
 en:fE K J es.toList ks
 nd:ks.Nodup
theorem Eo (mask i:Nat) (h:i<=mask):i + (adn mask i - i)<=mask:=by unfold adn;split <;> omega
theorem Jd (mask:Nat) (h:Int):∀n,(ST.st mask h n).j + (ST.st mask h n).more<=mask
 | 0=>Eo mask _ (Y_ (abf _ (by omega)))
 | n + 1=>by
  have ih:=Jd mask h n;show (aaF _ (ST.st mask h n)).j + (aaF _ (ST.st mask h n)).more<=mask;unfold aaF;split
  ·dsimp only;omega
  ·exact Eo mask _ (Y_ (abf _ (by omega)))
theorem Nh (mask:Nat) (h:Int) (n:Nat):ST.pos mask h n<=mask:=by have:=Jd mask h n;show (ST.st mask h n).j<=mask;omega
theorem Jo:XZ 20=32:=by decide +kernel
theorem Jp:XZ 76=128:=by decide +kernel
theorem v7 {es:Array (Int×Uk)}{L:List (Nat×Int×Uk)}(T:Tab t es L):L.length=es.size:=by rw [<-UJ,T.en,Uo]
section
variable {prog:UG}{w:U5}{E:Uk->Um->Prop}{K:Ui}{J:Hp}{A:U8}{s:Um}
theorem OG {es:Array (Int×Uk)}{t:Wt}{ks:List D}{Q:Unit->Um->Prop}(ho:s.heap.get? a=some {cls:=.type "set",dict:=none,data:=.set es ep t}) (T:Tab t es L) (hp:t.plain=true) (hl:t.led=led)
 (en:fE K J es.toList ks) (nd:ks.Nodup) (W:Nat) (hW:(XZ W=32/\ks.length=5)\/(XZ W=128/\ks.length=19))
 (h:∀(h':VB) ks' es' ep' t',Vc a s.heap h'->ks.Perm ks'->gQ K J h' a led ks' es' ep' t'->Q () {s with heap:=h'}):UB (UO prog w) A (setRelay a W) Q E s:=by
 have hsz:es.size=ks.length:=by rw [<-UJ,en.length]
 have hm:pT (XZ W - 1):=by rcases hW with ⟨h,_⟩ | ⟨h,_⟩ <;> rw [h];exact .inr (.inl rfl);exact .inr (.inr rfl)
 obtain ⟨t',Ug,L',e1,e2,e3,e4,e5,e6⟩:=Fx (t:=t) (es:=es) hm (by rcases hW with ⟨h,_⟩ | ⟨h,_⟩ <;> rw [h] <;> omega);unfold setRelay;refine Uh (Wy ho rfl (eU T) ?_);dsimp only;rw [if_neg (by rw [Wo];rcases hW with ⟨h,_⟩ | ⟨h,_⟩ <;> rw [h] <;> omega)];have sz':(Ug.filterMap (es[·]?)).size=es.size:=by rw [<-UJ,e6.length_eq,UJ]
 rw [e1];have lC:((Ug.filterMap (es[·]?)).size != es.size)=false:=by rw [sz'];simp
 refine Uh (YA (a:=(Ug.filterMap (es[·]?),t')) ?_ ?_)
 ·show (if ((Ug.filterMap (es[·]?)).size != es.size)=true then _ else pure (Ug.filterMap (es[·]?),t'))=_;rw [lC];rfl
 ·dsimp only;obtain ⟨ks',p1,p2⟩:=en.perm e6.symm;refine acz ho rfl ?_ (by rw [sz',Wo];rcases hW with ⟨_,h⟩ | ⟨_,h⟩ <;> omega);have hg:=Vd (ad1 (Ug.filterMap (es[·]?)) t') ho rfl;refine h _ ks' _ _ _ (VQ _ _ _) p1 ⟨hg,⟨L',e5⟩,e4.trans hp,e3.trans hl,?_,p2,p1.nodup_iff.mp nd⟩;rw [<-p1.length_eq,e2];rcases hW with ⟨h,h'⟩ | ⟨h,h'⟩ <;> rw [h,h'] <;> omega
theorem Jq {a:UL}{es:Array (Int×Uk)}{ep:Nat}{t:Wt}{led:Bool}{ks:List D}{x:Uk}{d:D}{Q:Bool->Um->Prop}(N:HF K J s) (S:gQ K J s.heap a led ks es ep t) (hx:KV K J x d) (hu:A.units + 8 < V6) (hl:ks.length < 76)
  (q1:d∈ks->Q false s) (q2:d∉ks->∀(h':VB) ks' es' ep' t',Vc a s.heap h'->(d::ks).Perm ks'->gQ K J h' a led ks' es' ep' t'->Q true {s with heap:=h'}):
  UB (UO prog w) A (setAddHashed a x (bS d)) Q E s:=by
 obtain ⟨L,T⟩:=S.tab;have lenL:L.length=ks.length:=by rw [v7 T,<-UJ,S.en.length]
 obtain ⟨n0,b1,b2,b3⟩:=CK T.mo (bS d) (L.map (·.1)) (by rw [Uo];exact T.fl);have hj:pos t.mask (bS d) n0<=t.mask:=Nh _ _ _
 (unfold setAddHashed setAddHashedIn)
 refine U7 (Uh (Wy S.at_ rfl (eU T) ?_));dsimp only;have ns:byScan x es=false:=by obtain ⟨⟨xa,rfl⟩,_⟩:=hx;rfl
 rw [ns]
 (simp only [UE,if_false])
 unfold setSearch;refine Uh (search N S.at_ rfl T S.en hx hu n0 b2 b3 b1 (λhm=>?_) (λhm=>?_) 100000 0 none (UX _) (by rcases T.mo with h | h | h <;> rw [h] at b1 <;> omega) rfl (λk hk=>absurd hk (VI _)))
 ·exact Uj (q1 hm)
 ·dsimp only;refine Uh (Wy S.at_ rfl (eU T) ?_);dsimp only;obtain ⟨L',T',pm⟩:=T.put (bS d) x n0 b2 b3 hj (by have:=S.rm;rcases T.mo with h | h | h <;> rw [h] at this <;> omega);have fl:(t.put (pos t.mask (bS d) n0)).1.mask=t.mask/\(t.put (pos t.mask (bS d) n0)).1.plain=t.plain/\(t.put (pos t.mask (bS d) n0)).1.led=t.led:=⟨rfl,rfl,rfl⟩;generalize t.put (pos t.mask (bS d) n0)=tp at T' fl ⊢;obtain ⟨t',p⟩:=tp;dsimp only at T' fl ⊢;obtain ⟨f1,f2,f3⟩:=fl;have en':∃ks',(d::ks).Perm ks'/\fE K J (Za es p (bS d,x)).toList ks':=by refine fE.perm (es:=(bS d,x)::es.toList) ?_ (.cons rfl hx S.en);rw [T'.en,T.en];have:=pm.map (·.2);exact this.symm
  obtain ⟨ks',p1,p2⟩:=en';have nd':ks'.Nodup:=p1.nodup_iff.mp (Wq.mpr ⟨hm,S.nd⟩);have lk:ks'.length=ks.length + 1:=by rw [<-p1.length_eq];rfl
  rw [f2,S.pl];simp only [if_true];refine Uh (Fb 8 N hx.key ?_);simp only [if_true];have esz:(Za es p (bS d,x)).size=ks'.length:=by rw [<-UJ,p2.length]
  refine Uh (acz S.at_ rfl ?_ (by rw [esz,Wo];omega));have hg:=Vd (ad1 (Za es p (bS d,x)) t') S.at_ rfl;have hfill:t'.fill=ks'.length:=by unfold aei;rw [T'.dm,<-UJ,T'.pl,Uo,v7 T',esz];rfl
  have hes:es.size=ks.length:=by rw [<-UJ,S.en.length]
  split
  ·rename_i c;simp only [abr,YT] at c;unfold acU at c;rw [hfill,f1,decide_eq_true_eq] at c;have rm:=S.rm;refine Uh (OG (s:={s with heap:=s.heap.update a (ad1 (Za es p (bS d,x)) t')}) hg T' (f2.trans S.pl) (f3.trans S.ld) p2 nd' _ ?_ λh' ks2 es2 ep2 t2 g1 g2' g3=>?_)
   ·rw [hes];unfold SetTable.grown;rw [if_neg (by omega)];rcases T.mo with h | h | h
    ·rw [h] at c rm;have:ks.length + 1=5:=by omega
     rw [this];exact .inl ⟨Jo,by omega⟩
    ·rw [h] at c rm;have:ks.length + 1=19:=by omega
     rw [this];exact .inr ⟨Jp,by omega⟩
    ·rw [h] at c;omega
   ·exact Uj (q2 hm h' ks2 es2 ep2 t2 ((VQ _ _ _).trans g1) (p1.trans g2') g3)
  ·rename_i c;simp only [abr,YT] at c;unfold acU at c;rw [hfill,f1,decide_eq_true_eq] at c;exact Uj (q2 hm _ ks' _ _ _ (VQ _ _ _) p1 ⟨hg,⟨L',T'⟩,f2.trans S.pl,f3.trans S.ld,by rw [f1];omega,p2,nd'⟩)
end
theorem gQ.keep {K:Ui}{J:Hp}{h h':VB}{a:UL}{led:Bool}{ks:List D}{es:Array (Int×Uk)}{ep:Nat}{t:Wt}(S:gQ K J h a led ks es ep t) (e:∀o,h.get? a=some o->h'.get? a=some o):gQ K J h' a led ks es ep t:=
 ⟨e _ S.at_,S.tab,S.pl,S.ld,S.rm,S.en,S.nd⟩
section
variable {prog:UG}{w:U5}{A:U8}{R:acD->Um->Prop}{I:UL}{fp wr:List UL}{G:Array ae0->Array ae0->Prop}{n:Nat}{P:Nat->Uk->Prop}{St:Nat->Um->Prop}{K:Ui}{J:Hp}
theorem HX (W:WalksS prog w A.in1 I fp wr G n P St) (S:UL) (hSf:S∉fp) (val:Nat->D) (hval:∀i v,P i v->KV K J v (val i)){s0:Um}(N0:HF K J s0) (hnew:∀b∈S::wr,s0.heap.get? b=none) (hu:A.in1.units + 8 < V6) (hn:n<=76){led:Bool}:
  ∀(k i:Nat) (s:Um) (ks:List D) (es:Array (Int×Uk)) (ep:Nat) (t:Wt),n - i=k->i<=n->St i s->(∀b o,s0.heap.get? b=some o->s.heap.get? b=some o)->gQ K J s.heap S led ks es ep t->(∀d,d∈ks↔d∈(Ur i).map val)->
   (∀s' ks' es' ep' t',Moved (S::wr) G s s'->gQ K J s'.heap S led ks' es' ep' t'->(∀d,d∈ks'↔d∈(Ur n).map val)->R (.ok (.ret .none)) s')->
   (WM (UO prog w) A (.builtin "set.update.loop" ⟨[.ref S,.ref I],[]⟩) R s):=by
 (have SM:S∉wr:=λh=>hSf (W.sub _ h))
 (have hsub:∀b∈wr,b∈S::wr:=λb hb=>Uu _ hb)
 have old:∀b o,s0.heap.get? b=some o->b∉S::wr:=λb o e hm=>by rw [hnew b hm] at e;cases e
 intro k
 induction k with
 | zero=>
  intro i s ks es ep t hk hi hst hb hS hm hR;have hin:i=n:=by omega
  subst hin;refine VH Ys ?_;rw [Vj V_ _]
  (show UB _ A.in1 (Xy (.ref I) >>= _) _ _ s)
  refine Uh (W.done s _ _ hst λs' RQ=>?_)
  (show UB _ A.in1 (ret Vl) _ _ s')
  exact Uj (hR s' ks es ep t (RQ.mono hsub) (hS.keep λo e=>RQ.heap S o SM e) hm)
 | succ k ih=>
  intro i s ks es ep t hk hi hst hb hS hm hR;have hlt:i < n:=by omega
  have hlen:ks.length<=i:=by have:=Vs hS.nd (λd hd=>(hm d).mp hd);simpa using this
  refine VH Ys ?_;rw [Vj V_ _]
  (show UB _ A.in1 (Xy (.ref I) >>= _) _ _ s)
  refine Uh (W.item i s _ _ hlt hst λv s' hP R5 RQ=>?_);have hx:=hval i v hP;obtain ⟨_,x1,x2,vv,x3,x4⟩:=id hx;have hS':=hS.keep (h':=s'.heap) λo e=>RQ.heap S o SM e;have hb':∀b o,s0.heap.get? b=some o->s'.heap.get? b=some o:=λb o e=>RQ.heap b o (λhm=>old b o e (hsub b hm)) (hb b o e);have N':HF K J s':=N0.keep hb';have mem':∀(ks':List D),(∀d,d∈ks'↔d=val i\/d∈ks)->∀d,d∈ks'↔d∈(Ur (i + 1)).map val:=λks' h d=>by rw [h d,hm d,Xw,UN,US];simp only [UH,aaX,Uz];exact Or.comm
  show UB _ A.in1 (holding [v] (setAdd S v) >>= _) _ _ s'
  (refine Uh (U7 ?_))
  unfold setAdd;refine U7 ?_;refine Uh (wc (val i) vv v A.in1 s' N' x1 x3 x4 (by omega) _ _ _ N' ?_);refine Jq (s:={s' with toks:=s'.toks + kF (val i)}) (⟨N'.t,N'.l,N'.e,N'.d⟩:HF K J {s' with toks:=s'.toks + kF (val i)}) hS' hx hu (by omega) (λhin=>?_) (λhin h' ks' es' ep' t' SA TF RC=>?_)
  ·refine Uj ⟨WS V_ _,ih (i + 1) _ ks es ep t (by omega) hlt (W.frame _ s' _ _ R5 (Yx _ _) λb hb o e=>e) hb' hS' (mem' ks λd=>⟨.inr,λh=>h.elim (λh=>h▸hin) id⟩) λs'' ks'' es'' ep'' t'' hm'' hS'' RU=>?_⟩;exact hR s'' ks'' es'' ep'' t'' (aeY W.gtrans ((RQ.mono hsub).then_heap (Yx _ _) λb o hb e=>e) hm'') hS'' RU
  ·refine Uj ⟨WS V_ _,ih (i + 1) _ ks' es' ep' t' (by omega) hlt (W.frame _ s' _ _ R5 (Yx _ _) λb hb o e=>?_) (λb o e=>?_) RC (mem' ks' λd=>?_) λs'' ks'' es'' ep'' t'' hm'' hS'' RU=>?_⟩
   ·(rw [SA.2 b (λh:b=S=>hSf (by rw [<-h];exact hb))];exact e)
   ·show h'.get? b=some o;rw [SA.2 b (λh:b=S=>old b o e (by rw [h];exact Uv))];exact hb' b o e
   ·rw [<-TF.mem_iff,UK]
   ·refine hR s'' ks'' es'' ep'' t'' (aeY W.gtrans ((RQ.mono hsub).then_heap (Yx _ _) λb o hb e=>?_) hm'') hS'' RU
    (rw [SA.2 b (λh:b=S=>hb (by rw [h];exact Uv))];exact e)
end
theorem Dp {K:Ui}{J:Hp}{h:VB}{a:UL}{led:Bool}(e:h.get? a=some {cls:=.type "set",dict:=none,data:=.set #[] 0 (.fresh 0 0 led)}):gQ K J h a led [] #[] 0 (.fresh 0 0 led):=
 ⟨e,⟨[],⟨rfl,rfl,rfl,WU,(λ_ h=>nomatch h),.inl rfl,UX _,(λ_ h=>nomatch h)⟩⟩,rfl,rfl,(show 0 * 5 < 7 * 3 by decide),.nil,Xk⟩
end DL
namespace ST
open PySem PySem.SetTable
theorem yR {xs:Array Nat}(hs:xs.toList.Pairwise (· < ·)) (hi:i<=xs.size) (h1:∀k,k < i->xs.getD k 0 < j) (h2:∀k,i<=k->k < xs.size->j<=xs.getD k 0):below xs j=i:=by
 obtain ⟨b1,b2,b3⟩:=nV xs j hs;rcases Yj (below xs j) i with c | c | c
 ·have:=h1 _ c;have:=b3 _ (Uw _) (by omega);omega
 ·exact c
 ·have:=b2 _ c;have:=h2 i (Uw _) (by omega);omega
theorem Cv {xs:Array Nat}(hs:xs.toList.Pairwise (· < ·)):below xs 0=0:=yR hs (UX _) (λk h=>absurd h (VI _)) λk _ _=>UX _
theorem Cu {xs:Array Nat}(hs:xs.toList.Pairwise (· < ·)) (h:xs[i]?=some j):below xs (j + 1)=i + 1:=by
 obtain ⟨hi,e⟩:=V1.mp h;have sw:=Vv.mp hs;have gd:∀k (hk:k < xs.size),xs.getD k 0=xs[k]:=λk hk=>by simp [Ww,hk]
 refine yR hs (by omega) (λk hk=>?_) (λk h1 h2=>?_)
 ·rw [gd k (by omega)];by_cases c:k=i
  ·subst c;omega
  ·have:=sw k i (by simp;omega) (by simpa using hi) (by omega);simp at this;omega
 ·rw [gd k h2];have:=sw i k (by simpa using hi) (by simpa using h2) (by omega);simp at this;omega
theorem xh {α:Type}(next:Nat->Nat):∀(f k:Nat) (left:List α) (out:Array α),f=left.length->(acK next f k left out).toList.Perm (out.toList++left)
 | 0,k,left,out,h=>by have:left=[]:=WT.mp h.symm;subst this;unfold acK;simp
 | f + 1,k,left,out,h=>by
  have hl:next k % left.length < left.length:=abf _ (by omega);unfold acK;rw [UA hl];dsimp only;refine (xh next f (k + 1) _ _ (by rw [abn];simp [hl];omega)).trans ?_;rw [acw,WW]
  (refine aez _ ?_)
  have e1:left.eraseIdx (next k % left.length)=left.take (next k % left.length)++left.drop (next k % left.length + 1):=Zb _ _;have e2:left=left.take (next k % left.length)++left[next k % left.length]::left.drop (next k % left.length + 1):=by rw [List.getElem_cons_drop,aa3]
  rw [e1,List.singleton_append];exact (acT.symm).trans (afo e2.symm)
theorem Df {α:Type}(next:Nat->Nat) (xs:Array α):(ado next xs).toList.Perm xs.toList:=by have h:=xh next xs.size 0 xs.toList #[] (by simp);rw [show (#[]:Array α).toList++xs.toList=xs.toList from rfl] at h;exact h
end ST
namespace DL
open PySem PySem.Spec PyProof.Rows L2 ST
structure kg (h:VB) (a:UL) (led:Bool) (es:Array (Int×Uk)) (ep:Nat) (t:Wt):Prop where
 at_:h.get? a=some {cls:=.type "set",dict:=none,data:=.set es ep t}
 tab:∃L,Tab t es L
 pl:t.plain=true
 ld:t.led=led
theorem kg.keep {h h':VB}(S:kg h a led es ep t) (e:∀o,h.get? a=some o->h'.get? a=some o):kg h' a led es ep t:=⟨e _ S.at_,S.tab,S.pl,S.ld⟩
theorem gQ.wk {K:Ui}{J:Hp}{h:VB}{a:UL}{led:Bool}{ks:List D}{es:Array (Int×Uk)}{ep:Nat}{t:Wt}(S:gQ K J h a led ks es ep t):kg h a led es ep t:=⟨S.at_,S.tab,S.pl,S.ld⟩
abbrev oA (w:U5):Bool:=!w.params.followText "set-order"
noncomputable def gF (w:U5) (a ep:Nat) (es:Array (Int×Uk)):Array (Int×Uk):=if w.params.followText "set-order"=true then ado (w.params.setOrder a ep) es else es
theorem sQ (w:U5) (a ep:Nat) (es:Array (Int×Uk)):(gF w a ep es).toList.Perm es.toList:=by
 unfold gF;split
 ·exact Df _ _
 ·exact .refl _
theorem mU (w:U5) (a ep:Nat) (es:Array (Int×Uk)):(gF w a ep es).size=es.size:=by rw [<-UJ,(sQ w a ep es).length_eq,UJ]
abbrev pG (a:UL) (slot i n ep:Nat):Obj:={cls:=.type "set_iterator",data:=.fields #[.int slot 0,.int i 0,.ref a,.int n 0,.int ep 0]}
theorem uD:ae7 table "set.__iter__"=some X6.«frozenset.__iter__»:=
 (adO (id':="frozenset.__iter__") (by kernel_rfl) rfl (by decide +kernel) (by kernel_rfl))
theorem fV:Slot "set_iterator" "__next__" "set_iterator.__next__":=
 (.of (owner:="set_iterator") (n:="__next__") (by rw [YU,Xe];kernel_rfl) (by decide +kernel) (by decide +kernel) (by decide +kernel)
  (by first | exact .inl (by decide +kernel) | exact .inr (by decide +kernel)) (by rw [Yt];kernel_rfl))
theorem pg:ae7 table "set_iterator.__next__"=some X6.«set_iterator.__next__»:=(entryFor_of_tree (by kernel_rfl))
theorem p5 (a:Uk):argsOk "set_iterator.__next__" ⟨[a],[]⟩:=by unfold argsOk;kernel_rfl
section
variable {prog:UG}{w:U5}{A:U8}{E:Uk->Um->Prop}{s:Um}
theorem GG {es:Array (Int×Uk)}{Q:Uk->Um->Prop}(S:kg s.heap a led es ep t)
 (hQ:Q (.ref s.heap.objs.size) {s with heap:=s.heap.push (pG a 0 0 es.size ep)}):UB (UO prog w) A (ZF (.ref a)) Q E s:=by
 obtain ⟨L,T⟩:=S.tab;have hT:s.TypeIs (.ref a) "set":=⟨_,S.at_,rfl⟩;refine Zc hT adp (U3 adp hT uD ?_ (F.args_set_iter_1 _));show UB _ _ (aai a >>= _) _ _ s;unfold aai;refine Uh (Uh (ZM S.at_ rfl (eU T) (Uj ?_)));unfold setDrawn ad2;refine Uh (Uh (Wy S.at_ rfl (eU T) (Uh (Uh (W_ (Uj (Uj ?_)))))));dsimp only;split
 ·rename_i c;have c:(!w.params.followText "set-order" && (!t.plain && decide (es.size > 1)))=true:=c;rw [S.pl] at c;simp at c
 ·(refine Uh (Uj ?_))
  refine Uh (wpAny_setEpoch_of S.at_ rfl (eU T) ?_)
  (refine Uh (UU ?_))
  exact Uj ⟨_,rfl,"set_iterator",_,⟨_,Us _ rfl,rfl⟩,fV.lookup,hQ⟩
theorem Af {t:Wt}{Q:Option (Uk×Nat)->Um->Prop}(S:kg s.heap a (oA w) es ep t) (hb:w.params.followText "set-order"=false->Yu t.place slot=i)
 (q1:∀e slot',(gF w a ep es)[i]?=some e->(w.params.followText "set-order"=false->Yu t.place slot'=i + 1)->Q (some (e.2,slot')) s) (q2:(gF w a ep es)[i]?=none->Q none s):
  UB (UO prog w) A (setNext a slot i ep) Q E s:=by
 obtain ⟨L,T⟩:=S.tab;unfold setNext ad2;refine Uh (Wy S.at_ rfl (eU T) ?_);dsimp only
 (refine Uh (Uh (W_ (Uj ?_))))
 dsimp only;cases bt:w.params.followText "set-order" with
 | true=>
  rw [show (UO prog w).w.params.followText "set-order"=true from bt];simp only [if_true,bne_self_eq_false,UE,if_false];unfold setWalk ad2;refine Uh (Uh (Wy S.at_ rfl (eU T) ?_));dsimp only
  (refine Uh (Uh (W_ (Uj ?_))))
  dsimp only;rw [show (UO prog w).w.params.followText "set-order"=true from bt];simp only [if_true];refine Uh (W_ (Uj ?_));dsimp only;have ew:gF w a ep es=ado ((UO prog w).w.params.setOrder a ep) es:=by unfold gF;rw [if_pos bt];rfl
  rw [ew] at q1 q2;cases q:(ado ((UO prog w).w.params.setOrder a ep) es)[i]? with
  | none=>exact Uj (q2 q)
  | some e=>exact Uj (q1 e slot q λz=>absurd (bt.symm.trans z) (by decide))
 | false=>
  rw [show (UO prog w).w.params.followText "set-order"=false from bt]
  (simp only [UE,if_false])
  have ew:gF w a ep es=es:=by unfold gF;rw [if_neg (by rw [bt];decide)]
  rw [ew] at q1 q2;have So:t.led=true:=by rw [S.ld];show (!w.params.followText "set-order")=true;rw [bt];rfl
  split
  ·rename_i c;have c:(!t.plain && decide (es.size > 1))=true:=c;rw [S.pl] at c;simp at c
  ·refine Uh (YA (a:=()) ?_ ?_)
   ·show (if (!t.led && !es.isEmpty)=true then _ else pure ())=pure ();rw [So];rfl
   ·rw [hb bt];cases q:es[i]? with
    | none=>exact Uj (q2 q)
    | some e=>
     have hlen:i < t.place.size:=by
      have h1:=(V1.mp q).1;have h2:t.place.size=es.size:=by rw [<-UJ,T.pl,Uo,v7 T]
      omega
     have ep':t.place[i]?=some t.place[i]:=V9 hlen;rw [ep'];exact Uj (q1 e _ q λ_=>Cu T.sop ep')
theorem GZ {es:Array (Int×Uk)}{t:Wt}{Q:Option Uk->Um->Prop}(hne:a≠I) (S:kg s.heap a (oA w) es ep t) (hI:s.heap.get? I=some (pG a slot i es.size ep)) (hb:w.params.followText "set-order"=false->Yu t.place slot=i) (hi:i < es.size)
 (hQ:∀h' slot' e,(gF w a ep es)[i]?=some e->h'.get? I=some (pG a slot' (i + 1) es.size ep)->(w.params.followText "set-order"=false->Yu t.place slot'=i + 1)->Vc I s.heap h'->Q (some e.2) {s with heap:=h'}):
  UB (UO prog w) A (Xy (.ref I)) Q E s:=by
 obtain ⟨L,T⟩:=S.tab;have hT:s.TypeIs (.ref I) "set_iterator":=⟨_,hI,rfl⟩;unfold Xy;refine Uh (WO (U0 (name:=V3 "__next__") hT fV (U3 fV hT pg ?_ (p5 _))));show UB _ _ (fieldsOf (.ref I) >>= _) _ _ s;refine Uh (Z9 hI rfl ?_);dsimp only;refine Uh (ZM S.at_ rfl (eU T) ?_);simp only [bne_self_eq_false,UE,if_false,VY];refine Uh (Af S hb (λe slot' q1 q2=>?_) λq=>?_)
 ·dsimp only;refine Uh (Vf hI (by simp) λh1 g1 b1=>?_);refine Uh (Vf (s:={s with heap:=h1}) g1 (by simp) λh2 g2' b2=>?_);exact Uj ⟨_,rfl,Uj (hQ h2 slot' e q1 (g2'.trans (by simp [YZ])) q2 (b1.trans b2))⟩
 ·exfalso;have:=(Array.getElem?_eq_none_iff.mp q);rw [mU] at this;omega
theorem JH {es:Array (Int×Uk)}{t:Wt}{Q:Option Uk->Um->Prop}(hh:A.handled=none) (S:kg s.heap a (oA w) es ep t) (hI:s.heap.get? I=some (pG a slot es.size es.size ep)) (hb:w.params.followText "set-order"=false->Yu t.place slot=es.size)
 (hQ:∀h',ZI I s.heap h'->Q none {s with heap:=h'}):UB (UO prog w) A (Xy (.ref I)) Q E s:=by
 obtain ⟨L,T⟩:=S.tab;have hT:s.TypeIs (.ref I) "set_iterator":=⟨_,hI,rfl⟩;unfold Xy;refine Uh (WO (U0 (name:=V3 "__next__") hT fV (U3 fV hT pg ?_ (p5 _))));show UB _ _ (fieldsOf (.ref I) >>= _) _ _ s;refine Uh (Z9 hI rfl ?_);dsimp only;refine Uh (ZM S.at_ rfl (eU T) ?_);simp only [bne_self_eq_false,UE,if_false,VY];refine Uh (Af S hb (λe slot' q1 q2=>?_) λq=>?_)
 ·exfalso;have:=(V1.mp q1).1;rw [mU] at this;omega
 ·dsimp only;refine Uh (Vf hI (by simp) λh1 g1 b1=>?_);refine Uh ?_;simp only [adZ,ac1]
  (refine Uh (UU ?_ (by size_fits)))
  (refine Uh (m:=Xl _ _) (YA (a:=Vl) (by first | rfl | (simp only [Xl];rfl)) ?_))
  (refine UU ?_ (by size_fits))
  simp only [aea]
  (refine Uh (aau ?_))
  (first | rw [show A.in1.handled=none from hh] | rw [hh])
  (refine Uh (Uj (abA ?_)))
  (refine Uh (XQ (T:="StopIteration") (b:=true) ⟨_,Us _ rfl,rfl⟩ Z8 ?_))
  exact Uj (hQ _ ((b1.extBut.push _).push _))
end
theorem yb:acf (.type "set") "__len__"=pure (some (.builtin "set.__len__")):=by rw [YU,Xe];kernel_rfl
theorem F4 {M:aer}{A:U8}{E:Uk->Um->Prop}{s:Um}{α:Type}{c:Prop} [Decidable c] {m1 m2:Sem α}{Q:α->Um->Prop}(hc:c) (h:UB M A m1 Q E s):UB M A (if c then m1 else m2) Q E s:=by rw [if_pos hc];exact h
theorem GB {prog:UG}{w:U5}{A:U8}{E:Uk->Um->Prop}{s:Um}{a:UL}{Q:Bool->Um->Prop}(hT:s.TypeIs (.ref a) "set") (hQ:Q false s):UB (UO prog w) A (Yb (.ref a)) Q E s:=by
 have sp:splitId "set.__len__"=some ("set","__len__"):=by decide +kernel
 (unfold Yb)
 refine Uh (Xv hT yb ?_);dsimp -zeta only;rw [sp];dsimp -zeta only;refine Uh (m:=adW (.ref a) (.type "set")) (XQ hT sub_set_self ?_)
 (show UB _ _ (if (!true)=true then _ else _) _ _ _)
 rw [if_neg (by decide)];refine F4 (by decide +kernel) ?_
 (refine Uh (X4 hT ?_))
 exact Uj hQ
theorem qF:Slot "set_iterator" "__iter__" "set_iterator.__iter__":=
 ((.of (owner:="set_iterator") (n:="__iter__") (by rw [YU,Xe];kernel_rfl) (by decide +kernel) (by decide +kernel) (by decide +kernel)
  ((by first | exact .inl (by decide +kernel) | exact .inr (by decide +kernel))) (by rw [Yt];kernel_rfl)))
theorem x6:ae7 table "set_iterator.__iter__"=some X6.«dict_keyiterator.__iter__»:=
 (adO (id':="dict_keyiterator.__iter__") (by kernel_rfl) rfl (by decide +kernel) (by kernel_rfl))
theorem yN (a:Uk):argsOk "set_iterator.__iter__" ⟨[a],[]⟩:=by unfold argsOk;kernel_rfl
section
variable {prog:UG}{w:U5}{A:U8}{E:Uk->Um->Prop}{s:Um}
def kO (w:U5) (a ep:Nat) (es:Array (Int×Uk)):List Uk:=(gF w a ep es).toList.map (·.2)
theorem F3 (hh:A.handled=none) (I a:UL) (hne:a≠I){es:Array (Int×Uk)}{t:Wt}:
  Walks prog w A I [I,a] [I] es.size (λi v=>(kO w a ep es)[i]?=some v) (λi h=>∃slot,h.get? I=some (pG a slot i es.size ep)/\kg h a (oA w) es ep t/\(w.params.followText "set-order"=false->Yu t.place slot=i)) where
 sub:=λ_ hb=>by simp at hb;simp [hb]
 frame:=λ_ _ _ ⟨slot,h1,h2,h3⟩ hk=>⟨slot,hk I (by simp) _ h1,h2.keep λo e=>hk a (by simp) o e,h3⟩
 item:=λi s Q E hi ⟨slot,h1,h2,h3⟩ hQ=>by
  refine GZ hne h2 h1 h3 hi λh' slot' e q1 q2 q3 q4=>?_;refine hQ e.2 h' s.toks ?_ ⟨slot',q2,h2.keep λo e=>?_,q3⟩ λb o hb e=>?_
  ·unfold kO;rw [UT,VP,q1];rfl
  ·rw [q4.2 a hne];exact e
  ·exact q4.extBut b o (λh=>hb (by simp [h])) e
 done:=λs Q E ⟨slot,h1,h2,h3⟩ hQ=>JH hh h2 h1 h3 λh' he=>hQ h' s.toks λb o hb e=>he b o (λh=>hb (by simp [h])) e
 self:=λi s Q E ⟨slot,h1,h2,h3⟩ hQ=>by have hT:s.TypeIs (.ref I) "set_iterator":=⟨_,h1,rfl⟩;refine Zc hT qF (U3 qF hT x6 ?_ (yN _));show UB _ _ (ret (.ref I)) _ _ s;exact Uj ⟨_,rfl,"set_iterator",_,hT,fV.lookup,hQ⟩
theorem AK {a:UL}{es:Array (Int×Uk)}{ep:Nat}{t:Wt}{Q:List Uk->Um->Prop}(hh:A.handled=none) (S:kg s.heap a (oA w) es ep t) (hn:es.size<=76)
  (hQ:∀(h':VB) (tk:Nat),(∀b o,s.heap.get? b=some o->h'.get? b=some o)->s.heap.objs.size < h'.objs.size->Q (kO w a ep es) {s with heap:=h',toks:=tk}):UB (UO prog w) A (collect (.ref a)) Q E s:=by
 have ha:a < s.heap.objs.size:=UC S.at_;have hT:s.TypeIs (.ref a) "set":=⟨_,S.at_,rfl⟩;unfold collect
 (refine Uh (Z7 (VH Zj ?_)))
 (rw [Vj Zk _])
 show UB _ A.in1 (newList [] >>= λl=>again (.builtin "list.__iadd__" ⟨[l,.ref a],[]⟩)) _ _ s
 (refine Uh (UU ?_))
 (refine Uj ⟨WS Xs _,VH aae ?_⟩)
 (rw [Vj Xs _])
 generalize Tu:({cls:=.type "list",data:=.seq ([]:List Uk).toArray}:Obj)=l0;have S1:kg (s.heap.push l0) a (oA w) es ep t:=S.keep λo e=>Ul _ e;have hT1:aay {s with heap:=s.heap.push l0} (.ref a) "set":=⟨_,S1.at_,rfl⟩;show UB _ A.in1 (W3 (.ref s.heap.objs.size) (.ref a) (.ref s.heap.objs.size)) _ _ _
 (unfold W3)
 refine Uh (X4 hT1 ?_);have h1:aaj (.ref s.heap.objs.size) (.ref a)=false:=by show (s.heap.objs.size == a)=false;exact beq_eq_false_iff_ne.mpr (WA ha)
 have h2:(W6 "set" == W6 "list")=false:=by decide
 have h3:(W6 "set" == W6 "tuple")=false:=by decide
 (simp only [h1,h2,h3,abU,UE,if_false])
 refine Uh (GG S1 ?_)
 (refine Uh (U7 ?_))
 have z1:(s.heap.push l0).objs.size=s.heap.objs.size + 1:=VD _ _;rw [z1];have S2:kg ((s.heap.push l0).push (pG a 0 0 es.size ep)) a (oA w) es ep t:=S1.keep λo e=>Ul _ e;have hT2:aay {s with heap:=(s.heap.push l0).push (pG a 0 0 es.size ep)} (.ref a) "set":=⟨_,S2.at_,rfl⟩;refine GB hT2 ?_;refine F4 (by decide +kernel) ?_
 (refine Uh (XX ?_))
 subst Tu;have hI:((s.heap.push {cls:=.type "list",data:=.seq ([]:List Uk).toArray}).push (pG a 0 0 es.size ep)).get? (s.heap.objs.size + 1)=some (pG a 0 0 es.size ep):=by rw [<-z1];exact Us _ rfl
 have hS₁:((s.heap.push {cls:=.type "list",data:=.seq ([]:List Uk).toArray}).push (pG a 0 0 es.size ep)).get? s.heap.objs.size=some {cls:=.type "list",data:=.seq ([]:List Uk).toArray}:=Ul _ (Us _ rfl);refine Uh ?_
 (show UB _ A.in1 (ab2 s.heap.objs.size (·.push .none) >>= λ_=>ab2 s.heap.objs.size (·.pop)) _ _ _)
 (refine Uh (Xr hS₁ rfl ?_))
 (have hS₂:=Vd (VJ (·.push Vl)) hS₁ rfl)
 (refine Xr hS₂ rfl ?_)
 (have hS₃:=Vd (VJ (·.pop)) hS₂ rfl)
 have oth:∀b o,b≠s.heap.objs.size->((s.heap.push {cls:=.type "list",data:=.seq ([]:List Uk).toArray}).push (pG a 0 0 es.size ep)).get? b=some o->
   ((((s.heap.push {cls:=.type "list",data:=.seq ([]:List Uk).toArray}).push (pG a 0 0 es.size ep)).update s.heap.objs.size (VJ (·.push Vl))).update s.heap.objs.size (VJ (·.pop))).get? b=some o:=
  (λb o hb e=>(Wu _ _ (Ws hb)).trans ((Wu _ _ (Ws hb)).trans e))
 have hne:a≠s.heap.objs.size + 1:=UY (Zd ha);have hSf:s.heap.objs.size∉[s.heap.objs.size + 1,a]:=by simp only [UK,Vz,or_false,not_or];exact ⟨UY (Wc _),WA ha⟩
 obtain ⟨L,T⟩:=S.tab;refine Uj ⟨WS XJ _,codeAny_extend_loopS ((F3 (A:=A.in1) (prog:=prog) (w:=w) (es:=es) (ep:=ep) (t:=t) hh (s.heap.objs.size + 1) a hne).toS) (by rw [Wo];omega) _ hSf _ es.size 0 _ _ _ rfl (UX _)
  ⟨0,oth _ _ (WA (Wc _)) hI,S2.keep λo e=>oth _ _ (UY ha) e,λ_=>Cv T.sop⟩ hS₃ (ItemsOf.nil _) λs' acc' c' hm hS' hacc=>?_⟩
 (show UB _ A (load s.heap.objs.size >>= _) _ _ s')
 (refine Uh (ab8 hS' ?_))
 have eacc:acc'.toList=kO w a ep es:=by
  obtain ⟨z,q⟩:=hacc;have lw:(kO w a ep es).length=es.size:=by unfold kO;rw [Uo,UJ,mU]
  refine W8 (by rw [UJ,z,lw]) λi x1 x2=>?_;have this:(kO w a ep es)[i]?=some (acc'[i]'(by simpa using x1)):=q i _ (V9 (by simpa using x1));rw [UA x2] at this
  (exact (VF this).symm)
 refine Uj ?_;rw [eacc]
 (obtain ⟨h',g',d',tk',os'⟩:=s')
 (have eg:g'=s.gens:=hm.gens)
 (have ed:d'=s.drawn:=hm.drawn)
 have eo:os'=s.os:=hm.os;subst eg;subst ed;subst eo;refine hQ h' tk' (λb o e=>?_) (UC hS');have lb:=UC e;refine hm.heap b o ?_ (oth b o (UY lb) (Ul _ (Ul _ e)));simp only [UK,Vz,or_false,not_or];exact ⟨UY lb,UY (Zd lb)⟩
end
theorem FT:aa5 (.type "tuple") (.type "set")=pure false:=by rw [Yt];kernel_rfl
theorem FQ:aa5 (.type "tuple") (.type "frozenset")=pure false:=by rw [Yt];kernel_rfl
theorem EN:aa5 (.type "list") (.type "set")=pure false:=by rw [Yt];kernel_rfl
theorem EM:aa5 (.type "list") (.type "frozenset")=pure false:=by rw [Yt];kernel_rfl
abbrev gj (led:Bool):Obj:={cls:=.type "set",dict:=none,data:=.set #[] 0 (.fresh 0 0 led)}
abbrev dU (w:U5):Bool:=!w.params.followText "set-order"
section
variable {prog:UG}{w:U5}{A:U8}{E:Uk->Um->Prop}{s:Um}{K:Ui}{J:Hp}
theorem HM (a:Uk){Q₁:Uk->Um->Prop}(h:Q₁ (.ref s.heap.objs.size) {s with heap:=s.heap.push (gj (dU w))}):
  (WM (UO prog w) A (.call (.builtin "set.__new__") ⟨[.type "set",a],[]⟩) (wants Q₁ E) s):=by
 refine (YV ?_)
 (show UB _ A.in1 (do Zo "set.__new__" ⟨[.type "set",a],[]⟩;again (.builtin "set.__new__" ⟨[.type "set",a],[]⟩)) _ _ s)
 refine Uh (YA (PySem.F.newCall_set_1 a) (Uj ⟨WS adq _,VH F.entry_set_new ?_⟩))
 (rw [Vj adq _])
 (unfold X6.«set.__new__» adC)
 have hsub:=sub_set_self
 (obtain ⟨hp,g,d,tk,os⟩:=s)
 dsimp only
 wp_walk
 (refine W_ (Uj ?_))
 dsimp only;simp only [newObj]
 (refine Uh (wpAny_alloc (Uj ?_)))
 exact Uj h
noncomputable def Ga (prog:UG) (w:U5) (A:U8) (E:Uk->Um->Prop) (s:Um) (l:UL) (items:Array Uk):Prop:=
 ∃(I:UL) (fp:List UL) (St:Nat->Um->Prop) (h2:VB),WalksS prog w A.in1.in1.in1 I fp [I] (λa b=>b=a) items.size (λi v=>items[i]?=some v) St/\s.heap.objs.size∉fp/\s.heap.objs.size < I/\St 0 {s with heap:=h2}/\(∀b o,(s.heap.push (gj (dU w))).get? b=some o->h2.get? b=some o)/\
  ∀R:Uk->Um->Prop,R (.ref I) {s with heap:=h2}->UB (UO prog w) A.in1.in1 (ZF (.ref l)) R E {s with heap:=s.heap.push (gj (dU w))}
theorem Ae {ol:Obj}{Q:Uk->Um->Prop}{items:Array Uk}(P:VB->Prop) (RA:s.heap.get? l=some ol) (hcl:ol.cls=.type T) (TN:aa5 (.type T) (.type "set")=pure false) (TM:aa5 (.type T) (.type "frozenset")=pure false) (hne:(W6 T == W6 "dict")=false)
 (it:Ga prog w A E s l items)
 (loop:∀{I:UL}{fp:List UL}{St:Nat->Um->Prop}{h2:VB}{R:_->Um->Prop},WalksS prog w A.in1.in1.in1 I fp [I] (λa b=>b=a) items.size (λi v=>items[i]?=some v) St->s.heap.objs.size∉fp->s.heap.objs.size < I->St 0 {s with heap:=h2}->(∀b o,(s.heap.push (gj (dU w))).get? b=some o->h2.get? b=some o)->
 (∀s',Moved [s.heap.objs.size,I] (λa b=>b=a) {s with heap:=h2} s'->P s'.heap->R (.ok (.ret .none)) s')->WM (UO prog w) A.in1.in1 (.builtin "set.update.loop" ⟨[.ref s.heap.objs.size,.ref I],[]⟩) R {s with heap:=h2})
 (h:∀(h':VB) (tk:Nat),P h'->(∀b o,b < s.heap.objs.size->s.heap.get? b=some o->h'.get? b=some o)->Q (.ref s.heap.objs.size) {s with heap:=h',toks:=tk}):
  (UB (UO prog w) A (call (.type "set") [.ref l]) Q E s):=by
 (obtain ⟨c,tl,Tw⟩:=Yc.mro)
 (have hmade:=Yc.made)
 have hsub:=Yc.sub
 (refine ab_ (YV ?_))
 (show UB _ _ (callAny (.type "set") _) _ _ _)
 (refine Uj ⟨Code.quiet_builtin _ (by decide +kernel),VH F.entry_type_call ?_⟩)
 (rw [Around.under_plain (weight_type_call_type "set" [.ref l] []) rfl])
 (have h1:=Yc.notType)
 (have h2:=Yc.canCreate)
 have hct:=PySem.F.typeCall_set_1 (.ref l)
 (repeat (any_goals (first | assumption | wp_step)))
 refine Xz (HM (.ref l) (E:=E) (Q₁:=λobj s₁=>obj=.ref s.heap.objs.size/\s₁={s with heap:=s.heap.push (gj (dU w))}) ⟨rfl,rfl⟩) λr s₁ hr=>?_;cases r with
 | error e=>exact hr
 | ok fl=>
  cases fl with
  | ret obj=>
   obtain ⟨rfl,rfl⟩:=hr;have hS:(s.heap.push (gj (dU w))).get? s.heap.objs.size=some (gj (dU w)):=Us _ rfl;have hT:aay {s with heap:=s.heap.push (gj (dU w))} (.ref s.heap.objs.size) "set":=⟨_,hS,rfl⟩
   (have hli:=Yc.init.lookup)
   (have hbi:=Yc.init.bind (.ref s.heap.objs.size))
   (repeat (any_goals (first | assumption | wp_step)))
   refine Xz (abk (R:=wants (λr s₂=>r=.none/\∃h' tk,s₂={s with heap:=h',toks:=tk}/\P h'/\
     (∀b o,b < s.heap.objs.size->s.heap.get? b=some o->h'.get? b=some o)) E) Yc.init.plain F.entry_set_init ((check_set_init_1 hT ?_))) λr₂ s₂ hr₂=>?_
   ·have Sw:(s.heap.push (gj (dU w))).get? l=some ol:=Ul _ RA;have TX:aay {s with heap:=s.heap.push (gj (dU w))} (.ref l) T:=⟨_,Sw,hcl⟩
    (unfold X6.«set.__init__» noKeywords ac3)
    generalize S5:ZF=PI
    wp_walk
    subst S5;obtain ⟨I,fp,St,h2,W,hSf,hSI,st,hk,hit⟩:=it;refine hit _ (Uh (Z7 (loop W hSf hSI st hk λs' hm hp=>?_)))
    (obtain ⟨h',g',d',tk',os'⟩:=s')
    (have eg:g'=s.gens:=hm.gens)
    (have ed:d'=s.drawn:=hm.drawn)
    have eo:os'=s.os:=hm.os;subst eg;subst ed;subst eo;show UB _ _ _ _ _ _;refine Uj ?_
    (show UB _ _ (ret Vl) _ _ _)
    refine Uj ⟨rfl,h',tk',rfl,hp,λb o hb e=>hm.heap b o ?_ (hk b o (Ul _ e))⟩;simp only [UK,Vz,or_false,not_or];exact ⟨UY hb,UY (XA hb hSI)⟩
   ·cases r₂ with
    | error e=>exact hr₂
    | ok fl₂=>
     cases fl₂ with
     | ret r=>
      obtain ⟨rfl,h',tk,rfl,hp,hk'⟩:=hr₂
      (repeat (any_goals (first | assumption | wp_step)))
      exact h _ _ hp hk'
     | _=>exact hr₂.elim
  | _=>exact hr.elim
theorem GD (hh:A.handled=none) (hl:s.heap.IsTuple l items):Ga prog w A E s l items:=by
 obtain ⟨ol,RA,hcl,nl,hdl⟩:=id hl;have hl1:(s.heap.push (gj (dU w))).IsTuple l items:=⟨_,Ul _ RA,hcl,nl,hdl⟩;have hlS:l < s.heap.objs.size:=UC RA;have z1:(s.heap.push (gj (dU w))).objs.size=s.heap.objs.size + 1:=VD _ _;have RS:l≠(s.heap.push (gj (dU w))).objs.size:=by rw [z1];exact UY (Zd hlS)
 refine ⟨_,_,_,_,(Walks.tuple (A:=A.in1.in1.in1) (by simp [hh]) (s.heap.push (gj (dU w))).objs.size l RS items).toS,?_,?_,⟨⟨_,Us _ rfl,rfl,rfl⟩,hl1.push _⟩,λb o e=>Ul _ e,λR q=>YL hl1 q⟩
 ·rw [z1];simp only [UK,Vz,or_false,not_or];exact ⟨UY (Wc _),WA hlS⟩
 ·rw [z1];exact Wc _
theorem JQ {l:UL}{items:Array Uk}(hh:A.handled=none) (hl:s.heap.IsList l items):Ga prog w A E s l items:=by
 obtain ⟨ol,RA,hcl,nl,hdl⟩:=id hl;have hl1:(s.heap.push (gj (dU w))).IsList l items:=⟨_,Ul _ RA,hcl,nl,hdl⟩;have hlS:l < s.heap.objs.size:=UC RA;have z1:(s.heap.push (gj (dU w))).objs.size=s.heap.objs.size + 1:=VD _ _;have RS:l≠(s.heap.push (gj (dU w))).objs.size:=by rw [z1];exact UY (Zd hlS)
 refine ⟨_,_,_,_,(ae_ (A:=A.in1.in1.in1) (by simp [hh]) (s.heap.push (gj (dU w))).objs.size l RS items).toS,?_,?_,⟨⟨_,Us _ rfl,rfl,rfl⟩,hl1.push _⟩,λb o e=>Ul _ e,λR q=>Y8 hl1 q⟩
 ·rw [z1];simp only [UK,Vz,or_false,not_or];exact ⟨UY (Wc _),WA hlS⟩
 ·rw [z1];exact Wc _
theorem ES {items:Array Uk}{ds:List D}(N:HF K J s) (hz:items.size=ds.length) (hi:∀i v,items[i]?=some v->KV K J v (ds.getD i .non)) (hn:ds.length<=76) (hu:A.units + 16 < V6){St:Nat->Um->Prop}{h2:VB}{R:_->Um->Prop}(W:WalksS prog w A.in1.in1.in1 I fp [I] (λa b=>b=a) items.size (λi v=>items[i]?=some v) St) (hSf:s.heap.objs.size∉fp) (hSI:s.heap.objs.size < I) (st:St 0 {s with heap:=h2})
 (hk:∀b o,(s.heap.push (gj (dU w))).get? b=some o->h2.get? b=some o) (hR:∀s',Moved [s.heap.objs.size,I] (λa b=>b=a) {s with heap:=h2} s'->(∃ks es ep t,gQ K J s'.heap s.heap.objs.size (dU w) ks es ep t/\∀d,d∈ks↔d∈ds)->R (.ok (.ret .none)) s'):WM (UO prog w) A.in1.in1 (.builtin "set.update.loop" ⟨[.ref s.heap.objs.size,.ref I],[]⟩) R {s with heap:=h2}:=by
 have all:(Ur items.size).map (λi=>ds.getD i .non)=ds:=by refine W8 (by simp [hz]) λi a b=>?_;simp [b]
 have hno:∀b,s.heap.objs.size<=b->s.heap.get? b=none:=λb hb=>by
  cases q:s.heap.get? b with
  | none=>rfl
  | some o=>exact absurd (UC q) (Nat.not_lt.mpr hb)
 refine HX (A:=A.in1.in1) (K:=K) (J:=J) (s0:=s) (led:=dU w) W s.heap.objs.size hSf (λi=>ds.getD i .non) hi N (λb hb=>hno b ?_) (by simp only [in1_units];omega) (by omega) items.size 0 _ [] #[] 0 (.fresh 0 0 (dU w)) (by omega) (UX _) st (λb o e=>hk b o (Ul _ e)) (Dp (hk _ _ (Us _ rfl))) (λd=>by simp) λs' ks es ep t hm hS' hmem=>hR s' hm ⟨ks,es,ep,t,hS',by rw [all] at hmem;exact hmem⟩;rcases UK.mp hb with rfl | hb
 ·exact Uw _
 ·rw [Uz.mp hb];exact ZV hSI
theorem Ag {items:Array Uk}{ds:List D}{Q:Uk->Um->Prop}(N:HF K J s) (hh:A.handled=none) (hl:s.heap.IsTuple l items) (hz:items.size=ds.length) (hi:∀i v,items[i]?=some v->KV K J v (ds.getD i .non)) (hn:ds.length<=76) (hu:A.units + 16 < V6)
 (h:∀(h':VB) (tk:Nat) ks es ep t,gQ K J h' s.heap.objs.size (dU w) ks es ep t->(∀d,d∈ks↔d∈ds)->(∀b o,b < s.heap.objs.size->s.heap.get? b=some o->h'.get? b=some o)->Q (.ref s.heap.objs.size) {s with heap:=h',toks:=tk}):
  (UB (UO prog w) A (call (.type "set") [.ref l]) Q E s):=by obtain ⟨ol,RA,hcl,_⟩:=id hl;exact Ae (λh'=>∃ks es ep t,gQ K J h' s.heap.objs.size (dU w) ks es ep t/\∀d,d∈ks↔d∈ds) RA hcl FT FQ (by decide) (GD hh hl) (λW a b c d e=>ES N hz hi hn hu W a b c d e) λh' tk ⟨ks,es,ep,t,a,b⟩=>h h' tk ks es ep t a b
theorem AQ {l:UL}{items:Array Uk}{ds:List D}{Q:Uk->Um->Prop}(N:HF K J s) (hh:A.handled=none) (hl:s.heap.IsList l items) (hz:items.size=ds.length) (hi:∀i v,items[i]?=some v->KV K J v (ds.getD i .non)) (hn:ds.length<=76) (hu:A.units + 16 < V6)
  (h:∀(h':VB) (tk:Nat) ks es ep t,gQ K J h' s.heap.objs.size (dU w) ks es ep t->(∀d,d∈ks↔d∈ds)->(∀b o,b < s.heap.objs.size->s.heap.get? b=some o->h'.get? b=some o)->Q (.ref s.heap.objs.size) {s with heap:=h',toks:=tk}):
  (UB (UO prog w) A (call (.type "set") [.ref l]) Q E s):=by obtain ⟨ol,RA,hcl,_⟩:=id hl;exact Ae (λh'=>∃ks es ep t,gQ K J h' s.heap.objs.size (dU w) ks es ep t/\∀d,d∈ks↔d∈ds) RA hcl EN EM (by decide) (JQ hh hl) (λW a b c d e=>ES N hz hi hn hu W a b c d e) λh' tk ⟨ks,es,ep,t,a,b⟩=>h h' tk ks es ep t a b
end
end DL
namespace DL
open PySem PySem.Spec PyProof.Rows L2 ST
open PySem.W (KasT kas_sort kas_ask)
mutual
noncomputable def formOf:D->Fm
 | .int _=>.i
 | .tup xs=>Bp xs
 | _=>.b
noncomputable def Bp:List D->Fm
 | []=>.tn
 | x::xs=>.tc (formOf x) (Bp xs)
end
noncomputable def qX:Fm->D->Bool
 | .i,.int _=>true
 | .tn,.tup xs=>xs.isEmpty
 | .tc x r,.tup (y::ys)=>qX x y && qX r (.tup ys)
 | _,_=>false
theorem tN:∀(f:Fm) (d:D),qX f d=true->mG f d
 | .i,.int k,_=>⟨k,rfl⟩
 | .tn,.tup [],_=>⟨[],rfl,rfl⟩
 | .tc x r,.tup (y::ys),h=>by unfold qX at h;rw [Uq] at h;exact ⟨_,rfl,y,ys,rfl,tN x y h.1,tN r (.tup ys) h.2⟩
noncomputable def IU:List D->Bool
 | []=>true
 | d::r=>(match gV d with
  | some k=>gP k (d::r)
  | none=>false) && (d::r).all (qX (formOf d))
def nI (ds:List D):Bool:=decide (ds.length < 64) && (areKeys ds && (decide (deps ds<=8) && IU ds))
theorem G3 (h:IU ds=true):∃k f,∀d∈ds,gV d=some k/\mG f d:=by
 cases ds with
 | nil=>exact ⟨.i,.i,λ_ h=>nomatch h⟩
 | cons d r=>
  unfold IU at h;rw [Uq] at h;cases q:gV d with
  | none=>rw [q] at h;cases h.1
  | some k=>
   rw [q] at h;exact ⟨k,formOf d,λx hx=>⟨lV h.1 x hx,tN _ _ (U4.mp h.2 x hx)⟩⟩
theorem s_ {n:Nat}:∀{ds:List D},deps ds<=n->∀d∈ds,dep d<=n
 | [],_,_,h=>nomatch h
 | x::r,hn,d,h=>by
  unfold deps at hn
  (rcases UK.mp h with rfl | h)
  ·omega
  ·exact s_ (ds:=r) (by omega) d h
theorem nU {k:Hd}:∀{ds:List D},(∀d∈ds,gV d=some k)->gP k ds=true
 | [],_=>rfl
 | x::r,h=>by unfold gP;rw [h x (Uv ..),nU λd hd=>h d (Uu _ hd)];cases k <;> rfl
structure O5 (ds:List D) (k:Hd) (f:Fm):Prop where
 ln:ds.length < 64
 ky:areKeys ds=true
 dp:deps ds<=8
 al:∀d∈ds,gV d=some k/\mG f d
theorem tR (h:nI ds=true):∃k f,O5 ds k f:=by unfold nI at h;rw [Uq,Uq,Uq] at h;obtain ⟨h1,h2,h3,h4⟩:=h;obtain ⟨k,f,h5⟩:=G3 h4;exact ⟨k,f,of_decide_eq_true h1,h2,of_decide_eq_true h3,h5⟩
abbrev kN (X:Cx) (H0:Hp) (a:UL) (ds:List D):HO:=.ext λh=>∃ks es ep t,gQ X.K H0 h a (dU X.w) ks es ep t/\∀d,d∈ks↔d∈ds
section
variable {X:Cx}
theorem IP {K:Ui}{J:Hp}{k:Hd}{f:Fm}{ds:List D}{vs:List V}{us:List Uk}(o:O5 ds k f) (rs:aK K J ds vs) (rv:Vals vs us):∀i v,us.toArray[i]?=some v->KV K J v (ds.getD i .non):=λi v q=>by
 have l1:vs.length=us.length:=rv.length;have l2:ds.length=vs.length:=rs.length;have hi:i < us.length:=by have:=(V1.mp q).1;simpa using this
 have e:us.getD i Vl=v:=by simp at q;simp [Zl,q]
 have r1:=jS rs (i:=i) (by omega);have r2:=jU rv (i:=i) (by omega);rw [e] at r2;have m:=ir (ds:=ds) (i:=i) (by omega);refine ⟨?_,r6 o.ky _ m,s_ o.dp _ m,_,r1,r2⟩;have hh:=(o.al _ m).1;generalize dM ds i=d at r1 hh;generalize vs.getD i V.non=vv at r1 r2;cases d with
 | tup xs=>cases r1 with
  | tup _ _=>cases r2;exact ⟨_,rfl⟩
 | _=>cases hh
theorem Eb (hu:X.A.units + 64 < V6) (hc:X.calm=true):cL X (.type "set") (λxs H Q=>∃p vs ds J0,xs=[.ref p]/\cY X.K H p vs/\aU J0 H/\aK X.K J0 ds vs/\nI ds=true/\∀l,H l=none->Q (.ref l) (upd H l (kN X J0 l ds))):=by intro T9 s σ H xs us Q I r h;obtain ⟨p,vs,ds,J0,rfl,hq,sm,rs,oks,q⟩:=h;obtain ⟨u,rfl,rx⟩:=vals1 r;cases rx;obtain ⟨k,f,o⟩:=tR oks;have N:HF X.K J0 s:=HF.of (c:=⟨X.K,H,H,λ_=>True⟩) I sm;obtain ⟨its,r',pt,hz⟩:=I.tuple hq;refine Ag N (I.ok.hd hc) pt (by simp [<-r'.length,rs.length]) (IP o rs r') (by have:=o.ln;omega) (by omega) λh' tk ks es ep t S hm kp=>?_;exact ⟨.ref s.heap.objs.size,_,I.laid (t':=tk) (λb o e=>kp b o (UC e) e) (Uw _) (show cM X.prog X.w _ _ _ (kN X J0 s.heap.objs.size ds) from ⟨⟨ks,es,ep,t,S,hm⟩,⟨_,S.at_⟩,λh1 h2 ⟨ks,es,ep,t,S,hm⟩ e=>⟨ks,es,ep,t,S.keep e,hm⟩⟩),rfl,q _ (I.hok.fresh (Uw _))⟩
theorem Ea (hu:X.A.units + 64 < V6) (hc:X.calm=true):cL X (.type "set") (λxs H Q=>∃p vs ds J0,xs=[.ref p]/\cj X.K H p vs/\aU J0 H/\aK X.K J0 ds vs/\nI ds=true/\∀l,H l=none->Q (.ref l) (upd H l (kN X J0 l ds))):=by intro T9 s σ H xs us Q I r h;obtain ⟨p,vs,ds,J0,rfl,hq,sm,rs,oks,q⟩:=h;obtain ⟨u,rfl,rx⟩:=vals1 r;cases rx;obtain ⟨k,f,o⟩:=tR oks;have N:HF X.K J0 s:=HF.of (c:=⟨X.K,H,H,λ_=>True⟩) I sm;obtain ⟨its,r',pl,hz⟩:=I.list hq;refine AQ N (I.ok.hd hc) pl.isList (by simp [<-r'.length,rs.length]) (IP o rs r') (by have:=o.ln;omega) (by omega) λh' tk ks es ep t S hm kp=>?_;exact ⟨.ref s.heap.objs.size,_,I.laid (t':=tk) (λb o e=>kp b o (UC e) e) (Uw _) (show cM X.prog X.w _ _ _ (kN X J0 s.heap.objs.size ds) from ⟨⟨ks,es,ep,t,S,hm⟩,⟨_,S.at_⟩,λh1 h2 ⟨ks,es,ep,t,S,hm⟩ e=>⟨ks,es,ep,t,S.keep e,hm⟩⟩),rfl,q _ (I.hok.fresh (Uw _))⟩
theorem D_ (hu:X.A.units + 64 < V6) (hc:X.calm=true):cL X (.type "set") (λxs H Q=>∃p vs ds J0,xs=[.ref p]/\(cY X.K H p vs\/cj X.K H p vs)/\aU J0 H/\aK X.K J0 ds vs/\nI ds=true/\∀l,H l=none->Q (.ref l) (upd H l (kN X J0 l ds))):=λT9 s σ H xs us Q I r ⟨p,vs,ds,J0,h1,h2,h3⟩=>
 h2.elim (λh2=>Eb hu hc T9 s σ H xs us Q I r ⟨p,vs,ds,J0,h1,h2,h3⟩) λh2=>Ea hu hc T9 s σ H xs us Q I r ⟨p,vs,ds,J0,h1,h2,h3⟩
end
noncomputable def dd:List D->List D
 | []=>[]
 | x::xs=>if (dd xs).any (bh x)=true then dd xs else x::dd xs
def gm (ds:List D):List D:=bQ (dd ds)
section
variable {P:D->Prop}
theorem ye (p:f7 P):∀(ds:List D),(∀x∈ds,P x)->(dd ds).Nodup/\∀y,y∈dd ds↔y∈ds
 | [],_=>⟨Xk,λ_=>.rfl⟩
 | x::xs,h=>by
  obtain ⟨h1,h2⟩:=ye p xs λy hy=>h y (Uu _ hy);have px:=h x (Uv ..);have eqv:(dd xs).any (bh x)=true↔x∈xs:=by
   rw [Wr];constructor
   ·rintro ⟨z,hz,e⟩;have hz':=(h2 z).mp hz;rw [(p.eq x z px (h z (Uu _ hz'))).mp e];exact hz'
   ·intro hx;exact ⟨x,(h2 x).mpr hx,(p.eq x x px px).mpr rfl⟩
  unfold dd;by_cases c:(dd xs).any (bh x)=true
  ·rw [if_pos c];refine ⟨h1,λy=>?_⟩;rw [h2 y,UK];exact ⟨.inr,λz=>z.elim (λe=>e▸eqv.mp c) id⟩
  ·rw [if_neg c];refine ⟨Wq.mpr ⟨λz=>c (eqv.mpr ((h2 x).mp z)),h1⟩,λy=>?_⟩;rw [UK,UK,h2 y]
theorem Au (p:f7 P):∀{A B:List D},(∀x∈A,P x)->A.Pairwise (λa b=>eF a b=true)->B.Pairwise (λa b=>eF a b=true)->(∀y,y∈A↔y∈B)->A=B
 | [],[],_,_,_,_=>rfl
 | [],b::B,_,_,_,h=>by cases (h b).mpr Uv
 | a::A,[],_,_,_,h=>by cases (h a).mp Uv
 | a::A,b::B,hp,hA,hB,h=>by
  obtain ⟨a1,a2⟩:=Xc.mp hA;obtain ⟨b1,b2⟩:=Xc.mp hB;have pa:=hp a Uv;have pb:=hp b ((h b).mpr Uv);have no:∀z,P z->eF z z=true->False:=λz pz q=>by have:=p.asy z z pz pz q;rw [q] at this;cases this
  have e:a=b:=by
   rcases UK.mp ((h a).mp Uv) with e | e
   ·exact e
   ·rcases UK.mp ((h b).mpr Uv) with f | f
    ·exact f.symm
    ·exact (no a pa (p.tra _ _ _ pa pb pa (a1 b f) (b1 a e))).elim
  subst e;have:A=B:=by
   refine Au p (λx hx=>hp x (Uu _ hx)) a2 b2 λy=>⟨λhy=>?_,λhy=>?_⟩
   ·rcases UK.mp ((h y).mp (Uu _ hy)) with e | e
    ·subst e;exact (no y pa (a1 y hy)).elim
    ·exact e
   ·rcases UK.mp ((h y).mpr (Uu _ hy)) with e | e
    ·subst e;exact (no y pa (b1 y hy)).elim
    ·exact e
  rw [this]
theorem v5 (p:f7 P){ds:List D}(h:∀x∈ds,P x) (nd:ds.Nodup):(bQ ds).Pairwise λa b=>eF a b=true:=by
 have up:=HN p ds h;have pm:=jD ds;have nd':(bQ ds).Nodup:=pm.nodup_iff.mpr nd;have both:=afa up nd';refine (X_.mp both).imp ?_;rintro a b ⟨ha,hb,h1,h2⟩;cases q:eF a b with
 | true=>rfl
 | false=>exact absurd (p.tri a b (h a (pm.mem_iff.mp ha)) (h b (pm.mem_iff.mp hb)) q h1) h2
theorem HP (p:f7 P){ds ks:List D}(h:∀x∈ds,P x) (nd:ks.Nodup) (hm:∀d,d∈ks↔d∈ds):bQ ks=gm ds:=by
 obtain ⟨h1,h2⟩:=ye p ds h;have hk:∀x∈ks,P x:=λx hx=>h x ((hm x).mp hx);have hd:∀x∈dd ds,P x:=λx hx=>h x ((h2 x).mp hx);exact Au p (λx hx=>hk x ((jD ks).mem_iff.mp hx)) (v5 p hk nd) (v5 p hd h1) λy=>by rw [(jD ks).mem_iff,hm y];show _↔y∈bQ (dd ds);rw [(jD (dd ds)).mem_iff,h2 y]
theorem t6 (p:f7 P) (h:∀x∈ds,P x):(gm ds).Pairwise (λa b=>eF a b=true)/\∀d,d∈gm ds↔d∈ds:=by obtain ⟨h1,h2⟩:=ye p ds h;exact ⟨v5 p (λx hx=>h x ((h2 x).mp hx)) h1,λd=>by show d∈bQ (dd ds)↔_;rw [(jD (dd ds)).mem_iff,h2 d]⟩
end
theorem fE.reps {K:Ui}{J:Hp}{es:List (Int×Uk)}{ks:List D}(h:fE K J es ks):∃vs,aK K J ks vs/\Vals vs (es.map (·.2)):=by
 induction h with
 | nil=>exact ⟨_,.nil,.nil⟩
 | cons _ hk _ ih=>
  obtain ⟨vs,h1,h2⟩:=ih;obtain ⟨_,_,_,v,r,rv⟩:=hk;exact ⟨v::vs,.cons r h1,.cons rv h2⟩
section
variable {X:Cx}
theorem CA (hu:X.A.units + 64 < V6) (hc:X.calm=true):cL X (.builtin "sorted") (λxs H Q=>∃p ds J0,xs=[.ref p]/\H p=some (kN X J0 p ds)/\aU J0 H/\nI ds=true/\∀l vs',H l=none->aK X.K J0 (gm ds) vs'->Q (.ref l) (upd H l (.lst vs'))):=by
 intro T9 s σ H xs us Q I r h;obtain ⟨p,ds,J0,rfl,hp,sm,oks,q⟩:=h;obtain ⟨u,rfl,rx⟩:=vals1 r;cases rx;obtain ⟨k,f,o⟩:=tR oks;have hh:X.A.handled=none:=I.ok.hd hc;have N:HF X.K J0 s:=HF.of (c:=⟨X.K,H,H,λ_=>True⟩) I sm;obtain ⟨⟨ks,es,ep,t,S,hm⟩,_⟩:=(show cM X.prog X.w H s.heap p (kN X J0 p ds) from I.hok p _ hp);obtain ⟨ks',pm,en'⟩:=S.en.perm (sQ X.w p ep es).symm;have nd':ks'.Nodup:=pm.nodup_iff.mp S.nd;have hm':∀d,d∈ks'↔d∈ds:=λd=>by rw [<-pm.mem_iff,hm d]
 obtain ⟨vs,rs,rv⟩:=en'.reps;have hv:kO X.w p ep es=(gF X.w p ep es).toList.map (·.2):=rfl;rw [<-hv] at rv;generalize hits:kO X.w p ep es=its at rv;have l1:vs.length=its.length:=rv.length;have l2:ks'.length=vs.length:=rs.length;have len:ks'.length<=ds.length:=Vs nd' λd hd=>(hm' d).mp hd;have l64:=o.ln;have les:es.size=ks'.length:=by rw [<-UJ,S.en.length,pm.length_eq]
 have out:=HP (jW f) (λx hx=>(o.al x hx).2) nd' hm';refine qH I (λE C h=>AK hh S.wk (by omega) λh1 tk k1 le=>hits▸h h1 tk k1 (ZV le)) rv l2 (by omega) (DT (N.keep λ_ _ e=>e) rs rv (k:=k) (λd hd=>⟨(o.al d ((hm' d).mp hd)).1,U1 (s_ o.dp d ((hm' d).mp hd)) (by decide)⟩) (nU λd hd=>(o.al d ((hm' d).mp hd)).1) (λx hx y hy=>(jW f).lt _ _ (o.al _ ((hm' x).mp hx)).2 (o.al _ ((hm' y).mp hy)).2) hu) λl vs' hl rr=>q l vs' hl (out▸rr _ rs)
end
end DL
namespace DL
open PySem PySem.Spec PyProof.Rows L2 ST
section
variable {X:Cx}{c:C}{e:U_}{pos pos2:Pos}
theorem D5:Vx "set"=some (.type "set"):=by decide +kernel
noncomputable def zu:List R->M R
 | [r]=>iK r >>= λxs=>if nI xs=true then .ok (.l .fresh (gm xs)) else .bad
 | _=>.bad
noncomputable def HB (X:Cx):List V->Hp->VK->Prop:=λxs H Q=>∃p vs ds J0,xs=[.ref p]/\(cY X.K H p vs\/cj X.K H p vs)/\aU J0 H/\aK X.K J0 ds vs/\nI ds=true/\∀l,H l=none->Q (.ref l) (upd H l (kN X J0 l ds))
noncomputable def HC (X:Cx):List V->Hp->VK->Prop:=λxs H Q=>∃p ds J0,xs=[.ref p]/\H p=some (kN X J0 p ds)/\aU J0 H/\nI ds=true/\∀l vs',H l=none->aK X.K J0 (gm ds) vs'->Q (.ref l) (upd H l (.lst vs'))
theorem vZ {J H:Hp}{p:UL}{vs:List V}{ds:List D}{Q:VK}(hq:cY X.K H p vs\/cj X.K H p vs) (sm:aU J H) (rs:aK X.K J ds vs) (ok:nI ds=true) (q:∀l o l2 vs',H l=none->upd H l o l2=none->aK X.K J (gm ds) vs'->Q (.ref l2) (upd (upd H l o) l2 (.lst vs'))):
  HB X [.ref p] H λv H2=>HC X [v] H2 Q:=
 ⟨p,vs,ds,J,rfl,hq,sm,rs,ok,λl hl=>⟨l,ds,J,rfl,bN,(Ext.new sm hl _).sub,ok,λl2 vs' h2 rr=>q l _ l2 vs' hl h2 rr⟩⟩
end
end DL
namespace DL
open PySem PySem.Spec PyProof.Rows L2 DX
section
variable {X:Cx}{c:C}{a e ke:U_}{g gk:G R}{pos:Pos}{elts:List U_}{kk:Nat}{tp:Pos}
theorem Ft {p:Pos}{gs:G (List R)}(ha:i6 X c [a] gs) (hm:X.mg "enumerate"=none) (hK:X.K=c.K:=by rfl) (hg:Gl X "enumerate":=by rfl) (hs:Ux [a] X.env=[(false,eval a X.env)]:=by rfl) (hs2:Ux [] X.env=[]:=by rfl):
  wD X c (.Tuple elts kk tp) (.Call (.Name "enumerate" p) [a] [] pos) (IE gs):=have ha:=ha.h;⟨
 q_ (KG hg hm ha hs hs2) λσ H Q ⟨J,env,sr,w⟩=>by
  refine ⟨J,env,sr,aE (aI w) λrs wr vs J1 H1 e1 r1=>?_⟩;split at wr
  ·obtain ⟨v,rfl,r⟩:=r1.one;obtain ⟨xs,q1,wr⟩:=Lk wr;have hp1:=sr.hp.ext e1;obtain ⟨k1,l1,us1,rfl,a1,s1⟩:=NK hp1 r q1;refine ⟨k1,l1,us1,rfl,by rw [hK];exact s1,?_⟩;rw [hK];refine wr _ J1 H1 e1 λi J' H' hp u=>?_;have t1:=s1.same u.2;refine ⟨λhl=>⟨us1,t1,?_⟩,λd hd=>?_⟩
   ·rw [Ep,a1.length] at hl;exact hl
   ·obtain ⟨x,b0,rfl⟩:=Gq hd;obtain ⟨ux,b1,c1⟩:=a1.get b0;refine ⟨⟨us1,ux,t1,b1⟩,λz H2 ⟨q,hq,e,hy⟩=>?_⟩;have:=hy us1 ux t1 b1;subst this e;have s':aU J' (upd J' q (.tup [.int i,ux])):=cJ (hp.sub.free hq) _;exact ⟨_,Ext.newJ hp.sub hq _,.tup (.inl (.inl bN)) (.cons (.int _) (.cons ((c1.mono u.1).mono s') .nil))⟩
  ·exact wr.elim⟩
end
end DL
namespace DL
open PySem PySem.Spec PyProof.Rows L2 ST PySem.SetTable
end DL
namespace DL
open PySem PySem.Spec PyProof.Rows L2 ST
end DL
namespace DL
open PySem PySem.Spec PyProof.Rows L2 ST DX
open PySem.W (KasT kas_sort kas_ask)
end DL
namespace DL
open PySem PySem.Spec PyProof.Rows L2 ST DX
section
variable {X:Cx}{c:C}{e:U_}{pos pos2:Pos}
def zw:List R->M R:=zu
theorem Fq {gs:G (List R)}(hu:X.A.units + 64 < V6) (ha:i6 X c [e] gs) (hm:X.mg "sorted"=none) (hm2:X.mg "set"=none) (hK:X.K=c.K:=by rfl) (hc:X.calm=true:=by rfl) (hg:Gl X "sorted":=by rfl) (RO:Gl X "set":=by rfl)
 (he:Ux [.Call (.Name "set" p2) [e] [] pos2] X.env=(false,eval (.Call (.Name "set" p2) [e] [] pos2) X.env)::Ux [] X.env:=by rfl) (hpl:(Wk pos (Ux [] X.env)).any (·.1)=false:=by rfl)
 (RX:Ux [e] X.env=(false,eval e X.env)::Ux [] X.env:=by rfl) (Sy:(Wk pos2 (Ux [] X.env)).any (·.1)=false:=by rfl):
  QD X c (.Call (.Name "sorted" p) [.Call (.Name "set" p2) [e] [] pos2] [] pos) (gN zw gs):=by
 have ha:=ha.h;refine ⟨?_⟩;have h1:=j_ (p:=p2) (pos:=pos2) (show cL X (.type "set") (HB X) from D_ hu hc) RO hm2 D5 ha (by decide) (by decide) RX Sy;have h2:=tV (p:=p) (pos:=pos) (show cL X (.builtin "sorted") (HC X) from CA hu hc) hg hm ly (eK h1 gW he) (by decide) (by decide) he hpl;refine Hf (ta:=Du) (f:=zu) (r:=λvs H1 Q=>HB X vs H1 λv H2=>HC X [v] H2 Q) h2 rfl ?_;intro He J H xs vs Q hp rs w;unfold zu at w;split at w
 ·obtain ⟨v,rfl,r⟩:=rs.one;rename_i r0;obtain ⟨xs,q,w⟩:=jj w;split at w
  ·rename_i ok;have fin:∀(vs:List V),aK c.K J xs vs->∀l o l2 vs',H l=none->upd H l o l2=none->aK X.K J (gm xs) vs'->Q (.ref l2) (upd (upd H l o) l2 (.lst vs')):=λvs _ l o l2 vs' hl h2 rr=>by rw [hK] at rr;have e1:=Ext.new hp.sub hl o;have e2:=Ext.new e1.sub h2 (.lst vs');exact w _ _ _ (e1.trans e2) (RR.from e1.h (ia (hp.ext e1) h2 rr))
   cases r0 with
   | d y=>
    cases y with
    | tup ys=>
     cases q;cases r with
     | tup h hs=>exact vZ (.inl (by rw [hK];exact eY hp.sub h)) hp.sub (by rw [hK];exact hs) ok (fin _ hs)
    | lst ys=>
     cases q;obtain ⟨p,vs,rfl,hq,hs⟩:=RR.list hp r rfl;exact vZ (.inr (by rw [hK];exact hq)) hp.sub (by rw [hK];exact hs) ok (fin _ hs)
    | _=>cases q
   | mo _ _=>cases q
   | mb _ _=>cases q
   | mf _ _=>cases q
   | l m ys=>
    cases q;obtain ⟨p,vs,rfl,hq,hs⟩:=RR.list hp r rfl;exact vZ (.inr (by rw [hK];exact hq)) hp.sub (by rw [hK];exact hs) ok (fin _ hs)
  ·exact w.elim
 ·exact w.elim
end
end DL
namespace DL
open PySem PySem.Spec PyProof.Rows L2 DX
end DL
namespace K55
open PySem DL
def rV:List Str:=["told","least","most"]
noncomputable def sE:G O:=(bJ (j3 (gM (bw (gN (aO 1 K01.pP) (ao (af 0) aC)))) (j3 (bw (g2 (qd λi j=>.bl (decide (i < j))) (af 0) (af 1))) (bw (g2 (qd λi j=>.bl (decide (j < i))) (af 0) (af 2))))) yh cK)
def dg (as:List S):M R:=fin (sE (aW rV as))
end K55
namespace K55
open PySem DL K01 WP K51 K52
theorem uE (a b:Nat):bh (dN a) (dN b)=(a == b):=by
 show ((a:Int) == (b:Int))=_;by_cases h:a=b
 ·subst h;simp
 ·rw [beq_eq_false_iff_ne.mpr h,beq_eq_false_iff_ne.mpr (by omega)]
structure DI (n:Nat) (w:Wd):Prop where
 mp:∀r∈w.ms,r.2.length<=n/\∀p∈r.2,p < w.m
 ap:∀r∈w.ar,r.2.length<=n/\∀p∈r.2,p.1 < w.m/\p.2 < w.m
def em (m:Nat) (x:Nat×Nat):Nat:=if x.1=0 then x.2 else x.2 + m
theorem inN (l:Nat) (xs:List Nat):inD (dN l) (xs.map dN)=decide (l∈xs):=by
 unfold inD;rw [acL,Vk,Wr,decide_eq_true_eq];constructor
 ·rintro ⟨x,hx,e⟩;have e:bh (dN x) (dN l)=true:=e;rw [uE] at e;rw [<-eq_of_beq e];exact hx
 ·intro h;exact ⟨l,h,by show bh (dN l) (dN l)=true;rw [uE];simp⟩
theorem Bm (a b:Nat×Nat):bh (dP a) (dP b)=decide (a=b):=by
 have:bh (dP a) (dP b)=(bh (dN a.1) (dN b.1) && (bh (dN a.2) (dN b.2) && true)):=by show bh (.tup [dN a.1,dN a.2]) (.tup [dN b.1,dN b.2])=_;rw [jK,iu,iu,cD]
 rw [this,uE,uE,Vk];obtain ⟨a1,a2⟩:=a;obtain ⟨b1,b2⟩:=b;simp
theorem Mi (l:Nat×Nat) (xs:List (Nat×Nat)):inD (dP l) (xs.map dP)=decide (l∈xs):=by
 unfold inD;rw [acL,Vk,Wr,decide_eq_true_eq];constructor
 ·rintro ⟨x,hx,e⟩;have e:bh (dP x) (dP l)=true:=e;rw [Bm,decide_eq_true_eq] at e;rw [<-e];exact hx
 ·intro h;exact ⟨l,h,by show bh (dP l) (dP l)=true;rw [Bm];simp⟩
theorem GL {env:Ev}{Q:O->Prop}{g:G R}{i j k:Nat}{xs zs:List D}(h1:env[i]?=some (some (.own zs))) (h2:env[j]?=some (some (.own xs))) (hij:i≠j) (h:g env=.ok (.d (.int k))) (hk:k < xs.length) (lz:zs.length < 1000) (lx:xs.length<=1000)
  (c:Q (.nx ((env.set j (some (.own (xs.eraseIdx k)))).set i (some (.own (zs++[xs[k]])))))):Wp (nk i j g env) Q:=by refine ⟨_,?_,c⟩;unfold nk;rw [h1,h2];show (if i=j then M.bad else (g env >>= _))=_;rw [if_neg hij,h,aQ];show (if 0<=(k:Int)/\(k:Int).toNat < xs.length/\zs.length < sizeLine/\xs.length<=sizeLine then _ else _)=_;rw [if_pos ⟨by omega,by simpa using hk,UQ lz (fG (Uw _)),fG lx⟩];rw [VY,UA hk]
noncomputable def B4:D->Nat
 | .int i=>i.toNat
 | _=>0
noncomputable def As:D->Nat×Nat
 | .tup [x,y]=>(B4 x,B4 y)
 | _=>(0,0)
theorem O1 (n:Nat):B4 (dN n)=n:=rfl
theorem vh (n:Nat×Nat):As (dP n)=n:=rfl
theorem back {α:Type}(h:α->D) (u:D->α) (hu:∀x,u (h x)=x){l:List D}(hl:∀d∈l,∃x,d=h x):(l.map u).map h=l:=by rw [Vn];refine (Wf (g:=id) λd hd=>?_).trans (List.map_id _);obtain ⟨x,rfl⟩:=hl d hd;show h (u (h x))=h x;rw [hu]
theorem xG {α:Type}(h:α->D) (u:D->α) (hu:∀x,u (h x)=x) (xs:List α):((bQ (xs.map h)).map u).map h=bQ (xs.map h):=back h u hu λd hd=>by obtain ⟨x,_,rfl⟩:=UD.mp (FJ hd);exact ⟨x,rfl⟩
def pF:Fm:=.tc .i (.tc .i .tn)
theorem zC (p:Nat×Nat):mG pF (dP p):=⟨_,rfl,_,_,rfl,⟨_,rfl⟩,_,rfl,_,_,rfl,⟨_,rfl⟩,[],rfl,rfl⟩
theorem Om (xs:List Nat) (hl:xs.length < 64):zT (xs.map dN)=true:=by unfold zT;rw [Uo,decide_eq_true hl,YT,U4];intro d hd;obtain ⟨x,_,rfl⟩:=UD.mp hd;rfl
theorem Mg (xs:List (Nat×Nat)):∀d∈xs.map dP,gV d=some .i:=λd hd=>by obtain ⟨x,_,rfl⟩:=UD.mp hd;rfl
theorem Oq (xs:List (Nat×Nat)) (hl:xs.length < 64):w5 (xs.map dP)=true:=by
 have Tg:=zf xs;have hc:zd (xs.map dP)=true:=by unfold zd;rw [U4];intro x hx;rw [U4];intro y hy;obtain ⟨a,_,rfl⟩:=UD.mp hx;obtain ⟨b,_,rfl⟩:=UD.mp hy;exact (jW pF).lt _ _ (zC a) (zC b)
 unfold w5;rw [hc,decide_eq_true Tg,Uo,decide_eq_true hl];cases xs with
 | nil=>rfl
 | cons x xs=>
  have hh:G4 ((x::xs).map dP)=true:=by show gP .i ((x::xs).map dP)=true;exact nU (Mg (x::xs))
  rw [hh];simp
theorem P5 (xs:List Nat) (hl:xs.length < 64):nh [.l .fresh (xs.map dN)]=.ok (.l .fresh (bQ (xs.map dN))):=by show (if w5 (xs.map dN)=true then M.ok (R.l .fresh (bQ (xs.map dN))) else if zT (xs.map dN)=true then M.ok (R.l .fresh (bQ (xs.map dN))) else .bad)=_;rw [if_pos (Om xs hl)];split <;> rfl
theorem P6 (xs:List (Nat×Nat)) (hl:xs.length < 64):nh [.l .fresh (xs.map dP)]=.ok (.l .fresh (bQ (xs.map dP))):=by show (if w5 (xs.map dP)=true then M.ok (R.l .fresh (bQ (xs.map dP))) else if zT (xs.map dP)=true then M.ok (R.l .fresh (bQ (xs.map dP))) else .bad)=_;rw [if_pos (Oq xs hl)]
theorem PU {ps:List Nat}(hp:p < ps.length):aY (.d (.tup (ps.map dN))) (.d (dN p))=.ok (.d (dN (ps.getD p 0))):=by
 have h1:(ps.map dN)[p]?=some (dN (ps.getD p 0)):=by rw [UT,UA hp];simp [Zl,hp]
 exact ng h1
noncomputable def iD (w:Wd) (ps:List Nat):Wd:=⟨w.m,w.ms.map λr=>(r.1,(bQ ((r.2.map λp=>ps.getD p 0).map dN)).map B4),w.ar.map λr=>(r.1,(bQ ((r.2.map λp=>(ps.getD p.1 0,ps.getD p.2 0)).map dP)).map As)⟩
theorem Oo (xs:List (Nat×Nat)) (hl:xs.length < 64):nI (xs.map dP)=true:=by
 have h1:areKeys (xs.map dP)=true:=by
  induction xs with
  | nil=>rfl
  | cons x xs ih=>
   rw [UH];show (isKey (dP x) && areKeys (xs.map dP))=true;rw [ih (by simp at hl;omega)];rfl
 have h2:deps (xs.map dP)<=8:=gJ λd hd=>by obtain ⟨x,_,rfl⟩:=UD.mp hd;exact (by decide:(1:Nat)<=8)
 have h3:IU (xs.map dP)=true:=by
  cases xs with
  | nil=>rfl
  | cons x xs=>
   show (gP .i ((x::xs).map dP) && ((x::xs).map dP).all (qX pF))=true;rw [nU (Mg (x::xs)),YT,U4];intro d hd;obtain ⟨y,_,rfl⟩:=UD.mp hd;rfl
 unfold nI;rw [h1,h3,decide_eq_true h2,Uo,decide_eq_true hl];rfl
theorem P7 (xs:List (Nat×Nat)) (hl:xs.length < 64):zw [.d (.tup (xs.map dP))]=.ok (.l .fresh (gm (xs.map dP))):=by show (if nI (xs.map dP)=true then M.ok (R.l .fresh (gm (xs.map dP))) else _)=_;rw [if_pos (Oo xs hl)]
theorem FL {P:D->Prop}(p:f7 P){ds:List D}(h:∀x∈ds,P x):(gm ds).length<=ds.length/\∀d∈gm ds,d∈ds:=by obtain ⟨h1,h2⟩:=ye p ds h;refine ⟨?_,λd hd=>((t6 p h).2 d).mp hd⟩;show (bQ (dd ds)).length<=_;rw [FI];exact Vs h1 λd hd=>(h2 d).mp hd
theorem LY (xs:List D) (k:Nat) (hk:k<=xs.length):cutD xs none (some (k:Int))=xs.take k:=by unfold cutD;rw [HT.HL,HT.K6,Nat.min_eq_left hk];simp
theorem MO {i:Int}(h:0<=i):∃k:Nat,i=k:=⟨i.toNat,by omega⟩
end K55
namespace DL
open PySem PySem.Spec PyProof.Rows L2 DX
noncomputable def bW (gt:GT) (gts:G Bool) (act:Ev->M (List D×Ev)):List D->Ev->M (List D×Ev)
 | [],env=>.ok ([],env)
 | d::ds,env=>gt d env >>= λe=>gts e >>= λk=>if k=true then act e >>= λr=>bW gt gts act ds r.2 >>= λz=>.ok (r.1++z.1,z.2) else bW gt gts act ds e
def yJ (env:Ev) (σ:L2.St) (p:UL):Prop:=∀(j:Nat) (xs:Mn),env[j]?=some (some (mS xs))->σ[j]?≠some (some (.ref p))
structure yt (Acc:Hp->Hp->List D->Prop):Prop where
 ext:∀{J H J' H':Hp}{ys:List D},Acc J H ys->Ext J H J' H'->Acc J' H' ys
noncomputable def vt (X:Cx) (c:C) (p:UL) (Acc:Hp->Hp->List D->Prop) (J2 H2:Hp) (N:Nat) (m:Sem Unit) (act:Ev->M (List D×Ev)):Prop:=
 ∀(T9:List (UL×Obj)) (s:Um) (σ:L2.St) (H J:Hp) (env:Ev) (ys:List D) (Qf:List D×Ev->Prop),Inv X T9 σ H s->Ext J2 H2 J H->SR c J H σ env->yJ env σ p->Acc J H ys->ys.length + N<=sizeLine->cA (act env) Qf c.T->
  UB (UO X.prog X.w) X.A m (λ_ s'=>∃σ' H' J' r,Inv X T9 σ' H' s'/\Ext J2 H2 J' H'/\aU J J'/\SR c J' H' σ' r.2/\yJ r.2 σ' p/\Acc J' H' (ys++r.1)/\r.1.length<=N/\Qf r) (λ_ _=>False) s
abbrev FU (ifs:List U_) (env:Env):Sem Bool:=forIn ifs true λc r=>if r=true then do let ok <-abp c env (eval c env);pure (WZ ok) else pure (WZ r)
abbrev mF (T_ Ua:U_) (ifs:List U_) (it:Uk) (env:Env) (act:Sem Unit) (again':Sem Fin):Sem Fin:=do
 X3 Ua.pos
 match <-Xy it with
 | none=>pure (.done .next)
 | some v=>
  WX T_ it v
  assign T_ env v
  let mut ok:=true
  for c in ifs do
   if ok then ok <-abp c env (eval c env)
  if ok then
   act
  again'
noncomputable def uc (prog:UG) (w:U5) (A:U8) (e:U_) (depth:Nat) (it acc:Uk) (env:Env) (T_:U_) (ifs:List U_) (m:Sem Unit):Prop:=
 ∀(R:acD->Um->Prop) (I:Nat->Um->Prop),(∀n s,I n s->UB (UO prog w) A (Xy it) (λr s₁=>match r with
   | none=>R (.ok .next) s₁
   | some v=>UB (UO prog w) A (WX T_ it v) (λ_ s₁=>UB (UO prog w) A (assign T_ env v) (λ_ s₂=>
     UB (UO prog w) A (FU ifs env) (λok s₃=>if ok=true then UB (UO prog w) A m (λ_ s₅=>∃m,m < n/\I m s₅) (λ_ _=>False) s₃ else ∃m,m < n/\I m s₃) (λ_ _=>False) s₂) (λ_ _=>False) s₁) (λ_ _=>False) s₁) (λ_ _=>False) s)->
  ∀(n:Nat) (s:Um),I n s->WM (UO prog w) A (.compLoop e depth it acc env) R s
section
variable {prog:UG}{w:U5}{A:U8}{T_ Ua:U_}{ifs:List U_}{T8:X0}{pos:Pos}{it acc:Uk}{env:Env}{depth:Nat}{gens:List aaz}{act:Sem Unit}
theorem Ar {R:acD->Um->Prop}{I:Nat->Um->Prop}{E:Uk->Um->Prop}{code:Code}{n:Nat}{s:Um}{Q:Fin->Um->Prop}
  (S6:∀s,R (.ok .next) s->Q (.done .next) s) (SK:∀s,(∃m,m < n/\I m s)->UB (UO prog w) A (again code) Q E s)
  (t:UB (UO prog w) A (Xy it) (λr s₁=>match r with
   | none=>R (.ok .next) s₁
   | some v=>UB (UO prog w) A (WX T_ it v) (λ_ s₁=>UB (UO prog w) A (assign T_ env v) (λ_ s₂=>
     UB (UO prog w) A (FU ifs env) (λok s₃=>if ok=true then UB (UO prog w) A act (λ_ s₅=>∃m,m < n/\I m s₅) (λ_ _=>False) s₃ else ∃m,m < n/\I m s₃) (λ_ _=>False) s₂) (λ_ _=>False) s₁) (λ_ _=>False) s₁) (λ_ _=>False) s):
  UB (UO prog w) A (mF T_ Ua ifs it env act (again code)) Q E s:=by
 refine Uh (XC (Uh (Vt t (λr s₁ h₁=>?_) λ_ _ f=>f.elim)));cases r with
 | none=>exact Uj (S6 _ h₁)
 | some v=>
  refine Uh (Vt h₁ (λ_ s₁' h₁'=>?_) λ_ _ f=>f.elim);refine Uh (Vt h₁' (λ_ s₂ h₂=>Uh (Vt h₂ (λok s₃ h₃=>?_) λ_ _ f=>f.elim)) λ_ _ f=>f.elim);cases ok with
  | false=>exact SK _ h₃
  | true=>exact Uh (Vt h₃ (λ_ s₅ h₅=>SK _ h₅) λ_ _ f=>f.elim)
theorem CW {elt:U_}(ht:Zh (.ListComp elt gens T8 pos) depth it acc env=mF T_ Ua ifs it env act (again (.compLoop (.ListComp elt gens T8 pos) depth it acc env))):uc prog w A (.ListComp elt gens T8 pos) depth it acc env T_ ifs act:=by intro R I turn n s h;refine codeAny_loop rfl I (λn s hI=>?_) n h;show UB _ A ((Zh (.ListComp elt gens T8 pos) depth it acc env).onRaise (λx=>do ads x env;adt x)) _ _ s;refine wpAny_noted ?_;rw [ht];exact Ar (λ_ h=>h) (λ_ h=>Uj ⟨rfl,h⟩) (turn n s hI)
theorem CV {kx vx:U_}(ht:Zh (.DictComp kx vx gens T8 pos) depth it acc env=mF T_ Ua ifs it env act (again (.compLoop (.DictComp kx vx gens T8 pos) depth it acc env))):uc prog w A (.DictComp kx vx gens T8 pos) depth it acc env T_ ifs act:=by intro R I turn n s h;refine codeAny_loop rfl I (λn s hI=>?_) n h;show UB _ A ((Zh (.DictComp kx vx gens T8 pos) depth it acc env).onRaise (λx=>do ads x env;adt x)) _ _ s;refine wpAny_noted ?_;rw [ht];exact Ar (λ_ h=>h) (λ_ h=>Uj ⟨rfl,h⟩) (turn n s hI)
end
section
variable {X:Cx}{c:C}{p:UL}{Acc:Hp->Hp->List D->Prop}{J2 H2:Hp}{N:Nat}{m:Sem Unit}{act:Ev->M (List D×Ev)}{T_:U_}{ifs:List U_}{gt:GT}{gts:G Bool}{e:U_}{depth:Nat}{acc:Uk}{it:UL}{fp:List UL}{tn:Nat->VB->Prop}{It:It}{ds:List D}{J1:Hp}
theorem zN (aR:yt Acc) (hc:X.calm=true) (hx:∀v s,X.xe v s->False) (LP:uc X.prog X.w X.A e depth (.ref it) acc X.env T_ ifs m) (hT:DR X c T_ gt) (hIf:Cg X c ifs gts) (hA:vt X c p Acc J2 H2 N m act) (T:Turn X.prog X.w X.K T_ It fp it tn)
 (U:Hp->Hp->Prop) (wk:Walk c It ds J1 U){s:Um}{H J:Hp}{ys:List D}{Qf:List D×Ev->Prop}(hU:∀J' H',Ext J2 H2 J' H'->aU J J'->U J' H') (I:Inv X T9 σ H s) (st:tn 0 s.heap) (fr:∀b∈fp,iR X T9 H b) (e2:Ext J2 H2 J H) (sr:SR c J H σ env) (no:yJ env σ p) (ac:Acc J H ys)
 (hl:ys.length + ds.length * N<=sizeLine) (w:cA (bW gt gts act ds env) Qf c.T):
  WM (UO X.prog X.w) X.A (.compLoop e depth (.ref it) acc X.env) (λr s'=>r=.ok .next/\∃σ' H' J' r',Inv X T9 σ' H' s'/\Ext J2 H2 J' H'/\aU J J'/\SR c J' H' σ' r'.2/\yJ r'.2 σ' p/\Acc J' H' (ys++r'.1)/\r'.1.length<=ds.length * N/\Qf r') s:=by
 refine LP _ (λn s'=>∃(i:Nat) (σ':L2.St) (H' J':Hp) (env':Ev) (zs:List D),n=ds.length - i/\i<=ds.length/\Inv X T9 σ' H' s'/\tn i s'.heap/\(∀b∈fp,H' b=none)/\Ext J2 H2 J' H'/\aU J J'/\SR c J' H' σ' env'/\yJ env' σ' p/\Acc J' H' (ys++zs)/\zs.length<=i * N/\
  cA (bW gt gts act (ds.drop i) env') (λr=>Qf (zs++r.1,r.2)) c.T) ?_ ds.length s ⟨0,σ,H,J,env,[],rfl,UX _,I,st,λb hb=>(fr b hb).1,e2,aU.refl J,sr,no,by rw [WB];exact ac,by simp,by rw [adI];exact w⟩
 rintro n s' ⟨i,σ',H',J',env',zs,rfl,hi,I',st',fr',e',sj,sr',no',ac',hz,w'⟩;have stat:∀{H':Hp},(∀b∈fp,H' b=none)->∀b∈fp,iR X T9 H' b:=λhn b hb=>⟨hn b hb,(fr b hb).2⟩;obtain ⟨wk1,wk2⟩:=wk i J' H' sr'.hp (hU J' H' e' sj);by_cases hlt:i < ds.length
 ·obtain ⟨g1,y1⟩:=wk2 ds[i] (by simp [hlt]);rw [Yq hlt] at w';refine Vt (T.item X rfl rfl rfl hc i T9 s' σ' H' (λ_ _=>False) I' (stat fr') st' g1) (λr s4 ⟨u,hr,h4⟩=>?_) λ_ _ f=>f.elim;subst hr;refine Vt h4 (λ_ s5 ⟨x,H5,I5,r5,y5,st5,fr5⟩=>?_) λ_ _ f=>f.elim;obtain ⟨J5,e5,rx⟩:=y1 x H5 y5;have I5':=I5.pinned (stat fr5) (T.obj _ _ st5);have again:∀{σ7:L2.St}{H7:Hp}{s7:Um},Inv X (T9++qz fp s5.heap) σ7 H7 s7->Inv X T9 σ7 H7 s7/\tn (i + 1) s7.heap/\(∀b∈fp,H7 b=none):=fun {σ7 H7 s7} I7=>by refine ⟨I7.unpinned,T.keep _ _ _ st5 λb hb o e=>(I7.pin (b,o) (Vm _ (Vm _ (kK hb e)))).1,λb hb=>?_⟩;obtain ⟨o,e,d⟩:=T.obj _ _ st5 b hb;exact (I7.pin (b,o) (Vm _ (Vm _ (kK hb e)))).2.1
  refine Vt (hT _ s5 σ' H5 x u (λσ6 H6=>∃e6,H6=H5/\SR c J5 H5 σ6 e6/\KO env' σ' e6 σ6/\cA (gts e6 >>= λk=>if k=true then act e6 >>= λr=>bW gt gts act (ds.drop (i + 1)) r.2 >>= λz=>.ok (r.1++z.1,z.2) else bW gt gts act (ds.drop (i + 1)) e6)
   (λr=>Qf (zs++r.1,r.2)) c.T) I5' r5 ⟨J5,env',ds[i],sr'.ext e5,rx,aE (aI w') λe6 w6 σ6 sr6 ko=>⟨e6,rfl,sr6,ko,w6⟩⟩) (λ_ s6 ⟨σ6,H6,I6,e6,S4,sr6,ko,w6⟩=>?_) λ_ _ f=>(hx _ _ f).elim
  subst S4;have no6:yJ e6 σ6 p:=λj xs q z=>by obtain ⟨k1,k2⟩:=ko j xs q;exact no' j xs k1 (k2▸z)
  refine Vt (hIf _ s6 σ6 H6 (λk H7=>∃J7,Ext J5 H6 J7 H7/\cA (if k=true then act e6 >>= λr=>bW gt gts act (ds.drop (i + 1)) r.2 >>= λz=>.ok (r.1++z.1,z.2) else bW gt gts act (ds.drop (i + 1)) e6)
   (λr=>Qf (zs++r.1,r.2)) c.T) I6 ⟨J5,e6,sr6,aE (aI w6) λk wk J7 H7 e7=>⟨J7,e7,wk⟩⟩) (λk s7 ⟨H7,I7,J7,e7,w7⟩=>?_) λ_ _ f=>(hx _ _ f).elim
  have sr7:=sr6.ext e7;have ac7:=aR.ext (aR.ext ac' e5) e7;have x7:=(e'.trans e5).trans e7;have j7:=(sj.trans e5.j).trans e7.j;have hm:(i + 1) * N=i * N + N:=by rw [adu,Nat.one_mul]
  cases k with
  | false=>
   rw [if_neg (by decide)] at w7 ⊢;obtain ⟨a1,a2,a3⟩:=again I7;exact ⟨ds.length - (i + 1),by omega,i + 1,σ6,H7,J7,e6,zs,rfl,hlt,a1,a2,a3,x7,j7,sr7,no6,ac7,by omega,w7⟩
  | true=>
   rw [if_pos rfl] at w7 ⊢;have hN:(i + 1) * N<=ds.length * N:=WL N hlt;refine Vt (hA _ s7 σ6 H7 J7 e6 (ys++zs) _ I7 x7 sr7 no6 ac7 (by rw [UI];omega) (aI w7)) (λ_ s8 ⟨σ8,H8,J8,r,I8,x8,j8,sr8,no8,ac8,l8,w8⟩=>?_) λ_ _ f=>f.elim;obtain ⟨a1,a2,a3⟩:=again I8;refine ⟨ds.length - (i + 1),by omega,i + 1,σ8,H8,J8,r.2,zs++r.1,rfl,hlt,a1,a2,a3,x8,j7.trans j8,sr8,no8,by rw [<-WW];exact ac8,by rw [UI];omega,?_⟩;refine aE (aI w8) λz q=>?_;rw [WW];exact q
 ·have Tt:i=ds.length:=by omega
  subst Tt;rw [aaK (Uw _)] at w';refine Vt (T.done X rfl rfl rfl hc _ T9 s' σ' H' (λ_ _=>False) I' (stat fr') st' (wk1 (Uw _))) (λr s4 ⟨hr,I9⟩=>?_) λ_ _ f=>f.elim;subst hr;have w9:Qf (zs++[],env'):=w';rw [WB] at w9;exact ⟨rfl,σ',H',J',(zs,env'),I9,e',sj,sr',no',ac',hz,w9⟩
end
section
variable {prog:UG}{w:U5}{A:U8}{R:acD->Um->Prop}{s:Um}{it acc:Uk}{env:Env}{T8:X0}{pos:Pos}{g0:aaz}{T_ Ua:U_}{ifs:List U_}{rest:List aaz}
theorem NO (h0:WM (UO prog w) A (.compLoop (.ListComp elt (g0::⟨T_,Ua,ifs,0⟩::rest) T8 pos) 1 it acc env) R s)
 (h:UB (UO prog w) A (ZF it) (λit' s'=>WM (UO prog w) A (.compLoop (.ListComp elt (g0::⟨T_,Ua,ifs,0⟩::rest) T8 pos) 1 it' acc env) R s') (λ_ _=>False) s):
  WM (UO prog w) A (.compStart (.ListComp elt (g0::⟨T_,Ua,ifs,0⟩::rest) T8 pos) 1 it acc env) R s:=by
 refine YV ?_;show UB _ _ ((adv (.ListComp elt (g0::⟨T_,Ua,ifs,0⟩::rest) T8 pos) 1 it acc env).onRaise (λx=>do ads x env;X3 adw)) _ _ s;refine aek ?_;unfold adv;show UB _ _ (ask >>= _) _ _ s;refine Uh (W_ (wpAny_ite ?_));split
 ·first
   | exact Uh (Uj (Uj (aa6 rfl h0)))
   | exact Uj (aa6 rfl h0)
 ·refine Uh (XX ?_);show UB _ _ (X3 Ua.pos >>= _) _ _ s;exact Uh (XC (Uh (Vt h (λit' s' h'=>Uj (aa6 rfl h')) λ_ _ x=>x.elim)))
theorem NN (h0:WM (UO prog w) A (.compLoop (.DictComp kx vx (g0::⟨T_,Ua,ifs,0⟩::rest) T8 pos) 1 it acc env) R s)
 (h:UB (UO prog w) A (ZF it) (λit' s'=>WM (UO prog w) A (.compLoop (.DictComp kx vx (g0::⟨T_,Ua,ifs,0⟩::rest) T8 pos) 1 it' acc env) R s') (λ_ _=>False) s):
  WM (UO prog w) A (.compStart (.DictComp kx vx (g0::⟨T_,Ua,ifs,0⟩::rest) T8 pos) 1 it acc env) R s:=by
 refine YV ?_;show UB _ _ ((adv (.DictComp kx vx (g0::⟨T_,Ua,ifs,0⟩::rest) T8 pos) 1 it acc env).onRaise (λx=>do ads x env;X3 adw)) _ _ s;refine aek ?_;unfold adv;show UB _ _ (ask >>= _) _ _ s;refine Uh (W_ (wpAny_ite ?_));split
 ·first
   | exact Uh (Uj (Uj (aa6 rfl h0)))
   | exact Uj (aa6 rfl h0)
 ·refine Uh (XX ?_);show UB _ _ (X3 Ua.pos >>= _) _ _ s;exact Uh (XC (Uh (Vt h (λit' s' h'=>Uj (aa6 rfl h')) λ_ _ x=>x.elim)))
end
noncomputable def jr (gi:G (List D)) (gt:GT) (gts:G Bool) (act:Ev->M (List D×Ev)):Ev->M (List D×Ev):=λenv=>gi env >>= λds=>if ds.length<=1000 then bW gt gts act ds env else .bad
abbrev tE (e Ua:U_) (acc:Uk) (env:Env):Sem Unit:=do
 let x <-eval Ua env
 X3 Ua.pos
 let x <-VX Ua env x
 let _ <-runOwn (.compStart e 1 (<-holding [x] (ZF x)) acc env) env
section
variable {X:Cx}{c:C}{p:UL}{Acc:Hp->Hp->List D->Prop}{J2 H2:Hp}{N:Nat}{m:Sem Unit}{act:Ev->M (List D×Ev)}{T_ Ua:U_}{ifs:List U_}{gi:G (List D)}{gt:GT}{gts:G Bool}{e:U_}{acc:Uk}
theorem A8 (aR:yt Acc) (hc:X.calm=true) (hx:∀v s,X.xe v s->False) (hs:∀x,VX Ua X.env x=pure x)
  (start:∀(it:UL) (R:acD->Um->Prop) (s:Um),WM (UO X.prog X.w) X.A (.compLoop e 1 (.ref it) acc X.env) R s->UB (UO X.prog X.w) X.A (ZF (.ref it)) (λit' s'=>WM (UO X.prog X.w) X.A (.compLoop e 1 it' acc X.env) R s') (λ_ _=>False) s->WM (UO X.prog X.w) X.A (.compStart e 1 (.ref it) acc X.env) R s)
  (LP:∀it:UL,uc X.prog X.w X.A e 1 (.ref it) acc X.env T_ ifs m) (hi:O8 X c T_ Ua gi) (hT:DR X c T_ gt) (hIf:Cg X c ifs gts) (hA:vt X c p Acc J2 H2 N m act):
  vt X c p Acc J2 H2 (1000 * N) (tE e Ua acc X.env) (jr gi gt gts act):=by
 intro T9 s σ H J env ys Qf I x2 sr no ac hl w;refine Uh (Vt (hi T9 s σ H (λIt H1=>∃ds J1,Ext J H J1 H1/\Walk c It ds J1 (λJ' _=>aU J1 J')/\cA (if ds.length<=1000 then bW gt gts act ds env else .bad) Qf c.T) I ⟨J,env,sr,aE (aI w) λds wd It J1 H1 e1 wk=>⟨ds,J1,e1,wk,wd⟩⟩) (λxv s1 h1=>?_) λv s f=>(hx v s f).elim);refine Uh (XC ?_);rw [hs xv];refine Uh (Uj (Uh (U7 (Vt h1 (λitv s2 h2=>?_) λv s f=>(hx v s f).elim))));obtain ⟨it,fp,tn,It,H1,rfl,I1,T,st1,f1,ds,J1,e1,wk,w1⟩:=h2;have hsz:ds.length<=1000:=by
  by_cases z:ds.length<=1000
  ·exact z
  ·rw [if_neg z] at w1;exact w1.elim
 rw [if_pos hsz] at w1;have hm:ds.length * N<=1000 * N:=WL N hsz;have hb:ys.length + ds.length * N<=sizeLine:=U1 (Nat.add_le_add_left hm _) hl;have run:=zN aR hc hx (LP it) hT hIf hA T (λJ' _=>aU J1 J') wk (λ_ _ _ h=>h) I1 st1 f1 (x2.trans e1) (sr.ext e1) no (aR.ext ac e1) hb w1;have run':WM (UO X.prog X.w) X.A (.compLoop e 1 (.ref it) acc X.env) (λr s'=>match r with | .ok f=>UB (UO X.prog X.w) X.A (pure ()) (λ_ s'=>∃σ' H' J' r,Inv X T9 σ' H' s'/\Ext J2 H2 J' H'/\aU J J'/\SR c J' H' σ' r.2/\yJ r.2 σ' p/\Acc J' H' (ys++r.1)/\r.1.length<=1000 * N/\Qf r) (λ_ _=>False) s' | .error e=>cameBackBy (UO X.prog X.w) X.A X.env (λ_ _=>False) e s') s2:=Xz run λr s' ⟨hr,σ',H',J',r',q1,q2,q3,q4,q5,q6,q7,q8⟩=>by subst hr;exact Uj ⟨σ',H',J',r',q1,q2,e1.j.trans q3,q4,q5,q6,U1 q7 hm,q8⟩
 exact Uh (wpAny_runOwn (h:=none) (start it _ _ run' (T.self _ 0 _ _ _ st1 run')))
end
def gR (ge:G R):Ev->M (List D×Ev):=λe=>ge e >>= λr=>toD r >>= λy=>.ok ([y],e)
def Cn (c:C) (p:UL):Hp->Hp->List D->Prop:=λJ H ys=>∃us,H p=some (.lst us)/\J p=none/\aK c.K J ys us
theorem sV:yt (Cn c p):=⟨fun {J H J' H' ys} ⟨us,h1,h2,h3⟩ e=>⟨us,e.h _ _ h1,e.frz _ (by rw [h1];intro z;cases z) h2,h3.mono e.j⟩⟩
section
variable {X:Cx}{c:C}{p:UL}{J2 H2:Hp}{elt:U_}{ge:G R}
theorem A7 (hx:∀v s,X.xe v s->False) (hp2:H2 p=none) (hp0:c.H0 p=none) (hE:PD X c elt ge):vt X c p (Cn c p) J2 H2 1 (do let _ <-call (.builtin "list.append") [.ref p,<-eval elt X.env]) (gR ge):=by
 intro T9 s σ H J env ys Qf I x2 sr no ⟨us,h1,h2,h3⟩ hl w;have hlen:ys.length=us.length:=h3.length;refine Uh (Vt (hE _ s σ H (λv H8=>∃J8 y,Ext J H J8 H8/\Rep c.K J8 y v/\Qf ([y],env)) I ⟨J,env,sr,aE (aI w) λr wr v J8 H8 e8 r8=>?_⟩) (λu8 s8 ⟨v8,H8,I8,r8,J8,y,e8,ry,w8⟩=>?_) λv s f=>(hx v s f).elim)
 ·obtain ⟨y,q,wr⟩:=jk wr;obtain ⟨J9,e9,_,ry⟩:=freeze e8 r8 q;exact ⟨J9,y,e9,ry,wr⟩
 have p8:H8 p=some (.lst us):=e8.h _ _ h1;have J8p:J8 p=none:=e8.frz _ (by rw [h1];intro z;cases z) h2;refine Uh (Vt (qw (X:=X) _ s8 σ H8 (.ref p) [v8] (.ref p) [u8] (λ_ H9=>H9=L2.upd H8 p (.lst (us++[v8]))) I8 rfl (.cons r8 .nil) ⟨_,us,v8,rfl,rfl,p8,by omega,rfl⟩) (λ_ s9 ⟨_,H9,I9,_,h9⟩=>?_) λv s f=>(hx v s f).elim);subst h9;exact Uj ⟨σ,_,J8,([y],env),I9,(x2.trans e8).other hp2 J8p,e8.j,(sr.ext e8).other J8p hp0 no,no,⟨us++[v8],bN,J8p,(h3.mono e8.j).append (.cons ry .nil)⟩,Uw _,w8⟩
end
noncomputable def jw (lim n:Nat) (cap:List Nat) (gi:G (List D)) (gt:GT) (gts:G Bool) (act:Ev->M (List D×Ev)) (fin:List D->M R):G R:=λenv=>gi env >>= λds=>if ds.length<=lim then bW gt gts act ds (cE n cap env) >>= λr=>fin r.1 else .bad
section
variable {X:Cx}{c:C}
structure AS (X:Cx) (T8:X0) (cap:List Nat) (Ua:U_):Prop where
 hk:T8.kind=.function
 hno:Ir X cap T8=true
 hnames:(T8.names.all λx=>!(x.2 == .local) || (T8.names.lookup x.1 == some .local))=true
 hcl:(d9 X.env.cells T8.names []).isSome=true
 hcap:qR X cap=true
 hloc:Ef X cap T8=true
 hnd:zP cap=true
 hcalm:X.calm=true
 hs:∀x,VX Ua X.env x=pure x
theorem wL {T8:X0}{cap:List Nat}{Ua:U_}(hcl:(d9 X.env.cells T8.names []).isSome=true) (hk:T8.kind=.function:=by rfl) (hno:Ir X cap T8=true:=by rfl) (hnames:(T8.names.all λx=>!(x.2 == .local) || (T8.names.lookup x.1 == some .local))=true:=by rfl)
  (hcap:qR X cap=true:=by rfl) (hloc:Ef X cap T8=true:=by rfl) (hnd:zP cap=true:=by rfl) (hcalm:X.calm=true:=by rfl) (hs:∀x,VX Ua X.env x=pure x:=by intro _;rfl):AS X T8 cap Ua:=⟨hk,hno,hnames,hcl,hcap,hloc,hnd,hcalm,hs⟩
noncomputable def DC (X:Cx) (c:C) (cm:Option (Uk->Sem Unit)->Sem Uk) (g:G R):Prop:=
 ∀{T9:List (UL×Obj)}{s:Um}{σ:L2.St}{H:Hp}{Q:VK}{use:Option (Uk->Sem Unit)}{Q0:Uk->Um->Prop},Inv X T9 σ H s->tD c g σ H Q->
  (∀(acc C:UL) (m:Str->Option Uk) (s':Um) (H':Hp) (fl:Flow),s'.heap.Ns C m->((C∈X.ex\/X.s₀.heap.objs.size<=C)/\C≠X.env.locals/\(∀x c,X.env.cells.lookup x=some c->c≠C)/\∀p∈X.pn++T9,p.1≠C)->H' C=none->(∀h'',Vc C s'.heap h''->Inv X T9 σ H' {s' with heap:=h''})->Q (.ref acc) H'->compPost (UO X.prog X.w) X.A X.xe use Q0 (.ref acc) C (.ok fl) s')->
  UB (UO X.prog X.w) X.A (cm use) Q0 X.xe s
theorem nY (own:List Str) (cap:List Nat){e T_ Ua:U_}{ifs:List U_}{gs:List aaz}{T8:X0}{gi:G (List D)}{gt:GT}{gts:G Bool}{act:Ev->M (List D×Ev)}{fin:List D->M R}{newAcc:Sem Uk}{ob:Obj}{o0:UL->HO}{Acc:UL->Hp->Hp->List D->Prop}{N lim:Nat}{m:UL->Env->Sem Unit}
  (hcls:clausesOf e=⟨T_,Ua,ifs,0⟩::gs) (hi:O7 X c T_ Ua gi)
  (hnew:∀(s:Um) (Q:Uk->Um->Prop) (E:Uk->Um->Prop),Q (.ref s.heap.objs.size) {s with heap:=s.heap.push ob}->UB (UO X.prog X.w) X.A newAcc Q E s)
  (hob:∀(h:VB) (H:Hp),cM X.prog X.w H (h.push ob) h.objs.size (o0 h.objs.size))
  (aR:∀p,yt (Acc p)) (a0:∀(p:UL) (J H:Hp),XR < p->H p=some (o0 p)->J p=none->Acc p J H [])
  (hN:lim * N<=sizeLine) (LP:∀(it p:UL) (env:Env),uc X.prog X.w X.A e 0 (.ref it) (.ref p) env T_ ifs (m p env))
  (start:∀(it:UL) (acc:Uk) (env:Env) (R:acD->Um->Prop) (s:Um),WM (UO X.prog X.w) X.A (.compLoop e 0 (.ref it) acc env) R s->UB (UO X.prog X.w) X.A (ZF (.ref it)) (λit' s'=>WM (UO X.prog X.w) X.A (.compLoop e 0 it' acc env) R s') (notedBy (UO X.prog X.w) X.A env λx s'=>R (.error x) s') s->WM (UO X.prog X.w) X.A (.compStart e 0 (.ref it) acc env) R s)
  (nofin:∀ys z,fin ys≠.exc z) (hend:∀{p:UL}{J H J' H':Hp}{ys:List D}{r:R},H p=none->Ext J H J' H'->Acc p J' H' ys->fin ys=.ok r->∃J'',Ext J H J'' H'/\RR c H J'' H' r (.ref p))
  (hbody:∀(cl:List (Str×UL)) (C:UL) (s:Um) (H:Hp) (fp:List UL),d9 X.env.cells T8.names []=some cl->DR (cZ X own cap T8 cl C s H fp) c T_ gt/\Cg (cZ X own cap T8 cl C s H fp) c ifs gts/\∀(p:UL) (J2 H2:Hp),H2 p=none->c.H0 p=none->vt (cZ X own cap T8 cl C s H fp) c p (Acc p) J2 H2 N (m p (cZ X own cap T8 cl C s H fp).env) act)
  (a:AS X T8 cap Ua){pos':Pos}:DC X c (λuse=>comprehension e T8 X.env pos' newAcc false (eval Ua X.env) use) (jw lim own.length cap gi gt gts act fin):=by
 obtain ⟨hk,hno,hnames,hcl,hcap,hloc,hnd,hcalm,hs⟩:=a;intro T9 s σ H Q use Q0 I h Sj;obtain ⟨J,env,sr,w⟩:=h;obtain ⟨cl,hcl⟩:=Vq.mp hcl;have Sq:∀j∈cap,∀x,X.N[j]?=some x->c9 T8.names x=false:=λj hj x hx=>by have:=U4.mp hno j hj;rw [hx] at this;simpa using this
 have RE:∀x∈T8.names,x.2=.local->T8.names.lookup x.1=some .local:=λy hy z=>by have:=U4.mp hnames y hy;rw [z] at this;simpa using this
 have R3:∀j∈cap,∀x,X.N[j]?=some x->(relabel T8 X.env).names.lookup x≠some .local:=λj hj x hx z=>by have:=U4.mp hloc j hj;rw [hx] at this;simp only at this;rw [z] at this;cases this
 refine wpAny_comprehension_free (use:=use) hcls hs (xZ hcl) hk RE ?_;refine bM (hi T9 s σ H (λIt H1=>∃ds J1,Ext J H J1 H1/\Walk c It ds J1 (λJ' H'=>aU J1 J'/\aU H1 H')/\
  cA (if ds.length<=lim then bW gt gts act ds (cE own.length cap env) >>= λr=>fin r.1 else .bad) (λr=>∀v J' H',Ext J H J' H'->RR c H J' H' r v->Q v H') c.T) I ⟨J,env,sr,aE (aI w) λds wd It J1 H1 e1 wk=>⟨ds,J1,e1,wk,wd⟩⟩) λxv s1 h1=>bM h1 λitv s2 h2=>?_
 obtain ⟨it,fp,tn,It,H2,rfl,I2,T,st2,f2,ds,J2,e2,wk,w2⟩:=h2;have hsz:ds.length<=lim:=by
  by_cases z:ds.length<=lim
  ·exact z
  ·rw [if_neg z] at w2;exact w2.elim
 rw [if_pos hsz] at w2;have w3:=aI w2;refine hnew s2 _ _ (C_ ?_);dsimp only;generalize Sa:s2.heap.push ob=Hs;have hC:Hs.objs.size=s2.heap.objs.size + 1:=by rw [<-Sa,VD]
 have hp2:H2 s2.heap.objs.size=none:=I2.hok.fresh (Uw _);have kHs:∀b o,s2.heap.get? b=some o->Hs.get? b=some o:=λb o e=>by rw [<-Sa];exact Ul _ e
 have I3:Inv X T9 σ (L2.upd H2 s2.heap.objs.size (o0 s2.heap.objs.size)) {s2 with heap:=Hs,toks:=s2.toks}:=I2.laid (t':=s2.toks) kHs (Uw _) (by rw [<-Sa];exact hob _ _);have f3:∀b∈fp,iR X T9 (L2.upd H2 s2.heap.objs.size (o0 s2.heap.objs.size)) b:=λb hb=>by obtain ⟨o,ho,_⟩:=T.obj _ _ st2 b hb;exact ⟨by rw [bq (UY (UC ho))];exact (f2 b hb).1,(f2 b hb).2⟩
 have hin:∀b∈fp,b < Hs.objs.size:=λb hb=>by obtain ⟨o,ho,_⟩:=T.obj _ _ st2 b hb;exact XA (UC ho) (by rw [hC];exact Wc _)
 obtain ⟨h₁,eh₁⟩:∃h₁,h₁=adj (Hs.push {cls:=.type "dict",data:=.dict #[]}) T8.names:=⟨_,rfl⟩;rw [<-eh₁];have hns₁:h₁.Ns Hs.objs.size (λ_=>none):=by rw [eh₁];exact MP Hs T8.names
 have ck:aeW h₁ (Hs.objs.size + 1) (Vw (Hs.objs.size + 1) T8.names []):=by rw [eh₁];exact Eg Hs T8.names
 have okC:=JA (own:=own) (cap:=cap) I3 hk hcl ck f3 hin;have old1:∀b o,Hs.get? b=some o->h₁.get? b=some o:=λb o e=>by rw [eh₁];exact adk _ _ _ _ (Ul _ e)
 have I4:=Gn (tk:=s2.toks) I3 okC hcl ck hcap R3 Sq hns₁ old1;have sr2:=sr.ext e2;have srA:SR c J2 (L2.upd H2 s2.heap.objs.size (o0 s2.heap.objs.size)) σ env:=sr2.ext (Ext.new e2.sub hp2 _);have J2p:J2 s2.heap.objs.size=none:=e2.sub.free hp2;have H0p:c.H0 s2.heap.objs.size=none:=sr2.hp.ent.free hp2;have nown:∀(j:Nat) (xs:Mn),(cE own.length cap env)[j]?=some (some (mS xs))->(V7 own.length none++cap.map λ(j:Nat)=>(σ[j]?).getD none)[j]?≠some (some (.ref s2.heap.objs.size)):=λj xs q z=>by obtain ⟨a,h1,h2,h3⟩:=kE q;obtain ⟨a',h4,h5,h6⟩:=kE z;rw [h2] at h5;cases h5;obtain ⟨p,k1,k2,_⟩:=sr2.mine h3;rw [h6] at k1;cases k1;exact k2 hp2
 obtain ⟨hT,hIf,hE⟩:=hbody cl Hs.objs.size {s2 with heap:=Hs,toks:=s2.toks} (L2.upd H2 s2.heap.objs.size (o0 s2.heap.objs.size)) fp hcl;have fpC:∀{H':Hp},(∀b∈fp,H' b=none)->∀b∈fp,iR (cZ X own cap T8 cl Hs.objs.size {s2 with heap:=Hs,toks:=s2.toks} (L2.upd H2 s2.heap.objs.size (o0 s2.heap.objs.size)) fp) [] H' b:=fun {H'} hn b hb=>by
  obtain ⟨m1,_⟩:=gT T8.names [] cl hcl (λx c h=>by simp at h);refine ⟨hn b hb,UY (hin b hb),λz=>?_,.inl hb,λx d h=>(fY h).elim (λh=>WA (UQ (hin b hb) (Xu (ck.empty _ _ (YM h)).2))) (λh=>(f2 b hb).2.2.2.2.1 x d (m1 x d h.2)),λp hp=>absurd (show p∈([]:List (UL×Obj)) from hp) (by simp)⟩;rcases UK.mp (I2.stkSub b z) with e | e
  ·exact (f2 b hb).2.1 e
  ·exact (f2 b hb).2.2.1 e
 have back:∀{pi:List (UL×Obj)}{σ':L2.St}{H':Hp}{s':Um}{h'':VB},Inv (cZ X own cap T8 cl Hs.objs.size {s2 with heap:=Hs,toks:=s2.toks} (L2.upd H2 s2.heap.objs.size (o0 s2.heap.objs.size)) fp) pi σ' H' s'->Vc Hs.objs.size s'.heap h''->Inv X T9 σ H' {s' with heap:=h''}:=fun {pi σ' H' s' h''} I' sb=>by
  have B:Un (frs X.stack) fp (L2.upd H2 s2.heap.objs.size (o0 s2.heap.objs.size)) H' Hs s'.heap:=I'.base;have ne2:∀{b:UL}{o:Obj},s2.heap.get? b=some o->b≠s2.heap.objs.size/\b≠Hs.objs.size:=fun {b o} e=>
   ⟨UY (UC e),UY (XA (UC e) (by rw [hC];exact Wc _))⟩
  have nH:∀{b:UL}{o:HO},H2 b=some o->L2.upd H2 s2.heap.objs.size (o0 s2.heap.objs.size) b=some o:=fun {b o} e=>by rw [bq (eu e hp2)];exact e
  refine Inv.call' (ch:=fp) (s':={s' with heap:=h''}) I2 I'.os ⟨λb o e n hf hx=>?_,λb o e n hf hx=>?_,λb o e n hx=>?_,λb o e hx=>?_,λb xs e=>B.tups b xs (nH e),λb o u e=>B.frzs b o u (nH e),λb ps e=>B.tbls b ps (nH e)⟩ (AO I'.hok I'.free sb) I'.bare λb hb=>⟨(f2 b hb).2.2.2.1,(f2 b hb).2.1,(f2 b hb).2.2.2.2.1,(f2 b hb).2.2.2.2.2⟩
  ·exact (sb.2 b (ne2 e).2).trans (B.keep b o (kHs b o e) (by rw [bq (ne2 e).1];exact n) hf hx)
  ·obtain ⟨sl,z⟩:=B.slot b o (kHs b o e) (by rw [bq (ne2 e).1];exact n) hf hx;exact ⟨sl,(sb.2 b (ne2 e).2).trans z⟩
  ·exact B.free b o (kHs b o e) (by rw [bq (ne2 e).1];exact n) hx
  ·obtain ⟨o',z⟩:=B.there b o (kHs b o e) hx;exact ⟨o',(sb.2 b (ne2 e).2).trans z⟩
 have run:=λ(s4:Um) (I4:Inv (cZ X own cap T8 cl Hs.objs.size {s2 with heap:=Hs,toks:=s2.toks} (L2.upd H2 s2.heap.objs.size (o0 s2.heap.objs.size)) fp) [] _ _ s4) (st4:tn 0 s4.heap)=>zN (X:=cZ X own cap T8 cl Hs.objs.size {s2 with heap:=Hs,toks:=s2.toks} (L2.upd H2 s2.heap.objs.size (o0 s2.heap.objs.size)) fp) (e:=e) (depth:=0) (acc:=.ref s2.heap.objs.size) (aR _) hcalm (λ_ _ f=>f) (LP it _ _) hT hIf (hE s2.heap.objs.size J2 H2 hp2 H0p) T (λJ' H'=>aU J2 J'/\aU H2 H') wk (λJ' H' x _=>⟨x.j,x.h⟩) I4 st4 (fpC λb hb=>(f3 b hb).1) (Ext.new e2.sub hp2 _) (srA.cap own.length cap (BH hnd)) nown (a0 _ _ _ (LO I2) bN J2p) (U1 (by rw [YW,Z3];exact WL N hsz) hN) w3;have st4:=T.keep _ _ _ st2 (λb hb o e=>old1 b o (kHs b o e));have go:=Xz (run _ I4 st4) (R':=compPost (UO X.prog X.w) X.A X.xe use Q0 (.ref s2.heap.objs.size) Hs.objs.size) λr s' ⟨hr,σ',H',J',r',I9,x9,j9,sr9,no9,ac9,l9,w9⟩=>by
  subst hr;obtain ⟨mm,hm,_⟩:=I9.loc;refine Sj s2.heap.objs.size Hs.objs.size mm _ H' _ hm (LJ I2 (by rw [hC];exact Yy _)) I9.free (λh'' sb=>back I9 sb) ?_;cases q:fin r'.1 with
  | bad=>rw [q] at w9;exact w9.elim
  | exc z=>rw [q] at w9;exact (nofin _ z q).elim
  | ok z=>
   rw [q] at w9;obtain ⟨J9,x10,rr⟩:=hend (e2.h.free hp2) (e2.trans x9) ac9 q;exact w9 _ J9 H' x10 rr
 exact start it _ _ _ _ go (T.self _ 0 _ _ _ st4 go)
def qN (X:Cx) (c:C) (e:U_) (g:G R):Prop:=∃cm,DC X c cm g/\eval e X.env=cm none/\∀use,evalThenUse e X.env use=(do let _ <-cm (some use))
theorem cX {e:U_}{g:G R}(h:qN X c e g):QD X c e g:=by obtain ⟨cm,core,hev,_⟩:=h;refine ⟨λT9 s σ H Q I h=>?_⟩;rw [hev];exact core I h λacc C m s' H' fl hm hz hf hb q=>⟨m,hm,λh'' sb=>⟨.ref acc,H',hb h'' sb,rfl,q⟩⟩
theorem rG (i:Nat){e:U_}{g:G R}{x:Str}{pos' pos2:Pos}(hN:X.N.Nodup) (h:qN X c e g) (hx:X.N[i]?=some x:=by rfl) (SY:X.env.scope.names.lookup x=some .local:=by rfl)
  (hsw:ZE e (some (.Name x pos')) pos2.line X.env=pure true:=by rfl):jF X c (.Assign [.Name x pos'] e pos2) (bf i g):=by
 obtain ⟨cm,core,_,Sh⟩:=h;refine ⟨λT9 s σ H D I ⟨J,env,sr,w⟩=>?_⟩;rw [arm_exec_Assign];refine Uh (XC ?_);rw [show aan [.Name x pos'] e pos2.line X.env=pure true from hsw];refine Uh (Uj ?_);rw [if_pos rfl,Sh];refine Uh (Uh (core (Q:=λv H1=>∃J1 r xx,Ext J H J1 H1/\RR c H J1 H1 r v/\toS r=.ok xx/\oP c J D (.nx (env.set i (some xx)))) I ⟨J,env,sr,aE (aI w) λr wr v J1 H1 e1 r1=>?_⟩ λacc C m s' H' fl hm ap hf hb ⟨J1,r,xx,e1,r1,q1,w1⟩=>?_))
 ·obtain ⟨xx,q,wr⟩:=v_ wr;exact ⟨J1,r,xx,e1,r1,q,wr⟩
 ·have I1:L2.Inv X T9 σ H' s':=hb s'.heap (afb ..);show UB _ _ (do X3 pos';bindName X.env x (.ref acc)) _ _ _;refine Uh (XC (wpAny_bindName ?_));refine xK I1 hN hx (.inl SY) (v:=.ref acc) (u:=.ref acc) rfl (λs2 I2 ⟨a,sb,ha⟩=>?_) (.inr SY);have hac:C≠a:=λz=>by
   rcases ha with e | e
   ·exact ap.2.1 (z.trans e)
   ·exact ap.2.2.1 _ _ e z.symm
  refine ⟨m,hm.sameBut sb hac,λh2 sb2=>?_⟩;refine Uj (Uj ⟨σ.set i (some (.ref acc)),H',E7 I2 ap hf sb2 (o0:=default),?_⟩);exact w1 _ J1 H' e1.j (sr.set e1 r1 q1)
end
noncomputable def uJ (n:Nat) (cap:List Nat) (gi0:G (List D)) (gt0:GT) (gts0:G Bool) (gi1:G (List D)) (gt1:GT) (gts1:G Bool) (ge:G R):G R:=jw 10000 n cap gi0 gt0 gts0 (jr gi1 gt1 gts1 (gR ge)) (λys=>.ok (.l .fresh ys))
theorem Li (elt t0 i0 t1 i1:U_) (f0 f1:List U_) (T8:X0) (pos:Pos) (it acc:Uk) (env:Env):
  Zh (.ListComp elt [⟨t0,i0,f0,0⟩,⟨t1,i1,f1,0⟩] T8 pos) 0 it acc env=(do
   X3 i0.pos
   match <-Xy it with
   | none=>pure (.done .next)
   | some v=>
    WX t0 it v
    assign t0 env v
    let mut ok:=true
    for c in f0 do
     if ok then ok <-abp c env (eval c env)
    if ok then
     let x <-eval i1 env
     X3 i1.pos
     let x <-VX i1 env x
     let _ <-runOwn (.compStart (.ListComp elt [⟨t0,i0,f0,0⟩,⟨t1,i1,f1,0⟩] T8 pos) 1 (<-holding [x] (ZF x)) acc env) env
    again (.compLoop (.ListComp elt [⟨t0,i0,f0,0⟩,⟨t1,i1,f1,0⟩] T8 pos) 0 it acc env)):=by rfl
theorem NU (elt t0 i0 t1 i1:U_) (f0 f1:List U_) (T8:X0) (pos:Pos) (it acc:Uk) (env:Env):
  Zh (.ListComp elt [⟨t0,i0,f0,0⟩,⟨t1,i1,f1,0⟩] T8 pos) 0 it acc env=mF t0 i0 f0 it env (tE (.ListComp elt [⟨t0,i0,f0,0⟩,⟨t1,i1,f1,0⟩] T8 pos) i1 acc env) (again (.compLoop (.ListComp elt [⟨t0,i0,f0,0⟩,⟨t1,i1,f1,0⟩] T8 pos) 0 it acc env)):=by
 rw [Li];refine bind_congr λ_=>bind_congr λr=>?_;cases r with
 | none=>rfl
 | some v=>
  refine bind_congr λ_=>bind_congr λ_=>bind_congr λok=>?_;cases ok with
  | false=>rfl
  | true=>simp only [tE,bind_assoc,pure_bind,if_true]
theorem NV (elt t0 i0 t1 i1:U_) (f0 f1:List U_) (T8:X0) (pos:Pos) (it acc:Uk) (env:Env):
  Zh (.ListComp elt [⟨t0,i0,f0,0⟩,⟨t1,i1,f1,0⟩] T8 pos) 1 it acc env=mF t1 i1 f1 it env (do let _ <-call (.builtin "list.append") [acc,<-eval elt env]) (again (.compLoop (.ListComp elt [⟨t0,i0,f0,0⟩,⟨t1,i1,f1,0⟩] T8 pos) 1 it acc env)):=by rfl
section
variable {X:Cx}{c:C}
theorem LX (own:List Str) (cap:List Nat){elt t0 i0 t1 i1:U_}{f0 f1:List U_}{T8:X0}{pos:Pos}{gi0 gi1:G (List D)}{gt0 gt1:GT}{gts0 gts1:G Bool}{ge:G R}(hi:wD X c t0 i0 gi0)
  (hbody:∀(cl:List (Str×UL)) (C:UL) (s:Um) (H:Hp) (fp:List UL),d9 X.env.cells T8.names []=some cl->pZ (cZ X own cap T8 cl C s H fp) c t0 gt0/\pY (cZ X own cap T8 cl C s H fp) c f0 gts0/\A2 (cZ X own cap T8 cl C s H fp) c t1 i1 gi1/\pZ (cZ X own cap T8 cl C s H fp) c t1 gt1/\pY (cZ X own cap T8 cl C s H fp) c f1 gts1/\QD (cZ X own cap T8 cl C s H fp) c elt ge)
  (a:AS X T8 cap i0:=by exact wL rfl) (hs1:∀(en:Env) x,VX i1 en x=pure x:=by intro _ _;rfl):qN X c (.ListComp elt [⟨t0,i0,f0,0⟩,⟨t1,i1,f1,0⟩] T8 pos) (uJ own.length cap gi0 gt0 gts0 gi1 gt1 gts1 ge):=by
 refine ⟨_,?_,rfl,λ_=>rfl⟩;refine nY (e:=.ListComp elt [⟨t0,i0,f0,0⟩,⟨t1,i1,f1,0⟩] T8 pos) (ob:={cls:=.type "list",dict:=none,data:=.seq ([]:List Uk).toArray}) (o0:=λ_=>.lst []) (Acc:=Cn c) (N:=1000 * 1) (lim:=10000) (m:=λp env=>tE (.ListComp elt [⟨t0,i0,f0,0⟩,⟨t1,i1,f1,0⟩] T8 pos) i1 (.ref p) env) own cap rfl hi.h
  (λs Q E q=>UU q) (λh H=>⟨UX _,[],0,.nil,Us _ rfl⟩) (λp=>sV) (λp J H _ h1 h2=>⟨[],h1,h2,.nil⟩) (by decide) (λit p env=>CW (NU ..)) (λit acc env R s h0 h=>aaO h0 h) (λys z q=>by cases q)
  (fun {p J H J' H' ys r} hp e ⟨us,h1,h2,h3⟩ q=>by cases q;exact ⟨J',e,⟨p,us,rfl,h1,h2,hp,h3⟩⟩) (λcl C s H fp hcc=>?_) a
 obtain ⟨b1,b2,b3,b4,b5,b6⟩:=hbody cl C s H fp hcc;exact ⟨b1.h,b2.h,λp J2 H2 hp2 hp0=>A8 sV a.hcalm (λ_ _ f=>f) (λx=>hs1 _ x) (λit R s h0 h=>NO h0 h) (λit=>CW (NV ..)) b3.h b4.h b5.h (A7 (λ_ _ f=>f) hp2 hp0 b6.h)⟩
end
noncomputable def Dl:Uk->Option V
 | .int i _=>some (.int i)
 | .ref a=>some (.ref a)
 | _=>none
noncomputable def kM:List Uk->Option (List V)
 | []=>some []
 | u::us=>match Dl u,kM us with
  | some v,some vs=>some (v::vs)
  | _,_=>none
open Classical in
noncomputable def lM (h:VB):Hp:=λa=>match h.get? a with
 | some o=>if o.cls=.type "tuple" then (match o.data with
  | .seq its _=>(kM its.toList).map .tup
  | _=>none) else none
 | none=>none
theorem HE (h:Dl u=some v):RelV v u:=by
 cases u with
 | int i t=>cases h;exact ⟨t,rfl⟩
 | ref a=>cases h;exact rfl
 | _=>cases h
theorem xq:∀{us:List Uk}{vs:List V},kM us=some vs->Vals vs us
 | [],vs,h=>by cases h;exact .nil
 | u::us,vs,h=>by
  unfold kM at h;cases q:Dl u with
  | none=>rw [q] at h;cases h
  | some v=>
   cases q2:kM us with
   | none=>rw [q,q2] at h;cases h
   | some ws=>rw [q,q2] at h;cases h;exact .cons (HE q) (xq q2)
theorem iX {h:VB}(q:lM h a=some o):∃vs ob its n,o=.tup vs/\h.get? a=some ob/\ob.cls=.type "tuple"/\ob.data=.seq its n/\Vals vs its.toList:=by
 unfold lM at q;split at q
 ·rename_i ob hob;split at q
  ·rename_i hc;split at q
   ·rename_i its n hd;cases z:kM its.toList with
    | none=>rw [z] at q;cases q
    | some vs=>rw [z] at q;cases q;exact ⟨vs,ob,its,n,rfl,hob,hc,hd,xq z⟩
   ·cases q
  ·cases q
 ·cases q
theorem K4 {h:VB}{its:List Uk}(p:h.IsTuple a its.toArray) (q:kM its=some vs):lM h a=some (.tup vs):=by obtain ⟨o,ho,hc,n,hd⟩:=p;unfold lM;rw [ho];simp only [hc,if_true,hd];rw [q];rfl
theorem qp {s:Um}:HF [] (lM s.heap) s:=by
 refine ⟨λa xs h=>?_,λa xs h=>?_,λa h=>?_,λa ep Ue h=>?_⟩
 ·rcases h with (h | ⟨o,h⟩) | ⟨o,its,n,h,_⟩
  ·obtain ⟨vs,ob,its,n,e,h1,h2,h3,h4⟩:=iX h;cases e;exact ⟨its.toList,h4,ob,h1,h2,n,by rw [h3]⟩
  ·obtain ⟨vs,ob,its,n,e,_⟩:=iX h;cases e
  ·cases h
 ·rcases h with (h | ⟨o,h⟩) | ⟨o,its,n,h,_⟩
  ·obtain ⟨vs,ob,its,n,e,_⟩:=iX h;cases e
  ·obtain ⟨vs,ob,its,n,e,_⟩:=iX h;cases e
  ·cases h
 ·obtain ⟨vs,ob,its,n,e,_⟩:=iX h;cases e
 ·obtain ⟨vs,ob,its,n,e,_⟩:=iX h;cases e
theorem zY {K:Ui}{J:Hp}:∀{ds:List D}{vs:List V}{us:List Uk},areKeys ds=true->aK K J ds vs->Vals vs us->kM us=some vs
 | _,_,_,_,.nil,.nil=>rfl
 | d::ds,v::vs,u::us,h,.cons r rs,.cons q qs=>by
  unfold areKeys at h;rw [Uq] at h;have ih:=zY h.2 rs qs;have e:Dl u=some v:=by
   cases d with
   | int i=>cases r;obtain ⟨t,rfl⟩:=q;rfl
   | tup xs=>cases r;cases q;rfl
   | _=>cases h.1
  unfold kM;rw [e,ih]
mutual
theorem jR {K:Ui}{J:Hp}{s:Um}(F:HF K J s):∀{d:D}{v:V},isKey d=true->Rep K J d v->Rep [] (lM s.heap) d v
 | .int i,_,_,.int _=>.int i
 | .tup ds,_,hk,.tup (a:=a) (vs:=vs) h hs=>by obtain ⟨its,r,p⟩:=F.t _ _ h;exact .tup (.inl (.inl (K4 p (zY hk hs r)))) (zZ F hk hs)
 | .non,_,hk,_=>nomatch hk
 | .bl _,_,hk,_=>nomatch hk
 | .str _,_,hk,_=>nomatch hk
 | .lst _,_,hk,_=>nomatch hk
 | .emp,_,hk,_=>nomatch hk
 | .exn _ _ _,_,hk,_=>nomatch hk
 | .dct _ _,_,hk,_=>nomatch hk
theorem zZ {K:Ui}{J:Hp}{s:Um}(F:HF K J s):∀{ds:List D}{vs:List V},areKeys ds=true->aK K J ds vs->aK [] (lM s.heap) ds vs
 | [],_,_,.nil=>.nil
 | d::ds,_,h,.cons r rs=>by unfold areKeys at h;rw [Uq] at h;exact .cons (jR F h.1 r) (zZ F h.2 rs)
end
theorem Fv {h h':VB}{o:Obj} {es ep}(ho:h.get? d=some o) (hd:o.data=.dict es ep) (sb:Vc d h h'):aU (lM h) (lM h'):=λa x q=>by
 obtain ⟨vs,ob,its,n,rfl,h1,h2,h3,h4⟩:=iX q;have hne:a≠d:=by rintro rfl;rw [ho] at h1;cases h1;rw [hd] at h3;cases h3
 unfold lM at q ⊢;rw [sb.2 a hne];exact q
def KD:Type:={d:D // isKey d=true/\dep d<=8}
noncomputable instance:DecidableEq KD:=λa b=>ael (a=b)
def Dm (A:U8):Prop:=A.units + 16 < V6
noncomputable def mO (prog:UG) (w:U5):HeapKind prog w KD where
 is:=λh k a=>Rep [] (lM h) k.1 (.ref a)
 hash:=λk=>bS k.1
 draws:=λk=>kF k.1
 room:=Dm
 inj:=fun {h a x y} hx hy=>aaA (Rep.inj (s:=({heap:=h}:Um)) qp hx hy (by have:=x.2.2;omega) (by have:=y.2.2;omega))
 keeps:=λhx ho hd sb=>Rep.mono (Fv ho hd sb) hx
 pyHash:=fun {A E s k a Q} hu hx q=>wc k.1 (.ref a) (.ref a) A s qp k.2.1 hx rfl (by have:=k.2.2;unfold Dm at hu;omega) E s Q qp q
 eqBool:=fun {A E s x y a b Q} hu hx hy q=>by
  have h:=m_ (s:=s) qp A hx hy rfl rfl (u:=.ref a) (u':=.ref b) (by have:=x.2.2;unfold Dm at hu;omega) (by have:=x.2.2;omega) (by have:=y.2.2;omega);refine h _ _ _ _ ?_;have e:bh x.1 y.1=decide (x=y):=by rw [Vk,vO x.2.1 y.2.1,decide_eq_true_eq];exact ⟨λz=>aaA z,λz=>congrArg Subtype.val z⟩
  rw [e];exact q
 quiet:=fun {A E s k a Q} hx q=>nL 8 qp ⟨k.1,.ref a,k.2.1,k.2.2,hx,rfl⟩ q
noncomputable def gz:List D->List D->D->Option D
 | k::ks,v::vs,x=>if bh k x=true then some v else gz ks vs x
 | _,_,_=>none
section
variable {K:Ui}{J:Hp}{s:Um}{P:UG}{w:U5}
theorem Bl (F:HF K J s):∀{ks:List D}{us ws:List V}{es:List aaZ},areKeys ks=true->(∀k∈ks,∃xs,k=.tup xs)->deps ks<=8->aK K J ks us->ws.length=us.length->aaa yy ((cF ks).zip (us.zip ws)) es->
  ∃xs:List (KD×UL×Uk),es=xs.map (adQ (mO P w))/\xs.map (λx=>x.1.1)=ks/\(∀x∈xs,(mO P w).is s.heap x.1 x.2.1)/\Vals ws (xs.map λx=>x.2.2)/\Vals us (xs.map λx=>VN x.2.1)
 | _,_,[],_,_,_,_,.nil,_,h=>by cases h;exact ⟨[],rfl,rfl,λ_ h=>(nomatch h),.nil,.nil⟩
 | k::ks,u::us,v::ws,es,hk,ht,hd,.cons r rs,hl,h=>by
  unfold areKeys at hk;rw [Uq] at hk;unfold deps at hd;have h:aaa yy ((bS k,u,v)::(cF ks).zip (us.zip ws)) es:=h;cases h with
  | @cons _ e _ es' h1 h2=>
   obtain ⟨xs,e1,e2,e3,e4,e5⟩:=Bl F hk.2 (λk hk=>ht k (Uu _ hk)) (by omega) rs (by simpa using hl) h2;obtain ⟨xs',rfl⟩:=ht k Uv;obtain ⟨q1,q2,q3⟩:=h1;obtain ⟨eh,ek,ev⟩:=e;cases r with
   | tup t1 t2=>
    rename_i a vs;have q2:ek=.ref a:=q2;have q1:eh=bS (.tup xs'):=q1;subst q2;subst q1;refine ⟨(⟨.tup xs',hk.1,by omega⟩,a,ev)::xs,by rw [e1];rfl,by rw [UH,e2],λx hx=>?_,.cons q3 e4,.cons rfl e5⟩
    (rcases UK.mp hx with rfl | hx)
    ·exact jR F hk.1 (.tup t1 t2)
    ·exact e3 x hx
 | [],us,v::ws,_,_,_,_,rs,hl,_=>by cases rs;cases hl
 | k::ks,us,[],_,_,_,_,rs,hl,_=>by cases rs;cases hl
theorem G2 {xs:List (KD×UL×Uk)}{ks:List D}(e:xs.map (λx=>x.1.1)=ks) (nd:ks.Nodup):(xs.map (·.1)).Nodup:=by
 rw [<-e] at nd;have this:((xs.map (·.1)).map (λk:KD=>k.1)).Nodup:=by rw [Vn];exact nd
 exact aeE (λk:KD=>k.1) (λa b h e=>h (congrArg (λk:KD=>k.1) e)) this
theorem uq:∀{xs:List (KD×UL×Uk)}{ks vs:List D}{ws:List V}(k:KD),xs.map (λx=>x.1.1)=ks->aK K J vs ws->Vals ws (xs.map λx=>x.2.2)->
  (∀d,gz ks vs k.1=some d->∃p v,aem xs k=some p/\RelV v p.2/\Rep K J d v)/\(gz ks vs k.1=none->aem xs k=none)
 | [],_,vs,ws,k,e,rs,rv=>by subst e;exact ⟨λd h=>(nomatch h),λ_=>rfl⟩
 | x::xs,_,_,_,k,e,.cons r rs,.cons q rv=>by
  subst e;obtain ⟨i1,i2⟩:=uq (xs:=xs) k rfl rs rv;rw [UH];unfold gz;by_cases c:x.1=k
  ·have:bh x.1.1 k.1=true:=by rw [c];exact gU _
   rw [if_pos this];have ek:aem (x::xs) k=some x.2:=by unfold aem;rw [List.find?_cons_of_pos (by simpa using c)];rfl
   exact ⟨λd h=>by cases h;exact ⟨x.2,_,ek,q,r⟩,λh=>nomatch h⟩
  ·have:¬bh x.1.1 k.1=true:=λh=>c (aaA ((vO x.1.2.1 k.2.1).mp h));rw [if_neg this];have ek:aem (x::xs) k=aem xs k:=by unfold aem;rw [List.find?_cons_of_neg (by simpa using c)]
   rw [ek];exact ⟨i1,i2⟩
theorem n5 {H:Hp}(F:HF K J s) (F':HF K H s) (h:eE K J H a ks vs):∃(xs:List (KD×UL×Uk)) (us ws:List V),s.heap.DictOfH (mO P w) a xs/\xs.map (λx=>x.1.1)=ks/\aK K J ks us/\aK K J vs ws/\Vals ws (xs.map λx=>x.2.2)/\Vals us (xs.map λx=>VN x.2.1)/\(a == XR)=false:=by obtain ⟨us,ws,ep,h,hk,hv,ok,hs⟩:=h;obtain ⟨o,es,h1,h2,h3,h4⟩:=F'.d _ _ _ h;obtain ⟨xs,e1,e2,e3,e4,e5⟩:=Bl (P:=P) (w:=w) F ok.key ok.tp ok.dp hk (by rw [<-hv.length,<-hk.length,hs.2]) h4;exact ⟨xs,us,ws,⟨o,es,ep,h1,h2,h3,e1,e3,G2 e2 ok.nd⟩,e2,hk,hv,e4,e5,hs.1⟩
end
noncomputable def dQ:D->Bool
 | .tup xs=>areKeys xs && decide (deps xs + 1<=8)
 | _=>false
theorem iz (h:dQ k=true):∃xs,k=.tup xs/\isKey k=true/\dep k<=8:=by
 cases k with
 | tup xs=>
  unfold dQ at h;rw [Uq] at h;exact ⟨xs,rfl,h.1,of_decide_eq_true h.2⟩
 | _=>cases h
noncomputable def uo:R->Option (List D×List D)
 | .d (.dct ks vs)=>some (ks,vs)
 | .mo ks vs=>some (ks,vs)
 | .mb ks vs=>some (ks,vs)
 | .mf ks vs=>some (ks,vs)
 | _=>none
noncomputable def iT (x y:R):M R:=match uo x,y with
 | some z,.d k=>if dQ k=true then (match gz z.1 z.2 k with
  | some d=>.ok (.d d)
  | none=>.bad) else .bad
 | _,_=>.bad
section
variable {X:Cx}{c:C}{a b:U_}{ga gb:G R}{pos:Pos}
theorem RR.dk {He J H:Hp}(hp:HI c J H):∀{r:R}{v:V}{z:List D×List D},RR c He J H r v->uo r=some z->∃a,v=.ref a/\eE c.K J H a z.1 z.2
 | .d (.dct ks vs),v,z,h,e=>by
  cases e;cases h with
  | dct h1 h2 h3 h4 h5=>exact ⟨_,rfl,_,_,_,hp.sub _ _ h1,h2,h3,h4,h5⟩
 | .mo ks vs,v,z,⟨a,h1,h2,_⟩,e=>by cases e;exact ⟨a,h1,h2⟩
 | .mf ks vs,v,z,⟨a,h1,h2,_⟩,e=>by cases e;exact ⟨a,h1,h2⟩
 | .mb ks vs,v,z,⟨a,h1,h2⟩,e=>by cases e;exact ⟨a,h1,h2.mono (aU.refl _) hp.ent⟩
 | .d .non,_,_,_,e=>nomatch e
 | .d (.bl _),_,_,_,e=>nomatch e
 | .d (.int _),_,_,_,e=>nomatch e
 | .d (.str _),_,_,_,e=>nomatch e
 | .d (.tup _),_,_,_,e=>nomatch e
 | .d (.lst _),_,_,_,e=>nomatch e
 | .d .emp,_,_,_,e=>nomatch e
 | .d (.exn _ _ _),_,_,_,e=>nomatch e
 | .l _ _,_,_,_,e=>nomatch e
theorem Mu (hu:X.A.units + 64 < V6):pR X (λx y H Q=>∃J p ks vs k d,aU J H/\x=.ref p/\eE X.K J H p ks vs/\Rep X.K J k y/\dQ k=true/\gz ks vs k=some d/\∀v,Rep X.K J d v->Q v H):=by
 intro value slice T9 s σ H x y v u Q I rx ry h hs;obtain ⟨J,p,ks,vs,k,d,sm,rfl,hd,hk,ok,lk,q⟩:=h;have F:HF X.K J s:=HF.of (c:=⟨X.K,H,H,λ_=>True⟩) I sm;obtain ⟨kx,rfl,k1,k2⟩:=iz ok;obtain ⟨r,rfl⟩:∃r,y=.ref r:=by cases hk;exact ⟨_,rfl⟩
 cases rx;cases ry;obtain ⟨xs,us,ws,hm,e2,_,hv,e4,_,hsm⟩:=n5 (P:=X.prog) (w:=X.w) F (fk I) hd;obtain ⟨pp,v,ea,rv,rd⟩:=(uq ⟨.tup kx,k1,k2⟩ e2 hv e4).1 d lk;have room:(mO X.prog X.w).room X.A.in1:=by show X.A.units + 1 + 16 < V6;omega
 exact Y3 (x:=pp.2) hm.typeIs slot_dict_getitem.lookup (wpAny_getItem_heap (Q:=λr s'=>r=pp.2/\EP X T9 σ Q r s') room (jR F k1 hk) hm ea ⟨rfl,v,H,I.tok _,rv,q v rd⟩) hs
theorem jQ (hu:X.A.units + 64 < V6) (ha:QD X c a ga) (hb:QD X c b gb) (hK:X.K=c.K:=by rfl) (hs:qP b:=by exact λ_ _=>rfl):QD X c (.Subscript a b pos) (g2 iT ga gb):=have ha:=ha.h;have hb:=hb.h;⟨IW (Mu hu) (by
 intro He He' J H x y u v Q hp rx ry w;unfold iT at w;split at w
 ·rename_i hz;obtain ⟨p,rfl,hd⟩:=rx.dk hp hz;split at w
  ·rename_i ok;split at w
   ·rename_i d hl;exact ⟨J,p,_,_,_,d,hp.sub,rfl,by rw [hK];exact hd,by rw [hK];exact ry,ok,hl,λv rd=>w v J H (Ext.refl hp.sub) (by rw [hK] at rd;exact rd)⟩
   ·exact w.elim
  ·exact w.elim
 ·exact w.elim) ha hb hs⟩
end
noncomputable def vV:List D->List D->D->D->List D
 | k::ks,v::vs,x,d=>(if bh k x=true then d else v)::vV ks vs x d
 | _,vs,_,_=>vs
def dput (z:List D×List D) (k d:D):List D×List D:=if (gz z.1 z.2 k).isSome=true then (z.1,vV z.1 z.2 k d) else (z.1++[k],z.2++[d])
noncomputable def jG (ys:List D):List D×List D:=ys.foldl (λz y=>match y with
 | .tup [k,d]=>dput z k d
 | _=>z) ([],[])
theorem nZ (ys:List D) (k d:D):jG (ys++[.tup [k,d]])=dput (jG ys) k d:=by unfold jG;rw [List.foldl_append];rfl
inductive cO (K:Ui) (J:Hp):List (KD×UL×Uk)->List D->List V->List D->List V->Prop
 | nil:cO K J [] [] [] [] []
 | cons {x:KD×UL×Uk}{xs:List (KD×UL×Uk)}{ks vs:List D}{us ws:List V}{d:D}{v:V}:RelV v x.2.2->Rep K J d v->cO K J xs ks us vs ws->cO K J (x::xs) (x.1.1::ks) (.ref x.2.1::us) (d::vs) (v::ws)
section
variable {K:Ui}{J:Hp}{P:UG}{w:U5}
theorem cO.of:∀{xs:List (KD×UL×Uk)}{us:List V}{vs:List D}{ws:List V},aK K J vs ws->Vals ws (xs.map λx=>x.2.2)->Vals us (xs.map λx=>VN x.2.1)->cO K J xs (xs.map λx=>x.1.1) us vs ws
 | [],_,_,_,.nil,.nil,.nil=>.nil
 | x::xs,u::us,_,_,.cons r rs,.cons q qs,.cons p ps=>by
  have:u=.ref x.2.1:=by
   cases u with
   | ref a=>cases p;rfl
   | int i=>obtain ⟨t,h⟩:=p;cases h
   | str i=>obtain ⟨t,h⟩:=p;cases h
   | byt i=>obtain ⟨t,h⟩:=p;cases h
   | flt i=>obtain ⟨t,h⟩:=p;cases h
   | non=>cases p
   | bl b=>cases p
   | ty n=>cases p
  subst this;exact .cons q r (cO.of rs qs ps)
theorem cO.put {k:KD}(rv:RelV v u) (rd:Rep K J d v):∀{xs:List (KD×UL×Uk)}{ks vs:List D}{us ws:List V},cO K J xs ks us vs ws->∃ws',cO K J (xs.map (putAt k u)) ks us (vV ks vs k.1 d) ws'
 | _,_,_,_,_,.nil=>⟨[],.nil⟩
 | x::xs,_,_,_,_,.cons q r t=>by
  obtain ⟨ws',ih⟩:=cO.put rv rd t;rw [UH];unfold vV;by_cases c:x.1=k
  ·have:bh x.1.1 k.1=true:=by rw [c];exact gU _
   rw [if_pos this];have e:putAt k u x=(x.1,x.2.1,u):=by unfold putAt;rw [if_pos c]
   rw [e];exact ⟨v::ws',.cons (x:=(x.1,x.2.1,u)) rv rd ih⟩
  ·have:¬bh x.1.1 k.1=true:=λh=>c (aaA ((vO x.1.2.1 k.2.1).mp h));rw [if_neg this];have e:putAt k u x=x:=by unfold putAt;rw [if_neg c]
   rw [e];exact ⟨_,.cons q r ih⟩
theorem cO.snoc {k:KD}{a:UL}{u:Uk}{d:D}{v:V}(rv:RelV v u) (rd:Rep K J d v):∀{xs:List (KD×UL×Uk)}{ks vs:List D}{us ws:List V},cO K J xs ks us vs ws->cO K J (xs++[(k,a,u)]) (ks++[k.1]) (us++[.ref a]) (vs++[d]) (ws++[v])
 | _,_,_,_,_,.nil=>.cons (x:=(k,a,u)) rv rd .nil
 | _,_,_,_,_,.cons q r t=>.cons q r (cO.snoc rv rd t)
theorem cO.ents:∀{xs:List (KD×UL×Uk)}{ks vs:List D}{us ws:List V},cO K J xs ks us vs ws->aaa yy ((cF ks).zip (us.zip ws)) (xs.map (adQ (mO P w)))
 | _,_,_,_,_,.nil=>.nil
 | _,_,_,_,_,.cons q r t=>.cons ⟨rfl,rfl,q⟩ t.ents
theorem cO.reps:∀{xs:List (KD×UL×Uk)}{ks vs:List D}{us ws:List V},cO K J xs ks us vs ws->aK K J vs ws
 | _,_,_,_,_,.nil=>.nil
 | _,_,_,_,_,.cons q r t=>.cons r t.reps
theorem cO.keys:∀{xs:List (KD×UL×Uk)}{ks vs:List D}{us ws:List V},cO K J xs ks us vs ws->xs.map (λx=>x.1.1)=ks
 | _,_,_,_,_,.nil=>rfl
 | _,_,_,_,_,.cons q r t=>by rw [UH,t.keys]
theorem cO.len:∀{xs:List (KD×UL×Uk)}{ks vs:List D}{us ws:List V},cO K J xs ks us vs ws->ks.length=vs.length
 | _,_,_,_,_,.nil=>rfl
 | _,_,_,_,_,.cons q r t=>by rw [VG,VG,t.len]
theorem rZ:∀{xs ys:List D},areKeys (xs++ys)=(areKeys xs && areKeys ys)
 | [],_=>rfl
 | x::xs,ys=>by show (isKey x && areKeys (xs++ys))=((isKey x && areKeys xs) && areKeys ys);rw [rZ,Bool.and_assoc]
theorem zg:∀{xs ys:List D}{n:Nat},deps xs<=n->deps ys<=n->deps (xs++ys)<=n
 | [],_,_,_,h=>h
 | x::xs,ys,n,h1,h2=>by unfold deps at h1;have:=zg (xs:=xs) (ys:=ys) (n:=n) (by omega) h2;show max (dep x) (deps (xs++ys))<=n;omega
theorem aK.snoc (h:aK K J ds vs) (r:Rep K J d v):aK K J (ds++[d]) (vs++[v]):=h.append (.cons r .nil)
end
section
variable {X:Cx}
theorem BL {s:Um}{H J:Hp}(I:Inv X T9 σ H s) (sub:aU J H){ks vs:List D}(h:eE X.K J H p ks vs):
  ∃xs:List (KD×UL×Uk),s.heap.DictOfH (mO X.prog X.w) p xs/\xs.length=ks.length/\∀{kxs:List D}{a:UL}{d:D}{v:V}{u:Uk}(k1:isKey (.tup kxs)=true) (k2:dep (.tup kxs)<=8),Rep X.K J (.tup kxs) (.ref a)->Rep X.K J d v->RelV v u->
   ∀(h':VB) (tk:Nat),h'.DictOfH (mO X.prog X.w) p (storedH xs ⟨.tup kxs,k1,k2⟩ a u)->Vc p s.heap h'->
    ∃o,Inv X T9 σ (upd H p o) {s with heap:=h',toks:=tk}/\eE X.K J (upd H p o) p (dput (ks,vs) (.tup kxs) d).1 (dput (ks,vs) (.tup kxs) d).2/\(dput (ks,vs) (.tup kxs) d).1.length<=ks.length + 1:=by
 have F:HF X.K J s:=HF.of (c:=⟨X.K,H,H,λ_=>True⟩) I sub;obtain ⟨xs,us,ws,hm,q2,h3,h4,q4,q5,h7⟩:=n5 (P:=X.prog) (w:=X.w) F (fk I) h;obtain ⟨_,_,_,p9,_,_,h5,_⟩:=h;have Ud:cO X.K J xs ks us vs ws:=by have:=cO.of h4 q4 q5;rw [q2] at this;exact this
 refine ⟨xs,hm,by rw [<-q2,Uo],fun {kxs a d v u} k1 k2 rk rd r9 h' tk hm' sb=>?_⟩;obtain ⟨o',es',ep',g1',g2'',g3',g4',g5',g6'⟩:=hm';obtain ⟨l1,l2⟩:=uq (K:=X.K) (J:=J) ⟨.tup kxs,k1,k2⟩ q2 h4 q4;have key:∃us' ws',cO X.K J (storedH xs ⟨.tup kxs,k1,k2⟩ a u) (dput (ks,vs) (.tup kxs) d).1 us' (dput (ks,vs) (.tup kxs) d).2 ws'/\aK X.K J (dput (ks,vs) (.tup kxs) d).1 us'/\areKeys (dput (ks,vs) (.tup kxs) d).1=true/\deps (dput (ks,vs) (.tup kxs) d).1<=8/\(∀k∈(dput (ks,vs) (.tup kxs) d).1,∃xs,k=.tup xs)/\(dput (ks,vs) (.tup kxs) d).1.length<=ks.length + 1:=by
  unfold dput;cases lk:gz ks vs (.tup kxs) with
  | some z=>
   obtain ⟨pp,v,ea,_,_⟩:=l1 z lk;rw [storedH_old ea];obtain ⟨ws',t⟩:=cO.put (k:=⟨.tup kxs,k1,k2⟩) r9 rd Ud;exact ⟨us,ws',t,h3,h5.key,h5.dp,h5.tp,Yy _⟩
  | none=>
   rw [storedH_new (l2 lk)];refine ⟨us++[.ref a],ws++[v],cO.snoc (k:=⟨.tup kxs,k1,k2⟩) r9 rd Ud,h3.snoc rk,?_,zg h5.dp (by show max (dep (.tup kxs)) 0<=8;omega),λk hk=>?_,by simp⟩
   ·show areKeys (ks++[.tup kxs])=true;rw [rZ,h5.key];show (true && (isKey (.tup kxs) && true))=true;rw [k1];rfl
   ·rcases US.mp hk with h | h
    ·exact h5.tp k h
    ·exact ⟨kxs,Uz.mp h⟩
 obtain ⟨us',ws',t,tk',kk,kd,kt,kl⟩:=key;have nd':(dput (ks,vs) (.tup kxs) d).1.Nodup:=by rw [<-t.keys];have:((storedH xs ⟨.tup kxs,k1,k2⟩ a u).map (·.1)).Nodup:=g6';have h:=afc (S:=(·≠·)) (λk:KD=>k.1) (λa b (h:a≠b) e=>h (aaA e)) this;rw [Vn] at h;exact h
 refine ⟨lD p ep' ((cF (dput (ks,vs) (.tup kxs) d).1).zip (us'.zip ws')),I.write (e:=p) (by rw [p9];trivial) (.inl rfl) (λb u hb q=>by rw [sb.2 b hb];exact q) ⟨_,g1'⟩ ⟨⟨o',es',g1',g2'',g3',by rw [g4'];exact t.ents⟩,⟨_,g1'⟩,?_⟩,⟨us',ws',ep',bN,tk',t.reps,⟨kk,nd',kd,kt⟩,h7,t.len⟩,kl⟩;rintro h1 h2 ⟨o,es,a1,a2⟩ e;exact ⟨o,es,e o a1,a2⟩
end
def Cm (c:C) (p:UL):Hp->Hp->List D->Prop:=λJ H ys=>eE c.K J H p (jG ys).1 (jG ys).2/\J p=none/\(jG ys).1.length<=ys.length
theorem sU:yt (Cm c p):=⟨fun {J H J' H' ys} ⟨h1,h2,h3⟩ e=>⟨h1.mono e.j e.h,e.frz _ h1.ne h2,h3⟩⟩
noncomputable def sW (gk gv:G R):Ev->M (List D×Ev):=λe=>gk e >>= λr=>toD r >>= λk=>gv e >>= λr2=>toD r2 >>= λd=>if dQ k=true then .ok ([.tup [k,d]],e) else .bad
abbrev Di (kx vx:U_) (p:UL) (env:Env):Sem Unit:=do
 let kv <-eval kx env
 let vv <-holding [kv] (eval vx env)
 X3 {kx.pos with endLine:=vx.pos.endLine,endCol:=vx.pos.endCol}
 holding [kv,vv] (dictSet p kv vv)
section
variable {X:Cx}{c:C}{p:UL}{J2 H2:Hp}{kx vx:U_}{gk gv:G R}
theorem A9 (hu:X.A.units + 64 < V6) (hK:X.K=c.K) (hx:∀v s,X.xe v s->False) (hp2:H2 p=none) (hp0:c.H0 p=none) (hk:PD X c kx gk) (hv:PD X c vx gv):vt X c p (Cm c p) J2 H2 1 (Di kx vx p X.env) (sW gk gv):=by
 intro T9 s σ H J env ys Qf I x2 sr no ⟨h1,h2,h8⟩ hl w;refine Uh (Vt (hk _ s σ H (λv H8=>∃J8 k,Ext J H J8 H8/\Rep c.K J8 k v/\cA (gv env >>= λr2=>toD r2 >>= λd=>if dQ k=true then M.ok ([.tup [k,d]],env) else .bad) Qf c.T) I ⟨J,env,sr,aE (aI w) λr wr v J8 H8 e8 r8=>?_⟩) (λu8 s8 ⟨v8,H8,I8,r8,J8,k,e8,rk,w8⟩=>?_) λv s f=>(hx v s f).elim)
 ·obtain ⟨y,q,wr⟩:=jk wr;obtain ⟨J9,e9,_,ry⟩:=freeze e8 r8 q;exact ⟨J9,y,e9,ry,wr⟩
 refine Uh (U7 (Vt (hv _ s8 σ H8 (λv H9=>∃J9 d,Ext J8 H8 J9 H9/\Rep c.K J9 d v/\cA (if dQ k=true then M.ok ([.tup [k,d]],env) else .bad) Qf c.T) I8 ⟨J8,env,sr.ext e8,aE (aI w8) λr wr v J9 H9 e9 r9=>?_⟩) (λu9 s9 ⟨v9,H9,I9,r9,J9,d,e9,rd,w9⟩=>?_) λv s f=>(hx v s f).elim))
 ·obtain ⟨y,q,wr⟩:=jk wr;obtain ⟨J9',e9',_,ry⟩:=freeze e9 r9 q;exact ⟨J9',y,e9',ry,wr⟩
 refine Uh (XC (U7 ?_));by_cases ok:dQ k=true
 case neg=>rw [if_neg ok] at w9;exact w9.elim
 rw [if_pos ok] at w9;have w9:Qf ([.tup [k,d]],env):=w9;obtain ⟨kxs,rfl,k1,k2⟩:=iz ok;have ee:=e8.trans e9;have rk9:=rk.mono e9.j;obtain ⟨a,rfl⟩:∃a,v8=.ref a:=by cases rk;exact ⟨_,rfl⟩
 cases r8;have J9p:J9 p=none:=ee.frz _ h1.ne h2;rw [<-hK] at rk9 rd;have h9:=h1.mono ee.j ee.h;rw [<-hK] at h9;obtain ⟨xs,hm,lx,put⟩:=BL I9 ee.sub h9;refine wpAny_dictSet_heap (knd:=mO X.prog X.w) (k:=⟨.tup kxs,k1,k2⟩) (show X.A.units + 16 < V6 by omega) (jR (HF.of (c:=⟨X.K,H9,H9,λ_=>True⟩) I9 ee.sub) k1 rk9) hm (λh' hm' sb=>?_) (by rw [lx];omega);obtain ⟨o,W,hd,kl⟩:=put k1 k2 rk9 rd r9 h' _ hm' sb;refine ⟨σ,_,J9,([.tup [.tup kxs,d]],env),W,(x2.trans ee).other hp2 J9p,ee.j,(sr.ext ee).other J9p hp0 no,no,⟨by rw [nZ,<-hK];exact hd,J9p,?_⟩,Uw _,w9⟩;rw [nZ,UI];exact U1 kl (Nat.add_le_add_right h8 1)
end
noncomputable def Br (n:Nat) (cap:List Nat) (gi0:G (List D)) (gt0:GT) (gts0:G Bool) (gi1:G (List D)) (gt1:GT) (gts1:G Bool) (gk gv:G R):G R:=jw 10000 n cap gi0 gt0 gts0 (jr gi1 gt1 gts1 (sW gk gv)) (λys=>.ok (.d (.dct (jG ys).1 (jG ys).2)))
theorem Lh (kx vx t0 i0 t1 i1:U_) (f0 f1:List U_) (T8:X0) (pos:Pos) (it acc:Uk) (env:Env):
  Zh (.DictComp kx vx [⟨t0,i0,f0,0⟩,⟨t1,i1,f1,0⟩] T8 pos) 0 it acc env=(do
   X3 i0.pos
   match <-Xy it with
   | none=>pure (.done .next)
   | some v=>
    WX t0 it v
    assign t0 env v
    let mut ok:=true
    for c in f0 do
     if ok then ok <-abp c env (eval c env)
    if ok then
     let x <-eval i1 env
     X3 i1.pos
     let x <-VX i1 env x
     let _ <-runOwn (.compStart (.DictComp kx vx [⟨t0,i0,f0,0⟩,⟨t1,i1,f1,0⟩] T8 pos) 1 (<-holding [x] (ZF x)) acc env) env
    again (.compLoop (.DictComp kx vx [⟨t0,i0,f0,0⟩,⟨t1,i1,f1,0⟩] T8 pos) 0 it acc env)):=by rfl
theorem NS (kx vx t0 i0 t1 i1:U_) (f0 f1:List U_) (T8:X0) (pos:Pos) (it acc:Uk) (env:Env):
  Zh (.DictComp kx vx [⟨t0,i0,f0,0⟩,⟨t1,i1,f1,0⟩] T8 pos) 0 it acc env=mF t0 i0 f0 it env (tE (.DictComp kx vx [⟨t0,i0,f0,0⟩,⟨t1,i1,f1,0⟩] T8 pos) i1 acc env) (again (.compLoop (.DictComp kx vx [⟨t0,i0,f0,0⟩,⟨t1,i1,f1,0⟩] T8 pos) 0 it acc env)):=by
 rw [Lh];refine bind_congr λ_=>bind_congr λr=>?_;cases r with
 | none=>rfl
 | some v=>
  refine bind_congr λ_=>bind_congr λ_=>bind_congr λok=>?_;cases ok with
  | false=>rfl
  | true=>simp only [tE,bind_assoc,pure_bind,if_true]
theorem NT (kx vx t0 i0 t1 i1:U_) (f0 f1:List U_) (T8:X0) (pos:Pos) (it:Uk) (p:UL) (env:Env):
  Zh (.DictComp kx vx [⟨t0,i0,f0,0⟩,⟨t1,i1,f1,0⟩] T8 pos) 1 it (.ref p) env=mF t1 i1 f1 it env (Di kx vx p env) (again (.compLoop (.DictComp kx vx [⟨t0,i0,f0,0⟩,⟨t1,i1,f1,0⟩] T8 pos) 1 it (.ref p) env)):=by rfl
section
variable {X:Cx}{c:C}
theorem PJ (hu:X.A.units + 64 < V6) (own:List Str) (cap:List Nat){kx vx t0 i0 t1 i1:U_}{f0 f1:List U_}{T8:X0}{pos:Pos}{gi0 gi1:G (List D)}{gt0 gt1:GT}{gts0 gts1:G Bool}{gk gv:G R}(hi:wD X c t0 i0 gi0)
  (hbody:∀(cl:List (Str×UL)) (C:UL) (s:Um) (H:Hp) (fp:List UL),d9 X.env.cells T8.names []=some cl->pZ (cZ X own cap T8 cl C s H fp) c t0 gt0/\pY (cZ X own cap T8 cl C s H fp) c f0 gts0/\A2 (cZ X own cap T8 cl C s H fp) c t1 i1 gi1/\pZ (cZ X own cap T8 cl C s H fp) c t1 gt1/\pY (cZ X own cap T8 cl C s H fp) c f1 gts1/\QD (cZ X own cap T8 cl C s H fp) c kx gk/\QD (cZ X own cap T8 cl C s H fp) c vx gv)
  (a:AS X T8 cap i0:=by exact wL rfl) (hs1:∀(en:Env) x,VX i1 en x=pure x:=by intro _ _;rfl) (hK:X.K=c.K:=by rfl):qN X c (.DictComp kx vx [⟨t0,i0,f0,0⟩,⟨t1,i1,f1,0⟩] T8 pos) (Br own.length cap gi0 gt0 gts0 gi1 gt1 gts1 gk gv):=by
 refine ⟨_,?_,rfl,λ_=>rfl⟩;refine nY (e:=.DictComp kx vx [⟨t0,i0,f0,0⟩,⟨t1,i1,f1,0⟩] T8 pos) (ob:={cls:=.type "dict",data:=.dict #[]}) (o0:=λa=>lD a 0 []) (Acc:=Cm c) (N:=1000 * 1) (lim:=10000) (m:=λp env=>tE (.DictComp kx vx [⟨t0,i0,f0,0⟩,⟨t1,i1,f1,0⟩] T8 pos) i1 (.ref p) env) own cap rfl hi.h
  (λs Q E q=>UU q) (λh H=>⟨⟨_,#[],Us _ rfl,⟨rfl,rfl,rfl⟩,rfl,.nil⟩,⟨_,Us _ rfl⟩,λh1 h2 ⟨o,es,a1,a2⟩ e=>⟨o,es,e o a1,a2⟩⟩) (λp=>sU) (λp J H hsm h1 h2=>⟨⟨[],[],0,h1,.nil,.nil,⟨rfl,Xk,UX _,λ_ h=>(nomatch h)⟩,beq_eq_false_iff_ne.mpr (Ws (UY hsm)),rfl⟩,h2,Uw _⟩) (by decide) (λit p env=>CV (NS ..)) (λit acc env R s h0 h=>aaP h0 h) (λys z q=>by cases q)
  (fun {p J H J' H' ys r} hp e ⟨⟨us,ws,ep,h1,h3,h4,h5,h7⟩,h2,h8⟩ q=>by
   cases q;have s1:aU J' (upd J' p (lD p ep ((cF (jG ys).1).zip (us.zip ws)))):=cJ h2 _;refine ⟨upd J' p (lD p ep ((cF (jG ys).1).zip (us.zip ws))),⟨e.h,e.j.trans s1,λa o q=>?_,λa ha ja=>?_⟩,.dct bN (h3.mono s1) (h4.mono s1) h5 h7⟩
   ·by_cases z:a=p
    ·subst z;rw [bN] at q;cases q;exact h1
    ·rw [bq z] at q;exact e.sub _ _ q
   ·have:a≠p:=λz=>ha (z▸hp);rw [bq this];exact e.frz a ha ja) (λcl C s H fp hcc=>?_) a
 obtain ⟨b1,b2,b3,b4,b5,b6,b7⟩:=hbody cl C s H fp hcc;exact ⟨b1.h,b2.h,λp J2 H2 hp2 hp0=>A8 sU a.hcalm (λ_ _ f=>f) (λx=>hs1 _ x) (λit R s h0 h=>NN h0 h) (λit=>CV (NT ..)) b3.h b4.h b5.h (A9 hu hK (λ_ _ f=>f) hp2 hp0 b6.h b7.h)⟩
end
noncomputable def lexLe:List Int->List Int->Bool
 | [],_=>true
 | _::_,[]=>false
 | x::xs,y::ys=>if x=y then lexLe xs ys else decide (x<=y)
theorem kJ (x y:Int) (xs ys:List Int):lexLe (x::xs) (y::ys)=if x=y then lexLe xs ys else decide (x<=y):=rfl
theorem pH:lexLe [] []=true:=rfl
theorem vR (y:Int) (ys:List Int):lexLe [] (y::ys)=true:=rfl
theorem vQ (x:Int) (xs:List Int):lexLe (x::xs) []=false:=rfl
theorem HG (A:U8) (s:Um) (a:Int) (t:Tok) (c:Int) (u:Tok) (prog:UG) (w:U5) (E:Uk->Um->Prop) (Q:Uk->Um->Prop) (h:Q (.bool (decide (a<=c))) s):
  UB (UO prog w) A (richCompare .LtE (.int a t) (.int c u)) Q E s:=
 (aeZ h:UB (UO prog w) A (V5 .LtE (.int a t) (.int c u)) Q E s)
section
open PySem.SeqAt
open PySem.AutoSeq1 (wpAny_loadPart')
open PySem.MeetsSeq PySem.MeetsSeq2 PySem.MeetsSeq3
theorem yc (l b:UL) (items Uc:Array Uk) (n n2:Nat) (dd dd2:Option UL) (sl sl2:Array (Option Uk)) (ns ms:List Int) (hi:YG items.toList ns) (hj:YG Uc.toList ms):
  Meets (X6.«tuple.__le__» ⟨[.ref l,.ref b],[]⟩)
   (λ_ R s=>s.heap.get? l=some {cls:=.type "tuple",dict:=dd,data:=.seq items n,slots:=sl}/\s.heap.get? b=some {cls:=.type "tuple",dict:=dd2,data:=.seq Uc n2,slots:=sl2}/\
    R (.ok (.ret (.bool (lexLe ns ms)))) s):=
 .of_wp λprog w A R s h=>by
  obtain ⟨hp,g,d,tk,os⟩:=s;obtain ⟨hl,hb,h⟩:=h;have f2:=YC;have z1:items.size=ns.length:=by rw [<-hi.length];simp
  have z2:Uc.size=ms.length:=by rw [<-hj.length];simp
  wp_walk using W0 hl,W0 hb,W7 _ (λrest b s'=>b.1=none/\s'=⟨hp,g,d,tk,os⟩/\∃(vs ws:List Uk) (ns' ms':List Int),rest=vs.zip ws/\
   YG vs ns'/\YG ws ms'/\ns'.length + Uc.size=ms'.length + items.size/\R (.ok (.ret (.bool (lexLe ns' ms')))) ⟨hp,g,d,tk,os⟩) _
  case turn=>
   rintro ⟨y,x⟩ rest b s' ⟨hb',rfl,vs,ws,ns',ms',hz,SD,hwi,hlen,hR⟩;cases SD with
   | nil=>rw [List.zip_nil_left] at hz;cases hz
   | cons a t SE=>
    cases hwi with
    | nil=>rw [List.zip_nil_right] at hz;cases hz
    | cons c u SG=>
     rw [XY] at hz;injection hz with hyx hrest
     injection hyx with hy hx
     subst hy hx;rw [kJ] at hR;simp only [VG] at hlen;obtain ⟨e,he,hiff⟩:=HT.Gr A.in1 ⟨hp,g,d,tk,os⟩ a t c u;refine Uh (he prog w _ _ ?_);cases e with
     | true=>
      rw [if_pos (hiff.mp rfl)] at hR
      wp_walk
      exact ⟨rfl,rfl,_,_,_,_,hrest,SE,SG,by omega,hR⟩
     | false=>
      rw [if_neg (λq=>absurd (hiff.mpr q) UZ)] at hR;have Sz:=HG A.in1 ⟨hp,g,d,tk,os⟩ a t c u prog w
      wp_walk using Sz
      exact ⟨_,rfl,by simpa using hR⟩
  case fin=>
   rintro ⟨b1,b2⟩ s' ⟨hb',rfl,vs,ws,ns',ms',hz,SD,hwi,hlen,hR⟩;simp only at hb';subst hb';have hv:lexLe ns' ms'=decide (items.size<=Uc.size):=by
    cases SD with
    | nil=>
     cases hwi with
     | nil=>
      simp only [YW] at hlen;rw [pH];exact (decide_eq_true (by omega)).symm
     | cons c u hw=>
      simp only [YW,VG] at hlen;rw [vR];exact (decide_eq_true (by omega)).symm
    | cons a t hv=>
     cases hwi with
     | nil=>
      simp only [YW,VG] at hlen;rw [vQ];exact (decide_eq_false (by omega)).symm
     | cons c u hw=>
      rw [XY] at hz;cases hz
   rw [hv] at hR
   wp_walk
   exact ⟨_,rfl,by simpa [Y9] using hR⟩
  case h=>
   exact ⟨rfl,rfl,items.toList,Uc.toList,ns,ms,rfl,hi,hj,by omega,h⟩
end
section
variable {prog:UG}{w:U5}{A:U8}{E:Uk->Um->Prop}{s:Um}
theorem CS {items Uc:Array Uk}{Q:Uk->Um->Prop}(hl:aeq s.heap l items) (hb:aeq s.heap b Uc) (hi:YG items.toList ns) (hj:YG Uc.toList ms)
 (hu:A.units < V6) (h:Q (.bool (lexLe ns ms)) s):UB (UO prog w) A (V5 .LtE (.ref l) (.ref b)) Q E s:=by
 obtain ⟨⟨cls,dd,data,sl⟩,ho,hc,n,hd⟩:=id hl;obtain ⟨⟨cls2,dd2,data2,sl2⟩,ho2,hc2,n2,hd2⟩:=id hb;simp only at hc hd hc2 hd2;subst hc hd hc2 hd2;exact aaL (op:=.LtE) ⟨_,ho,rfl⟩ ⟨_,ho2,rfl⟩ PySem.F.slot_tuple_le PySem.F.entry_tuple_le (PySem.F.args_tuple_le_2 _ _) (yc l b items Uc n n2 dd dd2 sl sl2 ns ms hi hj)
  ⟨ho,ho2,show Yd (lexLe ns ms)≠abl/\Q (.bool (lexLe ns ms)) s from ⟨(λx=>nomatch x),h⟩⟩ hu
end
section
variable {X:Cx}{c:C}{a b e:U_}{ga gb:G R}{pos pos2:Pos}
theorem MS (hu:X.A.units < V6):c8 X (V5 .LtE) (λx y H Q=>∃a b ns ms,x=.ref a/\y=.ref b/\cY X.K H a (ns.map V.int)/\cY X.K H b (ms.map V.int)/\Q (.bl (lexLe ns ms)) H):=by intro T9 s σ H x y v u Q I rx ry h;obtain ⟨a,b,ns,ms,rfl,rfl,ha,hb,q⟩:=h;cases rx;cases ry;obtain ⟨its,r1,p1,_⟩:=I.tuple ha;obtain ⟨its2,r2,p2,_⟩:=I.tuple hb;exact CS p1 p2 (L2.intsAre_of r1:YG its.toArray.toList ns) (L2.intsAre_of r2:YG its2.toArray.toList ms) hu ⟨.bl (lexLe ns ms),H,I,rfl,q⟩
noncomputable def zo:R->R->M R
 | .d (.tup xs),.d (.tup ys)=>match intsOf xs,intsOf ys with
  | some ns,some ms=>.ok (.d (.bl (lexLe ns ms)))
  | _,_=>.bad
 | _,_=>.bad
theorem KS (hu:X.A.units + 64 < V6) (ha:QD X c a ga) (hb:QD X c b gb) (hK:X.K=c.K:=by rfl):QB X c (.Compare a [.LtE] [b] pos) (bw (g2 zo ga gb)):=have ha:=ha.h;have hb:=hb.h;⟨jB (MS (by omega)) (by
 intro He He' J H x y u v Q hp rx ry w;unfold zo at w;split at w
 ·cases rx with
  | tup h1 s1=>
   cases ry with
   | tup h2 s2=>
    split at w
    ·rename_i ns ms z1 z2;have e1:=oq z1 s1;have e2:=oq z2 s2;subst e1 e2;exact ⟨_,_,ns,ms,rfl,rfl,by rw [hK];exact eY hp.sub h1,by rw [hK];exact eY hp.sub h2,w _ J H (Ext.refl hp.sub) (.bl _)⟩
    ·exact w.elim
 ·exact w.elim) ha hb⟩
end
theorem vF (gt:GT) (gts:G Bool) (ge:G R):∀(ds:List D) (env:Ev) (k:List D->M R),(bW gt gts (gR ge) ds env >>= λr=>k r.1)=(fJ gt gts ge ds env >>= k)
 | [],env,k=>rfl
 | d::ds,env,k=>by
  unfold bW fJ;cases gt d env with
  | bad=>rfl
  | exc z=>rfl
  | ok e=>
   show ((gts e >>= λk=>if k=true then gR ge e >>= λr=>bW gt gts (gR ge) ds r.2 >>= λz=>.ok (r.1++z.1,z.2) else bW gt gts (gR ge) ds e) >>= _)=((gts e >>= λk=>if k=true then ge e >>= λr=>toD r >>= λy=>fJ gt gts ge ds e >>= λys=>.ok (y::ys) else fJ gt gts ge ds e) >>= _);cases gts e with
   | bad=>rfl
   | exc z=>rfl
   | ok b=>
    cases b with
    | false=>exact vF gt gts ge ds e k
    | true=>
     show ((gR ge e >>= λr=>bW gt gts (gR ge) ds r.2 >>= λz=>.ok (r.1++z.1,z.2)) >>= _)=((ge e >>= λr=>toD r >>= λy=>fJ gt gts ge ds e >>= λys=>.ok (y::ys)) >>= _);unfold gR;cases ge e with
     | bad=>rfl
     | exc z=>rfl
     | ok r=>
      show (((toD r >>= λy=>M.ok ([y],e)) >>= λr=>bW gt gts (gR ge) ds r.2 >>= λz=>.ok (r.1++z.1,z.2)) >>= _)=((toD r >>= λy=>fJ gt gts ge ds e >>= λys=>.ok (y::ys)) >>= _);cases toD r with
      | bad=>rfl
      | exc z=>rfl
      | ok y=>
       have ih:=vF gt gts ge ds e λys=>k (y::ys);show ((bW gt gts (gR ge) ds e >>= λz=>.ok ([y]++z.1,z.2)) >>= λr=>k r.1)=((fJ gt gts ge ds e >>= λys=>M.ok (y::ys)) >>= k);have e1:((bW gt gts (gR ge) ds e >>= λz=>M.ok ([y]++z.1,z.2)) >>= λr=>k r.1)=(bW gt gts (gR ge) ds e >>= λr=>k (y::r.1)):=by cases bW gt gts (gR ge) ds e <;> rfl
       have e2:((fJ gt gts ge ds e >>= λys=>M.ok (y::ys)) >>= k)=(fJ gt gts ge ds e >>= λys=>k (y::ys)):=by cases fJ gt gts ge ds e <;> rfl
       rw [e1,e2,ih]
theorem JN (n:Nat) (cap:List Nat) (gi:G (List D)) (gt:GT) (gts:G Bool) (ge:G R):cB n cap gi gt gts ge=jw sizeLine n cap gi gt gts (gR ge) (λys=>.ok (.l .fresh ys)):=by
 funext env;unfold cB jw;cases gi env with
 | bad=>rfl
 | exc z=>rfl
 | ok ds=>
  show (if ds.length<=sizeLine then _ else _)=(if ds.length<=sizeLine then _ else _);by_cases c:ds.length<=sizeLine
  ·rw [if_pos c,if_pos c];exact (vF gt gts ge ds _ λys=>.ok (.l .fresh ys)).symm
  ·rw [if_neg c,if_neg c]
section
variable {X:Cx}{c:C}
theorem i9 (own:List Str) (cap:List Nat){elt T_ Ua:U_}{ifs:List U_}{T8:X0}{pos:Pos}{gi:G (List D)}{gt:GT}{gts:G Bool}{ge:G R}(hi:wD X c T_ Ua gi)
  (hbody:∀(cl:List (Str×UL)) (C:UL) (s:Um) (H:Hp) (fp:List UL),d9 X.env.cells T8.names []=some cl->pZ (cZ X own cap T8 cl C s H fp) c T_ gt/\pY (cZ X own cap T8 cl C s H fp) c ifs gts/\QD (cZ X own cap T8 cl C s H fp) c elt ge) (a:AS X T8 cap Ua:=by exact wL rfl):qN X c (.ListComp elt [⟨T_,Ua,ifs,0⟩] T8 pos) (cB own.length cap gi gt gts ge):=by
 refine ⟨_,?_,rfl,λ_=>rfl⟩;rw [JN];refine nY (e:=.ListComp elt [⟨T_,Ua,ifs,0⟩] T8 pos) (ob:={cls:=.type "list",dict:=none,data:=.seq ([]:List Uk).toArray}) (o0:=λ_=>.lst []) (Acc:=Cn c) (N:=1) (lim:=sizeLine) (m:=λp env=>do let _ <-call (.builtin "list.append") [.ref p,<-eval elt env]) own cap rfl hi.h
  (λs Q E q=>UU q) (λh H=>⟨UX _,[],0,.nil,Us _ rfl⟩) (λp=>sV) (λp J H _ h1 h2=>⟨[],h1,h2,.nil⟩) (by rw [Nat.mul_one];exact Uw _) (λit p env=>CW (compTurn_list ..)) (λit acc env R s h0 h=>aaO h0 h) (λys z q=>by cases q)
  (fun {p J H J' H' ys r} hp e ⟨us,h1,h2,h3⟩ q=>by cases q;exact ⟨J',e,⟨p,us,rfl,h1,h2,hp,h3⟩⟩) (λcl C s H fp hcc=>?_) a
 obtain ⟨b1,b2,b3⟩:=hbody cl C s H fp hcc;exact ⟨b1.h,b2.h,λp J2 H2 hp2 hp0=>A7 (λ_ _ f=>f) hp2 hp0 b3.h⟩
end
end DL
namespace K23
open PySem DL
def uh:List Str:=["world","many","marks","arrows"]
noncomputable def uO:G O:=(aH (tF (dG 3 (bz (aD 1) (bz (aD 2) (bz (aD 3) dR)))) (af 0))
 (br (bB (az (gN dF (ao (cB 2 [] (jL (af 2)) (dG 2 (bz (aD 0) (bz (aD 1) dR))) dY (af 0)) aC)) (az (gN dF (ao (cB 2 [] (jL (af 3)) (dG 2 (bz (aD 0) (bz (aD 1) dR))) dY (af 0)) aC)) aP)))))
def jq (as:List S):M R:=fin (uO (aW uh as))
def pX:List Str:=["one","other"]
def qo:G O:=(bJ (bw (g2 (bX true) (gN (aO 1 K23.jq) (ao (af 0) aC)) (gN (aO 1 K23.jq) (ao (af 1) aC)))) yh cK)
def jo (as:List S):M R:=fin (qo (aW pX as))
def k_:List Str:=["worlds","world"]
def lE:G O:=(cu (fO (af 0)) (aD 1) (bJ (bw (g2 (qd λi j=>.bl (decide (j < i))) (g2 aY (af 1) (gC (.int 0))) (gC (.int 4)))) yh cK))
def f6 (as:List S):M R:=fin (lE (aW k_ as))
def rW:List Str:=["one","other"]
noncomputable def sF:G O:=(aH (iP (gN (aO 2 K23.jo) (ao (af 0) (ao (af 1) aC))))
 (iP (gN (aO 1 K23.f6) (ao (bB (az (af 0) (az (af 1) aP))) aC))))
def dh (as:List S):M R:=fin (sF (aW rW as))
def A1:List Str:=["pairs"]
noncomputable def Bu:G O:=(aH (bJ (bw (g2 (iL false) (af 0) (gC .non))) (br (bB aP)) cK)
 (br (gN dF (ao (gN zw (ao (af 0) aC)) aC))))
def c7 (as:List S):M R:=fin (Bu (aW A1 as))
def Il:List Str:=["world","one","other","many","marks","arrows","bearing","leading"]
noncomputable def IK:G O:=(aH (tF (dG 3 (bz (aD 3) (bz (aD 4) (bz (aD 5) dR)))) (af 0))
 (aH (bf 6 (gN dF (ao (cB 2 [1] (jL (af 4)) (dG 2 (bz (aD 0) (bz (aD 1) dR))) dY (g2 (fH false) (af 2) (af 1))) aC)))
 (aH (bf 7 (gN dF (ao (cB 2 [1,2] (jL (af 5)) (dG 2 (bz (aD 0) (bz (aD 1) dR))) dY (g2 (fH false) (bB (az (af 2) (az (af 3) aP))) (af 1))) aC)))
 (br (bB (az (g2 (bX false) (af 1) (af 2)) (az (af 6) (az (af 7) aP))))))))
def yd (as:List S):M R:=fin (IK (aW Il as))
def DP:List Str:=["world"]
noncomputable def EB:G O:=(br (Br 2 [0] (b9 (ao (g2 aY (af 0) (gC (.int 0))) aC)) (aD 0) dY (b9 (ao (g2 aY (af 2) (gC (.int 0))) aC)) (aD 1) dY (bB (az (af 0) (az (af 1) aP))) (gN (aO 3 K23.yd) (ao (af 2) (ao (af 0) (ao (af 1) aC))))))
def pQ (as:List S):M R:=fin (EB (aW DP as))
def DO:List Str:=["first","second","pair","again"]
noncomputable def Ez:G O:=(br (g2 (bX false) (g2 iT (af 0) (bB (az (g2 aY (af 2) (gC (.int 0))) (az (g2 aY (af 3) (gC (.int 0))) aP)))) (g2 iT (af 1) (bB (az (g2 aY (af 2) (gC (.int 1))) (az (g2 aY (af 3) (gC (.int 1))) aP))))))
def fq (as:List S):M R:=fin (Ez (aW DO as))
def pV:List Str:=["first","second","pairing","pair","again"]
noncomputable def qm:G O:=(aH (bJ (iU (tK (af 2)) (bw (g2 zo (af 3) (g2 aY (af 2) (vK (gC (.int 1))))))) (br (gC (.bl false))) cK)
 (aH (cu (fO (af 2)) (aD 4) (bJ (j3 (gM (bw (gN (aO 4 K23.fq) (ao (af 0) (ao (af 1) (ao (af 3) (ao (af 4) aC))))))) (gM (bw (gN (aO 4 K23.fq) (ao (af 0) (ao (af 1) (ao (af 4) (ao (af 3) aC)))))))) (br (gC (.bl false))) cK))
 (br (gC (.bl true)))))
def jn (as:List S):M R:=fin (qm (aW pV as))
def wC:List Str:=["one","other","most","first","second","pairs","longest","told","step"]
noncomputable def wW:G O:=(aH (iP (gN (aO 2 K23.dh) (ao (af 0) (ao (af 1) aC))))
 (aH (iP (gN (aO 3 K55.dg) (ao (af 2) (ao (gC (.int 0)) (ao (gC (.int 4)) aC)))))
 (aH (bf 3 (gN (aO 1 K23.pQ) (ao (af 0) aC)))
 (aH (bf 4 (gN (aO 1 K23.pQ) (ao (af 1) aC)))
 (aH (bf 5 (uJ 2 [1,3,4] (b9 (ao (g2 aY (af 0) (gC (.int 0))) aC)) (aD 0) dY (b9 (ao (g2 aY (af 2) (gC (.int 0))) aC)) (aD 1) (bw (gN (aO 4 K23.fq) (ao (af 3) (ao (af 4) (ao (bB (az (af 0) (az (af 1) aP))) (ao (bB (az (af 0) (az (af 1) aP))) aC)))))) (bB (az (af 0) (az (af 1) aP)))))
 (aH (fF 5 (bf 6 (c5 (az (bB aP) aP))))
 (aH (bf 7 (c5 (az (bB aP) aP)))
 (aH (cu (b9 (ao (af 2) aC)) (aD 8) (aH (fF 5 (bf 6 (uJ 2 [5,3,4] (jL (af 6)) (aD 0) dY (fO (af 2)) (aD 1) (bw (gN (aO 4 K23.jn) (ao (af 3) (ao (af 4) (ao (af 0) (ao (af 1) aC)))))) (g2 bY (af 0) (bB (az (af 1) aP))))))
 (vJ 7 (af 6))))
 (br (af 7))))))))))
def lR (as:List S):M R:=fin (wW (aW wC as))
end K23
namespace K23
open PySem DL K01 WP K51 K52 K55
section
variable {α β:Type}
theorem Iv {gts:G Bool}{act:Ev->M (List D×Ev)}{h':β->D}{rest:Ev}(p:β->Bool) (f:β->D):∀(ys:List β),(∀y∈ys,gts (a0::some (.d (h' y))::rest)=.ok (p y)/\(p y=true->act (a0::some (.d (h' y))::rest)=.ok ([f y],a0::some (.d (h' y))::rest)))->
  ∀z:Option S,∃z',bW (aD 1) gts act (ys.map h') (a0::z::rest)=.ok ((ys.filter p).map f,a0::z'::rest)
 | [],_,z=>⟨z,rfl⟩
 | y::ys,H,z=>by
  obtain ⟨h1,h2⟩:=H y Uv;obtain ⟨z',ih⟩:=Iv p f ys (λy hy=>H y (Uu _ hy)) (some (.d (h' y)));refine ⟨z',?_⟩;rw [UH];unfold bW;show (gts (a0::some (.d (h' y))::rest) >>= λk=>if k=true then act (a0::some (.d (h' y))::rest) >>= λr=>bW (aD 1) gts act (ys.map h') r.2 >>= λz=>.ok (r.1++z.1,z.2) else bW (aD 1) gts act (ys.map h') (a0::some (.d (h' y))::rest))=_;rw [h1,aQ];cases q:p y with
  | true=>
   rw [if_pos rfl,h2 q,aQ];show (bW (aD 1) gts act (ys.map h') (a0::some (.d (h' y))::rest) >>= _)=_;rw [ih,aQ,YN q];rfl
  | false=>
   rw [if_neg (by decide),ih,YO (by simp [q])]
theorem Ei {gi1:G (List D)}{gts:G Bool}{act:Ev->M (List D×Ev)}{h:α->D}{h':β->D}{rest:Ev}(ys:α->List β) (p:α->β->Bool) (f:α->β->D):∀(xs:List α),(∀x∈xs,(ys x).length<=1000/\(∀z:Option S,gi1 (some (.d (h x))::z::rest)=.ok ((ys x).map h'))/\∀y∈ys x,gts (some (.d (h x))::some (.d (h' y))::rest)=.ok (p x y)/\(p x y=true->act (some (.d (h x))::some (.d (h' y))::rest)=.ok ([f x y],some (.d (h x))::some (.d (h' y))::rest)))->
  ∀z0 z:Option S,∃z0' z',bW (aD 0) dY (jr gi1 (aD 1) gts act) (xs.map h) (z0::z::rest)=.ok (xs.flatMap λx=>((ys x).filter (p x)).map (f x),z0'::z'::rest)
 | [],_,z0,z=>⟨z0,z,rfl⟩
 | x::xs,H,z0,z=>by obtain ⟨h1,h2,h3⟩:=H x Uv;obtain ⟨z1,e1⟩:=Iv (a0:=some (.d (h x))) (p x) (f x) (ys x) h3 z;obtain ⟨z0',z',ih⟩:=Ei ys p f xs (λy hy=>H y (Uu _ hy)) (some (.d (h x))) z1;refine ⟨z0',z',?_⟩;rw [UH];unfold bW;show (jr gi1 (aD 1) gts act (some (.d (h x))::z::rest) >>= _)=_;unfold jr;rw [h2 z,aQ,if_pos (by rw [Uo];exact h1),e1,aQ];show (bW (aD 0) dY (jr gi1 (aD 1) gts act) (xs.map h) (some (.d (h x))::z1::rest) >>= _)=_;rw [ih];rfl
theorem CB {gi0 gi1:G (List D)}{gts:G Bool}{act:Ev->M (List D×Ev)}{fin:List D->M R}{h:α->D}{h':β->D}{xs:List α}(ys:α->List β) (p:α->β->Bool) (f:α->β->D) (hi:gi0 env=.ok (xs.map h)) (hl:xs.length<=10000)
 (H:∀x∈xs,(ys x).length<=1000/\(∀z:Option S,gi1 (some (.d (h x))::z::cE 0 cap env)=.ok ((ys x).map h'))/\∀y∈ys x,gts (some (.d (h x))::some (.d (h' y))::cE 0 cap env)=.ok (p x y)/\(p x y=true->act (some (.d (h x))::some (.d (h' y))::cE 0 cap env)=.ok ([f x y],some (.d (h x))::some (.d (h' y))::cE 0 cap env))):
  jw 10000 2 cap gi0 (aD 0) dY (jr gi1 (aD 1) gts act) fin env=fin (xs.flatMap λx=>((ys x).filter (p x)).map (f x)):=by unfold jw;rw [hi,aQ,if_pos (by rw [Uo];exact hl)];obtain ⟨z0',z',e⟩:=Ei ys p f xs H none none;show (bW (aD 0) dY (jr gi1 (aD 1) gts act) (xs.map h) (none::none::cE 0 cap env) >>= _)=_;rw [e];rfl
theorem A5 {ge:G R}(h:ge env=.ok r) (h2:toD r=.ok d):gR ge env=.ok ([d],env):=by unfold gR;rw [h,aQ,h2];rfl
theorem A6 {gk gv:G R}(h:gk env=.ok r) (h2:toD r=.ok k) (h3:gv env=.ok r2) (h4:toD r2=.ok d) (ok:dQ k=true):sW gk gv env=.ok ([.tup [k,d]],env):=by unfold sW;rw [h,aQ,h2,aQ,h3,aQ,h4,aQ,if_pos ok]
end
noncomputable def fh (u:Wd) (a c:Nat):D:=.tup [.bl (bh (dN a) (dN c)),.tup (u.ms.map λr=>.bl (inD (dN a) (r.2.map dN))),.tup (u.ar.map λr=>.bl (inD (dP (a,c)) (r.2.map dP)))]
theorem Lx (u:Wd) (hu:A4 u) (a c:Nat):yd [.d u.d,.d (dN a),.d (dN c)]=.ok (.d (fh u a c)):=by have ml:=hu.ml;have al:=hu.al;refine cg (Dn rfl rfl rfl ?_);refine bC (n1 (uA (xs:=u.ms) (λr=>.str r.1) (λr=>.tup (r.2.map dN)) (λr=>.bl (inD (dN a) (r.2.map dN))) rfl (by omega) λr _=>⟨_,two rfl rfl (PR a r.2),rfl⟩) rfl) rfl ?_;refine bC (n1 (uA (xs:=u.ar) (λr=>.str r.1) (λr=>.tup (r.2.map dP)) (λr=>.bl (inD (dP (a,c)) (r.2.map dP))) rfl (by omega) λr _=>⟨_,two (bD (aL rfl rfl (aL rfl rfl bg)) t2) rfl (Mj (a,c) r.2),rfl⟩) rfl) rfl ?_;exact bE (bD (aL rfl rfl (aL rfl rfl (aL rfl rfl bg))) (by show 3<=1000;decide)) rfl rfl
def fN (m n:Nat):List (Nat×Nat):=(Ur m).flatMap λa=>(Ur n).map λb=>(a,b)
theorem oB {p:Nat×Nat}:p∈fN m n↔p.1 < m/\p.2 < n:=by
 unfold fN;simp only [Zs,UP,UD];constructor
 ·rintro ⟨a,ha,b,hb,rfl⟩;exact ⟨ha,hb⟩
 ·rintro ⟨h1,h2⟩;exact ⟨p.1,h1,p.2,h2,rfl⟩
theorem uV (m n:Nat):(fN m n).Nodup:=by unfold fN;refine aa7.mpr ⟨λa _=>Vu.mpr (acA (λh e=>h (by cases e;rfl)) (W9 (n:=n))),?_⟩;refine acA ?_ (W9 (n:=m));intro a b hab p h1 q h2 e;subst e;obtain ⟨x,_,rfl⟩:=UD.mp h1;obtain ⟨y,_,e⟩:=UD.mp h2;cases e;exact hab rfl
theorem GQ (m n:Nat):(fN m n).length=m * n:=by
 induction m with
 | zero=>simp [fN]
 | succ m ih=>
  unfold fN at ih ⊢;rw [Xw,ZN,UI,ih,adu];simp
theorem J_ (h:∀x∈ks,bh x k=false):gz ks vs k=none:=by
 induction ks generalizing vs with
 | nil=>cases vs <;> rfl
 | cons x ks ih=>
  cases vs with
  | nil=>rfl
  | cons v vs=>
   unfold gz;rw [h x Uv,if_neg (by decide)];exact ih λy hy=>h y (Uu _ hy)
theorem wN (f:Nat×Nat->D):∀(n:Nat) (ps:List (Nat×Nat)),ps.length=n->ps.Nodup->jG (ps.map λp=>D.tup [dP p,f p])=(ps.map dP,ps.map f)
 | 0,ps,h,_=>by have:=WT.mp h;subst this;rfl
 | n + 1,ps,h,nd=>by
  rcases Wh ps with rfl | ⟨qs,p,rfl⟩
  ·cases h
  ·rw [Wi] at h nd ⊢;have nd':=Wx.mp nd;have ih:=wN f n qs (by simpa using h) nd'.1;have hn:gz (qs.map dP) (qs.map f) (dP p)=none:=J_ λx hx=>by obtain ⟨q,hq,rfl⟩:=UD.mp hx;rw [Bm,decide_eq_false_iff_not];rintro rfl;exact nd'.2.2 q hq q Uv rfl
   rw [UN,List.map_singleton,nZ,ih];unfold dput;rw [hn];simp
abbrev iE (u:Wd):List D:=(fN u.m u.m).map dP
abbrev iF (u:Wd):List D:=(fN u.m u.m).map λp=>fh u p.1 p.2
theorem AX (u:Wd) (hu:A4 u):pQ [.d u.d]=.ok (.d (.dct (iE u) (iF u))):=by
 have hi:=hu.hi;refine cg (bE (r:=.d (.dct (iE u) (iF u))) ?_ rfl rfl);refine (CB (xs:=Ur u.m) (h:=dN) (h':=dN) (λ_=>Ur u.m) (λ_ _=>true) (λa b=>.tup [dP (a,b),fh u a b]) ?_ (by simp;omega) λa _=>⟨by simp;omega,λz=>?_,λb _=>⟨rfl,λ_=>A6 (bD (aL rfl rfl (aL rfl rfl bg)) t2) rfl (c3 rfl rfl rfl (Lx u hu a b)) rfl rfl⟩⟩).trans ?_
 ·exact mP (cT (two rfl rfl (fP _ _))) (by omega)
 ·exact mP (cT (two rfl rfl (fP _ _))) (by omega)
 ·have ef:(Ur u.m).filter (λ_=>true)=Ur u.m:=ZK.mpr λ_ _=>rfl;have e:((Ur u.m).flatMap λa=>((Ur u.m).filter λ_=>true).map λb=>D.tup [dP (a,b),fh u a b])=(fN u.m u.m).map λp=>D.tup [dP p,fh u p.1 p.2]:=by rw [ef];unfold fN;rw [Zt];simp [Vn,aak]
  rw [e];have h:=wN (λp=>fh u p.1 p.2) _ (fN u.m u.m) rfl (uV _ _);show M.ok (R.d (.dct (jG ((fN u.m u.m).map λp=>D.tup [dP p,fh u p.1 p.2])).1 (jG ((fN u.m u.m).map λp=>D.tup [dP p,fh u p.1 p.2])).2))=_;rw [h]
theorem BE (u:Wd):∀(ps:List (Nat×Nat)) (p:Nat×Nat),p∈ps->gz (ps.map dP) (ps.map λp=>fh u p.1 p.2) (dP p)=some (fh u p.1 p.2)
 | q::ps,p,h=>by
  rw [UH,UH];unfold gz;by_cases c:q=p
  ·subst c;rw [if_pos (by rw [Bm];simp)]
  ·rw [if_neg (by rw [Bm];simpa using c)];rcases UK.mp h with e | e
   ·exact absurd e.symm c
   ·exact BE u ps p e
theorem zh (u:Wd) (a c:Nat) (ha:a < u.m) (hc:c < u.m):iT (.d (.dct (iE u) (iF u))) (.d (dP (a,c)))=.ok (.d (fh u a c)):=by
 show (if dQ (dP (a,c))=true then (match gz (iE u) (iF u) (dP (a,c)) with
  | some d=>M.ok (R.d d)
  | none=>.bad) else .bad)=_
 rw [if_pos (show dQ (dP (a,c))=true from rfl),BE u (fN u.m u.m) (a,c) (oB.mpr ⟨ha,hc⟩)]
theorem Ax (u:Wd) (a c:Nat):dep (fh u a c)<=60:=by
 have h1:deps (u.ms.map λr=>D.bl (inD (dN a) (r.2.map dN)))<=0:=gJ λx hx=>by obtain ⟨r,_,rfl⟩:=UD.mp hx;exact UX _
 have h2:deps (u.ar.map λr=>D.bl (inD (dP (a,c)) (r.2.map dP)))<=0:=gJ λx hx=>by obtain ⟨r,_,rfl⟩:=UD.mp hx;exact UX _
 unfold fh;simp only [dep,deps];omega
def i7 (v w:Wd) (p q:Nat×Nat):Bool:=bh (fh v p.1 q.1) (fh w p.2 q.2)
def jY (v w:Wd) (p:Nat×Nat):Prop:=p.1 < v.m/\p.2 < w.m
theorem vj (v w:Wd) (p q:Nat×Nat) (hp:jY v w p) (hq:jY v w q):fq [.d (.dct (iE v) (iF v)),.d (.dct (iE w) (iF w)),.d (dP p),.d (dP q)]=.ok (.d (.bl (i7 v w p q))):=by refine cg (bE (two (x:=.d (fh v p.1 q.1)) (y:=.d (fh w p.2 q.2)) (two rfl (bD (aL (two rfl rfl (fP _ _)) rfl (aL (two rfl rfl (fP _ _)) rfl bg)) t2) (zh v p.1 q.1 hp.1 hq.1)) (two rfl (bD (aL (two rfl rfl (EJ _ _ _)) rfl (aL (two rfl rfl (EJ _ _ _)) rfl bg)) t2) (zh w p.2 q.2 hp.2 hq.2)) (qT _ _ _ (Ax v p.1 q.1) (Ax w p.2 q.2))) rfl rfl)
def sG (p q:Nat×Nat):Bool:=lexLe [p.1,p.2] [q.1,q.2]
theorem Qv (p q:Nat×Nat):zo (.d (dP p)) (.d (dP q))=.ok (.d (.bl (sG p q))):=rfl
noncomputable def gb (v w:Wd) (ps:List (Nat×Nat)) (q:Nat×Nat):Bool:=(match ps.getLast? with
 | some l=>!sG q l
 | none=>true) && ps.all λr=>i7 v w q r && i7 v w r q
theorem iI {g:G R}(h:g env=.ok (.d (.bl b))):bw g env=.ok b:=by show (g env >>= _)=_;rw [h];rfl
theorem fW {g:G R}(h:g env=.ok (nj (.d (.bl b)))):bw g env=.ok b:=iI h
theorem bH {f:R->R->M R}{g h:G R}(hx:g env=.ok x) (hy:h env=.ok y) (hf:f x y=.ok (.d (.bl b))):bw (g2 f g h) env=.ok b:=iI (two hx hy hf)
theorem iy {g:G Bool}(h:g env=.ok b):gM g env=.ok (!b):=by show (g env >>= _)=_;rw [h];rfl
theorem gS {a b:G Bool}(h:a env=.ok false):iU a b env=.ok false:=by unfold iU;rw [h];rfl
theorem fj {a b:G Bool}(h:a env=.ok true) (h2:b env=.ok k):iU a b env=.ok k:=by unfold iU;rw [h];exact h2
theorem M3 {a b:G Bool}(h:a env=.ok (!x)) (h2:b env=.ok (!y)):j3 a b env=.ok (!(x && y)):=by
 unfold j3;rw [h];cases x with
 | true=>exact h2
 | false=>rfl
theorem Po (v w:Wd) (ps:List (Nat×Nat)) (q:Nat×Nat) (hp:∀p∈ps,jY v w p) (hq:jY v w q):jn [.d (.dct (iE v) (iF v)),.d (.dct (iE w) (iF w)),.d (.tup (ps.map dP)),.d (dP q)]=.ok (.d (.bl (gb v w ps q))):=by
 have loop:(match ps.getLast? with
   | some l=>!sG q l
   | none=>true)=true->Wp (aH (cu (fO (af 2)) (aD 4) (bJ (j3 (gM (bw (gN (aO 4 K23.fq) (ao (af 0) (ao (af 1) (ao (af 3) (ao (af 4) aC))))))) (gM (bw (gN (aO 4 K23.fq) (ao (af 0) (ao (af 1) (ao (af 4) (ao (af 3) aC)))))))) (br (gC (.bl false))) cK))
 (br (gC (.bl true))) [some (.d (.dct (iE v) (iF v))),some (.d (.dct (iE w) (iF w))),some (.d (.tup (ps.map dP))),some (.d (dP q)),none]) (·=.rt (.d (.bl (gb v w ps q)))):=by
  intro hl;refine eX (ds:=ps.map dP) rfl ?_;have key:∀(rs:List (Nat×Nat)),(∀p∈rs,jY v w p)->∀x:Option S,Wp (ff (aD 4) (bJ (j3 (gM (bw (gN (aO 4 K23.fq) (ao (af 0) (ao (af 1) (ao (af 3) (ao (af 4) aC))))))) (gM (bw (gN (aO 4 K23.fq) (ao (af 0) (ao (af 1) (ao (af 4) (ao (af 3) aC)))))))) (br (gC (.bl false))) cK) (rs.map dP) [some (.d (.dct (iE v) (iF v))),some (.d (.dct (iE w) (iF w))),some (.d (.tup (ps.map dP))),some (.d (dP q)),x])
    (λo=>((∃e,o=.nx e)/\(rs.all λr=>i7 v w q r && i7 v w r q)=true)\/(o=.rt (.d (.bl false))/\(rs.all λr=>i7 v w q r && i7 v w r q)=false)):=by
   intro rs
   induction rs with
   | nil=>intro _ x;exact ⟨_,rfl,.inl ⟨⟨_,rfl⟩,rfl⟩⟩
   | cons r rs ih=>
    intro hr x;have h1:=vj v w q r hq (hr r Uv);have h2:=vj v w r q (hr r Uv) hq;have ht:(j3 (gM (bw (gN (aO 4 K23.fq) (ao (af 0) (ao (af 1) (ao (af 3) (ao (af 4) aC))))))) (gM (bw (gN (aO 4 K23.fq) (ao (af 0) (ao (af 1) (ao (af 4) (ao (af 3) aC)))))))) [some (.d (.dct (iE v) (iF v))),some (.d (.dct (iE w) (iF w))),some (.d (.tup (ps.map dP))),some (.d (dP q)),some (.d (dP r))]=.ok (!(i7 v w q r && i7 v w r q)):=M3 (iy (fW (c4 rfl rfl rfl rfl h1))) (iy (fW (c4 rfl rfl rfl rfl h2)));rw [UH,XH];unfold ff;show Wp ((bJ _ _ _ [some (.d (.dct (iE v) (iF v))),some (.d (.dct (iE w) (iF w))),some (.d (.tup (ps.map dP))),some (.d (dP q)),some (.d (dP r))]) >>= _) _;cases hc:(i7 v w q r && i7 v w r q) with
    | true=>
     rw [hc] at ht;rw [jy ht];exact ih (λp hp=>hr p (Uu _ hp)) _
    | false=>
     rw [hc] at ht;rw [jb ht];exact ⟨_,rfl,.inr ⟨rfl,rfl⟩⟩
  refine (key ps hp none).mono ?_;rintro o (⟨⟨e,rfl⟩,h⟩ | ⟨rfl,h⟩)
  ·refine bE rfl rfl ?_;unfold gb;rw [hl,h];rfl
  ·show O.rt _=_;unfold gb;rw [h,XS]
 refine cg ?_;cases q':ps.getLast? with
 | none=>
  have:ps=[]:=Z_.mp q';subst this;exact gA (gS rfl) (loop rfl)
 | some l=>
  obtain ⟨rs,rfl⟩:∃rs,ps=rs++[l]:=by
   rcases Wh ps with rfl | ⟨ys,y,rfl⟩
   ·cases q'
   ·rw [Wi] at q' ⊢;rw [Yn] at q';cases q';exact ⟨ys,rfl⟩
  have hix:aY (.d (.tup ((rs++[l]).map dP))) (.d (.int (-1)))=.ok (.d (dP l)):=by rw [UN];exact Bx _ _
  have ht:iU (tK (af 2)) (bw (g2 zo (af 3) (g2 aY (af 2) (vK (gC (.int 1)))))) [some (.d (.dct (iE v) (iF v))),some (.d (.dct (iE w) (iF w))),some (.d (.tup ((rs++[l]).map dP))),some (.d (dP q)),none]=.ok (sG q l):=by refine fj ?_ (iI (two rfl (two rfl rfl hix) (Qv q l)));show M.ok (!((rs++[l]).map dP).isEmpty)=_;simp
  cases hc:sG q l with
  | true=>
   rw [hc] at ht;refine b_ (ow ht (bE rfl rfl ?_));show O.rt _=_;unfold gb;rw [q'];simp [hc]
  | false=>
   rw [hc] at ht;exact gA ht (loop (by rw [q'];simp [hc]))
section
variable {env:Ev}{Q:O->Prop}{g:G R}{t:G O}{r:R}{i:Nat}
theorem CQ {xs ys:List D}(h0:env[i]?=some (some (.own xs))) (h:g env=.ok r) (h2:iK r=.ok ys) (hl:xs.length + ys.length<=16777216) (k:Q (.nx (env.set i (some (.own (xs++ys)))))):Wp (vJ i g env) Q:=by refine ⟨_,?_,k⟩;unfold vJ;rw [h0];show (g env >>= _)=_;rw [h,aQ,h2,aQ,if_pos (by rw [Wo];exact hl)]
theorem MG (h:g env=.ok r) (k:Q (.nx env)):Wp (iP g env) Q:=⟨.nx env,by show (g env >>= _)=_;rw [h];rfl,k⟩
theorem F2 (h:env[i]?=some (some (.d d))) (k:Wp (t env) Q):Wp (fF i t env) Q:=by
 have:fF i t env=t env:=by unfold fF;rw [h]
 rw [this];exact k
theorem NZ (h:env[i]?=some none) (k:Wp (t env) Q):Wp (fF i t env) Q:=by
 have:fF i t env=t env:=by unfold fF;rw [h]
 rw [this];exact k
end
structure Pr (v w:Wd):Prop where
 vo:A4 v
 wo:A4 w
 v4:v.m<=4
 w4:w.m<=4
 mn:v.ms.map Ve=w.ms.map Ve
 an:v.ar.map Ve=w.ar.map Ve
def jT (u:Wd):D:=.tup [.tup ((u.ms.map Ve).map .str),.tup ((u.ar.map Ve).map .str)]
theorem yx (u:Wd) (hu:A4 u):jq [.d u.d]=.ok (.d (jT u)):=by have ml:=hu.ml;have al:=hu.al;refine cg (Dn rfl rfl rfl (bE (bD (aL (n1 (uA (xs:=u.ms) (λr=>.str r.1) (λr=>.tup (r.2.map dN)) (λr=>.str r.1) rfl (by omega) λr _=>⟨_,rfl,rfl⟩) rfl) rfl (aL (n1 (uA (xs:=u.ar) (λr=>.str r.1) (λr=>.tup (r.2.map dP)) (λr=>.str r.1) rfl (by omega) λr _=>⟨_,rfl,rfl⟩) rfl) rfl bg)) t2) rfl ?_));unfold jT;rw [Vn,Vn];rfl
theorem BY (u:Wd):dep (jT u)<=60:=by
 have h:∀ss:List Str,deps (ss.map D.str)<=0:=λss=>gJ λx hx=>by obtain ⟨r,_,rfl⟩:=UD.mp hx;exact UX _
 have h1:=h (u.ms.map Ve);have h2:=h (u.ar.map Ve);unfold jT;simp only [dep,deps];omega
theorem ic {v w:Wd}(t:Pr v w):dh [.d v.d,.d w.d]=.ok (.d .non):=by
 have ht:jo [.d v.d,.d w.d]=.ok (.d .non):=by
  refine qL (vP (bH (b:=false) (c1 rfl (yx v t.vo)) (c1 rfl (yx w t.wo)) ?_) (fQ ⟨_,rfl⟩));show bX true (.d (jT v)) (.d (jT w))=_;rw [qT true (.d (jT v)) (.d (jT w)) (BY v) (BY w)];have e:jT v=jT w:=by unfold jT;rw [t.mn,t.an]
  show M.ok (R.d (.bl (!bh (jT v) (jT w))))=_;rw [e,gU];rfl
 have hf:f6 [.d (.tup [v.d,w.d])]=.ok (.d .non):=by
  have v4:=t.v4;have w4:=t.w4;have one:∀(u:Wd),u.m<=4->bw (g2 (qd λi j=>.bl (decide (j < i))) (g2 aY (af 1) (gC (.int 0))) (gC (.int 4))) [some (.d (.tup [v.d,w.d])),some (.d u.d)]=.ok false:=λu hu=>by refine bH (two rfl rfl (fP _ _)) rfl ?_;show M.ok (R.d (.bl (decide ((4:Int) < (u.m:Int)))))=_;rw [decide_eq_false (by omega)]
  refine qL (mz (ds:=[v.d,w.d]) rfl (kc (λk env=>∃x,env=[some (.d (.tup [v.d,w.d])),x]) [v.d,w.d] ⟨none,rfl⟩ ?_ λe _=>⟨e,rfl⟩));rintro k hk _ ⟨x,rfl⟩
  match k,hk with
  | 0,_=>exact ⟨_,rfl,vP (one v v4) (fQ ⟨_,rfl,_,rfl⟩)⟩
  | 1,_=>exact ⟨_,rfl,vP (one w w4) (fQ ⟨_,rfl,_,rfl⟩)⟩
 refine qL (i_ (c2 rfl rfl ht) ?_);exact MG (c1 (bD (aL rfl rfl (aL rfl rfl bg)) t2) hf) ⟨_,rfl⟩
theorem N4 (d:Nat) (hd:d<=4):K55.dg [.d (.int d),.d (.int 0),.d (.int 4)]=.ok (.d .non):=by refine qL (vP ?_ (fQ ⟨_,rfl⟩));show (if decide ((d:Int) < 0)=true then M.ok true else M.ok (decide ((4:Int) < d)))=M.ok false;rw [decide_eq_false (show ¬(d:Int) < 0 by omega),decide_eq_false (show ¬(4:Int) < d by omega)];rfl
def prs (v w:Wd):List (Nat×Nat):=(fN v.m w.m).filter λp=>i7 v w p p
noncomputable def LG (v w:Wd):Nat->List (List (Nat×Nat))
 | 0=>[[]]
 | j + 1=>(LG v w j).flatMap λah=>((prs v w).filter (gb v w ah)).map λq=>ah++[q]
noncomputable def told (v w:Wd):Nat->List (List (Nat×Nat))
 | 0=>[[]]
 | j + 1=>told v w j++LG v w (j + 1)
abbrev aS (ps:List (Nat×Nat)):D:=.tup (ps.map dP)
theorem Fd (h:p∈prs v w):jY v w p:=oB.mp (VE.mp h).1
theorem BK (t:Pr v w):(prs v w).length<=16:=by have h1:=VR (λp=>i7 v w p p) (fN v.m w.m);rw [GQ] at h1;have h2:=XU t.v4 t.w4;unfold prs;omega
theorem nT:∀(j:Nat){ps:List (Nat×Nat)},ps∈LG v w j->ps.length=j/\∀p∈ps,jY v w p
 | 0,ps,h=>by rw [show ps=[] from Uz.mp h];exact ⟨rfl,λ_ h=>by cases h⟩
 | j + 1,ps,h=>by
  obtain ⟨ah,h1,h2⟩:=Zs.mp h;obtain ⟨q,h3,rfl⟩:=UD.mp h2;obtain ⟨l,k⟩:=nT j h1;refine ⟨by rw [UI,l];rfl,λp hp=>?_⟩;rcases US.mp hp with h | h
  ·exact k p h
  ·rw [Uz.mp h];exact Fd (VE.mp h3).1
theorem oj {α β:Type}(f:α->List β) (n:Nat):∀(xs:List α),(∀x∈xs,(f x).length<=n)->(xs.flatMap f).length<=xs.length * n
 | [],_=>by simp
 | x::xs,h=>by have h1:=h x Uv;have h2:=oj f n xs λy hy=>h y (Uu _ hy);rw [List.flatMap_cons,UI,VG,adu];omega
theorem k9 (t:Pr v w):∀j,(LG v w j).length<=16 ^ j
 | 0=>Uw _
 | j + 1=>by
  have h:=oj (λah=>((prs v w).filter (gb v w ah)).map λq=>ah++[q]) 16 (LG v w j) λah _=>by rw [Uo];exact U1 (VR _ _) (BK t)
  have h2:=WL 16 (k9 t j);rw [acJ];exact U1 h h2
theorem oV (t:Pr v w):∀j,j<=4->(told v w j).length<=(j + 1) * 65536
 | 0,_=>by show 1<=_;omega
 | j + 1,h=>by
  have h1:=oV t j (by omega);have h2:=k9 t (j + 1);have h3:(16:Nat) ^ (j + 1)<=16 ^ 4:=WK (by decide) h;have h4:(16:Nat) ^ 4=65536:=by decide
  show (told v w j++LG v w (j + 1)).length<=_;rw [UI];omega
theorem kY:∀(n:Nat){ps:List (Nat×Nat)},ps∈told v w n↔∃j,j<=n/\ps∈LG v w j
 | 0,ps=>by
  constructor
  ·exact λh=>⟨0,Uw _,h⟩
  ·rintro ⟨j,hj,h⟩;have:j=0:=by omega
   subst this;exact h
 | n + 1,ps=>by
  show ps∈told v w n++LG v w (n + 1)↔_;rw [US,kY n];constructor
  ·rintro (⟨j,hj,h⟩ | h)
   ·exact ⟨j,by omega,h⟩
   ·exact ⟨n + 1,Uw _,h⟩
  ·rintro ⟨j,hj,h⟩;by_cases c:j=n + 1
   ·subst c;exact .inr h
   ·exact .inl ⟨j,by omega,h⟩
theorem Cc {v w:Wd}(t:Pr v w) (n:Nat) (hn:n<=4):lR [.d v.d,.d w.d,.d (.int n)]=.ok (.l .fresh ((told v w n).map aS)):=by
 have v4:=t.v4;have w4:=t.w4;refine cg (i_ (c2 rfl rfl (ic t)) (i_ (c3 rfl rfl rfl (N4 n hn)) (bC (c1 rfl (AX v t.vo)) rfl (bC (c1 rfl (AX w t.wo)) rfl ?_))));have hp:uJ 2 [1,3,4] (b9 (ao (g2 aY (af 0) (gC (.int 0))) aC)) (aD 0) dY (b9 (ao (g2 aY (af 2) (gC (.int 0))) aC)) (aD 1) (bw (gN (aO 4 K23.fq) (ao (af 3) (ao (af 4) (ao (bB (az (af 0) (az (af 1) aP))) (ao (bB (az (af 0) (az (af 1) aP))) aC)))))) (bB (az (af 0) (az (af 1) aP)))
   [some (.d v.d),some (.d w.d),some (.d (.int n)),some (.d (.dct (iE v) (iF v))),some (.d (.dct (iE w) (iF w))),none,none,none,none]=.ok (.l .fresh ((prs v w).map dP)):=by
  refine (CB (xs:=Ur v.m) (h:=dN) (h':=dN) (λ_=>Ur w.m) (λa b=>i7 v w (a,b) (a,b)) (λa b=>dP (a,b)) (mP (cT (two rfl rfl (fP _ _))) (by omega)) (by simp;omega) λa ha=>⟨by simp;omega,λz=>mP (cT (two rfl rfl (fP _ _))) (by omega),λb hb=>⟨?_,λ_=>A5 (bD (aL rfl rfl (aL rfl rfl bg)) t2) rfl⟩⟩).trans ?_
  ·have ha:a < v.m:=by simpa using ha
   have hb:b < w.m:=by simpa using hb
   exact fW (c4 rfl rfl (bD (aL rfl rfl (aL rfl rfl bg)) t2) (bD (aL rfl rfl (aL rfl rfl bg)) t2) (vj v w (a,b) (a,b) ⟨ha,hb⟩ ⟨ha,hb⟩))
  ·have e:((Ur v.m).flatMap λa=>((Ur w.m).filter λb=>i7 v w (a,b) (a,b)).map λb=>dP (a,b))=(prs v w).map dP:=by unfold prs fN;rw [abE,Zt];congr 1;funext a;rw [adx,Vn];rfl
   rw [e]
 refine bC hp rfl ?_;refine b_ (rK rfl (fK (fR (aL (bD bg (by decide)) rfl bg) (by show 1<=1000;decide)) rfl ?_));refine bC (fR (aL (bD bg (by decide)) rfl bg) (by show 1<=1000;decide)) rfl ?_;refine eX (jC (n:=n) rfl (by omega)) ?_;refine iA (λk env=>∃x:Option S,env=[some (.d v.d),some (.d w.d),some (.d (.int n)),some (.d (.dct (iE v) (iF v))),some (.d (.dct (iE w) (iF w))),some (.d (.lst ((prs v w).map dP))),some (.own ((LG v w k).map aS)),some (.own ((told v w k).map aS)),x]) ⟨none,rfl⟩ ?_ ?_
 ·rintro k hk _ ⟨x,rfl⟩;have l1:=k9 t k;have l2:=k9 t (k + 1);have l3:=oV t k (by omega);have p1:(16:Nat) ^ k<=16 ^ 3:=WK (by decide) (by omega);have p2:(16:Nat) ^ (k + 1)<=16 ^ 4:=WK (by decide) (by omega);have p3:(16:Nat) ^ 3=4096:=by decide
  have p4:(16:Nat) ^ 4=65536:=by decide
  refine ⟨_,rfl,b_ (F2 rfl (fK (r:=.l .fresh ((LG v w (k + 1)).map aS)) ?_ rfl (CQ rfl rfl rfl (by simp only [Uo];omega) ⟨_,rfl,some (.d (.int k)),?_⟩)))⟩
  ·refine (CB (xs:=LG v w k) (h:=aS) (h':=dP) (λ_=>prs v w) (λah q=>gb v w ah q) (λah q=>aS (ah++[q])) rfl (by omega) λah SN=>⟨by have:=BK t;omega,λz=>rfl,λq hq=>⟨?_,λ_=>A5 (two rfl (bD (aL rfl rfl bg) (by show 1<=1000;decide)) (yq _ _ ?_)) ?_⟩⟩).trans ?_
   ·exact fW (c4 rfl rfl rfl rfl (Po v w ah q (nT k SN).2 (Fd hq)))
   ·have:=(nT k SN).1;simp;omega
   ·show M.ok (D.tup (ah.map dP++[dP q]))=M.ok (D.tup ((ah++[q]).map dP));rw [UN];rfl
   ·show M.ok (R.l .fresh _)=_;show _=M.ok (R.l .fresh (((LG v w k).flatMap λah=>((prs v w).filter (gb v w ah)).map λq=>ah++[q]).map aS));rw [Zt];simp only [Vn];rfl
  ·show _=[_,_,_,_,_,_,_,some (S.own ((told v w k++LG v w (k + 1)).map aS)),_];rw [UN];rfl
 ·rintro _ ⟨x,rfl⟩;exact bE rfl rfl rfl
theorem allM {α:Type}(f:α->Bool) (xs:List α):qb [.l .fresh (xs.map λx=>.bl (f x))]=.ok (.d (.bl (xs.all f))):=by
 have:=all_map (λd=>match d with
  | .bl b=>b
  | _=>false) (xs.map λx=>.bl (f x))
 rw [Vn,ZY] at this;exact this
theorem zk:∀{xs ys:List Bool},cD (xs.map D.bl) (ys.map D.bl)=true↔xs=ys
 | [],[]=>by simp [cD]
 | [],_::_=>by simp [cD]
 | _::_,[]=>by simp [cD]
 | x::xs,y::ys=>by rw [UH,UH,iu,Uq,zk];simp [bh]
structure pO (v w:Wd) (p q:Nat×Nat):Prop where
 eq:p.1=q.1↔p.2=q.2
 ms:v.ms.map (λr=>decide (p.1∈r.2))=w.ms.map λr=>decide (p.2∈r.2)
 ar:v.ar.map (λr=>decide ((p.1,q.1)∈r.2))=w.ar.map λr=>decide ((p.2,q.2)∈r.2)
theorem i8 (v w:Wd) (p q:Nat×Nat):i7 v w p q=true↔pO v w p q:=by
 have e:i7 v w p q=((p.1 == q.1) == (p.2 == q.2) && (cD ((v.ms.map λr=>decide (p.1∈r.2)).map D.bl) ((w.ms.map λr=>decide (p.2∈r.2)).map D.bl) && (cD ((v.ar.map λr=>decide ((p.1,q.1)∈r.2)).map D.bl) ((w.ar.map λr=>decide ((p.2,q.2)∈r.2)).map D.bl) && true))):=by unfold i7 fh;rw [jK,iu,iu,iu,jK,jK,cD];simp only [K55.inN,K55.Mi,Vn,K55.uE];rfl
 rw [e,Uq,Uq,Uq,zk,zk];have e1:((p.1 == q.1) == (p.2 == q.2))=true↔(p.1=q.1↔p.2=q.2):=by rw [beq_iff_eq,Vk,beq_iff_eq,beq_iff_eq]
 rw [e1];exact ⟨λ⟨a,b,c,_⟩=>⟨a,b,c⟩,λ⟨a,b,c⟩=>⟨a,b,c,rfl⟩⟩
theorem MJ {p q:Nat×Nat}(h:sG p q=false):q.1 < p.1\/(q.1=p.1/\q.2 < p.2):=by
 unfold sG at h;rw [kJ] at h;by_cases c:(p.1:Int)=q.1
 ·rw [if_pos c,kJ] at h;by_cases c2:(p.2:Int)=q.2
  ·rw [if_pos c2,pH] at h;cases h
  ·rw [if_neg c2,decide_eq_false_iff_not] at h;exact .inr ⟨by omega,by omega⟩
 ·rw [if_neg c,decide_eq_false_iff_not] at h;exact .inl (by omega)
theorem MI {p q:Nat×Nat}(h:q.1 < p.1):sG p q=false:=by unfold sG;rw [kJ,if_neg (by omega),decide_eq_false_iff_not];omega
structure Good (v w:Wd) (ps:List (Nat×Nat)):Prop where
 up:ps.Pairwise λp q=>p.1 < q.1
 ag:∀p∈ps,∀q∈ps,pO v w p q
 rg:∀p∈ps,jY v w p
theorem qY {α:Type}{ps:List α}{l:α}(h:ps.getLast?=some l):∃rs,ps=rs++[l]:=by
 rcases Wh ps with rfl | ⟨ys,y,rfl⟩
 ·cases h
 ·rw [Wi] at h ⊢;rw [Yn] at h;cases h;exact ⟨ys,rfl⟩
theorem kW:p∈prs v w↔jY v w p/\pO v w p p:=by unfold prs;rw [VE,oB,i8];exact Iff.rfl
theorem qi {v w:Wd}{ps:List (Nat×Nat)}(g:Good v w ps){q:Nat×Nat}(hq:q∈prs v w):gb v w ps q=true↔Good v w (ps++[q]):=by
 obtain ⟨h1,h2⟩:=kW.mp hq;unfold gb;rw [Uq,U4];constructor
 ·rintro ⟨a,b⟩;have ag:∀r∈ps,pO v w q r/\pO v w r q:=λr hr=>by have:=b r hr;rw [Uq,i8,i8] at this;exact this
  have lt:∀r∈ps,r.1 < q.1:=by
   cases e:ps.getLast? with
   | none=>rw [Z_.mp e];exact λ_ h=>by cases h
   | some l=>
    rw [e] at a;have hl:l.1 < q.1:=by
     obtain ⟨rs,rfl⟩:=qY e;rcases MJ (by simpa using a) with h | ⟨h,h'⟩
     ·exact h
     ·have:=(ag l (by simp)).1.eq;omega
    obtain ⟨rs,rfl⟩:=qY e;intro r hr;rcases US.mp hr with h | h
    ·have:=(V2.mp g.up).2.2 r h l (by simp);omega
    ·rw [Uz.mp h];exact hl
  refine ⟨V2.mpr ⟨g.up,VZ _ _,λr hr x hx=>by rw [Uz.mp hx];exact lt r hr⟩,λr hr x hx=>?_,λr hr=>?_⟩
  ·rcases US.mp hr with hr | hr <;> rcases US.mp hx with hx | hx
   ·exact g.ag r hr x hx
   ·rw [Uz.mp hx];exact (ag r hr).2
   ·rw [Uz.mp hr];exact (ag x hx).1
   ·rw [Uz.mp hr,Uz.mp hx];exact h2
  ·rcases US.mp hr with hr | hr
   ·exact g.rg r hr
   ·rw [Uz.mp hr];exact h1
 ·intro h;refine ⟨?_,λr hr=>?_⟩
  ·cases e:ps.getLast? with
   | none=>rfl
   | some l=>
    have hl:l∈ps:=by obtain ⟨rs,rfl⟩:=qY e;simp
    have:=(V2.mp h.up).2.2 l hl q (by simp);show (!sG q l)=true;rw [MI this];rfl
  ·rw [Uq,i8,i8];exact ⟨h.ag q (by simp) r (by simp [hr]),h.ag r (by simp [hr]) q (by simp)⟩
theorem iN:∀(j:Nat){ps:List (Nat×Nat)},ps∈LG v w j↔ps.length=j/\Good v w ps
 | 0,ps=>by
  constructor
  ·intro h;rw [show ps=[] from Uz.mp h];exact ⟨rfl,.nil,(λ_ h=>nomatch h),(λ_ h=>nomatch h)⟩
  ·rintro ⟨h,_⟩;rw [WT.mp h];exact Uz.mpr rfl
 | j + 1,ps=>by
  constructor
  ·intro h;obtain ⟨ah,h1,h2⟩:=Zs.mp h;obtain ⟨q,h3,rfl⟩:=UD.mp h2;obtain ⟨l,g⟩:=(iN j).mp h1;obtain ⟨h4,h5⟩:=VE.mp h3;exact ⟨by rw [UI,l];rfl,(qi g h4).mp h5⟩
  ·rintro ⟨h,g⟩;rcases Wh ps with rfl | ⟨ah,q,rfl⟩
   ·cases h
   ·rw [Wi] at h g ⊢;have ga:Good v w ah:=⟨(V2.mp g.up).1,λp hp x hx=>g.ag p (by simp [hp]) x (by simp [hx]),λp hp=>g.rg p (by simp [hp])⟩;have hq:q∈prs v w:=kW.mpr ⟨g.rg q (by simp),g.ag q (by simp) q (by simp)⟩;exact Zs.mpr ⟨ah,(iN j).mpr ⟨by simpa using h,ga⟩,UD.mpr ⟨q,VE.mpr ⟨hq,(qi ga hq).mpr g⟩,rfl⟩⟩
theorem HW {l:List Nat}(hu:l.Pairwise (· < ·)) (hl:l.length=m) (hm:∀x∈l,x < m):l=Ur m:=by
 have st:=Vv.mp hu;have lo:∀k (hk:k < l.length),k<=l[k]:=by
  intro k
  induction k with
  | zero=>intro _;exact UX _
  | succ k ih=>
   intro hk;have:=st k (k + 1) (by omega) hk (by omega);have:=ih (by omega);omega
 have hi:∀d k (hk:k < l.length),l.length - 1 - k=d->l[k]<=k:=by
  intro d
  induction d with
  | zero=>
   intro k hk e;have:=hm l[k] (U9 hk);omega
  | succ d ih=>
   intro k hk e;have h1:=ih (k + 1) (by omega) (by omega);have h2:=st k (k + 1) hk (by omega) (by omega);omega
 refine W8 (by simp [hl]) λk h1 h2=>?_;rw [ab0];exact Nat.le_antisymm (hi _ k h1 rfl) (lo k h1)
structure yC (v w:Wd) (σ:List Nat):Prop where
 len:σ.length=v.m
 rg:∀y∈σ,y < v.m
 nd:σ.Nodup
 ms:∀k (hk:k < σ.length),v.ms.map (λr=>decide (k∈r.2))=w.ms.map λr=>decide (σ[k]∈r.2)
 ar:∀j k (hj:j < σ.length) (hk:k < σ.length),v.ar.map (λr=>decide ((j,k)∈r.2))=w.ar.map λr=>decide ((σ[j],σ[k])∈r.2)
def bO (σ:List Nat):List (Nat×Nat):=(Ur σ.length).zip σ
theorem B7 {σ:List Nat}(hk:k < σ.length):(bO σ)[k]?=some (k,σ[k]):=by unfold bO;rw [Yv];exact ⟨by simp [hk],by simp [hk]⟩
theorem dH {σ:List Nat}{p:Nat×Nat}:p∈bO σ↔∃hk:p.1 < σ.length,σ[p.1]=p.2:=by
 constructor
 ·intro h;obtain ⟨k,hk,e⟩:=VM.mp h;have hk':k < σ.length:=by simpa [bO] using hk
  have:=B7 hk';rw [UA hk,e] at this;cases this;exact ⟨hk',rfl⟩
 ·rintro ⟨hk,e⟩;have:=B7 hk;rw [e] at this;exact Vi this
theorem iW {v w:Wd}(hm:w.m=v.m) (i:yC v w σ):Good v w (bO σ):=by
 refine ⟨?_,λp hp q hq=>?_,λp hp=>?_⟩
 ·have h:((bO σ).map Ve).Pairwise (· < ·):=by unfold bO;rw [aaG (by simp)];exact Y4
  exact Vu.mp h
 ·obtain ⟨h1,e1⟩:=dH.mp hp;obtain ⟨h2,e2⟩:=dH.mp hq;refine ⟨⟨λe=>?_,λe=>?_⟩,?_,?_⟩
  ·rw [<-e1,<-e2];simp only [e]
  ·rw [<-e1,<-e2] at e;exact (Zn i.nd).mp e
  ·rw [<-e1];exact i.ms p.1 h1
  ·rw [<-e1,<-e2];exact i.ar p.1 q.1 h1 h2
 ·obtain ⟨h1,e1⟩:=dH.mp hp;refine ⟨by rw [<-i.len];exact h1,?_⟩;rw [hm,<-e1];exact i.rg _ (U9 h1)
theorem iV {v w:Wd}(hm:w.m=v.m){ps:List (Nat×Nat)}(g:Good v w ps) (hl:ps.length=v.m):ps=bO (ps.map abg)/\yC v w (ps.map abg):=by
 have f:ps.map Ve=Ur v.m:=HW (Vu.mpr g.up) (by rw [Uo,hl]) λx hx=>by obtain ⟨p,hp,rfl⟩:=UD.mp hx;exact (g.rg p hp).1
 have at_:∀k (hk:k < ps.length),ps[k]=(k,(ps.map abg)[k]'(by rw [Uo];exact hk)):=λk hk=>by
  have h1:(ps.map Ve)[k]?=some ps[k].1:=by rw [UT,UA hk];rfl
  rw [f,Yz (by omega)] at h1;rw [VT];exact afr (VF h1).symm rfl
 refine ⟨?_,⟨by rw [Uo,hl],λy hy=>?_,?_,λk hk=>?_,λj k hj hk=>?_⟩⟩
 ·unfold bO;rw [Uo,hl,<-f];refine W8 (by simp) λk h1 h2=>?_;simp
 ·obtain ⟨p,hp,rfl⟩:=UD.mp hy;rw [<-hm];exact (g.rg p hp).2
 ·refine Vu.mpr ((X_.mp g.up).imp ?_);rintro p q ⟨hp,hq,h⟩ e;have:=(g.ag p hp q hq).eq;omega
 ·have hk':k < ps.length:=by rw [Uo] at hk;exact hk
  have h:=(g.ag ps[k] (U9 hk') ps[k] (U9 hk')).ms;have e1:=congrArg Ve (at_ k hk');have e2:=congrArg abg (at_ k hk');rw [e1,e2] at h;exact h
 ·have hk':k < ps.length:=by rw [Uo] at hk;exact hk
  have hj':j < ps.length:=by rw [Uo] at hj;exact hj
  have h:=(g.ag ps[j] (U9 hj') ps[k] (U9 hk')).ar;have e1:=congrArg Ve (at_ k hk');have e2:=congrArg abg (at_ k hk');have e3:=congrArg Ve (at_ j hj');have e4:=congrArg abg (at_ j hj');rw [e1,e2,e3,e4] at h;exact h
theorem IT (a b:Nat):eF (dN a) (dN b)=true↔a < b:=by rw [nE,decide_eq_true_eq];omega
theorem uU (a b:Nat×Nat):eF (dP a) (dP b)=true↔pI a b:=by
 have e:eF (dP a) (dP b)=iH [dN a.1,dN a.2] [dN b.1,dN b.2]:=rfl;rw [e,jN,K55.uE];unfold pI;by_cases c:a.1=b.1
 ·rw [if_pos (by simpa using c),jN,K55.uE];by_cases c2:a.2=b.2
  ·rw [if_pos (by simpa using c2)];constructor
   ·intro h;cases h
   ·intro h;omega
  ·rw [if_neg (by simpa using c2)];rw [show eF (D.int a.2) (D.int b.2)=eF (dN a.2) (dN b.2) from rfl,IT];omega
 ·rw [if_neg (by simpa using c)];rw [show eF (D.int a.1) (D.int b.1)=eF (dN a.1) (dN b.1) from rfl,IT];omega
theorem MM {α β:Type}{f:α->β}{xs:List α}(nd:xs.Nodup) (inj:∀a∈xs,∀b∈xs,f a=f b->a=b):(xs.map f).Nodup:=by refine Vu.mpr ((X_.mp nd).imp ?_);rintro a b ⟨ha,hb,h⟩ e;exact h (inj a ha b hb e)
end K23
namespace DL
open PySem PySem.Spec PyProof.Rows L2 DX
section
variable {X:Cx}{c:C}{e ke a b:U_}{g gk ga gb:G R}{pos:Pos}
noncomputable def OF (K:Ui):Cj:=λo i v H Q=>∃J p ks vs kxs d,aU J H/\o=.ref p/\eE K J H p ks vs/\dQ (.tup kxs)=true/\Rep K J (.tup kxs) i/\Rep K J d v/\ks.length<=sizeLine/\∀o,eE K J (upd H p o) p (dput (ks,vs) (.tup kxs) d).1 (dput (ks,vs) (.tup kxs) d).2->Q (upd H p o)
theorem set_dict (hu:X.A.units + 64 < V6):LB X (OF X.K):=by
 intro T9 s σ H o i v ov iv u Q I ro ri rv h;obtain ⟨J,p,ks,vs,kxs,d,sm,rfl,hd,ok,rk,rd,hl,q⟩:=h;obtain ⟨_,_,k1,k2⟩:=iz ok;obtain ⟨r,rfl⟩:∃r,i=.ref r:=by cases rk;exact ⟨_,rfl⟩
 cases ro;cases ri;obtain ⟨xs,hm,lx,put⟩:=BL I sm hd;refine wpAny_setItem_heap (knd:=mO X.prog X.w) (k:=⟨.tup kxs,k1,k2⟩) (show X.A.units + 1 + 16 < V6 by omega) (jR (HF.of (c:=⟨X.K,H,H,λ_=>True⟩) I sm) k1 rk) hm (λh' hm' sb=>?_) (by rw [lx];exact hl);obtain ⟨o,W,hd,_⟩:=put k1 k2 rk rd rv h' _ hm' sb;exact ⟨_,W,q o hd⟩
noncomputable def vL (i:Nat) (gk g:G R):G O:=λenv=>match env[i]? with
 | some (some (.dk ks vs))=>g env >>= λr=>toD r >>= λd=>gk env >>= λr2=>toD r2 >>= λk=>if dQ k=true/\ks.length<=1000000 then .ok (.nx (env.set i (some (.dk (dput (ks,vs) k d).1 (dput (ks,vs) k d).2)))) else .bad
 | _=>.bad
theorem Ek {prog:UG}{w:U5}{K:Type} [DecidableEq K] {knd:HeapKind prog w K}{A:U8}{E:Uk->Um->Prop}{s:Um}{d a:UL}{k:K}{xs:List (K×UL×Uk)}{Q:Bool->Um->Prop}(hu:knd.room A.in1) (hkey:knd.is s.heap k a) (hd:(d == XR)=false)
  (hm:s.heap.DictOfH knd d xs) (h:Q (aem xs k).isSome {s with toks:=s.toks + knd.draws k}):UB (UO prog w) A (contains (.ref d) (.ref a)) Q E s:=by
 refine wpAny_contains_slot hm.typeIs ab3 (U3 ab3 hm.typeIs entry_dict_contains ?_ (args_dict_contains _ _));show UB _ _ (dictGet d (.ref a) >>= λ_=>_) _ _ s;refine Uh (wpAny_dictGet_heap hu hkey hm ?_);cases q:aem xs k with
 | some p=>rw [q] at h;exact Uj ⟨_,rfl,VV h⟩
 | none=>rw [q] at h;exact Uh (wpAny_pendingKey_other hd (Uj ⟨_,rfl,VV h⟩))
noncomputable def HA (K:Ui) (neg:Bool):R2:=λx y H Q=>∃J p ks vs k,aU J H/\y=.ref p/\eE K J H p ks vs/\Rep K J k x/\dQ k=true/\Q (.bl (if neg then !(gz ks vs k).isSome else (gz ks vs k).isSome)) H
theorem Gk (hu:X.A.units + 64 < V6){T9:List (UL×Obj)}{s:Um}{σ:L2.St}{H:Hp}{x y:V}{v u:Uk}{Q:VK}{neg:Bool}(I:Inv X T9 σ H s) (rx:RelV x v) (ry:RelV y u) (h:HA X.K neg x y H Q):UB (UO X.prog X.w) X.A (contains u v) (λr s'=>EP X T9 σ Q (.bool (if neg then !r else r)) s') X.xe s:=by
 obtain ⟨J,p,ks,vs,k,sm,rfl,hd,hk,ok,q⟩:=h;have F:HF X.K J s:=HF.of (c:=⟨X.K,H,H,λ_=>True⟩) I sm;obtain ⟨kx,rfl,k1,k2⟩:=iz ok;obtain ⟨r,rfl⟩:∃r,x=.ref r:=by cases hk;exact ⟨_,rfl⟩
 cases rx;cases ry;obtain ⟨xs,us,ws,hm,e2,_,hv,e4,_,hsm⟩:=n5 (P:=X.prog) (w:=X.w) F (fk I) hd;have e:(aem xs ⟨.tup kx,k1,k2⟩).isSome=(gz ks vs (.tup kx)).isSome:=by
  obtain ⟨l1,l2⟩:=uq (K:=X.K) (J:=J) ⟨.tup kx,k1,k2⟩ e2 hv e4;cases z:gz ks vs (.tup kx) with
  | some d=>obtain ⟨p,_,e,_⟩:=l1 d z;rw [e];rfl
  | none=>rw [l2 z];rfl
 exact Ek (k:=⟨.tup kx,k1,k2⟩) (show X.A.units + 1 + 16 < V6 by omega) (jR F k1 hk) hsm hm ⟨.bl _,H,I.tok _,by rw [e];rfl,q⟩
theorem MR (hu:X.A.units + 64 < V6):c8 X (V5 .In) (HA X.K false):=λT9 s σ H x y v u Q I rx ry h=>Uh (Vt (Gk hu I rx ry h) (λ_ _ h=>Uj h) λ_ _ f=>f)
noncomputable def tu (neg:Bool) (x y:R):M R:=match uo y,x with
 | some z,.d k=>if dQ k=true then .ok (.d (.bl (if neg then !(gz z.1 z.2 k).isSome else (gz z.1 z.2 k).isSome))) else .bad
 | _,_=>.bad
theorem LM (neg:Bool) (hK:X.K=c.K):BD c (HA X.K neg) (tu neg):=by
 intro He He' J H x y u v Q hp rx ry w;unfold tu at w;split at w
 ·rename_i hz;obtain ⟨p,rfl,hd⟩:=ry.dk hp hz;split at w
  ·rename_i ok;exact ⟨J,p,_,_,_,hp.sub,rfl,by rw [hK];exact hd,by rw [hK];exact rx,ok,w _ J H (Ext.refl hp.sub) (.bl _)⟩
  ·exact w.elim
 ·exact w.elim
theorem Hr (i:Nat){x:Str}{p1 p2:Pos}(hu:X.A.units + 64 < V6) (h:QD X c e g) (hk:QD X c ke gk) (hN:X.N[i]?=some x:=by rfl) (hv:rY X.env.scope x:=by first | exact Zi rfl | exact XN (Zi rfl) | exact XN (XN rfl)) (hd:(x == ("__debug__":Str))=false:=by decide)
  (hcd:(x == ("__classdict__":Str))=false:=by decide)
  (ha:∀v,assign (.Subscript (.Name x p1) ke p2) X.env v=(do
   let ov <-holding [v] (eval (.Name x p1) X.env)
   let iv <-holding [v,ov] (eval ke X.env)
   X3 p2
   (holding [v,ov,iv] (setItem ov iv v))
   release [v,ov,iv] []):=by intro _;rfl)
  (hs:aan [.Subscript (.Name x p1) ke p2] e pos.line X.env=pure false:=by rfl) (hw:abJ [.Subscript (.Name x p1) ke p2] e X.env=pure none:=by rfl)
  (h1:(Xo [.Subscript (.Name x p1) ke p2] X.env).map (·.2)=[assign (.Subscript (.Name x p1) ke p2) X.env]:=by rfl) (hK:X.K=c.K:=by rfl):
  jF X c (.Assign [.Subscript (.Name x p1) ke p2] e pos) (vL i gk g):=have h:=h.h;have hk:=hk.h;⟨
 iQ (Fe h (Nd (lH hN hv hd hcd) hk (set_dict hu) ha) hs hw h1) λE σ H ⟨J,env,sr,w⟩=>by
  unfold vL at w;split at w
  ·rename_i ks vs hi;obtain ⟨v,q1,p,rfl,h2,h3,h4⟩:=sr.at_ i _ hi;refine ⟨J,env,sr,aE (aI w) λr wr y J1 H1 e1 r1=>?_⟩;obtain ⟨d,q,wr⟩:=jk wr;obtain ⟨J2,e2,s2,rd⟩:=freeze e1 r1 q;refine ⟨.ref p,q1,?_⟩;refine ⟨J2,env,sr.ext e2,aE (aI wr) λrk wk vk J3 H3 e3 r3=>?_⟩;obtain ⟨k,qk,wk⟩:=jk wk;obtain ⟨J4,e4,s4,rk⟩:=freeze e3 r3 qk;have e5:=e2.trans e4;split at wk
   ·rename_i ok;obtain ⟨kxs,rfl,_⟩:=iz ok.1;have h2':=h2.mono e5.j e5.h;have h3':=e5.frz p h2.ne h3;refine ⟨J4,p,ks,vs,kxs,d,e5.sub,rfl,by rw [hK];exact h2',ok.1,by rw [hK];exact rk,by rw [hK];exact rd.mono e4.j,U1 ok.2 (by decide),λo ho=>?_⟩;rw [hK] at ho;exact wk σ J4 _ e5.j ((sr.ext e5).updM (x:=.inr (ks,vs)) (y:=.inr (dput (ks,vs) (.tup kxs) d)) hi q1 h3' h4 ⟨p,rfl,ho,h3',h4⟩)
   ·exact wk.elim
  ·exact w.elim⟩
theorem KZ (hu:X.A.units + 64 < V6) (ha:QD X c a ga) (hb:QD X c b gb) (hK:X.K=c.K:=by rfl) (hm:VU .In b=false:=by rfl):QD X c (.Compare a [.In] [b] pos) (g2 (tu false) ga gb):=⟨nJ (MR hu) (LM false hK) ha.h hb.h hm⟩
noncomputable def tw (x y:R):M R:=match x,y with
 | .d d,.d e=>if dep d<=60/\dep e<=60 then (match dO d e with
  | some b=>.ok (.d (.bl b))
  | none=>.bad) else .bad
 | _,_=>.bad
theorem MT (hu:X.A.units + 64 < V6):c8 X (V5 .Lt) (λx y H Q=>∃d e b,Rep X.K H d x/\Rep X.K H e y/\dep d<=60/\dep e<=60/\dO d e=some b/\Q (.bl b) H):=λT9 s σ H x y v u Q I rx ry ⟨d,e,b,h1,h2,h3,h4,h5,q⟩=>
 ML (fk I) d X.A h5 h1 h2 rx ry (by omega) (by omega) (by omega) X.prog X.w X.xe _ ⟨.bl b,H,I,rfl,q⟩
theorem LN (hK:X.K=c.K):BD c (λx y H Q=>∃d e b,Rep X.K H d x/\Rep X.K H e y/\dep d<=60/\dep e<=60/\dO d e=some b/\Q (.bl b) H) tw:=by
 intro He He' J H x y u v Q hp rx ry w;unfold tw at w;split at w
 ·split at w
  ·rename_i hd;split at w
   ·rename_i b hb;exact ⟨_,_,b,by rw [hK];exact Rep.mono hp.sub rx,by rw [hK];exact Rep.mono hp.sub ry,hd.1,hd.2,hb,w _ J H (Ext.refl hp.sub) (.bl _)⟩
   ·exact w.elim
  ·exact w.elim
 ·exact w.elim
theorem KU (hu:X.A.units + 64 < V6) (ha:QD X c a ga) (hb:QD X c b gb) (hK:X.K=c.K:=by rfl):QB X c (.Compare a [.Lt] [b] pos) (bw (g2 tw ga gb)):=⟨jB (MT hu) (LN hK) ha.h hb.h⟩
end
end DL
namespace K22
open PySem DL
end K22
namespace K22
open PySem DL K01 WP K51 K52 K55 K23
section
variable {env:Ev}{tg:GT}{u t:G O}{α:Type}{h:α->D}{Q:O->Prop}{gi:G (List D)}
theorem w_all (I:Ev->Prop) (f:α->Bool):∀(xs:List α) (env:Ev),I env->(∀x∈xs,∀env,I env->∃e,tg (h x) env=.ok e/\Wp (u e) λo=>(f x=true/\∃e',o=.nx e'/\I e')\/(f x=false/\o=.rt (.d (.bl false))))->
  Wp (ff tg u (xs.map h) env) λo=>(xs.all f=true/\∃e',o=.nx e'/\I e')\/(xs.all f=false/\o=.rt (.d (.bl false)))
 | [],env,hI,_=>⟨.nx env,rfl,.inl ⟨rfl,env,rfl,hI⟩⟩
 | x::xs,env,hI,step=>by
  obtain ⟨e,h1,o,ho,hP⟩:=step x Uv env hI;rw [UH,XH];show Wp (tg (h x) env >>= _) _;rw [h1,aQ,ho,aQ];rcases hP with ⟨hf,e',rfl,hI'⟩ | ⟨hf,rfl⟩
  ·rw [hf,YT];exact w_all I f xs e' hI' λx hx=>step x (Uu _ hx)
  ·rw [hf];exact ⟨_,rfl,.inr ⟨rfl,rfl⟩⟩
theorem Ja (I:Ev->Prop) (f:α->Bool) (xs:List α) (hg:gi env=.ok (xs.map h)) (h0:I env) (step:∀x∈xs,∀env,I env->∃e,tg (h x) env=.ok e/\Wp (u e) λo=>(f x=true/\∃e',o=.nx e'/\I e')\/(f x=false/\o=.rt (.d (.bl false))))
  (k1:xs.all f=true->∀e,I e->Wp (t e) Q) (k2:xs.all f=false->Q (.rt (.d (.bl false)))):Wp (aH (cu gi tg u) t env) Q:=by
 refine eX hg ((w_all I f xs env h0 step).mono ?_);rintro o (⟨z,e,rfl,hI⟩ | ⟨z,rfl⟩)
 ·exact k1 z e hI
 ·exact k2 z
theorem IS (I:Ev->Prop) (f:α->Bool) (xs:List α) (hg:gi env=.ok (xs.map h)) (h0:I env) (step:∀x∈xs,∀env,I env->∃e,tg (h x) env=.ok e/\Wp (u e) λo=>(f x=true/\∃e',o=.nx e'/\I e')\/(f x=false/\o=.rt (.d (.bl false)))):
  Wp (cu gi tg u env) λo=>(xs.all f=true/\∃e',o=.nx e'/\I e')\/(xs.all f=false/\o=.rt (.d (.bl false))):=mz hg (w_all I f xs env h0 step)
end
theorem CF (neg a b:Bool):bX neg (.d (.bl a)) (.d (.bl b))=.ok (.d (.bl (if neg then !(a == b) else a == b))):=by cases neg <;> cases a <;> cases b <;> rfl
def mB (v w:Wd) (p:Nat×Nat):Bool:=(v.ms.zip w.ms).all λr=>decide (p.1∈r.1.2) == decide (p.2∈r.2.2)
def aB (v w:Wd) (p q:Nat×Nat):Bool:=(v.ar.zip w.ar).all λr=>decide ((p.1,q.1)∈r.1.2) == decide ((p.2,q.2)∈r.2.2)
def eB (p q:Nat×Nat):Bool:=(p.1 == q.1) == (p.2 == q.2)
def jv (v w:Wd) (ps:List (Nat×Nat)):Bool:=ps.all λp=>mB v w p && ps.all λq=>eB p q && aB v w p q
theorem nR {α β:Type}(f:α->Bool) (g:β->Bool):∀{xs:List α}{ys:List β},xs.length=ys.length->(((xs.zip ys).all λr=>f r.1 == g r.2)=true↔xs.map f=ys.map g)
 | [],[],_=>by simp
 | x::xs,y::ys,h=>by have ih:=nR f g (xs:=xs) (ys:=ys) (by simpa using h);rw [XY,XH,Uq,ih,UH,UH,afp,beq_iff_eq]
theorem ni {v w:Wd}(t:Pr v w) (ps:List (Nat×Nat)):jv v w ps=true↔∀p∈ps,∀q∈ps,pO v w p q:=by
 have l1:v.ms.length=w.ms.length:=by have:=congrArg We t.mn;simpa using this
 have l2:v.ar.length=w.ar.length:=by have:=congrArg We t.an;simpa using this
 have e1:∀p q:Nat×Nat,eB p q=true↔(p.1=q.1↔p.2=q.2):=λp q=>by unfold eB;rw [beq_iff_eq,Vk,beq_iff_eq,beq_iff_eq]
 unfold jv;rw [U4];constructor
 ·intro h p hp q hq;have h1:=h p hp;rw [Uq,U4] at h1;have h2:=h1.2 q hq;rw [Uq] at h2;exact ⟨(e1 p q).mp h2.1,(nR (λr:Str×List Nat=>decide (p.1∈r.2)) (λr:Str×List Nat=>decide (p.2∈r.2)) l1).mp h1.1,(nR (λr:Str×List (Nat×Nat)=>decide ((p.1,q.1)∈r.2)) (λr:Str×List (Nat×Nat)=>decide ((p.2,q.2)∈r.2)) l2).mp h2.2⟩
 ·intro h p hp;rw [Uq,U4];refine ⟨(nR (λr:Str×List Nat=>decide (p.1∈r.2)) (λr:Str×List Nat=>decide (p.2∈r.2)) l1).mpr (h p hp p hp).ms,λq hq=>?_⟩;rw [Uq];exact ⟨(e1 p q).mpr (h p hp q hq).eq,(nR (λr:Str×List (Nat×Nat)=>decide ((p.1,q.1)∈r.2)) (λr:Str×List (Nat×Nat)=>decide ((p.2,q.2)∈r.2)) l2).mpr (h p hp q hq).ar⟩
theorem MK (p q:Nat×Nat):dO (dP p) (dP q)=some (eF (dP p) (dP q)):=by
 have h:(dO (dP p) (dP q)).isSome=true:=by
  show (if bh (.int (p.1:Int)) (.int (q.1:Int))=true then (if bh (.int (p.2:Int)) (.int (q.2:Int))=true then some false else some (decide ((p.2:Int) < q.2))) else some (decide ((p.1:Int) < q.1))).isSome=true;split
  ·split <;> rfl
  ·rfl
 unfold eF;cases z:dO (dP p) (dP q) with
 | some b=>rfl
 | none=>rw [z] at h;cases h
theorem EA {v w:Wd}{ps:List (Nat×Nat)}(g:Good v w ps){q:Nat×Nat}(hq:jY v w q) (ab:∀rs l,ps=rs++[l]->pI l q) (ag:∀x∈ps++[q],∀y∈ps++[q],pO v w x y):Good v w (ps++[q]):=by
 refine ⟨?_,ag,λp hp=>?_⟩
 ·rw [V2];refine ⟨g.up,VZ _ _,λp hp r hr=>?_⟩;rw [Uz.mp hr];rcases Wh ps with rfl | ⟨rs,l,rfl⟩
  ·cases hp
  ·rw [Wi] at *;have h1:=ab rs l rfl;have h2:=(ag l (by simp) q (by simp)).eq;have h3:l.1 < q.1:=by
    rcases h1 with h | ⟨h,h'⟩
    ·exact h
    ·have:=h2.mp h;omega
   rcases US.mp hp with h | h
   ·have:=(V2.mp g.up).2.2 p h l (by simp);omega
   ·rw [Uz.mp h];exact h3
 ·rcases US.mp hp with h | h
  ·exact g.rg p h
  ·rw [Uz.mp h];exact hq
theorem j4 (ps:List (Nat×Nat)):dQ (aS ps)=true:=by
 have h1:∀qs:List (Nat×Nat),areKeys (qs.map dP)=true:=λqs=>by
  induction qs with
  | nil=>rfl
  | cons q qs ih=>rw [UH];unfold areKeys;rw [ih];rfl
 have h2:deps (ps.map dP)<=1:=gJ λx hx=>by obtain ⟨q,_,rfl⟩:=UD.mp hx;exact Uw _
 show (areKeys (ps.map dP) && decide (deps (ps.map dP) + 1<=8))=true;rw [h1,decide_eq_true (by omega)];rfl
section
variable {env:Ev}{g gk:G R}{r r2:R}{u:G O}{Q:O->Prop}{i:Nat}
theorem Oi {ks vs:List D}(h0:env[i]?=some (some (.dk ks vs))) (h:g env=.ok r) (h2:toD r=.ok d) (h3:gk env=.ok r2) (h4:toD r2=.ok k) (ok:dQ k=true) (hl:ks.length<=1000000) (q:Q (.nx (env.set i (some (.dk (dput (ks,vs) k d).1 (dput (ks,vs) k d).2))))):Wp (vL i gk g env) Q:=by refine ⟨_,?_,q⟩;unfold vL;rw [h0];simp only;rw [h,aQ,h2,aQ,h3,aQ,h4,aQ,if_pos ⟨ok,hl⟩]
theorem Kn {a b:G R}(h:a env=.ok (.d (.bl true))):tH a b env=.ok (.d (.bl true)):=by unfold tH;rw [h];rfl
theorem MZ {a b:G R}(h:a env=.ok (.d (.bl false))) (h2:b env=.ok r):tH a b env=.ok r:=by unfold tH;rw [h];exact h2
theorem E5 {a b:G Bool}(h1:a env=.ok false) (h2:b env=.ok k):j3 a b env=.ok k:=by unfold j3;rw [h1];exact h2
end
theorem Oj (p q:Nat×Nat):tw (.d (dP p)) (.d (dP q))=.ok (.d (.bl (eF (dP p) (dP q)))):=by
 show (if dep (dP p)<=60/\dep (dP q)<=60 then (match dO (dP p) (dP q) with
  | some b=>M.ok (R.d (.bl b))
  | none=>.bad) else .bad)=_
 rw [if_pos ⟨by show 1<=60;decide,by show 1<=60;decide⟩,MK]
theorem zW (ps:List (Nat×Nat)):dep (aS ps)<=60:=by
 have h2:deps (ps.map dP)<=1:=gJ λx hx=>by obtain ⟨q,_,rfl⟩:=UD.mp hx;exact Uw _
 show deps (ps.map dP) + 1<=60;omega
end K22
namespace DL
open PySem PySem.Spec PyProof.Rows L2 DX
section
variable {X:Cx}{c:C}
noncomputable def kU (n:Nat) (cap:List Nat) (gi:G (List D)) (gt:GT) (gts:G Bool) (gk gv:G R):G R:=jw 1000000 n cap gi gt gts (sW gk gv) (λys=>.ok (.mf (jG ys).1 (jG ys).2))
theorem O0 (kx vx t0 i0:U_) (f0:List U_) (T8:X0) (pos:Pos) (it:Uk) (p:UL) (env:Env):
  Zh (.DictComp kx vx [⟨t0,i0,f0,0⟩] T8 pos) 0 it (.ref p) env=mF t0 i0 f0 it env (Di kx vx p env) (again (.compLoop (.DictComp kx vx [⟨t0,i0,f0,0⟩] T8 pos) 0 it (.ref p) env)):=by rfl
theorem LW (hu:X.A.units + 64 < V6) (own:List Str) (cap:List Nat){kx vx t0 i0:U_}{f0:List U_}{T8:X0}{pos:Pos}{gi0:G (List D)}{gt0:GT}{gts0:G Bool}{gk gv:G R}(hi:wD X c t0 i0 gi0)
  (hbody:∀(cl:List (Str×UL)) (C:UL) (s:Um) (H:Hp) (fp:List UL),d9 X.env.cells T8.names []=some cl->pZ (cZ X own cap T8 cl C s H fp) c t0 gt0/\pY (cZ X own cap T8 cl C s H fp) c f0 gts0/\QD (cZ X own cap T8 cl C s H fp) c kx gk/\QD (cZ X own cap T8 cl C s H fp) c vx gv) (a:AS X T8 cap i0:=by exact wL rfl) (hK:X.K=c.K:=by rfl):
  qN X c (.DictComp kx vx [⟨t0,i0,f0,0⟩] T8 pos) (kU own.length cap gi0 gt0 gts0 gk gv):=by
 refine ⟨_,?_,rfl,λ_=>rfl⟩;refine nY (e:=.DictComp kx vx [⟨t0,i0,f0,0⟩] T8 pos) (ob:={cls:=.type "dict",data:=.dict #[]}) (o0:=λa=>lD a 0 []) (Acc:=Cm c) (N:=1) (lim:=1000000) (m:=λp env=>Di kx vx p env) own cap rfl hi.h
  (λs Q E q=>UU q) (λh H=>⟨⟨_,#[],Us _ rfl,⟨rfl,rfl,rfl⟩,rfl,.nil⟩,⟨_,Us _ rfl⟩,λh1 h2 ⟨o,es,a1,a2⟩ e=>⟨o,es,e o a1,a2⟩⟩) (λp=>sU) (λp J H hsm h1 h2=>⟨⟨[],[],0,h1,.nil,.nil,⟨rfl,Xk,UX _,λ_ h=>(nomatch h)⟩,beq_eq_false_iff_ne.mpr (Ws (UY hsm)),rfl⟩,h2,Uw _⟩) (by decide) (λit p env=>CV (O0 ..)) (λit acc env R s h0 h=>aaP h0 h) (λys z q=>by cases q)
  (fun {p J H J' H' ys r} hp e ⟨h1,h2,h8⟩ q=>by cases q;exact ⟨J',e,⟨p,rfl,h1,h2,hp⟩⟩) (λcl C s H fp hcc=>?_) a
 obtain ⟨b1,b2,b3,b4⟩:=hbody cl C s H fp hcc;exact ⟨b1.h,b2.h,λp J2 H2 hp2 hp0=>A9 hu hK (λ_ _ f=>f) hp2 hp0 b3.h b4.h⟩
end
end DL
namespace DL
open PySem PySem.Spec PyProof.Rows L2 DX
open Sem (wp)
section
variable {prog:UG}{w:U5}{A:U8}{E:Uk->Um->Prop}{s:Um}{d it:UL}{o:Obj}{es:Array aaZ}{ep i:Nat}
theorem GF {Q:Uk->Um->Prop}(hd:(d == XR)=false) (ho:s.heap.get? d=some o) (hc:o.ExactDict) (hdat:o.data=.dict es ep)
  (hQ:Q (.ref s.heap.objs.size) {s with heap:=s.heap.push {cls:=.type "dict_keyiterator",data:=.fields #[.ref d,.int 0 0,.int es.size 0,.int ep 0]}}):UB (UO prog w) A (ZF (.ref d)) Q E s:=by have hT:s.TypeIs (.ref d) "dict":=⟨o,ho,hc.1⟩;refine Zc hT acV (U3 acV hT F.entry_dict_iter ?_ (F.args_dict_iter_1 _));unfold X6.«dict.__iter__»;refine Uh ?_;unfold adP;refine Uh (wpAny_notOrdered_dict hT (Uj ?_));show UB _ _ (Bind.bind (aa8 d) _) _ _ s;unfold aa8;rw [if_neg (by rw [hd];decide)];refine Uh (Uj (Uh (aal ho hdat (Uh (aa9 ho hdat ?_)))));exact Uh (UU (Uj ⟨_,rfl,"dict_keyiterator",_,⟨_,Us _ rfl,rfl⟩,Wj.lookup,by simpa [YZ] using hQ⟩))
theorem GY {Q:Option Uk->Um->Prop}(hit:s.heap.IsKeyIter it d i es.size ep) (hod:s.heap.get? d=some o) (Ry:o.data=.dict es ep) (hi:i < es.size)
  (hQ:∀h',h'.IsKeyIter it d (i + 1) es.size ep->Vc it s.heap h'->Q (some es[i].key) {s with heap:=h'}):UB (UO prog w) A (Xy (.ref it)) Q E s:=by
 obtain ⟨oi,ho,hc,hd⟩:=id hit;unfold Xy;refine Uh (WO (U0 (name:=V3 "__next__") hit.typeIs Wj (U3 Wj hit.typeIs Zu ?_ (Zm _))));refine Uh (Uj (Uh (Uh ?_)));refine Uh (WJ hit.typeIs (Uj (Uh (Z9 ho hd ?_))));have hown:Zz "dict_keyiterator"=false:=by decide
 simp only [hown,UE,if_false];show UB _ _ (ite ((VN d == Vl)=true) _ _) _ _ s;rw [if_neg (show ¬((VN d == Vl)=true) from UZ)];refine Uh (Uj (Uh (aal hod Ry ?_)));rw [if_neg (by simp)];refine Uh (Uj (Uh (aa9 hod Ry ?_)));rw [if_neg (by simp)];refine Uj ?_;simp only [show ¬((i:Int) < 0) from by omega,if_false,VY,V9 hi];refine Uh (Uh (WJ hit.typeIs (Uj ?_)));refine Uh (aa_ hit.typeIs ?_);refine Uh (m:=ac2 (.ref it) 1 (YZ ((i:Int) + 1))) (Z6 ho hd (by simp) ?_);have R1:(s.heap.update it (aen (·.setIfInBounds 1 (YZ ((i:Int) + 1))))).IsKeyIter it d (i + 1) es.size ep:=⟨_,Vd _ ho (aa2 (YK hd _)),(acp ..).trans hc,by rw [YK hd];simp [YZ]⟩;refine Uh (U7 (Uh (aa_ (s:={s with heap:=s.heap.update it (aen (·.setIfInBounds 1 (YZ ((i:Int) + 1))))}) R1.typeIs ?_)));exact Uj (Uj ⟨_,rfl,Uj (hQ _ R1 (VQ ..))⟩)
theorem JG {Q:Option Uk->Um->Prop}(hh:A.handled=none) (hit:s.heap.IsKeyIter it d i es.size ep) (hod:s.heap.get? d=some o) (Ry:o.data=.dict es ep) (hi:es.size<=i)
  (hQ:∀h',ZI it s.heap h'->Q none {s with heap:=h'}):UB (UO prog w) A (Xy (.ref it)) Q E s:=by
 obtain ⟨oi,ho,hc,hd⟩:=id hit;unfold Xy;refine Uh (WO (U0 (name:=V3 "__next__") hit.typeIs Wj (U3 Wj hit.typeIs Zu ?_ (Zm _))));refine Uh (Uj (Uh (Uh ?_)));refine Uh (WJ hit.typeIs (Uj (Uh (Z9 ho hd ?_))));have hown:Zz "dict_keyiterator"=false:=by decide
 simp only [hown,UE,if_false];show UB _ _ (ite ((VN d == Vl)=true) _ _) _ _ s;rw [if_neg (show ¬((VN d == Vl)=true) from UZ)];refine Uh (Uj (Uh (aal hod Ry ?_)));rw [if_neg (by simp)];refine Uh (Uj (Uh (aa9 hod Ry ?_)));rw [if_neg (by simp)];refine Uj ?_;simp only [show ¬((i:Int) < 0) from by omega,if_false,VY,aaQ hi];refine Uh (Uh (WJ hit.typeIs (Uj ?_)));refine Uh (m:=ac2 (.ref it) 0 .none) (Z6 ho hd (by simp) ?_);refine Uh (m:=adZ (.type "StopIteration") []) ?_;simp only [adZ,ac1];refine Uh (UU ?_ (by size_fits));refine Uh (m:=Xl _ _) (YA (a:=Vl) (by first | rfl | (simp only [Xl];rfl)) (UU ?_ (by size_fits)));simp only [aea];refine Uh (aau ?_);rw [show A.in1.handled=none from hh];refine Uh (Uj (abA ?_));exact Uh (XQ (T:="StopIteration") (b:=true) ⟨_,Us _ rfl,rfl⟩ Z8 (Uj (hQ _ (((VQ ..).extBut.push _).push _))))
end
end DL
namespace DL
open PySem PySem.Spec PyProof.Rows L2 DX
noncomputable def O3 (a:UL) (ep:Nat) (Ue:List (Int×V×V)):It:=⟨λi H=>H a=some (lD a ep Ue)/\i < Ue.length,λi H x H'=>H'=H/\∃p,Ue[i]?=some p/\x=p.2.1,λi H=>H a=some (lD a ep Ue)/\Ue.length<=i⟩
theorem xg {α β:Type}{F:α->β->Prop}:∀{xs:List α}{ys:List β}{i:Nat}(hi:i < ys.length),aaa F xs ys->∃p,xs[i]?=some p/\F p ys[i]
 | _,_,0,_,.cons h _=>⟨_,rfl,h⟩
 | _,_,i + 1,hi,.cons _ t=>xg (i:=i) (by simpa using hi) t
theorem HV {P:UG}{w:U5}{K:Ui}{tg:U_}(a it:UL) (ep:Nat) (Ue:List (Int×V×V)):Turn P w K tg (O3 a ep Ue) [it] it (λi h=>h.IsKeyIter it a i Ue.length ep) where
 mem:=by simp
 obj:=λi h st b hb=>by cases Uz.mp hb;obtain ⟨o,e,c,d⟩:=st;exact ⟨o,e,λv z=>by rw [d] at z;cases z⟩
 keep:=λi h h' st k=>st.at λo e=>k it (by simp) o e
 item:=by
  rintro X rfl rfl rfl hc i T9 s σ H E I hf st ⟨hq,hi⟩;obtain ⟨o,es,h1,h2,h3,h4⟩:=(show cM X.prog X.w H s.heap a (lD a ep Ue) from I.hok a _ hq).1;have hl:Ue.length=es.size:=by have:=h4.length;simpa using this
  obtain ⟨p,hp,er⟩:=xg (i:=i) (by simp;omega) h4;obtain ⟨f0,f1,f2,f3,f4,f5⟩:=hf it (by simp);refine GY (es:=es) (ep:=ep) (hl▸st) h1 h3 (by omega) λh' st' sb=>?_;have I1:Inv X T9 σ H {s with heap:=h'}:=I.turned (t':=s.toks) (λb o hb e=>(sb.2 b hb).trans e) f0 f1 f3 f4 f5;obtain ⟨oi,e,c,d⟩:=id st';exact ⟨_,rfl,yj (s:={s with heap:=h'}) e c d (by decide) ⟨p.2.1,H,I1,by simpa using er.2.1,⟨rfl,p,hp,rfl⟩,by rw [hl];exact st',λb hb=>(hf b hb).1⟩⟩
 done:=by
  rintro X rfl rfl rfl hc i T9 s σ H E I hf st ⟨hq,hi⟩;obtain ⟨o,es,h1,h2,h3,h4⟩:=(show cM X.prog X.w H s.heap a (lD a ep Ue) from I.hok a _ hq).1;have hl:Ue.length=es.size:=by have:=h4.length;simpa using this
  obtain ⟨f0,f1,f2,f3,f4,f5⟩:=hf it (by simp);exact JG (es:=es) (ep:=ep) (I.ok.hd hc) (hl▸st) h1 h3 (by omega) λh' eb=>⟨rfl,I.turned (t':=s.toks) (λb o hb e=>eb b o hb e) f0 f1 f3 f4 f5⟩
 self:=λ_ _ _ _ _ st h=>wpAny_pyIter_keyiter st h
section
variable {X:Cx}{c:C}{e tg:U_}{g:G R}
noncomputable def qe (g:G R):G (List D):=λenv=>g env >>= λr=>match uo r with
 | some z=>.ok z.1
 | none=>.bad
theorem Ng {tl:TE}(hl:PE X e tl):PI X tg e (λσ H Q=>tl σ H λx H1=>∃a ep Ue,x=.ref a/\(a == XR)=false/\H1 a=some (lD a ep Ue)/\Q (O3 a ep Ue) H1):=λT9 s σ H R I h=>bM (hl T9 s σ H _ I h) λv s1 ⟨x,H1,I1,r1,a,ep,Ue,ex,hsm,hq,q⟩=>by
 subst ex;cases r1;obtain ⟨o,es,h1,h2,h3,h4⟩:=(show cM X.prog X.w H1 s1.heap a (lD a ep Ue) from I1.hok a _ hq).1;have hl:Ue.length=es.size:=by have:=h4.length;simpa using this
 refine GF hsm h1 h2 h3 ⟨s1.heap.objs.size,[s1.heap.objs.size],_,_,H1,rfl,I1.kept (t':=s1.toks) (λb o e=>Ul _ e),HV a _ ep Ue,⟨_,Us _ rfl,rfl,by rw [hl];rfl⟩,λb hb=>?_,q⟩;cases Uz.mp hb;exact I1.fpOk (Uw _) (I1.hok.fresh (Uw _))
theorem oO (h:QD X c e g) (hK:X.K=c.K:=by rfl):wD X c tg e (qe g):=have h:=h.h;⟨q_ (Ng h) λσ H Q ⟨J,env,sr,w⟩=>by
 refine ⟨J,env,sr,aE (aI w) λr wr v J1 H1 e1 r1=>?_⟩;cases hz:uo r with
 | none=>rw [hz] at wr;exact wr.elim
 | some z=>
  rw [hz] at wr;obtain ⟨a,rfl,us,ws,ep,h1,h2,h3,h4,h5,h6⟩:=r1.dk (sr.hp.ext e1) hz;have hh:∀ds:List D,(cF ds).length=ds.length:=λds=>by induction ds with
   | nil=>rfl
   | cons d ds ih=>show (cF ds).length + 1=_;rw [ih];rfl
  have lk:((cF z.1).zip (us.zip ws)).length=z.1.length:=by rw [ady,ady,hh,<-h2.length,<-h3.length,<-h6];omega
  refine ⟨a,ep,_,rfl,h5,h1,wr _ J1 H1 e1 λi J' H' hp u=>⟨λhl=>⟨u.2 _ _ h1,by omega⟩,λd hd=>?_⟩⟩;have hi:i < z.1.length:=(UR.mp hd).1;obtain ⟨x,k1,k2⟩:=h2.get hd;refine ⟨⟨u.2 _ _ h1,by omega⟩,λy H2 ⟨e,p,hp',hy⟩=>⟨J',by subst e;exact Ext.refl hp.sub,?_⟩⟩;have:p.2.1=x:=by rw [Yv,] at hp';have:=(Yv.mp hp'.2).1;rw [k1] at this;cases this;rfl
  rw [hy,this];exact k2.mono u.1⟩
end
end DL
namespace DL
open PySem PySem.Spec PyProof.Rows L2
section
variable {X:Cx}{c:C}{e:U_}{es:List U_}{g:G R}{pos p:Pos}{x y:Str}
def F_ (K:Ui) (mg:Str->Option Uk) (x:Str):Prop:=∃f,Va K UW x=some (some (.ref f))/\mg x=some (.ref f)
noncomputable def Ew (y:Str) (F:List S->M R) (g:G R):G R:=λenv=>g env >>= λr=>match F [gE r,.fn y] with
 | .ok r=>.ok (nj r)
 | _=>.bad
theorem Ht {k k':Nat}{F:List S->M R}{q:Pos}(G:bu X.prog X.w X.K X.mg X.base k 2 x F) (hv:F_ X.K X.mg y) (hr:dB k' X.A) (ha:QD X c e g) (hk:k<=k':=by decide) (hT:c.K=X.K:=by rfl) (hg:Gl X x:=by rfl) (Tp:Gl X y:=by rfl)
  (hdb:(x == ("__debug__":Str))=false:=by decide) (Sg:(y == ("__debug__":Str))=false:=by decide) (he:Ux [e,.Name y q] X.env=(false,eval e X.env)::Ux [.Name y q] X.env:=by rfl) (RX:Ux [.Name y q] X.env=(false,eval (.Name y q) X.env)::Ux [] X.env:=by rfl)
  (hpl:(Wk pos (Ux [.Name y q] X.env)).any (·.1)=false:=by rfl):QD X c (.Call (.Name x p) [e,.Name y q] [] pos) (Ew y F g):=by obtain ⟨f,fd,ps,h1,h2,h3,h4⟩:=G;obtain ⟨f',h5,h6⟩:=hv;refine ⟨fC (vU (E:=E0) h1 (hr.mono hk) hg h2 h3 h4 .nil Dg (eK ha.h (eK (BJ (v:=.ref f') Tp h6 rfl Sg) gW RX) he) hdb he hpl) λσ H Q ⟨J,env,sr,w⟩=>?_⟩;refine ⟨J,env,sr,aE (aI w) λr wr v J1 H1 e1 r1=>Jc hT e1 ?_ rfl wr⟩;obtain ⟨_,_,e,a1,_⟩:=kr.args (rs:=[r]) (vs:=[v]) (sr.hp.ext e1) ⟨v,[],rfl,r1,rfl⟩;cases e;exact ⟨v,_,rfl,a1,_,_,rfl,⟨f',rfl,hT▸h5⟩,rfl⟩
noncomputable def zx (i:Nat) (x:Str) (g g':G R):G R:=λenv=>match env[i]? with
 | some (some (.fn z))=>if z=x then g env else g' env
 | _=>.bad
def yg:G R:=λ_=>.bad
theorem BO:QD X c e yg:=⟨λ_ _ _ _ _ _ ⟨_,_,_,w⟩=>w.elim⟩
theorem zX (i:Nat){F:List S->M R}{gs:G (List R)}(G:bu X.prog X.w X.K X.mg X.base k n x F) (hv:F_ X.K X.mg x) (hr:dB k' X.A) (ha:i6 X c (e::es) gs) (rest:QD X c (.Call (.Name y p) (e::es) [] pos) g) (hk:k<=k':=by decide) (hT:c.K=X.K:=by rfl)
 (hN:X.N[i]?=some y:=by rfl) (hvs:rY X.env.scope y:=by first | exact Zi rfl | exact XN (Zi rfl) | exact XN (XN rfl)) (hd:(y == ("__debug__":Str))=false:=by decide) (hcd:(y == ("__classdict__":Str))=false:=by decide)
 (he:Ux (e::es) X.env=(false,eval e X.env)::Ux es X.env:=by rfl) (hpl:(Wk pos (Ux es X.env)).any (·.1)=false:=by rfl):QD X c (.Call (.Name y p) (e::es) [] pos) (zx i x (gN (aO n F) gs) g):=by
 refine ⟨λT9 s σ H Q I ⟨J,env,sr,w⟩=>?_⟩;obtain ⟨f,fd,ps,h1,h2,h3,h4⟩:=G;obtain ⟨f',h5,h6⟩:=hv;have ef:f'=f:=by rw [h2] at h6;cases h6;rfl
 subst ef;unfold zx at w;split at w
 ·rename_i z hz;split at w
  ·rename_i ez;subst ez;obtain ⟨_,hv,_,rfl,q⟩:=sr.at_ i _ hz;rw [hT,h5] at q;cases q;refine Xb (bM (lH hN hvs hd hcd T9 s σ H (λv H1=>v=.ref f'/\H1=H) I ⟨_,hv,rfl,rfl⟩) λu s1 ⟨x',H1,I1,rx,ev,eh⟩=>?_);subst ev eh;cases rx;refine abN (h₀:=X.base) I1.ok.mod.kin h3 (bM (ha.h pos T9 s1 σ H1 _ I1 (yT hT σ H1 Q ⟨J,env,sr,w⟩)) λus s2 ⟨vs,H2,I2,r,q⟩=>⟨I2.kIn,?_⟩) he hpl;exact Fz h1 (hr.mono hk) h4 .nil Dg I2 r q
  ·exact rest.h T9 s σ H Q I ⟨J,env,sr,w⟩
 ·exact w.elim
end
end DL
namespace K33
open PySem DL
def DN:List Str:=["pairing","pair"]
def Ey:G O:=(br (gN (aO 1 K23.c7) (ao (g2 bY (af 0) (bB (az (af 1) aP))) aC)))
def t_ (as:List S):M R:=fin (Ey (aW DN as))
def mZ:List Str:=["rows","stays","depths","depth","gone","pairing"]
def mY:List Str:=["one","other","base"]
noncomputable def nv:G O:=(br (cB 1 [2] (jL (gN (aO 3 K23.lR) (ao (af 0) (ao (af 1) (ao (gC (.int 4)) aC))))) (aD 0) (bw (gN qb (ao (cB 1 [0] (jL (af 1)) (aD 0) dY (g2 (fH false) (af 0) (af 1))) aC))) (af 0)))
def ig (as:List S):M R:=fin (nv (aW mY as))
def pW:List Str:=["depths","pairing","depth"]
noncomputable def wU:G O:=(br (jV (g2 (tu false) (af 1) (af 0)) (tH (g2 (iL false) (g2 iT (af 0) (af 1)) (gC .non)) (g2 (qd λi j=>.bl (decide (j < i))) (g2 iT (af 0) (af 1)) (af 2)))))
def iZ (as:List S):M R:=fin (wU (aW pW as))
def ug:List Str:=["depths","depth"]
noncomputable def uN:G O:=(br (cB 1 [0] (b9 (ao (g2 iO (af 1) (gC (.int 1))) aC)) (aD 0) dY (cB 1 [1,0] (qe (af 1)) (aD 0) (bw (gN (aO 3 K33.iZ) (ao (af 1) (ao (af 0) (ao (af 2) aC))))) (af 0))))
def kC (as:List S):M R:=fin (uN (aW ug as))
end K33
namespace K33
open PySem DL K01 WP K51 K52 K55 K23
abbrev Ps:=List (Nat×Nat)
section
variable {κ:Type}{Ud:κ->List (List κ)}{st:(κ->Bool)->κ->Bool}{i j d e:Nat}{k:κ}{ks:List κ}
noncomputable def LZ (st:(κ->Bool)->κ->Bool):Nat->κ->Bool
 | 0,_=>true
 | j + 1,k=>LZ st j k && st (LZ st j) k
theorem yD:LZ st (j + 1) k=true↔LZ st j k=true/\st (LZ st j) k=true:=by show (LZ st j k && _)=true↔_;rw [Uq]
theorem qO (h:i<=j) (q:LZ st j k=true):LZ st i k=true:=by
 induction h with
 | refl=>exact q
 | step _ ih=>exact ih (yD.mp q).1
def dZ (st:(κ->Bool)->κ->Bool) (d:Nat) (k:κ):Option Nat:=(Ur (d + 1)).find? λj=>!LZ st j k
theorem jJ:dZ st d k=none↔LZ st d k=true:=by
 unfold dZ;rw [YR];constructor
 ·intro h;simpa using h d (by simp)
 ·intro h j hj;rw [qO (by have:=UP.mp hj;omega) h];decide
theorem Bj (h:dZ st d k=some e):LZ st e k=false/\e<=d/\∀i,i < e->LZ st i k=true:=by obtain ⟨h1,h3,h2⟩:=YD.mp h;exact ⟨by simpa using h1,by have:=UP.mp h3;omega,λi hi=>by simpa using h2 i hi⟩
theorem JB:dZ st (d + 1) k=if (LZ st d k && !LZ st (d + 1) k)=true then some (d + 1) else dZ st d k:=by
 have e:dZ st (d + 1) k=(dZ st d k).or ([d + 1].find? λj=>!LZ st j k):=by show (Ur (d + 1 + 1)).find? _=_;rw [Xw,List.find?_append];rfl
 rw [e];cases q:dZ st d k with
 | none=>
  rw [jJ.mp q];cases z:LZ st (d + 1) k <;> simp [List.find?,z]
 | some e=>
  have:LZ st d k=false:=by
   cases z:LZ st d k with
   | false=>rfl
   | true=>rw [jJ.mpr z] at q;cases q
  rw [this];rfl
theorem Ds (hm:∀(L L':κ->Bool),∀k∈ks,(∀x∈ks,L x=true->L' x=true)->st L k=true->st L' k=true) (h:∀k∈ks,LZ st d k=true->LZ st (d + 1) k=true):∀j,∀k∈ks,LZ st d k=true->LZ st j k=true
 | 0,_,_,_=>rfl
 | j + 1,k,hk,q=>yD.mpr ⟨Ds hm h j k hk q,hm _ _ k hk (Ds hm h j) (yD.mp (h k hk q)).2⟩
noncomputable def mq (o:Option Nat) (j:Nat):Bool:=match o with
 | none=>true
 | some e=>decide (j < e)
theorem Mh (hs:∀j,LZ st d k=true->LZ st j k=true):mq (dZ st d k) j=LZ st j k:=by
 cases q:dZ st d k with
 | none=>exact (hs j (jJ.mp q)).symm
 | some e=>
  obtain ⟨h1,_,h2⟩:=Bj q;show decide (j < e)=_;by_cases c:j < e
  ·rw [h2 j c,decide_eq_true c]
  ·cases z:LZ st j k with
   | false=>exact decide_eq_false c
   | true=>rw [qO (by omega) z] at h1;cases h1
end
def BW (ps:Ps):Ps:=(gm (ps.map dP)).map As
theorem yr (ps:Ps):∀d∈ps.map dP,mG pF d:=λd hd=>by obtain ⟨x,_,rfl⟩:=UD.mp hd;exact zC x
theorem Am (ps:Ps):(BW ps).map dP=gm (ps.map dP):=back dP As vh λd hd=>by obtain ⟨x,_,rfl⟩:=UD.mp ((FL (jW pF) (yr ps)).2 d hd);exact ⟨x,rfl⟩
theorem Iw {ps:Ps}:dP p∈ps.map dP↔p∈ps:=by rw [UD];exact ⟨λ⟨q,h,e⟩=>by rw [<-vh p,<-e,vh];exact h,λh=>⟨p,h,rfl⟩⟩
theorem q9:q∈BW ps↔q∈ps:=by rw [<-Iw,Am,(t6 (jW pF) (yr ps)).2,Iw]
theorem FN (ps:Ps):(BW ps).Pairwise pI:=by have:=(t6 (jW pF) (yr ps)).1;rw [<-Am,Vu] at this;exact this.imp fun {a b} h=>(uU a b).mp h
theorem N9 {A B:Ps}(hA:A.Pairwise pI) (hB:B.Pairwise pI) (h:∀y,y∈A↔y∈B):A=B:=by
 have up:∀{C:Ps},C.Pairwise pI->(C.map dP).Pairwise λa b=>eF a b=true:=fun {C} hC=>Vu.mpr (hC.imp fun {a b} h=>(uU a b).mpr h);have e:=Au (jW pF) (yr A) (up hA) (up hB) λy=>by rw [UD,UD];exact ⟨λ⟨q,a,b⟩=>⟨q,(h q).mp a,b⟩,λ⟨q,a,b⟩=>⟨q,(h q).mpr a,b⟩⟩
 have:=congrArg (aeg As) e;simpa only [Vn,aak,vh,List.map_id'] using this
section
variable {v w:Wd}{ps qs S:Ps}{p:Nat×Nat}{n j:Nat}
structure yz (v w:Wd) (S:Ps):Prop where
 ag:∀p∈S,∀q∈S,pO v w p q
 rg:∀p∈S,jY v w p
theorem yz.sub (h:yz v w S) (hs:∀p∈ps,p∈S):yz v w ps:=⟨λp hp q hq=>h.ag p (hs p hp) q (hs q hq),λp hp=>h.rg p (hs p hp)⟩
theorem Bs (g:Good v w ps):ps.Pairwise pI:=g.up.imp λh=>.inl h
theorem zB (hu:ps.Pairwise pI):Good v w ps↔yz v w ps:=⟨λg=>⟨g.ag,g.rg⟩,λf=>⟨hu.imp_of_mem fun {a b} ha hb h=>by
 have:=(f.ag a ha b hb).eq;unfold pI at h;omega,f.ag,f.rg⟩⟩
theorem tM (g:Good v w ps):ps.length<=v.m:=by
 have h:=Vs (l₁:=ps.map Ve) (l₂:=Ur v.m) (Vu.mpr (g.up.imp λh=>by omega)) λx hx=>by obtain ⟨p,hp,rfl⟩:=UD.mp hx;exact UP.mpr (g.rg p hp).1
 simpa using h
abbrev T4 (v w:Wd):List Ps:=told v w 4
theorem jA (t:Pr v w):ps∈T4 v w↔Good v w ps:=by
 rw [kY];constructor
 ·rintro ⟨j,_,h⟩;exact ((iN j).mp h).2
 ·intro g;exact ⟨ps.length,U1 (tM g) t.v4,(iN _).mpr ⟨rfl,g⟩⟩
theorem Ii (v w:Wd):∀j,(LG v w j).Nodup
 | 0=>VZ _ _
 | j + 1=>by
  refine aa7.mpr ⟨λah _=>Vu.mpr ?_,(Ii v w j).imp_of_mem fun {a b} _ _ hab x hx y hy e=>?_⟩
  ·exact (((uV v.m w.m).filter _).filter _).imp λh e=>h (by simpa using e)
  ·obtain ⟨p,_,rfl⟩:=UD.mp hx;obtain ⟨q,_,rfl⟩:=UD.mp hy;exact hab (List.append_inj' e rfl).1
theorem BZ (v w:Wd):∀j,(told v w j).Nodup
 | 0=>VZ _ _
 | j + 1=>Wx.mpr ⟨BZ v w j,Ii v w (j + 1),λa ha b hb e=>by
  obtain ⟨i,hi,h⟩:=(kY j).mp ha;have h1:=(nT i h).1;have h2:=(nT (j + 1) hb).1;rw [e] at h1;omega⟩
def bT (ps:Ps) (p:Nat×Nat):Ps:=BW (ps++[p])
theorem iw:q∈bT ps p↔q∈ps\/q=p:=by unfold bT;rw [q9];simp
theorem Co (t:Pr v w):bT ps p∈T4 v w↔yz v w (ps++[p]):=by rw [jA t,bT,zB (FN _)];exact ⟨λh=>h.sub λq hq=>q9.mpr hq,λh=>h.sub λq hq=>q9.mp hq⟩
def kn (v w:Wd) (B:Ps):List Ps:=(T4 v w).filter λps=>B.all λq=>decide (q∈ps)
theorem lG:ps∈kn v w B↔ps∈T4 v w/\∀q∈B,q∈ps:=by unfold kn;rw [VE,U4];simp
end
end K33
namespace K33
open PySem DL K01 WP K51 K52 K55 K23 K22
section
variable {α:Type} [DecidableEq α] {e:α->D}{f:α->D}{ks:List α}{k:α}{d:D}
theorem nD (he:∀a b,bh (e a) (e b)=decide (a=b)) (f:α->D):∀(ks:List α) (k:α),gz (ks.map e) (ks.map f) (e k)=if k∈ks then some (f k) else none
 | [],_=>rfl
 | a::ks,k=>by
  rw [UH,UH,gz,he,nD he f ks k];by_cases h:a=k
  ·subst h;simp
  ·rw [if_neg (by simpa using h)];simp [Ws h]
theorem BN (he:∀a b,bh (e a) (e b)=decide (a=b)) (f:α->D) (k:α) (d:D):∀ks:List α,vV (ks.map e) (ks.map f) (e k) d=ks.map λx=>if x=k then d else f x
 | []=>rfl
 | a::ks=>by rw [UH,UH,vV,he,BN he f k d ks,UH];simp only [decide_eq_true_eq]
theorem Gp (he:∀a b,bh (e a) (e b)=decide (a=b)) (hk:k∈ks):dput (ks.map e,ks.map f) (e k) d=(ks.map e,ks.map λx=>if x=k then d else f x):=by unfold dput;simp only;rw [nD he,if_pos hk,BN he];rfl
theorem Bk (he:∀a b,bh (e a) (e b)=decide (a=b)) (f:α->D):∀(n:Nat) (ks:List α),ks.length=n->ks.Nodup->jG (ks.map λk=>D.tup [e k,f k])=(ks.map e,ks.map f)
 | 0,ks,h,_=>by rw [WT.mp h];rfl
 | n + 1,ks,h,nd=>by
  rcases Wh ks with rfl | ⟨qs,p,rfl⟩
  ·cases h
  ·rw [Wi] at h nd ⊢;have nd':=Wx.mp nd;have hp:p∉qs:=λhq=>nd'.2.2 p hq p (by simp) rfl;rw [UN,UN,UN,UH,aaX,nZ,Bk he f n qs (by simpa using h) nd'.1];unfold dput;simp only;rw [nD he,if_neg hp];rfl
end
theorem kG (a b:Ps):bh (aS a) (aS b)=decide (a=b):=by
 show cD (a.map dP) (b.map dP)=_
 induction a generalizing b with
 | nil=>cases b <;> simp [cD]
 | cons x a ih=>
  cases b with
  | nil=>simp [cD]
  | cons y b=>rw [UH,UH,iu,ih,K55.Bm,Vk];simp
theorem Mk {m:Md}(p:Ps) (L:List Ps) (x:R) (hx:iK x=.ok (L.map aS)):fH false (.d (aS p)) x=.ok (.d (.bl (decide (p∈L)))):=by
 have h1:∀q:Ps,dep (aS q)<=60:=zW;unfold fH;rw [hx,aQ,if_pos ⟨gJ λd hd=>by obtain ⟨q,_,rfl⟩:=UD.mp hd;exact h1 q,h1 p⟩];have:inD (aS p) (L.map aS)=decide (p∈L):=by unfold inD;rw [acL,Vk,Wr,decide_eq_true_eq];simp only [aak,kG,decide_eq_true_eq];exact ⟨λ⟨x,h,e⟩=>e▸h,λh=>⟨p,h,rfl⟩⟩
 show M.ok (R.d (.bl (inD (aS p) (L.map aS))))=_;rw [this]
theorem Ic (ps:Ps) (hl:ps.length < 64):c7 [.d (aS ps)]=.ok (.d (aS (BW ps))):=by refine cg (gA (bH (b:=false) rfl rfl rfl) (bE (n1 (n1 (x:=.d (aS ps)) (z:=.l .fresh (gm (ps.map dP))) rfl (P7 ps hl)) rfl) rfl ?_));rw [<-Am]
theorem NL {ps:Ps}(h:ps.Pairwise pI):BW ps=ps:=N9 (FN ps) h λ_=>q9
theorem za (ps:Ps) (p:Nat×Nat) (hl:ps.length < 63):bY (.d (aS ps)) (.d (.tup [dP p]))=.ok (.d (aS (ps++[p]))):=by rw [aS,yq _ _ (by simp;omega),aS,UN];rfl
theorem Jj (ps:Ps) (p:Nat×Nat) (hl:ps.length < 63):t_ [.d (aS ps),.d (dP p)]=.ok (.d (aS (bT ps p))):=
 cg (bE (c1 (two rfl (bD (aL rfl rfl bg) (by show 1<=1000;decide)) (za ps p hl)) (Ic _ (by simp;omega))) rfl rfl)
section
variable {α:Type} [DecidableEq α] {e f:α->D}{ks:List α}{k:α}{env:Ev}
theorem O_ {act:Ev->M (List D×Ev)}{h f:α->D}{rest:Ev}:∀(ys:List α),(∀y∈ys,act (some (.d (h y))::rest)=.ok ([f y],some (.d (h y))::rest))->∀z:Option S,∃z',bW (aD 0) dY act (ys.map h) (z::rest)=.ok (ys.map f,z'::rest)
 | [],_,z=>⟨z,rfl⟩
 | y::ys,H,z=>by obtain ⟨z',ih⟩:=O_ ys (λy hy=>H y (Uu _ hy)) (some (.d (h y)));refine ⟨z',?_⟩;rw [UH];unfold bW;show (act (some (.d (h y))::rest) >>= _)=_;rw [H y Uv,aQ];show (bW (aD 0) dY act (ys.map h) (some (.d (h y))::rest) >>= _)=_;rw [ih];rfl
theorem En {gi:G (List D)}{gk gv:G R}(he:∀a b,bh (e a) (e b)=decide (a=b)) (nd:ks.Nodup) (hi:gi env=.ok (ks.map e)) (hl:ks.length<=1000000)
 (hb:∀k∈ks,dQ (e k)=true/\gk (some (.d (e k))::cE 0 cap env)=.ok (.d (e k))/\∃r,gv (some (.d (e k))::cE 0 cap env)=.ok r/\toD r=.ok (f k)):kU 1 cap gi (aD 0) dY gk gv env=.ok (.mf (ks.map e) (ks.map f)):=by
 obtain ⟨z,h⟩:=O_ (act:=sW gk gv) (h:=e) (f:=λk=>.tup [e k,f k]) (rest:=cE 0 cap env) ks (λk hk=>by
  obtain ⟨h1,h2,r,h3,h4⟩:=hb k hk;exact A6 h2 rfl h3 h4 h1) none
 unfold kU jw;rw [hi,aQ,if_pos (by rw [Uo];exact hl)];show (bW (aD 0) dY (sW gk gv) (ks.map e) (none::cE 0 cap env) >>= _)=_;rw [h];show M.ok (R.mf (jG _).1 (jG _).2)=_;rw [Bk he f _ ks rfl nd]
theorem vG (he:∀a b,bh (e a) (e b)=decide (a=b)) (hx:uo x=some (ks.map e,ks.map f)) (ok:dQ (e k)=true) (hk:k∈ks):iT x (.d (e k))=.ok (.d (f k)):=by unfold iT;rw [hx];simp only;rw [if_pos ok,nD he,if_pos hk]
theorem JO (he:∀a b,bh (e a) (e b)=decide (a=b)) (hx:uo x=some (ks.map e,ks.map f)) (ok:dQ (e k)=true):tu false (.d (e k)) x=.ok (.d (.bl (@decide (k∈ks) q))):=by unfold tu;rw [hx];simp only;rw [if_pos ok,nD he];by_cases h:k∈ks <;> simp [h]
end
section
variable {v w:Wd}
abbrev oR (r:List Ps):D:=.lst (r.map aS)
end
noncomputable def dV:Option Nat->D
 | none=>.non
 | some e=>.int e
theorem IL (o:Option Nat):iL false (.d (dV o)) (.d .non)=.ok (.d (.bl o.isNone)):=by cases o <;> rfl
theorem part {κ:Type}{p q:κ->Bool}(h:∀k,q k=true->p k=true):∀l:List κ,(l.filter p).length=(l.filter q).length + (l.filter λk=>p k && !q k).length
 | []=>rfl
 | a::l=>by
  have ih:=part h l;cases hq:q a with
  | true=>simp [h a hq,hq];omega
  | false=>cases hp:p a <;> simp [hp,hq] <;> omega
abbrev eP (x:Str) (ks:List Ps) (val:Ps->D) (f:Ps->Option Nat) (d:Nat) (g z:Option S):Ev:=[some (.db (ks.map aS) (ks.map val)),some (.fn x),some (.dk (ks.map aS) (ks.map λk=>dV (f k))),some (.d (.int d)),g,z]
noncomputable def IJ (c1 c2:G R):G O:=(aH (bf 2 (kU 1 [] (qe (af 0)) (aD 0) dY (af 0) (gC .non)))
 (aH (bf 3 (gC (.int 1)))
 (aH (bf 4 (cB 1 [1,0,2] (qe (af 0)) (aD 0) (gM (bw c1)) (af 0)))
 (aH (uL 400000 (tK (af 4)) (aH (fF 4 (cu (fO (af 4)) (aD 5) (vL 2 (af 5) (af 3))))
 (aH (tG 3 vH (gC (.int 1)))
 (bf 4 (cB 1 [2,1,0] (qe (af 0)) (aD 0) (iU (bw (g2 (iL false) (g2 iT (af 1) (af 0)) (gC .non))) (gM (bw c2))) (af 0))))))
 (br (af 2))))))
abbrev Pc (i r d:Nat) (x:Str) (F:List S->M R):G R:=zx i x (gN (aO 2 F) (ao (g2 iT (af r) (af 0)) (ao (af d) aC))) yg
section
variable {ks:List Ps}{Ud:Ps->List (List Ps)}{st:(Ps->Bool)->Ps->Bool}{val:Ps->D}{c1 c2:G R}{x:Str}
theorem Lv (ok:Nat->Prop) (o0:ok 0) (os:∀d,ok d->∀k∈ks,LZ st d k=true->LZ st (d + 1) k=false->ok (d + 1)) (nd:ks.Nodup) (hl:ks.length<=390000)
  (h1:∀k∈ks,∀d,ok d->c1 [some (.d (aS k)),some (.fn x),some (.db (ks.map aS) (ks.map val)),some (.dk (ks.map aS) (ks.map λk=>dV (dZ st d k)))]=.ok (.d (.bl (st (LZ st d) k))))
  (h2:∀k∈ks,∀d,ok d->c2 [some (.d (aS k)),some (.dk (ks.map aS) (ks.map λk=>dV (dZ st d k))),some (.fn x),some (.db (ks.map aS) (ks.map val))]=.ok (.d (.bl (st (LZ st d) k)))):
  ∃d,ok d/\fin (IJ c1 c2 (aW mZ [.db (ks.map aS) (ks.map val),.fn x]))=.ok (.mf (ks.map aS) (ks.map λk=>dV (dZ st d k)))/\∀k∈ks,LZ st d k=true->LZ st (d + 1) k=true:=by
 have key:Wp (IJ c1 c2 (aW mZ [.db (ks.map aS) (ks.map val),.fn x])) λo=>∃r,o=.rt r/\∃d,ok d/\r=.mf (ks.map aS) (ks.map λk=>dV (dZ st d k))/\∀k∈ks,LZ st d k=true->LZ st (d + 1) k=true:=by
  refine bC (En (e:=aS) (f:=λk=>dV (dZ st 0 k)) (ks:=ks) kG nd rfl (by omega) λk hk=>⟨j4 k,rfl,_,rfl,by rw [jJ.mpr rfl];rfl⟩) rfl (bC rfl rfl (bC (uz (xs:=ks) (h:=aS) (λk=>LZ st 0 k && !LZ st 1 k) aS rfl (by omega) λk hk=>⟨?_,λ_=>⟨_,rfl,rfl⟩⟩) rfl ?_))
  ·exact iy (b:=LZ st 1 k) (iI (h1 k hk 0 o0))
  ·refine K7 (λn env=>∃d z,ok d/\env=eP x ks val (dZ st d) (d + 1) (some (.own ((ks.filter λk=>LZ st d k && !LZ st (d + 1) k).map aS))) z/\n=(ks.filter (LZ st d)).length) (ks.filter (LZ st 0)).length (by have:=VR (LZ st 0) ks;omega) ⟨0,none,o0,rfl,rfl⟩ ?_;rintro n _ ⟨d,z,od,rfl,rfl⟩;obtain ⟨g,hg⟩:∃g,g=ks.filter λk=>LZ st d k && !LZ st (d + 1) k:=⟨_,rfl⟩;rw [<-hg];have hm:∀k,k∈g↔k∈ks/\LZ st d k=true/\LZ st (d + 1) k=false:=λk=>by rw [hg,VE];simp
   by_cases h0:g=[]
   ·refine .inl ⟨by rw [h0];rfl,bE rfl rfl ⟨_,rfl,d,od,rfl,λk hk q=>?_⟩⟩;cases z:LZ st (d + 1) k with
    | true=>rfl
    | false=>have:=(hm k).mpr ⟨hk,q,z⟩;rw [h0] at this;cases this
   ·have od1:ok (d + 1):=by obtain ⟨y,hy⟩:=List.exists_mem_of_ne_nil g h0;obtain ⟨a,b,c⟩:=(hm y).mp hy;exact os d od y a b c
    refine .inr ⟨?_,?_⟩
    ·show M.ok (!(g.map aS).isEmpty)=_;cases g with
     | nil=>exact absurd rfl h0
     | cons _ _=>rfl
    have TJ:=part (p:=LZ st d) (q:=LZ st (d + 1)) (λk h=>qO (Yy d) h) ks;rw [<-hg] at TJ;have g0:0 < g.length:=List.length_pos_iff.mpr h0;refine b_ (rK rfl (mz (ds:=g.map aS) rfl (kc (λi env=>∃z,env=eP x ks val (λk=>if k∈g.take i then some (d + 1) else dZ st d k) (d + 1) (some (.d (.lst (g.map aS)))) z) (g.map aS) ⟨z,by simp⟩ ?_ ?_)))
    ·rintro i hi _ ⟨z,rfl⟩;have hi':i < g.length:=by simpa using hi
     have e:(g.map aS)[i]=aS g[i]:=VT ..;have hk:g[i]∈ks:=((hm _).mp (U9 hi')).1;rw [e];have ev:dput (ks.map aS,ks.map λk=>dV (if k∈g.take i then some (d + 1) else dZ st d k)) (aS g[i]) (.int ((d + 1:Nat):Int))=(ks.map aS,ks.map λk=>dV (if k∈g.take (i + 1) then some (d + 1) else dZ st d k)):=by
      rw [Gp kG hk,Yw,UA hi'];congr 1;refine Wf λk _=>?_;simp only [US,Option.toList_some,Uz];by_cases c:k=g[i]
      ·rw [if_pos c,if_pos (.inr c)];rfl
      ·simp only [c,if_false,or_false]
     exact ⟨_,rfl,Oi (ks:=ks.map aS) (vs:=ks.map λk=>dV (if k∈g.take i then some (d + 1) else dZ st d k)) rfl rfl rfl rfl rfl (j4 g[i]) (by rw [Uo];omega) ⟨_,rfl,some (.d (aS g[i])),by rw [ev];rfl⟩⟩
    ·rintro _ ⟨z,rfl⟩;have ev:(ks.map λk=>dV (if k∈g.take (g.map aS).length then some (d + 1) else dZ st d k))=ks.map λk=>dV (dZ st (d + 1) k):=Wf λk hk=>by
      rw [Uo,Xa,JB];congr 1;by_cases c:k∈g
      ·rw [if_pos c,if_pos (by obtain ⟨_,a,b⟩:=(hm k).mp c;rw [a,b];rfl)]
      ·rw [if_neg c,if_neg λz=>c ((hm k).mpr ⟨hk,by simpa using z⟩)]
     show Wp _ _;unfold eP;rw [ev];refine b_ (Oh rfl rfl rfl rfl (fK (uz (xs:=ks) (h:=aS) (λk=>LZ st (d + 1) k && !LZ st (d + 1 + 1) k) aS rfl (by omega) λk hk=>⟨?_,λ_=>⟨_,rfl,rfl⟩⟩) rfl ⟨(ks.filter (LZ st (d + 1))).length,by omega,d + 1,z,od1,rfl,rfl⟩));have q1:=vG (f:=λk=>dV (dZ st (d + 1) k)) (ks:=ks) (k:=k) (e:=aS) kG (x:=.mo (ks.map aS) (ks.map λk=>dV (dZ st (d + 1) k))) rfl (j4 k) hk;cases c:LZ st (d + 1) k with
     | false=>
      refine gS (bH (two rfl rfl q1) rfl ((IL _).trans ?_));cases z:dZ st (d + 1) k with
      | none=>rw [jJ.mp z] at c;cases c
      | some _=>rfl
     | true=>
      rw [jJ.mpr c] at q1;refine fj (bH (two rfl rfl q1) rfl (IL none)) (iy (b:=LZ st (d + 1 + 1) k) (iI ((h2 k hk (d + 1) od1).trans ?_)));show M.ok (R.d (.bl _))=M.ok (R.d (.bl (LZ st (d + 1) k && _)));rw [c];rfl
 obtain ⟨r,h,d,od,rfl,hs⟩:=oW key;exact ⟨d,od,h,hs⟩
end
section
variable {v w:Wd}{B:Ps}
theorem Ck (t:Pr v w):(T4 v w).length<=327680:=oV t 4 (Uw _)
theorem O9 (t:Pr v w){ps:Ps}(h:ps∈T4 v w):ps.length<=4:=U1 (tM ((jA t).mp h)) t.v4
theorem Jl (t:Pr v w) (hB:B.length<=100):ig [.d v.d,.d w.d,.d (aS B)]=.ok (.l .fresh ((kn v w B).map aS)):=by
 have tl:=Ck t;refine cg (bE (uz (xs:=T4 v w) (h:=aS) (λps=>B.all λq=>decide (q∈ps)) aS ?_ (by omega) λps _=>⟨?_,λ_=>⟨_,rfl,rfl⟩⟩) rfl rfl)
 ·show (gN _ _ _ >>= _)=_;rw [c3 rfl rfl rfl (Cc t 4 (Uw _))];rfl
 ·refine iI (n1 (mK (xs:=B) (h:=dP) (λq=>.bl (decide (q∈ps))) rfl (by omega) λq _=>⟨_,two rfl rfl (Mj q ps),by rw [K55.Mi];rfl⟩) (allM _ B))
theorem Ib (ks:List Ps) (f:Ps->Option Nat) (p:Ps) (j:Nat):iZ [.db (ks.map aS) (ks.map λk=>dV (f k)),.d (aS p),.d (.int j)]=.ok (.d (.bl (decide (p∈ks) && mq (f p) j))):=by
 have hi:=JO (ks:=ks) (f:=λk=>dV (f k)) kG (x:=.mb (ks.map aS) (ks.map λk=>dV (f k))) rfl (j4 p) (q:=inferInstance);refine cg (bE (r:=.d (.bl (decide (p∈ks) && mq (f p) j))) ?_ rfl rfl);unfold jV;rw [show g2 (tu false) (af 1) (af 0) (aW pW [.db (ks.map aS) (ks.map λk=>dV (f k)),.d (aS p),.d (.int j)])=_ from two rfl rfl hi,aQ];by_cases h:p∈ks
 ·rw [decide_eq_true h];have hd:=vG (ks:=ks) (f:=λk=>dV (f k)) kG (x:=.mb (ks.map aS) (ks.map λk=>dV (f k))) rfl (j4 p) h;show tH _ _ _=M.ok (R.d (.bl (mq (f p) j)));cases q:f p with
  | none=>rw [q] at hd;exact Kn (two (two rfl rfl hd) rfl rfl)
  | some e=>
   rw [q] at hd;refine MZ (two (two rfl rfl hd) rfl rfl) (two (two rfl rfl hd) rfl ?_);show M.ok (R.d (.bl (decide ((j:Int) < (e:Int)))))=M.ok (R.d (.bl (decide (j < e))));rw [show decide ((j:Int) < (e:Int))=decide (j < e) by rw [Vk];simp]
 ·rw [decide_eq_false h];rfl
theorem N5 (ks:List Ps) (f:Ps->Option Nat) (n:Nat) (hn:n<=100) (hl:ks.length<=1000000):kC [.db (ks.map aS) (ks.map λk=>dV (f k)),.d (.int n)]=.ok (.l .fresh ((Ur (n + 1)).map λj=>oR (ks.filter λk=>mq (f k) j))):=by refine cg (bE (mK (xs:=Ur (n + 1)) (h:=dN) (λj=>oR (ks.filter λk=>mq (f k) j)) (mP (n:=n + 1) (cT (two rfl rfl rfl)) (by omega)) (by simp;omega) λj _=>⟨_,uz (xs:=ks) (h:=aS) (λk=>mq (f k) j) aS rfl hl λk hk=>⟨fW ((c3 rfl rfl rfl (Ib ks f k j)).trans ?_),λ_=>⟨_,rfl,rfl⟩⟩,rfl⟩) rfl rfl);rw [decide_eq_true hk,YT]
theorem Pk (d m:Nat) (hd:d<=m):K55.dg [.d (.int d),.d (.int 0),.d (.int m)]=.ok (.d .non):=by refine qL (vP ?_ (fQ ⟨_,rfl⟩));show (if decide ((d:Int) < 0)=true then M.ok true else M.ok (decide ((m:Int) < d)))=M.ok false;rw [decide_eq_false (show ¬(d:Int) < 0 by omega),decide_eq_false (show ¬(m:Int) < d by omega)];rfl
theorem ME:kn v w []=T4 v w:=ZK.mpr λ_ _=>rfl
end
end K33
namespace K33
open PySem DL K01 WP K51 K52 K55 K23
section
variable {v w:Wd}{ps qs:Ps}{n j:Nat}
def sd (s:Nat) (p:Nat×Nat):Nat:=if s=0 then p.1 else p.2
theorem many (h:∀x,x < m->∃p∈qs,sd s p=x):m<=qs.length:=by
 have:=Vs (l₁:=Ur m) (l₂:=qs.map (sd s)) W9 λx hx=>by obtain ⟨p,hp,e⟩:=h x (UP.mp hx);exact UD.mpr ⟨p,hp,e⟩
 simpa using this
end
end K33
namespace K33
open PySem DL K01 WP K51 K52 K55 K23 K22
theorem nF (i:Int) (m:Nat) (h:0 < m):∃k:Nat,i % (m:Int)=k/\k < m:=by obtain ⟨k,hk⟩:=MO (YX i (b:=m) (by omega));have:=YQ i (b:=m) (by omega);exact ⟨k,hk,by omega⟩
end K33
namespace DL
open PySem PySem.Spec PyProof.Rows L2
section
variable {X:Cx}{c:C}{o a b:U_}{go ga gb:G R}{apos cpos:Pos}
noncomputable def Gw (go ga gb:G R):G R:=λenv=>go env >>= λr=>match uo r with
 | some z=>ga env >>= λk=>gb env >>= λe=>(match k,e with
  | .d k,.d e=>if dQ k=true then .ok (.d ((gz z.1 z.2 k).getD e)) else .bad
  | _,_=>.bad)
 | none=>.bad
theorem KY (hu:X.A.units + 64 < V6) (ho:QD X c o go) (ha:QD X c a ga) (hb:QD X c b gb) (hK:X.K=c.K:=by rfl) (hbase:Yg o "get" X.env (eval o X.env)=eval o X.env:=by rfl) (hline:(apos.endLine == cpos.line)=true:=by rfl)
  (htr:Wk cpos (Ux [a,b] X.env)=[(false,eval a X.env),(false,eval b X.env)]:=by rfl):QD X c (.Call (.Attribute o "get" apos) [a,b] [] cpos) (Gw go ga gb):=by
 refine ⟨λT9 s σ H Q I ⟨J,env,sr,w⟩=>?_⟩;refine wpAny_Call_method2_late hbase hline htr (bM (ho.h T9 s σ H (λx H1=>∃J1 r,Ext J H J1 H1/\RR c H J1 H1 r x/\cA _ _ _) I ⟨J,env,sr,aE (aI w) λr wr v J1 H1 e1 r1=>⟨J1,r,e1,r1,wr⟩⟩) λov s1 ⟨x,H1,I1,rx,J1,r,e1,r1,wr⟩=>?_);split at wr
 ·rename_i z hz;obtain ⟨p,rfl,hd⟩:=r1.dk (sr.hp.ext e1) hz;cases rx;obtain ⟨us,ws,ep,h1,_,_,_,hsm,_⟩:=id hd;obtain ⟨ob,es,g1,g2,_⟩:=(fk I1).d _ _ _ h1;refine ⟨"dict","dict.get",PySem.F.plainAttrs_dict,PySem.F.slot_dict_get,PySem.F.type_dict_get,⟨ob,g1,g2.1⟩,λq e=>⟨ob,by cases e;exact g1,g2.2.1⟩,?_⟩;refine wpAny_dict_get2_heap (knd:=mO X.prog X.w) (by show X.A.units + 1 + 16 < V6;omega) hsm (bM (ha.h T9 s1 σ H1 (λx H2=>∃J2 r,Ext J1 H1 J2 H2/\RR c H1 J2 H2 r x/\cA _ _ _) I1 ⟨J1,env,sr.ext e1,aE (aI wr) λr wr v J2 H2 e2 r2=>⟨J2,r,e2,r2,wr⟩⟩) λkv s2 ⟨y,H2,I2,ry,J2,r',e2,r2,wr⟩=>?_);refine bM (hb.h T9 s2 σ H2 (λx H3=>∃J3 r,Ext J2 H2 J3 H3/\RR c H2 J3 H3 r x/\cA _ _ _) I2 ⟨J2,env,(sr.ext e1).ext e2,aE (aI wr) λr wr v J3 H3 e3 r3=>⟨J3,r,e3,r3,wr⟩⟩) λdv s3 ⟨y',H3,I3,ry',J3,r'',e3,r3,wr⟩=>?_;have e4:=e1.trans (e2.trans e3);split at wr
  ·rename_i k e _ _;split at wr
   ·rename_i ok;have F:HF X.K J3 s3:=HF.of (c:=⟨X.K,H3,H3,λ_=>True⟩) I3 e3.sub;have Te:eE X.K J3 H3 p z.1 z.2:=hK▸hd.mono (e2.j.trans e3.j) (e2.h.trans e3.h);have hk:Rep X.K J3 k y:=hK▸Rep.mono e3.j r2;obtain ⟨kx,rfl,k1,k2⟩:=iz ok;obtain ⟨q,rfl⟩:∃q,y=.ref q:=by cases hk;exact ⟨_,rfl⟩
    cases ry;obtain ⟨xs,us,ws,hm,m2,_,hv,m4,_,_⟩:=n5 (P:=X.prog) (w:=X.w) F (fk I3) Te;obtain ⟨l1,l2⟩:=uq (K:=X.K) (J:=J3) ⟨.tup kx,k1,k2⟩ m2 hv m4;refine ⟨q,⟨.tup kx,k1,k2⟩,xs,rfl,jR F k1 hk,hm,?_⟩;cases q2:gz z.1 z.2 (.tup kx) with
    | none=>rw [l2 q2];exact ⟨y',H3,I3.tok _,ry',wr y' J3 H3 e4 (by rw [q2];exact r3)⟩
    | some d=>
     obtain ⟨pp,v,ea,rv,rd⟩:=l1 d q2;rw [ea];exact ⟨v,H3,I3.tok _,rv,wr v J3 H3 e4 (by rw [q2];show Rep c.K J3 d v;rw [<-hK];exact rd)⟩
   ·exact wr.elim
  ·exact wr.elim
 ·exact wr.elim
end
def FA (K:Ui) (x:Str) (st:Xg):Prop:=∃f fd,Va K UW x=some (some (.ref f))/\k7 K x x st f fd
theorem Od {K:Ui}{st:Xg}(a:Va K UW x=some (some (.ref f)))
 (l:K.lookup f=some ⟨u,o,.func (Vr x x (cP st) (bR st) (aV st) .none v d p n q r),s⟩) (c:Xh K q x=true) (k:VS K (.ref f)=true):FA K x st:=⟨f,_,a,Eu l c k⟩
def FB (K:Ui) (mg:Str->Option Uk) (x:Str) (st:Xg):Prop:=∃f fd,mg x=some (.ref f)/\k7 K x x st f fd
theorem bZ {K:Ui}{h:VB}{mg:Str->Option Uk}(X:K.In h) (G:h.Ns UW mg){x:Str}{st:Xg}(e:FA K x st):FB K mg x st:=let ⟨f,fd,a,F⟩:=e;⟨f,fd,Xf X G a,F⟩
theorem qc {P:UG}{w:U5}{K:Ui}{mg:Str->Option Uk}{base:VB}{x:Str}{st:Xg}{k:Nat}{Fm:List S->M R}(gB:G O) (N:List Str) (n:Nat) (e:FB K mg x st)
  (hb:N.Nodup->∀(f:UL) (cdv:Uk) (A:U8) (outer:List Env) (s:Um) (H:Hp) (E:XK) (J:Hp) (T:Exc->Prop),dB k (A.deeper (ZX x (aV st) s.heap.objs.size f cdv))->
   o9 (Em P w K mg base N x (aV st) f cdv A outer s H E) ⟨K,H,J,T⟩ (bR st) gB)
  (Sc:eZ N (N.take n) (aV st):=by exact ⟨rfl,rfl,rfl,by decide +kernel,rfl,by decide +kernel,by decide +kernel⟩)
  (hbi:∀(kV doc pm:Uk) (an:Option UL) (cdv ct:Uk) (us:List Uk),us.length=(N.take n).length->aao (Vr x x (cP st) (bR st) (aV st) .none kV doc pm an cdv ct) ⟨us,[]⟩=pure ((N.take n).zip us):=by
   intro _ _ _ _ _ _ us hl;rcases us with _ | ⟨_,_ | ⟨_,_ | ⟨_,_ | ⟨_,_ | ⟨_,_ | ⟨_,_ | ⟨_,_⟩⟩⟩⟩⟩⟩⟩ <;> first | exact rfl | (cases hl;done) | exact nomatch hl)
  (hF:∀as r,as.length=(N.take n).length->Fm as=.ok r->fin (gB (aW N as))=.ok r:=by intro _ _ _ h;exact h):bu P w K mg base (k + 1) (N.take n).length x Fm:=
 let ⟨f,_,hm,F⟩:=e;vW F hm Sc hbi (hb Sc.nd f) hF
end DL
namespace K32
open PySem DL
end K32
namespace K32
open PySem DL K01 WP K51 K52 K55 K23 K22 K33
end K32
namespace K23
open PySem DL K01 WP K51 K52 K55
theorem sX {a b:G R}(h:a env=.ok (.d (.bl true))) (h2:b env=.ok r):jV a b env=.ok r:=by unfold jV;rw [h];exact h2
theorem Ba {env:Ev}{a b:G R}(h:a env=.ok (.d (.bl false))):jV a b env=.ok (.d (.bl false)):=by unfold jV;rw [h];rfl
def PK (m:Nat) (o:List Nat):List (List Nat):=((Ur m).filter λp=>!inD (dN p) (o.map dN)).map λp=>o++[p]
noncomputable def OR (m:Nat):Nat->List (List Nat)
 | 0=>[[]]
 | k + 1=>(OR m k).flatMap (PK m)
noncomputable def fs (k:Nat) (L:List D):S:=match k with
 | 0=>.own L
 | _ + 1=>.d (.lst L)
theorem ne_int (a b:Nat):bX true (.d (.int a)) (.d (.int b))=.ok (.d (.bl (!(a == b)))):=by show M.ok (R.d (.bl (!((a:Int) == (b:Int)))))=_;rw [show ((a:Int) == (b:Int))=(a == b) by rw [Vk,beq_iff_eq,beq_iff_eq];omega]
end K23
namespace K22
open PySem DL K01 WP K51 K52 K55 K23
end K22
namespace K35
open PySem DL
end K35
namespace K35
open PySem DL K01 WP K51 K52 K55 K22 K33 K32
open K23 (Pr bO dH told kY iN aS OR iV iW fW bH iI iy Good pO jY gS fj sX c7)
section
variable {v w:Wd}{B C:Ps}{n j:Nat}
theorem M4 {env:Ev}{a b:G Bool}(h:a env=.ok true):j3 a b env=.ok true:=by unfold j3;rw [h];rfl
end
end K35
namespace DL
open PySem PySem.Spec PyProof.Rows L2
end DL
namespace K81
open PySem DL
end K81
namespace K81
open PySem DL K01 WP K51 K52 K55 K23 K33
end K81
namespace K81
open PySem DL K01 WP K51 K52 K55 K23 K22 K33
theorem PX {gs:G (List R)}{env:Ev}{n:Nat}(hg:gs env=.ok [.d (.int (n:Int))]) (h:n<=1000):yi gs env=.ok (.l .fresh ((Ur n).map dN)):=by unfold yi;rw [hg,aQ];simp only;rw [if_pos (cG.mpr ⟨by omega,by omega⟩),VY,ND]
end K81
namespace DL
open PySem PySem.Spec PyProof.Rows L2
section
variable {X:Cx}{c:C}{o a e:U_}{es:List U_}{go ga:G R}{apos cpos pos:Pos}
theorem D6:cL X (.builtin "abs") (λxs H Q=>∃i:Int,xs=[.int i]/\Q (.int (if i < 0 then -i else i)) H):=by intro T9 s σ H xs us Q I r h;obtain ⟨i,rfl,q⟩:=h;obtain ⟨u,rfl,t,rfl⟩:=vals1 r;exact call_abs_int λu tk=>⟨.int _,H,I.tok _,⟨_,rfl⟩,q⟩
noncomputable def CG:List R->M R
 | [.d (.int i)]=>.ok (.d (.int (if i < 0 then -i else i)))
 | _=>.bad
theorem KW {p:Pos}{gs:G (List R)}(ha:i6 X c (e::es) gs) (hm:X.mg "abs"=none) (hg:Gl X "abs":=by rfl)
  (he:Ux (e::es) X.env=(false,eval e X.env)::Ux es X.env:=by rfl) (hpl:(Wk pos (Ux es X.env)).any (·.1)=false:=by rfl):QD X c (.Call (.Name "abs" p) (e::es) [] pos) (gN CG gs):=
 ⟨jO D6 (by
  intro He J H xs vs Q hp rs w;unfold CG at w;split at w
  ·obtain ⟨v,rfl,r⟩:=rs.one;cases r;exact ⟨_,rfl,w _ J H (Ext.refl hp.sub) (.int _)⟩
  ·exact w.elim) (by decide +kernel) hm ha.h hg (by decide) (by decide) he hpl⟩
def N3 (_ j:Int):Prop:=0 < j/\j < 2 ^ 200
theorem G8:c8 X (XD .FloorDiv) (rI N3 λi j=>.int (i / j)):=EW λi j _ _ _ _ _ hc q=>by
 have h1:(0:Int) < j:=hc.1;have h2:j.natAbs < 2 ^ 200:=by have:=hc.2;omega
 exact floordiv_int (by omega) (by rw [ZT i (by omega)];exact q) (.inl (PyProof.noPylong_of_log2 (XA ((Nat.log2_lt (by omega)).mpr h2) (by decide))))
def CP (_ j:Int):Bool:=decide (0 < j) && below 1606938044258990275541962092341162602522202993782792835301376 j
abbrev l6:R->R->M R:=fI CP λi j=>.int (i / j)
theorem jP (ha:QD X c a ga) (hb:QD X c o go):QD X c (.BinOp a .FloorDiv o pos) (g2 l6 ga go):=⟨kL G8 (yQ (λi j h=>by
 unfold CP at h;rw [Uq] at h;exact ⟨of_decide_eq_true h.1,(cG.mp h.2).2⟩) λ_ _ _=>.int _) ha.h hb.h⟩
theorem NI:rX X (λx lo hi H Q=>∃z:Str,x=.str z/\z.length<=sizeLine/\Q (.str (WE z lo hi)) H):=by
 intro T9 s σ H x v vl vu lo hi sl Q I rx hs pl pu h;obtain ⟨z,rfl,hz,q⟩:=h;obtain ⟨t,rfl⟩:=rx;have fin:∀t' k,EP X T9 σ Q (.str (WE z lo hi) t') {s with toks:=k}:=λt' k=>⟨.str _,H,I.tok _,⟨_,rfl⟩,q⟩;cases pl <;> cases pu
 ·exact ⟨"str",_,Xx.lookup,Y6 _ _ _,XM (l:=none) (u:=none) (st:=none) hs rfl (ZO ⟨U1 (Z5 z _ _) hz,fin⟩)⟩
 ·exact ⟨"str",_,Xx.lookup,Y6 _ _ _,XM (l:=none) (u:=some (_,_)) (st:=none) hs rfl (ZO ⟨U1 (Z5 z _ _) hz,fin⟩)⟩
 ·exact ⟨"str",_,Xx.lookup,Y6 _ _ _,XM (l:=some (_,_)) (u:=none) (st:=none) hs rfl (ZO ⟨U1 (Z5 z _ _) hz,fin⟩)⟩
 ·exact ⟨"str",_,Xx.lookup,Y6 _ _ _,XM (l:=some (_,_)) (u:=some (_,_)) (st:=none) hs rfl (ZO ⟨U1 (Z5 z _ _) hz,fin⟩)⟩
noncomputable def oh:R->Option Int->Option Int->M R
 | .d (.str z),l,u=>if z.length<=sizeLine then .ok (.d (.str (WE z l u))) else .bad
 | _,_,_=>.bad
theorem nK {lo hi:Option U_}{gl gh:GO}{p2:Pos}(h:QD X c o go) (hl:A3 X c lo gl) (hh:A3 X c hi gh):QD X c (.Subscript o (.Slice lo hi none p2) pos) (nq oh go gl gh):=⟨IX NI (by
 intro He J H x v l u Q hp rx w;unfold oh at w;split at w
 ·cases rx;split at w
  ·rename_i hz;exact ⟨_,rfl,hz,w _ J H (Ext.refl hp.sub) (.str _)⟩
  ·exact w.elim
 ·exact w.elim) h.h hl.h hh.h⟩
noncomputable def CL (go ga:G R):G R:=λenv=>go env >>= λr=>match r with
 | .d (.str x)=>ga env >>= λk=>(match k with
  | .d (.str y)=>.ok (.d (.int (Txt.find x y)))
  | _=>.bad)
 | _=>.bad
theorem Hw (ho:QD X c o go) (ha:QD X c a ga) (hbase:Yg o "find" X.env (eval o X.env)=eval o X.env:=by rfl) (hline:(apos.endLine == cpos.line)=true:=by rfl)
  (htr:Wk cpos (Ux [a] X.env)=[(false,eval a X.env)]:=by rfl):QD X c (.Call (.Attribute o "find" apos) [a] [] cpos) (CL go ga):=by
 refine ⟨λT9 s σ H Q I ⟨J,env,sr,w⟩=>?_⟩;refine wpAny_Call_method1_late hbase hline htr (bM (ho.h T9 s σ H (λx H1=>∃J1 r,Ext J H J1 H1/\RR c H J1 H1 r x/\cA _ _ _) I ⟨J,env,sr,aE (aI w) λr wr v J1 H1 e1 r1=>⟨J1,r,e1,r1,wr⟩⟩) λov s1 ⟨x,H1,I1,rx,J1,r,e1,r1,wr⟩=>?_);split at wr
 ·rename_i x;cases r1;obtain ⟨t,rfl⟩:=rx;refine ⟨"str","str.find",PySem.F.plainAttrs_str,aba,PySem.F.type_str_find,Y6 _ _ _,(λ_ e=>nomatch e),?_⟩;refine method1_gives aba PySem.F.entry_str_find (bM (ha.h T9 s1 σ H1 (λx H2=>∃J2 r,Ext J1 H1 J2 H2/\RR c H1 J2 H2 r x/\cA _ _ _) I1 ⟨J1,env,sr.ext e1,aE (aI wr) λr wr v J2 H2 e2 r2=>⟨J2,r,e2,r2,wr⟩⟩) λkv s2 ⟨y,H2,I2,ry,J2,r',e2,r2,wr⟩=>?_);split at wr
  ·rename_i y;cases r2;obtain ⟨t',rfl⟩:=ry;exact ⟨Y6 _ _ _,PySem.F.args_str_find_2 _ _,_,gives_str_find x y t t',.int _,H2,I2.tok _,⟨_,rfl⟩,wr _ J2 H2 (e1.trans e2) (.int _)⟩
  ·exact wr.elim
 ·exact wr.elim
end
end DL
namespace K72
open PySem DL
def mH:List Str:=["choices","ahead","point","found"]
noncomputable def sD (Fr:List S->M R):G O:=(aH (bJ (bw (g2 (bX false) (gN eV (ao (af 1) aC)) (gN eV (ao (af 0) aC)))) (br (af 1)) cK)
 (aH (cu (fO (g2 aY (af 0) (gN eV (ao (af 1) aC)))) (aD 2) (bJ (bw (g2 (fH true) (af 2) (af 1))) (aH (bf 3 (gN (aO 2 Fr) (ao (af 0) (ao (g2 bY (af 1) (bB (az (af 2) aP))) aC))))
 (bJ (bw (g2 (iL true) (af 3) (gC .non))) (br (af 3)) cK)) cK))
 (br (gC .non))))
noncomputable def dc:Nat->List S->M R
 | 0,_=>.bad
 | k + 1,as=>fin (sD (dc k) (aW mH as))
def rT:List Str:=["grid","depths","depth"]
noncomputable def sC:G O:=(br (cB 1 [1,2] (jL (af 0)) (aD 0) dY (cB 2 [1,2] (IE (ao (af 0) aC)) (dG 2 (bz (aD 0) (bz (aD 1) dR))) (bw (gN (aO 3 K33.iZ) (ao (af 2) (ao (af 1) (ao (af 3) aC))))) (af 0))))
def gH (as:List S):M R:=fin (sC (aW rT as))
def o8:List Str:=["grid","depths"]
noncomputable def pB:G O:=(br (g2 (iL true) (gN (aO 2 (K72.dc 6)) (ao (gN (aO 3 K72.gH) (ao (af 0) (ao (af 1) (ao (gC (.int 6)) aC)))) (ao (bB aP) aC))) (gC .non)))
def eN (as:List S):M R:=fin (pB (aW o8 as))
def mZ:List Str:=["rows","stays","depths","depth","gone","pairing"]
noncomputable def Bt:G O:=(aH (bf 2 (kU 1 [] (qe (af 0)) (aD 0) dY (af 0) (gC .non)))
 (aH (bf 3 (gC (.int 1)))
 (aH (bf 4 (cB 1 [1,0,2] (qe (af 0)) (aD 0) (gM (bw (zx 1 "mapped_still" (gN (aO 2 K72.eN) (ao (g2 iT (af 2) (af 0)) (ao (af 3) aC))) yg))) (af 0)))
 (aH (uL 400000 (tK (af 4)) (aH (fF 4 (cu (fO (af 4)) (aD 5) (vL 2 (af 5) (af 3))))
 (aH (tG 3 vH (gC (.int 1)))
 (bf 4 (cB 1 [2,1,0] (qe (af 0)) (aD 0) (iU (bw (g2 (iL false) (g2 iT (af 1) (af 0)) (gC .non))) (gM (bw (zx 2 "mapped_still" (gN (aO 2 K72.eN) (ao (g2 iT (af 3) (af 0)) (ao (af 1) aC))) yg)))) (af 0))))))
 (br (af 2))))))
def mV (as:List S):M R:=fin (Bt (aW mZ as))
def yI:List Str:=["one","other","pairing"]
noncomputable def zA:G O:=(aH (bJ (bw (g2 (bX true) (g2 aY (af 0) (gC (.int 0))) (g2 aY (af 1) (gC (.int 0))))) (br (cB 1 [] (b9 (ao (g2 aY (af 0) (gC (.int 0))) aC)) (aD 0) dY (c5 aP))) cK)
 (br (cB 1 [1,2] (b9 (ao (g2 aY (af 0) (gC (.int 0))) aC)) (aD 0) dY (cB 1 [2,0] (b9 (ao (g2 aY (af 1) (gC (.int 0))) aC)) (aD 0) dY (gN (aO 2 K33.t_) (ao (af 1) (ao (bB (az (af 2) (az (af 0) aP))) aC)))))))
def jH (as:List S):M R:=fin (zA (aW yI as))
def lS:List Str:=["one","other","base","grids"]
noncomputable def l_:G O:=(aH (bf 3 (kU 1 [0,1] (jL (gN (aO 3 K33.ig) (ao (af 0) (ao (af 1) (ao (af 2) aC))))) (aD 0) dY (af 0) (gN (aO 3 K72.jH) (ao (af 1) (ao (af 2) (ao (af 0) aC))))))
 (br (Ew "mapped_still" K72.mV (af 3))))
def cR (as:List S):M R:=fin (l_ (aW lS as))
def lU:List Str:=["one","other","depth"]
noncomputable def mh:G O:=(aH (iP (gN (aO 2 K23.dh) (ao (af 0) (ao (af 1) aC))))
 (aH (iP (gN (aO 3 K55.dg) (ao (af 2) (ao (gC (.int 0)) (ao (gC (.int 6)) aC)))))
 (br (gN (aO 2 K33.kC) (ao (gN (aO 3 K72.cR) (ao (af 0) (ao (af 1) (ao (bB aP) aC)))) (ao (af 2) aC))))))
def gO (as:List S):M R:=fin (mh (aW lU as))
def pU:List Str:=["one","other","depth","pairs","base","depths"]
noncomputable def ql:G O:=(aH (iP (gN (aO 2 K23.dh) (ao (af 0) (ao (af 1) aC))))
 (aH (iP (gN (aO 3 K55.dg) (ao (af 2) (ao (gC (.int 1)) (ao (gC (.int 6)) aC)))))
 (aH (bf 4 (gN (aO 1 K23.c7) (ao (af 3) aC)))
 (aH (bf 5 (gN (aO 3 K72.cR) (ao (af 0) (ao (af 1) (ao (af 4) aC)))))
 (br (gN (aO 2 (K72.dc 6)) (ao (gN (aO 3 K72.gH) (ao (gN (aO 3 K72.jH) (ao (af 0) (ao (af 1) (ao (af 4) aC)))) (ao (af 5) (ao (g2 vI (af 2) (gC (.int 1))) aC)))) (ao (bB aP) aC))))))))
def jm (as:List S):M R:=fin (ql (aW pU as))
def oY:List Str:=["_law_script","_law_k"]
noncomputable def pq:G O:=(aH (bJ (bw (g2 (qd λi j=>.bl (decide (i < j))) (af 1) (gN eV (ao (af 0) aC)))) (br (g2 aY (af 0) (af 1))) cK)
 (br (gC (.int 0))))
def gr (as:List S):M R:=fin (pq (aW oY as))
def ue:List Str:=["_law_cell","_law_count","_law_found","_law_number","_law_k"]
noncomputable def uM:G O:=(aH (bf 2 (c5 aP))
 (aH (bf 3 (gN CG (ao (g2 l6 (af 0) (gC (.int 2))) aC)))
 (aH (bJ (bw (g2 (bX false) (g2 dD (af 0) (gC (.int 2))) (gC (.int 1)))) (aH (cu (b9 (ao (af 1) aC)) (aD 4) (aH (gK 2 (g2 dD (af 3) (g2 n_ (gC (.int 10)) (gC (.int 20)))))
 (bf 3 (g2 l6 (af 3) (g2 n_ (gC (.int 10)) (gC (.int 20)))))))
 (br (af 2))) cK)
 (aH (bf 3 (g2 iO (g2 dD (af 3) (g2 n_ (gC (.int 10)) (gC (.int 50)))) (gC (.int 1234577))))
 (aH (cu (b9 (ao (af 1) aC)) (aD 4) (aH (bf 3 (g2 dD (g2 iO (g2 iO (g2 iM (af 3) (gC (.int 30013))) (g2 l6 (af 3) (g2 n_ (gC (.int 10)) (gC (.int 30))))) (g2 iM (gC (.int 77)) (af 4))) (g2 iO (g2 n_ (gC (.int 10)) (gC (.int 50))) (gC (.int 151)))))
 (gK 2 (g2 l6 (g2 iM (af 3) (g2 iO (g2 l6 (af 3) (g2 n_ (gC (.int 10)) (gC (.int 40)))) (gC (.int 3)))) (g2 n_ (gC (.int 10)) (gC (.int 9)))))))
 (br (af 2)))))))
def jl (as:List S):M R:=fin (uM (aW ue as))
def rQ:List Str:=["_law_name","_law_ahead"]
noncomputable def sf:G O:=(aH (bJ (bw (g2 (fH false) (af 0) (c5 (az (gC (.str "and")) (az (gC (.str "or")) (az (gC (.str "not")) (az (gC (.str "some")) (az (gC (.str "every")) (az (gC (.str "least")) (az (gC (.str "true")) (az (gC (.str "false")) aP))))))))))) (aH (bJ (tK (af 1)) (br (g2 bY (gC (.str "q")) (nq oh (af 0) (qf (gC (.int 1))) uK))) cK)
 (br (g2 bY (af 0) (gC (.str "q"))))) cK)
 (br (af 0)))
def iJ (as:List S):M R:=fin (sf (aW rQ as))
def rR:List Str:=["_law_number","_law_many","_law_letters","_law_stem","_law_k","_law_at_here","_law_found","_law_sign"]
noncomputable def su:G O:=(aH (bf 2 (gC (.str "abcdefghijklmnopqrstuvwxyz")))
 (aH (bf 3 (gC (.str "")))
 (aH (cu (b9 (ao (gC (.int 7)) aC)) (aD 4) (aH (bf 3 (g2 bY (af 3) (g2 aY (af 2) (g2 dD (af 0) (gC (.int 26))))))
 (bf 0 (g2 f9 (af 0) (gC (.int 26))))))
 (aH (bJ (bw (g2 (bX false) (g2 dD (af 0) (gC (.int 2))) (gC (.int 0)))) (br (gN kT (ao (cB 1 [3] (b9 (ao (af 1) aC)) (aD 0) dY (gN (aO 2 K72.iJ) (ao (nq oh (af 1) uK (qf (g2 bY (gC (.int 2)) (af 0)))) (ao (gC (.bl true)) aC)))) aC))) cK)
 (aH (bf 3 (nq oh (af 3) uK (qf (g2 bY (gC (.int 2)) (g2 dD (g2 f9 (af 0) (gC (.int 2))) (gC (.int 6)))))))
 (aH (bf 5 (g2 dD (g2 f9 (af 0) (gC (.int 12))) (gN eV (ao (af 3) aC))))
 (aH (bf 6 (c5 aP))
 (aH (cu (b9 (ao (af 1) aC)) (aD 4) (aH (bf 7 (g2 aY (af 2) (g2 dD (g2 bY (CL (af 2) (g2 aY (af 3) (af 5))) (g2 iM (gC (.int 5)) (af 4))) (gC (.int 26)))))
 (gK 6 (gN (aO 2 K72.iJ) (ao (g2 bY (g2 bY (nq oh (af 3) uK (qf (af 5))) (af 7)) (nq oh (af 3) (qf (g2 bY (af 5) (gC (.int 1)))) uK)) (ao (gC (.bl false)) aC))))))
 (br (gN kT (ao (af 6) aC)))))))))))
def gG (as:List S):M R:=fin (su (aW rR as))
noncomputable def rS:List Str:=["_law_many","_law_marks","_law_arrows","_law_number","_law_parts","_law_name","_law_points","_law_point","_law_more_here","_law_pairs","_law_one","_law_other"]
noncomputable def sA:G O:=(aH (bf 4 (c5 aP))
 (aH (cu (fO (af 1)) (aD 5) (aH (bf 6 (c5 aP))
 (aH (cu (b9 (ao (af 0) aC)) (aD 7) (aH (bJ (bw (g2 (bX false) (g2 dD (af 3) (gC (.int 2))) (gC (.int 1)))) (gK 6 (af 7)) cK)
 (bf 3 (g2 f9 (af 3) (gC (.int 2))))))
 (gK 4 (bB (az (af 5) (az (gN dF (ao (af 6) aC)) aP)))))))
 (aH (bf 8 (c5 aP))
 (aH (cu (fO (af 2)) (aD 5) (aH (bf 9 (c5 aP))
 (aH (cu (b9 (ao (af 0) aC)) (aD 10) (cu (b9 (ao (af 0) aC)) (aD 11) (aH (bJ (bw (g2 (bX false) (g2 dD (af 3) (gC (.int 2))) (gC (.int 1)))) (gK 9 (bB (az (af 10) (az (af 11) aP)))) cK)
 (bf 3 (g2 f9 (af 3) (gC (.int 2)))))))
 (gK 8 (bB (az (af 5) (az (gN dF (ao (af 9) aC)) aP)))))))
 (br (bB (az (af 0) (az (gN dF (ao (af 4) aC)) (az (gN dF (ao (af 8) aC)) aP)))))))))
def d8 (as:List S):M R:=fin (sA (aW rS as))
def oZ:List Str:=["_law_number","_law_at_here","_law_low","_law_k"]
noncomputable def pA:G O:=(aH (bf 2 (gC (.int 1)))
 (aH (cu (b9 (ao (af 1) aC)) (aD 3) (bf 2 (g2 iM (af 2) (gC (.int 2)))))
 (aH (bJ (bw (g2 (bX false) (g2 dD (g2 l6 (af 0) (af 2)) (gC (.int 2))) (gC (.int 1)))) (br (g2 vI (af 0) (af 2))) cK)
 (br (g2 iO (af 0) (af 2))))))
def gu (as:List S):M R:=fin (pA (aW oZ as))
noncomputable def yH:List Str:=["_law_world_here","_law_number","_law_left","_law_order","_law_k","_law_marks","_law_name","_law_points","_law_arrows","_law_pairs"]
noncomputable def qh:G O:=(aH (bf 2 (yi (ao (g2 aY (af 0) (gC (.int 0))) aC)))
 (aH (bf 3 (c5 aP))
 (aH (cu (b9 (ao (g2 aY (af 0) (gC (.int 0))) aC)) (aD 4) (aH (nk 3 2 (g2 dD (af 1) (gN eV (ao (af 2) aC))))
 (bf 1 (g2 f9 (af 1) (gC (.int 5))))))
 (aH (bf 5 (c5 aP))
 (aH (cu (fO (g2 aY (af 0) (gC (.int 1)))) (dG 2 (bz (aD 6) (bz (aD 7) dR))) (gK 5 (bB (az (af 6) (az (gN dF (ao (gN nh (ao (cB 1 [3] (jL (af 7)) (aD 0) dY (g2 aY (af 1) (af 0))) aC)) aC)) aP)))))
 (aH (bf 8 (c5 aP))
 (aH (cu (fO (g2 aY (af 0) (gC (.int 2)))) (dG 2 (bz (aD 6) (bz (aD 9) dR))) (gK 8 (bB (az (af 6) (az (gN dF (ao (gN nh (ao (cB 2 [3] (jL (af 9)) (dG 2 (bz (aD 0) (bz (aD 1) dR))) dY (bB (az (g2 aY (af 2) (af 0)) (az (g2 aY (af 2) (af 1)) aP)))) aC)) aC)) aP)))))
 (br (bB (az (g2 aY (af 0) (gC (.int 0))) (az (gN dF (ao (af 5) aC)) (az (gN dF (ao (af 8) aC)) aP))))))))))))
def fc (as:List S):M R:=fin (qh (aW yH as))
noncomputable def wA:List Str:=["_law_cell","_law_sizes","_law_xs","_law_marks","_law_arrows","_law_many","_law_fill","_law_one","_law_way","_law_bits","_law_other"]
noncomputable def wR:G O:=(aH (bf 2 (gN (aO 2 K72.jl) (ao (af 0) (ao (gC (.int 7)) aC))))
 (aH (bf 3 (nq zq (gN (aO 2 K72.gG) (ao (g2 aY (af 2) (gC (.int 0))) (ao (gC (.int 3)) aC))) uK (qf (g2 aY (c5 (az (gC (.int 0)) (az (gC (.int 1)) (az (gC (.int 1)) (az (gC (.int 2)) (az (gC (.int 1)) (az (gC (.int 3)) aP))))))) (g2 dD (g2 aY (af 2) (gC (.int 1))) (gC (.int 6)))))))
 (aH (bf 4 (nq zq (gN (aO 2 K72.gG) (ao (g2 aY (c5 (az (g2 aY (af 2) (gC (.int 2))) (az (g2 aY (af 2) (gC (.int 0))) aP))) (g2 f9 (g2 dD (g2 f9 (g2 aY (af 2) (gC (.int 1))) (gC (.int 6))) (gC (.int 4))) (gC (.int 3)))) (ao (gC (.int 3)) aC))) uK (qf (g2 aY (c5 (az (gC (.int 1)) (az (gC (.int 1)) (az (gC (.int 2)) (az (gC (.int 0)) (az (gC (.int 1)) (az (gC (.int 3)) aP))))))) (g2 dD (g2 f9 (g2 aY (af 2) (gC (.int 1))) (gC (.int 24))) (gC (.int 6)))))))
 (aH (bf 5 (g2 aY (af 1) (g2 dD (g2 f9 (g2 aY (af 2) (gC (.int 1))) (gC (.int 144))) (gN eV (ao (af 1) aC)))))
 (aH (bf 6 (g2 aY (c5 (az (gC (.int 0)) (az (g2 vI (g2 n_ (gC (.int 2)) (gC (.int 60))) (gC (.int 1))) (az (g2 aY (af 2) (gC (.int 3))) (az (g2 aY (af 2) (gC (.int 3))) (az (g2 aY (af 2) (gC (.int 3))) (az (g2 aY (af 2) (gC (.int 3))) aP))))))) (g2 dD (g2 f9 (g2 aY (af 2) (gC (.int 1))) (gC (.int 10000))) (gC (.int 6)))))
 (aH (fF 4 (fF 3 (bf 7 (gN (aO 4 K72.d8) (ao (af 5) (ao (af 3) (ao (af 4) (ao (af 6) aC))))))))
 (aH (bf 8 (g2 dD (g2 aY (af 2) (gC (.int 4))) (gC (.int 5))))
 (aH (bJ (bw (g2 (bX false) (af 8) (gC (.int 0)))) (br (bB (az (af 7) (az (gN (aO 2 K72.fc) (ao (af 7) (ao (g2 aY (af 2) (gC (.int 5))) aC))) aP)))) cK)
 (aH (bJ (bw (g2 (bX false) (af 8) (gC (.int 1)))) (aH (bf 9 (gN CI (ao (gC (.int 1)) (ao (g2 iO (g2 iM (af 5) (gN eV (ao (af 3) aC))) (g2 iM (g2 iM (af 5) (af 5)) (gN eV (ao (af 4) aC)))) aC))))
 (aH (bf 10 (gN (aO 4 K72.d8) (ao (af 5) (ao (af 3) (ao (af 4) (ao (gN (aO 2 K72.gu) (ao (af 6) (ao (g2 dD (g2 f9 (g2 aY (af 2) (gC (.int 4))) (gC (.int 5))) (af 9)) aC))) aC))))))
 (br (bB (az (af 7) (az (gN (aO 2 K72.fc) (ao (af 10) (ao (g2 aY (af 2) (gC (.int 5))) aC))) aP)))))) cK)
 (aH (bf 5 (g2 aY (af 1) (g2 dD (g2 aY (af 2) (gC (.int 6))) (gN eV (ao (af 1) aC)))))
 (aH (bJ (bw (g2 (bX false) (af 8) (gC (.int 2)))) (br (bB (az (af 7) (az (gN (aO 4 K72.d8) (ao (af 5) (ao (af 3) (ao (af 4) (ao (af 6) aC))))) aP)))) cK)
 (br (bB (az (af 7) (az (gN (aO 4 K72.d8) (ao (af 5) (ao (af 3) (ao (af 4) (ao (g2 aY (af 2) (gC (.int 5))) aC))))) aP)))))))))))))))
def jX (as:List S):M R:=fin (wR (aW wA as))
def yG:List Str:=["_law_some","_law_name","_law_thing","_law_other","_law_things"]
noncomputable def zy:G O:=(aH (cu (fO (af 0)) (dG 2 (bz (aD 3) (bz (aD 4) dR))) (bJ (bw (g2 (bX false) (af 3) (af 1))) (br (g2 (fH false) (af 2) (af 4))) cK))
 (br (gC (.bl false))))
def k6 (as:List S):M R:=fin (zy (aW yG as))
def wm:List Str:=["_law_one","_law_other","_law_pairs","_law_a","_law_b","_law_name","_law_points","_law_c","_law_d","_law_arrows"]
noncomputable def wQ:G O:=(aH (cu (fO (af 2)) (dG 2 (bz (aD 3) (bz (aD 4) dR))) (aH (cu (fO (g2 aY (af 0) (gC (.int 1)))) (dG 2 (bz (aD 5) (bz (aD 6) dR))) (bJ (bw (g2 (bX true) (g2 (fH false) (af 3) (af 6)) (gN (aO 3 K72.k6) (ao (g2 aY (af 1) (gC (.int 1))) (ao (af 5) (ao (af 4) aC)))))) (br (gC (.bl false))) cK))
 (cu (fO (af 2)) (dG 2 (bz (aD 7) (bz (aD 8) dR))) (aH (bJ (bw (g2 (bX true) (g2 (bX false) (af 3) (af 7)) (g2 (bX false) (af 4) (af 8)))) (br (gC (.bl false))) cK)
 (cu (fO (g2 aY (af 0) (gC (.int 2)))) (dG 2 (bz (aD 5) (bz (aD 9) dR))) (bJ (bw (g2 (bX true) (g2 (fH false) (bB (az (af 3) (az (af 7) aP))) (af 9)) (gN (aO 3 K72.k6) (ao (g2 aY (af 1) (gC (.int 2))) (ao (af 5) (ao (bB (az (af 4) (az (af 8) aP))) aC)))))) (br (gC (.bl false))) cK))))))
 (br (gC (.bl true))))
def dJ (as:List S):M R:=fin (wQ (aW wm as))
noncomputable def mW:List Str:=["_law_one","_law_other","_law_most_pairs","_law_found","_law_last","_law_size","_law_more_here","_law_pairs","_law_a","_law_b"]
noncomputable def nu:G O:=(aH (bf 3 (c5 (az (bB aP) aP)))
 (aH (fF 6 (bf 4 (c5 (az (bB aP) aP))))
 (aH (cu (b9 (ao (af 2) aC)) (aD 5) (aH (bf 6 (c5 aP))
 (aH (fF 4 (cu (fO (af 4)) (aD 7) (cu (b9 (ao (g2 aY (af 0) (gC (.int 0))) aC)) (aD 8) (cu (b9 (ao (g2 aY (af 1) (gC (.int 0))) aC)) (aD 9) (bJ (iU (j3 (bw (g2 (bX false) (af 7) (bB aP))) (bw (g2 tw (g2 aY (af 7) (vK (gC (.int 1)))) (bB (az (af 8) (az (af 9) aP)))))) (bw (gN (aO 3 K72.dJ) (ao (af 0) (ao (af 1) (ao (g2 bY (af 7) (bB (az (bB (az (af 8) (az (af 9) aP))) aP))) aC)))))) (gK 6 (g2 bY (af 7) (bB (az (bB (az (af 8) (az (af 9) aP))) aP)))) cK)))))
 (aH (fF 6 (bf 4 (af 6)))
 (vJ 3 (af 6))))))
 (br (af 3)))))
def ie (as:List S):M R:=fin (nu (aW mW as))
end K72
namespace K72
open PySem DL K01 WP K51 K52 K55
open K23 (iI fW bH)
theorem yv (ns:List Int) (k:Nat):gr [.bor (ns.map D.int),.d (.int k)]=.ok (.d (.int (ns.getD k 0))):=by
 refine cg (b_ (jz (c:=decide ((k:Int) < ((ns.map D.int).length:Nat))) rfl (λh=>?_) λh=>?_))
 ·have h:k < ns.length:=by simpa using h
  have e:(ns.map D.int)[k]?=some (.int ns[k]):=by rw [UT,UA h];rfl
  exact bE (two rfl rfl (qV e)) rfl (by simp [Zl,h])
 ·have h:ns.length<=k:=by simpa using h
  exact fQ (bE rfl rfl (by simp [Zl,h]))
theorem qJ (i j:Int) (h1:0 < j) (h2:j < 2 ^ 200):l6 (.d (.int i)) (.d (.int j))=.ok (.d (.int (i / j))):=yf (by
 unfold CP;rw [Uq];exact ⟨decide_eq_true h1,cG.mpr ⟨by omega,h2⟩⟩)
theorem Lu (c:Int):∃xs:List Int,jl [.d (.int c),.d (.int 7)]=.ok (.l .fresh (xs.map .int))/\xs.length=7/\∀x∈xs,0<=x:=by
 have key:Wp (jl [.d (.int c),.d (.int 7)]) λr=>∃xs:List Int,r=.l .fresh (xs.map .int)/\xs.length=7/\∀x∈xs,0<=x:=by
  obtain ⟨n,hn,hn0⟩:∃n:Int,CG [.d (.int (c / 2))]=.ok (.d (.int n))/\0<=n:=⟨if c / 2 < 0 then -(c / 2) else c / 2,rfl,by split <;> omega⟩;have app:∀{xs:List Int}{y:Int},(∀x∈xs,0<=x)->0<=y->∀x∈xs++[y],0<=x:=λh hy x hx=>by
   rcases US.mp hx with q | q
   ·exact h x q
   ·rw [Uz.mp q];exact hy
  refine oW (bC rfl rfl (bC (n1 (two rfl rfl (gq c 2 (by decide) (by decide))) hn) rfl (b_ (jz (c:=bh (.int (c % 2)) (.int 1)) (bH (two rfl rfl (c_ c 2 (by decide))) rfl rfl) (λ_=>?_) λ_=>fQ ?_))))
  ·refine eX (jC (n:=7) rfl (by decide)) ?_;refine iA (n:=7) (λk env=>∃(xs:List Int) (n:Int) (x:Option S),env=[some (.d (.int c)),some (.d (.int 7)),some (.own (xs.map .int)),some (.d (.int n)),x]/\xs.length=k/\0<=n/\∀x∈xs,0<=x) ⟨[],n,none,rfl,rfl,hn0,λ_ h=>nomatch h⟩ ?_ ?_
   ·rintro k hk _ ⟨xs,n,x,rfl,hl,h0,hx⟩;refine ⟨_,rfl,OH rfl (two rfl rfl (c_ n (10 ^ 20) (by decide))) rfl (by rw [Uo];omega) (fK (two rfl rfl (qJ n (10 ^ 20) (by decide) (by decide))) rfl ⟨_,rfl,xs++[n % 10 ^ 20],n / 10 ^ 20,_,by rw [UN];rfl,by simp [hl],abb h0 (by decide),app hx (YX _ (by decide))⟩)⟩
   ·rintro _ ⟨xs,n,x,rfl,hl,h0,hx⟩;exact bE rfl rfl ⟨_,rfl,xs,rfl,hl,hx⟩
  ·refine bC (two (two rfl rfl (c_ n (10 ^ 50) (by decide))) rfl (lP _ _)) rfl (eX (jC (n:=7) rfl (by decide)) ?_);have hm:=YX n (b:=10 ^ 50) (by decide);refine iA (n:=7) (λk env=>∃(xs:List Int) (n:Int) (x:Option S),env=[some (.d (.int c)),some (.d (.int 7)),some (.own (xs.map .int)),some (.d (.int n)),x]/\xs.length=k/\0<=n/\∀x∈xs,0<=x) ⟨[],n % 10 ^ 50 + 1234577,none,rfl,rfl,by omega,λ_ h=>nomatch h⟩ ?_ ?_
   ·rintro k hk _ ⟨xs,n,x,rfl,hl,h0,hx⟩;obtain ⟨n',hn'⟩:∃n',n'=(n * 30013 + n / 10 ^ 30 + 77 * k) % (10 ^ 50 + 151):=⟨_,rfl⟩;have p1:0<=n':=hn'▸YX _ (by decide);have p2:n' < 10 ^ 50 + 151:=hn'▸YQ _ (by decide);have p3:0<=n' / 10 ^ 40:=abb p1 (by decide);have p4:n' / 10 ^ 40 < 10 ^ 11:=Int.ediv_lt_of_lt_mul (by decide) (Int.lt_trans p2 (by decide));refine ⟨_,rfl,bC (r:=.d (.int n')) ((two (two (two (two rfl rfl (ji n 30013 (by decide) (by decide))) (two rfl rfl (qJ n (10 ^ 30) (by decide) (by decide))) (lP _ _)) (two rfl rfl (ji 77 k (by omega) (by omega))) (lP _ _)) (two rfl rfl (lP (10 ^ 50) 151)) (c_ _ _ (by decide))).trans (by rw [hn'])) rfl ?_⟩;refine kI rfl (two (two rfl (two (two rfl rfl (qJ n' (10 ^ 40) (by decide) (by decide))) rfl (lP _ 3)) (ji _ _ (by omega) (by omega))) rfl (qJ _ (10 ^ 9) (by decide) (by decide))) rfl (by rw [Uo];omega) ⟨_,rfl,xs++[n' * (n' / 10 ^ 40 + 3) / 10 ^ 9],n',_,by rw [UN];rfl,by simp [hl],p1,app hx (abb (Int.mul_nonneg p1 (by omega)) (by decide))⟩
   ·rintro _ ⟨xs,n,x,rfl,hl,h0,hx⟩;exact bE rfl rfl ⟨_,rfl,xs,rfl,hl,hx⟩
 obtain ⟨_,h,xs,rfl,hl⟩:=key;exact ⟨xs,h,hl⟩
theorem Jb (z:Str) (j:Nat) (h:j<=z.length):(WE z none (some (j:Int))).cps.toList=z.cps.toList.take j:=by rw [dI] at h;rw [show WE z none (some (j:Int))=_ from adD (x:=z) (j:=j) ⟨by omega,by omega⟩];simp
theorem K8 (z:Str) (i:Nat) (h:i<=z.length):(WE z (some (i:Int)) none).cps.toList=z.cps.toList.drop i:=by rw [dI] at h;rw [show WE z (some (i:Int)) none=_ from ac4 (x:=z) (i:=i) ⟨by omega,by omega⟩];rw [show ((z.cps.toList.length:Int) - (i:Int)).toNat=(z.cps.toList.drop i).length by rw [WI];omega];show ((z.cps.toList.drop i).take (z.cps.toList.drop i).length).toArray.toList=_;rw [Xa]
def Jh:List D:=[.str "and",.str "or",.str "not",.str "some",.str "every",.str "least",.str "true",.str "false"]
def jZ (s:Str) (b:Bool):Str:=if inD (.str s) Jh=true then (if b=true then ("q":Str)++WE s (some 1) none else s++"q") else s
theorem qK (x y:Str) (h:x.length + y.length<=1000):bY (.d (.str x)) (.d (.str y))=.ok (.d (.str (x++y))):=OW x y h
theorem u_ (s:Str) (l u:Option Int) (h:s.length<=900):oh (.d (.str s)) l u=.ok (.d (.str (WE s l u)))/\(WE s l u).length<=s.length:=by refine ⟨?_,Z5 s l u⟩;show (if s.length<=sizeLine then _ else _)=_;rw [if_pos (fG (by omega))]
theorem AU (s:Str) (b:Bool) (h:s.length<=900):iJ [.d (.str s),.d (.bl b)]=.ok (.d (.str (jZ s b))):=by
 obtain ⟨h1,h2⟩:=u_ s (some 1) none h;refine cg (b_ (jz (c:=inD (.str s) Jh) ?_ (λe=>?_) λe=>fQ (bE rfl rfl ?_)))
 ·refine bH rfl rfl ?_;show (if deps Jh<=60/\dep (.str s)<=60 then M.ok (R.d (.bl (inD (.str s) Jh))) else .bad)=_;rw [if_pos ⟨by decide,by show (0:Nat)<=60;decide⟩]
 ·cases b with
  | true=>
   refine b_ (ow rfl (bE (two rfl (show nq oh (af 0) (qf (gC (.int 1))) uK _=_ from h1) (qK _ _ (by show 1 + _<=1000;omega))) rfl ?_));unfold jZ;rw [if_pos e];rfl
  | false=>
   refine gA rfl (bE (two rfl rfl (qK _ _ (by show _ + 1<=1000;omega))) rfl ?_);unfold jZ;rw [if_pos e];rfl
 ·unfold jZ;rw [if_neg (by rw [e];decide)]
theorem EU {α β:Type}{f:α->β}:∀{xs:List α},(∀a∈xs,∀b∈xs,f a=f b->a=b)->xs.Nodup->(xs.map f).Nodup:=λh nd=>K23.MM nd h
theorem ID (s:Str) (h1:1<=s.length):(jZ s true).length=s.length:=by
 unfold jZ;split
 ·have h2:=dI s;have h3:("q":Str).cps.toList.length=1:=rfl;rw [if_pos rfl,dI,kR,UI,show (1:Int)=((1:Nat):Int) from rfl,K8 s 1 h1,WI];omega
 ·rfl
theorem kX (i j:Int):bY (.d (.int i)) (.d (.int j))=.ok (.d (.int (i + j))):=rfl
theorem rJ {env:Ev}{f:R->Option Int->Option Int->M R}{g:G R}{lo hi:GO}{x z:R}{l u:Option Int}(h:g env=.ok x) (h2:lo env=.ok l) (h3:hi env=.ok u) (hf:f x l u=.ok z):nq f g lo hi env=.ok z:=by unfold nq;rw [h,aQ,h2,aQ,h3];exact hf
theorem rA {env:Ev}{g:G R}{i:Int}(h:g env=.ok (.d (.int i))):qf g env=.ok (some i):=by unfold qf;rw [h];rfl
theorem len_str (s:Str) (h:s.length<=1000):eV [.d (.str s)]=.ok (.d (.int (s.length:Nat))):=by show (if s.length<=sizeLine then _ else _)=_;rw [if_pos (fG h)]
theorem IC (s:Str):(jZ s false).cps.toList=s.cps.toList\/(jZ s false).cps.toList=s.cps.toList++[113]:=by
 unfold jZ;split
 ·rw [if_neg (by decide),kR];exact .inr rfl
 ·exact .inl rfl
theorem AV (c:Int) (hc:0<=c):∃ss:List Str,gG [.d (.int c),.d (.int 3)]=.ok (.l .fresh (ss.map .str))/\ss.length=3/\ss.Nodup:=by
 have fin3:∀(f:Nat->Str),(∀a,a < 3->∀b,b < 3->f a=f b->a=b)->(mE ((Ur 3).map f)).length=3/\(mE ((Ur 3).map f)).Nodup:=λf h=>
  ⟨by rw [(oU _).length_eq];simp,(oU _).symm.nodup (EU (λa ha b hb=>h a (UP.mp ha) b (UP.mp hb)) W9)⟩
 have key:Wp (gG [.d (.int c),.d (.int 3)]) λr=>∃ss:List Str,r=.l .fresh (ss.map .str)/\ss.length=3/\ss.Nodup:=by
  refine oW (bC rfl rfl (bC rfl rfl (eX (jC (n:=7) rfl (by decide)) ?_)));refine iA (n:=7) (λk env=>∃(n:Int) (st:Str) (x:Option S),env=[some (.d (.int n)),some (.d (.int 3)),some (.d (.str "abcdefghijklmnopqrstuvwxyz")),some (.d (.str st)),x,none,none,none]/\0<=n/\st.length=k) ⟨c,"",none,rfl,hc,rfl⟩ ?_ ?_
  ·rintro k hk _ ⟨n,st,x,rfl,hn,hl⟩;refine ⟨_,rfl,bC (two rfl (two rfl (two rfl rfl (c_ n 26 (by decide))) (EK _ (by omega) (by omega))) (qK st _ (by show st.length + 1<=1000;omega))) rfl (fK (two rfl rfl (gq n 26 (by decide) (by decide))) rfl ⟨_,rfl,n / 26,_,_,rfl,by omega,?_⟩)⟩;rw [dI,kR,UI,<-dI,hl];rfl
  ·rintro _ ⟨n,st,x,rfl,hn,hl⟩;refine b_ (jz (c:=bh (.int (n % 2)) (.int 0)) (bH (two rfl rfl (c_ n 2 (by decide))) rfl rfl) (λ_=>?_) λ_=>fQ ?_)
   ·have hs:∀k,k < 3->(WE st none (some ((2 + k:Nat):Int))).length=2 + k:=λk hk=>by rw [dI,Jb _ _ (by omega),Vy,<-dI];omega
    obtain ⟨h1,h2⟩:=fin3 (λk=>jZ (WE st none (some ((2 + k:Nat):Int))) true) λa ha b hb e=>by have:=congrArg ach e;rw [ID _ (by rw [hs a ha];omega),ID _ (by rw [hs b hb];omega),hs a ha,hs b hb] at this;omega
    refine bE (n1 (z:=.l .fresh ((mE ((Ur 3).map λk=>jZ (WE st none (some ((2 + k:Nat):Int))) true)).map .str)) (mK (xs:=Ur 3) (h:=dN) (λk=>.str (jZ (WE st none (some ((2 + k:Nat):Int))) true)) (mP (n:=3) rfl (by decide)) (by decide) λk hk=>?_) ?_) rfl ⟨_,rfl,_,rfl,h1,h2⟩
    ·obtain ⟨a,b⟩:=u_ st none (some ((2 + k:Nat):Int)) (by omega);exact ⟨_,c2 (rJ rfl rfl (rA ((two rfl rfl (kX 2 k)).trans (by rw [show (2:Int) + (k:Int)=((2 + k:Nat):Int) by omega]))) a) rfl (AU _ true (by omega)),rfl⟩
    ·have:=sorted_strs .fresh ((Ur 3).map λk=>jZ (WE st none (some ((2 + k:Nat):Int))) true) (by simp);rw [Vn] at this;exact this
   ·obtain ⟨q,hq,T7⟩:=K33.nF (n / 2) 6 (by decide);have hq:n / 2 % 6=(q:Int):=hq;obtain ⟨a,b⟩:=u_ st none (some ((2 + q:Nat):Int)) (by omega);obtain ⟨s2,hs2⟩:∃s2,s2=WE st none (some ((2 + q:Nat):Int)):=⟨_,rfl⟩;have l2:s2.length=2 + q:=by rw [hs2,dI,Jb _ _ (by omega),Vy,<-dI];omega
    obtain ⟨at_,hat,Sf⟩:=K33.nF (n / 12) s2.length (by omega);obtain ⟨ch,hch⟩:∃ch,s2.cps.toList[at_]?=some ch:=⟨_,UA (by rw [<-dI];exact Sf)⟩;have hix:=Bo (z:=s2) (k:=at_) (by omega) hch;obtain ⟨A,hA⟩:∃A,A=WE s2 none (some (at_:Int)):=⟨_,rfl⟩;obtain ⟨B,hB⟩:∃B,B=WE s2 (some ((at_ + 1:Nat):Int)) none:=⟨_,rfl⟩;obtain ⟨eA,lA⟩:=u_ s2 none (some (at_:Int)) (by omega);obtain ⟨eB,lB⟩:=u_ s2 (some ((at_ + 1:Nat):Int)) none (by omega);rw [<-hA] at eA lA;rw [<-hB] at eB lB;obtain ⟨F,hF⟩:∃F:Int,F=Txt.find "abcdefghijklmnopqrstuvwxyz" ⟨#[ch]⟩:=⟨_,rfl⟩;obtain ⟨sg,hsg⟩:∃sg:Nat->Nat,∀k:Nat,sg k=97 + ((F + 5 * (k:Int)) % 26).toNat:=⟨_,λ_=>rfl⟩;obtain ⟨nm,hnm⟩:∃nm:Nat->Str,∀k:Nat,nm k=A++⟨#[sg k]⟩++B:=⟨_,λ_=>rfl⟩;have cn:∀k,(nm k).cps.toList=A.cps.toList++sg k::B.cps.toList:=λk=>by rw [hnm,kR,kR,WW];rfl
    have lnm:∀k,(nm k).length<=30:=λk=>by rw [dI,cn,UI,VG,<-dI,<-dI];omega
    obtain ⟨h1,h2⟩:=fin3 (λk=>jZ (nm k) false) λi hi j hj e=>by
     have e:=congrArg (λs:Str=>s.cps.toList) e;have e:(jZ (nm i) false).cps.toList=(jZ (nm j) false).cps.toList:=e;have ln:∀k,(nm k).cps.toList.length=A.cps.toList.length + (B.cps.toList.length + 1):=λk=>by rw [cn,UI,VG]
     have li:=ln i;have lj:=ln j;have:(nm i).cps.toList=(nm j).cps.toList:=by
      rcases IC (nm i) with p | p <;> rcases IC (nm j) with q | q <;> rw [p,q] at e
      ·exact e
      ·have:=congrArg We e;simp only [UI,X5] at this;omega
      ·have:=congrArg We e;simp only [UI,X5] at this;omega
      ·exact List.append_cancel_right e
     rw [cn,cn] at this;have:=List.append_cancel_left this;have:=(aef this).1;rw [hsg,hsg] at this;omega
    rw [<-hs2] at a;refine bC (rJ rfl rfl (rA ((two rfl (two (two rfl rfl (gq n 2 (by decide) (by decide))) rfl (c_ _ 6 (by decide))) (kX 2 _)).trans (by rw [hq,show (2:Int) + (q:Int)=((2 + q:Nat):Int) by omega]))) a) rfl ?_;refine bC (r:=.d (.int (at_:Int))) ((two (two rfl rfl (gq n 12 (by decide) (by decide))) (n1 rfl (len_str s2 (by omega))) (c_ _ _ (by omega))).trans (by rw [hat])) rfl ?_;refine bC rfl rfl (eX (jC (n:=3) rfl (by decide)) ?_);refine iA (n:=3) (λk env=>∃(x y:Option S),env=[some (.d (.int n)),some (.d (.int 3)),some (.d (.str "abcdefghijklmnopqrstuvwxyz")),some (.d (.str s2)),x,some (.d (.int (at_:Int))),some (.own (((Ur k).map λk=>jZ (nm k) false).map .str)),y]) ⟨_,_,rfl⟩ ?_ ?_
    ·rintro k hk _ ⟨x,y,rfl⟩;have SX:=EK ((F + 5 * (k:Int)) % 26) (by omega) (by omega);rw [<-hsg] at SX;refine ⟨_,rfl,bC (two rfl (two (two (show CL (af 2) (g2 aY (af 3) (af 5)) _=.ok (.d (.int F)) from ?_) (two rfl rfl (ji 5 k (by omega) (by omega))) (kX F _)) rfl (c_ _ 26 (by decide))) SX) rfl ?_⟩
     ·show (g2 aY (af 3) (af 5) _ >>= _)=_;rw [two (x:=.d (.str s2)) (y:=.d (.int (at_:Int))) rfl rfl hix,aQ,hF]
     ·have e1:=qK A ⟨#[sg k]⟩ (by show A.length + 1<=1000;omega);have e2:=qK (A++⟨#[sg k]⟩) B (by
       rw [dI,kR,UI,<-dI];show A.length + 1 + B.length<=1000;omega)
      have e3:=AU (nm k) false (by have:=lnm k;omega);rw [<-hnm] at e2;refine kI rfl (c2 (two (two (rJ rfl rfl (rA rfl) eA) rfl e1) (rJ rfl (rA (i:=((at_ + 1:Nat):Int)) ((two rfl rfl (kX _ 1)).trans (by rw [show ((at_:Int) + 1)=((at_ + 1:Nat):Int) by omega]))) rfl eB) e2) rfl e3) rfl (by simp;omega) ⟨_,rfl,some (.d (.int k)),some (.d (.str ⟨#[sg k]⟩)),?_⟩;rw [Xw,UN,UN];rfl
    ·rintro _ ⟨x,y,rfl⟩;exact bE (n1 rfl (sorted_strs _ _ (by simp))) rfl ⟨_,rfl,_,rfl,h1,h2⟩
 obtain ⟨_,h,ss,rfl,hl⟩:=key;exact ⟨ss,h,hl⟩
abbrev eW (m:Nat) (A B:List Str) (n:Int) (r:List (Option S)):Ev:=some (.d (.int m))::some (.d (.lst (A.map .str)))::some (.d (.lst (B.map .str)))::some (.d (.int n))::r
theorem DY {env:Ev}{n:Int}(h:af 3 env=.ok (.d (.int n))):bw (g2 (bX false) (g2 dD (af 3) (gC (.int 2))) (gC (.int 1))) env=.ok (bh (.int (n % 2)) (.int 1)):=bH (two h rfl (c_ n 2 (by decide))) rfl rfl
theorem half {env:Ev}{n:Int}(h:af 3 env=.ok (.d (.int n))):g2 f9 (af 3) (gC (.int 2)) env=.ok (.d (.int (n / 2))):=two h rfl (gq n 2 (by decide) (by decide))
theorem AY (m:Nat) (hm:m<=4) (A B:List Str) (hA:A.length<=3) (hB:B.length<=3) (n:Int):
  ∃ms rs,d8 [.d (.int m),.d (.lst (A.map .str)),.d (.lst (B.map .str)),.d (.int n)]=.ok (.d (Wd.d ⟨m,ms,rs⟩))/\ms.map Ve=A/\rs.map Ve=B/\DI 16 ⟨m,ms,rs⟩:=by
 have RU:m * m<=16:=XU hm hm;have key:Wp (d8 [.d (.int m),.d (.lst (A.map .str)),.d (.lst (B.map .str)),.d (.int n)]) λr=>∃ms rs,r=.d (Wd.d ⟨m,ms,rs⟩)/\ms.map Ve=A/\rs.map Ve=B/\DI 16 ⟨m,ms,rs⟩:=by
  refine oW (bC rfl rfl (eX (ds:=A.map .str) rfl ?_));refine kc (λk env=>∃(n:Int) (ms:List (Str×List Nat)) (x y z:Option S),env=eW m A B n [some (.own (ms.map kj)),x,y,z,none,none,none,none]/\ms.map Ve=A.take k/\∀r∈ms,r.2.length<=16/\∀p∈r.2,p < m) _ ⟨n,[],none,none,none,rfl,rfl,λ_ h=>nomatch h⟩ ?_ ?_
  ·rintro k hk _ ⟨n,ms,x,y,z,rfl,hf,hp⟩;rw [Uo] at hk;have lm:ms.length<=3:=by have:=congrArg We hf;rw [Uo,Vy] at this;omega
   rw [VT];refine ⟨_,rfl,bC rfl rfl (eX (jC (n:=m) rfl (by omega)) ?_)⟩;refine iA (n:=m) (λj env=>∃(n:Int) (xs:List Nat) (z:Option S),env=eW m A B n [some (.own (ms.map kj)),some (.d (.str A[k])),some (.own (xs.map dN)),z,none,none,none,none]/\xs.length<=j/\∀x∈xs,x < m) ⟨n,[],z,rfl,Uw _,λ_ h=>nomatch h⟩ ?_ ?_
   ·rintro j hj _ ⟨n,xs,z,rfl,hl,hx⟩;refine ⟨_,rfl,b_ (jz (DY (n:=n) rfl) (λ_=>kI rfl rfl rfl (by simp;omega) ?_) λ_=>fQ ?_)⟩
    ·refine fK (half (n:=n) rfl) rfl ⟨_,rfl,n / 2,xs++[j],some (.d (.int j)),by rw [UN];rfl,by simp;omega,λx hx'=>?_⟩;rcases US.mp hx' with h | h
     ·exact hx x h
     ·rw [Uz.mp h];exact hj
    ·exact fK (half (n:=n) rfl) rfl ⟨_,rfl,n / 2,xs,some (.d (.int j)),rfl,by omega,hx⟩
   ·rintro _ ⟨n,xs,z,rfl,hl,hx⟩;refine kI rfl (bD (aL rfl rfl (aL (n1 rfl rfl) rfl bg)) t2) rfl (by simp;omega) ⟨_,rfl,n,ms++[(A[k],xs)],_,_,_,by rw [UN];rfl,?_,λr hr=>?_⟩
    ·rw [UN,hf,Yw,UA hk];rfl
    ·rcases US.mp hr with h | h
     ·exact hp r h
     ·rw [Uz.mp h];exact ⟨by show xs.length<=16;omega,hx⟩
  rintro _ ⟨n,ms,x,y,z,rfl,hf,hp⟩;rw [Uo,Xa] at hf;refine bC rfl rfl (eX (ds:=B.map .str) rfl ?_);refine kc (λk env=>∃(n:Int) (rs:List (Str×List (Nat×Nat))) (x a b c:Option S),env=eW m A B n [some (.own (ms.map kj)),x,y,z,some (.own (rs.map oQ)),a,b,c]/\rs.map Ve=B.take k/\∀r∈rs,r.2.length<=16/\∀p∈r.2,p.1 < m/\p.2 < m) _ ⟨n,[],x,none,none,none,rfl,rfl,λ_ h=>nomatch h⟩ ?_ ?_
  ·rintro k hk _ ⟨n,rs,x,a,b,c,rfl,hf,hp⟩;rw [Uo] at hk;have lm:rs.length<=3:=by have:=congrArg We hf;rw [Uo,Vy] at this;omega
   rw [VT];refine ⟨_,rfl,bC rfl rfl (eX (jC (n:=m) rfl (by omega)) ?_)⟩;refine iA (n:=m) (λi env=>∃(n:Int) (ps:List (Nat×Nat)) (b c:Option S),env=eW m A B n [some (.own (ms.map kj)),some (.d (.str B[k])),y,z,some (.own (rs.map oQ)),some (.own (ps.map dP)),b,c]/\ps.length<=i * m/\∀p∈ps,p.1 < m/\p.2 < m) ⟨n,[],b,c,rfl,by simp,λ_ h=>nomatch h⟩ ?_ ?_
   ·rintro i hi _ ⟨n,ps,b,c,rfl,hl,hx⟩;have T3:i * m + m<=m * m:=by rw [<-acG];exact WL m hi
    refine ⟨_,rfl,mz (jC (n:=m) rfl (by omega)) ?_⟩;refine iA (n:=m) (λj env=>∃(n:Int) (ps:List (Nat×Nat)) (c:Option S),env=eW m A B n [some (.own (ms.map kj)),some (.d (.str B[k])),y,z,some (.own (rs.map oQ)),some (.own (ps.map dP)),some (.d (.int i)),c]/\ps.length<=i * m + j/\∀p∈ps,p.1 < m/\p.2 < m) ⟨n,ps,c,rfl,hl,hx⟩ ?_ ?_
    ·rintro j hj _ ⟨n,ps,c,rfl,hl,hx⟩;refine ⟨_,rfl,b_ (jz (DY (n:=n) rfl) (λ_=>kI rfl (bD (aL rfl rfl (aL rfl rfl bg)) t2) rfl (by simp;omega) ?_) λ_=>fQ ?_)⟩
     ·refine fK (half (n:=n) rfl) rfl ⟨_,rfl,n / 2,ps++[(i,j)],some (.d (.int j)),by rw [UN];rfl,by simp;omega,λx hx'=>?_⟩;rcases US.mp hx' with h | h
      ·exact hx x h
      ·rw [Uz.mp h];exact ⟨hi,hj⟩
     ·exact fK (half (n:=n) rfl) rfl ⟨_,rfl,n / 2,ps,some (.d (.int j)),rfl,by omega,hx⟩
    ·rintro _ ⟨n,ps,c,rfl,hl,hx⟩;exact ⟨_,rfl,n,ps,_,c,rfl,by rw [acG];exact hl,hx⟩
   ·rintro _ ⟨n,ps,b,c,rfl,hl,hx⟩;refine kI rfl (bD (aL rfl rfl (aL (n1 rfl rfl) rfl bg)) t2) rfl (by simp;omega) ⟨_,rfl,n,rs++[(B[k],ps)],_,_,_,_,by rw [UN];rfl,?_,λr hr=>?_⟩
    ·rw [UN,hf,Yw,UA hk];rfl
    ·rcases US.mp hr with h | h
     ·exact hp r h
     ·rw [Uz.mp h];exact ⟨by show ps.length<=16;omega,hx⟩
  rintro _ ⟨n,rs,x,a,b,c,rfl,hf2,hp2⟩;rw [Uo,Xa] at hf2;exact bE (bD (aL rfl rfl (aL (n1 rfl rfl) rfl (aL (n1 rfl rfl) rfl bg))) (by show 3<=1000;decide)) rfl ⟨_,rfl,ms,rs,rfl,hf,hf2,⟨hp,hp2⟩⟩
 obtain ⟨_,h,ms,rs,rfl,hk⟩:=key;exact ⟨ms,rs,h,hk⟩
theorem Ls (n:Int) (k:Nat) (hk:k<=60):∃n',gu [.d (.int n),.d (.int k)]=.ok (.d (.int n')):=by
 have key:Wp (gu [.d (.int n),.d (.int k)]) λr=>∃n':Int,r=.d (.int n'):=by
  refine oW (bC rfl rfl (eX (jC (n:=k) rfl (by omega)) ?_));refine iA (n:=k) (λj env=>∃x:Option S,env=[some (.d (.int n)),some (.d (.int k)),some (.d (.int (2 ^ j))),x]) ⟨none,rfl⟩ ?_ ?_
  ·rintro j hj _ ⟨x,rfl⟩;exact ⟨_,rfl,fK (two rfl rfl (ji _ 2 (by decide) (by decide))) rfl ⟨_,rfl,some (.d (.int j)),by rw [Int.pow_succ];rfl⟩⟩
  ·rintro _ ⟨x,rfl⟩;have p0:(0:Int) < 2 ^ k:=Int.pow_pos (by decide);have p1:(2:Int) ^ k < 2 ^ 200:=by have:(2:Nat) ^ k < 2 ^ 200:=Nat.pow_lt_pow_right (by decide) (by omega);exact_mod_cast this
   exact b_ (jz (c:=bh (.int (n / 2 ^ k % 2)) (.int 1)) (bH (two (two rfl rfl (qJ n _ p0 p1)) rfl (c_ _ 2 (by decide))) rfl rfl) (λ_=>bE (two rfl rfl (Dv _ _)) rfl ⟨_,rfl,_,rfl⟩) λ_=>fQ (bE (two rfl rfl (lP _ _)) rfl ⟨_,rfl,_,rfl⟩))
 obtain ⟨_,h,n',rfl⟩:=key;exact ⟨n',h⟩
theorem GH {ps:List Nat}{p:Nat}(hp:p < ps.length):aY (.l .own (ps.map dN)) (.d (dN p))=.ok (.d (dN (ps.getD p 0))):=
 qV (by rw [UT,UA hp];simp [Zl,hp])
theorem Lw (u:Wd) (hu:A4 u) (hb:DI 16 u) (h4:u.m<=4) (n:Int):∃ps:List Nat,fc [.d u.d,.d (.int n)]=.ok (.d (iD u ps).d):=by
 have ml:=hu.ml;have al:=hu.al;have key:Wp (fc [.d u.d,.d (.int n)]) λr=>∃ps:List Nat,r=.d (iD u ps).d:=by
  refine oW (bC (r:=.l .fresh ((Ur u.m).map dN)) (K81.PX (cT (two rfl rfl (fP _ _))) (by omega)) rfl (bC rfl rfl (eX (jC (n:=u.m) (cT (two rfl rfl (fP _ _))) (by omega)) ?_)));refine iA (n:=u.m) (λk env=>∃(c:Int) (ls ps:List Nat) (x:Option S),env=[some (.d u.d),some (.d (.int c)),some (.own (ls.map dN)),some (.own (ps.map dN)),x,none,none,none,none,none]/\ls.length + k=u.m/\ps.length=k) ⟨n,Ur u.m,[],none,rfl,by simp,rfl⟩ ?_ ?_
  ·rintro k hk _ ⟨c,ls,ps,x,rfl,l1,l2⟩;have hlen:(0:Int) < ((ls.map dN).length:Nat):=by simp;omega
   obtain ⟨j,hj,hjl⟩:=K33.nF c (ls.map dN).length (by simp;omega);have Sn:j < ls.length:=by simpa using hjl
   refine ⟨_,rfl,b_ (GL (k:=j) rfl rfl (by decide) ((two rfl (n1 rfl rfl) (c_ _ _ hlen)).trans (by rw [hj])) hjl (by simp;omega) (by simp;omega) ?_)⟩;refine fK (two rfl rfl (gq _ 5 (by decide) (by decide))) rfl ⟨_,rfl,c / 5,ls.eraseIdx j,ps++[ls[j]],some (.d (.int k)),?_,?_,?_⟩
   ·rw [UN,VT,show (ls.eraseIdx j).map dN=(ls.map dN).eraseIdx j by simp [Zb,Zy,aax]];rfl
   ·rw [abn,if_pos Sn];omega
   ·rw [UI];simp;omega
  rintro _ ⟨c,ls,ps,x,rfl,l1,l2⟩;refine bC rfl rfl (eX (ds:=u.ms.map kj) ?_ ?_)
  ·show (g2 aY (af 0) (gC (.int 1)) _ >>= _)=_;rw [two (x:=.d u.d) rfl rfl (EJ _ _ _)];rfl
  refine kc (λk env=>∃(y z:Option S),env=[some (.d u.d),some (.d (.int c)),some (.own (ls.map dN)),some (.own (ps.map dN)),x,some (.own ((((iD u ps).ms).take k).map kj)),y,z,none,none]) _ ⟨none,none,rfl⟩ ?_ ?_
  ·rintro k hk _ ⟨y,z,rfl⟩;rw [Uo] at hk;rw [VT];obtain ⟨h1,h2⟩:=hb.mp u.ms[k] (U9 hk);refine ⟨_,rfl,kI rfl (bD (aL rfl rfl (aL (n1 (n1 (mK (xs:=u.ms[k].2) (h:=dN) (λp=>dN (ps.getD p 0)) rfl (by omega) λp hp=>⟨_,two rfl rfl (GH (by rw [l2];exact h2 p hp)),rfl⟩) (x:=.l .fresh (u.ms[k].2.map λp=>dN (ps.getD p 0))) (z:=.l .fresh (bQ ((u.ms[k].2.map λp=>ps.getD p 0).map dN))) ?_) rfl) rfl bg)) t2) rfl (by simp;omega) ⟨_,rfl,some (.d (.str u.ms[k].1)),some (.d (.tup (u.ms[k].2.map dN))),?_⟩⟩
   ·have:=P5 (u.ms[k].2.map λp=>ps.getD p 0) (by simp;omega);rw [Vn] at this ⊢;exact this
   ·have hk':k < (iD u ps).ms.length:=by unfold iD;simpa using hk
    rw [Yw,UA hk',UN];have e:(iD u ps).ms[k]=(u.ms[k].1,(bQ ((u.ms[k].2.map λp=>ps.getD p 0).map dN)).map B4):=by unfold iD;simp
    show _=[_,_,_,_,_,some (S.own (_++[kj (iD u ps).ms[k]])),_,_,_,_];rw [e];unfold kj;rw [xG dN B4 O1];rfl
  rintro _ ⟨y,z,rfl⟩;rw [Uo,show u.ms.length=(iD u ps).ms.length by unfold iD;simp,Xa];refine bC rfl rfl (eX (ds:=u.ar.map oQ) ?_ ?_)
  ·show (g2 aY (af 0) (gC (.int 2)) _ >>= _)=_;rw [two (x:=.d u.d) rfl rfl (Mt _ _ _ _)];rfl
  refine kc (λk env=>∃(y a:Option S),env=[some (.d u.d),some (.d (.int c)),some (.own (ls.map dN)),some (.own (ps.map dN)),x,some (.own ((iD u ps).ms.map kj)),y,z,some (.own ((((iD u ps).ar).take k).map oQ)),a]) _ ⟨y,none,rfl⟩ ?_ ?_
  ·rintro k hk _ ⟨y,a,rfl⟩;rw [Uo] at hk;rw [VT];obtain ⟨h1,h2⟩:=hb.ap u.ar[k] (U9 hk);refine ⟨_,rfl,kI rfl (bD (aL rfl rfl (aL (n1 (n1 (uA (xs:=u.ar[k].2) (λp=>dN p.1) (λp=>dN p.2) (λp=>dP (ps.getD p.1 0,ps.getD p.2 0)) rfl (by omega) λp hp=>⟨_,bD (aL (two rfl rfl (GH (by rw [l2];exact (h2 p hp).1))) rfl (aL (two rfl rfl (GH (by rw [l2];exact (h2 p hp).2))) rfl bg)) t2,rfl⟩) (x:=.l .fresh (u.ar[k].2.map λp=>dP (ps.getD p.1 0,ps.getD p.2 0))) (z:=.l .fresh (bQ ((u.ar[k].2.map λp=>(ps.getD p.1 0,ps.getD p.2 0)).map dP))) ?_) rfl) rfl bg)) t2) rfl (by simp;omega) ⟨_,rfl,some (.d (.str u.ar[k].1)),some (.d (.tup (u.ar[k].2.map dP))),?_⟩⟩
   ·have:=P6 (u.ar[k].2.map λp=>(ps.getD p.1 0,ps.getD p.2 0)) (by simp;omega);rw [Vn] at this ⊢;exact this
   ·have hk':k < (iD u ps).ar.length:=by unfold iD;simpa using hk
    rw [Yw,UA hk',UN];have e:(iD u ps).ar[k]=(u.ar[k].1,(bQ ((u.ar[k].2.map λp=>(ps.getD p.1 0,ps.getD p.2 0)).map dP)).map As):=by unfold iD;simp
    show _=[_,_,_,_,_,_,_,_,some (S.own (_++[oQ (iD u ps).ar[k]])),_];rw [e];unfold oQ;rw [xG dP As vh];rfl
  rintro _ ⟨y,a,rfl⟩;rw [Uo,show u.ar.length=(iD u ps).ar.length by unfold iD;simp,Xa];exact bE (bD (aL (two rfl rfl (fP _ _)) rfl (aL (n1 rfl rfl) rfl (aL (n1 rfl rfl) rfl bg))) (by show 3<=1000;decide)) rfl ⟨_,rfl,ps,rfl⟩
 obtain ⟨_,h,ps,rfl⟩:=key;exact ⟨ps,h⟩
end K72
namespace K72
open PySem DL K01 WP K51 K52 K55 K22 K33
open K23 (Pr bO dH aS iV iW Good iI fW bH gS fj ic iy)
noncomputable def mb (ch:List (List Nat)):Nat->List Nat->Option (List Nat)
 | 0,ah=>some ah
 | r + 1,ah=>(ch.getD ah.length []).findSome? λp=>if p∈ah then none else mb ch r (ah++[p])
theorem BG {ch:List (List Nat)}:∀{r:Nat}{ah σ:List Nat},ah.Nodup->mb ch r ah=some σ->σ.Nodup/\σ.length=ah.length + r/\ah <+:σ/\∀i (hi:i < σ.length),ah.length<=i->σ[i]∈ch.getD i []
 | 0,ah,σ,nd,h=>by cases h;exact ⟨nd,rfl,List.prefix_refl _,λi h1 h2=>absurd h2 (by omega)⟩
 | r + 1,ah,σ,nd,h=>by
  obtain ⟨p,h1,h2⟩:=List.exists_of_findSome?_eq_some h;split at h2
  ·cases h2
  rename_i hp;have nd':(ah++[p]).Nodup:=Wx.mpr ⟨nd,VZ _ _,λx hx y hy e=>hp (by rw [Uz.mp hy] at e;exact e▸hx)⟩;obtain ⟨a,b,c,d⟩:=BG nd' h2;rw [UI,X5] at b d;refine ⟨a,by omega,(List.prefix_append _ _).trans c,λi hi hl=>?_⟩;by_cases e:i=ah.length
  ·obtain ⟨t,rfl⟩:=c;subst e;simpa using h1
  ·exact d i hi (by omega)
theorem BF {ch:List (List Nat)}:∀{r:Nat}{ah:List Nat},mb ch r ah=none->∀σ:List Nat,σ.Nodup->σ.length=ah.length + r->ah <+:σ->¬∀i (hi:i < σ.length),ah.length<=i->σ[i]∈ch.getD i []
 | 0,_,h,_,_,_,_,_=>by cases h
 | r + 1,ah,h,σ,nd,hl,hp,hc=>by
  obtain ⟨t,rfl⟩:=hp;cases t with
  | nil=>simp at hl
  | cons p t=>
   have hm:p∈ch.getD ah.length []:=by have:=hc ah.length (by simp) (Uw _);simpa using this
   have hn:p∉ah:=λz=>(Wx.mp nd).2.2 p z p (by simp) rfl;have:=List.findSome?_eq_none_iff.mp h p hm;rw [if_neg hn] at this;refine BF this (ah++p::t) nd (by simp at hl ⊢;omega) ⟨t,by simp⟩ λi hi hl=>hc i hi (by simp at hl;omega)
abbrev tL (xs:List Nat):D:=.lst (xs.map dN)
noncomputable def oM:Option (List Nat)->D
 | none=>.non
 | some σ=>.tup (σ.map dN)
theorem Ca (ch:List (List Nat)) (hc:ch.length<=10) (hr:∀r∈ch,r.length<=10):∀(f r:Nat) (ah:List Nat),ah.length + r=ch.length->r < f->dc f [.bor (ch.map tL),.d (.tup (ah.map dN))]=.ok (.d (oM (mb ch r ah)))
 | 0,_,_,_,h=>absurd h (by omega)
 | f + 1,r,ah,hl,h=>by
  have eqi:∀a b:Nat,bX false (.d (.int (a:Int))) (.d (.int (b:Int)))=.ok (.d (.bl (decide (a=b)))):=λa b=>by rw [K01.eq_int];congr 3;show ((a:Int) == (b:Int))=_;rw [Vk,beq_iff_eq,decide_eq_true_eq];omega
  have ht:bw (g2 (bX false) (gN eV (ao (af 1) aC)) (gN eV (ao (af 0) aC))) (aW mH [.bor (ch.map tL),.d (.tup (ah.map dN))])=.ok (decide (ah.length=ch.length)):=by
   refine bH (x:=.d (.int (ah.length:Nat))) (y:=.d (.int (ch.length:Nat))) (n1 rfl ?_) (n1 rfl ?_) (eqi _ _)
   ·show M.ok (R.d (.int ((ah.map dN).length:Nat)))=_;rw [Uo]
   ·show M.ok (R.d (.int ((ch.map tL).length:Nat)))=_;rw [Uo]
  cases r with
  | zero=>
   rw [decide_eq_true (by omega)] at ht;exact cg (b_ (ow ht (bE rfl rfl rfl)))
  | succ r=>
   rw [decide_eq_false (by omega)] at ht;have hlt:ah.length < ch.length:=by omega
   have hg:ch.getD ah.length []=ch[ah.length]:=by simp [Zl,hlt]
   refine cg (gA ht ?_);have hit:fO (g2 aY (af 0) (gN eV (ao (af 1) aC))) (aW mH [.bor (ch.map tL),.d (.tup (ah.map dN))])=.ok (ch[ah.length].map dN):=by show (g2 aY _ _ _ >>= _)=_;rw [two (y:=.d (.int (ah.length:Nat))) (z:=.d (tL ch[ah.length])) rfl (n1 rfl (by show M.ok (R.d (.int ((ah.map dN).length:Nat)))=_;rw [Uo])) (qV (m:=.bor) (by rw [UT,UA hlt];rfl))];rfl
   refine eX hit ?_;unfold mb;rw [hg];have key:∀(xs:List Nat) (z y:Option S),Wp (ff (aD 2) (bJ (bw (g2 (fH true) (af 2) (af 1))) (aH (bf 3 (gN (aO 2 (dc f)) (ao (af 0) (ao (g2 bY (af 1) (bB (az (af 2) aP))) aC))))
     (bJ (bw (g2 (iL true) (af 3) (gC .non))) (br (af 3)) cK)) cK) (xs.map dN) [some (.bor (ch.map tL)),some (.d (.tup (ah.map dN))),z,y]) λo=>match xs.findSome? λp=>if p∈ah then none else mb ch r (ah++[p]) with
      | some σ=>o=.rt (.d (oM (some σ)))
      | none=>∃e,o=.nx e:=by
    intro xs
    induction xs with
    | nil=>exact λz y=>⟨_,rfl,_,rfl⟩
    | cons p xs ih=>
     intro z y;rw [UH,List.findSome?_cons];show Wp (aD 2 (dN p) _ >>= _) _;rw [show aD 2 (dN p) [some (.bor (ch.map tL)),some (.d (.tup (ah.map dN))),z,y]=.ok [some (.bor (ch.map tL)),some (.d (.tup (ah.map dN))),some (.d (dN p)),y] from rfl,aQ];have hin:bw (g2 (fH true) (af 2) (af 1)) [some (.bor (ch.map tL)),some (.d (.tup (ah.map dN))),some (.d (dN p)),y]=.ok (!decide (p∈ah)):=by refine bH rfl rfl ((uR true (dN p) (ah.map dN) (uB ah) (by show (0:Nat)<=60;decide)).trans ?_);rw [K55.inN];rfl
     by_cases hp:p∈ah
     ·rw [decide_eq_true hp] at hin;rw [jy hin,if_pos hp];exact ih _ _
     ·rw [decide_eq_false hp] at hin;rw [jb hin,if_neg hp];have RM:bY (.d (.tup (ah.map dN))) (.d (.tup [dN p]))=.ok (.d (.tup ((ah++[p]).map dN))):=by rw [yq _ _ (by simp;omega),UN];rfl
      have hrec:=Ca ch hc hr f r (ah++[p]) (by simp;omega) (by omega);have hs:bf 3 (gN (aO 2 (dc f)) (ao (af 0) (ao (g2 bY (af 1) (bB (az (af 2) aP))) aC))) [some (.bor (ch.map tL)),some (.d (.tup (ah.map dN))),some (.d (dN p)),y]=.ok (.nx [some (.bor (ch.map tL)),some (.d (.tup (ah.map dN))),some (.d (dN p)),some (.d (oM (mb ch r (ah++[p]))))]):=by show (gN _ _ _ >>= _)=_;rw [c2 rfl (two rfl (bD (aL rfl rfl bg) (by show 1<=1000;decide)) RM) hrec];rfl
      rw [FG hs];cases q:mb ch r (ah++[p]) with
      | none=>
       rw [jy (show bw (g2 (iL true) (af 3) (gC .non)) _=.ok false from rfl)];exact ih _ _
      | some σ=>
       rw [jb (show bw (g2 (iL true) (af 3) (gC .non)) _=.ok true from rfl)];exact ⟨_,rfl,rfl⟩
   refine (key _ none none).mono λo ho=>?_;cases q:ch[ah.length].findSome? λp=>if p∈ah then none else mb ch r (ah++[p]) with
   | some σ=>rw [q] at ho;rw [ho]
   | none=>
    rw [q] at ho;obtain ⟨e,rfl⟩:=ho;exact bE rfl rfl rfl
section
variable {v w:Wd}{B C k:Ps}{j n:Nat}{L L':Ps->Bool}
noncomputable def iB (v w:Wd) (L:Ps->Bool) (k:Ps):List (List Nat):=(Ur v.m).map λa=>(Ur w.m).filter λb=>decide (v.m=w.m) && (decide (bT k (a,b)∈T4 v w) && L (bT k (a,b)))
def iC (v w:Wd) (L:Ps->Bool) (k:Ps):Bool:=(mb (iB v w L k) v.m []).isSome
structure Mp (v w:Wd) (L:Ps->Bool) (k:Ps) (σ:List Nat):Prop where
 m:v.m=w.m
 nd:σ.Nodup
 len:σ.length=v.m
 at_:∀a (h:a < σ.length),σ[a] < w.m/\bT k (a,σ[a])∈T4 v w/\L (bT k (a,σ[a]))=true
theorem Eh {a:Nat}(ha:a < v.m):(iB v w L k).getD a []=(Ur w.m).filter λb=>decide (v.m=w.m) && (decide (bT k (a,b)∈T4 v w) && L (bT k (a,b))):=by unfold iB;simp [Zl,ha]
theorem CZ (t:Pr v w){σ:List Nat}(h:mb (iB v w L k) v.m []=some σ):Mp v w L k σ:=by
 obtain ⟨a,b,_,d⟩:=BG Xk h;have b:σ.length=v.m:=by simpa using b
 have e:∀i (hi:i < σ.length),v.m=w.m/\σ[i] < w.m/\bT k (i,σ[i])∈T4 v w/\L (bT k (i,σ[i]))=true:=λi hi=>by have:=d i hi (UX _);rw [Eh (by omega),VE,Uq,Uq,decide_eq_true_eq,decide_eq_true_eq,UP] at this;exact ⟨this.2.1,this.1,this.2.2⟩
 have lo:=t.vo.lo;exact ⟨(e 0 (by omega)).1,a,b,λi hi=>(e i hi).2⟩
theorem An (t:Pr v w):iC v w L k=true↔∃σ,Mp v w L k σ:=by
 unfold iC;constructor
 ·intro h;obtain ⟨σ,h⟩:=Vq.mp h;exact ⟨σ,CZ t h⟩
 ·rintro ⟨σ,m⟩;cases q:mb (iB v w L k) v.m [] with
  | some _=>rfl
  | none=>
   refine absurd (λi hi _=>?_) (BF q σ m.nd (by simpa using m.len) (List.nil_prefix));rw [Eh (by have:=m.len;omega),VE,Uq,Uq,decide_eq_true_eq,decide_eq_true_eq,UP];obtain ⟨a,b⟩:=m.at_ i hi;exact ⟨a,m.m,b⟩
def Lc (v w:Wd) (j:Nat) (ps:Ps):Bool:=LZ (iC v w) j ps
theorem vp (t:Pr v w):Lc v w (j + 1) k=true↔Lc v w j k=true/\∃σ,Mp v w (Lc v w j) k σ:=yD.trans (and_congr Iff.rfl (An t))
theorem Jr (hs:∀p∈B,p∈C) (x:Nat×Nat):∀q∈bT B x,q∈bT C x:=λq hq=>by rw [iw] at hq ⊢;exact hq.imp_left (hs q)
theorem N_ (t:Pr v w) (hs:∀p∈B,p∈C){x:Nat×Nat}(h:bT C x∈T4 v w):bT B x∈T4 v w:=
 (Co t).mpr (((Co t).mp h).sub λq hq=>by
  rcases US.mp hq with h | h
  ·exact Xn _ (hs q h)
  ·exact Vm _ h)
theorem yF (t:Pr v w):∀(j:Nat) (B C:Ps),(∀p∈B,p∈C)->Lc v w j C=true->Lc v w j B=true
 | 0,_,_,_,_=>rfl
 | j + 1,B,C,hs,h=>by obtain ⟨h1,σ,m⟩:=(vp t).mp h;refine (vp t).mpr ⟨yF t j B C hs h1,σ,m.m,m.nd,m.len,λa ha=>?_⟩;obtain ⟨a1,a2,a3⟩:=m.at_ a ha;exact ⟨a1,N_ t hs a2,yF t j _ _ (Jr hs _) a3⟩
theorem pS (t:Pr v w) (hm:w.m=v.m){σ:List Nat}(i:K23.yC v w σ):∀(j:Nat) (B:Ps),(∀p∈B,p∈bO σ)->Lc v w j B=true
 | 0,_,_=>rfl
 | j + 1,B,hs=>by
  have g:=iW hm i;refine (vp t).mpr ⟨pS t hm i j B hs,σ,hm.symm,i.nd,i.len,λa ha=>?_⟩;have hz:(a,σ[a])∈bO σ:=dH.mpr ⟨ha,rfl⟩;have hs':∀p∈B++[(a,σ[a])],p∈bO σ:=λp hp=>by
   rcases US.mp hp with h | h
   ·exact hs p h
   ·rw [Uz.mp h];exact hz
  refine ⟨by rw [hm];exact i.rg _ (U9 ha),(Co t).mpr (yz.sub ⟨g.ag,g.rg⟩ hs'),pS t hm i j _ λp hp=>?_⟩;rw [iw] at hp;rcases hp with h | h
  ·exact hs p h
  ·rw [h];exact hz
theorem yE (t:Pr v w):∀(xs:List Nat) (n:Nat) (ps:Ps),(∀x∈xs,x < v.m)->Good v w ps->xs.length<=n->Lc v w n ps=true->∃qs,Good v w qs/\(∀p∈ps,p∈qs)/\∀x∈xs,∃p∈qs,p.1=x
 | [],_,ps,_,g,_,_=>⟨ps,g,λ_ h=>h,λ_ h=>nomatch h⟩
 | x::xs,0,_,_,_,h,_=>absurd h (by simp)
 | x::xs,n + 1,ps,hx,g,hn,h=>by
  obtain ⟨_,σ,m⟩:=(vp t).mp h;obtain ⟨a1,a2,a3⟩:=m.at_ x (by have:=m.len;have:=hx x (by simp);omega);obtain ⟨qs,g',h1,h2⟩:=yE t xs n (bT ps (x,σ[x]'(by have:=m.len;have:=hx x (by simp);omega))) (λy hy=>hx y (by simp [hy])) ((jA t).mp a2) (by simpa using hn) a3;refine ⟨qs,g',λp hp=>h1 p (iw.mpr (.inl hp)),λy hy=>?_⟩;rcases UK.mp hy with rfl | hy
  ·exact ⟨_,h1 _ (iw.mpr (.inr rfl)),rfl⟩
  ·exact h2 y hy
theorem AZ (t:Pr v w) (g:Good v w B) (hn:v.m<=n) (h:Lc v w n B=true):w.m=v.m/\∃σ,K23.yC v w σ/\∀p∈B,p∈bO σ:=by
 have lo:=t.vo.lo;have hm:w.m=v.m:=by obtain ⟨n',rfl⟩:∃n',n=n' + 1:=⟨n - 1,by omega⟩;obtain ⟨_,σ,m⟩:=(vp t).mp h;exact m.m.symm
 obtain ⟨qs,g',h1,h2⟩:=yE t (Ur v.m) n B (λx hx=>UP.mp hx) g (by simpa using hn) h;have l1:v.m<=qs.length:=many (s:=0) λx hx=>h2 x (UP.mpr hx);have l2:qs.length<=v.m:=tM g';obtain ⟨z,j⟩:=iV hm g' (by omega);exact ⟨hm,_,j,λp hp=>z▸h1 p hp⟩
theorem DM (t:Pr v w) (g:Good v w B) (hn:v.m<=n) (h:Lc v w n B=true) (j:Nat):Lc v w j B=true:=by obtain ⟨hm,σ,i,hs⟩:=AZ t g hn h;exact pS t hm i j B hs
end
end K72
namespace K72
open PySem DL K01 WP K51 K52 K55 K22 K33
open K23 (Pr bO dH aS iV iW Good iI fW bH gS fj ic iy ne_int c7)
section
variable {v w:Wd}{B k:Ps}
def jx (v w:Wd) (k:Ps) (a:Nat):List Ps:=if v.m=w.m then (Ur w.m).map λb=>bT k (a,b) else []
abbrev pC (v w:Wd) (k:Ps):List D:=(Ur v.m).map λa=>oR (jx v w k a)
theorem DG (t:Pr v w) (k:Ps) (hl:k.length < 63):jH [.d v.d,.d w.d,.d (aS k)]=.ok (.l .fresh (pC v w k)):=by
 have v4:=t.v4;have w4:=t.w4;have hr:∀env:Ev,af 0 env=.ok (.d v.d)->b9 (ao (g2 aY (af 0) (gC (.int 0))) aC) env=.ok ((Ur v.m).map dN):=λenv he=>mP (cT (two he rfl (fP _ _))) (by omega);by_cases hm:v.m=w.m
 ·refine cg (gA (bH (b:=false) (two rfl rfl (fP _ _)) (two rfl rfl (fP _ _)) ?_) (bE (mK (xs:=Ur v.m) (h:=dN) (λa=>oR (jx v w k a)) (hr _ rfl) (by simp;omega) λa _=>⟨_,mK (xs:=Ur w.m) (h:=dN) (λb=>aS (bT k (a,b))) (mP (cT (two rfl rfl (fP _ _))) (by omega)) (by simp;omega) λb _=>⟨_,c2 rfl (bD (aL rfl rfl (aL rfl rfl bg)) t2) (Jj k (a,b) hl),rfl⟩,?_⟩) rfl rfl))
  ·show bX true (.d (.int (v.m:Nat))) (.d (.int (w.m:Nat)))=_;rw [ne_int,hm];simp
  ·show M.ok (D.lst ((Ur w.m).map λb=>aS (bT k (a,b))))=M.ok (oR (jx v w k a));unfold jx;rw [if_pos hm,oR,Vn];rfl
 ·refine cg (b_ (ow (bH (b:=true) (two rfl rfl (fP _ _)) (two rfl rfl (fP _ _)) ?_) (bE (mK (xs:=Ur v.m) (h:=dN) (λa=>oR (jx v w k a)) (hr _ rfl) (by simp;omega) λa _=>⟨_,fR bg (by decide),?_⟩) rfl rfl)))
  ·show bX true (.d (.int (v.m:Nat))) (.d (.int (w.m:Nat)))=_;rw [ne_int,beq_eq_false_iff_ne.mpr hm];rfl
  ·unfold jx;rw [if_neg hm];rfl
theorem wg (t:Pr v w) (k:Ps) (ks:List Ps) (f:Ps->Option Nat) (j:Nat) (x:S) (hx:x=.d (.lst (pC v w k))\/x=.bor (pC v w k)):
  gH [x,.db (ks.map aS) (ks.map λk=>dV (f k)),.d (.int j)]=.ok (.l .fresh (((Ur v.m).map λa=>(Ur w.m).filter λb=>decide (v.m=w.m) && (decide (bT k (a,b)∈ks) && mq (f (bT k (a,b))) j)).map tL)):=by
 have v4:=t.v4;have w4:=t.w4;rw [Vn];refine cg (bE (mK (xs:=Ur v.m) (h:=λa=>oR (jx v w k a)) (tL ∘ λa=>(Ur w.m).filter λb=>decide (v.m=w.m) && (decide (bT k (a,b)∈ks) && mq (f (bT k (a,b))) j)) (by rcases hx with rfl | rfl <;> rfl) (by simp;omega) λa _=>?_) rfl rfl);by_cases hm:v.m=w.m
 ·refine ⟨_,ze (xs:=Ur w.m) dN (λb=>aS (bT k (a,b))) (λb=>decide (bT k (a,b)∈ks) && mq (f (bT k (a,b))) j) dN ?_ (by simp;omega) λb _=>⟨fW (c3 rfl rfl rfl (Ib ks f (bT k (a,b)) j)),λ_=>⟨_,rfl,rfl⟩⟩,?_⟩
  ·show M.ok (lZ ((jx v w k a).map aS))=_;unfold jx lZ;rw [if_pos hm];congr 1;refine W8 (by simp) λi h1 h2=>?_;simp
  ·show M.ok (D.lst _)=M.ok (D.lst _);congr 2;show _=((Ur w.m).filter _).map dN;rw [decide_eq_true hm];congr 1
 ·refine ⟨.l .fresh [],?_,?_⟩
  ·refine (ze (xs:=([]:List Nat)) dN dN (λ_=>true) dN ?_ (by decide) λb hb=>nomatch hb).trans rfl;show M.ok (lZ ((jx v w k a).map aS))=_;unfold jx;rw [if_neg hm];rfl
  ·show M.ok (D.lst [])=M.ok (D.lst _);congr 2;show []=((Ur w.m).filter _).map dN;rw [decide_eq_false hm];simp
theorem yw (t:Pr v w) (k:Ps) (ks:List Ps) (d:Nat) (hd:d<=6) (hk:∀p,bT k p∈ks↔bT k p∈T4 v w):eN [.d (.lst (pC v w k)),.db (ks.map aS) (ks.map λk=>dV (dZ (iC v w) d k))]=.ok (.d (.bl (iC v w (LZ (iC v w) d) k))):=by
 have v4:=t.v4;have w4:=t.w4;have e:((Ur v.m).map λa=>(Ur w.m).filter λb=>decide (v.m=w.m) && (decide (bT k (a,b)∈ks) && mq (dZ (iC v w) d (bT k (a,b))) 6))=iB v w (LZ (iC v w) d) k:=by
  unfold iB;refine Wf λa _=>Ze λb _=>?_;rw [show decide (bT k (a,b)∈ks)=decide (bT k (a,b)∈T4 v w) from decide_eq_decide.mpr (hk _)];congr 2;cases q:dZ (iC v w) d (bT k (a,b)) with
  | none=>exact (jJ.mp q).symm
  | some e=>
   obtain ⟨h1,h2,_⟩:=Bj q;have h3:LZ (iC v w) d (bT k (a,b))=false:=by
    cases z:LZ (iC v w) d (bT k (a,b)) with
    | false=>rfl
    | true=>rw [qO h2 z] at h1;cases h1
   rw [h3];exact decide_eq_false (by omega)
 have hc:=wg t k ks (dZ (iC v w) d) 6 (.d (.lst (pC v w k))) (.inl rfl);rw [e] at hc;have lc:(iB v w (LZ (iC v w) d) k).length=v.m:=by unfold iB;simp
 have hM:=Ca (iB v w (LZ (iC v w) d) k) (by omega) (λr hr=>by
  unfold iB at hr;obtain ⟨a,_,rfl⟩:=UD.mp hr;refine U1 (VR _ _) ?_;simp;omega) 6 v.m [] (by simpa using lc.symm) (by omega)
 refine cg (bE (r:=.d (.bl (iC v w (LZ (iC v w) d) k))) (two (c2 (c3 rfl rfl rfl hc) (bD bg (by decide)) hM) rfl ?_) rfl rfl);show iL true (.d (oM (mb (iB v w (LZ (iC v w) d) k) v.m []))) (.d .non)=.ok (.d (.bl (mb (iB v w (LZ (iC v w) d) k) v.m []).isSome));cases mb (iB v w (LZ (iC v w) d) k) v.m [] <;> rfl
theorem zK (hk:k∈kn v w B) (p:Nat×Nat):bT k p∈kn v w B↔bT k p∈T4 v w:=by rw [lG];exact ⟨λh=>h.1,λh=>⟨h,λq hq=>iw.mpr (.inl ((lG.mp hk).2 q hq))⟩⟩
theorem F8 (t:Pr v w) (hB:B.length<=100):∃f:Ps->Option Nat,cR [.d v.d,.d w.d,.d (aS B)]=.ok (.mf ((kn v w B).map aS) ((kn v w B).map λk=>dV (f k)))/\∀j,∀k∈kn v w B,mq (f k) j=Lc v w j k:=by
 have v4:=t.v4;have tl:=Ck t;have kl:(kn v w B).length<=(T4 v w).length:=VR _ _;have nd:(kn v w B).Nodup:=(BZ v w 4).filter _;have dx:∀k∈kn v w B,∀x:R,uo x=some ((kn v w B).map aS,(kn v w B).map λk=>D.lst (pC v w k))->iT x (.d (aS k))=.ok (.d (.lst (pC v w k))):=λk hk x hx=>vG kG hx (j4 k) hk;obtain ⟨d,_,h,hs⟩:=Lv (ks:=kn v w B) (val:=λk=>.lst (pC v w k)) (x:="mapped_still") (st:=iC v w) (c1:=Pc 1 2 3 "mapped_still" eN) (c2:=Pc 2 3 1 "mapped_still" eN) (λd=>d<=v.m) (UX _) (λd hd k hk h1 h2=>Nat.lt_of_le_of_ne hd λe=>by
   have:=DM t ((jA t).mp (lG.mp hk).1) (acF e.symm) h1 (d + 1);rw [show Lc v w (d + 1) k=false from h2] at this;cases this) nd (by omega)
  (λk hk d hd=>(c2 (two rfl rfl (dx k hk _ rfl)) rfl (yw t k _ d (by omega) (zK hk))).trans rfl) (λk hk d hd=>(c2 (two rfl rfl (dx k hk _ rfl)) rfl (yw t k _ d (by omega) (zK hk))).trans rfl)
 refine ⟨dZ (iC v w) d,?_,λj k hk=>Mh λj q=>Ds (λL L' k hk hx=>?_) hs j k hk q⟩
 ·refine cg (bC (En (e:=aS) (f:=λk=>D.lst (pC v w k)) (ks:=kn v w B) kG nd ?_ (by omega) λk hk=>⟨j4 k,rfl,_,c3 rfl rfl rfl (DG t k (by have:=O9 t (lG.mp hk).1;omega)),rfl⟩) rfl (bE (r:=.mf ((kn v w B).map aS) ((kn v w B).map λk=>dV (dZ (iC v w) d k))) ?_ rfl rfl))
  ·show (gN _ _ _ >>= _)=_;rw [c3 rfl rfl rfl (Jl t hB)];rfl
  ·show (match mV [.db ((kn v w B).map aS) ((kn v w B).map λk=>D.lst (pC v w k)),.fn "mapped_still"] with
    | .ok r=>M.ok (nj r)
    | _=>.bad)=_
   rw [show mV [.db ((kn v w B).map aS) ((kn v w B).map λk=>D.lst (pC v w k)),.fn "mapped_still"]=_ from h];rfl
 ·rw [An t,An t];rintro ⟨σ,m⟩;exact ⟨σ,m.m,m.nd,m.len,λa ha=>let ⟨a1,a2,a3⟩:=m.at_ a ha;⟨a1,a2,hx _ ((zK hk _).mpr a2) a3⟩⟩
def Iu (v w:Wd) (j:Nat):D:=oR ((T4 v w).filter (Lc v w j))
theorem DE (t:Pr v w) (n:Nat) (hn:n<=6):gO [.d v.d,.d w.d,.d (.int n)]=.ok (.l .fresh ((Ur (n + 1)).map (Iu v w))):=by obtain ⟨f,h1,h2⟩:=F8 (B:=[]) t (by decide);rw [ME] at h1 h2;refine cg (i_ (c2 rfl rfl (ic t)) (i_ (c3 rfl rfl rfl (Pk n 6 hn)) (bE (c2 (c3 rfl rfl (bD bg (by decide)) h1) rfl (N5 (T4 v w) f n (by omega) (by have:=Ck t;omega))) rfl ?_)));show O.rt (.l .fresh _)=_;congr 2;refine Wf λj _=>?_;unfold Iu;rw [Ze λk hk=>h2 j k hk]
theorem Lr (t:Pr v w) (d:D) (B:Ps) (hr:c7 [.d d]=.ok (.d (aS B))) (hB:B.length < 63) (n:Nat) (hn:n < 6):jm [.d v.d,.d w.d,.d (.int ((n + 1:Nat):Int)),.d d]=.ok (.d (oM (mb (iB v w (Lc v w n) B) v.m []))):=by
 have v4:=t.v4;have w4:=t.w4;obtain ⟨f,h1,h2⟩:=F8 (B:=B) t (by omega);have e:((Ur v.m).map λa=>(Ur w.m).filter λb=>decide (v.m=w.m) && (decide (bT B (a,b)∈kn v w B) && mq (f (bT B (a,b))) n))=iB v w (Lc v w n) B:=by
  unfold iB;refine Wf λa _=>Ze λb _=>?_;by_cases c:bT B (a,b)∈T4 v w
  ·have c':bT B (a,b)∈kn v w B:=lG.mpr ⟨c,λq hq=>iw.mpr (.inl hq)⟩;rw [decide_eq_true c,decide_eq_true c',h2 n _ c']
  ·rw [decide_eq_false c,decide_eq_false λz=>c (lG.mp z).1];rfl
 have hc:=wg t B (kn v w B) f n (.bor (pC v w B)) (.inr rfl);rw [e] at hc;have lc:(iB v w (Lc v w n) B).length=v.m:=by unfold iB;simp
 have hM:=Ca (iB v w (Lc v w n) B) (by omega) (λr hr=>by
  unfold iB at hr;obtain ⟨a,_,rfl⟩:=UD.mp hr;refine U1 (VR _ _) ?_;simp;omega) 6 v.m [] (by simpa using lc.symm) (by omega)
 have hn':K55.dg [.d (.int ((n + 1:Nat):Int)),.d (.int 1),.d (.int 6)]=.ok (.d .non):=by
  have:n=0\/n=1\/n=2\/n=3\/n=4\/n=5:=by omega
  rcases this with rfl | rfl | rfl | rfl | rfl | rfl <;> rfl
 refine cg (i_ (c2 rfl rfl (ic t)) (i_ (c3 rfl rfl rfl hn') (bC (c1 rfl hr) rfl (bC (c3 rfl rfl rfl h1) rfl (bE (c2 (c3 (c3 rfl rfl rfl (DG t B hB)) rfl (two (z:=.d (.int (n:Int))) rfl rfl ?_) hc) (bD bg (by decide)) hM) rfl rfl)))));show M.ok (R.d (.int (((n + 1:Nat):Int) - 1)))=_;rw [show ((n + 1:Nat):Int) - 1=(n:Int) by omega]
end
end K72
namespace K72
open PySem DL K01 WP K51 K52 K55
open K23 (iI fW bH Pr)
structure Pn (v w:Wd):Prop where
 t:Pr v w
 mn:(v.ms.map Ve).Nodup
 an:(v.ar.map Ve).Nodup
theorem Qw {f:List R->M R}{env:Ev}{g h:G R}{x y z:R}(hx:g env=.ok x) (hy:h env=.ok y) (hf:f [x,y]=.ok z):gN f (ao g (ao h aC)) env=.ok z:=by show (ao g (ao h aC) env >>= f)=_;unfold ao aC;rw [hx,hy];exact hf
theorem wM (ss:List Str) (a:Nat) (h:a<=ss.length):zq (.l .fresh (ss.map .str)) none (some (a:Int))=.ok (.l .fresh ((ss.take a).map .str)):=by show M.ok (R.l .fresh (cutD (ss.map D.str) none (some (a:Int))))=_;rw [LY _ _ (by simpa using h),Zy]
theorem HU (u:Wd) (ps:List Nat):(iD u ps).ms.map Ve=u.ms.map Ve/\(iD u ps).ar.map Ve=u.ar.map Ve:=by unfold iD;simp only [Vn];exact ⟨rfl,rfl⟩
theorem yo {m m':Nat}{ms ms':List (Str×List Nat)}{rs rs':List (Str×List (Nat×Nat))}{A B:List Str}(h1:1<=m) (h2:m<=4) (h3:1<=m') (h4:m'<=4) (e1:ms.map Ve=A) (e2:rs.map Ve=B) (e3:ms'.map Ve=A) (e4:rs'.map Ve=B) (lA:A.length<=3) (lB:B.length<=3) (nA:A.Nodup) (nB:B.Nodup):Pn ⟨m,ms,rs⟩ ⟨m',ms',rs'⟩:=by have q1:=congrArg We e1;have q2:=congrArg We e2;have q3:=congrArg We e3;have q4:=congrArg We e4;rw [Uo] at q1 q2 q3 q4;exact ⟨⟨⟨h1,by show m<=8;omega,by show ms.length<=3;omega,by show rs.length<=3;omega⟩,⟨h3,by show m'<=8;omega,by show ms'.length<=3;omega,by show rs'.length<=3;omega⟩,h2,h4,e1.trans e3.symm,e2.trans e4.symm⟩,e1.symm▸nA,e2.symm▸nB⟩
theorem N6 (c:Int) (sz:List Nat) (hz:1<=sz.length) (hs:∀n∈sz,1<=n/\n<=4):∃v w:Wd,jX [.d (.int c),.d (.lst (sz.map dN))]=.ok (.d (.tup [v.d,w.d]))/\Pn v w:=by
 have key:Wp (jX [.d (.int c),.d (.lst (sz.map dN))]) λr=>∃v w:Wd,r=.d (.tup [v.d,w.d])/\Pn v w:=by
  obtain ⟨xs,hx,lx,px⟩:=Lu c;obtain ⟨X,hX⟩:∃X:Nat->Int,∀i,X i=xs.getD i 0:=⟨_,λ_=>rfl⟩;have xi:∀(i:Nat),i < 7->∀env:Ev,af 2 env=.ok (.l .own (xs.map .int))->g2 aY (af 2) (gC (.int i)) env=.ok (.d (.int (X i))):=λi hi env he=>two he rfl (qV (by rw [hX,UT,UA (by omega)];simp [Zl,show i < xs.length by omega]));have xp:∀i,0<=X i:=λi=>by
   rw [hX,Ym];cases q:xs[i]? with
   | none=>exact Int.le_refl _
   | some y=>exact px y (Vi q)
  have x0:=xp 0;have x2:=xp 2;refine oW (bC (c2 rfl rfl hx) rfl ?_);obtain ⟨a,ha,Si⟩:=qu (xs:=[0,1,1,2,1,3]) (h:=dN) (.l .fresh (([0,1,1,2,1,3]:List Nat).map dN)) rfl (X 1 % 6) (by omega) (by show _ < (6:Int);omega);have TY:a<=3:=by simp at ha;omega
  obtain ⟨A0,S0,lA0,nA0⟩:=AV (X 0) x0;refine bC (rJ (c2 (xi 0 (by decide) _ rfl) rfl S0) rfl (rA (two (fR rfl (by show 6<=1000;decide)) (two (xi 1 (by decide) _ rfl) rfl (c_ _ 6 (by decide))) Si)) (wM A0 a (by omega))) rfl ?_;obtain ⟨A,hA⟩:∃A,A=A0.take a:=⟨_,rfl⟩;have lA:A.length<=3:=by rw [hA,Vy];omega
  have nA:A.Nodup:=hA▸(Y5 a A0).nodup nA0;rw [<-hA];obtain ⟨n2,_,hn2⟩:=qu (xs:=[X 2,X 0]) (h:=D.int) (.l .fresh [.int (X 2),.int (X 0)]) rfl (X 1 / 6 % 4 / 3) (by omega) (by show _ < (2:Int);omega);have n2p:0<=n2:=by
   rename_i h;simp at h;rcases h with rfl | rfl
   ·exact x2
   ·exact x0
  obtain ⟨b,hb,Ti⟩:=qu (xs:=[1,1,2,0,1,3]) (h:=dN) (.l .fresh (([1,1,2,0,1,3]:List Nat).map dN)) rfl (X 1 / 24 % 6) (by omega) (by show _ < (6:Int);omega);have TZ:b<=3:=by simp at hb;omega
  obtain ⟨B0,S3,lB0,nB0⟩:=AV n2 n2p;refine bC (rJ (c2 (two (fR (aL (xi 2 (by decide) _ rfl) rfl (aL (xi 0 (by decide) _ rfl) rfl bg)) (by show 2<=1000;decide)) (two (two (two (xi 1 (by decide) _ rfl) rfl (gq _ 6 (by decide) (by decide))) rfl (c_ _ 4 (by decide))) rfl (gq _ 3 (by decide) (by decide))) hn2) rfl S3) rfl (rA (two (fR rfl (by show 6<=1000;decide)) (two (two (xi 1 (by decide) _ rfl) rfl (gq _ 24 (by decide) (by decide))) rfl (c_ _ 6 (by decide))) Ti)) (wM B0 b (by omega))) rfl ?_;obtain ⟨B,hB⟩:∃B,B=B0.take b:=⟨_,rfl⟩;have lB:B.length<=3:=by rw [hB,Vy];omega
  have nB:B.Nodup:=hB▸(Y5 b B0).nodup nB0;rw [<-hB];have zp:(0:Int) < (sz.length:Nat):=by omega
  have len:∀env:Ev,af 1 env=.ok (.d (.lst (sz.map dN)))->gN eV (ao (af 1) aC) env=.ok (.d (.int (sz.length:Nat))):=λenv he=>n1 he (by show M.ok (R.d (.int ((sz.map dN).length:Nat)))=_;rw [Uo]);have pick:∀i:Int,∃m,1<=m/\m<=4/\aY (.d (.lst (sz.map dN))) (.d (.int (i % (sz.length:Nat))))=.ok (.d (dN m)):=λi=>by obtain ⟨m,hm,e⟩:=qu (xs:=sz) (h:=dN) (.d (.lst (sz.map dN))) rfl (i % (sz.length:Nat)) (YX _ (by omega)) (YQ _ zp);exact ⟨m,(hs m hm).1,(hs m hm).2,e⟩
  obtain ⟨m,m1,m4,hm⟩:=pick (X 1 / 144);refine bC (two rfl (two (two (xi 1 (by decide) _ rfl) rfl (gq _ 144 (by decide) (by decide))) (len _ rfl) (c_ _ _ zp)) hm) rfl ?_;obtain ⟨f,_,hf⟩:=qu (xs:=[0,2 ^ 60 - 1,X 3,X 3,X 3,X 3]) (h:=D.int) (.l .fresh (([0,2 ^ 60 - 1,X 3,X 3,X 3,X 3]:List Int).map D.int)) rfl (X 1 / 10000 % 6) (by omega) (by show _ < (6:Int);omega);refine bC (two (fR (aL rfl rfl (aL (two rfl rfl (Dv (2 ^ 60) 1)) rfl (aL (xi 3 (by decide) _ rfl) rfl (aL (xi 3 (by decide) _ rfl) rfl (aL (xi 3 (by decide) _ rfl) rfl (aL (xi 3 (by decide) _ rfl) rfl bg)))))) (by show 6<=1000;decide)) (two (two (xi 1 (by decide) _ rfl) rfl (gq _ 10000 (by decide) (by decide))) rfl (c_ _ 6 (by decide))) hf) rfl ?_;obtain ⟨ms,rs,hw,e1,e2,ib⟩:=AY m m4 A B lA lB f;have world:∀(m:Nat),1<=m->m<=4->∀n:Int,∃ms rs,d8 [.d (.int m),.d (.lst (A.map .str)),.d (.lst (B.map .str)),.d (.int n)]=.ok (.d (Wd.d ⟨m,ms,rs⟩))/\ms.map Ve=A/\rs.map Ve=B/\DI 16 ⟨m,ms,rs⟩:=λm _ h n=>AY m h A B lA lB n;have turn:∀{ms rs},ms.map Ve=A->rs.map Ve=B->DI 16 ⟨m,ms,rs⟩->∃ms' rs',fc [.d (Wd.d ⟨m,ms,rs⟩),.d (.int (X 5))]=.ok (.d (Wd.d ⟨m,ms',rs'⟩))/\ms'.map Ve=A/\rs'.map Ve=B:=fun {ms rs} h1 h2 h3=>by have q1:=congrArg We h1;have q2:=congrArg We h2;rw [Uo] at q1 q2;obtain ⟨ps,hp⟩:=Lw ⟨m,ms,rs⟩ ⟨m1,by show m<=8;omega,by show ms.length<=3;omega,by show rs.length<=3;omega⟩ h3 m4 (X 5);obtain ⟨t1,t2⟩:=HU ⟨m,ms,rs⟩ ps;exact ⟨_,_,hp,t1.trans h1,t2.trans h2⟩
  refine b_ (rK rfl (rK rfl (fK (c4 rfl rfl rfl rfl hw) rfl (bC (two (xi 4 (by decide) _ rfl) rfl (c_ _ 5 (by decide))) rfl ?_))));refine b_ (jz (c:=bh (.int (X 4 % 5)) (.int 0)) (bH rfl rfl rfl) (λ_=>?_) λ_=>fQ ?_)
  ·obtain ⟨ms',rs',ht,t1,t2⟩:=turn e1 e2 ib;exact bE (bD (aL rfl rfl (aL (c2 rfl (xi 5 (by decide) _ rfl) ht) rfl bg)) (by show 2<=1000;decide)) rfl ⟨_,rfl,_,_,rfl,yo m1 m4 m1 m4 e1 e2 t1 t2 lA lB nA nB⟩
  refine b_ (jz (c:=bh (.int (X 4 % 5)) (.int 1)) (bH rfl rfl rfl) (λ_=>?_) λ_=>fQ ?_)
  ·have RU:m * m<=16:=XU m4 m4;have q1:m * A.length<=12:=XU m4 lA;have q2:m * m * B.length<=48:=XU RU lB;obtain ⟨bt,S_,b1,b60⟩:∃bt:Nat,CI [.d (.int 1),.d (.int ((m:Int) * (A.length:Nat) + (m:Int) * m * (B.length:Nat)))]=.ok (.d (.int (bt:Int)))/\1<=bt/\bt<=60:=by refine ⟨max 1 (m * A.length + m * m * B.length),?_,by omega,by omega⟩;show M.ok (R.d (.int (if (m:Int) * (A.length:Nat) + (m:Int) * m * (B.length:Nat) > 1 then (m:Int) * (A.length:Nat) + (m:Int) * m * (B.length:Nat) else 1)))=_;rw [show (m:Int) * (A.length:Nat) + (m:Int) * m * (B.length:Nat)=((m * A.length + m * m * B.length:Nat):Int) by simp];congr 3;split <;> omega
   obtain ⟨k,hk,T5⟩:=K33.nF (X 4 / 5) bt (by omega);have hix:∀env:Ev,af 2 env=.ok (.l .own (xs.map .int))->af 9 env=.ok (.d (.int (bt:Int)))->g2 dD (g2 f9 (g2 aY (af 2) (gC (.int 4))) (gC (.int 5))) (af 9) env=.ok (.d (.int (k:Int))):=λenv h2 h9=>(two (two (xi 4 (by decide) env h2) rfl (gq _ 5 (by decide) (by decide))) h9 (c_ _ _ (by omega))).trans (by rw [hk]);obtain ⟨f',hf'⟩:=Ls f k (by omega);obtain ⟨ms2,rs2,R8,g1,g2',ib2⟩:=world m m1 m4 f';obtain ⟨ms',rs',ht,t1,t2⟩:=turn g1 g2' ib2;have lnA:∀env:Ev,af 3 env=.ok (.d (.lst (A.map .str)))->gN eV (ao (af 3) aC) env=.ok (.d (.int (A.length:Nat))):=λenv he=>n1 he (by show M.ok (R.d (.int ((A.map D.str).length:Nat)))=_;rw [Uo]);have lnB:∀env:Ev,af 4 env=.ok (.d (.lst (B.map .str)))->gN eV (ao (af 4) aC) env=.ok (.d (.int (B.length:Nat))):=λenv he=>n1 he (by show M.ok (R.d (.int ((B.map D.str).length:Nat)))=_;rw [Uo]);exact bC (Qw rfl (two (two rfl (lnA _ rfl) (ji _ _ (by omega) (by omega))) (two (two rfl rfl (ji _ _ (by omega) (by omega))) (lnB _ rfl) (ji _ _ (by omega) (by omega))) (lP _ _)) S_) rfl (bC (c4 rfl rfl rfl (c2 rfl (hix _ rfl rfl) hf') R8) rfl (bE (bD (aL rfl rfl (aL (c2 rfl (xi 5 (by decide) _ rfl) ht) rfl bg)) (by show 2<=1000;decide)) rfl ⟨_,rfl,_,_,rfl,yo m1 m4 m1 m4 e1 e2 t1 t2 lA lB nA nB⟩))
  obtain ⟨m',m1',m4',hm'⟩:=pick (X 6);refine bC (two rfl (two (xi 6 (by decide) _ rfl) (len _ rfl) (c_ _ _ zp)) hm') rfl ?_;refine b_ (jz (c:=bh (.int (X 4 % 5)) (.int 2)) (bH rfl rfl rfl) (λ_=>?_) λ_=>fQ ?_)
  ·obtain ⟨ms2,rs2,R8,g1,g2',ib2⟩:=world m' m1' m4' f;exact bE (bD (aL rfl rfl (aL (c4 rfl rfl rfl rfl R8) rfl bg)) (by show 2<=1000;decide)) rfl ⟨_,rfl,_,_,rfl,yo m1 m4 m1' m4' e1 e2 g1 g2' lA lB nA nB⟩
  ·obtain ⟨ms2,rs2,R8,g1,g2',ib2⟩:=world m' m1' m4' (X 5);exact bE (bD (aL rfl rfl (aL (c4 rfl rfl rfl (xi 5 (by decide) _ rfl) R8) rfl bg)) (by show 2<=1000;decide)) rfl ⟨_,rfl,_,_,rfl,yo m1 m4 m1' m4' e1 e2 g1 g2' lA lB nA nB⟩
 obtain ⟨_,h,v,w,rfl,hk⟩:=key;exact ⟨v,w,h,hk⟩
end K72
namespace K72
open PySem DL K01 WP K51 K52 K55 K22
open K23 (iI fW bH Pr aS gS fj Good jY prs gb LG told fN iN nT k9 qi kW oB pO i7 i8 uU fs CQ)
section
variable {α:Type} [BEq α] [LawfulBEq α] {h:α->D}
noncomputable def m9 (Ud:List (Str×List α)) (nm:Str) (x:α):Bool:=match Ud.find? λr=>decide (r.1=nm) with
 | some r=>decide (x∈r.2)
 | none=>false
theorem eq_str (a b:Str):bh (.str a) (.str b)=decide (a=b):=by unfold bh;rw [Vk,beq_iff_eq,decide_eq_true_eq]
theorem Lq (hin:∀(x:α) (xs:List α),fH false (.d (h x)) (.d (.tup (xs.map h)))=.ok (.d (.bl (decide (x∈xs))))) (Ud:List (Str×List α)) (nm:Str) (x:α):
  k6 [.d (.tup (Ud.map λr=>.tup [.str r.1,.tup (r.2.map h)])),.d (.str nm),.d (h x)]=.ok (.d (.bl (m9 Ud nm x))):=by
 refine cg (eX (ds:=Ud.map λr=>.tup [.str r.1,.tup (r.2.map h)]) rfl ?_);obtain ⟨R0,S7⟩:∃R0:S,R0=.d (.tup (Ud.map λr=>.tup [.str r.1,.tup (r.2.map h)])):=⟨_,rfl⟩;have key:∀(rs:List (Str×List α)) (a b:Option S),Wp (ff (dG 2 (bz (aD 3) (bz (aD 4) dR))) (bJ (bw (g2 (bX false) (af 3) (af 1))) (br (g2 (fH false) (af 2) (af 4))) cK) (rs.map λr=>.tup [.str r.1,.tup (r.2.map h)]) [some R0,some (.d (.str nm)),some (.d (h x)),a,b]) λo=>match rs.find? (λr=>decide (r.1=nm)) with
   | some r=>o=.rt (.d (.bl (decide (x∈r.2))))
   | none=>∃e,o=.nx e:=by
  intro rs
  induction rs with
  | nil=>exact λa b=>⟨_,rfl,_,rfl⟩
  | cons r rs ih=>
   intro a b;rw [UH,List.find?_cons];show Wp (dG 2 (bz (aD 3) (bz (aD 4) dR)) (.tup [.str r.1,.tup (r.2.map h)]) _ >>= _) _;rw [show dG 2 (bz (aD 3) (bz (aD 4) dR)) (.tup [.str r.1,.tup (r.2.map h)]) [some R0,some (.d (.str nm)),some (.d (h x)),a,b]=.ok [some R0,some (.d (.str nm)),some (.d (h x)),some (.d (.str r.1)),some (.d (.tup (r.2.map h)))] from rfl,aQ];have ht:bw (g2 (bX false) (af 3) (af 1)) [some R0,some (.d (.str nm)),some (.d (h x)),some (.d (.str r.1)),some (.d (.tup (r.2.map h)))]=.ok (decide (r.1=nm)):=by refine bH rfl rfl ((qT false (.d (.str r.1)) (.d (.str nm)) (UX _) (UX _)).trans ?_);show M.ok (R.d (.bl (bh (.str r.1) (.str nm))))=_;rw [eq_str]
   cases q:decide (r.1=nm) with
   | true=>
    rw [q] at ht;rw [jb ht,show br (g2 (fH false) (af 2) (af 4)) [some R0,some (.d (.str nm)),some (.d (h x)),some (.d (.str r.1)),some (.d (.tup (r.2.map h)))]=.ok (.rt (.d (.bl (decide (x∈r.2))))) from Fy (two rfl rfl (hin x r.2)) rfl];exact ⟨_,rfl,rfl⟩
   | false=>
    rw [q] at ht;rw [jy ht];exact ih _ _
 have k0:=key Ud none none;rw [S7] at k0;refine k0.mono λo ho=>?_;unfold m9;cases q:Ud.find? λr=>decide (r.1=nm) with
 | some r=>rw [q] at ho;rw [ho]
 | none=>
  rw [q] at ho;obtain ⟨e,rfl⟩:=ho;exact bE rfl rfl rfl
theorem Oa {Ud:List (Str×List α)}(nd:(Ud.map Ve).Nodup){i:Nat}(hi:i < Ud.length) (x:α):m9 Ud Ud[i].1 x=decide (x∈Ud[i].2):=by
 unfold m9;have:Ud.find? (λr=>decide (r.1=Ud[i].1))=some Ud[i]:=by rw [List.find?_eq_some_iff_getElem];refine ⟨decide_eq_true rfl,i,hi,rfl,λj hj=>?_⟩;have:=(Vv.mp nd) j i (by simp;omega) (by simpa using hi) hj;rw [VT,VT] at this;simpa using this
 rw [this]
theorem A_ {A B:List (Str×List α)}(he:A.map Ve=B.map Ve) (nd:(A.map Ve).Nodup) (x y:α):(A.all λr=>decide (x∈r.2) == m9 B r.1 y)=(A.zip B).all λr=>decide (x∈r.1.2) == decide (y∈r.2.2):=by
 have hl:A.length=B.length:=by have:=congrArg We he;simpa using this
 rw [show (A.all λr=>decide (x∈r.2) == m9 B r.1 y)=((A.zip B).map Ve).all λr=>decide (x∈r.2) == m9 B r.1 y by rw [aaG (by omega)],ZY,Vk,U4,U4];have e:∀r∈A.zip B,m9 B r.1.1 y=decide (y∈r.2.2):=λr hr=>by
  obtain ⟨i,hi,rfl⟩:=VM.mp hr;have Tr:i < A.length:=by simp at hi;omega
  have SV:i < B.length:=by omega
  rw [List.getElem_zip];have:A[i].1=B[i].1:=by have:=congrArg (λl:List Str=>l[i]?) he;simpa [Tr,SV] using this
  show m9 B A[i].1 y=_;rw [this,Oa (he▸nd) SV]
 exact ⟨λh r hr=>by have:=h r hr;rw [<-e r hr];exact this,λh r hr=>by have:=h r hr;rw [<-e r hr] at this;exact this⟩
end
variable {v w:Wd}
theorem EE (x:Nat) (xs:List Nat):fH false (.d (dN x)) (.d (.tup (xs.map dN)))=.ok (.d (.bl (decide (x∈xs)))):=(uR false (dN x) (xs.map dN) (uB _) (UX _)).trans (by rw [K55.inN];rfl)
theorem EF (x:Nat×Nat) (xs:List (Nat×Nat)):fH false (.d (dP x)) (.d (.tup (xs.map dP)))=.ok (.d (.bl (decide (x∈xs)))):=(uR false (dP x) (xs.map dP) (zf _) (by show 1<=60;decide)).trans (by rw [K55.Mi];rfl)
abbrev eT (v w:Wd) (ps:List (Nat×Nat)) (r:List (Option S)):Ev:=some (.d v.d)::some (.d w.d)::some (.d (aS ps))::r
theorem B_ (t:Pn v w) (ps:List (Nat×Nat)):dJ [.d v.d,.d w.d,.d (aS ps)]=.ok (.d (.bl (jv v w ps))):=by
 refine cg (Ja (h:=dP) (λenv=>∃a b c d e f g:Option S,env=eT v w ps [a,b,c,d,e,f,g]) (λp=>mB v w p && ps.all λq=>eB p q && aB v w p q) ps rfl ⟨none,none,none,none,none,none,none,rfl⟩ ?_ (λz e _=>bE rfl rfl (by unfold jv;rw [z])) (λz=>by unfold jv;rw [z]));rintro p _ _ ⟨_,_,c0,d0,e0,f0,g0,rfl⟩;refine ⟨eT v w ps [some (.d (dN p.1)),some (.d (dN p.2)),c0,d0,e0,f0,g0],rfl,?_⟩;have em:=A_ t.t.mn t.mn p.1 p.2;refine Ja (h:=kj) (λenv=>∃c d e f g:Option S,env=eT v w ps [some (.d (dN p.1)),some (.d (dN p.2)),c,d,e,f,g]) (λr=>decide (p.1∈r.2) == m9 w.ms r.1 p.2) v.ms ?_ ⟨c0,d0,e0,f0,g0,rfl⟩ ?_ (λz e he=>?_) (λz=>.inr ⟨by show (mB v w p && _)=false;unfold mB;rw [<-em,z];rfl,rfl⟩)
 ·show (g2 aY (af 0) (gC (.int 1)) _ >>= _)=_;rw [two (x:=.d v.d) rfl rfl (EJ _ _ _)];rfl
 ·rintro r _ _ ⟨_,_,e0,f0,g0,rfl⟩;refine ⟨eT v w ps [some (.d (dN p.1)),some (.d (dN p.2)),some (.d (.str r.1)),some (.d (.tup (r.2.map dN))),e0,f0,g0],rfl,?_⟩;refine jz (c:=!(decide (p.1∈r.2) == m9 w.ms r.1 p.2)) (bH (two rfl rfl (EE _ _)) (c3 (two rfl rfl (EJ _ _ _)) rfl rfl (Lq (h:=dN) EE w.ms r.1 p.2)) ((K22.CF ..).trans rfl)) (λz=>bE rfl rfl (.inr ⟨by simpa using z,rfl⟩)) (λz=>fQ (.inl ⟨by simpa using z,_,rfl,_,_,_,_,_,rfl⟩))
 ·obtain ⟨c0,d0,e0,f0,g0,rfl⟩:=he;have hm:mB v w p=true:=by unfold mB;rw [<-em];exact z
  refine (IS (h:=dP) (λenv=>∃c d e f g:Option S,env=eT v w ps [some (.d (dN p.1)),some (.d (dN p.2)),c,d,e,f,g]) (λq=>eB p q && aB v w p q) ps rfl ⟨c0,d0,e0,f0,g0,rfl⟩ ?_).mono ?_
  ·rintro q _ _ ⟨c0,d0,_,_,g0,rfl⟩;refine ⟨eT v w ps [some (.d (dN p.1)),some (.d (dN p.2)),c0,d0,some (.d (dN q.1)),some (.d (dN q.2)),g0],rfl,?_⟩;have he:bw (g2 (bX true) (g2 (bX false) (af 3) (af 7)) (g2 (bX false) (af 4) (af 8))) (eT v w ps [some (.d (dN p.1)),some (.d (dN p.2)),c0,d0,some (.d (dN q.1)),some (.d (dN q.2)),g0])=.ok (!eB p q):=by refine bH (two rfl rfl (qT false (.d (dN p.1)) (.d (dN q.1)) (UX _) (UX _))) (two rfl rfl (qT false (.d (dN p.2)) (.d (dN q.2)) (UX _) (UX _))) ?_;show bX true (.d (.bl (bh (dN p.1) (dN q.1)))) (.d (.bl (bh (dN p.2) (dN q.2))))=_;rw [K55.uE,K55.uE,K22.CF];rfl
   cases hc:eB p q with
   | false=>
    rw [hc] at he;exact OJ he (OI rfl rfl (.inr ⟨rfl,rfl⟩))
   | true=>
    rw [hc] at he;refine gA he ?_;have ea:=A_ t.t.an t.an (p.1,q.1) (p.2,q.2);refine (IS (h:=oQ) (λenv=>∃c d g:Option S,env=eT v w ps [some (.d (dN p.1)),some (.d (dN p.2)),c,d,some (.d (dN q.1)),some (.d (dN q.2)),g]) (λr=>decide ((p.1,q.1)∈r.2) == m9 w.ar r.1 (p.2,q.2)) v.ar ?_ ⟨c0,d0,g0,rfl⟩ ?_).mono ?_
    ·show (g2 aY (af 0) (gC (.int 2)) _ >>= _)=_;rw [two (x:=.d v.d) rfl rfl (Mt _ _ _ _)];rfl
    ·rintro r _ _ ⟨_,d0,_,rfl⟩;refine ⟨eT v w ps [some (.d (dN p.1)),some (.d (dN p.2)),some (.d (.str r.1)),d0,some (.d (dN q.1)),some (.d (dN q.2)),some (.d (.tup (r.2.map dP)))],rfl,?_⟩;refine jz (c:=!(decide ((p.1,q.1)∈r.2) == m9 w.ar r.1 (p.2,q.2))) (bH (two (bD (aL rfl rfl (aL rfl rfl bg)) t2) rfl (EF (p.1,q.1) r.2)) (c3 (two rfl rfl (Mt _ _ _ _)) rfl (bD (aL rfl rfl (aL rfl rfl bg)) t2) (Lq (h:=dP) EF w.ar r.1 (p.2,q.2))) ((K22.CF ..).trans rfl)) (λz=>bE rfl rfl (.inr ⟨by simpa using z,rfl⟩)) (λz=>fQ (.inl ⟨by simpa using z,_,rfl,_,_,_,rfl⟩))
    ·rintro o (⟨z,e,rfl,c1,d1,g1,rfl⟩ | ⟨z,rfl⟩)
     ·exact .inl ⟨by show (true && aB v w p q)=true;unfold aB;rw [<-ea,z];rfl,_,rfl,c1,d1,_,_,g1,rfl⟩
     ·exact .inr ⟨by show (true && aB v w p q)=false;unfold aB;rw [<-ea,z];rfl,rfl⟩
  ·rintro o (⟨z,e,rfl,c1,d1,e1,f1,g1,rfl⟩ | ⟨z,rfl⟩)
   ·exact .inl ⟨by rw [hm,z];rfl,_,rfl,_,_,_,_,_,_,_,rfl⟩
   ·exact .inr ⟨by rw [hm,z];rfl,rfl⟩
noncomputable def lC (v w:Wd) (ps:List (Nat×Nat)) (q:Nat×Nat):Bool:=(match ps.getLast? with
 | some l=>eF (dP l) (dP q)
 | none=>true) && jv v w (ps++[q])
theorem LU (t:Pr v w){ps:List (Nat×Nat)}(g:Good v w ps){q:Nat×Nat}(hq:jY v w q):lC v w ps q=(i7 v w q q && gb v w ps q):=by
 rw [Vk,Uq];constructor
 ·intro h;unfold lC at h;rw [Uq,ni t] at h;have hp:q∈prs v w:=kW.mpr ⟨hq,h.2 q (by simp) q (by simp)⟩;refine ⟨(i8 ..).mpr (kW.mp hp).2,(qi g hp).mpr (EA g hq (λrs l e=>?_) h.2)⟩;subst e;have:=h.1;rw [Yn] at this;exact (uU l q).mp this
 ·rintro ⟨h1,h2⟩;have hp:q∈prs v w:=kW.mpr ⟨hq,(i8 ..).mp h1⟩;have g':=(qi g hp).mp h2;unfold lC;rw [Uq,ni t];refine ⟨?_,g'.ag⟩;cases e:ps.getLast? with
  | none=>rfl
  | some l=>
   obtain ⟨rs,rfl⟩:=K23.qY e;refine (uU l q).mpr (.inl ?_);have:=g'.up;rw [WW] at this;have:=(V2.mp this).2.1;exact (Xc.mp this).1 q (by simp)
def ki (v w:Wd) (ps:List (Nat×Nat)) (a:Nat):List (List (Nat×Nat)):=((Ur w.m).filter λb=>lC v w ps (a,b)).map λb=>ps++[(a,b)]
theorem L_ (t:Pr v w){ps:List (Nat×Nat)}(g:Good v w ps):(Ur v.m).flatMap (ki v w ps)=((prs v w).filter (gb v w ps)).map λq=>ps++[q]:=by unfold prs fN;rw [List.filter_filter,abE,Zt];rw [Zv,Zv];congr 1;refine Wf λa ha=>?_;unfold ki;rw [adx,Vn];congr 1;refine Ze λb hb=>?_;rw [LU t g ⟨UP.mp ha,UP.mp hb⟩,Bool.and_comm];rfl
theorem MF {env:Ev}{i:Nat}{g:G R}{r:R}{Q:O->Prop}{xs:List D}{d:D}(h0:env[i]?=some (some (.own xs))) (h:g env=.ok r) (h2:toD r=.ok d) (hl:xs.length<=1000000) (k:Q (.nx (env.set i (some (.own (xs++[d])))))):Wp (gK i g env) Q:=by refine ⟨_,?_,k⟩;unfold gK;rw [h0];show (g env >>= _)=_;rw [h,aQ,h2,aQ,if_pos (Z0 hl (by decide))]
theorem Jt {env:Ev}{a b:G Bool}{x y:Bool}(h:a env=.ok x) (h2:b env=.ok y):iU a b env=.ok (x && y):=by
 cases x with
 | true=>exact fj h h2
 | false=>exact gS h
abbrev eG (v w:Wd) (n:Nat) (F:List (List (Nat×Nat))) (r:List (Option S)):Ev:=some (.d v.d)::some (.d w.d)::some (.d (.int n))::some (.own (F.map aS))::r
theorem LV (t:Pn v w) (ps:List (Nat×Nat)) (hl:ps.length < 63) (a b:Nat){env:Ev}(h0:af 0 env=.ok (.d v.d)) (h1:af 1 env=.ok (.d w.d)) (h7:af 7 env=.ok (.d (aS ps))) (h8:af 8 env=.ok (.d (dN a))) (h9:af 9 env=.ok (.d (dN b))):
  iU (j3 (bw (g2 (bX false) (af 7) (bB aP))) (bw (g2 tw (g2 aY (af 7) (vK (gC (.int 1)))) (bB (az (af 8) (az (af 9) aP)))))) (bw (gN (aO 3 K72.dJ) (ao (af 0) (ao (af 1) (ao (g2 bY (af 7) (bB (az (bB (az (af 8) (az (af 9) aP))) aP))) aC))))) env=.ok (lC v w ps (a,b)):=by
 have ht:bB (az (af 8) (az (af 9) aP)) env=.ok (.d (dP (a,b))):=bD (aL h8 rfl (aL h9 rfl bg)) t2;refine Jt ?_ (fW (c3 h0 h1 (two h7 (bD (aL ht rfl bg) (by show 1<=1000;decide)) (K33.za ps (a,b) hl)) (B_ t _)));have he:=bH (f:=bX false) h7 (bD (env:=env) bg (by decide)) (qT false (.d (aS ps)) (.d (aS [])) (zW _) (zW _));rcases Wh ps with rfl | ⟨rs,l,rfl⟩
 ·exact K35.M4 he
 ·rw [Wi] at h7 he ⊢;rw [show bh (R.dat (.d (aS (rs++[l])))) (R.dat (.d (aS [])))=false by
   show bh (.tup _) (.tup _)=false;rw [jK,UN];cases rs <;> rfl] at he
  rw [Yn];refine E5 he (bH (two h7 rfl ?_) ht (Oj l (a,b)));show aY (.d (.tup ((rs++[l]).map dP))) (.d (.int (-1)))=_;rw [UN];exact Bx _ _
theorem Jk (t:Pn v w) (n:Nat) (hn:n<=4):ie [.d v.d,.d w.d,.d (.int n)]=.ok (.l .fresh ((told v w n).map aS)):=by
 have v4:=t.t.v4;have w4:=t.t.w4;have one:c5 (az (bB aP) aP)=λ_=>.ok (.l .fresh [.tup []]):=by funext env;exact fR (aL (bD bg (by decide)) rfl bg) (by show 1<=1000;decide)
 refine cg (bC (r:=.l .fresh ([[]].map aS)) (by rw [one];rfl) rfl (b_ (K23.NZ rfl (fK (r:=.l .fresh ([[]].map aS)) (by rw [one];rfl) rfl (eX (jC (n:=n) rfl (by omega)) ?_)))));refine iA (n:=n) (λk env=>∃x y a b c:Option S,env=eG v w n (told v w k) [some (fs k ((LG v w k).map aS)),x,y,a,b,c]) ⟨none,none,none,none,none,rfl⟩ ?_ ?_
 ·rintro k hk _ ⟨x,y,a,b,c,rfl⟩;refine ⟨_,rfl,bC rfl rfl ?_⟩;have l0:=k9 t.t k;have l1:=k9 t.t (k + 1);have p0:(16:Nat) ^ k<=16 ^ 3:=WK (by decide) (by omega);have p1:(16:Nat) ^ (k + 1)<=16 ^ 4:=WK (by decide) (by omega);have p2:(16:Nat) ^ 3=4096:=by decide
  have p3:(16:Nat) ^ 4=65536:=by decide
  have le:∀(ps:List (Nat×Nat)) (a:Nat),(ki v w ps a).length<=4:=λps a=>by unfold ki;rw [Uo];refine U1 (VR _ _) (by simpa using w4)
  have lf:∀(ps:List (Nat×Nat)) (i:Nat),i<=4->((Ur i).flatMap (ki v w ps)).length<=16:=λps i hi=>by have:=K23.oj (ki v w ps) 4 (Ur i) λa _=>le ps a;rw [WV] at this;omega
  have loop:Wp (cu (fO (af 4)) (aD 7) (cu (b9 (ao (g2 aY (af 0) (gC (.int 0))) aC)) (aD 8) (cu (b9 (ao (g2 aY (af 1) (gC (.int 0))) aC)) (aD 9) (bJ (iU (j3 (bw (g2 (bX false) (af 7) (bB aP))) (bw (g2 tw (g2 aY (af 7) (vK (gC (.int 1)))) (bB (az (af 8) (az (af 9) aP)))))) (bw (gN (aO 3 K72.dJ) (ao (af 0) (ao (af 1) (ao (g2 bY (af 7) (bB (az (bB (az (af 8) (az (af 9) aP))) aP))) aC)))))) (gK 6 (g2 bY (af 7) (bB (az (bB (az (af 8) (az (af 9) aP))) aP)))) cK))) (eG v w n (told v w k) [some (.d (.lst ((LG v w k).map aS))),some (.d (.int k)),some (.own []),a,b,c]))
    (λo=>∃e,o=.nx e/\∃a b c:Option S,e=eG v w n (told v w k) [some (.d (.lst ((LG v w k).map aS))),some (.d (.int k)),some (.own ((LG v w (k + 1)).map aS)),a,b,c]):=by
   refine mz (ds:=(LG v w k).map aS) rfl ?_;refine kc (λj env=>∃a b c:Option S,env=eG v w n (told v w k) [some (.d (.lst ((LG v w k).map aS))),some (.d (.int k)),some (.own ((((LG v w k).take j).flatMap λps=>(Ur v.m).flatMap (ki v w ps)).map aS)),a,b,c]) _ ⟨a,b,c,rfl⟩ ?_ ?_
   ·rintro j hj _ ⟨a,b,c,rfl⟩;rw [Uo] at hj;rw [VT];obtain ⟨ps,hps⟩:∃ps,ps=(LG v w k)[j]:=⟨_,rfl⟩;have lps:ps.length=k:=(nT k (hps▸U9 hj)).1;rw [<-hps];obtain ⟨M0,Sb⟩:∃M0,M0=((LG v w k).take j).flatMap λps=>(Ur v.m).flatMap (ki v w ps):=⟨_,rfl⟩;have lM0:M0.length<=65536:=by have:=K23.oj (λps=>(Ur v.m).flatMap (ki v w ps)) 16 ((LG v w k).take j) λps _=>lf ps v.m v4;rw [<-Sb,Vy] at this;omega
    rw [<-Sb];refine ⟨_,rfl,mz (jC (n:=v.m) (cT (two rfl rfl (fP _ _))) (by omega)) ?_⟩;refine iA (n:=v.m) (λi env=>∃b c:Option S,env=eG v w n (told v w k) [some (.d (.lst ((LG v w k).map aS))),some (.d (.int k)),some (.own ((M0++(Ur i).flatMap (ki v w ps)).map aS)),some (.d (aS ps)),b,c]) ⟨b,c,by simp⟩ ?_ ?_
    ·rintro i hi _ ⟨b,c,rfl⟩;obtain ⟨M1,Sd⟩:∃M1,M1=M0++(Ur i).flatMap (ki v w ps):=⟨_,rfl⟩;have lM1:M1.length<=65552:=by rw [Sd,UI];have:=lf ps i (by omega);omega
     rw [<-Sd];refine ⟨_,rfl,mz (jC (n:=w.m) (cT (two rfl rfl (fP _ _))) (by omega)) ?_⟩;refine iA (n:=w.m) (λx env=>∃c:Option S,env=eG v w n (told v w k) [some (.d (.lst ((LG v w k).map aS))),some (.d (.int k)),some (.own ((M1++((Ur x).filter λb=>lC v w ps (i,b)).map λb=>ps++[(i,b)]).map aS)),some (.d (aS ps)),some (.d (.int i)),c]) ⟨c,by simp⟩ ?_ ?_
     ·rintro x hx _ ⟨c,rfl⟩;refine ⟨_,rfl,jz (LV t ps (by omega) i x rfl rfl rfl rfl rfl) (λz=>?_) λz=>?_⟩
      ·refine MF rfl (two rfl (bD (aL (bD (aL rfl rfl (aL rfl rfl bg)) t2) rfl bg) (by show 1<=1000;decide)) (K33.za ps (i,x) (by omega))) rfl ?_ ⟨_,rfl,some (.d (.int x)),?_⟩
       ·have:=VR (λb=>lC v w ps (i,b)) (Ur x);rw [WV] at this;rw [Uo,UI,Uo];omega
       ·have e:((Ur (x + 1)).filter λb=>lC v w ps (i,b)).map (λb=>ps++[(i,b)])=((Ur x).filter λb=>lC v w ps (i,b)).map (λb=>ps++[(i,b)])++[ps++[(i,x)]]:=by rw [Xw,ab4,YN (p:=λb=>lC v w ps (i,b)) z,UN];rfl
        rw [e,<-WW,UN (l₂:=[ps++[(i,x)]])];rfl
      ·refine fQ ⟨_,rfl,some (.d (.int x)),?_⟩;have e:((Ur (x + 1)).filter λb=>lC v w ps (i,b))=(Ur x).filter λb=>lC v w ps (i,b):=by rw [Xw,ab4,YO (p:=λb=>lC v w ps (i,b)) (by rw [z];decide),List.filter_nil,WB]
       rw [e];rfl
     ·rintro _ ⟨c,rfl⟩;refine ⟨_,rfl,some (.d (.int i)),c,?_⟩;rw [Xw,ZN,aaR,<-WW,<-Sd];rfl
    ·rintro _ ⟨b,c,rfl⟩;refine ⟨_,rfl,some (.d (aS ps)),b,c,?_⟩;rw [Yw,UA hj,<-hps,ZN,<-Sb];show _=eG v w n (told v w k) [_,_,some (.own ((M0++[ps].flatMap _).map aS)),_,_,_];rw [aaR]
   ·rintro _ ⟨a,b,c,rfl⟩;rw [Uo,Xa];refine ⟨_,rfl,a,b,c,?_⟩;have:((LG v w k).flatMap λps=>(Ur v.m).flatMap (ki v w ps))=LG v w (k + 1):=by show _=(LG v w k).flatMap _;rw [Zv,Zv];congr 1;exact Wf λps hps=>L_ t.t ((iN k).mp hps).2
    rw [this]
  have fz:∀{g:G O}{Q:O->Prop},Wp (g (eG v w n (told v w k) [some (.d (.lst ((LG v w k).map aS))),some (.d (.int k)),some (.own []),a,b,c])) Q->Wp (fF 4 g (eG v w n (told v w k) [some (fs k ((LG v w k).map aS)),some (.d (.int k)),some (.own []),a,b,c])) Q:=fun {g Q} h=>by
   cases k with
   | zero=>exact rK rfl h
   | succ k=>exact K23.F2 rfl h
  refine b_ (fz (loop.mono ?_));rintro o ⟨e,rfl,a',b',c',rfl⟩;have tl:=K23.oV t.t k (by omega);refine b_ (rK rfl (fK rfl rfl (CQ (ys:=(LG v w (k + 1)).map aS) rfl rfl rfl ?_ ⟨_,rfl,some (.d (.int k)),some (.d (.lst ((LG v w (k + 1)).map aS))),a',b',c',?_⟩)))
  ·have:(k + 1) * 65536<=4 * 65536:=WL _ (by omega);rw [Uo,Uo];omega
  ·show _=eG v w n (told v w k++LG v w (k + 1)) _;unfold eG;rw [UN];rfl
 ·rintro _ ⟨x,y,a,b,c,rfl⟩;exact bE rfl rfl rfl
end K72
namespace K72
open PySem DL K01 WP K51 K52 K55 K22 K33
open K23 (iI fW bH Pr aS gS fj Good jY LG told iN iy allM ne_int c7)
section
variable {v w:Wd}{B:Ps}{n:Nat}{σ:List Nat}
theorem N8 (t:Pr v w) (up:B.Pairwise pI):(B∈T4 v w/\Lc v w (n + 1) B=true)↔∃σ,mb (iB v w (Lc v w n) B) v.m []=some σ:=by
 constructor
 ·rintro ⟨_,h⟩;exact Vq.mp (yD.mp h).2
 ·rintro ⟨σ,h⟩;have m:=CZ t h;have lo:=t.vo.lo;obtain ⟨_,a2,a3⟩:=m.at_ 0 (by have:=m.len;omega);have hs:∀p∈B,p∈bT B (0,σ[0]'(by have:=m.len;omega)):=λp hp=>iw.mpr (.inl hp);have g:=(jA t).mp a2;refine ⟨(jA t).mpr ((zB up).mpr (yz.sub ⟨g.ag,g.rg⟩ hs)),(vp t).mpr ⟨yF t n _ _ hs a3,σ,m⟩⟩
end
end K72
namespace DL
open PySem PySem.Spec PyProof.Rows L2
theorem oE {prog:UG}{w:U5}{A:U8}{E:Uk->Um->Prop}{s:Um}{it:UL}{x left:Int}{Q:Uk->Um->Prop}(hit:WY s.heap it x left 1) (hleft:0 < left)
  (hQ:∀h',WY h' it (x + 1) (left - 1) 1->Vc it s.heap h'->Q (.int x s.toks) {s with heap:=h',toks:=s.toks + 1}):UB (UO prog w) A (UM (.ref it)) Q E s:=by
 have hT:s.TypeIs (.ref it) "range_iterator":=⟨_,hit,rfl⟩;unfold UM;refine Uh (U0 (name:=V3 "__next__") hT W5
  (abd W5 hT ZP (ZA _) (ZQ it x left 1 (by omega)) ⟨hit,?_⟩))
 exact Uj (hQ _ (Vd _ (Vd _ hit rfl) rfl) ((VQ ..).trans (VQ ..)))
theorem BS {prog:UG}{w:U5}{A:U8}{E:Uk->Um->Prop}{s:Um}{it:UL}{x left:Int}{Q:Uk->Um->Prop}(hh:A.handled=none) (hit:WY s.heap it x left 1) (hleft:left<=0)
  (hE:∀h' e,ZI it s.heap h'->(∃o,h'.get? e=some o/\o.cls=.type "StopIteration")->E (.ref e) {s with heap:=h'}):UB (UO prog w) A (UM (.ref it)) Q E s:=by
 have hT:s.TypeIs (.ref it) "range_iterator":=⟨_,hit,rfl⟩;unfold UM;refine Uh (U0 (name:=V3 "__next__") hT W5
  (U3 W5 hT ZP ?_ (ZA _)))
 show UB _ _ (field (.ref it) 0 >>= _) _ _ s;refine Uh (Vo hit rfl (x:=YZ x) rfl ?_);show UB _ _ (field (.ref it) 1 >>= _) _ _ s;refine Uh (Vo hit rfl (x:=YZ left) rfl ?_);show UB _ _ (field (.ref it) 2 >>= _) _ _ s;refine Uh (Vo hit rfl (x:=YZ 1) rfl ?_);show UB _ _ (if left<=0 then _ else _) _ _ s;rw [if_pos hleft];refine Uh (XX (Uh ?_));show UB _ _ (adZ (.type "StopIteration") [] >>= _) _ _ _;refine Uh ?_;simp only [adZ,ac1];refine Uh (UU ?_ (by size_fits));refine Uh (m:=Xl _ _) (YA (a:=Vl) (by first | rfl | (simp only [Xl];rfl)) ?_);refine UU ?_ (by size_fits);simp only [aea];refine Uh (aau ?_)
 first | rw [show A.in1.handled=none from hh] | rw [hh]
 refine Uh (Uj (abA ?_));exact hE _ _ (acW (acW (afj _ _) _) _) ⟨_,Us _ rfl,rfl⟩
def sR (f0:Uk) (f1:Bool) (b:Nat):Obj:={cls:=.type "zip",data:=.fields #[f0,.bool f1,.bool false,.ref (b + 2),.ref (b + 3)]}
def zF (v:Uk):Prop:=v=.none\/∃a,v=YZ a
structure ZR (h:VB) (b l n k:Nat) (vals:Array Uk):Prop where
 z:∃f0 f1,h.get? (b + 4)=some (sR f0 f1 b)/\zF f0
 ti:abt h (b + 2) (.ref b) (.ref (b + 1))
 to:∃u v,abt h (b + 3) u v
 r:WY h b k ((n:Int) - k) 1
 t:h.IsTupleIter (b + 1) l k
 v:h.IsTuple l vals
theorem bK {g g':VB}{q a:Nat}{o:Obj}(S:Vc a g g') (h:q≠a) (e:g.get? q=some o):g'.get? q=some o:=S.extBut _ _ h e
theorem Bw {prog:UG}{w:U5}{A:U8}{E:Uk->Um->Prop}{s:Um}{b:Nat}{f0:Uk}{f1:Bool}{Q:Bool->Um->Prop}(hz:s.heap.get? (b + 4)=some (sR f0 f1 b)) (hf:zF f0)
  (hQ:∀r h' f1',h'.get? (b + 4)=some (sR f0 f1' b)->Vc (b + 4) s.heap h'->Q r {s with heap:=h'}):UB (UO prog w) A (Vp (.ref (b + 4))) Q E s:=by
 have same:∀r,Q r s:=λr=>hQ r s.heap f1 hz ⟨rfl,λ_ _=>rfl⟩;unfold Vp;refine Uh (Vo hz rfl (x:=f0) rfl ?_);rcases hf with rfl | ⟨a,rfl⟩
 ·exact Uj (same _)
 ·show UB _ _ (loadIfAlive a.toNat >>= _) _ _ s;have al:∀{M:aer}{Q':Option Obj->Um->Prop},Q' (s.heap.get? a.toNat) s->UB M A (loadIfAlive a.toNat) Q' E s:=λh _ _ _=>h;refine Uh (al ?_);cases s.heap.get? a.toNat with
  | none=>exact Uj (same _)
  | some o=>
   show UB _ _ (field (.ref (b + 4)) 1 >>= _) _ _ s;refine Uh (Vo hz rfl (x:=.bool f1) rfl ?_);cases f1
   ·exact Uh (Vf hz (by simp) λh' z' sb=>Uj (hQ _ h' true z' sb))
   ·exact Uj (same _)
section
variable {prog:UG}{w:U5}{A:U8}{E:Uk->Um->Prop}{s:Um}{b l n k:Nat}{vals:Array Uk}
theorem ZR.keep {h h':VB}(Z:ZR h b l n k vals) (hk:∀q o,(b<=q/\q < b + 5)\/q=l->h.get? q=some o->h'.get? q=some o):ZR h' b l n k vals:=by obtain ⟨⟨f0,f1,z1,z2⟩,z3,⟨u,v,z4⟩,z5,⟨o6,z6,z6'⟩,⟨o7,z7,z7'⟩⟩:=Z;exact ⟨⟨f0,f1,hk _ _ (.inl ⟨by omega,by omega⟩) z1,z2⟩,hk _ _ (.inl ⟨by omega,by omega⟩) z3,⟨u,v,hk _ _ (.inl ⟨by omega,by omega⟩) z4⟩,hk _ _ (.inl ⟨by omega,by omega⟩) z5,⟨o6,hk _ _ (.inl ⟨by omega,by omega⟩) z6,z6'⟩,⟨o7,hk _ _ (.inr rfl) z7,z7'⟩⟩
theorem Lm {x:Uk}{Q:Uk->Um->Prop}(Z:ZR s.heap b l n k vals) (hl:l < b) (hk:k < n) (hx:vals[k]?=some x)
  (hQ:∀h' t tk,ZR h' b l n (k + 1) vals->abt h' s.heap.objs.size (.int k t) x->h'.objs.size=s.heap.objs.size + 1->(∀q o,¬(b<=q/\q < b + 5)->s.heap.get? q=some o->h'.get? q=some o)->Q (.ref s.heap.objs.size) {s with heap:=h',toks:=tk}):
  UB (UO prog w) A (X6.«zip.__next__» ⟨[.ref (b + 4)],[]⟩) (λfin s'=>∃v,fin=.done (.ret v)/\Q v s') E s:=by
 obtain ⟨⟨f0,f1,hz,hf⟩,hTI,⟨u,v,hTO⟩,hr,ht,hv⟩:=Z;show UB _ _ (field (.ref (b + 4)) 2 >>= _) _ _ _;refine Uh (Vo hz rfl (x:=.bool false) rfl ?_);show UB _ _ (field (.ref (b + 4)) 3 >>= _) _ _ _;refine Uh (Vo hz rfl (x:=.ref (b + 2)) rfl ?_);refine Uh (Wl hTI rfl ?_);show UB _ _ (Vp (.ref (b + 4)) >>= _) _ _ _;refine Uh (Bw hz hf λr g1 f1' z1 b1=>?_);cases r
 ·simp only [UE,if_false];simp only [ab5,YI,Zg];refine Uh (Uh (Uh (U7 ?_)));show UB _ _ (UM (.ref b) >>= _) _ _ _;refine Uh (oE (show WY g1 b k ((n:Int) - k) 1 from bK b1 (by omega) hr) (by omega) λg2 r2 b2=>Uj (Uj ?_));refine Uh (Uh (U7 ?_));show UB _ _ (UM (.ref (b + 1)) >>= _) _ _ _;have kp:∀(q:Nat) (o:Obj),q≠b->q≠b + 4->s.heap.get? q=some o->g2.get? q=some o:=λq o n1 n2 e=>bK b2 n1 (bK b1 n2 e);refine Uh (next_tuple_item (s:=⟨g2,_,_,_,_⟩) (let ⟨o,h1,h2⟩:=ht;⟨o,kp _ _ (by omega) (by omega) h1,h2⟩) (let ⟨o,h1,h2⟩:=hv;⟨o,kp _ _ (by omega) (by omega) h1,h2⟩) hx λg3 t3 b3=>Uj (Uj (Uj ?_)));refine Uh (Zf (Uj ⟨_,rfl,?_⟩) (show 2<=sizeLine by decide));have sz:g3.objs.size=s.heap.objs.size:=by rw [b3.1,b2.1,b1.1]
  have k3:∀(q:Nat) (o:Obj),q≠b->q≠b + 1->q≠b + 4->s.heap.get? q=some o->(g3.push {cls:=.type "tuple",data:=.seq #[.int k s.toks,x]}).get? q=some o:=λq o n1 n2 n3 e=>Ul _ (bK b3 n2 (kp q o n1 n3 e));show Q (.ref g3.objs.size) _;rw [sz];refine hQ (g3.push {cls:=.type "tuple",data:=.seq #[.int k s.toks,x]}) s.toks (s.toks + 1) ⟨⟨f0,f1',Ul _ (bK b3 (by omega) (bK b2 (by omega) z1)),hf⟩,k3 _ _ (by omega) (by omega) (by omega) hTI,⟨u,v,k3 _ _ (by omega) (by omega) (by omega) hTO⟩,?_,(let ⟨o,h1,h2⟩:=t3;⟨o,Ul _ h1,h2⟩),(let ⟨o,h1,h2⟩:=hv;⟨o,k3 _ _ (by omega) (by omega) (by omega) h1,h2⟩)⟩ ?_ ?_ λq o hq e=>k3 q o (by omega) (by omega) (by omega) e
  ·have:WY g3 b (k + 1) (n - k - 1) 1:=bK b3 (by omega) r2;have e1:((k + 1:Nat):Int)=k + 1:=rfl;have e2:(n:Int) - ((k + 1:Nat):Int)=n - k - 1:=by omega
   rw [e2,e1];exact Ul _ this
  ·have:=Us g3 (o:={cls:=.type "tuple",data:=.seq #[.int k s.toks,x]}) rfl;rw [sz] at this;exact this
  ·rw [VD,sz]
 ·simp only [if_true]
  (refine Uh (XX ?_))
  refine Uh (Vo z1 rfl (x:=.ref (b + 3)) rfl ?_);refine Uh (Vf z1 (by simp) λg2 z2 b2=>?_)
  replace z2:g2.get? (b + 4)=some (sR .ellipsis f1' b):=z2
  refine Uh ?_
  (simp only [acX,adz,YI,Zg])
  (refine Uh (Uh (aaB ?_)))
  show UB _ _ (UM (.ref b) >>= _) _ _ _;refine Uh (oE (show WY g2 b k ((n:Int) - k) 1 from bK b2 (by omega) (bK b1 (by omega) hr)) (by omega) λg3 r3 b3=>Uj ?_);have o3:abt g3 (b + 3) u v:=bK b3 (by omega) (bK b2 (by omega) (bK b1 (by omega) hTO));refine Uh (Wl o3 rfl ?_);refine Uh (Zw o3 λg4 o4 b4=>?_)
  replace o4:abt g4 (b + 3) (.int k s.toks) v:=o4
  (refine Uh (abD (Uj ?_)))
  (refine Uh (Uh (aaB ?_)))
  show UB _ _ (UM (.ref (b + 1)) >>= _) _ _ _;have kp:∀(q:Nat) (o:Obj),q≠b->q≠b + 3->q≠b + 4->s.heap.get? q=some o->g4.get? q=some o:=λq o n1 n2 n3 e=>bK b4 n2 (bK b3 n1 (bK b2 n3 (bK b1 n3 e)));refine Uh (next_tuple_item (s:=⟨g4,_,_,_,_⟩) (let ⟨o,h1,h2⟩:=ht;⟨o,kp _ _ (by omega) (by omega) (by omega) h1,h2⟩) (let ⟨o,h1,h2⟩:=hv;⟨o,kp _ _ (by omega) (by omega) (by omega) h1,h2⟩) hx λg5 t5 b5=>Uj ?_);have o5:abt g5 (b + 3) (.int k s.toks) v:=bK b5 (by omega) o4;refine Uh (Wl o5 rfl ?_);refine Uh (Zw o5 λg6 o6 b6=>?_)
  replace o6:abt g6 (b + 3) (.int k s.toks) x:=o6
  refine Uh (abD (Uj (Uj ?_)));refine Uh (Wl o6 rfl ?_)
  (refine Uh (Zf ?_))
  have sz:g6.objs.size=s.heap.objs.size:=by rw [b6.1,b5.1,b4.1,b3.1,b2.1,b1.1]
  have z6:(g6.push {cls:=.type "tuple",data:=.seq #[.int k s.toks,x]}).get? (b + 4)=some (sR .ellipsis f1' b):=Ul _ (bK b6 (by omega) (bK b5 (by omega) (bK b4 (by omega) (bK b3 (by omega) z2))));show UB _ _ (V8 (.ref (b + 4)) (.ref g6.objs.size) >>= _) _ _ _;refine Uh ?_
  (unfold V8)
  refine Uh (Vf z6 (by simp) λg7 z7 b7=>?_);refine Vf z7 (by simp) λg8 z8 b8=>?_
  replace z8:g8.get? (b + 4)=some (sR (YZ g6.objs.size) false b):=z8
  have k8:∀(q:Nat) (o:Obj),q≠b->q≠b + 1->q≠b + 3->q≠b + 4->s.heap.get? q=some o->g8.get? q=some o:=λq o n1 n2 n3 n4 e=>bK b8 n4 (bK b7 n4 (Ul _ (bK b6 n3 (bK b5 n2 (kp q o n1 n3 n4 e)))));have up:∀(q:Nat) (o:Obj),q≠b + 4->g6.get? q=some o->g8.get? q=some o:=λq o n4 e=>bK b8 n4 (bK b7 n4 (Ul _ e));refine Uj ⟨_,rfl,?_⟩;show Q (.ref g6.objs.size) _;rw [sz];refine hQ g8 s.toks (s.toks + 1) ⟨⟨_,false,z8,.inr ⟨_,rfl⟩⟩,k8 _ _ (by omega) (by omega) (by omega) (by omega) hTI,⟨_,_,up _ _ (by omega) o6⟩,?_,(let ⟨o,h1,h2⟩:=t5;⟨o,up _ _ (by omega) (bK b6 (by omega) h1),h2⟩),(let ⟨o,h1,h2⟩:=hv;⟨o,k8 _ _ (by omega) (by omega) (by omega) (by omega) h1,h2⟩)⟩ ?_ ?_ λq o hq e=>k8 q o (by omega) (by omega) (by omega) (by omega) e
  ·have:WY g8 b (k + 1) (n - k - 1) 1:=up _ _ (by omega) (bK b6 (by omega) (bK b5 (by omega) (bK b4 (by omega) r3)));have e1:((k + 1:Nat):Int)=k + 1:=rfl;have e2:(n:Int) - ((k + 1:Nat):Int)=n - k - 1:=by omega
   rw [e2,e1];exact this
  ·have:=Us g6 (o:={cls:=.type "tuple",data:=.seq #[.int k s.toks,x]}) rfl;have lt:b + 4 < g6.objs.size:=UC (show g6.get? (b + 4)=some _ from bK b6 (by omega) (bK b5 (by omega) (bK b4 (by omega) (bK b3 (by omega) z2))));rw [<-sz];exact bK b8 (by omega) (bK b7 (by omega) this)
  ·rw [b8.1,b7.1,VD,sz]
theorem N1 {Q:aey->Um->Prop}(hh:A.handled=none) (Z:ZR s.heap b l n k vals) (hl:l < b) (hkn:k<=n) (hend:k=n\/vals[k]?=none)
  (hE:∀h' tk e,(∀q o,¬(b<=q/\q < b + 5)->s.heap.get? q=some o->h'.get? q=some o)->(∃o,h'.get? e=some o/\o.cls=.type "StopIteration")->E (.ref e) {s with heap:=h',toks:=tk}):
  UB (UO prog w) A (X6.«zip.__next__» ⟨[.ref (b + 4)],[]⟩) Q E s:=by
 obtain ⟨⟨f0,f1,hz,hf⟩,hTI,⟨u,v,hTO⟩,hr,ht,hv⟩:=Z;show UB _ _ (field (.ref (b + 4)) 2 >>= _) _ _ _;refine Uh (Vo hz rfl (x:=.bool false) rfl ?_);show UB _ _ (field (.ref (b + 4)) 3 >>= _) _ _ _;refine Uh (Vo hz rfl (x:=.ref (b + 2)) rfl ?_);refine Uh (Wl hTI rfl ?_);show UB _ _ (Vp (.ref (b + 4)) >>= _) _ _ _;refine Uh (Bw hz hf λr g1 f1' z1 b1=>?_);have r1:WY g1 b k ((n:Int) - k) 1:=bK b1 (by omega) hr;cases r
 ·simp only [UE,if_false];simp only [ab5,YI,Zg];refine Uh (Uh (Uh (U7 ?_)));show UB _ _ (UM (.ref b) >>= _) _ _ _;by_cases hn:k=n
  ·exact Uh (BS hh r1 (by omega) λg2 e b2 he=>hE g2 _ e (λq o hq x=>b2 _ _ (show q≠b by omega) (bK b1 (by omega) x)) he)
  ·have hy:=hend.resolve_left hn;refine Uh (oE r1 (by omega) λg2 r2 b2=>Uj (Uj ?_));refine Uh (Uh (U7 ?_));show UB _ _ (UM (.ref (b + 1)) >>= _) _ _ _;have kp:∀(q:Nat) (o:Obj),q≠b->q≠b + 4->s.heap.get? q=some o->g2.get? q=some o:=λq o n1 n2 e=>bK b2 n1 (bK b1 n2 e);exact Uh (next_tuple_end (s:=⟨g2,_,_,_,_⟩) hh (let ⟨o,h1,h2⟩:=ht;⟨o,kp _ _ (by omega) (by omega) h1,h2⟩) (let ⟨o,h1,h2⟩:=hv;⟨o,kp _ _ (by omega) (by omega) h1,h2⟩) hy λg3 e b3 he=>hE g3 _ e (λq o hq x=>b3 _ _ (show q≠b + 1 by omega) (kp q o (by omega) (by omega) x)) he)
 ·simp only [if_true]
  (refine Uh (XX ?_))
  refine Uh (Vo z1 rfl (x:=.ref (b + 3)) rfl ?_);refine Uh (Vf z1 (by simp) λg2 z2 b2=>?_)
  replace z2:g2.get? (b + 4)=some (sR .ellipsis f1' b):=z2
  refine Uh ?_
  (simp only [acX,adz,YI,Zg])
  (refine Uh (Uh (aaB ?_)))
  show UB _ _ (UM (.ref b) >>= _) _ _ _;have r2:WY g2 b k ((n:Int) - k) 1:=bK b2 (by omega) r1;have put:∀(g:VB) (e:UL) (tk:Nat),(∀(q:Nat) (o:Obj),¬(b<=q/\q < b + 4)->g2.get? q=some o->g.get? q=some o)->(∃o,g.get? e=some o/\o.cls=.type "StopIteration")->
    UB (UO prog w) A (ac2 (.ref (b + 4)) 0 .none) (λ_=>E (.ref e)) E {s with heap:=g,toks:=tk}:=λg e tk hg ⟨oe,Su,hce⟩=>by
   have z3:g.get? (b + 4)=some (sR .ellipsis f1' b):=hg _ _ (by omega) z2;have Th:e≠(b + 4:Nat):=λq=>by subst q;rw [z3] at Su;cases Su;simp [sR] at hce
   exact Vf z3 (by simp) λg3 _ b3=>hE g3 tk e (λq o hq x=>bK b3 (by omega) (hg q o (by omega) (bK b2 (by omega) (bK b1 (by omega) x)))) ⟨oe,b3.extBut _ _ Th Su,hce⟩
  by_cases hn:k=n
  ·exact Uh (BS hh r2 (by omega) λg3 e b3 he=>put g3 e _ (λq o hq x=>b3 _ _ (show q≠b by omega) x) he)
  ·have hy:=hend.resolve_left hn;refine Uh (oE r2 (by omega) λg3 r3 b3=>Uj ?_);have o3:abt g3 (b + 3) u v:=bK b3 (by omega) (bK b2 (by omega) (bK b1 (by omega) hTO));refine Uh (Wl o3 rfl ?_);refine Uh (Zw o3 λg4 o4 b4=>?_)
   (refine Uh (abD (Uj ?_)))
   (refine Uh (Uh (aaB ?_)))
   show UB _ _ (UM (.ref (b + 1)) >>= _) _ _ _;have kp:∀(q:Nat) (o:Obj),q≠b->q≠b + 3->g2.get? q=some o->g4.get? q=some o:=λq o n1 n2 e=>bK b4 n2 (bK b3 n1 e);exact Uh (next_tuple_end (s:=⟨g4,_,_,_,_⟩) hh (let ⟨o,h1,h2⟩:=ht;⟨o,kp _ _ (by omega) (by omega) (bK b2 (by omega) (bK b1 (by omega) h1)),h2⟩) (let ⟨o,h1,h2⟩:=hv;⟨o,kp _ _ (by omega) (by omega) (bK b2 (by omega) (bK b1 (by omega) h1)),h2⟩) hy
    λg5 e b5 he=>put g5 e _ (λq o hq x=>b5 _ _ (show q≠b + 1 by omega) (kp q o (by omega) (by omega) x)) he)
theorem Lp {x:Uk}{Q:Option Uk->Um->Prop}(Z:ZR s.heap b l n k vals) (hl:l < b) (hk:k < n) (hx:vals[k]?=some x)
  (hQ:∀h' t tk,ZR h' b l n (k + 1) vals->abt h' s.heap.objs.size (.int k t) x->h'.objs.size=s.heap.objs.size + 1->(∀q o,¬(b<=q/\q < b + 5)->s.heap.get? q=some o->h'.get? q=some o)->Q (some (.ref s.heap.objs.size)) {s with heap:=h',toks:=tk}):
  UB (UO prog w) A (Xy (.ref (b + 4))) Q E s:=by
 obtain ⟨f0,f1,hz,hf⟩:=Z.z;have zt:s.TypeIs (.ref (b + 4)) "zip":=⟨_,hz,rfl⟩;unfold Xy;exact Uh (WO (U0 (name:=V3 "__next__") zt YY (U3 YY zt acY
   (Lm Z hl hk hx λh' t tk a1 a2 a3 a4=>Uj (hQ h' t tk a1 a2 a3 a4)) (acB _))))
theorem Ll {Q:Option Uk->Um->Prop}(hh:A.handled=none) (Z:ZR s.heap b l n k vals) (hl:l < b) (hkn:k<=n) (hend:k=n\/vals[k]?=none)
  (hQ:∀h' tk,(∀q o,¬(b<=q/\q < b + 5)->s.heap.get? q=some o->h'.get? q=some o)->Q none {s with heap:=h',toks:=tk}):UB (UO prog w) A (Xy (.ref (b + 4))) Q E s:=by obtain ⟨f0,f1,hz,hf⟩:=Z.z;have zt:s.TypeIs (.ref (b + 4)) "zip":=⟨_,hz,rfl⟩;unfold Xy;refine Uh (WO (U0 (name:=V3 "__next__") zt YY (U3 YY zt acY (N1 hh Z hl hkn hend λh' tk e hk he=>?_) (acB _))));obtain ⟨o,ho,hc⟩:=he;exact Uh (XQ (T:="StopIteration") (b:=true) ⟨o,ho,hc⟩ Z8 (Uj (hQ _ _ hk)))
structure Io (h:VB) (S:Nat) (as:List Nat) (vals:Array Uk):Prop where
 pr:∀(j a:Nat),as[j]?=some a->∃t x,vals[j]?=some x/\abt h a (.int j t) x
 hi:∀a∈as,S < a/\a < h.objs.size
 nd:as.Nodup
def qv (as:List Nat) (c:Nat):Obj:={cls:=.type "list",data:=.seq (as.map λ(a:Nat)=>VN a).toArray c}
theorem GR (as:List Nat) (c a:Nat):∃c',VJ (·.push (.ref a)) (qv as c)=qv (as++[a]) c':=⟨_,by
 unfold qv VJ;rw [UN,show aeg (λ(a:Nat)=>VN a) [a]=[VN a] from rfl,<-List.push_toArray]⟩
theorem Lo {R:acD->Um->Prop}{N S:Nat}{res:Uk}(hh:A.handled=none) (hl:l < b) (hS:b + 5<=S) (hN:N=min n vals.size) (hz:N<=sizeLine):
  ∀(m k:Nat) (s:Um) (as:List Nat),N - k=m->k<=N->ZR s.heap b l n k vals->(∃c,s.heap.get? S=some (qv as c))->as.length=k->Io s.heap S as vals->
  (∀h' tk as' c',as'.length=N->h'.get? S=some (qv as' c')->Io h' S as' vals->(∀(q:Nat) o,q < b->s.heap.get? q=some o->h'.get? q=some o)->R (.ok (.ret res)) {s with heap:=h',toks:=tk})->
  WM (UO prog w) A (.builtin "list.extend.loop" ⟨[.ref S,.ref (b + 4),res],[]⟩) R s:=by
 intro m
 induction m with
 | zero=>
  intro k s as hm hk Z ⟨c,R9⟩ ha P hR;have e:k=N:=by omega
  (refine VH abF ?_)
  (rw [Vj XJ _])
  show UB _ A.in1 (Xy (.ref (b + 4)) >>= _) _ _ s;refine Uh (Ll hh Z hl (by omega) (by by_cases q:k=n;exact .inl q;exact .inr (aaQ (by omega))) λh' tk kp=>Uj (hR h' tk as c (by omega) (kp _ _ (by omega) R9) ⟨λj a h=>?_,λa h=>⟨(P.hi a h).1,?_⟩,P.nd⟩ λq o hq e=>kp q o (by omega) e))
  ·obtain ⟨t,x,h1,h2⟩:=P.pr j a h;have:=(P.hi a (Vi h)).1;exact ⟨t,x,h1,kp _ _ (by omega) h2⟩
  ·obtain ⟨j,hj⟩:=List.getElem?_of_mem h;obtain ⟨t,x,h1,h2⟩:=P.pr j a hj;have:=(P.hi a h).1;exact UC (kp _ _ (by omega) h2)
 | succ m ih=>
  intro k s as hm hk Z ⟨c,R9⟩ ha P hR;have hv:k < vals.size:=by omega
  (refine VH abF ?_)
  (rw [Vj XJ _])
  show UB _ A.in1 (Xy (.ref (b + 4)) >>= _) _ _ s;refine Uh (Lp Z hl (by omega) (V9 hv) λh' t tk Z' p sz kp=>?_);have RC:=kp _ _ (by omega) R9;show UB _ A.in1 (ab2 S (·.push (.ref s.heap.objs.size)) >>= _) _ _ _
  (refine Uh ?_)
  have lt:S < s.heap.objs.size:=UC R9;have ot:∀(q:Nat) (o:Obj){f:Obj->Obj},q≠S->h'.get? q=some o->(h'.update S f).get? q=some o:=λq o f n e=>(Wu _ _ (λz:S=q=>n z.symm)).trans e;have old:∀(q:Nat) (o:Obj){f:Obj->Obj},¬(b<=q/\q < b + 5)->q≠S->s.heap.get? q=some o->(h'.update S f).get? q=some o:=λq o f n1 n2 e=>ot q o n2 (kp q o n1 e);refine Xr RC rfl (Uj ⟨WS XJ _,ih (k + 1) _ (as++[s.heap.objs.size]) (by omega) (by omega) (Z'.keep λq o hq e=>ot q o (by omega) e) ?_ (by simp [ha]) ⟨λj a h=>?_,λa h=>?_,?_⟩ λh'' tk'' as' c' q1 q2 q3 q4=>?_⟩)
   (by simp [ha];omega) (by simp [ha];omega)
  ·obtain ⟨c',hc⟩:=GR as c s.heap.objs.size;exact ⟨c',(Vd _ RC rfl).trans (congrArg some hc)⟩
  ·rw [List.getElem?_append] at h;split at h
   ·obtain ⟨t',x,h1,h2⟩:=P.pr j a h;have:=P.hi a (Vi h);exact ⟨t',x,h1,old _ _ (by omega) (by omega) h2⟩
   ·have e:j=k:=by have:=(UR.mp h).1;simp at this;omega
    subst e;rw [ha,Nat.sub_self] at h;cases h;exact ⟨t,_,V9 hv,ot _ _ (by omega) p⟩
  ·have e:(h'.update S (VJ (·.push (.ref s.heap.objs.size)))).objs.size=s.heap.objs.size + 1:=by rw [aaE];exact sz
   rcases US.mp h with h | h
   ·have:=P.hi a h;refine ⟨this.1,?_⟩;show a < (h'.update S _).objs.size;rw [e];omega
   ·rw [Uz] at h;subst h;refine ⟨lt,?_⟩;show s.heap.objs.size < (h'.update S _).objs.size;rw [e];omega
  ·refine Wx.mpr ⟨P.nd,by simp,λa h1 a' h2=>?_⟩;rw [Uz] at h2;have:=P.hi a h1;omega
  ·exact hR h'' tk'' as' c' q1 q2 q3 λq o hq e=>q4 q o hq (old q o (by omega) (by omega) e)
theorem Dc:acf (.type "zip") "__len__"=pure none:=by rw [YU,Xe];kernel_rfl
theorem AL:acf (.type "zip") "__length_hint__"=pure none:=by rw [YU,Xe];kernel_rfl
theorem Ln {Q:Uk->Um->Prop}(Z:ZR s.heap b l n k vals) (h:Q (.ref (b + 4)) s):UB (UO prog w) A (ZF (.ref (b + 4))) Q E s:=by obtain ⟨f0,f1,hz,hf⟩:=Z.z;have zt:s.TypeIs (.ref (b + 4)) "zip":=⟨_,hz,rfl⟩;refine Zc zt adA (U3 adA zt F.entry_zip_iter ?_ (F.args_zip_iter_1 _));show UB _ _ (ret (.ref (b + 4))) _ _ s;exact Uj ⟨_,rfl,"zip",_,zt,YY.lookup,h⟩
theorem DB {Q:List Uk->Um->Prop}{N:Nat}(hh:A.handled=none) (Z:ZR s.heap b l n 0 vals) (hl:l < b) (hb:s.heap.objs.size=b + 5) (hN:N=min n vals.size) (hz:N<=sizeLine)
  (hQ:∀h' tk as,as.length=N->b + 5 < h'.objs.size->Io h' (b + 5) as vals->(∀(q:Nat) o,q < b->s.heap.get? q=some o->h'.get? q=some o)->Q (as.map λ(a:Nat)=>VN a) {s with heap:=h',toks:=tk}):UB (UO prog w) A (collect (.ref (b + 4))) Q E s:=by
 have ty:∀{h:VB},ZR h b l n 0 vals->∃o,h.get? (b + 4)=some o/\o.cls=.type "zip":=λZ=>let ⟨f0,f1,e,_⟩:=Z.z;⟨_,e,rfl⟩
 unfold collect
 (refine Uh (Z7 (VH Zj ?_)))
 (rw [Vj Zk _])
 show UB _ A.in1 (newList [] >>= λl=>again (.builtin "list.__iadd__" ⟨[l,.ref (b + 4)],[]⟩)) _ _ s
 (refine Uh (UU ?_))
 (refine Uj ⟨WS Xs _,VH aae ?_⟩)
 (rw [Vj Xs _])
 have Z1:ZR (s.heap.push (qv [] 0)) b l n 0 vals:=Z.keep λq o _ e=>Ul _ e;show UB _ A.in1 (W3 (.ref s.heap.objs.size) (.ref (b + 4)) (.ref s.heap.objs.size)) _ _ {s with heap:=s.heap.push (qv [] 0)};have hS:(s.heap.push (qv [] 0)).get? (b + 5)=some (qv [] 0):=by rw [<-hb];exact Us _ rfl
 rw [hb]
 (unfold W3)
 refine Uh (X4 (ty Z1) ?_);have h1:aaj (.ref (b + 5)) (.ref (b + 4))=false:=by show ((b + 5) == (b + 4))=false;exact beq_eq_false_iff_ne.mpr (by omega)
 have h2:(W6 "zip" == W6 "list")=false:=by decide
 have h3:(W6 "zip" == W6 "tuple")=false:=by decide
 (simp only [h1,h2,h3,abU,UE,if_false])
 refine Uh (Ln Z1 ?_)
 (refine Uh (U7 ?_))
 (unfold Yb)
 refine Uh (Xv (ty Z1) Dc ?_);show UB _ A.in1 (specialOf (VN (b + 4)) (V3 "__length_hint__") >>= _) _ _ _;refine Uh (Xv (ty Z1) AL ?_);refine Uj ?_;show UB _ A.in1 (rule "list.extend.makes-room" >>= λ_=>aeo (.ref (b + 5)) >>= λ_=>again (.builtin "list.extend.loop" ⟨[.ref (b + 5),.ref (b + 4),.ref (b + 5)],[]⟩)) _ _ _
 (refine Uh (XX ?_))
 refine Uh ?_;show UB _ A.in1 (ab2 (b + 5) (·.push .none) >>= λ_=>ab2 (b + 5) (·.pop)) _ _ _;refine Uh (Xr hS rfl ?_);have RC:=Vd (VJ (·.push Vl)) hS rfl;refine Xr RC rfl ?_;have S8:=Vd (VJ (·.pop)) RC rfl;have oth:∀(q:Nat) (o:Obj),q≠b + 5->(s.heap.push (qv [] 0)).get? q=some o->(((s.heap.push (qv [] 0)).update (b + 5) (VJ (·.push Vl))).update (b + 5) (VJ (·.pop))).get? q=some o:=
  λq o hq e=>(Wu _ _ (Ws hq)).trans ((Wu _ _ (Ws hq)).trans e)
 refine Uj ⟨WS XJ _,Lo (A:=A) hh hl (Uw _) hN hz N 0 _ [] rfl (UX _) (Z1.keep λq o hq e=>oth q o (by omega) e) ⟨_,S8⟩ rfl ⟨λj a h=>(by cases h),λa h=>(by cases h),WU⟩ λh' tk as c q1 q2 q3 q4=>?_⟩;show UB _ A (load (b + 5) >>= _) _ _ _;refine Uh (ab8 q2 ?_);refine Uj (?_:Q (as.map λ(a:Nat)=>VN a) _);exact hQ h' tk as q1 (UC q2) q3 λq o hq e=>q4 q o hq (oth q o (by omega) (Ul _ e))
theorem Ia {Q:Uk->Um->Prop}{N:Nat}(hh:A.handled=none) (Z:ZR s.heap b l n 0 vals) (hl:l < b) (hb:s.heap.objs.size=b + 5) (hN:N=min n vals.size) (hz:N<=sizeLine)
  (hQ:∀h' tk as,as.length=N->b + 5 < h'.objs.size->Io h' (b + 5) as vals->(∀(q:Nat) o,q < b->s.heap.get? q=some o->h'.get? q=some o)->
   Q (.ref h'.objs.size) {s with heap:=h'.push {cls:=.type "tuple",data:=.seq (as.map λ(a:Nat)=>VN a).toArray},toks:=tk}):UB (UO prog w) A (call (.type "tuple") [.ref (b + 4)]) Q E s:=by
 refine callType_codes (Q₁:=λobj s₁=>s₁.TypeIs obj "tuple"/\Q obj s₁) abu (F.typeCall_tuple_1 _) F.entry_object_init ?_ λobj s₁ h₁=>
  ⟨h₁.1,F.args_object_init_2 obj _,object_init_meets abu.init.lookup abu.made (by decide) prog w A.in1 _ s₁ ⟨h₁.1,rfl,h₁.2⟩⟩
 refine YV ?_;show UB _ A.in1.in1 (do Zo "tuple.__new__" ⟨[.type "tuple",.ref (b + 4)],[]⟩;again (.builtin "tuple.__new__" ⟨[.type "tuple",.ref (b + 4)],[]⟩)) _ _ s
 (refine Uh (YA (F.newCall_tuple_1 _) (Uj ⟨WS acC _,VH F.entry_tuple_new ?_⟩)))
 (rw [Vj acC _])
 have hsub:=sub_tuple_self;have SW:=init_tuple_lookup;have T6:=madeHere_tuple;have hTI:s.TypeIs (.ref (b + 4)) "zip":=let ⟨f0,f1,e,_⟩:=Z.z;⟨_,e,rfl⟩
 have h2:A.in1.in1.handled=none:=hh
 wp_walk using X4 hTI,DB h2 Z hl hb hN hz
 intro h' tk as q1 q0 q2 q3;show UB _ _ (Wg (as.map λ(a:Nat)=>VN a).toArray >>= λv=>ret v) _ _ _;unfold Wg;refine Uh (UU ?_ (by show (as.map λ(a:Nat)=>VN a).toArray.size<=sizeLine;simp only [Uy,Uo];rw [q1];exact hz));exact Uj ⟨⟨_,Us _ rfl,rfl⟩,hQ h' tk as q1 q0 q2 q3⟩
abbrev nN (n:Int):Obj:={cls:=.type "range_iterator",data:=.fields #[YZ 0,YZ n,YZ 1]}
theorem HZ (q l:UL) (j:Int) (t u v:Tok) (ys:Array Uk) (hs:abG 0 j 1=true):
  Meets (X6.«zip.__new__» ⟨[.type "zip",.ref q,.ref l],[]⟩) (λ_ R s=>IsRange s.heap q 0 j 1 t u v/\s.heap.IsTuple l ys/\
   R (.ok (.ret (.ref (B8 s.heap (nN (Wm 0 j 1)) (f_ "tuple_iterator" l)).objs.size))) {s with heap:=Az s.heap (nN (Wm 0 j 1)) (f_ "tuple_iterator" l)}):=
 .of_wp λprog w A R s h=>by
  obtain ⟨hp,g,d,tk,os⟩:=s;obtain ⟨q1,q2,h⟩:=h;have hsub:=sub_zip;have L1:IsRange (adm ⟨hp,g,d,tk,os⟩) q 0 j 1 t u v:=q1;have L2:(adm ⟨hp.push (nN (Wm 0 j 1)),g,d,tk,os⟩).IsTuple l ys:=afd q2 _
  wp_walk using abK L1 hs,YL L2
  exact ⟨_,rfl,h⟩
end
section
variable {X:Cx}{T9:List (UL×Obj)}{σ:L2.St}{H:Hp}{s:Um}
theorem adopt {a:UL}{xs:List V}{its:List Uk}(I:Inv X T9 σ H s) (f:iR X T9 H a) (hz:xs.length<=sizeLine) (r:Vals xs its) (ht:aeq s.heap a its.toArray):Inv X T9 σ (upd H a (.tup xs)) s:=by
 obtain ⟨f0,f1,f2,f3,f4,f5⟩:=f;have up':∀{b:UL}{o:HO},H b=some o->upd H a (.tup xs) b=some o:=λe=>by rw [bq (eu e f0)];exact e
 refine I.step (h':=s.heap) (g':=s.gens) (t':=s.toks) (d':=s.drawn) (ch:=[a]) (λb hb=>by cases (Uz.mp hb);exact ⟨f3,f1,f4,f5⟩) (λb o _ _ _ e _=>e) (λb o _ _ _ e _=>⟨o.slots,e⟩) (λb o hb e n=>by rw [bq (λq=>hb (by simp [q]))];exact n)
  (λb o _ e=>⟨o,e⟩) (λb xs e=>up' e) (λb o q e=>up' e) (λb ps e=>⟨#[],by rw [Z2];exact up' e⟩) (λm hm=>hm) (λb q e=>?_) I.bare
 by_cases hb:b=a
 ·subst hb;rw [bN] at e;cases e;exact ⟨hz,its,r,ht⟩
 ·rw [bq hb] at e;exact (I.hok b q e).stay (λd o _ ho=>ho) (λ_ h=>up' h) λ_ _ h=>up' h
noncomputable def tQ:List Nat->List V->Nat->Hp->Hp
 | a::as,x::xs,k,H=>tQ as xs (k + 1) (upd H a (.tup [.int k,x]))
 | _,_,_,H=>H
noncomputable def IB:List Nat->List V->Nat->Hp->Prop
 | a::as,x::xs,k,H=>H a=none/\IB as xs (k + 1) (upd H a (.tup [.int k,x]))
 | _,_,_,_=>True
theorem By:∀(as:List Nat) (xs:List V) (k:Nat) (H:Hp),Inv X T9 σ H s->(∀a∈as,iR X T9 H a)->as.Nodup->(∀(j a:Nat),as[j]?=some a->∃t u x,xs[j]?=some x/\RelV x u/\abt s.heap a (.int ((k + j:Nat):Int) t) u)->
  Inv X T9 σ (tQ as xs k H) s/\IB as xs k H/\∀b,b∉as->tQ as xs k H b=H b
 | [],xs,k,H,I,_,_,_=>by cases xs <;> exact ⟨I,trivial,λb _=>rfl⟩
 | a::as,[],k,H,I,hf,hn,hp=>by obtain ⟨t,u,x,e,_⟩:=hp 0 a rfl;cases e
 | a::as,x::xs,k,H,I,hf,hn,hp=>by
  obtain ⟨t,u,x',e,r,p⟩:=hp 0 a rfl;cases e;have fa:=hf a (by simp);have ne:∀b∈as,b≠a:=λb hb e=>(Wq.mp hn).1 (e▸hb);have I1:=adopt (xs:=[.int k,x]) (its:=[.int k t,u]) I fa (show 2<=sizeLine by decide) (.cons ⟨t,rfl⟩ (.cons r .nil)) ⟨_,p,rfl,0,rfl⟩;obtain ⟨I2,h2,h3⟩:=By as xs (k + 1) _ I1 (λb hb=>by
   obtain ⟨g0,g⟩:=hf b (by simp [hb]);exact ⟨by rw [bq (ne b hb)];exact g0,g⟩) (Wq.mp hn).2 λj b hj=>by obtain ⟨t,u,y,e,r,p⟩:=hp (j + 1) b (by simpa using hj);exact ⟨t,u,y,by simpa using e,r,by rw [show k + 1 + j=k + (j + 1) by omega];exact p⟩
  refine ⟨I2,⟨fa.1,h2⟩,λb hb=>?_⟩;have hb':b≠a/\b∉as:=by simpa using hb
  exact (h3 b hb'.2).trans (bq hb'.1)
end
section
variable {X:Cx}{c:C}{e a b:U_}{pos:Pos}
noncomputable def QI (K:Ui) (ta:TA):TE:=λσ H Q=>ta σ H λvs H1=>∃(q:UL) (j:Int) (l:UL) (xs:List V),vs=[.ref q,.ref l]/\H1 q=some (.rng 0 j)/\-(2 ^ 24)<=j/\j<=2 ^ 24/\cY K H1 l xs/\
 ∀(as:List Nat) (p:UL),as.length=min j.toNat xs.length->IB as xs 0 H1->tQ as xs 0 H1 p=none->Q (.ref p) (upd (tQ as xs 0 H1) p (.tup (as.map λ(a:Nat)=>V.ref a)))
theorem xN:∀as:List Nat,Vals (as.map λ(a:Nat)=>V.ref a) (as.map λ(a:Nat)=>VN a)
 | []=>.nil
 | a::as=>.cons rfl (xN as)
theorem N2 {h:VB}{l j:Nat}{ys:Array Uk}(hl:h.IsTuple l ys):ZR (Az h (nN j) (f_ "tuple_iterator" l)) h.objs.size l j 0 ys/\(Az h (nN j) (f_ "tuple_iterator" l)).objs.size=h.objs.size + 5/\(B8 h (nN j) (f_ "tuple_iterator" l)).objs.size=h.objs.size + 4/\
  ∀(q:Nat) (o:Obj),h.get? q=some o->(Az h (nN j) (f_ "tuple_iterator" l)).get? q=some o:=by
 have gp:∀{h:VB}{q:UL}{u:Obj}(o:Obj),h.get? q=some u->(h.push o).get? q=some u:=λo e=>Ul _ e;have e1:(h.push (nN j)).objs.size=h.objs.size + 1:=VD ..;have e2:((h.push (nN j)).push (f_ "tuple_iterator" l)).objs.size=h.objs.size + 2:=by rw [VD,e1]
 have e3:(Ji h (nN j) (f_ "tuple_iterator" l)).objs.size=h.objs.size + 3:=by unfold Ji;rw [VD,e2]
 have e4:(B8 h (nN j) (f_ "tuple_iterator" l)).objs.size=h.objs.size + 4:=by unfold B8;rw [VD,e3]
 have up:∀(q:Nat) (o:Obj),h.get? q=some o->(Az h (nN j) (f_ "tuple_iterator" l)).get? q=some o:=λq o e=>gp _ (gp _ (gp _ (gp _ (gp _ e))));refine ⟨⟨⟨.none,false,?_,.inl rfl⟩,?_,⟨.none,.none,?_⟩,?_,⟨f_ "tuple_iterator" l,?_,rfl,rfl⟩,let ⟨o,h1,h2⟩:=hl;⟨o,up _ _ h1,h2⟩⟩,by unfold Az;rw [VD,e4],e4,up⟩
 ·rw [<-e4];have:=Us (B8 h (nN j) (f_ "tuple_iterator" l)) (o:=sR .none false h.objs.size) rfl;unfold Az;rw [e2,e3];exact this
 ·rw [<-e1,<-e2];exact gp _ (gp _ (Us _ rfl))
 ·rw [<-e3];exact gp _ (Us _ rfl)
 ·have:((j:Nat):Int) - ((0:Nat):Int)=j:=by omega
  rw [this];exact gp _ (gp _ (gp _ (gp _ (Us _ rfl))))
 ·rw [<-e1];exact gp _ (gp _ (gp _ (Us _ rfl)))
theorem OA {ta:TA}{p p2 pos2:Pos}(ha:PA X [a,b] ta) (hm:X.mg "zip"=none) (hm2:X.mg "tuple"=none) (hc:X.calm=true) (hg:Gl X "zip") (RO:Gl X "tuple") (hs:Ux [a,b] X.env=[(false,eval a X.env),(false,eval b X.env)]) (hs2:Ux [b] X.env=[(false,eval b X.env)])
  (RV:Ux [Yr (.Name "zip" p) [a,b] [] pos] X.env=[(false,eval (Yr (.Name "zip" p) [a,b] [] pos) X.env)]) (RW:Ux [] X.env=[]):
  PE X (.Call (.Name "tuple" p2) [.Call (.Name "zip" p) [a,b] [] pos] [] pos2) (QI X.K ta):=by
 intro T9 s σ H R I h;refine Xb (lF I RO hm2 r_ (Wn (by
  rw [RV];show UB _ _ (spliced ((false,eval (Yr (.Name "zip" p) [a,b] [] pos) X.env)::Wk pos2 [])) _ _ s;refine abM ?_;refine Xb (lF I hg hm boot_zip (Wn (bM (ha pos T9 s σ H _ I h) λus s1 ⟨vs,H1,I1,r1,q1⟩=>?_) (by rw [hs,hs2]) (by rw [hs2];rfl)));obtain ⟨q,j,l,xs,e,hq,j0,j1,hl,k⟩:=q1;subst e;obtain ⟨its,v1,p1,z1⟩:=I1.tuple hl;obtain ⟨t,u,v,ho⟩:=I1.hok q _ hq;cases r1 with
  | cons r rr=>
   cases rr with
   | cons r' rr=>
    cases rr;cases r;cases r';have sm:abG 0 j 1=true:=aet (by decide) (by decide) (by omega) (by omega);refine callType_new F.called_zip (by decide) (F.typeCall_zip_2 _ _) (F.newCall_zip_2 _ _) (λ_=>by first | exact F.args_object_init _ | rfl | decide) F.entry_zip_new (HZ q l j t u v its.toArray sm) ?_;refine ⟨ho,p1,⟨_,Us _ rfl,rfl⟩,?_⟩;have hn:Wm 0 j 1=(j.toNat:Int):=by rw [abL];split <;> omega
    rw [hn];obtain ⟨Z,zb,z4,up⟩:=N2 (j:=j.toNat) p1;refine ab9 ?_;rw [z4];have lt:l < s1.heap.objs.size:=let ⟨o,h1,_⟩:=p1;UC h1
    have hlen:its.toArray.size=xs.length:=by rw [Uy];exact v1.length.symm
    refine Ia (N:=min j.toNat xs.length) (I1.ok.hd hc) Z lt zb (by rw [hlen]) (by omega) λh' tk as n1 n0 P kp=>?_;have I5:Inv X T9 σ H1 {s1 with heap:=h'.push {cls:=.type "tuple",data:=.seq (as.map λ(a:Nat)=>VN a).toArray},toks:=tk}:=I1.kept (t':=tk) λb o e=>Ul _ (kp b o (UC e) (up b o e));obtain ⟨I6,fz,ot⟩:=By as xs 0 H1 I5 (λa ha=>I1.fpOk (by have:=P.hi a ha;omega) (I1.hok.fresh (by have:=P.hi a ha;omega))) P.nd λi a hi=>by
     obtain ⟨t',x',g1,g2⟩:=P.pr i a hi;obtain ⟨y,g3,g4⟩:∃y,xs[i]?=some y/\RelV y x':=by
      have e:its[i]?=some x':=by simpa using g1
      have lti:i < xs.length:=by rw [v1.length];exact (UR.mp e).1
      obtain ⟨u',w1,w2⟩:=v1.get (UA lti);rw [w1] at e;cases e;exact ⟨_,UA lti,w2⟩
     exact ⟨t',x',y,g3,g4,by rw [Z3];exact Ul _ g2⟩
    have big:s1.heap.objs.size<=h'.objs.size:=by omega
    have pn:tQ as xs 0 H1 h'.objs.size=none:=(ot _ λhm=>absurd (P.hi _ hm).2 (Wa _)).trans (I1.hok.fresh big);exact ⟨.ref h'.objs.size,_,adopt I6 (I1.fpOk big pn) (by rw [Uo,n1];omega) (xN as) ⟨_,Us _ rfl,rfl,0,rfl⟩,rfl,k as h'.objs.size n1 fz pn⟩) (by rw [RV,RW]) (by rw [RW];rfl)))
noncomputable def F5:Nat->Nat->List D->List D
 | k,n + 1,d::ds=>.tup [.int k,d]::F5 (k + 1) n ds
 | _,_,_=>[]
noncomputable def Ex (gs:G (List R)) (gf:G R):G R:=λenv=>gs env >>= λrs=>match rs with
 | [.d (.int j)]=>gf env >>= λy=>match y with
  | .d (.tup ds)=>if below 16777216 j then .ok (.d (.tup (F5 0 j.toNat ds))) else .bad
  | _=>.bad
 | _=>.bad
theorem BA {K:Ui}:∀(as:List Nat) (xs:List V) (ds:List D) (k n:Nat) (J H:Hp),aK K J ds xs->as.length=min n xs.length->IB as xs k H->aU J H->∃J',Ext J H J' (tQ as xs k H)/\aK K J' (F5 k n ds) (as.map λ(a:Nat)=>V.ref a)
 | as,[],ds,k,n,J,H,r,hl,hf,h=>by cases r;have:as=[]:=WT.mp (by simpa using hl);subst this;cases n <;> exact ⟨J,Ext.refl h,.nil⟩
 | [],x::xs,ds,k,n,J,H,r,hl,hf,h=>by
  cases n with
  | zero=>cases r;exact ⟨J,Ext.refl h,.nil⟩
  | succ n=>simp at hl
 | a::as,x::xs,ds,k,0,J,H,r,hl,hf,h=>by simp at hl
 | a::as,x::xs,ds,k,n + 1,J,H,r,hl,hf,h=>by
  cases r with
  | cons r rs=>
   have e1:=Ext.newJ h hf.1 (.tup [.int k,x]);have s':aU J (upd J a (.tup [.int k,x])):=e1.j;obtain ⟨J',e2,r2⟩:=BA as xs _ (k + 1) n _ _ (rs.mono s') (by simp at hl;omega) hf.2 e1.sub;exact ⟨J',e1.trans e2,.cons (Rep.mono e2.j (.tup (.inl (.inl bN)) (.cons (.int _) (.cons (r.mono s') .nil)))) r2⟩
theorem Nv {p p2 p3 pos2 pos3:Pos}{gs:G (List R)}{gf:G R}(ha:i6 X c [a] gs) (hb:QD X c b gf) (hmr:X.mg "range"=none) (hm:X.mg "zip"=none) (hm2:X.mg "tuple"=none) (hc:X.calm=true:=by rfl) (hK:X.K=c.K:=by rfl) (hgr:Gl X "range":=by rfl) (hg:Gl X "zip":=by rfl) (RO:Gl X "tuple":=by rfl)
  (TL:Ux [a] X.env=(false,eval a X.env)::Ux [] X.env:=by rfl)
  (hs:Ux [Yr (.Name "range" p3) [a] [] pos3,b] X.env=[(false,eval (Yr (.Name "range" p3) [a] [] pos3) X.env),(false,eval b X.env)]:=by rfl) (hs2:Ux [b] X.env=[(false,eval b X.env)]:=by rfl)
  (RV:Ux [Yr (.Name "zip" p) [Yr (.Name "range" p3) [a] [] pos3,b] [] pos] X.env=[(false,eval (Yr (.Name "zip" p) [Yr (.Name "range" p3) [a] [] pos3,b] [] pos) X.env)]:=by rfl) (RW:Ux [] X.env=[]:=by rfl):
  QD X c (.Call (.Name "tuple" p2) [.Call (.Name "zip" p) [.Call (.Name "range" p3) [a] [] pos3,b] [] pos] [] pos2) (Ex gs gf):=by
 have ha:=ha.h;have hb:=hb.h;refine ⟨?_⟩;have h1:=j_ (p:=p3) (pos:=pos3) yX hgr hmr adT ha (by decide) (by decide) TL (by rw [RW];rfl);refine fC (OA (eK h1 (eK hb gW (by rw [hs2,RW])) (by rw [hs,hs2])) hm hm2 hc hg RO hs hs2 RV RW) λσ H Q ⟨J,env,sr,w⟩=>?_;refine ⟨J,env,sr,aE (aI w) λrs wr vs J1 H1 e1 r1=>?_⟩;split at wr
 ·rename_i j;obtain ⟨v,rfl,r⟩:=r1.one;cases r;refine ⟨j,rfl,λq hq=>?_⟩;have hp1:=sr.hp.ext e1;have e2:=Ext.new hp1.sub hq (.rng 0 j);refine ⟨J1,env,(sr.ext e1).ext e2,aE (aI wr) λy wy v J2 H2 e3 r3=>?_⟩;split at wy
  ·rename_i ds;split at wy
   ·rename_i hb;obtain ⟨b1,b2⟩:=cG.mp hb;have hp2:=(hp1.ext e2).ext e3;cases r3 with
    | @tup l xs _ g1 g2=>
     refine ⟨q,j,_,xs,rfl,e3.h _ _ bN,by omega,by omega,by rw [hK];exact eY hp2.sub g1,λas p n1 fz pn=>?_⟩;obtain ⟨J3,e4,r4⟩:=BA as xs ds 0 j.toNat J2 H2 g2 n1 fz hp2.sub;have hp3:=hp2.ext e4;have e5:=Ext.newJ hp3.sub pn (.tup (as.map λ(a:Nat)=>V.ref a));exact wy _ _ _ ((((e1.trans e2).trans e3).trans e4).trans e5) (.tup (.inl (.inl bN)) (r4.mono e5.j))
   ·exact wy.elim
  ·exact wy.elim
 ·exact wr.elim
end
section
variable {X:Cx}{c:C}{a b:U_}{ga gb:G R}{pos:Pos}
noncomputable def OD (K:Ui):R2:=λx y H Q=>∃l b xs zs,x=.ref l/\y=.ref b/\cj K H l xs/\cj K H b zs/\xs.length + zs.length<=sizeLine/\∀p,H p=none->Q (.ref p) (upd H p (.lst (xs++zs)))
theorem Kg:c8 X (XD .Add) (OD X.K):=by
 intro T9 s σ H x y v u Q I rx ry h;obtain ⟨l,b,xs,zs,rfl,rfl,hl,hb,hz,q⟩:=h;cases rx;cases ry;obtain ⟨its,r,p1,z1⟩:=I.list hl;obtain ⟨its2,r2,p2,z2⟩:=I.list hb;obtain ⟨⟨cls,dd,data,sl⟩,ho,hc,n,hd⟩:=id p1.isList;obtain ⟨⟨cls2,dd2,data2,sl2⟩,ho2,hc2,n2,hd2⟩:=id p2.isList
 (simp only at hc hd hc2 hd2)
 subst hc hd hc2 hd2;have e1:=r.length;have e2:=r2.length;refine aaW ⟨_,ho,rfl⟩ ⟨_,ho2,rfl⟩ noFill_list_add seq_list_add PySem.F.slot_list_add PySem.F.entry_list_add (PySem.F.args_list_add_2 _ _) (list_addW l b its.toArray its2.toArray n n2 dd dd2 sl sl2 (by rw [Uy,Uy];omega)) ⟨ho,ho2,?_⟩;rw [show its.toArray++its2.toArray=(its++its2).toArray by simp];exact ⟨.ref _,_,I.lnew (t':=s.toks) (r.append r2) (by rw [UI];omega),rfl,q _ I.fresh⟩
def qU (x y:R):M R:=kB x >>= λxs=>kB y >>= λys=>if xs.length + ys.length<=sizeLine then .ok (.l .fresh (xs++ys)) else .bad
theorem Hv (ha:QD X c a ga) (hb:QD X c b gb) (hK:X.K=c.K:=by rfl):QD X c (.BinOp a .Add b pos) (g2 qU ga gb):=⟨kL Kg (by
 intro He He' J H x y u v Q hp rx ry w;unfold qU at w;obtain ⟨xs,q1,w⟩:=nQ w;obtain ⟨ys,q2,w⟩:=nQ w;obtain ⟨p,vs,rfl,h1,s1⟩:=RR.list hp rx q1;obtain ⟨p2,vs2,rfl,h2,s2⟩:=RR.list hp ry q2;split at w
 ·rename_i hz;rw [s1.length,s2.length] at hz;exact ⟨p,p2,vs,vs2,rfl,rfl,by rw [hK];exact h1,by rw [hK];exact h2,hz,λq hq=>w _ J _ (Ext.new hp.sub hq _) (ia hp hq (s1.append s2))⟩
 ·exact w.elim) ha.h hb.h⟩
end
end DL
namespace K76
open PySem DL
def uf:List Str:=["one","other","pairs","base"]
noncomputable def mj:G O:=(aH (iP (gN (aO 2 K23.dh) (ao (af 0) (ao (af 1) aC))))
 (aH (bf 3 (gN (aO 1 K23.c7) (ao (af 2) aC)))
 (br (Gw (gN (aO 3 K72.cR) (ao (af 0) (ao (af 1) (ao (af 3) aC)))) (af 3) (gC (.int 0))))))
def cS (as:List S):M R:=fin (mj (aW uf as))
def AA:List Str:=["_law_one","_law_other","_law_pairs","_law_order_here","_law_k","_law_place","_law_more_here"]
noncomputable def sy (Fr:List S->M R):G O:=(aH (bf 4 (gN eV (ao (af 3) aC)))
 (aH (bJ (bw (g2 (bX false) (af 4) (g2 aY (af 0) (gC (.int 0))))) (br (gC (.bl true))) cK)
 (aH (cu (b9 (ao (g2 aY (af 1) (gC (.int 0))) aC)) (aD 5) (aH (bf 6 (gN dF (ao (g2 qU (af 3) (c5 (az (af 5) aP))) aC)))
 (bJ (iU (bw (g2 (fH true) (af 5) (af 3))) (bw (gN (aO 3 K72.dJ) (ao (af 0) (ao (af 1) (ao (g2 bY (af 2) (Ex (ao (g2 bY (af 4) (gC (.int 1))) aC) (af 6))) aC)))))) (bJ (bw (gN (aO 4 Fr) (ao (af 0) (ao (af 1) (ao (af 2) (ao (gN qW (ao (af 6) aC)) aC)))))) (br (gC (.bl true))) cK) cK)))
 (br (gC (.bl false))))))
noncomputable def d7:Nat->List S->M R
 | 0,_=>.bad
 | k + 1,as=>fin (sy (d7 k) (aW AA as))
def Pq:List Str:=["_law_script","_law_cell","_law_one","_law_other","_law_some","_law_pairs","_law_turned_here","_law_depth","_law_found"]
noncomputable def Mf:G O:=(aH (bf 1 (gN (aO 2 K72.gr) (ao (af 0) (ao (gC (.int 0)) aC))))
 (aH (tF (dG 2 (bz (aD 2) (bz (aD 3) dR))) (gN (aO 2 K72.jX) (ao (gN (aO 2 K72.gr) (ao (af 0) (ao (gC (.int 1)) aC))) (ao (g2 aY (c5 (az (c5 (az (gC (.int 1)) (az (gC (.int 2)) (az (gC (.int 3)) (az (gC (.int 3)) (az (gC (.int 2)) aP)))))) (az (c5 (az (gC (.int 4)) (az (gC (.int 3)) (az (gC (.int 4)) (az (gC (.int 2)) (az (gC (.int 1)) aP)))))) aP))) (gN zm (ao (g2 (bX false) (g2 dD (af 1) (gC (.int 8))) (gC (.int 1))) aC))) aC))))
 (aH (bf 4 (gN (aO 3 K72.ie) (ao (af 2) (ao (af 3) (ao (gC (.int 3)) aC)))))
 (aH (bf 5 (g2 aY (af 4) (g2 dD (g2 f9 (af 1) (gC (.int 8))) (gN eV (ao (af 4) aC)))))
 (aH (bJ (bw (g2 (bX false) (g2 dD (g2 f9 (af 1) (gC (.int 10000))) (gC (.int 2))) (gC (.int 1)))) (bf 5 (bB aP)) cK)
 (aH (bf 6 (jV (g2 (bX false) (g2 aY (af 2) (gC (.int 0))) (g2 aY (af 3) (gC (.int 0)))) (gN (aO 4 (K76.d7 6)) (ao (af 2) (ao (af 3) (ao (af 5) (ao (c5 aP) aC)))))))
 (aH (bJ (bw (g2 (bX true) (g2 (iL false) (gN (aO 3 K76.cS) (ao (af 2) (ao (af 3) (ao (af 5) aC)))) (gC .non)) (af 6))) (br (gC (.bl false))) cK)
 (aH (bJ (gM (tK (af 6))) (br (gC (.bl true))) cK)
 (aH (bf 7 (g2 bY (gC (.int 1)) (g2 dD (g2 f9 (af 1) (gC (.int 20000))) (g2 vI (gC (.int 3)) (gN zm (ao (g2 (bX false) (g2 aY (af 2) (gC (.int 0))) (gC (.int 4))) aC))))))
 (aH (bJ (gM (bw (gN qb (ao (cB 1 [5] (jL (gN (aO 3 K72.gO) (ao (af 2) (ao (af 3) (ao (af 7) aC))))) (aD 0) dY (g2 (fH false) (af 1) (af 0))) aC)))) (br (gC (.bl false))) cK)
 (aH (bf 8 (gN (aO 4 K72.jm) (ao (af 2) (ao (af 3) (ao (af 7) (ao (af 5) aC))))))
 (aH (bJ (j3 (gM (bw (IF "tuple" (af 8)))) (bw (g2 (bX true) (gN eV (ao (af 8) aC)) (g2 aY (af 2) (gC (.int 0)))))) (br (gC (.bl false))) cK)
 (br (gN qb (ao (cB 1 [2,3,8] (b9 (ao (g2 aY (af 2) (gC (.int 0))) aC)) (aD 0) dY (gN (aO 3 K72.dJ) (ao (af 1) (ao (af 2) (ao (bB (az (bB (az (af 0) (az (g2 aY (af 3) (af 0)) aP))) aP)) aC))))) aC)))))))))))))))
def vn (as:List S):M R:=fin (Mf (aW Pq as))
end K76
namespace K76
open PySem PySem.Spec PyProof.Rows L2 DL DX
structure dz (w:U5) (K:Ui) (mg:Str->Option Uk):Prop where
 abs:mg "abs"=none
 all:mg "all"=none
 bool:mg "bool"=none
 enumerate:mg "enumerate"=none
 int:mg "int"=none
 isinstance:mg "isinstance"=none
 len:mg "len"=none
 list:mg "list"=none
 max:mg "max"=none
 range:mg "range"=none
 set:mg "set"=none
 sorted:mg "sorted"=none
 tuple:mg "tuple"=none
 zip:mg "zip"=none
 MOST_DEPTH:Ce K mg "MOST_DEPTH" (.int 6)
 MOST_SMALL:Ce K mg "MOST_SMALL" (.int 4)
 fv_mapped_still:F_ K mg "mapped_still"
section
variable {P:UG}{w:U5}{K:Ui}{mg:Str->Option Uk}{base:VB}{f:UL}{fd:U6}
abbrev xE:Xg:=top 6
theorem AH (m:dz w K mg) (e:FB K mg "is_whole" xE):bu P w K mg base 1 1 "is_whole" K01.pP:=
 qc K01.wV K01.wB 1 e (λnd _ cdv A outer s H E J T hr=>
 (aA (aN (vY (oN JY D4 m.int (aa 0) m.isinstance) (oK (K1 (oN GJ Cw m.bool (aa 0) m.isinstance)))))))
abbrev ve:Xg:=top 7
theorem y_ (m:dz w K mg) (e:FB K mg "tongue_of" ve):bu P w K mg base 1 1 "tongue_of" K23.jq:=
 qc K23.uO K23.uh 1 e (λnd _ cdv A outer s H E J T hr=>
 (av (tX (aa 0) (cQ (aX (aF 1 nd) (aX (aF 2 nd) (aX (aF 3 nd) cC)))))
 (aA (aN (aZ (ay (cV (ak (cX (i9 ["name","points"] [] (eS (aa 2)) (λ_ _ _ _ _ hc=>⟨(cQ (aX (aF 0 (cH rfl)) (aX (aF 1 (cH rfl)) cC))),bP,(aa 0)⟩))) au) m.tuple) (ay (cV (ak (cX (i9 ["name","pairs"] [] (eS (aa 3)) (λ_ _ _ _ _ hc=>⟨(cQ (aX (aF 0 (cH rfl)) (aX (aF 1 (cH rfl)) cC))),bP,(aa 0)⟩))) au) m.tuple) aJ)))))))
abbrev qG:Xg:=top 8
theorem vE (m:dz w K mg) (Ri:bu P w K mg base 1 1 "tongue_of" K23.jq) (e:FB K mg "need_tongue" qG):bu P w K mg base 2 2 "need_tongue" K23.jo:=
 qc K23.qo K23.pX 2 e (λnd _ cdv A outer s H E J T hr=>
 (aA (bF (lI hr.units (aT Ri hr (ak (aa 0) au)) (aT Ri hr (ak (aa 1) au))) (aA oJ) bx)))
abbrev lO:Xg:=top 11
theorem p7 (m:dz w K mg) (e:FB K mg "need_few_points" lO):bu P w K mg base 1 1 "need_few_points" K23.f6:=
 qc K23.lE K23.k_ 1 e (λnd _ cdv A outer s H E J T hr=>
 (aA (bI (c6 (aa 0)) (aF 1 nd) (aA (bF (rC De (kD λ_ _ _=>.bl _) (aG (aa 1) aq) (jf m.MOST_SMALL)) (aA oJ) bx)))))
abbrev sP:Xg:=top 12
theorem xX (m:dz w K mg) (Rn:bu P w K mg base 2 2 "need_tongue" K23.jo) (Q9:bu P w K mg base 1 1 "need_few_points" K23.f6) (e:FB K mg "need_small" sP):bu P w K mg base 3 2 "need_small" K23.dh:=
 qc K23.sF K23.rW 2 e (λnd _ cdv A outer s H E J T hr=>
 (av (fD (aT Rn hr (ak (aa 0) (ak (aa 1) au))))
 (aA (fD (aT Q9 hr (ak (aZ (ay (aa 0) (ay (aa 1) aJ))) au))))))
abbrev sO:Xg:=top 13
theorem xW (m:dz w K mg) (Rw:bu P w K mg base 1 1 "is_whole" K01.pP) (e:FB K mg "need_count" sO):bu P w K mg base 2 3 "need_count" K55.dg:=
 qc K55.sE K55.rV 3 e (λnd _ cdv A outer s H E J T hr=>
 (aA (bF (jd (qA (je (dW (aT Rw hr (ak (aa 0) au)))) (qA (rC IV (kD λ_ _ _=>.bl _) (aa 0) (aa 1)) (rD (rC De (kD λ_ _ _=>.bl _) (aa 0) (aa 2)))))) (aA oJ) bx)))
abbrev BV:Xg:=top 15
theorem Ed (m:dz w K mg) (e:FB K mg "rising" BV):bu P w K mg base 1 1 "rising" K23.c7:=
 qc K23.Bu K23.A1 1 e (λnd _ cdv A outer s H E J T hr=>
 (av (bF (Fg (aa 0) jg) (aA (aN (aZ aJ))) bx)
 (aA (aN (cV (ak (Fq hr.units (ak (aa 0) au) m.sorted m.set) au) m.tuple)))))
abbrev Jf:Xg:=top 16
theorem Jx (m:dz w K mg) (e:FB K mg "view" Jf):bu P w K mg base 1 3 "view" K23.yd:=
 qc K23.IK K23.Il 3 e (λnd _ cdv A outer s H E J T hr=>
 (av (tX (aa 0) (cQ (aX (aF 3 nd) (aX (aF 4 nd) (aX (aF 5 nd) cC)))))
 (av (aM 6 nd (cV (ak (cX (i9 ["name","points"] [1] (eS (aa 4)) (λ_ _ _ _ _ hc=>⟨(cQ (aX (aF 0 (cH rfl)) (aX (aF 1 (cH rfl)) cC))),bP,(lK hr.units (aa 2) (aa 1))⟩))) au) m.tuple))
 (av (aM 7 nd (cV (ak (cX (i9 ["name","pairs"] [1,2] (eS (aa 5)) (λ_ _ _ _ _ hc=>⟨(cQ (aX (aF 0 (cH rfl)) (aX (aF 1 (cH rfl)) cC))),bP,(lK hr.units (aZ (ay (aa 2) (ay (aa 3) aJ))) (aa 1))⟩))) au) m.tuple))
 (aA (aN (aZ (ay (lJ hr.units (aa 1) (aa 2)) (ay (aa 6) (ay (aa 7) aJ))))))))))
abbrev FO:Xg:=top 17
theorem Gi (m:dz w K mg) (R7:bu P w K mg base 1 3 "view" K23.yd) (e:FB K mg "views" FO):bu P w K mg base 2 1 "views" K23.pQ:=
 qc K23.EB K23.DP 1 e (λnd _ cdv A outer s H E J T hr=>
 (aA (aN (cX (PJ hr.units ["one","other"] [0] (gX (bA (ak (aG (aa 0) aq) au) m.range)) (λ_ _ _ _ _ hc=>⟨(aF 0 (cH rfl)),bP,(bA (ak (aG (aa 2) aq) au) m.range),(aF 1 (cH rfl)),bP,(aZ (ay (aa 0) (ay (aa 1) aJ))),(aT R7 hr (ak (aa 2) (ak (aa 0) (ak (aa 1) au))))⟩))))))
abbrev FE:Xg:=top 18
theorem Gh (m:dz w K mg) (e:FB K mg "agree" FE):bu P w K mg base 1 4 "agree" K23.fq:=
 qc K23.Ez K23.DO 4 e (λnd _ cdv A outer s H E J T hr=>
 (aA (aN (lJ hr.units (jQ hr.units (aa 0) (aZ (ay (aG (aa 2) aq) (ay (aG (aa 3) aq) aJ)))) (jQ hr.units (aa 1) (aZ (ay (aG (aa 2) aq) (ay (aG (aa 3) aq) aJ))))))))
abbrev qE:Xg:=top 19
theorem vD (m:dz w K mg) (Rk:bu P w K mg base 1 4 "agree" K23.fq) (e:FB K mg "goes_behind" qE):bu P w K mg base 2 4 "goes_behind" K23.jn:=
 qc K23.qm K23.pV 4 e (λnd _ cdv A outer s H E J T hr=>
 (av (bF (jd (rB (rE (aa 2)) (oH (KS hr.units (aa 3) (aG (aa 2) (BP aq)))))) (aA (aN eH)) bx)
 (av (bI (c6 (aa 2)) (aF 4 nd) (aA (bF (jd (qA (je (dW (aT Rk hr (ak (aa 0) (ak (aa 1) (ak (aa 3) (ak (aa 4) au))))))) (rD (je (dW (aT Rk hr (ak (aa 0) (ak (aa 1) (ak (aa 4) (ak (aa 3) au)))))))))) (aA (aN eH)) bx)))
 (aA (aN eH)))))
abbrev xH:Xg:=top 20
theorem AJ (m:dz w K mg) (QV:bu P w K mg base 3 2 "need_small" K23.dh) (QX:bu P w K mg base 2 3 "need_count" K55.dg) (RB:bu P w K mg base 2 1 "views" K23.pQ) (Rk:bu P w K mg base 1 4 "agree" K23.fq) (Rm:bu P w K mg base 2 4 "goes_behind" K23.jn) (e:FB K mg "pairings" xH):bu P w K mg base 4 3 "pairings" K23.lR:=
 qc K23.wW K23.wC 3 e (λnd _ cdv A outer s H E J T hr=>
 (av (fD (aT QV hr (ak (aa 0) (ak (aa 1) au))))
 (av (fD (aT QX hr (ak (aa 2) (ak aq (ak (jf m.MOST_SMALL) au)))))
 (av (aM 3 nd (aT RB hr (ak (aa 0) au)))
 (av (aM 4 nd (aT RB hr (ak (aa 1) au)))
 (av (aM 5 nd (cX (LX ["a","b"] [1,3,4] (gX (bA (ak (aG (aa 0) aq) au) m.range)) (λ_ _ _ _ _ hc=>⟨(aF 0 (cH rfl)),bP,(bA (ak (aG (aa 2) aq) au) m.range),(aF 1 (cH rfl)),(g9 (dW (aT Rk hr (ak (aa 3) (ak (aa 4) (ak (aZ (ay (aa 0) (ay (aa 1) aJ))) (ak (aZ (ay (aa 0) (ay (aa 1) aJ))) au))))))),(aZ (ay (aa 0) (ay (aa 1) aJ)))⟩))))
 (av (gY 5 (aM 6 nd (bU (ay (aZ aJ) aJ))))
 (av (aM 7 nd (bU (ay (aZ aJ) aJ)))
 (av (bI (bA (ak (aa 2) au) m.range) (aF 8 nd) (av (gY 5 (rG 6 nd (LX ["ahead","pair"] [5,3,4] (eS (aa 6)) (λ_ _ _ _ _ hc=>⟨(aF 0 (cH rfl)),bP,(c6 (aa 2)),(aF 1 (cH rfl)),(g9 (dW (aT Rm hr (ak (aa 3) (ak (aa 4) (ak (aa 0) (ak (aa 1) au))))))),(cI (aa 0) (aZ (ay (aa 1) aJ)))⟩))))
 (aA (sH 7 (aa 6)))))
 (aA (aN (aa 7))))))))))))
abbrev FD:Xg:=top 23
theorem Gg (m:dz w K mg) (Q7:bu P w K mg base 1 1 "rising" K23.c7) (e:FB K mg "added" FD):bu P w K mg base 2 2 "added" K33.t_:=
 qc K33.Ey K33.DN 2 e (λnd _ cdv A outer s H E J T hr=>
 (aA (aN (aT Q7 hr (ak (cI (aa 0) (aZ (ay (aa 1) aJ))) au)))))
abbrev mR:Xg:=top 30
theorem Ad:eZ ["choices","ahead","point","found"] ["choices","ahead"] (aV mR):=⟨rfl,rfl,rfl,by decide +kernel,rfl,by decide +kernel,by decide +kernel⟩
theorem pe (m:dz w K mg) (F:k7 K "map_behind" "map_behind" mR f fd) (hm:mg "map_behind"=some (.ref f)):∀fu:Nat,bu P w K mg base (0 + fu) 2 "map_behind" (K72.dc fu)
 | 0=>Be (ps:=["choices","ahead"]) F hm (λ_ _ _ _ _ _ us hl=>match us,hl with | [_,_],_=>rfl) (λ_=>rfl)
 | fu + 1=>
  have sc:=Ad;have hself:=pe m F hm fu
  vW (k:=0 + fu) (gB:=K72.sD (K72.dc fu)) F hm sc (λ_ _ _ _ _ _ us hl=>match us,hl with | [_,_],_=>rfl) (λcdv A outer s H E J T hr=>
 (av (bF (fS hr.units (e_ (ak (aa 1) au) m.len) (e_ (ak (aa 0) au) m.len)) (aA (aN (aa 1))) bx)
 (av (bI (c6 (aG (aa 0) (e_ (ak (aa 1) au) m.len))) (aF 2 sc.nd) (aA (bF (xj hr.units (aa 2) (aa 1)) (av (aM 3 sc.nd (aT hself hr (ak (aa 0) (ak (cI (aa 1) (aZ (ay (aa 2) aJ))) au)) (by omega)))
 (aA (bF (Fi (aa 3) jg) (aA (aN (aa 3))) bx))) bx)))
 (aA (aN jg))))) (λas r _ h=>h)
abbrev xD:Xg:=top 26
theorem AG (m:dz w K mg) (e:FB K mg "in_layer" xD):bu P w K mg base 1 3 "in_layer" K33.iZ:=
 qc K33.wU K33.pW 3 e (λnd _ cdv A outer s H E J T hr=>
 (aA (aN (vY (KZ hr.units (aa 1) (aa 0)) (oK (Nu (Fo (jQ hr.units (aa 0) (aa 1)) jg) (oK (Nt (jQ hr.units (aa 0) (aa 1)) (aa 2)))))))))
abbrev sN:Xg:=top 31
theorem xT (m:dz w K mg) (Q8:bu P w K mg base 1 3 "in_layer" K33.iZ) (e:FB K mg "choices_in" sN):bu P w K mg base 2 3 "choices_in" K72.gH:=
 qc K72.sC K72.rT 3 e (λnd _ cdv A outer s H E J T hr=>
 (aA (aN (cX (i9 ["row"] [1,2] (eS (aa 0)) (λ_ _ _ _ _ hc=>⟨(aF 0 (cH rfl)),bP,(cX (i9 ["b","pairing"] [1,2] (Ft (ak (aa 0) au) m.enumerate) (λ_ _ _ _ _ hc=>⟨(cQ (aX (aF 0 (cH rfl)) (aX (aF 1 (cH rfl)) cC))),(g9 (dW (aT Q8 hr (ak (aa 2) (ak (aa 1) (ak (aa 3) au)))))),(aa 0)⟩) (wL (qS hc rfl))))⟩))))))
abbrev pM:Xg:=top 32
theorem uy (m:dz w K mg) (Q2:bu P w K mg base 2 3 "choices_in" K72.gH) (Q3:bu P w K mg base 6 2 "map_behind" (K72.dc 6)) (e:FB K mg "mapped_still" pM):bu P w K mg base 7 2 "mapped_still" K72.eN:=
 qc K72.pB K72.o8 2 e (λnd _ cdv A outer s H E J T hr=>
 (aA (aN (Fp (aT Q3 hr (ak (aT Q2 hr (ak (aa 0) (ak (aa 1) (ak (jf m.MOST_DEPTH) au)))) (ak (aZ aJ) au))) jg))))
abbrev BU:Xg:=top 24
theorem Ec (m:dz w K mg) (Q5:bu P w K mg base 7 2 "mapped_still" K72.eN) (e:FB K mg "peeled" BU):bu P w K mg base 8 2 "peeled" K72.mV:=
 qc K72.Bt K72.mZ 2 e (λnd _ cdv A outer s H E J T hr=>
 (av (aM 2 nd (cX (LW hr.units ["pairing"] [] (oO (aa 0)) (λ_ _ _ _ _ hc=>⟨(aF 0 (cH rfl)),bP,(aa 0),jg⟩))))
 (av (aM 3 nd aq)
 (av (rG 4 nd (i9 ["pairing"] [1,0,2] (oO (aa 0)) (λ_ _ _ _ _ hc=>⟨(aF 0 (cH rfl)),(g9 (je (dW (zX 1 Q5 m.fv_mapped_still hr (ak (jQ hr.units (aa 2) (aa 0)) (ak (aa 3) au)) BO)))),(aa 0)⟩)))
 (av (Dj 400000 (rE (aa 4)) (av (gY 4 (bI (c6 (aa 4)) (aF 5 nd) (aA (Hr 2 hr.units (aa 3) (aa 5)))))
 (av (Fj 3 nd aq)
 (aA (rG 4 nd (i9 ["pairing"] [2,1,0] (oO (aa 0)) (λ_ _ _ _ _ hc=>⟨(aF 0 (cH rfl)),(g9 (jd (rB (Fg (jQ hr.units (aa 1) (aa 0)) jg) (oH (je (dW (zX 2 Q5 m.fv_mapped_still hr (ak (jQ hr.units (aa 3) (aa 0)) (ak (aa 1) au)) BO))))))),(aa 0)⟩)))))))
 (aA (aN (aa 2))))))))
abbrev nP:Xg:=top 25
theorem sZ (m:dz w K mg) (Rx:bu P w K mg base 4 3 "pairings" K23.lR) (e:FB K mg "pairings_with" nP):bu P w K mg base 5 3 "pairings_with" K33.ig:=
 qc K33.nv K33.mY 3 e (λnd _ cdv A outer s H E J T hr=>
 (aA (aN (cX (i9 ["pairing"] [2] (eS (aT Rx hr (ak (aa 0) (ak (aa 1) (ak (jf m.MOST_SMALL) au))))) (λ_ _ _ _ _ hc=>⟨(aF 0 (cH rfl)),(g9 (dW (vX (ak (cX (i9 ["pair"] [0] (eS (aa 1)) (λ_ _ _ _ _ hc=>⟨(aF 0 (cH rfl)),bP,(lK hr.units (aa 0) (aa 1))⟩) (wL (qS hc rfl)))) au) m.all))),(aa 0)⟩))))))
abbrev vc:Xg:=top 27
theorem y9 (m:dz w K mg) (Q8:bu P w K mg base 1 3 "in_layer" K33.iZ) (e:FB K mg "layers_of" vc):bu P w K mg base 2 2 "layers_of" K33.kC:=
 qc K33.uN K33.ug 2 e (λnd _ cdv A outer s H E J T hr=>
 (aA (aN (cX (i9 ["step"] [0] (gX (bA (ak (gZ (aa 1) aq) au) m.range)) (λ_ _ _ _ _ hc=>⟨(aF 0 (cH rfl)),bP,(cX (i9 ["pairing"] [1,0] (oO (aa 1)) (λ_ _ _ _ _ hc=>⟨(aF 0 (cH rfl)),(g9 (dW (aT Q8 hr (ak (aa 1) (ak (aa 0) (ak (aa 2) au)))))),(aa 0)⟩) (wL (qS hc rfl))))⟩))))))
abbrev Ah:Xg:=top 29
theorem Cz (m:dz w K mg) (RJ:bu P w K mg base 2 2 "added" K33.t_) (e:FB K mg "grid_of" Ah):bu P w K mg base 3 3 "grid_of" K72.jH:=
 qc K72.zA K72.yI 3 e (λnd _ cdv A outer s H E J T hr=>
 (av (bF (lI hr.units (aG (aa 0) aq) (aG (aa 1) aq)) (aA (aN (cX (i9 ["a"] [] (gX (bA (ak (aG (aa 0) aq) au) m.range)) (λ_ _ _ _ _ hc=>⟨(aF 0 (cH rfl)),bP,(bU aJ)⟩))))) bx)
 (aA (aN (cX (i9 ["a"] [1,2] (gX (bA (ak (aG (aa 0) aq) au) m.range)) (λ_ _ _ _ _ hc=>⟨(aF 0 (cH rfl)),bP,(cX (i9 ["b"] [2,0] (gX (bA (ak (aG (aa 1) aq) au) m.range)) (λ_ _ _ _ _ hc=>⟨(aF 0 (cH rfl)),bP,(aT RJ hr (ak (aa 1) (ak (aZ (ay (aa 2) (ay (aa 0) aJ))) au)))⟩) (wL (qS hc rfl))))⟩)))))))
abbrev mC:Xg:=top 33
theorem rL (m:dz w K mg) (Rh:bu P w K mg base 5 3 "pairings_with" K33.ig) (Rg:bu P w K mg base 3 3 "grid_of" K72.jH) (RG:bu P w K mg base 8 2 "peeled" K72.mV) (e:FB K mg "counted_depths" mC):bu P w K mg base 9 3 "counted_depths" K72.cR:=
 qc K72.l_ K72.lS 3 e (λnd _ cdv A outer s H E J T hr=>
 (av (rG 3 nd (LW hr.units ["pairing"] [0,1] (eS (aT Rh hr (ak (aa 0) (ak (aa 1) (ak (aa 2) au))))) (λ_ _ _ _ _ hc=>⟨(aF 0 (cH rfl)),bP,(aa 0),(aT Rg hr (ak (aa 1) (ak (aa 2) (ak (aa 0) au))))⟩)))
 (aA (aN (Ht RG m.fv_mapped_still hr (aa 3))))))
abbrev mD:Xg:=top 34
theorem rM (m:dz w K mg) (QV:bu P w K mg base 3 2 "need_small" K23.dh) (QX:bu P w K mg base 2 3 "need_count" K55.dg) (QU:bu P w K mg base 9 3 "counted_depths" K72.cR) (Rr:bu P w K mg base 2 2 "layers_of" K33.kC) (e:FB K mg "counted_layers" mD):bu P w K mg base 10 3 "counted_layers" K72.gO:=
 qc K72.mh K72.lU 3 e (λnd _ cdv A outer s H E J T hr=>
 (av (fD (aT QV hr (ak (aa 0) (ak (aa 1) au))))
 (av (fD (aT QX hr (ak (aa 2) (ak aq (ak (jf m.MOST_DEPTH) au)))))
 (aA (aN (aT Rr hr (ak (aT QU hr (ak (aa 0) (ak (aa 1) (ak (aZ aJ) au)))) (ak (aa 2) au))))))))
abbrev qD:Xg:=top 35
theorem vC (m:dz w K mg) (QV:bu P w K mg base 3 2 "need_small" K23.dh) (QX:bu P w K mg base 2 3 "need_count" K55.dg) (Q7:bu P w K mg base 1 1 "rising" K23.c7) (QU:bu P w K mg base 9 3 "counted_depths" K72.cR) (Rg:bu P w K mg base 3 3 "grid_of" K72.jH) (Q2:bu P w K mg base 2 3 "choices_in" K72.gH) (Q3:bu P w K mg base 6 2 "map_behind" (K72.dc 6)) (e:FB K mg "counted_map" qD):bu P w K mg base 10 4 "counted_map" K72.jm:=
 qc K72.ql K72.pU 4 e (λnd _ cdv A outer s H E J T hr=>
 (av (fD (aT QV hr (ak (aa 0) (ak (aa 1) au))))
 (av (fD (aT QX hr (ak (aa 2) (ak aq (ak (jf m.MOST_DEPTH) au)))))
 (av (aM 4 nd (aT Q7 hr (ak (aa 3) au)))
 (av (aM 5 nd (aT QU hr (ak (aa 0) (ak (aa 1) (ak (aa 4) au)))))
 (aA (aN (aT Q3 hr (ak (aT Q2 hr (ak (aT Rg hr (ak (aa 0) (ak (aa 1) (ak (aa 4) au)))) (ak (aa 5) (ak (rH (aa 2) aq) au)))) (ak (aZ aJ) au))))))))))
abbrev cW:Xg:=top 36
theorem tZ:eZ ["one","other","pairs","base"] ["one","other","pairs"] (aV cW):=⟨rfl,rfl,rfl,by decide +kernel,rfl,by decide +kernel,by decide +kernel⟩
theorem rO (m:dz w K mg) (QV:bu P w K mg base 3 2 "need_small" K23.dh) (Q7:bu P w K mg base 1 1 "rising" K23.c7) (QU:bu P w K mg base 9 3 "counted_depths" K72.cR) (F:nS K "counted_parted" "counted_parted" cW f fd):fM P w K mg base (we P w) 10 f fd ["one","other","pairs"] (Ak K 3 K76.cS):=
 have sc:=tZ
 JJ (k:=9) (gB:=K76.mj) F sc (λcdv A outer s H E J hr=>o9.h (
 (av (fD (aT QV hr (ak (aa 0) (ak (aa 1) au))))
 (av (aM 3 sc.nd (aT Q7 hr (ak (aa 2) au)))
 (aA (aN (KY hr.units (aT QU hr (ak (aa 0) (ak (aa 1) (ak (aa 3) au)))) (aa 3) aq))))))) (λ_ _ _=>rfl)
theorem rN (G:fM P w K mg base (we P w) 10 f fd ["one","other","pairs"] (Ak K 3 K76.cS)) (F:nS K "counted_parted" "counted_parted" cW f fd) (hm:mg "counted_parted"=some (.ref f)):F7 P w K mg base 10 3 "counted_parted" K76.cS:=⟨f,fd,["one","other","pairs"],G,hm,F.kp,F.bindsAll (λT kV doc pm an cdv ct us hl=>match us,hl with | [_,_,_],_=>⟨_,rfl,rfl⟩)⟩
theorem p6 (G:fM P w K mg base (we P w) 10 f fd ["one","other","pairs"] (Ak K 3 K76.cS)) (F:nS K "counted_parted" "counted_parted" cW f fd) (hm:mg "counted_parted"=some (.ref f)):Pj P w K mg base 10 2 "counted_parted" K76.cS:=⟨f,fd,["one","other","pairs"],G,hm,F.kp,F.bindsOne (λT kV doc pm an cdv ct us hl=>match us,hl with | [_,_],_=>⟨_,rfl,rfl⟩)⟩
abbrev pK:Xg:=top 38
theorem uv (m:dz w K mg) (e:FB K mg "_law_cell_at" pK):bu P w K mg base 1 2 "_law_cell_at" K72.gr:=
 qc K72.pq K72.oY 2 e (λnd _ cdv A outer s H E J T hr=>
 (av (bF (rC IV (kD λ_ _ _=>.bl _) (aa 1) (e_ (ak (aa 0) au) m.len)) (aA (aN (aG (aa 0) (aa 1)))) bx)
 (aA (aN aq))))
abbrev u7:Xg:=top 39
theorem yS (m:dz w K mg) (e:FB K mg "_law_more" u7):bu P w K mg base 1 2 "_law_more" K72.jl:=
 qc K72.uM K72.ue 2 e (λnd _ cdv A outer s H E J T hr=>
 (av (aM 2 nd (bU aJ))
 (av (aM 3 nd (KW (ak (jP (aa 0) aq) au) m.abs))
 (av (bF (fS hr.units (bV (aa 0) aq) aq) (av (bI (bA (ak (aa 1) au) m.range) (aF 4 nd) (av (dw 2 (bV (aa 3) (jh aq aq)))
 (aA (aM 3 nd (jP (aa 3) (jh aq aq))))))
 (aA (aN (aa 2)))) bx)
 (av (aM 3 nd (gZ (bV (aa 3) (jh aq aq)) aq))
 (av (bI (bA (ak (aa 1) au) m.range) (aF 4 nd) (av (aM 3 nd (bV (gZ (gZ (fZ (aa 3) aq) (jP (aa 3) (jh aq aq))) (fZ aq (aa 4))) (gZ (jh aq aq) aq)))
 (aA (dw 2 (jP (fZ (aa 3) (gZ (jP (aa 3) (jh aq aq)) aq)) (jh aq aq))))))
 (aA (aN (aa 2)))))))))
abbrev sJ:Xg:=top 40
theorem xQ (m:dz w K mg) (e:FB K mg "_law_freed" sJ):bu P w K mg base 1 2 "_law_freed" K72.iJ:=
 qc K72.sf K72.rQ 2 e (λnd _ cdv A outer s H E J T hr=>
 (av (bF (Nr hr.units (aa 0) (bU (ay fm (ay fm (ay fm (ay fm (ay fm (ay fm (ay fm (ay fm aJ)))))))))) (av (bF (rE (aa 1)) (aA (aN (cI fm (nK (aa 0) (h_ aq) g_)))) bx)
 (aA (aN (cI (aa 0) fm)))) bx)
 (aA (aN (aa 0)))))
abbrev sL:Xg:=top 41
theorem xR (m:dz w K mg) (Q_:bu P w K mg base 1 2 "_law_freed" K72.iJ) (e:FB K mg "_law_names" sL):bu P w K mg base 2 2 "_law_names" K72.gG:=
 qc K72.su K72.rR 2 e (λnd _ cdv A outer s H E J T hr=>
 (av (aM 2 nd fm)
 (av (aM 3 nd fm)
 (av (bI (bA (ak aq au) m.range) (aF 4 nd) (av (aM 3 nd (cI (aa 3) (aG (aa 2) (bV (aa 0) aq))))
 (aA (aM 0 nd (dX (aa 0) aq)))))
 (av (bF (fS hr.units (bV (aa 0) aq) aq) (aA (aN (uZ (ak (cX (i9 ["_law_k"] [3] (gX (bA (ak (aa 1) au) m.range)) (λ_ _ _ _ _ hc=>⟨(aF 0 (cH rfl)),bP,(aT Q_ hr (ak (nK (aa 1) g_ (h_ (cI aq (aa 0)))) (ak eH au)))⟩))) au) m.sorted))) bx)
 (av (aM 3 nd (nK (aa 3) g_ (h_ (cI aq (bV (dX (aa 0) aq) aq)))))
 (av (aM 5 nd (bV (dX (aa 0) aq) (e_ (ak (aa 3) au) m.len)))
 (av (aM 6 nd (bU aJ))
 (av (bI (bA (ak (aa 1) au) m.range) (aF 4 nd) (av (aM 7 nd (aG (aa 2) (bV (cI (Hw (aa 2) (aG (aa 3) (aa 5))) (fZ aq (aa 4))) aq)))
 (aA (dw 6 (aT Q_ hr (ak (cI (cI (nK (aa 3) g_ (h_ (aa 5))) (aa 7)) (nK (aa 3) (h_ (cI (aa 5) aq)) g_)) (ak eH au)))))))
 (aA (aN (uZ (ak (aa 6) au) m.sorted))))))))))))
abbrev sM:Xg:=top 42
theorem xS (m:dz w K mg) (e:FB K mg "_law_world" sM):bu P w K mg base 1 4 "_law_world" K72.d8:=
 qc K72.sA K72.rS 4 e (λnd _ cdv A outer s H E J T hr=>
 (av (aM 4 nd (bU aJ))
 (av (bI (c6 (aa 1)) (aF 5 nd) (av (aM 6 nd (bU aJ))
 (av (bI (bA (ak (aa 0) au) m.range) (aF 7 nd) (av (bF (fS hr.units (bV (aa 3) aq) aq) (aA (dw 6 (aa 7))) bx)
 (aA (aM 3 nd (dX (aa 3) aq)))))
 (aA (dw 4 (aZ (ay (aa 5) (ay (cV (ak (aa 6) au) m.tuple) aJ))))))))
 (av (aM 8 nd (bU aJ))
 (av (bI (c6 (aa 2)) (aF 5 nd) (av (aM 9 nd (bU aJ))
 (av (bI (bA (ak (aa 0) au) m.range) (aF 10 nd) (aA (bI (bA (ak (aa 0) au) m.range) (aF 11 nd) (av (bF (fS hr.units (bV (aa 3) aq) aq) (aA (dw 9 (aZ (ay (aa 10) (ay (aa 11) aJ))))) bx)
 (aA (aM 3 nd (dX (aa 3) aq)))))))
 (aA (dw 8 (aZ (ay (aa 5) (ay (cV (ak (aa 9) au) m.tuple) aJ))))))))
 (aA (aN (aZ (ay (aa 0) (ay (cV (ak (aa 4) au) m.tuple) (ay (cV (ak (aa 8) au) m.tuple) aJ)))))))))))
abbrev pL:Xg:=top 43
theorem uw (m:dz w K mg) (e:FB K mg "_law_flipped" pL):bu P w K mg base 1 2 "_law_flipped" K72.gu:=
 qc K72.pA K72.oZ 2 e (λnd _ cdv A outer s H E J T hr=>
 (av (aM 2 nd aq)
 (av (bI (bA (ak (aa 1) au) m.range) (aF 3 nd) (aA (aM 2 nd (fZ (aa 2) aq))))
 (av (bF (fS hr.units (bV (jP (aa 0) (aa 2)) aq) aq) (aA (aN (rH (aa 0) (aa 2)))) bx)
 (aA (aN (gZ (aa 0) (aa 2))))))))
abbrev qC:Xg:=top 44
theorem vB (m:dz w K mg) (e:FB K mg "_law_turned" qC):bu P w K mg base 1 2 "_law_turned" K72.fc:=
 qc K72.qh ["_law_world_here","_law_number","_law_left","_law_order_here","_law_k","_law_marks","_law_name","_law_points","_law_arrows","_law_pairs"] 2 e (λnd _ cdv A outer s H E J T hr=>
 (av (aM 2 nd (Dk (ak (aG (aa 0) aq) au) m.range m.list))
 (av (aM 3 nd (bU aJ))
 (av (bI (bA (ak (aG (aa 0) aq) au) m.range) (aF 4 nd) (av (AM 3 2 (bV (aa 1) (e_ (ak (aa 2) au) m.len)))
 (aA (aM 1 nd (dX (aa 1) aq)))))
 (av (aM 5 nd (bU aJ))
 (av (bI (c6 (aG (aa 0) aq)) (cQ (aX (aF 6 nd) (aX (aF 7 nd) cC))) (aA (dw 5 (aZ (ay (aa 6) (ay (cV (ak (xm hr.units (ak (cX (i9 ["_law_point"] [3] (eS (aa 7)) (λ_ _ _ _ _ hc=>⟨(aF 0 (cH rfl)),bP,(aG (aa 1) (aa 0))⟩))) au) m.sorted) au) m.tuple) aJ))))))
 (av (aM 8 nd (bU aJ))
 (av (bI (c6 (aG (aa 0) aq)) (cQ (aX (aF 6 nd) (aX (aF 9 nd) cC))) (aA (dw 8 (aZ (ay (aa 6) (ay (cV (ak (xm hr.units (ak (cX (i9 ["_law_a","_law_b"] [3] (eS (aa 9)) (λ_ _ _ _ _ hc=>⟨(cQ (aX (aF 0 (cH rfl)) (aX (aF 1 (cH rfl)) cC))),bP,(aZ (ay (aG (aa 2) (aa 0)) (ay (aG (aa 2) (aa 1)) aJ)))⟩))) au) m.sorted) au) m.tuple) aJ))))))
 (aA (aN (aZ (ay (aG (aa 0) aq) (ay (cV (ak (aa 5) au) m.tuple) (ay (cV (ak (aa 8) au) m.tuple) aJ))))))))))))))
abbrev xC:Xg:=top 45
theorem AF (m:dz w K mg) (Rq:bu P w K mg base 1 2 "_law_more" K72.jl) (Ra:bu P w K mg base 2 2 "_law_names" K72.gG) (QZ:bu P w K mg base 1 4 "_law_world" K72.d8) (Q6:bu P w K mg base 1 2 "_law_turned" K72.fc) (Rj:bu P w K mg base 1 2 "_law_flipped" K72.gu) (e:FB K mg "_law_two" xC):bu P w K mg base 3 2 "_law_two" K72.jX:=
 qc K72.wR K72.wA 2 e (λnd _ cdv A outer s H E J T hr=>
 (av (aM 2 nd (aT Rq hr (ak (aa 0) (ak aq au))))
 (av (aM 3 nd (BQ (aT Ra hr (ak (aG (aa 2) aq) (ak aq au))) g_ (h_ (aG (bU (ay aq (ay aq (ay aq (ay aq (ay aq (ay aq aJ))))))) (bV (aG (aa 2) aq) aq)))))
 (av (aM 4 nd (BQ (aT Ra hr (ak (aG (bU (ay (aG (aa 2) aq) (ay (aG (aa 2) aq) aJ))) (dX (bV (dX (aG (aa 2) aq) aq) aq) aq)) (ak aq au))) g_ (h_ (aG (bU (ay aq (ay aq (ay aq (ay aq (ay aq (ay aq aJ))))))) (bV (dX (aG (aa 2) aq) aq) aq)))))
 (av (aM 5 nd (aG (aa 1) (bV (dX (aG (aa 2) aq) aq) (e_ (ak (aa 1) au) m.len))))
 (av (aM 6 nd (aG (bU (ay aq (ay (rH (jh aq aq) aq) (ay (aG (aa 2) aq) (ay (aG (aa 2) aq) (ay (aG (aa 2) aq) (ay (aG (aa 2) aq) aJ))))))) (bV (dX (aG (aa 2) aq) aq) aq)))
 (av (gY 4 (gY 3 (aM 7 nd (aT QZ hr (ak (aa 5) (ak (aa 3) (ak (aa 4) (ak (aa 6) au))))))))
 (av (aM 8 nd (bV (aG (aa 2) aq) aq))
 (av (bF (fS hr.units (aa 8) aq) (aA (aN (aZ (ay (aa 7) (ay (aT Q6 hr (ak (aa 7) (ak (aG (aa 2) aq) au))) aJ))))) bx)
 (av (bF (fS hr.units (aa 8) aq) (av (aM 9 nd (K0 (ak aq (ak (gZ (fZ (aa 5) (e_ (ak (aa 3) au) m.len)) (fZ (fZ (aa 5) (aa 5)) (e_ (ak (aa 4) au) m.len))) au)) m.max))
 (av (aM 10 nd (aT QZ hr (ak (aa 5) (ak (aa 3) (ak (aa 4) (ak (aT Rj hr (ak (aa 6) (ak (bV (dX (aG (aa 2) aq) aq) (aa 9)) au))) au))))))
 (aA (aN (aZ (ay (aa 7) (ay (aT Q6 hr (ak (aa 10) (ak (aG (aa 2) aq) au))) aJ))))))) bx)
 (av (aM 5 nd (aG (aa 1) (bV (aG (aa 2) aq) (e_ (ak (aa 1) au) m.len))))
 (av (bF (fS hr.units (aa 8) aq) (aA (aN (aZ (ay (aa 7) (ay (aT QZ hr (ak (aa 5) (ak (aa 3) (ak (aa 4) (ak (aa 6) au))))) aJ))))) bx)
 (aA (aN (aZ (ay (aa 7) (ay (aT QZ hr (ak (aa 5) (ak (aa 3) (ak (aa 4) (ak (aG (aa 2) aq) au))))) aJ)))))))))))))))))
abbrev Aa:Xg:=top 46
theorem Cy (m:dz w K mg) (e:FB K mg "_law_at" Aa):bu P w K mg base 1 3 "_law_at" K72.k6:=
 qc K72.zy K72.yG 3 e (λnd _ cdv A outer s H E J T hr=>
 (av (bI (c6 (aa 0)) (cQ (aX (aF 3 nd) (aX (aF 4 nd) cC))) (aA (bF (fS hr.units (aa 3) (aa 1)) (aA (aN (lK hr.units (aa 2) (aa 4)))) bx)))
 (aA (aN eH))))
abbrev xB:Xg:=top 47
theorem AE (m:dz w K mg) (Ro:bu P w K mg base 1 3 "_law_at" K72.k6) (e:FB K mg "_law_fit" xB):bu P w K mg base 2 3 "_law_fit" K72.dJ:=
 qc K72.wQ K72.wm 3 e (λnd _ cdv A outer s H E J T hr=>
 (av (bI (c6 (aa 2)) (cQ (aX (aF 3 nd) (aX (aF 4 nd) cC))) (av (bI (c6 (aG (aa 0) aq)) (cQ (aX (aF 5 nd) (aX (aF 6 nd) cC))) (aA (bF (lI hr.units (lK hr.units (aa 3) (aa 6)) (aT Ro hr (ak (aG (aa 1) aq) (ak (aa 5) (ak (aa 4) au))))) (aA (aN eH)) bx)))
 (aA (bI (c6 (aa 2)) (cQ (aX (aF 7 nd) (aX (aF 8 nd) cC))) (av (bF (lI hr.units (lJ hr.units (aa 3) (aa 7)) (lJ hr.units (aa 4) (aa 8))) (aA (aN eH)) bx)
 (aA (bI (c6 (aG (aa 0) aq)) (cQ (aX (aF 5 nd) (aX (aF 9 nd) cC))) (aA (bF (lI hr.units (lK hr.units (aZ (ay (aa 3) (ay (aa 7) aJ))) (aa 9)) (aT Ro hr (ak (aG (aa 1) aq) (ak (aa 5) (ak (aZ (ay (aa 4) (ay (aa 8) aJ))) au))))) (aA (aN eH)) bx)))))))))
 (aA (aN eH))))
abbrev nO:Xg:=top 48
theorem sY (m:dz w K mg) (QY:bu P w K mg base 2 3 "_law_fit" K72.dJ) (e:FB K mg "_law_pairings" nO):bu P w K mg base 3 3 "_law_pairings" K72.ie:=
 qc K72.nu K72.mW 3 e (λnd _ cdv A outer s H E J T hr=>
 (av (aM 3 nd (bU (ay (aZ aJ) aJ)))
 (av (gY 6 (aM 4 nd (bU (ay (aZ aJ) aJ))))
 (av (bI (bA (ak (aa 2) au) m.range) (aF 5 nd) (av (aM 6 nd (bU aJ))
 (av (gY 4 (bI (c6 (aa 4)) (aF 7 nd) (aA (bI (bA (ak (aG (aa 0) aq) au) m.range) (aF 8 nd) (aA (bI (bA (ak (aG (aa 1) aq) au) m.range) (aF 9 nd) (aA (bF (jd (rB (jd (qA (fS hr.units (aa 7) (aZ aJ)) (rD (KU hr.units (aG (aa 7) (BP aq)) (aZ (ay (aa 8) (ay (aa 9) aJ))))))) (oH (dW (aT QY hr (ak (aa 0) (ak (aa 1) (ak (cI (aa 7) (aZ (ay (aZ (ay (aa 8) (ay (aa 9) aJ))) aJ))) au)))))))) (aA (dw 6 (cI (aa 7) (aZ (ay (aZ (ay (aa 8) (ay (aa 9) aJ))) aJ))))) bx))))))))
 (av (gY 6 (aM 4 nd (aa 6)))
 (aA (sH 3 (aa 6)))))))
 (aA (aN (aa 3)))))))
abbrev mQ:Xg:=top 49
theorem Ac:eZ ["_law_one","_law_other","_law_pairs","_law_order_here","_law_k","_law_place","_law_more_here"] ["_law_one","_law_other","_law_pairs","_law_order_here"] (aV mQ):=⟨rfl,rfl,rfl,by decide +kernel,rfl,by decide +kernel,by decide +kernel⟩
theorem o_ (m:dz w K mg) (QY:bu P w K mg base 2 3 "_law_fit" K72.dJ) (F:k7 K "_law_order" "_law_order" mQ f fd) (hm:mg "_law_order"=some (.ref f)):∀fu:Nat,bu P w K mg base (2 + fu) 4 "_law_order" (K76.d7 fu)
 | 0=>Be (ps:=["_law_one","_law_other","_law_pairs","_law_order_here"]) F hm (λ_ _ _ _ _ _ us hl=>match us,hl with | [_,_,_,_],_=>rfl) (λ_=>rfl)
 | fu + 1=>
  have sc:=Ac;have hself:=o_ m QY F hm fu
  vW (k:=2 + fu) (gB:=K76.sy (K76.d7 fu)) F hm sc (λ_ _ _ _ _ _ us hl=>match us,hl with | [_,_,_,_],_=>rfl) (λcdv A outer s H E J T hr=>
 (av (aM 4 sc.nd (e_ (ak (aa 3) au) m.len))
 (av (bF (fS hr.units (aa 4) (aG (aa 0) aq)) (aA (aN eH)) bx)
 (av (bI (bA (ak (aG (aa 1) aq) au) m.range) (aF 5 sc.nd) (av (aM 6 sc.nd (cV (ak (Hv (aa 3) (bU (ay (aa 5) aJ))) au) m.tuple))
 (aA (bF (jd (rB (xj hr.units (aa 5) (aa 3)) (oH (dW (aT QY hr (ak (aa 0) (ak (aa 1) (ak (cI (aa 2) (Nv (ak (cI (aa 4) aq) au) (aa 6) m.range m.zip m.tuple)) au))) (by omega)))))) (aA (bF (dW (aT hself hr (ak (aa 0) (ak (aa 1) (ak (aa 2) (ak (Hx (ak (aa 6) au) m.list) au)))) (by omega))) (aA (aN eH)) bx)) bx))))
 (aA (aN eH)))))) (λas r _ h=>h)
abbrev oS:Xg:=top 50
theorem OL:eZ ["_law_script","_law_cell","_law_one","_law_other","_law_some","_law_pairs","_law_turned_here","_law_depth","_law_found"] ["_law_script"] (aV oS):=⟨rfl,rfl,rfl,by decide +kernel,rfl,by decide +kernel,by decide +kernel⟩
theorem Ot (m:dz w K mg) (Q4:bu P w K mg base 1 2 "_law_cell_at" K72.gr) (Rv:bu P w K mg base 3 2 "_law_two" K72.jX) (Rf:bu P w K mg base 3 3 "_law_pairings" K72.ie) (Rp:bu P w K mg base 8 4 "_law_order" (K76.d7 6)) (Rc:F7 P w K mg base 10 3 "counted_parted" K76.cS) (Rb:bu P w K mg base 10 3 "counted_layers" K72.gO) (Rl:bu P w K mg base 10 4 "counted_map" K72.jm) (QY:bu P w K mg base 2 3 "_law_fit" K72.dJ) (F:k7 K "law" "law" oS f fd):fM P w K mg base oX 11 f fd ["_law_script"] (qI K 1 K76.vn):=
 have sc:=OL
 KR (k:=10) (gB:=K76.Mf) F sc (λcdv A outer s H E J T hr=>
 (av (aM 1 sc.nd (aT Q4 hr (ak (aa 0) (ak aq au))))
 (av (tX (aT Rv hr (ak (aT Q4 hr (ak (aa 0) (ak aq au))) (ak (aG (bU (ay (bU (ay aq (ay aq (ay aq (ay aq (ay aq aJ)))))) (ay (bU (ay aq (ay aq (ay aq (ay aq (ay aq aJ)))))) aJ))) (xo (ak (lJ hr.units (bV (aa 1) aq) aq) au) m.int)) au))) (cQ (aX (aF 2 sc.nd) (aX (aF 3 sc.nd) cC))))
 (av (aM 4 sc.nd (aT Rf hr (ak (aa 2) (ak (aa 3) (ak aq au)))))
 (av (aM 5 sc.nd (aG (aa 4) (bV (dX (aa 1) aq) (e_ (ak (aa 4) au) m.len))))
 (av (bF (fS hr.units (bV (dX (aa 1) aq) aq) aq) (aA (aM 5 sc.nd (aZ aJ))) bx)
 (av (aM 6 sc.nd (vY (lJ hr.units (aG (aa 2) aq) (aG (aa 3) aq)) (oK (aT Rp hr (ak (aa 2) (ak (aa 3) (ak (aa 5) (ak (bU aJ) au))))))))
 (av (bF (lI hr.units (Fo (Hu Rc hr (ak (aa 2) (ak (aa 3) (ak (aa 5) au)))) jg) (aa 6)) (aA (aN eH)) bx)
 (av (bF (je (rE (aa 6))) (aA (aN eH)) bx)
 (av (aM 7 sc.nd (cI aq (bV (dX (aa 1) aq) (rH aq (xo (ak (lJ hr.units (aG (aa 2) aq) aq) au) m.int)))))
 (av (bF (je (dW (vX (ak (cX (i9 ["_law_layer"] [5] (eS (aT Rb hr (ak (aa 2) (ak (aa 3) (ak (aa 7) au))))) (λ_ _ _ _ _ hc=>⟨(aF 0 (cH rfl)),bP,(lK hr.units (aa 1) (aa 0))⟩))) au) m.all))) (aA (aN eH)) bx)
 (av (aM 8 sc.nd (aT Rl hr (ak (aa 2) (ak (aa 3) (ak (aa 7) (ak (aa 5) au))))))
 (av (bF (jd (qA (je (dW (oN kit_tuple r_ m.tuple (aa 8) m.isinstance))) (rD (lI hr.units (e_ (ak (aa 8) au) m.len) (aG (aa 2) aq))))) (aA (aN eH)) bx)
 (aA (aN (vX (ak (cX (i9 ["_law_a"] [2,3,8] (gX (bA (ak (aG (aa 2) aq) au) m.range)) (λ_ _ _ _ _ hc=>⟨(aF 0 (cH rfl)),bP,(aT QY hr (ak (aa 1) (ak (aa 2) (ak (aZ (ay (aZ (ay (aa 0) (ay (aG (aa 3) (aa 0)) aJ))) aJ)) au))))⟩))) au) m.all)))))))))))))))) (λas r _ h=>h)
end
end K76
namespace K73
open PySem DL
end K73
namespace K73
open PySem DL K01 WP K51 K52 K55 K22 K33 K72
open K23 (Pr aS Good iI fW bH ic iy c7 jY pO)
def uY (v w:Wd) (L:Nat->Ps->Bool) (n:Nat) (B:Ps):Option Nat:=(Ur (n + 1)).find? λj=>!(decide (B∈T4 v w) && L j B)
section
variable {v w:Wd}{B C:Ps}{n j:Nat}{L:Nat->Ps->Bool}
theorem Me (f:Ps->Option Nat) (h2:∀j,∀k∈kn v w B,mq (f k) j=L j k) (hst:B∈T4 v w->L n B=true->∀j,L j B=true):
  (if dQ (aS B)=true then M.ok (R.d ((gz ((kn v w B).map aS) ((kn v w B).map λk=>dV (f k)) (aS B)).getD (.int 0))) else .bad)=.ok (.d (dV (uY v w L n B))):=by
 rw [if_pos (j4 B),nD kG];have hk:B∈kn v w B↔B∈T4 v w:=by rw [lG];exact ⟨λh=>h.1,λh=>⟨h,λ_ h=>h⟩⟩
 congr 3;by_cases hB:B∈T4 v w
 ·rw [if_pos (hk.mpr hB)];have h3:=λj=>h2 j B (hk.mpr hB);show dV (f B)=_;congr 1;unfold uY;cases q:f B with
  | none=>
   refine (YR.mpr λj _=>?_).symm;rw [decide_eq_true hB,<-h3 j,q];show ¬(!(true && true))=true;decide
  | some e=>
   rw [q] at h3;have he:e<=n:=acP λc=>by have:=hst hB ((h3 n).symm.trans (decide_eq_true c)) e;rw [<-h3 e] at this;exact absurd (of_decide_eq_true this) (Wa _)
   refine (YD.mpr ⟨?_,UP.mpr (by omega),λj hj=>?_⟩).symm
   ·rw [<-h3 e,decide_eq_true hB];show (!(true && decide (e < e)))=true;simp
   ·rw [<-h3 j,decide_eq_true hB];show (!(!(true && decide (j < e))))=true;rw [decide_eq_true hj];rfl
 ·rw [if_neg λz=>hB (hk.mp z)];unfold uY;rw [decide_eq_false hB];have:(Ur (n + 1)).find? (λj=>!(false && L j B))=some 0:=YD.mpr ⟨rfl,UP.mpr (by omega),λj hj=>absurd hj (VI _)⟩;rw [this];rfl
end
end K73
namespace K76
open PySem DL K01 WP K51 K52 K55 K22 K33 K72
open K23 (Pr bO dH aS iV iW Good iI fW bH gS fj ic iy c7)
noncomputable def ord (v w:Wd) (B:Ps):Nat->List Nat->Bool
 | 0,_=>true
 | r + 1,ah=>(Ur w.m).any λp=>!decide (p∈ah) && (jv v w (B++bO (ah++[p])) && ord v w B r (ah++[p]))
section
variable {v w:Wd}{B:Ps}
theorem zU:∀{r:Nat}{ah:List Nat},ah.Nodup->(∀y∈ah,y < w.m)->(0 < ah.length->jv v w (B++bO ah)=true)->0 < ah.length + r->ord v w B r ah=true->∃σ,σ.Nodup/\σ.length=ah.length + r/\(∀y∈σ,y < w.m)/\jv v w (B++bO σ)=true
 | 0,ah,nd,hr,hf,h0,_=>⟨ah,nd,rfl,hr,hf h0⟩
 | r + 1,ah,nd,hr,hf,h0,h=>by
  obtain ⟨p,hp,h⟩:=Wr.mp h;simp only [Uq,Bool.not_eq_true',decide_eq_false_iff_not] at h;have nd':(ah++[p]).Nodup:=Wx.mpr ⟨nd,VZ _ _,λx hx y hy e=>h.1 (by rw [Uz.mp hy] at e;exact e▸hx)⟩;obtain ⟨σ,a,b,c,d⟩:=zU nd' (λy hy=>by
   rcases US.mp hy with h | h
   ·exact hr y h
   ·rw [Uz.mp h];exact UP.mp hp) (λ_=>h.2.1) (by simp;omega) h.2.2
  exact ⟨σ,a,by rw [b];simp;omega,c,d⟩
theorem E6 {σ:List Nat}(nd:σ.Nodup) (hr:∀y∈σ,y < w.m) (hf:∀k,k<=σ.length->jv v w (B++bO (σ.take k))=true):∀{r k:Nat},k + r=σ.length->ord v w B r (σ.take k)=true
 | 0,_,_=>rfl
 | r + 1,k,h=>by
  have hk:k < σ.length:=by omega
  have e:σ.take k++[σ[k]]=σ.take (k + 1):=(by rw [List.take_add_one];simp [hk]);refine Wr.mpr ⟨σ[k],UP.mpr (hr _ (U9 hk)),?_⟩;rw [e,hf (k + 1) (by omega),E6 nd hr hf (r:=r) (k:=k + 1) (by omega)];have:σ[k]∉σ.take k:=λz=>by obtain ⟨i,hi,e⟩:=VM.mp z;rw [Vy] at hi;rw [aaf] at e;have:=(Zn nd).mp e;omega
  rw [decide_eq_false this];rfl
theorem H_ (σ:List Nat) (k:Nat):∀p∈bO (σ.take k),p∈bO σ:=λp hp=>by obtain ⟨h1,h2⟩:=dH.mp hp;rw [Vy] at h1;rw [aaf] at h2;exact dH.mpr ⟨by omega,h2⟩
theorem Ko (t:Pr v w) (hm:w.m=v.m) (hR:∀p∈B,K23.jY v w p):ord v w B v.m []=true↔∃σ,K23.yC v w σ/\∀p∈B,p∈bO σ:=by
 constructor
 ·intro h;obtain ⟨σ,nd,hl,hr,hf⟩:=zU WU (λ_ h=>nomatch h) (λh=>absurd h (by simp)) (by have:=t.vo.lo;simp;omega) h;rw [YW,Z3] at hl;have ag:=(ni t _).mp hf;have zin:∀p∈bO σ,p∈B++bO σ:=λp hp=>US.mpr (.inr hp);have up:(bO σ).Pairwise λp q=>p.1 < q.1:=by
   have h:((bO σ).map Ve).Pairwise (· < ·):=by unfold bO;rw [aaG (by simp)];exact Y4
   exact Vu.mp h
  have zl:(bO σ).length=v.m:=by unfold bO;simp [hl]
  have g:Good v w (bO σ):=⟨up,λp hp q hq=>ag p (zin p hp) q (zin q hq),λp hp=>by
   obtain ⟨h1,h2⟩:=dH.mp hp;exact ⟨by omega,h2▸hr _ (U9 h1)⟩⟩
  obtain ⟨e,i⟩:=iV hm g zl;have e2:(bO σ).map abg=σ:=by unfold bO;rw [List.map_snd_zip (by simp)]
  rw [e2] at i;refine ⟨σ,i,λp hp=>?_⟩;have lt:p.1 < σ.length:=by rw [hl];exact (hR p hp).1
  have hz:(p.1,σ[p.1])∈bO σ:=dH.mpr ⟨lt,rfl⟩;exact dH.mpr ⟨lt,((ag p (US.mpr (.inl hp)) _ (zin _ hz)).eq.mp rfl).symm⟩
 ·rintro ⟨σ,i,hs⟩;have g:=iW hm i;have:=E6 (v:=v) (w:=w) (B:=B) i.nd (λy hy=>by rw [hm];exact i.rg y hy) (λk _=>(ni t _).mpr λp hp q hq=>by
   have key:∀p∈B++bO (σ.take k),p∈bO σ:=λp hp=>(US.mp hp).elim (hs p) (H_ σ k p);exact g.ag p (key p hp) q (key q hq)) (r:=v.m) (k:=0) (by rw [i.len];omega)
  exact this
theorem F6:∀(σ:List Nat) (k n:Nat),σ.length<=n->F5 k n (σ.map dN)=((aeX k σ.length).zip σ).map dP
 | [],k,n,h=>by cases n <;> rfl
 | x::σ,k,0,h=>absurd h (by simp)
 | x::σ,k,n + 1,h=>by rw [VG,acS,XY,UH,UH,<-F6 σ (k + 1) n (by simpa using h)];rfl
theorem DF (t:Pr v w) (d:D) (hr:c7 [.d d]=.ok (.d (aS B))) (hB:B.length<=100):K76.cS [.d v.d,.d w.d,.d d]=.ok (.d (dV (K73.uY v w (Lc v w) 4 B))):=by obtain ⟨f,h1,h2⟩:=K72.F8 (B:=B) t hB;refine cg (i_ (c2 rfl rfl (ic t)) (bC (c1 rfl hr) rfl (bE (r:=.d (dV (K73.uY v w (Lc v w) 4 B))) ?_ rfl rfl)));unfold Gw;rw [c3 rfl rfl rfl h1,aQ];exact K73.Me f h2 λhT h j=>DM t ((jA t).mp hT) t.v4 h j
theorem KP (t:Pr v w) (g:Good v w B):K73.uY v w (Lc v w) 4 B=none↔w.m=v.m/\∃σ,K23.yC v w σ/\∀p∈B,p∈bO σ:=by
 have hT:B∈T4 v w:=(jA t).mpr g;unfold K73.uY;rw [YR];constructor
 ·intro h;have:=h 4 (UP.mpr (by decide));rw [decide_eq_true hT] at this;exact AZ t g t.v4 (by simpa using this)
 ·rintro ⟨hm,σ,i,hs⟩ j _;rw [decide_eq_true hT,pS t hm i j B hs];decide
abbrev eO (v w:Wd) (B:Ps) (ah:List Nat) (z y:Option S):Ev:=[some (.d v.d),some (.d w.d),some (.d (aS B)),some (.bor (ah.map dN)),some (.d (.int (ah.length:Nat))),z,y]
theorem AW (t:Pn v w) (hB:B.length<=10):∀(f r:Nat) (ah:List Nat),ah.length + r=v.m->r < f->K76.d7 f [.d v.d,.d w.d,.d (aS B),.bor (ah.map dN)]=.ok (.d (.bl (ord v w B r ah)))
 | 0,_,_,_,h=>absurd h (by omega)
 | f + 1,r,ah,hl,h=>by
  have v4:=t.t.v4;have w4:=t.t.w4;have eqi:∀a b:Nat,bX false (.d (.int (a:Int))) (.d (.int (b:Int)))=.ok (.d (.bl (decide (a=b)))):=λa b=>by rw [K01.eq_int];congr 3;show ((a:Int) == (b:Int))=_;rw [Vk,beq_iff_eq,decide_eq_true_eq];omega
  refine cg (bC (r:=.d (.int (ah.length:Nat))) (n1 rfl (by show M.ok (R.d (.int ((ah.map dN).length:Nat)))=_;rw [Uo])) rfl ?_);have ht:bw (g2 (bX false) (af 4) (g2 aY (af 0) (gC (.int 0)))) (eO v w B ah none none)=.ok (decide (ah.length=v.m)):=bH rfl (two rfl rfl (fP _ _)) (eqi _ _);cases r with
  | zero=>
   rw [decide_eq_true (by omega)] at ht;exact b_ (ow ht (bE rfl rfl rfl))
  | succ r=>
   rw [decide_eq_false (by omega)] at ht;refine gA ht (eX (mP (n:=w.m) (cT (two rfl rfl (fP _ _))) (by omega)) ?_);have key:∀(xs:List Nat) (z y:Option S),Wp (ff (aD 5) (aH (bf 6 (gN dF (ao (g2 qU (af 3) (c5 (az (af 5) aP))) aC)))
 (bJ (iU (bw (g2 (fH true) (af 5) (af 3))) (bw (gN (aO 3 K72.dJ) (ao (af 0) (ao (af 1) (ao (g2 bY (af 2) (Ex (ao (g2 bY (af 4) (gC (.int 1))) aC) (af 6))) aC)))))) (bJ (bw (gN (aO 4 (K76.d7 f)) (ao (af 0) (ao (af 1) (ao (af 2) (ao (gN qW (ao (af 6) aC)) aC)))))) (br (gC (.bl true))) cK) cK)) (xs.map dN) (eO v w B ah z y))
     λo=>if xs.any (λp=>!decide (p∈ah) && (jv v w (B++bO (ah++[p])) && ord v w B r (ah++[p])))=true then o=.rt (.d (.bl true)) else ∃e,o=.nx e:=by
    intro xs
    induction xs with
    | nil=>exact λz y=>⟨_,rfl,_,rfl⟩
    | cons p xs ih=>
     intro z y;rw [UH,aas];show Wp (aD 5 (dN p) _ >>= _) _;rw [show aD 5 (dN p) (eO v w B ah z y)=.ok (eO v w B ah (some (.d (dN p))) y) from rfl,aQ];have RM:qU (.l .bor (ah.map dN)) (.l .fresh [dN p])=.ok (.l .fresh ((ah++[p]).map dN)):=by show (if (ah.map dN).length + [dN p].length<=sizeLine then M.ok (R.l .fresh (ah.map dN++[dN p])) else .bad)=_;rw [if_pos (fG (by simp;omega)),UN];rfl
     have hs:bf 6 (gN dF (ao (g2 qU (af 3) (c5 (az (af 5) aP))) aC)) (eO v w B ah (some (.d (dN p))) y)=.ok (.nx (eO v w B ah (some (.d (dN p))) (some (.d (.tup ((ah++[p]).map dN)))))):=by show (gN _ _ _ >>= _)=_;rw [n1 (two rfl (fR (aL rfl rfl bg) (by show 1<=1000;decide)) RM) (show dF [.l .fresh ((ah++[p]).map dN)]=.ok (.d (.tup ((ah++[p]).map dN))) from rfl)];rfl
     have hin:bw (g2 (fH true) (af 5) (af 3)) (eO v w B ah (some (.d (dN p))) (some (.d (.tup ((ah++[p]).map dN)))))=.ok (!decide (p∈ah)):=by refine bH rfl rfl ?_;show (if deps (ah.map dN)<=60/\dep (dN p)<=60 then M.ok (R.d (.bl (!inD (dN p) (ah.map dN)))) else .bad)=_;rw [if_pos ⟨uB ah,by show (0:Nat)<=60;decide⟩,K55.inN]
     have hz:Ex (ao (g2 bY (af 4) (gC (.int 1))) aC) (af 6) (eO v w B ah (some (.d (dN p))) (some (.d (.tup ((ah++[p]).map dN)))))=.ok (.d (aS (bO (ah++[p])))):=by show (ao _ _ _ >>= _)=_;rw [cT (two rfl rfl (kX (ah.length:Nat) 1)),aQ];show (if below 16777216 ((ah.length:Int) + 1)=true then M.ok (R.d (.tup (F5 0 ((ah.length:Int) + 1).toNat ((ah++[p]).map dN)))) else .bad)=_;rw [if_pos (cG.mpr (by omega)),F6 _ 0 _ (by simp),<-abm];rfl
     have hc2:bY (.d (aS B)) (.d (aS (bO (ah++[p]))))=.ok (.d (aS (B++bO (ah++[p])))):=by rw [show aS B=.tup (B.map dP) from rfl,show aS (bO (ah++[p]))=.tup ((bO (ah++[p])).map dP) from rfl,yq _ _ (by simp [bO];omega),<-UN]
     have hfit:=fW (c3 (F:=K72.dJ) (g:=af 0) (h:=af 1) (k:=g2 bY (af 2) (Ex (ao (g2 bY (af 4) (gC (.int 1))) aC) (af 6))) (env:=eO v w B ah (some (.d (dN p))) (some (.d (.tup ((ah++[p]).map dN))))) (x:=.d v.d) (y:=.d w.d) rfl rfl (two rfl hz hc2) (B_ t (B++bO (ah++[p]))));have hrec:=AW t hB f r (ah++[p]) (by simp;omega) (by omega);have hcall:=fW (c4 (F:=K76.d7 f) (g:=af 0) (h:=af 1) (k:=af 2) (l:=gN qW (ao (af 6) aC)) (x:=.d v.d) (y:=.d w.d) (w:=.d (aS B)) (env:=eO v w B ah (some (.d (dN p))) (some (.d (.tup ((ah++[p]).map dN))))) rfl rfl rfl (n1 rfl (show qW [.d (.tup ((ah++[p]).map dN))]=.ok (.l .fresh ((ah++[p]).map dN)) from rfl)) hrec);rw [FG hs];generalize jv v w (B++bO (ah++[p]))=q1 at hfit ⊢;generalize ord v w B r (ah++[p])=q2 at hcall ⊢;cases hp:decide (p∈ah) with
     | true=>
      rw [hp] at hin;rw [jy (gS hin)];exact ih _ _
     | false=>
      rw [hp] at hin;cases q1 with
      | false=>
       rw [jy ((fj hin hfit))];exact ih _ _
      | true=>
       rw [jb ((fj hin hfit))];cases q2 with
       | false=>
        rw [jy hcall];exact ih _ _
       | true=>
        rw [jb hcall];exact ⟨_,rfl,rfl⟩
   refine (key (Ur w.m) none none).mono λo ho=>?_;have e:ord v w B (r + 1) ah=(Ur w.m).any λp=>!decide (p∈ah) && (jv v w (B++bO (ah++[p])) && ord v w B r (ah++[p])):=rfl;rw [e];split at ho
   ·rename_i hy;rw [ho,hy]
   ·rename_i hy;obtain ⟨e,rfl⟩:=ho;rw [ack.mpr hy];exact bE rfl rfl rfl
end
end K76
namespace K76
open PySem DL K01 WP K51 K52 K55 K22 K33 K72
open K23 (Pr bO dH aS iV iW Good iI fW bH gS fj ic iy c7 told ne_int allM sX Ba)
abbrev eM (ns:List Int) (c:Int) (v w:Wd) (L:List Ps) (ps:Ps):Ev:=[some (.bor (ns.map D.int)),some (.d (.int c)),some (.d v.d),some (.d w.d),some (.own (L.map aS)),some (.d (aS ps)),none,none,none]
theorem is_none (o:Option Nat):iL false (.d (dV o)) (.d .non)=.ok (.d (.bl o.isNone)):=by cases o <;> rfl
section
variable {v w:Wd}{ps:Ps}
theorem F9 (ns:List Int) (c:Int) (t:Pn v w) (L:List Ps) (g:Good v w ps) (l4:ps.length<=4):∃tb:Bool,jV (g2 (bX false) (g2 aY (af 2) (gC (.int 0))) (g2 aY (af 3) (gC (.int 0)))) (gN (aO 4 (K76.d7 6)) (ao (af 2) (ao (af 3) (ao (af 5) (ao (c5 aP) aC))))) (eM ns c v w L ps)=.ok (.d (.bl tb))/\
  (tb=true↔w.m=v.m/\∃σ,K23.yC v w σ/\∀p∈ps,p∈bO σ):=by
 have tt:=t.t;have v4:=tt.v4;have eqi:bX false (.d (.int (v.m:Int))) (.d (.int (w.m:Int)))=.ok (.d (.bl (decide (v.m=w.m)))):=by rw [K01.eq_int];congr 3;show ((v.m:Int) == (w.m:Int))=_;rw [Vk,beq_iff_eq,decide_eq_true_eq];omega
 by_cases hm:v.m=w.m
 ·rw [decide_eq_true hm] at eqi;have hO:=AW (B:=ps) t (by omega) 6 v.m [] (by simp) (by omega);refine ⟨ord v w ps v.m [],sX (two (two rfl rfl (fP _ _)) (two rfl rfl (fP _ _)) eqi) (c4 (z:=.d (.bl (ord v w ps v.m []))) rfl rfl rfl (fR bg (by decide)) hO),?_⟩;rw [Ko tt hm.symm g.rg];exact ⟨λh=>⟨hm.symm,h⟩,λh=>h.2⟩
 ·rw [decide_eq_false hm] at eqi;exact ⟨false,Ba (two (two rfl rfl (fP _ _)) (two rfl rfl (fP _ _)) eqi),λh=>(by cases h),λh=>absurd h.1.symm hm⟩
end
theorem Kd (ns:List Int) (h:ns.length<=63):vn [.bor (ns.map .int)]=.ok (.d (.bl true)):=by
 obtain ⟨c,hc⟩:∃c,c=ns.getD 0 0:=⟨_,rfl⟩;obtain ⟨lg,Tv⟩:∃lg:Bool,bX false (.d (.int (c % 8))) (.d (.int 1))=.ok (.d (.bl lg)):=⟨_,rfl⟩;have cell:=yv ns 0;rw [<-hc] at cell;obtain ⟨sz,hsz,s1,s2⟩:∃sz:List Nat,aY (.l .fresh [.lst ([1,2,3,3,2].map dN),.lst ([4,3,4,2,1].map dN)]) (.d (.int (if lg then 1 else 0)))=.ok (.d (.lst (sz.map dN)))/\1<=sz.length/\∀n∈sz,1<=n/\n<=4:=by
  cases lg with
  | true=>exact ⟨[4,3,4,2,1],rfl,by decide,by decide⟩
  | false=>exact ⟨[1,2,3,3,2],rfl,by decide,by decide⟩
 obtain ⟨v,w,hw,t⟩:=N6 (ns.getD 1 0) sz s1 s2;have tt:=t.t;have v4:=tt.v4;have hint:∀b:Bool,zm [.d (.bl b)]=.ok (.d (.int (if b then 1 else 0))):=λb=>rfl;have gn:Good v w []:=⟨WU,(λ_ h=>nomatch h),(λ_ h=>nomatch h)⟩;obtain ⟨L,hL⟩:∃L,L=told v w 3:=⟨_,rfl⟩;have SJ:∀p∈L,Good v w p:=λp hp=>by rw [hL,K23.kY] at hp;obtain ⟨j,_,h⟩:=hp;exact ((K23.iN j).mp h).2
 have tp:0 < L.length:=List.length_pos_of_mem (a:=[]) (by rw [hL,K23.kY];exact ⟨0,by decide,(K23.iN 0).mpr ⟨rfl,gn⟩⟩);have lenL:eV [.l .own (L.map aS)]=.ok (.d (.int (L.length:Nat))):=by show M.ok (R.d (.int ((L.map aS).length:Nat)))=_;rw [Uo]
 obtain ⟨j,hj,hjl⟩:=nF (c / 8) L.length tp;have hp3:=Jk t 3 (by decide);rw [<-hL] at hp3;refine cg (bC (c2 rfl rfl cell) rfl (Dn (c2 (c2 rfl rfl (yv ns 1)) (two (fR (aL (fR rfl (by show 5<=1000;decide)) rfl (aL (fR rfl (by show 5<=1000;decide)) rfl bg)) (by show 2<=1000;decide)) (n1 (two (two rfl rfl (c_ c 8 (by decide))) rfl Tv) (hint lg)) hsz) hw) rfl rfl (bC (c3 rfl rfl rfl hp3) rfl (bC (r:=.d (aS L[j])) (two (y:=.d (.int (j:Int))) rfl ((two (two rfl rfl (gq c 8 (by decide) (by decide))) (n1 rfl lenL) (c_ _ _ (by omega))).trans (by rw [hj])) (qV (by rw [UT,UA hjl];rfl))) rfl ?_))));refine b_ ((?_:Wp _ (λo=>∃ps,Good v w ps/\ps.length<=4/\o=.nx (eM ns c v w L ps))).mono λo ho=>?_)
 ·refine jz (c:=bh (.int (c / 10000 % 2)) (.int 1)) (bH (two (two rfl rfl (gq c 10000 (by decide) (by decide))) rfl (c_ _ 2 (by decide))) rfl rfl) (λ_=>fK (r:=.d (aS [])) (bD bg (by decide)) rfl ⟨[],gn,by decide,rfl⟩) λ_=>fQ ⟨L[j],SJ _ (U9 hjl),?_,rfl⟩;exact O9 tt ((jA tt).mpr (SJ _ (U9 hjl)))
 obtain ⟨ps,g,l4,rfl⟩:=ho;obtain ⟨tb,htb,hti⟩:=F9 ns c t L g l4;have R4:c7 [.d (aS ps)]=.ok (.d (aS ps)):=by rw [Ic ps (by omega),NL (Bs g)]
 have cp:=DF tt (aS ps) R4 (by omega);have hP:(K73.uY v w (Lc v w) 4 ps).isNone=tb:=by rw [Vk,Option.isNone_iff_eq_none,KP tt g,hti]
 generalize K73.uY v w (Lc v w) 4 ps=P at cp hP;subst hP;have hT:ps∈T4 v w:=(jA tt).mpr g;show Wp _ _;refine bC htb rfl (gA (bH (two (c3 rfl rfl rfl cp) rfl (is_none P)) rfl ?_) ?_)
 ·cases P.isNone <;> rfl
 cases hq:P.isNone with
 | false=>exact b_ (ow rfl (bE rfl rfl rfl))
 | true=>
  obtain ⟨hm,σ0,iso,hs⟩:=hti.mp hq;obtain ⟨i4,Tq⟩:∃i4:Bool,bX false (.d (.int (v.m:Nat))) (.d (.int 4))=.ok (.d (.bl i4)):=⟨_,rfl⟩;obtain ⟨n,hn,n6⟩:∃n:Nat,c / 20000 % (3 - (if i4 then 1 else 0))=n/\n < 3:=by
   cases i4 with
   | true=>exact ⟨(c / 20000 % 2).toNat,by show c / 20000 % 2=_;omega,by omega⟩
   | false=>exact ⟨(c / 20000 % 3).toNat,by show c / 20000 % 3=_;omega,by omega⟩
  have lz:((if i4 then 1 else 0:Int))<=1/\0<=(if i4 then 1 else 0:Int):=by cases i4 <;> decide
  have SI:∀j,Lc v w j ps=true:=λj=>pS tt hm iso j ps hs;obtain ⟨σ,hσ⟩:=(N8 tt (Bs g)).mp ⟨hT,SI (n + 1)⟩;have m:=CZ tt hσ;have ln:=m.len;have SS:=Lr tt (aS ps) ps R4 (by omega) n (by omega);rw [hσ] at SS;refine gA rfl (bC (r:=.d (.int ((n + 1:Nat):Int))) ((two rfl (two (two rfl rfl (gq c 20000 (by decide) (by decide))) (two rfl (n1 (two (two rfl rfl (fP _ _)) rfl Tq) (hint i4)) (Dv 3 _)) (c_ _ _ (by omega))) (kX 1 _)).trans (by rw [hn,show (1:Int) + (n:Int)=((n + 1:Nat):Int) by omega])) rfl ?_);refine gA (iy (b:=true) (fW ((n1 (mK (xs:=Ur (n + 2)) (h:=Iu v w) (λ_=>.bl true) ?_ (by simp;omega) λj _=>⟨_,two rfl rfl (Mk (m:=.own) ps ((T4 v w).filter (Lc v w j)) (.d (Iu v w j)) rfl),?_⟩) (allM (λ_=>true) (Ur (n + 2)))).trans ?_))) ?_
  ·show (gN _ _ _ >>= _)=_;rw [c3 rfl rfl rfl (DE tt (n + 1) (by omega))];rfl
  ·rw [decide_eq_true (VE.mpr ⟨hT,SI j⟩)];rfl
  ·rw [show ((Ur (n + 2)).all λ_=>true)=true by simp];rfl
  refine bC (c4 rfl rfl rfl rfl SS) rfl (gA (E5 (iy (b:=true) rfl) (bH (b:=false) (n1 rfl (J6 _)) (two rfl rfl (fP _ _)) ?_)) ?_)
  ·show bX true (.d (.int ((σ.map dN).length:Nat))) (.d (.int (v.m:Nat)))=_;rw [ne_int,Uo,ln];simp
  refine bE (r:=.d (.bl true)) ((n1 (mK (xs:=Ur v.m) (h:=dN) (λ_=>.bl true) (mP (cT (two rfl rfl (fP _ _))) (by omega)) (by simp;omega) λa ha=>⟨_,c3 rfl rfl (bD (aL (bD (aL rfl rfl (aL (two rfl rfl (PU (by rw [ln];exact UP.mp ha))) rfl bg)) t2) rfl bg) (by show 1<=1000;decide)) (B_ t [(a,σ.getD a 0)]),?_⟩) (allM (λ_=>true) (Ur v.m))).trans ?_) rfl rfl
  ·have ha':a < σ.length:=by rw [ln];exact UP.mp ha
   have ok:jv v w [(a,σ.getD a 0)]=true:=(ni tt _).mpr λp hp q hq=>by rw [Uz.mp hp,Uz.mp hq,show σ.getD a 0=σ[a] by simp [Zl,ha']];have gg:=(jA tt).mp (m.at_ a ha').2.1;exact gg.ag _ (iw.mpr (.inr rfl)) _ (iw.mpr (.inr rfl))
   rw [ok];rfl
  ·rw [show ((Ur v.m).all λ_=>true)=true by simp]
end K76
namespace K76
open PySem PySem.Spec PyProof.Rows L2 DL DX
theorem all_mk {l:aa0}{w:U5}{K:Ui}{h:VB}{mg:Str->Option Uk}{fa:UL}(X:K.In h) (G:h.Ns UW mg) (Si:mg "law"=some (.ref fa))
  {f24 f37:UL}{o24 n24 o37 n37:Option UL}{s24 s37:Array (Option Uk)}{u24 v24 d24 p24 q24 r24 u37 v37 d37 p37 q37 r37:Uk}
  {T24:UL}{oT24:Uk}{dT24:Option UL}{nT24:Nat}{sT24:Array (Option Uk)}
  {t1:Tok}
  {t2:Tok}
  (e0:FA K "is_whole" xE)
  (e1:FA K "tongue_of" ve)
  (e2:FA K "need_tongue" qG)
  (e3:FA K "need_few_points" lO)
  (e4:FA K "need_small" sP)
  (e5:FA K "need_count" sO)
  (e6:FA K "rising" BV)
  (e7:FA K "view" Jf)
  (e8:FA K "views" FO)
  (e9:FA K "agree" FE)
  (e10:FA K "goes_behind" qE)
  (e11:FA K "pairings" xH)
  (e12:FA K "added" FD)
  (e13:FA K "map_behind" mR)
  (e14:FA K "in_layer" xD)
  (e15:FA K "choices_in" sN)
  (e16:FA K "mapped_still" pM)
  (e17:FA K "peeled" BU)
  (e18:FA K "pairings_with" nP)
  (e19:FA K "layers_of" vc)
  (e20:FA K "grid_of" Ah)
  (e21:FA K "counted_depths" mC)
  (e22:FA K "counted_layers" mD)
  (e23:FA K "counted_map" qD)
  (a24:Va K UW "counted_parted"=some (some (.ref f24)))
  (l24:K.lookup f24=some ⟨u24,o24,.func (Vr "counted_parted" "counted_parted" (cP cW) (bR cW) (aV cW) (.ref T24) v24 d24 p24 n24 q24 r24),s24⟩)
  (c24:Xh K q24 "counted_parted"=true)
  (k24:VS K (.ref f24)=true)
  (lT24:K.lookup T24=some ⟨oT24,dT24,.seq #[.none] nT24,sT24⟩)
  (e25:FA K "_law_cell_at" pK)
  (e26:FA K "_law_more" u7)
  (e27:FA K "_law_freed" sJ)
  (e28:FA K "_law_names" sL)
  (e29:FA K "_law_world" sM)
  (e30:FA K "_law_flipped" pL)
  (e31:FA K "_law_turned" qC)
  (e32:FA K "_law_two" xC)
  (e33:FA K "_law_at" Aa)
  (e34:FA K "_law_fit" xB)
  (e35:FA K "_law_pairings" nO)
  (e36:FA K "_law_order" mQ)
  (a37:Va K UW "law"=some (some (.ref f37)))
  (l37:K.lookup f37=some ⟨u37,o37,.func (Vr "law" "law" (cP oS) (bR oS) (aV oS) .none v37 d37 p37 n37 q37 r37),s37⟩)
  (c37:Xh K q37 "law"=true)
  (k37:VS K (.ref f37)=true)
  (z0:Va K UW "abs"=some none)
  (z1:Va K UW "all"=some none)
  (z2:Va K UW "bool"=some none)
  (z3:Va K UW "enumerate"=some none)
  (z4:Va K UW "int"=some none)
  (z5:Va K UW "isinstance"=some none)
  (z6:Va K UW "len"=some none)
  (z7:Va K UW "list"=some none)
  (z8:Va K UW "max"=some none)
  (z9:Va K UW "range"=some none)
  (z10:Va K UW "set"=some none)
  (z11:Va K UW "sorted"=some none)
  (z12:Va K UW "tuple"=some none)
  (z13:Va K UW "zip"=some none)
  (gMOST_DEPTH:Va K UW "MOST_DEPTH"=some (some (.int 6 t1)))
  (gMOST_SMALL:Va K UW "MOST_SMALL"=some (some (.int 4 t2))):
  ∃fd:U6,(∀(s:Um) (v:Uk),ac6 s fd ⟨[v],[]⟩ [("_law_script",v)])/\∀base:VB,K.In base->base.Ns UW mg->fM l.prog w K mg base oX 11 fa fd ["_law_script"] (qI K 1 K76.vn):=by
 have e:=Si.symm.trans (Xf X G a37);cases e;obtain ⟨f13,d13,a13,F13⟩:=e13;obtain ⟨f16,d16,a16,F16⟩:=id e16;have F24:=JM (st:=cW) l24 c24 k24 lT24;obtain ⟨f36,d36,a36,F36⟩:=e36;have F37:=Eu (st:=oS) l37 c37 k37;have m:dz w K mg:=⟨Vg X G z0,
   Vg X G z1,
   Vg X G z2,
   Vg X G z3,
   Vg X G z4,
   Vg X G z5,
   Vg X G z6,
   Vg X G z7,
   Vg X G z8,
   Vg X G z9,
   Vg X G z10,
   Vg X G z11,
   Vg X G z12,
   Vg X G z13,
   ⟨_,(.int 6),Xf X G gMOST_DEPTH,⟨_,rfl⟩,λ_=>(.int _)⟩,
   ⟨_,(.int 4),Xf X G gMOST_SMALL,⟨_,rfl⟩,λ_=>(.int _)⟩,
   ⟨_,a16,Xf X G a16⟩⟩
 refine ⟨Vr "law" "law" (cP oS) (bR oS) (aV oS) .none v37 d37 p37 n37 q37 r37,λs v=>.of_eq rfl,λbase _ _=>?_⟩;have C0:=AH (P:=l.prog) (base:=base) m (bZ X G e0);have C1:=y_ (P:=l.prog) (base:=base) m (bZ X G e1);have C2:=vE (P:=l.prog) (base:=base) m C1 (bZ X G e2);have C3:=p7 (P:=l.prog) (base:=base) m (bZ X G e3);have C4:=xX (P:=l.prog) (base:=base) m C2 C3 (bZ X G e4);have C5:=xW (P:=l.prog) (base:=base) m C0 (bZ X G e5);have C6:=Ed (P:=l.prog) (base:=base) m (bZ X G e6);have C7:=Jx (P:=l.prog) (base:=base) m (bZ X G e7);have C8:=Gi (P:=l.prog) (base:=base) m C7 (bZ X G e8);have C9:=Gh (P:=l.prog) (base:=base) m (bZ X G e9);have C10:=vD (P:=l.prog) (base:=base) m C9 (bZ X G e10);have C11:=AJ (P:=l.prog) (base:=base) m C4 C5 C8 C9 C10 (bZ X G e11);have C12:=Gg (P:=l.prog) (base:=base) m C6 (bZ X G e12);have C13:=pe (P:=l.prog) (base:=base) m F13 (Xf X G a13) 6;have C14:=AG (P:=l.prog) (base:=base) m (bZ X G e14);have C15:=xT (P:=l.prog) (base:=base) m C14 (bZ X G e15);have C16:=uy (P:=l.prog) (base:=base) m C15 C13 (bZ X G e16);have C17:=Ec (P:=l.prog) (base:=base) m C16 (bZ X G e17);have C18:=sZ (P:=l.prog) (base:=base) m C11 (bZ X G e18);have C19:=y9 (P:=l.prog) (base:=base) m C14 (bZ X G e19);have C20:=Cz (P:=l.prog) (base:=base) m C12 (bZ X G e20);have C21:=rL (P:=l.prog) (base:=base) m C18 C20 C17 (bZ X G e21);have C22:=rM (P:=l.prog) (base:=base) m C4 C5 C21 C19 (bZ X G e22);have C23:=vC (P:=l.prog) (base:=base) m C4 C5 C6 C21 C20 C15 C13 (bZ X G e23);have O_counted_parted:=rO (P:=l.prog) (w:=w) (base:=base) m C4 C6 C21 F24;have C24:=rN O_counted_parted F24 (Xf X G a24);have D_counted_parted:=p6 O_counted_parted F24 (Xf X G a24);have C25:=uv (P:=l.prog) (base:=base) m (bZ X G e25);have C26:=yS (P:=l.prog) (base:=base) m (bZ X G e26);have C27:=xQ (P:=l.prog) (base:=base) m (bZ X G e27);have C28:=xR (P:=l.prog) (base:=base) m C27 (bZ X G e28);have C29:=xS (P:=l.prog) (base:=base) m (bZ X G e29);have C30:=uw (P:=l.prog) (base:=base) m (bZ X G e30);have C31:=vB (P:=l.prog) (base:=base) m (bZ X G e31);have C32:=AF (P:=l.prog) (base:=base) m C26 C28 C29 C31 C30 (bZ X G e32);have C33:=Cy (P:=l.prog) (base:=base) m (bZ X G e33);have C34:=AE (P:=l.prog) (base:=base) m C33 (bZ X G e34);have C35:=sY (P:=l.prog) (base:=base) m C34 (bZ X G e35);have C36:=o_ (P:=l.prog) (base:=base) m C34 F36 (Xf X G a36) 6;exact Ot m C25 C32 C35 C36 C24 C22 C23 C34 F37
theorem Lb (K:Ui) (H:Hp) (a:UL) (ns:List Int) (hl:ns.length<=63) (hO:Cf H) (hS:cj K H a (ns.map V.int)):qI K 1 K76.vn [.ref a] H (λv _=>v=.bl true) λ_ _ _=>False:=by
 refine ⟨λ_=>none,[.bor (ns.map D.int)],λ_ _ z=>(by cases z),rfl,⟨_,[],rfl,⟨a,_,rfl,hS,?_⟩,rfl⟩,?_⟩
 ·exact K01.xu ns
 ·rw [Kd ns hl];intro v J H2 _ r;cases r;rfl
theorem walk {l:aa0}{q:UG}{loose:List Str}{XP:(Str->Option Uk)->VB->Prop}{YP:U5->VB->Prop}{d:DefRec}{K:ae4->Ui}(hn:l.most=some 63) (hdf:d.params.defaults=[])
  (hY:∀(w:U5) (h:VB),YP w h->(K w.params).In h)
  (F:∀(w:U5) (mg:Str->Option Uk) (fa:UL) (h:VB),(K w.params).In h->h.Ns UW mg->mg d.name=some (.ref fa)->
   ∃fd:U6,(∀(s:Um) (u:Uk),ac6 s fd ⟨[u],[]⟩ [("_law_script",u)])/\∀base:VB,(K w.params).In base->base.Ns UW mg->fM l.prog w (K w.params) mg base oX 11 fa fd ["_law_script"] (qI (K w.params) 1 K76.vn)):
  ad9 q loose XP YP l.row.toRowW d [] (λf vs=>adU f vs):=
 L2.Lj (n:=63) (k:=11) (x:="_law_script") (CX:=λ_=>oX) (sp:=λw=>qI (K w.params) 1 K76.vn) hn (by decide) hdf ⟨rfl,by decide,by decide⟩ hY F (λw H a ns hl hO hS=>Lb _ H a ns hl hO hS) λ_ _ _ _ _ z=>z
end K76
open PySem PySem.W PyProof.Rows
set_option maxRecDepth 100000 in
set_option maxHeartbeats 0 in
theorem PySem.Challenge.cw_pickalike_k76_whole_orders_and_counting_holds : PySem.Challenge.rw_pickalike_k76_whole_orders_and_counting.Holds := by
 refine holds_law K76.look λsaid=>?_;refine holds_open (q:=K76.VW) (XP:=XL K76.VW []) (YP:=Hook.says K76.HK) K76.left (Hook.of K76.HK) (Hook.keeps K76.HK) (λs e=>xl_of s (abo.mp e).1) XL.keeps (by rfl) (by rfl) (by rfl) (λs e=>recFacts_of (abo.mp e).2) (by rfl) said (by decide +kernel) ⟨rfl,rfl,rfl,rfl,rfl,by decide +kernel⟩ ?hw ?hc
 (case hw=>w_witness2)
 delta K76.HK
 k_fill
 refine K76.walk (l:=Vb) rfl rfl (K:=K76.KF) (λw h Y=>PySem.W.kIn_of Y) ?F
 case F=>
  intro w mg fa h KX G hmg;refine' K76.all_mk KX G hmg ..
  all_goals try first | k_is | (refine' DL.Od ?a ?l ?c ?k;case a | l | c | k=>k_is)
