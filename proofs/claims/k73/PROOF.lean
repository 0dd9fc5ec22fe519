import PyProof.Rows.All
import Wide.All
import OpenK.AllK
import Wide.FinOn
import Lean
import PyProof.EqAt
import PyProof.EqKinds
import PyProof.TupleCall
import KE.KIsAll
import PyProof.ExcAttrAll.ValueError
import PyProof.NeKinds
import PyProof.InstStoreFacts
import KE.KUnpackStar
import KE.KSortTup
import PyProof.TupleOfSeq
import PyProof.Rows.SortWalk
import PyProof.EnumFor
import PyProof.EnumStmt
import PyProof.ListRange
import PyProof.TupleKey
import PyProof.SetKind
import PyProof.Rows.SetFrom
import PyProof.SetRoads
import PyProof.CollectWalk
import PyProof.WalksMore
import PyProof.DictKinds
import PyProof.DictCompW
import PyProof.DictRoadsH
import PyProof.DictWalks
import PyProof.StrBlock
import PyProof.StrBlockI
import PyProof.StrLawsIdx
import PySem.Challenge.RW_pickalike_k73_parted_by_counting
noncomputable section
open And renaming intro->abd
open Array renaming length_toList->Vb,getElem?_toList->Wa,getElem?_eq_some_iff->Wh,getD->WN,getElem?_eq_getElem->Xy,forIn_toList->Y9,getD_eq_getD_getElem?->ZP,toList->aaX,append_empty->ab3,size_append->acj,toList_push->acu
open Array.Perm renaming mem_iff->Z8,refl->afg
open Bool renaming and_eq_true->UT,false_eq_true->Va,false_ne_true->Vp,eq_iff_iff->Vy,not_true->W_,and_false->Xu,or_eq_true->XI,true_and->Y_,and_eq_true_iff->abv,not_false->abz,or_false->ad3,and_self->ad6,false_or->aea
open Classical renaming byContradiction->Wo,propDecidable->aeh
open False renaming elim->Yl
open ForInStep renaming yield->Xg
open Function renaming comp_def->aap
open Iff renaming rfl->aej
open Int renaming toNat_natCast->V7,emod_lt_of_pos->Y6,emod_nonneg->Za,fdiv_eq_ediv_of_nonneg->ZY,ediv_nonneg->abk,mul_one->aeB
open List renaming range->UQ,length_map->UR,mem_cons_of_mem->UU,mem_cons_self->UW,mem_map->UY,mem_range->U1,size_toArray->U3,mem_singleton->U4,getElem?_eq_getElem->U5,mem_cons->U8,map_cons->U_,length_append->Vc,map_append->Ve,getElem?_map->Vh,mem_append->Vj,all_eq_true->Vm,getElem?_eq_some_iff->Vo,map_map->Vr,getElem_mem->Vt,getElem?_set_ne->VF,mem_append_right->VH,mem_filter->VI,pairwise_map->VO,pairwise_iff_getElem->VP,mem_of_getElem?->VS,mem_iff_getElem->VT,length_cons->VU,idxOf_lt_length_of_mem->VY,length_filter_le->V0,not_mem_nil->V3,getElem_map->V5,length_take->Wc,getElem?_append_right->Wf,getD_eq_getElem?_getD->Wg,pairwise_append->Wi,getElem?_set_self->Wk,replicate->Wm,lookup_cons->Ws,length->Ww,map_congr_left->Wx,eq_nil_or_concat->Wz,concat_eq_append->WA,find?_range_eq_some->WB,nodup_cons->WD,pairwise_singleton->WE,any_eq_true->WI,nodup_range->WJ,length_range->WO,getElem?_append_left->WR,append_nil->WV,length_replicate->WW,length_drop->W4,ext_getElem->W5,append_assoc->Xc,take_length->Xn,pairwise_cons->Xp,getElem_idxOf->Xr,nodup_nil->Xw,mem_append_left->Xz,nodup_append->XM,range_succ->XN,getElem?_range->XZ,all_cons->X0,length_eq_zero_iff->X4,length_singleton->Yg,getLast?_concat->Yt,drop_eq_getElem_cons->Yx,getElem?_zip_eq_some->YC,take_succ->YD,map_flatMap->YG,filterMap_cons->YH,filter_eq_self->YJ,getElem?_replicate->YR,zip_cons_cons->YY,filter_cons_of_pos->Y4,filter_cons_of_neg->Y5,find?_eq_none->Y7,range_succ_eq_map->Ze,take_sublist->Zf,reverse_cons->Zi,eraseIdx_eq_take_drop_succ->Zn,filter_congr->Zp,eq_nil_of_length_eq_zero->Zw,mem_flatMap->Zz,flatMap_def->ZC,any_cons->ZD,map_take->ZF,length_nil->ZU,flatMap_append->ZV,perm_ext_iff_of_nodup->Z0,mem_filterMap->Z3,filterMap_map->Z5,all_map->Z6,getElem_range->Z9,any_map->Z_,getLast?_eq_none_iff->aad,getElem_append_left->aak,getD->aao,map_drop->aaC,getElem_inj->aaG,drop_eq_nil_of_le->aaO,pairwise_lt_range->aaS,flatMap_singleton->aaV,of_mem_zip->aaZ,map_nil->aa0,foldl_cons->aa4,getElem?_reverse->aa5,take_append_drop->aa9,mem_iff_getElem?->aa_,pairwise_flatMap->abe,filter_map->abf,length_eraseIdx->abu,replicate_succ->abG,getD_cons_zero->abI,filter_flatMap->abL,contains_cons->abY,filter_append->ab6,eraseIdx_nil->acn,getElem_drop->acr,idxOf_append->acs,le_antisymm->acM,perm_middle->acP,map_fst_zip->acR,length_zip->adq,find?_cons->ads,drop_zero->adA,filterMap->adE,lookup->aeN,map->ae3
open List.Nodup renaming length_le_of_subset->Vx
open List.Pairwise renaming nil->XH,and_mem->Yj,imp->acy,of_map->aew,and->ae7,map->ae9
open List.Perm renaming append_left->aer,of_eq->afj
open List.cons renaming inj->aeb,injEq->afk
open Nat renaming le_refl->UX,lt_of_lt_of_le->Vf,zero_le->Vl,ne_of_lt->Vn,le_trans->Vq,not_lt_zero->V4,lt_irrefl->Wr,lt_succ_self->Wt,ne_of_gt->WU,pow_le_pow_right->W7,mul_le_mul_right->W8,le_of_succ_le->XJ,lt_trans->XS,mul_le_mul->X8,lt_trichotomy->Yq,le_add_right->YE,le_succ->YI,lt_of_le_of_lt->Y3,le_of_lt_succ->Zl,lt_succ_of_lt->Zo,le_of_lt->Z1,le_of_not_lt->aaI,div_div_eq_div_mul->aaR,mod_lt->abm,lt_or_eq_of_le->ab4,le_of_eq->acB,succ_mul->acC,pow_succ->acF,zero_add->acG,add_mul->adn,add_assoc->aed
open Ne renaming symm->WT
open Option renaming isSome_iff_exists->VV,bind_some->aaK,getD_none->acK,map_some->ac3,none->aeM
open Option.some renaming inj->V2,injEq->WM
open Or renaming inr->X6,inl->Zt
open Prod renaming fst->VC,snd->abn,ext->afm
open PyProof.Rows renaming slot_tuple_getitem->VX,callWith_type1->Ye,seqObj->Yh,IntsAre->YT,subscriptTail_builtinR->Zc,envOfC->Z4,AllBare->aar,listUpdate_at->aaA,entry_tuple_getitem->abE,seqEpoch_at->abK,args_tuple_getitem->abT,callWith_builtin1->acz,get?_update_seq->ac_,list_sort_plain->ada,entry_list_sort->adb,slicePart_none->adx,slot_list_sort->adB,args_list_sort->adC,Subscript_->adM,sortedHeap->adT,tupleItemsOf_->ad0,subscriptTail->ad2,sortedHeap_at->ad_,IsTup->aex,lt_int->aeP,lt_str->aeQ,le_int->aeT,tail_any->aeW,keyKind'->ae2
open PyProof.Rows.F renaming plain_set_update_loop->Wq,entry_set_update_loop->Yz
open PyProof.Rows.IsTup renaming new->aen
open PySem renaming wpAny_bind->UL,Value->UN,wpAny_pure->UO,Shared->UP,starEach->UZ,Program->U6,wpAny->U9,Addr->Vd,model->Vg,mainGlobals->Vi,FuncData->Vk,World->Vs,wpAny_newObj_type->Vu,Expr->Vv,Around->Vz,wpAny_call_entry->VA,wpAny_holding->VB,wpAny_callSpecial?_slot->VG,wpAny_mono->VN,cellsFrom->VQ,bootBuiltins->VR,Heap->V1,wpAny_truthy_bool->V6,behindInMarks->V9,foldedSetIterable->We,cLine->Wj,compareOp->Wl,backTo->Wu,sizeLine_eq->Wv,wpAny_setField_rec->WG,SetTable->WK,wpAny_setState_of->WQ,wpAny_field->W3,wpAny_typeNameOfWhole_keyiter->W6,NameKind->W9,Stmt->Xd,letOwnedTupleGo->Xe,codeAny->Xf,wpAny_loadPart'->Xh,codeAny_builtin->Xi,wpAny_forIn_list->Xl,wpAny_askSetting->Xm,assignEach->XC,wpAny_passesOwn->XD,codeAny_mono->XR,wpAny_standAt->XU,mem_of_lookup->XX,wpAny_attempt->XY,wpAny_getItem_str_slice->X5,sysModules->X7,binaryOp->X_,Scope->Yc,standAt->Yd,attributeBase->Ym,wpAny_pyIter_list->Yo,firstArgMember->Yw,isSubtype_type->YA,wpAny_isInstance->YF,pyNext->YM,wpAny_Call_Name_kw->YQ,Builtin->YU,plainId_quiet->YZ,mem_of_lookup->Y0,wpAny_specialOf->Y8,typeIs_str->Zg,sliceBounds->Zh,wpAny_seqItems->Zq,compTurn->Zr,wpAny_typeOf->Zs,builtinLookup_eq_fast->Zu,wpAny_rule->ZH,wpAny_execs_nil->ZI,swapsWith->ZJ,wpAny_of_eq->ZN,wpAny_updateSeq->ZO,wpAny_setEntries_of->ZQ,codeAny_of_tree->ZT,post_val_or_str->ZW,pyIter->Z2,wpAny_pyIter_tuple->Z7,wpAny_setField->aab,wpAny_fieldsOf->aac,Paired->aae,slot_list_getitem->aag,wpAny_getItem_list_slice->aah,searchCouldBeSeen->aal,wpAny_pyIter_slot->aam,wpAny_dictEntries->aaq,swapsWithSole->aas,bindArgs->aau,keywordEach->aav,Keyword->aaw,Comprehension->aaE,noFill_tuple_add->aaH,checkBuiltinCall->aaJ,richCompare_meets_room->aaP,codeAny_compStart_list->aaT,codeAny_compStart_dict->aaU,wpAny_isTrue_Compare1->aaW,inplaceOp->aaY,DictEntry->aa2,typeLookup_type->aba,isSubtype->abb,wpAny_dictEpoch->abh,wpAny_isOneOf_keyiter->abi,wpAny_loadName_local->abo,codeAny_call_builtin->abr,isTrue->abw,rawInt->abx,wpAny_newTuple->abA,wpAny_runValue->abB,isSubtype_stop->abC,wpAny_loadName_cell->abD,swappedStores->abO,seq_tuple_add->abR,IsPart->abS,evalPart_none->abU,seqIndex?->abW,seqItems?->ab0,wpAny_handled->ab1,wpAny_newList->ab2,slot_dict_contains->ab5,wpAny_call->ab9,getItem->ab_,wpAny_sequenceKey->acd,call_meets->acf,callerA->acg,wpAny_pyIter_enum->acq,ofAClassStatement->acv,wpAny_storeSet_of->acw,concat_meets->acA,IsEnum->acE,wpAny_pyHash_int->acI,wpAny_execs_cons->acJ,backToKw->acU,PassesOwn->acX,Result->acY,BindsTo->acZ,slicePick->ac0,wpAny_throw->ac4,pushCells->ade,pushCells_keeps->adf,IsEnumOut->adg,pickOrder->adi,noteFrame->adl,theTreesLotGoes->adm,compStart->ado,theWindowsPlace->adp,recursionLimit->adw,newFunctionEnv->adD,entryFor_alias->adG,entryOfKey->adI,builtinsNs->adJ,wpAny_Name->adK,wpAny_load->adL,call->adN,isInstance->adP,reduceHash->adQ,setsByText->adV,rangeSize_one->adY,intBits_le_64->adZ,evalPart_some->ad1,call_list_seq->ad4,newTuple->ad7,setField->aec,setSearchFrom->aef,wpAny_notedAt->aeg,atKey->aei,storeName->aem,Model->aey,bindL->aeC,bindC->aeD,CellsOk->aeR,GenState->aeU,Operator->aeV,Params->aeY,newExc->ae0,raiseNew->ae1,entryFor->ae4,Fin->afh
open PySem.Around renaming under_plainId->WH
open PySem.AutoSeq1 renaming sub_tuple_tuple->YO
open PySem.Builtin.Dict renaming showsAll->abg,dictSlotNone->adH
open PySem.Builtin.Dict_items renaming ownsTuple->ZG
open PySem.Builtin.Frozenset renaming sizeOf->aan,updateFrom->acV,newClass->adu
open PySem.Builtin.List renaming listTooLong->W2,listLengthHint->ZR,listExtendWith->ZS,listSameRef->adW
open PySem.Builtin.Range renaming rangeSize->aat
open PySem.Builtin.Slice renaming slicePlaces->Xs,sliceAdjust->Yu,sliceApplied->ZZ,slicePartIndex->acT,sliceFields->ady
open PySem.Builtin.SmallTypes renaming nextOf->Wn,ownedTupleHandOut->Yy,ownedTupleIsFree->YK
open PySem.Builtin.Str renaming occurrences->aay,tooLong->abH
open PySem.Builtin.Tuple renaming tupleHashOf->V8,tupleExact->XG,tupleItemsOf->Ys,tupleCompareSizes->Zj,tupleIsExact->adt
open PySem.Calls renaming Name_function_global->ZX
open PySem.Challenge renaming rw_pickalike_k73_parted_by_counting->VJ,pw_pickalike_k73_parted_by_counting->Wb
open PySem.CmpOp renaming NotIn->aez,In->afl
open PySem.Data renaming fields->aeA,cell->afd
open PySem.Env renaming kindOf->ae6
open PySem.Expr renaming Call->afi
open PySem.F renaming slot_dict_keyiterator_next->WC,slot_tuple_iterator_next->Xj,slot_str_getitem->XQ,plainAttrs_list->X3,slot_enumerate_next->Yi,called_set->Yk,slot_tuple_hash->Yr,args_tuple_add_2->YN,entry_tuple_add->YS,slot_tuple_add->Zb,plain_list_iadd->Zk,args_dict_keyiterator_next_1->Zv,entry_dict_keyiterator_next->ZA,args_tuple_iterator_next_1->ZE,attrBase_ValueError->ZL,entry_tuple_iterator_next->ZM,slot_list_append->aai,type_list_append->aaj,args_enumerate_next_1->aaB,entry_enumerate_next->aaQ,entry_proto_collect->aa7,plain_proto_collect->aa8,slot_str_find->abj,args_list_extend_2->abp,entry_list_extend->abF,slot_list_extend->abX,entry_list_iadd->acp,slot_dict_iter->acS,slot_set_iter->adj,plain_set_new->adk
open PySem.Heap renaming get?_push_of_some->US,get?_push_size->U0,lt_size->U7,SameBut->VL,get?_update_self->Wy,size_push->Xx,get?_update_other->Zd,ExtBut->aaz,get?_update_ne->abJ,size_update->acO
open PySem.Heap.IsList renaming push->acN
open PySem.Heap.IsSliceOf renaming new->abV
open PySem.Heap.SameBut renaming update->WL,refl->ae8
open PySem.IsL renaming update->ae_
open PySem.Moved renaming trans->aeS
open PySem.NameKind renaming free->V_,cell->YW
open PySem.Obj renaming mapSeq->W0,data_mapFields->YX,isFreed_of_fields->aa6,cls_mapFields->acm,putSet->adU,mapFields->aek
open PySem.Paired renaming length->adX
open PySem.PassesOwn renaming leaving->aco,never->ac5
open PySem.SeqAt renaming EqAt->WZ,ne_of_list_tuple->aaN
open PySem.SeqAt.EqAt renaming same->aa1,int_str->abM,str_int->abN,int_int->abQ,of_refs->abZ,tuple_list->aeo,list_tuple->aep,none_bool->aes,bool_none->aet,bool_bool->aeu,none_int->aeE,none_str->aeF,bool_int->aeG,bool_str->aeH,int_none->aeI,int_bool->aeJ,str_none->aeK,str_bool->aeL,str_str->aeX
open PySem.SeqAt.RcAt renaming tuples->aci,lists->acL,lists_lengths->adR
open PySem.SeqAt.RcNeAt renaming tuples->aeO,lists->aeZ
open PySem.SetTable renaming sizeAbove->Yb,below->YB,insertAt->Zm,advance->aaL,tooFull->acQ,runEnd->adh,turns->adF,fill->aee
open PySem.Shared renaming TypeIs->aaD
open PySem.Str renaming ofString->Xo,length->ace
open PySem.StrLaws renaming sliceText_from->acW,sliceText_to->adv
open PySem.Txt renaming slice->WY,slice_le->aaa
open PySem.Value renaming none->VM,bool->Xk,ref->XA,type->YL,builtin->aax,notImplemented->abt,int->ael,str->afc
open PySem.Value.ref renaming inj->afn
open PySem.W renaming Frag->UM,nsIn->Vw,mg_none_of->VD,fnOf->VE,keepIn->VZ,mg_of->WS,kia_one->WX,kas_desc->Xa,codeIn->Xb,kas_place->Xq,findIn->Xv,mroIn->Yn,kas_sort->Yp,InstAt->Yv,clsIn->YV,kas_rev->Zx,kas_asc->Zy,findObj->ZK,methodObj->aaf,cellsFrom_some->aaM,OpenLaw->aa3,looks_findIn->abq,kitOne->aby,callWith_K->abP,specialIn->ach,kitx_dict->ack,kas_descPart->acD,takesIn->ac1,kitMeta->ac2,kas_count->ac6,notCls->adz,WalkO->ad5,kas_bin->ad8,kat_cons->ad9,kas_tail3->aeq
open PySem.W.Hook renaming obs->afa,val->afb
open PySem.W.OpenLaw renaming wellSaid->adO
open PySem.W.RowW renaming records->aev
open PySem.W.WData renaming int->afe
open PySem.W.WShape renaming has->ae5
open PySem.Walks renaming list->adS
open PySem.pickOrder renaming go->acH
open Subtype renaming ext->aaF
open Sum renaming inl->ab7,inr->ab8
open True renaming intro->abl
set_option Elab.async false
set_option linter.all false
set_option autoImplicit true
set_option relaxedAutoImplicit true
set_option maxRecDepth 100000
namespace L2
open PySem PySem.Spec PyProof.Rows
abbrev Key:=Sum Int Str
noncomputable def Jx:Key->UN->Bool
 | .inl k,v=>Value.isInt k v
 | .inr x,v=>Value.isStrOf x v
noncomputable def Qp (w:Vs):Key->Int
 | .inl k=>hashInt k
 | .inr x=>hashStr w x
theorem dX:∀{k:Key}{v:UN},Jx k v=true->(∃i t,k=ab7 i/\v=ael i t)\/(∃x t,k=ab8 x/\v=afc x t)
 | .inl i,v,h=>by
  obtain ⟨t,e⟩:=Value.isInt_shape (k:=i) (v:=v) h
  exact .inl ⟨i,t,rfl,e⟩
 | .inr x,v,h=>by
  obtain ⟨t,e⟩:=Value.isStrOf_shape (x:=x) (v:=v) h
  exact .inr ⟨x,t,rfl,e⟩
theorem M5 (a b:Int):decide ((ab7 a:Key)=ab7 b)=(a == b):=by
 by_cases e:a=b
 ·subst e;simp
 ·have h:¬(ab7 a:Key)=ab7 b:=λq=>e (Sum.inl.inj q)
  rw [decide_eq_false h]
  exact (beq_eq_false_iff_ne.mpr e).symm
theorem M8 (a b:Str):decide ((ab8 a:Key)=ab8 b)=decide (a=b):=by
 by_cases e:a=b
 ·subst e;simp
 ·have h:¬(ab8 a:Key)=ab8 b:=λq=>e (Sum.inr.inj q)
  rw [decide_eq_false h,decide_eq_false e]
theorem M6 (a:Int) (b:Str):decide ((ab7 a:Key)=ab8 b)=false:=decide_eq_false (λq=>nomatch q)
theorem M7 (a:Str) (b:Int):decide ((ab8 a:Key)=ab7 b)=false:=decide_eq_false (λq=>nomatch q)
noncomputable def wK (prog:U6) (w:Vs):PySem.KeyKind prog w Key where
 is:=Jx
 hash:=Qp w
 inj:=λv a b ha hb=>by
  rcases dX ha with ⟨i,t,rfl,rfl⟩ | ⟨x,t,rfl,rfl⟩
  ·rcases dX hb with ⟨j,u,rfl,e⟩ | ⟨y,u,rfl,e⟩
   ·injection e with e1 _;rw [e1]
   ·exact nomatch e
  ·rcases dX hb with ⟨j,u,rfl,e⟩ | ⟨y,u,rfl,e⟩
   ·exact nomatch e
   ·injection e with e1 _;rw [e1]
 byValue:=λk v h=>by
  rcases dX h with ⟨i,t,rfl,rfl⟩ | ⟨x,t,rfl,rfl⟩ <;> rfl
 pyHash:=λhv h=>by
  rcases dX hv with ⟨i,t,rfl,rfl⟩ | ⟨x,t,rfl,rfl⟩
  ·exact acI h
  ·exact wpAny_pyHash_str h
 eqBool:=λhu hv h=>by
  rcases dX hu with ⟨i,t,rfl,rfl⟩ | ⟨x,t,rfl,rfl⟩
  ·rcases dX hv with ⟨j,u,rfl,rfl⟩ | ⟨y,u,rfl,rfl⟩
   ·rw [M5] at h;exact wpAny_eqBool_int h
   ·rw [M6] at h;exact abM i t y u _ _ _ _ h
  ·rcases dX hv with ⟨j,u,rfl,rfl⟩ | ⟨y,u,rfl,rfl⟩
   ·rw [M7] at h;exact abN x t j u _ _ _ _ h
   ·rw [M8] at h;exact wpAny_eqBool_str h
 «strs»:=λk x t v h=>by
  rcases dX h with ⟨i,u,rfl,e⟩ | ⟨y,u,rfl,e⟩
  ·exact nomatch e
  ·injection e with e1 _
   subst e1
   cases v <;> rfl
inductive V where
 | non | bl (b:Bool) | int (i:Int) | str (x:Str) | byt (b:Array UInt8) | flt (b:UInt64) | ref (a:Vd) | ty (n:String)
 deriving DecidableEq
noncomputable def RelV:V->UN->Prop
 | .non,u=>u=VM
 | .bl b,u=>u=Xk b
 | .int i,u=>∃t,u=ael i t
 | .str x,u=>∃t,u=afc x t
 | .byt b,u=>∃t,u=Value.bytes b t
 | .flt b,u=>∃t,u=Value.float b t
 | .ref a,u=>u=XA a
 | .ty n,u=>u=YL n
abbrev Vals:List V->List UN->Prop:=aae RelV
theorem Vals.length {xs:List V}{us:List UN}(r:Vals xs us):xs.length=us.length:=adX r
theorem Vals.get:∀{xs:List V}{us:List UN}{i:Nat}{x:V},Vals xs us->xs[i]?=some x->∃u,us[i]?=some u/\RelV x u
 | _,_,_,_,.nil,e=>by simp at e
 | _,_,0,_,.cons r _,e=>by simp at e;subst e;exact ⟨_,rfl,r⟩
 | _,_,i + 1,x,.cons _ t,e=>by
  obtain ⟨u,h1,h2⟩:=Vals.get (i:=i) (x:=x) t (by simpa using e)
  exact ⟨u,by simpa using h1,h2⟩
theorem Vals.set {x:V}{u:UN}(r:RelV x u):∀{xs:List V}{us:List UN}(i:Nat),Vals xs us->Vals (xs.set i x) (us.set i u)
 | _,_,_,.nil=>.nil
 | _,_,0,.cons _ t=>.cons r t
 | _,_,i + 1,.cons q t=>.cons q (Vals.set r i t)
theorem Vals.append:∀{xs ys:List V}{us ws:List UN},Vals xs us->Vals ys ws->Vals (xs++ys) (us++ws)
 | _,_,_,_,.nil,s=>s
 | _,_,_,_,.cons r t,s=>.cons r (Vals.append t s)
theorem Vals.take:∀{xs:List V}{us:List UN}(n:Nat),Vals xs us->Vals (xs.take n) (us.take n)
 | _,_,0,_=>.nil
 | _,_,_ + 1,.nil=>.nil
 | _,_,n + 1,.cons r t=>.cons r (Vals.take n t)
theorem Vals.drop:∀{xs:List V}{us:List UN}(n:Nat),Vals xs us->Vals (xs.drop n) (us.drop n)
 | _,_,0,r=>r
 | _,_,_ + 1,.nil=>.nil
 | _,_,n + 1,.cons _ t=>Vals.drop n t
noncomputable def Mg:Option V->Option UN->Prop
 | some v,some u=>RelV v u
 | none,none=>True
 | _,_=>False
def KV {κ:Type}:List (κ×V)->List (κ×UN)->Prop:=aae λ(p:κ×V) (q:κ×UN)=>p.1=q.1/\RelV p.2 q.2
noncomputable def kV:Key->V
 | .inl i=>.int i
 | .inr x=>.str x
inductive HO where
  | lst (xs:List V)
  | tup (xs:List V)
  | dK (UJ:List (Key×V)) | dT (UJ:List (List Key×V))
  | set (S:Int->Bool) (n:Nat)
  | ins (C dx:Vd) (fs:List (Str×V))
  | own (x:Vd)
  | xd (fs:List (Str×V))
  | met (f x:Vd)
  | rng (lo hi:Int)
  | frz (o:Obj) (u:HO)
  | tbl (ps:Array UN)
  | ext (φ:V1->Prop)
abbrev Hp:=Vd->Option HO
def upd (H:Hp) (a:Vd) (o:HO):Hp:=λb=>if b=a then some o else H b
theorem b9 {H:Hp}:upd H a o a=some o:=by unfold upd;rw [if_pos rfl]
theorem bD {H:Hp}(h:b≠a):upd H a o b=H b:=by unfold upd;rw [if_neg h]
theorem eU {H:Hp}(h:H a=some o) (h':H b=none):a≠b:=by
 intro e;subst e;rw [h] at h';cases h'
section
variable (P:U6) (w:Vs)
noncomputable def cT (H:Hp) (h:V1) (a:Vd):HO->Prop
 | .lst xs=>xs.length<=sizeLine/\∃(UC:List UN) (n:Nat),Vals xs UC/\h.get? a=some {cls:=.type "list",data:=.seq UC.toArray n}
 | .tup xs=>xs.length<=sizeLine/\∃UC:List UN,Vals xs UC/\aex h a UC.toArray
 | .dK UJ=>UJ.length<=sizeLine/\(a == X7)=false/\∃vs,KV UJ vs/\h.DictOf (wK P w) a vs
 | .dT UJ=>UJ.length<=sizeLine/\(a == X7)=false/\∃xs:List (List Key×Vd×UN),
   aae (λ(p:List Key×V) (q:List Key×Vd×UN)=>p.1=q.1/\H q.2.1=some (.tup (p.1.map kV))/\RelV p.2 q.2.2) UJ xs/\
   ∃o es ep,h.get? a=some o/\o.ExactDict/\o.data=.dict es ep/\es.toList=xs.map (adI (tupleKind (wK P w)))/\(xs.map (·.1)).Nodup
 | .set S n=>h.SetOf (intKind P w) a S n
 | .ins C dx fs=>H dx=some (.own a)/\fs.length<=1000/\dx≠a/\h.get? a=some (W.instObj C dx)/\
   ∃mA,h.Ns1 dx mA/\(∀f,Mg (fs.lookup f) (mA f))/\PySem.Within mA (fs.map (·.1))
 | .own _=>∃o,h.get? a=some o
 | .xd fs=>∃mA,h.Ns1 a mA/\∀f,Mg (fs.lookup f) (mA f)
 | .rng lo hi=>∃t u v,h.get? a=some {cls:=.type "range",data:=.fields #[.int lo t,.int hi u,.int 1 v]}
 | .frz o u=>h.get? a=some o/\cT H h a u
 | .tbl ps=>h.get? a=some {cls:=.none,data:=.fields ps}
 | .met f x=>h.get? a=some (aaf (.ref f) (.ref x))
 | .ext φ=>φ h/\(∃o,h.get? a=some o)/\∀h1 h2:V1,φ h1->(∀o,h1.get? a=some o->h2.get? a=some o)->φ h2
def gn (H:Hp) (h:V1):Prop:=∀a o,H a=some o->cT P w H h a o
end
section
variable {P:U6}{w:Vs}{H H':Hp}{h h':V1}{a:Vd}{o:HO}
theorem cT.lt (x:cT P w H h a o):a < h.objs.size:=by
 cases o with
 | lst xs=>obtain ⟨_,_,_,_,e⟩:=x;exact U7 e
 | tup xs=>obtain ⟨_,_,_,p⟩:=x;exact p.lt
 | dK UJ=>obtain ⟨_,_,_,_,o,_,_,e,_⟩:=x;exact U7 e
 | dT UJ=>obtain ⟨_,_,_,_,o,_,_,e,_⟩:=x;exact U7 e
 | set S n=>obtain ⟨o,_,_,_,e,_⟩:=x;exact U7 e
 | ins C dx fs=>obtain ⟨_,_,_,e,_⟩:=x;exact U7 e
 | own y=>obtain ⟨_,e⟩:=x;exact U7 e
 | xd fs=>obtain ⟨_,⟨_,_,_,e,_⟩,_⟩:=x;exact U7 e
 | rng lo hi=>obtain ⟨_,_,_,e⟩:=x;exact U7 e
 | frz ob u=>obtain ⟨e,_⟩:=x;exact U7 e
 | tbl ps=>exact U7 (show h.get? a=some _ from x)
 | met f y=>exact U7 (show h.get? a=some _ from x)
 | ext φ=>obtain ⟨_,⟨_,e⟩,_⟩:=x;exact U7 e
theorem aae.mapP {α β:Type}{F G:α->β->Prop}:∀{l₁:List α}{l₂:List β},aae F l₁ l₂->(∀a b,F a b->G a b)->aae G l₁ l₂
 | _,_,.nil,_=>.nil
 | _,_,.cons r t,f=>.cons (f _ _ r) (aae.mapP t f)
theorem cT.stay (x:cT P w H h a o) (k:∀b u,(b=a\/H b=some (.own a))->h.get? b=some u->h'.get? b=some u)
  (ho:∀b,H b=some (.own a)->H' b=some (.own a)) (ht:∀b xs,H b=some (.tup xs)->H' b=some (.tup xs)):cT P w H' h' a o:=by
 induction o with
 | lst xs=>obtain ⟨z,UC,n,r,e⟩:=x;exact ⟨z,UC,n,r,k _ _ (.inl rfl) e⟩
 | tup xs=>obtain ⟨z,UC,r,ob,e,c⟩:=x;exact ⟨z,UC,r,ob,k _ _ (.inl rfl) e,c⟩
 | dK UJ=>obtain ⟨z,y,vs,r,ob,es,ep,e,c⟩:=x;exact ⟨z,y,vs,r,ob,es,ep,k _ _ (.inl rfl) e,c⟩
 | dT UJ=>
  obtain ⟨z,y,xs,r,ob,es,ep,e,c⟩:=x
  exact ⟨z,y,xs,aae.mapP r λp q z=>⟨z.1,ht _ _ z.2.1,z.2.2⟩,ob,es,ep,k _ _ (.inl rfl) e,c⟩
 | set S n=>obtain ⟨ob,es,ep,t,e,c⟩:=x;exact ⟨ob,es,ep,t,k _ _ (.inl rfl) e,c⟩
 | ins C dx fs=>
  obtain ⟨d,z,ne,e,mA,⟨od,es,ep,e2,c⟩,r⟩:=x
  exact ⟨ho _ d,z,ne,k _ _ (.inl rfl) e,mA,⟨od,es,ep,k _ _ (.inr d) e2,c⟩,r⟩
 | own y=>obtain ⟨ob,e⟩:=x;exact ⟨ob,k _ _ (.inl rfl) e⟩
 | xd fs=>obtain ⟨mA,⟨od,es,ep,e,c⟩,r⟩:=x;exact ⟨mA,⟨od,es,ep,k _ _ (.inl rfl) e,c⟩,r⟩
 | rng lo hi=>obtain ⟨t,u,v,e⟩:=x;exact ⟨t,u,v,k _ _ (.inl rfl) e⟩
 | frz ob u ih=>obtain ⟨e,q⟩:=x;exact ⟨k _ _ (.inl rfl) e,ih q⟩
 | tbl ps=>
  have e:h.get? a=some {cls:=.none,data:=.fields ps}:=x
  show h'.get? a=some {cls:=.none,data:=.fields ps}
  exact k a _ (.inl rfl) e
 | met f y=>
  have e:h.get? a=some (aaf (.ref f) (.ref y)):=x
  show h'.get? a=some (aaf (.ref f) (.ref y))
  exact k a _ (.inl rfl) e
 | ext φ=>obtain ⟨p,⟨o,e⟩,st⟩:=x;exact ⟨st _ _ p λo q=>k _ _ (.inl rfl) q,⟨o,k _ _ (.inl rfl) e⟩,st⟩
theorem gn.lt (x:gn P w H h) (e:H a=some o):a < h.objs.size:=(x a o e).lt
theorem gn.fresh (x:gn P w H h) (e:h.objs.size<=a):H a=none:=by
 cases q:H a with
 | none=>rfl
 | some u=>exact absurd (Vf (x.lt q) e) (Wr _)
theorem gn.kept (x:gn P w H h) (k:∀b u,h.get? b=some u->h'.get? b=some u):gn P w H h':=λa o e=>
 (x a o e).stay (λb u _ q=>k b u q) (λ_ q=>q) λ_ _ q=>q
theorem gn.laid (x:gn P w H h) (k:∀b u,h.get? b=some u->h'.get? b=some u) (hp:h.objs.size<=a) (new:cT P w (upd H a o) h' a o):gn P w (upd H a o) h':=λb u e=>by
 have hn:=x.fresh hp
 by_cases hb:b=a
 ·subst hb;rw [b9] at e;cases e;exact new
 ·rw [bD hb] at e
  exact (x b u e).stay (λc v _ q=>k c v q) (λc q=>by rw [bD (eU q hn)];exact q) λc xs q=>by rw [bD (eU q hn)];exact q
end
def Rd (H:Hp) (a:Vd) (u:HO):Prop:=H a=some u\/∃o,H a=some (.frz o u)
theorem Rd.ok {H:Hp}(r:Rd H a u) (x:gn P w H h):cT P w H h a u:=by
 rcases r with r | ⟨o,r⟩
 ·exact x a u r
 ·obtain ⟨_,q⟩:=x a _ r
  exact q
noncomputable def Jd:Option HO->Prop
 | some (.lst _)=>True
 | some (.dK _)=>True
 | some (.dT _)=>True
 | some (.set _ _)=>True
 | some (.ins _ _ _)=>True
 | some (.ext _)=>True
 | _=>False
section
variable {P:U6}{w:Vs}{H:Hp}{h h':V1}{x e:Vd}{o':HO}
theorem gn.write (ok:gn P w H h) (mu:Jd (H x)) (he:e=x\/H e=some (.own x)) (k:∀b u,b≠e->h.get? b=some u->h'.get? b=some u) (Su:∃u,h'.get? e=some u)
  (new:cT P w (upd H x o') h' x o'):gn P w (upd H x o') h':=λb u q=>by
 have nown:∀c y,H c=some (.own y)->c≠x:=λc y r z=>by subst z;rw [r] at mu;exact mu
 have ntup:∀c xs,H c=some (.tup xs)->c≠x:=λc xs r z=>by subst z;rw [r] at mu;exact mu
 by_cases hb:b=x
 ·subst hb;rw [b9] at q;cases q;exact new
 ·rw [bD hb] at q
  by_cases Sm:b=e
  ·have q':H b=some (.own x):=by
    rcases he with z | z
    ·exact absurd (Sm.trans z) hb
    ·rw [Sm];exact z
   rw [q] at q';cases q'
   obtain ⟨v,hv⟩:=Su
   exact ⟨v,by rw [Sm];exact hv⟩
  ·refine (ok b u q).stay (λc v hc r=>k c v ?_ r) (λc r=>by rw [bD (nown c b r)];exact r) λc xs r=>by rw [bD (ntup c xs r)];exact r
   rcases hc with rfl | hc
   ·exact Sm
   ·rintro rfl
    rcases he with z | z
    ·exact nown c b hc z
    ·rw [hc] at z;cases z;exact hb rfl
end
structure Un (fs ex:List Vd) (H H':Hp) (h h':V1):Prop where
 keep:∀b o,h.get? b=some o->H b=none->b∉fs->b∉ex->h'.get? b=some o
 slot:∀b o,h.get? b=some o->H b=none->b∈fs->b∉ex->∃sl,h'.get? b=some {o with slots:=sl}
 free:∀b o,h.get? b=some o->H b=none->b∉ex->H' b=none
 there:∀b o,h.get? b=some o->b∉ex->∃o',h'.get? b=some o'
 tups:∀b xs,H b=some (.tup xs)->H' b=some (.tup xs)
 frzs:∀b o u,H b=some (.frz o u)->H' b=some (.frz o u)
 tbls:∀b ps,H b=some (.tbl ps)->∃more,H' b=some (.tbl (ps++more))
section
variable {fs fs' ex ex':List Vd}{H H1 H2:Hp}{h h1 h2 h':V1}{a x e:Vd}{o:HO}
theorem Un.any (u:Un fs ex H H1 h h1) (q:h.get? b=some ob) (n:H b=none) (hx:b∉ex):∃sl,h1.get? b=some {ob with slots:=sl}:=by
 by_cases hb:b∈fs
 ·exact u.slot b ob q n hb hx
 ·exact ⟨ob.slots,u.keep b ob q n hb hx⟩
theorem Un.kept (k:∀b u,h.get? b=some u->h'.get? b=some u):Un fs ex H H h h':=
 ⟨λb ob q _ _ _=>k b ob q,λb ob q _ _ _=>⟨ob.slots,k b ob q⟩,λ_ _ _ n _=>n,λb ob q _=>⟨ob,k b ob q⟩,λ_ _ q=>q,λ_ _ _ q=>q,λ_ ps q=>⟨#[],by rw [q];simp⟩⟩
theorem Un.refl:Un fs ex H H h h:=Un.kept λ_ _ q=>q
theorem Un.laid (k:∀b u,h.get? b=some u->h'.get? b=some u) (hp:h.objs.size<=a) (hn:H a=none):Un fs ex H (upd H a o) h h' where
 keep:=λb u q _ _ _=>k b u q
 slot:=λb u q _ _ _=>⟨u.slots,k b u q⟩
 free:=λb u q n _=>by rw [bD (Vn (Vf (U7 q) hp))];exact n
 there:=λb u q _=>⟨u,k b u q⟩
 tups:=λb xs q=>by rw [bD (eU q hn)];exact q
 frzs:=λb u xs q=>by rw [bD (eU q hn)];exact q
 tbls:=λb ps q=>⟨#[],by rw [bD (eU q hn),q];simp⟩
theorem Un.write (mu:Jd (H x)) (he:e=x\/H e=some (.own x)) (k:∀b u,b≠e->h.get? b=some u->h'.get? b=some u) (Su:∃u,h'.get? e=some u):Un fs ex H (upd H x o) h h':=by
 have hx:∀b,H b=none->b≠x:=λb n z=>by subst z;rw [n] at mu;exact mu
 have hb:∀b,H b=none->b≠e:=λb n z=>by
  subst z
  rcases he with r | r
  ·exact hx b n r
  ·rw [n] at r;cases r
 have hm:∀b u,H b=some u->¬Jd (some u)->b≠x:=λb u q nm z=>by subst z;rw [q] at mu;exact nm mu
 refine ⟨λb u q n _ _=>k b u (hb b n) q,λb u q n _ _=>⟨u.slots,k b u (hb b n) q⟩,λb u q n _=>by rw [bD (hx b n)];exact n,λb u q _=>?_,
  λb xs q=>by rw [bD (hm b _ q λz=>z)];exact q,λb u xs q=>by rw [bD (hm b _ q λz=>z)];exact q,λb ps q=>⟨#[],by rw [bD (hm b _ q λz=>z),q];simp⟩⟩
 by_cases Sm:b=e
 ·subst Sm;exact Su
 ·exact ⟨u,k b u Sm q⟩
end
def GD (h:V1) (H:Hp):List Vd:=(UQ h.objs.size).filter λa=>(H a).isSome
def o_ (h:V1) (H:Hp):V1:=W.hideAll h (GD h H)
theorem Fv (h:V1) (H:Hp):(o_ h H).objs.size=h.objs.size:=W.hideAll_size _ _
theorem Hl {h:V1}{H:Hp}(e:h.get? b=some o) (n:H b=none):(o_ h H).get? b=some o:=
 W.hideAll_get _ e λhm=>by
  have q:(H b).isSome=true:=(VI.mp hm).2
  rw [n] at q;simp at q
theorem K3 {h:V1}{H:Hp}(e:(o_ h H).get? b=some o):h.get? b=some o/\H b=none:=by
 have e':h.get? b=some o:=W.of_hideAll (GD h H) e
 refine ⟨e',?_⟩
 cases q:H b with
 | none=>rfl
 | some x=>
  have hm:b∈GD h H:=VI.mpr ⟨U1.mpr (U7 e'),by simp [q]⟩
  have z:(o_ h H).get? b=none:=W.hideAll_none (GD h H) hm
  rw [z] at e;cases e
def Kd (g h:V1) (L:Vd):List (Vd×Obj):=(UQ h.objs.size).filterMap λa=>if a=L\/(g.get? a).isSome=true then none else (h.get? a).map λo=>(a,o)
def rest (g h:V1) (L d:Vd):List (Vd×Obj):=(Kd g h L).filter λp=>decide (p.1≠d)
structure Mod (K:UM) (mg:Str->Option UN) (base:V1):Prop where
 kin:K.In base
 glob:base.Ns Vi mg
 blt:∃mb,base.Ns adJ mb/\∀x:Str,x≠"__name__"->mb x=VR x
 nolimit:base.NoLimit
structure Cx where
 prog:U6
 w:Vs
 K:UM
 mg:Str->Option UN
 base:V1
 A:Vz
 N:List Str
 s₀:UP
 H₀:Hp
 env:Env
 outer:List Env
 stack:List Env
 ex:List Vd
 fn:Str->Bool
 calm:Bool
 pn:List (Vd×Obj)
 xe:UN->UP->Prop
def frs (l:List Env):List Vd:=l.filterMap (·.frame)
abbrev Cx.fs (X:Cx):List Vd:=frs X.outer
def sP (sc:Yc) (x:Str):Prop:=sc.names.lookup x=some .local\/sc.names.lookup x=some .cell\/sc.names.lookup x=some .free
def Loc (sc:Yc) (x:Str):Prop:=sc.names.lookup x=some .local\/sc.names.lookup x=some .cell
noncomputable def Look (env:Env) (h:V1) (m:Str->Option UN) (x:Str) (u:UN):Prop:=
 (env.kindOf x=some .local/\m x=some u)\/((env.kindOf x=some .cell\/env.kindOf x=some .free)/\∃c,env.cells.lookup x=some c/\h.IsCell c (some u))
structure Cx.Ok (X:Cx):Prop where
 mod:Mod X.K X.mg X.base
 kind:X.env.scope.kind=.function
 glob:X.env.globals=Vi
 blt:X.env.builtins=adJ
 above:X.s₀.heap.objs.size<=X.env.locals
 inj:∀x y c,X.env.cells.lookup x=some c->X.env.cells.lookup y=some c->x=y
 has:∀x,(X.env.kindOf x=some .cell\/X.env.kindOf x=some .free)->∃c,X.env.cells.lookup x=some c
 cab:∀x c,X.fn x=true->X.env.cells.lookup x=some c->X.s₀.heap.objs.size<=c
 hd:X.calm=true->X.A.handled=none
 frames:X.A.frames=some X.stack
 stk:X.stack=X.outer\/(X.stack=X.env::X.outer/\X.env.frame=some X.env.locals)
 exf:∀b∈X.ex,b≠X.env.locals/\∀x c,X.env.cells.lookup x=some c->c≠b
 bs:∀b o,X.base.get? b=some o->X.s₀.heap.get? b=some o/\X.H₀ b=none
 bsz:X.base.objs.size<=X.s₀.heap.objs.size
 noex:∀b o,X.base.get? b=some o->b∉X.ex
 exfs:∀b∈X.ex,b∉X.fs
 funs:X.s₀.heap.FunFrames X.base X.outer
 frf:∀b∈X.fs,X.H₀ b=none
structure Inv (X:Cx) (UB:List (Vd×Obj)) (σ:List (Option V)) (H:Hp) (s:UP):Prop where
 ok:X.Ok
 os:s.os=X.s₀.os
 bare:aar s.gens
 base:Un X.fs X.ex X.H₀ H X.s₀.heap s.heap
 loc:∃m,s.heap.Ns X.env.locals m/\∀(i:Nat) (x:Str) (v:V),X.N[i]?=some x->σ[i]?=some (some v)->sP X.env.scope x->∃u,RelV v u/\Look X.env s.heap m x u
 cell:∀x c,X.env.cells.lookup x=some c->∃v,s.heap.IsCell c v
 free:H X.env.locals=none
 freeC:∀x c,X.env.cells.lookup x=some c->H c=none
 pin:∀p∈X.pn++UB,s.heap.get? p.1=some p.2/\H p.1=none/\p.1≠X.env.locals/\p.1∉X.fs/\∀v,p.2.data≠.cell v
 hok:gn X.prog X.w H s.heap
 len:σ.length=X.N.length
section
variable {X:Cx}{UB:List (Vd×Obj)}{σ:List (Option V)}{H H':Hp}{s:UP}{h':V1}
theorem Cx.Ok.nofr (ok:X.Ok) (e:X.base.get? b=some o):b∉X.fs:=λhb=>by
 have:=(ok.funs.mem hb).1
 rw [e] at this;cases this
theorem Inv.bs (I:Inv X UB σ H s):∀b o,X.base.get? b=some o->s.heap.get? b=some o/\H b=none:=λb o e=>
 ⟨I.base.keep b o (I.ok.bs b o e).1 (I.ok.bs b o e).2 (I.ok.nofr e) (I.ok.noex b o e),I.base.free b o (I.ok.bs b o e).1 (I.ok.bs b o e).2 (I.ok.noex b o e)⟩
theorem Inv.bk (I:Inv X UB σ H s):∀b o,X.base.get? b=some o->s.heap.get? b=some o:=λb o e=>(I.bs b o e).1
theorem Inv.mod (I:Inv X UB σ H s):Mod X.K X.mg X.base:=I.ok.mod
theorem Inv.kIn (I:Inv X UB σ H s):X.K.In s.heap:=I.ok.mod.kin.keeps I.bk
theorem Inv.lt (I:Inv X UB σ H s):X.env.locals < s.heap.objs.size:=let ⟨_,hn,_⟩:=I.loc;hn.lt
theorem Inv.sz (I:Inv X UB σ H s):X.s₀.heap.objs.size<=s.heap.objs.size:=Vq I.ok.above (Z1 I.lt)
theorem Inv.nofs (I:Inv X UB σ H s) (h:s.heap.objs.size<=a):a∉X.fs:=λhb=>by
 obtain ⟨_,o,ho,_⟩:=I.ok.funs.mem hb
 exact absurd (Vf (U7 ho) (Vq I.sz h)) (Wr _)
theorem Inv.cne (I:Inv X UB σ H s):∀x c,X.env.cells.lookup x=some c->c≠X.env.locals:=λx c e z=>by
 obtain ⟨v,o,ho,hd⟩:=I.cell x c e
 obtain ⟨m,⟨o',es,ep,ho',hd',_⟩,_⟩:=I.loc
 rw [z,ho'] at ho;cases ho;rw [hd'] at hd;cases hd
theorem Inv.funs (I:Inv X UB σ H s):s.heap.FunFrames X.base X.outer:=by
 have all:∀(l:List Env),(∀b∈frs l,b∈X.fs)->X.s₀.heap.FunFrames X.base l->s.heap.FunFrames X.base l:=by
  intro l
  induction l with
  | nil=>intro _ _;trivial
  | cons env r ih=>
   intro hs hl
   obtain ⟨hk,⟨L,o,hf,hn,ho,hd⟩,hr⟩:=hl
   have hL:L∈X.fs:=hs L (by unfold frs;rw [YH,hf];exact UW)
   obtain ⟨sl,e⟩:=I.base.slot L o ho (I.ok.frf L hL) hL λz=>I.ok.exfs L z hL
   exact ⟨hk,⟨L,_,hf,hn,e,hd⟩,ih (λb hb=>hs b (by unfold frs;rw [YH,hf];exact UU _ hb)) hr⟩
 exact all X.outer (λ_ hb=>hb) I.ok.funs
theorem Inv.stack (I:Inv X UB σ H s):s.heap.FunFrames X.base X.stack:=by
 rcases I.ok.stk with e | ⟨e,hf⟩
 ·rw [e];exact I.funs
 ·rw [e]
  obtain ⟨m,hn,_⟩:=I.loc
  refine .cons (by rw [I.ok.kind];decide) hf hn ?_ I.funs
  exact Heap.get?_none_of_le (Vq I.ok.bsz I.ok.above)
theorem Inv.stkSub (I:Inv X UB σ H s):∀b∈frs X.stack,b∈X.env.locals::X.fs:=λb hb=>by
 rcases I.ok.stk with e | ⟨e,hf⟩
 ·rw [e] at hb;exact UU _ hb
 ·rw [e] at hb
  unfold frs at hb
  rw [YH,hf] at hb
  exact hb
theorem Inv.stkFree (I:Inv X UB σ H s):∀b∈frs X.stack,H b=none:=λb hb=>by
 rcases U8.mp (I.stkSub b hb) with e | hb
 ·rw [e];exact I.free
 ·obtain ⟨_,o,ho,_⟩:=I.ok.funs.mem hb
  exact I.base.free b o ho (I.ok.frf b hb) λz=>I.ok.exfs b z hb
theorem Inv.step {g':Array aeU}{t':Nat}{d':Drawn}{ch:List Vd}(I:Inv X UB σ H s)
  (hch:∀b∈ch,(b∈X.ex\/X.s₀.heap.objs.size<=b)/\b≠X.env.locals/\(∀x c,X.env.cells.lookup x=some c->c≠b)/\∀p∈X.pn++UB,p.1≠b)
  (keep:∀b o,b≠X.env.locals->b∉X.fs->b∉ch->s.heap.get? b=some o->H b=none->h'.get? b=some o)
  (slot:∀b o,b≠X.env.locals->b∈X.fs->b∉ch->s.heap.get? b=some o->H b=none->∃sl,h'.get? b=some {o with slots:=sl}) (free:∀b o,b∉ch->s.heap.get? b=some o->H b=none->H' b=none)
  (there:∀b o,b∉ch->s.heap.get? b=some o->∃o',h'.get? b=some o')
  (tups:∀b xs,H b=some (.tup xs)->H' b=some (.tup xs)) (frzs:∀b o u,H b=some (.frz o u)->H' b=some (.frz o u)) (tbls:∀b ps,H b=some (.tbl ps)->∃more,H' b=some (.tbl (ps++more)))
  (ns:∀m,s.heap.Ns X.env.locals m->h'.Ns X.env.locals m) (hok:gn X.prog X.w H' h') (hg:aar g'):
  Inv X UB σ H' {s with heap:=h',gens:=g',drawn:=d',toks:=t'}:=by
 have neL:∀b o,X.s₀.heap.get? b=some o->b≠X.env.locals:=λb o e=>Vn (Vf (U7 e) I.ok.above)
 have neC:∀b o,X.s₀.heap.get? b=some o->b∉X.ex->b∉ch:=λb o e hx hb=>by
  rcases (hch b hb).1 with z | z
  ·exact hx z
  ·exact absurd (Vf (U7 e) z) (Wr _)
 have cellK:∀x c,X.env.cells.lookup x=some c->∀v,s.heap.IsCell c v->h'.IsCell c v:=λx c e v ⟨o,ho,hd⟩=>by
  have nch:c∉ch:=λz=>(hch c z).2.2.1 x c e rfl
  by_cases hc:c∈X.fs
  ·obtain ⟨sl,q⟩:=slot c o (I.cne x c e) hc nch ho (I.freeC x c e)
   exact ⟨_,q,hd⟩
  ·exact ⟨o,keep c o (I.cne x c e) hc nch ho (I.freeC x c e),hd⟩
 refine ⟨I.ok,I.os,hg,⟨λb o e n hb hx=>?_,λb o e n hb hx=>?_,λb o e n hx=>?_,λb o e hx=>?_,λb xs e=>tups b xs (I.base.tups b xs e),λb o xs e=>frzs b o xs (I.base.frzs b o xs e),λb ps e=>?_⟩,?_,λx c e=>?_,?_,λx c e=>?_,λp hp=>?_,hok,I.len⟩
 ·exact keep b o (neL b o e) hb (neC b o e hx) (I.base.keep b o e n hb hx) (I.base.free b o e n hx)
 ·obtain ⟨sl,e1⟩:=I.base.slot b o e n hb hx
  obtain ⟨sl',e2⟩:=slot b _ (neL b o e) hb (neC b o e hx) e1 (I.base.free b o e n hx)
  exact ⟨sl',e2⟩
 ·obtain ⟨o',e1⟩:=I.base.there b o e hx
  exact free b o' (neC b o e hx) e1 (I.base.free b o e n hx)
 ·obtain ⟨o',e1⟩:=I.base.there b o e hx
  exact there b o' (neC b o e hx) e1
 ·obtain ⟨m1,e1⟩:=I.base.tbls b ps e
  obtain ⟨m2,e2⟩:=tbls b _ e1
  exact ⟨m1++m2,by rw [e2,Array.append_assoc]⟩
 ·obtain ⟨m,hn,hl⟩:=I.loc
  refine ⟨m,ns m hn,λi x v e1 e2 e3=>?_⟩
  obtain ⟨u,r,l⟩:=hl i x v e1 e2 e3
  refine ⟨u,r,?_⟩
  rcases l with l | ⟨k,c,e,z⟩
  ·exact .inl l
  ·exact .inr ⟨k,c,e,cellK x c e _ z⟩
 ·obtain ⟨v,z⟩:=I.cell x c e
  exact ⟨v,cellK x c e v z⟩
 ·obtain ⟨m,⟨o,_,_,ho,_⟩,_⟩:=I.loc
  exact free _ o (λz=>(hch _ z).2.1 rfl) ho I.free
 ·obtain ⟨v,o,ho,hd⟩:=I.cell x c e
  exact free c o (λz=>(hch c z).2.2.1 x c e rfl) ho (I.freeC x c e)
 ·obtain ⟨e,n,ne,nf,d⟩:=I.pin p hp
  have nch:p.1∉ch:=λz=>(hch p.1 z).2.2.2 p hp rfl
  exact ⟨keep p.1 p.2 ne nf nch e n,free p.1 p.2 nch e n,ne,nf,d⟩
theorem Inv.un (I:Inv X UB σ H s) (u:Un X.fs [] H H' s.heap h') (hok:gn X.prog X.w H' h'):Inv X UB σ H' {s with heap:=h',toks:=t'}:=by
 obtain ⟨m,⟨o,es,ep,ho,r⟩,_⟩:=id I.loc
 obtain ⟨sl,hL⟩:=u.any ho I.free (by simp)
 exact I.step (g':=s.gens) (d':=s.drawn) (ch:=[]) (λ_ z=>nomatch z) (λb o _ hb _ e n=>u.keep b o e n hb (by simp)) (λb o _ hb _ e n=>u.slot b o e n hb (by simp)) (λb o _ e n=>u.free b o e n (by simp)) (λb o _ e=>u.there b o e (by simp)) u.tups u.frzs u.tbls (λm' hm=>by
  obtain ⟨o',es',ep',ho',r'⟩:=hm
  rw [ho] at ho';cases ho'
  exact ⟨_,es',ep',hL,r'⟩) hok I.bare
theorem Inv.call (I:Inv X UB σ H s) (u:Un (frs X.stack) ch H H' s.heap h') (hok:gn X.prog X.w H' h') (hg:aar g')
 (hch:∀b∈ch,(b∈X.ex\/X.s₀.heap.objs.size<=b)/\b≠X.env.locals/\(∀x c,X.env.cells.lookup x=some c->c≠b)/\∀p∈X.pn++UB,p.1≠b):
  Inv X UB σ H' {s with heap:=h',gens:=g',drawn:=d',toks:=t'}:=by
 obtain ⟨m,⟨o,es,ep,ho,r⟩,_⟩:=id I.loc
 obtain ⟨sl,hL⟩:=u.any ho I.free λz=>(hch _ z).2.1 rfl
 exact I.step (ch:=ch) hch (λb o hL hb hc e n=>u.keep b o e n (λz=>(U8.mp (I.stkSub b z)).elim hL hb) hc) (λb o _ _ hc e n=>u.any e n hc) (λb o hc e n=>u.free b o e n hc) (λb o hc e=>u.there b o e hc) u.tups u.frzs u.tbls (λm' hm=>by
  obtain ⟨o',es',ep',ho',r'⟩:=hm
  rw [ho] at ho';cases ho'
  exact ⟨_,es',ep',hL,r'⟩) hok hg
theorem Inv.turned {t':Nat}{it:Vd}(I:Inv X UB σ H s) (k:∀b o,b≠it->s.heap.get? b=some o->h'.get? b=some o) (hn:H it=none) (hL:it≠X.env.locals)
  (h1:it∈X.ex\/X.s₀.heap.objs.size<=it) (h2:∀x c,X.env.cells.lookup x=some c->c≠it) (h3:∀p∈X.pn++UB,p.1≠it):Inv X UB σ H {s with heap:=h',toks:=t'}:=by
 have nit:∀b u,H b=some u->b≠it:=λb u e z=>by rw [z,hn] at e;cases e
 refine I.step (g':=s.gens) (d':=s.drawn) (ch:=[it]) (λb hb=>?_) (λb o _ _ hc e _=>k b o (λz=>hc (by simp [z])) e) (λb o _ _ hc e _=>⟨o.slots,k b o (λz=>hc (by simp [z])) e⟩) (λ_ _ _ _ n=>n)
  (λb o hc e=>⟨o,k b o (λz=>hc (by simp [z])) e⟩) (λ_ _ e=>e) (λ_ _ _ e=>e) (λb ps e=>⟨#[],by rw [e];simp⟩) (λm hm=>?_) (λb u e=>?_) I.bare
 ·have e:b=it:=by simpa using hb
  subst e
  exact ⟨h1,hL,h2,h3⟩
 ·obtain ⟨o,es,ep,ho,r⟩:=hm
  exact ⟨o,es,ep,k _ o (WT hL) ho,r⟩
 ·refine (I.hok b u e).stay (λc v hc q=>k c v ?_ q) (λ_ q=>q) λ_ _ q=>q
  rcases hc with z | z
  ·rw [z];exact nit b u e
  ·exact nit c _ z
theorem Inv.tok (I:Inv X UB σ H s) (t:Nat):Inv X UB σ H {s with toks:=t}:=I.un (h':=s.heap) (t':=t) Un.refl I.hok
theorem Inv.kept (I:Inv X UB σ H s) (k:∀b u,s.heap.get? b=some u->h'.get? b=some u):Inv X UB σ H {s with heap:=h',toks:=t'}:=I.un (Un.kept k) (I.hok.kept k)
theorem Inv.laid (I:Inv X UB σ H s) (k:∀b u,s.heap.get? b=some u->h'.get? b=some u) (hp:s.heap.objs.size<=a) (new:cT X.prog X.w (upd H a o) h' a o):
  Inv X UB σ (upd H a o) {s with heap:=h',toks:=t'}:=I.un (Un.laid k hp (I.hok.fresh hp)) (I.hok.laid k hp new)
theorem Inv.write (I:Inv X UB σ H s) (mu:Jd (H x)) (he:e=x\/H e=some (.own x)) (k:∀b u,b≠e->s.heap.get? b=some u->h'.get? b=some u) (Su:∃u,h'.get? e=some u)
 (new:cT X.prog X.w (upd H x o) h' x o):Inv X UB σ (upd H x o) {s with heap:=h',toks:=t'}:=I.un (Un.write mu he k Su) (I.hok.write mu he k Su new)
theorem Inv.pins_of (I:Inv X UB σ H s) (h:∀p∈pins',s.heap.get? p.1=some p.2/\H p.1=none/\p.1≠X.env.locals/\p.1∉X.fs/\∀v,p.2.data≠.cell v):Inv X pins' σ H s:=
 ⟨I.ok,I.os,I.bare,I.base,I.loc,I.cell,I.free,I.freeC,λp hp=>(Vj.mp hp).elim (λz=>I.pin p (Xz _ z)) (h p),I.hok,I.len⟩
theorem AI {N:List Str}(hN:N.Nodup){i j:Nat}{x:Str}(a:N[i]?=some x) (b:N[j]?=some x):i=j:=by
 obtain ⟨h1,e1⟩:=Vo.mp a
 obtain ⟨h2,e2⟩:=Vo.mp b
 exact (aaG hN).mp (e1.trans e2.symm)
theorem yt {M:aey}{E:UN->UP->Prop}{Q:Unit->UP->Prop}(I:Inv X UB σ H s) (hN:X.N.Nodup) (hi:X.N[i]?=some x) (hx:Loc X.env.scope x) (r:RelV v u)
 (h:∀s',Inv X UB (σ.set i (some v)) H s'->(∃a,VL a s.heap s'.heap/\(a=X.env.locals\/X.env.cells.lookup x=some a))->Q () s') (hf:X.fn x=true\/X.env.scope.names.lookup x=some .local:=by first | exact .inl rfl | exact .inr rfl | assumption):U9 M A (aem X.env x u) Q E s:=by
 obtain ⟨m,hn,hl⟩:=id I.loc
 have hcls:(X.env.scope.kind == .class || (X.env.scope.kind == .module && X.env.locals != X.env.globals))=false:=by rw [I.ok.kind];rfl
 have hiσ:i < σ.length:=by rw [I.len];exact (Vo.mp hi).1
 have cne:=I.cne
 have tracked:∀{a:Vd}{h':V1},(∃o,s.heap.get? a=some o/\H a=none)->VL a s.heap h'->gn X.prog X.w H h':=fun {a h'} ha hs b ob e=>by
  obtain ⟨_,_,hfree⟩:=ha
  refine (I.hok b ob e).stay (λc w' hc q=>(hs.2 c ?_).trans q) (λ_ q=>q) λ_ _ q=>q
  rintro rfl
  rcases hc with rfl | hc
  ·rw [hfree] at e;cases e
  ·rw [hfree] at hc;cases hc
 rcases hx with hk | hk
 ·refine wpAny_storeName_local hk hn (λh' hn' hs=>?_) hcls
  obtain ⟨oL,_,_,Uh,_⟩:=id hn
  refine h _ ⟨I.ok,I.os,I.bare,⟨λb o e n hb hx=>?_,λb o e n hb hx=>?_,I.base.free,λb o e hx=>?_,I.base.tups,I.base.frzs,I.base.tbls⟩,⟨_,hn',λj y v' e1 e2 e3=>?_⟩,λy c e=>?_,I.free,I.freeC,λp hp=>?_,tracked ⟨oL,Uh,I.free⟩ hs,by simpa using I.len⟩ ⟨_,hs,.inl rfl⟩
  ·exact (hs.2 b (Vn (Vf (U7 e) I.ok.above))).trans (I.base.keep b o e n hb hx)
  ·obtain ⟨sl,e1⟩:=I.base.slot b o e n hb hx
   exact ⟨sl,(hs.2 b (Vn (Vf (U7 e) I.ok.above))).trans e1⟩
  ·obtain ⟨o',e1⟩:=I.base.there b o e hx
   exact ⟨o',(hs.2 b (Vn (Vf (U7 e) I.ok.above))).trans e1⟩
  ·by_cases hj:j=i
   ·subst hj
    rw [hi] at e1;cases e1
    rw [Wk hiσ] at e2
    cases e2
    exact ⟨u,r,.inl ⟨hk,by simp⟩⟩
   ·rw [VF (WT hj)] at e2
    obtain ⟨u',r',q⟩:=hl j y v' e1 e2 e3
    refine ⟨u',r',?_⟩
    rcases q with ⟨k,e⟩ | ⟨k,c,e,z⟩
    ·refine .inl ⟨k,?_⟩
     have:y≠x:=λe=>hj (AI hN e1 (e▸hi))
     simp [this,e]
    ·exact .inr ⟨k,c,e,z.sameBut hs (cne y c e)⟩
  ·obtain ⟨w',z⟩:=I.cell y c e
   exact ⟨w',z.sameBut hs (cne y c e)⟩
  ·obtain ⟨e,n,ne,nf,d⟩:=I.pin p hp
   exact ⟨(hs.2 p.1 ne).trans e,n,ne,nf,d⟩
 ·have hfn:X.fn x=true:=by
   rcases hf with z | z
   ·exact z
   ·rw [z] at hk;cases hk
  obtain ⟨c,hc⟩:=I.ok.has x (.inl hk)
  obtain ⟨w',z⟩:=I.cell x c hc
  refine wpAny_storeName_cell I.ok.kind hk hc z (λh' hc' hs=>?_)
  obtain ⟨oc,hoc,Te⟩:=id z
  refine h {s with heap:=h'} ⟨I.ok,I.os,I.bare,⟨λb o e n hb hx=>?_,λb o e n hb hx=>?_,I.base.free,λb o e hx=>?_,I.base.tups,I.base.frzs,I.base.tbls⟩,⟨m,hn.sameBut hs (WT (cne x c hc)),λj y v' e1 e2 e3=>?_⟩,λy c' e=>?_,I.free,I.freeC,λp hp=>?_,tracked ⟨oc,hoc,I.freeC x c hc⟩ hs,by simpa using I.len⟩ ⟨c,hs,.inr hc⟩
  ·exact (hs.2 b (Vn (Vf (U7 e) (I.ok.cab x c hfn hc)))).trans (I.base.keep b o e n hb hx)
  ·obtain ⟨sl,e1⟩:=I.base.slot b o e n hb hx
   exact ⟨sl,(hs.2 b (Vn (Vf (U7 e) (I.ok.cab x c hfn hc)))).trans e1⟩
  ·obtain ⟨o',e1⟩:=I.base.there b o e hx
   exact ⟨o',(hs.2 b (Vn (Vf (U7 e) (I.ok.cab x c hfn hc)))).trans e1⟩
  ·by_cases hj:j=i
   ·subst hj
    rw [hi] at e1;cases e1
    rw [Wk hiσ] at e2
    cases e2
    exact ⟨u,r,.inr ⟨.inl hk,c,hc,hc'⟩⟩
   ·rw [VF (WT hj)] at e2
    obtain ⟨u',r',q⟩:=hl j y v' e1 e2 e3
    refine ⟨u',r',?_⟩
    rcases q with q | ⟨k,c',e,z'⟩
    ·exact .inl q
    ·refine .inr ⟨k,c',e,z'.sameBut hs ?_⟩
     rintro rfl
     exact hj (AI hN e1 (I.ok.inj _ _ _ e hc▸hi))
  ·by_cases hcc:c'=c
   ·subst hcc;exact ⟨_,hc'⟩
   ·obtain ⟨w2,z2⟩:=I.cell y c' e
    exact ⟨w2,z2.sameBut hs hcc⟩
  ·obtain ⟨e,n,ne,nf,d⟩:=I.pin p hp
   refine ⟨(hs.2 p.1 ?_).trans e,n,ne,nf,d⟩
   intro q
   rw [q,hoc] at e
   have q':oc=p.2:=V2 e
   exact d w' (by rw [<-q'];exact Te)
theorem uD {M:aey}{E:UN->UP->Prop}{Q:Unit->UP->Prop}(I:Inv X UB σ H s) (hN:X.N.Nodup) (hi:X.N[i]?=some x) (hx:Loc X.env.scope x) (r:RelV v u)
 (h:∀s',Inv X UB (σ.set i (some v)) H s'->Q () s') (hf:X.fn x=true\/X.env.scope.names.lookup x=some .local:=by first | exact .inl rfl | exact .inr rfl | assumption):U9 M A (aem X.env x u) Q E s:=
 yt I hN hi hx r (λs' I' _=>h s' I') hf
theorem Inv.call' {s':UP}(I:Inv X UB σ H s) (ho:s'.os=s.os) (u:Un (frs X.stack) ch H H' s.heap s'.heap) (hok:gn X.prog X.w H' s'.heap) (hg:aar s'.gens)
 (hch:∀b∈ch,(b∈X.ex\/X.s₀.heap.objs.size<=b)/\b≠X.env.locals/\(∀x c,X.env.cells.lookup x=some c->c≠b)/\∀p∈X.pn++UB,p.1≠b):Inv X UB σ H' s':=by
 obtain ⟨h',g',d',t',o'⟩:=s'
 have e:o'=s.os:=ho
 subst e
 exact I.call (g':=g') (t':=t') (d':=d') u hok hg hch
end
abbrev XK:=UN->Option Vd->Hp->Prop
abbrev St:=List (Option V)
abbrev VK:=V->Hp->Prop
abbrev TE:=St->Hp->VK->Prop
abbrev TT:=St->Hp->(Bool->Hp->Prop)->Prop
abbrev TA:=St->Hp->(List V->Hp->Prop)->Prop
structure Ends where
 nx:St->Hp->Prop
 rt:VK
 bk:St->Hp->Prop:=λ_ _=>False
 ct:St->Hp->Prop:=λ_ _=>False
abbrev TS:=Ends->St->Hp->Prop
def EP (X:Cx) (UB:List (Vd×Obj)) (σ:St) (Q:VK) (u:UN) (s':UP):Prop:=∃v H',Inv X UB σ H' s'/\RelV v u/\Q v H'
def TP (X:Cx) (UB:List (Vd×Obj)) (σ:St) (Q:Bool->Hp->Prop) (b:Bool) (s':UP):Prop:=∃H',Inv X UB σ H' s'/\Q b H'
def AP (X:Cx) (UB:List (Vd×Obj)) (σ:St) (Q:List V->Hp->Prop) (us:List UN) (s':UP):Prop:=∃vs H',Inv X UB σ H' s'/\Vals vs us/\Q vs H'
noncomputable def SP (X:Cx) (UB:List (Vd×Obj)) (D:Ends) (f:Flow) (s':UP):Prop:=
 match f with
 | .next=>∃σ' H',Inv X UB σ' H' s'/\D.nx σ' H'
 | .brk=>∃σ' H',Inv X UB σ' H' s'/\D.bk σ' H'
 | .cont=>∃σ' H',Inv X UB σ' H' s'/\D.ct σ' H'
 | .ret u=>∃v σ' H',Inv X UB σ' H' s'/\RelV v u/\D.rt v H'
noncomputable def PE (X:Cx) (e:Vv) (t:TE):Prop:=
 ∀(UB:List (Vd×Obj)) (s:UP) (σ:St) (H:Hp) (Q:VK),Inv X UB σ H s->t σ H Q->U9 (Vg X.prog X.w) X.A (eval e X.env) (EP X UB σ Q) X.xe s
noncomputable def PT (X:Cx) (e:Vv) (t:TT):Prop:=
 ∀(UB:List (Vd×Obj)) (s:UP) (σ:St) (H:Hp) (Q:Bool->Hp->Prop),Inv X UB σ H s->t σ H Q->U9 (Vg X.prog X.w) X.A (abw e X.env (eval e X.env)) (TP X UB σ Q) X.xe s
noncomputable def PW (X:Cx) (e:Vv) (t:TT):Prop:=
 ∀(whole:Sem UN) (UB:List (Vd×Obj)) (s:UP) (σ:St) (H:Hp) (Q:Bool->Hp->Prop),Inv X UB σ H s->t σ H Q->U9 (Vg X.prog X.w) X.A (abw e X.env whole) (TP X UB σ Q) X.xe s
theorem PW.pt (h:PW X e t):PT X e t:=h _
noncomputable def PA (X:Cx) (es:List Vv) (t:TA):Prop:=
 ∀(pos:Pos) (UB:List (Vd×Obj)) (s:UP) (σ:St) (H:Hp) (Q:List V->Hp->Prop),Inv X UB σ H s->t σ H Q->U9 (Vg X.prog X.w) X.A (spliced (Wu pos (UZ es X.env))) (AP X UB σ Q) X.xe s
noncomputable def PS (X:Cx) (st:Xd) (t:TS):Prop:=
 ∀(UB:List (Vd×Obj)) (s:UP) (σ:St) (H:Hp) (D:Ends),Inv X UB σ H s->t D σ H->U9 (Vg X.prog X.w) X.A (exec st X.env) (SP X UB D) X.xe s
noncomputable def kH (X:Cx) (st:List Xd) (t:TS):Prop:=
 ∀(UB:List (Vd×Obj)) (s:UP) (σ:St) (H:Hp) (D:Ends),Inv X UB σ H s->t D σ H->U9 (Vg X.prog X.w) X.A (execs st X.env) (SP X UB D) X.xe s
theorem bP {α:Type}{t:Sem α}{Q Q':α->UP->Prop}{M:aey}{A:Vz}{E:UN->UP->Prop}{s:UP}(h:U9 M A t Q E s) (hQ:∀a s,Q a s->Q' a s):U9 M A t Q' E s:=VN h hQ λ_ _ x=>x
section
variable {X:Cx}
theorem bin {a b:Vv}{ta tb:TE}(ha:PE X a ta) (hb:PE X b tb){UB:List (Vd×Obj)}{s:UP}{σ:St}{H:Hp}{R:V->V->Hp->Prop}(I:Inv X UB σ H s) (h:ta σ H λx H1=>tb σ H1 λy H2=>R x y H2)
  {α:Type}{Q:α->UP->Prop}{f:UN->UN->Sem α}
  (hf:∀v u s2 x y H2,Inv X UB σ H2 s2->RelV x v->RelV y u->R x y H2->U9 (Vg X.prog X.w) X.A (f v u) Q X.xe s2):
  U9 (Vg X.prog X.w) X.A (eval a X.env) (λv s₁=>U9 (Vg X.prog X.w) X.A (eval b X.env) (λu s₂=>U9 (Vg X.prog X.w) X.A (f v u) Q X.xe s₂) X.xe s₁) X.xe s:=by
 refine bP (ha UB s σ H _ I h) λv s1 ⟨x,H1,I1,r1,q1⟩=>?_
 refine bP (hb UB s1 σ H1 _ I1 q1) λu s2 ⟨y,H2,I2,r2,q2⟩=>?_
 exact hf v u s2 x y H2 I2 r1 r2 q2
def Oj (i:Nat):TE:=λσ H Q=>∃v,σ[i]?=some (some v)/\Q v H
def tC (v:V):TE:=λ_ H Q=>Q v H
theorem lO {pos:Pos}(hN:X.N[i]?=some x) (hv:sP X.env.scope x) (hd:(x == ("__debug__":Str))=false:=by decide) (hcd:(x == ("__classdict__":Str))=false:=by decide):PE X (.Name x pos) (Oj i):=by
 intro UB s σ H Q I h
 obtain ⟨v,e,h⟩:=h
 obtain ⟨m,hn,hl⟩:=I.loc
 obtain ⟨u,r,l⟩:=hl i x v hN e hv
 have fin:EP X UB σ Q u s:=⟨v,H,I,r,h⟩
 rcases l with ⟨hk,hm⟩ | ⟨hk,c,hc,hcell⟩
 ·exact adK (abo I.ok.kind hk hn hm fin) hd
 ·rcases hk with hk | hk
  ·exact adK (abD I.ok.kind hk hc hcell fin) hd
  ·exact adK (wpAny_loadName_free I.ok.kind hk hc hcell fin hcd) hd
theorem F7 {i j pos}:PE X (.Constant (.int i) j pos) (tC (.int i)):=λ_ _ _ H _ I h=>wpAny_Constant_int ⟨.int i,H,I.tok _,⟨_,rfl⟩,h⟩
theorem OZ {b j pos}:PE X (.Constant (.bool b) j pos) (tC (.bl b)):=λ_ _ _ H _ I h=>Constant_bool ⟨.bl b,H,I,rfl,h⟩
theorem NF {j pos}:PE X (.Constant .none j pos) (tC .non):=λ_ _ _ H _ I h=>Constant_none ⟨.non,H,I,rfl,h⟩
theorem NI {x j pos}:PE X (.Constant (.str x) j pos) (tC (.str x)):=λ_ _ _ H _ I h=>Calls.Constant_str ⟨.str x,H,I.tok _,⟨_,rfl⟩,h⟩
def Gl (X:Cx) (x:Str):Prop:=X.env.kindOf x=some .globalImplicit
theorem Ci {E:UN->UP->Prop}{H:Hp}{pos:Pos}{Q:UN->UP->Prop}(I:Inv X UB σ H s) (hg:Gl X x) (hm:X.mg x=some u) (h:Q u s)
 (hd:(x == ("__debug__":Str))=false:=by decide):U9 (Vg X.prog X.w) X.A (eval (.Name x pos) X.env) Q E s:=
 ZX I.ok.kind hg (Calls.loadGlobal_global (by rw [I.ok.glob];exact I.mod.glob.keeps I.bk) hm h) hd
theorem qL {E:UN->UP->Prop}{H:Hp}{pos:Pos}{Q:UN->UP->Prop}(I:Inv X UB σ H s) (hg:Gl X x) (hm:X.mg x=none) (hv:VR x=some u) (h:Q u s)
 (hn:x≠"__name__":=by decide) (hd:(x == ("__debug__":Str))=false:=by decide):U9 (Vg X.prog X.w) X.A (eval (.Name x pos) X.env) Q E s:=by
 obtain ⟨mb,h1,h2⟩:=I.mod.blt
 exact ZX I.ok.kind hg (Calls.loadGlobal_builtin (by rw [I.ok.glob];exact I.mod.glob.keeps I.bk) hm (by rw [I.ok.blt];exact h1.keeps I.bk) ((h2 x hn).trans hv) h) hd
theorem Cq {pos:Pos}(hg:Gl X x) (hm:X.mg x=some u) (r:RelV v u) (hd:(x == ("__debug__":Str))=false:=by decide):PE X (.Name x pos) (tC v):=
 λ_ _ _ H _ I h=>Ci I hg hm ⟨v,H,I,r,h⟩ hd
theorem Lf {pos:Pos}(hg:Gl X x) (hm:X.mg x=none) (hv:VR x=some u) (r:RelV v u) (hn:x≠"__name__":=by decide) (hd:(x == ("__debug__":Str))=false:=by decide):PE X (.Name x pos) (tC v):=
 λ_ _ _ H _ I h=>qL I hg hm hv ⟨v,H,I,r,h⟩ hn hd
variable {a b:Vv}{ta tb:TE}{pos:Pos}
noncomputable def PC (X:Cx) (op:CmpOp) (a b:Vv) (t:TE):Prop:=
 ∀(UB:List (Vd×Obj)) (s:UP) (σ:St) (H:Hp) (Q:VK),Inv X UB σ H s->t σ H Q->
  U9 (Vg X.prog X.w) X.A (eval a X.env) (λv s₁=>U9 (Vg X.prog X.w) X.A (eval b X.env) (λu s₂=>U9 (Vg X.prog X.w) X.A (Wl op v u) (EP X UB σ Q) X.xe s₂) X.xe s₁) X.xe s
theorem HL (b:Vv) (h:op≠.In) (h2:op≠.NotIn):V9 op b=false:=by
 have e1:(op == afl)=false:=by cases op <;> first | rfl | exact absurd rfl h
 have e2:(op == aez)=false:=by cases op <;> first | rfl | exact absurd rfl h2
 cases b <;> simp [V9,e1,e2]
def tB (t:TE):TT:=λσ H Q=>t σ H λx H1=>∃c,x=.bl c/\Q c H1
theorem Q5 {op:CmpOp}{t:TE}(h:PC X op a b t) (h1:V9 op b=false:=by first | exact HL _ (by decide) (by decide) | rfl):PT X (.Compare a [op] [b] pos) (tB t):=by
 intro UB s σ H Q I hw
 refine aaW (bP (h UB s σ H _ I hw) λv s1 h1=>bP h1 λu s2 h2=>bP h2 λc s3 ⟨x,H1,I1,r1,q1⟩=>?_) h1
 obtain ⟨d,rfl,q⟩:=q1
 cases r1
 exact V6 ⟨H1,I1,q⟩
theorem NU {e:Vv}{t:TE}(h:PE X e t) (he:∀whole,abw e X.env whole=(do let v <-whole;Yd e.pos;holding [v] (truthy v)):=by intro _;rfl):PT X e (tB t):=by
 intro UB s σ H Q I hw
 refine isTrue_plain (bP (h UB s σ H _ I hw) λv s1 ⟨x,H1,I1,r1,q1⟩=>?_) (he _)
 obtain ⟨d,rfl,q⟩:=q1
 cases r1
 exact V6 ⟨H1,I1,q⟩
variable {tA tB':TT}{rest:List Vv}
def QG (t u:TT):TT:=λσ H Q=>t σ H λc H1=>if c=true then u σ H1 Q else Q false H1
def Q_ (t u:TT):TT:=λσ H Q=>t σ H λc H1=>if c=true then Q true H1 else u σ H1 Q
def QL (t:TT):TT:=λσ H Q=>t σ H λc H1=>Q (!c) H1
theorem Lp (ha:PT X a tA):PW X (.BoolOp .And [a] pos) tA:=by
 intro wh UB s σ H Q I h
 refine isTrue_and (bP (ha UB s σ H Q I h) λc s1 e=>?_)
 cases c with
 | true=>exact isTrue_and_nil e
 | false=>exact e
theorem NZ (ha:PT X a tA):PW X (.BoolOp .Or [a] pos) tA:=by
 intro wh UB s σ H Q I h
 refine isTrue_or (bP (ha UB s σ H Q I h) λc s1 e=>?_)
 cases c with
 | false=>exact isTrue_or_nil e
 | true=>exact e
theorem NY (ha:PT X a tA) (hb:PW X (.BoolOp .And (b::rest) pos) tB'):PW X (.BoolOp .And (a::b::rest) pos) (QG tA tB'):=by
 intro wh UB s σ H Q I h
 refine isTrue_and (bP (ha UB s σ H _ I h) λc s1 ⟨H1,I1,q1⟩=>?_)
 cases c with
 | true=>exact hb wh UB s1 σ H1 Q I1 q1
 | false=>exact ⟨H1,I1,q1⟩
theorem O7 (ha:PT X a tA) (hb:PW X (.BoolOp .Or (b::rest) pos) tB'):PW X (.BoolOp .Or (a::b::rest) pos) (Q_ tA tB'):=by
 intro wh UB s σ H Q I h
 refine isTrue_or (bP (ha UB s σ H _ I h) λc s1 ⟨H1,I1,q1⟩=>?_)
 cases c with
 | true=>exact ⟨H1,I1,q1⟩
 | false=>exact hb wh UB s1 σ H1 Q I1 q1
theorem NT (ha:PT X a tA):PT X (.UnaryOp .Not a pos) (QL tA):=by
 intro UB s σ H Q I h
 exact isTrue_not (ha UB s σ H (λc H1=>Q (!c) H1) I h)
def Ph (ta tb:TE):TE:=λσ H Q=>ta σ H λx H1=>∃c,x=.bl c/\if c=true then tb σ H1 Q else Q (.bl false) H1
def QM (ta tb:TE):TE:=λσ H Q=>ta σ H λx H1=>∃c,x=.bl c/\if c=true then Q (.bl true) H1 else tb σ H1 Q
def Pp (ta:TE):TE:=λσ H Q=>ta σ H λx H1=>∃c,x=.bl c/\Q (.bl (!c)) H1
theorem NH {op}{t:TE}(h:PE X a t):PE X (.BoolOp op [a] pos) t:=λUB s σ H Q I hw=>BoolOp_one (h UB s σ H Q I hw)
theorem NC (ha:PE X a ta) (hb:PE X (.BoolOp .And (b::rest) pos) tb):PE X (.BoolOp .And (a::b::rest) pos) (Ph ta tb):=by
 intro UB s σ H Q I h
 refine BoolOp_and (bP (ha UB s σ H _ I h) λv s1 ⟨x,H1,I1,r1,q1⟩=>?_)
 obtain ⟨c,rfl,q1⟩:=q1
 cases r1
 refine V6 ?_
 cases c with
 | true=>exact hb UB s1 σ H1 Q I1 q1
 | false=>exact ⟨.bl false,H1,I1,rfl,q1⟩
theorem O4 (ha:PE X a ta) (hb:PE X (.BoolOp .Or (b::rest) pos) tb):PE X (.BoolOp .Or (a::b::rest) pos) (QM ta tb):=by
 intro UB s σ H Q I h
 refine BoolOp_or (bP (ha UB s σ H _ I h) λv s1 ⟨x,H1,I1,r1,q1⟩=>?_)
 obtain ⟨c,rfl,q1⟩:=q1
 cases r1
 refine V6 ?_
 cases c with
 | false=>exact hb UB s1 σ H1 Q I1 q1
 | true=>exact ⟨.bl true,H1,I1,rfl,q1⟩
theorem NG (ha:PE X a ta):PE X (.UnaryOp .Not a pos) (Pp ta):=by
 intro UB s σ H Q I h
 refine UnaryOp_ (bP (ha UB s σ H _ I h) λv s1 ⟨x,H1,I1,r1,q1⟩=>?_)
 obtain ⟨c,rfl,q1⟩:=q1
 cases r1
 exact not_of (V6 ⟨.bl (!c),H1,I1,rfl,q1⟩)
end
noncomputable def cB (K:UM) (H:Hp) (a:Vd) (xs:List V):Prop:=
 Rd H a (.lst xs)\/
  ∃(o:Obj) (UC:Array UN) (n:Nat),K.lookup a=some o/\o.cls=.type "list"/\o.dict=none/\o.data=.seq UC n/\UC.size<=sizeLine/\Vals xs UC.toList
noncomputable def dg (K:UM) (H:Hp) (a:Vd) (xs:List V):Prop:=
 Rd H a (.tup xs)\/
  ∃(o:Obj) (UC:Array UN) (n:Nat),K.lookup a=some o/\o.cls=.type "tuple"/\o.data=.seq UC n/\UC.size<=sizeLine/\Vals xs UC.toList
noncomputable def Qh:UN->Option V
 | .none=>some .non
 | .bool b=>some (.bl b)
 | .int i _=>some (.int i)
 | .str x _=>some (.str x)
 | .bytes b _=>some (.byt b)
 | .float b _=>some (.flt b)
 | .ref a=>some (.ref a)
 | .type n=>some (.ty n)
 | _=>none
theorem RelV.abs (r:RelV x u):Qh u=some x:=by
 cases x with
 | non=>cases r;rfl
 | bl _=>cases r;rfl
 | int _=>obtain ⟨t,rfl⟩:=r;rfl
 | str _=>obtain ⟨t,rfl⟩:=r;rfl
 | byt _=>obtain ⟨t,rfl⟩:=r;rfl
 | flt _=>obtain ⟨t,rfl⟩:=r;rfl
 | ref _=>cases r;rfl
 | ty _=>cases r;rfl
theorem RelV.inj (r:RelV x u) (q:RelV y u):x=y:=V2 (r.abs.symm.trans q.abs)
theorem Vals.inj:∀{xs ys:List V}{us:List UN},Vals xs us->Vals ys us->xs=ys
 | _,_,_,.nil,.nil=>rfl
 | _,_,_,.cons r t,.cons r' t'=>by rw [r.inj r',Vals.inj t t']
section
variable {X:Cx}{UB:List (Vd×Obj)}{σ:St}{H:Hp}{s:UP}{a:Vd}{xs ys:List V}
theorem cB.of {K:UM}(h:H a=some (.lst xs)):cB K H a xs:=.inl (.inl h)
theorem Inv.list (I:Inv X UB σ H s) (h:cB X.K H a xs):∃UC:List UN,Vals xs UC/\PlainL s.heap a UC.toArray/\xs.length<=sizeLine:=by
 rcases h with h | ⟨o,UC,n,hk,hc,hd,hs,hz,r⟩
 ·obtain ⟨z,UC,n,r,e⟩:=h.ok I.hok
  exact ⟨UC,r,⟨_,n,e,rfl,rfl,rfl⟩,z⟩
 ·refine ⟨UC.toList,r,⟨o,n,I.kIn a o hk,hc,hd,by simpa using hs⟩,?_⟩
  have e:=r.length
  simp only [Vb] at e
  omega
theorem Inv.tuple (I:Inv X UB σ H s) (h:dg X.K H a xs):∃UC:List UN,Vals xs UC/\aex s.heap a UC.toArray/\xs.length<=sizeLine:=by
 rcases h with h | ⟨o,UC,n,hk,hc,hs,hz,r⟩
 ·obtain ⟨z,UC,r,p⟩:=h.ok I.hok
  exact ⟨UC,r,p,z⟩
 ·refine ⟨UC.toList,r,⟨o,I.kIn a o hk,hc,n,by simpa using hs⟩,?_⟩
  have e:=r.length
  simp only [Vb] at e
  omega
theorem Inv.list_inj (I:Inv X UB σ H s) (h:cB X.K H a xs) (h':cB X.K H a ys):xs=ys:=by
 obtain ⟨UC,r,⟨o,n,e,_,_,d⟩,_⟩:=I.list h
 obtain ⟨its',r',⟨o',n',e',_,_,d'⟩,_⟩:=I.list h'
 rw [e] at e';cases e'
 rw [d] at d'
 injection d' with d1 _
 have:UC=its':=by simpa using congrArg aaX d1
 subst this
 exact r.inj r'
theorem Inv.tuple_inj (I:Inv X UB σ H s) (h:dg X.K H a xs) (h':dg X.K H a ys):xs=ys:=by
 obtain ⟨UC,r,⟨o,e,_,n,d⟩,_⟩:=I.tuple h
 obtain ⟨its',r',⟨o',e',_,n',d'⟩,_⟩:=I.tuple h'
 rw [e] at e';cases e'
 rw [d] at d'
 injection d' with d1 _
 have:UC=its':=by simpa using congrArg aaX d1
 subst this
 exact r.inj r'
end
abbrev Cx.wish (X:Cx) (E:UN->UP->Prop):Cx:={X with xe:=E}
abbrev Cx.nox (X:Cx):Cx:=X.wish λ_ _=>False
theorem Cx.Ok.wish {X:Cx}(ok:X.Ok) (E:UN->UP->Prop):(X.wish E).Ok:=
 ⟨ok.mod,ok.kind,ok.glob,ok.blt,ok.above,ok.inj,ok.has,ok.cab,ok.hd,ok.frames,ok.stk,ok.exf,ok.bs,ok.bsz,ok.noex,ok.exfs,ok.funs,ok.frf⟩
theorem Cx.Ok.unwish {X:Cx}{E:UN->UP->Prop}(ok:(X.wish E).Ok):X.Ok:=
 ⟨ok.mod,ok.kind,ok.glob,ok.blt,ok.above,ok.inj,ok.has,ok.cab,ok.hd,ok.frames,ok.stk,ok.exf,ok.bs,ok.bsz,ok.noex,ok.exfs,ok.funs,ok.frf⟩
section
variable {X:Cx}{UB:List (Vd×Obj)}{σ:St}{H:Hp}{s:UP}{E:UN->UP->Prop}
theorem Inv.wish (I:Inv X UB σ H s) (E:UN->UP->Prop):Inv (X.wish E) UB σ H s:=⟨I.ok.wish E,I.os,I.bare,I.base,I.loc,I.cell,I.free,I.freeC,I.pin,I.hok,I.len⟩
theorem Inv.unwish (I:Inv (X.wish E) UB σ H s):Inv X UB σ H s:=⟨I.ok.unwish,I.os,I.bare,I.base,I.loc,I.cell,I.free,I.freeC,I.pin,I.hok,I.len⟩
theorem SP.unwish {D:Ends}(h:SP (X.wish E) UB D f s'):SP X UB D f s':=by
 cases f with
 | next=>obtain ⟨σ',H',I,q⟩:=h;exact ⟨σ',H',I.unwish,q⟩
 | brk=>obtain ⟨σ',H',I,q⟩:=h;exact ⟨σ',H',I.unwish,q⟩
 | cont=>obtain ⟨σ',H',I,q⟩:=h;exact ⟨σ',H',I.unwish,q⟩
 | ret u=>obtain ⟨v,σ',H',I,r,q⟩:=h;exact ⟨v,σ',H',I.unwish,r,q⟩
theorem kH.nox {st:List Xd}{t:TS}(h:kH X.nox st t):kH X st t:=λUB s σ H D I hw=>
 VN (h UB s σ H D (I.wish _) hw) (λ_ _ q=>q.unwish) λ_ _ z=>Yl z
end
section
variable {X:Cx}{st:Xd}{rest:List Xd}{t u:TS}{e:Vv}{te:TE}{pos:Pos}
def Po:TS:=λD σ H=>D.nx σ H
def QO (t u:TS):TS:=λD σ H=>t {D with nx:=u D} σ H
theorem Lm:kH X [] Po:=λ_ _ σ H _ I h=>ZI ⟨σ,H,I,h⟩
theorem Ih (h1:PS X st t) (h2:kH X rest u):kH X (st::rest) (QO t u):=by
 intro UB s σ H D I h
 refine acJ (bP (h1 UB s σ H {D with nx:=u D} I h) λf s1 q=>?_)
 cases f with
 | next=>
  obtain ⟨σ',H',I',q⟩:=q
  exact h2 UB s1 σ' H' D I' q
 | ret v=>exact q
 | brk=>exact q
 | cont=>exact q
theorem Ln (h1:PS X st t):kH X [st] t:=by
 intro UB s σ H D I h
 refine acJ (bP (h1 UB s σ H D I h) λf s1 q=>?_)
 cases f with
 | next=>exact ZI q
 | ret v=>exact q
 | brk=>exact q
 | cont=>exact q
theorem Inv.quiet {H:Hp}(I:Inv X UB σ H s):interactive X.env=false:=by simp [interactive,I.ok.kind]
def Pk (te:TE):TS:=λD σ H=>te σ H λ_ H1=>D.nx σ H1
theorem rY (he:PE X e te) (hs:ZJ e none pos.line X.env=pure false:=by rfl):PS X (.Expr e pos) (Pk te):=by
 intro UB s σ H D I h
 exact wpAny_Expr_any (bP (he UB s σ H _ I h) λv s1 ⟨x,H1,I1,r1,q1⟩=>⟨σ,H1,I1,q1⟩) I.quiet hs
def QN (te:TE):TS:=λD σ H=>te σ H D.rt
theorem NR (he:PE X e te):PS X (.Return (some e) pos) (QN te):=by
 intro UB s σ H D I h
 exact wpAny_Return_some (bP (he UB s σ H _ I h) λv s1 ⟨x,H1,I1,r1,q1⟩=>⟨x,σ,H1,I1,r1,q1⟩)
def QJ (c:TT) (t u:TS):TS:=λD σ H=>c σ H λb H1=>if b=true then t D σ H1 else u D σ H1
theorem O5 {c:Vv}{a b:List Xd}{tc:TT}(hc:PT X c tc) (ha:kH X a t) (hb:kH X b u):PS X (.If c a b pos) (QJ tc t u):=by
 intro UB s σ H D I h
 refine wpAny_If (bP (hc UB s σ H _ I h) λd s1 ⟨H1,I1,q1⟩=>?_)
 cases d with
 | true=>exact ha UB s1 σ H1 D I1 q1
 | false=>exact hb UB s1 σ H1 D I1 q1
end
abbrev TG:=V->St->Hp->(St->Hp->Prop)->Prop
abbrev xj:=List V->St->Hp->(St->Hp->Prop)->Prop
noncomputable def PG (X:Cx) (UD:Vv) (t:TG):Prop:=
 ∀(UB:List (Vd×Obj)) (s:UP) (σ:St) (H:Hp) (v:V) (u:UN) (Q:St->Hp->Prop),Inv X UB σ H s->RelV v u->t v σ H Q->
  U9 (Vg X.prog X.w) X.A (assign UD X.env u) (λ_ s'=>∃σ' H',Inv X UB σ' H' s'/\Q σ' H') X.xe s
noncomputable def zH (X:Cx) (ts:List Vv) (t:xj):Prop:=
 ∀(UB:List (Vd×Obj)) (s:UP) (σ:St) (H:Hp) (vs:List V) (us:List UN) (Q:St->Hp->Prop),Inv X UB σ H s->Vals vs us->t vs σ H Q->
  U9 (Vg X.prog X.w) X.A (assignInOrder ((XC ts X.env).map (·.2)) us) (λ_ s'=>∃σ' H',Inv X UB σ' H' s'/\Q σ' H') X.xe s
abbrev Df:=V->V->V->Hp->(Hp->Prop)->Prop
noncomputable def Mf (X:Cx) (t:Df):Prop:=
 ∀(UB:List (Vd×Obj)) (s:UP) (σ:St) (H:Hp) (o i v:V) (ov iv u:UN) (Q:Hp->Prop),Inv X UB σ H s->RelV o ov->RelV i iv->RelV v u->t o i v H Q->
  U9 (Vg X.prog X.w) X.A (setItem ov iv u) (λ_ s'=>∃H',Inv X UB σ H' s'/\Q H') X.xe s
abbrev Mh:=V->V->Hp->VK->Prop
noncomputable def QY (X:Cx) (op:aeV) (t:Mh):Prop:=
 ∀(UB:List (Vd×Obj)) (s:UP) (σ:St) (H:Hp) (x y:V) (v u:UN) (Q:VK),Inv X UB σ H s->RelV x v->RelV y u->t x y H Q->
  U9 (Vg X.prog X.w) X.A (aaY op v u) (EP X UB σ Q) X.xe s
section
variable {X:Cx}{pos:Pos}
def Jt (i:Nat):TG:=λv σ H Q=>Q (σ.set i (some v)) H
theorem Lh (hN:X.N.Nodup) (hi:X.N[i]?=some x) (hx:Loc X.env.scope x) (hf:X.fn x=true\/X.env.scope.names.lookup x=some .local:=by first | exact .inl rfl | exact .inr rfl | assumption):PG X (.Name x pos) (Jt i):=by
 intro UB s σ H v u Q I r h
 exact wpAny_assign_Name (uD I hN hi hx r (λs' I'=>⟨_,H,I',h⟩) hf)
def aE:xj:=λvs σ H Q=>vs=[]/\Q σ H
def ao (t:TG) (u:xj):xj:=λvs σ H Q=>∃v r,vs=v::r/\t v σ H λσ' H'=>u r σ' H' Q
theorem Li:zH X [] aE:=by
 intro UB s σ H vs us Q I r h
 obtain ⟨e,h⟩:=h
 subst e
 cases r
 exact assignInOrder_nil ⟨σ,H,I,h⟩
theorem Ib {e:Vv}{es:List Vv}{t:TG}{u:xj}(h1:PG X e t) (h2:zH X es u)
  (hs:(XC (e::es) X.env).map (·.2)=assign e X.env::(XC es X.env).map (·.2):=by rfl):zH X (e::es) (ao t u):=by
 intro UB s σ H vs us Q I r h
 obtain ⟨v,vr,e1,h⟩:=h
 subst e1
 cases r with
 | cons r rr=>
  rw [hs]
  refine assignInOrder_cons (bP (h1 UB s σ H _ _ _ I r h) λ_ s1 ⟨σ1,H1,I1,q1⟩=>?_)
  exact h2 UB s1 σ1 H1 _ _ Q I1 rr q1
def bE (K:UM) (n:Nat) (t:xj):TG:=λv σ H Q=>∃a xs,v=.ref a/\dg K H a xs/\xs.length=n/\t xs σ H Q
theorem NL (hc:X.calm=true) (h:zH X es t)
 (hn:(XC es X.env).length=n:=by rfl) (hst:(XC es X.env).findIdx? (·.1)=none:=by rfl):PG X (.Tuple es k pos) (bE X.K n t):=by
 intro UB s σ H v u Q I r hw
 obtain ⟨a,xs,e1,hq,hl,hw⟩:=hw
 subst e1
 cases r
 obtain ⟨UC,rv,ht,hz⟩:=I.tuple hq
 refine assign_Tuple_tuple (I.ok.hd hc) ht (by simp [hn,<-hl,rv.length]) hst λh' hx=>?_
 have I1:Inv X UB σ H {s with heap:=h'}:=I.kept (t':=s.toks) λb o e=>hx b o (Vn (U7 e)) e
 exact h UB _ σ H xs _ Q I1 (by simpa using rv) hw
def Qm (to ti:TE) (t:Df):TG:=λv σ H Q=>to σ H λo H1=>ti σ H1 λi H2=>t o i v H2 λH3=>Q σ H3
theorem NK {o i:Vv}{to ti:TE}{t:Df}(ho:PE X o to) (hi:PE X i ti) (hs:Mf X t)
  (ha:∀v,assign (.Subscript o i pos) X.env v=(do
   let ov <-holding [v] (eval o X.env)
   let iv <-holding [v,ov] (eval i X.env)
   Yd pos
   holding [v,ov,iv] (setItem ov iv v)
   release [v,ov,iv] []):=by intro _;rfl):PG X (.Subscript o i pos) (Qm to ti t):=by
 intro UB s σ H v u Q I r h
 rw [ha]
 refine UL (VB (bP (ho UB s σ H _ I h) λov s1 ⟨x,H1,I1,r1,q1⟩=>?_))
 refine UL (VB (bP (hi UB s1 σ H1 _ I1 q1) λiv s2 ⟨y,H2,I2,r2,q2⟩=>?_))
 refine UL (XU (UL (VB (bP (hs UB s2 σ H2 x y v ov iv u _ I2 r1 r2 r q2) λ_ s3 ⟨H3,I3,q3⟩=>?_))))
 exact wpAny_release ⟨σ,H3,I3,q3⟩
def IL (te:TE) (g:TG):TS:=λD σ H=>te σ H λx H1=>g x σ H1 D.nx
theorem Ge {tg e:Vv}{te:TE}{g:TG}(he:PE X e te) (hg:PG X tg g) (hs:aas [tg] e pos.line X.env=pure false:=by rfl) (hw:abO [tg] e X.env=pure none:=by rfl)
  (h1:(XC [tg] X.env).map (·.2)=[assign tg X.env]:=by rfl):PS X (.Assign [tg] e pos) (IL te g):=by
 intro UB s σ H D I h
 refine wpAny_Assign_stores (bP (he UB s σ H _ I h) λv s1 ⟨x,H1,I1,r1,q1⟩=>?_) hs hw
 rw [h1]
 exact bP (hg UB s1 σ H1 x v _ I1 r1 q1) λ_ s2 q=>q
theorem NS {i:Nat}{x:Str}{e:Vv}{te:TE}{pos':Pos}(hN:X.N.Nodup) (hi:X.N[i]?=some x) (hx:Loc X.env.scope x) (he:PE X e te) (hs:ZJ e (some (.Name x pos')) pos.line X.env=pure false:=by rfl) (hf:X.fn x=true\/X.env.scope.names.lookup x=some .local:=by first | exact .inl rfl | exact .inr rfl | assumption):
  PS X (.Assign [.Name x pos'] e pos) (IL te (Jt i)):=by
 intro UB s σ H D I h
 refine wpAny_Assign_Name (bP (he UB s σ H _ I h) λv s1 ⟨y,H1,I1,r1,q1⟩=>?_) hs
 exact uD I1 hN hi hx r1 (λs2 I2=>⟨_,H1,I2,q1⟩) hf
def QH (i:Nat) (te:TE) (ti:Mh):TS:=λD σ H=>∃x,σ[i]?=some (some x)/\te σ H λy H1=>ti x y H1 λz H2=>D.nx (σ.set i (some z)) H2
theorem NP {i:Nat}{x:Str}{e:Vv}{te:TE}{op:aeV}{ti:Mh}{pos':Pos}(hN:X.N.Nodup) (hi:X.N[i]?=some x) (hx:Loc X.env.scope x) (he:PE X e te) (ho:QY X op ti) (hf:X.fn x=true\/X.env.scope.names.lookup x=some .local:=by first | exact .inl rfl | exact .inr rfl | assumption):
  PS X (.AugAssign (.Name x pos') op e pos) (QH i te ti):=by
 intro UB s σ H D I h
 obtain ⟨v,e1,h⟩:=h
 obtain ⟨m,hn,hl⟩:=I.loc
 have vis:sP X.env.scope x:=by rcases hx with k | k;exact .inl k;exact .inr (.inl k)
 obtain ⟨u,r,l⟩:=hl i x v hi e1 vis
 refine wpAny_AugAssign_Name ?_
 have go:U9 (Vg X.prog X.w) X.A (eval e X.env) (λw s₂=>U9 (Vg X.prog X.w) X.A (aaY op u w) (λr s₃=>U9 (Vg X.prog X.w) X.A (aem X.env x r) (λ_=>SP X UB D .next) X.xe s₃) X.xe s₂) X.xe s:=by
  refine bP (he UB s σ H _ I h) λw s1 ⟨y,H1,I1,r1,q1⟩=>?_
  refine bP (ho UB s1 σ H1 v y u w _ I1 r r1 q1) λz s2 ⟨zv,H2,I2,r2,q2⟩=>?_
  exact uD I2 hN hi hx r2 (λs3 I3=>⟨_,H2,I3,q2⟩) hf
 rcases l with ⟨hk,hm⟩ | ⟨hk,c,hc,hcell⟩
 ·exact abo I.ok.kind hk hn hm go
 ·rcases hk with hk | hk
  ·exact abD I.ok.kind hk hc hcell go
  ·rcases hx with k | k
   ·have:X.env.scope.names.lookup x=some .free:=hk
    rw [k] at this;cases this
   ·have:X.env.scope.names.lookup x=some .free:=hk
    rw [k] at this;cases this
noncomputable def Ol (c:TT) (tb:TS):TS:=λD σ H=>∃W:Nat->St->Hp->Prop,(∃m,W m σ H)/\∀m σ H,W m σ H->
 c σ H λb H1=>if b=true then ∃N:St->Hp->Prop,(∀σ' H',N σ' H'->∃m',m' < m/\W m' σ' H')/\tb {D with nx:=N,ct:=N,bk:=D.nx} σ H1 else D.nx σ H1
theorem Ig {c:Vv}{body:List Xd}{tc:TT}{tb:TS}(hp:acX (Vg X.prog X.w) X.A X.env X.xe) (hc:PT X c tc) (hb:kH X body tb):PS X (.While c body [] pos) (Ol tc tb):=by
 intro UB s σ H D I h
 obtain ⟨W,⟨m0,w0⟩,turn⟩:=h
 refine wpAny_While (codeAny_whileLoop (λn s'=>∃σ' H',Inv X UB σ' H' s'/\W n σ' H') ?_ m0 ⟨σ,H,I,w0⟩)
 rintro n s1 ⟨σ1,H1,I1,w1⟩
 refine XD hp (bP (hc UB s1 σ1 H1 _ I1 (turn n σ1 H1 w1)) λb s2 ⟨H2,I2,q2⟩=>?_)
 cases b with
 | true=>
  obtain ⟨N,hN,q2⟩:=q2
  rw [if_pos rfl]
  refine XD hp (bP (hb UB s2 σ1 H2 _ I2 q2) λf s3 q3=>?_)
  cases f with
  | next=>
   obtain ⟨σ3,H3,I3,n3⟩:=q3
   obtain ⟨m',hm,w3⟩:=hN σ3 H3 n3
   exact ⟨m',hm,σ3,H3,I3,w3⟩
  | cont=>
   obtain ⟨σ3,H3,I3,n3⟩:=q3
   obtain ⟨m',hm,w3⟩:=hN σ3 H3 n3
   exact ⟨m',hm,σ3,H3,I3,w3⟩
  | brk=>exact q3
  | ret v=>exact q3
 | false=>
  rw [if_neg Vp]
  exact ZI ⟨σ1,H2,I2,q2⟩
end
structure It where
 go:Nat->Hp->Prop
 yld:Nat->Hp->V->Hp->Prop
 stop:Nat->Hp->Prop
noncomputable def jR (X:Cx) (UB:List (Vd×Obj)) (H:Hp) (b:Vd):Prop:=
 H b=none/\b≠X.env.locals/\b∉X.fs/\(b∈X.ex\/X.s₀.heap.objs.size<=b)/\(∀x c,X.env.cells.lookup x=some c->c≠b)/\∀p∈X.pn++UB,p.1≠b
theorem Inv.fpOk {H H':Hp}{s:UP}(I:Inv X UB σ H s) (hb:s.heap.objs.size<=b) (hn:H' b=none):jR X UB H' b:=by
 refine ⟨hn,WU (Vf I.lt hb),I.nofs hb,.inr (Vq I.sz hb),λx c e z=>?_,λp hp z=>?_⟩
 ·obtain ⟨v,q⟩:=I.cell x c e
  exact absurd (Vf q.lt (by rw [z];exact hb)) (Wr _)
 ·exact absurd (Vf (U7 (I.pin p hp).1) (by rw [z];exact hb)) (Wr _)
structure Turn (P:U6) (w:Vs) (K:UM) (tg:Vv) (J:It) (fp:List Vd) (it:Vd) (tn:Nat->V1->Prop):Prop where
 mem:it∈fp
 obj:∀i h,tn i h->∀b∈fp,∃o,h.get? b=some o/\∀v,o.data≠.cell v
 keep:∀i h h',tn i h->(∀b∈fp,∀o,h.get? b=some o->h'.get? b=some o)->tn i h'
 item:∀(X:Cx),X.prog=P->X.w=w->X.K=K->X.calm=true->∀(i:Nat) (UB:List (Vd×Obj)) (s:UP) (σ:St) (H:Hp) (E:UN->UP->Prop),Inv X UB σ H s->(∀b∈fp,jR X UB H b)->tn i s.heap->J.go i H->
  U9 (Vg P w) X.A (YM (.ref it)) (λr s1=>∃u,r=some u/\
   U9 (Vg P w) X.A (Xe tg (.ref it) u) (λ_ s2=>∃x H',Inv X UB σ H' s2/\RelV x u/\J.yld i H x H'/\tn (i + 1) s2.heap/\∀b∈fp,H' b=none) E s1) E s
 done:∀(X:Cx),X.prog=P->X.w=w->X.K=K->X.calm=true->∀(i:Nat) (UB:List (Vd×Obj)) (s:UP) (σ:St) (H:Hp) (E:UN->UP->Prop),Inv X UB σ H s->(∀b∈fp,jR X UB H b)->tn i s.heap->J.stop i H->
  U9 (Vg P w) X.A (YM (.ref it)) (λr s1=>r=none/\Inv X UB σ H s1) E s
 self:∀(A:Vz) (i:Nat) (s:UP) (Q:UN->UP->Prop) (E:UN->UP->Prop),tn i s.heap->Q (.ref it) s->U9 (Vg P w) A (Z2 (.ref it)) Q E s
abbrev TI:=St->Hp->(It->Hp->Prop)->Prop
noncomputable def PN (X:Cx) (UB:List (Vd×Obj)) (σ:St) (tg:Vv) (R:It->Hp->Prop) (itv:UN) (s2:UP):Prop:=
 ∃(it:Vd) (fp:List Vd) (tn:Nat->V1->Prop) (J:It) (H':Hp),itv=.ref it/\Inv X UB σ H' s2/\Turn X.prog X.w X.K tg J fp it tn/\tn 0 s2.heap/\(∀b∈fp,jR X UB H' b)/\R J H'
noncomputable def PI (X:Cx) (tg UE:Vv) (wi:TI):Prop:=
 ∀(UB:List (Vd×Obj)) (s:UP) (σ:St) (H:Hp) (R:It->Hp->Prop),Inv X UB σ H s->wi σ H R->
  U9 (Vg X.prog X.w) X.A (eval UE X.env) (λv s1=>U9 (Vg X.prog X.w) X.A (Z2 v) (PN X UB σ tg R) X.xe s1) X.xe s
theorem za {M:aey}{E:UN->UP->Prop}{s:UP}{o:Obj}{Q:Unit->UP->Prop}(ho:s.heap.get? it=some o) (hc:o.cls=.type n) (hd:o.data=.fields vs)
 (hn:["enumerate","zip","dict_itemiterator","dict_reverseitemiterator","odict_iterator","itertools.zip_longest","itertools.pairwise"].contains n=false) (hQ:Q () s):U9 M A (Xe tg (.ref it) u) Q E s:=by
 unfold Xe
 cases tg <;> first
  | exact UO hQ
  | (cases u <;> first
    | exact UO hQ
    | (refine UL (adL ho ?_);rw [hc,hd];show U9 M A (if (["enumerate","zip","dict_itemiterator","dict_reverseitemiterator","odict_iterator","itertools.zip_longest","itertools.pairwise"].contains n && vs[0]? == some (abx _))=true then _ else _) Q E s;rw [if_neg (by intro h;rw [hn,Bool.false_and] at h;cases h)];exact UO hQ))
noncomputable def IZ (K:UM) (a:Vd):It:=
 ⟨λi H=>∃xs x,cB K H a xs/\xs[i]?=some x,λi H x H'=>H'=H/\∀xs,cB K H a xs->xs[i]?=some x,λi H=>∃xs,cB K H a xs/\xs.length<=i⟩
noncomputable def I_ (K:UM) (a:Vd):It:=
 ⟨λi H=>∃xs x,dg K H a xs/\xs[i]?=some x,λi H x H'=>H'=H/\∀xs,dg K H a xs->xs[i]?=some x,λi H=>∃xs,dg K H a xs/\xs.length<=i⟩
def I0 (lo:Int) (n:Nat):It:=⟨λi _=>i < n,λi H x H'=>H'=H/\x=.int (lo + i),λi _=>n<=i⟩
theorem GH {P:U6}{w:Vs}{K:UM}{tg:Vv}(a it:Vd):Turn P w K tg (IZ K a) [it] it (λi h=>h.IsListIter it a i) where
 mem:=by simp
 obj:=λi h st b hb=>by
  have e:b=it:=by simpa using hb
  subst e
  obtain ⟨o,e,c,d⟩:=st
  exact ⟨o,e,λv z=>by rw [d] at z;cases z⟩
 keep:=λi h h' st k=>st.at λo e=>k it (by simp) o e
 item:=by
  intro X hP hw hK hc i UB s σ H E I hf st hg
  subst hP hw hK
  obtain ⟨xs,x,hq,hx⟩:=hg
  obtain ⟨UC,rv,p,hz⟩:=I.list hq
  obtain ⟨u,hu,ru⟩:=rv.get hx
  obtain ⟨f0,f1,f2,f3,f4,f5⟩:=hf it (by simp)
  refine wpAny_pyNext_list_item st p.isList (x:=u) (by simpa using hu) λh' st' sb=>?_
  have I1:Inv X UB σ H {s with heap:=h'}:=I.turned (t':=s.toks) (λb o hb e=>(sb.2 b hb).trans e) f0 f1 f3 f4 f5
  obtain ⟨o,e,c,d⟩:=id st'
  exact ⟨u,rfl,za (s:={s with heap:=h'}) e c d (by decide) ⟨x,H,I1,ru,⟨rfl,λys hy=>by rw [I.list_inj hy hq];exact hx⟩,st',λb hb=>(hf b hb).1⟩⟩
 done:=by
  intro X hP hw hK hc i UB s σ H E I hf st hg
  subst hP hw hK
  obtain ⟨xs,hq,hx⟩:=hg
  obtain ⟨UC,rv,p,hz⟩:=I.list hq
  obtain ⟨f0,f1,f2,f3,f4,f5⟩:=hf it (by simp)
  have hl:=rv.length
  exact wpAny_pyNext_list_end (I.ok.hd hc) st p.isList (by simp;omega) λh' eb=>⟨rfl,I.turned (t':=s.toks) (λb o hb e=>eb b o hb e) f0 f1 f3 f4 f5⟩
 self:=λ_ _ _ _ _ st h=>wpAny_pyIter_listiter st h
theorem Ek {P:U6}{w:Vs}{K:UM}{tg:Vv}(a it:Vd):Turn P w K tg (I_ K a) [it] it (λi h=>h.IsTupleIter it a i) where
 mem:=by simp
 obj:=λi h st b hb=>by
  have e:b=it:=by simpa using hb
  subst e
  obtain ⟨o,e,c,d⟩:=st
  exact ⟨o,e,λv z=>by rw [d] at z;cases z⟩
 keep:=λi h h' st k=>st.at λo e=>k it (by simp) o e
 item:=by
  intro X hP hw hK hc i UB s σ H E I hf st hg
  subst hP hw hK
  obtain ⟨xs,x,hq,hx⟩:=hg
  obtain ⟨UC,rv,p,hz⟩:=I.tuple hq
  obtain ⟨u,hu,ru⟩:=rv.get hx
  obtain ⟨f0,f1,f2,f3,f4,f5⟩:=hf it (by simp)
  refine wpAny_pyNext_tuple_item st (show s.heap.IsTuple a UC.toArray from p) (x:=u) (by simpa using hu) λh' st' sb=>?_
  have I1:Inv X UB σ H {s with heap:=h'}:=I.turned (t':=s.toks) (λb o hb e=>(sb.2 b hb).trans e) f0 f1 f3 f4 f5
  obtain ⟨o,e,c,d⟩:=id st'
  exact ⟨u,rfl,za (s:={s with heap:=h'}) e c d (by decide) ⟨x,H,I1,ru,⟨rfl,λys hy=>by rw [I.tuple_inj hy hq];exact hx⟩,st',λb hb=>(hf b hb).1⟩⟩
 done:=by
  intro X hP hw hK hc i UB s σ H E I hf st hg
  subst hP hw hK
  obtain ⟨xs,hq,hx⟩:=hg
  obtain ⟨UC,rv,p,hz⟩:=I.tuple hq
  obtain ⟨f0,f1,f2,f3,f4,f5⟩:=hf it (by simp)
  have hl:=rv.length
  exact wpAny_pyNext_tuple_end (I.ok.hd hc) st (show s.heap.IsTuple a UC.toArray from p) (by simp;omega) λh' eb=>⟨rfl,I.turned (t':=s.toks) (λb o hb e=>eb b o hb e) f0 f1 f3 f4 f5⟩
 self:=λ_ _ _ _ _ st h=>wpAny_pyIter_tupleiter st h
theorem Ej {P:U6}{w:Vs}{K:UM}{tg:Vv}(it:Vd) (lo:Int) (n:Nat):Turn P w K tg (I0 lo n) [it] it (λi h=>IsRangeIter h it (lo + (i:Nat) * 1) ((n:Int) - (i:Nat)) 1) where
 mem:=by simp
 obj:=λi h st b hb=>by
  have e:b=it:=by simpa using hb
  subst e
  exact ⟨_,st,λv z=>by
   have z':aeA _=afd v:=z
   cases z'⟩
 keep:=λi h h' st k=>k it (by simp) _ st
 item:=by
  intro X hP hw hK hc i UB s σ H E I hf st hg
  subst hP hw hK
  obtain ⟨f0,f1,f2,f3,f4,f5⟩:=hf it (by simp)
  have W:=Walks.range (prog:=X.prog) (w:=X.w) (I.ok.hd hc) it lo 1 n
  refine W.item i s _ _ hg st λv h' tk hv st' kk=>?_
  obtain ⟨t,rfl⟩:=hv
  have I1:Inv X UB σ H {s with heap:=h',toks:=tk}:=I.turned (λb o hb e=>kk b o (by simpa using hb) e) f0 f1 f3 f4 f5
  refine ⟨_,rfl,za (s:={s with heap:=h',toks:=tk}) (n:="range_iterator") st' rfl rfl (by decide) ⟨.int (lo + i),H,I1,⟨t,?_⟩,⟨rfl,rfl⟩,st',λb hb=>(hf b hb).1⟩⟩
  rw [aeB]
 done:=by
  intro X hP hw hK hc i UB s σ H E I hf st hg
  subst hP hw hK
  obtain ⟨f0,f1,f2,f3,f4,f5⟩:=hf it (by simp)
  exact wpAny_pyNext_range_end (I.ok.hd hc) st (by have:n<=i:=hg;omega) λh' eb=>⟨rfl,I.turned (t':=s.toks) (λb o hb e=>eb b o hb e) f0 f1 f3 f4 f5⟩
 self:=λ_ _ _ _ _ st h=>wpAny_pyIter_rangeiter st h
section
variable {X:Cx}{tg:Vv}
theorem Iz {UB:List (Vd×Obj)}{σ:St}{H:Hp}{s:UP}{R:It->Hp->Prop}{E:UN->UP->Prop}{lo hi:Int}{t u v:Tok}{tk:Nat}(I:Inv X UB σ H s) (h1:-(2 ^ 62)<=lo) (h2:lo < 2 ^ 62) (h3:-(2 ^ 62)<=hi) (h4:hi < 2 ^ 62)
  (q:R (I0 lo (hi - lo).toNat) H):U9 (Vg X.prog X.w) X.A (Z2 (.ref s.heap.objs.size)) (PN X UB σ tg R) E {s with heap:=s.heap.push {cls:=.type "range",data:=.fields #[.int lo t,.int hi u,.int 1 v]},toks:=tk}:=by
 refine wpAny_pyIter_range (IsRange.new ..) (small_one h1 h2 h3 h4) ?_
 have I1:Inv X UB σ H {s with heap:=s.heap.push {cls:=.type "range",data:=.fields #[.int lo t,.int hi u,.int 1 v]},toks:=tk}:=I.kept λb o e=>US _ e
 refine ⟨(s.heap.push {cls:=.type "range",data:=.fields #[.int lo t,.int hi u,.int 1 v]}).objs.size,[(s.heap.push {cls:=.type "range",data:=.fields #[.int lo t,.int hi u,.int 1 v]}).objs.size],_,_,H,rfl,
  I1.kept (t':=tk) λb o e=>US _ e,Ej _ lo (hi - lo).toNat,?_,λb hb=>?_,q⟩
 ·have e1:lo + ((0:Nat):Int) * 1=lo:=by simp
  have e2:(((hi - lo).toNat:Nat):Int) - ((0:Nat):Int)=aat lo hi 1:=by rw [adY];split <;> omega
  show IsRangeIter _ _ (lo + ((0:Nat):Int) * 1) ((((hi - lo).toNat:Nat):Int) - ((0:Nat):Int)) 1
  rw [e1,e2]
  exact U0 _ rfl
 ·have e:b=(s.heap.push {cls:=.type "range",data:=.fields #[.int lo t,.int hi u,.int 1 v]}).objs.size:=by simpa using hb
  subst e
  exact I1.fpOk (UX _) (I1.hok.fresh (UX _))
def ON (ta:TA):TI:=λσ H R=>ta σ H λvs H1=>∃j:Int,vs=[.int j]/\-(2 ^ 62)<=j/\j < 2 ^ 62/\R (I0 0 j.toNat) H1
theorem F_ {a:Vv}{ta:TA}{p pos:Pos}(hg:Gl X "range") (hm:X.mg "range"=none) (ha:PA X [a] ta) (hs:UZ [a] X.env=[(false,eval a X.env)]:=by rfl):PI X tg (.Call (.Name "range" p) [a] [] pos) (ON ta):=by
 intro UB s σ H R I h
 refine Call_ (qL I hg hm boot_range (Ye (bP (ha pos UB s σ H _ I h) λus s1 ⟨vs,H1,I1,r1,q1⟩=>?_) hs rfl))
 obtain ⟨j,e,q1,q2,q⟩:=q1
 subst e
 cases r1 with
 | cons r rr=>
  cases rr
  obtain ⟨t,rfl⟩:=r
  exact call_range_1 (Iz I1 (by omega) (by omega) q1 q2 (by simpa using q))
noncomputable def QI (wi:TI) (g:TG) (tb:TS):TS:=λD σ H=>wi σ H λJ H1=>∃W:Nat->Nat->St->Hp->Prop,(∃m,W 0 m σ H1)/\∀i m σ H,W i m σ H->
 (J.stop i H/\D.nx σ H)\/(J.go i H/\∃N:St->Hp->Prop,(∀σ' H',N σ' H'->∃m',m' < m/\W (i + 1) m' σ' H')/\∀x H',J.yld i H x H'->g x σ H' λσ2 H2=>tb {D with nx:=N,ct:=N,bk:=D.nx} σ2 H2)
def qP (fp:List Vd) (h:V1):List (Vd×Obj):=fp.filterMap λb=>(h.get? b).map λo=>(b,o)
theorem kR {h:V1}(hb:b∈fp) (e:h.get? b=some o):(b,o)∈qP fp h:=Z3.mpr ⟨b,hb,by rw [e];rfl⟩
theorem FQ {h:V1}{p:Vd×Obj}(hp:p∈qP fp h):p.1∈fp/\h.get? p.1=some p.2:=by
 obtain ⟨b,hb,e⟩:=Z3.mp hp
 cases q:h.get? b with
 | none=>rw [q] at e;cases e
 | some o=>
  rw [q] at e
  have e':(b,o)=p:=V2 e
  subst e'
  exact ⟨hb,q⟩
theorem Inv.pinned {H:Hp}{s:UP}(I:Inv X UB σ H s) (hf:∀b∈fp,jR X UB H b) (ho:∀b∈fp,∃o,s.heap.get? b=some o/\∀v,o.data≠.cell v):Inv X (UB++qP fp s.heap) σ H s:=
 I.pins_of λp hp=>(Vj.mp hp).elim (λz=>I.pin p (VH _ z)) λz=>by
  obtain ⟨hb,e⟩:=FQ z
  obtain ⟨f0,f1,f2,_⟩:=hf p.1 hb
  obtain ⟨o,e',d⟩:=ho p.1 hb
  rw [e] at e';cases e'
  exact ⟨e,f0,f1,f2,d⟩
theorem Inv.unpinned {H:Hp}(I:Inv X (UB++pl) σ H s):Inv X UB σ H s:=I.pins_of λp hp=>I.pin p (VH _ (Xz _ hp))
theorem NQ {UE:Vv}{body:List Xd}{wi:TI}{g:TG}{tb:TS}{pos:Pos}(hp:acX (Vg X.prog X.w) X.A X.env X.xe) (hc:X.calm=true) (hi:PI X tg UE wi) (hg:PG X tg g) (hb:kH X body tb)
  (hs:∀x,We UE X.env x=pure x:=by intro _;rfl):PS X (.For tg UE body [] pos) (QI wi g tb):=by
 intro UB s σ H D I h
 refine wpAny_For (bP (hi UB s σ H _ I h) λv s1 h1=>bP h1 λitv s2 h2=>?_) hs
 obtain ⟨it,fp,tn,J,H2,e,I2,T,st2,f2,W,⟨m0,w0⟩,turn⟩:=h2
 subst e
 have stat:∀{H':Hp},(∀b∈fp,H' b=none)->∀b∈fp,jR X UB H' b:=λhn b hb=>⟨hn b hb,(f2 b hb).2⟩
 refine codeAny_forLoop_any (λn s'=>∃i σ' H',Inv X UB σ' H' s'/\tn i s'.heap/\(∀b∈fp,H' b=none)/\W i n σ' H') ?_ m0 ⟨0,σ,H2,I2,st2,λb hb=>(f2 b hb).1,w0⟩
 rintro n s3 ⟨i,σ3,H3,I3,st3,fr3,w3⟩
 rcases turn i n σ3 H3 w3 with ⟨stop,qn⟩ | ⟨go,N,hN,step⟩
 ·refine XD hp (bP (T.done X rfl rfl rfl hc i UB s3 σ3 H3 X.xe I3 (stat fr3) st3 stop) λr s4 ⟨hr,I4⟩=>?_)
  subst hr
  exact ZI ⟨σ3,H3,I4,qn⟩
 ·refine XD hp (bP (T.item X rfl rfl rfl hc i UB s3 σ3 H3 X.xe I3 (stat fr3) st3 go) λr s4 ⟨u,hr,h4⟩=>?_)
  subst hr
  refine XD hp (bP h4 λ_ s5 ⟨x,H5,I5,r5,y5,st5,fr5⟩=>?_)
  have I5':=I5.pinned (stat fr5) (T.obj _ _ st5)
  refine XD hp (bP (hg _ s5 σ3 H5 x u _ I5' r5 (step x H5 y5)) λ_ s6 ⟨σ6,H6,I6,q6⟩=>?_)
  refine XD hp (bP (hb _ s6 σ6 H6 _ I6 q6) λf s7 q7=>?_)
  have again:∀{σ7:St}{H7:Hp},Inv X (UB++qP fp s5.heap) σ7 H7 s7->N σ7 H7->∃m,m < n/\∃i σ' H',Inv X UB σ' H' s7/\tn i s7.heap/\(∀b∈fp,H' b=none)/\W i m σ' H':=fun {σ7 H7} I7 n7=>by
   obtain ⟨m',hm,w7⟩:=hN σ7 H7 n7
   refine ⟨m',hm,i + 1,σ7,H7,I7.unpinned,T.keep _ _ _ st5 λb hb o e=>(I7.pin (b,o) (VH _ (VH _ (kR hb e)))).1,λb hb=>?_,w7⟩
   obtain ⟨o,e,d⟩:=T.obj _ _ st5 b hb
   exact (I7.pin (b,o) (VH _ (VH _ (kR hb e)))).2.1
  cases f with
  | next=>obtain ⟨σ7,H7,I7,n7⟩:=q7;exact again I7 n7
  | cont=>obtain ⟨σ7,H7,I7,n7⟩:=q7;exact again I7 n7
  | brk=>obtain ⟨σ7,H7,I7,q7⟩:=q7;exact ⟨σ7,H7,I7.unpinned,q7⟩
  | ret v=>obtain ⟨x7,σ7,H7,I7,r7,q7⟩:=q7;exact ⟨x7,σ7,H7,I7.unpinned,r7,q7⟩
end
abbrev R2:=V->V->Hp->VK->Prop
noncomputable def dD (X:Cx) (f:UN->UN->Sem UN) (r:R2):Prop:=
 ∀(UB:List (Vd×Obj)) (s:UP) (σ:St) (H:Hp) (x y:V) (v u:UN) (Q:VK),Inv X UB σ H s->RelV x v->RelV y u->r x y H Q->
  U9 (Vg X.prog X.w) X.A (f v u) (EP X UB σ Q) X.xe s
noncomputable def Mi (X:Cx) (f:UN->Sem UN) (r:V->Hp->VK->Prop):Prop:=
 ∀(UB:List (Vd×Obj)) (s:UP) (σ:St) (H:Hp) (x:V) (v:UN) (Q:VK),Inv X UB σ H s->RelV x v->r x H Q->
  U9 (Vg X.prog X.w) X.A (f v) (EP X UB σ Q) X.xe s
noncomputable def cO (X:Cx) (f:UN) (r:List V->Hp->VK->Prop):Prop:=
 ∀(UB:List (Vd×Obj)) (s:UP) (σ:St) (H:Hp) (xs:List V) (us:List UN) (Q:VK),Inv X UB σ H s->Vals xs us->r xs H Q->
  U9 (Vg X.prog X.w) X.A (call f us) (EP X UB σ Q) X.xe s
noncomputable def Qe (X:Cx) (r:V->Hp->(Bool->Hp->Prop)->Prop):Prop:=
 ∀(UB:List (Vd×Obj)) (s:UP) (σ:St) (H:Hp) (x:V) (v:UN) (Q:Bool->Hp->Prop),Inv X UB σ H s->RelV x v->r x H Q->
  U9 (Vg X.prog X.w) X.A (truthy v) (TP X UB σ Q) X.xe s
def Gz (r:R2) (ta tb:TE):TE:=λσ H Q=>ta σ H λx H1=>tb σ H1 λy H2=>r x y H2 Q
def Rc (r:V->Hp->VK->Prop) (ta:TE):TE:=λσ H Q=>ta σ H λx H1=>r x H1 Q
def rI (C:Int->Int->Prop) (g:Int->Int->V):R2:=λx y H Q=>∃i j,x=.int i/\y=.int j/\C i j/\Q (g i j) H
def tK (g:Int->Int->V):R2:=λx y H Q=>∃i j,x=.int i/\y=.int j/\Q (g i j) H
def rU (g:Int->V):V->Hp->VK->Prop:=λx H Q=>∃i,x=.int i/\Q (g i) H
section
variable {X:Cx}{a b c:Vv}{ta tb tc:TE}{pos:Pos}
theorem GY (ha:PE X a ta) (hb:PE X b tb){UB:List (Vd×Obj)}{s:UP}{σ:St}{H:Hp}{R:V->V->Hp->Prop}(I:Inv X UB σ H s)
  (h:ta σ H λx H1=>tb σ H1 λy H2=>R x y H2){Q:UN->UP->Prop}{f:UN->UN->Sem UN}
  (hf:∀v u s2 x y H2,Inv X UB σ H2 s2->RelV x v->RelV y u->R x y H2->U9 (Vg X.prog X.w) X.A (f v u) Q X.xe s2):
  U9 (Vg X.prog X.w) X.A (eval a X.env) (λv s₁=>U9 (Vg X.prog X.w) X.A (eval b X.env) (λu s₂=>U9 (Vg X.prog X.w) X.A (f v u) Q X.xe s₂) X.xe s₁) X.xe s:=by
 refine bP (ha UB s σ H _ I h) λv s1 ⟨x,H1,I1,r1,q1⟩=>?_
 refine bP (hb UB s1 σ H1 _ I1 q1) λu s2 ⟨y,H2,I2,r2,q2⟩=>?_
 exact hf v u s2 x y H2 I2 r1 r2 q2
theorem O3 (ho:dD X (X_ op) r) (ha:PE X a ta) (hb:PE X b tb):PE X (.BinOp a op b pos) (Gz r ta tb):=by
 intro UB s σ H Q I h
 exact wpAny_BinOp (GY ha hb I h λv u s2 x y H2 I2 rx ry q=>ho UB s2 σ H2 x y v u Q I2 rx ry q)
theorem JG {r:V->Hp->VK->Prop}(ho:Mi X (unaryOp op) r) (ha:PE X a ta):PE X (.UnaryOp op a pos) (Rc r ta):=by
 intro UB s σ H Q I h
 exact UnaryOp_ (bP (ha UB s σ H _ I h) λv s1 ⟨x,H1,I1,r1,q1⟩=>ho UB s1 σ H1 x v Q I1 r1 q1)
theorem Qi (ho:dD X (aaY op) r){H:Hp}{Q:VK}(I:Inv X UB σ H s)
 (rx:RelV x v) (ry:RelV y u) (q:r x y H Q):U9 (Vg X.prog X.w) X.A (aaY op v u) (EP X UB σ Q) X.xe s:=ho UB s σ H x y v u Q I rx ry q
theorem FT {f:UN->UN->Sem UN}{C:Int->Int->Prop}{g:Int->Int->Int}
  (rule:∀(i j:Int) (t u:Tok) (s:UP) (Q:UN->UP->Prop) (E:UN->UP->Prop),C i j->Q (.int (g i j) s.toks) {s with toks:=s.toks + 1}->U9 (Vg X.prog X.w) X.A (f (.int i t) (.int j u)) Q E s):
  dD X f (rI C λi j=>.int (g i j)):=by
 intro UB s σ H x y v u Q I rx ry h
 obtain ⟨i,j,rfl,rfl,hc,q⟩:=h
 obtain ⟨t,rfl⟩:=rx
 obtain ⟨t',rfl⟩:=ry
 exact rule i j t t' s _ _ hc ⟨.int (g i j),H,I.tok _,⟨_,rfl⟩,q⟩
theorem HV {f:UN->UN->Sem UN}{g:Int->Int->Int}
  (rule:∀(i j:Int) (t u:Tok) (s:UP) (Q:UN->UP->Prop) (E:UN->UP->Prop),Q (.int (g i j) s.toks) {s with toks:=s.toks + 1}->U9 (Vg X.prog X.w) X.A (f (.int i t) (.int j u)) Q E s):
  dD X f (tK λi j=>.int (g i j)):=by
 intro UB s σ H x y v u Q I rx ry h
 obtain ⟨i,j,rfl,rfl,q⟩:=h
 obtain ⟨t,rfl⟩:=rx
 obtain ⟨t',rfl⟩:=ry
 exact rule i j t t' s _ _ ⟨.int (g i j),H,I.tok _,⟨_,rfl⟩,q⟩
theorem Nm {f:UN->UN->Sem UN}{g:Int->Int->Bool}
  (rule:∀(i j:Int) (t u:Tok) (s:UP) (Q:UN->UP->Prop) (E:UN->UP->Prop),Q (.bool (g i j)) s->U9 (Vg X.prog X.w) X.A (f (.int i t) (.int j u)) Q E s):
  dD X f (tK λi j=>.bl (g i j)):=by
 intro UB s σ H x y v u Q I rx ry h
 obtain ⟨i,j,rfl,rfl,q⟩:=h
 obtain ⟨t,rfl⟩:=rx
 obtain ⟨t',rfl⟩:=ry
 exact rule i j t t' s _ _ ⟨.bl (g i j),H,I,rfl,q⟩
def P5 (i j:Int):Prop:=0 < j/\j < 1073741824
def P6 (i j:Int):Prop:=0<=j/\j<=1000000/\i.natAbs < 2 ^ 64
def CP (i j:Int):Prop:=(-(2 ^ 64) < i/\i < 2 ^ 64)\/(-(2 ^ 64) < j/\j < 2 ^ 64)
theorem CP.ok (h:CP i j):IntMulOk i j:=by
 rcases h with ⟨h1,h2⟩ | ⟨h1,h2⟩
 ·exact .of_left (adZ h1 h2)
 ·exact .of_right (adZ h1 h2)
theorem FU:dD X (X_ .Add) (tK λi j=>.int (i + j)):=HV λ_ _ _ _ _ _ _ q=>add_int q
theorem Nv:dD X (X_ .Sub) (tK λi j=>.int (i - j)):=HV λ_ _ _ _ _ _ _ q=>sub_int q
theorem Nr:dD X (X_ .Mult) (rI CP λi j=>.int (i * j)):=FT λ_ _ _ _ _ _ _ hc q=>mul_int q hc.ok
theorem K5:dD X (X_ .FloorDiv) (rI P5 λi j=>.int (i / j)):=FT λi j _ _ _ _ _ hc q=>by
 have h1:(0:Int) < j:=hc.1
 have h2:j < 1073741824:=hc.2
 exact floordiv_int (by omega) (by rw [ZY i (by omega)];exact q) (.inl (PyProof.noPylong_small (by omega)))
theorem Nq:dD X (X_ .Mod) (rI (λ_ j=>0 < j) λi j=>.int (i % j)):=FT λi j _ _ _ _ _ hc q=>by
 have h1:(0:Int) < j:=hc
 exact mod_int' (by omega) (by rw [Int.fmod_eq_emod_of_nonneg i (by omega)];exact q)
theorem Nu:dD X (X_ .Pow) (rI P6 λi j=>.int (i ^ j.toNat)):=FT λ_ _ _ _ _ _ _ hc q=>pow_int_small hc.1 hc.2.1 hc.2.2 q
theorem KI:dD X (aaY .Add) (tK λi j=>.int (i + j)):=HV λ_ _ _ _ _ _ _ q=>iadd_int q
theorem Rf {f:UN->Sem UN}{g:Int->Int}
  (rule:∀(i:Int) (t:Tok) (s:UP) (Q:UN->UP->Prop) (E:UN->UP->Prop),Q (.int (g i) s.toks) {s with toks:=s.toks + 1}->U9 (Vg X.prog X.w) X.A (f (.int i t)) Q E s):
  Mi X f (rU λi=>.int (g i)):=by
 intro UB s σ H x v Q I rx h
 obtain ⟨i,rfl,q⟩:=h
 obtain ⟨t,rfl⟩:=rx
 exact rule i t s _ _ ⟨.int (g i),H,I.tok _,⟨_,rfl⟩,q⟩
theorem GJ:Mi X (unaryOp .USub) (rU λi=>.int (-i)):=Rf λ_ _ _ _ _ q=>neg_int q
theorem JC:dD X (Wl .Lt) (tK λi j=>.bl (decide (i < j))):=Nm λ_ _ _ _ _ _ _ q=>lt_int q
theorem zc:dD X (Wl .Gt) (tK λi j=>.bl (decide (j < i))):=Nm λ_ _ _ _ _ _ _ q=>gt_int q
theorem dD.or {f:UN->UN->Sem UN}{r r':R2}(h:dD X f r) (h':dD X f r'):dD X f (λx y H Q=>r x y H Q\/r' x y H Q):=by
 intro UB s σ H x y v u Q I rx ry q
 rcases q with q | q
 ·exact h UB s σ H x y v u Q I rx ry q
 ·exact h' UB s σ H x y v u Q I rx ry q
theorem AJ (b:Vv) (h:op≠.In:=by decide) (h2:op≠.NotIn:=by decide):V9 op b=false:=by
 have e1:(op == afl)=false:=by cases op <;> first | rfl | exact absurd rfl h
 have e2:(op == aez)=false:=by cases op <;> first | rfl | exact absurd rfl h2
 cases b <;> simp [V9,e1,e2]
theorem Lg (ho:dD X (Wl op) r) (ha:PE X a ta) (hb:PE X b tb) (hm:V9 op b=false):PE X (.Compare a [op] [b] pos) (Gz r ta tb):=by
 intro UB s σ H Q I h
 exact wpAny_Compare1 (GY ha hb I h λv u s2 x y H2 I2 rx ry q=>ho UB s2 σ H2 x y v u Q I2 rx ry q) hm
def Pu (t:TE):TT:=λσ H Q=>t σ H λx H'=>∃k,x=.bl k/\Q k H'
theorem Lo {op:CmpOp}{r:R2}(ho:dD X (Wl op) r) (ha:PE X a ta) (hb:PE X b tb) (hm:V9 op b=false):PT X (.Compare a [op] [b] pos) (Pu (Gz r ta tb)):=by
 intro UB s σ H Q I h
 refine aaW (bP (ha UB s σ H _ I h) λv s1 ⟨x,H1,I1,r1,q1⟩=>bP (hb UB s1 σ H1 _ I1 q1) λu s2 ⟨y,H2,I2,r2,q2⟩=>
  bP (ho UB s2 σ H2 x y v u _ I2 r1 r2 q2) λc s3 ⟨z,H3,I3,r3,k,e,q3⟩=>?_) hm
 subst e
 cases r3
 exact V6 ⟨H3,I3,q3⟩
noncomputable def GV (K:UM) (x:V) (H:Hp) (k:Bool):Prop:=
 match x with
 | .non=>k=false
 | .bl b=>k=b
 | .int i=>k=(i != 0)
 | .str y=>y.length<=sizeLine/\k=((y.length:Int) != 0)
 | .byt y=>y.size<=sizeLine/\k=((y.size:Int) != 0)
 | .ref p=>(∃xs,cB K H p xs/\k=!xs.isEmpty)\/(∃xs,dg K H p xs/\k=!xs.isEmpty)\/∃UJ,H p=some (.dK UJ)/\k=!UJ.isEmpty
 | _=>False
theorem DI {κ:Type}{UJ:List (κ×V)}{vs:List (κ×UN)}(r:KV UJ vs):(!vs.isEmpty)=!UJ.isEmpty:=by
 cases r <;> rfl
theorem vq {xs:List V}{UC:List UN}(r:Vals xs UC):(!UC.toArray.isEmpty)=!xs.isEmpty:=by
 cases r <;> simp
theorem nU:(sizeLine:Nat) < 2 ^ 63:=by rw [Wv];decide
theorem Om:Qe X (λx H Q=>∃k,GV X.K x H k/\Q k H):=by
 intro UB s σ H x v Q I rx h
 obtain ⟨k,e,q⟩:=h
 have hl:=nU
 have hs:sizeLine=16777216:=Wv
 cases x with
 | non=>
  cases rx
  have e':k=false:=e
  subst e'
  exact truthy_none ⟨H,I,q⟩
 | bl b=>
  cases rx
  have e':k=b:=e
  subst e'
  exact V6 ⟨H,I,q⟩
 | int i=>
  obtain ⟨t,rfl⟩:=rx
  have e':k=(i != 0):=e
  subst e'
  exact PySem.P.truthy_int ⟨H,I,q⟩
 | str y=>
  obtain ⟨t,rfl⟩:=rx
  obtain ⟨hy,e'⟩:y.length<=sizeLine/\k=((y.length:Int) != 0):=e
  subst e'
  exact PySem.P.truthy_str (by omega) ⟨H,I.tok _,q⟩
 | byt y=>
  obtain ⟨t,rfl⟩:=rx
  obtain ⟨hy,e'⟩:y.size<=sizeLine/\k=((y.size:Int) != 0):=e
  subst e'
  exact W.truthy_bytes (by omega) ⟨H,I.tok _,q⟩
 | ref p=>
  cases rx
  have e':(∃xs,cB X.K H p xs/\k=!xs.isEmpty)\/(∃xs,dg X.K H p xs/\k=!xs.isEmpty)\/∃UJ,H p=some (.dK UJ)/\k=!UJ.isEmpty:=e
  rcases e' with ⟨xs,hx,e'⟩ | ⟨xs,hx,e'⟩ | ⟨UJ,hx,e'⟩
  ·subst e'
   obtain ⟨UC,r,pl,hz⟩:=I.list hx
   have hlen:=r.length
   exact wpAny_truthy_list pl.isList (by simp only [U3];omega) ⟨H,I.tok _,by rw [vq r];exact q⟩
  ·subst e'
   obtain ⟨UC,r,pl,hz⟩:=I.tuple hx
   have hlen:=r.length
   exact truthy_tuple pl (by simp only [U3];omega) ⟨H,I.tok _,by rw [vq r];exact q⟩
  ·subst e'
   obtain ⟨hz,hS,vs,r,m⟩:UJ.length<=sizeLine/\(p == X7)=false/\∃vs,KV UJ vs/\s.heap.DictOf (wK X.prog X.w) p vs:=I.hok p _ hx
   have hlen:UJ.length=vs.length:=adX r
   exact wpAny_truthy_dict hS m (by omega) ⟨H,I.tok _,by rw [DI r];exact q⟩
 | _=>exact (show False from e).elim
theorem Ii (ha:PE X a ta) (he:∀whole,abw a X.env whole=(do let v <-whole;Yd a.pos;holding [v] (truthy v))):
  PT X a (λσ H Q=>ta σ H λx H'=>∃k,GV X.K x H' k/\Q k H'):=by
 intro UB s σ H Q I h
 exact isTrue_plain (bP (ha UB s σ H _ I h) λv s1 ⟨x,H1,I1,r1,q1⟩=>Om UB s1 σ H1 x v Q I1 r1 q1) (he _)
theorem vz:dD X (X_ .Add) (λx y H Q=>∃i j,x=.str i/\y=.str j/\i.length + j.length<=sizeLine/\Q (.str (i++j)) H):=by
 intro UB s σ H x y v u Q I rx ry h
 obtain ⟨i,j,rfl,rfl,hz,q⟩:=h
 obtain ⟨t,rfl⟩:=rx
 obtain ⟨t',rfl⟩:=ry
 exact add_str (λt' tk=>⟨.str (i++j),H,I.tok _,⟨_,rfl⟩,q⟩) hz
theorem vals1 (r:Vals [x] us):∃u,us=[u]/\RelV x u:=by
 cases r with
 | cons r1 r2=>cases r2;exact ⟨_,rfl,r1⟩
theorem vals2 (r:Vals [x,y] us):∃u w',us=[u,w']/\RelV x u/\RelV y w':=by
 cases r with
 | cons r1 r2=>
  cases r2 with
  | cons r3 r4=>cases r4;exact ⟨_,_,rfl,r1,r3⟩
theorem ES (hc:X.calm=true):cO X (.builtin "max") (λxs H Q=>∃i j,xs=[.int i,.int j]/\Q (.int (if j > i then j else i)) H):=by
 intro UB s σ H xs us Q I r h
 obtain ⟨i,j,rfl,q⟩:=h
 obtain ⟨u,w',rfl,⟨t,rfl⟩,⟨t',rfl⟩⟩:=vals2 r
 refine max_two_ints (I.ok.hd hc) λh' tk k=>⟨_,H,I.kept k,?_,q⟩
 by_cases hj:j > i
 ·rw [if_pos hj,if_pos hj];exact ⟨_,rfl⟩
 ·rw [if_neg hj,if_neg hj];exact ⟨_,rfl⟩
theorem ER:cO X (.type "int") (λxs H Q=>(∃i,xs=[.int i]/\Q (.int i) H)\/∃k,xs=[.bl k]/\Q (.int (if k then 1 else 0)) H):=by
 intro UB s σ H xs us Q I r h
 rcases h with ⟨i,rfl,q⟩ | ⟨k,rfl,q⟩
 ·obtain ⟨u,rfl,t,rfl⟩:=vals1 r
  exact call_int_int ⟨.int i,H,I,⟨_,rfl⟩,q⟩
 ·obtain ⟨u,rfl,r1⟩:=vals1 r
  cases r1
  exact call_int_bool ⟨.int (if k then 1 else 0),H,I.tok _,⟨_,rfl⟩,q⟩
end
structure c8 (k:Nat) (A:Vz):Prop where
 hd:A.handled=none
 dp:A.depth + 3 * k + 5 < adw
 un:A.units + 16 * k + 200 < Wj
theorem c8.mono (r:c8 k A) (h:j<=k):c8 j A:=⟨r.hd,by have:=r.dp;omega,by have:=r.un;omega⟩
theorem c8.deeper {A:Vz}(r:c8 (k + 1) A) (env:Env):c8 k (A.deeper env):=
 ⟨r.hd,by have:=r.dp;show A.depth + 1 + 3 * k + 5 < _;omega,by have:=r.un;show A.units + 3 + 16 * k + 200 < _;omega⟩
theorem c8.depth {A:Vz}(r:c8 k A):A.depth < adw:=by have:=r.dp;omega
theorem c8.units {A:Vz}(r:c8 k A):A.units + 64 < Wj:=by have:=r.un;omega
def Eg:TA:=λ_ H Q=>Q [] H
def Pj (ta:TE) (tr:TA):TA:=λσ H Q=>ta σ H λx H1=>tr σ H1 λxs H2=>Q (x::xs) H2
section
variable {X:Cx}{e:Vv}{es:List Vv}{te:TE}{t:TA}{pos:Pos}
theorem iZ:PA X [] Eg:=λ_ _ _ _ H Q I h=>Calls.spliced_nil ⟨[],H,I,.nil,h⟩
theorem fH (ha:PE X e te) (hr:PA X es t) (hs:UZ (e::es) X.env=(false,eval e X.env)::UZ es X.env:=by rfl):PA X (e::es) (Pj te t):=by
 intro pos UB s σ H Q I h
 rw [hs]
 show U9 _ _ (spliced ((false,eval e X.env)::Wu pos (UZ es X.env))) _ _ s
 refine Calls.spliced_cons (bP (ha UB s σ H _ I h) λu s1 ⟨x,H1,I1,r1,q1⟩=>?_)
 exact bP (hr pos UB s1 σ H1 _ I1 q1) λus s2 ⟨xs,H2,I2,r2,q2⟩=>⟨x::xs,H2,I2,.cons r1 r2,q2⟩
def QS (t:TA):TE:=λσ H Q=>t σ H λxs H1=>xs.length<=sizeLine/\∀p,H1 p=none->Q (.ref p) (upd H1 p (.tup xs))
def QK (t:TA):TE:=λσ H Q=>t σ H λxs H1=>xs.length<=sizeLine/\∀p,H1 p=none->Q (.ref p) (upd H1 p (.lst xs))
theorem NJ {x1}(h:PA X es t):PE X (.Tuple es x1 pos) (QS t):=by
 intro UB s σ H Q I hq
 refine wpAny_Tuple_spliced (bP (h pos UB s σ H _ I hq) λus s1 ⟨xs,H1,I1,r,z,q⟩=>⟨by rw [<-r.length];exact z,?_⟩)
 have hf:H1 s1.heap.objs.size=none:=I1.hok.fresh (UX _)
 refine ⟨.ref s1.heap.objs.size,upd H1 s1.heap.objs.size (.tup xs),I1.laid (t':=s1.toks) (λb u e=>US _ e) (UX _) ?_,rfl,q _ hf⟩
 exact ⟨z,us,r,⟨_,U0 _ rfl,rfl,_,rfl⟩⟩
theorem ND (h:PA X es t):PE X (.List es pos) (QK t):=by
 intro UB s σ H Q I hq
 refine wpAny_List_spliced (bP (h pos UB s σ H _ I hq) λus s1 ⟨xs,H1,I1,r,z,q⟩=>⟨by rw [<-r.length];exact z,?_⟩)
 have hf:H1 s1.heap.objs.size=none:=I1.hok.fresh (UX _)
 refine ⟨.ref s1.heap.objs.size,upd H1 s1.heap.objs.size (.lst xs),I1.laid (t':=s1.toks) (λb u e=>US _ e) (UX _) ?_,rfl,q _ hf⟩
 exact ⟨z,us,0,r,U0 _ rfl⟩
end
abbrev Sp:=List V->Hp->VK->XK->Prop
abbrev uF:=List Env->Hp->UP->XK->UN->UP->Prop
structure CV (P:U6) (w:Vs) (K:UM) (mg:Str->Option UN) (base:V1) (A:Vz) (outer:List Env) (s:UP) (H:Hp):Prop where
 frames:A.frames=some outer
 mod:Mod K mg base
 bs:∀b o,base.get? b=some o->s.heap.get? b=some o/\H b=none
 bsz:base.objs.size<=s.heap.objs.size
 funs:s.heap.FunFrames base outer
 frf:∀b∈frs outer,H b=none
 hok:gn P w H s.heap
 bare:aar s.gens
noncomputable def CE (outer:List Env) (P:U6) (w:Vs) (H:Hp) (s:UP) (Q:VK) (u:UN) (s':UP):Prop:=
 ∃v H',s'.os=s.os/\aar s'.gens/\Un (frs outer) [] H H' s.heap s'.heap/\gn P w H' s'.heap/\RelV v u/\Q v H'
noncomputable def CR (CX:uF) (outer:List Env) (P:U6) (w:Vs) (H:Hp) (s:UP) (Q:VK) (E:XK) (r:acY) (s':UP):Prop:=
 match r with
 | .ok (.ret u)=>CE outer P w H s Q u s'
 | .ok _=>False
 | .error e=>CX outer H s E e s'
structure eO (P:U6) (w:Vs) (K:UM) (mg:Str->Option UN) (base:V1) (CX:uF) (k:Nat) (f:Vd) (fd:Vk) (ps:List Str) (sp:Sp):Prop where
 len:∀vs H Q E,sp vs H Q E->vs.length=ps.length
 run:∀(A:Vz) (outer:List Env) (s:UP) (H:Hp) (args:Args) (us:List UN) (vs:List V) (Q:VK) (E:XK),c8 k A->CV P w K mg base A outer s H->acZ s fd args (ps.zip us)->Vals vs us->sp vs H Q E->
  Xf (Vg P w) A (.call (.ref f) args) (CR CX outer P w H s Q E) s
section
variable {X:Cx}{UB:List (Vd×Obj)}{σ:St}{H:Hp}{s s':UP}
theorem Inv.env0 (I:Inv X UB σ H s):CV X.prog X.w X.K X.mg X.base X.A X.stack s H:=
 ⟨I.ok.frames,I.ok.mod,I.bs,Vq I.ok.bsz I.sz,I.stack,I.stkFree,I.hok,I.bare⟩
theorem Inv.after {Q:VK}(I:Inv X UB σ H s) (h:CE X.stack X.prog X.w H s Q u s'):EP X UB σ Q u s':=by
 obtain ⟨v,H',os,bare,un,hok,r,q⟩:=h
 obtain ⟨hh,g,d,t,os'⟩:=s'
 obtain rfl:os'=s.os:=os
 exact ⟨v,H',I.call (h':=hh) (g':=g) (d':=d) (t':=t) (ch:=[]) un hok bare (λb z=>absurd z (by simp)),r,q⟩
end
def JR (sp:Sp) (dvs:List V) (E:XK) (t:TA):TE:=λσ H Q=>t σ H λvs H1=>sp (vs++dvs) H1 Q E
noncomputable def Binds (K:UM) (fd:Vk) (ps:List Str) (ds:List UN):Prop:=
 ∀(s:UP) (us:List UN),K.In s.heap->(us++ds).length=ps.length->acZ s fd ⟨us,[]⟩ (ps.zip (us++ds))
theorem Binds.all {K:UM}{fd:Vk}{ps:List Str}(h:∀us:List UN,us.length=ps.length->aau fd ⟨us,[]⟩=pure (ps.zip us)):Binds K fd ps []:=λs us _ hl=>by
 rw [WV] at hl ⊢
 exact .of_eq (h us hl)
def Passes (CX:uF) (X:Cx) (E:XK):Prop:=∀(UB:List (Vd×Obj)) (σ:St) (H:Hp) (s:UP) (e:UN) (s':UP),Inv X UB σ H s->CX X.stack H s E e s'->X.xe e s'
section
variable {X:Cx}{CX:uF}{k:Nat}{f C:Vd}{fd:Vk}{ps:List Str}{sp:Sp}{dvs:List V}{ds:List UN}{E:XK}{x m:Str}{p pos apos:Pos}{e o:Vv}{es:List Vv}{ta:TE}{t:TA}
theorem Gq {H:Hp}{Q:VK}(F:eO X.prog X.w X.K X.mg X.base CX k f fd ps sp) (hr:c8 k X.A) (hb:Binds X.K fd ps ds) (hd:Vals dvs ds) (hx:Passes CX X E)
 (I:Inv X UB σ H s) (r:Vals vs us) (h:sp (vs++dvs) H Q E):U9 (Vg X.prog X.w) X.A (call (.ref f) us) (EP X UB σ Q) X.xe s:=by
 have r2:Vals (vs++dvs) (us++ds):=r.append hd
 have hl:(us++ds).length=ps.length:=by rw [<-r2.length];exact F.len _ _ _ _ h
 refine ab9 (XR (F.run X.A X.stack s H ⟨us,[]⟩ (us++ds) (vs++dvs) Q E hr I.env0 (hb s us I.kIn hl) r2 h) λr s' hq=>?_)
 cases r with
 | error e=>exact hx UB σ H s e s' I hq
 | ok fl=>
  cases fl with
  | ret u=>exact I.after hq
  | next=>exact Yl hq
  | brk=>exact Yl hq
  | cont=>exact Yl hq
theorem rW (F:eO X.prog X.w X.K X.mg X.base CX k f fd ps sp) (hr:c8 k X.A) (hg:Gl X x) (hm:X.mg x=some (.ref f)) (hk:VZ X.K (.ref f)=true) (hb:Binds X.K fd ps ds) (hd:Vals dvs ds) (hx:Passes CX X E)
  (ha:PA X (e::es) t) (hdb:(x == ("__debug__":Str))=false:=by decide) (he:UZ (e::es) X.env=(false,eval e X.env)::UZ es X.env:=by rfl) (hpl:(Wu pos (UZ es X.env)).any (·.1)=false:=by rfl):
  PE X (.Call (.Name x p) (e::es) [] pos) (JR sp dvs E t):=by
 intro UB s σ H Q I h
 refine YQ (Ci I hg hm ?_ hdb)
 refine abP (h₀:=X.base) I.ok.mod.kin hk (bP (ha pos UB s σ H _ I h) λus s1 ⟨vs,H1,I1,r,q⟩=>⟨I1.kIn,?_⟩) he hpl
 exact Gq F hr hb hd hx I1 r q
end
structure eY (N P:List Str) (sc:Yc):Prop where
 kind:sc.kind=.function
 co:sc.isCoroutine=false
 gen:sc.isGenerator=false
 nd:N.Nodup
 pre:N.take P.length=P
 par:∀x∈P,sc.names.lookup x=some .local\/sc.names.lookup x=some .cell
 nofree:∀y∈sc.names,y.2≠.free
theorem xr {kindOf:Str->Option W9}:∀{binds:List (Str×UN)}{m:Str->Option UN},(∀v,(x,v)∉binds)->aeC kindOf binds m x=m x
 | [],_,_=>rfl
 | (n,v)::r,m,h=>by
  unfold aeC
  rw [xr λw hw=>h w (UU _ hw)]
  split
  ·have:x≠n:=by rintro rfl;exact h v UW
   simp [this]
  ·rfl
theorem xo {kindOf:Str->Option W9}:∀{binds:List (Str×UN)}{m:Str->Option UN},(∀v,(x,v)∉binds)->aeD kindOf binds m x=m x
 | [],_,_=>rfl
 | (n,v)::r,m,h=>by
  unfold aeD
  rw [xo λw hw=>h w (UU _ hw)]
  split
  ·rfl
  ·have:x≠n:=by rintro rfl;exact h v UW
   simp [this]
theorem xq {kindOf:Str->Option W9}{x:Str}{v:UN}:∀{P:List Str}{vs:List UN}{i:Nat}{m:Str->Option UN},P.Nodup->P[i]?=some x->vs[i]?=some v->kindOf x=some .local->
  aeC kindOf (P.zip vs) m x=some v
 | [],_,_,_,_,h,_,_=>by simp at h
 | _::_,[],_,_,_,_,h,_=>by simp at h
 | p::P,w::vs,0,m,nd,h1,h2,hk=>by
  simp at h1 h2;subst h1;subst h2
  show aeC kindOf ((p,w)::P.zip vs) m p=_
  unfold aeC
  rw [xr λv hv=>(WD.mp nd).1 (aaZ hv).1,if_pos hk]
  simp
 | p::P,w::vs,i + 1,m,nd,h1,h2,hk=>by
  show aeC kindOf ((p,w)::P.zip vs) m x=_
  unfold aeC
  exact xq (i:=i) (WD.mp nd).2 (by simpa using h1) (by simpa using h2) hk
theorem xm {kindOf:Str->Option W9}{x:Str}{v:UN}:∀{P:List Str}{vs:List UN}{i:Nat}{m:Str->Option UN},P.Nodup->P[i]?=some x->vs[i]?=some v->kindOf x≠some .local->
  aeD kindOf (P.zip vs) m x=some v
 | [],_,_,_,_,h,_,_=>by simp at h
 | _::_,[],_,_,_,_,h,_=>by simp at h
 | p::P,w::vs,0,m,nd,h1,h2,hk=>by
  simp at h1 h2;subst h1;subst h2
  show aeD kindOf ((p,w)::P.zip vs) m p=_
  unfold aeD
  rw [xo λv hv=>(WD.mp nd).1 (aaZ hv).1,if_neg hk]
  simp
 | p::P,w::vs,i + 1,m,nd,h1,h2,hk=>by
  show aeD kindOf ((p,w)::P.zip vs) m x=_
  unfold aeD
  exact xm (i:=i) (WD.mp nd).2 (by simpa using h1) (by simpa using h2) hk
def start (N:List Str) (vs:List V):St:=vs.map some++Wm (N.length - vs.length) none
noncomputable def qz (CX:uF) (P:U6) (w:Vs) (K:UM) (mg:Str->Option UN) (base:V1) (N:List Str) (UG:Str) (UA:Yc) (f:Vd) (cd:UN) (A:Vz) (outer:List Env) (s:UP) (H:Hp) (E:XK):Cx where
 prog:=P
 w:=w
 K:=K
 mg:=mg
 base:=base
 A:=A.deeper (Z4 UG UA s.heap.objs.size f cd)
 N:=N
 s₀:=s
 H₀:=H
 env:=Z4 UG UA s.heap.objs.size f cd
 outer:=outer
 stack:=Z4 UG UA s.heap.objs.size f cd::outer
 ex:=[]
 calm:=true
 fn:=λ_=>true
 pn:=[]
 xe:=λe s'=>U9 (Vg P w) (A.deeper (Z4 UG UA s.heap.objs.size f cd)) (leaving (Z4 UG UA s.heap.objs.size f cd) e) (λ_ s''=>CX outer H s E e s'') (λe' s''=>CX outer H s E e' s'') s'
theorem z_ {sc:Yc}(h:sc.names.lookup x=some .cell):∃c,(VQ n sc.names []).lookup x=some c:=by
 have q:=aaM sc.names n [] (.inl h)
 exact VV.mp q
theorem Fz {CX:uF}{P:U6}{w:Vs}{K:UM}{mg:Str->Option UN}{base:V1}{N ps:List Str}{UG:Str}{UA:Yc}{f:Vd}{cd:UN}{A:Vz}{outer:List Env}{s s1:UP}{H:Hp}{E:XK}{us:List UN}{vs:List V}
  (S:eY N ps UA) (hd:A.handled=none) (e0:CV P w K mg base A outer s H) (hl:vs.length=ps.length) (r:Vals vs us)
  (x:InCallC s s.heap.objs.size (aeC (Z4 UG UA s.heap.objs.size f cd).kindOf (ps.zip us) λ_=>none) (VQ (s.heap.objs.size + 1) UA.names []) (aeD (Z4 UG UA s.heap.objs.size f cd).kindOf (ps.zip us) λ_=>none) s1):
  Inv (qz CX P w K mg base N UG UA f cd A outer s H E) [] (start N vs) H s1:=by
 have hpl:ps.length<=N.length:=by have:=congrArg Ww S.pre;rw [Wc] at this;omega
 obtain ⟨h1,tk,rfl,hk⟩:=x.done
 have noA:∀b:Vd,b∉(qz CX P w K mg base N UG UA f cd A outer s H E).ex:=λb z=>absurd (show b∈([]:List Vd) from z) (by simp)
 refine ⟨⟨e0.mod,S.kind,rfl,rfl,UX _,λy z c h1 h2=>?_,λy hy=>?_,λy c _ h=>?_,λ_=>hd,Around.frames_deeper e0.frames,.inr ⟨rfl,rfl⟩,λb z=>absurd z (noA b),e0.bs,e0.bsz,λb _ _=>noA b,λb z=>absurd z (noA b),e0.funs,e0.frf⟩,
  rfl,e0.bare,Un.kept hk,⟨_,x.toInCall.ns,λi y v h1 h2 h3=>?_⟩,λy c h=>⟨_,x.cell y c h⟩,e0.hok.fresh (UX _),λy c h=>?_,λp hp=>absurd (show p∈([]:List (Vd×Obj)) from hp) (by simp),e0.hok.kept hk,?_⟩
 ·exact name_of_addr x.apart (XX h1) (XX h2)
 ·have hy:UA.names.lookup y=some .cell\/UA.names.lookup y=some .free:=hy
  rcases hy with hy | hy
  ·exact z_ hy
  ·exact absurd rfl (S.nofree _ (XX hy))
 ·exact Z1 (x.above y c (XX h))
 ·have hi:i < vs.length:=by
   unfold start at h2
   by_cases hi:i < vs.length
   ·exact hi
   ·rw [Wf (by simpa using hi)] at h2
    rw [YR] at h2
    split at h2 <;> cases h2
  have ha:vs[i]?=some v:=by
   unfold start at h2
   rw [WR (by simpa using hi),Vh] at h2
   cases e:vs[i]? with
   | none=>rw [e] at h2;cases h2
   | some a=>rw [e] at h2;cases h2;rfl
  obtain ⟨u,hu,rv⟩:=r.get ha
  have hp:ps[i]?=some y:=by
   rw [<-S.pre,List.getElem?_take_of_lt (by omega)];exact h1
  have ndP:ps.Nodup:=by rw [<-S.pre];exact S.nd.sublist (Zf _ _)
  refine ⟨u,rv,?_⟩
  rcases S.par y (VS hp) with k | k
  ·exact .inl ⟨k,xq ndP hp hu k⟩
  ·obtain ⟨c,e⟩:=z_ (n:=s.heap.objs.size + 1) k
   refine .inr ⟨.inl k,c,e,?_⟩
   have q:=x.cell y c e
   rw [xm ndP hp hu (by show UA.names.lookup y≠_;rw [k];decide)] at q
   exact q
 ·exact e0.hok.fresh (Z1 (x.above y c (XX h)))
 ·unfold start
  show _=N.length
  rw [Vc,UR,WW]
  omega
theorem Jp {K:UM}{mg:Str->Option UN}{dV kV doc pm cdv ct oc:UN}
 {N ps:List Str}{sp:Sp}(lk:K.lookup f=some ⟨oc,od,.func (VE name UG params body UA dV kV doc pm an cdv ct),osl⟩) (hcd:Xb K cdv UG=true) (S:eY N ps UA)
 (len:∀vs H Q E,sp vs H Q E->vs.length=ps.length)
 (hbody:∀(A:Vz) (outer:List Env) (s:UP) (H:Hp) (vs:List V) (Q:VK) (E:XK),c8 k (A.deeper (Z4 UG UA s.heap.objs.size f cdv))->sp vs H Q E->
 ∃t,kH (qz CX P w K mg base N UG UA f cdv A outer s H E) body t/\t {nx:=λ_ H'=>Q .non H',rt:=Q} (start N vs) H):
  eO P w K mg base CX (k + 1) f (VE name UG params body UA dV kV doc pm an cdv ct) ps sp:=by
 refine ⟨len,λA outer s H args us vs Q E hr e0 hb r Sg=>?_⟩
 have hl:=len _ _ _ _ Sg
 have KX:K.In s.heap:=e0.mod.kin.keeps λb o e=>(e0.bs b o e).1
 have lim:s.heap.NoLimit:=e0.mod.nolimit.keeps λb o e=>(e0.bs b o e).1
 have hkind:∀y∈ps.zip us,UA.names.lookup y.1=some .local\/(UA.names.lookup y.1=some .cell/\((VQ (s.heap.objs.size + 1) UA.names []).lookup y.1).isSome=true):=λ⟨n,v⟩ hy=>by
  rcases S.par n (aaZ hy).1 with q | q
  ·exact .inl q
  ·exact .inr ⟨q,aaM _ _ _ (.inl q)⟩
 refine codeAny_call_function hr.depth (KX _ _ lk) rfl S.co S.gen rfl (W.codeRec_of KX hcd) (hb _ _ _ _ ?_)
 refine wpAny_newFunctionEnv_cells S.kind hkind λenv he s1 x=>?_
 subst he
 refine ⟨lim.keeps x.toInCall.keep,codeAny_func ?_⟩
 obtain ⟨t,ht,hq⟩:=hbody A outer s H vs Q E (hr.deeper _) Sg
 have I:Inv (qz CX P w K mg base N UG UA f cdv A outer s H E) [] (start N vs) H s1:=Fz S hr.hd e0 hl r x
 refine VN (ht [] s1 (start N vs) H _ I hq) (λfl s' hs=>?_) λe s' hs=>hs
 have fin:∀{σ':St}{H':Hp}{v:V}{u:UN},Inv (qz CX P w K mg base N UG UA f cdv A outer s H E) [] σ' H' s'->RelV v u->Q v H'->CE outer P w H s Q u s':=
  fun {σ' H' v u} J rv q=>⟨v,H',J.os,J.bare,J.base,J.hok,rv,q⟩
 cases fl with
 | ret u=>
  obtain ⟨v,σ',H',J,rv,q⟩:=hs
  exact fin J rv q
 | next=>
  obtain ⟨σ',H',J,q⟩:=hs
  exact fin (v:=V.non) (u:=VM) J rfl q
 | brk=>
  obtain ⟨_,_,_,q⟩:=hs
  exact Yl q
 | cont=>
  obtain ⟨_,_,_,q⟩:=hs
  exact Yl q
section
variable {X:Cx}{x:Str}{p pos:Pos}{e:Vv}{es:List Vv}{t:TA}{id T:String}{r:List V->Hp->VK->Prop}
def P0 (r:List V->Hp->VK->Prop) (t:TA):TE:=λσ H Q=>t σ H λvs H1=>r vs H1 Q
theorem ur (hc:cO X (.builtin id) r) (hg:Gl X x) (hm:X.mg x=none) (hv:VR x=some (.builtin id)) (ha:PA X (e::es) t) (hn:x≠"__name__":=by decide) (hdb:(x == ("__debug__":Str))=false:=by decide)
  (he:UZ (e::es) X.env=(false,eval e X.env)::UZ es X.env:=by rfl) (hpl:(Wu pos (UZ es X.env)).any (·.1)=false:=by rfl):PE X (.Call (.Name x p) (e::es) [] pos) (P0 r t):=by
 intro UB s σ H Q I h
 refine YQ (qL I hg hm hv ?_ hn hdb)
 exact acz (bP (ha pos UB s σ H _ I h) λus s1 ⟨vs,H1,I1,r1,q1⟩=>hc UB s1 σ H1 vs us Q I1 r1 q1) he hpl
theorem m9 (hc:cO X (.type T) r) (hg:Gl X x) (hm:X.mg x=none) (hv:VR x=some (.type T)) (ha:PA X (e::es) t) (hn:x≠"__name__":=by decide) (hdb:(x == ("__debug__":Str))=false:=by decide)
  (he:UZ (e::es) X.env=(false,eval e X.env)::UZ es X.env:=by rfl) (hpl:(Wu pos (UZ es X.env)).any (·.1)=false:=by rfl):PE X (.Call (.Name x p) (e::es) [] pos) (P0 r t):=by
 intro UB s σ H Q I h
 refine YQ (qL I hg hm hv ?_ hn hdb)
 exact Ye (bP (ha pos UB s σ H _ I h) λus s1 ⟨vs,H1,I1,r1,q1⟩=>hc UB s1 σ H1 vs us Q I1 r1 q1) he hpl
end
end L2
namespace HT
open PySem PyProof.Rows
theorem G9 (A:Vz) (s:UP) (a:Int) (t:Tok) (c:Int) (u:Tok):∃e,WZ A s (.int a t) (.int c u) e/\(e=true↔a=c):=
 ⟨(a == c),abQ a t c u,by simp⟩
section
open PySem.SeqAt
open PySem.AutoSeq1 (wpAny_loadPart')
open PySem.MeetsSeq PySem.MeetsSeq2 PySem.MeetsSeq3
end
section
variable {prog:U6}{w:Vs}{A:Vz}{E:UN->UP->Prop}{s:UP}
theorem Kn {vs ws:List UN}{Q:UN->UP->Prop}(ht:aex s.heap t vs.toArray) (hb:aex s.heap b ws.toArray) (hv:vs≠[])
 (h1:ws=[]->Q (.ref t) s) (h2:ws≠[]->Q (.ref s.heap.objs.size) {s with heap:=s.heap.push {cls:=.type "tuple",data:=.seq (vs++ws).toArray}})
 (hsz:vs.length + ws.length<=sizeLine):U9 (Vg prog w) A (X_ .Add (.ref t) (.ref b)) Q E s:=by
 obtain ⟨⟨cls,dd,data,sl⟩,ho,hc,n,hd⟩:=id ht
 obtain ⟨⟨cls2,dd2,data2,sl2⟩,ho2,hc2,n2,hd2⟩:=id hb
 simp only at hc hd hc2 hd2
 subst hc hd hc2 hd2
 have e:vs.toArray++ws.toArray=(vs++ws).toArray:=by simp
 by_cases hw:ws=[]
 ·exact acA ⟨_,ho,rfl⟩ ⟨_,ho2,rfl⟩ aaH abR Zb YS (YN _ _)
   (tuple_addW1 t b vs.toArray ws.toArray n n2 dd dd2 sl sl2 (by simpa using hv) (by simp [hw])) ⟨ho,ho2,h1 hw⟩
 ·refine acA ⟨_,ho,rfl⟩ ⟨_,ho2,rfl⟩ aaH abR Zb YS (YN _ _)
   (tuple_addW2 t b vs.toArray ws.toArray n n2 dd dd2 sl sl2 (by simpa using hv) (by simpa using hw) (by rw [U3,U3];exact hsz)) ⟨ho,ho2,?_⟩
  rw [e]
  exact h2 hw
noncomputable def bN (n d:Nat):Option Int->Nat
 | none=>d
 | some v=>if v < 0 then (v + (n:Int)).toNat else min v.toNat n
theorem IE (n d:Nat):bN n d none=d:=rfl
theorem LD (n d k:Nat):bN n d (some (k:Int))=min k n:=by
 show (if (k:Int) < 0 then ((k:Int) + (n:Int)).toNat else min (k:Int).toNat n)=min k n
 rw [if_neg (by omega),V7]
theorem Oa (n d:Nat) (hd:d<=n) (o:Option Int):bN n d o<=n:=by
 cases o with
 | none=>exact hd
 | some v=>
  show (if v < 0 then (v + (n:Int)).toNat else min v.toNat n)<=n
  by_cases hv:v < 0
  ·rw [if_pos hv];omega
  ·rw [if_neg hv];exact Nat.min_le_right _ _
theorem BX (v:Int) (n d:Nat):(if v < 0 then max (v + (n:Int)) 0 else min v (n:Int))=((bN n d (some v):Nat):Int):=by
 show (if v < 0 then max (v + (n:Int)) 0 else min v (n:Int))=(((if v < 0 then (v + (n:Int)).toNat else min v.toNat n):Nat):Int)
 by_cases hv:v < 0
 ·simp only [if_pos hv];omega
 ·simp only [if_neg hv];omega
theorem Di (lo hi:Option Int) (n:Nat):Yu lo hi 1 (n:Int)=(((bN n 0 lo:Nat):Int),((bN n n hi:Nat):Int)):=by
 have h1:¬((1:Int) < 0):=by omega
 unfold Yu
 simp only [h1,if_false]
 refine afm ?_ ?_
 ·cases lo with
  | none=>rfl
  | some v=>exact BX v n 0
 ·cases hi with
  | none=>rfl
  | some v=>exact BX v n n
theorem D4 (i j:Nat):Xs (i:Int) (j:Int) 1=j - i:=by
 unfold Xs
 have h1:(1:Int) > 0:=by omega
 simp only [h1,if_true,Int.ediv_one]
 split <;> omega
theorem vI {Q:Option Int->UP->Prop}(p:abS v o) (h:Q o s):U9 (Vg prog w) A (acT v) Q E s:=by
 cases p with
 | none=>exact adx h
 | int i t=>exact slicePart_int h
theorem lU {sl:Vd}{vl vu:UN}{lo hi:Option Int}{n:Nat}{Q:Int×Int×Nat->UP->Prop}(hs:s.heap.IsSliceOf sl vl vu .none) (pl:abS vl lo) (pu:abS vu hi)
  (h:Q (((bN n 0 lo:Nat):Int),1,bN n n hi - bN n 0 lo) s):U9 (Vg prog w) A (ZZ (.ref sl) (pure (n:Int))) Q E s:=by
 obtain ⟨os,hos,hcs,hds⟩:=id hs
 unfold ZZ ady
 refine UL (UL (W3 hos hds (x:=vl) rfl (UL (W3 hos hds (x:=vu) rfl (UL (W3 hos hds (x:=.none) rfl (UO ?_)))))))
 refine UL (adx ?_)
 show U9 _ _ (if ((1:Int) == 0)=true then _ else _) _ _ s
 rw [if_neg (by decide)]
 refine UL (vI pl (UL (vI pu (UL (UO ?_)))))
 show U9 _ _ (match Yu lo hi 1 (n:Int) with | (lo,hi)=>pure (lo,(1:Int),Xs lo hi 1)) _ _ s
 rw [Di lo hi n]
 show U9 _ _ (pure (((bN n 0 lo:Nat):Int),(1:Int),Xs ((bN n 0 lo:Nat):Int) ((bN n n hi:Nat):Int) 1)) _ _ s
 rw [D4]
 exact UO h
theorem Ic (xs:Array UN) (i k:Nat):((UQ k).filterMap λ(m:Nat)=>xs[((i:Int) + (m:Int) * 1).toNat]?).toArray=((xs.toList.drop i).take k).toArray:=by
 have e:(λ(m:Nat)=>xs[((i:Int) + (m:Int) * 1).toNat]?)=λm=>xs[i + m]?:=by
  funext m
  have:((i:Int) + (m:Int) * 1).toNat=i + m:=by omega
  rw [this]
 rw [e]
 have:=pick_run xs i k
 rw [Z5] at this
 have e2:((λx=>xs[x]?) ∘ λx=>i + x)=λm=>xs[i + m]?:=rfl
 rw [e2] at this
 rw [this]
theorem sG {t sl:Vd}{items:Array UN}{vl vu:UN}{lo hi:Option Int}{Q:UN->UP->Prop}(ht:aex s.heap t items) (hs:s.heap.IsSliceOf sl vl vu .none) (pl:abS vl lo) (pu:abS vu hi)
  (hw:¬(bN items.size 0 lo=0/\bN items.size items.size hi=items.size))
  (h:Q (.ref s.heap.objs.size) {s with heap:=s.heap.push {cls:=.type "tuple",data:=.seq ((items.toList.drop (bN items.size 0 lo)).take (bN items.size items.size hi - bN items.size 0 lo)).toArray}})
  (hsz:items.size<=sizeLine):U9 (Vg prog w) A (ab_ (.ref t) (.ref sl)) Q E s:=by
 have R5:sizeOk (.seq ((items.toList.drop (bN items.size 0 lo)).take (bN items.size items.size hi - bN items.size 0 lo)).toArray):=by
  show ((items.toList.drop (bN items.size 0 lo)).take (bN items.size items.size hi - bN items.size 0 lo)).toArray.size<=sizeLine
  rw [U3,Wc,W4,Vb]
  omega
 have hj:bN items.size items.size hi<=items.size:=Oa _ _ (UX _) hi
 obtain ⟨os,hos,hcs,hds⟩:=id hs
 have SW:s.TypeIs (.ref sl) "slice":=⟨os,hos,hcs⟩
 unfold ab_
 try with_reducible refine VB ?_
 first | refine UL (UO ?_) | skip
 refine UL (acd ht.typeIs (by decide) ?_)
 refine UL (VG (name:=Xo "__getitem__") ht.typeIs VX
  (VA VX ht.typeIs abE ?_ (abT _ _)))
 show U9 _ _ (Ys (.ref t) >>= _) _ _ s
 refine UL (ad0 ht ?_)
 refine UL (Zs SW ?_)
 rw [if_pos (by decide)]
 refine UL (lU hs pl pu ?_)
 have hno:¬((((bN items.size 0 lo:Nat):Int) == 0 && (1:Int) == 1 && (bN items.size items.size hi - bN items.size 0 lo) == items.size)=true):=by
  intro q
  rw [UT,UT] at q
  have q1:((bN items.size 0 lo:Nat):Int)=0:=eq_of_beq q.1.1
  have q2:bN items.size items.size hi - bN items.size 0 lo=items.size:=eq_of_beq q.2
  exact hw ⟨by omega,by omega⟩
 show U9 _ _ (if (((bN items.size 0 lo:Nat):Int) == 0 && (1:Int) == 1 && (bN items.size items.size hi - bN items.size 0 lo) == items.size)=true then _ else _) _ _ s
 rw [if_neg hno,Ic]
 first
  | exact UL (m:=XG _) (Vu (UO ⟨_,rfl,UO h⟩) R5)
  | exact UL (m:=XG _) (Vu (UL (UO (UO ⟨_,rfl,UO h⟩))) R5)
  | exact UL (UL (m:=XG _) (Vu (UO (UO ⟨_,rfl,UO h⟩)) R5))
  | exact UL (UL (m:=XG _) (Vu (UO ⟨_,rfl,UO h⟩) R5))
end
end HT
namespace L2
open PySem PySem.Spec PyProof.Rows
abbrev TO:=St->Hp->(Option Int->Hp->Prop)->Prop
noncomputable def PO (X:Cx) (e:Option Vv) (t:TO):Prop:=
 ∀(UB:List (Vd×Obj)) (s:UP) (σ:St) (H:Hp) (Q:Option Int->Hp->Prop),Inv X UB σ H s->t σ H Q->
  U9 (Vg X.prog X.w) X.A (evalPart e X.env) (λu s'=>∃o H',Inv X UB σ H' s'/\abS u o/\Q o H') X.xe s
def LO:TO:=λ_ H Q=>Q none H
def Pq (t:TE):TO:=λσ H Q=>t σ H λx H1=>∃i,x=.int i/\Q (some i) H1
theorem intsAre_of {ns:List Int}:∀{us:List UN},Vals (ns.map V.int) us->YT us ns:=by
 induction ns with
 | nil=>intro us r;rw [aa0] at r;cases r;exact .nil
 | cons n ns ih=>
  intro us r
  rw [U_] at r
  cases r with
  | cons r1 r2=>
   obtain ⟨t,e⟩:=r1
   subst e
   exact .cons n t (ih r2)
section
variable {X:Cx}{e:Vv}{te:TE}{lo hi:Option Vv}{tl th:TO}{pos p2:Pos}
theorem Lk:PO X none LO:=by
 intro UB s σ H Q I h
 rw [abU]
 exact UO ⟨none,H,I,.none,h⟩
theorem Ll (h:PE X e te):PO X (some e) (Pq te):=by
 intro UB s σ H Q I hw
 rw [ad1]
 refine bP (h UB s σ H _ I hw) λu s1 ⟨x,H1,I1,r1,q1⟩=>?_
 obtain ⟨i,rfl,q⟩:=q1
 obtain ⟨t,rfl⟩:=r1
 exact ⟨some i,H1,I1,.int i t,q⟩
noncomputable def sO (X:Cx) (r:V->Option Int->Option Int->Hp->VK->Prop):Prop:=
 ∀(UB:List (Vd×Obj)) (s:UP) (σ:St) (H:Hp) (x:V) (v vl vu:UN) (lo hi:Option Int) (sl:Vd) (Q:VK),Inv X UB σ H s->RelV x v->s.heap.IsSliceOf sl vl vu .none->abS vl lo->abS vu hi->r x lo hi H Q->
  ∃T id,typeLookup (.type T) "__getitem__"=pure (some (.builtin id))/\s.TypeIs v T/\U9 (Vg X.prog X.w) X.A (ab_ v (.ref sl)) (EP X UB σ Q) X.xe s
theorem sO.or {r r':V->Option Int->Option Int->Hp->VK->Prop}(h:sO X r) (h':sO X r'):sO X (λx lo hi H Q=>r x lo hi H Q\/r' x lo hi H Q):=by
 intro UB s σ H x v vl vu lo hi sl Q I rx hs pl pu q
 rcases q with q | q
 ·exact h UB s σ H x v vl vu lo hi sl Q I rx hs pl pu q
 ·exact h' UB s σ H x v vl vu lo hi sl Q I rx hs pl pu q
def Ra (r:V->Option Int->Option Int->Hp->VK->Prop) (te:TE) (tl th:TO):TE:=λσ H Q=>te σ H λx H1=>tl σ H1 λl H2=>th σ H2 λu H3=>r x l u H3 Q
theorem Ia {r:V->Option Int->Option Int->Hp->VK->Prop}(hr:sO X r) (he:PE X e te) (hl:PO X lo tl) (hu:PO X hi th):PE X (.Subscript e (.Slice lo hi none p2) pos) (Ra r te tl th):=by
 intro UB s σ H Q I h
 refine adM (bP (he UB s σ H _ I h) λv s1 ⟨x,H1,I1,r1,q1⟩=>?_)
 refine wpAny_Slice (bP (hl UB s1 σ H1 _ I1 q1) λvl s2 ⟨l,H2,I2,pl,q2⟩=>bP (hu UB s2 σ H2 _ I2 q2) λvu s3 ⟨u,H3,I3,pu,q3⟩=>?_)
 rw [abU]
 refine UO ?_
 have I4:Inv X UB σ H3 {s3 with heap:=s3.heap.push {cls:=.type "slice",data:=.fields #[vl,vu,.none]}}:=I3.kept (t':=s3.toks) λb ob q=>US _ q
 obtain ⟨T,id,hT,ht,hg⟩:=hr UB {s3 with heap:=s3.heap.push {cls:=.type "slice",data:=.fields #[vl,vu,.none]}} σ H3 x v vl vu l u s3.heap.objs.size Q I4 r1 (abV ..) pl pu q3
 show U9 (Vg X.prog X.w) X.A (ad2 e (.Slice lo hi none p2) v (.ref s3.heap.objs.size)) (EP X UB σ Q) X.xe {s3 with heap:=s3.heap.push {cls:=.type "slice",data:=.fields #[vl,vu,.none]}}
 exact aeW (ops:=[.ref s3.heap.objs.size,v]) ht hT hg (by with_unfolding_all rfl)
def ny (xs:List V) (lo hi:Option Int):List V:=(xs.drop (HT.bN xs.length 0 lo)).take (HT.bN xs.length xs.length hi - HT.bN xs.length 0 lo)
theorem sV (xs:List V) (lo hi:Option Int):(ny xs lo hi).length<=xs.length:=by
 unfold ny
 rw [Wc,W4]
 omega
noncomputable def Qw (K:UM):V->Option Int->Option Int->Hp->VK->Prop:=λx lo hi H Q=>∃a xs,x=.ref a/\dg K H a xs/\
 ¬(HT.bN xs.length 0 lo=0/\HT.bN xs.length xs.length hi=xs.length)/\∀p,H p=none->Q (.ref p) (upd H p (.tup (ny xs lo hi)))
theorem Oe:sO X (Qw X.K):=by
 intro UB s σ H x v vl vu lo hi sl Q I rx hs pl pu h
 obtain ⟨a,xs,rfl,hx,hw,q⟩:=h
 cases rx
 obtain ⟨UC,r,ht,hz⟩:=I.tuple hx
 have hlen:UC.toArray.size=xs.length:=by rw [U3];exact r.length.symm
 refine ⟨"tuple",_,VX.lookup,ht.typeIs,?_⟩
 refine HT.sG ht hs pl pu (by rw [hlen];exact hw) ?_ (by rw [hlen];exact hz)
 rw [hlen]
 refine ⟨.ref s.heap.objs.size,_,I.laid (t':=s.toks) (o:=.tup (ny xs lo hi)) (λb ob q=>US _ q) (UX _) ?_,rfl,q _ (I.hok.fresh (UX _))⟩
 exact ⟨Vq (sV xs lo hi) hz,_,(r.drop (HT.bN xs.length 0 lo)).take (HT.bN xs.length xs.length hi - HT.bN xs.length 0 lo),aen _ _⟩
noncomputable def O8 (K:UM):R2:=λx y H Q=>∃a b xs ys,x=.ref a/\y=.ref b/\dg K H a xs/\dg K H b ys/\xs≠[]/\xs.length + ys.length<=sizeLine/\
 (ys=[]->Q (.ref a) H)/\(ys≠[]->∀p,H p=none->Q (.ref p) (upd H p (.tup (xs++ys))))
theorem Vals.nil_iff (r:Vals xs us):us=[]↔xs=[]:=by
 cases r with
 | nil=>simp
 | cons _ _=>simp
theorem K4:dD X (X_ .Add) (O8 X.K):=by
 intro UB s σ H x y v u Q I rx ry h
 obtain ⟨a,b,xs,ys,rfl,rfl,ha,hb,hx,hz,q1,q2⟩:=h
 cases rx
 cases ry
 obtain ⟨UC,r1,p1,_⟩:=I.tuple ha
 obtain ⟨its2,r2,p2,_⟩:=I.tuple hb
 refine HT.Kn p1 p2 (λz=>hx (r1.nil_iff.mp z)) (λz=>⟨.ref a,H,I,rfl,q1 (r2.nil_iff.mp z)⟩) (λz=>?_) (by rw [<-r1.length,<-r2.length];exact hz)
 refine ⟨.ref s.heap.objs.size,_,I.laid (t':=s.toks) (o:=.tup (xs++ys)) (λb ob q=>US _ q) (UX _) ?_,rfl,q2 (λw=>z (r2.nil_iff.mpr w)) _ (I.hok.fresh (UX _))⟩
 exact ⟨by rw [Vc];exact hz,_,r1.append r2,aen _ _⟩
end
def Aw (n:Nat) (i:Int):Option Nat:=if 0<=i then (if i < n then some i.toNat else none) else if -(n:Int)<=i then some (i + n).toNat else none
def mC {α:Type}(xs:List α) (i:Int):Option α:=(Aw xs.length i).bind λj=>xs[j]?
theorem KL (h:Aw n i=some j):abW i n=some j/\j < n/\-(n:Int)<=i/\i < n:=by
 unfold Aw at h
 by_cases h0:0<=i
 ·rw [if_pos h0] at h
  by_cases h1:i < n
  ·rw [if_pos h1] at h
   have e:i.toNat=j:=V2 h
   exact ⟨by rw [seqIndex_of h0 h1,e],by omega,by omega,h1⟩
  ·rw [if_neg h1] at h;cases h
 ·rw [if_neg h0] at h
  by_cases h1:-(n:Int)<=i
  ·rw [if_pos h1] at h
   have e:(i + n).toNat=j:=V2 h
   exact ⟨by rw [seqIndex_neg (by omega) h1,e],by omega,h1,by omega⟩
  ·rw [if_neg h1] at h;cases h
theorem vV {α:Type}{xs:List α}{i:Int}{v:α}(h:mC xs i=some v):∃j,abW i xs.length=some j/\xs[j]?=some v/\j < xs.length/\-(xs.length:Int)<=i/\i < xs.length:=by
 unfold mC at h
 cases e:Aw xs.length i with
 | none=>rw [e] at h;cases h
 | some j=>
  rw [e] at h
  obtain ⟨h1,h2,h3,h4⟩:=KL e
  exact ⟨j,h1,h,h2,h3,h4⟩
def rG (b:Vv):Prop:=∀o i,subscripted b false o i=operate [o,i] (ab_ o i)
noncomputable def qi (X:Cx) (r:R2):Prop:=
 ∀(value slice:Vv) (UB:List (Vd×Obj)) (s:UP) (σ:St) (H:Hp) (x y:V) (v u:UN) (Q:VK),Inv X UB σ H s->RelV x v->RelV y u->r x y H Q->
  subscripted slice false v u=operate [v,u] (ab_ v u)->U9 (Vg X.prog X.w) X.A (ad2 value slice v u) (EP X UB σ Q) X.xe s
noncomputable def QV (X:Cx) (id:String) (r:V->List V->Hp->VK->Prop):Prop:=
 ∀(UB:List (Vd×Obj)) (s:UP) (σ:St) (H:Hp) (x:V) (xs:List V) (v:UN) (us:List UN) (Q:VK),Inv X UB σ H s->RelV x v->Vals xs us->r x xs H Q->
  U9 (Vg X.prog X.w) X.A (call (.builtin id) (v::us)) (EP X UB σ Q) X.xe s
section
variable {X:Cx}{a b:Vv}{ta tb:TE}{pos:Pos}
theorem qi.or {r r':R2}(h:qi X r) (h':qi X r'):qi X (λx y H Q=>r x y H Q\/r' x y H Q):=by
 intro value slice UB s σ H x y v u Q I rx ry q hs
 rcases q with q | q
 ·exact h value slice UB s σ H x y v u Q I rx ry q hs
 ·exact h' value slice UB s σ H x y v u Q I rx ry q hs
theorem O0 (hr:qi X r) (ha:PE X a ta) (hb:PE X b tb) (hs:rG b):PE X (.Subscript a b pos) (Gz r ta tb):=by
 intro UB s σ H Q I h
 exact adM (GY ha hb I h λv u s2 x y H2 I2 rx ry q=>hr a b UB s2 σ H2 x y v u Q I2 rx ry q (hs _ _))
def N3 (K:UM):R2:=λx y H Q=>∃p xs i v,x=.ref p/\y=.int i/\cB K H p xs/\mC xs i=some v/\Q v H
def N5 (K:UM):R2:=λx y H Q=>∃p xs i v,x=.ref p/\y=.int i/\dg K H p xs/\mC xs i=some v/\Q v H
def N4:R2:=λx y H Q=>∃z i c,x=.str z/\y=.int i/\z.length<=sizeLine/\mC z.cps.toList i=some c/\Q (.str ⟨#[c]⟩) H
theorem KN:qi X (N3 X.K):=by
 intro value slice UB s σ H x y v u Q I rx ry h hs
 obtain ⟨p,xs,i,z,rfl,rfl,hq,he,q⟩:=h
 cases rx
 obtain ⟨t,rfl⟩:=ry
 obtain ⟨UC,r,pl,hz⟩:=I.list hq
 obtain ⟨j,h1,h2,h3,h4,h5⟩:=vV he
 obtain ⟨w,ew,rw'⟩:=r.get h2
 have hl:=r.length
 have hn:=nU
 have fin:EP X UB σ Q w s:=⟨z,H,I,rw',q⟩
 by_cases h0:0<=i
 ·have hj:i.toNat=j:=by
   rw [seqIndex_of h0 h5] at h1
   exact V2 h1
  exact item_listR pl.isList h0 (by omega) (by rw [hj];simpa using ew) fin hs
 ·have hj:(i + (UC.toArray.size:Int)).toNat=j:=by
   rw [seqIndex_neg (by omega) h4] at h1
   rw [U3,<-hl]
   exact V2 h1
  exact Zc (x:=w) pl.isList.typeIs aag.lookup
   (wpAny_getItem_list_neg (Q:=λr s'=>r=w/\EP X UB σ Q r s') pl.isList (by omega) (by rw [U3] <;> omega) (by omega) (by rw [hj];simpa using ew) ⟨rfl,fin⟩) hs
theorem M3:qi X (N5 X.K):=by
 intro value slice UB s σ H x y v u Q I rx ry h hs
 obtain ⟨p,xs,i,z,rfl,rfl,hq,he,q⟩:=h
 cases rx
 obtain ⟨t,rfl⟩:=ry
 obtain ⟨UC,r,pl,hz⟩:=I.tuple hq
 obtain ⟨j,h1,h2,h3,h4,h5⟩:=vV he
 obtain ⟨w,ew,rw'⟩:=r.get h2
 have hl:=r.length
 have hn:=nU
 have fin:EP X UB σ Q w s:=⟨z,H,I,rw',q⟩
 exact Zc (x:=w) pl.typeIs slot_tuple_getitem.lookup
  (getItem_tuple (j:=j) (Q:=λr s'=>r=w/\EP X UB σ Q r s') pl (by omega) (by omega) (by rw [U3,<-hl];exact h1) (by simpa using ew) ⟨rfl,fin⟩) hs
theorem MZ:qi X N4:=by
 intro value slice UB s σ H x y v u Q I rx ry h hs
 obtain ⟨z,i,c,rfl,rfl,hz,he,q⟩:=h
 obtain ⟨t,rfl⟩:=rx
 obtain ⟨t',rfl⟩:=ry
 obtain ⟨j,h1,h2,h3,h4,h5⟩:=vV he
 have hl:z.cps.toList.length=z.length:=by simp [ace]
 rw [hl] at h1 h4 h5
 have hn:=nU
 exact aeW (Zg s z t) slot_str_getitem.lookup (getItem_str (c:=c) (by
  have e1:decide (i < -(2 ^ 63:Int))=false:=decide_eq_false (by omega)
  have e2:decide (i ≥ 2 ^ 63)=false:=decide_eq_false (by omega)
  rw [e1,e2,ad3]) (by rw [h1];simpa using h2) ⟨.str ⟨#[c]⟩,H,I.tok _,⟨_,rfl⟩,q⟩) hs
def Q6 (K:UM):R2:=λx y H Q=>N3 K x y H Q\/N5 K x y H Q\/N4 x y H Q
theorem MY:qi X (Q6 X.K):=KN.or (M3.or MZ)
theorem Inv.lst {H:Hp}{s:UP}{xs:List V}(I:Inv X UB σ H s) (h:H p=some (.lst xs)):
  ∃(UC:List UN) (n:Nat),Vals xs UC/\s.heap.get? p=some {cls:=.type "list",data:=.seq UC.toArray n}/\xs.length<=sizeLine:=by
 obtain ⟨z,UC,n,r,e⟩:=I.hok p _ h
 exact ⟨UC,n,r,e,z⟩
theorem A4 (lo hi:Option Int) (n:Nat):(Zh lo hi none n).1=((HT.bN n 0 lo:Nat):Int)/\(Zh lo hi none n).2.1=((HT.bN n n hi:Nat):Int)/\(Zh lo hi none n).2.2=1:=by
 refine ⟨?_,?_,rfl⟩
 ·cases lo with
  | none=>simp [Zh,HT.bN]
  | some i=>
   simp only [Zh,HT.bN,acK,show (1:Int) > 0 by decide,if_true]
   by_cases h:i < 0
   ·simp only [h,if_true] <;> omega
   ·simp only [h,if_false] <;> omega
 ·cases hi with
  | none=>simp [Zh,HT.bN]
  | some i=>
   simp only [Zh,HT.bN,acK,show (1:Int) > 0 by decide,if_true]
   by_cases h:i < 0
   ·simp only [h,if_true] <;> omega
   ·simp only [h,if_false] <;> omega
theorem yO (UC:List UN) (lo hi:Option Int):ac0 UC.toArray lo hi none=((UC.drop (HT.bN UC.length 0 lo)).take (HT.bN UC.length UC.length hi - HT.bN UC.length 0 lo)).toArray:=by
 obtain ⟨h1,h2,h3⟩:=A4 lo hi UC.toArray.size
 unfold ac0
 rw [h1,h2,h3]
 simp only [sliceRange_one,pick_run,U3] <;> rfl
noncomputable def Qv (K:UM):V->Option Int->Option Int->Hp->VK->Prop:=λx lo hi H Q=>∃a xs,x=.ref a/\cB K H a xs/\∀p,H p=none->Q (.ref p) (upd H p (.lst (ny xs lo hi)))
theorem LI:sO X (Qv X.K):=by
 intro UB s σ H x v vl vu lo hi sl Q I rx hs pl pu h
 obtain ⟨a,xs,rfl,hx,q⟩:=h
 cases rx
 obtain ⟨UC,r,ht,hz⟩:=I.list hx
 have hlen:=r.length
 refine ⟨"list",_,aag.lookup,ht.isList.typeIs,?_⟩
 refine aah ht.isList hs pl pu .none (by simp) ?_ (by rw [U3] <;> omega)
 rw [yO,<-hlen]
 refine ⟨.ref s.heap.objs.size,_,I.laid (t':=s.toks) (o:=.lst (ny xs lo hi)) (λb ob q=>US _ q) (UX _) ?_,rfl,q _ (I.hok.fresh (UX _))⟩
 exact ⟨Vq (sV xs lo hi) hz,_,0,(r.drop (HT.bN xs.length 0 lo)).take (HT.bN xs.length xs.length hi - HT.bN xs.length 0 lo),U0 _ rfl⟩
noncomputable def u_:V->Bool
 | .non=>true
 | .bl _=>true
 | .int _=>true
 | .str _=>true
 | _=>false
noncomputable def MG:V->V->Bool
 | .non,.non=>true
 | .bl a,.bl b=>a == b
 | .bl a,.int b=>(if a then 1 else 0) == b
 | .int a,.bl b=>a == (if b then 1 else 0)
 | .int a,.int b=>a == b
 | .str a,.str b=>a == b
 | _,_=>false
theorem MF (ry:RelV y u) (rx:RelV x v) (fy:u_ y=true) (fx:u_ x=true):WZ A s u v (MG y x):=by
 cases y with
 | non=>
  cases ry
  cases x with
  | non=>cases rx;exact aa1 _
  | bl b=>cases rx;exact aes b
  | int b=>obtain ⟨t,rfl⟩:=rx;exact aeE b t
  | str b=>obtain ⟨t,rfl⟩:=rx;exact aeF b t
  | _=>exact absurd (show false=true from fx) Vp
 | bl a=>
  cases ry
  cases x with
  | non=>cases rx;exact aet a
  | bl b=>cases rx;exact aeu a b
  | int b=>obtain ⟨t,rfl⟩:=rx;exact aeG a b t
  | str b=>obtain ⟨t,rfl⟩:=rx;exact aeH a b t
  | _=>exact absurd (show false=true from fx) Vp
 | int a=>
  obtain ⟨t',rfl⟩:=ry
  cases x with
  | non=>cases rx;exact aeI a t'
  | bl b=>cases rx;exact aeJ a t' b
  | int b=>obtain ⟨t,rfl⟩:=rx;exact abQ a t' b t
  | str b=>obtain ⟨t,rfl⟩:=rx;exact abM a t' b t
  | _=>exact absurd (show false=true from fx) Vp
 | str a=>
  obtain ⟨t',rfl⟩:=ry
  cases x with
  | non=>cases rx;exact aeK a t'
  | bl b=>cases rx;exact aeL a t' b
  | int b=>obtain ⟨t,rfl⟩:=rx;exact abN a t' b t
  | str b=>obtain ⟨t,rfl⟩:=rx;exact aeX a t' b t
  | _=>exact absurd (show false=true from fx) Vp
 | _=>exact absurd (show false=true from fy) Vp
theorem zS:cO X (.builtin "len") (λxs H Q=>∃p ys,xs=[.ref p]/\(cB X.K H p ys\/dg X.K H p ys)/\Q (.int ys.length) H):=by
 intro UB s σ H xs us Q I r h
 obtain ⟨p,ys,rfl,hq,q⟩:=h
 obtain ⟨u,rfl,rx⟩:=vals1 r
 cases rx
 have hn:=nU
 rcases hq with hq | hq
 ·obtain ⟨UC,r',pl,hz⟩:=I.list hq
  have hlen:=r'.length
  exact Calls.call_len_list pl.isList (by simp only [U3] <;> omega) ⟨.int ys.length,H,I.tok _,⟨s.toks + 1,by rw [U3,hlen]⟩,q⟩
 ·obtain ⟨UC,r',pl,hz⟩:=I.tuple hq
  have hlen:=r'.length
  exact len_tuple pl (by simp only [U3] <;> omega) ⟨.int ys.length,H,I.tok _,⟨s.toks + 1,by rw [U3,hlen]⟩,q⟩
theorem zT:cO X (.builtin "len") (λxs H Q=>∃z,xs=[.str z]/\z.length<=sizeLine/\Q (.int z.length) H):=by
 intro UB s σ H xs us Q I r h
 obtain ⟨z,rfl,hz,q⟩:=h
 obtain ⟨u,rfl,t,rfl⟩:=vals1 r
 have hn:=nU
 exact len_str (by omega) ⟨.int z.length,H,I.tok _,⟨_,rfl⟩,q⟩
theorem cO.or {r r':List V->Hp->VK->Prop}(h:cO X f r) (h':cO X f r'):cO X f (λxs H Q=>r xs H Q\/r' xs H Q):=by
 intro UB s σ H xs us Q I rs q
 rcases q with q | q
 ·exact h UB s σ H xs us Q I rs q
 ·exact h' UB s σ H xs us Q I rs q
theorem zU:cO X (.type "list") (λxs H Q=>∃p ys,xs=[.ref p]/\(cB X.K H p ys\/dg X.K H p ys)/\∀l,H l=none->Q (.ref l) (upd H l (.lst ys))):=by
 intro UB s σ H xs us Q I r h
 obtain ⟨p,ys,rfl,hq,q⟩:=h
 obtain ⟨u,rfl,rx⟩:=vals1 r
 cases rx
 have fin:∀(UC:List UN),Vals ys UC->ys.length<=sizeLine->∀(h':V1) (c':Nat),(∀b o',s.heap.get? b=some o'->h'.get? b=some o')->
   h'.get? s.heap.objs.size=some {cls:=.type "list",dict:=none,data:=.seq UC.toArray c',slots:=#[]}->EP X UB σ Q (.ref s.heap.objs.size) {s with heap:=h'}:=λUC r' hz h' c' kp e=>
  ⟨.ref s.heap.objs.size,_,I.laid (t':=s.toks) kp (UX _) (show cT X.prog X.w _ h' _ (.lst ys) from ⟨hz,UC,c',r',e⟩),rfl,q _ (I.hok.fresh (UX _))⟩
 rcases hq with hq | hq
 ·obtain ⟨UC,r',pl,hz⟩:=I.list hq
  have hlen:=r'.length
  obtain ⟨o,ho,hc,n,hd⟩:=pl.isList
  exact ad4 p (.inl rfl) ho hc hd (λh' c' kp e=>fin UC r' hz h' c' kp e) (by simp only [U3] <;> omega)
 ·obtain ⟨UC,r',pl,hz⟩:=I.tuple hq
  have hlen:=r'.length
  obtain ⟨o,ho,hc,n,hd⟩:=pl
  exact ad4 p (.inr rfl) ho hc hd (λh' c' kp e=>fin UC r' hz h' c' kp e) (by simp only [U3] <;> omega)
theorem yH:cO X (.type "tuple") (λxs H Q=>∃p ys,xs=[.ref p]/\((cB X.K H p ys/\∀l,H l=none->Q (.ref l) (upd H l (.tup ys)))\/(dg X.K H p ys/\Q (.ref p) H))):=by
 intro UB s σ H xs us Q I r h
 obtain ⟨p,ys,rfl,h⟩:=h
 obtain ⟨u,rfl,rx⟩:=vals1 r
 cases rx
 rcases h with ⟨hq,q⟩ | ⟨hq,q⟩
 ·obtain ⟨UC,r',pl,hz⟩:=I.list hq
  have hlen:=r'.length
  refine call_tuple_list pl.isList (λh' kp=>?_) (by simp only [U3] <;> omega)
  have I1:Inv X UB σ H {s with heap:=h'}:=I.kept (t':=s.toks) kp
  have I2:Inv X UB σ (upd H h'.objs.size (.tup ys)) {s with heap:=h'.push {cls:=.type "tuple",data:=.seq UC.toArray}}:=
   I1.laid (t':=s.toks) (λb o e=>US _ e) (UX _) (show cT X.prog X.w _ _ _ (.tup ys) from ⟨hz,UC,r',aen _ _⟩)
  exact ⟨.ref h'.objs.size,_,I2,rfl,q _ (I1.hok.fresh (UX _))⟩
 ·obtain ⟨UC,r',pl,hz⟩:=I.tuple hq
  exact call_tuple_same pl ⟨.ref p,H,I,rfl,q⟩
noncomputable def P4 (K:UM) (T:String) (x:V) (H:Hp):Prop:=match x with
 | .str _=>T="str"
 | .int _=>T="int"
 | .ref p=>(T="list"/\∃xs,cB K H p xs)\/(T="tuple"/\∃o,K.lookup p=some o/\o.cls=.type "tuple"/\o.dict=none)\/
   (T="dict"/\((∃UJ,H p=some (.dK UJ))\/∃UJ,H p=some (.dT UJ)))\/(T="set"/\∃S n,H p=some (.set S n))
 | _=>False
theorem Ov {H:Hp}{s:UP}(I:Inv X UB σ H s) (r:RelV x v) (ty:P4 X.K T x H):
  s.TypeIs v T/\∀a,v=.ref a->∃ob,s.heap.get? a=some ob/\ob.dict=none:=by
 cases x with
 | str z=>
  obtain ⟨t,rfl⟩:=r
  cases (show T="str" from ty)
  exact ⟨Zg s z t,λ_ e=>nomatch e⟩
 | int i=>
  obtain ⟨t,rfl⟩:=r
  cases (show T="int" from ty)
  exact ⟨typeIs_int s i t,λ_ e=>nomatch e⟩
 | ref p=>
  cases r
  rcases ty with ⟨rfl,xs,hq⟩ | ⟨rfl,o,hk,hc,hd⟩ | ⟨rfl,hk⟩ | ⟨rfl,S,n,hk⟩
  ·obtain ⟨UC,_,pl,_⟩:=I.list hq
   refine ⟨pl.isList.typeIs,λa e=>?_⟩
   cases e
   obtain ⟨o,n,e,c,hd,_⟩:=pl
   exact ⟨o,e,hd⟩
  ·refine ⟨⟨o,I.kIn p o hk,hc⟩,λa e=>?_⟩
   cases e
   exact ⟨o,I.kIn _ o hk,hd⟩
  ·have z:∃o,s.heap.get? p=some o/\o.ExactDict:=by
    rcases hk with ⟨UJ,hk⟩ | ⟨UJ,hk⟩
    ·obtain ⟨_,_,_,_,o,_,_,e,ex,_⟩:=I.hok p _ hk
     exact ⟨o,e,ex⟩
    ·obtain ⟨_,_,_,_,o,_,_,e,ex,_⟩:=I.hok p _ hk
     exact ⟨o,e,ex⟩
   obtain ⟨o,e,ex⟩:=z
   refine ⟨⟨o,e,ex.1⟩,λa e2=>?_⟩
   cases e2
   exact ⟨o,e,ex.2.1⟩
  ·obtain ⟨o,_,_,_,e,ex,_⟩:=I.hok p _ hk
   refine ⟨⟨o,e,ex.1⟩,λa e2=>?_⟩
   cases e2
   exact ⟨o,e,ex.2.1⟩
 | _=>exact Yl ty
def Q8 (K:UM) (T:String) (r:V->List V->Hp->VK->Prop) (to:TE) (t:TA):TE:=λσ H Q=>to σ H λx H1=>P4 K T x H1/\t σ H1 λxs H2=>r x xs H2 Q
variable {o e:Vv}{es:List Vv}{to:TE}{t:TA}{name:Str}{apos cpos:Pos}{T id:String}{r:V->List V->Hp->VK->Prop}
theorem ze (pa:PlainAttrs T) (slot:Slot T name id) (hty:typeOf (.builtin id)=pure (.type "method_descriptor")) (hm:QV X id r) (ho:PE X o to) (ha:PA X (e::es) t)
  (hbase:Ym o name X.env (eval o X.env)=eval o X.env:=by rfl)
  (hfew:((Wu cpos (UZ (e::es) X.env)).all (λx=>!x.1) && (acU cpos (aav [] X.env)).all (λx=>x.1.isSome)
   && decide ((e::es).length + ([]:List aaw).length + (if ([]:List aaw).isEmpty then 0 else 1) < 30))=true:=by rfl)
  (hline:(apos.endLine == cpos.line)=true:=by rfl) (hs:UZ (e::es) X.env=(false,eval e X.env)::UZ es X.env:=by rfl) (hplain:(Wu cpos (UZ es X.env)).any (·.1)=false:=by rfl):
  PE X (.Call (.Attribute o name apos) (e::es) [] cpos) (Q8 X.K T r to t):=by
 intro UB s σ H Q I h
 refine wpAny_Call_method_late hbase hfew hline rfl (bP (ho UB s σ H _ I h) λv s1 ⟨x,H1,I1,r1,ty,q1⟩=>?_)
 obtain ⟨h1,h2⟩:=Ov I1 r1 ty
 refine ⟨T,id,pa,slot,hty,h1,h2,?_⟩
 have hA:=ha cpos UB s1 σ H1 _ I1 q1
 rw [hs] at hA ⊢
 refine Calls.callWith_builtin (by show (false || (Wu cpos (UZ es X.env)).any (·.1))=false;rw [hplain] <;> rfl) (Calls.evalArgs_plain ?_)
 exact bP hA λus s2 ⟨vs,H2,I2,r2,q2⟩=>hm UB s2 σ H2 x vs v us Q I2 r1 r2 q2
end
noncomputable def Jc (X:Cx) (id:String) (r:V->List V->Hp->VK->Prop):Prop:=
 ∀(UB:List (Vd×Obj)) (s:UP) (σ:St) (H:Hp) (x:V) (xs:List V) (v:UN) (us:List UN) (Q:VK),Inv X UB σ H s->RelV x v->Vals xs us->r x xs H Q->
  U9 (Vg X.prog X.w) X.A (call (.builtin id) (v::us)) (EP X UB σ Q) X.xe s
theorem Vals.one:∀{x:V}{us:List UN},Vals [x] us->∃u,us=[u]/\RelV x u
 | _,_,.cons r .nil=>⟨_,rfl,r⟩
theorem Vals.eraseIdx:∀{xs:List V}{us:List UN}(i:Nat),Vals xs us->Vals (xs.eraseIdx i) (us.eraseIdx i)
 | _,_,_,.nil=>.nil
 | _,_,0,.cons _ t=>t
 | _,_,i + 1,.cons r t=>.cons r (Vals.eraseIdx i t)
theorem Vals.reverse {xs:List V}{us:List UN}(h:Vals xs us):Vals xs.reverse us.reverse:=by
 induction h with
 | nil=>exact .nil
 | cons r t ih=>rw [Zi,Zi];exact Vals.append ih (.cons r .nil)
theorem xP {α:Type}:∀(l:List α) (i:Nat),(l.eraseIdx i).length<=l.length
 | [],_=>UX _
 | _::_,0=>YI _
 | _::r,i + 1=>Nat.succ_le_succ (xP r i)
section
variable {X:Cx}{UB:List (Vd×Obj)}{σ:St}{H:Hp}{s:UP}{l b:Vd}{xs ys zs:List V}
theorem Inv.lset {UC its':List UN}{f:Array UN->Array UN}(I:Inv X UB σ H s) (hH:H l=some (.lst xs))
 (e:s.heap.get? l=some {cls:=.type "list",data:=.seq UC.toArray n}) (hf:f UC.toArray=its'.toArray) (hv:Vals ys its') (hz:ys.length<=sizeLine):
  Inv X UB σ (upd H l (.lst ys)) {s with heap:=s.heap.update l (W0 f),toks:=t'}:=by
 have q:=ae_ e f
 rw [hf] at q
 refine I.write (x:=l) (e:=l) (by rw [hH];exact trivial) (.inl rfl) (λb' u hb hu=>(Zd s.heap (W0 f) (WT hb)).trans hu) ⟨_,q⟩ ?_
 exact ⟨hz,its',_,hv,q⟩
theorem Inv.lnew {UC:List UN}(I:Inv X UB σ H s) (hv:Vals ys UC) (hz:ys.length<=sizeLine):
  Inv X UB σ (upd H s.heap.objs.size (.lst ys)) {s with heap:=s.heap.push {cls:=.type "list",data:=.seq UC.toArray},toks:=t'}:=
 I.laid (λ_ _ q=>US _ q) (UX _) ⟨hz,UC,0,hv,U0 _ rfl⟩
theorem Inv.fresh (I:Inv X UB σ H s):H s.heap.objs.size=none:=I.hok.fresh (UX _)
theorem Inv.lstM (I:Inv X UB σ H s) (hH:H l=some (.lst xs)):xs.length<=sizeLine/\∃(UC:List UN) (n:Nat),Vals xs UC/\xs.length=UC.length/\s.heap.get? l=some {cls:=.type "list",data:=.seq UC.toArray n}:=by
 obtain ⟨z,UC,n,r,e⟩:=I.hok l _ hH
 exact ⟨z,UC,n,r,r.length,e⟩
theorem AK (h:n<=sizeLine):W2 n=false:=by
 unfold W2
 exact decide_eq_false (by omega)
end
section
variable {X:Cx}
noncomputable def Lz:V->List V->Hp->VK->Prop:=λx vs H Q=>∃l xs y,x=.ref l/\vs=[y]/\H l=some (.lst xs)/\xs.length < sizeLine/\Q .non (upd H l (.lst (xs++[y])))
theorem qM:Jc X "list.append" Lz:=by
 intro UB s σ H x vs v us Q I rx rv h
 obtain ⟨l,xs,y,rfl,rfl,hH,hz,q⟩:=h
 cases rx
 obtain ⟨u,rfl,ru⟩:=rv.one
 obtain ⟨z,UC,n,r,hl,e⟩:=I.lstM hH
 refine acf F.slot_list_append ⟨_,e,rfl⟩ F.entry_list_append (F.args_list_append_2 _ _) (PySem.list_append l UC.toArray n u (by rw [U3];omega)) ⟨e,?_⟩
 refine ⟨.non,_,I.lset (its':=UC++[u]) hH e (by simp) (r.append (.cons ru .nil)) ?_,rfl,q⟩
 rw [Vc,Yg]
 omega
noncomputable def LA:V->List V->Hp->VK->Prop:=λx vs H Q=>∃l b xs zs,x=.ref l/\vs=[.ref b]/\H l=some (.lst xs)/\H b=some (.lst zs)/\xs.length + zs.length<=sizeLine/\Q .non (upd H l (.lst (xs++zs)))
theorem PZ:Jc X "list.extend" LA:=by
 intro UB s σ H x vs v us Q I rx rv h
 obtain ⟨l,b,xs,zs,rfl,rfl,hH,hB,hz,q⟩:=h
 cases rx
 obtain ⟨u,rfl,ru⟩:=rv.one
 cases ru
 obtain ⟨z,UC,n,r,hl,e⟩:=I.lstM hH
 obtain ⟨z2,its2,n2,r2,hl2,e2⟩:=I.lstM hB
 have hsz:UC.toArray.size + its2.toArray.size<=sizeLine:=by rw [U3,U3];omega
 have Sd:¬(!UC.toArray.isEmpty && W2 (UC.toArray.size + its2.toArray.size))=true:=by
  rw [AK hsz,Xu]
  exact Vp
 refine acf abX ⟨_,e,rfl⟩ abF (abp _ _)
  (AutoSeq1.list_extend_list_list_0 l UC.toArray n b its2.toArray n2 Sd (by rw [U3];omega) (by omega)) ⟨e,e2,?_⟩
 refine ⟨.non,_,I.lset (its':=UC++its2) hH e (by simp) (r.append r2) ?_,rfl,q⟩
 rw [Vc]
 omega
noncomputable def N6:V->List V->Hp->VK->Prop:=λx vs H Q=>∃l xs i k y,x=.ref l/\vs=[.int i]/\H l=some (.lst xs)/\-(2 ^ 63)<=i/\i < 2 ^ 63/\abW i xs.length=some k/\xs[k]?=some y/\Q y (upd H l (.lst (xs.eraseIdx k)))
theorem HG:Jc X "list.pop" N6:=by
 intro UB s σ H x vs v us Q I rx rv h
 obtain ⟨l,xs,i,k,y,rfl,rfl,hH,h1,h2,hk,hy,q⟩:=h
 cases rx
 obtain ⟨u,rfl,ru⟩:=rv.one
 obtain ⟨t,rfl⟩:=ru
 obtain ⟨z,UC,n,r,hl,e⟩:=I.lstM hH
 obtain ⟨w,hw,rw'⟩:=r.get hy
 refine acf F.slot_list_pop ⟨_,e,rfl⟩ F.entry_list_pop (F.args_list_pop_2 _ _)
  (MeetsSeq.list_pop_at l UC.toArray n i t k w (fitsIndex_both h1 h2) (by rw [U3,<-hl];exact hk) (by rw [<-Wa];exact hw) (by rw [U3];omega)) ⟨e,?_⟩
 refine ⟨y,_,I.lset (its':=UC.eraseIdx k) hH e ?_ (r.eraseIdx k) ?_,rw',q⟩
 ·show UC.toArray.eraseIdxIfInBounds k=(UC.eraseIdx k).toArray
  rw [List.eraseIdxIfInBounds_toArray]
 ·have:=xP xs k
  omega
noncomputable def Qt:R2:=λx y H Q=>∃l b xs zs,x=.ref l/\y=.ref b/\H l=some (.lst xs)/\H b=some (.lst zs)/\xs.length + zs.length<=sizeLine/\∀p,H p=none->Q (.ref p) (upd H p (.lst (xs++zs)))
theorem FW:dD X (X_ .Add) Qt:=by
 intro UB s σ H x y v u Q I rx ry h
 obtain ⟨l,b,xs,zs,rfl,rfl,hH,hB,hz,q⟩:=h
 cases rx
 cases ry
 obtain ⟨z,UC,n,r,hl,e⟩:=I.lstM hH
 obtain ⟨z2,its2,n2,r2,hl2,e2⟩:=I.lstM hB
 refine PySem.P.add_list e e2 ?_ (by rw [U3,U3];omega)
 have ea:UC.toArray++its2.toArray=(UC++its2).toArray:=by simp
 rw [ea]
 exact ⟨.ref _,_,I.lnew (t':=s.toks) (r.append r2) (by rw [Vc];omega),rfl,q _ I.fresh⟩
end
end L2
namespace Att
open PySem PySem.W PySem.Calls PyProof.Rows
theorem vp:∀(ns:List Int) (vs:List UN),WellAll P h vs (ns.map afe)->YT vs ns:=by
 intro ns
 induction ns with
 | nil=>
  intro vs w
  rw [aa0] at w
  cases w
  exact .nil
 | cons n ns ih=>
  intro vs w
  rw [U_] at w
  cases w with
  | cons a b=>
   cases a
   exact .cons _ _ (ih _ b)
theorem Gu {l:OpenLaw}(hn:l.most=some n){h:V1}
 (hpre:l.row.toRowW.claim.pre args=true) (hwl:WellAll P h vals args):
  ∃a vs ns,vals=[XA a]/\args=[WData.list (ns.map afe)]/\h.get? a=some {cls:=.type "list",data:=.seq vs.toArray}/\YT vs ns/\ns.length<=n:=by
 have hsh:WShape.hasAll [] args [.list .int]=true:=(pre_splitW hpre).1
 have hc:l.pre.holds [] {args:=args}=true:=(pre_splitW hpre).2
 obtain ⟨d,r,rfl,h1,h2⟩:=hasAllW_cons hsh
 obtain rfl:=hasAllW_nil h2
 obtain ⟨xs,rfl,h3⟩:=hasW_list h1
 obtain ⟨ns,rfl⟩:=items_int h3
 have hlen:ns.length<=n:=by
  unfold OpenLaw.pre at hc
  have h4:(WTm.not (.lt (.lit (.int (n:Int))) (.len (.arg 0)))).holds [] {args:=[.list (ns.map .int)]}=true:=by
   have h4:=(holds_andW hc).1
   rw [hn] at h4
   exact h4
  have h5:=condW_of h4 (w_not (w_lt w_lit (w_len_list (w_arg rfl))))
  rw [UR] at h5
  refine aaI λq=>?_
  have q':(n:Int) < ((ns.length:Nat):Int):=by omega
  first
   | (rw [decide_eq_true q'] at h5;exact absurd h5 (by decide))
   | (simp at h5;omega)
 cases hwl with
 | cons w1 w2=>
  cases w2
  cases w1 with
  | list ho hall=>exact ⟨_,_,ns,rfl,rfl,ho,vp ns _ hall,hlen⟩
theorem Gb (l:OpenLaw) (args:List WData):l.row.toRowW.claim.post args (.bool true) args=true:=
 postW_of (r:=l.row.toRowW) (X:=(true == true))
  (show ae5 [] (.bool true) .bool=true by first | rfl | decide | simp [ae5,WShape.arms,WShape.armsAll])
  (show (WTm.eq .res (.lit (.bool true))).value [] {args:=args,res:=some (.bool true),after:=args}=some (.bool (true == true)) from w_eq_bool (w_res rfl) w_lit) rfl
theorem Bh {l:OpenLaw}{XP:(Str->Option UN)->V1->Prop}{YP:Vs->V1->Prop}{d:DefRec}
 (hn:l.most=some n) (hdf:d.params.defaults=[])
 (call:∀(w:Vs) (s₀ s₁:UP) (mg mb:Str->Option UN) (fa:Vd) (o:Obj) (pm cd doc:UN) (a:Vd) (vs:List UN) (ns:List Int),
 Ground q loose [] XP w s₀ mg mb s₁.heap->YP w s₁.heap->
 s₁.heap.get? fa=some o->o.data=.func (docDef d.name d.params d.body d.scope pm cd doc)->s₁.heap.CodeRec cd d.name->mg d.name=some (.ref fa)->
 s₁.heap.get? a=some {cls:=.type "list",data:=.seq vs.toArray}->YT vs ns->ns.length<=n->s₁.gens=#[]->
 Xf (Vg l.prog w) acg (.call (.ref fa) ⟨[.ref a],[]⟩) (λr s'=>r=.ok (.ret (.bool true))/\OldK s₁.heap s'.heap/\s'.os=s₁.os/\aar s'.gens) s₁):
  WalkO q loose XP YP l.row.toRowW d [] (λf vs=>adN f vs):=by
 intro w s₀ s₁ mg mb G Y fa o pm cd doc dV kV ho hd hcd hD hmg hg args vals as hpre hlay hrd hwl hlo
 obtain rfl:dV=.none:=Dflts.none hD hdf
 obtain rfl:kV=.none:=Dflts.noKw hD
 obtain ⟨a,vs,ns,rfl,rfl,hobj,hints,hlen⟩:=Gu hn hpre hwl
 refine enter_call (XR (call w s₀ s₁ mg mb fa o pm cd doc a vs ns G Y ho (fd_plain hd) hcd hmg hobj hints hlen hg) λr s' hq=>?_)
 obtain ⟨rfl,h2,h3,h4⟩:=hq
 exact ⟨.inl ⟨.bool true,.bool true,[],rfl,λ_=>rfl,.bool true,Gb l _,λ_=>⟨XH,λ_ hm=>(nomatch hm)⟩⟩,h2,h3,h4⟩
end Att
namespace L2
open PySem PySem.Spec PyProof.Rows
theorem yv:∀{vs:List UN}{ns:List Int},YT vs ns->Vals (ns.map V.int) vs
 | _,_,.nil=>.nil
 | _,_,.cons n t h=>.cons ⟨t,rfl⟩ (yv h)
def C_ (H:Hp):Prop:=∀b,H b=none\/∃o xs,H b=some (.frz o (.lst xs))
theorem Hz {K:UM}{mg mb:Str->Option UN}{sp:Sp}{s₁:UP}{vs:List UN}{ns:List Int}
 (KX:K.In s₁.heap) (hns:s₁.heap.Ns Vi mg) (hb:s₁.heap.Ns adJ mb) (TY:∀x:Str,x≠"__name__"->mb x=VR x) (hlim:s₁.heap.NoLimit) (hg:s₁.gens=#[])
 (ha:s₁.heap.get? a=some {cls:=.type "list",data:=.seq vs.toArray}) (hi:YT vs ns) (hl:ns.length<=sizeLine) (hr:c8 k acg)
 (F:∀base:V1,K.In base->base.Ns Vi mg->eO P w K mg base CX k fa fd [x] sp) (hbind:∀(s:UP) (u:UN),acZ s fd ⟨[u],[]⟩ [(x,u)])
 (Sg:∀H:Hp,C_ H->cB K H a (ns.map V.int)->sp [.ref a] H (λv _=>v=.bl true) λ_ _ _=>False)
 (SM:∀H e s',CX [] H s₁ (λ_ _ _=>False) e s'->False):
  Xf (Vg P w) acg (.call (.ref fa) ⟨[.ref a],[]⟩) (λr s'=>r=.ok (.ret (.bool true))/\OldK s₁.heap s'.heap/\s'.os=s₁.os/\aar s'.gens) s₁:=by
 have rv:=yv hi
 have lenV:=hi.length
 have core:∀H:Hp,C_ H->cB K H a (ns.map V.int)->gn P w H s₁.heap->(∀b,H b≠none->b=a)->(H a≠none->K.lookup a=none)->
   Xf (Vg P w) acg (.call (.ref fa) ⟨[.ref a],[]⟩) (λr s'=>r=.ok (.ret (.bool true))/\OldK s₁.heap s'.heap/\s'.os=s₁.os/\aar s'.gens) s₁:=by
  intro H hO hS hok hA hK
  have base_of:∀{b:Vd}{o:Obj},s₁.heap.get? b=some o->H b=none->(o_ s₁.heap H).get? b=some o:=λe n=>Hl e n
  have noA:∀{b:Vd}{o:Obj}{es:Array aa2}{ep:Nat},s₁.heap.get? b=some o->o.data=.dict es ep->H b=none:=fun {b o es ep} e d=>by
   cases q:H b with
   | none=>rfl
   | some u=>
    have e':b=a:=hA b (by rw [q];simp)
    subst e'
    rw [ha] at e;cases e
    have d':Data.seq vs.toArray _=Data.dict es ep:=d
    cases d'
  have nsK:∀{b:Vd}{m:Str->Option UN},s₁.heap.Ns b m->(o_ s₁.heap H).Ns b m:=fun {b m} ⟨o,es,ep,e,d,r⟩=>⟨o,es,ep,base_of e (noA e d),d,r⟩
  have Tw:K.In (o_ s₁.heap H):=λb o e=>base_of (KX b o e) (by
   cases q:H b with
   | none=>rfl
   | some u=>
    have e':b=a:=hA b (by rw [q];simp)
    subst e'
    rw [hK (by rw [q];simp)] at e;cases e)
  have hM:Mod K mg (o_ s₁.heap H):=⟨Tw,nsK hns,⟨mb,nsK hb,TY⟩,let ⟨mc,h1,h2⟩:=hlim;⟨mc,nsK h1,h2⟩⟩
  have e0:CV P w K mg (o_ s₁.heap H) acg [] s₁ H:=⟨rfl,hM,λb o e=>K3 e,acB (Fv _ _),trivial,λb hb=>absurd (show b∈([]:List Vd) from hb) (by simp),hok,.of_eq hg⟩
  refine XR ((F _ Tw (nsK hns)).run acg [] s₁ H ⟨[.ref a],[]⟩ [.ref a] [.ref a] _ _ hr e0 (hbind s₁ (.ref a)) (.cons rfl .nil) (Sg H hO hS)) λr s' h=>?_
  cases r with
  | error e=>exact (SM H e s' h).elim
  | ok fl=>
   cases fl with
   | next=>exact Yl h
   | brk=>exact Yl h
   | cont=>exact Yl h
   | ret u=>
    obtain ⟨v,H',os,bare,un,Tf,r',q⟩:=h
    have q':v=.bl true:=q
    subst q'
    obtain rfl:u=Xk true:=r'
    refine ⟨rfl,OldK.of_keep λb o e=>?_,os,bare⟩
    cases q:H b with
    | none=>exact un.keep b o e q (by intro z;exact absurd (show b∈([]:List Vd) from z) (by simp)) (by simp)
    | some u=>
     rcases hO b with z | ⟨ob,xs,z⟩
     ·rw [q] at z;cases z
     ·have z2:=un.frzs b ob _ z
      obtain ⟨e1,_⟩:=hok b _ z
      obtain ⟨e2,_⟩:=Tf b _ z2
      rw [e] at e1;cases e1
      exact e2
 cases hk:K.lookup a with
 | some o=>
  have e:=KX a o hk
  rw [ha] at e
  cases e
  refine core (λ_=>none) (λ_=>.inl rfl) (.inr ⟨_,vs.toArray,_,hk,rfl,rfl,rfl,by rw [U3,lenV];exact hl,by simpa using rv⟩) (λb u z=>by have z':(none:Option HO)=some u:=z;cases z') (λb z=>absurd rfl z) λz=>absurd rfl z
 | none=>
  refine core (λb=>if b=a then some (.frz {cls:=.type "list",data:=.seq vs.toArray} (.lst (ns.map V.int))) else none) (λb=>?_) (.inl (.inr ⟨{cls:=.type "list",data:=.seq vs.toArray},if_pos rfl⟩)) (λb u z=>?_) (λb z=>?_) λ_=>hk
  ·by_cases hb:b=a
   ·exact .inr ⟨_,_,if_pos hb⟩
   ·exact .inl (if_neg hb)
  ·by_cases hb:b=a
   ·have z':=(if_pos hb).symm.trans z
    cases z'
    subst hb
    exact ⟨ha,by rw [UR];exact hl,vs,_,rv,ha⟩
   ·have z':=(if_neg hb).symm.trans z
    cases z'
  ·by_cases hb:b=a
   ·exact hb
   ·exact absurd (if_neg hb) z
abbrev Rl {K:UM}{h:V1}(_:K.In h):UM:=K
theorem LV {l:aa3}{XP:(Str->Option UN)->V1->Prop}{YP:Vs->V1->Prop}{d:DefRec}{K:aeY->UM}{CX:Vs->uF}{sp:Vs->Sp}
 (hn:l.most=some n) (hn2:n<=sizeLine) (hdf:d.params.defaults=[]) (hr:c8 k acg)
 (hY:∀(w:Vs) (h:V1),YP w h->(K w.params).In h)
 (F:∀(w:Vs) (mg:Str->Option UN) (fa:Vd) (h:V1),(K w.params).In h->h.Ns Vi mg->mg d.name=some (.ref fa)->
 ∃fd:Vk,(∀(s:UP) (u:UN),acZ s fd ⟨[u],[]⟩ [(x,u)])/\
 ∀base:V1,(K w.params).In base->base.Ns Vi mg->eO l.prog w (K w.params) mg base (CX w) k fa fd [x] (sp w))
 (Sg:∀(w:Vs) (H:Hp) (a:Vd) (ns:List Int),ns.length<=n->C_ H->cB (K w.params) H a (ns.map V.int)->sp w [.ref a] H (λv _=>v=.bl true) λ_ _ _=>False)
 (SM:∀(w:Vs) (H:Hp) (s:UP) (e:UN) (s':UP),CX w [] H s (λ_ _ _=>False) e s'->False):
  ad5 q loose XP YP l.row.toRowW d [] (λf vs=>adN f vs):=by
 refine Att.Bh hn hdf λw s₀ s₁ mg mb fa o pm cd doc a vs ns G Y ho hd hcd hmg hobj hints hlen hg=>?_
 have KX:=hY w _ Y
 obtain ⟨fd,hb,hF⟩:=F w mg fa _ KX G.T.g hmg
 exact Hz KX G.T.g G.T.b G.T.builtins G.T.nolimit hg hobj hints (Vq hlen hn2) hr hF hb (λH hO hS=>Sg w H a ns hlen hO hS) λH e s'=>SM w H s₁ e s'
noncomputable def cG (s:Xd):Arguments:=match s with
 | .FunctionDef _ a _ _ _ _ _ _ _ _=>a
 | _=>{posonlyargs:=[],args:=[],vararg:=none,kwonlyargs:=[],kw_defaults:=[],kwarg:=none,defaults:=[]}
noncomputable def bS (s:Xd):List Xd:=match s with
 | .FunctionDef _ _ b _ _ _ _ _ _ _=>b
 | _=>[]
noncomputable def aX (s:Xd):Yc:=match s with
 | .FunctionDef _ _ _ _ _ _ sc _ _ _=>sc
 | _=>{kind:=.function,names:=[],isGenerator:=false,isCoroutine:=false}
abbrev pQ:uF:=λ_ _ _ _ _ _=>False
abbrev E0:XK:=λ_ _ _=>False
theorem D3:Passes pQ X E0:=λ_ _ _ _ _ _ _ h=>h.elim
structure l_ (K:UM) (x UG:Str) (st:Xd) (f:Vd) (fd:Vk):Prop where
 ex:∃(oc:UN) (od:Option Vd) (kV doc pm:UN) (an:Option Vd) (cdv ct:UN) (osl:Array (Option UN)),
  fd=VE x UG (cG st) (bS st) (aX st) .none kV doc pm an cdv ct/\K.lookup f=some ⟨oc,od,.func fd,osl⟩/\Xb K cdv UG=true
 kp:VZ K (.ref f)=true
section
variable {P:U6}{w:Vs}{K:UM}{mg:Str->Option UN}{base:V1}
theorem l_.ok {st:Xd}{N ps:List Str}{sp:Sp}(F:l_ K x UG st f fd) (S:eY N ps (aX st)) (len:∀vs H Q E,sp vs H Q E->vs.length=ps.length)
 (hbody:∀(cdv:UN) (A:Vz) (outer:List Env) (s:UP) (H:Hp) (vs:List V) (Q:VK) (E:XK),c8 k (A.deeper (Z4 UG (aX st) s.heap.objs.size f cdv))->sp vs H Q E->
 ∃t,kH (qz pQ P w K mg base N UG (aX st) f cdv A outer s H E).nox (bS st) t/\t {nx:=λ_ H'=>Q .non H',rt:=Q} (start N vs) H):eO P w K mg base pQ (k + 1) f fd ps sp:=by
 obtain ⟨oc,od,kV,doc,pm,an,cdv,ct,osl,rfl,lk,hcd⟩:=F.ex
 refine Jp lk hcd S len λA outer s H vs Q E hr Sg=>?_
 obtain ⟨t,h,q⟩:=hbody cdv A outer s H vs Q E hr Sg
 exact ⟨t,h.nox,q⟩
theorem l_.binds {st:Xd}{ps:List Str}(F:l_ K x UG st f fd)
 (h:∀(kV doc pm:UN) (an:Option Vd) (cdv ct:UN) (us:List UN),us.length=ps.length->aau (VE x UG (cG st) (bS st) (aX st) .none kV doc pm an cdv ct) ⟨us,[]⟩=pure (ps.zip us)):Binds K fd ps []:=by
 obtain ⟨oc,od,kV,doc,pm,an,cdv,ct,osl,rfl,lk,hcd⟩:=F.ex
 exact .all (h kV doc pm an cdv ct)
theorem Ff {st:Xd}{kV doc pm cdv ct:UN}(l:K.lookup f=some ⟨oc,od,.func (VE x UG (cG st) (bS st) (aX st) .none kV doc pm an cdv ct),osl⟩)
 (c:Xb K cdv UG=true) (k:VZ K (.ref f)=true):l_ K x UG st f (VE x UG (cG st) (bS st) (aX st) .none kV doc pm an cdv ct):=⟨⟨oc,od,kV,doc,pm,an,cdv,ct,osl,rfl,l,c⟩,k⟩
end
theorem MU {A B:Prop}(h:B):if false=true then A else B:=by
 rw [if_neg Vp]
 exact h
theorem MV {A B:Prop}(h:A):if true=true then A else B:=by
 rw [if_pos rfl]
 exact h
def aU (H H':Hp):Prop:=∀b o,H b=some o->H' b=some o
theorem aU.refl (H:Hp):aU H H:=λ_ _ h=>h
theorem aU.trans {H H1 H2:Hp}(a:aU H H1) (b:aU H1 H2):aU H H2:=λc o h=>b c o (a c o h)
theorem aU.free {H H':Hp}(e:aU H H') (h:H' l=aeM):H l=aeM:=by
 cases q:H l with
 | none=>rfl
 | some o=>
  rw [e l o q] at h
  cases h
theorem aU.seq {K:UM}{H H':Hp}{a:Vd}{xs:List V}(e:aU H H') (h:cB K H a xs):cB K H' a xs:=by
 rcases h with (h | ⟨o,h⟩) | h
 ·exact .inl (.inl (e _ _ h))
 ·exact .inl (.inr ⟨o,e _ _ h⟩)
 ·exact .inr h
end L2
set_option maxHeartbeats 4000000
namespace K73
open PySem
def top (i:Nat):Xd:=Wb.main.body.getD i (.Pass ⟨0,0,0,0⟩)
end K73
namespace K73
open PySem PySem.Spec PyProof.Rows L2
abbrev E (P:aeY) (k:Str) (t:Nat) (v:UN):aa2:=⟨PyData.keyHash P k,.str k t,v⟩
abbrev cF (P:aeY) (k:Str) (t r:Nat):aa2:=E P k t (.ref r)
noncomputable def PY (n:Str) (t l k a:Nat) (v w:UN) (r u:Nat):Obj:=⟨.type "code",none,.fields #[.str n t,.str n (t + 1),.str "/claim/cut.py" (t + 2),.int l 0,.int k 0,.int 0 0,.int 0 0,.int 3 0,.ref a,.bool true,.int 181 0,.ref (a + 1),.none,v,w,.ref r,.int u 0,.int l 0,.str "/claim/cut.py" (u + 1)],#[]⟩
def f_ (n:Str) (t l k a u:Nat):Obj:=PY n t l k a (.ref (a + 2)) (.ref (a + 3)) (a + 4) u
def jN (n:Str) (t l k a u:Nat):Obj:=PY n t l k a .none .none (a + 2) u
noncomputable def c5 (n:Str) (k:Nat) (m:UN) (c:Nat):Obj:=⟨.type "function",none,.func (VE n n (cG (top k)) (bS (top k)) (aX (top k)) .none .none .none m none (.ref c) .none),#[]⟩
def Hi:UN:=.str "pickalike.worlds" 273
def Hj:UN:=.str "pickalike.checks" 296
def wD:UN:=.str "pickalike.pairings" 325
def nC:UN:=.str "pickalike.layers" 373
def wF:UN:=.str "pickalike.counted" 452
def i_:UN:=.str "law_pickalike_k73_parted_by_counting" 509
def KF (P:aeY):UM:=
(nat_lit 2,⟨.none,none,(.dict #[] 0),#[]⟩)::
(nat_lit 3,⟨(.type "dict"),none,(.dict #[E P "__name__" 165 (.str "law_pickalike_k73_parted_by_counting" 509),E P "__doc__" 166 .none,E P "__package__" 167 .none,E P "__loader__" 168 (.builtin "__main__.__loader__#opaque"),E P "__spec__" 169 .none,cF P "__annotations__" 170 6,cF P "__builtins__" 171 4,E P "__file__" 173 (.str "/claim/cut.py" 172),E P "__cached__" 174 .none,cF P "PickError" 206 24,cF P "NoTongue" 222 37,cF P "TooMany" 247 56,cF P "NoCount" 272 75,cF P "is_whole" 281 84,cF P "tongue_of" 287 89,cF P "need_tongue" 295 96,E P "MOST_SMALL" 299 (.int 4 298),cF P "need_few_points" 307 103,cF P "need_small" 315 110,cF P "need_count" 324 117,cF P "rising" 333 124,cF P "view" 339 129,cF P "views" 345 134,cF P "agree" 355 141,cF P "goes_behind" 366 148,cF P "pairings" 372 153,E P "MOST_DEPTH" 376 (.int 6 375),cF P "added" 384 160,cF P "pairs_with" 390 165,cF P "picks_of" 396 170,cF P "outcomes" 402 175,cF P "answered_still" 408 180,cF P "peeled" 414 185,cF P "pairings_with" 420 190,cF P "parting_depths" 426 195,cF P "in_layer" 435 202,cF P "layers_of" 441 207,cF P "parted" 451 215,cF P "grid_of" 459 220,cF P "map_behind" 469 227,cF P "choices_in" 475 232,cF P "mapped_still" 483 239,cF P "counted_depths" 489 244,cF P "counted_layers" 498 251,cF P "counted_parted" 508 259,cF P "_law_cell_at" 518 266,cF P "_law_more" 529 273,cF P "_law_freed" 537 280,cF P "_law_names" 543 285,cF P "_law_world" 561 292,cF P "_law_flipped" 571 299,cF P "_law_turned" 577 304,cF P "_law_two" 594 311,cF P "_law_at" 605 318,cF P "_law_fit" 621 325,cF P "_law_pairings" 637 332,cF P "_law_drawn" 651 339,cF P "_law_number" 659 346,cF P "_law_due" 671 353,cF P "law" 677 358] 60),#[]⟩)::
(nat_lit 83,f_ "is_whole" 275 17 1 78 279)::
(nat_lit 84,c5 "is_whole" 6 Hi 83)::
(nat_lit 88,jN "tongue_of" 282 19 1 85 285)::
(nat_lit 89,c5 "tongue_of" 7 Hi 88)::
(nat_lit 95,f_ "need_tongue" 288 22 2 90 293)::
(nat_lit 96,c5 "need_tongue" 8 Hi 95)::
(nat_lit 102,f_ "need_few_points" 300 27 1 97 305)::
(nat_lit 103,c5 "need_few_points" 11 Hj 102)::
(nat_lit 109,f_ "need_small" 308 31 2 104 313)::
(nat_lit 110,c5 "need_small" 12 Hj 109)::
(nat_lit 116,f_ "need_count" 316 34 3 111 322)::
(nat_lit 117,c5 "need_count" 13 Hj 116)::
(nat_lit 123,f_ "rising" 327 38 1 118 331)::
(nat_lit 124,c5 "rising" 15 wD 123)::
(nat_lit 128,jN "view" 334 42 3 125 337)::
(nat_lit 129,c5 "view" 16 wD 128)::
(nat_lit 133,jN "views" 340 47 1 130 343)::
(nat_lit 134,c5 "views" 17 wD 133)::
(nat_lit 140,f_ "agree" 346 49 4 135 353)::
(nat_lit 141,c5 "agree" 18 wD 140)::
(nat_lit 147,f_ "goes_behind" 356 51 4 142 364)::
(nat_lit 148,c5 "goes_behind" 19 wD 147)::
(nat_lit 152,jN "pairings" 367 58 3 149 370)::
(nat_lit 153,c5 "pairings" 20 wD 152)::
(nat_lit 159,f_ "added" 377 72 2 154 382)::
(nat_lit 160,c5 "added" 23 nC 159)::
(nat_lit 164,jN "pairs_with" 385 74 4 161 388)::
(nat_lit 165,c5 "pairs_with" 24 nC 164)::
(nat_lit 169,jN "picks_of" 391 78 2 166 394)::
(nat_lit 170,c5 "picks_of" 25 nC 169)::
(nat_lit 174,jN "outcomes" 397 80 4 171 400)::
(nat_lit 175,c5 "outcomes" 26 nC 174)::
(nat_lit 179,jN "answered_still" 403 83 2 176 406)::
(nat_lit 180,c5 "answered_still" 27 nC 179)::
(nat_lit 184,jN "peeled" 409 85 2 181 412)::
(nat_lit 185,c5 "peeled" 28 nC 184)::
(nat_lit 189,jN "pairings_with" 415 95 3 186 418)::
(nat_lit 190,c5 "pairings_with" 29 nC 189)::
(nat_lit 194,jN "parting_depths" 421 97 3 191 424)::
(nat_lit 195,c5 "parting_depths" 30 nC 194)::
(nat_lit 201,f_ "in_layer" 427 101 3 196 433)::
(nat_lit 202,c5 "in_layer" 31 nC 201)::
(nat_lit 206,jN "layers_of" 436 103 2 203 439)::
(nat_lit 207,c5 "layers_of" 32 nC 206)::
(nat_lit 208,⟨(.type "tuple"),none,(.seq #[.none] 0),#[]⟩)::
(nat_lit 214,f_ "parted" 442 105 3 209 449)::
(nat_lit 215,⟨(.type "function"),none,(.func (VE "parted" "parted" (cG (top 33)) (bS (top 33)) (aX (top 33)) (.ref 208) .none .none (.str "pickalike.layers" 373) none (.ref 214) .none)),#[]⟩)::
(nat_lit 219,jN "grid_of" 454 110 3 216 457)::
(nat_lit 220,c5 "grid_of" 35 wF 219)::
(nat_lit 226,f_ "map_behind" 460 114 2 221 467)::
(nat_lit 227,c5 "map_behind" 36 wF 226)::
(nat_lit 231,jN "choices_in" 470 123 3 228 473)::
(nat_lit 232,c5 "choices_in" 37 wF 231)::
(nat_lit 238,f_ "mapped_still" 476 125 2 233 481)::
(nat_lit 239,c5 "mapped_still" 38 wF 238)::
(nat_lit 243,jN "counted_depths" 484 127 3 240 487)::
(nat_lit 244,c5 "counted_depths" 39 wF 243)::
(nat_lit 250,f_ "counted_layers" 490 130 3 245 496)::
(nat_lit 251,c5 "counted_layers" 40 wF 250)::
(nat_lit 252,⟨(.type "tuple"),none,(.seq #[.none] 0),#[]⟩)::
(nat_lit 258,f_ "counted_parted" 499 134 3 253 506)::
(nat_lit 259,⟨(.type "function"),none,(.func (VE "counted_parted" "counted_parted" (cG (top 41)) (bS (top 41)) (aX (top 41)) (.ref 252) .none .none (.str "pickalike.counted" 452) none (.ref 258) .none)),#[]⟩)::
(nat_lit 265,f_ "_law_cell_at" 511 139 2 260 516)::
(nat_lit 266,c5 "_law_cell_at" 43 i_ 265)::
(nat_lit 272,f_ "_law_more" 519 143 2 267 527)::
(nat_lit 273,c5 "_law_more" 44 i_ 272)::
(nat_lit 279,f_ "_law_freed" 530 156 2 274 535)::
(nat_lit 280,c5 "_law_freed" 45 i_ 279)::
(nat_lit 284,jN "_law_names" 538 162 2 281 541)::
(nat_lit 285,c5 "_law_names" 46 i_ 284)::
(nat_lit 291,f_ "_law_world" 544 177 4 286 559)::
(nat_lit 292,c5 "_law_world" 47 i_ 291)::
(nat_lit 298,f_ "_law_flipped" 562 196 2 293 569)::
(nat_lit 299,c5 "_law_flipped" 48 i_ 298)::
(nat_lit 303,jN "_law_turned" 572 203 2 300 575)::
(nat_lit 304,c5 "_law_turned" 49 i_ 303)::
(nat_lit 310,f_ "_law_two" 578 216 2 305 592)::
(nat_lit 311,c5 "_law_two" 50 i_ 310)::
(nat_lit 317,f_ "_law_at" 595 234 3 312 603)::
(nat_lit 318,c5 "_law_at" 51 i_ 317)::
(nat_lit 324,f_ "_law_fit" 606 239 3 319 619)::
(nat_lit 325,c5 "_law_fit" 52 i_ 324)::
(nat_lit 331,f_ "_law_pairings" 622 251 3 326 635)::
(nat_lit 332,c5 "_law_pairings" 53 i_ 331)::
(nat_lit 338,f_ "_law_drawn" 638 264 3 333 649)::
(nat_lit 339,c5 "_law_drawn" 54 i_ 338)::
(nat_lit 345,f_ "_law_number" 652 279 2 340 657)::
(nat_lit 346,c5 "_law_number" 55 i_ 345)::
(nat_lit 352,f_ "_law_due" 660 283 4 347 669)::
(nat_lit 353,c5 "_law_due" 56 i_ 352)::
(nat_lit 357,jN "law" 672 291 1 354 675)::
(nat_lit 358,c5 "law" 57 i_ 357)::[]
noncomputable def VW:U6:={Wb with main:={Wb.main with body:=[top 1,top 2,top 3,top 4,top 6,top 7,top 8,top 10,top 11,top 12,top 13,top 15,top 16,top 17,top 18,top 19,top 20,top 22,top 23,top 24,top 25,top 26,top 27,top 28,top 29,top 30,top 31,top 32,top 35,top 36,top 37,top 38,top 39,top 40,top 43,top 44,top 45,top 46,top 47,top 48,top 49,top 50,top 51,top 52,top 53,top 54,top 55,top 56,top 57]}}
noncomputable def HK:W.Hook:=W.kHook KF [2,3,83,84,88,89,95,96,102,103,109,110,116,117,123,124,128,129,133,134,140,141,147,148,152,153,159,160,164,165,169,170,174,175,179,180,184,185,189,190,194,195,201,202,206,207,208,214,215,219,220,226,227,231,232,238,239,243,244,250,251,252,258,259,265,266,272,273,279,280,284,285,291,292,298,299,303,304,310,311,317,318,324,325,331,332,338,339,345,346,352,353,357,358] (λ_=>by kernel_rfl)
def XT:UP->Bool:=λs=>W.xlAt VW [] s && W.recOk (aev VJ.row.toRowW) s
theorem look:adO VJ=true:=by decide +kernel
theorem left:W.LeftO VJ.row.prog VW ["parted","counted_parted"] XT (afa HK) (afb HK) 4756:=λw=>by kernel_rfl
end K73
namespace DX
open PySem PySem.Spec
open Sem (wp)
abbrev Q2 (C t:Vd) (dx:Option Vd):Obj:={cls:=.ref C,dict:=dx,data:=.fields #[.ref t,.none,.none,.none,.bool false,.none]}
end DX
namespace DX
open PySem PySem.Spec
section
variable {M:aey}{A:Vz}{E:UN->UP->Prop}{s:UP}
noncomputable def QU (e C:Vd) (dx:Option Vd) (T:Vd) (h:V1):Prop:=
 ∃oe vs oT ts,h.get? e=some oe/\oe.cls=.ref C/\oe.dict=dx/\oe.data=.fields vs/\vs[1]?=some (.ref T)/\T≠e/\h.get? T=some oT/\oT.data=.fields ts/\ts[3]?=some .none
end
end DX
namespace DX
open PySem PySem.Spec PyProof.Rows L2
def OE (a C:Vd) (dx:Option Vd):V1->Prop:=λh=>∃oe vs,h.get? a=some oe/\oe.cls=.ref C/\oe.dict=dx/\oe.data=.fields vs
abbrev XO (a C:Vd) (dx:Option Vd):HO:=.ext (OE a C dx)
noncomputable def Fl (e C:Vd) (dx:Option Vd):Option Vd->V1->Prop
 | none,h=>∃t,h.get? e=some (Q2 C t dx)
 | some T,h=>QU e C dx T h
structure P_ (P:U6) (w:Vs) (fs ex:List Vd) (H:Hp) (s:UP) (E:XK) (e C:Vd) (dx To:Option Vd) (H':Hp) (s':UP):Prop where
 os:s'.os=s.os
 bare:aar s'.gens
 un:Un fs ex H H' s.heap s'.heap
 hok:gn P w H' s'.heap
 fl:Fl e C dx To s'.heap
 newE:s.heap.objs.size<=e
 newT:∀T∈To.toList,s.heap.objs.size<=T
 GD:H' e=some (XO e C dx)
 free:∀T∈To.toList,H' T=none
 wish:E (.ref e) dx H'
def pR (P:U6) (w:Vs):uF:=λouter H s E v s'=>∃e C dx T H',v=.ref e/\P_ P w (frs outer) [] H s E e C dx (some T) H' s'
end DX
namespace DX
open PySem PySem.Spec PyProof.Rows
open Sem (wp)
section
variable {prog:U6}{w:Vs}{A:Vz}{E:UN->UP->Prop}{s:UP}{K:UM}{x C:Vd}{ox:Obj}{od:Option Obj}{name:Str}
theorem G3 {M:aey}{Q:Unit->UP->Prop}(X:K.In s.heap) (I:Yv s.heap x ox C od) (hm:Yn K C (.type "BaseException")=some true) (hq:Q () s):U9 M A (aaJ "BaseException.__getattribute__" ⟨[.ref x,nameV],[]⟩) Q E s:=by
 have hk:builtinKind "BaseException.__getattribute__"=some .slot:=by decide +kernel
 have Sg:splitId "BaseException.__getattribute__"=some ("BaseException","__getattribute__"):=by decide +kernel
 have ha:=F.args_bexc_ga (.ref x) nameV
 have L1:=I.type (M:=M)
 have L2:=W.looks_mroIn (M:=M) X hm
 simp only [aaJ,hk,Sg]
 have L:W.Looks M s.heap (adP (.ref x) (.type "BaseException")) true:=L1.andThen L2
 refine UL (L.here ?_)
 obtain ⟨h,g,d,t,os⟩:=s
 repeat (any_goals (first | assumption | wp_step))
theorem entry_class {Q:Fin->UP->Prop}(X:K.In s.heap) (I:Yv s.heap x ox C od) (hf:ZK K C od "__class__"=some (.bind (.builtin "getset_descriptor.__get__") (.builtin "object.__class__"))) (hm:Yn K C (.type "object")=some true) (h:Q (.done (.ret (.ref C))) s):
  U9 (Vg prog w) A (YU.«object.__getattribute__» ⟨[.ref x,.str "__class__" tk],[]⟩) Q E s:=by
 obtain ⟨hh,g,d,t,os⟩:=s
 have L0:=I.type (M:=Vg prog w)
 have L1:=W.looks_find (M:=Vg prog w) X I hf
 refine UL (UO (UL (UO (UL (L0.at (UL (L1.at ?_)))))))
 show U9 _ _ (holding [_] (call _ [_,.ref x,.ref C]) >>= ret) _ _ _
 exact UL (VB (ab9 (W.class_get (ox:=ox) (od:=od) X I hm (UO h))))
theorem MK {tk:Tok}{fill expr:Bool}{Q:UN->UP->Prop}(X:K.In s.heap) (I:Yv s.heap x ox C od) (hga:Xv K (.ref C) "__getattribute__"=some (some (.builtin "BaseException.__getattribute__"))) (hgt:Xv K (.ref C) "__getattr__"=some none)
  (h:Xf (Vg prog w) A (.call (.builtin "BaseException.__getattribute__") ⟨[.ref x,.str name tk],[]⟩) (λr s'=>match r with | .ok (.ret v)=>U9 (Vg prog w) A (handedOut v) Q E s' | _=>False) s):U9 (Vg prog w) A (getAttrBy (.ref x) (.str name tk) fill expr) Q E s:=by
 obtain ⟨hh,g,d,t,os⟩:=s
 have L0:=I.type (M:=Vg prog w)
 have L1:=abq (M:=Vg prog w) X hga
 have L2:=abq (M:=Vg prog w) X hgt
 have Ur:(aax "BaseException.__getattribute__" == aax "object.__getattribute__")=false:=by decide +kernel
 unfold getAttrBy
 refine VB (UL (L0.at (UL (L1.at ?_))))
 dsimp only
 rw [Ur,Xu,if_neg (by decide)]
 unfold getAttrByItsOwn
 refine UL (L2.at ?_)
 have h0:(expr && onTheHeap (aax "BaseException.__getattribute__"))=false:=by cases expr <;> rfl
 refine UL (XY (VB ?_))
 unfold callGetattribute
 rw [h0,if_neg (by decide)]
 unfold boundAndCalled
 rw [ZL.ga.bind (.ref x)]
 refine UL (UO (ab9 (XR h λr s' q=>?_)))
 match r,q with
 | .ok (.ret v),q=>exact q
theorem get_class {Q:Option UN->UP->Prop}(X:K.In s.heap) (I:Yv s.heap x ox C od) (hga:Xv K (.ref C) "__getattribute__"=some (some (.builtin "BaseException.__getattribute__"))) (hgt:Xv K (.ref C) "__getattr__"=some none)
  (hm:Yn K C (.type "BaseException")=some true) (hf:ZK K C od "__class__"=some (.bind (.builtin "getset_descriptor.__get__") (.builtin "object.__class__"))) (ho:Yn K C (.type "object")=some true) (h:Q (some (.ref C)) {s with toks:=s.toks + 1}):
  U9 (Vg prog w) A (getAttr? (.ref x) "__class__") Q E s:=by
 obtain ⟨hp,g,d,t,os⟩:=s
 unfold getAttr? getAttrBy?
 refine UL (wpAny_mkText (UL (XY (MK (s:=⟨hp,g,d,t + 1,os⟩) X I hga hgt ?_))))
 refine abr ZL.ga.plain F.entry_bexc_ga (G3 (s:=⟨hp,g,d,t + 1,os⟩) X I hm (entry_class (s:=⟨hp,g,d,t + 1,os⟩) X I hf ho ?_))
 exact UO (UO h)
end
end DX
namespace DX
open PySem PySem.Spec PyProof.Rows L2
abbrev Bc:List UN:=[.type "ValueError",.type "Exception",.type "BaseException",.type "object"]
def quiet:List Str:=["__init__","__setattr__","name","letter","many","told","point","row"]
structure GX (K:UM) (P:Vd):Prop where
 gt:ach K (.builtin "object.__class__") "__get__"=some (some (.builtin "getset_descriptor.__get__"))
 tk:ac1 K (.builtin "object.__class__")=some true
 lk:∃nm q N bs sn sub ab col dd k0 k1 k2 k3 k5,K.lookup P=some (excClassObj nm q P N bs Bc true sn sub ab col dd k0 k1 k2 k3 k5 "ValueError.__new__")/\∀h,K.In h->∃m,h.Ns N m/\∀n∈quiet,m n=none
structure XE (K:UM) (P C:Vd):Prop where
 lk:∃nm q N bs sn sub ab col dd k0 k1 k2 k3 k5,K.lookup C=some (excClassObj nm q C N bs (.ref P::Bc) true sn sub ab col dd k0 k1 k2 k3 k5 "ValueError.__new__")
 ga:Xv K (.ref C) "__getattribute__"=some (some (.builtin "BaseException.__getattribute__"))
 gt:Xv K (.ref C) "__getattr__"=some none
 cl:Xv K (.ref C) "__class__"=some (some (.builtin "object.__class__"))
section
variable {K:UM}{P C:Vd}
theorem E4 (X:XE K P C):∃cd,YV K C=some cd/\cd.mro=.ref C::.ref P::Bc/\cd.hasDict=true/\W.typeIn K (.ref C)=some (.type "type"):=by
 obtain ⟨nm,q,N,bs,sn,sub,ab,col,dd,k0,k1,k2,k3,k5,l⟩:=X.lk
 have h1:YV K C=some {name:=nm,bases:=bs,mro:=.ref C::.ref P::Bc,ns:=N,qualname:=q,hasDict:=true,slotNames:=sn,subclasses:=sub,abstract:=ab,collection:=col,hasDel:=false}:=by
  unfold YV
  rw [l]
 refine ⟨_,h1,rfl,rfl,?_⟩
 show (K.lookup C).map (·.cls)=_
 rw [l]
 rfl
theorem AG (X:XE K P C) (b:UN):Yn K C b=some ((XA C::.ref P::Bc).contains b):=by
 obtain ⟨cd,h1,h2,_⟩:=E4 X
 unfold Yn
 rw [h1,aaK,h2]
 rfl
end
theorem M9 {K:UM}{P C:Vd}(X:XE K P C){T:String}(h1:ac2 T=true) (h2:Bc.contains (.type T)=false):aby K (.ref C) (.type T)=some false:=by
 unfold aby W.kitCls
 rw [if_neg (by simp)]
 simp only [h1,if_true]
 show Yn K C _=_
 rw [AG X,abY,abY,h2]
 rfl
theorem KC {K:UM}{C:Vd}{od:Option Obj}{name:Str}{a g:UN}(hc:(YV K C).isSome=true) (ha:Xv K (.ref C) name=some (some a)) (hg:ach K a "__get__"=some (some g)) (ht:ac1 K a=some true):ZK K C od name=some (.bind g a):=by
 obtain ⟨cd,hc⟩:=VV.mp hc
 unfold ZK
 rw [hc,aaK,ha,aaK]
 simp [hg,ht]
theorem Hx {K:UM}{e P C:Vd}(G:GX K P) (E:XE K P C):W.KitX K (.ref e) (.ref C) (λh=>∃ox od,Yv h e ox C od):=by
 obtain ⟨cd,hc,hm,hd,ht⟩:=E4 E
 refine ⟨λM h _ ⟨ox,od,I⟩=>I.type,λM h X _=>?_,λh tp dd UC n sl X htp=>?_,λX ⟨ox,od,I⟩ k=>?_⟩
 ·unfold YV at hc
  split at hc
  ·rename_i ho
   intro A' Q' E' s' k q
   unfold isType loadHead
   exact UL (wpAny_loadPart (k _ _ (X _ _ ho)) (UO q))
  ·cases hc
 ·refine Bool.eq_false_iff.mpr λq=>?_
  obtain rfl:C=tp:=afn (beq_iff_eq.mp q)
  unfold YV at hc
  split at hc
  ·rename_i ho
   have z:=(X _ _ ho).symm.trans htp
   cases z
  ·cases hc
 ·exact get_class X I E.ga E.gt (by rw [AG E];simp) (KC (by rw [hc];rfl) E.cl G.gt G.tk) (by rw [AG E];simp) k
end DX
namespace DL
open PySem PySem.Spec PyProof.Rows L2
inductive D where
 | non | bl (b:Bool) | int (i:Int) | str (x:Str) | tup (xs:List D) | lst (xs:List D) | emp
 | exn (cls:Str) (ns:List Str) (ds:List D)
  | dct (ks vs:List D)
mutual
noncomputable def isKey:D->Bool
 | .int _=>true
 | .tup xs=>areKeys xs
 | _=>false
noncomputable def areKeys:List D->Bool
 | []=>true
 | x::xs=>isKey x && areKeys xs
end
mutual
noncomputable def bY:D->Int
 | .int i=>hashInt i
 | .tup xs=>adQ (V8 (cJ xs))
 | _=>0
noncomputable def cJ:List D->List Int
 | []=>[]
 | x::xs=>bY x::cJ xs
end
mutual
noncomputable def dep:D->Nat
 | .tup xs=>deps xs + 1
 | .lst xs=>deps xs + 1
 | .emp=>5000
 | .exn _ _ _=>5000
 | .dct _ _=>5000
 | _=>0
noncomputable def deps:List D->Nat
 | []=>0
 | x::xs=>max (dep x) (deps xs)
end
structure Ma (ks:List D):Prop where
 key:areKeys ks=true
 nd:ks.Nodup
 dp:deps ks<=8
 tp:∀k∈ks,∃xs,k=.tup xs
def zq (p:Int×V×V) (e:aa2):Prop:=e.hash=p.1/\RelV p.2.1 e.key/\RelV p.2.2 e.val
abbrev lJ (a:Vd) (ep:Nat) (UJ:List (Int×V×V)):HO:=.ext λh=>∃o es,h.get? a=some o/\o.ExactDict/\o.data=.dict es ep/\aae zq UJ es.toList
noncomputable def XF (J:Hp) (dx:Option Vd) (ns:List Str) (vs:List V):Prop:=(dx=none/\ns=[]/\vs=[])\/∃d,dx=some d/\ns.length=vs.length/\J d=some (.xd (ns.zip vs))
theorem XF.mono {J J':Hp}(e:aU J J') (h:XF J dx ns vs):XF J' dx ns vs:=by
 rcases h with h | ⟨d,h1,h2,h3⟩
 ·exact .inl h
 ·exact .inr ⟨d,h1,h2,e _ _ h3⟩
mutual
inductive Rep (K:UM) (J:Hp):D->V->Prop
 | non:Rep K J .non .non
 | bl (b:Bool):Rep K J (.bl b) (.bl b)
 | int (i:Int):Rep K J (.int i) (.int i)
 | str (x:Str):Rep K J (.str x) (.str x)
 | emp {a:Vd}:J a=some (.dK [])->Rep K J .emp (.ref a)
 | tup {a:Vd}{vs:List V}{ds:List D}:dg K J a vs->aL K J ds vs->Rep K J (.tup ds) (.ref a)
 | lst {a:Vd}{vs:List V}{ds:List D}:cB K J a vs->aL K J ds vs->Rep K J (.lst ds) (.ref a)
 | exn {a C:Vd}{dx:Option Vd}{cls:Str}{ns:List Str}{vs:List V}{ds:List D}:J a=some (DX.XO a C dx)->Vw K Vi cls=some (some (.ref C))->XF J dx ns vs->aL K J ds vs->(∃P,DX.GX K P/\DX.XE K P C)->Rep K J (.exn cls ns ds) (.ref a)
 | dct {a:Vd}{ep:Nat}{ks vs:List D}{us ws:List V}:J a=some (lJ a ep ((cJ ks).zip (us.zip ws)))->aL K J ks us->aL K J vs ws->Ma ks->(a == X7)=false/\ks.length=vs.length->Rep K J (.dct ks vs) (.ref a)
inductive aL (K:UM) (J:Hp):List D->List V->Prop
 | nil:aL K J [] []
 | cons {d:D}{v:V}{ds:List D}{vs:List V}:Rep K J d v->aL K J ds vs->aL K J (d::ds) (v::vs)
end
theorem fk {K:UM}{H H':Hp}{a:Vd}{xs:List V}(e:aU H H') (h:dg K H a xs):dg K H' a xs:=by
 rcases h with (h | ⟨o,h⟩) | h
 ·exact .inl (.inl (e _ _ h))
 ·exact .inl (.inr ⟨o,e _ _ h⟩)
 ·exact .inr h
mutual
theorem Rep.mono {K:UM}{J J':Hp}(e:aU J J'):∀{d:D}{v:V},Rep K J d v->Rep K J' d v
 | _,_,.non=>.non
 | _,_,.bl b=>.bl b
 | _,_,.int i=>.int i
 | _,_,.str x=>.str x
 | _,_,.emp h=>.emp (e _ _ h)
 | _,_,.tup h hs=>.tup (fk e h) (aL.mono e hs)
 | _,_,.lst h hs=>.lst (e.seq h) (aL.mono e hs)
 | _,_,.exn h1 h2 h3 hs hx=>.exn (e _ _ h1) h2 (h3.mono e) (aL.mono e hs) hx
 | _,_,.dct h h1 h2 h3 h4=>.dct (e _ _ h) (aL.mono e h1) (aL.mono e h2) h3 h4
theorem aL.mono {K:UM}{J J':Hp}(e:aU J J'):∀{ds:List D}{vs:List V},aL K J ds vs->aL K J' ds vs
 | _,_,.nil=>.nil
 | _,_,.cons h hs=>.cons (Rep.mono e h) (aL.mono e hs)
end
section
variable {K:UM}{J:Hp}
theorem aL.length:∀{ds:List D}{vs:List V},aL K J ds vs->ds.length=vs.length
 | _,_,.nil=>rfl
 | _,_,.cons _ hs=>congrArg (· + 1) (aL.length hs)
theorem aL.get:∀{ds:List D}{vs:List V}{i:Nat}{d:D},aL K J ds vs->ds[i]?=some d->∃v,vs[i]?=some v/\Rep K J d v
 | _,_,_,_,.nil,e=>by simp at e
 | _,_,0,_,.cons r _,e=>by simp at e;subst e;exact ⟨_,rfl,r⟩
 | _,_,i + 1,d,.cons _ t,e=>by
  obtain ⟨v,h1,h2⟩:=aL.get (i:=i) (d:=d) t (by simpa using e)
  exact ⟨v,by simpa using h1,h2⟩
theorem aL.append:∀{ds es:List D}{vs us:List V},aL K J ds vs->aL K J es us->aL K J (ds++es) (vs++us)
 | _,_,_,_,.nil,s=>s
 | _,_,_,_,.cons r t,s=>.cons r (aL.append t s)
theorem aL.take:∀{ds:List D}{vs:List V}(n:Nat),aL K J ds vs->aL K J (ds.take n) (vs.take n)
 | _,_,0,_=>.nil
 | _,_,_ + 1,.nil=>.nil
 | _,_,n + 1,.cons r t=>.cons r (aL.take n t)
theorem aL.drop:∀{ds:List D}{vs:List V}(n:Nat),aL K J ds vs->aL K J (ds.drop n) (vs.drop n)
 | _,_,0,r=>r
 | _,_,_ + 1,.nil=>.nil
 | _,_,n + 1,.cons _ t=>aL.drop n t
end
noncomputable def d7 (K:UM) (J H:Hp) (a:Vd) (ks vs:List D):Prop:=∃us ws ep,H a=some (lJ a ep ((cJ ks).zip (us.zip ws)))/\aL K J ks us/\aL K J vs ws/\Ma ks/\(a == X7)=false/\ks.length=vs.length
theorem d7.mono {K:UM}{J J' H H':Hp}{a:Vd}{ks vs:List D}(e:aU J J') (e':aU H H'):d7 K J H a ks vs->d7 K J' H' a ks vs
 | ⟨us,ws,ep,h1,h2,h3,h4⟩=>⟨us,ws,ep,e' _ _ h1,h2.mono e,h3.mono e,h4⟩
theorem d7.ne {K:UM}{J H:Hp}{a:Vd}{ks vs:List D}:d7 K J H a ks vs->H a≠none
 | ⟨us,ws,ep,h1,_⟩=>by rw [h1];intro z;cases z
theorem d7.rep {K:UM}{J H:Hp}{a:Vd}{ks vs:List D}(e:aU J H):d7 K J H a ks vs->Rep K H (.dct ks vs) (.ref a)
 | ⟨us,ws,ep,h1,h2,h3,h4,h5⟩=>.dct h1 (h2.mono e) (h3.mono e) h4 h5
structure Exc where
 cls:Str
 ns:List Str
 ds:List D
inductive M (α:Type) where
 | bad | ok (a:α) | exc (x:Exc)
noncomputable def M.bind {α β:Type}:M α->(α->M β)->M β
 | .bad,_=>.bad
 | .ok a,f=>f a
 | .exc x,_=>.exc x
instance:Monad M where
 pure:=M.ok
 bind:=M.bind
@[simp] theorem aS {α β:Type}(a:α) (f:α->M β):(M.ok a >>= f)=f a:=rfl
noncomputable def cD {α:Type}(m:M α) (Q:α->Prop) (T:Exc->Prop):Prop:=match m with
 | .bad=>False
 | .ok a=>Q a
 | .exc x=>T x
theorem aK {α β:Type}{m:M α}{f:α->M β}{Q:β->Prop}{T:Exc->Prop}(h:cD (m >>= f) Q T):cD m (λa=>cD (f a) Q T) T:=by
 cases m with
 | bad=>exact h
 | ok a=>exact h
 | exc x=>exact h
theorem aF {α:Type}{m:M α}{Q Q':α->Prop}{T:Exc->Prop}(h:cD m Q T) (k:∀a,Q a->Q' a):cD m Q' T:=by
 cases m with
 | bad=>exact h
 | ok a=>exact k a h
 | exc x=>exact h
inductive Md where
 | fresh | own | bor
inductive R where
 | d (x:D) | l (m:Md) (xs:List D)
  | mo (ks vs:List D) | mb (ks vs:List D) | mf (ks vs:List D)
inductive S where
 | d (x:D) | own (xs:List D) | bor (xs:List D) | dk (ks vs:List D) | db (ks vs:List D)
  | fn (x:Str)
abbrev Ev:=List (Option S)
abbrev Mn:=List D ⊕ (List D×List D)
noncomputable def mS:Mn->S
 | .inl xs=>.own xs
 | .inr p=>.dk p.1 p.2
structure C where
 K:UM
 H0:Hp
 J0:Hp
 T:Exc->Prop
structure HI (c:C) (J H:Hp):Prop where
 sub:aU J H
 ent:aU c.H0 H
 entJ:aU c.J0 J
 frz:∀a,c.H0 a≠none->c.J0 a=none->J a=none
structure Ext (J H J' H':Hp):Prop where
 h:aU H H'
 j:aU J J'
 sub:aU J' H'
 frz:∀a,H a≠none->J a=none->J' a=none
theorem aU.ne {H H':Hp}(e:aU H H') (h:H a≠none):H' a≠none:=by
 cases q:H a with
 | none=>exact absurd q h
 | some o=>rw [e a o q];intro z;cases z
theorem Ext.refl {J H:Hp}(h:aU J H):Ext J H J H:=⟨aU.refl H,aU.refl J,h,λ_ _ q=>q⟩
theorem Ext.trans {J H J1 H1 J2 H2:Hp}(a:Ext J H J1 H1) (b:Ext J1 H1 J2 H2):Ext J H J2 H2:=
 ⟨a.h.trans b.h,a.j.trans b.j,b.sub,λp h q=>b.frz p (aU.ne a.h h) (a.frz p h q)⟩
theorem HI.ext {J H J' H':Hp}(h:HI c J H) (e:Ext J H J' H'):HI c J' H':=
 ⟨e.sub,h.ent.trans e.h,h.entJ.trans e.j,λa h0 j0=>e.frz a (aU.ne h.ent h0) (h.frz a h0 j0)⟩
theorem cQ {H:Hp}(h:H p=none) (o:HO):aU H (upd H p o):=λb u q=>by rw [bD (eU q h)];exact q
theorem Ext.new {J H:Hp}(h:aU J H) (e:H p=none) (o:HO):Ext J H J (upd H p o):=
 ⟨cQ e o,aU.refl J,λb u q=>cQ e o b u (h b u q),λ_ _ q=>q⟩
theorem Ext.newJ {J H:Hp}(h:aU J H) (e:H p=none) (o:HO):Ext J H (upd J p o) (upd H p o):=
 ⟨cQ e o,cQ (h.free e) o,λb u q=>by
  by_cases hb:b=p
  ·subst hb;rw [b9] at q ⊢;exact q
  ·rw [bD hb] at q ⊢;exact h b u q,λa ha q=>by
  have:a≠p:=λz=>ha (z▸e)
  rw [bD this];exact q⟩
noncomputable def tZ (c:C) (J H:Hp):S->V->Prop
 | .d x,v=>Rep c.K J x v
 | .own xs,v=>∃a vs,v=.ref a/\H a=some (.lst vs)/\J a=none/\c.H0 a=none/\aL c.K J xs vs
 | .bor xs,v=>∃a vs,v=.ref a/\cB c.K c.H0 a vs/\aL c.K J xs vs
 | .dk ks vs,v=>∃a,v=.ref a/\d7 c.K J H a ks vs/\J a=none/\c.H0 a=none
 | .db ks vs,v=>∃a,v=.ref a/\d7 c.K J c.H0 a ks vs
 | .fn x,v=>∃f,v=.ref f/\Vw c.K Vi x=some (some (.ref f))
theorem tZ.ext {c:C}{J H J' H':Hp}(e:Ext J H J' H'):∀{x:S}{v:V},tZ c J H x v->tZ c J' H' x v
 | .d x,v,h=>Rep.mono e.j h
 | .own xs,v,⟨a,vs,h1,h2,h3,h4,h5⟩=>⟨a,vs,h1,e.h _ _ h2,e.frz a (by rw [h2];intro z;cases z) h3,h4,aL.mono e.j h5⟩
 | .bor xs,v,⟨a,vs,h1,h2,h3⟩=>⟨a,vs,h1,h2,aL.mono e.j h3⟩
 | .dk _ _,v,⟨a,h1,h2,h3,h4⟩=>⟨a,h1,h2.mono e.j e.h,e.frz a h2.ne h3,h4⟩
 | .db _ _,v,⟨a,h1,h2⟩=>⟨a,h1,h2.mono e.j (aU.refl _)⟩
 | .fn _,v,h=>h
structure SR (c:C) (J H:Hp) (σ:L2.St) (env:Ev):Prop where
 hp:HI c J H
 len:env.length=σ.length
 at_:∀(i:Nat) (x:S),env[i]?=some (some x)->∃v,σ[i]?=some (some v)/\tZ c J H x v
 sep:∀(i j:Nat) (xs ys:Mn) (v:V),i≠j->env[i]?=some (some (mS xs))->env[j]?=some (some (mS ys))->σ[i]?=some (some v)->σ[j]?≠some (some v)
theorem SR.ext {J H J' H':Hp}(h:SR c J H σ env) (e:Ext J H J' H'):SR c J' H' σ env:=
 ⟨h.hp.ext e,h.len,λi x q=>let ⟨v,q1,q2⟩:=h.at_ i x q;⟨v,q1,q2.ext e⟩,h.sep⟩
theorem SR.mine {c:C}{J H:Hp}{σ:L2.St}{env:Ev}(sr:SR c J H σ env){i:Nat}:∀{x:Mn},env[i]?=some (some (mS x))->∃p,σ[i]?=some (some (.ref p))/\H p≠none/\J p=none/\c.H0 p=none
 | .inl xs,h=>let ⟨_,k1,p,vs,e,k2,k3,k4,_⟩:=sr.at_ i (.own xs) h;⟨p,e▸k1,by rw [k2];exact λz=>(by cases z),k3,k4⟩
 | .inr q,h=>let ⟨_,k1,p,e,k2,k3,k4⟩:=sr.at_ i (.dk q.1 q.2) h;⟨p,e▸k1,k2.ne,k3,k4⟩
noncomputable def RR (c:C) (He J H:Hp):R->V->Prop
 | .d x,v=>Rep c.K J x v
 | .l .fresh xs,v=>∃a vs,v=.ref a/\H a=some (.lst vs)/\J a=none/\He a=none/\aL c.K J xs vs
 | .l .own xs,v=>∃a vs,v=.ref a/\H a=some (.lst vs)/\J a=none/\c.H0 a=none/\aL c.K J xs vs
 | .l .bor xs,v=>∃a vs,v=.ref a/\cB c.K c.H0 a vs/\aL c.K J xs vs
 | .mo ks vs,v=>∃a,v=.ref a/\d7 c.K J H a ks vs/\J a=none/\c.H0 a=none
 | .mb ks vs,v=>∃a,v=.ref a/\d7 c.K J c.H0 a ks vs
 | .mf ks vs,v=>∃a,v=.ref a/\d7 c.K J H a ks vs/\J a=none/\He a=none
theorem RR.ext {c:C}{He J H J' H':Hp}(e:Ext J H J' H'):∀{x:R}{v:V},RR c He J H x v->RR c He J' H' x v
 | .d x,v,h=>Rep.mono e.j h
 | .l .fresh xs,v,⟨a,vs,h1,h2,h3,h4,h5⟩=>⟨a,vs,h1,e.h _ _ h2,e.frz a (by rw [h2];intro z;cases z) h3,h4,aL.mono e.j h5⟩
 | .l .own xs,v,⟨a,vs,h1,h2,h3,h4,h5⟩=>⟨a,vs,h1,e.h _ _ h2,e.frz a (by rw [h2];intro z;cases z) h3,h4,aL.mono e.j h5⟩
 | .l .bor xs,v,⟨a,vs,h1,h2,h3⟩=>⟨a,vs,h1,h2,aL.mono e.j h3⟩
 | .mo _ _,v,⟨a,h1,h2,h3,h4⟩=>⟨a,h1,h2.mono e.j e.h,e.frz a h2.ne h3,h4⟩
 | .mb _ _,v,⟨a,h1,h2⟩=>⟨a,h1,h2.mono e.j (aU.refl _)⟩
 | .mf _ _,v,⟨a,h1,h2,h3,h4⟩=>⟨a,h1,h2.mono e.j e.h,e.frz a h2.ne h3,h4⟩
theorem RR.from {c:C}{He He' J H:Hp}(e:aU He He'):∀{x:R}{v:V},RR c He' J H x v->RR c He J H x v
 | .d x,v,h=>h
 | .l .fresh xs,v,⟨a,vs,h1,h2,h3,h4,h5⟩=>⟨a,vs,h1,h2,h3,e.free h4,h5⟩
 | .l .own xs,v,h=>h
 | .l .bor xs,v,h=>h
 | .mo _ _,v,h=>h
 | .mb _ _,v,h=>h
 | .mf _ _,v,⟨a,h1,h2,h3,h4⟩=>⟨a,h1,h2,h3,e.free h4⟩
noncomputable def kK:R->M (List D)
 | .d (.lst xs)=>.ok xs
 | .l _ xs=>.ok xs
 | _=>.bad
noncomputable def toD:R->M D
 | .d x=>.ok x
 | .l .fresh xs=>.ok (.lst xs)
 | .mf ks vs=>.ok (.dct ks vs)
 | _=>.bad
theorem RR.list {c:C}{He J H:Hp}(hp:HI c J H):∀{r:R}{v:V}{xs:List D},RR c He J H r v->kK r=.ok xs->∃a vs,v=.ref a/\cB c.K H a vs/\aL c.K J xs vs
 | .d (.lst ys),v,xs,h,e=>by
  cases e
  cases h with
  | lst h hs=>exact ⟨_,_,rfl,hp.sub.seq h,hs⟩
 | .l .fresh ys,v,xs,⟨a,vs,h1,h2,h3,h4,h5⟩,e=>by cases e;exact ⟨a,vs,h1,cB.of h2,h5⟩
 | .l .own ys,v,xs,⟨a,vs,h1,h2,h3,h4,h5⟩,e=>by cases e;exact ⟨a,vs,h1,cB.of h2,h5⟩
 | .l .bor ys,v,xs,⟨a,vs,h1,h2,h3⟩,e=>by cases e;exact ⟨a,vs,h1,hp.ent.seq h2,h3⟩
 | .d .non,_,_,_,e=>nomatch e
 | .d (.bl _),_,_,_,e=>nomatch e
 | .d (.int _),_,_,_,e=>nomatch e
 | .d (.str _),_,_,_,e=>nomatch e
 | .d (.tup _),_,_,_,e=>nomatch e
 | .d .emp,_,_,_,e=>nomatch e
 | .d (.dct _ _),_,_,_,e=>nomatch e
 | .mo _ _,_,_,_,e=>nomatch e
 | .mb _ _,_,_,_,e=>nomatch e
 | .mf _ _,_,_,_,e=>nomatch e
theorem B8 {Je He J H:Hp}(x:Ext Je He J H) (h2:H a=some o) (h3:J a=none) (h4:He a=none):Ext Je He (upd J a o) H:=by
 refine ⟨x.h,x.j.trans (cQ h3 _),λb u q=>?_,λb hb q=>?_⟩
 ·by_cases hb:b=a
  ·subst hb;rw [b9] at q;cases q;exact h2
  ·rw [bD hb] at q;exact x.sub b u q
 ·have:b≠a:=λz=>hb (z▸h4)
  rw [bD this];exact x.frz b hb q
theorem freeze {c:C}{Je He J H:Hp}(x:Ext Je He J H):∀{r:R}{v:V}{d:D},RR c He J H r v->toD r=.ok d->∃J',Ext Je He J' H/\aU J J'/\Rep c.K J' d v
 | .d y,v,d,h,e=>by cases e;exact ⟨J,x,aU.refl J,h⟩
 | .l .fresh ys,v,d,⟨a,vs,h1,h2,h3,h4,h5⟩,e=>by
  cases e
  subst h1
  exact ⟨_,B8 x h2 h3 h4,cQ h3 _,.lst (.inl (.inl b9)) (aL.mono (cQ h3 _) h5)⟩
 | .mf ks vs,v,d,⟨a,h1,⟨us,ws,ep,h2,m1,m2,m3⟩,h3,h4⟩,e=>by
  cases e
  subst h1
  exact ⟨_,B8 x h2 h3 h4,cQ h3 _,.dct b9 (m1.mono (cQ h3 _)) (m2.mono (cQ h3 _)) m3.1 m3.2⟩
 | .l .own _,_,_,_,e=>nomatch e
 | .l .bor _,_,_,_,e=>nomatch e
 | .mo _ _,_,_,_,e=>nomatch e
 | .mb _ _,_,_,_,e=>nomatch e
abbrev G (α:Type):=Ev->M α
def tD (c:C) (g:G R):TE:=λσ H Q=>∃J env,SR c J H σ env/\cD (g env) (λr=>∀v J' H',Ext J H J' H'->RR c H J' H' r v->Q v H') c.T
def PD (X:Cx) (c:C) (e:Vv) (g:G R):Prop:=PE X e (tD c g)
def tB (c:C) (g:G Bool):TT:=λσ H Q=>∃J env,SR c J H σ env/\cD (g env) (λb=>∀J' H',Ext J H J' H'->Q b H') c.T
def PB (X:Cx) (c:C) (e:Vv) (g:G Bool):Prop:=PT X e (tB c g)
noncomputable def kI (c:C) (He J H:Hp):List R->List V->Prop
 | [],vs=>vs=[]
 | r::rs,vs=>∃v us,vs=v::us/\RR c He J H r v/\kI c He J H rs us
def tA (c:C) (g:G (List R)):TA:=λσ H Q=>∃J env,SR c J H σ env/\cD (g env) (λrs=>∀vs J' H',Ext J H J' H'->kI c H J' H' rs vs->Q vs H') c.T
def BK (X:Cx) (c:C) (es:List Vv) (g:G (List R)):Prop:=PA X es (tA c g)
def Q7 (c:C) (g:G (List D)):TA:=λσ H Q=>∃J env,SR c J H σ env/\cD (g env) (λds=>∀vs J' H',Ext J H J' H'->aL c.K J' ds vs->Q vs H') c.T
def QW (X:Cx) (c:C) (es:List Vv) (g:G (List D)):Prop:=PA X es (Q7 c g)
inductive O where
 | nx (e:Ev) | rt (r:R) | bk (e:Ev) | ct (e:Ev)
noncomputable def RF (c:C) (J H:Hp):R->V->Prop
 | .d x,v=>Rep c.K J x v
 | .l _ xs,v=>∃a vs,v=.ref a/\H a=some (.lst vs)/\J a=none/\c.H0 a=none/\aL c.K J xs vs
 | .mf ks vs,v=>∃a,v=.ref a/\d7 c.K J H a ks vs/\J a=none/\c.H0 a=none
 | _,_=>False
noncomputable def oP (c:C) (J:Hp) (E:Ends):O->Prop
 | .nx e=>∀σ' J' H',aU J J'->SR c J' H' σ' e->E.nx σ' H'
 | .rt r=>∀v J' H',aU J J'->HI c J' H'->RF c J' H' r v->E.rt v H'
 | .bk e=>∀σ' J' H',aU J J'->SR c J' H' σ' e->E.bk σ' H'
 | .ct e=>∀σ' J' H',aU J J'->SR c J' H' σ' e->E.ct σ' H'
def tS (c:C) (g:G O):TS:=λE σ H=>∃J env,SR c J H σ env/\cD (g env) (oP c J E) c.T
def Mc (X:Cx) (c:C) (st:Xd) (g:G O):Prop:=PS X st (tS c g)
def Jg (X:Cx) (c:C) (st:List Xd) (g:G O):Prop:=kH X st (tS c g)
theorem oP.mono {c:C}{J J1:Hp}{E:Ends}(e:aU J J1):∀{o:O},oP c J E o->oP c J1 E o
 | .nx _,h=>λσ' J' H' q r=>h σ' J' H' (e.trans q) r
 | .rt _,h=>λσ' J' H' q r=>h σ' J' H' (e.trans q) r
 | .bk _,h=>λσ' J' H' q r=>h σ' J' H' (e.trans q) r
 | .ct _,h=>λσ' J' H' q r=>h σ' J' H' (e.trans q) r
theorem fj {t t':TE}(h:PE X e t) (k:∀σ H Q,t' σ H Q->t σ H Q):PE X e t':=λUB s σ H Q I q=>h UB s σ H Q I (k σ H Q q)
theorem zg (h:PT X e t) (k:∀σ H Q,t' σ H Q->t σ H Q):PT X e t':=λUB s σ H Q I q=>h UB s σ H Q I (k σ H Q q)
theorem zd (h:PA X es t) (k:∀σ H Q,t' σ H Q->t σ H Q):PA X es t':=λpos UB s σ H Q I q=>h pos UB s σ H Q I (k σ H Q q)
theorem i7 {st:Xd}{t t':TS}(h:PS X st t) (k:∀D σ H,t' D σ H->t D σ H):PS X st t':=λUB s σ H D I q=>h UB s σ H D I (k D σ H q)
theorem Gf {st:List Xd}{t t':TS}(h:kH X st t) (k:∀D σ H,t' D σ H->t D σ H):kH X st t':=λUB s σ H D I q=>h UB s σ H D I (k D σ H q)
section
variable {X:Cx}{c:C}{e a b:Vv}{ga gb:G R}{pos:Pos}
noncomputable def S.rd:S->M R
 | .d x=>.ok (.d x)
 | .own xs=>.ok (.l .own xs)
 | .bor xs=>.ok (.l .bor xs)
 | .dk ks vs=>.ok (.mo ks vs)
 | .db ks vs=>.ok (.mb ks vs)
 | .fn _=>.bad
noncomputable def af (i:Nat):G R:=λenv=>match env[i]? with
 | some (some x)=>x.rd
 | _=>.bad
theorem Le (h:PE X (.Name x pos) (Oj i)):PD X c (.Name x pos) (af i):=fj h λσ H Q ⟨J,env,sr,w⟩=>by
 unfold af at w
 cases q:env[i]? with
 | none=>rw [q] at w;exact w.elim
 | some o=>
  cases o with
  | none=>rw [q] at w;exact w.elim
  | some x=>
   rw [q] at w
   obtain ⟨v,h1,h2⟩:=sr.at_ i x q
   refine ⟨v,h1,?_⟩
   cases x with
   | fn _=>exact w.elim
   | _=>exact w v J H (Ext.refl sr.hp.sub) h2
def gC (d:D):G R:=λ_=>.ok (.d d)
theorem vA (hr:∀J,Rep c.K J d v) (h:PE X e (tC v)):PD X c e (gC d):=fj h λσ H Q ⟨J,env,sr,w⟩=>w v J H (Ext.refl sr.hp.sub) (hr J)
noncomputable def BD (c:C) (r:R2) (f:R->R->M R):Prop:=∀(He He' J H:Hp) (x y:R) (u v:V) (Q:VK),HI c J H->RR c He J H x u->RR c He' J H y v->
 cD (f x y) (λz=>∀w J' H',Ext J H J' H'->RR c H J' H' z w->Q w H') c.T->r u v H Q
def g2 (f:R->R->M R) (ga gb:G R):G R:=λenv=>ga env >>= λx=>gb env >>= λy=>f x y
theorem two {P:R->R->M R}{σ:L2.St}{H:Hp}{k:V->V->Hp->Prop}{Q:VK}{J:Hp}{env:Ev}(sr:SR c J H σ env)
  (w:cD (g2 P ga gb env) (λr=>∀v J' H',Ext J H J' H'->RR c H J' H' r v->Q v H') c.T)
  (hk:∀x y u v J2 H2,SR c J2 H2 σ env->Ext J H J2 H2->RR c H J2 H2 x u->RR c H J2 H2 y v->cD (P x y) (λz=>∀w J' H',Ext J2 H2 J' H'->RR c H2 J' H' z w->Q w H') c.T->k u v H2):
  tD c ga σ H λu H1=>tD c gb σ H1 λv H2=>k u v H2:=by
 refine ⟨J,env,sr,aF (aK w) λx wx u J1 H1 e1 r1=>?_⟩
 have sr1:=sr.ext e1
 refine ⟨J1,env,sr1,aF (aK wx) λy wy v J2 H2 e2 r2=>?_⟩
 exact hk x y u v J2 H2 (sr1.ext e2) (e1.trans e2) (r1.ext e2) (RR.from e1.h r2) (aF wy λz q w J' H' e3 r3=>q w J' H' ((e1.trans e2).trans e3) (RR.from (e1.h.trans e2.h) r3))
theorem HY {t:TE}{f:R->R->M R}(ht:PE X e t) (heq:t=Gz r (tD c ga) (tD c gb)) (hf:BD c r f):PD X c e (g2 f ga gb):=by
 subst heq
 exact fj ht λσ H Q ⟨J,env,sr,w⟩=>two (k:=λu v H2=>r u v H2 Q) sr w λx y u v J2 H2 sr2 e2 r1 r2 q=>hf H H J2 H2 x y u v Q sr2.hp r1 r2 q
theorem mZ {f:R->R->M R}(ho:dD X (X_ op) r) (hf:BD c r f) (ha:PD X c a ga) (hb:PD X c b gb):PD X c (.BinOp a op b pos) (g2 f ga gb):=HY (O3 ho ha hb) rfl hf
theorem n5 {f:R->R->M R}(ho:dD X (Wl op) r) (hf:BD c r f) (ha:PD X c a ga) (hb:PD X c b gb) (hm:V9 op b=false:=by first | exact AJ _ | rfl):PD X c (.Compare a [op] [b] pos) (g2 f ga gb):=HY (Lg ho ha hb hm) rfl hf
theorem JE {f:R->R->M R}(ho:qi X r) (hf:BD c r f) (ha:PD X c a ga) (hb:PD X c b gb) (hs:rG b:=by exact λ_ _=>rfl):PD X c (.Subscript a b pos) (g2 f ga gb):=HY (O0 ho ha hb hs) rfl hf
theorem BD.or {r r':R2}{f f':R->R->M R}(p:R->R->Bool) (h:BD c r f) (h':BD c r' f'):BD c (λx y H Q=>r x y H Q\/r' x y H Q) (λx y=>if p x y then f x y else f' x y):=by
 intro He He' J H x y u v Q hp rx ry w
 simp only at w
 cases q:p x y with
 | true=>rw [q] at w;exact .inl (h He He' J H x y u v Q hp rx ry w)
 | false=>rw [q] at w;exact .inr (h' He He' J H x y u v Q hp rx ry w)
noncomputable def fI (C:Int->Int->Bool) (f:Int->Int->D):R->R->M R
 | .d (.int i),.d (.int j)=>if C i j then .ok (.d (f i j)) else .bad
 | _,_=>.bad
noncomputable def nO (f:Int->Int->D):R->R->M R
 | .d (.int i),.d (.int j)=>.ok (.d (f i j))
 | _,_=>.bad
theorem zO {P:Int->Int->Prop}{Cb:Int->Int->Bool}{g:Int->Int->V}{f:Int->Int->D}(hC:∀i j,Cb i j=true->P i j) (hr:∀i j J,Rep c.K J (f i j) (g i j)):BD c (rI P g) (fI Cb f):=by
 intro He He' J H x y u v Q hp rx ry w
 unfold fI at w
 split at w
 ·cases rx;cases ry
  rename_i i j
  cases q:Cb i j with
  | true=>rw [q] at w;exact ⟨i,j,rfl,rfl,hC i j q,w _ J H (Ext.refl hp.sub) (hr i j J)⟩
  | false=>rw [q] at w;exact w.elim
 ·exact w.elim
theorem j6 {g:Int->Int->V}{f:Int->Int->D}(hr:∀i j J,Rep c.K J (f i j) (g i j)):BD c (tK g) (nO f):=by
 intro He He' J H x y u v Q hp rx ry w
 unfold nO at w
 split at w
 ·cases rx;cases ry
  rename_i i j
  exact ⟨i,j,rfl,rfl,w _ J H (Ext.refl hp.sub) (hr i j J)⟩
 ·exact w.elim
def below (n:Nat) (j:Int):Bool:=Nat.blt j.natAbs n
theorem dh:below n j=true↔-(n:Int) < j/\j < n:=by
 unfold below
 rw [Nat.blt_eq]
 omega
def DN (_ j:Int):Bool:=decide (0 < j) && below 1073741824 j
def M4 (_ j:Int):Bool:=decide (0 < j)
def Ax (i j:Int):Bool:=below 18446744073709551616 i || below 18446744073709551616 j
theorem KQ (h:Ax i j=true):(-(2 ^ 64) < i/\i < 2 ^ 64)\/(-(2 ^ 64) < j/\j < 2 ^ 64):=by
 unfold Ax at h
 rw [XI] at h
 exact h.imp dh.mp dh.mp
theorem KP (h:DN i j=true):0 < j/\j < 1073741824:=by
 unfold DN at h
 rw [UT] at h
 exact ⟨of_decide_eq_true h.1,(dh.mp h.2).2⟩
def Hw (i j:Int):Bool:=decide (0<=j) && below 1000001 j && below 18446744073709551616 i
theorem KR {i j:Int}(h:Hw i j=true):0<=j/\j<=1000000/\i.natAbs < 2 ^ 64:=by
 unfold Hw at h
 rw [UT,UT] at h
 have h2:=dh.mp h.1.2
 have h3:=dh.mp h.2
 exact ⟨of_decide_eq_true h.1.1,by omega,by omega⟩
abbrev we:R->R->M R:=nO λi j=>.int (i + j)
abbrev DE:R->R->M R:=nO λi j=>.int (i - j)
abbrev MI:R->R->M R:=fI Ax λi j=>.int (i * j)
abbrev fC:R->R->M R:=fI DN λi j=>.int (i / j)
abbrev cV:R->R->M R:=fI M4 λi j=>.int (i % j)
abbrev oX:R->R->M R:=fI Hw λi j=>.int (i ^ j.toNat)
noncomputable def uZ:R->R->M R
 | .d (.str i),.d (.str j)=>if i.length + j.length<=sizeLine then .ok (.d (.str (i++j))) else .bad
 | _,_=>.bad
theorem LC {K:UM}{J:Hp}{ds:List D}{vs:List V}{i:Int}{d:D}(h:aL K J ds vs) (e:mC ds i=some d):∃v,mC vs i=some v/\Rep K J d v:=by
 unfold mC at e ⊢
 rw [h.length] at e
 cases q:Aw vs.length i with
 | none=>rw [q] at e;cases e
 | some j=>rw [q] at e;exact h.get e
theorem oE {f:List D->M R}{Q:R->Prop}{T:Exc->Prop}(w:cD (kK x >>= f) Q T):∃xs,kK x=.ok xs/\cD (f xs) Q T:=by
 cases q:kK x with
 | bad=>rw [q] at w;exact w.elim
 | ok xs=>rw [q] at w;exact ⟨xs,rfl,w⟩
 | exc z=>unfold kK at q;split at q <;> cases q
noncomputable def Av:R->Bool
 | .l .fresh _=>true
 | .l .own _=>true
 | _=>false
noncomputable def u5 (x y:R):M R:=if Av x && Av y then kK x >>= λxs=>kK y >>= λys=>if xs.length + ys.length<=sizeLine then .ok (.l .fresh (xs++ys)) else .bad else .bad
theorem RR.made {He J H:Hp}:∀{r:R}{v:V},Av r=true->RR c He J H r v->∃a vs xs,kK r=.ok xs/\v=.ref a/\H a=some (.lst vs)/\aL c.K J xs vs
 | .l .fresh xs,v,_,⟨a,vs,h1,h2,h3,h4,h5⟩=>⟨a,vs,xs,rfl,h1,h2,h5⟩
 | .l .own xs,v,_,⟨a,vs,h1,h2,h3,h4,h5⟩=>⟨a,vs,xs,rfl,h1,h2,h5⟩
 | .l .bor _,_,e,_=>nomatch e
 | .mo _ _,_,e,_=>nomatch e
 | .mb _ _,_,e,_=>nomatch e
 | .mf _ _,_,e,_=>nomatch e
 | .d _,_,e,_=>nomatch e
theorem iz {J H:Hp}(hp:HI c J H) (e:H p=none) (h:aL c.K J xs vs):RR c H J (upd H p (.lst vs)) (.l .fresh xs) (.ref p):=
 ⟨p,vs,rfl,b9,hp.sub.free e,e,h⟩
noncomputable def CD (c:C) (r:List V->Hp->VK->Prop) (f:List R->M R):Prop:=∀(He J H:Hp) (xs:List R) (vs:List V) (Q:VK),HI c J H->kI c He J H xs vs->
 cD (f xs) (λz=>∀w J' H',Ext J H J' H'->RR c H J' H' z w->Q w H') c.T->r vs H Q
def gN (f:List R->M R) (gs:G (List R)):G R:=λenv=>gs env >>= f
theorem HZ {t:TE}{ta:TA}{r:List V->Hp->VK->Prop}{f:List R->M R}{gs:G (List R)}(ht:PE X e t) (heq:t=λσ H Q=>tA c gs σ H λvs H1=>r vs H1 Q) (hf:CD c r f):PD X c e (gN f gs):=by
 subst heq
 refine fj ht λσ H Q ⟨J,env,sr,w⟩=>⟨J,env,sr,aF (aK w) λrs w vs J1 H1 e1 r1=>?_⟩
 exact hf H J1 H1 rs vs Q (sr.hp.ext e1) r1 (aF w λz q v J' H' e2 r2=>q v J' H' (e1.trans e2) (RR.from e1.h r2))
def aE:G (List R):=λ_=>.ok []
def ao (g:G R) (gs:G (List R)):G (List R):=λenv=>g env >>= λx=>gs env >>= λxs=>.ok (x::xs)
theorem kI.from {He He' J H:Hp}(e:aU He He'):∀{xs:List R}{vs:List V},kI c He' J H xs vs->kI c He J H xs vs
 | [],_,h=>h
 | _::_,_,⟨v,us,h1,h2,h3⟩=>⟨v,us,h1,RR.from e h2,kI.from e h3⟩
theorem jc {id:String}{x:Str}{p:Pos}{es:List Vv}{r:List V->Hp->VK->Prop}{f:List R->M R}{gs:G (List R)}(hc:cO X (.builtin id) r) (hf:CD c r f) (hv:VR x=some (.builtin id)) (hm:X.mg x=none) (ha:BK X c (e::es) gs)
  (hg:Gl X x:=by rfl) (hn:x≠"__name__":=by decide) (hdb:(x == ("__debug__":Str))=false:=by decide)
  (he:UZ (e::es) X.env=(false,eval e X.env)::UZ es X.env:=by rfl) (hpl:(Wu pos (UZ es X.env)).any (·.1)=false:=by rfl):PD X c (.Call (.Name x p) (e::es) [] pos) (gN f gs):=
 HZ (ta:=Eg) (ur hc hg hm hv ha hn hdb he hpl) rfl hf
theorem qO {r:List V->Hp->VK->Prop}{f:List R->M R}{gs:G (List R)}(hc:cO X (.type T) r) (hf:CD c r f) (hv:VR x=some (.type T)) (hm:X.mg x=none) (ha:BK X c (e::es) gs)
 (hg:Gl X x:=by rfl) (hn:x≠"__name__":=by decide) (hdb:(x == ("__debug__":Str))=false:=by decide)
 (he:UZ (e::es) X.env=(false,eval e X.env)::UZ es X.env:=by rfl) (hpl:(Wu pos (UZ es X.env)).any (·.1)=false:=by rfl):PD X c (.Call (.Name x p) (e::es) [] pos) (gN f gs):=
 HZ (ta:=Eg) (m9 hc hg hm hv ha hn hdb he hpl) rfl hf
end
section
variable {X:Cx}{c:C}{e a b:Vv}{es:List Vv}{ga gb g:G R}{pos:Pos}
def aT:G (List D):=λ_=>.ok []
def aA (g:G R) (gs:G (List D)):G (List D):=λenv=>g env >>= λx=>toD x >>= λd=>gs env >>= λds=>.ok (d::ds)
theorem jt {α:Type}{f:D->M α}{Q:α->Prop}{T:Exc->Prop}(w:cD (toD x >>= f) Q T):∃d,toD x=.ok d/\cD (f d) Q T:=by
 cases q:toD x with
 | bad=>rw [q] at w;exact w.elim
 | ok xs=>rw [q] at w;exact ⟨xs,rfl,w⟩
 | exc z=>unfold toD at q;split at q <;> cases q
def bE (gs:G (List D)):G R:=λenv=>gs env >>= λds=>if ds.length<=sizeLine then .ok (.d (.tup ds)) else .bad
def dR (gs:G (List D)):G R:=λenv=>gs env >>= λds=>if ds.length<=sizeLine then .ok (.l .fresh ds) else .bad
theorem qS {J H:Hp}(hp:HI c J H) (e:H p=none) (h:aL c.K J xs vs):Rep c.K (upd J p (.tup vs)) (.tup xs) (.ref p):=
 .tup (.inl (.inl b9)) (h.mono (cQ (hp.sub.free e) _))
noncomputable def iK:R->M (List D)
 | .d (.tup xs)=>.ok xs
 | .d (.lst xs)=>.ok xs
 | .l _ xs=>.ok xs
 | _=>.bad
theorem kZ {He J H:Hp}(hp:HI c J H):∀{r:R}{v:V}{xs:List D},RR c He J H r v->iK r=.ok xs->∃a vs,v=.ref a/\(cB c.K H a vs\/dg c.K H a vs)/\aL c.K J xs vs
 | .d (.tup ys),v,xs,h,e=>by
  cases e
  cases h with
  | tup h hs=>exact ⟨_,_,rfl,.inr (fk hp.sub h),hs⟩
 | .d (.lst ys),v,xs,h,e=>let ⟨a,vs,h1,h2,h3⟩:=RR.list hp h e;⟨a,vs,h1,.inl h2,h3⟩
 | .l m ys,v,xs,h,e=>let ⟨a,vs,h1,h2,h3⟩:=RR.list hp h e;⟨a,vs,h1,.inl h2,h3⟩
 | .d .non,_,_,_,e=>nomatch e
 | .d (.bl _),_,_,_,e=>nomatch e
 | .d (.int _),_,_,_,e=>nomatch e
 | .d (.str _),_,_,_,e=>nomatch e
 | .d .emp,_,_,_,e=>nomatch e
 | .d (.dct _ _),_,_,_,e=>nomatch e
theorem jr {α:Type}{f:List D->M α}{Q:α->Prop}{T:Exc->Prop}(w:cD (iK x >>= f) Q T):∃xs,iK x=.ok xs/\cD (f xs) Q T:=by
 cases q:iK x with
 | bad=>rw [q] at w;exact w.elim
 | ok xs=>rw [q] at w;exact ⟨xs,rfl,w⟩
 | exc z=>unfold iK at q;split at q <;> cases q
noncomputable def eS:List R->M R
 | [.d (.str z)]=>if z.length<=sizeLine then .ok (.d (.int z.length)) else .bad
 | [r]=>iK r >>= λxs=>.ok (.d (.int xs.length))
 | _=>.bad
theorem kI.one {He J H:Hp}(h:kI c He J H [r] vs):∃v,vs=[v]/\RR c He J H r v:=by
 obtain ⟨v,us,rfl,h1,h2⟩:=h
 cases h2
 exact ⟨v,rfl,h1⟩
theorem kI.two {He J H:Hp}{r r':R}{vs:List V}(h:kI c He J H [r,r'] vs):∃v v',vs=[v,v']/\RR c He J H r v/\RR c He J H r' v':=by
 obtain ⟨v,us,rfl,h1,v2,us2,rfl,h2,h3⟩:=h
 cases h3
 exact ⟨v,v2,rfl,h1,h2⟩
noncomputable def dw:List R->M R
 | [r]=>iK r >>= λxs=>.ok (.d (.tup xs))
 | _=>.bad
theorem Bj:VR "tuple"=some (.type "tuple"):=by decide +kernel
theorem uR:VR "list"=some (.type "list"):=by decide +kernel
noncomputable def DA:List R->M R
 | [r]=>iK r >>= λxs=>.ok (.l .fresh xs)
 | _=>.bad
noncomputable def bx (g:G R):G Bool:=λenv=>g env >>= λr=>match r with
 | .d (.bl k)=>.ok k
 | _=>.bad
theorem i6 {f:R->R->M R}(ho:dD X (Wl op) r) (hf:BD c r f) (ha:PD X c a ga) (hb:PD X c b gb) (hm:V9 op b=false:=by first | exact AJ _ | rfl):PB X c (.Compare a [op] [b] pos) (bx (g2 f ga gb)):=
 zg (Lo ho ha hb hm) λσ H Q ⟨J,env,sr,w⟩=>by
  have w2:=aK w
  refine two (k:=λu v H2=>r u v H2 λz H3=>∃k,z=.bl k/\Q k H3) (Q:=λz H3=>∃k,z=.bl k/\Q k H3) sr (aF w2 λr0 wr v J1 H1 e1 r1=>?_)
   λx y u v J2 H2 sr2 e2 r1 r2 q=>hf H H J2 H2 x y u v _ sr2.hp r1 r2 q
  split at wr
  ·cases r1;exact ⟨_,rfl,wr J1 H1 e1⟩
  ·exact wr.elim
def iP (g h:G Bool):G Bool:=λenv=>g env >>= λk=>if k=true then h env else .ok false
def ki (g h:G Bool):G Bool:=λenv=>g env >>= λk=>if k=true then .ok true else h env
def gy (g:G Bool):G Bool:=λenv=>g env >>= λk=>.ok (!k)
def QX (X:Cx) (c:C) (e:Vv) (g:G Bool):Prop:=PW X e (tB c g)
variable {t u:G Bool}{rest:List Vv}
theorem JJ {X:Cx}{e:Vv}{t t':TT}(h:PW X e t) (k:∀σ H Q,t' σ H Q->t σ H Q):PW X e t':=λwh UB s σ H Q I q=>h wh UB s σ H Q I (k σ H Q q)
noncomputable def rO (g h:G R):G R:=λenv=>g env >>= λr=>match r with
 | .d (.bl true)=>h env
 | .d (.bl false)=>.ok (.d (.bl false))
 | _=>.bad
noncomputable def uh (g h:G R):G R:=λenv=>g env >>= λr=>match r with
 | .d (.bl false)=>h env
 | .d (.bl true)=>.ok (.d (.bl true))
 | _=>.bad
noncomputable def DH (g:G R):G R:=λenv=>g env >>= λr=>match r with
 | .d (.bl k)=>.ok (.d (.bl (!k)))
 | _=>.bad
end
section
variable {X:Cx}{c:C}{e a b tg:Vv}{es:List Vv}{ga gb g:G R}{pos:Pos}{st:Xd}{rest:List Xd}{t u:G O}{tb:G Bool}
def cL:G O:=λenv=>.ok (.nx env)
noncomputable def aH (t u:G O):G O:=λenv=>t env >>= λo=>match o with
 | .nx e=>u e
 | o=>.ok o
def jD (g:G R):G O:=λenv=>g env >>= λ_=>.ok (.nx env)
noncomputable def rF:R->M R
 | .d x=>.ok (.d x)
 | .l .fresh xs=>.ok (.l .fresh xs)
 | .l .own xs=>.ok (.l .fresh xs)
 | .l .bor _=>.bad
 | .mo ks vs=>.ok (.mf ks vs)
 | .mf ks vs=>.ok (.mf ks vs)
 | .mb _ _=>.bad
def bf (g:G R):G O:=λenv=>g env >>= λr=>rF r >>= λr=>.ok (.rt r)
theorem RR.rf {J H J1 H1:Hp}(hp:HI c J H):∀{r r':R}{v:V},RR c H J1 H1 r v->rF r=.ok r'->RF c J1 H1 r' v
 | .d x,r',v,h,e=>by cases e;exact h
 | .l .fresh xs,r',v,⟨a,vs,h1,h2,h3,h4,h5⟩,e=>by cases e;exact ⟨a,vs,h1,h2,h3,hp.ent.free h4,h5⟩
 | .l .own xs,r',v,⟨a,vs,h1,h2,h3,h4,h5⟩,e=>by cases e;exact ⟨a,vs,h1,h2,h3,h4,h5⟩
 | .l .bor _,_,_,_,e=>nomatch e
 | .mo _ _,_,v,⟨a,h1,h2,h3,h4⟩,e=>by cases e;exact ⟨a,h1,h2,h3,h4⟩
 | .mb _ _,_,_,_,e=>nomatch e
 | .mf _ _,_,v,⟨a,h1,h2,h3,h4⟩,e=>by cases e;exact ⟨a,h1,h2,h3,hp.ent.free h4⟩
def bK (b:G Bool) (t u:G O):G O:=λenv=>b env >>= λk=>if k=true then t env else u env
noncomputable def toS:R->M S
 | .d x=>.ok (.d x)
 | .l .fresh xs=>.ok (.own xs)
 | .l .bor xs=>.ok (.bor xs)
 | .l .own _=>.bad
 | .mb ks vs=>.ok (.db ks vs)
 | .mf ks vs=>.ok (.dk ks vs)
 | .mo _ _=>.bad
theorem gM {α:Type}{l:List (Option α)}{i j:Nat}{x y:α}(h:(l.set i (some x))[j]?=some (some y)):(j=i/\i < l.length/\y=x)\/(j≠i/\l[j]?=some (some y)):=by
 by_cases e:j=i
 ·subst e
  have hj:j < l.length:=by
   have:=(Vo.mp h).1
   simpa using this
  rw [Wk hj] at h
  cases h
  exact .inl ⟨rfl,hj,rfl⟩
 ·rw [VF (WT e)] at h
  exact .inr ⟨e,h⟩
theorem SR.setD {J H:Hp}{σ:L2.St}{env:Ev}(sr:SR c J H σ env){i:Nat}{x:S}{v:V}(h:tZ c J H x v) (hx:∀xs,x≠mS xs):SR c J H (σ.set i (some v)) (env.set i (some x)):=by
 refine ⟨sr.hp,by simpa using sr.len,λj y q=>?_,λj k xs ys w hjk q1 q2 q3 q4=>?_⟩
 ·rcases gM q with ⟨rfl,hl,rfl⟩ | ⟨hj,q⟩
  ·exact ⟨v,by rw [Wk (by rw [<-sr.len];exact hl)],h⟩
  ·obtain ⟨w,h1,h2⟩:=sr.at_ j y q
   exact ⟨w,by rw [VF (WT hj)];exact h1,h2⟩
 ·rcases gM q1 with ⟨rfl,hl,e⟩ | ⟨hj,q1⟩
  ·exact hx xs e.symm
  ·rcases gM q2 with ⟨rfl,hl,e⟩ | ⟨hk,q2⟩
   ·exact hx ys e.symm
   ·rw [VF (WT hj)] at q3
    rw [VF (WT hk)] at q4
    exact sr.sep j k xs ys w hjk q1 q2 q3 q4
theorem SR.setM {J He:Hp}{σ:L2.St}{env:Ev}(sr:SR c J He σ env){J1 H1:Hp}(e1:Ext J He J1 H1){i:Nat}{y:Mn}{p:Vd}(h3:He p=none) (h:tZ c J1 H1 (mS y) (.ref p)):SR c J1 H1 (σ.set i (some (.ref p))) (env.set i (some (mS y))):=by
 have sr1:=sr.ext e1
 have old:∀(j:Nat) (ys:Mn),env[j]?=some (some (mS ys))->σ[j]?≠some (some (.ref p)):=λj ys qj z=>by
  obtain ⟨a,k1,k2,_⟩:=sr.mine qj
  rw [z] at k1
  cases k1
  exact k2 h3
 refine ⟨sr1.hp,by simpa using sr.len,λj y q=>?_,λj k ys zs w hjk q1 q2 q3 q4=>?_⟩
 ·rcases gM q with ⟨rfl,hl,rfl⟩ | ⟨hj,q⟩
  ·exact ⟨.ref p,by rw [Wk (by rw [<-sr.len];exact hl)],h⟩
  ·obtain ⟨w,k1,k2⟩:=sr1.at_ j y q
   exact ⟨w,by rw [VF (WT hj)];exact k1,k2⟩
 ·rcases gM q1 with ⟨rfl,hl,e⟩ | ⟨hj,q1'⟩
  ·rcases gM q2 with ⟨rfl,_,_⟩ | ⟨hk,q2⟩
   ·exact hjk rfl
   ·rw [Wk (by rw [<-sr.len];exact hl)] at q3
    cases q3
    rw [VF (WT hk)] at q4
    exact old k zs q2 q4
  ·rw [VF (WT hj)] at q3
   rcases gM q2 with ⟨rfl,hl,e⟩ | ⟨hk,q2⟩
   ·rw [Wk (by rw [<-sr.len];exact hl)] at q4
    cases q4
    exact old j ys q1' q3
   ·rw [VF (WT hk)] at q4
    exact sr.sep j k ys zs w hjk q1' q2 q3 q4
theorem SR.set {J He:Hp}{σ:L2.St}{env:Ev}(sr:SR c J He σ env){J1 H1:Hp}(e1:Ext J He J1 H1) (h:RR c He J1 H1 r v) (q:toS r=.ok x):SR c J1 H1 (σ.set i (some v)) (env.set i (some x)):=by
 have sr1:=sr.ext e1
 cases r with
 | d y=>cases q;exact sr1.setD h (λx z=>by cases x <;> cases z)
 | mb _ _=>cases q;exact sr1.setD h (λx z=>by cases x <;> cases z)
 | mf ks vs=>cases q;obtain ⟨p,rfl,h1,h2,h3⟩:=h;exact sr.setM (y:=.inr (ks,vs)) e1 h3 ⟨p,rfl,h1,h2,sr.hp.ent.free h3⟩
 | mo _ _=>cases q
 | l m xs=>
  cases m with
  | own=>cases q
  | bor=>cases q;exact sr1.setD h (λx z=>by cases x <;> cases z)
  | fresh=>
   cases q
   obtain ⟨p,vs,rfl,h1,h2,h3,h4⟩:=h
   exact sr.setM (y:=.inl xs) e1 h3 ⟨p,vs,rfl,h1,h2,sr.hp.ent.free h3,h4⟩
theorem wU {α:Type}{f:S->M α}{Q:α->Prop}{T:Exc->Prop}(w:cD (toS x >>= f) Q T):∃d,toS x=.ok d/\cD (f d) Q T:=by
 cases q:toS x with
 | bad=>rw [q] at w;exact w.elim
 | ok xs=>rw [q] at w;exact ⟨xs,rfl,w⟩
 | exc z=>unfold toS at q;split at q <;> cases q
def bg (i:Nat) (g:G R):G O:=λenv=>g env >>= λr=>toS r >>= λx=>.ok (.nx (env.set i (some x)))
abbrev GT:=D->Ev->M Ev
def KO (env:Ev) (σ:L2.St) (e:Ev) (σ':L2.St):Prop:=∀(j:Nat) (xs:Mn),e[j]?=some (some (mS xs))->env[j]?=some (some (mS xs))/\σ'[j]?=σ[j]?
theorem KO.refl:KO env σ env σ:=λ_ _ h=>⟨h,rfl⟩
theorem KO.trans (a:KO env σ e1 s1) (b:KO e1 s1 e2 s2):KO env σ e2 s2:=λj xs h=>by
 obtain ⟨h1,h2⟩:=b j xs h
 obtain ⟨h3,h4⟩:=a j xs h1
 exact ⟨h3,h2.trans h4⟩
def tT (c:C) (g:GT):TG:=λv σ H Q=>∃J env d,SR c J H σ env/\Rep c.K J d v/\cD (g d env) (λe=>∀σ',SR c J H σ' e->KO env σ e σ'->Q σ' H) c.T
def Ez (X:Cx) (c:C) (tg:Vv) (g:GT):Prop:=PG X tg (tT c g)
abbrev uG:=List D->Ev->M Ev
def Rb (c:C) (g:uG):xj:=λvs σ H Q=>∃J env ds,SR c J H σ env/\aL c.K J ds vs/\cD (g ds env) (λe=>∀σ',SR c J H σ' e->KO env σ e σ'->Q σ' H) c.T
def Qd (X:Cx) (c:C) (tgs:List Vv) (g:uG):Prop:=zH X tgs (Rb c g)
theorem JH {t t':TG}(h:PG X e t) (k:∀v σ H Q,t' v σ H Q->t v σ H Q):PG X e t':=λUB s σ H v u Q I r q=>h UB s σ H v u Q I r (k v σ H Q q)
theorem F8 {X:Cx}{e:List Vv}{t t':xj}(h:zH X e t) (k:∀v σ H Q,t' v σ H Q->t v σ H Q):zH X e t':=λUB s σ H vs us Q I r q=>h UB s σ H vs us Q I r (k vs σ H Q q)
def aC (i:Nat):GT:=λd env=>.ok (env.set i (some (.d d)))
noncomputable def dB:uG:=λds env=>match ds with
 | []=>.ok env
 | _=>.bad
noncomputable def bA (t:GT) (u:uG):uG:=λds env=>match ds with
 | d::r=>t d env >>= λe=>u r e
 | []=>.bad
noncomputable def c7 (n:Nat) (u:uG):GT:=λd env=>match d with
 | .tup ds=>if ds.length=n then u ds env else .bad
 | _=>.bad
def uf (t:GT) (g:G R):G O:=λenv=>g env >>= λr=>toD r >>= λd=>t d env >>= λe=>.ok (.nx e)
theorem K9 {t:GT}(h:PD X c e g) (ht:Ez X c tg t)
  (hq:PS X (.Assign [tg] e pos) (IL (tD c g) (tT c t))):Mc X c (.Assign [tg] e pos) (uf t g):=i7 hq λE σ H ⟨J,env,sr,w⟩=>by
 refine ⟨J,env,sr,aF (aK w) λr wr v J1 H1 e1 r1=>?_⟩
 obtain ⟨d,q,wr⟩:=jt wr
 obtain ⟨J1',e1',s1,rd⟩:=freeze e1 r1 q
 refine ⟨J1',env,d,sr.ext e1',rd,aF (aK wr) λe2 w2 σ' sr' _=>?_⟩
 exact w2 σ' J1' H1 e1'.j sr'
noncomputable def Walk (c:C) (It:It) (ds:List D) (J1:Hp) (U:Hp->Hp->Prop):Prop:=∀(i:Nat) (J H:Hp),HI c J H->U J H->
 (ds.length<=i->It.stop i H)/\∀d,ds[i]?=some d->It.go i H/\∀x H2,It.yld i H x H2->∃J2,Ext J H J2 H2/\Rep c.K J2 d x
noncomputable def tI (c:C) (g:G (List D)):TI:=λσ H Q=>∃J env,SR c J H σ env/\cD (g env) (λds=>∀It J1 H1,Ext J H J1 H1->Walk c It ds J1 (λJ' _=>aU J1 J')->Q It H1) c.T
def PU (X:Cx) (c:C) (tg UE:Vv) (g:G (List D)):Prop:=PI X tg UE (tI c g)
theorem rX {X:Cx}{tg it:Vv}{t t':TI}(h:PI X tg it t) (k:∀σ H Q,t' σ H Q->t σ H Q):PI X tg it t':=λUB s σ H Q I q=>h UB s σ H Q I (k σ H Q q)
noncomputable def fh (t:GT) (u:G O):List D->Ev->M O
 | [],env=>.ok (.nx env)
 | d::ds,env=>t d env >>= λe=>u e >>= λo=>match o with
  | .nx e=>fh t u ds e
  | .ct e=>fh t u ds e
  | .bk e=>.ok (.nx e)
  | .rt r=>.ok (.rt r)
def cg (g:G (List D)) (t:GT) (u:G O):G O:=λenv=>g env >>= λds=>fh t u ds env
noncomputable def Rj (g:G R):G (List D):=λenv=>g env >>= λr=>match r with
 | .d (.tup xs)=>.ok xs
 | _=>.bad
theorem rC {J1:Hp}{a:Vd}{vs:List V}{ds:List D}(h:cB c.K J1 a vs\/cB c.K c.H0 a vs) (hs:aL c.K J1 ds vs):Walk c (IZ c.K a) ds J1 (λJ' _=>aU J1 J'):=by
 intro i J H hp u
 have h':cB c.K H a vs:=h.elim (λh=>hp.sub.seq (u.seq h)) λh=>hp.ent.seq h
 refine ⟨λhl=>⟨vs,h',by rw [<-hs.length];exact hl⟩,λd hd=>?_⟩
 obtain ⟨v,h1,h2⟩:=hs.get hd
 refine ⟨⟨vs,v,h',h1⟩,λx H2 ⟨e,hy⟩=>?_⟩
 subst e
 have:=hy vs h'
 rw [h1] at this
 cases this
 exact ⟨J,Ext.refl hp.sub,h2.mono u⟩
def gg (lo:Int) (n:Nat):List D:=(UQ n).map λ(k:Nat)=>.int (lo + (k:Int))
theorem El {J1:Hp}{lo:Int}{n:Nat}{Ut:Hp->Hp->Prop}:Walk c (I0 lo n) (gg lo n) J1 Ut:=by
 intro i J H hp u
 refine ⟨λhl=>(show n<=i by simpa [gg] using hl),λd hd=>?_⟩
 have hi:i < n:=by
  have:=(Vo.mp hd).1
  simpa [gg] using this
 have hd':d=.int (lo + i):=by
  unfold gg at hd
  rw [Vh,XZ hi] at hd
  exact (V2 hd).symm
 subst hd'
 exact ⟨hi,λx H2 ⟨e,hx⟩=>by subst e hx;exact ⟨J,Ext.refl hp.sub,.int _⟩⟩
noncomputable def bR (gs:G (List R)):G (List D):=λenv=>gs env >>= λrs=>match rs with
 | [.d (.int j)]=>if below 4611686018427387904 j then .ok (gg 0 j.toNat) else .bad
 | _=>.bad
noncomputable def Q9 (c:C) (g:G (List D)):TI:=λσ H Q=>∃J env,SR c J H σ env/\cD (g env) (λds=>∀It J1 H1,Ext J H J1 H1->Walk c It ds J1 (λJ' H'=>aU J1 J'/\aU H1 H')->Q It H1) c.T
def PR (X:Cx) (c:C) (tg UE:Vv) (g:G (List D)):Prop:=PI X tg UE (Q9 c g)
end
section
variable {X:Cx}{c:C}{e a b tg:Vv}{es:List Vv}{ga gb g:G R}{pos:Pos}
theorem SR.updM {J H:Hp}{σ:L2.St}{env:Ev}(sr:SR c J H σ env){i:Nat}{x y:Mn}{p:Vd}{o:HO}(hi:env[i]?=some (some (mS x))) (hs:σ[i]?=some (some (.ref p))) (hJ:J p=none) (h0:c.H0 p=none)
  (h:tZ c J (L2.upd H p o) (mS y) (.ref p)):SR c J (L2.upd H p o) σ (env.set i (some (mS y))):=by
 refine ⟨⟨λb o q=>?_,λb o q=>?_,sr.hp.entJ,sr.hp.frz⟩,by simpa using sr.len,λj y q=>?_,λj k ys zs w hjk q1 q2 q3 q4=>?_⟩
 ·have:b≠p:=λz=>by rw [z,hJ] at q;cases q
  rw [bD this];exact sr.hp.sub b o q
 ·have:b≠p:=λz=>by rw [z,h0] at q;cases q
  rw [bD this];exact sr.hp.ent b o q
 ·rcases gM q with ⟨rfl,hl,rfl⟩ | ⟨hj,q⟩
  ·exact ⟨.ref p,hs,h⟩
  ·obtain ⟨w,k1,k2⟩:=sr.at_ j y q
   refine ⟨w,k1,?_⟩
   have hne:∀(z:Mn) p',y=mS z->w=.ref p'->p'≠p:=λz p' e ew ep=>sr.sep i j x z (.ref p) (WT hj) hi (e▸q) hs (ep▸ew▸k1)
   cases y with
   | d x=>exact k2
   | bor zs=>exact k2
   | db _ _=>exact k2
   | fn _=>exact k2
   | dk ks zs=>
    obtain ⟨p',rfl,⟨us,ws,ep,m1,mr⟩,m2⟩:=k2
    exact ⟨p',rfl,⟨us,ws,ep,by rw [bD (hne (.inr (ks,zs)) p' rfl rfl)];exact m1,mr⟩,m2⟩
   | own zs=>
    obtain ⟨p',us,rfl,m1,m2,m3,m4⟩:=k2
    exact ⟨p',us,rfl,by rw [bD (hne (.inl zs) p' rfl rfl)];exact m1,m2,m3,m4⟩
 ·have f:∀(k:Nat) (ys:Mn),(env.set i (some (mS y)))[k]?=some (some (mS ys))->∃ys',env[k]?=some (some (mS ys')):=λk ys q=>by
   rcases gM q with ⟨rfl,_,_⟩ | ⟨_,q⟩
   ·exact ⟨x,hi⟩
   ·exact ⟨ys,q⟩
  obtain ⟨ys',r1⟩:=f j ys q1
  obtain ⟨zs',r2⟩:=f k zs q2
  exact sr.sep j k ys' zs' w hjk r1 r2 q3 q4
theorem SR.upd {J H:Hp}{env:Ev}(sr:SR c J H σ env) (hi:env[i]?=some (some (.own xs))) (hs:σ[i]?=some (some (.ref p))) (hH:H p=some (.lst vs)) (hJ:J p=none) (h0:c.H0 p=none)
 (h:aL c.K J xs' vs'):SR c J (L2.upd H p (.lst vs')) σ (env.set i (some (.own xs'))):=sr.updM (x:=.inl xs) (y:=.inl xs') hi hs hJ h0 ⟨p,vs',rfl,b9,hJ,h0,h⟩
noncomputable def f9 (i:Nat) (g:G R):G O:=λenv=>match env[i]? with
 | some (some (.own xs))=>g env >>= λr=>toD r >>= λd=>if xs.length < sizeLine then .ok (.nx (env.set i (some (.own (xs++[d]))))) else .bad
 | _=>.bad
noncomputable def gm:R->S
 | .d x=>.d x
 | .l _ xs=>.bor xs
 | .mo ks vs=>.db ks vs
 | .mb ks vs=>.db ks vs
 | .mf ks vs=>.db ks vs
noncomputable def jP (K:UM) (J H:Hp):List S->List V->Prop
 | [],vs=>vs=[]
 | s::ss,vs=>∃v us,vs=v::us/\(match s with
  | .d x=>Rep K J x v
  | .bor xs=>∃a ws,v=.ref a/\cB K H a ws/\aL K J xs ws
  | .db ks ws=>∃a,v=.ref a/\d7 K J H a ks ws
  | .fn x=>∃f,v=.ref f/\Vw K Vi x=some (some (.ref f))
  | _=>False)/\jP K J H ss us
theorem jP.length {K:UM}{J H:Hp}:∀{ss:List S}{vs:List V},jP K J H ss vs->vs.length=ss.length
 | [],_,h=>by cases h;rfl
 | _::_,_,⟨_,_,h,_,h2⟩=>by subst h;exact congrArg (· + 1) h2.length
theorem jP.get {K:UM}{J H:Hp}:∀{ss:List S}{vs:List V}{i:Nat}{s:S},jP K J H ss vs->ss[i]?=some s->∃v,vs[i]?=some v/\(match s with
  | .d x=>Rep K J x v
  | .bor xs=>∃a ws,v=.ref a/\cB K H a ws/\aL K J xs ws
  | .db ks ws=>∃a,v=.ref a/\d7 K J H a ks ws
  | .fn x=>∃f,v=.ref f/\Vw K Vi x=some (some (.ref f))
  | _=>False)
 | [],_,_,_,_,e=>by simp at e
 | _::_,_,0,_,⟨v,us,h,h1,h2⟩,e=>by simp at e;subst e;subst h;exact ⟨v,rfl,h1⟩
 | _::_,_,i + 1,s,⟨v,us,h,h1,h2⟩,e=>by
  subst h
  obtain ⟨v,k1,k2⟩:=jP.get (i:=i) (s:=s) h2 (by simpa using e)
  exact ⟨v,by simpa using k1,k2⟩
noncomputable def FR (K:UM) (H J' H':Hp):R->V->Prop
 | .d x,v=>Rep K J' x v
 | .l _ xs,v=>∃a vs,v=.ref a/\H' a=some (.lst vs)/\J' a=none/\H a=none/\aL K J' xs vs
 | .mf ks vs,v=>∃a,v=.ref a/\d7 K J' H' a ks vs/\J' a=none/\H a=none
 | _,_=>False
noncomputable def qZ (K:UM) (n:Nat) (F:List S->M R):Sp:=λvs H Q _=>∃J as,aU J H/\as.length=n/\jP K J H as vs/\cD (F as) (λr=>∀v J' H',Ext J H J' H'->FR K H J' H' r v->Q v H') (λ_=>False)
noncomputable def fin:M O->M R
 | .ok (.rt r)=>.ok r
 | .ok (.nx _)=>.ok (.d .non)
 | .exc x=>.exc x
 | _=>.bad
def aV (N:List Str) (as:List S):Ev:=as.map some++Wm (N.length - as.length) none
theorem yr {N:List Str}{as:List S}{i:Nat}{x:S}(h:(aV N as)[i]?=some (some x)):as[i]?=some x:=by
 unfold aV at h
 by_cases hi:i < as.length
 ·rw [WR (by simpa using hi),Vh] at h
  cases q:as[i]? with
  | none=>rw [q] at h;cases h
  | some y=>rw [q] at h;cases h;rfl
 ·rw [Wf (by simpa using hi),YR] at h
  split at h <;> cases h
theorem IK {N:List Str}{vs:List V}{i:Nat}{v:V}(h:vs[i]?=some v):(L2.start N vs)[i]?=some (some v):=by
 unfold L2.start
 have hi:i < vs.length:=(Vo.mp h).1
 rw [WR (by simpa using hi),Vh,h]
 rfl
theorem A6 {K:UM}{J H:Hp}{T:Exc->Prop}{N:List Str}{as:List S}{vs:List V}(hs:aU J H) (h:jP K J H as vs):SR ⟨K,H,J,T⟩ J H (L2.start N vs) (aV N as):=by
 have own:∀(i:Nat) (xs:Mn),(aV N as)[i]?≠some (some (mS xs)):=λi xs q=>by
  obtain ⟨v,_,k⟩:=h.get (yr q)
  cases xs <;> exact k
 refine ⟨⟨hs,aU.refl H,aU.refl J,λ_ _ q=>q⟩,?_,λi x q=>?_,λi j xs ys v _ q=>absurd q (own i xs)⟩
 ·unfold aV L2.start
  rw [Vc,Vc,UR,UR,WW,WW,h.length]
 ·obtain ⟨v,k1,k2⟩:=h.get (yr q)
  refine ⟨v,IK k1,?_⟩
  cases x with
  | d y=>exact k2
  | own y=>exact k2.elim
  | bor y=>exact k2
  | dk _ _=>exact k2.elim
  | db _ _=>exact k2
  | fn _=>exact k2
abbrev E7 (P:U6) (w:Vs) (K:UM) (mg:Str->Option UN) (base:V1) (N:List Str) (UG:Str) (sc:Yc) (f:Vd) (cd:UN) (A:Vz) (outer:List Env) (s:UP) (H:Hp) (E:XK):Cx:=(qz pQ P w K mg base N UG sc f cd A outer s H E).nox
theorem Fd {P:U6}{w:Vs}{K:UM}{mg:Str->Option UN}{base:V1}{x UG:Str}{st:Xd}{f:Vd}{fd:Vk}{N ps:List Str}{k:Nat}{Fm:List S->M R}(F:l_ K x UG st f fd) (Sc:eY N ps (aX st)){gB:G O}
  (hb:∀(cdv:UN) (A:Vz) (outer:List Env) (s:UP) (H:Hp) (E:XK) (J:Hp) (T:Exc->Prop),c8 k (A.deeper (Z4 UG (aX st) s.heap.objs.size f cdv))->
   Jg (E7 P w K mg base N UG (aX st) f cdv A outer s H E) ⟨K,H,J,T⟩ (bS st) gB)
  (hF:∀as r,as.length=ps.length->Fm as=.ok r->fin (gB (aV N as))=.ok r):eO P w K mg base pQ (k + 1) f fd ps (qZ K ps.length Fm):=by
 refine F.ok Sc (λvs H Q E h=>?_) (λcdv A outer s H vs Q E hr h=>?_)
 ·obtain ⟨J,as,h1,h2,h3,h4⟩:=h
  rw [h3.length,h2]
 ·obtain ⟨J,as,h1,h2,h3,h4⟩:=h
  refine ⟨_,hb cdv A outer s H E J (λ_=>False) hr,J,aV N as,A6 h1 h3,?_⟩
  cases q:Fm as with
  | bad=>rw [q] at h4;exact h4.elim
  | exc x=>rw [q] at h4;exact h4.elim
  | ok r=>
   rw [q] at h4
   have z:=hF as r h2 q
   have ext:∀{J' H':Hp},HI ⟨K,H,J,λ_=>False⟩ J' H'->Ext J H J' H':=λhp=>⟨hp.ent,hp.entJ,hp.sub,hp.frz⟩
   cases qg:gB (aV N as) with
   | bad=>rw [qg] at z;cases z
   | exc x=>rw [qg] at z;cases z
   | ok o=>
    rw [qg] at z
    cases o with
    | bk _=>cases z
    | ct _=>cases z
    | nx env=>cases z;exact λσ' J' H' _ sr=>h4 .non J' H' (ext sr.hp) .non
    | rt r'=>
     cases z
     exact λv J' H' _ hp rf=>h4 v J' H' (ext hp) (by
      cases r with
      | d x=>exact rf
      | l m xs=>exact rf
      | mo _ _=>exact rf
      | mf _ _=>exact rf
      | mb _ _=>exact rf)
noncomputable def mK:R->R
 | .d x=>.d x
 | .l _ xs=>.l .fresh xs
 | .mo ks vs=>.mo ks vs
 | .mb ks vs=>.mb ks vs
 | .mf ks vs=>.mf ks vs
noncomputable def aN (n:Nat) (F:List S->M R):List R->M R:=λrs=>if rs.length=n then (match F (rs.map gm) with
 | .ok r=>.ok (mK r)
 | _=>.bad) else .bad
theorem kI.args {He J H:Hp}(hp:HI c J H):∀{rs:List R}{vs:List V},kI c He J H rs vs->jP c.K J H (rs.map gm) vs
 | [],_,h=>h
 | r::rs,_,⟨v,us,h,h1,h2⟩=>by
  refine ⟨v,us,h,?_,kI.args hp h2⟩
  cases r with
  | d x=>exact h1
  | l m xs=>exact RR.list hp h1 rfl
  | mo _ _=>obtain ⟨a,h1,h2,_⟩:=h1;exact ⟨a,h1,h2⟩
  | mb _ _=>obtain ⟨a,h1,h2⟩:=h1;exact ⟨a,h1,h2.mono (aU.refl _) hp.ent⟩
  | mf _ _=>obtain ⟨a,h1,h2,_⟩:=h1;exact ⟨a,h1,h2⟩
theorem JO {F:List S->M R}{J H J1 H1:Hp}{Q:VK}{as:List S}{T:Exc->Prop}(hT:c.K=X.K) (e1:Ext J H J1 H1) (ar:jP c.K J1 H1 as vs) (hl:as.length=n)
 (wr:cD (match F as with
 | .ok r=>.ok (mK r)
 | _=>.bad) (λr=>∀v J' H',Ext J H J' H'->RR c H J' H' r v->Q v H') T):qZ X.K n F (vs++[]) H1 Q E0:=by
 rw [hT] at ar
 refine ⟨J1,as,e1.sub,hl,by rw [WV];exact ar,?_⟩
 cases q:F as with
 | bad=>rw [q] at wr;exact wr
 | exc x=>rw [q] at wr;exact wr
 | ok r=>
  rw [q] at wr
  intro v J' H' e2 fr
  refine wr v J' H' (e1.trans e2) ?_
  cases r with
  | d y=>exact (show Rep c.K J' y v from hT▸fr)
  | mo _ _=>exact fr.elim
  | mb _ _=>exact fr.elim
  | mf _ _=>obtain ⟨a,h1,h2,h3,h4⟩:=fr;exact ⟨a,h1,hT▸h2,h3,e1.h.free h4⟩
  | l m ys=>
   obtain ⟨a,us,h1,h2,h3,h4,h5⟩:=fr
   exact ⟨a,us,h1,h2,h3,e1.h.free h4,hT▸h5⟩
theorem zR {n:Nat}{F:List S->M R}{gs:G (List R)}(hT:c.K=X.K):∀σ H Q,tD c (gN (aN n F) gs) σ H Q->JR (qZ X.K n F) [] E0 (tA c gs) σ H Q:=λσ H Q ⟨J,env,sr,w⟩=>by
 refine ⟨J,env,sr,aF (aK w) λrs wr vs J1 H1 e1 r1=>?_⟩
 unfold aN at wr
 split at wr
 ·rename_i hl
  exact JO hT e1 (r1.args (sr.hp.ext e1)) (by simpa using hl) wr
 ·exact wr.elim
theorem Lb {F:List S->M R}{gs:G (List R)}(G:eO X.prog X.w X.K X.mg X.base pQ k f fd ps (qZ X.K n F)) (hr:c8 k X.A) (hm:X.mg x=some (.ref f)) (hk:VZ X.K (.ref f)=true)
 (hb:Binds X.K fd ps []) (ha:BK X c (e::es) gs) (hT:c.K=X.K:=by rfl) (hg:Gl X x:=by rfl) (hdb:(x == ("__debug__":Str))=false:=by decide) (he:UZ (e::es) X.env=(false,eval e X.env)::UZ es X.env:=by rfl)
 (hpl:(Wu pos (UZ es X.env)).any (·.1)=false:=by rfl):PD X c (.Call (.Name x p) (e::es) [] pos) (gN (aN n F) gs):=
 fj (rW (E:=E0) G hr hg hm hk hb .nil D3 ha hdb he hpl) (zR hT)
end
noncomputable def dW (cells:List (Str×Vd)):List (Str×W9)->List (Str×Vd)->Option (List (Str×Vd))
 | [],cs=>some cs
 | (n,k)::r,cs=>if k == .free then (match cells.lookup n with
  | some a=>dW cells r ((n,a)::cs)
  | none=>none) else dW cells r cs
theorem nv {env:Env}:∀(names:List (Str×W9)) (cs cl:List (Str×Vd)),dW env.cells names cs=some cl->
  (forIn names cs λ(x:Str×W9) (r:List (Str×Vd))=>(if (x.2 == .free)=true then do let a <-cellOf env x.1;pure (Xg ((x.1,a)::r)) else pure (Xg r):Sem (ForInStep (List (Str×Vd)))))=(pure cl:Sem (List (Str×Vd)))
 | [],cs,cl,h=>by cases h;rfl
 | (n,k)::r,cs,cl,h=>by
  unfold dW at h
  rw [List.forIn_cons]
  cases hk:(k == V_) with
  | true=>
   rw [hk,if_pos rfl] at h
   cases hc:env.cells.lookup n with
   | none=>rw [hc] at h;cases h
   | some a=>
    rw [hc] at h
    have e:cellOf env n=pure a:=by unfold cellOf;rw [hc]
    simp only [hk,if_true,e]
    exact nv r ((n,a)::cs) cl h
  | false=>
   rw [hk,if_neg (by decide)] at h
   simp only [hk]
   exact nv r cs cl h
theorem yM {UA:Yc}{env:Env}{cl:List (Str×Vd)}(h:dW env.cells UA.names []=some cl):closureFor UA env=pure cl:=by
 have q:=nv (env:=env) UA.names [] cl h
 unfold closureFor
 show ((forIn UA.names [] λ(x:Str×W9) (r:List (Str×Vd))=>(if (x.2 == .free)=true then do let a <-cellOf env x.1;pure (Xg ((x.1,a)::r)) else pure (Xg r):Sem (ForInStep (List (Str×Vd))))) >>= λz=>pure z)=pure cl
 rw [q]
 rfl
theorem ia {cells:List (Str×Vd)}:∀(names:List (Str×W9)) (cs cl:List (Str×Vd)),dW cells names cs=some cl->(∀x c,cs.lookup x=some c->cells.lookup x=some c)->
  (∀x c,cl.lookup x=some c->cells.lookup x=some c)/\(∀x,((cs.lookup x).isSome=true\/(x,V_)∈names)->(cl.lookup x).isSome=true)
 | [],cs,cl,h,k=>by
  cases h
  exact ⟨k,λx hx=>hx.elim id λz=>by cases z⟩
 | (n,kd)::r,cs,cl,h,k=>by
  unfold dW at h
  cases hk:(kd == V_) with
  | true=>
   rw [hk,if_pos rfl] at h
   cases hc:cells.lookup n with
   | none=>rw [hc] at h;cases h
   | some a=>
    rw [hc] at h
    obtain ⟨h1,h2⟩:=ia r ((n,a)::cs) cl h (λx c q=>by
     rw [Ws] at q
     cases e:x == n with
     | true=>
      rw [e] at q
      cases q
      have:x=n:=by simpa using e
      rw [this];exact hc
     | false=>rw [e] at q;exact k x c q)
    refine ⟨h1,λx hx=>h2 x ?_⟩
    by_cases e:x=n
    ·left;subst e;rw [Ws];simp
    ·have e':(x == n)=false:=by simpa using e
     rcases hx with hx | hx
     ·left;rw [Ws,e'];exact hx
     ·right
      rcases U8.mp hx with z | z
      ·cases z;exact absurd rfl e
      ·exact z
  | false=>
   rw [hk,if_neg (by decide)] at h
   obtain ⟨h1,h2⟩:=ia r cs cl h k
   refine ⟨h1,λx hx=>h2 x ?_⟩
   rcases hx with hx | hx
   ·exact .inl hx
   ·rcases U8.mp hx with z | z
    ·cases z;simp at hk
    ·exact .inr z
section
variable {X:Cx}
def cN (X:Cx) (own:List Str) (cap:List Nat):List Str:=own++cap.map λ(j:Nat)=>(X.N[j]?).getD ("":Str)
noncomputable def MB (X:Cx) (own:List Str) (cap:List Nat) (UA:Yc) (cl:List (Str×Vd)) (C:Vd) (s:UP) (H:Hp) (fp:List Vd):Cx where
 prog:=X.prog
 w:=X.w
 K:=X.K
 mg:=X.mg
 base:=X.base
 A:=X.A
 N:=cN X own cap
 s₀:=s
 H₀:=H
 env:=compEnvC UA cl C X.env
 outer:=X.stack
 stack:=X.stack
 ex:=fp
 fn:=λ_=>false
 calm:=X.calm
 pn:=[]
 xe:=λ_ _=>False
noncomputable def rJ (X:Cx) (cap:List Nat):Bool:=cap.all λj=>match X.N[j]? with
 | some x=>(match X.env.scope.names.lookup x with
  | some .cell=>true
  | some .free=>true
  | _=>false)
 | none=>false
theorem AU {UA:Yc}(hc:∀y∈UA.names,y.2≠.cell):∀{x:Str},((relabel UA env).names.lookup x=some .cell\/(relabel UA env).names.lookup x=some .free)->(x,V_)∈UA.names:=by
 unfold relabel
 have main:∀(names:List (Str×W9)),(∀y∈names,y.2≠.cell)->∀x,((names.map λ(n,k)=>if (k == V_ && env.scope.kind == .function && env.kindOf n == some .cell) then (n,YW) else (n,k)).lookup x=some .cell\/
   (names.map λ(n,k)=>if (k == V_ && env.scope.kind == .function && env.kindOf n == some .cell) then (n,YW) else (n,k)).lookup x=some .free)->(x,V_)∈names:=by
  intro names
  induction names with
  | nil=>intro _ x h;simp at h
  | cons p r ih=>
   obtain ⟨n,k⟩:=p
   intro hc x h
   rw [U_] at h
   simp only at h
   by_cases hx:x=n
   ·subst hx
    have hk:k≠.cell:=hc (x,k) UW
    have:k=.free:=by
     by_cases q:(k == V_ && env.scope.kind == .function && env.kindOf x == some .cell)=true
     ·rw [UT,UT] at q
      simpa using q.1.1
     ·rw [if_neg q,Ws] at h
      simp at h
      rcases h with h | h
      ·exact absurd h hk
      ·exact h
    subst this
    exact UW
   ·have hx':(x == n)=false:=by simpa using hx
    refine UU _ (ih (λy hy=>hc y (UU _ hy)) x ?_)
    have red:∀(q:Str×W9) (l:List (Str×W9)),q.1=n->aeN x (q::l)=aeN x l:=λq l hq=>by
     obtain ⟨q1,q2⟩:=q
     simp only at hq
     subst hq
     rw [Ws,hx']
    have hq:(if (k == V_ && env.scope.kind == .function && env.kindOf n == some .cell) then (n,YW) else (n,k)).1=n:=by split <;> rfl
    rw [red _ _ hq] at h
    exact h
 intro x h
 exact main UA.names hc x h
end
section
variable {X:Cx}{c:C}
noncomputable def Dc (X:Cx) (c:C) (ifs:List Vv) (g:G Bool):Prop:=
 ∀(UB:List (Vd×Obj)) (s:UP) (σ:L2.St) (H:Hp) (Q:Bool->Hp->Prop),Inv X UB σ H s->tB c g σ H Q->
  U9 (Vg X.prog X.w) X.A (forIn ifs true λc r=>if r=true then do let ok <-abw c X.env (eval c X.env);pure (Xg ok) else pure (Xg r)) (TP X UB σ Q) X.xe s
def cM:G Bool:=λ_=>.ok true
noncomputable def fW (gt:GT) (gts:G Bool) (ge:G R):List D->Ev->M (List D)
 | [],_=>.ok []
 | d::ds,env=>gt d env >>= λe=>gts e >>= λk=>if k=true then ge e >>= λr=>toD r >>= λy=>fW gt gts ge ds e >>= λys=>.ok (y::ys) else fW gt gts ge ds e
def cE (n:Nat) (cap:List Nat) (env:Ev):Ev:=Wm n none++cap.map λ(j:Nat)=>(env[j]?).getD none
noncomputable def bV (n:Nat) (cap:List Nat) (gi:G (List D)) (gt:GT) (gts:G Bool) (ge:G R):G R:=λenv=>gi env >>= λds=>if ds.length<=sizeLine then fW gt gts ge ds (cE n cap env) >>= λys=>.ok (.l .fresh ys) else .bad
theorem kN {α:Type}{n:Nat}{cap:List Nat}{env:List (Option α)}{i:Nat}{x:α}(h:(Wm n none++cap.map λ(j:Nat)=>(env[j]?).getD none)[i]?=some (some x)):∃j,n<=i/\cap[i - n]?=some j/\env[j]?=some (some x):=by
 by_cases hi:i < n
 ·rw [WR (by simpa using hi),YR] at h
  split at h <;> cases h
 ·rw [Wf (by simpa using hi),WW,Vh] at h
  cases q:cap[i - n]? with
  | none=>rw [q] at h;cases h
  | some j=>
   rw [q] at h
   refine ⟨j,by omega,rfl,?_⟩
   have h':(env[j]?).getD none=some x:=V2 h
   cases z:env[j]? with
   | none=>rw [z] at h';cases h'
   | some o=>rw [z] at h';exact congrArg some h'
theorem OI {α:Type}{n:Nat}{cap:List Nat}{env:List (Option α)}{i j:Nat}{x:α}(h1:n<=i) (h2:cap[i - n]?=some j) (h3:env[j]?=some (some x)):(Wm n none++cap.map λ(j:Nat)=>(env[j]?).getD none)[i]?=some (some x):=by
 rw [Wf (by simpa using h1),WW,Vh,h2]
 simp [h3]
theorem SR.cap {J H:Hp}{σ:L2.St}{env:Ev}(sr:SR c J H σ env) (n:Nat) (cap:List Nat) (hnd:cap.Nodup):SR c J H (Wm n none++cap.map λ(j:Nat)=>(σ[j]?).getD none) (cE n cap env):=by
 refine ⟨sr.hp,by simp [cE],λi x q=>?_,λi j xs ys v hij q1 q2 q3 q4=>?_⟩
 ·obtain ⟨j,h1,h2,h3⟩:=kN q
  obtain ⟨v,k1,k2⟩:=sr.at_ j x h3
  exact ⟨v,OI h1 h2 k1,k2⟩
 ·obtain ⟨a,h1,h2,h3⟩:=kN q1
  obtain ⟨b,h4,h5,h6⟩:=kN q2
  obtain ⟨a',h7,h8,h9⟩:=kN q3
  obtain ⟨b',Us,h11,h12⟩:=kN q4
  rw [h2] at h8;cases h8
  rw [h5] at h11;cases h11
  have hab:a≠b:=λz=>by
   subst z
   have e1:=(Vo.mp h2)
   have e2:=(Vo.mp h5)
   have:=(aaG hnd).mp (e1.2.trans e2.2.symm)
   omega
  exact sr.sep a b xs ys v hab h3 h6 h9 h12
theorem SR.other {J H:Hp}(sr:SR c J H σ env) (hJ:J p=none) (h0:c.H0 p=none) (hn:∀(j:Nat) (xs:Mn),env[j]?=some (some (mS xs))->σ[j]?≠some (some (.ref p))):SR c J (L2.upd H p o) σ env:=by
 refine ⟨⟨λb u q=>?_,λb u q=>?_,sr.hp.entJ,sr.hp.frz⟩,sr.len,λj y q=>?_,sr.sep⟩
 ·have:b≠p:=λz=>by rw [z,hJ] at q;cases q
  rw [bD this];exact sr.hp.sub b u q
 ·have:b≠p:=λz=>by rw [z,h0] at q;cases q
  rw [bD this];exact sr.hp.ent b u q
 ·obtain ⟨w,k1,k2⟩:=sr.at_ j y q
  refine ⟨w,k1,?_⟩
  cases y with
  | d x=>exact k2
  | bor zs=>exact k2
  | db _ _=>exact k2
  | fn _=>exact k2
  | dk ks zs=>
   obtain ⟨p',rfl,⟨us,ws,ep,m1,mr⟩,m2⟩:=k2
   have hne:p'≠p:=λz=>hn j (.inr (ks,zs)) q (z▸k1)
   exact ⟨p',rfl,⟨us,ws,ep,by rw [bD hne];exact m1,mr⟩,m2⟩
  | own zs=>
   obtain ⟨p',us,rfl,m1,m2,m3,m4⟩:=k2
   have hne:p'≠p:=λz=>hn j (.inl zs) q (z▸k1)
   exact ⟨p',us,rfl,by rw [bD hne];exact m1,m2,m3,m4⟩
theorem Ext.other {J H J' H':Hp}(e:Ext J H J' H') (h:H p=none) (hJ:J' p=none):Ext J H J' (L2.upd H' p o):=
 ⟨λb u q=>by rw [bD (eU q h)];exact e.h b u q,e.j,λb u q=>by
  have:b≠p:=λz=>by rw [z,hJ] at q;cases q
  rw [bD this];exact e.sub b u q,e.frz⟩
theorem Bx {H:Hp}(x:gn P w H h) (hn:H a=none) (sb:VL a h h'):gn P w H h':=λb u e=>by
 refine (x b u e).stay (λd v hd q=>(sb.2 d ?_).trans q) (λ_ q=>q) λ_ _ q=>q
 rintro rfl
 rcases hd with rfl | hd
 ·rw [hn] at e;cases e
 ·rw [hn] at hd;cases hd
theorem QT {UB:List (Vd×Obj)}{σ:L2.St}{H:Hp}{s:UP}{own:List Str}{cap:List Nat}{UA:Yc}{cl:List (Str×Vd)}{fp:List Vd}{h1:V1}{m:Str->Option UN}{tk:Nat}(I:Inv X UB σ H s) (ok:(MB X own cap UA cl s.heap.objs.size s H fp).Ok)
  (hcl:dW X.env.cells UA.names []=some cl) (hcell:∀y∈UA.names,y.2≠.cell) (hcap:rJ X cap=true) (R4:∀j∈cap,∀x,X.N[j]?=some x->(relabel UA X.env).names.lookup x≠some .local)
  (hns:h1.Ns s.heap.objs.size m) (old:∀b o,s.heap.get? b=some o->h1.get? b=some o):
  Inv (MB X own cap UA cl s.heap.objs.size s H fp) [] (Wm own.length none++cap.map λ(j:Nat)=>(σ[j]?).getD none) H {s with heap:=h1,toks:=tk}:=by
 obtain ⟨m1,m2⟩:=ia UA.names [] cl hcl (λx c h=>by simp at h)
 refine ⟨ok,rfl,I.bare,Un.kept old,⟨m,hns,λi x v q1 q2 q3=>?_⟩,λx d h=>?_,I.hok.fresh (UX _),λx d h=>I.freeC x d (m1 x d h),λp hp=>absurd (show p∈([]:List (Vd×Obj)) from hp) (by simp),I.hok.kept old,?_⟩
 ·obtain ⟨j,h2,h3,h4⟩:=kN q2
  have q1':(own++cap.map λ(j:Nat)=>(X.N[j]?).getD ("":Str))[i]?=some x:=q1
  rw [Wf (by exact h2),Vh,h3] at q1'
  have hj:j∈cap:=VS h3
  have hc:(match X.N[j]? with
   | some x=>(match X.env.scope.names.lookup x with
    | some .cell=>true
    | some .free=>true
    | _=>false)
   | none=>false)=true:=by
   unfold rJ at hcap
   exact Vm.mp hcap j hj
  cases hx:X.N[j]? with
  | none=>rw [hx] at hc;cases hc
  | some y=>
   rw [ac3,hx] at q1'
   rw [hx] at hc
   have e:y=x:=by simpa using q1'
   subst e
   have kd:X.env.kindOf y=some .cell\/X.env.kindOf y=some .free:=by
    unfold ae6
    simp only at hc
    split at hc
    ·rename_i z;exact .inl z
    ·rename_i z;exact .inr z
    ·cases hc
   obtain ⟨mX,nX,lX⟩:=I.loc
   obtain ⟨u,ru,lu⟩:=lX j y v hx h4 (kd.elim (λz=>.inr (.inl z)) λz=>.inr (.inr z))
   refine ⟨u,ru,.inr ?_⟩
   have kd':(relabel UA X.env).names.lookup y=some .cell\/(relabel UA X.env).names.lookup y=some .free:=by
    rcases q3 with z | z | z
    ·exact absurd z (R4 j hj y hx)
    ·exact .inl z
    ·exact .inr z
   refine ⟨kd',?_⟩
   obtain ⟨d,hd⟩:=VV.mp (m2 y (.inr (AU hcell kd')))
   refine ⟨d,hd,?_⟩
   rcases lu with ⟨z,_⟩ | ⟨_,d',hd',z⟩
   ·rcases kd with k | k <;> (rw [k] at z;cases z)
   ·have:=m1 y d hd
    rw [hd'] at this
    cases this
    obtain ⟨o,ho,hod⟩:=z
    exact ⟨o,old _ _ ho,hod⟩
 ·obtain ⟨v,o,ho,hod⟩:=I.cell x d (m1 x d h)
  exact ⟨v,o,old _ _ ho,hod⟩
 ·show _=(own++cap.map λ(j:Nat)=>(X.N[j]?).getD ("":Str)).length
  simp
noncomputable def EZ (X:Cx) (cap:List Nat) (UA:Yc):Bool:=cap.all λj=>match X.N[j]? with
 | some x=>!((relabel UA X.env).names.lookup x == some .local)
 | none=>true
noncomputable def AH:List Nat->Bool
 | []=>true
 | x::r=>!(r.contains x) && AH r
theorem Co:∀{l:List Nat},AH l=true->l.Nodup
 | [],_=>Xw
 | x::r,h=>by
  unfold AH at h
  rw [UT] at h
  refine WD.mpr ⟨λz=>?_,Co h.2⟩
  have:=h.1
  simp [z] at this
theorem Ml {X:Cx}{H:Hp}{s:UP}(I:L2.Inv X UB σ H s) (h:s.heap.objs.size<=T):(T∈X.ex\/X.s₀.heap.objs.size<=T)/\T≠X.env.locals/\(∀x c,X.env.cells.lookup x=some c->c≠T)/\∀p∈X.pn++UB,p.1≠T:=by
 have ne:∀b,b < s.heap.objs.size->b≠T:=λb hb z=>absurd (Vf (z▸hb) h) (Wr _)
 refine ⟨.inr (Vq I.sz h),(ne _ I.lt).symm,λx c hc=>?_,λp hp=>ne _ (U7 (I.pin p hp).1)⟩
 obtain ⟨v,o,hv,_⟩:=I.cell x c hc
 exact ne _ (U7 hv)
theorem F5 {X:Cx}{H:Hp}{s:UP}{C:Vd}{o0:Obj}(I:L2.Inv X UB σ H s) (ap:(C∈X.ex\/X.s₀.heap.objs.size<=C)/\C≠X.env.locals/\(∀x c,X.env.cells.lookup x=some c->c≠C)/\∀p∈X.pn++UB,p.1≠C) (hf:H C=none) (sb:VL C s.heap h'):L2.Inv X UB σ H {s with heap:=h'}:=by
 refine I.call' (ch:=[C]) rfl ⟨λb o hb hn _ hx=>?_,λb o hb hn _ hx=>⟨o.slots,?_⟩,λ_ _ _ n _=>n,λb o hb hx=>⟨o,?_⟩,λ_ _ q=>q,λ_ _ _ q=>q,λ_ ps q=>⟨#[],by rw [q];simp⟩⟩ (λa o ha=>?_) I.bare (λb hb=>by rw [U4.mp hb];exact ap)
 ·exact (sb.2 b λz=>hx (by simp [z])).trans hb
 ·exact (sb.2 b λz=>hx (by simp [z])).trans hb
 ·exact (sb.2 b λz=>hx (by simp [z])).trans hb
 ·refine (I.hok a o ha).stay (λb u hb q=>(sb.2 b λz=>?_).trans q) (λ_ q=>q) λ_ _ q=>q
  rcases hb with rfl | hb
  ·rw [z,hf] at ha;cases ha
  ·rw [z,hf] at hb;cases hb
end
mutual
noncomputable def bu:D->D->Bool
 | .non,.non=>true
 | .bl p,.bl q=>p == q
 | .bl p,.int q=>(if p then 1 else 0) == q
 | .int p,.bl q=>p == (if q then 1 else 0)
 | .int p,.int q=>p == q
 | .str p,.str q=>p == q
 | .tup p,.tup q=>cH p q
 | .lst p,.lst q=>cH p q
 | .emp,.emp=>true
 | .exn _ _ _,.exn _ _ _=>true
 | .dct _ _,.dct _ _=>true
 | _,_=>false
noncomputable def cH:List D->List D->Bool
 | [],[]=>true
 | x::xs,y::ys=>bu x y && cH xs ys
 | _,_=>false
end
mutual
theorem ic:∀d:D,bu d d=true
 | .non=>by simp [bu]
 | .bl _=>by simp [bu]
 | .int _=>by simp [bu]
 | .str _=>by simp [bu]
 | .tup xs=>by simp only [bu];exact qA xs
 | .lst xs=>by simp only [bu];exact qA xs
 | .emp=>by simp [bu]
 | .exn _ _ _=>by simp [bu]
 | .dct _ _=>by simp [bu]
theorem qA:∀ds:List D,cH ds ds=true
 | []=>by simp [cH]
 | x::xs=>by simp only [cH,ic x,qA xs,ad6]
end
theorem oU:∀{xs ys:List D},xs.length≠ys.length->cH xs ys=false
 | [],[],h=>absurd rfl h
 | [],_::_,_=>by simp [cH]
 | _::_,[],_=>by simp [cH]
 | x::xs,y::ys,h=>by
  simp only [cH,oU (xs:=xs) (ys:=ys) (λz=>h (congrArg (· + 1) z)),Xu]
noncomputable def pD (xs ys:List D) (j:Nat):Bool:=match xs[j]?,ys[j]? with
 | some x,some y=>bu x y
 | _,_=>false
theorem oV:∀{xs ys:List D},xs.length=ys.length->(UQ xs.length).all (pD xs ys)=cH xs ys
 | [],[],_=>by simp [cH]
 | x::xs,y::ys,h=>by
  have ih:=oV (xs:=xs) (ys:=ys) (by simpa using h)
  rw [VU,Ze,X0,Z6]
  simp only [cH]
  rw [<-ih]
  rfl
theorem Ag (xs ys:List D):((UQ (min xs.length ys.length)).all (pD xs ys) && xs.length == ys.length)=cH xs ys:=by
 by_cases h:xs.length=ys.length
 ·rw [<-h,Nat.min_self,oV h];simp
 ·rw [oU h,beq_eq_false_iff_ne.mpr h,Xu]
section
structure HF (K:UM) (J:Hp) (s:UP):Prop where
 t:∀a xs,dg K J a xs->∃UC:List UN,Vals xs UC/\s.heap.IsTuple a UC.toArray
 l:∀a xs,cB K J a xs->∃UC:List UN,Vals xs UC/\s.heap.IsList a UC.toArray
 e:∀a,J a=some (.dK [])->∃o,s.heap.get? a=some o/\o.cls=.type "dict"
 d:∀a ep UJ,J a=some (lJ a ep UJ)->∃o es,s.heap.get? a=some o/\o.ExactDict/\o.data=.dict es ep/\aae zq UJ es.toList
variable {K:UM}{J:Hp}{s:UP}
theorem HF.of {X:Cx}{c:C}{H:Hp}(I:Inv X UB σ H s) (hs:aU J H):HF X.K J s:=
 ⟨λa xs h=>let ⟨UC,r,p,_⟩:=I.tuple (fk hs h);⟨UC,r,p⟩,λa xs h=>let ⟨UC,r,p,_⟩:=I.list (hs.seq h);⟨UC,r,p.isList⟩,λa h=>by
  obtain ⟨_,_,vs,_,p⟩:=(show cT X.prog X.w H s.heap a (.dK []) from I.hok a _ (hs _ _ h))
  obtain ⟨o,es,ep,h1,h2,_⟩:=p
  exact ⟨o,h1,h2.1⟩,λa ep UJ h=>(show cT X.prog X.w H s.heap a (lJ a ep UJ) from I.hok a _ (hs _ _ h)).1⟩
theorem FE {xs ys:List UN}(h:s.heap.IsTuple a xs.toArray) (h':s.heap.IsTuple a ys.toArray):xs=ys:=by
 obtain ⟨o,ho,_,n,hd⟩:=h
 obtain ⟨o',ho',_,n',hd'⟩:=h'
 rw [ho] at ho';cases ho'
 rw [hd] at hd'
 injection hd' with h1 _
 simpa using congrArg aaX h1
theorem DJ {xs ys:List UN}(h:s.heap.IsList a xs.toArray) (h':s.heap.IsList a ys.toArray):xs=ys:=by
 obtain ⟨o,ho,_,n,hd⟩:=h
 obtain ⟨o',ho',_,n',hd'⟩:=h'
 rw [ho] at ho';cases ho'
 rw [hd] at hd'
 injection hd' with h1 _
 simpa using congrArg aaX h1
mutual
theorem Rep.inj (F:HF K J s):∀{d e:D}{v:V},Rep K J d v->Rep K J e v->dep d<=1000->dep e<=1000->d=e
 | _,_,_,.emp _,_,h,_=>by unfold dep at h;omega
 | _,_,_,.exn _ _ _ _ _,_,h,_=>by unfold dep at h;omega
 | _,_,_,.dct _ _ _ _ _,_,h,_=>by unfold dep at h;omega
 | _,_,_,.non,.non,_,_=>rfl
 | _,_,_,.bl _,.bl _,_,_=>rfl
 | _,_,_,.int _,.int _,_,_=>rfl
 | _,_,_,.str _,.str _,_,_=>rfl
 | _,_,_,.tup _ _,.emp _,_,h=>by unfold dep at h;omega
 | _,_,_,.lst _ _,.emp _,_,h=>by unfold dep at h;omega
 | _,_,_,.tup _ _,.exn _ _ _ _ _,_,h=>by unfold dep at h;omega
 | _,_,_,.tup _ _,.dct _ _ _ _ _,_,h=>by unfold dep at h;omega
 | _,_,_,.lst _ _,.exn _ _ _ _ _,_,h=>by unfold dep at h;omega
 | _,_,_,.lst _ _,.dct _ _ _ _ _,_,h=>by unfold dep at h;omega
 | _,_,_,.tup h hs,.tup h' hs',k,k'=>by
  obtain ⟨UC,r,p⟩:=F.t _ _ h
  obtain ⟨its',r',p'⟩:=F.t _ _ h'
  have:=FE p p'
  subst this
  have:=r.inj r'
  subst this
  rw [aL.inj F hs hs' (by unfold dep at k;omega) (by unfold dep at k';omega)]
 | _,_,_,.lst h hs,.lst h' hs',k,k'=>by
  obtain ⟨UC,r,p⟩:=F.l _ _ h
  obtain ⟨its',r',p'⟩:=F.l _ _ h'
  have:=DJ p p'
  subst this
  have:=r.inj r'
  subst this
  rw [aL.inj F hs hs' (by unfold dep at k;omega) (by unfold dep at k';omega)]
 | _,_,_,.tup h _,.lst h' _,_,_=>by
  obtain ⟨UC,r,p⟩:=F.t _ _ h
  obtain ⟨its',r',p'⟩:=F.l _ _ h'
  exact absurd rfl (aaN p' p)
 | _,_,_,.lst h _,.tup h' _,_,_=>by
  obtain ⟨UC,r,p⟩:=F.l _ _ h
  obtain ⟨its',r',p'⟩:=F.t _ _ h'
  exact absurd rfl (aaN p p')
theorem aL.inj (F:HF K J s):∀{ds es:List D}{vs:List V},aL K J ds vs->aL K J es vs->deps ds<=1000->deps es<=1000->ds=es
 | _,_,_,.nil,.nil,_,_=>rfl
 | _,_,_,.cons h hs,.cons h' hs',k,k'=>by rw [Rep.inj F h h' (by unfold deps at k;omega) (by unfold deps at k';omega),aL.inj F hs hs' (by unfold deps at k;omega) (by unfold deps at k';omega)]
end
theorem jL {A:Vz}(h:s.heap.IsTuple a UC) (r:RelV v u) (f:u_ v=true) (hu:A.units < Wj):WZ A s (.ref a) u false/\WZ A s u (.ref a) false:=by
 cases v with
 | non=>cases r;exact ⟨.tuple_none h hu,.none_tuple h hu⟩
 | bl b=>cases r;exact ⟨.tuple_bool b h hu,.bool_tuple b h hu⟩
 | int i=>obtain ⟨t,rfl⟩:=r;exact ⟨.tuple_int i t h hu,.int_tuple i t h hu⟩
 | str x=>obtain ⟨t,rfl⟩:=r;exact ⟨.tuple_str x t h hu,.str_tuple x t h hu⟩
 | _=>exact absurd (show false=true from f) Vp
theorem kq {A:Vz}(h:s.heap.IsList a UC) (r:RelV v u) (f:u_ v=true) (hu:A.units < Wj):WZ A s (.ref a) u false/\WZ A s u (.ref a) false:=by
 cases v with
 | non=>cases r;exact ⟨.list_none h hu,.none_list h hu⟩
 | bl b=>cases r;exact ⟨.list_bool b h hu,.bool_list b h hu⟩
 | int i=>obtain ⟨t,rfl⟩:=r;exact ⟨.list_int i t h hu,.int_list i t h hu⟩
 | str x=>obtain ⟨t,rfl⟩:=r;exact ⟨.list_str x t h hu,.str_list x t h hu⟩
 | _=>exact absurd (show false=true from f) Vp
noncomputable def qJ:D->Bool
 | .tup _=>false
 | .lst _=>false
 | .emp=>false
 | .exn _ _ _=>false
 | .dct _ _=>false
 | _=>true
theorem Rep.flat (h:Rep K J d v) (f:qJ d=true):u_ v=true:=by
 cases h <;> first | rfl | cases f
theorem G_ (h:Rep K J d v) (h':Rep K J e w) (f:qJ d=true) (f':qJ e=true):MG v w=bu d e:=by
 cases h <;> cases h' <;> first | rfl | cases f | cases f' | simp [MG,bu]
theorem in1_units (A:Vz):A.in1.units=A.units + 1:=rfl
theorem u7 (F:HF K J s) (A:Vz) (hd:Rep K J d v) (he:Rep K J e w) (rv:RelV v u) (rw':RelV w u') (f:qJ d=true) (hu:A.units < Wj) (hu':dep e<=1000):WZ A s u u' (bu d e):=by
 cases q:qJ e with
 | true=>rw [<-G_ hd he f q];exact MF rv rw' (hd.flat f) (he.flat q)
 | false=>
  cases he with
  | tup h' hs'=>
   cases rw'
   obtain ⟨its',r',p'⟩:=F.t _ _ h'
   have:=(jL p' rv (hd.flat f) hu).2
   cases hd <;> first | exact this | cases f
  | lst h' hs'=>
   cases rw'
   obtain ⟨its',r',p'⟩:=F.l _ _ h'
   have:=(kq p' rv (hd.flat f) hu).2
   cases hd <;> first | exact this | cases f
  | emp _=>unfold dep at hu';omega
  | exn _ _ _ _ _=>unfold dep at hu';omega
  | dct _ _ _ _ _=>unfold dep at hu';omega
  | _=>cases q
mutual
theorem nM (F:HF K J s):∀{d e:D}{v w:V}{u u':UN}(A:Vz),Rep K J d v->Rep K J e w->RelV v u->RelV w u'->A.units + dep d < Wj->dep d<=1000->dep e<=1000->WZ A s u u' (bu d e)
 | .tup ds,e,_,w,u,u',A,.tup h hs,he,rv,rw',hu,hd1,hu'=>by
  cases rv
  obtain ⟨UC,r,p⟩:=F.t _ _ h
  have Rp:A.units < Wj:=by unfold dep at hu;omega
  cases he with
  | tup h' hs'=>
   cases rw'
   obtain ⟨its',r',p'⟩:=F.t _ _ h'
   rename_i a vs b ws es
   by_cases q:a=b
   ·subst q
    have:=Rep.inj F (.tup h hs) (.tup h' hs') hd1 hu'
    rw [<-this,ic]
    exact aa1 _
   ·have l1:UC.length=ds.length:=by rw [<-r.length,hs.length]
    have l2:its'.length=es.length:=by rw [<-r'.length,hs'.length]
    simp only [bu]
    rw [<-Ag,<-l1,<-l2]
    refine abZ q ?_
    have:=aci (e:=pD ds es) p p' Rp λj j1 j2=>by
     have k1:j < ds.length:=by rw [<-l1];simpa using j1
     have k2:j < es.length:=by rw [<-l2];simpa using j2
     have:=nN F A.in1 hs hs' r r' (by rw [in1_units];unfold dep at hu;omega) (by unfold dep at hd1;omega) (by unfold dep at hu';omega) j k1 k2
     have m1:j < UC.length:=by simpa using j1
     have m2:j < its'.length:=by simpa using j2
     simpa [m1,m2] using this
    simpa using this
  | lst h' hs'=>
   cases rw'
   obtain ⟨its',r',p'⟩:=F.l _ _ h'
   exact aeo p p' Rp
  | non=>exact (jL p rw' rfl Rp).1
  | bl _=>exact (jL p rw' rfl Rp).1
  | int _=>exact (jL p rw' rfl Rp).1
  | str _=>exact (jL p rw' rfl Rp).1
  | emp _=>unfold dep at hu';omega
  | exn _ _ _ _ _=>unfold dep at hu';omega
  | dct _ _ _ _ _=>unfold dep at hu';omega
 | .lst ds,e,_,w,u,u',A,.lst h hs,he,rv,rw',hu,hd1,hu'=>by
  cases rv
  obtain ⟨UC,r,p⟩:=F.l _ _ h
  have Rp:A.units < Wj:=by unfold dep at hu;omega
  cases he with
  | lst h' hs'=>
   cases rw'
   obtain ⟨its',r',p'⟩:=F.l _ _ h'
   rename_i a vs b ws es
   by_cases q:a=b
   ·subst q
    have:=Rep.inj F (.lst h hs) (.lst h' hs') hd1 hu'
    rw [<-this,ic]
    exact aa1 _
   ·have l1:UC.length=ds.length:=by rw [<-r.length,hs.length]
    have l2:its'.length=es.length:=by rw [<-r'.length,hs'.length]
    simp only [bu]
    refine abZ q ?_
    by_cases z:ds.length=es.length
    ·rw [<-oV z,<-l1]
     have:=acL (e:=pD ds es) p p' (by simp;omega) Rp λj j1 j2=>by
      have k1:j < ds.length:=by rw [<-l1];simpa using j1
      have k2:j < es.length:=by rw [<-l2];simpa using j2
      have:=nN F A.in1 hs hs' r r' (by rw [in1_units];unfold dep at hu;omega) (by unfold dep at hd1;omega) (by unfold dep at hu';omega) j k1 k2
      have m1:j < UC.length:=by simpa using j1
      have m2:j < its'.length:=by simpa using j2
      simpa [m1,m2] using this
     simpa using this
    ·rw [oU z]
     exact adR p p' (by simp;omega) Rp
  | tup h' hs'=>
   cases rw'
   obtain ⟨its',r',p'⟩:=F.t _ _ h'
   exact aep p p' Rp
  | non=>exact (kq p rw' rfl Rp).1
  | bl _=>exact (kq p rw' rfl Rp).1
  | int _=>exact (kq p rw' rfl Rp).1
  | str _=>exact (kq p rw' rfl Rp).1
  | emp _=>unfold dep at hu';omega
  | exn _ _ _ _ _=>unfold dep at hu';omega
  | dct _ _ _ _ _=>unfold dep at hu';omega
 | .non,e,v,w,u,u',A,hd,he,rv,rw',hu,_,hu'=>u7 F A hd he rv rw' rfl (by omega) hu'
 | .bl _,e,v,w,u,u',A,hd,he,rv,rw',hu,_,hu'=>u7 F A hd he rv rw' rfl (by omega) hu'
 | .int _,e,v,w,u,u',A,hd,he,rv,rw',hu,_,hu'=>u7 F A hd he rv rw' rfl (by omega) hu'
 | .emp,e,v,w,u,u',A,hd,he,rv,rw',hu,hd1,hu'=>by unfold dep at hd1;omega
 | .exn _ _ _,e,v,w,u,u',A,hd,he,rv,rw',hu,hd1,hu'=>by unfold dep at hd1;omega
 | .dct _ _,e,v,w,u,u',A,hd,he,rv,rw',hu,hd1,hu'=>by unfold dep at hd1;omega
 | .str _,e,v,w,u,u',A,hd,he,rv,rw',hu,_,hu'=>u7 F A hd he rv rw' rfl (by omega) hu'
theorem nN (F:HF K J s):∀{ds es:List D}{vs ws:List V}{us us':List UN}(A:Vz),aL K J ds vs->aL K J es ws->Vals vs us->Vals ws us'->A.units + deps ds < Wj->deps ds<=1000->deps es<=1000->
  ∀(j:Nat) (h1:j < ds.length) (h2:j < es.length),WZ A s (us.getD j .none) (us'.getD j .none) (pD ds es j)
 | _,_,_,_,_,_,A,.cons h hs,.cons h' hs',.cons r rs,.cons r' rs',hu,k1,k2,0,_,_=>nM F A h h' r r' (by unfold deps at hu;omega) (by unfold deps at k1;omega) (by unfold deps at k2;omega)
 | _,_,_,_,_,_,A,.cons h hs,.cons h' hs',.cons r rs,.cons r' rs',hu,k1,k2,j + 1,h1,h2=>nN F A hs hs' rs rs' (by unfold deps at hu;omega) (by unfold deps at k1;omega) (by unfold deps at k2;omega) j (by simpa using h1) (by simpa using h2)
end
end
section
variable {K:UM}{J:Hp}{s:UP}
theorem Gm (F:HF K J s) (A:Vz) (hd:Rep K J d v) (he:Rep K J e w) (rv:RelV v u) (rw':RelV w u') (hu:A.units + dep d < Wj) (hd1:dep d<=1000) (hu':dep e<=1000):SeqAt.RcAt A s u u' (bu d e)/\SeqAt.RcNeAt A s u u' (!bu d e):=by
 have Rp:A.units < Wj:=by omega
 cases hd with
 | non=>
  cases rv
  cases he with
  | non=>cases rw';exact ⟨.none_none,.none_none⟩
  | bl b=>cases rw';exact ⟨.none_bool b,.none_bool b⟩
  | int i=>obtain ⟨t,rfl⟩:=rw';exact ⟨.none_int i t,.none_int i t⟩
  | str x=>obtain ⟨t,rfl⟩:=rw';exact ⟨.none_str x t,.none_str x t⟩
  | tup h hs=>cases rw';obtain ⟨UC,r,p⟩:=F.t _ _ h;exact ⟨.none_tuple p Rp,.none_tuple p Rp⟩
  | lst h hs=>cases rw';obtain ⟨UC,r,p⟩:=F.l _ _ h;exact ⟨.none_list p Rp,.none_list p Rp⟩
  | emp _=>unfold dep at hu';omega
  | exn _ _ _ _ _=>unfold dep at hu';omega
  | dct _ _ _ _ _=>unfold dep at hu';omega
 | bl a=>
  cases rv
  cases he with
  | non=>cases rw';exact ⟨.bool_none a,.bool_none a⟩
  | bl b=>cases rw';exact ⟨.bool_bool a b,.bool_bool a b⟩
  | int i=>obtain ⟨t,rfl⟩:=rw';exact ⟨.bool_int a i t,.bool_int a i t⟩
  | str x=>obtain ⟨t,rfl⟩:=rw';exact ⟨.bool_str a x t,.bool_str a x t⟩
  | tup h hs=>cases rw';obtain ⟨UC,r,p⟩:=F.t _ _ h;exact ⟨.bool_tuple a p Rp,.bool_tuple a p Rp⟩
  | lst h hs=>cases rw';obtain ⟨UC,r,p⟩:=F.l _ _ h;exact ⟨.bool_list a p Rp,.bool_list a p Rp⟩
  | emp _=>unfold dep at hu';omega
  | exn _ _ _ _ _=>unfold dep at hu';omega
  | dct _ _ _ _ _=>unfold dep at hu';omega
 | int a=>
  obtain ⟨t0,rfl⟩:=rv
  cases he with
  | non=>cases rw';exact ⟨.int_none a t0,.int_none a t0⟩
  | bl b=>cases rw';exact ⟨.int_bool a t0 b,.int_bool a t0 b⟩
  | int i=>obtain ⟨t,rfl⟩:=rw';exact ⟨.int_int a t0 i t,.int_int a t0 i t⟩
  | str x=>obtain ⟨t,rfl⟩:=rw';exact ⟨.int_str a t0 x t,.int_str a t0 x t⟩
  | tup h hs=>cases rw';obtain ⟨UC,r,p⟩:=F.t _ _ h;exact ⟨.int_tuple a t0 p Rp,.int_tuple a t0 p Rp⟩
  | lst h hs=>cases rw';obtain ⟨UC,r,p⟩:=F.l _ _ h;exact ⟨.int_list a t0 p Rp,.int_list a t0 p Rp⟩
  | emp _=>unfold dep at hu';omega
  | exn _ _ _ _ _=>unfold dep at hu';omega
  | dct _ _ _ _ _=>unfold dep at hu';omega
 | str a=>
  obtain ⟨t0,rfl⟩:=rv
  cases he with
  | non=>cases rw';exact ⟨.str_none a t0,.str_none a t0⟩
  | bl b=>cases rw';exact ⟨.str_bool a t0 b,.str_bool a t0 b⟩
  | int i=>obtain ⟨t,rfl⟩:=rw';exact ⟨.str_int a t0 i t,.str_int a t0 i t⟩
  | str x=>obtain ⟨t,rfl⟩:=rw';exact ⟨.str_str a t0 x t,.str_str a t0 x t⟩
  | tup h hs=>cases rw';obtain ⟨UC,r,p⟩:=F.t _ _ h;exact ⟨.str_tuple a t0 p Rp,.str_tuple a t0 p Rp⟩
  | lst h hs=>cases rw';obtain ⟨UC,r,p⟩:=F.l _ _ h;exact ⟨.str_list a t0 p Rp,.str_list a t0 p Rp⟩
  | emp _=>unfold dep at hu';omega
  | exn _ _ _ _ _=>unfold dep at hu';omega
  | dct _ _ _ _ _=>unfold dep at hu';omega
 | tup h hs=>
  cases rv
  obtain ⟨UC,r,p⟩:=F.t _ _ h
  cases he with
  | non=>cases rw';exact ⟨.tuple_none p Rp,.tuple_none p Rp⟩
  | bl b=>cases rw';exact ⟨.tuple_bool b p Rp,.tuple_bool b p Rp⟩
  | int i=>obtain ⟨t,rfl⟩:=rw';exact ⟨.tuple_int i t p Rp,.tuple_int i t p Rp⟩
  | str x=>obtain ⟨t,rfl⟩:=rw';exact ⟨.tuple_str x t p Rp,.tuple_str x t p Rp⟩
  | lst h' hs'=>cases rw';obtain ⟨its',r',p'⟩:=F.l _ _ h';exact ⟨.tuple_list p p' Rp,.tuple_list p p' Rp⟩
  | emp _=>unfold dep at hu';omega
  | exn _ _ _ _ _=>unfold dep at hu';omega
  | dct _ _ _ _ _=>unfold dep at hu';omega
  | tup h' hs'=>
   cases rw'
   obtain ⟨its',r',p'⟩:=F.t _ _ h'
   rename_i a vs ds b ws es
   have l1:UC.length=ds.length:=by rw [<-r.length,hs.length]
   have l2:its'.length=es.length:=by rw [<-r'.length,hs'.length]
   have it:∀(j:Nat) (j1:j < UC.toArray.size) (j2:j < its'.toArray.size),WZ A.in1 s UC.toArray[j] its'.toArray[j] (pD ds es j):=λj j1 j2=>by
    have k1:j < ds.length:=by rw [<-l1];simpa using j1
    have k2:j < es.length:=by rw [<-l2];simpa using j2
    have:=nN F A.in1 hs hs' r r' (by rw [in1_units];unfold dep at hu;omega) (by unfold dep at hd1;omega) (by unfold dep at hu';omega) j k1 k2
    have m1:j < UC.length:=by simpa using j1
    have m2:j < its'.length:=by simpa using j2
    simpa [m1,m2] using this
   simp only [bu]
   rw [<-Ag,<-l1,<-l2]
   have q1:=aci p p' Rp it
   have q2:=aeO p p' Rp it
   exact ⟨by simpa using q1,by simpa using q2⟩
 | emp _=>unfold dep at hd1;omega
 | exn _ _ _ _ _=>unfold dep at hd1;omega
 | dct _ _ _ _ _=>unfold dep at hd1;omega
 | lst h hs=>
  cases rv
  obtain ⟨UC,r,p⟩:=F.l _ _ h
  cases he with
  | non=>cases rw';exact ⟨.list_none p Rp,.list_none p Rp⟩
  | bl b=>cases rw';exact ⟨.list_bool b p Rp,.list_bool b p Rp⟩
  | int i=>obtain ⟨t,rfl⟩:=rw';exact ⟨.list_int i t p Rp,.list_int i t p Rp⟩
  | str x=>obtain ⟨t,rfl⟩:=rw';exact ⟨.list_str x t p Rp,.list_str x t p Rp⟩
  | tup h' hs'=>cases rw';obtain ⟨its',r',p'⟩:=F.t _ _ h';exact ⟨.list_tuple p p' Rp,.list_tuple p p' Rp⟩
  | emp _=>unfold dep at hu';omega
  | exn _ _ _ _ _=>unfold dep at hu';omega
  | dct _ _ _ _ _=>unfold dep at hu';omega
  | lst h' hs'=>
   cases rw'
   obtain ⟨its',r',p'⟩:=F.l _ _ h'
   rename_i a vs ds b ws es
   have l1:UC.length=ds.length:=by rw [<-r.length,hs.length]
   have l2:its'.length=es.length:=by rw [<-r'.length,hs'.length]
   have it:∀(j:Nat) (j1:j < UC.toArray.size) (j2:j < its'.toArray.size),WZ A.in1 s UC.toArray[j] its'.toArray[j] (pD ds es j):=λj j1 j2=>by
    have k1:j < ds.length:=by rw [<-l1];simpa using j1
    have k2:j < es.length:=by rw [<-l2];simpa using j2
    have:=nN F A.in1 hs hs' r r' (by rw [in1_units];unfold dep at hu;omega) (by unfold dep at hd1;omega) (by unfold dep at hu';omega) j k1 k2
    have m1:j < UC.length:=by simpa using j1
    have m2:j < its'.length:=by simpa using j2
    simpa [m1,m2] using this
   simp only [bu]
   by_cases z:ds.length=es.length
   ·rw [<-oV z,<-l1]
    have q1:=acL p p' (by simp;omega) Rp it
    have q2:=aeZ p p' (by simp;omega) Rp it
    exact ⟨by simpa using q1,by simpa using q2⟩
   ·rw [oU z]
    exact ⟨.lists_lengths p p' (by simp;omega) Rp,.lists_lengths p p' (by simp;omega) Rp⟩
end
section
variable {X:Cx}{c:C}{e a b tg:Vv}{es:List Vv}{ga gb g:G R}{pos:Pos}
theorem RR.rep {He J H:Hp}(hp:HI c J H):∀{r:R}{v:V}{d:D},RR c He J H r v->(∀xs,r=.l .fresh xs\/r=.l .own xs\/r=.l .bor xs->d=.lst xs)->(∀x,r=.d x->d=x)->(∀ks vs,r≠.mo ks vs/\r≠.mb ks vs/\r≠.mf ks vs)->Rep c.K H d v
 | .mo _ _,_,_,_,_,_,n=>((n _ _).1 rfl).elim
 | .mb _ _,_,_,_,_,_,n=>((n _ _).2.1 rfl).elim
 | .mf _ _,_,_,_,_,_,n=>((n _ _).2.2 rfl).elim
 | .d x,v,d,h,_,k,_=>by rw [k x rfl];exact Rep.mono hp.sub h
 | .l m xs,v,d,h,k,_,_=>by
  have e:d=.lst xs:=k xs (by cases m;exact .inl rfl;exact .inr (.inl rfl);exact .inr (.inr rfl))
  obtain ⟨a,vs,rfl,h1,h2⟩:=RR.list hp h rfl
  rw [e]
  exact .lst h1 (h2.mono hp.sub)
noncomputable def R.dat:R->D
 | .d x=>x
 | .l _ xs=>.lst xs
 | .mo ks vs=>.dct ks vs
 | .mb ks vs=>.dct ks vs
 | .mf ks vs=>.dct ks vs
theorem RR.dat {He J H:Hp}(hp:HI c J H){r:R}(h:RR c He J H r v):Rep c.K H r.dat v:=by
 by_cases hm:∃ks vs,r=.mo ks vs
 ·obtain ⟨ks,vs,rfl⟩:=hm;obtain ⟨a,rfl,h,_⟩:=h;exact h.rep hp.sub
 by_cases hb:∃ks vs,r=.mb ks vs
 ·obtain ⟨ks,vs,rfl⟩:=hb;obtain ⟨a,rfl,h⟩:=h;exact (h.mono (aU.refl _) hp.ent).rep hp.sub
 by_cases hf:∃ks vs,r=.mf ks vs
 ·obtain ⟨ks,vs,rfl⟩:=hf;obtain ⟨a,rfl,h,_⟩:=h;exact h.rep hp.sub
 refine h.rep hp (λxs q=>?_) (λx q=>by rw [q];rfl) λks vs=>⟨λz=>hm ⟨_,_,z⟩,λz=>hb ⟨_,_,z⟩,λz=>hf ⟨_,_,z⟩⟩
 rcases q with q | q | q <;> (rw [q];rfl)
def Iq (K:UM) (neg:Bool):R2:=λx y H Q=>∃d e,Rep K H d x/\Rep K H e y/\dep d<=60/\dep e<=60/\Q (.bl (if neg then !bu d e else bu d e)) H
theorem fG {H:Hp}(I:Inv X UB σ H s):HF X.K H s:=HF.of (c:=⟨X.K,H,H,λ_=>True⟩) I (aU.refl H)
theorem FZ (hu:X.A.units + 64 < Wj):dD X (Wl .Eq) (Iq X.K false):=by
 intro UB s σ H x y v u Q I rx ry h
 obtain ⟨d,e,h1,h2,h3,h4,q⟩:=h
 exact (Gm (fG I) X.A h1 h2 rx ry (by omega) (by omega) (by omega)).1 X.prog X.w X.xe _ ⟨.bl _,H,I,rfl,q⟩
theorem Nt (hu:X.A.units + 64 < Wj):dD X (Wl .NotEq) (Iq X.K true):=by
 intro UB s σ H x y v u Q I rx ry h
 obtain ⟨d,e,h1,h2,h3,h4,q⟩:=h
 exact (Gm (fG I) X.A h1 h2 rx ry (by omega) (by omega) (by omega)).2 X.prog X.w X.xe _ ⟨.bl _,H,I,rfl,q⟩
def cj (neg:Bool) (x y:R):M R:=if dep x.dat<=60/\dep y.dat<=60 then .ok (.d (.bl (if neg then !bu x.dat y.dat else bu x.dat y.dat))) else .bad
theorem Dl (neg:Bool) (hK:X.K=c.K):BD c (Iq X.K neg) (cj neg):=by
 intro He He' J H x y u v Q hp rx ry w
 unfold cj at w
 split at w
 ·rename_i hd
  exact ⟨x.dat,y.dat,by rw [hK];exact rx.dat hp,by rw [hK];exact ry.dat hp,hd.1,hd.2,w _ J H (Ext.refl hp.sub) (.bl _)⟩
 ·exact w.elim
def inD (d:D) (xs:List D):Bool:=xs.any λx=>bu x d
noncomputable def Ir (K:UM) (neg:Bool):R2:=λx y H Q=>∃d p vs ds,Rep K H d x/\dep d<=60/\y=.ref p/\(cB K H p vs\/dg K H p vs)/\aL K H ds vs/\deps ds<=60/\Q (.bl (if neg then !inD d ds else inD d ds)) H
theorem x_ {K:UM}{H:Hp}{y:UN}:∀{ds:List D}{vs:List V}{us:List UN},aL K H ds vs->Vals vs us->deps ds<=60->y∈us->∃d' v',Rep K H d' v'/\RelV v' y/\dep d'<=60
 | _,_,_,.nil,.nil,_,hy=>nomatch hy
 | _,_,_,.cons r hs,.cons q rs,hd,hy=>by
  unfold deps at hd
  rcases U8.mp hy with rfl | hy
  ·exact ⟨_,_,r,q,by omega⟩
  ·exact x_ hs rs (by omega) hy
open Classical in
noncomputable def Dj (K:UM) (H:Hp) (d:D) (y:UN):Bool:=decide (∃d' v',Rep K H d' v'/\RelV v' y/\dep d'<=1000/\bu d' d=true)
theorem BV {K:UM}{H:Hp}{s:UP}(F:HF K H s){d d':D}{v':V}{y:UN}(r':Rep K H d' v') (q':RelV v' y) (hd:dep d'<=1000):Dj K H d y=bu d' d:=by
 classical
 unfold Dj
 cases z:bu d' d with
 | true=>exact decide_eq_true ⟨d',v',r',q',hd,z⟩
 | false=>
  refine decide_eq_false ?_
  rintro ⟨d2,v2,r2,q2,hd2,z2⟩
  have:v2=v':=q2.inj q'
  subst this
  rw [Rep.inj F r2 r' hd2 hd] at z2
  rw [z] at z2
  cases z2
theorem zJ {K:UM}{H:Hp}{s:UP}(F:HF K H s){d:D}:∀{ds:List D}{vs:List V}{us:List UN},aL K H ds vs->Vals vs us->deps ds<=1000->us.any (Dj K H d)=inD d ds
 | _,_,_,.nil,.nil,_=>rfl
 | _,_,_,.cons r hs,.cons q rs,hd=>by
  unfold deps at hd
  unfold inD
  rw [ZD,ZD,zJ F hs rs (by omega),BV F r q (by omega)]
  rfl
theorem uN {A:Vz}{s:UP}{K:UM}{H:Hp}(F:HF K H s){d:D}{x:V}{u:UN}(h:Rep K H d x) (rx:RelV x u) (Sa:dep d<=60) (hA:A.units + 60 < Wj){ds:List D}{vs:List V}{us:List UN}(hs:aL K H ds vs) (rs:Vals vs us) (hd:deps ds<=60):
  ∃e:UN->Bool,(∀y∈us,WZ A s y u (e y))/\us.any e=inD d ds:=by
 refine ⟨Dj K H d,λy hy=>?_,zJ F hs rs (by omega)⟩
 obtain ⟨d',v',r',q',hd'⟩:=x_ hs rs hd hy
 rw [BV F r' q' (by omega)]
 exact nM F A r' h q' rx (by omega) (by omega) (by omega)
theorem F0 (hu:X.A.units + 64 < Wj):dD X (Wl .In) (Ir X.K false):=by
 intro UB s σ H x y v u Q I rx ry h
 obtain ⟨d,p,vs,ds,h1,Sa,rfl,h2,h3,h4,q⟩:=h
 cases ry
 have F:=fG I
 rcases h2 with h2 | h2
 ·obtain ⟨UC,r,pl⟩:=F.l _ _ h2
  obtain ⟨e,he,hany⟩:=uN (A:=X.A.in1) F h1 rx Sa (by rw [in1_units];omega) h3 r h4
  exact SeqAt.in_listAt e pl (λz hz=>he z (by simpa using hz)) ⟨.bl _,H,I,rfl,by rw [show UC.toArray.any e=UC.any e by simp,hany];exact q⟩
 ·obtain ⟨UC,r,pl⟩:=F.t _ _ h2
  obtain ⟨e,he,hany⟩:=uN (A:=X.A.in1) F h1 rx Sa (by rw [in1_units];omega) h3 r h4
  exact SeqAt.in_tupleAt e pl (λz hz=>he z (by simpa using hz)) ⟨.bl _,H,I,rfl,by rw [show UC.toArray.any e=UC.any e by simp,hany];exact q⟩
theorem F3 (hu:X.A.units + 64 < Wj):dD X (Wl .NotIn) (Ir X.K true):=by
 intro UB s σ H x y v u Q I rx ry h
 obtain ⟨d,p,vs,ds,h1,Sa,rfl,h2,h3,h4,q⟩:=h
 cases ry
 have F:=fG I
 rcases h2 with h2 | h2
 ·obtain ⟨UC,r,pl⟩:=F.l _ _ h2
  obtain ⟨e,he,hany⟩:=uN (A:=X.A.in1) F h1 rx Sa (by rw [in1_units];omega) h3 r h4
  exact SeqAt.notIn_listAt e pl (λz hz=>he z (by simpa using hz)) ⟨.bl _,H,I,rfl,by rw [show UC.toArray.any e=UC.any e by simp,hany];exact q⟩
 ·obtain ⟨UC,r,pl⟩:=F.t _ _ h2
  obtain ⟨e,he,hany⟩:=uN (A:=X.A.in1) F h1 rx Sa (by rw [in1_units];omega) h3 r h4
  exact SeqAt.notIn_tupleAt e pl (λz hz=>he z (by simpa using hz)) ⟨.bl _,H,I,rfl,by rw [show UC.toArray.any e=UC.any e by simp,hany];exact q⟩
noncomputable def fB (neg:Bool) (x y:R):M R:=iK y >>= λys=>if deps ys<=60/\dep x.dat<=60 then .ok (.d (.bl (if neg then !inD x.dat ys else inD x.dat ys))) else .bad
theorem Dm (neg:Bool) (hK:X.K=c.K):BD c (Ir X.K neg) (fB neg):=by
 intro He He' J H x y u v Q hp rx ry w
 obtain ⟨ys,q,w⟩:=jr w
 obtain ⟨p,vs,rfl,h1,h2⟩:=kZ hp ry q
 split at w
 ·rename_i hd
  exact ⟨x.dat,p,vs,ys,by rw [hK];exact rx.dat hp,hd.2,rfl,by rw [hK];exact h1,by rw [hK];exact h2.mono hp.sub,hd.1,w _ J H (Ext.refl hp.sub) (.bl _)⟩
 ·exact w.elim
abbrev GO:=G (Option Int)
def tO (c:C) (g:GO):TO:=λσ H Q=>∃J env,SR c J H σ env/\cD (g env) (λo=>∀J' H',Ext J H J' H'->Q o H') c.T
def Me (X:Cx) (c:C) (e:Option Vv) (g:GO):Prop:=PO X e (tO c g)
theorem JI {X:Cx}{e:Option Vv}{t t':TO}(h:PO X e t) (k:∀σ H Q,t' σ H Q->t σ H Q):PO X e t':=λUB s σ H Q I q=>h UB s σ H Q I (k σ H Q q)
def vd:GO:=λ_=>.ok none
noncomputable def qC (g:G R):GO:=λenv=>g env >>= λr=>match r with
 | .d (.int i)=>.ok (some i)
 | _=>.bad
def cutD (xs:List D) (lo hi:Option Int):List D:=(xs.drop (HT.bN xs.length 0 lo)).take (HT.bN xs.length xs.length hi - HT.bN xs.length 0 lo)
theorem aL.cut {K:UM}{J:Hp}{xs:List D}{vs:List V}(h:aL K J xs vs) (lo hi:Option Int):aL K J (cutD xs lo hi) (ny vs lo hi):=by
 unfold cutD ny
 rw [h.length]
 exact (h.drop _).take _
def nR (f:R->Option Int->Option Int->M R) (g:G R) (lo hi:GO):G R:=λenv=>g env >>= λx=>lo env >>= λl=>hi env >>= λu=>f x l u
theorem JF {r:V->Option Int->Option Int->Hp->VK->Prop}{f:R->Option Int->Option Int->M R}{lo hi:Option Vv}{gl gh:GO}{p2:Pos}(hr:sO X r) (hf:∀(He J H:Hp) (x:R) (v:V) (l u:Option Int) (Q:VK),HI c J H->RR c He J H x v->
   cD (f x l u) (λz=>∀w J' H',Ext J H J' H'->RR c H J' H' z w->Q w H') c.T->r v l u H Q) (h:PD X c e g) (hl:Me X c lo gl) (hh:Me X c hi gh):PD X c (.Subscript e (.Slice lo hi none p2) pos) (nR f g gl gh):=
 fj (Ia hr h hl hh) λσ H Q ⟨J,env,sr,w⟩=>by
  refine ⟨J,env,sr,aF (aK w) λx wx v J1 H1 e1 r1=>?_⟩
  refine ⟨J1,env,sr.ext e1,aF (aK wx) λl wl J2 H2 e2=>?_⟩
  refine ⟨J2,env,(sr.ext e1).ext e2,aF (aK wl) λu wu J3 H3 e3=>?_⟩
  have ee:=(e1.trans e2).trans e3
  exact hf H J3 H3 x v l u Q (sr.hp.ext ee) ((r1.ext e2).ext e3) (aF wu λz q w J' H' e4 r4=>q w J' H' (ee.trans e4) (RR.from ee.h r4))
def Ql (x:R) (l u:Option Int):M R:=kK x >>= λxs=>.ok (.l .fresh (cutD xs l u))
theorem Ef {ss:List Str}:∀{us:List UN},Vals (ss.map V.str) us->StrsAre us ss:=by
 induction ss with
 | nil=>intro us h;cases h;exact .nil
 | cons x r ih=>
  intro us h
  cases h with
  | cons q rs=>
   obtain ⟨t,rfl⟩:=q
   exact .cons x t (ih rs)
theorem yw:∀{us:List UN}{ss:List Str},StrsAre us ss->Vals (ss.map V.str) us
 | _,_,.nil=>.nil
 | _,_,.cons y t h=>.cons ⟨t,rfl⟩ (yw h)
def kj (x y:Str):Bool:=decide (x.cps.toList<=y.cps.toList)
def nh (ss:List Str):List Str:=ss.mergeSort kj
theorem xO (x y z:Str) (h1:kj x y=true) (h2:kj y z=true):kj x z=true:=by
 unfold kj at *
 exact decide_eq_true (List.le_trans (of_decide_eq_true h1) (of_decide_eq_true h2))
theorem FN (x y:Str):(kj x y || kj y x)=true:=by
 unfold kj
 rw [XI]
 rcases List.le_total x.cps.toList y.cps.toList with h | h
 ·exact .inl (decide_eq_true h)
 ·exact .inr (decide_eq_true h)
theorem HA (h1:kj x y=true) (h2:kj y x=true):x=y:=by
 unfold kj at *
 have:=acM (of_decide_eq_true h1) (of_decide_eq_true h2)
 obtain ⟨⟨cx⟩⟩:=x
 obtain ⟨⟨cy⟩⟩:=y
 simp only at this
 rw [this]
theorem A5 (ss:List Str):(nh ss).Pairwise λx y=>kj x y=true:=List.pairwise_mergeSort xO FN ss
theorem pN (ss:List Str):(nh ss).Perm ss:=List.mergeSort_perm ss kj
theorem vE:∀(x:Str) (r:List Str),risingS x r=true->(x::r).Pairwise λx y=>kj x y=true
 | x,[],_=>by simp
 | x,y::r,h=>by
  unfold risingS at h
  rw [UT] at h
  have hy:=vE y r h.2
  have hxy:kj x y=true:=by
   have h1:=h.1
   rw [ltCps_eq] at h1
   unfold kj
   refine decide_eq_true ?_
   have:¬y.cps.toList < x.cps.toList:=by simpa using h1
   exact this
  refine Xp.mpr ⟨λz hz=>?_,hy⟩
  rcases U8.mp hz with rfl | hz
  ·exact hxy
  ·exact xO x y z hxy ((Xp.mp hy).1 z hz)
theorem Ed {ss ss':List Str}(hp:ss'.Perm ss) (hs:sortedS ss'=true):ss'=nh ss:=by
 have pw:ss'.Pairwise λx y=>kj x y=true:=by
  cases ss' with
  | nil=>exact XH
  | cons x r=>exact vE x r hs
 exact (hp.trans (pN ss).symm).eq_of_pairwise (λx y _ _ h1 h2=>HA h1 h2) pw (A5 ss)
theorem zV:cO X (.builtin "sorted") (λxs H Q=>∃p ss,xs=[.ref p]/\cB X.K H p (ss.map V.str)/\ss.length < 64/\∀ss',ss'.Perm ss->sortedS ss'=true->∀l,H l=none->Q (.ref l) (upd H l (.lst (ss'.map V.str)))):=by
 intro UB s σ H xs us Q I r h
 obtain ⟨p,ss,rfl,hq,hl,q⟩:=h
 obtain ⟨u,rfl,rx⟩:=vals1 r
 cases rx
 obtain ⟨UC,r',pl,hz⟩:=I.list hq
 have hlen:=r'.length
 refine sorted_strs pl.isList (Ef r') (by rw [<-hlen,UR];exact hl) λout ss' a1 a2 a3=>?_
 obtain ⟨n,hn⟩:=sortedAll_at s.heap UC out
 have kp:∀b o,s.heap.get? b=some o->(sortedAll s.heap UC out).get? b=some o:=λb o e=>sortedAll_old e
 have fr:H (s.heap.objs.size + 1)=none:=I.hok.fresh (YI _)
 have ll:(ss'.map V.str).length=(ss.map V.str).length:=by rw [UR,UR,a2.length_eq]
 refine ⟨.ref (s.heap.objs.size + 1),_,I.laid (t':=s.toks) kp (YI _) (show cT X.prog X.w _ _ _ (.lst (ss'.map V.str)) from ⟨by rw [ll];exact hz,out.toList,n,yw a1,by simpa [Yh] using hn⟩),rfl,q ss' a2 a3 _ fr⟩
noncomputable def strsOf:List D->Option (List Str)
 | []=>some []
 | .str x::r=>(strsOf r).map (x::·)
 | _::_=>none
theorem vK {K:UM}{J:Hp}:∀{ds:List D}{vs:List V}{ss:List Str},strsOf ds=some ss->aL K J ds vs->vs=ss.map V.str
 | [],_,_,h,.nil=>by cases h;rfl
 | .str x::r,_,ss,h,.cons q rs=>by
  unfold strsOf at h
  cases z:strsOf r with
  | none=>rw [z] at h;cases h
  | some ss'=>
   rw [z] at h
   cases h
   cases q
   rw [vK z rs]
   rfl
theorem yc {K:UM}{J:Hp}:∀(ss:List Str),aL K J (ss.map D.str) (ss.map V.str)
 | []=>.nil
 | x::r=>.cons (.str x) (yc r)
noncomputable def k9:List R->M R
 | [r]=>kK r >>= λxs=>match strsOf xs with
  | some ss=>if ss.length < 64 then .ok (.l .fresh ((nh ss).map .str)) else .bad
  | none=>.bad
 | _=>.bad
theorem lH:VR "sorted"=some (.builtin "sorted"):=by decide +kernel
theorem foldl_size (c:Array Nat):∀(k:Nat) (acc:Array Nat),((Wm k c).foldl (·++·) acc).size=acc.size + k * c.size
 | 0,acc=>by simp
 | k + 1,acc=>by
  rw [abG,aa4,foldl_size c k,acj,acC]
  omega
def uw (x:Str) (n:Nat):Str:=⟨(Wm n x.cps).foldl (·++·) #[]⟩
theorem Bw (x:Str) (n:Nat):(uw x n).length=n * x.length:=by
 unfold uw ace
 simp only
 rw [foldl_size]
 simp
theorem K6:dD X (X_ .Mult) (λx y H Q=>∃z n,x=.str z/\y=.int n/\0<=n/\n<=1000/\z.length<=1000/\Q (.str (uw z n.toNat)) H):=by
 intro UB s σ H x y v u Q I rx ry h
 obtain ⟨z,n,rfl,rfl,h0,h1,h2,q⟩:=h
 obtain ⟨t,rfl⟩:=rx
 obtain ⟨t',rfl⟩:=ry
 have hz:abH (z.length * n.toNat)=false:=by
  have:z.length * n.toNat<=1000 * 1000:=X8 h2 (by omega)
  unfold abH
  exact decide_eq_false (by have:=Wv;omega)
 refine PySem.P.mul_str (by
  rw [decide_eq_false (by omega:¬n < -(2 ^ 63:Int)),decide_eq_false (by omega:¬n ≥ 2 ^ 63)];rfl) (λhn _=>?_) (λ_ _=>hz) ?_
 ·have:(2 ^ 63 - 1:Int) / 1000<=(2 ^ 63 - 1) / n:=by
   refine (Int.le_ediv_iff_mul_le (by omega)).mpr ?_
   have:(2 ^ 63 - 1:Int) / 1000 * n<=(2 ^ 63 - 1:Int) / 1000 * 1000:=Int.mul_le_mul_of_nonneg_left h1 (by decide)
   exact Int.le_trans this (by decide)
  have e:(2 ^ 63 - 1:Int) / 1000=9223372036854775:=by decide
  omega
 ·split
  ·rename_i hn
   have e:n=0:=by omega
   subst e
   exact ⟨by decide,.str _,H,I.tok _,⟨_,rfl⟩,q⟩
  ·split
   ·rename_i hn hc
    have e:uw z n.toNat=z:=by
     unfold uw
     rw [XI] at hc
     rcases hc with hc | hc
     ·have e:n=1:=by simpa using hc
      subst e
      simp
     ·have e:z.length=0:=by simpa using hc
      have e2:z.cps=#[]:=by
       unfold ace at e
       exact Array.eq_empty_of_size_eq_zero e
      obtain ⟨cz⟩:=z
      simp only at e2
      subst e2
      congr 1
      generalize n.toNat=k
      induction k with
      | zero=>rfl
      | succ k ih=>rw [abG,aa4];exact ih
    rw [e] at q
    exact ⟨.str z,H,I,⟨_,rfl⟩,q⟩
   ·exact ⟨by
     have:=Bw z n.toNat
     unfold uw at this
     rw [this,Nat.mul_comm]
     have:z.length * n.toNat<=1000 * 1000:=X8 h2 (by omega)
     rw [Wv]
     omega,.str _,H,I.tok _,⟨_,rfl⟩,q⟩
noncomputable def DC:R->R->M R
 | .d (.str z),.d (.int n)=>if 0<=n/\n<=1000/\z.length<=1000 then .ok (.d (.str (uw z n.toNat))) else .bad
 | _,_=>.bad
noncomputable def qd:D->String
 | .non=>"NoneType"
 | .bl _=>"bool"
 | .int _=>"int"
 | .str _=>"str"
 | .tup _=>"tuple"
 | .lst _=>"list"
 | .emp=>"dict"
 | .exn _ _ _=>"exc"
 | .dct _ _=>"dict"
def A8 (t T:String):Bool:=t == T || (t == "bool" && T == "int")
noncomputable def FD:R->Bool
 | .d (.int _)=>true
 | _=>false
noncomputable def MR:R->Bool
 | .d (.str _)=>true
 | _=>false
def iE (x y:R):M R:=if FD x then we x y else if MR x then uZ x y else u5 x y
def gJ (x y:R):M R:=if FD x then MI x y else DC x y
noncomputable def aY (x y:R):M R:=match x,y with
 | .d (.str z),.d (.int i)=>if z.length<=sizeLine then (match mC z.cps.toList i with
  | some k=>.ok (.d (.str ⟨#[k]⟩))
  | none=>.bad) else .bad
 | x,.d (.int i)=>iK x >>= λxs=>(match mC xs i with
  | some d=>.ok (.d d)
  | none=>.bad)
 | _,_=>.bad
noncomputable def bh (P:U6) (w:Vs) (K:UM) (mg:Str->Option UN) (base:V1) (k n:Nat) (x:Str) (Fm:List S->M R):Prop:=
 ∃f fd ps,eO P w K mg base pQ k f fd ps (qZ K n Fm)/\mg x=some (.ref f)/\VZ K (.ref f)=true/\Binds K fd ps []
theorem Mu {P:U6}{w:Vs}{K:UM}{mg:Str->Option UN}{base:V1}{x UG:Str}{st:Xd}{f:Vd}{fd:Vk}{N ps:List Str}{k:Nat}{Fm:List S->M R}(F:l_ K x UG st f fd) (hm:mg x=some (.ref f)) (Sc:eY N ps (aX st))
  (hbi:∀(kV doc pm:UN) (an:Option Vd) (cdv ct:UN) (us:List UN),us.length=ps.length->aau (VE x UG (cG st) (bS st) (aX st) .none kV doc pm an cdv ct) ⟨us,[]⟩=pure (ps.zip us)){gB:G O}
  (hb:∀(cdv:UN) (A:Vz) (outer:List Env) (s:UP) (H:Hp) (E:XK) (J:Hp) (T:Exc->Prop),c8 k (A.deeper (Z4 UG (aX st) s.heap.objs.size f cdv))->
   Jg (E7 P w K mg base N UG (aX st) f cdv A outer s H E) ⟨K,H,J,T⟩ (bS st) gB)
  (hF:∀as r,as.length=ps.length->Fm as=.ok r->fin (gB (aV N as))=.ok r):bh P w K mg base (k + 1) ps.length x Fm:=
 ⟨f,fd,ps,Fd F Sc hb hF,hm,F.kp,F.binds hbi⟩
noncomputable def HM:List Str->Bool
 | []=>true
 | x::r=>!(r.contains x) && HM r
theorem bT:∀{l:List Str},HM l=true->l.Nodup
 | [],_=>Xw
 | x::r,h=>by
  unfold HM at h
  rw [UT] at h
  refine WD.mpr ⟨λz=>?_,bT h.2⟩
  have:=h.1
  simp [z] at this
theorem Hf {H:Hp}{s:UP}{a C:Vd}{dx:Option Vd}(I:L2.Inv X UB σ H s) (h:H a=some (DX.XO a C dx)) (xf:XF H dx ns vs):∃ox od,Yv s.heap a ox C od/\od.isSome=dx.isSome/\(∀d,dx=some d->∃o,od=some o/\s.heap.get? d=some o):=by
 obtain ⟨⟨oe,fs,h1,h2,h3,h4⟩,_⟩:=I.hok a _ h
 have hn:adz oe=true:=by unfold adz;rw [h4]
 rcases xf with ⟨rfl,_⟩ | ⟨d,rfl,_,hd⟩
 ·exact ⟨oe,none,⟨h1,h2,hn,by rw [h3];exact abl⟩,rfl,λd z=>by cases z⟩
 ·obtain ⟨m,⟨o,es,ep,k1,_⟩,_⟩:=I.hok d _ hd
  exact ⟨oe,some o,⟨h1,h2,hn,by rw [h3];exact k1⟩,rfl,λd' z=>by cases z;exact ⟨o,rfl,k1⟩⟩
noncomputable def Ja (T:String):Prop:=(∀(K:UM) (t:String),t∈["NoneType","bool","int","str","tuple","list","dict"]->aby K (.type t) (.type T)=some (A8 t T))/\ac2 T=true/\DX.Bc.contains (.type T)=false/\A8 "exc" T=false
theorem Cg:Ja "int":=⟨λK t h=>by
 simp only [U8,V3,or_false] at h
 rcases h with rfl | rfl | rfl | rfl | rfl | rfl | rfl <;> rfl,by decide +kernel,by decide,by decide⟩
theorem AA:Ja "bool":=⟨λK t h=>by
 simp only [U8,V3,or_false] at h
 rcases h with rfl | rfl | rfl | rfl | rfl | rfl | rfl <;> rfl,by decide +kernel,by decide,by decide⟩
theorem Bq {T:String}(kit:Ja T):
  cO X (.builtin "isinstance") (λxs H Q=>∃d x,xs=[x,.ty T]/\Rep X.K H d x/\Q (.bl (A8 (qd d) T)) H):=by
 intro UB s σ H xs us Q I r h
 obtain ⟨d,x,rfl,hd,q⟩:=h
 obtain ⟨u,w',rfl,rx,ry⟩:=vals2 r
 cases ry
 have fin:∀tk,EP X UB σ Q (.bool (A8 (qd d) T)) {s with toks:=tk}:=λtk=>⟨.bl _,H,I.tok tk,rfl,q⟩
 have F:=fG I
 cases hd with
 | non=>cases rx;exact WX W.kitx_none I.kIn abl (kit.1 X.K _ (by simp [qd])) (λz=>nomatch z) fin
 | bl y=>cases rx;exact WX W.kitx_bool I.kIn abl (kit.1 X.K _ (by simp [qd])) (λz=>nomatch z) fin
 | int i=>obtain ⟨t,rfl⟩:=rx;exact WX W.kitx_int I.kIn abl (kit.1 X.K _ (by simp [qd])) (λz=>nomatch z) fin
 | str y=>obtain ⟨t,rfl⟩:=rx;exact WX W.kitx_str I.kIn abl (kit.1 X.K _ (by simp [qd])) (λz=>nomatch z) fin
 | tup h hs=>
  cases rx
  obtain ⟨UC,r,o,h1,h2,_⟩:=F.t _ _ h
  exact WX W.kitx_tuple I.kIn ⟨o,h1,h2⟩ (kit.1 X.K _ (by simp [qd])) (λz=>nomatch z) fin
 | lst h hs=>
  cases rx
  obtain ⟨UC,r,o,h1,h2,_⟩:=F.l _ _ h
  exact WX W.kitx_list I.kIn ⟨o,h1,h2⟩ (kit.1 X.K _ (by simp [qd])) (λz=>nomatch z) fin
 | emp h=>
  cases rx
  obtain ⟨o,h1,h2⟩:=F.e _ h
  exact WX ack I.kIn ⟨o,h1,h2⟩ (kit.1 X.K _ (by simp [qd])) (λz=>nomatch z) fin
 | dct h _ _ _ _=>
  cases rx
  obtain ⟨o,es,h1,h2,_⟩:=F.d _ _ _ h
  exact WX ack I.kIn ⟨o,h1,h2.1⟩ (kit.1 X.K _ (by simp [qd])) (λz=>nomatch z) fin
 | exn h1 h2 h3 hs hx=>
  cases rx
  obtain ⟨P,G,E⟩:=hx
  obtain ⟨ox,od,J,_⟩:=Hf I h1 h3
  simp only [qd,kit.2.2.2] at fin
  exact WX (DX.Hx G E) I.kIn ⟨ox,od,J⟩ (DX.M9 E kit.2.1 kit.2.2.1) (λz=>nomatch z) fin
def Fg (T:String) (g:G R):G R:=λenv=>g env >>= λr=>.ok (.d (.bl (A8 (qd r.dat) T)))
noncomputable def j_:List D->Option (List Bool)
 | []=>some []
 | .bl k::r=>(j_ r).map (k::·)
 | _::_=>none
theorem qw {K:UM}{J:Hp}:∀{ds:List D}{vs:List V}{ks:List Bool},j_ ds=some ks->aL K J ds vs->vs=ks.map V.bl
 | [],_,_,h,.nil=>by cases h;rfl
 | .bl x::r,_,ks,h,.cons q rs=>by
  unfold j_ at h
  cases z:j_ r with
  | none=>rw [z] at h;cases h
  | some ks'=>
   rw [z] at h
   cases h
   cases q
   rw [qw z rs]
   rfl
theorem uE:∀{ks:List Bool}{us:List UN},Vals (ks.map V.bl) us->us=ks.map Xk
 | [],_,.nil=>rfl
 | k::ks,_,.cons r rs=>by
  cases r
  rw [uE rs]
  rfl
theorem all_range (ks:List Bool):(UQ ks.length).all (λi=>ks.getD i true)=ks.all id:=by
 induction ks with
 | nil=>rfl
 | cons k r ih=>
  rw [VU,Ze,X0,Z6,X0]
  simp only [abI]
  rw [<-ih]
  rfl
theorem EN (hc:X.calm=true):cO X (.builtin "all") (λxs H Q=>∃(p:Vd) (ks:List Bool),xs=[.ref p]/\cB X.K H p (ks.map V.bl)/\Q (.bl (ks.all id)) H):=by
 intro UB s σ H xs us Q I r h
 obtain ⟨p,ks,rfl,hq,q⟩:=h
 obtain ⟨u,rfl,rx⟩:=vals1 r
 cases rx
 obtain ⟨UC,r',pl,hz⟩:=I.list hq
 have hi:=uE r'
 subst hi
 have Tj:p≠s.heap.objs.size:=by
  obtain ⟨o,h1,_⟩:=pl.isList
  exact Vn (U7 h1)
 refine call_all_walk (Yo pl.isList ⟨s.heap.objs.size,_,_,_,_,_,(λi=>ks.getD i true),rfl,adS (A:=X.A.in1) (show X.A.in1.handled=none from I.ok.hd hc) s.heap.objs.size p Tj (ks.map Xk).toArray,⟨⟨_,U0 _ rfl,rfl,rfl⟩,acN pl.isList _⟩,?_,λh' tk k=>?_⟩)
 ·intro i v s' Q' E' hP hQ
  have e:∃k,ks[i]?=some k/\v=.bool k:=by
   have hP':(ks.map Xk)[i]?=some v:=by simpa using hP
   rw [Vh] at hP'
   cases z:ks[i]? with
   | none=>rw [z] at hP';cases hP'
   | some k=>rw [z] at hP';cases hP';exact ⟨k,rfl,rfl⟩
  obtain ⟨k,e1,rfl⟩:=e
  simp only at hQ
  rw [Wg,e1] at hQ
  exact V6 hQ
 ·have sz:(ks.map Xk).toArray.size=ks.length:=by simp
  rw [sz,all_range]
  refine ⟨.bl (ks.all id),H,?_,rfl,q⟩
  refine I.kept λb o e=>k b o (λz=>?_) (US _ e)
  have:b=s.heap.objs.size:=by simpa using z
  exact absurd (this▸U7 e) (Wr _)
noncomputable def uc:List R->M R
 | [r]=>kK r >>= λxs=>match j_ xs with
  | some ks=>.ok (.d (.bl (ks.all id)))
  | none=>.bad
 | _=>.bad
theorem EH:VR "all"=some (.builtin "all"):=by decide +kernel
noncomputable def Rh (neg:Bool):R->R->M R
 | .d (.str i),.d (.str j)=>.ok (.d (.bl (if neg then !(!(aay j i 0 j.length 1).isEmpty) else !(aay j i 0 j.length 1).isEmpty)))
 | _,_=>.bad
noncomputable def Rm (p q:Int->Int->Bool) (ga gb gc:G R):G R:=λenv=>ga env >>= λx=>gb env >>= λy=>match x,y with
 | .d (.int i),.d (.int j)=>if p i j then (gc env >>= λz=>match z with
  | .d (.int k)=>.ok (.d (.bl (q j k)))
  | _=>.bad) else .ok (.d (.bl false))
 | _,_=>.bad
noncomputable def DB:List R->M R
 | [.d (.int i),.d (.int j)]=>.ok (.d (.int (if j > i then j else i)))
 | _=>.bad
theorem Ld (hm:X.mg x=some u) (r:RelV v u) (hr:∀J,Rep c.K J d v) (hg:Gl X x:=by rfl) (hd:(x == ("__debug__":Str))=false:=by decide):PD X c (.Name x pos) (gC d):=vA hr (Cq hg hm r hd)
theorem Ms {H:Hp}{s:UP}(I:Inv X UB σ H s):X7 < s.heap.objs.size:=by
 have h:Vi < s.heap.objs.size:=(I.mod.glob.keeps I.bk).lt
 exact XS (by decide) h
theorem FY:dD X (X_ .Add) (λx y H Q=>∃a b xs ys,x=.ref a/\y=.ref b/\dg X.K H a xs/\dg X.K H b ys/\xs.length + ys.length<=sizeLine/\
  (xs=[]->Q (.ref b) H)/\(ys=[]->Q (.ref a) H)/\∀p,H p=none->Q (.ref p) (upd H p (.tup (xs++ys)))):=by
 intro UB s σ H x y v u Q I rx ry h
 obtain ⟨a,b,xs,ys,rfl,rfl,ha,hb,hz,q0,q1,q2⟩:=h
 by_cases hx:xs=[]
 ·cases rx
  cases ry
  obtain ⟨UC,r1,p1,_⟩:=I.tuple ha
  obtain ⟨its2,r2,p2,_⟩:=I.tuple hb
  have he:UC=[]:=r1.nil_iff.mpr hx
  subst he
  obtain ⟨⟨cls,dd,data,sl⟩,ho,hc,n,hd⟩:=id p1
  obtain ⟨⟨cls2,dd2,data2,sl2⟩,ho2,hc2,n2,hd2⟩:=id p2
  simp only at hc hd hc2 hd2
  subst hc hd hc2 hd2
  exact acA ⟨_,ho,rfl⟩ ⟨_,ho2,rfl⟩ aaH abR Zb YS (YN _ _) (tuple_addW0 a b _ _ n n2 dd dd2 sl sl2 rfl) ⟨ho,ho2,⟨.ref b,H,I,rfl,q0 hx⟩⟩
 ·exact K4 UB s σ H (.ref a) (.ref b) v u Q I rx ry ⟨a,b,xs,ys,rfl,rfl,ha,hb,hx,hz,q1,λ_=>q2⟩
noncomputable def Dz:R->R->M R
 | .d (.tup xs),.d (.tup ys)=>if xs.length + ys.length<=sizeLine then .ok (.d (.tup (xs++ys))) else .bad
 | _,_=>.bad
theorem Kg (hK:X.K=c.K):BD c (λx y H Q=>∃a b xs ys,x=.ref a/\y=.ref b/\dg X.K H a xs/\dg X.K H b ys/\xs.length + ys.length<=sizeLine/\
  (xs=[]->Q (.ref b) H)/\(ys=[]->Q (.ref a) H)/\∀p,H p=none->Q (.ref p) (upd H p (.tup (xs++ys)))) Dz:=by
 intro He He' J H x y u v Q hp rx ry w
 unfold Dz at w
 split at w
 ·rename_i ds es
  cases rx with
  | tup h1 s1=>
   cases ry with
   | tup h2 s2=>
    split at w
    ·rename_i hz
     rw [s1.length,s2.length] at hz
     refine ⟨_,_,_,_,rfl,rfl,by rw [hK];exact fk hp.sub h1,by rw [hK];exact fk hp.sub h2,hz,λe=>?_,λe=>?_,λp hp'=>w _ _ _ (Ext.newJ hp.sub hp' _) (qS hp hp' (s1.append s2))⟩
     ·have e':ds=[]:=Zw (by rw [s1.length,e];rfl)
      subst e'
      exact w _ J H (Ext.refl hp.sub) (.tup h2 s2)
     ·have e':es=[]:=Zw (by rw [s2.length,e];rfl)
      subst e'
      rw [WV] at w
      exact w _ J H (Ext.refl hp.sub) (.tup h1 s1)
    ·exact w.elim
 ·exact w.elim
noncomputable def MS:R->Bool
 | .d (.tup _)=>true
 | _=>false
def cX (x y:R):M R:=if MS x then Dz x y else iE x y
noncomputable def intsOf:List D->Option (List Int)
 | []=>some []
 | .int i::r=>(intsOf r).map (i::·)
 | _::_=>none
theorem pe {K:UM}{J:Hp}:∀{ds:List D}{vs:List V}{ns:List Int},intsOf ds=some ns->aL K J ds vs->vs=ns.map V.int
 | [],_,_,h,.nil=>by cases h;rfl
 | .int x::r,_,ks,h,.cons q rs=>by
  unfold intsOf at h
  cases z:intsOf r with
  | none=>rw [z] at h;cases h
  | some ks'=>
   rw [z] at h
   cases h
   cases q
   rw [pe z rs]
   rfl
def signs (x:Str):List D:=x.cps.toList.map λk=>.str ⟨#[k]⟩
noncomputable def Ri (g:G R):G (List D):=λenv=>g env >>= λr=>match r with
 | .d (.str x)=>.ok (signs x)
 | _=>.bad
theorem BA {prog:U6}{w:Vs}{A:Vz}{E:UN->UP->Prop}{s:UP}{t sl:Vd}{items:Array UN}{vl vu:UN}{lo hi:Option Int}{Q:UN->UP->Prop}(ht:aex s.heap t items) (hs:s.heap.IsSliceOf sl vl vu .none) (pl:abS vl lo) (pu:abS vu hi)
  (hw:HT.bN items.size 0 lo=0/\HT.bN items.size items.size hi=items.size) (h:Q (.ref t) s):U9 (Vg prog w) A (ab_ (.ref t) (.ref sl)) Q E s:=by
 obtain ⟨os,hos,hcs,hds⟩:=id hs
 have SW:s.TypeIs (.ref sl) "slice":=⟨os,hos,hcs⟩
 unfold ab_
 try with_reducible refine VB ?_
 first | refine UL (UO ?_) | skip
 refine UL (acd ht.typeIs (by decide) ?_)
 refine UL (VG (name:=Xo "__getitem__") ht.typeIs VX
  (VA VX ht.typeIs abE ?_ (abT _ _)))
 show U9 _ _ (Ys (.ref t) >>= _) _ _ s
 refine UL (ad0 ht ?_)
 refine UL (Zs SW ?_)
 rw [if_pos (by decide)]
 refine UL (HT.lU hs pl pu ?_)
 have hyes:(((HT.bN items.size 0 lo:Nat):Int) == 0 && (1:Int) == 1 && (HT.bN items.size items.size hi - HT.bN items.size 0 lo) == items.size)=true:=by
  rw [hw.1,hw.2]
  simp
 show U9 _ _ (if (((HT.bN items.size 0 lo:Nat):Int) == 0 && (1:Int) == 1 && (HT.bN items.size items.size hi - HT.bN items.size 0 lo) == items.size)=true then _ else _) _ _ s
 rw [if_pos hyes]
 unfold adt
 refine UL (UL (Zs ht.typeIs (UO ?_)))
 rw [if_pos (by decide)]
 exact UL (ZH (UO ⟨_,rfl,UO h⟩))
theorem Gv:sO X (λx lo hi H Q=>∃a xs,x=.ref a/\dg X.K H a xs/\((HT.bN xs.length 0 lo=0/\HT.bN xs.length xs.length hi=xs.length)->Q (.ref a) H)/\∀p,H p=none->Q (.ref p) (upd H p (.tup (ny xs lo hi)))):=by
 intro UB s σ H x v vl vu lo hi sl Q I rx hs pl pu h
 obtain ⟨a,xs,rfl,hx,q0,q1⟩:=h
 by_cases hw:HT.bN xs.length 0 lo=0/\HT.bN xs.length xs.length hi=xs.length
 ·cases rx
  obtain ⟨UC,r,ht,hz⟩:=I.tuple hx
  have hlen:UC.toArray.size=xs.length:=by rw [U3];exact r.length.symm
  exact ⟨"tuple",_,VX.lookup,ht.typeIs,BA ht hs pl pu (by rw [hlen];exact hw) ⟨.ref a,H,I,rfl,q0 hw⟩⟩
 ·exact Oe UB s σ H (.ref a) v vl vu lo hi sl Q I rx hs pl pu ⟨a,xs,rfl,hx,hw,q1⟩
theorem Dv {xs:List D}{lo hi:Option Int}(h:HT.bN xs.length 0 lo=0/\HT.bN xs.length xs.length hi=xs.length):cutD xs lo hi=xs:=by
 unfold cutD
 rw [h.1,h.2]
 simp
noncomputable def Hg:R->Option Int->Option Int->M R
 | .d (.tup xs),l,u=>.ok (.d (.tup (cutD xs l u)))
 | _,_,_=>.bad
theorem QE (hK:X.K=c.K) (He J H:Hp) (x:R) (v:V) (l u:Option Int) (Q:VK) (hp:HI c J H) (rx:RR c He J H x v) (w:cD (Hg x l u) (λz=>∀w J' H',Ext J H J' H'->RR c H J' H' z w->Q w H') c.T):
  ∃a xs,v=.ref a/\dg X.K H a xs/\((HT.bN xs.length 0 l=0/\HT.bN xs.length xs.length u=xs.length)->Q (.ref a) H)/\∀p,H p=none->Q (.ref p) (upd H p (.tup (ny xs l u))):=by
 unfold Hg at w
 split at w
 ·rename_i ds
  cases rx with
  | tup h1 s1=>
   refine ⟨_,_,rfl,by rw [hK];exact fk hp.sub h1,λhw=>?_,λp hp'=>w _ _ _ (Ext.newJ hp.sub hp' _) (qS hp hp' (s1.cut _ _))⟩
   rw [<-s1.length] at hw
   rw [Dv hw] at w
   exact w _ J H (Ext.refl hp.sub) (.tup h1 s1)
 ·exact w.elim
def Al (x:R) (l u:Option Int):M R:=if MS x then Hg x l u else Ql x l u
theorem Fc {α β:Type}{f:α->Option β}{g:α->β}:∀(l:List α),(∀m∈l,f m=some (g m))->l.filterMap f=l.map g
 | [],_=>rfl
 | x::r,h=>by
  rw [YH,h x UW,U_]
  simp only
  rw [Fc r λm hm=>h m (UU _ hm)]
theorem Ie (xs:Array UN):((UQ xs.size).filterMap λ(m:Nat)=>xs[(((xs.size:Int) - 1) + (m:Int) * (-1)).toNat]?)=xs.toList.reverse:=by
 have e:((UQ xs.size).filterMap λ(m:Nat)=>xs[(((xs.size:Int) - 1) + (m:Int) * (-1)).toNat]?)=(UQ xs.size).map λm=>(xs.toList.reverse).getD m .none:=by
  refine Fc _ λm hm=>?_
  have hm':m < xs.size:=U1.mp hm
  have e1:(((xs.size:Int) - 1) + (m:Int) * (-1)).toNat=xs.size - 1 - m:=by omega
  rw [e1]
  simp [Wg,hm',aa5,show xs.size - 1 - m < xs.size by omega]
 rw [e]
 refine W5 (by simp) λi h1 h2=>?_
 simp [Wg]
 have:i < xs.size:=by simpa using h1
 simp [aa5,this,show xs.size - 1 - i < xs.size by omega]
theorem aL.rev {K:UM}{J:Hp}:∀{ds:List D}{vs:List V},aL K J ds vs->aL K J ds.reverse vs.reverse
 | _,_,.nil=>.nil
 | _,_,.cons h hs=>by
  rw [Zi,Zi]
  exact (aL.rev hs).append (.cons h .nil)
end
structure vP (prog:U6) (w:Vs) (it src:Vd) (vals:Array UN) (St:Nat->V1->Prop):Prop where
 keep:∀(k:Nat) (h h':V1),St k h->(∀o,h.get? it=some o->h'.get? it=some o)->(∀o,h.get? src=some o->h'.get? src=some o)->St k h'
 there:∀(k:Nat) (h:V1),St k h->∃o,h.get? it=some o/\∀v,o.data≠.cell v
 item:∀(A:Vz) (s:UP) (k:Nat) (x:UN) (Q:UN->UP->Prop) (E:UN->UP->Prop),St k s.heap->vals[k]?=some x->(∀h',St (k + 1) h'->VL it s.heap h'->Q x {s with heap:=h'})->
  U9 (Vg prog w) A (Wn (.ref it)) Q E s
 fin:∀(A:Vz) (s:UP) (k:Nat) (Q:UN->UP->Prop) (E:UN->UP->Prop),A.handled=none->St k s.heap->vals[k]?=none->
  (∀h' e,aaz it s.heap h'->(∃o,h'.get? e=some o/\o.cls=.type "StopIteration")->E (.ref e) {s with heap:=h'})->U9 (Vg prog w) A (Wn (.ref it)) Q E s
theorem mJ (prog:U6) (w:Vs) (it l:Vd) (vals:Array UN) (hne:l≠it):vP prog w it l vals (λk h=>h.IsListIter it l k/\h.IsList l vals) where
 keep:=λk h h' st k1 k2=>⟨st.1.at λo e=>k1 o e,st.2.at λo e=>k2 o e⟩
 there:=λk h st=>by
  obtain ⟨⟨o,e,_,d⟩,_⟩:=st
  exact ⟨o,e,λv z=>by rw [d] at z;cases z⟩
 item:=λA s k x Q E st hx hQ=>wpAny_nextOf_list_item st.1 st.2 hx λh' a1 a2=>hQ h' ⟨a1,st.2.extBut a2.extBut hne⟩ a2
 fin:=λA s k Q E hh st hx hE=>wpAny_nextOf_list_end hh st.1 st.2 hx hE
theorem next_tuple_item {prog:U6}{w:Vs}{A:Vz}{E:UN->UP->Prop}{s:UP}{it t:Vd}{k:Nat}{vals:Array UN}{x:UN}{Q:UN->UP->Prop}(hit:s.heap.IsTupleIter it t k) (ht:s.heap.IsTuple t vals) (hx:vals[k]?=some x)
  (hQ:∀h',h'.IsTupleIter it t (k + 1)->VL it s.heap h'->Q x {s with heap:=h'}):U9 (Vg prog w) A (Wn (.ref it)) Q E s:=by
 obtain ⟨oi,Sk,TJ,hdi⟩:=id hit
 obtain ⟨ot,Th,_,nt,hdt⟩:=ht
 unfold Wn
 refine UL (VG (name:=Xo "__next__") hit.typeIs Xj (VA Xj hit.typeIs ZM ?_ (ZE _)))
 show U9 _ _ (field (.ref it) 0 >>= _) _ _ s
 refine UL (W3 Sk hdi (x:=.ref t) rfl ?_)
 show U9 _ _ (if (XA t == VM)=true then _ else _) _ _ s
 rw [if_neg (show ¬(XA t == VM)=true from λz=>Vp z)]
 show U9 _ _ (field (.ref it) 1 >>= _) _ _ s
 refine UL (W3 Sk hdi (x:=.int k 0) rfl ?_)
 show U9 _ _ (ab0 (.ref t) >>= _) _ _ s
 refine UL (Zq Th hdt ?_)
 simp only [V7,hx]
 refine UL (aab Sk hdi (by simp) (UO ⟨x,rfl,UO (hQ _ ?_ (WL ..))⟩))
 exact ⟨_,Wy _ Sk (aa6 (YX hdi _)),(acm ..).trans TJ,by rw [YX hdi] <;> simp [abx]⟩
theorem next_tuple_end {prog:U6}{w:Vs}{A:Vz}{E:UN->UP->Prop}{s:UP}{it t:Vd}{k:Nat}{vals:Array UN}{Q:UN->UP->Prop}(hh:A.handled=none) (hit:s.heap.IsTupleIter it t k) (ht:s.heap.IsTuple t vals) (hx:vals[k]?=none)
  (hE:∀h' e,aaz it s.heap h'->(∃o,h'.get? e=some o/\o.cls=.type "StopIteration")->E (.ref e) {s with heap:=h'}):U9 (Vg prog w) A (Wn (.ref it)) Q E s:=by
 obtain ⟨oi,Sk,TJ,hdi⟩:=id hit
 obtain ⟨ot,Th,_,nt,hdt⟩:=ht
 unfold Wn
 refine UL (VG (name:=Xo "__next__") hit.typeIs Xj (VA Xj hit.typeIs ZM ?_ (ZE _)))
 show U9 _ _ (field (.ref it) 0 >>= _) _ _ s
 refine UL (W3 Sk hdi (x:=.ref t) rfl ?_)
 show U9 _ _ (if (XA t == VM)=true then _ else _) _ _ s
 rw [if_neg (show ¬(XA t == VM)=true from λz=>Vp z)]
 show U9 _ _ (field (.ref it) 1 >>= _) _ _ s
 refine UL (W3 Sk hdi (x:=.int k 0) rfl ?_)
 show U9 _ _ (ab0 (.ref t) >>= _) _ _ s
 refine UL (Zq Th hdt ?_)
 simp only [V7,hx]
 refine UL (ZH (UL (aab Sk hdi (by simp) ?_)))
 show U9 _ _ (ae0 (.type "StopIteration") [] >>= _) _ _ _
 refine UL ?_
 simp only [ae0,ad7]
 refine UL (Vu ?_ (by size_fits))
 refine UL (m:=Yw _ _) (ZN (a:=VM) (by first | rfl | (simp only [Yw];rfl)) ?_)
 refine Vu ?_ (by size_fits)
 simp only [ae1]
 refine UL (ab1 ?_)
 first | rw [show A.in1.handled=none from hh] | rw [hh]
 refine UL (UO (ac4 ?_))
 exact hE _ _ (((WL ..).extBut.push _).push _) ⟨_,U0 _ rfl,rfl⟩
theorem kP (prog:U6) (w:Vs) (it t:Vd) (vals:Array UN) (hne:t≠it):vP prog w it t vals (λk h=>h.IsTupleIter it t k/\h.IsTuple t vals) where
 keep:=λk h h' st k1 k2=>by
  obtain ⟨⟨o,e,r⟩,⟨o2,e2,r2⟩⟩:=st
  exact ⟨⟨o,k1 o e,r⟩,⟨o2,k2 o2 e2,r2⟩⟩
 there:=λk h st=>by
  obtain ⟨⟨o,e,_,d⟩,_⟩:=st
  exact ⟨o,e,λv z=>by rw [d] at z;cases z⟩
 item:=λA s k x Q E st hx hQ=>next_tuple_item st.1 st.2 hx λh' a1 a2=>hQ h' ⟨a1,st.2.extBut a2.extBut hne⟩ a2
 fin:=λA s k Q E hh st hx hE=>next_tuple_end hh st.1 st.2 hx hE
def DM (k:String) (l:Vd):Obj:={cls:=.type k,data:=.fields #[.ref l,.int 0 0]}
def Et (k:String) (h:V1) (l:Vd) (vals:Array UN):Prop:=(k="list_iterator"/\h.IsList l vals)\/(k="tuple_iterator"/\h.IsTuple l vals)
theorem pG {prog:U6}{w:Vs}{A:Vz}{E:UN->UP->Prop}{s:UP}{k:String}{l:Vd}{vals:Array UN}{Q:UN->UP->Prop}(x:Et k s.heap l vals) (h:Q (.ref s.heap.objs.size) {s with heap:=s.heap.push (DM k l)}):U9 (Vg prog w) A (Z2 (.ref l)) Q E s:=by
 rcases x with ⟨rfl,x⟩ | ⟨rfl,x⟩
 ·exact Yo x h
 ·exact Z7 x h
noncomputable def SQ (k:String) (it l:Vd) (vals:Array UN) (m:Nat) (h:V1):Prop:=(k="list_iterator"/\h.IsListIter it l m/\h.IsList l vals)\/(k="tuple_iterator"/\h.IsTupleIter it l m/\h.IsTuple l vals)
def IQ (k:String) (it l:Vd) (m:Nat) (h:V1):Prop:=(k="list_iterator"/\h.IsListIter it l m)\/(k="tuple_iterator"/\h.IsTupleIter it l m)
theorem SQ.iq {k:String}{it l:Vd}{vals:Array UN}{m:Nat}{h:V1}(x:SQ k it l vals m h):IQ k it l m h:=x.elim (λx=>.inl ⟨x.1,x.2.1⟩) λx=>.inr ⟨x.1,x.2.1⟩
theorem Fb (prog:U6) (w:Vs) (k:String) (it l:Vd) (vals:Array UN) (hne:l≠it):vP prog w it l vals (SQ k it l vals) where
 keep:=λm h h' st k1 k2=>by
  rcases st with ⟨e,st⟩ | ⟨e,st⟩
  ·exact .inl ⟨e,(mJ prog w it l vals hne).keep m h h' st k1 k2⟩
  ·exact .inr ⟨e,(kP prog w it l vals hne).keep m h h' st k1 k2⟩
 there:=λm h st=>by
  rcases st with ⟨e,st⟩ | ⟨e,st⟩
  ·exact (mJ prog w it l vals hne).there m h st
  ·exact (kP prog w it l vals hne).there m h st
 item:=λA s m x Q E st hx hQ=>by
  rcases st with ⟨e,st⟩ | ⟨e,st⟩
  ·exact (mJ prog w it l vals hne).item A s m x Q E st hx λh' a1 a2=>hQ h' (.inl ⟨e,a1⟩) a2
  ·exact (kP prog w it l vals hne).item A s m x Q E st hx λh' a1 a2=>hQ h' (.inr ⟨e,a1⟩) a2
 fin:=λA s m Q E hh st hx hE=>by
  rcases st with ⟨e,st⟩ | ⟨e,st⟩
  ·exact (mJ prog w it l vals hne).fin A s m Q E hh st hx hE
  ·exact (kP prog w it l vals hne).fin A s m Q E hh st hx hE
def kJ (k:String) (K:UM) (H:Hp) (l:Vd) (xs:List V):Prop:=(k="list_iterator"/\cB K H l xs)\/(k="tuple_iterator"/\dg K H l xs)
section
variable {X:Cx}{UB:List (Vd×Obj)}{σ:L2.St}{H:Hp}{s:UP}
theorem kJ.get {k:String}{l:Vd}{xs:List V}(I:Inv X UB σ H s) (h:kJ k X.K H l xs):∃UC:List UN,Vals xs UC/\Et k s.heap l UC.toArray:=by
 rcases h with ⟨e,h⟩ | ⟨e,h⟩
 ·obtain ⟨UC,r,p,_⟩:=I.list h
  exact ⟨UC,r,.inl ⟨e,p.isList⟩⟩
 ·obtain ⟨UC,r,p,_⟩:=I.tuple h
  exact ⟨UC,r,.inr ⟨e,p⟩⟩
theorem kJ.inj {k:String}{l:Vd}{xs ys:List V}(I:Inv X UB σ H s) (h:kJ k X.K H l xs) (h':kJ k X.K H l ys):xs=ys:=by
 rcases h with ⟨e,h⟩ | ⟨e,h⟩ <;> rcases h' with ⟨e',h'⟩ | ⟨e',h'⟩
 ·exact I.list_inj h h'
 ·rw [e] at e';exact absurd e' (by decide)
 ·rw [e] at e';exact absurd e' (by decide)
 ·exact I.tuple_inj h h'
theorem kJ.ne {k:String}{l b:Vd}{xs:List V}(I:Inv X UB σ H s) (h:kJ k X.K H l xs) (f:jR X UB H b):l≠b:=by
 have t:(∃o,H l=some o)\/∃o,X.K.lookup l=some o:=by
  rcases h with ⟨_,h⟩ | ⟨_,h⟩ <;> rcases h with (h | ⟨o,h⟩) | ⟨o,_,_,h,_⟩
  ·exact .inl ⟨_,h⟩
  ·exact .inl ⟨_,h⟩
  ·exact .inr ⟨o,h⟩
  ·exact .inl ⟨_,h⟩
  ·exact .inl ⟨_,h⟩
  ·exact .inr ⟨o,h⟩
 rintro rfl
 rcases t with ⟨o,t⟩ | ⟨o,t⟩
 ·rw [f.1] at t;cases t
 ·have hb:X.base.get? l=some o:=I.ok.mod.kin l o t
  rcases f.2.2.2.1 with z | z
  ·exact I.ok.noex l o hb z
  ·exact absurd (Vf (U7 (I.ok.bs l o hb).1) z) (Wr _)
end
theorem IQ.keep {k:String}{it l:Vd}{m:Nat}{h h':V1}(x:IQ k it l m h) (kp:∀o,h.get? it=some o->h'.get? it=some o):IQ k it l m h':=by
 rcases x with ⟨e,o,h1,r⟩ | ⟨e,o,h1,r⟩
 ·exact .inl ⟨e,o,kp o h1,r⟩
 ·exact .inr ⟨e,o,kp o h1,r⟩
theorem IQ.obj {k:String}{it l:Vd}{m:Nat}{h:V1}(x:IQ k it l m h):∃o,h.get? it=some o/\∀v,o.data≠.cell v:=by
 rcases x with ⟨e,o,h1,_,d⟩ | ⟨e,o,h1,_,d⟩ <;> exact ⟨o,h1,λv z=>by rw [d] at z;cases z⟩
theorem IQ.sq {k:String}{it l:Vd}{m:Nat}{h:V1}{vals:Array UN}(x:IQ k it l m h) (q:Et k h l vals):SQ k it l vals m h:=by
 rcases x with ⟨e,x⟩ | ⟨e,x⟩ <;> rcases q with ⟨e',q⟩ | ⟨e',q⟩
 ·exact .inl ⟨e,x,q⟩
 ·rw [e] at e';exact absurd e' (by decide)
 ·rw [e] at e';exact absurd e' (by decide)
 ·exact .inr ⟨e,x,q⟩
section
variable {X:Cx}{c:C}{e a b:Vv}{es:List Vv}{ga gb g:G R}{pos:Pos}{elts:List Vv}{kk:Nat}{tp:Pos}
noncomputable def zM:R->M (List D)
 | .d (.tup xs)=>.ok xs
 | .d (.lst xs)=>.ok xs
 | .l _ xs=>.ok xs
 | _=>.bad
theorem kJ.same {k:String}{K:UM}{H H':Hp}{l:Vd}{xs:List V}(e:aU H H') (h:kJ k K H l xs):kJ k K H' l xs:=h.elim (λh=>.inl ⟨h.1,e.seq h.2⟩) λh=>.inr ⟨h.1,fk e h.2⟩
theorem Of {He J1 H1:Hp}{r:R}{v:V}{xs:List D}(hp:HI c J1 H1) (h:RR c He J1 H1 r v) (q:zM r=.ok xs):∃k l vs,v=.ref l/\aL c.K J1 xs vs/\kJ k c.K H1 l vs:=by
 unfold zM at q
 split at q
 ·cases q
  cases h with
  | tup h1 h2=>exact ⟨"tuple_iterator",_,_,rfl,h2,.inr ⟨rfl,fk hp.sub h1⟩⟩
 ·cases q
  cases h with
  | lst h1 h2=>exact ⟨"list_iterator",_,_,rfl,h2,.inl ⟨rfl,hp.sub.seq h1⟩⟩
 ·cases q
  obtain ⟨a,vs,rfl,h1,h2⟩:=RR.list hp h rfl
  exact ⟨"list_iterator",_,_,rfl,h2,.inl ⟨rfl,h1⟩⟩
 ·cases q
theorem LW {α:Type}{x:R}{f:List D->M α}{Q:α->Prop}{T:Exc->Prop}(w:cD (zM x >>= f) Q T):∃xs,zM x=.ok xs/\cD (f xs) Q T:=by
 cases q:zM x with
 | bad=>rw [q] at w;exact w.elim
 | ok xs=>rw [q] at w;exact ⟨xs,rfl,w⟩
 | exc z=>unfold zM at q;split at q <;> cases q
end
section
variable {X:Cx}{c:C}{e a b tg:Vv}{es:List Vv}{ga gb g:G R}{pos:Pos}
def CY (K:UM) (mg:Str->Option UN) (x:Str) (d:D):Prop:=∃u v,mg x=some u/\RelV v u/\∀J,Rep K J d v
theorem O1 {j:Nat}{p q:Pos}:PE X (.UnaryOp .USub (.Constant (.int 1) j p) q) (tC (.int (-1))):=fj (JG GJ F7) λσ H Q h=>⟨1,rfl,h⟩
theorem xu:VR "int"=some (.type "int"):=by decide +kernel
theorem uQ:VR "bool"=some (.type "bool"):=by decide +kernel
end
section
variable {X:Cx}{c:C}{e a b tg:Vv}{es:List Vv}{ga gb g:G R}{pos:Pos}{st:Xd}{t u:G O}{tb:G Bool}
def y9:G O:=λ_=>.bad
noncomputable def wm (g:G R):G R:=λenv=>g env >>= λr=>match r with
 | .d (.int i)=>.ok (.d (.int (-i)))
 | _=>.bad
noncomputable def IM:R->M Bool
 | .d .non=>.ok false
 | .d (.bl b)=>.ok b
 | .d (.int i)=>.ok (i != 0)
 | .d (.str y)=>if y.length<=sizeLine then .ok ((y.length:Int) != 0) else .bad
 | .d (.tup xs)=>.ok (!xs.isEmpty)
 | .d (.lst xs)=>.ok (!xs.isEmpty)
 | .d .emp=>.ok false
 | .d (.exn _ _ _)=>.bad
 | .d (.dct _ _)=>.bad
 | .l _ xs=>.ok (!xs.isEmpty)
 | _=>.bad
theorem MQ {K:UM}{J:Hp}{ds:List D}{vs:List V}(h:aL K J ds vs):ds.isEmpty=vs.isEmpty:=by
 cases h <;> rfl
theorem LR {He J H:Hp}(hp:HI c J H){Q:Bool->Prop}{T:Exc->Prop}:∀{r:R}{v:V},RR c He J H r v->cD (IM r) Q T->∃k,GV c.K v H k/\Q k
 | .d .non,_,h,w=>by cases h;exact ⟨_,rfl,w⟩
 | .d (.bl b),_,h,w=>by cases h;exact ⟨_,rfl,w⟩
 | .d (.int i),_,h,w=>by cases h;exact ⟨_,rfl,w⟩
 | .d (.str y),_,h,w=>by
  cases h
  unfold IM at w
  simp only at w
  split at w
  ·rename_i hz;exact ⟨_,⟨hz,rfl⟩,w⟩
  ·exact w.elim
 | .d (.tup xs),_,h,w=>by
  cases h with
  | tup h1 h2=>exact ⟨_,.inr (.inl ⟨_,fk hp.sub h1,rfl⟩),by rw [<-MQ h2];exact w⟩
 | .d (.lst xs),_,h,w=>by
  cases h with
  | lst h1 h2=>exact ⟨_,.inl ⟨_,hp.sub.seq h1,rfl⟩,by rw [<-MQ h2];exact w⟩
 | .d .emp,_,h,w=>by
  cases h with
  | emp h1=>exact ⟨_,.inr (.inr ⟨_,hp.sub _ _ h1,rfl⟩),w⟩
 | .d (.exn _ _ _),_,_,w=>w.elim
 | .d (.dct _ _),_,_,w=>w.elim
 | .mo _ _,_,_,w=>w.elim
 | .mb _ _,_,_,w=>w.elim
 | .mf _ _,_,_,w=>w.elim
 | .l m xs,_,h,w=>by
  obtain ⟨a,vs,rfl,h1,h2⟩:=RR.list hp h rfl
  exact ⟨_,.inl ⟨_,h1,rfl⟩,by rw [<-MQ h2];exact w⟩
def wB (g:G R):G Bool:=λenv=>g env >>= IM
noncomputable def lY (tb:G Bool) (u:G O):Nat->Ev->M O
 | 0,_=>.bad
 | n + 1,env=>tb env >>= λk=>if k=true then u env >>= λo=>(match o with
  | .nx e=>lY tb u n e
  | .ct e=>lY tb u n e
  | .bk e=>.ok (.nx e)
  | .rt r=>.ok (.rt r)) else .ok (.nx env)
def ve (n:Nat) (tb:G Bool) (u:G O):G O:=λenv=>lY tb u n env
theorem aL.eraseIdx {K:UM}{J:Hp}:∀{ds:List D}{vs:List V}(k:Nat),aL K J ds vs->aL K J (ds.eraseIdx k) (vs.eraseIdx k)
 | _,_,_,.nil=>by rw [acn,acn];exact .nil
 | _,_,0,.cons _ t=>t
 | _,_,k + 1,.cons r t=>.cons r (aL.eraseIdx k t)
noncomputable def Rk (i j:Nat):G O:=λenv=>match env[j]? with
 | some (some (.own xs))=>(match xs[xs.length - 1]? with
  | some d=>.ok (.nx ((env.set j (some (.own xs.dropLast))).set i (some (.d d))))
  | none=>.bad)
 | _=>.bad
noncomputable def nQ (i j:Nat) (g:G R):G O:=λenv=>match env[i]?,env[j]? with
 | some (some (.own zs)),some (some (.own xs))=>if i=j then .bad else g env >>= λr=>(match r with
  | .d (.int k)=>if 0<=k/\k.toNat < xs.length/\zs.length < sizeLine/\xs.length<=sizeLine then (match xs[k.toNat]? with
   | some d=>.ok (.nx ((env.set j (some (.own (xs.eraseIdx k.toNat)))).set i (some (.own (zs++[d])))))
   | none=>.bad) else .bad
  | _=>.bad)
 | _,_=>.bad
theorem Pf {k:Int}{n:Nat}(h0:0<=k) (h:k.toNat < n):abW k n=some k.toNat:=by
 unfold abW
 have h1:¬k < 0:=by omega
 have h2:k < n:=by omega
 simp [h1,h0,h2]
theorem NB {J H:Hp}{σ:L2.St}{env:Ev}(sr:SR c J H σ env){i j:Nat}{xs ys:List D}{p q:Vd}(hij:i≠j) (hi:env[i]?=some (some (.own xs))) (hj:env[j]?=some (some (.own ys))) (h1:σ[i]?=some (some (.ref p))) (h2:σ[j]?=some (some (.ref q))):p≠q:=λz=>
 sr.sep i j (.inl xs) (.inl ys) (.ref p) hij hi hj h1 (z▸h2)
end
open PySem.AutoSeq1 in
theorem E_ (T:String) (hT:T="tuple"\/T="list") (l b:Vd) (xs ys:Array UN) (n m:Nat) (dd:Option Vd) (sl:Array (Option UN)) (z0:¬(!xs.isEmpty && W2 (xs.size + ys.size))=true) (z1:xs.size<=sizeLine) (z2:xs.size + ys.size<=sizeLine + 1):
  Meets (YU.«list.extend» ⟨[.ref l,.ref b],[]⟩) λ_ R s=>s.heap.get? l=some {cls:=.type "list",dict:=none,data:=.seq xs n,slots:=#[]}/\
   s.heap.get? b=some {cls:=.type T,dict:=dd,data:=.seq ys m,slots:=sl}/\R (.ok (.ret VM)) {s with heap:=s.heap.update l (W0 λx=>x++ys),toks:=s.toks}:=
 .of_wp λprog w A R s h=>by
  obtain ⟨hp,gs,dr,tk,os⟩:=s
  obtain ⟨h1,h2,h3⟩:=h
  have t1:=AutoSeq1.idx_int
  have t2:=YO
  have t3:=AutoSeq1.sub_list_list
  have t4:=AutoSeq1.sub_tuple_list
  have t5:=AutoSeq1.sub_list_tuple
  have z3:(xs++ys).size<=sizeLine + 1:=by
   rw [acj]
   exact z2
  rcases hT with rfl | rfl
  ·wp_walk using (ZO h1 rfl (hz:=z1) (_hz':=z3)),Xh h1,Xh h2
   exact ⟨_,rfl,h3⟩
  ·wp_walk using (ZO h1 rfl (hz:=z1) (_hz':=z3)),Xh h1,Xh h2
   exact ⟨_,rfl,h3⟩
section
variable {X:Cx}{c:C}{e a b tg:Vv}{es:List Vv}{ga gb g:G R}{pos:Pos}
noncomputable def Qu (K:UM):V->List V->Hp->VK->Prop:=λx vs H Q=>∃l b xs zs,x=.ref l/\vs=[.ref b]/\H l=some (.lst xs)/\(cB K H b zs\/dg K H b zs)/\xs.length + zs.length<=sizeLine/\Q .non (upd H l (.lst (xs++zs)))
theorem Nj:Jc X "list.extend" (Qu X.K):=by
 intro UB s σ H x vs v us Q I rx rv h
 obtain ⟨l,b,xs,zs,rfl,rfl,hH,hB,hz,q⟩:=h
 cases rx
 obtain ⟨u,rfl,ru⟩:=rv.one
 cases ru
 obtain ⟨z,UC,n,r,hl,e⟩:=I.lstM hH
 have obj:∃T its2,(T="tuple"\/T="list")/\Vals zs its2/\∃dd m sl,s.heap.get? b=some {cls:=.type T,dict:=dd,data:=.seq its2.toArray m,slots:=sl}:=by
  rcases hB with hB | hB
  ·obtain ⟨its2,r2,pl,_⟩:=I.list hB
   obtain ⟨⟨cls,dd,data,sl⟩,ho,hc,m,hd⟩:=pl.isList
   simp only at hc hd
   subst hc hd
   exact ⟨"list",its2,.inr rfl,r2,dd,m,sl,ho⟩
  ·obtain ⟨its2,r2,pl,_⟩:=I.tuple hB
   obtain ⟨⟨cls,dd,data,sl⟩,ho,hc,m,hd⟩:=pl
   simp only at hc hd
   subst hc hd
   exact ⟨"tuple",its2,.inl rfl,r2,dd,m,sl,ho⟩
 obtain ⟨T,its2,hT,r2,dd,m,sl,e2⟩:=obj
 have hl2:=r2.length
 have hsz:UC.toArray.size + its2.toArray.size<=sizeLine:=by rw [U3,U3];omega
 have Sd:¬(!UC.toArray.isEmpty && W2 (UC.toArray.size + its2.toArray.size))=true:=by
  rw [AK hsz,Xu]
  exact Vp
 refine acf abX ⟨_,e,rfl⟩ abF (abp _ _) (E_ T hT l b UC.toArray its2.toArray n m dd sl Sd (by rw [U3];omega) (by omega)) ⟨e,e2,?_⟩
 refine ⟨.non,_,I.lset (its':=UC++its2) hH e (by simp) (r.append r2) ?_,rfl,q⟩
 rw [Vc]
 omega
noncomputable def wg (i:Nat) (g:G R):G O:=λenv=>match env[i]? with
 | some (some (.own xs))=>g env >>= λr=>iK r >>= λys=>if xs.length + ys.length<=sizeLine then .ok (.nx (env.set i (some (.own (xs++ys))))) else .bad
 | _=>.bad
noncomputable def uq:V->Option (Option Bool)
 | .non=>some none
 | .bl k=>some (some k)
 | _=>none
theorem AX (rx:RelV x v) (ry:RelV y u) (h:uq y=some o):isSame v u=pure (uq x == some o):=by
 cases y with
 | non=>
  cases h
  cases ry
  cases x with
  | non=>cases rx;rfl
  | bl k=>cases rx;rfl
  | int i=>obtain ⟨t,rfl⟩:=rx;rfl
  | str z=>obtain ⟨t,rfl⟩:=rx;rfl
  | byt z=>obtain ⟨t,rfl⟩:=rx;rfl
  | flt z=>obtain ⟨t,rfl⟩:=rx;rfl
  | ref p=>cases rx;rfl
  | ty n=>cases rx;rfl
 | bl k'=>
  cases h
  cases ry
  cases x with
  | non=>cases rx;rfl
  | bl k=>cases rx;cases k <;> cases k' <;> rfl
  | int i=>obtain ⟨t,rfl⟩:=rx;rfl
  | str z=>obtain ⟨t,rfl⟩:=rx;rfl
  | byt z=>obtain ⟨t,rfl⟩:=rx;rfl
  | flt z=>obtain ⟨t,rfl⟩:=rx;rfl
  | ref p=>cases rx;rfl
  | ty n=>cases rx;rfl
 | _=>cases h
theorem F2:dD X (Wl .Is) (λx y H Q=>∃o,uq y=some o/\Q (.bl (uq x == some o)) H):=by
 intro UB s σ H x y v u Q I rx ry h
 obtain ⟨o,ho,q⟩:=h
 show U9 _ _ (do return Xk (<-isSame v u)) _ _ s
 rw [AX rx ry ho]
 exact UL (UO (UO ⟨.bl _,H,I,rfl,q⟩))
theorem xS:dD X (Wl .IsNot) (λx y H Q=>∃o,uq y=some o/\Q (.bl (!(uq x == some o))) H):=by
 intro UB s σ H x y v u Q I rx ry h
 obtain ⟨o,ho,q⟩:=h
 show U9 _ _ (do return Xk (!(<-isSame v u))) _ _ s
 rw [AX rx ry ho]
 exact UL (UO (UO ⟨.bl _,H,I,rfl,q⟩))
noncomputable def DY:R->Option (Option Bool)
 | .d .non=>some none
 | .d (.bl k)=>some (some k)
 | _=>none
noncomputable def gZ (neg:Bool) (x y:R):M R:=match DY y with
 | some o=>.ok (.d (.bl (if neg then !(DY x == some o) else DY x == some o)))
 | none=>.bad
theorem jn {He J H:Hp}:∀{r:R}{v:V},RR c He J H r v->uq v=DY r
 | .d .non,_,h=>by cases h;rfl
 | .d (.bl _),_,h=>by cases h;rfl
 | .d (.int _),_,h=>by cases h;rfl
 | .d (.str _),_,h=>by cases h;rfl
 | .d (.tup _),_,h=>by cases h;rfl
 | .d (.lst _),_,h=>by cases h;rfl
 | .d .emp,_,h=>by cases h;rfl
 | .d (.exn _ _ _),_,h=>by cases h;rfl
 | .d (.dct _ _),_,h=>by cases h;rfl
 | .l .fresh _,_,h=>by obtain ⟨_,_,rfl,_⟩:=h;rfl
 | .l .own _,_,h=>by obtain ⟨_,_,rfl,_⟩:=h;rfl
 | .l .bor _,_,h=>by obtain ⟨_,_,rfl,_⟩:=h;rfl
 | .mo _ _,_,h=>by obtain ⟨_,rfl,_⟩:=h;rfl
 | .mb _ _,_,h=>by obtain ⟨_,rfl,_⟩:=h;rfl
 | .mf _ _,_,h=>by obtain ⟨_,rfl,_⟩:=h;rfl
end
theorem Kl {P:U6}{w:Vs}{K:UM}{mg:Str->Option UN}{base:V1}{x UG:Str}{st:Xd}{f:Vd}{fd:Vk}{ps:List Str}{k:Nat}{Fm:List S->M R}(F:l_ K x UG st f fd) (hm:mg x=some (.ref f))
  (hbi:∀(kV doc pm:UN) (an:Option Vd) (cdv ct:UN) (us:List UN),us.length=ps.length->aau (VE x UG (cG st) (bS st) (aX st) .none kV doc pm an cdv ct) ⟨us,[]⟩=pure (ps.zip us))
  (hF:∀as,Fm as=.bad):bh P w K mg base k ps.length x Fm:=
 ⟨f,fd,ps,⟨λvs H Q E ⟨J,as,_,_,_,h⟩=>(by rw [hF as] at h;exact h.elim),λA outer s H args us vs Q E _ _ _ _ ⟨J,as,_,_,_,h⟩=>(by rw [hF as] at h;exact h.elim)⟩,hm,F.kp,F.binds hbi⟩
section
variable {X:Cx}{c:C}{e a b d tg:Vv}{es:List Vv}{ga gb g:G R}{pos:Pos}
def Qn (K:UM) (tl:TE):TI:=λσ H R=>tl σ H λx H1=>∃a,x=.ref a/\(((∃xs,cB K H1 a xs)/\R (IZ K a) H1)\/((∃xs,dg K H1 a xs)/\R (I_ K a) H1))
theorem F9 {tl:TE}(hl:PE X e tl):PI X tg e (Qn X.K tl):=λUB s σ H R I h=>bP (hl UB s σ H _ I h) λv s1 ⟨x,H1,I1,r1,a,ex,q1⟩=>by
 subst ex
 cases r1
 have fp:∀b∈[s1.heap.objs.size],jR X UB H1 b:=λb hb=>by
  rw [U4] at hb
  subst hb
  exact I1.fpOk (UX _) (I1.hok.fresh (UX _))
 rcases q1 with ⟨⟨xs,hq⟩,q⟩ | ⟨⟨xs,hq⟩,q⟩
 ·obtain ⟨UC,rv,p,hz⟩:=I1.list hq
  exact Yo p.isList ⟨s1.heap.objs.size,[s1.heap.objs.size],_,_,H1,rfl,I1.kept (t':=s1.toks) (λb o e=>US _ e),GH a _,⟨_,U0 _ rfl,rfl,rfl⟩,fp,q⟩
 ·obtain ⟨UC,rv,p,hz⟩:=I1.tuple hq
  exact Z7 (show s1.heap.IsTuple a UC.toArray from p) ⟨s1.heap.objs.size,[s1.heap.objs.size],_,_,H1,rfl,I1.kept (t':=s1.toks) (λb o e=>US _ e),Ek a _,⟨_,U0 _ rfl,rfl,rfl⟩,fp,q⟩
theorem yx {J1:Hp}{a:Vd}{vs:List V}{ds:List D}{U:Hp->Hp->Prop}(hU:∀J H,U J H->aU J1 J) (h:dg c.K J1 a vs) (hs:aL c.K J1 ds vs):Walk c (I_ c.K a) ds J1 U:=by
 intro i J H hp u
 have h':=fk hp.sub (fk (hU J H u) h)
 refine ⟨λhl=>⟨vs,h',by rw [<-hs.length];exact hl⟩,λd hd=>?_⟩
 obtain ⟨v,k1,k2⟩:=hs.get hd
 refine ⟨⟨vs,v,h',k1⟩,λx H2 ⟨e,hy⟩=>?_⟩
 subst e
 have:=hy vs h'
 rw [k1] at this
 cases this
 exact ⟨J,Ext.refl hp.sub,k2.mono (hU J _ u)⟩
noncomputable def fE (g:G R):G (List D):=λenv=>g env >>= λr=>match r with
 | .d (.tup xs)=>.ok xs
 | .d (.lst xs)=>.ok xs
 | .l .fresh xs=>.ok xs
 | .l .bor xs=>.ok xs
 | _=>.bad
def gU (g:G R):G (List D):=λenv=>g env >>= iK
end
section
variable {X:Cx}{c:C}{st:Xd}{g:G O}
theorem SR.frz {J H:Hp}{σ:L2.St}{env:Ev}(sr:SR c J H σ env){i:Nat}{x:Mn}{a:Vd}{o:HO}{d:D}(hi:env[i]?=some (some (mS x))) (h1:σ[i]?=some (some (.ref a))) (h2:H a=some o) (h3:J a=none) (h4:c.H0 a=none) (h5:Rep c.K (L2.upd J a o) d (.ref a)):∃J',aU J J'/\SR c J' H σ (env.set i (some (.d d))):=by
 have s1:aU J (L2.upd J a o):=cQ h3 _
 refine ⟨L2.upd J a o,s1,⟨⟨λb o q=>?_,sr.hp.ent,sr.hp.entJ.trans s1,λb k1 k2=>?_⟩,by simpa using sr.len,λj y q=>?_,λj k ys zs w hjk q1 q2 q3 q4=>?_⟩⟩
 ·by_cases hb:b=a
  ·subst hb;rw [b9] at q;cases q;exact h2
  ·rw [bD hb] at q;exact sr.hp.sub b o q
 ·have:b≠a:=λz=>k1 (z▸h4)
  rw [bD this];exact sr.hp.frz b k1 k2
 ·rcases gM q with ⟨rfl,hl,rfl⟩ | ⟨hj,q⟩
  ·exact ⟨.ref a,h1,h5⟩
  ·obtain ⟨w,k1,k2⟩:=sr.at_ j y q
   refine ⟨w,k1,?_⟩
   have hne:∀(z:Mn) p',y=mS z->w=.ref p'->p'≠a:=λz p' e ew ep=>sr.sep i j x z (.ref a) (WT hj) hi (e▸q) h1 (ep▸ew▸k1)
   cases y with
   | d x=>exact Rep.mono s1 k2
   | bor zs=>obtain ⟨p,us,m1,m2,m3⟩:=k2;exact ⟨p,us,m1,m2,m3.mono s1⟩
   | db _ _=>obtain ⟨p,m1,m2⟩:=k2;exact ⟨p,m1,m2.mono s1 (aU.refl _)⟩
   | fn _=>exact k2
   | dk ks zs=>
    obtain ⟨p,rfl,m1,m2,m3⟩:=k2
    exact ⟨p,rfl,m1.mono s1 (aU.refl _),by rw [bD (hne (.inr (ks,zs)) p rfl rfl)];exact m2,m3⟩
   | own zs=>
    obtain ⟨p,us,rfl,m1,m2,m3,m4⟩:=k2
    exact ⟨p,us,rfl,m1,by rw [bD (hne (.inl zs) p rfl rfl)];exact m2,m3,m4.mono s1⟩
 ·have f:∀(k:Nat) (ys:Mn),(env.set i (some (.d d)))[k]?=some (some (mS ys))->env[k]?=some (some (mS ys)):=λk ys q=>by
   rcases gM q with ⟨rfl,_,z⟩ | ⟨_,q⟩
   ·cases ys <;> cases z
   ·exact q
  exact sr.sep j k ys zs w hjk (f j ys q1) (f k zs q2) q3 q4
noncomputable def fS (i:Nat) (g:G O):G O:=λenv=>match env[i]? with
 | some (some (.own xs))=>g (env.set i (some (.d (.lst xs))))
 | some (some (.dk ks vs))=>g (env.set i (some (.d (.dct ks vs))))
 | _=>g env
end
structure QD (X:Cx) (c:C) (x0:Vv) (x1:G R):Prop where
 h:PD X c x0 x1
structure QB (X:Cx) (c:C) (x0:Vv) (x1:G Bool):Prop where
 h:PB X c x0 x1
structure iX (X:Cx) (c:C) (x0:List Vv) (x1:G (List R)):Prop where
 h:BK X c x0 x1
structure EA (X:Cx) (c:C) (x0:List Vv) (x1:G (List D)):Prop where
 h:QW X c x0 x1
structure jM (X:Cx) (c:C) (x0:Xd) (x1:G O):Prop where
 h:Mc X c x0 x1
structure nK (X:Cx) (c:C) (x0:List Xd) (x1:G O):Prop where
 h:Jg X c x0 x1
structure zI (X:Cx) (c:C) (x0:Vv) (x1:G Bool):Prop where
 h:QX X c x0 x1
structure qu (X:Cx) (c:C) (x0:Vv) (x1:GT):Prop where
 h:Ez X c x0 x1
structure Dd (X:Cx) (c:C) (x0:List Vv) (x1:uG):Prop where
 h:Qd X c x0 x1
structure BL (X:Cx) (c:C) (x0:Vv) (x1:Vv) (x2:G (List D)):Prop where
 h:PU X c x0 x1 x2
structure xh (X:Cx) (c:C) (x0:Vv) (x1:Vv) (x2:G (List D)):Prop where
 h:PR X c x0 x1 x2
structure qq (X:Cx) (c:C) (x0:List Vv) (x1:G Bool):Prop where
 h:Dc X c x0 x1
structure BN (X:Cx) (c:C) (x0:Option Vv) (x1:GO):Prop where
 h:Me X c x0 x1
section
variable {X:Cx}{c:C}{e a b:Vv}{ga gb:G R}{pos:Pos}
theorem aa (i:Nat) (hN:X.N[i]?=some x:=by rfl) (hv:sP X.env.scope x:=by first | exact Zt rfl | exact X6 (Zt rfl) | exact X6 (X6 rfl)) (hd:(x == ("__debug__":Str))=false:=by decide)
 (hcd:(x == ("__classdict__":Str))=false:=by decide):QD X c (.Name x pos) (af i):=⟨Le (lO hN hv hd hcd)⟩
theorem aq:QD X c (.Constant (.int i) j pos) (gC (.int i)):=⟨vA (λ_=>.int i) F7⟩
theorem eN:QD X c (.Constant (.bool i) j pos) (gC (.bl i)):=⟨vA (λ_=>.bl i) OZ⟩
theorem eE:QD X c (.Constant .none j pos) (gC .non):=⟨vA (λ_=>.non) NF⟩
theorem fK:QD X c (.Constant (.str x) j pos) (gC (.str x)):=⟨vA (λ_=>.str x) NI⟩
theorem CC (ha:QD X c a ga) (hb:QD X c b gb):QD X c (.BinOp a .Sub b pos) (g2 DE ga gb):=have ha:=ha.h;have hb:=hb.h;⟨mZ Nv (j6 λ_ _ _=>.int _) ha hb⟩
theorem cZ (ha:QD X c a ga) (hb:QD X c b gb):QD X c (.BinOp a .FloorDiv b pos) (g2 fC ga gb):=have ha:=ha.h;have hb:=hb.h;⟨mZ K5 (zO (λi j h=>KP h) λ_ _ _=>.int _) ha hb⟩
theorem bO (ha:QD X c a ga) (hb:QD X c b gb):QD X c (.BinOp a .Mod b pos) (g2 cV ga gb):=have ha:=ha.h;have hb:=hb.h;⟨mZ Nq (zO (λi j h=>by unfold M4 at h;exact of_decide_eq_true h) λ_ _ _=>.int _) ha hb⟩
theorem jo (ha:QD X c a ga) (hb:QD X c b gb):QD X c (.BinOp a .Pow b pos) (g2 oX ga gb):=have ha:=ha.h;have hb:=hb.h;⟨mZ Nu (zO (λi j h=>KR h) λ_ _ _=>.int _) ha hb⟩
theorem Gh (ha:QD X c a ga) (hb:QD X c b gb):QD X c (.Compare a [.Gt] [b] pos) (g2 (nO λi j=>.bl (decide (j < i))) ga gb):=have ha:=ha.h;have hb:=hb.h;⟨n5 zc (j6 λ_ _ _=>.bl _) ha hb⟩
theorem au:iX X c [] aE:=⟨zd iZ λσ H Q ⟨J,env,sr,w⟩=>w [] J H (Ext.refl sr.hp.sub) rfl⟩
theorem ak {es:List Vv}{g:G R}{gs:G (List R)}(h:QD X c e g) (hs:iX X c es gs) (hst:UZ (e::es) X.env=(false,eval e X.env)::UZ es X.env:=by rfl):iX X c (e::es) (ao g gs):=have h:=h.h;have hs:=hs.h;⟨
 zd (fH h hs hst) λσ H Q ⟨J,env,sr,w⟩=>by
  refine ⟨J,env,sr,aF (aK w) λx wx u J1 H1 e1 r1=>?_⟩
  refine ⟨J1,env,sr.ext e1,aF (aK wx) λxs wy us J2 H2 e2 r2=>?_⟩
  exact wy (u::us) J2 H2 (e1.trans e2) ⟨u,us,rfl,r1.ext e2,kI.from e1.h r2⟩⟩
end
section
variable {X:Cx}{c:C}{e a b:Vv}{es:List Vv}{ga gb g:G R}{pos:Pos}
theorem aJ:EA X c [] aT:=⟨zd iZ λσ H Q ⟨J,env,sr,w⟩=>w [] J H (Ext.refl sr.hp.sub) .nil⟩
theorem ay {gs:G (List D)}(h:QD X c e g) (hs:EA X c es gs) (hst:UZ (e::es) X.env=(false,eval e X.env)::UZ es X.env:=by rfl):EA X c (e::es) (aA g gs):=have h:=h.h;have hs:=hs.h;⟨
 zd (fH h hs hst) λσ H Q ⟨J,env,sr,w⟩=>by
  refine ⟨J,env,sr,aF (aK w) λx wx u J1 H1 e1 r1=>?_⟩
  obtain ⟨d,q,wx⟩:=jt wx
  obtain ⟨J1',e1',s1,rd⟩:=freeze e1 r1 q
  refine ⟨J1',env,sr.ext e1',aF (aK wx) λxs wy us J2 H2 e2 r2=>?_⟩
  exact wy (u::us) J2 H2 (e1'.trans e2) (.cons (rd.mono e2.j) r2)⟩
theorem aZ {k}{gs:G (List D)}(h:EA X c es gs):QD X c (.Tuple es k pos) (bE gs):=have h:=h.h;⟨fj (NJ h) λσ H Q ⟨J,env,sr,w⟩=>by
 refine ⟨J,env,sr,aF (aK w) λds wd vs J1 H1 e1 r1=>?_⟩
 split at wd
 ·rename_i hz
  rw [r1.length] at hz
  exact ⟨hz,λp hp=>wd _ _ _ (e1.trans (Ext.newJ e1.sub hp _)) (qS (sr.hp.ext e1) hp r1)⟩
 ·exact wd.elim⟩
theorem b_ {gs:G (List D)}(h:EA X c es gs):QD X c (.List es pos) (dR gs):=have h:=h.h;⟨fj (ND h) λσ H Q ⟨J,env,sr,w⟩=>by
 refine ⟨J,env,sr,aF (aK w) λds wd vs J1 H1 e1 r1=>?_⟩
 split at wd
 ·rename_i hz
  rw [r1.length] at hz
  exact ⟨hz,λp hp=>wd _ _ _ (e1.trans (Ext.new e1.sub hp _)) (RR.from e1.h (iz (sr.hp.ext e1) hp r1))⟩
 ·exact wd.elim⟩
theorem e_ {p:Pos}{gs:G (List R)}(ha:iX X c (e::es) gs) (hm:X.mg "len"=none) (hK:X.K=c.K:=by rfl) (hg:Gl X "len":=by rfl)
  (he:UZ (e::es) X.env=(false,eval e X.env)::UZ es X.env:=by rfl) (hpl:(Wu pos (UZ es X.env)).any (·.1)=false:=by rfl):QD X c (.Call (.Name "len" p) (e::es) [] pos) (gN eS gs):=have ha:=ha.h;⟨
 jc (zT.or zS) (by
  intro He J H xs vs Q hp rs w
  unfold eS at w
  split at w
  ·obtain ⟨v,rfl,r⟩:=rs.one
   cases r
   split at w
   ·rename_i hz;exact .inl ⟨_,rfl,hz,w _ J H (Ext.refl hp.sub) (.int _)⟩
   ·exact w.elim
  ·obtain ⟨v,rfl,r⟩:=rs.one
   obtain ⟨xs,q,w⟩:=jr w
   obtain ⟨p,vs,rfl,hq,hs⟩:=kZ hp r q
   have w':=w (.int vs.length) J H (Ext.refl hp.sub) (by rw [hs.length];exact .int _)
   exact .inr ⟨p,vs,rfl,by rw [hK];exact hq,w'⟩
  ·exact w.elim) PySem.boot_len hm ha hg (by decide) (by decide) he hpl⟩
theorem cC {gs:G (List R)}(ha:iX X c (e::es) gs) (hm:X.mg "tuple"=none) (hK:X.K=c.K:=by rfl) (hg:Gl X "tuple":=by rfl)
 (he:UZ (e::es) X.env=(false,eval e X.env)::UZ es X.env:=by rfl) (hpl:(Wu pos (UZ es X.env)).any (·.1)=false:=by rfl):QD X c (.Call (.Name "tuple" p) (e::es) [] pos) (gN dw gs):=have ha:=ha.h;⟨
 qO yH (by
  intro He J H xs vs Q hp rs w
  unfold dw at w
  split at w
  ·obtain ⟨v,rfl,r⟩:=rs.one
   rename_i r0
   obtain ⟨xs,q,w⟩:=jr w
   cases r0 with
   | d y=>
    cases y with
    | tup ys=>
     cases q
     cases r with
     | tup h hs=>exact ⟨_,_,rfl,.inr ⟨by rw [hK];exact fk hp.sub h,w _ J H (Ext.refl hp.sub) (.tup h hs)⟩⟩
    | lst ys=>
     cases q
     obtain ⟨p,vs,rfl,hq,hs⟩:=RR.list hp r rfl
     exact ⟨p,vs,rfl,.inl ⟨by rw [hK];exact hq,λl hl=>w _ _ _ (Ext.newJ hp.sub hl _) (qS hp hl hs)⟩⟩
    | _=>cases q
   | mo _ _=>cases q
   | mb _ _=>cases q
   | mf _ _=>cases q
   | l m ys=>
    cases q
    obtain ⟨p,vs,rfl,hq,hs⟩:=RR.list hp r rfl
    exact ⟨p,vs,rfl,.inl ⟨by rw [hK];exact hq,λl hl=>w _ _ _ (Ext.newJ hp.sub hl _) (qS hp hl hs)⟩⟩
  ·exact w.elim) Bj hm ha hg (by decide) (by decide) he hpl⟩
theorem Io {p:Pos}{gs:G (List R)}(ha:iX X c (e::es) gs) (hm:X.mg "list"=none) (hK:X.K=c.K:=by rfl) (hg:Gl X "list":=by rfl)
  (he:UZ (e::es) X.env=(false,eval e X.env)::UZ es X.env:=by rfl) (hpl:(Wu pos (UZ es X.env)).any (·.1)=false:=by rfl):QD X c (.Call (.Name "list" p) (e::es) [] pos) (gN DA gs):=have ha:=ha.h;⟨
 qO zU (by
  intro He J H xs vs Q hp rs w
  unfold DA at w
  split at w
  ·obtain ⟨v,rfl,r⟩:=rs.one
   obtain ⟨xs,q,w⟩:=jr w
   obtain ⟨p,vs,rfl,hq,hs⟩:=kZ hp r q
   exact ⟨p,vs,rfl,by rw [hK];exact hq,λl hl=>w _ _ _ (Ext.new hp.sub hl _) (iz hp hl hs)⟩
  ·exact w.elim) uR hm ha hg (by decide) (by decide) he hpl⟩
theorem dI (h:QD X c e g) (he:∀whole,abw e X.env whole=(do let v <-whole;Yd e.pos;holding [v] (truthy v)):=by intro _;rfl):QB X c e (bx g):=have h:=h.h;⟨zg (NU h he) λσ H Q ⟨J,env,sr,w⟩=>by
 refine ⟨J,env,sr,aF (aK w) λr wr v J1 H1 e1 r1=>?_⟩
 split at wr
 ·cases r1;exact ⟨_,rfl,wr J1 H1 e1⟩
 ·exact wr.elim⟩
theorem n6 {f:R->R->M R}(ho:dD X (Wl op) r) (hf:BD c r f) (ha:QD X c a ga) (hb:QD X c b gb) (hm:V9 op b=false:=by first | exact AJ _ | rfl):QB X c (.Compare a [op] [b] pos) (bx (g2 f ga gb)):=⟨i6 ho hf ha.h hb.h hm⟩
variable {t u:G Bool}{rest:List Vv}
theorem iH (h:zI X c e t):QB X c e t:=have h:=h.h;⟨PW.pt h⟩
theorem lP (h:QB X c a t):zI X c (.BoolOp .And [a] pos) t:=have h:=h.h;⟨Lp h⟩
theorem r6 (h:QB X c a t):zI X c (.BoolOp .Or [a] pos) t:=have h:=h.h;⟨NZ h⟩
theorem ly (h:QB X c a t) (h':zI X c (.BoolOp .And (b::rest) pos) u):zI X c (.BoolOp .And (a::b::rest) pos) (iP t u):=have h:=h.h;have h':=h'.h;⟨JJ (NY h h') λσ H Q ⟨J,env,sr,w⟩=>by
 refine ⟨J,env,sr,aF (aK w) λk wk J1 H1 e1=>?_⟩
 cases k with
 | true=>
  rw [if_pos rfl] at wk ⊢
  exact ⟨J1,env,sr.ext e1,aF wk λk q J2 H2 e2=>q J2 H2 (e1.trans e2)⟩
 | false=>
  rw [if_neg (by decide)] at wk ⊢
  exact wk J1 H1 e1⟩
theorem qR (h:QB X c a t) (h':zI X c (.BoolOp .Or (b::rest) pos) u):zI X c (.BoolOp .Or (a::b::rest) pos) (ki t u):=have h:=h.h;have h':=h'.h;⟨JJ (O7 h h') λσ H Q ⟨J,env,sr,w⟩=>by
 refine ⟨J,env,sr,aF (aK w) λk wk J1 H1 e1=>?_⟩
 cases k with
 | true=>
  rw [if_pos rfl] at wk ⊢
  exact wk J1 H1 e1
 | false=>
  rw [if_neg (by decide)] at wk ⊢
  exact ⟨J1,env,sr.ext e1,aF wk λk q J2 H2 e2=>q J2 H2 (e1.trans e2)⟩⟩
theorem iI (h:QB X c a t):QB X c (.UnaryOp .Not a pos) (gy t):=have h:=h.h;⟨zg (NT h) λσ H Q ⟨J,env,sr,w⟩=>⟨J,env,sr,aF (aK w) λk wk J1 H1 e1=>wk J1 H1 e1⟩⟩
theorem pI {op}(h:QD X c a ga):QD X c (.BoolOp op [a] pos) ga:=have h:=h.h;⟨NH h⟩
theorem r_ (h:QD X c a ga) (h':QD X c (.BoolOp .And (b::rest) pos) gb):QD X c (.BoolOp .And (a::b::rest) pos) (rO ga gb):=have h:=h.h;have h':=h'.h;⟨fj (NC h h') λσ H Q ⟨J,env,sr,w⟩=>by
 refine ⟨J,env,sr,aF (aK w) λr wr v J1 H1 e1 r1=>?_⟩
 split at wr
 ·cases r1
  exact ⟨true,rfl,MV ⟨J1,env,sr.ext e1,aF wr λz q v J2 H2 e2 r2=>q v J2 H2 (e1.trans e2) (RR.from e1.h r2)⟩⟩
 ·cases r1
  exact ⟨false,rfl,MU (wr _ J1 H1 e1 (.bl _))⟩
 ·exact wr.elim⟩
theorem N2 (h:QD X c a ga) (h':QD X c (.BoolOp .Or (b::rest) pos) gb):QD X c (.BoolOp .Or (a::b::rest) pos) (uh ga gb):=have h:=h.h;have h':=h'.h;⟨fj (O4 h h') λσ H Q ⟨J,env,sr,w⟩=>by
 refine ⟨J,env,sr,aF (aK w) λr wr v J1 H1 e1 r1=>?_⟩
 split at wr
 ·cases r1
  exact ⟨false,rfl,MU ⟨J1,env,sr.ext e1,aF wr λz q v J2 H2 e2 r2=>q v J2 H2 (e1.trans e2) (RR.from e1.h r2)⟩⟩
 ·cases r1
  exact ⟨true,rfl,MV (wr _ J1 H1 e1 (.bl _))⟩
 ·exact wr.elim⟩
theorem CA (h:QD X c a ga):QD X c (.UnaryOp .Not a pos) (DH ga):=have h:=h.h;⟨fj (NG h) λσ H Q ⟨J,env,sr,w⟩=>by
 refine ⟨J,env,sr,aF (aK w) λr wr v J1 H1 e1 r1=>?_⟩
 split at wr
 ·cases r1
  exact ⟨_,rfl,wr _ J1 H1 e1 (.bl _)⟩
 ·exact wr.elim⟩
end
section
variable {X:Cx}{c:C}{e a b tg:Vv}{es:List Vv}{ga gb g:G R}{pos:Pos}{st:Xd}{rest:List Xd}{t u:G O}{tb:G Bool}
theorem bw:nK X c [] cL:=⟨Gf Lm λE σ H ⟨J,env,sr,w⟩=>w σ J H (aU.refl J) sr⟩
theorem av (h:jM X c st t) (h':nK X c rest u):nK X c (st::rest) (aH t u):=have h:=h.h;have h':=h'.h;⟨Gf (Ih h h') λE σ H ⟨J,env,sr,w⟩=>by
 refine ⟨J,env,sr,aF (aK w) λo wo=>?_⟩
 cases o with
 | nx e=>exact λσ' J' H' s' sr'=>⟨J',e,sr',aF wo λo q=>q.mono s'⟩
 | rt r=>exact wo
 | bk e=>exact wo
 | ct e=>exact wo⟩
theorem az (h:jM X c st t):nK X c [st] t:=have h:=h.h;⟨Ln h⟩
theorem gr (h:QD X c e g) (hs:ZJ e none pos.line X.env=pure false:=by rfl):jM X c (.Expr e pos) (jD g):=have h:=h.h;⟨i7 (rY h hs) λE σ H ⟨J,env,sr,w⟩=>
 ⟨J,env,sr,aF (aK w) λr wr v J1 H1 e1 r1=>wr σ J1 H1 e1.j (sr.ext e1)⟩⟩
theorem aM (h:QD X c e g):jM X c (.Return (some e) pos) (bf g):=have h:=h.h;⟨i7 (NR h) λE σ H ⟨J,env,sr,w⟩=>by
 refine ⟨J,env,sr,aF (aK w) λr wr v J1 H1 e1 r1=>?_⟩
 cases q:rF r with
 | bad=>rw [q] at wr;exact wr.elim
 | exc x=>cases r with
  | d _=>cases q
  | l m _=>cases m <;> cases q
  | mo _ _=>cases q
  | mb _ _=>cases q
  | mf _ _=>cases q
 | ok r'=>rw [q] at wr;exact wr v J1 H1 e1.j (sr.hp.ext e1) (RR.rf sr.hp r1 q)⟩
theorem bG {x:Vv}{as bs:List Xd}(hx:QB X c x tb) (h:nK X c as t) (h':nK X c bs u):jM X c (.If x as bs pos) (bK tb t u):=have hx:=hx.h;have h:=h.h;have h':=h'.h;⟨i7 (O5 hx h h') λE σ H ⟨J,env,sr,w⟩=>by
 refine ⟨J,env,sr,aF (aK w) λk wk J1 H1 e1=>?_⟩
 cases k with
 | true=>
  rw [if_pos rfl] at wk ⊢
  exact ⟨J1,env,sr.ext e1,aF wk λo q=>q.mono e1.j⟩
 | false=>
  rw [if_neg (by decide)] at wk ⊢
  exact ⟨J1,env,sr.ext e1,aF wk λo q=>q.mono e1.j⟩⟩
theorem aO (i:Nat){x:Str}{pos':Pos}(hN:X.N.Nodup) (h:QD X c e g) (hi:X.N[i]?=some x:=by rfl) (hx:Loc X.env.scope x:=by first | exact Zt rfl | exact X6 rfl) (hs:ZJ e (some (.Name x pos')) pos.line X.env=pure false:=by rfl)
  (hf:X.fn x=true\/X.env.scope.names.lookup x=some .local:=by first | exact .inl rfl | exact .inr rfl):jM X c (.Assign [.Name x pos'] e pos) (bg i g):=have h:=h.h;⟨i7 (NS hN hi hx h hs hf) λE σ H ⟨J,env,sr,w⟩=>by
 refine ⟨J,env,sr,aF (aK w) λr wr v J1 H1 e1 r1=>?_⟩
 obtain ⟨x,q,wr⟩:=wU wr
 exact wr (σ.set i (some v)) J1 H1 e1.j (sr.set e1 r1 q)⟩
theorem aD (i:Nat){x:Str}(hN:X.N.Nodup) (hi:X.N[i]?=some x:=by rfl) (hx:Loc X.env.scope x:=by first | exact Zt rfl | exact X6 rfl) (hf:X.fn x=true\/X.env.scope.names.lookup x=some .local:=by first | exact .inl rfl | exact .inr rfl):qu X c (.Name x pos) (aC i):=⟨
 JH (Lh hN hi hx hf) λv σ H Q ⟨J,env,d,sr,rd,w⟩=>w _ (sr.setD (x:=.d d) rd λx z=>by cases x <;> cases z) λj xs q=>by
  rcases gM q with ⟨_,_,e⟩ | ⟨hj,q⟩
  ·cases xs <;> cases e
  ·exact ⟨q,VF (WT hj)⟩⟩
theorem cA:Dd X c [] dB:=⟨F8 Li λvs σ H Q ⟨J,env,ds,sr,rd,w⟩=>by
 cases rd with
 | nil=>exact ⟨rfl,w σ sr KO.refl⟩
 | cons _ _=>exact w.elim⟩
theorem aW {t:GT}{u:uG}(h:qu X c e t) (h':Dd X c es u) (hs:(XC (e::es) X.env).map (·.2)=assign e X.env::(XC es X.env).map (·.2):=by rfl):Dd X c (e::es) (bA t u):=have h:=h.h;have h':=h'.h;⟨
 F8 (Ib h h' hs) λvs σ H Q ⟨J,env,ds,sr,rd,w⟩=>by
  cases rd with
  | nil=>exact w.elim
  | cons r rs=>
   refine ⟨_,_,rfl,J,env,_,sr,r,aF (aK w) λe1 w1 σ' sr' ko=>?_⟩
   exact ⟨J,e1,_,sr',rs,aF w1 λe2 q σ2 sr2 ko2=>q σ2 sr2 (ko.trans ko2)⟩⟩
theorem cI {k:Nat}{u:uG}{n:Nat}(h:Dd X c es u) (hc:X.calm=true:=by rfl) (hK:X.K=c.K:=by rfl) (hn:(XC es X.env).length=n:=by rfl) (hst:(XC es X.env).findIdx? (·.1)=none:=by rfl):qu X c (.Tuple es k pos) (c7 n u):=have h:=h.h;⟨
 JH (NL hc h hn hst) λv σ H Q ⟨J,env,d,sr,rd,w⟩=>by
  cases rd with
  | tup h1 h2=>
   unfold c7 at w
   simp only at w
   split at w
   ·rename_i hl
    exact ⟨_,_,rfl,by rw [hK];exact fk sr.hp.sub h1,by rw [<-h2.length];exact hl,J,env,_,sr,h2,w⟩
   ·exact w.elim
  | _=>exact w.elim⟩
theorem bI {UE:Vv}{body:List Xd}{gi:G (List D)}{t:GT}(hi:BL X c tg UE gi) (ht:qu X c tg t) (hb:nK X c body u) (hp:acX (Vg X.prog X.w) X.A X.env X.xe:=by first | exact ac5 | exact aco) (hc:X.calm=true:=by rfl)
  (hs:∀x,We UE X.env x=pure x:=by intro _;rfl):jM X c (.For tg UE body [] pos) (cg gi t u):=have hi:=hi.h;have ht:=ht.h;have hb:=hb.h;⟨i7 (NQ hp hc hi ht hb hs) λE σ H ⟨J,env,sr,w⟩=>by
 refine ⟨J,env,sr,aF (aK w) λds wd It J1 H1 e1 wk=>?_⟩
 refine ⟨λi m σ H=>m=ds.length - i/\∃J' env,aU J1 J'/\SR c J' H σ env/\cD (fh t u (ds.drop i) env) (oP c J' E) c.T,
  ⟨ds.length,by simp,J1,env,aU.refl J1,sr.ext e1,by rw [adA];exact aF wd λo q=>q.mono e1.j⟩,?_⟩
 rintro i m σ H ⟨rfl,J',env,s',sr',w'⟩
 obtain ⟨w1,w2⟩:=wk i J' H sr'.hp s'
 by_cases hlt:i < ds.length
 ·obtain ⟨g1,y1⟩:=w2 ds[i] (by simp [hlt])
  rw [Yx hlt] at w'
  refine .inr ⟨g1,λσ2 H2=>∃J2 env2,aU J' J2/\SR c J2 H2 σ2 env2/\cD (fh t u (ds.drop (i + 1)) env2) (oP c J2 E) c.T,?_,?_⟩
  ·rintro σ2 H2 ⟨J2,env2,s2,sr2,w2⟩
   exact ⟨ds.length - (i + 1),by omega,rfl,J2,env2,s'.trans s2,sr2,w2⟩
  ·intro x H2 hy
   obtain ⟨J2,e2,rx⟩:=y1 x H2 hy
   refine ⟨J2,env,ds[i],sr'.ext e2,rx,aF (aK w') λenv3 w3 σ3 sr3 _=>?_⟩
   refine ⟨J2,env3,sr3,aF (aK w3) λo wo=>?_⟩
   cases o with
   | nx env4=>exact λσ4 J4 H4 s4 sr4=>⟨J4,env4,e2.j.trans s4,sr4,aF wo λo q=>q.mono (e2.j.trans s4)⟩
   | ct env4=>exact λσ4 J4 H4 s4 sr4=>⟨J4,env4,e2.j.trans s4,sr4,aF wo λo q=>q.mono (e2.j.trans s4)⟩
   | bk env4=>exact λσ4 J4 H4 s4 sr4=>wo σ4 J4 H4 (e2.j.trans s4) sr4
   | rt r=>exact λv J4 H4 s4 h4 r4=>wo v J4 H4 (e2.j.trans s4) h4 r4
 ·rw [aaO (by omega)] at w'
  exact .inl ⟨w1 (by omega),w' σ J' H (aU.refl J') sr'⟩⟩
theorem a_ {p:Pos}{gs:G (List R)}(ha:iX X c [a] gs) (hm:X.mg "range"=none) (hg:Gl X "range":=by rfl) (hs:UZ [a] X.env=[(false,eval a X.env)]:=by rfl):BL X c tg (.Call (.Name "range" p) [a] [] pos) (bR gs):=have ha:=ha.h;⟨
 rX (F_ hg hm ha hs) λσ H Q ⟨J,env,sr,w⟩=>by
  refine ⟨J,env,sr,aF (aK w) λrs wr vs J1 H1 e1 r1=>?_⟩
  split at wr
  ·split at wr
   ·rename_i h
    obtain ⟨v,rfl,r⟩:=r1.one
    cases r
    have h:=dh.mp h
    exact ⟨_,rfl,Int.le_of_lt h.1,h.2,wr _ J1 H1 e1 El⟩
   ·exact wr.elim
  ·exact wr.elim⟩
theorem eF {gi:G (List D)}(h:BL X c tg e gi):xh X c tg e gi:=have h:=h.h;⟨rX h λσ H Q ⟨J,env,sr,w⟩=>
 ⟨J,env,sr,aF w λds q It J1 H1 e1 wk=>q It J1 H1 e1 λi J' H' hp u=>wk i J' H' hp u.1⟩⟩
end
section
variable {X:Cx}{c:C}{e a b tg:Vv}{es:List Vv}{ga gb g:G R}{pos:Pos}
theorem cR (i:Nat){x:Str}{p1 p2 pos':Pos}(h:QD X c e g) (hN:X.N[i]?=some x:=by rfl) (hv:sP X.env.scope x:=by first | exact Zt rfl | exact X6 (Zt rfl) | exact X6 (X6 rfl)) (hd:(x == ("__debug__":Str))=false:=by decide)
  (hcd:(x == ("__classdict__":Str))=false:=by decide)
  (hbase:Ym (.Name x p1) "append" X.env (eval (.Name x p1) X.env)=eval (.Name x p1) X.env:=by rfl)
  (hfew:((Wu pos' (UZ [e] X.env)).all (λx=>!x.1) && (acU pos' (aav [] X.env)).all (λx=>x.1.isSome)
   && decide (([e]:List Vv).length + ([]:List aaw).length + (if ([]:List aaw).isEmpty then 0 else 1) < 30))=true:=by rfl)
  (hline:(p2.endLine == pos'.line)=true:=by rfl) (hst:UZ [e] X.env=(false,eval e X.env)::UZ [] X.env:=by rfl) (hplain:(Wu pos' (UZ [] X.env)).any (·.1)=false:=by rfl)
  (hs:ZJ (.Call (.Attribute (.Name x p1) "append" p2) [e] [] pos') none pos.line X.env=pure false:=by rfl):jM X c (.Expr (.Call (.Attribute (.Name x p1) "append" p2) [e] [] pos') pos) (f9 i g):=have h:=h.h;⟨
 i7 (rY (ze X3 aai aaj qM (lO hN hv hd hcd) (fH h iZ hst) hbase hfew hline hst hplain) hs) λE σ H ⟨J,env,sr,w⟩=>by
  unfold f9 at w
  split at w
  ·rename_i xs hi
   obtain ⟨v,h1,a,vs,rfl,h2,h3,h4,h5⟩:=sr.at_ i _ hi
   refine ⟨.ref a,h1,.inl ⟨rfl,vs,cB.of h2⟩,?_⟩
   refine ⟨J,env,sr,aF (aK w) λr wr y J1 H1 e1 r1=>?_⟩
   obtain ⟨d,q,wr⟩:=jt wr
   obtain ⟨J2,e2,s2,rd⟩:=freeze e1 r1 q
   split at wr
   ·rename_i hz
    refine ⟨a,vs,y,rfl,rfl,e2.h _ _ h2,by rw [<-h5.length];exact hz,?_⟩
    refine wr σ J2 _ e2.j ?_
    exact (sr.ext e2).upd hi h1 (e2.h _ _ h2) (e2.frz a (by rw [h2];intro z;cases z) h3) h4 ((h5.mono e2.j).append (.cons rd .nil))
   ·exact wr.elim
  ·exact w.elim⟩
end
section
variable {X:Cx}{c:C}
theorem bC:qq X c [] cM:=⟨λUB s σ H Q I ⟨J,env,sr,w⟩=>wpAny_tests_nil ⟨H,I,w J H (Ext.refl sr.hp.sub)⟩⟩
theorem gu {g:G Bool}(h:QB X c x g):qq X c [x] g:=have h:=h.h;⟨λUB s σ H Q I q=>wpAny_tests_one (h UB s σ H Q I q)⟩
end
section
variable {K:UM}{J:Hp}{s:UP}
variable {X:Cx}{c:C}{e a b tg:Vv}{es:List Vv}{ga gb g:G R}{pos:Pos}
theorem n_ (hu:X.A.units + 64 < Wj) (ha:QD X c a ga) (hb:QD X c b gb) (hK:X.K=c.K:=by rfl):QD X c (.Compare a [.Eq] [b] pos) (g2 (cj false) ga gb):=have ha:=ha.h;have hb:=hb.h;⟨n5 (FZ hu) (Dl false hK) ha hb⟩
theorem fO (hu:X.A.units + 64 < Wj) (ha:QD X c a ga) (hb:QD X c b gb) (hK:X.K=c.K:=by rfl):QB X c (.Compare a [.Eq] [b] pos) (bx (g2 (cj false) ga gb)):=have ha:=ha.h;have hb:=hb.h;⟨i6 (FZ hu) (Dl false hK) ha hb⟩
theorem lQ (hu:X.A.units + 64 < Wj) (ha:QD X c a ga) (hb:QD X c b gb) (hK:X.K=c.K:=by rfl):QB X c (.Compare a [.NotEq] [b] pos) (bx (g2 (cj true) ga gb)):=have ha:=ha.h;have hb:=hb.h;⟨i6 (Nt hu) (Dl true hK) ha hb⟩
theorem oh (hu:X.A.units + 64 < Wj) (ha:QD X c a ga) (hb:QD X c b gb) (hK:X.K=c.K:=by rfl) (hm:V9 .In b=false:=by rfl):QD X c (.Compare a [.In] [b] pos) (g2 (fB false) ga gb):=have ha:=ha.h;have hb:=hb.h;⟨n5 (F0 hu) (Dm false hK) ha hb hm⟩
theorem N1 (hu:X.A.units + 64 < Wj) (ha:QD X c a ga) (hb:QD X c b gb) (hK:X.K=c.K:=by rfl) (hm:V9 .In b=false:=by rfl):QB X c (.Compare a [.In] [b] pos) (bx (g2 (fB false) ga gb)):=have ha:=ha.h;have hb:=hb.h;⟨i6 (F0 hu) (Dm false hK) ha hb hm⟩
theorem xW (hu:X.A.units + 64 < Wj) (ha:QD X c a ga) (hb:QD X c b gb) (hK:X.K=c.K:=by rfl) (hm:V9 .NotIn b=false:=by rfl):QB X c (.Compare a [.NotIn] [b] pos) (bx (g2 (fB true) ga gb)):=have ha:=ha.h;have hb:=hb.h;⟨i6 (F3 hu) (Dm true hK) ha hb hm⟩
end
section
variable {X:Cx}{c:C}{e a b tg:Vv}{es:List Vv}{ga gb g:G R}{pos:Pos}
theorem iw:BN X c none vd:=⟨JI Lk λσ H Q ⟨J,env,sr,w⟩=>w J H (Ext.refl sr.hp.sub)⟩
theorem iy (h:QD X c e g):BN X c (some e) (qC g):=have h:=h.h;⟨JI (Ll h) λσ H Q ⟨J,env,sr,w⟩=>by
 refine ⟨J,env,sr,aF (aK w) λr wr v J1 H1 e1 r1=>?_⟩
 split at wr
 ·cases r1;exact ⟨_,rfl,wr J1 H1 e1⟩
 ·exact wr.elim⟩
theorem vC {p:Pos}{gs:G (List R)}(ha:iX X c (e::es) gs) (hm:X.mg "sorted"=none) (hK:X.K=c.K:=by rfl) (hg:Gl X "sorted":=by rfl)
  (he:UZ (e::es) X.env=(false,eval e X.env)::UZ es X.env:=by rfl) (hpl:(Wu pos (UZ es X.env)).any (·.1)=false:=by rfl):QD X c (.Call (.Name "sorted" p) (e::es) [] pos) (gN k9 gs):=have ha:=ha.h;⟨
 jc zV (by
  intro He J H xs vs Q hp rs w
  unfold k9 at w
  split at w
  ·obtain ⟨v,rfl,r⟩:=rs.one
   obtain ⟨xs,q,w⟩:=oE w
   obtain ⟨p,vs,rfl,h1,h2⟩:=RR.list hp r q
   split at w
   ·rename_i ss z
    split at w
    ·rename_i hl
     have:=vK z h2
     subst this
     refine ⟨p,ss,rfl,by rw [hK];exact h1,hl,λss' hp' hs' l hl'=>?_⟩
     rw [Ed hp' hs']
     exact w _ _ _ (Ext.new hp.sub hl' _) (iz hp hl' (yc _))
    ·exact w.elim
   ·exact w.elim
  ·exact w.elim) lH hm ha hg (by decide) (by decide) he hpl⟩
theorem gD (ha:QD X c a ga) (hb:QD X c b gb):QD X c (.BinOp a .Add b pos) (g2 iE ga gb):=by
 have ha:=ha.h
 have hb:=hb.h
 refine ⟨?_⟩
 have h1:BD c (tK λi j=>.int (i + j)) we:=j6 λ_ _ _=>.int _
 have q:=mZ (pos:=pos) (FU.or (vz.or FW)) (BD.or (c:=c) (λx _=>FD x) h1 (BD.or (c:=c) (λx _=>MR x) (f:=uZ) (f':=u5) (by
  intro He He' J H x y u v Q hp rx ry w
  unfold uZ at w
  split at w
  ·cases rx;cases ry
   split at w
   ·rename_i h;exact ⟨_,_,rfl,rfl,h,w _ J H (Ext.refl hp.sub) (.str _)⟩
   ·exact w.elim
  ·exact w.elim) (by
  intro He He' J H x y u v Q hp rx ry w
  unfold u5 at w
  split at w
  ·rename_i hm
   rw [UT] at hm
   obtain ⟨p,vs,xs,e1,rfl,h1,s1⟩:=rx.made hm.1
   obtain ⟨p2,vs2,ys,e2,rfl,h2,s2⟩:=ry.made hm.2
   rw [e1,e2] at w
   simp only [aS] at w
   split at w
   ·rename_i hz
    rw [s1.length,s2.length] at hz
    exact ⟨p,p2,vs,vs2,rfl,rfl,h1,h2,hz,λq hq=>w _ J _ (Ext.new hp.sub hq _) (iz hp hq (s1.append s2))⟩
   ·exact w.elim
  ·exact w.elim))) ha hb
 exact q
theorem fP (ha:QD X c a ga) (hb:QD X c b gb):QD X c (.BinOp a .Mult b pos) (g2 gJ ga gb):=by
 have ha:=ha.h
 have hb:=hb.h
 refine ⟨?_⟩
 have h1:BD c (rI CP λi j=>.int (i * j)) MI:=zO (λi j h=>KQ h) λ_ _ _=>.int _
 exact mZ (pos:=pos) (Nr.or K6) (BD.or (c:=c) (λx _=>FD x) h1 (f':=DC) (by
  intro He He' J H x y u v Q hp rx ry w
  unfold DC at w
  split at w
  ·cases rx;cases ry
   split at w
   ·rename_i h;exact ⟨_,_,rfl,rfl,h.1,h.2.1,h.2.2,w _ J H (Ext.refl hp.sub) (.str _)⟩
   ·exact w.elim
  ·exact w.elim)) ha hb
theorem aG (ha:QD X c a ga) (hb:QD X c b gb) (hK:X.K=c.K:=by rfl) (hs:rG b:=by exact λ_ _=>rfl):QD X c (.Subscript a b pos) (g2 aY ga gb):=have ha:=ha.h;have hb:=hb.h;⟨JE MY (by
 intro He He' J H x y u v Q hp rx ry w
 rw [hK]
 unfold aY at w
 split at w
 ·cases rx;cases ry
  split at w
  ·rename_i h
   split at w
   ·rename_i k hk;exact .inr (.inr ⟨_,_,k,rfl,rfl,h,hk,w _ J H (Ext.refl hp.sub) (.str _)⟩)
   ·exact w.elim
  ·exact w.elim
 ·cases ry
  obtain ⟨xs,q,w⟩:=jr w
  obtain ⟨p,vs,rfl,hl,hs⟩:=kZ hp rx q
  split at w
  ·rename_i d hd
   obtain ⟨z,h1,h2⟩:=LC hs hd
   have fin:=w z J H (Ext.refl hp.sub) h2
   rcases hl with hl | hl
   ·exact .inl ⟨p,vs,_,z,rfl,rfl,hl,h1,fin⟩
   ·exact .inr (.inl ⟨p,vs,_,z,rfl,rfl,hl,h1,fin⟩)
  ·exact w.elim
 ·exact w.elim) ha hb hs⟩
theorem aQ {F:List S->M R}{gs:G (List R)}(G:bh X.prog X.w X.K X.mg X.base k n x F) (hr:c8 k' X.A) (ha:iX X c (e::es) gs) (hk:k<=k':=by decide) (hT:c.K=X.K:=by rfl) (hg:Gl X x:=by rfl) (hdb:(x == ("__debug__":Str))=false:=by decide)
 (he:UZ (e::es) X.env=(false,eval e X.env)::UZ es X.env:=by rfl) (hpl:(Wu pos (UZ es X.env)).any (·.1)=false:=by rfl):QD X c (.Call (.Name x p) (e::es) [] pos) (gN (aN n F) gs):=by
 have ha:=ha.h
 refine ⟨?_⟩
 obtain ⟨f,fd,ps,h1,h2,h3,h4⟩:=G
 exact Lb h1 (hr.mono hk) h2 h3 h4 ha hT hg hdb he hpl
theorem uv (h:QD X c e g) (ht:qu X c tg t) (hs:aas [tg] e pos.line X.env=pure false:=by rfl) (hw:abO [tg] e X.env=pure none:=by rfl)
 (h1:(XC [tg] X.env).map (·.2)=[assign tg X.env]:=by rfl):jM X c (.Assign [tg] e pos) (uf t g):=have h:=h.h;have ht:=ht.h;⟨K9 h ht (Ge h ht hs hw h1)⟩
theorem kT {T:String}{Ts:Str}{p p2:Pos}(kit:Ja T) (hT:VR Ts=some (.type T)) (mT:X.mg Ts=none)
  (h:QD X c a g) (hm:X.mg "isinstance"=none) (hK:X.K=c.K:=by rfl) (hg:Gl X "isinstance":=by rfl) (T_:Gl X Ts:=by rfl) (hn:Ts≠"__name__":=by decide) (T7:(Ts == ("__debug__":Str))=false:=by decide)
  (he:UZ [a,.Name Ts p2] X.env=(false,eval a X.env)::UZ [.Name Ts p2] X.env:=by rfl) (Sw:UZ [.Name Ts p2] X.env=(false,eval (.Name Ts p2) X.env)::UZ [] X.env:=by rfl)
  (hpl:(Wu pos (UZ [.Name Ts p2] X.env)).any (·.1)=false:=by rfl):QD X c (.Call (.Name "isinstance" p) [a,.Name Ts p2] [] pos) (Fg T g):=have h:=h.h;⟨
 fj (ur (Bq kit) hg hm (by decide +kernel) (fH h (fH (Lf T_ mT hT (v:=.ty T) rfl hn T7) iZ Sw) he) (by decide) (by decide) he hpl) λσ H Q ⟨J,env,sr,w⟩=>by
  refine ⟨J,env,sr,aF (aK w) λr wr v J1 H1 e1 r1=>?_⟩
  exact ⟨r.dat,v,rfl,by rw [hK];exact r1.dat (sr.hp.ext e1),wr _ J1 H1 e1 (.bl _)⟩⟩
theorem Cv {p:Pos}{gs:G (List R)}(ha:iX X c (e::es) gs) (hm:X.mg "all"=none) (hK:X.K=c.K:=by rfl) (hc:X.calm=true:=by rfl) (hg:Gl X "all":=by rfl)
  (he:UZ (e::es) X.env=(false,eval e X.env)::UZ es X.env:=by rfl) (hpl:(Wu pos (UZ es X.env)).any (·.1)=false:=by rfl):QD X c (.Call (.Name "all" p) (e::es) [] pos) (gN uc gs):=have ha:=ha.h;⟨
 jc (EN hc) (by
  intro He J H xs vs Q hp rs w
  unfold uc at w
  split at w
  ·obtain ⟨v,rfl,r⟩:=rs.one
   obtain ⟨xs,q,w⟩:=oE w
   obtain ⟨p,vs,rfl,h1,h2⟩:=RR.list hp r q
   split at w
   ·rename_i ks z
    have:=qw z h2
    subst this
    exact ⟨p,ks,rfl,by rw [hK];exact h1,w _ J H (Ext.refl hp.sub) (.bl _)⟩
   ·exact w.elim
  ·exact w.elim) EH hm ha hg (by decide) (by decide) he hpl⟩
theorem Ly {p:Pos}{gs:G (List R)}(ha:iX X c (e::es) gs) (hm:X.mg "max"=none) (hc:X.calm=true:=by rfl) (hg:Gl X "max":=by rfl)
  (he:UZ (e::es) X.env=(false,eval e X.env)::UZ es X.env:=by rfl) (hpl:(Wu pos (UZ es X.env)).any (·.1)=false:=by rfl):QD X c (.Call (.Name "max" p) (e::es) [] pos) (gN DB gs):=have ha:=ha.h;⟨
 jc (ES hc) (by
  intro He J H xs vs Q hp rs w
  unfold DB at w
  split at w
  ·obtain ⟨v,v',rfl,r,r'⟩:=rs.two
   cases r;cases r'
   exact ⟨_,_,rfl,w _ J H (Ext.refl hp.sub) (.int _)⟩
  ·exact w.elim) (by decide +kernel) hm ha hg (by decide) (by decide) he hpl⟩
theorem c_ (ha:QD X c a ga) (hb:QD X c b gb) (hK:X.K=c.K:=by rfl):QD X c (.BinOp a .Add b pos) (g2 cX ga gb):=by
 have ha:=ha.h
 have hb:=hb.h
 refine ⟨?_⟩
 have h1:BD c (tK λi j=>.int (i + j)) we:=j6 λ_ _ _=>.int _
 exact mZ (pos:=pos) (FY.or (FU.or (vz.or FW))) (BD.or (c:=c) (λx _=>MS x) (Kg hK) (BD.or (c:=c) (λx _=>FD x) h1 (BD.or (c:=c) (λx _=>MR x) (f:=uZ) (f':=u5) (by
  intro He He' J H x y u v Q hp rx ry w
  unfold uZ at w
  split at w
  ·cases rx;cases ry
   split at w
   ·rename_i h;exact ⟨_,_,rfl,rfl,h,w _ J H (Ext.refl hp.sub) (.str _)⟩
   ·exact w.elim
  ·exact w.elim) (by
  intro He He' J H x y u v Q hp rx ry w
  unfold u5 at w
  split at w
  ·rename_i hm
   rw [UT] at hm
   obtain ⟨p,vs,xs,e1,rfl,h1,s1⟩:=rx.made hm.1
   obtain ⟨p2,vs2,ys,e2,rfl,h2,s2⟩:=ry.made hm.2
   rw [e1,e2] at w
   simp only [aS] at w
   split at w
   ·rename_i hz
    rw [s1.length,s2.length] at hz
    exact ⟨p,p2,vs,vs2,rfl,rfl,h1,h2,hz,λq hq=>w _ J _ (Ext.new hp.sub hq _) (iz hp hq (s1.append s2))⟩
   ·exact w.elim
  ·exact w.elim)))) ha hb
theorem CB {lo hi:Option Vv}{gl gh:GO}{p2:Pos}(h:QD X c e g) (hl:BN X c lo gl) (hh:BN X c hi gh) (hK:X.K=c.K:=by rfl):QD X c (.Subscript e (.Slice lo hi none p2) pos) (nR Al g gl gh):=have h:=h.h;have hl:=hl.h;have hh:=hh.h;⟨JF (Gv.or LI) (by
 intro He J H x v l u Q hp rx w
 unfold Al at w
 split at w
 ·exact .inl (QE hK He J H x v l u Q hp rx w)
 ·obtain ⟨xs,q,w⟩:=oE w
  obtain ⟨p,vs,rfl,h1,h2⟩:=rx.list hp q
  exact .inr ⟨p,vs,rfl,by rw [hK];exact h1,λp' hp'=>w _ _ _ (Ext.new hp.sub hp' _) (iz hp hp' (h2.cut l u))⟩) h hl hh⟩
theorem kr (h:CY X.K X.mg x d) (hK:X.K=c.K:=by rfl) (hg:Gl X x:=by rfl) (hd:(x == ("__debug__":Str))=false:=by decide):QD X c (.Name x pos) (gC d):=by
 refine ⟨?_⟩
 obtain ⟨u,v,h1,h2,h3⟩:=h
 exact Ld h1 h2 (λJ=>hK▸h3 J) hg hd
end
section
variable {X:Cx}{c:C}{e a b tg:Vv}{es:List Vv}{ga gb g:G R}{pos:Pos}{st:Xd}{t u:G O}{tb:G Bool}
theorem pH:jM X c st y9:=⟨λUB s σ H D I ⟨J,env,sr,w⟩=>w.elim⟩
theorem Cz (h:QD X c a g):QD X c (.UnaryOp .USub a pos) (wm g):=have h:=h.h;⟨fj (JG GJ h) λσ H Q ⟨J,env,sr,w⟩=>by
 refine ⟨J,env,sr,aF (aK w) λr wr v J1 H1 e1 r1=>?_⟩
 split at wr
 ·cases r1
  exact ⟨_,rfl,wr _ J1 H1 e1 (.int _)⟩
 ·exact wr.elim⟩
theorem wM (h:QD X c e g) (hK:X.K=c.K:=by rfl) (he:∀whole,abw e X.env whole=(do let v <-whole;Yd e.pos;holding [v] (truthy v)):=by intro _;rfl):QB X c e (wB g):=have h:=h.h;⟨zg (Ii h he) λσ H Q ⟨J,env,sr,w⟩=>by
 refine ⟨J,env,sr,aF (aK w) λr wr v J1 H1 e1 r1=>?_⟩
 rw [hK]
 obtain ⟨k,k1,k2⟩:=LR (sr.hp.ext e1) r1 wr
 exact ⟨k,k1,k2 J1 H1 e1⟩⟩
theorem D7 (n:Nat){body:List Xd}(ht:QB X c e tb) (hb:nK X c body u) (hp:acX (Vg X.prog X.w) X.A X.env X.xe:=by first | exact ac5 | exact aco):jM X c (.While e body [] pos) (ve n tb u):=have ht:=ht.h;have hb:=hb.h;⟨i7 (Ig hp ht hb) λE σ H ⟨J,env,sr,w⟩=>by
 refine ⟨λm σ H=>∃J' env,aU J J'/\SR c J' H σ env/\cD (lY tb u m env) (oP c J' E) c.T,⟨n,J,env,aU.refl J,sr,w⟩,?_⟩
 rintro m σ H ⟨J',env,s',sr',w'⟩
 cases m with
 | zero=>exact w'.elim
 | succ m=>
  refine ⟨J',env,sr',aF (aK w') λk wk J1 H1 e1=>?_⟩
  cases k with
  | false=>
   rw [if_neg (by decide)] at wk ⊢
   exact wk σ J1 H1 e1.j (sr'.ext e1)
  | true=>
   rw [if_pos rfl] at wk ⊢
   refine ⟨λσ2 H2=>∃J2 env2,aU J1 J2/\SR c J2 H2 σ2 env2/\cD (lY tb u m env2) (oP c J2 E) c.T,?_,?_⟩
   ·rintro σ2 H2 ⟨J2,env2,s2,sr2,w2⟩
    exact ⟨m,Wt m,J2,env2,(s'.trans e1.j).trans s2,sr2,w2⟩
   ·refine ⟨J1,env,sr'.ext e1,aF (aK wk) λo wo=>?_⟩
    cases o with
    | nx env4=>exact λσ4 J4 H4 s4 sr4=>⟨J4,env4,s4,sr4,aF wo λo q=>q.mono (e1.j.trans s4)⟩
    | ct env4=>exact λσ4 J4 H4 s4 sr4=>⟨J4,env4,s4,sr4,aF wo λo q=>q.mono (e1.j.trans s4)⟩
    | bk env4=>exact λσ4 J4 H4 s4 sr4=>wo σ4 J4 H4 (e1.j.trans s4) sr4
    | rt r=>exact λv J4 H4 s4 h4 r4=>wo v J4 H4 (e1.j.trans s4) h4 r4⟩
theorem Bv (i j:Nat){x y:Str}{p1 p2 pos' q1 q2 q3:Pos}(h:QD X c e g) (hi:X.N[i]?=some x:=by rfl) (Uo:sP X.env.scope x:=by first | exact Zt rfl | exact X6 (Zt rfl) | exact X6 (X6 rfl)) (hdx:(x == ("__debug__":Str))=false:=by decide) (T3:(x == ("__classdict__":Str))=false:=by decide)
  (hj:X.N[j]?=some y:=by rfl) (Uq:sP X.env.scope y:=by first | exact Zt rfl | exact X6 (Zt rfl) | exact X6 (X6 rfl)) (S0:(y == ("__debug__":Str))=false:=by decide) (T5:(y == ("__classdict__":Str))=false:=by decide)
  (hbase:Ym (.Name x p1) "append" X.env (eval (.Name x p1) X.env)=eval (.Name x p1) X.env:=by rfl)
  (hfew:((Wu pos' (UZ [.Call (.Attribute (.Name y q1) "pop" q2) [e] [] q3] X.env)).all (λx=>!x.1) && (acU pos' (aav [] X.env)).all (λx=>x.1.isSome)
   && decide (([.Call (.Attribute (.Name y q1) "pop" q2) [e] [] q3]:List Vv).length + ([]:List aaw).length + (if ([]:List aaw).isEmpty then 0 else 1) < 30))=true:=by rfl)
  (hline:(p2.endLine == pos'.line)=true:=by rfl)
  (hst:UZ [.Call (.Attribute (.Name y q1) "pop" q2) [e] [] q3] X.env=(false,eval (.Call (.Attribute (.Name y q1) "pop" q2) [e] [] q3) X.env)::UZ [] X.env:=by rfl) (hplain:(Wu pos' (UZ [] X.env)).any (·.1)=false:=by rfl)
  (Sl:Ym (.Name y q1) "pop" X.env (eval (.Name y q1) X.env)=eval (.Name y q1) X.env:=by rfl)
  (Sz:((Wu q3 (UZ [e] X.env)).all (λx=>!x.1) && (acU q3 (aav [] X.env)).all (λx=>x.1.isSome)
   && decide (([e]:List Vv).length + ([]:List aaw).length + (if ([]:List aaw).isEmpty then 0 else 1) < 30))=true:=by rfl)
  (So:(q2.endLine == q3.line)=true:=by rfl) (SG:UZ [e] X.env=(false,eval e X.env)::UZ [] X.env:=by rfl) (Sj:(Wu q3 (UZ [] X.env)).any (·.1)=false:=by rfl)
  (hs:ZJ (.Call (.Attribute (.Name x p1) "append" p2) [.Call (.Attribute (.Name y q1) "pop" q2) [e] [] q3] [] pos') none pos.line X.env=pure false:=by rfl):jM X c (.Expr (.Call (.Attribute (.Name x p1) "append" p2) [.Call (.Attribute (.Name y q1) "pop" q2) [e] [] q3] [] pos') pos) (nQ i j g):=have h:=h.h;⟨
 i7 (rY (ze X3 aai aaj qM (lO hi Uo hdx T3) (fH (ze X3 PySem.F.slot_list_pop PySem.F.type_list_pop HG (lO hj Uq S0 T5) (fH h iZ SG) Sl Sz So SG Sj) iZ hst) hbase hfew hline hst hplain) hs) λE σ H ⟨J,env,sr,w⟩=>by
  unfold nQ at w
  split at w
  ·rename_i zs xs S7 S9
   split at w
   ·exact w.elim
   ·rename_i hij
    obtain ⟨_,k1,p,us,rfl,k2,k3,k4,k5⟩:=sr.at_ i _ S7
    obtain ⟨_,l1,q,vs,rfl,l2,l3,l4,l5⟩:=sr.at_ j _ S9
    refine ⟨.ref p,k1,.inl ⟨rfl,us,cB.of k2⟩,?_⟩
    refine ⟨.ref q,l1,.inl ⟨rfl,vs,cB.of l2⟩,?_⟩
    refine ⟨J,env,sr,aF (aK w) λr wr v J1 H1 e1 r1=>?_⟩
    split at wr
    ·rename_i k
     cases r1
     split at wr
     ·rename_i hk
      split at wr
      ·rename_i d hd
       obtain ⟨z,hz,rz⟩:=l5.get hd
       have m2:=e1.h _ _ l2
       have n2:=e1.h _ _ k2
       have hpq:q≠p:=λzz=>NB sr hij S7 S9 k1 l1 zz.symm
       refine ⟨q,vs,k,k.toNat,z,rfl,rfl,m2,by omega,?_,Pf hk.1 (by rw [<-l5.length];exact hk.2.1),hz,?_⟩
       ·have z1:=hk.2.1
        have z2:=hk.2.2.2
        have z3:sizeLine=16777216:=Wv
        omega
       ·refine ⟨p,us,z,rfl,rfl,by rw [bD (WT hpq)];exact n2,by rw [<-k5.length];exact hk.2.2.1,?_⟩
        have sr1:=sr.ext e1
        have J1p:J1 p=none:=e1.frz p (by rw [k2];intro z;cases z) k3
        have J1q:J1 q=none:=e1.frz q (by rw [l2];intro z;cases z) l3
        have sr2:=sr1.upd (xs':=xs.eraseIdx k.toNat) (vs':=vs.eraseIdx k.toNat) S9 l1 m2 J1q l4 ((l5.mono e1.j).eraseIdx _)
        have S8:(env.set j (some (.own (xs.eraseIdx k.toNat))))[i]?=some (some (.own zs)):=by rw [VF (WT hij)];exact S7
        have sr3:=sr2.upd (xs':=zs++[d]) (vs':=us++[z]) S8 k1 (by rw [bD (WT hpq)];exact n2) J1p k4 ((k5.mono e1.j).append (.cons (rz.mono e1.j) .nil))
        exact wr σ J1 _ e1.j sr3
      ·exact wr.elim
     ·exact wr.elim
    ·exact wr.elim
  ·exact w.elim⟩
end
section
variable {X:Cx}{c:C}{e a b tg:Vv}{es:List Vv}{ga gb g:G R}{pos:Pos}
theorem tH (i:Nat){x:Str}{p1 p2 pos':Pos}(h:QD X c e g) (hN:X.N[i]?=some x:=by rfl) (hv:sP X.env.scope x:=by first | exact Zt rfl | exact X6 (Zt rfl) | exact X6 (X6 rfl)) (hd:(x == ("__debug__":Str))=false:=by decide)
  (hcd:(x == ("__classdict__":Str))=false:=by decide)
  (hbase:Ym (.Name x p1) "extend" X.env (eval (.Name x p1) X.env)=eval (.Name x p1) X.env:=by rfl)
  (hfew:((Wu pos' (UZ [e] X.env)).all (λx=>!x.1) && (acU pos' (aav [] X.env)).all (λx=>x.1.isSome)
   && decide (([e]:List Vv).length + ([]:List aaw).length + (if ([]:List aaw).isEmpty then 0 else 1) < 30))=true:=by rfl)
  (hline:(p2.endLine == pos'.line)=true:=by rfl) (hst:UZ [e] X.env=(false,eval e X.env)::UZ [] X.env:=by rfl) (hplain:(Wu pos' (UZ [] X.env)).any (·.1)=false:=by rfl)
  (hs:ZJ (.Call (.Attribute (.Name x p1) "extend" p2) [e] [] pos') none pos.line X.env=pure false:=by rfl) (hK:X.K=c.K:=by rfl):jM X c (.Expr (.Call (.Attribute (.Name x p1) "extend" p2) [e] [] pos') pos) (wg i g):=have h:=h.h;⟨
 i7 (rY (ze X3 PySem.F.slot_list_extend PySem.F.type_list_extend Nj (lO hN hv hd hcd) (fH h iZ hst) hbase hfew hline hst hplain) hs) λE σ H ⟨J,env,sr,w⟩=>by
  unfold wg at w
  split at w
  ·rename_i xs hi
   obtain ⟨v,h1,a,vs,rfl,h2,h3,h4,h5⟩:=sr.at_ i _ hi
   refine ⟨.ref a,h1,.inl ⟨rfl,vs,cB.of h2⟩,?_⟩
   refine ⟨J,env,sr,aF (aK w) λr wr y J1 H1 e1 r1=>?_⟩
   obtain ⟨ys,q,wr⟩:=jr wr
   split at wr
   ·rename_i hz
    obtain ⟨p,ws,rfl,hq,hs⟩:=kZ (sr.hp.ext e1) r1 q
    refine ⟨a,p,vs,ws,rfl,rfl,e1.h _ _ h2,by rw [hK];exact hq,by rw [<-h5.length,<-hs.length];exact hz,?_⟩
    refine wr σ J1 _ e1.j ?_
    exact (sr.ext e1).upd hi h1 (e1.h _ _ h2) (e1.frz a (by rw [h2];intro z;cases z) h3) h4 ((h5.mono e1.j).append hs)
   ·exact wr.elim
  ·exact w.elim⟩
theorem AQ (ha:QD X c a ga) (hb:QD X c b gb):QD X c (.Compare a [.Is] [b] pos) (g2 (gZ false) ga gb):=have ha:=ha.h;have hb:=hb.h;⟨n5 F2 (by
 intro He He' J H x y u v Q hp rx ry w
 unfold gZ at w
 split at w
 ·rename_i o ho
  refine ⟨o,by rw [jn ry];exact ho,?_⟩
  rw [jn rx]
  exact w _ J H (Ext.refl hp.sub) (.bl _)
 ·exact w.elim) ha hb⟩
theorem Gi (ha:QD X c a ga) (hb:QD X c b gb):QD X c (.Compare a [.IsNot] [b] pos) (g2 (gZ true) ga gb):=have ha:=ha.h;have hb:=hb.h;⟨n5 xS (by
 intro He He' J H x y u v Q hp rx ry w
 unfold gZ at w
 split at w
 ·rename_i o ho
  refine ⟨o,by rw [jn ry];exact ho,?_⟩
  rw [jn rx]
  exact w _ J H (Ext.refl hp.sub) (.bl _)
 ·exact w.elim) ha hb⟩
theorem vB (ha:QD X c a ga) (hb:QD X c b gb):QB X c (.Compare a [.Is] [b] pos) (bx (g2 (gZ false) ga gb)):=have ha:=ha.h;have hb:=hb.h;⟨i6 F2 (by
 intro He He' J H x y u v Q hp rx ry w
 unfold gZ at w
 split at w
 ·rename_i o ho
  refine ⟨o,by rw [jn ry];exact ho,?_⟩
  rw [jn rx]
  exact w _ J H (Ext.refl hp.sub) (.bl _)
 ·exact w.elim) ha hb⟩
theorem xV (ha:QD X c a ga) (hb:QD X c b gb):QB X c (.Compare a [.IsNot] [b] pos) (bx (g2 (gZ true) ga gb)):=have ha:=ha.h;have hb:=hb.h;⟨i6 xS (by
 intro He He' J H x y u v Q hp rx ry w
 unfold gZ at w
 split at w
 ·rename_i o ho
  refine ⟨o,by rw [jn ry];exact ho,?_⟩
  rw [jn rx]
  exact w _ J H (Ext.refl hp.sub) (.bl _)
 ·exact w.elim) ha hb⟩
end
section
variable {X:Cx}{c:C}{e a b d tg:Vv}{es:List Vv}{ga gb g:G R}{pos:Pos}
theorem cW (h:QD X c e g) (hK:X.K=c.K:=by rfl):BL X c tg e (fE g):=have h:=h.h;⟨rX (F9 h) λσ H Q ⟨J,env,sr,w⟩=>by
 refine ⟨J,env,sr,aF (aK w) λr wr v J1 H1 e1 r1=>?_⟩
 rw [hK]
 split at wr
 ·cases r1 with
  | tup h1 h2=>exact ⟨_,rfl,.inr ⟨⟨_,fk e1.sub h1⟩,wr _ J1 H1 e1 (yx (λJ H u=>u) h1 h2)⟩⟩
 ·cases r1 with
  | lst h1 h2=>exact ⟨_,rfl,.inl ⟨⟨_,e1.sub.seq h1⟩,wr _ J1 H1 e1 (rC (.inl h1) h2)⟩⟩
 ·obtain ⟨J2,e2,s2,rd⟩:=freeze e1 r1 rfl
  cases rd with
  | lst h1 h2=>exact ⟨_,rfl,.inl ⟨⟨_,e2.sub.seq h1⟩,wr _ J2 H1 e2 (rC (.inl h1) h2)⟩⟩
 ·obtain ⟨a,vs,rfl,h1,h2⟩:=r1
  exact ⟨_,rfl,.inl ⟨⟨_,(sr.hp.ext e1).ent.seq h1⟩,wr _ J1 H1 e1 (rC (.inr h1) h2)⟩⟩
 ·exact wr.elim⟩
theorem cP (h:QD X c e g) (hK:X.K=c.K:=by rfl):xh X c tg e (gU g):=have h:=h.h;⟨rX (F9 h) λσ H Q ⟨J,env,sr,w⟩=>by
 refine ⟨J,env,sr,aF (aK w) λr wr v J1 H1 e1 r1=>?_⟩
 rw [hK]
 have lst:∀{xs:List D},kK r=.ok xs->(∀It J1' H1',Ext J H J1' H1'->Walk c It xs J1' (λJ' H'=>aU J1' J'/\aU H1' H')->Q It H1')->∃a,v=.ref a/\(((∃xs,cB c.K H1 a xs)/\Q (IZ c.K a) H1)\/((∃xs,dg c.K H1 a xs)/\Q (I_ c.K a) H1)):=fun {xs} q wr=>by
  obtain ⟨a,vs,rfl,h1,h2⟩:=RR.list (sr.hp.ext e1) r1 q
  refine ⟨a,rfl,.inl ⟨⟨_,h1⟩,wr _ J1 H1 e1 λi J' H' hp u=>?_⟩⟩
  have h':=u.2.seq h1
  refine ⟨λhl=>⟨vs,h',by rw [<-h2.length];exact hl⟩,λd hd=>?_⟩
  obtain ⟨v,k1,k2⟩:=h2.get hd
  refine ⟨⟨vs,v,h',k1⟩,λx H2 ⟨e,hy⟩=>?_⟩
  subst e
  have:=hy vs h'
  rw [k1] at this
  cases this
  exact ⟨J',Ext.refl hp.sub,k2.mono u.1⟩
 cases r with
 | d y=>
  cases y with
  | tup xs=>
   cases r1 with
   | tup h1 h2=>exact ⟨_,rfl,.inr ⟨⟨_,fk e1.sub h1⟩,wr _ J1 H1 e1 (yx (λJ H u=>u.1) h1 h2)⟩⟩
  | lst xs=>exact lst rfl wr
  | _=>exact wr.elim
 | l m xs=>exact lst rfl wr
 | mo _ _=>exact wr.elim
 | mb _ _=>exact wr.elim
 | mf _ _=>exact wr.elim⟩
end
section
variable {X:Cx}{c:C}{st:Xd}{g:G O}
theorem iu (i:Nat) (h:jM X c st g):jM X c st (fS i g):=have h:=h.h;⟨λUB s σ H D I ⟨J,env,sr,w⟩=>by
 unfold fS at w
 split at w
 ·rename_i xs hi
  obtain ⟨v,h1,a,vs,rfl,h2,h3,h4,h5⟩:=sr.at_ i _ hi
  obtain ⟨J',s1,sr'⟩:=sr.frz (x:=.inl xs) hi h1 h2 h3 h4 (.lst (.inl (.inl b9)) (h5.mono (cQ h3 _)))
  exact h UB s σ H D I ⟨J',_,sr',aF w λo q=>q.mono s1⟩
 ·rename_i ks vs hi
  obtain ⟨v,h1,a,rfl,⟨us,ws,ep,h2,m1,m2,m3,m4⟩,h3,h4⟩:=sr.at_ i _ hi
  obtain ⟨J',s1,sr'⟩:=sr.frz (x:=.inr (ks,vs)) hi h1 h2 h3 h4 (.dct b9 (m1.mono (cQ h3 _)) (m2.mono (cQ h3 _)) m3 m4)
  exact h UB s σ H D I ⟨J',_,sr',aF w λo q=>q.mono s1⟩
 ·exact h UB s σ H D I ⟨J,env,sr,w⟩⟩
end
section
variable {X:Cx}{c:C}
theorem Cu {P:U6}{w:Vs}{K:UM}{mg:Str->Option UN}{base:V1}{x UG:Str}{st:Xd}{f:Vd}{fd:Vk}{N ps:List Str}{k:Nat}{Fm:List S->M R}(F:l_ K x UG st f fd) (hm:mg x=some (.ref f)) (Sc:eY N ps (aX st))
  (hbi:∀(kV doc pm:UN) (an:Option Vd) (cdv ct:UN) (us:List UN),us.length=ps.length->aau (VE x UG (cG st) (bS st) (aX st) .none kV doc pm an cdv ct) ⟨us,[]⟩=pure (ps.zip us)){gB:G O}
  (hb:∀(cdv:UN) (A:Vz) (outer:List Env) (s:UP) (H:Hp) (E:XK) (J:Hp) (T:Exc->Prop),c8 k (A.deeper (Z4 UG (aX st) s.heap.objs.size f cdv))->
   nK (E7 P w K mg base N UG (aX st) f cdv A outer s H E) ⟨K,H,J,T⟩ (bS st) gB)
  (hF:∀as r,as.length=ps.length->Fm as=.ok r->fin (gB (aV N as))=.ok r):bh P w K mg base (k + 1) ps.length x Fm:=
 Mu F hm Sc hbi (λcdv A outer s H E J T hr=>(hb cdv A outer s H E J T hr).h) hF
theorem Lq {P:U6}{w:Vs}{K:UM}{mg:Str->Option UN}{base:V1}{x UG:Str}{st:Xd}{f:Vd}{fd:Vk}{N ps:List Str}{k:Nat}{Fm:List S->M R}(F:l_ K x UG st f fd) (Sc:eY N ps (aX st)){gB:G O}
  (hb:∀(cdv:UN) (A:Vz) (outer:List Env) (s:UP) (H:Hp) (E:XK) (J:Hp) (T:Exc->Prop),c8 k (A.deeper (Z4 UG (aX st) s.heap.objs.size f cdv))->
   nK (E7 P w K mg base N UG (aX st) f cdv A outer s H E) ⟨K,H,J,T⟩ (bS st) gB)
  (hF:∀as r,as.length=ps.length->Fm as=.ok r->fin (gB (aV N as))=.ok r):eO P w K mg base pQ (k + 1) f fd ps (qZ K ps.length Fm):=
 Fd F Sc (λcdv A outer s H E J T hr=>(hb cdv A outer s H E J T hr).h) hF
end
end DL
namespace K01
open PySem DL
def wZ:List Str:=["thing"]
def xH:G O:=(bf (rO (Fg "int" (af 0)) (DH (Fg "bool" (af 0)))))
def qf (as:List S):M R:=fin (xH (aV wZ as))
theorem gz (h:n<=1000):n<=sizeLine:=Vq h (by decide)
theorem vX (f:D->Bool):∀(ds:List D),j_ (ds.map λd=>.bl (f d))=some (ds.map f)
 | []=>rfl
 | d::r=>by
  simp only [U_,j_,vX f r]
  rfl
theorem all_map (f:D->Bool) (ds:List D):uc [.l .fresh (ds.map λd=>.bl (f d))]=.ok (.d (.bl (ds.all f))):=by
 unfold uc
 simp only [kK,aS,vX]
 congr 3
 simp [Z6]
theorem rH {α:Type}{xs:List α}{k:Nat}{x:α}(h:xs[k]?=some x):L2.mC xs (k:Int)=some x:=by
 have hk:k < xs.length:=(Vo.mp h).1
 unfold L2.mC L2.Aw
 rw [if_pos (by omega),if_pos (by omega)]
 simpa using h
theorem rM {xs:List D}{k:Nat}{x:D}(h:xs[k]?=some x):aY (.d (.tup xs)) (.d (.int k))=.ok (.d x):=by
 unfold aY
 simp only [iK,aS,rH h]
theorem mH {m:Md}{xs:List D}{k:Nat}{x:D}(h:xs[k]?=some x):aY (.l m xs) (.d (.int k))=.ok (.d x):=by
 unfold aY
 simp only [iK,aS,rH h]
theorem B5 {z:Str}{k:Nat}{c:Nat}(hz:z.length<=1000) (h:z.cps.toList[k]?=some c):aY (.d (.str z)) (.d (.int k))=.ok (.d (.str ⟨#[c]⟩)):=by
 unfold aY
 simp only [gz hz,if_true,rH h]
theorem eq_int (neg:Bool) (i j:Int):cj neg (.d (.int i)) (.d (.int j))=.ok (.d (.bl (if neg then !(i == j) else i == j))):=rfl
theorem fN (a:D) (r:List D):aY (.d (.tup (a::r))) (.d (.int 0))=.ok (.d a):=rM (k:=0) rfl
theorem FF (a b:D) (r:List D):aY (.d (.tup (a::b::r))) (.d (.int 1))=.ok (.d b):=rM (k:=1) rfl
theorem MW (a b c:D) (r:List D):aY (.d (.tup (a::b::c::r))) (.d (.int 2))=.ok (.d c):=rM (k:=2) rfl
theorem Qx (n:Nat) (h:n<=1000):below 4611686018427387904 (n:Int)=true:=dh.mpr ⟨by omega,by omega⟩
def JK (j:Int):M (List D):=if below 4611686018427387904 j then .ok (gg 0 j.toNat) else .bad
theorem N_ (j:Int) (h:below 4611686018427387904 j=true):JK j=.ok (gg 0 j.toNat):=by unfold JK;exact if_pos h
theorem N9 {gs:G (List R)}(hg:gs env=.ok [.d (.int j)]):bR gs env=JK j:=by
 unfold bR JK
 rw [hg]
 rfl
theorem iS {gs:G (List R)}{env:Ev}{n:Nat}(hg:gs env=.ok [.d (.int (n:Int))]) (h:n<=1000):bR gs env=.ok (gg 0 n):=by
 rw [N9 hg,N_ _ (Qx n h)]
 exact congrArg (λk=>M.ok (gg 0 k)) (V7 n)
theorem Oc {t u:G O}(h:t env=.ok (.nx e)):aH t u env=u e:=by
 unfold aH
 rw [h]
 rfl
theorem MJ {g:G (List D)}{u:G O}(h:g env=.ok ds):cg g t u env=fh t u ds env:=by
 unfold cg
 rw [h]
 rfl
theorem lW (i j:Int):iE (.d (.int i)) (.d (.int j))=.ok (.d (.int (i + j))):=rfl
theorem JS (i j:Int):DE (.d (.int i)) (.d (.int j))=.ok (.d (.int (i - j))):=rfl
theorem yY {C:Int->Int->Bool}{f:Int->Int->D}(h:C i j=true):fI C f (.d (.int i)) (.d (.int j))=.ok (.d (f i j)):=by
 show (if C i j=true then M.ok (R.d (f i j)) else M.bad)=_
 rw [if_pos h]
theorem iJ (i j:Int) (h1:-(2 ^ 64) < j) (h2:j < 2 ^ 64):gJ (.d (.int i)) (.d (.int j))=.ok (.d (.int (i * j))):=yY (C:=Ax) (f:=λi j=>.int (i * j)) (by unfold Ax;rw [XI];exact X6 (dh.mpr ⟨h1,h2⟩))
theorem fm (i j:Int) (h1:0 < j) (h2:j < 1073741824):fC (.d (.int i)) (.d (.int j))=.ok (.d (.int (i / j))):=yY (by
 unfold DN
 rw [UT]
 exact ⟨decide_eq_true h1,dh.mpr ⟨by omega,h2⟩⟩)
theorem cK (i j:Int) (h1:0 < j):cV (.d (.int i)) (.d (.int j))=.ok (.d (.int (i % j))):=yY (decide_eq_true h1)
theorem Pw (x y:Str) (h:x.length + y.length<=1000):iE (.d (.str x)) (.d (.str y))=.ok (.d (.str (x++y))):=by
 show (if x.length + y.length<=sizeLine then M.ok (R.d (D.str (x++y))) else M.bad)=_
 rw [if_pos (gz h)]
def Mj:Str:="abcdefghijklmnopqrstuvwxyz"
theorem Mk:∀k:Fin 26,Mj.cps.toList[k.val]?=some (97 + k.val):=by decide +kernel
theorem J6:Mj.length<=1000:=by decide +kernel
theorem FG (i:Int) (h0:0<=i) (h:i < 26):aY (.d (.str "abcdefghijklmnopqrstuvwxyz")) (.d (.int i))=.ok (.d (.str ⟨#[97 + i.toNat]⟩)):=by
 have e:i=((i.toNat:Nat):Int):=by omega
 have:=B5 (z:=Mj) (k:=i.toNat) J6 (Mk ⟨i.toNat,by omega⟩)
 rw [e]
 exact this
theorem k7 (x y:Str):(x++y).cps.toList=x.cps.toList++y.cps.toList:=by
 show (x.cps++y.cps).toList=_
 simp
theorem dH (x:Str):x.length=x.cps.toList.length:=by
 show x.cps.size=_
 simp
theorem strs_map:∀(ss:List Str),strsOf (ss.map .str)=some ss
 | []=>rfl
 | s::r=>by
  simp only [U_,strsOf,strs_map r]
  rfl
theorem sorted_strs (m:Md) (ss:List Str) (h:ss.length < 64):k9 [.l m (ss.map .str)]=.ok (.l .fresh ((nh ss).map .str)):=by
 unfold k9
 simp only [kK,aS,strs_map,h,if_true]
theorem lM {b:G Bool}{t u:G O}(h:b env=.ok false):bK b t u env=u env:=by
 unfold bK
 rw [h]
 rfl
theorem jV {b:G Bool}{t u:G O}(h:b env=.ok true):bK b t u env=t env:=by
 unfold bK
 rw [h]
 rfl
theorem OU {g:G R}{f:List R->M R}(h:g env=.ok r) (hf:f [r]=.ok r'):gN f (ao g aE) env=.ok r':=by
 unfold gN ao
 rw [h]
 exact hf
theorem Gp {g:G R}(h:g env=.ok r) (h2:rF r=.ok r'):bf g env=.ok (.rt r'):=by
 unfold bf
 rw [h,aS,h2]
 rfl
abbrev dN (k:Nat):D:=.int k
abbrev dP (p:Nat×Nat):D:=.tup [.int p.1,.int p.2]
def mY (p q:Nat×Nat):Prop:=p.1 < q.1\/(p.1=q.1/\p.2 < q.2)
structure Wd where
 m:Nat
 ms:List (Str×List Nat)
 ar:List (Str×List (Nat×Nat))
abbrev kG (r:Str×List Nat):D:=.tup [.str r.1,.tup (r.2.map dN)]
abbrev pL (r:Str×List (Nat×Nat)):D:=.tup [.str r.1,.tup (r.2.map dP)]
def Wd.d (w:Wd):D:=.tup [.int w.m,.tup (w.ms.map kG),.tup (w.ar.map pL)]
theorem yb {K:UM}{J:L2.Hp}:∀(ns:List Int),aL K J (ns.map D.int) (ns.map L2.V.int)
 | []=>.nil
 | n::r=>.cons (.int n) (yb r)
end K01
namespace DX
open PySem PySem.Spec
open Builtin Builtin.ObjectAttr
end DX
namespace DX
open PySem PySem.Spec
end DX
namespace DX
open PySem PySem.Spec PyProof.Rows L2
end DX
namespace DL
open PySem PySem.Spec PyProof.Rows L2 DX
noncomputable def Qg (K:UM) (J:Hp) (x:Exc) (v:UN) (dx:Option Vd):Prop:=
 ∃a C vs,v=.ref a/\J a=some (XO a C dx)/\Vw K Vi x.cls=some (some (.ref C))/\XF J dx x.ns vs/\aL K J x.ds vs/\∃P,GX K P/\XE K P C
def XW (K:UM) (J H:Hp) (E:XK) (x:Exc):Prop:=∀v dx J' H',Ext J H J' H'->Qg K J' x v dx->E v dx H'
noncomputable def q9 (K:UM) (n:Nat) (F:List S->M R):Sp:=λvs H Q E=>∃J as,aU J H/\as.length=n/\jP K J H as vs/\cD (F as) (λr=>∀v J' H',Ext J H J' H'->FR K H J' H' r v->Q v H') (XW K J H E)
abbrev QZ (P:U6) (w:Vs) (K:UM) (mg:Str->Option UN) (base:V1) (N:List Str) (UG:Str) (sc:Yc) (f:Vd) (cd:UN) (A:Vz) (outer:List Env) (s:UP) (H:Hp) (E:XK):Cx:=qz (pR P w) P w K mg base N UG sc f cd A outer s H E
end DL
namespace DX
open PySem PySem.Spec PyProof.Rows L2
end DX
namespace DL
open PySem PySem.Spec PyProof.Rows L2 DX
end DL
namespace DX
open PySem PySem.Spec PyProof.Rows L2
end DX
namespace DL
open PySem PySem.Spec PyProof.Rows L2 DX
end DL
namespace DX
open PySem PySem.Spec PyProof.Rows L2
open Sem (wp)
end DX
namespace DL
open PySem PySem.Spec PyProof.Rows L2 DX
noncomputable def zl (P:U6) (w:Vs) (K:UM) (mg:Str->Option UN) (base:V1) (k n:Nat) (x:Str) (Fm:List S->M R):Prop:=
 ∃f fd ps,eO P w K mg base (pR P w) k f fd ps (q9 K n Fm)/\mg x=some (.ref f)/\VZ K (.ref f)=true/\Binds K fd ps []
section
variable {X:Cx}{c:C}{e a:Vv}{es:List Vv}{pos:Pos}{g:G R}{L:List Str}
theorem H_ {k n:Nat}{f:Vd}{fd:Vk}{ps:List Str}{F:List S->M R}{x:Str}{p:Pos}{gs:G (List R)}(G:eO X.prog X.w X.K X.mg X.base (pR X.prog X.w) k f fd ps (q9 X.K n F)) (hr:c8 k X.A) (hm:X.mg x=some (.ref f)) (hk:VZ X.K (.ref f)=true)
  (hb:Binds X.K fd ps []) (ha:BK X c (e::es) gs) (hT:c.K=X.K:=by rfl) (hg:Gl X x:=by rfl) (hdb:(x == ("__debug__":Str))=false:=by decide) (he:UZ (e::es) X.env=(false,eval e X.env)::UZ es X.env:=by rfl)
  (hpl:(Wu pos (UZ es X.env)).any (·.1)=false:=by rfl):PD X c (.Call (.Name x p) (e::es) [] pos) (gN (aN n F) gs):=by
 refine fj (rW (E:=λ_ _ _=>False) G hr hg hm hk hb .nil (λUB σ H s v s' I ⟨e,C,dx,T,H',ev,f⟩=>f.wish.elim) ha hdb he hpl) λσ H Q ⟨J,env,sr,w⟩=>?_
 refine ⟨J,env,sr,aF (aK w) λrs wr vs J1 H1 e1 r1=>?_⟩
 unfold aN at wr
 split at wr
 ·rename_i hl
  have h1:=sr.hp.ext e1
  have ar:=r1.args h1
  rw [hT] at ar
  refine ⟨J1,rs.map gm,e1.sub,by simpa using hl,by rw [WV];exact ar,?_⟩
  cases q:F (rs.map gm) with
  | bad=>rw [q] at wr;exact wr
  | exc x=>rw [q] at wr;exact wr.elim
  | ok r=>
   rw [q] at wr
   intro v J' H' e2 fr
   refine wr v J' H' (e1.trans e2) ?_
   cases r with
   | d y=>exact (show Rep c.K J' y v from hT▸fr)
   | mo _ _=>exact fr.elim
   | mb _ _=>exact fr.elim
   | mf _ _=>obtain ⟨a,h1,h2,h3,h4⟩:=fr;exact ⟨a,h1,hT▸h2,h3,e1.h.free h4⟩
   | l m ys=>
    obtain ⟨a,us,h1,h2,h3,h4,h5⟩:=fr
    exact ⟨a,us,h1,h2,h3,e1.h.free h4,hT▸h5⟩
 ·exact wr.elim
theorem pJ {F:List S->M R}{gs:G (List R)}(G:zl X.prog X.w X.K X.mg X.base k n x F) (hr:c8 k' X.A) (ha:iX X c (e::es) gs) (hk:k<=k':=by decide) (hT:c.K=X.K:=by rfl) (hg:Gl X x:=by rfl) (hdb:(x == ("__debug__":Str))=false:=by decide)
 (he:UZ (e::es) X.env=(false,eval e X.env)::UZ es X.env:=by rfl) (hpl:(Wu pos (UZ es X.env)).any (·.1)=false:=by rfl):QD X c (.Call (.Name x p) (e::es) [] pos) (gN (aN n F) gs):=by
 obtain ⟨f,fd,ps,h1,h2,h3,h4⟩:=G
 exact ⟨H_ h1 (hr.mono hk) h2 h3 h4 ha.h hT hg hdb he hpl⟩
end
structure kC (K:UM) (x UG:Str) (st:Xd) (f:Vd) (fd:Vk):Prop where
 ex:∃(oc:UN) (od:Option Vd) (T:Vd) (o:Obj) (n:Nat) (kV doc pm:UN) (an:Option Vd) (cdv ct:UN) (osl:Array (Option UN)),
  fd=VE x UG (cG st) (bS st) (aX st) (.ref T) kV doc pm an cdv ct/\K.lookup f=some ⟨oc,od,.func fd,osl⟩/\Xb K cdv UG=true/\K.lookup T=some o/\o.data=.seq #[.none] n
 kp:VZ K (.ref f)=true
theorem zK {K:UM}{J H:Hp}:∀{as:List S}{vs:List V},jP K J H as vs->jP K J H (as++[.d .non]) (vs++[.non])
 | [],_,h=>by
  cases h
  exact ⟨.non,[],rfl,.non,rfl⟩
 | a::as,_,h=>by
  obtain ⟨v,us,rfl,h1,h2⟩:=h
  exact ⟨v,us++[.non],rfl,h1,zK h2⟩
section
variable {P:U6}{w:Vs}{K:UM}{mg:Str->Option UN}{base:V1}
theorem B6 {st:Xd}{N ps:List Str}{Fm:List S->M R}(F:kC K x UG st f fd) (Sc:eY N ps (aX st)){gB:G O}
 (hb:∀(cdv:UN) (A:Vz) (outer:List Env) (s:UP) (H:Hp) (E:XK) (J:Hp),c8 k (A.deeper (Z4 UG (aX st) s.heap.objs.size f cdv))->Jg (QZ P w K mg base N UG (aX st) f cdv A outer s H E) ⟨K,H,J,XW K J H E⟩ (bS st) gB)
 (hF:∀as,as.length=ps.length->Fm as≠.bad->fin (gB (aV N as))=Fm as):eO P w K mg base (pR P w) (k + 1) f fd ps (q9 K ps.length Fm):=by
 obtain ⟨oc,od,T,o,n,kV,doc,pm,an,cdv,ct,osl,rfl,lk,hcd,lT,dT⟩:=F.ex
 refine Jp lk hcd Sc (λvs H Q E ⟨J,as,h1,h2,h3,h4⟩=>by rw [h3.length,h2]) λA outer s H vs Q E hr ⟨J,as,h1,h2,h3,h4⟩=>?_
 refine ⟨_,hb cdv A outer s H E J hr,J,aV N as,A6 h1 h3,?_⟩
 have z:=hF as h2 (λq=>by rw [q] at h4;exact h4)
 rw [<-z] at h4
 have ext:∀{J' H':Hp},HI ⟨K,H,J,XW K J H E⟩ J' H'->Ext J H J' H':=λhp=>⟨hp.ent,hp.entJ,hp.sub,hp.frz⟩
 cases qg:gB (aV N as) with
 | bad=>rw [qg] at h4;exact h4
 | exc x=>rw [qg] at h4;exact h4
 | ok o=>
  rw [qg] at h4
  cases o with
  | bk _=>exact h4.elim
  | ct _=>exact h4.elim
  | nx env=>exact λσ' J' H' _ sr=>h4 .non J' H' (ext sr.hp) .non
  | rt r=>exact λv J' H' _ hp rf=>h4 v J' H' (ext hp) (by
    cases r with
    | d x=>exact rf
    | mo _ _=>exact rf
    | mf _ _=>exact rf
    | mb _ _=>exact rf
    | l m xs=>exact rf)
noncomputable def CQ (P:U6) (w:Vs) (K:UM) (mg:Str->Option UN) (base:V1) (k n:Nat) (x:Str) (Fm:List S->M R):Prop:=
 ∃f fd ps,eO P w K mg base (pR P w) k f fd ps (q9 K (n + 1) Fm)/\mg x=some (.ref f)/\VZ K (.ref f)=true/\Binds K fd ps [.none]
theorem kC.bindsAll {st:Xd}{ps:List Str}(F:kC K x UG st f fd)
 (h:∀(T:Vd) (kV doc pm:UN) (an:Option Vd) (cdv ct:UN) (us:List UN),us.length=ps.length->∃k:Option (Array UN)->Sem (List (Str×UN)),
 aau (VE x UG (cG st) (bS st) (aX st) (.ref T) kV doc pm an cdv ct) ⟨us,[]⟩=ab0 (.ref T) >>= k/\k (some #[.none])=pure (ps.zip us)):Binds K fd ps []:=by
 obtain ⟨oc,od,T,o,n,kV,doc,pm,an,cdv,ct,osl,rfl,lk,hcd,lT,dT⟩:=F.ex
 intro s us hK hl
 rw [WV] at hl ⊢
 obtain ⟨k,h1,h2⟩:=h T kV doc pm an cdv ct us hl
 exact .of_defaults (T:=T) (items:=#[.none]) rfl (hK _ _ lT) dT h1 h2
theorem kC.bindsOne {st:Xd}{ps:List Str}(F:kC K x UG st f fd)
 (h:∀(T:Vd) (kV doc pm:UN) (an:Option Vd) (cdv ct:UN) (us:List UN),us.length + 1=ps.length->∃k:Option (Array UN)->Sem (List (Str×UN)),
 aau (VE x UG (cG st) (bS st) (aX st) (.ref T) kV doc pm an cdv ct) ⟨us,[]⟩=ab0 (.ref T) >>= k/\k (some #[.none])=pure (ps.zip (us++[.none]))):Binds K fd ps [.none]:=by
 obtain ⟨oc,od,T,o,n,kV,doc,pm,an,cdv,ct,osl,rfl,lk,hcd,lT,dT⟩:=F.ex
 intro s us hK hl
 obtain ⟨k,h1,h2⟩:=h T kV doc pm an cdv ct us (by simpa using hl)
 exact .of_defaults (T:=T) (items:=#[.none]) rfl (hK _ _ lT) dT h1 h2
end
section
variable {X:Cx}{c:C}{e:Vv}{es:List Vv}{pos:Pos}
theorem F6 {k n:Nat}{f:Vd}{fd:Vk}{ps:List Str}{F:List S->M R}{x:Str}{p:Pos}{gs:G (List R)}(G:eO X.prog X.w X.K X.mg X.base (pR X.prog X.w) k f fd ps (q9 X.K (n + 1) F)) (hr:c8 k X.A) (hm:X.mg x=some (.ref f)) (hk:VZ X.K (.ref f)=true)
  (hb:Binds X.K fd ps [.none]) (ha:BK X c (e::es) gs) (hT:c.K=X.K:=by rfl) (hg:Gl X x:=by rfl) (hdb:(x == ("__debug__":Str))=false:=by decide) (he:UZ (e::es) X.env=(false,eval e X.env)::UZ es X.env:=by rfl)
  (hpl:(Wu pos (UZ es X.env)).any (·.1)=false:=by rfl):PD X c (.Call (.Name x p) (e::es) [] pos) (gN (aN n (λas=>F (as++[.d .non]))) gs):=by
 refine fj (rW (E:=λ_ _ _=>False) G hr hg hm hk hb (dvs:=[.non]) (.cons rfl .nil) (λUB σ H s v s' I ⟨e,C,dx,T,H',ev,f⟩=>f.wish.elim) ha hdb he hpl) λσ H Q ⟨J,env,sr,w⟩=>?_
 refine ⟨J,env,sr,aF (aK w) λrs wr vs J1 H1 e1 r1=>?_⟩
 unfold aN at wr
 split at wr
 ·rename_i hl
  have h1:=sr.hp.ext e1
  have ar:=r1.args h1
  rw [hT] at ar
  refine ⟨J1,rs.map gm++[.d .non],e1.sub,by simpa using hl,zK ar,?_⟩
  dsimp only at wr
  cases q:F (rs.map gm++[.d .non]) with
  | bad=>rw [q] at wr;exact wr
  | exc x=>rw [q] at wr;exact wr.elim
  | ok r=>
   rw [q] at wr
   intro v J' H' e2 fr
   refine wr v J' H' (e1.trans e2) ?_
   cases r with
   | d y=>exact (show Rep c.K J' y v from hT▸fr)
   | mo _ _=>exact fr.elim
   | mb _ _=>exact fr.elim
   | mf _ _=>obtain ⟨a,h1,h2,h3,h4⟩:=fr;exact ⟨a,h1,hT▸h2,h3,e1.h.free h4⟩
   | l m ys=>
    obtain ⟨a,us,h1,h2,h3,h4,h5⟩:=fr
    exact ⟨a,us,h1,h2,h3,e1.h.free h4,hT▸h5⟩
 ·exact wr.elim
theorem Il {k k' n:Nat}{F:List S->M R}{x:Str}{p:Pos}{gs:G (List R)}(G:CQ X.prog X.w X.K X.mg X.base k n x F) (hr:c8 k' X.A) (ha:iX X c (e::es) gs) (hk:k<=k':=by decide) (hT:c.K=X.K:=by rfl) (hg:Gl X x:=by rfl) (hdb:(x == ("__debug__":Str))=false:=by decide)
  (he:UZ (e::es) X.env=(false,eval e X.env)::UZ es X.env:=by rfl) (hpl:(Wu pos (UZ es X.env)).any (·.1)=false:=by rfl):QD X c (.Call (.Name x p) (e::es) [] pos) (gN (aN n (λas=>F (as++[.d .non]))) gs):=by
 obtain ⟨f,fd,ps,h1,h2,h3,h4⟩:=G
 exact ⟨F6 h1 (hr.mono hk) h2 h3 h4 ha.h hT hg hdb he hpl⟩
end
end DL
namespace DL
open PySem PySem.Spec PyProof.Rows L2
noncomputable def vR (A:Vz) (s:UP) (y x:UN) (b:Bool):Prop:=
 ∀(prog:U6) (w:Vs) (E:UN->UP->Prop) (Q:UN->UP->Prop),Q (.bool b) s->U9 (Vg prog w) A (richCompare .Lt y x) Q E s
inductive gR (A:Vz) (s:UP) (fin:Bool):List (UN×UN)->Bool->Prop
 | nil:gR A s fin [] fin
 | yes {x y:UN}{r:List (UN×UN)}{b:Bool}:WZ A s x y true->gR A s fin r b->gR A s fin ((x,y)::r) b
 | no {x y:UN}{r:List (UN×UN)}{b:Bool}:WZ A s x y false->vR A s x y b->gR A s fin ((x,y)::r) b
section
open PySem.SeqAt
open PySem.AutoSeq1 (wpAny_loadPart')
open PySem.MeetsSeq PySem.MeetsSeq2 PySem.MeetsSeq3
theorem GF (l b:Vd) (items UH:Array UN) (n n2:Nat) (dd dd2:Option Vd) (sl sl2:Array (Option UN)) (ans:Bool):
  Meets (YU.«tuple.__lt__» ⟨[.ref l,.ref b],[]⟩)
   (λA R s=>s.heap.get? l=some {cls:=.type "tuple",dict:=dd,data:=.seq items n,slots:=sl}/\s.heap.get? b=some {cls:=.type "tuple",dict:=dd2,data:=.seq UH n2,slots:=sl2}/\
    gR A.in1 s (decide (items.size < UH.size)) (items.toList.zip UH.toList) ans/\R (.ok (.ret (.bool ans))) s):=
 .of_wp λprog w A R s h=>by
  obtain ⟨hp,g,d,tk,os⟩:=s;obtain ⟨hl,hb,hP,h⟩:=h
  have f2:=YO
  wp_walk using Xh hl,Xh hb,Xl _ (λrest b s'=>b.1=none/\s'=⟨hp,g,d,tk,os⟩/\gR A.in1 ⟨hp,g,d,tk,os⟩ (decide (items.size < UH.size)) rest ans) _
  case turn=>
   rintro ⟨y,x⟩ rest b s' ⟨hb',rfl,hq⟩
   cases hq with
   | yes he hr=>
    refine UL (he prog w _ _ ?_)
    wp_walk
    exact ⟨rfl,rfl,hr⟩
   | no he hlt=>
    refine UL (he prog w _ _ ?_)
    have Tq:=hlt prog w
    wp_walk using Tq
    exact ⟨_,rfl,by simpa using h⟩
  case fin=>
   rintro ⟨b1,b2⟩ s' ⟨hb',rfl,hq⟩
   simp only at hb'
   subst hb'
   cases hq
   wp_walk
   exact ⟨_,rfl,by simpa [Zj] using h⟩
  case h=>
   exact ⟨rfl,rfl,hP⟩
end
section
variable {K:UM}{J:Hp}{s:UP}
theorem K0 {A:Vz}{items UH:Array UN}(hl:s.heap.IsTuple l items) (hb:s.heap.IsTuple b UH) (hP:gR A.in1 s (decide (items.size < UH.size)) (items.toList.zip UH.toList) ans)
 (hu:A.units < Wj):vR A s (.ref l) (.ref b) ans:=λprog w E Q h=>by
 obtain ⟨⟨cls,dd,data,sl⟩,ho,hc,n,hd⟩:=id hl
 obtain ⟨⟨cls2,dd2,data2,sl2⟩,ho2,hc2,n2,hd2⟩:=id hb
 simp only at hc hd hc2 hd2
 subst hc hd hc2 hd2
 exact aaP (op:=.Lt) ⟨_,ho,rfl⟩ ⟨_,ho2,rfl⟩ PySem.F.slot_tuple_lt PySem.F.entry_tuple_lt (PySem.F.args_tuple_lt_2 _ _) (GF l b items UH n n2 dd dd2 sl sl2 ans)
  ⟨ho,ho2,hP,show Xk ans≠abt/\Q (.bool ans) s from ⟨(λx=>nomatch x),h⟩⟩ hu
mutual
noncomputable def dM:D->D->Option Bool
 | .bl p,y=>match y with
  | .bl q=>some (!p && q)
  | _=>none
 | .int i,y=>match y with
  | .int j=>some (decide (i < j))
  | _=>none
 | .str x,y=>match y with
  | .str z=>some (decide (x.cps.toList < z.cps.toList))
  | _=>none
 | .tup xs,y=>match y with
  | .tup ys=>kE xs ys
  | _=>none
 | _,_=>none
noncomputable def kE:List D->List D->Option Bool
 | [],ys=>some (!ys.isEmpty)
 | x::xs,ys=>match ys with
  | []=>some false
  | y::ys=>if bu x y=true then kE xs ys else dM x y
end
theorem KZ (A:Vz) (h:dM (.bl p) e=some b) (re:Rep K J e w) (rw':RelV w u'):vR A s (.bool p) u' b:=by
 unfold dM at h
 cases e with
 | bl q=>
  cases re
  cases rw'
  simp only [WM] at h
  subst h
  intro prog w E Q hq
  refine (lt_bool (p:=p) (q:=q) ?_:U9 (Vg prog w) A (Wl .Lt (.bool p) (.bool q)) Q E s)
  cases p <;> cases q <;> exact hq
 | _=>cases h
theorem HC (A:Vz) (h:dM (.int p) e=some b) (re:Rep K J e w) (rw':RelV w u'):vR A s (.int p t) u' b:=by
 unfold dM at h
 cases e with
 | int q=>
  cases re
  obtain ⟨t',rfl⟩:=rw'
  simp only [WM] at h
  subst h
  intro prog w E Q hq
  exact (aeP hq:U9 (Vg prog w) A (Wl .Lt (.int p t) (.int q t')) Q E s)
 | _=>cases h
theorem HD (A:Vz) (h:dM (.str p) e=some b) (re:Rep K J e w) (rw':RelV w u'):vR A s (.str p t) u' b:=by
 unfold dM at h
 cases e with
 | str q=>
  cases re
  obtain ⟨t',rfl⟩:=rw'
  simp only [WM] at h
  subst h
  intro prog w E Q hq
  exact (aeQ hq:U9 (Vg prog w) A (Wl .Lt (.str p t) (.str q t')) Q E s)
 | _=>cases h
noncomputable def GU (K:UM) (J:Hp) (s:UP) (d:D):Prop:=∀{e:D}{v w:V}{u u':UN}{b:Bool}(A:Vz),dM d e=some b->Rep K J d v->Rep K J e w->RelV v u->RelV w u'->A.units + dep d < Wj->dep d<=1000->dep e<=1000->vR A s u u' b
noncomputable def uJ (K:UM) (J:Hp) (s:UP) (ds:List D):Prop:=∀{es:List D}{vs ws:List V}{us us':List UN}{b:Bool}{n1 n2:Nat}(A:Vz),kE ds es=some b->aL K J ds vs->aL K J es ws->Vals vs us->Vals ws us'->A.units + deps ds < Wj->deps ds<=1000->deps es<=1000->
  us.length + n2=us'.length + n1->gR A s (decide (n1 < n2)) (us.zip us') b
theorem HE (F:HF K J s) (ih:uJ K J s ds):GU K J s (.tup ds):=by
 intro e v w u u' b A h rd re rv rw' hu k1 k2
 unfold dM at h
 cases e with
 | tup es=>
  simp only at h
  cases rd with
  | tup h1 hs=>
   cases re with
   | tup h2 hs'=>
    cases rv;cases rw'
    obtain ⟨UC,r,p⟩:=F.t _ _ h1
    obtain ⟨its',r',p'⟩:=F.t _ _ h2
    refine K0 p p' ?_ (by unfold dep at hu;omega)
    have:=ih A.in1 (n1:=UC.length) (n2:=its'.length) h hs hs' r r' (by rw [in1_units];unfold dep at hu;omega) (by unfold dep at k1;omega) (by unfold dep at k2;omega) (by omega)
    simpa using this
 | _=>cases h
theorem FP:uJ K J s []:=by
 intro es vs ws us us' b n1 n2 A h rd re rv rw' hu k1 k2 hl
 cases rd;cases rv
 cases re with
 | nil=>
  cases rw'
  simp only [kE,List.isEmpty_nil,W_,WM] at h
  subst h
  have:decide (n1 < n2)=false:=decide_eq_false (by simp at hl;omega)
  rw [this]
  exact .nil
 | cons _ _=>
  cases rw'
  simp only [kE,List.isEmpty_cons,abz,WM] at h
  subst h
  have:decide (n1 < n2)=true:=decide_eq_true (by simp at hl;omega)
  rw [this]
  exact .nil
theorem DV (F:HF K J s) (ix:GU K J s x) (ih:uJ K J s xs):uJ K J s (x::xs):=by
 intro es vs ws us us' b n1 n2 A h rd re rv rw' hu k1 k2 hl
 cases rd with
 | cons q1 r1=>
  cases rv with
  | cons t1 u1=>
   cases re with
   | nil=>
    cases rw'
    simp only [kE,WM] at h
    subst h
    have:decide (n1 < n2)=false:=decide_eq_false (by simp at hl;omega)
    rw [this]
    exact .nil
   | cons q2 r2=>
    cases rw' with
    | cons t2 u2=>
     unfold deps at hu k1 k2
     rename_i y v' ys ws' u0 us0
     have he:=nM F A q1 q2 t1 t2 (by omega) (by omega) (by omega)
     simp only [kE] at h
     cases z:bu x y with
     | true=>
      rw [z,if_pos rfl] at h
      rw [z] at he
      exact .yes he (ih A h r1 r2 u1 u2 (by omega) (by omega) (by omega) (by simp at hl;omega))
     | false=>
      rw [z,if_neg Vp] at h
      rw [z] at he
      exact .no he (ix A h q1 q2 t1 t2 (by omega) (by omega) (by omega))
mutual
theorem Nh (F:HF K J s):∀d:D,GU K J s d
 | .bl p=>λA h rd re rv rw' _ _ _=>by cases rd;cases rv;exact KZ A h re rw'
 | .int p=>λA h rd re rv rw' _ _ _=>by cases rd;obtain ⟨t,rfl⟩:=rv;exact HC A h re rw'
 | .str p=>λA h rd re rv rw' _ _ _=>by cases rd;obtain ⟨t,rfl⟩:=rv;exact HD A h re rw'
 | .tup ds=>HE F (zb F ds)
 | .non=>λA h _ _ _ _ _ _ _=>by unfold dM at h;cases h
 | .lst _=>λA h _ _ _ _ _ _ _=>by unfold dM at h;cases h
 | .emp=>λA h _ _ _ _ _ _ _=>by unfold dM at h;cases h
 | .exn _ _ _=>λA h _ _ _ _ _ _ _=>by unfold dM at h;cases h
 | .dct _ _=>λA h _ _ _ _ _ _ _=>by unfold dM at h;cases h
theorem zb (F:HF K J s):∀ds:List D,uJ K J s ds
 | []=>FP
 | x::xs=>DV F (Nh F x) (zb F xs)
end
end
end DL
namespace DL
open PySem PySem.Spec PyProof.Rows L2
open PySem.W (KasT kas_sort kas_asc kas_desc kas_rev kas_tail3 kas_descPart kas_count kas_place kas_bin)
noncomputable def bq {α:Type}(q:Nat->Nat->Bool):KasT α->α
 | .ret a=>a
 | .ask i j k=>bq q (k (q i j))
inductive fZ (n:Nat){α:Type}(P:α->Prop):KasT α->Prop
 | ret {a:α}:P a->fZ n P (.ret a)
 | ask {i j:Nat}{k:Bool->KasT α}:i < n->j < n->(∀b,fZ n P (k b))->fZ n P (.ask i j k)
theorem fZ.bind {α β:Type}{P:α->Prop}{R:β->Prop}{f:α->KasT β}{t:KasT α}(h:fZ n P t) (hf:∀a,P a->fZ n R (f a)):fZ n R (t.bind f):=by
 induction h with
 | ret p=>exact hf _ p
 | ask h1 h2 _ ih=>exact .ask h1 h2 ih
theorem fZ.run {n:Nat}{α:Type}{P:α->Prop}{t:KasT α}(q:Nat->Nat->Bool) (h:fZ n P t):P (bq q t):=by
 induction h with
 | ret p=>exact p
 | ask _ _ _ ih=>exact ih _
theorem fZ.wp {α:Type}{P:α->Prop}{t:KasT α}{q:Nat->Nat->Bool}{cmp:Nat->Nat->(Bool->UP->Prop)->UP->Prop}{G:α->UP->Prop}(h:fZ n P t)
 (hc:∀i j C,i < n->j < n->C (q i j) s->cmp i j C s) (hG:G (bq q t) s):t.kasWp cmp G s:=by
 induction h with
 | ret p=>exact hG
 | ask h1 h2 _ ih=>exact hc _ _ _ h1 h2 (ih _ hG)
def gH (n:Nat) (p:Array Nat):Prop:=p.Perm (UQ n).toArray
theorem gH.lt {p:Array Nat}(h:gH n p) (hn:0 < n) (k:Nat):p.getD k 0 < n:=by
 by_cases hk:k < p.size
 ·have e:p.getD k 0=p[k]:=by simp [WN,hk]
  rw [e]
  have hm:p[k]∈p:=Array.getElem_mem hk
  have:=(Z8 h).mp hm
  simpa using this
 ·have e:p.getD k 0=0:=by simp [WN,hk]
  rw [e];exact hn
theorem gH.rev (h:gH n p) (i j:Nat):gH n (Zx p i j):=(mirror_perm _ _ _ _).trans h
theorem gH.bub (h:gH n p) (i j:Nat):gH n (bubble p i j):=(bubble_perm _ _ _).trans h
variable {n:Nat}
theorem Dk {p:Array Nat}(hn:0 < n) (h:gH n p):∀f m,fZ n (λ_:Nat=>True) (Zy p f m)
 | 0,m=>.ret trivial
 | f + 1,m=>.ask (h.lt hn _) (h.lt hn _) λb=>by cases b with
  | true=>exact .ret trivial
  | false=>exact Dk hn h f (m + 1)
theorem uP (hn:0 < n):∀f {p:Array Nat} m q,gH n p->fZ n (λr:Array Nat×Nat×Nat=>gH n r.1) (Xa f p m q)
 | 0,p,m,q,h=>.ret h
 | f + 1,p,m,q,h=>.ask (h.lt hn _) (h.lt hn _) λb=>by
  cases b with
  | true=>
   simp only [if_true]
   by_cases hq:q > 0
   ·rw [if_pos hq];exact uP hn f _ _ (h.rev _ _)
   ·rw [if_neg hq];exact uP hn f _ _ h
  | false=>
   simp only [Va,if_false]
   refine .ask (h.lt hn _) (h.lt hn _) λb=>?_
   cases b with
   | true=>exact .ret h
   | false=>exact uP hn f _ _ h
theorem ED (hn:0 < n) (h:gH n p) (m k:Nat):fZ n (λr:Nat×Array Nat=>gH n r.2) (aeq m k p):=(Dk hn (h.rev 0 m) _ _).bind λa _=>.ret (h.rev _ _)
theorem BW (hn:0 < n) (h:gH n p) (m k:Nat):fZ n (λr:Nat×Array Nat=>gH n r.2) (acD m k p):=(uP hn _ _ _ h).bind λr hr=>by
 split
 ·exact ED hn (hr.rev _ _) _ _
 ·exact ED hn hr _ _
theorem Kf (hn:0 < n) (h:gH n p) (k:Nat):fZ n (λr:Nat×Array Nat=>gH n r.2) (ac6 k p):=(Dk hn h _ _).bind λm _=>by
 split
 ·exact .ret h
 ·split
  ·refine .ask (h.lt hn _) (h.lt hn _) λb=>?_
   cases b with
   | true=>exact .ret h
   | false=>exact BW hn (h.rev _ _) _ _
  ·exact BW hn h _ _
theorem vW (hn:0 < n){p:Array Nat}(h:gH n p) (k:Nat):∀f l r,fZ n (λ_:Nat=>True) (Xq p k f l r)
 | 0,l,r=>.ret trivial
 | f + 1,l,r=>by
  unfold Xq
  split
  ·exact .ret trivial
  ·refine .ask (h.lt hn _) (h.lt hn _) λb=>?_
   cases b with
   | true=>exact vW hn h k f _ _
   | false=>exact vW hn h k f _ _
theorem Jj (hn:0 < n):∀f {p:Array Nat} k,gH n p->fZ n (gH n) (ad8 f p k)
 | 0,p,k,h=>.ret h
 | f + 1,p,k,h=>(vW hn h k _ _ _).bind λl _=>Jj hn f _ (h.bub _ _)
theorem jA (hn:0 < n):fZ n (gH n) (Yp n):=(Kf hn (show gH n _ from afg _) n).bind λr hr=>by
 split
 ·exact Jj hn _ _ hr
 ·exact .ret hr
end DL
namespace DL
open PySem PySem.Spec PyProof.Rows L2
open PySem.W (KasT kas_sort kas_ask kas_item kat_run kat_snds KatLex kat_cons kat_yes kat_no kat_lt kat_one KatTups kat_kind Looks)
section
variable {prog:U6}{w:Vs}{A:Vz}{E:UN->UP->Prop}{s:UP}
def qN (q:Nat->Nat->Bool) (vs:List UN):List UN:=(bq q (Yp vs.length)).toList.map λi=>vs.getD i VM
theorem HX (q:Nat->Nat->Bool){vs:List UN}(h:0 < vs.length):(qN q vs).length=vs.length:=by
 unfold qN
 rw [UR,Vb]
 have:=((jA h).run q:gH _ _).size_eq
 simpa using this
theorem DS {vs:List UN}{q:Nat->Nat->Bool}{P:afh->UP->Prop}(ho:s.heap.get? a=some (Yh "list" vs.toArray n)) (h2:2<=vs.length) (h64:vs.length < 64)
 (hk:∀h' C,(∀b o,b≠a->s.heap.get? b=some o->h'.get? b=some o)->C κ {s with heap:=h'}->U9 (Vg prog w) A (ae2 vs.toArray) C (λ_ _=>False) {s with heap:=h'})
 (hc:∀h',(∀b o,b≠a->s.heap.get? b=some o->h'.get? b=some o)->∀i j C,i < vs.length->j < vs.length->C (q i j) {s with heap:=h'}->kas_ask prog w A κ vs i j C {s with heap:=h'})
 (h:P (.done (.ret .none)) {s with heap:=adT s.heap a vs (qN q vs).toArray}):U9 (Vg prog w) A (YU.«list.sort» ⟨[.ref a],[]⟩) P E s:=by
 have la:a < s.heap.objs.size:=U7 ho
 have sl:vs.length<=sizeLine:=by rw [Wv];omega
 obtain ⟨e1,g1⟩:∃e1,(s.heap.update a (W0 λ_=>(#[]:Array UN))).get? a=some (Yh "list" #[] e1):=⟨_,(ac_ ho λ_=>#[])⟩
 have z1:(s.heap.update a (W0 λ_=>(#[]:Array UN))).objs.size=s.heap.objs.size:=(acO _ _ _)
 have g3:(((s.heap.update a (W0 λ_=>(#[]:Array UN))).push (Yh "tuple" vs.toArray 0)).push (Yh "list" #[] 0)).get? a=some (Yh "list" #[] e1):=(US _ ((US _ g1)))
 have kp:∀b o,b≠a->s.heap.get? b=some o->(((s.heap.update a (W0 λ_=>(#[]:Array UN))).push (Yh "tuple" vs.toArray 0)).push (Yh "list" #[] 0)).get? b=some o:=λb o nb q=>
  US _ (US _ (by rw [abJ _ _ _ _ nb];exact q))
 rw [ada]
 refine UL ((listItems_at ho rfl ?_))
 refine UL (aaA ho rfl ?_ (by rw [U3];exact sl) (Vl _))
 refine UL ((abK g1 rfl ?_))
 refine UL (abA ?_ (show vs.length<=_ from sl))
 refine UL ((ab2 ?_ (Vl _)))
 refine (VB ?_)
 dsimp only
 have n2:¬vs.toArray.size < 2:=by (rw [U3]);omega
 rw [if_neg n2,if_neg n2]
 refine UL (VN (hk _ (λk s'=>k=κ/\s'=_) kp ⟨rfl,rfl⟩) ?_ λ_ _ x=>x.elim)
 rintro _ _ ⟨rfl,rfl⟩
 refine UL (VN (kat_run (E:=E) (Q:=λst' s'=>∃p:Array Nat,p.size=vs.length/\arrOf st'=p.map (kas_item (vs.toArray.zip vs.toArray))/\failedOf st'=none/\p=bq q (Yp vs.length)/\s'=_)
  rfl h2 h64 (λp' st' s' a1 a2 a3 a4=>⟨p',a1,a2,a3,a4⟩) ((jA (by omega)).wp (q:=q) (hc _ kp) ⟨rfl,rfl⟩)) ?_ λ_ _ e=>e)
 rintro ⟨⟨⟩,st'⟩ s' ⟨p,hp,har,hf,rfl,rfl⟩
 dsimp only
 have ou:(arrOf st').map (·.2)=(qN q vs).toArray:=kat_snds rfl har
 rw [ou]
 refine UL ((abK g3 rfl ?_))
 refine UL (aaA g3 rfl ?_ (Vl _) (Vq (acB (U3.trans (HX q (Vf Nat.zero_lt_two h2)))) (Nat.le_succ_of_le sl)))
 rw [hf]
 simp only [bne_self_eq_false,Va,if_false]
 exact UO h
end
end DL
namespace DL
open PySem PySem.Spec PyProof.Rows L2
open PySem.W (KasT kas_sort kas_ask KatLex kat_nil kat_cons kat_yes kat_no kat_lt kat_one KatTups kat_kind Looks)
section
variable {prog:U6}{w:Vs}{A:Vz}{E:UN->UP->Prop}{s:UP}{K:UM}{J:Hp}
theorem xN {fin ans:Bool}{Q:Bool->UP->Prop}(h:gR A s fin zs ans) (hq:Q ans s):∀{i:Nat},(b && i == 0)=false->KatLex prog w A b fin Q zs i s:=by
 induction h with
 | nil=>intro i _;exact kat_nil hq
 | yes he _ ih=>intro i _;exact ad9 (he prog w _ _ (kat_yes (ih hq (by cases b <;> rfl))))
 | no he hl=>
  intro i hb
  refine ad9 (he prog w _ _ (kat_no ?_))
  rw [hb]
  exact kat_one _ _ (hl prog w _ _ hq)
theorem KS {fin ans e:Bool}{Q:Bool->UP->Prop}(he:WZ A s u u' e) (h1:e=true->gR A s fin zs ans)
 (h2:e=false->U9 (Vg prog w) A (oneLt' true u u') Q (λ_ _=>False) s) (hq:Q ans s):KatLex prog w A true fin Q ((u,u')::zs) 0 s:=by
 cases e with
 | true=>exact ad9 (he prog w _ _ (kat_yes (xN (h1 rfl) hq rfl)))
 | false=>exact ad9 (he prog w _ _ (kat_no (h2 rfl)))
inductive Hd where
 | t | i | x
noncomputable def ie:D->Option Hd
 | .tup (.tup _::_)=>some .t
 | .tup (.int _::_)=>some .i
 | .tup (.str _::_)=>some .x
 | _=>none
noncomputable def Hd.flag:Hd->Bool
 | .t=>false
 | _=>true
noncomputable def Hd.ty:Hd->UN
 | .t=>.type "tuple"
 | .i=>.type "int"
 | .x=>.type "str"
theorem HU {k:Hd}{C:Bool->UP->Prop}(hd:ie (.tup (x::xs))=some k) (he:ie (.tup (y::ys))=some k) (hf:k.flag=true) (h:dM x y=some b) (rd:Rep K J x v) (re:Rep K J y v') (rv:RelV v u) (rv':RelV v' u') (c:C b s):
  U9 (Vg prog w) A (oneLt' true u u') C E s:=by
 cases x with
 | int x=>
  cases hd
  cases y with
  | int y=>
   cases rd;cases re
   obtain ⟨tk,rfl⟩:=rv
   obtain ⟨tk',rfl⟩:=rv'
   unfold dM at h
   simp only [WM] at h
   refine oneLt_int ?_
   rw [h];exact c
  | _=>cases he
 | str x=>
  cases hd
  cases y with
  | str y=>
   cases rd;cases re
   obtain ⟨tk,rfl⟩:=rv
   obtain ⟨tk',rfl⟩:=rv'
   unfold dM at h
   simp only [WM] at h
   refine oneLt_str ?_
   rw [h];exact c
  | _=>cases he
 | tup _=>cases hd;cases hf
 | _=>cases hd
theorem KU (F:HF K J s){k:Hd}{C:Bool->UP->Prop}(hd:ie d=some k) (he:ie e=some k) (h:dM d e=some b) (rd:Rep K J d v) (re:Rep K J e v') (rv:RelV v u) (rv':RelV v' u')
 (hu:A.units + dep d < Wj) (k1:dep d<=1000) (k2:dep e<=1000) (c:C b s):U9 (Vg prog w) A (keyLt' (tuples' k.flag) u u') C E s:=by
 cases d with
 | tup ds=>
  cases e with
  | tup es=>
   unfold dM at h
   simp only at h
   cases rd with
   | tup h1 hs=>
    cases re with
    | tup h2 hs'=>
     cases rv;cases rv'
     obtain ⟨UC,r,p⟩:=F.t _ _ h1
     obtain ⟨its',r',p'⟩:=F.t _ _ h2
     obtain ⟨o,ho,hc,m,dm⟩:=id p
     obtain ⟨o',ho',hc',m',dm'⟩:=id p'
     refine kat_lt ho dm ho' dm' ?_
     simp only [U3]
     cases hf:k.flag with
     | false=>
      exact xN (zb F ds A (n1:=UC.length) (n2:=its'.length) h hs hs' r r' (by unfold dep at hu;omega) (by unfold dep at k1;omega) (by unfold dep at k2;omega) (by omega)) c rfl
     | true=>
      cases hs with
      | nil=>cases hd
      | cons q1 t1=>
       cases hs' with
       | nil=>cases he
       | cons q2 t2=>
        cases r with
        | cons a1 b1=>
         cases r' with
         | cons a2 b2=>
          unfold dep deps at hu k1 k2
          rw [YY]
          unfold kE at h
          simp only at h
          refine KS (ans:=b) (nM F A q1 q2 a1 a2 (by omega) (by omega) (by omega)) (λz=>?_) (λz=>?_) c
          ·rw [z,if_pos rfl] at h
           exact zb F _ A h t1 t2 b1 b2 (by omega) (by omega) (by omega) (by simp;omega)
          ·rw [z,if_neg Vp] at h
           exact HU hd he hf h q1 q2 a1 a2 c
  | _=>cases he
 | _=>cases hd
noncomputable def gX (k:Hd):List D->Bool
 | []=>true
 | d::r=>(match ie d,k with
  | some .t,.t=>true
  | some .i,.i=>true
  | some .x,.x=>true
  | _,_=>false) && gX k r
theorem mz {k:Hd}:∀{ds:List D},gX k ds=true->∀d∈ds,ie d=some k
 | [],_,_,hm=>nomatch hm
 | x::r,h,d,hm=>by
  unfold gX at h
  rw [UT] at h
  rcases U8.mp hm with rfl | hm
  ·cases q:ie d with
   | none=>rw [q] at h;cases h.1
   | some k'=>rw [q] at h;cases k' <;> cases k <;> first | rfl | cases h.1
  ·exact mz h.2 d hm
theorem Ft (F:HF K J s){k:Hd}(hd:ie d=some k) (rd:Rep K J d v) (rv:RelV v u):∃a o xs n f,u=.ref a/\s.heap.get? a=some o/\o.cls=.type "tuple"/\o.data=.seq xs n/\xs[0]?=some f/\Looks (Vg prog w) s.heap (typeOf f) k.ty:=by
 cases d with
 | tup ds=>
  cases rd with
  | tup h1 hs=>
   cases rv
   obtain ⟨UC,r,p⟩:=F.t _ _ h1
   obtain ⟨o,ho,hc,m,dm⟩:=id p
   cases hs with
   | nil=>cases hd
   | cons q1 t1=>
    cases r with
    | cons a1 b1=>
     refine ⟨_,o,_,m,_,rfl,ho,hc,dm,rfl,?_⟩
     rename_i x v' ds' vs' u us
     cases x with
     | tup _=>
      cases hd
      cases q1 with
      | tup h2 _=>
       cases a1
       obtain ⟨its2,_,p2⟩:=F.t _ _ h2
       obtain ⟨o2,ho2,hc2,_,_⟩:=id p2
       have:=(Looks.ld (M:=Vg prog w) (part:=none) ho2).andThen (f:=λo=>pure o.cls) (b:=o2.cls) .now
       rw [hc2] at this
       exact this
     | int _=>
      cases hd
      cases q1
      obtain ⟨tk,rfl⟩:=a1
      exact .now
     | str _=>
      cases hd
      cases q1
      obtain ⟨tk,rfl⟩:=a1
      exact .now
     | _=>cases hd
 | _=>cases hd
theorem vm (F:HF K J s){k:Hd}:∀{ds:List D}{vs:List V}{us:List UN},gX k ds=true->aL K J ds vs->Vals vs us->∃fs,KatTups s.heap us fs/\fs.length=us.length/\∀v∈fs,Looks (Vg prog w) s.heap (typeOf v) k.ty
 | _,_,_,_,.nil,.nil=>⟨[],trivial,rfl,λ_ h=>nomatch h⟩
 | d::ds,_,_,h,.cons q rs,.cons a b=>by
  have hd:=mz h d (UW ..)
  unfold gX at h
  rw [UT] at h
  obtain ⟨fs,h1,h2,h3⟩:=vm F h.2 rs b
  obtain ⟨p,o,xs,n,f,rfl,e1,e2,e3,e4,e5⟩:=Ft (prog:=prog) (w:=w) F hd q a
  refine ⟨f::fs,⟨⟨p,o,xs,n,rfl,e1,e2,e3,e4⟩,h1⟩,by simp [h2],λv hv=>?_⟩
  rcases U8.mp hv with rfl | hv
  ·exact e5
  ·exact h3 v hv
theorem KA (k:Hd):(k.ty != YL "tuple")=k.flag:=by cases k <;> decide
theorem FH (F:HF K J s){k:Hd}{us:List UN}(h:gX k ds=true) (rs:aL K J ds vs) (rv:Vals vs us) (hl:0 < us.length){C:SortKind->UP->Prop}(c:C (tuples' k.flag) s):U9 (Vg prog w) A (ae2 us.toArray) C E s:=by
 obtain ⟨fs,h1,h2,h3⟩:=vm (prog:=prog) (w:=w) F h rs rv
 refine kat_kind h1 (by omega) h3 (by cases k <;> decide) ?_
 rw [KA]
 exact c
end
end DL
namespace DL
open PySem PySem.Spec PyProof.Rows L2
open PySem.W (KasT kas_sort kas_ask)
section
variable {prog:U6}{w:Vs}{A:Vz}{E:UN->UP->Prop}{s:UP}
theorem DR {vs:List UN}{P:afh->UP->Prop}(ho:s.heap.get? a=some (Yh "list" vs.toArray n)) (h2:vs.length < 2)
 (h:P (.done (.ret .none)) {s with heap:=adT s.heap a vs vs.toArray}):U9 (Vg prog w) A (YU.«list.sort» ⟨[.ref a],[]⟩) P E s:=by
 have sl:vs.length<=sizeLine:=by rw [Wv];omega
 obtain ⟨e1,g1⟩:∃e1,(s.heap.update a (W0 λ_=>(#[]:Array UN))).get? a=some (Yh "list" #[] e1):=⟨_,(ac_ ho λ_=>#[])⟩
 have g3:(((s.heap.update a (W0 λ_=>(#[]:Array UN))).push (Yh "tuple" vs.toArray 0)).push (Yh "list" #[] 0)).get? a=some (Yh "list" #[] e1):=(US _ ((US _ g1)))
 rw [ada]
 refine UL ((listItems_at ho rfl ?_))
 refine UL (aaA ho rfl ?_ (by rw [U3];exact sl) (Vl _))
 refine UL ((abK g1 rfl ?_))
 refine UL (abA ?_ (show vs.length<=_ from sl))
 refine UL ((ab2 ?_ (Vl _)))
 refine (VB ?_)
 dsimp only
 have n2:vs.toArray.size < 2:=by (rw [U3]);omega
 rw [if_pos n2,if_pos n2]
 refine (UL (UO ?_))
 rw [StateT.run_pure]
 refine (UL (UO ?_))
 dsimp only
 have ou:(arrOf (SortSt.mk' general' (vs.toArray.zip vs.toArray) #[] 7 none)).map (·.2)=vs.toArray:=by
  show (vs.toArray.zip vs.toArray).map (·.2)=vs.toArray
  match vs,h2 with
  | [],_=>simp
  | [_],_=>simp
 rw [ou]
 refine UL ((abK g3 rfl ?_))
 refine UL (aaA g3 rfl ?_ (Vl _) (by rw [U3];omega))
 simp only [bne_self_eq_false,Va,if_false]
 exact UO h
abbrev Kp (h h':V1):Prop:=∀b o,h.get? b=some o->h'.get? b=some o
noncomputable def zk (prog:U6) (w:Vs) (A:Vz) (s:UP) (vs:List UN) (q:Nat->Nat->Bool):Prop:=2<=vs.length->∃κ,∀h' tk,Kp s.heap h'->
 (∀C:SortKind->UP->Prop,C κ {s with heap:=h',toks:=tk}->U9 (Vg prog w) A (ae2 vs.toArray) C (λ_ _=>False) {s with heap:=h',toks:=tk})/\
 ∀i j (C:Bool->UP->Prop),i < vs.length->j < vs.length->C (q i j) {s with heap:=h',toks:=tk}->kas_ask prog w A κ vs i j C {s with heap:=h',toks:=tk}
noncomputable def Coll (prog:U6) (w:Vs) (A:Vz) (s:UP) (x:UN) (vs:List UN):Prop:=∀(E:UN->UP->Prop) (C:List UN->UP->Prop),(∀h1 tk,Kp s.heap h1->s.heap.objs.size<=h1.objs.size->C vs {s with heap:=h1,toks:=tk})->U9 (Vg prog w) A (collect x) C E s
theorem BY {o:Obj}{vs:List UN}(hT:T="list"\/T="tuple") (ho:s.heap.get? a=some o) (hc:o.cls=.type T) (hd:o.data=.seq vs.toArray n) (sl:vs.length<=sizeLine):Coll prog w A s (.ref a) vs:=by
 intro E C h
 generalize hh:(s.heap.push (Yh "list" #[] 0)).update s.heap.objs.size (W0 (·++vs.toArray))=h1
 have hS:(s.heap.push (Yh "list" #[] 0)).get? s.heap.objs.size=some (Yh "list" #[] 0):=U0 _ rfl
 have SJ:=Wy (W0 (·++vs.toArray)) hS rfl
 rw [hh] at SJ
 have k1:Kp s.heap h1:=λb o e=>by
  rw [<-hh,abJ _ _ _ _ (Vn (U7 e))]
  exact US _ e
 have z1:s.heap.objs.size<=h1.objs.size:=by rw [<-hh,acO,size_push'];exact YI _
 have fin:=h h1 s.toks k1 z1
 unfold collect
 refine UL (abB (Xi aa7 ?_))
 rw [WH aa8 _]
 show U9 _ A.in1 (newList [] >>= λl=>again (.builtin "list.__iadd__" ⟨[l,.ref a],[]⟩)) _ _ s
 refine UL (Vu ?_)
 refine UO ⟨YZ Zk _,Xi acp ?_⟩
 rw [WH Zk _]
 have fin':U9 (Vg prog w) A (load s.heap.objs.size >>= λo=>match o.data with
   | .seq xs _=>pure xs.toList
   | _=>unsupported "internal:collect") C E {s with heap:=h1}:=by
  refine UL (adL SJ (UO ?_))
  have e:((#[]:Array UN)++vs.toArray).toList=vs:=by simp
  show C ((#[]:Array UN)++vs.toArray).toList _
  rw [e]
  exact fin
 refine VN (wpAny_extend_seq (hsz:=by rw [U3];exact sl) (A:=A) (R:=λr s'=>r=.ok (.ret (.ref s.heap.objs.size))/\s'={s with heap:=h1})
  (s:={s with heap:=s.heap.push (Yh "list" #[] 0)}) _ a _ 0 hT hS (US _ ho) hc hd ⟨rfl,by rw [<-hh]⟩) (λf s' q=>?_) (λe s' q=>absurd q.1 (by simp))
 cases f with
 | done f=>
  obtain ⟨e,rfl⟩:=q
  cases e
  exact fin'
 | again c'=>exact ⟨q.1,XR q.2 λr s'' hr=>by obtain ⟨rfl,rfl⟩:=hr;exact fin'⟩
theorem LK {q:Nat->Nat->Bool}{Q:UN->UP->Prop}{vs:List UN}(Sn:Coll prog w A.in1 s x vs) (h64:vs.length < 64) (ha:zk prog w A.in1.in1 s vs q)
 (h:∀h' tk l n,Kp s.heap h'->s.heap.objs.size<=l->h'.get? l=some (Yh "list" (if vs.length < 2 then vs else qN q vs).toArray n)->Q (.ref l) {s with heap:=h',toks:=tk}):U9 (Vg prog w) A (call (.builtin "sorted") [x]) Q E s:=by
 have sl:vs.length<=sizeLine:=by rw [Wv];omega
 refine (Calls.call_function_entry kind_sorted plain_sorted entry_sorted (args_sorted1 _) ?_)
 unfold YU.«sorted»
 refine UL (m:=checkCount "sorted" 1 1 _) ((UO ?_))
 refine UL (Sn _ _ λh1 tk1 k1 le1=>?_)
 refine UL (ab2 ?_ sl)
 have gL:(h1.push (Yh "list" vs.toArray 0)).get? h1.objs.size=some (Yh "list" vs.toArray 0):=U0 _ rfl
 have kp:∀b o,s.heap.get? b=some o->b≠h1.objs.size/\(h1.push (Yh "list" vs.toArray 0)).get? b=some o:=λb o e=>by
  have e1:=k1 b o e
  exact ⟨Vn (U7 e1),US _ e1⟩
 have kend:∀out,Kp s.heap (adT (h1.push (Yh "list" vs.toArray 0)) h1.objs.size vs out):=λout b o e=>by
  obtain ⟨g1,g2'⟩:=kp b o e
  rw [sortedHeap_old g1 (U7 g2')]
  exact g2'
 dsimp only
 by_cases h2:vs.length < 2
 ·refine UL (VB (VA adB ⟨_,gL,rfl⟩ adb (DR gL h2 ⟨_,rfl,?_⟩) (adC _)))
  obtain ⟨n,hn'⟩:=ad_ (out:=vs.toArray) gL
  rw [if_pos h2] at h
  exact UO ⟨_,rfl,h _ tk1 _ n (kend _) le1 hn'⟩
 ·obtain ⟨κ,ask⟩:=ha (by omega)
  refine UL (VB (VA adB ⟨_,gL,rfl⟩ adb (DS (κ:=κ) (q:=q) gL (by omega) h64 (λh' C k c=>?_) (λh' k i j C hi hj c=>?_) ⟨_,rfl,?_⟩) (adC _)))
  ·exact (ask h' tk1 λb o e=>k b o (kp b o e).1 (kp b o e).2).1 C c
  ·exact (ask h' tk1 λb o e=>k b o (kp b o e).1 (kp b o e).2).2 i j C hi hj c
  ·obtain ⟨n,hn'⟩:=ad_ (out:=(qN q vs).toArray) gL
   rw [if_neg h2] at h
   exact UO ⟨_,rfl,h _ tk1 _ n (kend _) le1 hn'⟩
end
def dJ (ds:List D) (i:Nat):D:=ds.getD i .non
def ltB (ds:List D) (i j:Nat):Bool:=(dM (dJ ds i) (dJ ds j)).getD false
def bW (ds:List D):List D:=if ds.length < 2 then ds else (bq (ltB ds) (Yp ds.length)).toList.map (dJ ds)
def Aa (ds:List D):Bool:=ds.all λx=>ds.all λy=>(dM x y).isSome
noncomputable def HR (ds:List D):Bool:=match ds with
 | []=>false
 | d::_=>match ie d with
  | some k=>gX k ds
  | none=>false
def xR (ds:List D):Bool:=decide (ds.length < 2) || (decide (ds.length < 64) && (decide (deps ds<=60) && (HR ds && Aa ds)))
section
variable {K:UM}{J:Hp}
theorem jZ {ds:List D}{vs:List V}(h:aL K J ds vs):∀{i:Nat},i < ds.length->Rep K J (dJ ds i) (vs.getD i V.non):=by
 induction ds generalizing vs with
 | nil=>intro i hi;exact absurd hi (V4 _)
 | cons x r ih=>
  intro i hi
  cases h with
  | cons q rs=>
   cases i with
   | zero=>simpa [dJ] using q
   | succ i=>simpa [dJ] using ih rs (i:=i) (by simpa using hi)
theorem j4 {vs:List V}{us:List UN}(h:Vals vs us):∀{i:Nat},i < vs.length->RelV (vs.getD i V.non) (us.getD i VM):=by
 induction vs generalizing us with
 | nil=>intro i hi;exact absurd hi (V4 _)
 | cons x r ih=>
  intro i hi
  cases h with
  | cons q rs=>
   cases i with
   | zero=>simpa using q
   | succ i=>simpa using ih rs (i:=i) (by simpa using hi)
theorem CF {ds:List D}{vs:List V}(h:aL K J ds vs):∀ix:List Nat,(∀i∈ix,i < ds.length)->aL K J (ix.map (dJ ds)) (ix.map λi=>vs.getD i V.non)
 | [],_=>.nil
 | i::r,hi=>.cons (jZ h (hi i (UW ..))) (CF h r λj hj=>hi j (UU _ hj))
theorem CM {vs:List V}{us:List UN}(h:Vals vs us):∀ix:List Nat,(∀i∈ix,i < vs.length)->Vals (ix.map λi=>vs.getD i V.non) (ix.map λi=>us.getD i VM)
 | [],_=>.nil
 | i::r,hi=>.cons (j4 h (hi i (UW ..))) (CM h r λj hj=>hi j (UU _ hj))
theorem Ks {ds:List D}:∀{i:Nat},i < ds.length->dep (dJ ds i)<=deps ds:=by
 induction ds with
 | nil=>intro i hi;exact absurd hi (V4 _)
 | cons x r ih=>
  intro i hi
  unfold deps
  cases i with
  | zero=>show dep x<=_;omega
  | succ i=>
   have:=ih (i:=i) (by simpa using hi)
   have e:dJ (x::r) (i + 1)=dJ r i:=rfl
   rw [e];omega
theorem iC {ds:List D}(hi:i < ds.length):dJ ds i∈ds:=by
 have e:dJ ds i=ds[i]:=by simp [dJ,hi]
 rw [e];exact Vt hi
theorem HF.keep {s s':UP}(F:HF K J s) (k:∀b o,s.heap.get? b=some o->s'.heap.get? b=some o):HF K J s':=
 ⟨λa xs h=>let ⟨UC,r,o,ho,p⟩:=F.t a xs h;⟨UC,r,o,k _ _ ho,p⟩,λa xs h=>let ⟨UC,r,o,ho,p⟩:=F.l a xs h;⟨UC,r,o,k _ _ ho,p⟩,λa h=>let ⟨o,ho,p⟩:=F.e a h;⟨o,k _ _ ho,p⟩,λa ep UJ h=>let ⟨o,es,ho,p⟩:=F.d a ep UJ h;⟨o,es,k _ _ ho,p⟩⟩
theorem EB {A:Vz}(F:HF K J s) (rs:aL K J ds vs) (rv:Vals vs UC) (hk:∀d∈ds,ie d=some k/\dep d<=60) (hk':gX k ds=true) (hc:∀x∈ds,∀y∈ds,(dM x y).isSome=true) (hu:A.units + 62 < Wj):zk prog w A s UC (ltB ds):=by
 intro h2
 have l1:vs.length=UC.length:=rv.length
 have l2:ds.length=vs.length:=rs.length
 refine ⟨tuples' k.flag,λh' tk kp=>⟨λC cc=>FH (F.keep kp) hk' rs rv (by omega) cc,λi j C hi hj cc=>?_⟩⟩
 have hi':i < ds.length:=by omega
 have hj':j < ds.length:=by omega
 obtain ⟨a1,d1⟩:=hk _ (iC hi')
 obtain ⟨a2,d2⟩:=hk _ (iC hj')
 have hb:dM (dJ ds i) (dJ ds j)=some (ltB ds i j):=by
  have:=hc _ (iC hi') _ (iC hj')
  unfold ltB
  cases z:dM (dJ ds i) (dJ ds j) with
  | none=>rw [z] at this;cases this
  | some b=>rfl
 exact KU (F.keep kp) a1 a2 hb (jZ rs hi') (jZ rs hj') (j4 rv (by omega)) (j4 rv (by omega)) (by omega) (by omega) (by omega) cc
end
noncomputable def isInt:D->Bool
 | .int _=>true
 | _=>false
def AL (ds:List D):Bool:=decide (ds.length < 64) && ds.all isInt
theorem Ce {K:UM}{J:Hp}:∀{ds:List D}{vs:List V}{us:List UN},ds.all isInt=true->aL K J ds vs->Vals vs us->∃ns,YT us ns
 | _,_,_,_,.nil,.nil=>⟨[],.nil⟩
 | d::ds,_,_,h,.cons r rs,.cons v vs=>by
  (rw [X0,UT] at h)
  obtain ⟨ns,hn⟩:=Ce h.2 rs vs
  cases d with
  | int i=>
   cases r
   obtain ⟨t,rfl⟩:=v
   exact ⟨i::ns,.cons i t hn⟩
  | _=>cases h.1
theorem Mq {K:UM}{J:Hp}{prog:U6}{w:Vs}{A:Vz}{s:UP}{ds:List D}{vs:List V}{UC:List UN}(rs:aL K J ds vs) (rv:Vals vs UC) (hi:ds.all isInt=true):zk prog w A s UC (ltB ds):=by
 intro h2
 have l1:vs.length=UC.length:=rv.length
 have l2:ds.length=vs.length:=rs.length
 obtain ⟨ns,hI⟩:=Ce hi rs rv
 refine ⟨oneType',λh' tk kp=>⟨λC cc=>?_,λi j C hi' hj' cc=>?_⟩⟩
 ·clear l1 rv
  match UC,hI,h2 with
  | v1::v2::r,hI,_=>rw [keyKind_ints hI];exact UO cc
 ·have ai:=Vm.mp hi _ (iC (i:=i) (by omega))
  have aj:=Vm.mp hi _ (iC (i:=j) (by omega))
  have r1:=jZ rs (i:=i) (by omega)
  have r2:=jZ rs (i:=j) (by omega)
  have v1:=j4 rv (i:=i) (by omega)
  have v2:=j4 rv (i:=j) (by omega)
  show U9 _ _ (keyLt' oneType' (UC.getD i VM) (UC.getD j VM)) _ _ _
  rw [keyLt'_oneType]
  have e:ltB ds i j=(dM (dJ ds i) (dJ ds j)).getD false:=rfl
  rw [e] at cc
  generalize dJ ds i=di at ai r1 cc
  generalize dJ ds j=dj at aj r2 cc
  generalize vs.getD i V.non=wi at r1 v1
  generalize vs.getD j V.non=wj at r2 v2
  cases di with
  | int a=>
   cases dj with
   | int b=>
    cases r1;cases r2
    obtain ⟨t1,q1⟩:=v1
    obtain ⟨t2,q2⟩:=v2
    rw [q1,q2]
    refine oneLt_int ?_
    unfold dM at cc
    exact cc
   | _=>cases aj
  | _=>cases ai
section
variable {X:Cx}{c:C}{e:Vv}{es:List Vv}{pos:Pos}
theorem qY {H:Hp}{Q:VK}{E:UN->UP->Prop}{vs:List V}{ds:List D}(I:Inv X UB σ H s) (Sn:Coll X.prog X.w X.A.in1 s x UC) (rv:Vals vs UC) (l2:ds.length=vs.length) (l64:ds.length < 64)
 (ha:zk X.prog X.w X.A.in1.in1 s UC (ltB ds)) (q:∀l vs',H l=none->(∀J,aL X.K J ds vs->aL X.K J (bW ds) vs')->Q (.ref l) (upd H l (.lst vs'))):U9 (Vg X.prog X.w) X.A (call (.builtin "sorted") [x]) (EP X UB σ Q) E s:=by
 have l1:vs.length=UC.length:=rv.length
 refine LK Sn (by omega) ha λh' tk l n kp hl hg=>?_
 have fin:∀(ot:List UN) (vs':List V),vs'.length=vs.length->Vals vs' ot->(∀J,aL X.K J ds vs->aL X.K J (bW ds) vs')->h'.get? l=some (Yh "list" ot.toArray n)->EP X UB σ Q (.ref l) {s with heap:=h',toks:=tk}:=λot vs' lv rv' rr hg=>
  ⟨.ref l,_,I.laid (t':=tk) kp hl (show cT X.prog X.w _ _ _ (.lst vs') from ⟨by rw [lv,Wv];omega,ot,n,rv',by simpa [Yh] using hg⟩),rfl,q l vs' (I.hok.fresh hl) rr⟩
 by_cases h2:UC.length < 2
 ·rw [if_pos h2] at hg
  refine fin UC vs rfl rv (λJ rj=>?_) hg
  unfold bW
  rw [if_pos (by omega)]
  exact rj
 ·rw [if_neg h2] at hg
  have ib:∀i∈(bq (ltB ds) (Yp ds.length)).toList,i < ds.length:=λi hi=>by
   have:=((jA (n:=ds.length) (by omega)).run (ltB ds):gH _ _)
   have:=(Z8 this).mp (Array.mem_toList_iff.mp hi)
   simpa using this
  have e1:qN (ltB ds) UC=(bq (ltB ds) (Yp ds.length)).toList.map λi=>UC.getD i VM:=by unfold qN;rw [l2,l1]
  rw [e1] at hg
  refine fin _ _ ?_ (CM rv _ λi hi=>l2▸ib i hi) (λJ rj=>?_) hg
  ·rw [UR,<-l2]
   have:=((jA (n:=ds.length) (by omega)).run (ltB ds):gH _ _).size_eq
   simpa using this
  ·unfold bW
   rw [if_neg (by omega)]
   exact CF rj _ ib
theorem Hq {H:Hp}(I:Inv X UB σ H s) (h:cB X.K H p vs\/dg X.K H p vs):∃UC,Vals vs UC/\Coll X.prog X.w A s (.ref p) UC:=by
 rcases h with h | h
 ·obtain ⟨UC,r,⟨o,n,ho,hc,_,hd⟩,hz⟩:=I.list h
  exact ⟨UC,r,BY (.inl rfl) ho hc hd (r.length▸hz)⟩
 ·obtain ⟨UC,r,pt,hz⟩:=I.tuple h
  obtain ⟨o,ho,hc,n,hd⟩:=pt
  exact ⟨UC,r,BY (.inr rfl) ho hc hd (r.length▸hz)⟩
theorem HS {H:Hp}{ds:List D}(hu:X.A.units + 64 < Wj) (I:Inv X UB σ H s) (rs:aL X.K H ds vs) (rv:Vals vs UC) (ok:xR ds=true):ds.length < 64/\zk X.prog X.w X.A.in1.in1 s UC (ltB ds):=by
 have l1:vs.length=UC.length:=rv.length
 have l2:ds.length=vs.length:=rs.length
 by_cases h2:ds.length < 2
 ·exact ⟨by omega,λh=>absurd h (by omega)⟩
 ·unfold xR at ok
  rw [decide_eq_false h2,aea,UT,UT,UT] at ok
  obtain ⟨o1,o2,o3,o4⟩:=ok
  have o2:=of_decide_eq_true o2
  obtain ⟨k,hk⟩:∃k,gX k ds=true:=by
   unfold HR at o3
   cases ds with
   | nil=>cases o3
   | cons d r=>
    simp only at o3
    cases z:ie d with
    | none=>rw [z] at o3;cases o3
    | some k=>rw [z] at o3;exact ⟨k,o3⟩
  refine ⟨of_decide_eq_true o1,EB (fG I) rs rv (k:=k) (λd hd=>⟨mz hk d hd,?_⟩) hk (λx hx y hy=>Vm.mp (Vm.mp o4 _ hx) _ hy) hu⟩
  obtain ⟨i,hi,rfl⟩:=VT.mp hd
  have:=Ks hi
  have e:dJ ds i=ds[i]:=by simp [dJ,hi]
  rw [e] at this
  omega
theorem zW (hu:X.A.units + 64 < Wj):cO X (.builtin "sorted") (λxs H Q=>∃p vs ds,xs=[.ref p]/\(cB X.K H p vs\/dg X.K H p vs)/\aL X.K H ds vs/\(xR ds=true\/AL ds=true)/\∀l vs',H l=none->(∀J,aL X.K J ds vs->aL X.K J (bW ds) vs')->Q (.ref l) (upd H l (.lst vs'))):=by
 intro UB s σ H xs us Q I r h
 obtain ⟨p,vs,ds,rfl,hq,rs,ok,q⟩:=h
 obtain ⟨u,rfl,rx⟩:=vals1 r
 cases rx
 obtain ⟨UC,rv,col⟩:=Hq I hq
 rcases ok with ok | ok
 ·obtain ⟨l64,ha⟩:=HS hu I rs rv ok
  exact qY I col rv rs.length l64 ha q
 ·unfold AL at ok
  rw [UT] at ok
  exact qY I col rv rs.length (of_decide_eq_true ok.1) (Mq rs rv ok.2) q
end
end DL
namespace DL
open PySem PySem.Spec PyProof.Rows L2
section
variable {X:Cx}{c:C}{e:Vv}{g:G R}{pos:Pos}
noncomputable def ug (i:Nat) (f:R->R->M R) (g:G R):G O:=λenv=>match env[i]? with
 | some (some (.d d))=>g env >>= λy=>f (.d d) y >>= λz=>toS z >>= λx=>.ok (.nx (env.set i (some x)))
 | _=>.bad
theorem K_ (i:Nat){x:Str}{pos':Pos}{op:aeV}{r:R2}{f:R->R->M R}(hN:X.N.Nodup) (ho:dD X (aaY op) r) (hb:BD c r f) (h:PD X c e g) (hi:X.N[i]?=some x:=by rfl) (hx:Loc X.env.scope x:=by first | exact Zt rfl | exact X6 rfl)
  (hf:X.fn x=true\/X.env.scope.names.lookup x=some .local:=by first | exact .inl rfl | exact .inr rfl):Mc X c (.AugAssign (.Name x pos') op e pos) (ug i f g):=
 i7 (NP hN hi hx h (λUB s σ H x y v u Q I rx ry q=>Qi ho I rx ry q) hf) λE σ H ⟨J,env,sr,w⟩=>by
 unfold ug at w
 split at w
 ·rename_i d hd
  obtain ⟨v,h1,h2⟩:=sr.at_ i _ hd
  refine ⟨v,h1,J,env,sr,aF (aK w) λy wr v' J1 H1 e1 r1=>?_⟩
  have sr1:=sr.ext e1
  refine hb H H J1 H1 (.d d) y v v' _ sr1.hp (Rep.mono e1.j h2) r1 (aF (aK wr) λz wz w' J2 H2 e2 r2=>?_)
  obtain ⟨x,q,wz⟩:=wU wz
  exact wz (σ.set i (some w')) J2 H2 (e1.j.trans e2.j) (sr1.set e2 r2 q)
 ·exact w.elim
end
section
variable {X:Cx}{c:C}{e:Vv}{es:List Vv}{pos:Pos}
noncomputable def Aj:List R->M R
 | [.d (.int i)]=>.ok (.d (.int i))
 | [.d (.bl k)]=>.ok (.d (.int (if k then 1 else 0)))
 | _=>.bad
theorem EK:VR "int"=some (.type "int"):=by decide +kernel
end
end DL
namespace DL
open PySem PySem.Spec PyProof.Rows L2 DX
section
variable {M:aey}{A:Vz}{E:UN->UP->Prop}{s:UP}
theorem DW {UA:Yc}{globals:Vd}{closure:List (Str×Vd)}{UG:Str}{func:Option Vd}{code:UN}{outer:Env}{builtins:Vd}{Q:Env->UP->Prop}
  (hQ:Q (newEnv UA s.heap.objs.size globals (VQ (s.heap.objs.size + 1) UA.names closure) UG func code (some outer) builtins) {s with heap:=ade (s.heap.push {cls:=.type "dict",data:=.dict #[]}) UA.names}):
  U9 M A (adD UA globals closure [] UG func code (some outer) builtins) Q E s:=by
 simp only [adD,Option.isSome_some,if_true]
 refine UL (wpAny_alloc ?_)
 refine UL (wpAny_layCells _ (λname kind cells=>by cases hkc:kind == YW <;> simp [hkc]) _ _ _ _ ?_)
 rw [show ({s with heap:=s.heap.push {cls:=.type "dict",data:=.dict #[]}}:UP).heap.objs.size=s.heap.objs.size + 1 from Xx ..]
 simp only [List.forIn_nil]
 exact UL (UO (UO hQ))
theorem jS:∀(names:List (Str×W9)) (n:Nat) (acc:List (Str×Vd)) (x:Str),(∀y∈names,y.2=.cell->y.1≠x)->(VQ n names acc).lookup x=acc.lookup x
 | [],_,_,_,_=>by unfold VQ;rfl
 | (y,k)::r,n,acc,x,h=>by
  have hr:∀z∈r,z.2=.cell->z.1≠x:=λz hz=>h z (UU _ hz)
  unfold VQ
  split
  ·rename_i hk
   rw [jS r _ _ x hr]
   have hy:y≠x:=h (y,k) (UW ..) (by simpa using hk)
   have:(x == y)=false:=by
    cases q:x == y with
    | false=>rfl
    | true=>exact absurd (eq_of_beq q).symm hy
   rw [Ws,this]
  ·exact jS r _ _ x hr
end
theorem yL:∀(names:List (Str×W9)) (n:Nat) (acc:List (Str×Vd)),VQ n names acc=VQ n names []++acc:=by
 intro names
 suffices ∀(n:Nat) (a b:List (Str×Vd)),VQ n names (a++b)=VQ n names a++b by
  intro n acc
  exact this n [] acc
 induction names with
 | nil=>intro n a b;unfold VQ;rfl
 | cons p r ih=>
  obtain ⟨y,k⟩:=p
  intro n a b
  unfold VQ
  split
  ·exact ih _ (_::a) b
  ·exact ih _ a b
def dz (names:List (Str×W9)) (x:Str):Bool:=names.any λy=>y.1 == x && y.2 == .cell
theorem gI:∀(names:List (Str×W9)) (n:Nat) (acc:List (Str×Vd)) (x:Str),((acc.lookup x).isSome=true\/dz names x=true)->((VQ n names acc).lookup x).isSome=true
 | [],_,_,_,h=>by
  unfold VQ
  rcases h with h | h
  ·exact h
  ·cases h
 | (y,k)::r,n,acc,x,h=>by
  unfold VQ
  have e:dz ((y,k)::r) x=((y == x && k == .cell) || dz r x):=rfl
  rw [e] at h
  split
  ·rename_i hk
   refine gI r _ _ x ?_
   by_cases hx:x=y
   ·left;subst hx;rw [Ws];simp
   ·rcases h with h | h
    ·left
     rw [Ws]
     cases q:x == y with
     | true=>exact absurd (eq_of_beq q) hx
     | false=>exact h
    ·rw [XI,UT] at h
     rcases h with h | h
     ·exact absurd (eq_of_beq h.1).symm hx
     ·exact .inr h
  ·rename_i hk
   refine gI r _ _ x ?_
   rcases h with h | h
   ·exact .inl h
   ·rw [XI,UT] at h
    rcases h with h | h
    ·exact absurd h.2 hk
    ·exact .inr h
theorem gq {cl:List (Str×Vd)}(h:(VQ n names cl).lookup x=some d):
  (VQ n names []).lookup x=some d\/(dz names x=false/\cl.lookup x=some d):=by
 rw [yL,List.lookup_append] at h
 cases q:(VQ n names []).lookup x with
 | some e=>rw [q] at h;left;simpa using h
 | none=>
  rw [q] at h
  right
  refine ⟨?_,by simpa using h⟩
  cases z:dz names x with
  | false=>rfl
  | true=>
   have:=gI names n [] x (.inr z)
   rw [q] at this
   cases this
theorem p7 {UA:Yc}(h:(relabel UA env).names.lookup x=some .cell\/(relabel UA env).names.lookup x=some .free):(x,V_)∈UA.names\/dz UA.names x=true:=by
 unfold relabel at h
 revert h
 generalize UA.names=names
 induction names with
 | nil=>intro h;simp at h
 | cons p r ih=>
  obtain ⟨n,k⟩:=p
  intro h
  rw [U_] at h
  simp only at h
  by_cases hx:x=n
  ·subst hx
   cases k with
   | free=>exact .inl (UW ..)
   | cell=>right;unfold dz;simp
   | _=>simp [Ws] at h
  ·have e:(x == n)=false:=by simpa using hx
   have h':(r.map λ(n,k)=>if (k == V_ && env.scope.kind == .function && env.kindOf n == some .cell) then (n,YW) else (n,k)).lookup x=some .cell\/(r.map λ(n,k)=>if (k == V_ && env.scope.kind == .function && env.kindOf n == some .cell) then (n,YW) else (n,k)).lookup x=some .free:=by
    split at h <;> simpa [Ws,e] using h
   rcases ih h' with z | z
   ·exact .inl (UU _ z)
   ·right
    unfold dz at z ⊢
    rw [ZD,z,Bool.or_true]
section
variable {X:Cx}
noncomputable def c9 (X:Cx) (own:List Str) (cap:List Nat) (UA:Yc) (cl:List (Str×Vd)) (C:Vd) (s:UP) (H:Hp) (fp:List Vd):Cx:=
 {MB X own cap UA (VQ (C + 1) UA.names cl) C s H fp with fn:=dz UA.names}
theorem Kq {H:Hp}{s:UP}{UA:Yc}(I:Inv X UB σ H s) (hk:UA.kind=.function)
 (hcl:dW X.env.cells UA.names []=some cl) (ck:aeR h1 (s.heap.objs.size + 1) (VQ (s.heap.objs.size + 1) UA.names [])) (hfp:∀b∈fp,jR X UB H b) (hin:∀b∈fp,b < s.heap.objs.size):(c9 X own cap UA cl s.heap.objs.size s H fp).Ok:=by
 obtain ⟨m1,m2⟩:=ia UA.names [] cl hcl (λx c h=>by simp at h)
 have lo:∀{x:Str}{d:Vd},(VQ (s.heap.objs.size + 1) UA.names []).lookup x=some d->s.heap.objs.size + 1<=d:=fun {x d} h=>(ck.empty _ _ (Y0 h)).2
 have old:∀{x:Str}{d:Vd},cl.lookup x=some d->d < s.heap.objs.size:=fun {x d} h=>by
  obtain ⟨v,z⟩:=I.cell x d (m1 x d h)
  exact z.lt
 refine ⟨I.ok.mod,hk,I.ok.glob,I.ok.blt,UX _,λx y d h1 h2=>?_,λx hx=>?_,λx d hf h=>?_,λhc=>I.ok.hd hc,I.ok.frames,.inl rfl,λb hb=>⟨Vn (hin b hb),λx d h=>?_⟩,
  I.bs,Vq I.ok.bsz I.sz,λb o h hb=>?_,λb hb hf=>?_,I.stack,I.stkFree⟩
 ·rcases gq h1 with h1 | ⟨_,h1⟩
  ·rcases gq h2 with h2 | ⟨_,h2⟩
   ·exact name_of_addr ck.apart (Y0 h1) (Y0 h2)
   ·exact absurd (Vf (old h2) (XJ (lo h1))) (Wr _)
  ·rcases gq h2 with h2 | ⟨_,h2⟩
   ·exact absurd (Vf (old h1) (XJ (lo h2))) (Wr _)
   ·exact I.ok.inj x y d (m1 x d h1) (m1 y d h2)
 ·refine VV.mp (gI _ _ _ x ?_)
  rcases p7 hx with z | z
  ·exact .inl (m2 x (.inr z))
  ·exact .inr z
 ·rcases gq h with h | ⟨z,h⟩
  ·exact XJ (lo h)
  ·have hf':dz UA.names x=true:=hf
   rw [z] at hf'
   cases hf'
 ·rcases gq h with h | ⟨_,h⟩
  ·exact WU (Vf (hin b hb) (XJ (lo h)))
  ·exact (hfp b hb).2.2.2.2.1 x d (m1 x d h)
 ·rcases (hfp b hb).2.2.2.1 with z | z
  ·exact I.ok.noex b o h z
  ·exact absurd (Vf (U7 (I.ok.bs b o h).1) z) (Wr _)
 ·rcases U8.mp (I.stkSub b hf) with e | e
  ·exact (hfp b hb).2.1 e
  ·exact (hfp b hb).2.2.1 e
end
theorem AE {cl:List (Str×Vd)}(h:dz names x=false):(VQ n names cl).lookup x=cl.lookup x:=
 jS names n cl x λy hy hk e=>by
  unfold dz at h
  have:=List.any_eq_false.mp h y hy
  simp [hk,e] at this
section
variable {X:Cx}
theorem G6 {UB:List (Vd×Obj)}{σ:L2.St}{H:Hp}{s:UP}{own:List Str}{cap:List Nat}{UA:Yc}{cl:List (Str×Vd)}{fp:List Vd}{h1:V1}{m:Str->Option UN}{tk:Nat}(I:Inv X UB σ H s) (ok:(c9 X own cap UA cl s.heap.objs.size s H fp).Ok)
  (hcl:dW X.env.cells UA.names []=some cl) (ck:aeR h1 (s.heap.objs.size + 1) (VQ (s.heap.objs.size + 1) UA.names [])) (hcap:rJ X cap=true) (R4:∀j∈cap,∀x,X.N[j]?=some x->(relabel UA X.env).names.lookup x≠some .local)
  (hno:∀j∈cap,∀x,X.N[j]?=some x->dz UA.names x=false) (hns:h1.Ns s.heap.objs.size m) (old:∀b o,s.heap.get? b=some o->h1.get? b=some o):
  Inv (c9 X own cap UA cl s.heap.objs.size s H fp) [] (Wm own.length none++cap.map λ(j:Nat)=>(σ[j]?).getD none) H {s with heap:=h1,toks:=tk}:=by
 obtain ⟨m1,m2⟩:=ia UA.names [] cl hcl (λx c h=>by simp at h)
 refine ⟨ok,rfl,I.bare,Un.kept old,⟨m,hns,λi x v q1 q2 q3=>?_⟩,λx d h=>?_,I.hok.fresh (UX _),λx d h=>?_,λp hp=>absurd (show p∈([]:List (Vd×Obj)) from hp) (by simp),I.hok.kept old,?_⟩
 ·obtain ⟨j,h2,h3,h4⟩:=kN q2
  have q1':(own++cap.map λ(j:Nat)=>(X.N[j]?).getD ("":Str))[i]?=some x:=q1
  rw [Wf (by exact h2),Vh,h3] at q1'
  have hj:j∈cap:=VS h3
  have hc:(match X.N[j]? with
   | some x=>(match X.env.scope.names.lookup x with
    | some .cell=>true
    | some .free=>true
    | _=>false)
   | none=>false)=true:=by
   unfold rJ at hcap
   exact Vm.mp hcap j hj
  cases hx:X.N[j]? with
  | none=>rw [hx] at hc;cases hc
  | some y=>
   rw [ac3,hx] at q1'
   rw [hx] at hc
   have e:y=x:=by simpa using q1'
   subst e
   have kd:X.env.kindOf y=some .cell\/X.env.kindOf y=some .free:=by
    unfold ae6
    simp only at hc
    split at hc
    ·rename_i z;exact .inl z
    ·rename_i z;exact .inr z
    ·cases hc
   obtain ⟨mX,nX,lX⟩:=I.loc
   obtain ⟨u,ru,lu⟩:=lX j y v hx h4 (kd.elim (λz=>.inr (.inl z)) λz=>.inr (.inr z))
   refine ⟨u,ru,.inr ?_⟩
   have kd':(relabel UA X.env).names.lookup y=some .cell\/(relabel UA X.env).names.lookup y=some .free:=by
    rcases q3 with z | z | z
    ·exact absurd z (R4 j hj y hx)
    ·exact .inl z
    ·exact .inr z
   refine ⟨kd',?_⟩
   have no:=hno j hj y hx
   have fr:(y,V_)∈UA.names:=by
    rcases p7 kd' with z | z
    ·exact z
    ·rw [no] at z;cases z
   obtain ⟨d,hd⟩:=VV.mp (m2 y (.inr fr))
   refine ⟨d,(AE no).trans hd,?_⟩
   rcases lu with ⟨z,_⟩ | ⟨_,d',hd',z⟩
   ·rcases kd with k | k <;> (rw [k] at z;cases z)
   ·have:=m1 y d hd
    rw [hd'] at this
    cases this
    obtain ⟨o,ho,hod⟩:=z
    exact ⟨o,old _ _ ho,hod⟩
 ·rcases gq h with h | ⟨_,h⟩
  ·exact ⟨none,(ck.empty _ _ (Y0 h)).1⟩
  ·obtain ⟨v,o,ho,hod⟩:=I.cell x d (m1 x d h)
   exact ⟨v,o,old _ _ ho,hod⟩
 ·rcases gq h with h | ⟨_,h⟩
  ·exact I.hok.fresh (XJ (ck.empty _ _ (Y0 h)).2)
  ·exact I.freeC x d (m1 x d h)
 ·show _=(own++cap.map λ(j:Nat)=>(X.N[j]?).getD ("":Str)).length
  simp
end
theorem Nl (h:V1) (names:List (Str×W9)):(ade (h.push {cls:=.type "dict",data:=.dict #[]}) names).Ns h.objs.size (λ_=>none):=
 (Heap.Ns.new h (.type "dict")).keeps λb o e=>adf _ _ _ _ e
theorem E1 (h:V1) (names:List (Str×W9)):aeR (ade (h.push {cls:=.type "dict",data:=.dict #[]}) names) (h.objs.size + 1) (VQ (h.objs.size + 1) names []):=by
 have:=cellsFrom_ok names (h.push {cls:=.type "dict",data:=.dict #[]}) (h.objs.size + 1) [] ⟨λ_ _ hm=>(nomatch hm),XH⟩ (by rw [Xx];exact UX _)
 rw [Xx] at this
 exact this
noncomputable def Jk (X:Cx) (cap:List Nat) (UA:Yc):Bool:=cap.all λj=>match X.N[j]? with
 | some x=>!dz UA.names x
 | none=>true
section
variable {X:Cx}{c:C}
theorem k6 {names names2:List (Str×W9)}(h:dW cells names []=some cl)
 (hn:(names2.all λy=>!(y.2 == .free) || ((names.any λz=>z.1 == y.1 && z.2 == .free) || dz names y.1))=true):(dW (VQ n names cl) names2 []).isSome=true:=by
 obtain ⟨_,m2⟩:=ia names [] cl h (λx c h=>by simp at h)
 have go:∀(l:List (Str×W9)) (cs:List (Str×Vd)),(l.all λy=>!(y.2 == .free) || ((names.any λz=>z.1 == y.1 && z.2 == .free) || dz names y.1))=true->(dW (VQ n names cl) l cs).isSome=true:=by
  intro l
  induction l with
  | nil=>intro cs _;rfl
  | cons y r ih=>
   obtain ⟨y,k⟩:=y
   intro cs hl
   rw [X0,UT] at hl
   unfold dW
   split
   ·rename_i hk
    have h1:=hl.1
    simp only [hk,W_,aea,XI] at h1
    have:((VQ n names cl).lookup y).isSome=true:=by
     refine gI names n cl y ?_
     rcases h1 with z | z
     ·obtain ⟨q,hq,e⟩:=WI.mp z
      rw [UT] at e
      have e1:q=(y,V_):=by
       obtain ⟨q1,q2⟩:=q
       have a1:q1=y:=eq_of_beq e.1
       have a2:q2=V_:=by simpa using e.2
       rw [a1,a2]
      exact .inl (m2 y (.inr (e1▸hq)))
     ·exact .inr z
    obtain ⟨a,ha⟩:=VV.mp this
    rw [ha]
    exact ih _ hl.2
   ·exact ih _ hl.2
 exact go names2 [] hn
end
section
variable {X:Cx}{c:C}{e:Vv}{es:List Vv}{g:G R}{pos:Pos}
theorem xZ {p:Pos}{gs:G (List R)}(ha:iX X c (e::es) gs) (hm:X.mg "int"=none) (hg:Gl X "int":=by rfl)
  (he:UZ (e::es) X.env=(false,eval e X.env)::UZ es X.env:=by rfl) (hpl:(Wu pos (UZ es X.env)).any (·.1)=false:=by rfl):QD X c (.Call (.Name "int" p) (e::es) [] pos) (gN Aj gs):=have ha:=ha.h;⟨
 qO ER (by
  intro He J H xs vs Q hp rs w
  unfold Aj at w
  split at w
  ·obtain ⟨v,rfl,r⟩:=rs.one
   cases r
   exact .inl ⟨_,rfl,w _ J H (Ext.refl hp.sub) (.int _)⟩
  ·obtain ⟨v,rfl,r⟩:=rs.one
   cases r
   exact .inr ⟨_,rfl,w _ J H (Ext.refl hp.sub) (.int _)⟩
  ·exact w.elim) EK hm ha hg (by decide) (by decide) he hpl⟩
theorem Gg (i:Nat) (hN:X.N.Nodup) (h:QD X c e g) (hi:X.N[i]?=some x:=by rfl) (hx:Loc X.env.scope x:=by first | exact Zt rfl | exact X6 rfl) (hf:X.fn x=true\/X.env.scope.names.lookup x=some .local:=by first | exact .inl rfl | exact .inr rfl):
  jM X c (.AugAssign (.Name x pos') .Add e pos) (ug i we g):=have h:=h.h;⟨K_ i hN KI (j6 λ_ _ _=>.int _) h hi hx hf⟩
theorem B9 {K:UM}{st:Xd}{kV doc pm cdv ct:UN}(l:K.lookup f=some ⟨oc,od,.func (VE x UG (cG st) (bS st) (aX st) (.ref T) kV doc pm an cdv ct),osl⟩)
 (cd:Xb K cdv UG=true) (k:VZ K (.ref f)=true) (lT:K.lookup T=some ⟨oT,dT,.seq #[.none] n,sT⟩):kC K x UG st f (VE x UG (cG st) (bS st) (aX st) (.ref T) kV doc pm an cdv ct):=
 ⟨⟨oc,od,T,_,n,kV,doc,pm,an,cdv,ct,osl,rfl,l,cd,lT,rfl⟩,k⟩
end
end DL
namespace K51
open PySem DL
end K51
namespace WP
open PySem DL K01
def Wp {α:Type}(m:M α) (P:α->Prop):Prop:=∃a,m=.ok a/\P a
section
variable {α β:Type}{m:M α}{P P':α->Prop}{a:α}{env:Ev}{Q:O->Prop}{t u:G O}{g:G R}{r r':R}{i:Nat}{b:G Bool}
theorem Wp.mono (h:Wp m P) (k:∀a,P a->P' a):Wp m P':=let ⟨a,h1,h2⟩:=h;⟨a,h1,k a h2⟩
theorem Wp.eq (h:Wp m (·=a)):m=.ok a:=let ⟨_,h1,h2⟩:=h;h2▸h1
theorem nk {P:R->Prop}(h:Wp (t env) λo=>∃r,o=.rt r/\P r):Wp (fin (t env)) P:=by
 obtain ⟨_,h1,r,rfl,h2⟩:=h
 exact ⟨r,by rw [h1];rfl,h2⟩
theorem rB (h:Wp (t env) λo=>∃e,o=.nx e):fin (t env)=.ok (.d .non):=by
 obtain ⟨_,h1,r,rfl⟩:=h
 rw [h1];rfl
theorem bM (h:Wp (t env) (·=.rt r)):fin (t env)=.ok r:=by
 rw [h.eq];rfl
theorem b8 (h:Wp (t env) λo=>match o with
 | .nx e=>Wp (u e) Q
 | o=>Q o):Wp (aH t u env) Q:=by
 obtain ⟨o,h1,h2⟩:=h
 show Wp (t env >>= _) Q
 rw [h1]
 cases o with
 | nx e=>exact h2
 | rt r=>exact ⟨_,rfl,h2⟩
 | bk e=>exact ⟨_,rfl,h2⟩
 | ct e=>exact ⟨_,rfl,h2⟩
theorem fX (h:g env=.ok r) (h2:toS r=.ok x) (k:Q (.nx (env.set i (some x)))):Wp (bg i g env) Q:=⟨_,by show (g env >>= _)=_;rw [h,aS,h2];rfl,k⟩
theorem bB (h:g env=.ok r) (h2:toS r=.ok x) (k:Wp (u (env.set i (some x))) Q):Wp (aH (bg i g) u env) Q:=b8 (fX h h2 k)
theorem bz (h:g env=.ok r) (h2:rF r=.ok r') (k:Q (.rt r')):Wp (bf g env) Q:=⟨_,Gp h h2,k⟩
theorem Pb (h:g env=.ok r) (h2:rF r=.ok r') (k:Q (.rt r')):Wp (aH (bf g) u env) Q:=b8 (bz h h2 k)
theorem fU (k:Q (.nx env)):Wp (cL env) Q:=⟨_,rfl,k⟩
theorem QC (k:Wp (u env) Q):Wp (aH cL u env) Q:=b8 (fU k)
theorem pq (h:b env=.ok true) (k:Wp (t env) Q):Wp (bK b t u env) Q:=by rw [jV h];exact k
theorem wH (h:b env=.ok false) (k:Wp (u env) Q):Wp (bK b t u env) Q:=by rw [lM h];exact k
theorem jb (h:b env=.ok c) (k1:c=true->Wp (t env) Q) (k2:c=false->Wp (u env) Q):Wp (bK b t u env) Q:=by
 cases c with
 | true=>exact pq h (k1 rfl)
 | false=>exact wH h (k2 rfl)
theorem Pc {v:G O}(h:b env=.ok true) (k:Wp (aH t v env) Q):Wp (aH (bK b t u) v env) Q:=by
 have:aH (bK b t u) v env=aH t v env:=by unfold aH;rw [jV h]
 rw [this];exact k
theorem QA {v:G O}(h:b env=.ok false) (k:Wp (aH u v env) Q):Wp (aH (bK b t u) v env) Q:=by
 have:aH (bK b t u) v env=aH u v env:=by unfold aH;rw [lM h]
 rw [this];exact k
theorem ff {v:G O}(h:b env=.ok false) (k:Wp (v env) Q):Wp (aH (bK b t cL) v env) Q:=QA h (QC k)
theorem jF {xs:List D}(h0:env[i]?=some (some (.own xs))) (h:g env=.ok r) (h2:toD r=.ok d) (hl:xs.length<=1000) (k:Q (.nx (env.set i (some (.own (xs++[d])))))):Wp (f9 i g env) Q:=by
 refine ⟨_,?_,k⟩
 unfold f9
 rw [h0]
 show (g env >>= _)=_
 rw [h,aS,h2,aS,if_pos (Y3 hl (by decide))]
theorem Pa {xs:List D}{d:D}(h0:env[i]?=some (some (.own xs))) (h:g env=.ok r) (h2:toD r=.ok d) (hl:xs.length<=1000) (k:Wp (u (env.set i (some (.own (xs++[d]))))) Q):Wp (aH (f9 i g) u env) Q:=b8 (jF h0 h h2 hl k)
theorem mW {gi:G (List D)}(h:gi env=.ok ds) (k:Wp (fh tg u ds env) Q):Wp (cg gi tg u env) Q:=by rw [MJ h];exact k
theorem dY {gi:G (List D)}{v:G O}(h:gi env=.ok ds) (k:Wp (fh tg t ds env) λo=>match o with
 | .nx e=>Wp (v e) Q
 | o=>Q o):Wp (aH (cg gi tg t) v env) Q:=b8 (mW h k)
theorem kB {tg:GT}(I:Nat->Ev->Prop) (ds:List D) (h0:I 0 env) (step:∀(k:Nat) (hk:k < ds.length) (env:Ev),I k env->∃e,tg ds[k] env=.ok e/\Wp (u e) λo=>∃e,o=.nx e/\I (k + 1) e)
  (k:∀e,I ds.length e->Q (.nx e)):Wp (fh tg u ds env) Q:=by
 have key:∀(es:List D) (i:Nat) (env:Ev),ds.drop i=es->i<=ds.length->I i env->Wp (fh tg u es env) Q:=by
  intro es
  induction es with
  | nil=>
   intro i env hd hi hI
   have:i=ds.length:=by
    have:=congrArg Ww hd
    rw [W4] at this
    simp at this;omega
   subst this
   exact ⟨_,rfl,k _ hI⟩
  | cons d es ih=>
   intro i env hd hi hI
   have hlt:i < ds.length:=by
    have:=congrArg Ww hd
    rw [W4] at this
    simp at this;omega
   have e1:=Yx hlt
   rw [hd] at e1
   obtain ⟨q1,q2⟩:=aeb e1
   obtain ⟨e,h1,_,h2,e2,rfl,h3⟩:=step i hlt env hI
   unfold fh
   rw [q1,h1,aS,h2,aS]
   exact ih (i + 1) e2 q2.symm (by omega) h3
 exact key ds 0 env rfl (Vl _) h0
theorem gF {tg:GT}(I:Nat->Ev->Prop) (h0:I 0 env) (step:∀(k:Nat),k < n->∀env,I k env->∃e,tg (.int k) env=.ok e/\Wp (u e) λo=>∃e,o=.nx e/\I (k + 1) e)
 (k:∀e,I n e->Q (.nx e)):Wp (fh tg u (gg 0 n) env) Q:=by
 have hl:(gg 0 n).length=n:=by simp [gg]
 refine kB I (gg 0 n) h0 (λj hj env hI=>?_) (by rw [hl];exact k)
 obtain ⟨e,h1,h2⟩:=step j (by rw [hl] at hj;exact hj) env hI
 refine ⟨e,?_,h2⟩
 rw [<-h1]
 simp [gg]
theorem n1 {f:List R->M R}(hx:g env=.ok x) (hf:f [x]=.ok z):gN f (ao g aE) env=.ok z:=OU hx hf
theorem two {f:R->R->M R}{h:G R}{x y z:R}(hx:g env=.ok x) (hy:h env=.ok y) (hf:f x y=.ok z):g2 f g h env=.ok z:=by
 show (g env >>= _)=_
 rw [hx,aS,hy,aS,hf]
theorem c1 {F:List S->M R}(hx:g env=.ok x) (hF:F [gm x]=.ok z):gN (aN 1 F) (ao g aE) env=.ok (mK z):=by
 show (ao g aE env >>= _)=_
 unfold ao aE
 rw [hx]
 show (match F [gm x] with | .ok r=>M.ok (mK r) | _=>M.bad)=_
 rw [hF]
theorem c2 {F:List S->M R}{h:G R}(hx:g env=.ok x) (hy:h env=.ok y) (hF:F [gm x,gm y]=.ok z):gN (aN 2 F) (ao g (ao h aE)) env=.ok (mK z):=by
 show (ao g (ao h aE) env >>= _)=_
 unfold ao aE
 rw [hx,hy]
 show (match F [gm x,gm y] with | .ok r=>M.ok (mK r) | _=>M.bad)=_
 rw [hF]
theorem c3 {F:List S->M R}{h k:G R}(hx:g env=.ok x) (hy:h env=.ok y) (hw:k env=.ok w) (hF:F [gm x,gm y,gm w]=.ok z):gN (aN 3 F) (ao g (ao h (ao k aE))) env=.ok (mK z):=by
 show (ao g (ao h (ao k aE)) env >>= _)=_
 unfold ao aE
 rw [hx,hy,hw]
 show (match F [gm x,gm y,gm w] with | .ok r=>M.ok (mK r) | _=>M.bad)=_
 rw [hF]
theorem c4 {F:List S->M R}{h k l:G R}(hx:g env=.ok x) (hy:h env=.ok y) (hw:k env=.ok w) (hv:l env=.ok v) (hF:F [gm x,gm y,gm w,gm v]=.ok z):gN (aN 4 F) (ao g (ao h (ao k (ao l aE)))) env=.ok (mK z):=by
 show (ao g (ao h (ao k (ao l aE))) env >>= _)=_
 unfold ao aE
 rw [hx,hy,hw,hv]
 show (match F [gm x,gm y,gm w,gm v] with | .ok r=>M.ok (mK r) | _=>M.bad)=_
 rw [hF]
theorem jT (h:g env=.ok r) (k:Wp (u env) Q):Wp (aH (jD g) u env) Q:=b8 ⟨.nx env,by show (g env >>= _)=_;rw [h];rfl,k⟩
theorem Mv {n:Nat}{cap:List Nat}{gi:G (List D)}{tg:GT}{ge:G R}{gts:G Bool}{α:Type}{xs:List α}{h:α->D}(o:α->Ev) (p:α->Bool) (f:α->D) (hi:gi env=.ok (xs.map h)) (hl:xs.length<=1000000)
  (ho:∀x,(o x).length=n) (ht:∀x (e:Ev),e.length=n->tg (h x) (e++cE 0 cap env)=.ok (o x++cE 0 cap env))
  (hb:∀x∈xs,gts (o x++cE 0 cap env)=.ok (p x)/\(p x=true->∃r,ge (o x++cE 0 cap env)=.ok r/\toD r=.ok (f x))):bV n cap gi tg gts ge env=.ok (.l .fresh ((xs.filter p).map f)):=by
 have key:∀(es:List α) (x:Ev),x.length=n->(∀d∈es,d∈xs)->fW tg gts ge (es.map h) (x++cE 0 cap env)=.ok ((es.filter p).map f):=by
  intro es
  induction es with
  | nil=>exact λ_ _ _=>rfl
  | cons d es ih=>
   intro x hx hm
   obtain ⟨h0,h1⟩:=hb d (hm d UW)
   have ih:=ih (o d) (ho d) λe he=>hm e (UU _ he)
   rw [U_]
   unfold fW
   rw [ht d x hx,aS,h0,aS]
   cases q:p d with
   | true=>
    obtain ⟨r,h1,h2⟩:=h1 q
    rw [if_pos rfl,h1,aS,h2,aS,ih,Y4 q]
    rfl
   | false=>
    rw [if_neg (by decide),Y5 (by simp [q])]
    exact ih
 unfold bV
 rw [hi,aS,if_pos (by rw [Wv,UR];omega)]
 show (fW tg gts ge _ (Wm n none++cE 0 cap env) >>= _)=_
 rw [key xs _ WW λ_ h=>h]
 rfl
theorem Ji {α:Type}(xs:List α):xs.filter (λ_=>true)=xs:=YJ.mpr λ_ _=>rfl
theorem rK {gi:G (List D)}{ge:G R}{gts:G Bool}{α:Type}{xs:List α}{h:α->D}(p:α->Bool) (f:α->D) (hi:gi env=.ok (xs.map h)) (hl:xs.length<=1000000)
 (hb:∀x∈xs,gts (some (.d (h x))::cE 0 cap env)=.ok (p x)/\(p x=true->∃r,ge (some (.d (h x))::cE 0 cap env)=.ok r/\toD r=.ok (f x))):bV 1 cap gi (aC 0) gts ge env=.ok (.l .fresh ((xs.filter p).map f)):=
 Mv (λx=>[some (.d (h x))]) p f hi hl (λ_=>rfl) (λ_ e he=>match e,he with | [_],_=>rfl) hb
theorem jB {gi:G (List D)}{ge:G R}{α:Type}{xs:List α}{h:α->D}(f:α->D) (hi:gi env=.ok (xs.map h)) (hl:xs.length<=1000000)
 (hb:∀x∈xs,∃r,ge (some (.d (h x))::cE 0 cap env)=.ok r/\toD r=.ok (f x)):bV 1 cap gi (aC 0) cM ge env=.ok (.l .fresh (xs.map f)):=by
 have:=rK (gts:=cM) (λ_=>true) f hi hl λx hx=>⟨rfl,λ_=>hb x hx⟩
 rwa [Ji] at this
theorem Ab {cap:List Nat}{gi:G (List D)}{ge:G R}{gts:G Bool}{α:Type}{xs:List α}(a b:α->D) (p:α->Bool) (f:α->D) (hi:gi env=.ok (xs.map λx=>.tup [a x,b x])) (hl:xs.length<=1000)
  (h:∀x∈xs,gts (some (.d (a x))::some (.d (b x))::cE 0 cap env)=.ok (p x)/\(p x=true->∃r,ge (some (.d (a x))::some (.d (b x))::cE 0 cap env)=.ok r/\toD r=.ok (f x))):bV 2 cap gi (c7 2 (bA (aC 0) (bA (aC 1) dB))) gts ge env=.ok (.l .fresh ((xs.filter p).map f)):=
 Mv (λx=>[some (.d (a x)),some (.d (b x))]) p f hi (by omega) (λ_=>rfl) (λ_ e he=>match e,he with | [_,_],_=>rfl) h
theorem oO {gi:G (List D)}{ge:G R}{α:Type}{xs:List α}(a b:α->D) (f:α->D) (hi:gi env=.ok (xs.map λx=>.tup [a x,b x])) (hl:xs.length<=1000)
 (h:∀x∈xs,∃r,ge (some (.d (a x))::some (.d (b x))::cE 0 cap env)=.ok r/\toD r=.ok (f x)):bV 2 cap gi (c7 2 (bA (aC 0) (bA (aC 1) dB))) cM ge env=.ok (.l .fresh (xs.map f)):=by
 have:=Ab (gts:=cM) a b (λ_=>true) f hi hl λx hx=>⟨rfl,λ_=>h x hx⟩
 rwa [Ji] at this
theorem N8 (n:Nat):gg 0 n=(UQ n).map dN:=by simp [gg]
theorem jH {gs:G (List R)}{n:Nat}(hg:gs env=.ok [.d (.int (n:Int))]) (h:n<=1000):bR gs env=.ok ((UQ n).map dN):=by rw [iS hg h,N8]
theorem cu (h:g env=.ok x):ao g aE env=.ok [x]:=by
 show (g env >>= _)=_
 rw [h]
 rfl
theorem br:aT env=.ok []:=rfl
theorem aI {gs:G (List D)}(h:g env=.ok r) (h2:toD r=.ok d) (k:gs env=.ok ds):aA g gs env=.ok (d::ds):=by
 show (g env >>= _)=_
 rw [h,aS,h2,aS,k]
 rfl
theorem bF {gs:G (List D)}{ds:List D}(h:gs env=.ok ds) (hl:ds.length<=1000):bE gs env=.ok (.d (.tup ds)):=by
 show (gs env >>= _)=_
 rw [h,aS,if_pos (gz hl)]
theorem ig {gs:G (List D)}{ds:List D}(h:gs env=.ok ds) (hl:ds.length<=1000):dR gs env=.ok (.l .fresh ds):=by
 show (gs env >>= _)=_
 rw [h,aS,if_pos (gz hl)]
theorem qK {α:Type}{xs:List α}{h:α->D}(f:R) (hf:iK f=.ok (xs.map h)) (i:Int) (h0:0<=i) (hi:i < xs.length):∃x∈xs,aY f (.d (.int i))=.ok (.d (h x)):=by
 obtain ⟨k,rfl⟩:=Int.eq_ofNat_of_zero_le h0
 have hk:k < xs.length:=by omega
 refine ⟨xs[k],Vt hk,?_⟩
 have h1:(xs.map h)[k]?=some (h xs[k]):=by rw [Vh,U5 hk];rfl
 cases f with
 | d x=>
  cases x with
  | tup ys=>cases hf;exact rM h1
  | lst ys=>cases hf;unfold aY;simp only [iK,aS,rH h1]
  | _=>cases hf
 | l m x=>cases hf;exact mH h1
 | mo _ _=>cases hf
 | mb _ _=>cases hf
 | mf _ _=>cases hf
theorem sf (h:env[i]?=some (some (.own xs))) (k:Wp (t (env.set i (some (.d (.lst xs))))) Q):Wp (fS i t env) Q:=by
 have:fS i t env=t (env.set i (some (.d (.lst xs)))):=by unfold fS;rw [h]
 rw [this];exact k
theorem OO (h:g env=.ok r) (h2:toD r=.ok d) (h3:tg d env=.ok e) (k:Q (.nx e)):Wp (uf tg g env) Q:=⟨_,by show (g env >>= _)=_;rw [h,aS,h2,aS,h3];rfl,k⟩
theorem Ea (h:g env=.ok r) (h2:toD r=.ok d) (h3:tg d env=.ok e) (k:Wp (u e) Q):Wp (aH (uf tg g) u env) Q:=b8 (OO h h2 h3 k)
theorem GW {α:Type}(xs:List α) (z:α):L2.mC (xs++[z]) (-1)=some z:=by
 unfold L2.mC L2.Aw
 rw [if_neg (by decide),if_pos (by simp;omega)]
 rw [show ((-1:Int) + ((xs++[z]).length:Nat)).toNat=xs.length by simp;omega]
 simp
theorem Cf (xs:List D) (z:D):aY (.d (.tup (xs++[z]))) (.d (.int (-1)))=.ok (.d z):=by
 unfold aY
 simp only [iK,aS,GW]
theorem vn (neg:Bool) (x:D) (ys:List D) (h:deps ys<=60) (hx:dep x<=60):fB neg (.d x) (.d (.tup ys))=.ok (.d (.bl (if neg then !inD x ys else inD x ys))):=by
 show (if deps ys<=60/\dep x<=60 then M.ok (R.d (.bl (if neg then !inD x ys else inD x ys))) else M.bad)=_
 rw [if_pos ⟨h,hx⟩]
theorem rL (neg:Bool) (x y:R) (h:dep x.dat<=60) (hx:dep y.dat<=60):cj neg x y=.ok (.d (.bl (if neg then !bu x.dat y.dat else bu x.dat y.dat))):=by
 unfold cj
 rw [if_pos ⟨h,hx⟩]
theorem gS:∀{xs:List D},(∀x∈xs,dep x<=n)->deps xs<=n
 | [],_=>Vl _
 | x::xs,h=>by
  have h1:=h x UW
  have h2:=gS (xs:=xs) λy hy=>h y (UU _ hy)
  simp only [deps]
  omega
theorem Ac (xs:List Nat):deps (xs.map dN)<=60:=gS λx hx=>by
 obtain ⟨k,_,rfl⟩:=UY.mp hx
 exact Vl _
theorem Ad (xs:List (Nat×Nat)):deps (xs.map dP)<=60:=gS λx hx=>by
 obtain ⟨k,_,rfl⟩:=UY.mp hx
 exact (by decide:(1:Nat)<=60)
theorem CN {tb:G Bool}(I:Nat->Ev->Prop) (step:∀d env,I d env->(tb env=.ok false/\Q (.nx env))\/(tb env=.ok true/\Wp (t env) λo=>match o with
  | .nx e=>∃d',d' < d/\I d' e
  | .rt r=>Q (.rt r)
  | _=>False)):∀(n d:Nat) (env:Ev),I d env->d < n->Wp (lY tb t n env) Q
 | 0,d,env,_,h=>absurd h (V4 _)
 | n + 1,d,env,hI,h=>by
  unfold lY
  rcases step d env hI with ⟨h1,h2⟩ | ⟨h1,o,h2,h3⟩
  ·rw [h1]
   exact ⟨_,rfl,h2⟩
  ·rw [h1,aS,if_pos rfl,h2,aS]
   cases o with
   | nx e=>
    obtain ⟨d',hd,hI'⟩:=h3
    exact CN I step n d' e hI' (by omega)
   | rt r=>exact ⟨_,rfl,h3⟩
   | bk e=>exact h3.elim
   | ct e=>exact h3.elim
theorem LF {tb:G Bool}(I:Nat->Ev->Prop) (d:Nat) (hd:d < n) (h0:I d env) (step:∀d env,I d env->(tb env=.ok false/\Wp (u env) Q)\/(tb env=.ok true/\Wp (t env) λo=>match o with
 | .nx e=>∃d',d' < d/\I d' e
 | .rt r=>Q (.rt r)
 | _=>False)):Wp (aH (ve n tb t) u env) Q:=b8 (CN I (λd env h=>by
  rcases step d env h with h | ⟨h1,h2⟩
  ·exact .inl h
  ·refine .inr ⟨h1,h2.mono λo ho=>?_⟩
   cases o <;> exact ho) n d env h0 hd)
theorem OP {f:R->R->M R}(h0:env[i]?=some (some (.d d))) (h:g env=.ok y) (hf:f (.d d) y=.ok z) (h2:toS z=.ok x) (k:Q (.nx (env.set i (some x)))):Wp (ug i f g env) Q:=by
 refine ⟨_,?_,k⟩
 unfold ug
 rw [h0]
 show (g env >>= _)=_
 rw [h,aS,hf,aS,h2]
 rfl
end
end WP
namespace K51
open PySem DL K01 WP
structure BO (w:Wd):Prop where
 lo:1<=w.m
 hi:w.m<=8
 ml:w.ms.length<=3
 al:w.ar.length<=3
theorem Eh (xs ys:List D) (h:xs.length + ys.length<=1000):cX (.d (.tup xs)) (.d (.tup ys))=.ok (.d (.tup (xs++ys))):=by
 show (if xs.length + ys.length<=sizeLine then M.ok (R.d (.tup (xs++ys))) else M.bad)=_
 rw [if_pos (gz h)]
theorem Qo (l:Nat) (xs:List Nat):fB false (.d (dN l)) (.d (.tup (xs.map dN)))=.ok (.d (.bl (inD (dN l) (xs.map dN)))):=vn false _ _ (Ac xs) (Vl _)
theorem MO (l:Nat×Nat) (xs:List (Nat×Nat)):fB false (.d (dP l)) (.d (.tup (xs.map dP)))=.ok (.d (.bl (inD (dP l) (xs.map dP)))):=vn false _ _ (Ad xs) (by show (1:Nat)<=60;decide)
theorem t2:(2:Nat)<=1000:=by decide
end K51
namespace K51
open PySem DL K01 WP
open PySem.W (kas_sort)
theorem Gw (ds:List D):(bW ds).length=ds.length:=by
 unfold bW
 by_cases h:ds.length < 2
 ·rw [if_pos h]
 ·rw [if_neg h,UR]
  have:=(jA (n:=ds.length) (by omega)).run (ltB ds)
  have:=this.size_eq
  simpa using this
theorem Gx {ds:List D}{x:D}(hx:x∈bW ds):x∈ds:=by
 unfold bW at hx
 by_cases h:ds.length < 2
 ·rwa [if_pos h] at hx
 ·rw [if_neg h] at hx
  have hp:=(jA (n:=ds.length) (by omega)).run (ltB ds)
  obtain ⟨i,hi,rfl⟩:=UY.mp hx
  have hi:i∈bq (ltB ds) (Yp ds.length):=by simpa using hi
  have:=(Z8 hp).mp hi
  exact iC (by simpa using this)
end K51
namespace K51
open PySem DL K01 WP
end K51
namespace DL
open PySem PySem.Spec PyProof.Rows L2
open PySem.W (KasT kas_sort kas_asc kas_desc kas_rev kas_tail3 kas_descPart kas_count kas_place kas_bin)
theorem run_bind {α β:Type}(q:Nat->Nat->Bool) (f:α->KasT β):∀t:KasT α,bq q (t.bind f)=bq q (f (bq q t))
 | .ret _=>rfl
 | .ask i j k=>run_bind q f (k (q i j))
theorem ID {n:Nat}{α:Type}{P:α->Prop}{t:KasT α}{q q':Nat->Nat->Bool}(h:fZ n P t) (e:∀i j,i < n->j < n->q i j=q' i j):bq q t=bq q' t:=by
 induction h with
 | ret _=>rfl
 | @ask i j k h1 h2 _ ih=>
  show bq q (k (q i j))=bq q' (k (q' i j))
  rw [e _ _ h1 h2]
  exact ih _
structure Ord (q:Nat->Nat->Bool):Prop where
 asy:∀a b,q a b=true->q b a=false
 tra:∀a b c,q b a=false->q c b=false->q c a=false
section
variable {q:Nat->Nat->Bool}{n:Nat}
abbrev bJ (p:Array Nat) (k:Nat):Nat:=p.getD k 0
def Up (q:Nat->Nat->Bool) (p:Array Nat) (k:Nat):Prop:=∀i j,i<=j->j < k->q (bJ p j) (bJ p i)=false
def Down (q:Nat->Nat->Bool) (p:Array Nat) (k:Nat):Prop:=∀i j,i<=j->j < k->q (bJ p i) (bJ p j)=false
theorem Ord.irr (O:Ord q) (a:Nat):q a a=false:=by
 cases h:q a a with
 | false=>rfl
 | true=>rw [<-h];exact (O.asy a a h)
theorem getD_eq (h:p[i]?=p'[j]?):bJ p i=bJ p' j:=by
 show p.getD i 0=p'.getD j 0
 rw [ZP,ZP,h]
theorem jz {p:Array Nat}(hj:j<=p.size) (k:Nat):bJ (Zx p i j) k=if i<=k/\k < j then bJ p (i + j - 1 - k) else bJ p k:=by
 have e:=getElem?_mirror_all (xs:=p) (i:=i) hj k
 by_cases c:i<=k/\k < j
 ·rw [if_pos c] at e ⊢;exact getD_eq e
 ·rw [if_neg c] at e ⊢;exact getD_eq e
theorem EC {p:Array Nat}(hs:src < p.size) (hd:d<=src) (k:Nat):bJ (bubble p src d) k=if k=src - d then bJ p src else if src - d < k/\k<=src then bJ p (k - 1) else bJ p k:=by
 have e:=getElem?_bubble hs d hd k
 by_cases c:k=src - d
 ·rw [if_pos c] at e ⊢;exact getD_eq e
 ·rw [if_neg c] at e ⊢
  by_cases c':src - d < k/\k<=src
  ·rw [if_pos c'] at e ⊢;exact getD_eq e
  ·rw [if_neg c'] at e ⊢;exact getD_eq e
theorem je (p:Array Nat) (i j:Nat):(Zx p i j).size=p.size:=mirror_size _ _ _ _
theorem Up.one (O:Ord q) (p:Array Nat):Up q p 1:=λi j h1 h2=>by
 have:i=j:=by omega
 rw [this];exact O.irr _
theorem Up.more (O:Ord q) (h:Up q p k) (h1:1<=k) (e:q (bJ p k) (bJ p (k - 1))=false):Up q p (k + 1):=λi j hi hj=>by
 by_cases c:j < k
 ·exact h i j hi c
 ·have:j=k:=by omega
  subst this
  by_cases c':i=j
  ·rw [c'];exact O.irr _
  ·exact O.tra _ _ _ (h i (j - 1) (by omega) (by omega)) e
theorem Down.more (O:Ord q) (h:Down q p k) (h1:1<=k) (e:q (bJ p (k - 1)) (bJ p k)=false):Down q p (k + 1):=λi j hi hj=>by
 by_cases c:j < k
 ·exact h i j hi c
 ·have:j=k:=by omega
  subst this
  by_cases c':i=j
  ·rw [c'];exact O.irr _
  ·exact O.tra _ _ _ e (h i (j - 1) (by omega) (by omega))
theorem zN (O:Ord q) (p:Array Nat):∀(f m:Nat),1<=m->Up q p m->m<=bq q (Zy p f m)/\bq q (Zy p f m)<=m + f/\Up q p (bq q (Zy p f m))/\(bq q (Zy p f m)=m + f\/q (bJ p (bq q (Zy p f m))) (bJ p (bq q (Zy p f m) - 1))=true)
 | 0,m,h1,h=>⟨UX _,UX _,h,.inl rfl⟩
 | f + 1,m,h1,h=>by
  have e:bq q (Zy p (f + 1) m)=if q (bJ p m) (bJ p (m - 1))=true then m else bq q (Zy p f (m + 1)):=by
   show bq q (if q (bJ p m) (bJ p (m - 1))=true then KasT.ret m else Zy p f (m + 1))=_
   by_cases c:q (bJ p m) (bJ p (m - 1))=true
   ·rw [if_pos c,if_pos c];rfl
   ·rw [if_neg c,if_neg c]
  rw [e]
  by_cases c:q (bJ p m) (bJ p (m - 1))=true
  ·rw [if_pos c]
   exact ⟨UX _,by omega,h,.inr c⟩
  ·rw [if_neg c]
   obtain ⟨a1,a2,a3,a4⟩:=zN O p f (m + 1) (by omega) (h.more O h1 (by simpa using c))
   refine ⟨by omega,by omega,a3,?_⟩
   rcases a4 with a4 | a4
   ·exact .inl (by omega)
   ·exact .inr a4
def Alike (q:Nat->Nat->Bool) (p:Array Nat) (i j:Nat):Prop:=∀a b,i<=a->a < j->i<=b->b < j->q (bJ p a) (bJ p b)=false
theorem yd {p:Array Nat}{i j k:Nat}(hj:j<=p.size) (ha:Alike q p i j) (hd:Down q p j) (O:Ord q):Down q (Zx p i j) j:=λa b h1 h2=>by
 rw [jz hj,jz hj]
 by_cases c:i<=a/\a < j
 ·rw [if_pos c]
  by_cases c':i<=b/\b < j
  ·rw [if_pos c'];exact ha _ _ (by omega) (by omega) (by omega) (by omega)
  ·omega
 ·rw [if_neg c]
  by_cases c':i<=b/\b < j
  ·rw [if_pos c']
   exact hd _ _ (by omega) (by omega)
  ·rw [if_neg c'];exact hd _ _ h1 h2
theorem N7 {p:Array Nat}(hj:j<=p.size) (hd:Down q p j):Up q (Zx p 0 j) j:=λa b h1 h2=>by
 rw [jz hj,jz hj,if_pos (by omega),if_pos (by omega)]
 exact hd _ _ (by omega) (by omega)
theorem vD {p:Array Nat}(hj:j<=p.size) (h:j<=k):bJ (Zx p i j) k=bJ p k:=by
 rw [jz hj,if_neg (by omega)]
theorem mE (O:Ord q):∀(f:Nat) (p:Array Nat) (m e:Nat),1<=m->e + 1<=m->m + f<=p.size->Down q p m->Alike q p (m - (e + 1)) m->
  (bq q (Xa f p m e)).1.size=p.size/\m<=(bq q (Xa f p m e)).2.1/\(bq q (Xa f p m e)).2.1<=m + f/\(bq q (Xa f p m e)).2.2 + 1<=(bq q (Xa f p m e)).2.1/\
  Down q (bq q (Xa f p m e)).1 (bq q (Xa f p m e)).2.1/\Alike q (bq q (Xa f p m e)).1 ((bq q (Xa f p m e)).2.1 - ((bq q (Xa f p m e)).2.2 + 1)) (bq q (Xa f p m e)).2.1
 | 0,p,m,e,h1,h2,h3,h4,h5=>⟨rfl,UX _,UX _,h2,h4,h5⟩
 | f + 1,p,m,e,h1,h2,h3,h4,h5=>by
  have solo:∀(p:Array Nat) (m:Nat),Alike q p (m + 1 - (0 + 1)) (m + 1):=λp m a b c1 c2 c3 c4=>by
   have:a=b:=by omega
   rw [this];exact O.irr _
  cases c:q (bJ p m) (bJ p (m - 1)) with
  | true=>
   have c2:=O.asy _ _ c
   by_cases he:e > 0
   ·have er:bq q (Xa (f + 1) p m e)=bq q (Xa f (Zx p (m - (e + 1)) m) (m + 1) 0):=by
     show bq q (if q (bJ p m) (bJ p (m - 1))=true then _ else _)=_
     rw [if_pos c,if_pos he]
    rw [er]
    have hr:=yd (k:=0) (i:=m - (e + 1)) (by omega:m<=p.size) h5 h4 O
    have hl:bJ (Zx p (m - (e + 1)) m) (m - 1)=bJ p (m - (e + 1)):=by
     rw [jz (by omega),if_pos (by omega)]
     congr 1;omega
    obtain ⟨a0,a1,a2,a3,a4,a5⟩:=mE O f (Zx p (m - (e + 1)) m) (m + 1) 0 (by omega) (by omega) (by rw [je];omega)
     (hr.more O h1 (by
      rw [hl,vD (by omega) (UX _)]
      exact O.tra _ _ _ c2 (h5 _ _ (by omega) (by omega) (by omega) (by omega)))) (solo _ _)
    rw [je] at a0
    exact ⟨a0,by omega,by omega,a3,a4,a5⟩
   ·have er:bq q (Xa (f + 1) p m e)=bq q (Xa f p (m + 1) 0):=by
     show bq q (if q (bJ p m) (bJ p (m - 1))=true then _ else _)=_
     rw [if_pos c,if_neg he]
    rw [er]
    obtain ⟨a0,a1,a2,a3,a4,a5⟩:=mE O f p (m + 1) 0 (by omega) (by omega) (by omega) (h4.more O h1 c2) (solo _ _)
    exact ⟨a0,by omega,by omega,a3,a4,a5⟩
  | false=>
   cases c2:q (bJ p (m - 1)) (bJ p m) with
   | true=>
    have er:bq q (Xa (f + 1) p m e)=(p,m,e):=by
     show bq q (if q (bJ p m) (bJ p (m - 1))=true then _ else _)=_
     rw [if_neg (by rw [c];decide)]
     show bq q (if q (bJ p (m - 1)) (bJ p m)=true then _ else _)=_
     rw [if_pos c2]
     rfl
    rw [er]
    exact ⟨rfl,UX _,YE _ _,h2,h4,h5⟩
   | false=>
    have er:bq q (Xa (f + 1) p m e)=bq q (Xa f p (m + 1) (e + 1)):=by
     show bq q (if q (bJ p m) (bJ p (m - 1))=true then _ else _)=_
     rw [if_neg (by rw [c];decide)]
     show bq q (if q (bJ p (m - 1)) (bJ p m)=true then _ else _)=_
     rw [if_neg (by rw [c2];decide)]
    rw [er]
    have hal:Alike q p (m + 1 - (e + 1 + 1)) (m + 1):=λa b d1 d2 d3 d4=>by
     by_cases ea:a=m
     ·subst ea
      by_cases eb:b=a
      ·rw [eb];exact O.irr _
      ·exact O.tra _ _ _ (h5 (a - 1) b (by omega) (by omega) (by omega) (by omega)) c
     ·by_cases eb:b=m
      ·subst eb
       exact O.tra _ _ _ c2 (h5 a (b - 1) (by omega) (by omega) (by omega) (by omega))
      ·exact h5 a b (by omega) (by omega) (by omega) (by omega)
    obtain ⟨a0,a1,a2,a3,a4,a5⟩:=mE O f p (m + 1) (e + 1) (by omega) (by omega) (by omega) (h4.more O h1 c2) hal
    exact ⟨a0,by omega,by omega,a3,a4,a5⟩
def Got (q:Nat->Nat->Bool) (N s:Nat) (r:Nat×Array Nat):Prop:=r.2.size=s/\1<=r.1/\r.1<=N/\Up q r.2 r.1
theorem CI (O:Ord q){p:Array Nat}(h1:1<=m) (hm:m<=N) (hN:N<=p.size) (hd:Down q p m):Got q N p.size (bq q (aeq m N p)):=by
 unfold aeq
 rw [run_bind]
 obtain ⟨a1,a2,a3,_⟩:=zN O (Zx p 0 m) (N - m) m h1 (N7 (by omega) hd)
 exact ⟨je _ _ _,by show 1<=bq q (Zy _ _ _);omega,by show bq q (Zy _ _ _)<=N;omega,a3⟩
theorem Cp (O:Ord q){p:Array Nat}(h1:1<=m) (hm:m + 1<=N) (hN:N<=p.size) (hd:Down q p (m + 1)):Got q N p.size (bq q (acD m N p)):=by
 unfold acD
 rw [run_bind]
 obtain ⟨a0,a1,a2,a3,a4,a5⟩:=mE O (N - (m + 1)) p (m + 1) 0 (by omega) (by omega) (by omega) hd (λa b c1 c2 c3 c4=>by
  have:a=b:=by omega
  rw [this];exact O.irr _)
 generalize bq q (Xa (N - (m + 1)) p (m + 1) 0)=r at *
 obtain ⟨p',m',e'⟩:=r
 simp only at *
 by_cases c:e' > 0
 ·rw [if_pos c]
  have:=CI (N:=N) O (p:=Zx p' (m' - (e' + 1)) m') (m:=m') (by omega) (by omega) (by rw [je];omega) (yd (k:=0) (by omega) a5 a4 O)
  rw [je,a0] at this
  exact this
 ·rw [if_neg c]
  have:=CI (N:=N) O (p:=p') (m:=m') (by omega) (by omega) (by omega) a4
  rw [a0] at this
  exact this
theorem G5 (O:Ord q){p:Array Nat}(h1:1<=N) (hN:N<=p.size):Got q N p.size (bq q (ac6 N p)):=by
 unfold ac6
 rw [run_bind]
 obtain ⟨a1,a2,a3,a4⟩:=zN O p (N - 1) 1 (UX _) (Up.one O p)
 generalize bq q (Zy p (N - 1) 1)=m at *
 by_cases c:(m == N)=true
 ·rw [if_pos c]
  exact ⟨rfl,a1,by show m<=N;omega,a3⟩
 ·rw [if_neg c]
  have hm:m + 1<=N:=by
   have:m≠N:=by simpa using c
   omega
  have a4:q (bJ p m) (bJ p (m - 1))=true:=by
   rcases a4 with h | h
   ·omega
   ·exact h
  have a5:=O.asy _ _ a4
  by_cases c':m > 1
  ·rw [if_pos c']
   show Got q N p.size (bq q (if q (bJ p 0) (bJ p (m - 1))=true then _ else _))
   by_cases d:q (bJ p 0) (bJ p (m - 1))=true
   ·rw [if_pos d]
    exact ⟨rfl,a1,by show m<=N;omega,a3⟩
   ·rw [if_neg d]
    have d:q (bJ p 0) (bJ p (m - 1))=false:=by simpa using d
    have all:∀a b,a < m->b < m->q (bJ p a) (bJ p b)=false:=λa b ha hb=>O.tra _ _ _ (O.tra _ _ _ (a3 b (m - 1) (by omega) (by omega)) d) (a3 0 a (by omega) (by omega))
    have hd:Down q (Zx p 0 m) m:=λa b h1 h2=>by
     rw [jz (by omega),jz (by omega),if_pos (by omega),if_pos (by omega)]
     exact all _ _ (by omega) (by omega)
    have:=Cp O (p:=Zx p 0 m) (m:=m) (N:=N) (by omega) hm (by rw [je];exact hN) (hd.more O (by omega) (by
     rw [vD (by omega) (UX _),jz (by omega),if_pos (by omega),show 0 + m - 1 - (m - 1)=0 by omega]
     exact O.tra _ _ _ a5 d))
    rw [je] at this
    exact this
  ·rw [if_neg c']
   have:m=1:=by omega
   subst this
   refine Cp O (UX _) hm hN ?_
   exact Down.more O (λi j h1 h2=>by
    have:i=j:=by omega
    rw [this];exact O.irr _) (UX _) a5
theorem uu (O:Ord q) (hs:Up q p k):∀(f l r:Nat),l<=r->r<=k->r - l<=f->(∀i,i < l->q (bJ p k) (bJ p i)=false)->(∀i,r<=i->i < k->q (bJ p k) (bJ p i)=true)->
  bq q (Xq p k f l r)<=k/\(∀i,i < bq q (Xq p k f l r)->q (bJ p k) (bJ p i)=false)/\∀i,bq q (Xq p k f l r)<=i->i < k->q (bJ p k) (bJ p i)=true
 | 0,l,r,h1,h2,h3,h4,h5=>⟨by show l<=k;omega,h4,λi hi=>h5 i (by show r<=i;have:l<=i:=hi;omega)⟩
 | f + 1,l,r,h1,h2,h3,h4,h5=>by
  by_cases c:l ≥ r
  ·have e:bq q (Xq p k (f + 1) l r)=l:=by
    unfold Xq
    rw [if_pos c]
    rfl
   rw [e]
   exact ⟨by omega,h4,λi hi=>h5 i (by omega)⟩
  ·cases d:q (bJ p k) (bJ p ((l + r) / 2)) with
   | true=>
    have e:bq q (Xq p k (f + 1) l r)=bq q (Xq p k f l ((l + r) / 2)):=by
     rw [Xq,if_neg c]
     show bq q (if q (bJ p k) (bJ p ((l + r) / 2))=true then _ else _)=_
     rw [if_pos d]
    rw [e]
    refine uu O hs f l ((l + r) / 2) (by omega) (by omega) (by omega) h4 λi i1 i2=>?_
    by_cases ci:r<=i
    ·exact h5 i ci i2
    ·cases dd:q (bJ p k) (bJ p i) with
     | true=>rfl
     | false=>
      have:=O.tra _ _ _ (hs ((l + r) / 2) i i1 i2) dd
      rw [d] at this
      cases this
   | false=>
    have e:bq q (Xq p k (f + 1) l r)=bq q (Xq p k f ((l + r) / 2 + 1) r):=by
     rw [Xq,if_neg c]
     show bq q (if q (bJ p k) (bJ p ((l + r) / 2))=true then _ else _)=_
     rw [if_neg (by rw [d];decide)]
    rw [e]
    refine uu O hs f ((l + r) / 2 + 1) r (by omega) (by omega) (by omega) (λi hi=>?_) h5
    exact O.tra _ _ _ (hs i ((l + r) / 2) (by omega) (by omega)) d
theorem Mt (O:Ord q){p:Array Nat}(hk:k < p.size) (hl:l<=k) (hs:Up q p k) (h1:∀i,i < l->q (bJ p k) (bJ p i)=false) (h2:∀i,l<=i->i < k->q (bJ p k) (bJ p i)=true):Up q (bubble p k (k - l)) (k + 1):=λi j hi hj=>by
 rw [EC hk (by omega),EC hk (by omega),show k - (k - l)=l by omega]
 by_cases a:i=l
 ·rw [if_pos a]
  by_cases b:j=l
  ·rw [if_pos b];exact O.irr _
  ·rw [if_neg b,if_pos (by omega)]
   exact O.asy _ _ (h2 (j - 1) (by omega) (by omega))
 ·rw [if_neg a]
  by_cases b:j=l
  ·rw [if_pos b,if_neg (by omega)]
   exact h1 i (by omega)
  ·rw [if_neg b]
   by_cases a':l < i/\i<=k
   ·rw [if_pos a',if_pos (by omega)]
    exact hs _ _ (by omega) (by omega)
   ·rw [if_neg a']
    by_cases b':l < j/\j<=k
    ·rw [if_pos b']
     exact hs _ _ (by omega) (by omega)
    ·rw [if_neg b']
     exact hs _ _ hi (by omega)
theorem EF (O:Ord q):∀(f:Nat) (p:Array Nat) (k:Nat),k + f<=p.size->Up q p k->Up q (bq q (ad8 f p k)) (k + f)
 | 0,p,k,_,h=>h
 | f + 1,p,k,hs,h=>by
  have e:bq q (ad8 (f + 1) p k)=bq q (ad8 f (bubble p k (k - bq q (Xq p k k 0 k))) (k + 1)):=by
   rw [ad8,run_bind]
  rw [e]
  obtain ⟨a1,a2,a3⟩:=uu O h k 0 k (Vl _) (UX _) (by omega) (λi hi=>by omega) (λi h1 h2=>by omega)
  have:=EF O f (bubble p k (k - bq q (Xq p k k 0 k))) (k + 1) (by rw [bubble_size];omega) (Mt O (by omega) a1 h a2 a3)
  rw [show k + (f + 1)=k + 1 + f by omega]
  exact this
theorem LJ (O:Ord q) (n:Nat) (hn:1<=n):Up q (bq q (Yp n)) n:=by
 unfold Yp
 rw [run_bind]
 obtain ⟨a0,a1,a2,a3⟩:=G5 O (p:=(UQ n).toArray) (N:=n) hn (by simp)
 generalize bq q (ac6 n (UQ n).toArray)=r at *
 have a0:r.2.size=n:=by simpa using a0
 by_cases c:r.1 < n
 ·rw [if_pos c]
  have:=EF O (n - max r.1 1) r.2 (max r.1 1) (by omega) (by rw [show max r.1 1=r.1 by omega];exact a3)
  rwa [show max r.1 1 + (n - max r.1 1)=n by omega] at this
 ·rw [if_neg c]
  have:r.1=n:=by omega
  rw [this] at a3
  exact a3
end
end DL
namespace DL
open PySem PySem.Spec PyProof.Rows L2
open PySem.W (kas_sort)
def d8 (x y:D):Bool:=(dM x y).getD false
structure gx (P:D->Prop):Prop where
 eq:∀x y,P x->P y->(bu x y=true↔x=y)
 lt:∀x y,P x->P y->(dM x y).isSome=true
 asy:∀x y,P x->P y->d8 x y=true->d8 y x=false
 tri:∀x y,P x->P y->d8 x y=false->d8 y x=false->x=y
 tra:∀x y z,P x->P y->P z->d8 x y=true->d8 y z=true->d8 x z=true
def iR (xs ys:List D):Bool:=d8 (.tup xs) (.tup ys)
theorem jW (x y:D) (xs ys:List D):iR (x::xs) (y::ys)=if bu x y=true then iR xs ys else d8 x y:=by
 show (if bu x y=true then kE xs ys else dM x y).getD false=_
 by_cases h:bu x y=true
 ·rw [if_pos h,if_pos h];rfl
 ·rw [if_neg h,if_neg h];rfl
variable {P R:D->Prop}
theorem jU (xs ys:List D):bu (.tup xs) (.tup ys)=cH xs ys:=by rw [bu]
theorem iD (x y:D) (xs ys:List D):cH (x::xs) (y::ys)=(bu x y && cH xs ys):=by rw [cH]
structure lG (Q:List D->Prop):Prop where
 eq:∀x y,Q x->Q y->(cH x y=true↔x=y)
 lt:∀x y,Q x->Q y->(kE x y).isSome=true
 asy:∀x y,Q x->Q y->iR x y=true->iR y x=false
 tri:∀x y,Q x->Q y->iR x y=false->iR y x=false->x=y
 tra:∀x y z,Q x->Q y->Q z->iR x y=true->iR y z=true->iR x z=true
theorem lG.tot {Q:List D->Prop}(h:lG Q):gx λd=>∃xs,d=.tup xs/\Q xs where
 eq:=by
  rintro _ _ ⟨x,rfl,hx⟩ ⟨y,rfl,hy⟩
  rw [jU,h.eq x y hx hy]
  exact ⟨λe=>e▸rfl,λe=>by cases e;rfl⟩
 lt:=by
  rintro _ _ ⟨x,rfl,hx⟩ ⟨y,rfl,hy⟩
  exact h.lt x y hx hy
 asy:=by
  rintro _ _ ⟨x,rfl,hx⟩ ⟨y,rfl,hy⟩
  exact h.asy x y hx hy
 tri:=by
  rintro _ _ ⟨x,rfl,hx⟩ ⟨y,rfl,hy⟩ h1 h2
  rw [h.tri x y hx hy h1 h2]
 tra:=by
  rintro _ _ _ ⟨x,rfl,hx⟩ ⟨y,rfl,hy⟩ ⟨z,rfl,hz⟩
  exact h.tra x y z hx hy hz
theorem Cj (p:gx P) (px:P x) (py:P y) (pz:P z) (h:iR r s=true->iR s t=true->iR r t=true) (h1:iR (x::r) (y::s)=true) (h2:iR (y::s) (z::t)=true):iR (x::r) (z::t)=true:=by
 rw [jW] at h1 h2 ⊢
 by_cases e:x=y
 ·subst e
  rw [if_pos ((p.eq x x px px).mpr rfl)] at h1
  by_cases f:x=z
  ·subst f
   rw [if_pos ((p.eq x x px px).mpr rfl)] at h2 ⊢
   exact h h1 h2
  ·rw [if_neg λq=>f ((p.eq x z px pz).mp q)] at h2 ⊢
   exact h2
 ·rw [if_neg λq=>e ((p.eq x y px py).mp q)] at h1
  by_cases f:y=z
  ·subst f
   rw [if_neg λq=>e ((p.eq x y px py).mp q)]
   exact h1
  ·rw [if_neg λq=>f ((p.eq y z py pz).mp q)] at h2
   have h3:=p.tra x y z px py pz h1 h2
   by_cases g:x=z
   ·subst g
    have:=p.asy x x px px h3
    rw [h3] at this
    cases this
   ·rw [if_neg λq=>g ((p.eq x z px pz).mp q)]
    exact h3
theorem lG.cons {Q:List D->Prop}(p:gx P) (h:lG Q):lG λxs=>∃x r,xs=x::r/\P x/\Q r where
 eq:=by
  rintro _ _ ⟨x,r,rfl,px,qr⟩ ⟨y,s,rfl,py,qs⟩
  rw [iD,UT,p.eq x y px py,h.eq r s qr qs]
  exact ⟨λe=>by rw [e.1,e.2],λe=>by cases e;exact ⟨rfl,rfl⟩⟩
 lt:=by
  rintro _ _ ⟨x,r,rfl,px,qr⟩ ⟨y,s,rfl,py,qs⟩
  show (if bu x y=true then kE r s else dM x y).isSome=true
  split
  ·exact h.lt r s qr qs
  ·exact p.lt x y px py
 asy:=by
  rintro _ _ ⟨x,r,rfl,px,qr⟩ ⟨y,s,rfl,py,qs⟩ hl
  rw [jW] at hl ⊢
  by_cases e:x=y
  ·subst e
   rw [if_pos ((p.eq x x px px).mpr rfl)] at hl ⊢
   exact h.asy r s qr qs hl
  ·rw [if_neg λz=>e ((p.eq x y px py).mp z)] at hl
   rw [if_neg λz=>e ((p.eq y x py px).mp z).symm]
   exact p.asy x y px py hl
 tri:=by
  rintro _ _ ⟨x,r,rfl,px,qr⟩ ⟨y,s,rfl,py,qs⟩ h1 h2
  rw [jW] at h1 h2
  by_cases e:x=y
  ·subst e
   rw [if_pos ((p.eq x x px px).mpr rfl)] at h1 h2
   rw [h.tri r s qr qs h1 h2]
  ·rw [if_neg λz=>e ((p.eq x y px py).mp z)] at h1
   rw [if_neg λz=>e ((p.eq y x py px).mp z).symm] at h2
   exact absurd (p.tri x y px py h1 h2) e
 tra:=by
  rintro _ _ _ ⟨x,r,rfl,px,qr⟩ ⟨y,s,rfl,py,qs⟩ ⟨z,t,rfl,pz,qt⟩ h1 h2
  exact Cj p px py pz (h.tra r s t qr qs qt) h1 h2
theorem lG.nil:lG λxs=>xs=[] where
 eq:=by rintro _ _ rfl rfl;simp [cH]
 lt:=by rintro _ _ rfl rfl;rfl
 asy:=by rintro _ _ rfl rfl h;cases h
 tri:=by rintro _ _ rfl rfl _ _;rfl
 tra:=by rintro _ _ _ rfl rfl rfl h;cases h
theorem gx.list (p:gx P):lG λxs=>∀x∈xs,P x where
 eq:=by
  intro xs
  induction xs with
  | nil=>intro ys _ _;cases ys <;> simp [cH]
  | cons x xs ih=>
   intro ys hx hy
   cases ys with
   | nil=>simp [cH]
   | cons y ys=>
    rw [iD,UT,p.eq x y (hx x UW) (hy y UW),ih ys (λz hz=>hx z (UU _ hz)) λz hz=>hy z (UU _ hz)]
    exact ⟨λe=>by rw [e.1,e.2],λe=>by cases e;exact ⟨rfl,rfl⟩⟩
 lt:=by
  intro xs
  induction xs with
  | nil=>intro ys _ _;rfl
  | cons x xs ih=>
   intro ys hx hy
   cases ys with
   | nil=>rfl
   | cons y ys=>
    show (if bu x y=true then kE xs ys else dM x y).isSome=true
    split
    ·exact ih ys (λz hz=>hx z (UU _ hz)) λz hz=>hy z (UU _ hz)
    ·exact p.lt x y (hx x UW) (hy y UW)
 asy:=by
  intro xs
  induction xs with
  | nil=>
   intro ys _ _ h
   cases ys with
   | nil=>cases h
   | cons y ys=>rfl
  | cons x xs ih=>
   intro ys hx hy hl
   cases ys with
   | nil=>cases hl
   | cons y ys=>
    have px:=hx x UW
    have py:=hy y UW
    rw [jW] at hl ⊢
    by_cases e:x=y
    ·subst e
     rw [if_pos ((p.eq x x px px).mpr rfl)] at hl ⊢
     exact ih ys (λz hz=>hx z (UU _ hz)) (λz hz=>hy z (UU _ hz)) hl
    ·rw [if_neg λz=>e ((p.eq x y px py).mp z)] at hl
     rw [if_neg λz=>e ((p.eq y x py px).mp z).symm]
     exact p.asy x y px py hl
 tri:=by
  intro xs
  induction xs with
  | nil=>
   intro ys _ _ h1 h2
   cases ys with
   | nil=>rfl
   | cons y ys=>cases h1
  | cons x xs ih=>
   intro ys hx hy h1 h2
   cases ys with
   | nil=>cases h2
   | cons y ys=>
    have px:=hx x UW
    have py:=hy y UW
    rw [jW] at h1 h2
    by_cases e:x=y
    ·subst e
     rw [if_pos ((p.eq x x px px).mpr rfl)] at h1 h2
     rw [ih ys (λz hz=>hx z (UU _ hz)) (λz hz=>hy z (UU _ hz)) h1 h2]
    ·rw [if_neg λz=>e ((p.eq x y px py).mp z)] at h1
     rw [if_neg λz=>e ((p.eq y x py px).mp z).symm] at h2
     exact absurd (p.tri x y px py h1 h2) e
 tra:=by
  intro xs
  induction xs with
  | nil=>
   intro ys zs _ _ _ h1 h2
   cases ys with
   | nil=>cases h1
   | cons y ys=>
    cases zs with
    | nil=>cases h2
    | cons z zs=>rfl
  | cons x xs ih=>
   intro ys zs hx hy hz h1 h2
   cases ys with
   | nil=>cases h1
   | cons y ys=>
    cases zs with
    | nil=>cases h2
    | cons z zs=>
     have px:=hx x UW
     have py:=hy y UW
     have pz:=hz z UW
     exact Cj p px py pz (ih ys zs (λz hz=>hx z (UU _ hz)) (λz hz=>hy z (UU _ hz)) λw hw=>hz w (UU _ hw)) h1 h2
theorem Px:gx λd=>∃k,d=.bl k where
 eq:=by rintro _ _ ⟨x,rfl⟩ ⟨y,rfl⟩;simp [bu]
 lt:=by rintro _ _ ⟨x,rfl⟩ ⟨y,rfl⟩;rfl
 asy:=by rintro _ _ ⟨x,rfl⟩ ⟨y,rfl⟩;revert x y;decide
 tri:=by
  rintro _ _ ⟨x,rfl⟩ ⟨y,rfl⟩ h1 h2
  revert h1 h2
  cases x <;> cases y <;> intro h1 h2
  ·rfl
  ·exact absurd h1 (by decide)
  ·exact absurd h2 (by decide)
  ·rfl
 tra:=by rintro _ _ _ ⟨x,rfl⟩ ⟨y,rfl⟩ ⟨z,rfl⟩;revert x y z;decide
theorem nW (x y:Int):d8 (.int x) (.int y)=decide (x < y):=rfl
theorem Py:gx λd=>∃k,d=.int k where
 eq:=by rintro _ _ ⟨x,rfl⟩ ⟨y,rfl⟩;simp [bu]
 lt:=by rintro _ _ ⟨x,rfl⟩ ⟨y,rfl⟩;rfl
 asy:=by
  rintro _ _ ⟨x,rfl⟩ ⟨y,rfl⟩ h
  rw [nW,decide_eq_true_eq] at h
  rw [nW,decide_eq_false_iff_not]
  omega
 tri:=by
  rintro _ _ ⟨x,rfl⟩ ⟨y,rfl⟩ h1 h2
  rw [nW,decide_eq_false_iff_not] at h1 h2
  rw [show x=y by omega]
 tra:=by
  rintro _ _ _ ⟨x,rfl⟩ ⟨y,rfl⟩ ⟨z,rfl⟩ h1 h2
  rw [nW,decide_eq_true_eq] at h1 h2 ⊢
  omega
theorem rS (x y:Str):d8 (.str x) (.str y)=decide (x.cps.toList < y.cps.toList):=rfl
theorem LN {x y:Str}(h:x.cps.toList=y.cps.toList):x=y:=by
 obtain ⟨⟨cx⟩⟩:=x
 obtain ⟨⟨cy⟩⟩:=y
 simp only at h
 rw [h]
theorem Pz:gx λd=>∃k,d=.str k where
 eq:=by rintro _ _ ⟨x,rfl⟩ ⟨y,rfl⟩;simp [bu]
 lt:=by rintro _ _ ⟨x,rfl⟩ ⟨y,rfl⟩;rfl
 asy:=by
  rintro _ _ ⟨x,rfl⟩ ⟨y,rfl⟩ h
  rw [rS,decide_eq_true_eq] at h
  rw [rS,decide_eq_false_iff_not]
  exact List.lt_asymm h
 tri:=by
  rintro _ _ ⟨x,rfl⟩ ⟨y,rfl⟩ h1 h2
  rw [rS,decide_eq_false_iff_not] at h1 h2
  rw [LN (acM h2 h1)]
 tra:=by
  rintro _ _ _ ⟨x,rfl⟩ ⟨y,rfl⟩ ⟨z,rfl⟩ h1 h2
  rw [rS,decide_eq_true_eq] at h1 h2 ⊢
  exact List.lt_trans h1 h2
inductive Fm where
 | b | i | s | hom (t:Fm) | tn | tc (x r:Fm)
noncomputable def nq:Fm->D->Prop
 | .b,d=>∃k,d=.bl k
 | .i,d=>∃k,d=.int k
 | .s,d=>∃k,d=.str k
 | .hom t,d=>∃xs,d=.tup xs/\∀x∈xs,nq t x
 | .tn,d=>∃xs,d=.tup xs/\xs=[]
 | .tc x r,d=>∃xs,d=.tup xs/\∃y ys,xs=y::ys/\nq x y/\nq r (.tup ys)
theorem gx.tail {Q:List D->Prop}(h:gx R) (k:∀xs,Q xs->R (.tup xs)):lG Q where
 eq:=λx y hx hy=>by
  have:=h.eq _ _ (k x hx) (k y hy)
  rw [jU] at this
  rw [this]
  exact ⟨λe=>by cases e;rfl,λe=>e▸rfl⟩
 lt:=λx y hx hy=>h.lt _ _ (k x hx) (k y hy)
 asy:=λx y hx hy=>h.asy _ _ (k x hx) (k y hy)
 tri:=λx y hx hy h1 h2=>by
  have:=h.tri _ _ (k x hx) (k y hy) h1 h2
  cases this;rfl
 tra:=λx y z hx hy hz=>h.tra _ _ _ (k x hx) (k y hy) (k z hz)
theorem jK:∀t:Fm,gx (nq t)
 | .b=>Px
 | .i=>Py
 | .s=>Pz
 | .hom t=>(jK t).list.tot
 | .tn=>lG.nil.tot
 | .tc x r=>(lG.cons (jK x) (gx.tail (Q:=λys=>nq r (.tup ys)) (jK r) λ_ h=>h)).tot
theorem Pg (ds:List D):(bW ds).length=ds.length:=by
 unfold bW
 by_cases h:ds.length < 2
 ·rw [if_pos h]
 ·rw [if_neg h,UR]
  have:=((jA (n:=ds.length) (by omega)).run (ltB ds)).size_eq
  simpa using this
theorem K2 (ds:List D):(UQ ds.length).map (dJ ds)=ds:=by
 refine W5 (by simp) λi h1 h2=>?_
 rw [V5,Z9]
 unfold dJ
 rw [Wg,U5 h2]
 rfl
theorem jJ (ds:List D):(bW ds).Perm ds:=by
 unfold bW
 by_cases h:ds.length < 2
 ·rw [if_pos h]
 ·rw [if_neg h]
  have hp:=(jA (n:=ds.length) (by omega)).run (ltB ds)
  have hq:(bq (ltB ds) (Yp ds.length)).toList.Perm (UQ ds.length):=by
   have:=Array.perm_iff_toList_perm.mp hp
   simpa using this
  have:=hq.map (dJ ds)
  rwa [K2] at this
theorem II (p:gx P) (ds:List D) (h:∀x∈ds,P x):(bW ds).Pairwise λx y=>d8 y x=false:=by
 unfold bW
 by_cases h2:ds.length < 2
 ·rw [if_pos h2]
  match ds,h2 with
  | [],_=>exact .nil
  | [x],_=>exact WE _ _
 ·rw [if_neg h2]
  have hn:0 < ds.length:=by omega
  have hb:=jA (n:=ds.length) hn
  have at_P:∀i,i < ds.length->P (dJ ds i):=λi hi=>h _ (iC hi)
  let q':Nat->Nat->Bool:=λi j=>if i < ds.length then (if j < ds.length then ltB ds i j else true) else false
  have hq:bq (ltB ds) (Yp ds.length)=bq q' (Yp ds.length):=ID hb λi j hi hj=>by simp [q',hi,hj]
  have O:Ord q':=by
   constructor
   ·intro a b hab
    by_cases ha:a < ds.length <;> by_cases hb:b < ds.length <;> simp [q',ha,hb] at hab ⊢
    exact p.asy _ _ (at_P a ha) (at_P b hb) hab
   ·intro a b c hab hbc
    by_cases ha:a < ds.length <;> by_cases hb:b < ds.length <;> by_cases hc:c < ds.length <;> simp [q',ha,hb,hc] at hab hbc ⊢
    have h1:d8 (dJ ds b) (dJ ds a)=false:=hab
    have h2:d8 (dJ ds c) (dJ ds b)=false:=hbc
    show d8 (dJ ds c) (dJ ds a)=false
    cases g:d8 (dJ ds c) (dJ ds a) with
    | false=>rfl
    | true=>
     have pa:=at_P a ha
     have pb:=at_P b hb
     have pc:=at_P c hc
     cases g2:d8 (dJ ds a) (dJ ds b) with
     | true=>
      have:=p.tra _ _ _ pc pa pb g g2
      rw [this] at h2;cases h2
     | false=>
      rw [<-p.tri _ _ pb pa h1 g2] at g
      rw [g] at h2;cases h2
  have up:=LJ O ds.length (by omega)
  have hs:=(hb.run (ltB ds))
  rw [hq] at hs ⊢
  have hsz:(bq q' (Yp ds.length)).size=ds.length:=by simpa using hs.size_eq
  generalize bq q' (Yp ds.length)=A at *
  rw [VO,VP]
  intro i j hi hj hij
  rw [Vb] at hi hj
  have:=up i j (by omega) (by omega)
  have e:∀k (hk:k < A.size),bJ A k=A.toList[k]'(by rw [Vb];exact hk):=λk hk=>by
   show A.getD k 0=_
   simp [WN,hk]
  rw [e i hi,e j hj] at this
  have l:∀k (hk:k < A.size),A.toList[k]'(by rw [Vb];exact hk) < ds.length:=λk hk=>by
   rw [<-e k hk];exact hs.lt hn k
  have li:=l i hi
  have lj:=l j hj
  simp only [q',li,lj,if_true] at this
  exact this
end DL
namespace K52
open PySem DL
end K52
namespace K52
open PySem DL K01 WP K51
variable {P:D->Prop}
end K52
namespace DL
open PySem PySem.Spec PyProof.Rows L2
section
variable {w:Vs}{prog:U6}{A:Vz}{s:UP}{E:UN->UP->Prop}
theorem Kv {e it l:Vd}{k:Nat}{vals:Array UN}{x old:UN}{S:Nat->V1->Prop}{Q:UN->UP->Prop}(N:vP prog w it l vals S) (he:acE s.heap e it k old) (st:S k s.heap) (hx:vals[k]?=some x) (hne:e≠it) (hle:l≠e)
  (hQ:∀h',adg h' e it ((k:Int) + 1) x s.heap.objs.size->S (k + 1) h'->h'.get? s.heap.objs.size=some {cls:=.type "tuple",data:=.seq #[.int k s.toks,x]}->
   (∀(b:Vd) o,b≠e->b≠it->s.heap.get? b=some o->h'.get? b=some o)->Q (.ref s.heap.objs.size) {s with heap:=h',toks:=s.toks + 1}):
  (U9 (Vg prog w) A (YU.«enumerate.__next__» ⟨[.ref e],[]⟩) (λfin s'=>∃v,fin=.done (.ret v)/\Q v s') E s):=by
 have move:∀{m:Nat}{h h':V1},S m h->VL e h h'->S m h':=λst sb=>N.keep _ _ _ st (λo z=>sb.extBut _ _ (WT hne) z) λo z=>sb.extBut _ _ hle z
 (obtain ⟨hp,g,d,tk,os⟩:=s)
 (show U9 _ _ (field (.ref e) 2 >>= _) _ _ _)
 (refine UL (W3 he rfl (x:=.ref it) rfl ?_))
 refine UL (N.item _ _ k x _ _ st hx λg1 st1 b1=>?_)
 replace b1:VL it hp g1:=b1
 have e1:acE g1 e it k old:=(b1.2 e hne).trans he
 show U9 _ _ (field (.ref e) 3 >>= _) _ _ ⟨g1,g,d,tk,os⟩
 refine UL (W3 e1 rfl (x:=abx k) rfl ?_)
 show U9 _ _ (field (.ref e) 4 >>= _) _ _ ⟨g1,g,d,tk,os⟩
 refine UL (W3 e1 rfl (x:=.none) rfl ?_)
 show U9 _ _ (mkInt k >>= _) _ _ ⟨g1,g,d,tk,os⟩
 (refine UL (wpAny_mkInt ?_))
 show U9 _ _ (aec (.ref e) 3 (abx ((k:Int) + 1)) >>= _) _ _ ⟨g1,g,d,tk + 1,os⟩
 refine UL (WG e1 (by simp) λg2 e2 b2=>?_)
 replace b2:VL e g1 g2:=b2
 replace e2:acE g2 e it ((k:Int) + 1) old:=e2
 show U9 _ _ (aec (.ref e) 4 .none >>= _) _ _ ⟨g2,g,d,tk + 1,os⟩
 refine UL (WG e2 (by simp) λg3 e3 b3=>?_)
 replace b3:VL e g2 g3:=b3
 replace e3:acE g3 e it ((k:Int) + 1) old:=e3
 show U9 _ _ (ad7 [.int k tk,x] >>= _) _ _ ⟨g3,g,d,tk + 1,os⟩
 (refine UL (abA ?_))
 have e4:acE (g3.push {cls:=.type "tuple",data:=.seq #[.int k tk,x]}) e it ((k:Int) + 1) old:=US _ e3
 have z3:g3.objs.size=hp.objs.size:=by rw [b3.1,b2.1,b1.1]
 (have hel:e < hp.objs.size:=U7 he)
 have t4:(g3.push {cls:=.type "tuple",data:=.seq #[.int k tk,x]}).get? hp.objs.size=some {cls:=.type "tuple",data:=.seq #[.int k tk,x]}:=by rw [<-z3];exact U0 _ rfl
 have k4:∀b o,b≠e->b≠it->hp.get? b=some o->(g3.push {cls:=.type "tuple",data:=.seq #[.int k tk,x]}).get? b=some o:=λb o c1 c2 z=>US _ (b3.extBut b o c1 (b2.extBut b o c1 (b1.extBut b o c2 z)))
 have st4:S (k + 1) (g3.push {cls:=.type "tuple",data:=.seq #[.int k tk,x]}):=N.keep _ _ _ (move (move st1 b2) b3) (λo z=>US _ z) λo z=>US _ z
 show U9 _ _ (YK (.ref e) >>= _) _ _ ⟨g3.push {cls:=.type "tuple",data:=.seq #[.int k tk,x]},g,d,tk + 1,os⟩
 rw [z3]
 refine UL ?_
 (unfold YK)
 refine UL (W3 e4 rfl (x:=.none) rfl (UO ?_))
 simp only [if_true]
 (refine UL (ZH ?_))
 refine UL (W3 e4 rfl (x:=old) rfl ?_)
 refine UL (WG e4 (by simp) λg5 e5 b5=>?_)
 replace b5:VL e _ g5:=b5
 replace e5:acE g5 e it ((k:Int) + 1) x:=e5
 show U9 _ _ (Yy (.ref e) (.ref hp.objs.size) >>= _) _ _ ⟨g5,g,d,tk + 1,os⟩
 refine UL ?_
 (unfold Yy)
 refine UL (WG e5 (by simp) λg6 e6 b6=>?_)
 replace b6:VL e g5 g6:=b6
 replace e6:adg g6 e it ((k:Int) + 1) x hp.objs.size:=e6
 refine WG e6 (by simp) λg7 e7 b7=>?_
 replace b7:VL e g6 g7:=b7
 replace e7:adg g7 e it ((k:Int) + 1) x hp.objs.size:=e7
 refine UL (wpAny_letGo (UO ⟨_,rfl,hQ g7 e7 (move (move (move st4 b5) b6) b7) ?_ ?_⟩))
 ·exact b7.extBut _ _ (WU hel) (b6.extBut _ _ (WU hel) (b5.extBut _ _ (WU hel) t4))
 ·exact λb o c1 c2 z=>b7.extBut b o c1 (b6.extBut b o c1 (b5.extBut b o c1 (k4 b o c1 c2 z)))
theorem Kw {e it l:Vd}{k:Nat}{vals:Array UN}{x old:UN}{S:Nat->V1->Prop}{Q:Option UN->UP->Prop}(N:vP prog w it l vals S) (he:acE s.heap e it k old) (st:S k s.heap) (hx:vals[k]?=some x) (hne:e≠it) (hle:l≠e)
  (hQ:∀h',adg h' e it ((k:Int) + 1) x s.heap.objs.size->S (k + 1) h'->h'.get? s.heap.objs.size=some {cls:=.type "tuple",data:=.seq #[.int k s.toks,x]}->
   (∀b o,b≠e->b≠it->s.heap.get? b=some o->h'.get? b=some o)->Q (some (.ref s.heap.objs.size)) {s with heap:=h',toks:=s.toks + 1}):U9 (Vg prog w) A (YM (.ref e)) Q E s:=by
 have zt:s.TypeIs (.ref e) "enumerate":=⟨_,he,rfl⟩
 unfold YM
 exact UL (XY (VG (name:=Xo "__next__") zt Yi (VA Yi zt aaQ
  (Kv N he st hx hne hle λh' a1 a2 a3 a4=>UO (hQ h' a1 a2 a3 a4)) (aaB _))))
theorem Ku {e it l:Vd}{k:Nat}{vals:Array UN}{old:UN}{S:Nat->V1->Prop}{Q:Option UN->UP->Prop}(hh:A.handled=none) (N:vP prog w it l vals S) (he:acE s.heap e it k old) (st:S k s.heap) (hx:vals[k]?=none)
  (hQ:∀h',aaz it s.heap h'->Q none {s with heap:=h'}):(U9 (Vg prog w) A (YM (.ref e)) Q E s):=by
 have zt:s.TypeIs (.ref e) "enumerate":=⟨_,he,rfl⟩
 unfold YM
 refine UL (XY (VG (name:=Xo "__next__") zt Yi (VA Yi zt aaQ ?_ (aaB _))))
 (show U9 _ _ (field (.ref e) 2 >>= _) _ _ _)
 (refine UL (W3 he rfl (x:=.ref it) rfl ?_))
 refine UL (N.fin _ _ k _ _ hh st hx λh' x he' ⟨o,ho,hc⟩=>?_)
 exact UL (YF (T:="StopIteration") (b:=true) ⟨o,ho,hc⟩ abC (UO (hQ _ he')))
end
abbrev Jo (h:V1) (k:String) (l:Vd):V1:=h.push (DM k l)
abbrev MD (h:V1) (k:String) (l:Vd):V1:=(Jo h k l).push {cls:=.type "enumerate",data:=.fields #[.none,.bool false,.ref h.objs.size,abx 0,.none,.none]}
theorem ME (k:String) (l:Vd) (xs:Array UN):
  Meets (YU.«enumerate.__new__» ⟨[.type "enumerate",.ref l],[]⟩) (λ_ R s=>Et k s.heap l xs/\R (.ok (.ret (.ref (Jo s.heap k l).objs.size))) {s with heap:=MD s.heap k l}):=
 .of_wp λprog w A (R:acY->UP->Prop) s h=>by
  obtain ⟨hp,g,d,tk,os⟩:=s;obtain ⟨q1,h⟩:=h
  have hsub:=sub_enumerate
  have L1:Et k (Shared.heap ⟨hp,g,d,tk,os⟩) l xs:=q1
  wp_walk using pG L1
  (refine wpAny_stack_any λst=>UO ?_)
  split
  ·rename_i c _ _ _ _ _
   (cases (c == YL "enumerate"))
   ·wp_walk using pG L1
    exact ⟨_,rfl,h⟩
   ·wp_walk using pG L1
    exact ⟨_,rfl,h⟩
  ·wp_walk using pG L1
   exact ⟨_,rfl,h⟩
noncomputable def PL (K:UM) (k:String) (l:Vd):It:=
 ⟨λi H=>∃xs x,kJ k K H l xs/\xs[i]?=some x,
  λi H v H'=>∃p,H p=none/\v=.ref p/\∀xs x,kJ k K H l xs->xs[i]?=some x->H'=upd H p (.tup [.int i,x]),
  λi H=>∃xs,kJ k K H l xs/\xs.length<=i⟩
def P1 (k:String) (l e it:Vd) (i:Nat) (h:V1):Prop:=(∃old,acE h e it i old)/\IQ k it l i h
theorem GG {P:U6}{w:Vs}{K:UM}{elts:List Vv}{kk:Nat}{tp:Pos}(k:String) (l e it:Vd) (n1:e≠it):
  Turn P w K (.Tuple elts kk tp) (PL K k l) [e,it] e (P1 k l e it) where
 mem:=by simp
 obj:=λi h st b hb=>by
  obtain ⟨⟨old,he⟩,q1⟩:=st
  (simp only [U8,V3,or_false] at hb)
  rcases hb with rfl | rfl
  ·exact ⟨_,he,λv q=>by cases (show aeA _=afd v from q)⟩
  ·exact q1.obj
 keep:=λi h h' st kp=>by
  obtain ⟨⟨old,he⟩,q1⟩:=st
  exact ⟨⟨old,kp e (by simp) _ he⟩,q1.keep λo z=>kp it (by simp) o z⟩
 item:=by
  intro X hP hw hK hc i UB s σ H E I hf st hg
  subst hP hw hK
  obtain ⟨⟨old,he⟩,q1⟩:=st
  obtain ⟨xs,x,s1,hx⟩:=hg
  obtain ⟨UC,r1,p1⟩:=s1.get I
  obtain ⟨u,hu,ru⟩:=r1.get hx
  have ne1:∀b∈[e,it],l≠b:=λb hb=>s1.ne I (hf b hb)
  refine Kw (Fb X.prog X.w k it l UC.toArray (ne1 it (by simp))) he (q1.sq p1) (by simpa using hu) n1 (ne1 e (by simp)) λh' a1 a3 a5 hk=>?_
  refine ⟨_,rfl,wpAny_letOwnedTupleGo_enum (s:={s with heap:=h',toks:=s.toks + 1}) a1 λh'' z'' sb=>?_⟩
  have fT:H s.heap.objs.size=none:=I.hok.fresh (UX _)
  have old':∀{b:Vd}{o:Obj},s.heap.get? b=some o->b≠s.heap.objs.size:=λe=>Vn (U7 e)
  have eT:e≠s.heap.objs.size:=old' he
  have kk':∀b o,b∉[e,it]->s.heap.get? b=some o->h''.get? b=some o:=λb o hb z=>by
   simp only [U8,V3,or_false,not_or] at hb
   exact sb.extBut _ _ hb.1 (hk b o hb.1 hb.2 z)
  have Tn:∀b∈[e,it],b≠s.heap.objs.size:=λb hb=>by
   (simp only [U8,V3,or_false] at hb)
   rcases hb with rfl | rfl
   ·exact old' he
   ·exact old' q1.obj.choose_spec.1
  have up':∀{b:Vd}{o:HO},H b=some o->upd H s.heap.objs.size (.tup [.int i,x]) b=some o:=λz=>by rw [bD (eU z fT)];exact z
  have I2:Inv X UB σ (upd H s.heap.objs.size (.tup [.int i,x])) {s with heap:=h'',gens:=s.gens,drawn:=s.drawn,toks:=s.toks + 1}:=by
   refine I.step (ch:=[e,it]) (λb hb=>⟨(hf b hb).2.2.2.1,(hf b hb).2.1,(hf b hb).2.2.2.2.1,(hf b hb).2.2.2.2.2⟩) (λb o _ _ hb z _=>kk' b o hb z) (λb o _ _ hb z _=>⟨o.slots,kk' b o hb z⟩) (λb o hb z n=>by rw [bD (old' z)];exact n)
    (λb o hb z=>⟨o,kk' b o hb z⟩) (λb xs z=>up' z) (λb o q z=>up' z) (λb ps z=>⟨#[],by rw [ab3];exact up' z⟩) (λm hm=>?_) (λb q z=>?_) I.bare
   ·obtain ⟨o,es,ep,ho,r⟩:=hm
    exact ⟨o,es,ep,kk' _ o (λhb=>(hf _ hb).2.1 rfl) ho,r⟩
   ·by_cases hb:b=s.heap.objs.size
    ·subst hb
     rw [b9] at z
     cases z
     refine ⟨(by show 2<=sizeLine;decide),[.int i s.toks,u],.cons ⟨_,rfl⟩ (.cons ru .nil),⟨_,sb.extBut _ _ (WT eT) a5,rfl,0,rfl⟩⟩
    ·rw [bD hb] at z
     have nch:∀d,(d=b\/H d=some (.own b))->d∉[e,it]:=λd hd hm=>by
      have:=(hf d hm).1
      rcases hd with rfl | hd
      ·rw [this] at z;cases z
      ·rw [this] at hd;cases hd
     exact (I.hok b q z).stay (λd o hd ho=>kk' d o (nch d hd) ho) (λ_ h=>up' h) λ_ _ h=>up' h
  refine ⟨.ref s.heap.objs.size,_,I2,rfl,⟨s.heap.objs.size,fT,rfl,λxs' x' c1 c3=>?_⟩,⟨⟨_,by simpa using z''⟩,a3.iq.keep λo z=>sb.extBut _ _ (WT n1) z⟩,λb hb=>by rw [bD (Tn b hb)];exact (hf b hb).1⟩
  have e1:=kJ.inj I c1 s1
  subst e1
  rw [hx] at c3
  cases c3
  rfl
 done:=by
  intro X hP hw hK hc i UB s σ H E I hf st hg
  subst hP hw hK
  obtain ⟨⟨old,he⟩,q1⟩:=st
  obtain ⟨xs,s1,hend⟩:=hg
  obtain ⟨UC,r1,p1⟩:=s1.get I
  have ne1:∀b∈[e,it],l≠b:=λb hb=>s1.ne I (hf b hb)
  have Sx:UC.toArray[i]?=none:=by
   have e1:=r1.length
   simp;omega
  refine Ku (I.ok.hd hc) (Fb X.prog X.w k it l UC.toArray (ne1 it (by simp))) he (q1.sq p1) Sx λh' hk=>⟨rfl,?_⟩
  have kk':∀b o,b∉[e,it]->s.heap.get? b=some o->h'.get? b=some o:=λb o hb z=>by
   simp only [U8,V3,or_false,not_or] at hb
   exact hk b o hb.2 z
  refine I.step (ch:=[e,it]) (g':=s.gens) (d':=s.drawn) (t':=s.toks) (λb hb=>⟨(hf b hb).2.2.2.1,(hf b hb).2.1,(hf b hb).2.2.2.2.1,(hf b hb).2.2.2.2.2⟩) (λb o _ _ hb z _=>kk' b o hb z) (λb o _ _ hb z _=>⟨o.slots,kk' b o hb z⟩) (λb o hb z n=>n)
    (λb o hb z=>⟨o,kk' b o hb z⟩) (λb xs z=>z) (λb o q z=>z) (λb ps z=>⟨#[],by rw [ab3];exact z⟩) (λm hm=>?_) (λb q z=>?_) I.bare
  ·obtain ⟨o,es,ep,ho,r⟩:=hm
   exact ⟨o,es,ep,kk' _ o (λhb=>(hf _ hb).2.1 rfl) ho,r⟩
  ·have nch:∀d,(d=b\/H d=some (.own b))->d∉[e,it]:=λd hd hm=>by
    have:=(hf d hm).1
    rcases hd with rfl | hd
    ·rw [this] at z;cases z
    ·rw [this] at hd;cases hd
   exact (I.hok b q z).stay (λd o hd ho=>kk' d o (nch d hd) ho) (λ_ h=>h) λ_ _ h=>h
 self:=λA i s Q E st h=>by
  obtain ⟨⟨old,he⟩,_⟩:=st
  exact acq he h
section
variable {X:Cx}{c:C}{a:Vv}{pos:Pos}{elts:List Vv}{kk:Nat}{tp:Pos}
theorem EJ:VR "enumerate"=some (.type "enumerate"):=by decide +kernel
def OM (K:UM) (ta:TA):TI:=λσ H Q=>ta σ H λvs H1=>∃k l xs,vs=[.ref l]/\kJ k K H1 l xs/\Q (PL K k l) H1
theorem Lj {ta:TA}{p:Pos}(hg:Gl X "enumerate") (hm:X.mg "enumerate"=none) (ha:PA X [a] ta) (hs:UZ [a] X.env=[(false,eval a X.env)]:=by rfl) (hs2:UZ [] X.env=[]:=by rfl):
  PI X (.Tuple elts kk tp) (.Call (.Name "enumerate" p) [a] [] pos) (OM X.K ta):=by
 intro UB s σ H R I h
 refine Call_ (qL I hg hm EJ (Ye (bP (ha pos UB s σ H _ I h) λus s1 ⟨vs,H1,I1,r1,q1⟩=>?_) (by rw [hs,hs2]) (by rw [hs2];rfl)))
 obtain ⟨k,l,xs,e,s1',q⟩:=q1
 subst e
 obtain ⟨UC,v1,p1⟩:=s1'.get I1
 cases r1 with
 | cons r rr=>
  cases rr
  cases r
  refine callType_new F.called_enumerate (by decide) (F.typeCall_enumerate_1 _) (F.newCall_enumerate_1 _) (λ_=>by first | exact F.args_object_init _ | rfl | decide) F.entry_enumerate_new (ME k l UC.toArray) ?_
  refine ⟨p1,?_⟩
  have gp:∀{h:V1}{q:Vd}{u:Obj}(o:Obj),h.get? q=some u->(h.push o).get? q=some u:=λo e=>US _ e
  refine ⟨⟨_,U0 _ rfl,rfl⟩,acq (old:=.none) (i:=0) (U0 _ rfl) ?_⟩
  have e1:(Jo s1.heap k l).objs.size=s1.heap.objs.size + 1:=Xx ..
  have I5:Inv X UB σ H1 {s1 with heap:=MD s1.heap k l}:=I1.kept (t':=s1.toks) λb o h=>gp _ (gp _ h)
  refine ⟨_,[(Jo s1.heap k l).objs.size,s1.heap.objs.size],P1 k l _ _,_,H1,rfl,I5,GG k l _ _ (by rw [e1];exact WU (Wt _)),?_,?_,q⟩
  ·refine ⟨⟨.none,U0 _ rfl⟩,?_⟩
   have h1:(MD s1.heap k l).get? s1.heap.objs.size=some (DM k l):=gp _ (U0 _ rfl)
   rcases p1 with ⟨rfl,_⟩ | ⟨rfl,_⟩
   ·exact .inl ⟨rfl,_,h1,rfl,rfl⟩
   ·exact .inr ⟨rfl,_,h1,rfl,rfl⟩
  ·intro b hb
   have hle:s1.heap.objs.size<=b:=by
    (simp only [U8,V3,or_false] at hb)
    rcases hb with rfl | rfl
    ·rw [e1];exact YI _
    ·exact UX _
   exact I1.fpOk hle (I1.hok.fresh hle)
end
section
variable {X:Cx}{c:C}{e a b:Vv}{es elts:List Vv}{pos tp:Pos}{kk:Nat}
noncomputable def Mm:R->M (List D)
 | .d (.tup xs)=>.ok xs
 | .d (.lst xs)=>.ok xs
 | _=>.bad
noncomputable def Rg (gs:G (List R)):G (List D):=λenv=>gs env >>= λrs=>match rs with
 | [x,y]=>Mm x >>= λxs=>Mm y >>= λys=>.ok (List.zipWith (λa b=>.tup [a,b]) xs ys)
 | _=>.bad
theorem G1:cO X (.type "range") (λxs H Q=>∃j:Int,xs=[.int j]/\∀p,H p=none->Q (.ref p) (upd H p (.rng 0 j))):=by
 intro UB s σ H xs us Q I r h
 obtain ⟨j,rfl,q⟩:=h
 obtain ⟨u,rfl,t,rfl⟩:=vals1 r
 refine call_range_1 ⟨.ref s.heap.objs.size,_,I.laid (λb o e=>US _ e) (UX _) (show cT X.prog X.w _ _ _ (.rng 0 j) from ⟨_,_,_,U0 _ rfl⟩),rfl,q _ (I.hok.fresh (UX _))⟩
def mV (n:Nat):List V:=(UQ n).map λ(k:Nat)=>V.int k
theorem IV {acc:Array UN}(h:ItemsOf (λi v=>∃t,v=.int (0 + (i:Int) * 1) t) acc n):Vals (mV n) acc.toList:=by
 have key:∀(us:List UN) (i:Nat),(∀j v,us[j]?=some v->∃t:Tok,v=ael ((i + j:Nat):Int) t)->Vals ((List.range' i us.length).map λ(k:Nat)=>V.int k) us:=by
  intro us
  induction us with
  | nil=>exact λi _=>.nil
  | cons u us ih=>
   intro i hj
   obtain ⟨t,e⟩:=hj 0 u rfl
   rw [VU,List.range'_succ,U_]
   refine .cons ⟨t,by rw [e];rfl⟩ (ih (i + 1) λj v hv=>?_)
   obtain ⟨t,e⟩:=hj (j + 1) v (by simpa using hv)
   exact ⟨t,by rw [e];congr 2;omega⟩
 have e:acc.toList.length=n:=by rw [Vb];exact h.1
 unfold mV
 rw [List.range_eq_range',<-e]
 refine key acc.toList 0 λj v hv=>?_
 obtain ⟨t,q⟩:=h.2 j v (by simpa using hv)
 exact ⟨t,by rw [q];congr 1;omega⟩
theorem yG (hc:X.calm=true):cO X (.type "list") (λxs H Q=>∃(p:Vd) (j:Int),xs=[.ref p]/\H p=some (.rng 0 j)/\-(2 ^ 24)<=j/\j<=2 ^ 24/\∀l,H l=none->Q (.ref l) (upd H l (.lst (mV j.toNat)))):=by
 intro UB s σ H xs us Q I r h
 obtain ⟨p,j,rfl,hp,h0,h1,q⟩:=h
 obtain ⟨u,rfl,rx⟩:=vals1 r
 cases rx
 obtain ⟨t,u,v,ho⟩:=I.hok p _ hp
 have hn:aat 0 j 1=(j.toNat:Int):=by rw [adY];split <;> omega
 refine call_list_range (I.ok.hd hc) ho (small_one (by decide) (by decide) (by omega) (by omega)) hn (by omega) λh' tk acc' c' kp e hi=>?_
 have hv:=IV hi
 refine ⟨.ref s.heap.objs.size,_,I.laid kp (UX _) (show cT X.prog X.w _ h' _ (.lst (mV j.toNat)) from ⟨?_,acc'.toList,c',hv,e⟩),rfl,q _ (I.hok.fresh (UX _))⟩
 unfold mV
 rw [UR,WO]
 show j.toNat<=2 ^ 24
 omega
noncomputable def y_ (gs:G (List R)):G R:=λenv=>gs env >>= λrs=>match rs with
 | [.d (.int j)]=>if below 16777216 j then .ok (.l .fresh (gg 0 j.toNat)) else .bad
 | _=>.bad
theorem IC {K:UM}{J:Hp}(n:Nat):aL K J (gg 0 n) (mV n):=by
 unfold gg mV
 generalize UQ n=ks
 induction ks with
 | nil=>exact .nil
 | cons k ks ih=>
  rw [U_,U_,Int.zero_add]
  exact .cons (.int _) ih
end
end DL
namespace DL
open PySem PySem.Spec PyProof.Rows L2 DX
section
variable {X:Cx}{c:C}{e a:Vv}{es:List Vv}{ga g:G R}{pos:Pos}{L:List Str}{T:Str->Bool}
theorem D8 {p p2 pos2:Pos}{gs:G (List R)}(ha:iX X c [a] gs) (hm:X.mg "range"=none) (hm2:X.mg "list"=none) (hc:X.calm=true:=by rfl) (hK:X.K=c.K:=by rfl) (hg:Gl X "range":=by rfl) (S6:Gl X "list":=by rfl)
  (hs:UZ [a] X.env=(false,eval a X.env)::UZ [] X.env:=by rfl) (hs0:(Wu pos (UZ [] X.env)).any (·.1)=false:=by rfl) (hs2:UZ [afi (.Name "range" p) [a] [] pos] X.env=(false,eval (afi (.Name "range" p) [a] [] pos) X.env)::UZ [] X.env:=by rfl) (Uk:(Wu pos2 (UZ [] X.env)).any (·.1)=false:=by rfl):
  QD X c (.Call (.Name "list" p2) [.Call (.Name "range" p) [a] [] pos] [] pos2) (y_ gs):=by
 have ha:=ha.h
 refine ⟨?_⟩
 have h1:=m9 (p:=p) (pos:=pos) G1 hg hm boot_range ha (by decide) (by decide) hs hs0
 have h2:=m9 (p:=p2) (pos:=pos2) (yG hc) S6 hm2 uR (fH h1 iZ hs2) (by decide) (by decide) hs2 Uk
 refine fj h2 λσ H Q ⟨J,env,sr,w⟩=>?_
 refine ⟨J,env,sr,aF (aK w) λrs wr vs J1 H1 e1 r1=>?_⟩
 split at wr
 ·rename_i j
  obtain ⟨v,rfl,r⟩:=r1.one
  cases r
  split at wr
  ·rename_i hb
   obtain ⟨b1,b2⟩:=dh.mp hb
   refine ⟨j,rfl,λq hq=>?_⟩
   refine ⟨q,j,rfl,b9,by omega,by omega,λl hl=>?_⟩
   have hp1:=sr.hp.ext e1
   have e2:=Ext.new hp1.sub hq (.rng 0 j)
   have hp2:=hp1.ext e2
   have hr:RR c H1 J1 (upd (upd H1 q (.rng 0 j)) l (.lst (mV j.toNat))) (.l .fresh (gg 0 j.toNat)) (.ref l):=by
    obtain ⟨a,us,x1,x2,x3,x4,x5⟩:=iz (c:=c) hp2 hl (IC j.toNat)
    exact ⟨a,us,x1,x2,x3,e2.h.free x4,x5⟩
   exact wr _ _ _ ((e1.trans e2).trans (Ext.new hp2.sub hl _)) (by
    obtain ⟨a,us,x1,x2,x3,x4,x5⟩:=hr
    exact ⟨a,us,x1,x2,x3,e1.h.free x4,x5⟩)
  ·exact wr.elim
 ·exact wr.elim
end
end DL
namespace DL
open PySem PySem.Spec PyProof.Rows L2
section
variable {X:Cx}{c:C}{a:Vv}{pos:Pos}{elts:List Vv}{kk:Nat}{tp:Pos}
def mF (xs:List D):List D:=xs.zipIdx.map λp=>.tup [.int p.2,p.1]
theorem G8 {xs:List D}{i:Nat}{d:D}(h:(mF xs)[i]?=some d):∃x,xs[i]?=some x/\d=.tup [.int i,x]:=by
 unfold mF at h
 rw [Vh,List.getElem?_zipIdx] at h
 cases q:xs[i]? with
 | none=>rw [q] at h;simp at h
 | some x=>rw [q] at h;simp at h;exact ⟨x,rfl,h.symm⟩
theorem E9 (xs:List D):(mF xs).length=xs.length:=by unfold mF;simp
noncomputable def Js (gs:G (List R)):G (List D):=λenv=>gs env >>= λrs=>match rs with
 | [x]=>zM x >>= λxs=>.ok (mF xs)
 | _=>.bad
end
end DL
namespace DL
open PySem PySem.Spec PyProof.Rows L2 DX
open PySem.W (KasT kas_sort kas_ask)
section
variable {X:Cx}{c:C}{e:Vv}{es:List Vv}{pos:Pos}
noncomputable def nP:List R->M R
 | [r]=>iK r >>= λxs=>if xR xs=true then .ok (.l .fresh (bW xs)) else if AL xs=true then .ok (.l .fresh (bW xs)) else .bad
 | _=>.bad
theorem xX {p:Pos}{gs:G (List R)}(hu:X.A.units + 64 < Wj) (ha:iX X c (e::es) gs) (hm:X.mg "sorted"=none) (hK:X.K=c.K:=by rfl) (hg:Gl X "sorted":=by rfl)
  (he:UZ (e::es) X.env=(false,eval e X.env)::UZ es X.env:=by rfl) (hpl:(Wu pos (UZ es X.env)).any (·.1)=false:=by rfl):QD X c (.Call (.Name "sorted" p) (e::es) [] pos) (gN nP gs):=have ha:=ha.h;⟨
 jc (zW hu) (by
  intro He J H xs vs Q hp rs w
  unfold nP at w
  split at w
  ·obtain ⟨v,rfl,r⟩:=rs.one
   obtain ⟨xs,q,w⟩:=jr w
   obtain ⟨p,vs,rfl,h1,h2⟩:=kZ hp r q
   rw [hK]
   split at w
   ·rename_i ok
    exact ⟨p,vs,xs,rfl,h1,h2.mono hp.sub,.inl ok,λl vs' hl rr=>w _ _ _ (Ext.new hp.sub hl _) (iz hp hl (rr _ h2))⟩
   ·split at w
    ·rename_i ok
     exact ⟨p,vs,xs,rfl,h1,h2.mono hp.sub,.inr ok,λl vs' hl rr=>w _ _ _ (Ext.new hp.sub hl _) (iz hp hl (rr _ h2))⟩
    ·exact w.elim
  ·exact w.elim) lH hm ha hg (by decide) (by decide) he hpl⟩
end
end DL
namespace DL
open PySem PySem.Spec PyProof.Rows L2 DX
section
variable {X:Cx}{c:C}{e:Vv}{es:List Vv}{pos:Pos}
theorem any_range (ks:List Bool):(UQ ks.length).any (λi=>ks.getD i false)=ks.any id:=by
 induction ks with
 | nil=>rfl
 | cons k r ih=>
  rw [VU,Ze,ZD,Z_,ZD]
  simp only [abI]
  rw [<-ih]
  rfl
theorem EO (hc:X.calm=true):cO X (.builtin "any") (λxs H Q=>∃(p:Vd) (ks:List Bool),xs=[.ref p]/\cB X.K H p (ks.map V.bl)/\Q (.bl (ks.any id)) H):=by
 intro UB s σ H xs us Q I r h
 obtain ⟨p,ks,rfl,hq,q⟩:=h
 obtain ⟨u,rfl,rx⟩:=vals1 r
 cases rx
 obtain ⟨UC,r',pl,hz⟩:=I.list hq
 have hi:=uE r'
 subst hi
 have Tj:p≠s.heap.objs.size:=by
  obtain ⟨o,h1,_⟩:=pl.isList
  exact Vn (U7 h1)
 refine call_any_walk (Yo pl.isList ⟨s.heap.objs.size,_,_,_,_,_,(λi=>ks.getD i false),rfl,adS (A:=X.A.in1) (show X.A.in1.handled=none from I.ok.hd hc) s.heap.objs.size p Tj (ks.map Xk).toArray,⟨⟨_,U0 _ rfl,rfl,rfl⟩,acN pl.isList _⟩,?_,λh' tk k=>?_⟩)
 ·intro i v s' Q' E' hP hQ
  have e:∃k,ks[i]?=some k/\v=.bool k:=by
   have hP':(ks.map Xk)[i]?=some v:=by simpa using hP
   rw [Vh] at hP'
   cases z:ks[i]? with
   | none=>rw [z] at hP';cases hP'
   | some k=>rw [z] at hP';cases hP';exact ⟨k,rfl,rfl⟩
  obtain ⟨k,e1,rfl⟩:=e
  simp only at hQ
  rw [Wg,e1] at hQ
  exact V6 hQ
 ·have sz:(ks.map Xk).toArray.size=ks.length:=by simp
  rw [sz,any_range]
  refine ⟨.bl (ks.any id),H,?_,rfl,q⟩
  refine I.kept λb o e=>k b o (λz=>?_) (US _ e)
  have:b=s.heap.objs.size:=by simpa using z
  exact absurd (this▸U7 e) (Wr _)
noncomputable def Ai:List R->M R
 | [r]=>kK r >>= λxs=>match j_ xs with
  | some ks=>.ok (.d (.bl (ks.any id)))
  | none=>.bad
 | _=>.bad
theorem EI:VR "any"=some (.builtin "any"):=by decide +kernel
theorem Lw {p:Pos}{gs:G (List R)}(ha:iX X c (e::es) gs) (hm:X.mg "any"=none) (hK:X.K=c.K:=by rfl) (hc:X.calm=true:=by rfl) (hg:Gl X "any":=by rfl)
  (he:UZ (e::es) X.env=(false,eval e X.env)::UZ es X.env:=by rfl) (hpl:(Wu pos (UZ es X.env)).any (·.1)=false:=by rfl):QD X c (.Call (.Name "any" p) (e::es) [] pos) (gN Ai gs):=have ha:=ha.h;⟨
 jc (EO hc) (by
  intro He J H xs vs Q hp rs w
  unfold Ai at w
  split at w
  ·obtain ⟨v,rfl,r⟩:=rs.one
   obtain ⟨xs,q,w⟩:=oE w
   obtain ⟨p,vs,rfl,h1,h2⟩:=RR.list hp r q
   split at w
   ·rename_i ks z
    have:=qw z h2
    subst this
    exact ⟨p,ks,rfl,by rw [hK];exact h1,w _ J H (Ext.refl hp.sub) (.bl _)⟩
   ·exact w.elim
  ·exact w.elim) EI hm ha hg (by decide) (by decide) he hpl⟩
end
end DL
namespace ST
open PySem PySem.SetTable
theorem wC (xs:Array Nat) (j:Nat) (hs:xs.toList.Pairwise (· < ·)):∀(f lo hi:Nat),hi<=xs.size->lo<=hi->hi - lo<=f->(∀i,i < lo->xs.getD i 0 < j)->(∀i,hi<=i->i < xs.size->j<=xs.getD i 0)->
  below.go xs j f lo hi<=xs.size/\(∀i,i < below.go xs j f lo hi->xs.getD i 0 < j)/\∀i,below.go xs j f lo hi<=i->i < xs.size->j<=xs.getD i 0
 | 0,lo,hi,h1,h2,h3,h4,h5=>by
  have:lo=hi:=by omega
  subst this
  exact ⟨h1,h4,h5⟩
 | f + 1,lo,hi,h1,h2,h3,h4,h5=>by
  have mono:∀a b,a<=b->b < xs.size->xs.getD a 0<=xs.getD b 0:=λa b hab hb=>by
   rcases ab4 hab with h | h
   ·have:=VP.mp hs a b (by simpa using XS h hb) (by simpa using hb) h
    simp [WN,XS h hb,hb] at this ⊢
    omega
   ·rw [h];exact UX _
  unfold below.go
  by_cases c:lo < hi
  ·rw [if_pos c]
   have hm:(lo + hi) / 2 < xs.size:=by omega
   have e:xs.getD ((lo + hi) / 2) j=xs.getD ((lo + hi) / 2) 0:=by simp [WN,hm]
   by_cases d:xs.getD ((lo + hi) / 2) j < j
   ·simp only [d,if_true]
    rw [e] at d
    exact wC xs j hs f _ hi h1 (by omega) (by omega) (λi hi'=>Y3 (mono i ((lo + hi) / 2) (by omega) hm) d) h5
   ·simp only [d,if_false]
    rw [e] at d
    exact wC xs j hs f lo _ (by omega) (by omega) (by omega) h4 (λi hi' hs'=>Vq (by omega) (mono ((lo + hi) / 2) i hi' hs'))
  ·rw [if_neg c]
   have:lo=hi:=by omega
   subst this
   exact ⟨h1,h4,h5⟩
theorem oN (xs:Array Nat) (j:Nat) (hs:xs.toList.Pairwise (· < ·)):below xs j<=xs.size/\(∀i,i < below xs j->xs.getD i 0 < j)/\∀i,below xs j<=i->i < xs.size->j<=xs.getD i 0:=
 wC xs j hs xs.size 0 xs.size (UX _) (Vl _) (by omega) (λi h=>absurd h (V4 _)) (λi h1 h2=>by omega)
theorem below_at {xs:Array Nat}(hs:xs.toList.Pairwise (· < ·)) (h:xs[i]?=some j):below xs j=i:=by
 obtain ⟨hi,e⟩:=Wh.mp h
 obtain ⟨b1,b2,b3⟩:=oN xs j hs
 have g:xs.getD i 0=j:=by simp [WN,hi,e]
 rcases Yq (below xs j) i with c | c | c
 ·have h1:=b3 (below xs j) (UX _) (by omega)
  have:=VP.mp hs (below xs j) i (by simpa using XS c hi) (by simpa using hi) c
  simp [WN,XS c hi] at h1
  simp at this
  omega
 ·exact c
 ·have:=b2 i c
  omega
theorem yk {t:WK}(hs:t.place.toList.Pairwise (· < ·)) (h:t.place[i]?=some j):t.slot j=.live i:=by
 unfold slot
 rw [below_at hs h]
 show (if (t.place[i]? == some j)=true then Slot.live i else _)=_
 rw [h]
 simp
theorem Ec {t:WK}(hd:t.dummies=#[]) (h:j∉t.place.toList):t.slot j=.empty:=by
 unfold slot
 have h1:(t.place[below t.place j]? == some j)=false:=by
  rw [beq_eq_false_iff_ne]
  intro z
  exact h (by
   obtain ⟨hi,e⟩:=Wh.mp z
   rw [<-e]
   simp)
 have h2:has t.dummies j=false:=by rw [hd];rfl
 simp only [h1,h2,Va,if_false]
noncomputable def st (mask:Nat) (h:Int):Nat->Probe
 | 0=>({mask:=mask,place:=#[],dummies:=#[],finger:=0,led:=true,moves:=0,plain:=true}:WK).probeStart h
 | n + 1=>({mask:=mask,place:=#[],dummies:=#[],finger:=0,led:=true,moves:=0,plain:=true}:WK).advance (st mask h n)
abbrev pos (mask:Nat) (h:Int) (n:Nat):Nat:=(st mask h n).j
theorem uA (mask:Nat) (h:Int):∀n,(st mask h n).dummy=none
 | 0=>rfl
 | n + 1=>by
  unfold st advance
  split
  ·exact uA mask h n
  ·exact uA mask h n
noncomputable def tn (mask:Nat) (h:Int):Nat->Nat×Nat
 | 0=>(bits h % (mask + 1),bits h)
 | k + 1=>leap mask (tn mask h k).1 (tn mask h k).2
theorem ye (mask:Nat) (h:Int):∀(m n:Nat) (i p j:Nat),st mask h n={j:=j,more:=m,i:=i,perturb:=p,dummy:=none}->st mask h (n + m)={j:=j + m,more:=0,i:=i,perturb:=p,dummy:=none}
 | 0,n,i,p,j,e=>e
 | m + 1,n,i,p,j,e=>by
  have e1:st mask h (n + 1)={j:=j + 1,more:=m,i:=i,perturb:=p,dummy:=none}:=by
   show advance _ (st mask h n)=_
   rw [e]
   unfold advance
   simp
  have:=ye mask h m (n + 1) i p (j + 1) e1
  rw [show n + (m + 1)=n + 1 + m by omega,this]
  congr 1;omega
theorem CK (mask:Nat) (h:Int):∀k,∃n,n<=10 * k/\st mask h n={j:=(tn mask h k).1,more:=runEnd mask (tn mask h k).1 - (tn mask h k).1,i:=(tn mask h k).1,perturb:=(tn mask h k).2,dummy:=none}
 | 0=>⟨0,UX _,rfl⟩
 | k + 1=>by
  obtain ⟨n,hn,e⟩:=CK mask h k
  have hm:runEnd mask (tn mask h k).1 - (tn mask h k).1<=9:=by unfold runEnd;split <;> omega
  have:=ye mask h _ n _ _ _ e
  refine ⟨n + (runEnd mask (tn mask h k).1 - (tn mask h k).1) + 1,by omega,?_⟩
  show advance _ (st mask h (n + (runEnd mask (tn mask h k).1 - (tn mask h k).1)))=_
  rw [this]
  unfold advance
  simp
  exact ⟨rfl,rfl,rfl,rfl⟩
theorem vL (mask:Nat) (h:Int):∀k,(tn mask h k).2=bits h / 32 ^ k
 | 0=>by simp [tn]
 | k + 1=>by
  show (tn mask h k).2 / 32=_
  rw [vL mask h k,aaR,acF]
theorem Kh (h:Int):bits h < 2 ^ 64:=by
 unfold bits
 have:=Y6 h (b:=2 ^ 64) (by decide)
 omega
def FL (mask i:Nat):Nat:=(i * 5 + 1) % (mask + 1)
noncomputable def iQ (mask:Nat):Nat->Nat->Nat
 | 0,i=>i
 | r + 1,i=>FL mask (iQ mask r i)
theorem A9 (mask:Nat) (h:Int):∀r,(tn mask h (12 + r)).1=iQ mask r (tn mask h 12).1
 | 0=>rfl
 | r + 1=>by
  show (leap mask (tn mask h (12 + r)).1 (tn mask h (12 + r)).2).1=FL mask (iQ mask r (tn mask h 12).1)
  rw [<-A9 mask h r,vL]
  unfold leap FL
  have:bits h / 32 ^ (12 + r) / 32=0:=by
   rw [aaR,<-acF]
   refine Nat.div_eq_of_lt (Vf (Kh h) ?_)
   refine Vq (show 2 ^ 64<=32 ^ 13 by decide) (W7 (by decide) (by omega))
  rw [this]
theorem Qj:∀i:Fin 8,∀j:Fin 8,(UQ 8).any (λr=>iQ 7 r i.val == j.val)=true:=by decide +kernel
theorem OJ:∀i:Fin 32,∀j:Fin 32,(UQ 32).any (λr=>iQ 31 r i.val == j.val)=true:=by decide +kernel
def MC:List Nat:=(UQ 128).map λr=>iQ 127 r 0
theorem BZ:∀j:Fin 128,MC.contains j.val=true:=by decide +kernel
theorem Ko:iQ 127 128 0=0:=by decide +kernel
theorem pA (mask:Nat):∀a b i,iQ mask (a + b) i=iQ mask a (iQ mask b i)
 | 0,b,i=>by rw [acG];rfl
 | a + 1,b,i=>by
  rw [show a + 1 + b=(a + b) + 1 by omega]
  show FL mask (iQ mask (a + b) i)=FL mask (iQ mask a (iQ mask b i))
  rw [pA mask a b i]
def ql (mask:Nat):Prop:=mask=7\/mask=31\/mask=127
theorem E6 {mask:Nat}(hm:ql mask) (i j:Nat) (hi:i<=mask) (hj:j<=mask):∃r,r<=mask/\iQ mask r i=j:=by
 rcases hm with rfl | rfl | rfl
 ·have:=Qj ⟨i,by omega⟩ ⟨j,by omega⟩
  rw [WI] at this
  obtain ⟨r,h1,h2⟩:=this
  exact ⟨r,by have:=U1.mp h1;omega,by simpa using h2⟩
 ·have:=OJ ⟨i,by omega⟩ ⟨j,by omega⟩
  rw [WI] at this
  obtain ⟨r,h1,h2⟩:=this
  exact ⟨r,by have:=U1.mp h1;omega,by simpa using h2⟩
 ·have hi':=BZ ⟨i,by omega⟩
  have hj':=BZ ⟨j,by omega⟩
  rw [List.contains_iff_mem] at hi' hj'
  obtain ⟨a,ha,ea⟩:=UY.mp hi'
  obtain ⟨b,hb,eb⟩:=UY.mp hj'
  have ha:=U1.mp ha
  have hb:=U1.mp hb
  have ea:iQ 127 a 0=i:=ea
  have eb:iQ 127 b 0=j:=eb
  by_cases c:a<=b
  ·refine ⟨b - a,by omega,?_⟩
   rw [<-ea,<-pA,show b - a + a=b by omega]
   exact eb
  ·refine ⟨128 + b - a,by omega,?_⟩
   rw [<-ea,<-pA,show 128 + b - a + a=b + 128 by omega,pA,Ko]
   exact eb
theorem Ei (mask:Nat) (h:Int) (k:Nat):(tn mask h k).1<=mask:=by
 cases k with
 | zero=>exact Zl (abm _ (by omega))
 | succ k=>exact Zl (abm _ (by omega))
theorem visits {mask:Nat}(hm:ql mask) (h:Int) (j:Nat) (hj:j<=mask):∃n,n<=10 * (mask + 12)/\pos mask h n=j:=by
 obtain ⟨r,hr,e⟩:=E6 hm (tn mask h 12).1 j (Ei mask h 12) hj
 obtain ⟨n,hn,q⟩:=CK mask h (12 + r)
 refine ⟨n,by omega,?_⟩
 show (st mask h n).j=j
 rw [q]
 show (tn mask h (12 + r)).1=j
 rw [A9,e]
theorem DF {mask:Nat}(hm:ql mask) (h:Int) (P:List Nat) (hP:P.length<=mask):∃n,n<=10 * (mask + 12)/\pos mask h n∉P/\∀m,m < n->pos mask h m∈P:=by
 have ex:∃j,j<=mask/\j∉P:=by
  by_cases c:∀j,j<=mask->j∈P
  ·exfalso
   have:(UQ (mask + 1)).length<=P.length:=Vx WJ λj hj=>c j (by have:=U1.mp hj;omega)
   rw [WO] at this
   omega
  ·exact Wo λz=>c λj hj=>Wo λy=>z ⟨j,hj,y⟩
 obtain ⟨j,hj,hn⟩:=ex
 obtain ⟨n,hn1,hn2⟩:=visits hm h j hj
 have key:∀k,k<=n->(∃m,m<=k/\pos mask h m∉P/\∀m',m' < m->pos mask h m'∈P)\/∀m,m<=k->pos mask h m∈P:=by
  intro k
  induction k with
  | zero=>
   intro _
   by_cases c:pos mask h 0∈P
   ·exact .inr λm hm=>by rw [show m=0 by omega];exact c
   ·exact .inl ⟨0,UX _,c,λm' h'=>absurd h' (V4 _)⟩
  | succ k ih=>
   intro hk
   rcases ih (by omega) with ⟨m,h1,h2⟩ | h1
   ·exact .inl ⟨m,by omega,h2⟩
   ·by_cases c:pos mask h (k + 1)∈P
    ·exact .inr λm hm=>by
      by_cases d:m<=k
      ·exact h1 m d
      ·rw [show m=k + 1 by omega];exact c
    ·exact .inl ⟨k + 1,UX _,c,λm' h'=>h1 m' (by omega)⟩
 rcases key n (UX _) with ⟨m,h1,h2,h3⟩ | h1
 ·exact ⟨m,by omega,h2,h3⟩
 ·exact absurd (h1 n (UX _)) (by rw [hn2];exact hn)
def Reach (mask:Nat) (P:List Nat) (h:Int) (j:Nat):Prop:=∃n,pos mask h n=j/\∀m,m < n->pos mask h m∈P
theorem Reach.mono {mask:Nat}{P P':List Nat}{h:Int}{j:Nat}(r:Reach mask P h j) (s:∀x∈P,x∈P'):Reach mask P' h j:=
 let ⟨n,h1,h2⟩:=r;⟨n,h1,λm hm=>s _ (h2 m hm)⟩
structure Tab (t:WK) (es:Array (Int×UN)) (L:List (Nat×Int×UN)):Prop where
 dm:t.dummies=#[]
 pl:t.place.toList=L.map (·.1)
 en:es.toList=L.map (·.2)
 so:(L.map (·.1)).Pairwise (· < ·)
 bd:∀e∈L,e.1<=t.mask
 mo:ql t.mask
 fl:L.length<=t.mask
 pr:∀e∈L,Reach t.mask (L.map (·.1)) e.2.1 e.1
section
variable {t:WK}{es:Array (Int×UN)}{L:List (Nat×Int×UN)}
theorem Tab.at_ (T:Tab t es L){i:Nat}{e:Nat×Int×UN}(h:L[i]?=some e):t.place[i]?=some e.1/\es[i]?=some e.2:=by
 constructor
 ·rw [<-Wa,T.pl,Vh,h];rfl
 ·rw [<-Wa,T.en,Vh,h];rfl
theorem Tab.sop (T:Tab t es L):t.place.toList.Pairwise (· < ·):=by rw [T.pl];exact T.so
theorem AM (T:Tab t es L) (hashAt:Nat->Int) (hA:∀i e,es[i]?=some e->hashAt i=e.1) (h:Int) (n0:Nat) (hf:pos t.mask h n0∉L.map (·.1)) (hb:∀m,m < n0->pos t.mask h m∈L.map (·.1)):
  ∀(d n F:Nat),n0 - n=d->n<=n0->d < F->∃m,n<=m/\m<=n0/\(∀k,n<=k->k < m->∀e∈L,e.1=pos t.mask h k->e.2.1≠h)/\
   ((m=n0/\probe.go t hashAt h F (st t.mask h n)=some (.empty (pos t.mask h n0) none))\/(m < n0/\∃i e,L[i]?=some e/\e.1=pos t.mask h m/\e.2.1=h/\probe.go t hashAt h F (st t.mask h n)=some (.candidate (pos t.mask h m) i (st t.mask h (m + 1)))))
 | d,n,0,_,_,h=>absurd h (V4 _)
 | d,n,F + 1,hd,hn,hF=>by
  by_cases c:n=n0
  ·subst c
   refine ⟨n,UX _,UX _,λk h1 h2=>by omega,.inl ⟨rfl,?_⟩⟩
   unfold probe.go
   rw [Ec T.dm (by rw [T.pl];exact hf)]
   show some (Met.empty _ (st t.mask h n).dummy)=_
   rw [uA]
  ·obtain ⟨e,he,ej⟩:=UY.mp (hb n (by omega))
   obtain ⟨i,hi,rfl⟩:=VT.mp he
   have hL:L[i]?=some L[i]:=U5 hi
   obtain ⟨p1,p2⟩:=T.at_ hL
   have hs:t.slot (pos t.mask h n)=.live i:=yk T.sop (by rw [p1,ej])
   have hh:=hA i _ p2
   have uniq:∀e∈L,e.1=pos t.mask h n->e=L[i]:=λe he q=>by
    obtain ⟨k,hk,rfl⟩:=VT.mp he
    have:k=i:=by
     have sw:=VP.mp T.so
     rcases Yq k i with c | c | c
     ·have:=sw k i (by simpa using hk) (by simpa using hi) c
      simp at this
      omega
     ·exact c
     ·have:=sw i k (by simpa using hi) (by simpa using hk) c
      simp at this
      omega
    subst this;rfl
   by_cases q:L[i].2.1=h
   ·refine ⟨n,UX _,by omega,λk h1 h2=>by omega,.inr ⟨by omega,i,L[i],hL,ej,q,?_⟩⟩
    unfold probe.go
    rw [hs]
    show (if (hashAt i == h)=true then _ else _)=_
    rw [hh,q,if_pos (by simp)]
    rfl
   ·obtain ⟨m,m1,m2,m3,m4⟩:=AM T hashAt hA h n0 hf hb (n0 - (n + 1)) (n + 1) F rfl (by omega) (by omega)
    have eg:probe.go t hashAt h (F + 1) (st t.mask h n)=probe.go t hashAt h F (st t.mask h (n + 1)):=by
     rw [probe.go,hs]
     show (if (hashAt i == h)=true then _ else _)=_
     rw [hh,if_neg (by simpa using q)]
     rfl
    rw [eg]
    refine ⟨m,by omega,m2,λk h1 h2 e he' ek=>?_,m4⟩
    by_cases z:k=n
    ·subst z
     rw [uniq e he' ek];exact q
    ·exact m3 k (by omega) h2 e he' ek
theorem pZ {α:Type}(xs:Array α) (p:Nat) (x:α) (hp:p<=xs.size):(insertAt xs p x).toList=xs.toList.take p++x::xs.toList.drop p:=by
 unfold insertAt
 simp
 (exact List.take_of_length_le (by simp))
theorem Tab.put (T:Tab t es L) (h:Int) (x:UN) (n0:Nat) (hf:pos t.mask h n0∉L.map (·.1)) (hb:∀m,m < n0->pos t.mask h m∈L.map (·.1)) (hj:pos t.mask h n0<=t.mask) (hl:L.length + 1<=t.mask):
  ∃L',Tab (t.put (pos t.mask h n0)).1 (insertAt es (t.put (pos t.mask h n0)).2 (h,x)) L'/\L'.Perm ((pos t.mask h n0,h,x)::L):=by
 obtain ⟨b1,b2,b3⟩:=oN t.place (pos t.mask h n0) T.sop
 generalize hp:below t.place (pos t.mask h n0)=p at b1 b2 b3
 have hsz:t.place.size=L.length:=by rw [<-Vb,T.pl,UR]
 have hes:es.size=L.length:=by rw [<-Vb,T.en,UR]
 have perm:(L.take p++(pos t.mask h n0,h,x)::L.drop p).Perm ((pos t.mask h n0,h,x)::L):=by
  have:=acP (a:=(pos t.mask h n0,h,x)) (l₁:=L.take p) (l₂:=L.drop p)
  rwa [aa9] at this
 have e1:(t.put (pos t.mask h n0))=({t with place:=insertAt t.place p (pos t.mask h n0),dummies:=#[]},p):=by
  unfold SetTable.put
  rw [hp,T.dm]
  rfl
 rw [e1]
 have getP:∀i (hi:i < L.length),t.place.getD i 0=L[i].1:=λi hi=>by
  have:=(T.at_ (U5 hi)).1
  have hi':i < t.place.size:=by omega
  simp [WN,hi']
  rw [Xy hi'] at this
  exact V2 this
 refine ⟨L.take p++(pos t.mask h n0,h,x)::L.drop p,⟨rfl,?_,?_,?_,λe he=>?_,T.mo,?_,λe he=>?_⟩,perm⟩
 ·show (insertAt t.place p (pos t.mask h n0)).toList=_
  rw [pZ _ _ _ b1,T.pl]
  simp [ZF,aaC]
 ·show (insertAt es p (h,x)).toList=_
  rw [pZ _ _ _ (by omega),T.en]
  simp [ZF,aaC]
 ·rw [Ve,U_,Wi]
  refine ⟨?_,?_,?_⟩
  ·rw [ZF]
   exact T.so.sublist (Zf _ _)
  ·rw [Xp]
   refine ⟨λa ha=>?_,?_⟩
   ·obtain ⟨e,he,rfl⟩:=UY.mp ha
    obtain ⟨i,hi,rfl⟩:=VT.mp he
    rw [acr]
    rw [W4] at hi
    have:=b3 (p + i) (by omega) (by omega)
    rw [getP _ (by omega)] at this
    rcases ab4 this with c | c
    ·exact c
    ·exact absurd (UY.mpr ⟨L[p + i],Vt _,c.symm⟩) hf
   ·rw [aaC]
    exact T.so.sublist (List.drop_sublist _ _)
  ·intro a ha b hb
   obtain ⟨e,he,rfl⟩:=UY.mp ha
   obtain ⟨i,hi,rfl⟩:=VT.mp he
   rw [List.getElem_take]
   rw [Wc] at hi
   have h1:=b2 i (by omega)
   rw [getP _ (by omega)] at h1
   (rcases U8.mp hb with rfl | hb)
   ·exact h1
   ·obtain ⟨e,he,rfl⟩:=UY.mp hb
    obtain ⟨k,hk,rfl⟩:=VT.mp he
    rw [acr]
    rw [W4] at hk
    have:=b3 (p + k) (by omega) (by omega)
    rw [getP _ (by omega)] at this
    omega
 ·rcases U8.mp (perm.mem_iff.mp he) with rfl | he
  ·exact hj
  ·exact T.bd e he
 ·rw [perm.length_eq];exact hl
 ·have sub:∀y∈L.map (·.1),y∈(L.take p++(pos t.mask h n0,h,x)::L.drop p).map (·.1):=λy hy=>by
   obtain ⟨e,he,rfl⟩:=UY.mp hy
   exact UY.mpr ⟨e,perm.mem_iff.mpr (UU _ he),rfl⟩
  rcases U8.mp (perm.mem_iff.mp he) with rfl | he
  ·exact ⟨n0,rfl,λm hm=>sub _ (hb m hm)⟩
  ·exact (T.pr e he).mono sub
end
theorem oq (mask:Nat) (h:Int) (n i p m:Nat) (e:st mask h n={j:=i,more:=m,i:=i,perturb:=p,dummy:=none}):∀r,r<=m->st mask h (n + r)={j:=i + r,more:=m - r,i:=i,perturb:=p,dummy:=none}
 | 0,_=>e
 | r + 1,hr=>by
  show advance _ (st mask h (n + r))=_
  rw [oq mask h n i p m e r (by omega)]
  unfold advance
  rw [if_pos (by show m - r > 0;omega)]
  show Probe.mk _ _ _ _ _=_
  congr 1
theorem GI (mask:Nat) (h:Int) (k n:Nat) (e:st mask h n={j:=(tn mask h k).1,more:=runEnd mask (tn mask h k).1 - (tn mask h k).1,i:=(tn mask h k).1,perturb:=(tn mask h k).2,dummy:=none}):
  st mask h (n + (runEnd mask (tn mask h k).1 - (tn mask h k).1) + 1)={j:=(tn mask h (k + 1)).1,more:=runEnd mask (tn mask h (k + 1)).1 - (tn mask h (k + 1)).1,i:=(tn mask h (k + 1)).1,perturb:=(tn mask h (k + 1)).2,dummy:=none}:=by
 show advance _ (st mask h (n + (runEnd mask (tn mask h k).1 - (tn mask h k).1)))=_
 rw [oq mask h n _ _ _ e _ (UX _)]
 unfold advance
 simp
 exact ⟨rfl,rfl,rfl,rfl⟩
theorem xC (mask:Nat) (h:Int) (owner:Array (Option Nat)) (G:List Nat) (ho:∀j,j<=mask->((owner.getD j (some 0)).isNone=true↔j∉G)):
  ∀(f k n:Nat),st mask h n={j:=(tn mask h k).1,more:=runEnd mask (tn mask h k).1 - (tn mask h k).1,i:=(tn mask h k).1,perturb:=(tn mask h k).2,dummy:=none}->(∀m,m < n->pos mask h m∈G)->
   (∃n',layClean.free mask owner f (tn mask h k).1 (tn mask h k).2=some (pos mask h n')/\pos mask h n'<=mask/\pos mask h n'∉G/\∀m,m < n'->pos mask h m∈G)\/(layClean.free mask owner f (tn mask h k).1 (tn mask h k).2=none/\∀r,r < f->(tn mask h (k + r)).1∈G)
 | 0,k,n,e,hb=>.inr ⟨rfl,λr hr=>absurd hr (V4 _)⟩
 | f + 1,k,n,e,hb=>by
  have hi:=Ei mask h k
  have re:runEnd mask (tn mask h k).1<=mask/\(tn mask h k).1<=runEnd mask (tn mask h k).1:=by unfold runEnd;split <;> omega
  unfold layClean.free
  cases q:(UQ (runEnd mask (tn mask h k).1 + 1 - (tn mask h k).1)).find? λr=>(owner.getD ((tn mask h k).1 + r) (some 0)).isNone with
  | some r=>
   have h1:=List.find?_some q
   have h2:=U1.mp (List.mem_of_find?_eq_some q)
   have h3:pos mask h (n + r)=(tn mask h k).1 + r:=by
    show (st mask h (n + r)).j=_
    rw [oq mask h n _ _ _ e r (by omega)]
   refine .inl ⟨n + r,?_,?_,?_,?_⟩
   ·show some _=_
    rw [h3]
   ·rw [h3];omega
   ·rw [h3];exact (ho _ (by omega)).mp h1
   ·intro m hm
    by_cases c:m < n
    ·exact hb m c
    ·obtain ⟨s,rfl⟩:∃s,m=n + s:=⟨m - n,by omega⟩
     have h4:pos mask h (n + s)=(tn mask h k).1 + s:=by
      show (st mask h (n + s)).j=_
      rw [oq mask h n _ _ _ e s (by omega)]
     rw [h4]
     refine Wo λz=>?_
     have z':=(ho ((tn mask h k).1 + s) (by omega)).mpr z
     rw [List.find?_eq_some_iff_append] at q
     obtain ⟨_,as,bs,eq,hall⟩:=q
     have hs:s∈as:=by
      have hlen:as.length=r:=by
       have hl:as.length < (UQ (runEnd mask (tn mask h k).1 + 1 - (tn mask h k).1)).length:=by rw [eq];simp
       have e3:(UQ (runEnd mask (tn mask h k).1 + 1 - (tn mask h k).1))[as.length]?=some r:=by rw [eq];simp
       rw [WO] at hl
       rw [XZ hl] at e3
       exact V2 e3
      have e4:(UQ (runEnd mask (tn mask h k).1 + 1 - (tn mask h k).1))[s]?=some s:=XZ (by omega)
      rw [eq,WR (by omega)] at e4
      exact VS e4
     have:=hall s hs
     rw [z'] at this
     exact absurd this (by decide)
  | none=>
   have hall:=Y7.mp q
   have occ:∀s,s<=runEnd mask (tn mask h k).1 - (tn mask h k).1->(tn mask h k).1 + s∈G:=λs hs=>Wo λz=>by
    have z':=(ho ((tn mask h k).1 + s) (by omega)).mpr z
    exact hall s (U1.mpr (by omega)) z'
   have nb:∀m,m < n + (runEnd mask (tn mask h k).1 - (tn mask h k).1) + 1->pos mask h m∈G:=λm hm=>by
    by_cases c:m < n
    ·exact hb m c
    ·obtain ⟨s,rfl⟩:∃s,m=n + s:=⟨m - n,by omega⟩
     have h4:pos mask h (n + s)=(tn mask h k).1 + s:=by
      show (st mask h (n + s)).j=_
      rw [oq mask h n _ _ _ e s (by omega)]
     rw [h4]
     exact occ s (by omega)
   rcases xC mask h owner G ho f (k + 1) _ (GI mask h k n e) nb with ⟨n',g1,g2',g3⟩ | ⟨g1,g2'⟩
   ·exact .inl ⟨n',g1,g2',g3⟩
   ·refine .inr ⟨g1,λr hr=>?_⟩
    cases r with
    | zero=>have:=occ 0 (Vl _);exact this
    | succ r=>have:=g2' r (by omega);rwa [show k + (r + 1)=k + 1 + r by omega]
theorem KG {mask:Nat}(hm:ql mask) (h:Int) (owner:Array (Option Nat)) (G:List Nat) (hG:G.length<=mask) (ho:∀j,j<=mask->((owner.getD j (some 0)).isNone=true↔j∉G)):
  ∃n',layClean.free mask owner (turns mask) (bits h % (mask + 1)) (bits h)=some (pos mask h n')/\pos mask h n'<=mask/\pos mask h n'∉G/\∀m,m < n'->pos mask h m∈G:=by
 rcases xC mask h owner G ho (turns mask) 0 0 rfl (λm hm=>absurd hm (V4 _)) with a | ⟨_,b⟩
 ·exact a
 ·exfalso
  have all:∀j,j<=mask->j∈G:=λj hj=>by
   obtain ⟨r,hr,e⟩:=E6 hm (tn mask h 12).1 j (Ei mask h 12) hj
   have:=b (12 + r) (by unfold turns;omega)
   rw [acG,A9,e] at this
   exact this
  have:(UQ (mask + 1)).length<=G.length:=Vx WJ λj hj=>all j (by have:=U1.mp hj;omega)
  rw [WO] at this
  omega
structure Own (mask:Nat) (owner:Array (Option Nat)) (G:List Nat) (hs:List Int):Prop where
 sz:owner.size=mask + 1
 ln:G.length=hs.length
 nd:G.Nodup
 bd:∀j∈G,j<=mask
 at_:∀j,j<=mask->owner.getD j none=if j∈G then some (G.idxOf j) else none
 pr:∀k (h1:k < G.length) (h2:k < hs.length),Reach mask G hs[k] G[k]
theorem Own.occ {mask:Nat}{owner:Array (Option Nat)}{G:List Nat}{hs:List Int}(O:Own mask owner G hs):∀j,j<=mask->((owner.getD j (some 0)).isNone=true↔j∉G):=λj hj=>by
 have e:owner.getD j (some 0)=owner.getD j none:=by
  have:j < owner.size:=by rw [O.sz];omega
  simp [WN,this]
 rw [e,O.at_ j hj]
 split <;> simp_all
theorem Own.step {mask:Nat}{owner:Array (Option Nat)}{G:List Nat}{hs:List Int}(O:Own mask owner G hs) (hm:ql mask) (hl:hs.length<=mask) (h:Int):
  ∃j,layClean.free mask owner (turns mask) (bits h % (mask + 1)) (bits h)=some j/\Own mask (owner.setIfInBounds j (some hs.length)) (G++[j]) (hs++[h]):=by
 obtain ⟨n',e,b,f,r⟩:=KG hm h owner G (by rw [O.ln];exact hl) O.occ
 refine ⟨_,e,⟨by rw [Array.size_setIfInBounds,O.sz],by simp [O.ln],?_,λj hj=>?_,λj hj=>?_,λk h1 h2=>?_⟩⟩
 ·rw [XM]
  refine ⟨O.nd,by simp,λa ha b hb=>?_⟩
  rw [U4] at hb
  subst hb
  intro z;subst z;exact f ha
 ·rcases Vj.mp hj with h1 | h1
  ·exact O.bd j h1
  ·rw [U4.mp h1];exact b
 ·have hsz:j < owner.size:=by rw [O.sz];omega
  by_cases c:j=pos mask h n'
  ·subst c
   rw [if_pos (by simp)]
   simp [WN,hsz]
   rw [acs,if_neg f]
   simp [O.ln]
  ·have e1:(owner.setIfInBounds (pos mask h n') (some hs.length)).getD j none=owner.getD j none:=by
    simp [WN,hsz]
    rw [Array.getElem_setIfInBounds_ne]
    exact λz=>c z.symm
   rw [e1,O.at_ j hj]
   by_cases d:j∈G
   ·rw [if_pos d,if_pos (Xz _ d),acs,if_pos d]
   ·rw [if_neg d,if_neg (by simp [d,c])]
 ·have sub:∀x∈G,x∈G++[pos mask h n']:=λx hx=>Xz _ hx
  by_cases c:k < G.length
  ·have:=(O.pr k c (by rw [<-O.ln];exact c)).mono sub
   rw [aak c,aak (by rw [<-O.ln];exact c)]
   exact this
  ·have hk:k=G.length:=by simp at h1;omega
   subst hk
   have e1:(G++[pos mask h n'])[G.length]=pos mask h n':=by simp
   have e2:(hs++[h])[G.length]=h:=by simp [O.ln]
   rw [e1,e2]
   exact ⟨n',rfl,λm hm=>sub _ (r m hm)⟩
theorem AD {mask:Nat}(hm:ql mask):∀(rest hs:List Int) (owner:Array (Option Nat)) (G:List Nat),Own mask owner G hs->(hs++rest).length<=mask->∃owner' G',rest.foldl (λacc h=>do
  let (owner,k) <-acc
  let j <-layClean.free mask owner (turns mask) (bits h % (mask + 1)) (bits h)
  pure (owner.setIfInBounds j (some k),k + 1)) (some (owner,hs.length))=some (owner',(hs++rest).length)/\Own mask owner' G' (hs++rest)
 | [],hs,owner,G,O,_=>⟨owner,G,by simp,by simpa using O⟩
 | h::rest,hs,owner,G,O,hl=>by
  obtain ⟨j,e,O'⟩:=O.step hm (by simp at hl;omega) h
  obtain ⟨owner',G',e2,O2⟩:=AD hm rest (hs++[h]) _ _ O' (by simpa using hl)
  refine ⟨owner',G',?_,by simpa using O2⟩
  rw [aa4]
  have e3:(do
   let (owner,k) <-some (owner,hs.length)
   let j <-layClean.free mask owner (turns mask) (bits h % (mask + 1)) (bits h)
   pure (owner.setIfInBounds j (some k),k + 1):Option (Array (Option Nat)×Nat))=some (owner.setIfInBounds j (some hs.length),(hs++[h]).length):=by
   show Option.bind (layClean.free mask owner (turns mask) (bits h % (mask + 1)) (bits h)) _=_
   rw [e]
   simp
  rw [e3]
  simpa using e2
theorem K8 (mask:Nat):Own mask (Array.replicate (mask + 1) none) [] []:=
 ⟨by simp,rfl,Xw,λj h=>absurd h (by simp),λj hj=>by simp [WN],λk h1=>absurd h1 (by simp)⟩
theorem Nc {mask:Nat}(hm:ql mask) (hs:Array Int) (hl:hs.size<=mask):∃owner G,layClean mask hs=some owner/\Own mask owner G hs.toList:=by
 obtain ⟨owner,G,e,O⟩:=AD hm hs.toList [] _ [] (K8 mask) (by simpa using hl)
 refine ⟨owner,G,?_,by simpa using O⟩
 unfold layClean
 rw [<-Array.foldl_toList]
 have e':=congrArg (Option.map (·.1)) e
 exact e'
theorem KW {t:WK}{es:Array (Int×UN)}{mask:Nat}(hm:ql mask) (finger moves:Nat) (led plain:Bool) (hl:es.size<=mask):
  ∃t' UK L',laid mask finger moves led plain (es.map (·.1))=some (t',UK)/\t'.mask=mask/\t'.led=led/\t'.plain=plain/\Tab t' (UK.filterMap (es[·]?)) L'/\(UK.filterMap (es[·]?)).toList.Perm es.toList:=by
 obtain ⟨owner,G,e,O⟩:=Nc hm (es.map (·.1)) (by simpa using hl)
 have hlen:G.length=es.size:=by rw [O.ln];simp
 (let live:=(UQ (mask + 1)).filterMap λj=>(owner.getD j none).map (j,·))
 have lv:∀p,p∈live↔p.1∈G/\p.2=G.idxOf p.1:=λp=>by
  show p∈(UQ (mask + 1)).filterMap _↔_
  rw [Z3]
  constructor
  ·rintro ⟨j,hj,q⟩
   have hj':j<=mask:=by have:=U1.mp hj;omega
   rw [O.at_ j hj'] at q
   by_cases c:j∈G
   ·rw [if_pos c] at q
    have q:(j,G.idxOf j)=p:=by simpa using q
    subst q
    exact ⟨c,rfl⟩
   ·rw [if_neg c] at q;exact absurd q (by simp)
  ·rintro ⟨h1,h2⟩
   refine ⟨p.1,U1.mpr (by have:=O.bd _ h1;omega),?_⟩
   rw [O.at_ _ (O.bd _ h1),if_pos h1]
   show some (p.1,G.idxOf p.1)=some p
   rw [<-h2]
 have so1:live.Pairwise λa b=>a.1 < b.1:=by
  show ((UQ (mask + 1)).filterMap _).Pairwise _
  rw [List.pairwise_filterMap]
  refine aaS.imp ?_
  intro a b hab x hx y hy
  cases q1:owner.getD a none with
  | none=>rw [q1] at hx;exact absurd hx (by simp)
  | some k1=>cases q2:owner.getD b none with
   | none=>rw [q2] at hy;exact absurd hy (by simp)
   | some k2=>
    rw [q1] at hx;rw [q2] at hy
    have hx:(a,k1)=x:=by simpa using hx
    have hy:(b,k2)=y:=by simpa using hy
    subst hx;subst hy;exact hab
 have ord:(live.map (·.2)).Perm (UQ es.size):=by
  rw [Z0 _ WJ]
  ·intro k
   rw [UY,U1]
   constructor
   ·rintro ⟨p,hp,rfl⟩
    obtain ⟨h1,h2⟩:=(lv p).mp hp
    rw [h2,<-hlen]
    exact VY h1
   ·intro hk
    rw [<-hlen] at hk
    exact ⟨(G[k],k),(lv _).mpr ⟨Vt _,(O.nd.idxOf_getElem k hk).symm⟩,rfl⟩
  ·show (live.map (·.2)).Pairwise _
   rw [VO]
   refine (Yj.mp so1).imp ?_
   rintro a b ⟨ha,hb,hab⟩ z
   obtain ⟨a1,a2⟩:=(lv a).mp ha
   obtain ⟨b1,b2⟩:=(lv b).mp hb
   rw [a2,b2] at z
   have ga:=Xr (VY a1)
   have gb:=Xr (VY b1)
   have:a.1=b.1:=by
    rw [<-ga,<-gb]
    congr 1
   omega
 have inR:∀p∈live,∃h:p.2 < es.size,True:=λp hp=>by
  have:p.2∈live.map (·.2):=UY.mpr ⟨p,hp,rfl⟩
  exact ⟨U1.mp (ord.mem_iff.mp this),trivial⟩
 let L':=live.map λp=>(p.1,es.getD p.2 default)
 have eL:(live.map (·.2)).toArray.filterMap (es[·]?)=(L'.map (·.2)).toArray:=by
  rw [List.filterMap_toArray]
  congr 1
  show adE _ (live.map _)=(live.map _).map _
  rw [Z5,Vr]
  have:∀(l:List (Nat×Nat)),(∀p∈l,p∈live)->adE ((λx=>es[x]?) ∘ λx=>x.snd) l=ae3 ((λx=>x.snd) ∘ λp=>(p.fst,es.getD p.snd default)) l:=by
   intro l
   induction l with
   | nil=>intro _;rfl
   | cons p l ih=>
    intro hl
    obtain ⟨hp,_⟩:=inR p (hl p (by simp))
    rw [List.filterMap_cons_some (b:=es.getD p.2 default)]
    ·rw [U_,ih λq hq=>hl q (by simp [hq])]
     rfl
    ·show es[p.2]?=_
     simp [WN,hp]
  exact this live λp hp=>hp
 have eP:L'.map (·.1)=live.map (·.1):=by
  show (live.map _).map _=_
  rw [Vr];rfl
 have memP:∀j,j∈live.map (·.1)↔j∈G:=λj=>by
  rw [UY]
  constructor
  ·rintro ⟨p,hp,rfl⟩;exact ((lv p).mp hp).1
  ·intro h;exact ⟨(j,G.idxOf j),(lv _).mpr ⟨h,rfl⟩,rfl⟩
 have lenL:L'.length=es.size:=by
  have:=ord.length_eq
  rw [UR,WO] at this
  show (live.map _).length=_
  rw [UR,this]
 refine ⟨{mask,place:=(live.map (·.1)).toArray,dummies:=#[],finger,led,moves,plain},(live.map (·.2)).toArray,L',?_,rfl,rfl,rfl,⟨rfl,?_,?_,?_,λx hx=>?_,hm,?_,λx hx=>?_⟩,?_⟩
 ·unfold laid
  rw [e]
  rfl
 ·show (live.map (·.1)).toArray.toList=_
  rw [eP]
 ·rw [eL]
 ·rw [eP,VO];exact so1
 ·obtain ⟨p,hp,rfl⟩:=UY.mp hx
  exact O.bd _ ((lv p).mp hp).1
 ·show L'.length<=mask
  rw [lenL];exact hl
 ·obtain ⟨p,hp,rfl⟩:=UY.mp hx
  obtain ⟨h1,h2⟩:=(lv p).mp hp
  obtain ⟨hs,_⟩:=inR p hp
  have r:=O.pr p.2 (by omega) (by simpa using hs)
  have e1:G[p.2]'(by omega)=p.1:=by
   have:=Xr (VY h1)
   rw [<-this]
   congr 1
  have e2:((es.map (·.1)).toList[p.2]'(by simpa using hs))=(es.getD p.2 default).1:=by
   simp [WN,hs]
  rw [e1,e2] at r
  show Reach mask (L'.map (·.1)) (es.getD p.2 default).1 p.1
  refine r.mono λy hy=>?_
  rw [eP]
  exact (memP y).mpr hy
 ·rw [eL]
  show (L'.map (·.2)).Perm es.toList
  have e1:(live.map (·.2)).map (λk=>es.getD k default)=L'.map (·.2):=by
   show _=(live.map _).map _
   rw [Vr,Vr];rfl
  rw [<-e1]
  refine (ord.map _).trans ?_
  have:(UQ es.size).map (λk=>es.getD k default)=es.toList:=by
   refine W5 (by simp) λi h1 h2=>?_
   simp at h1
   simp [WN,h1]
  rw [this]
theorem Gn {t:WK}{es:Array (Int×UN)}(hm:ql (sizeAbove w - 1)) (hl:es.size<=sizeAbove w - 1):
  ∃t' UK L',t.relaid (es.map (·.1)) w=some (t',UK)/\t'.mask=sizeAbove w - 1/\t'.led=t.led/\t'.plain=t.plain/\Tab t' (UK.filterMap (es[·]?)) L'/\(UK.filterMap (es[·]?)).toList.Perm es.toList:=
 KW (t:=t) hm t.finger (t.movedTo (sizeAbove w - 1)) t.led t.plain hl
end ST
namespace DL
open PySem PySem.Spec PyProof.Rows L2
mutual
noncomputable def kO:D->Nat
 | .int _=>1
 | .tup xs=>fM xs + 1
 | _=>0
noncomputable def fM:List D->Nat
 | []=>0
 | x::xs=>kO x + fM xs
end
theorem sR:∀{ds:List D},areKeys ds=true->∀d∈ds,isKey d=true
 | [],_,_,h=>nomatch h
 | x::xs,h,d,hm=>by
  unfold areKeys at h
  rw [UT] at h
  (rcases U8.mp hm with rfl | hm)
  ·exact h.1
  ·exact sR h.2 d hm
mutual
theorem Az:∀{d e:D},isKey d=true->isKey e=true->bu d e=true->d=e
 | .int i,.int j,_,_,h=>by simp [bu] at h;rw [h]
 | .tup xs,.tup ys,hd,he,h=>by
  unfold isKey at hd he
  simp only [bu] at h
  rw [keys_eq hd he h]
 | .int _,.tup _,_,_,h=>by simp [bu] at h
 | .tup _,.int _,_,_,h=>by simp [bu] at h
theorem keys_eq:∀{ds es:List D},areKeys ds=true->areKeys es=true->cH ds es=true->ds=es
 | [],[],_,_,_=>rfl
 | x::xs,y::ys,hd,he,h=>by
  unfold areKeys at hd he
  rw [UT] at hd he
  simp only [cH,UT] at h
  rw [Az hd.1 he.1 h.1,keys_eq hd.2 he.2 h.2]
 | [],_::_,_,_,h=>by simp [cH] at h
 | _::_,[],_,_,h=>by simp [cH] at h
end
theorem wG (hd:isKey d=true) (he:isKey e=true):bu d e=true↔d=e:=⟨Az hd he,λh=>by rw [h];exact ic _⟩
section
variable {prog:U6}{w:Vs}{E:UN->UP->Prop}{K:UM}{J:Hp}
noncomputable def Er (prog:U6) (w:Vs) (A:Vz) (K:UM) (J:Hp) (d:D) (u:UN):Prop:=
 ∀(E:UN->UP->Prop) (s:UP) (Q:Int->UP->Prop),HF K J s->Q (bY d) {s with toks:=s.toks + kO d}->U9 (Vg prog w) A (pyHash u) Q E s
inductive kY (prog:U6) (w:Vs) (A:Vz) (K:UM) (J:Hp):List D->List UN->Prop
 | nil:kY prog w A K J [] []
 | cons {d:D}{u:UN}{ds:List D}{us:List UN}:Er prog w A K J d u->kY prog w A K J ds us->kY prog w A K J (d::ds) (u::us)
theorem vj:∀(a b:List D),cJ (a++b)=cJ a++cJ b
 | [],b=>rfl
 | x::a,b=>by show bY x::cJ (a++b)=_;rw [vj a b];rfl
theorem uW:∀(a b:List D),fM (a++b)=fM a + fM b
 | [],b=>by show fM b=0 + _;omega
 | x::a,b=>by show kO x + fM (a++b)=kO x + fM a + fM b;rw [uW a b];omega
theorem Hh {A:Vz}{s:UP}{o:Obj}{UC:List UN}{Q:Int->UP->Prop}(N:HF K J s) (ho:s.heap.get? a=some o) (hc:o.cls=.type "tuple") (hd:o.data=.seq UC.toArray n) (hu:A.units < Wj)
 (hl:kY prog w A.in1 K J ds UC) (h:Q (adQ (V8 (cJ ds))) {s with toks:=s.toks + (fM ds + 1)}):U9 (Vg prog w) A (pyHash (.ref a)) Q E s:=by
 have hT:s.TypeIs (.ref a) "tuple":=⟨o,ho,hc⟩
 unfold pyHash
 (first | unfold pyHashByItsType | skip)
 (first | refine UL (wpAny_cRoomFor_or (.inr hu) ?_) | skip)
 (refine UL (Y8 hT Yr.lookup ?_))
 (show U9 _ _ (if (some (aax "tuple.__hash__") == some VM)=true then _ else _) Q E s)
 (rw [if_neg (by rw [beq_builtin_none];exact Vp)])
 (refine UL (Y8 hT Yr.lookup ?_))
 (show U9 _ _ (callSpecialIfBoundUnlessNone? (.ref a) "__hash__" _ >>= _) Q E s)
 (refine UL (wpAny_callSpecialIfBoundUnlessNone?_slot hT Yr (VA Yr hT F.entry_tuple_hash ?_ (F.args_tuple_hash_1 _))))
 (show U9 _ _ (Ys (.ref a) >>= _) _ _ s)
 (refine UL (wpAny_tupleItemsOf ho hd ?_))
 refine UL ?_
 rw [<-Y9]
 refine Xl _
  (λrest (b:Array Int) s'=>∃done left,ds=done++left/\kY prog w A.in1 K J left rest/\b.toList=cJ done/\s'={s with toks:=s.toks + fM done})
  _ ?_ ?_ _ _ ⟨[],ds,rfl,hl,rfl,rfl⟩
 ·(rintro x rest b s' ⟨done,left,rfl,hl,hb,rfl⟩)
  cases hl with
  | @cons k _ ks' _ h1 hl'=>
   refine UL (h1 _ _ _ ⟨N.t,N.l,N.e,N.d⟩ ?_)
   have e1:(b.push (bY k)).toList=cJ (done++[k]):=by rw [acu,vj,hb];rfl
   have e2:s.toks + fM done + kO k=s.toks + fM (done++[k]):=by rw [uW];show _=s.toks + (fM done + (kO k + 0));omega
   first
    | exact UO ⟨done++[k],ks',by simp,hl',e1,by rw [e2]⟩
    | exact UL (UO (UO ⟨done++[k],ks',by simp,hl',e1,by rw [e2]⟩))
 ·(rintro b s' ⟨done,left,rfl,hl,hb,rfl⟩)
  cases hl
  rw [WV] at h
  (show U9 _ _ (retInt (V8 b.toList)) _ _ _)
  rw [hb]
  refine wpAny_ret_mkInt ?_
  show U9 _ _ (if (decide (-(2:Int) ^ 63<=V8 (cJ done)) && decide (V8 (cJ done) < 2 ^ 63))=true then _ else _) Q E _
  unfold adQ at h
  by_cases hr:(decide (-(2:Int) ^ 63<=V8 (cJ done)) && decide (V8 (cJ done) < 2 ^ 63))=true
  ·rw [if_pos hr]
   rw [if_pos hr] at h
   (exact UO (by simpa [aed] using h))
  ·rw [if_neg hr]
   rw [if_neg hr] at h
   (exact UL (ZH (UO (by simpa [aed] using h))))
mutual
theorem wV:∀(d:D) (v:V) (u:UN) (A:Vz) (s:UP),HF K J s->isKey d=true->Rep K J d v->RelV v u->A.units + dep d < Wj->Er prog w A K J d u
 | .int i,v,u,A,s,N,hk,hr,rv,hu=>λE s' Q N' h=>by
  cases hr
  obtain ⟨t,rfl⟩:=rv
  exact acI h
 | .tup ds,v,u,A,s,N,hk,hr,rv,hu=>λE s' Q N' h=>by
  cases hr with
  | tup h1 hs=>
   cases rv
   obtain ⟨UC,r,o,ho,hc,n,hd⟩:=N'.t _ _ h1
   exact Hh N' ho hc hd (by unfold dep at hu;omega) (Be ds _ _ A.in1 s N hk hs r (by rw [in1_units];unfold dep at hu;omega)) h
 | .non,v,u,A,s,N,hk,hr,rv,hu=>nomatch hk
 | .bl _,v,u,A,s,N,hk,hr,rv,hu=>nomatch hk
 | .str _,v,u,A,s,N,hk,hr,rv,hu=>nomatch hk
 | .lst _,v,u,A,s,N,hk,hr,rv,hu=>nomatch hk
 | .emp,v,u,A,s,N,hk,hr,rv,hu=>nomatch hk
 | .exn _ _ _,v,u,A,s,N,hk,hr,rv,hu=>nomatch hk
 | .dct _ _,v,u,A,s,N,hk,hr,rv,hu=>nomatch hk
theorem Be:∀(ds:List D) (vs:List V) (us:List UN) (A:Vz) (s:UP),HF K J s->areKeys ds=true->aL K J ds vs->Vals vs us->A.units + deps ds < Wj->kY prog w A K J ds us
 | [],vs,us,A,s,N,hk,hr,rv,hu=>by
  cases hr;cases rv;exact .nil
 | d::ds,vs,us,A,s,N,hk,hr,rv,hu=>by
  unfold areKeys at hk
  rw [UT] at hk
  unfold deps at hu
  cases hr with
  | cons a b=>
   cases rv with
   | cons c e=>exact .cons (wV d _ _ A s N hk.1 a c (by omega)) (Be ds _ _ A s N hk.2 b e (by omega))
end
end
def i9 (K:UM) (J:Hp) (n:Nat) (u:UN):Prop:=∃d v,isKey d=true/\dep d<=n/\Rep K J d v/\RelV v u
section
variable {prog:U6}{w:Vs}{E:UN->UP->Prop}{K:UM}{J:Hp}{A:Vz}{s:UP}
theorem Ay {n:Nat}:∀{ds:List D}{vs:List V}{us:List UN},areKeys ds=true->deps ds<=n->aL K J ds vs->Vals vs us->∀u∈us,i9 K J n u
 | _,_,_,_,_,.nil,.nil=>λu h=>nomatch h
 | d::ds,_,_,hk,hn,.cons a b,.cons c e=>λu h=>by
  unfold areKeys at hk
  rw [UT] at hk
  unfold deps at hn
  (rcases U8.mp h with rfl | h)
  ·exact ⟨d,_,hk.1,by omega,a,c⟩
  ·exact Ay hk.2 (by omega) b e u h
theorem i9.cases' (N:HF K J s) (h:i9 K J n u):(∃i t,u=.int i t)\/∃a o UC m k,u=.ref a/\s.heap.get? a=some o/\o.cls=.type "tuple"/\o.data=.seq UC m/\n=k + 1/\∀y∈UC.toList,i9 K J k y:=by
 obtain ⟨d,v,hk,hn,hr,rv⟩:=h
 cases d with
 | int i=>
  cases hr
  obtain ⟨t,rfl⟩:=rv
  exact .inl ⟨_,_,rfl⟩
 | tup ds=>
  cases hr with
  | tup h1 hs=>
   cases rv
   obtain ⟨UC,r,o,ho,hc,m,hd⟩:=N.t _ _ h1
   unfold dep at hn
   obtain ⟨k,rfl⟩:∃k,n=k + 1:=⟨n - 1,by omega⟩
   exact .inr ⟨_,o,_,m,k,rfl,ho,hc,hd,rfl,Ay hk (by omega) hs r⟩
 | _=>cases hk
theorem om:∀(n:Nat){u:UN}{Q:Bool->UP->Prop},HF K J s->i9 K J n u->Q true s->U9 (Vg prog w) A (eqIsQuiet n u) Q E s
 | n,u,Q,N,hk,h=>by
  rcases hk.cases' N with ⟨i,t,rfl⟩ | ⟨a,o,UC,m,k,rfl,ho,hc,hd,rfl,hi⟩
  ·rw [eqIsQuiet_byValue _ rfl]
   exact UO h
  ·have hT:s.TypeIs (.ref a) "tuple":=⟨o,ho,hc⟩
   unfold eqIsQuiet
   (refine UL (Y8 hT F.slot_tuple_eq.lookup ?_))
   (show U9 _ _ (adP (.ref a) (.type "tuple") >>= _) _ _ s)
   (refine UL (YF hT isSubtype_tuple_tuple ?_))
   (simp only [W_,Va,if_false])
   (refine UL (Zq ho hd ?_))
   refine UL ?_
   show U9 _ _ (forIn UC _ _) _ _ s
   rw [<-Y9]
   refine Xl _ (λrest r s'=>r.1=none/\s=s'/\∀v∈rest,i9 K J k v) _ ?_ ?_ _ _ ⟨rfl,rfl,hi⟩
   ·(rintro v rest r s' ⟨hr,rfl,hall⟩)
    refine UL (om k N (hall v UW) ?_)
    (simp only [W_,Va,if_false])
    (exact UO ⟨rfl,rfl,λu hu'=>hall u (UU _ hu')⟩)
   ·(rintro ⟨r1,r2⟩ s' ⟨hr,rfl,_⟩)
    simp only at hr
    subst hr
    exact UO h
theorem Ga:∀(n:Nat){u:UN}{Q:Bool->UP->Prop},HF K J s->i9 K J n u->Q true s->U9 (Vg prog w) A (hashByValue n u) Q E s
 | n,u,Q,N,hk,h=>by
  rcases hk.cases' N with ⟨i,t,rfl⟩ | ⟨a,o,UC,m,k,rfl,ho,hc,hd,rfl,hi⟩
  ·cases n <;> exact UO h
  ·have hT:s.TypeIs (.ref a) "tuple":=⟨o,ho,hc⟩
   unfold hashByValue
   (refine UL (Y8 hT Yr.lookup ?_))
   show U9 _ _ (ab0 (.ref a) >>= _) _ _ s
   (refine UL (Zq ho hd ?_))
   refine UL ?_
   show U9 _ _ (forIn UC _ _) _ _ s
   rw [<-Y9]
   refine Xl _ (λrest r s'=>r.1=none/\s=s'/\∀v∈rest,i9 K J k v) _ ?_ ?_ _ _ ⟨rfl,rfl,hi⟩
   ·(rintro v rest r s' ⟨hr,rfl,hall⟩)
    refine UL (Ga k N (hall v UW) ?_)
    (simp only [W_,Va,if_false])
    (exact UO ⟨rfl,rfl,λu hu'=>hall u (UU _ hu')⟩)
   ·(rintro ⟨r1,r2⟩ s' ⟨hr,rfl,_⟩)
    simp only at hr
    subst hr
    exact UO h
theorem nY:∀(n:Nat){u:UN}{Q:Bool->UP->Prop},HF K J s->i9 K J n u->Q false s->U9 (Vg prog w) A (acv n u) Q E s
 | n,u,Q,N,hk,h=>by
  rcases hk.cases' N with ⟨i,t,rfl⟩ | ⟨a,o,UC,m,k,rfl,ho,hc,hd,rfl,hi⟩
  ·cases n <;> exact UO h
  ·have hT:s.TypeIs (.ref a) "tuple":=⟨o,ho,hc⟩
   unfold acv
   (refine UL (Zs hT ?_))
   dsimp only
   (refine UL (UO ?_))
   (simp only [W_,Va,if_false])
   (refine UL (Zq ho hd ?_))
   dsimp only
   refine UL ?_
   show U9 _ _ (forIn UC _ _) _ _ s
   rw [<-Y9]
   refine Xl _ (λrest r s'=>r.1=none/\s=s'/\∀v∈rest,i9 K J k v) _ ?_ ?_ _ _ ⟨rfl,rfl,hi⟩
   ·(rintro v rest r s' ⟨hr,rfl,hall⟩)
    refine UL (nY k N (hall v UW) ?_)
    (simp only [Va,if_false])
    (exact UO ⟨rfl,rfl,λu hu'=>hall u (UU _ hu')⟩)
   ·(rintro ⟨r1,r2⟩ s' ⟨hr,rfl,_⟩)
    simp only at hr
    subst hr
    exact UO h
theorem Ow {Q:Bool->UP->Prop}(N:HF K J s) (hx:i9 K J 8 x) (hy:∀y∈ys,i9 K J 8 y) (h:Q false s):U9 (Vg prog w) A (aal x ys) Q E s:=by
 unfold aal
 refine UL ?_
 refine Xl _ (λrest r s'=>r.1=none/\s=s'/\∀v∈rest,i9 K J 8 v) _ ?_ ?_ _ _ ⟨rfl,rfl,hy⟩
 ·(rintro v rest r s' ⟨hr,rfl,hall⟩)
  have nx:∀u∈rest,i9 K J 8 u:=λu hu'=>hall u (UU _ hu')
  dsimp only
  have hv:=hall v UW
  split
  ·split
   ·exact UO ⟨rfl,rfl,nx⟩
   ·refine UL (om 8 N hx ?_)
    (simp only [W_,Va,if_false])
    refine UL (om 8 N hv ?_)
    (simp only [W_,Va,if_false])
    refine UL (nY 8 N hx ?_)
    (simp only [Va,if_false])
    refine UL (nY 8 N hv ?_)
    (simp only [Va,if_false])
    exact UO ⟨rfl,rfl,nx⟩
  ·split
   ·exact UO ⟨rfl,rfl,nx⟩
   ·refine UL (om 8 N hx ?_)
    (simp only [W_,Va,if_false])
    refine UL (om 8 N hv ?_)
    (simp only [W_,Va,if_false])
    refine UL (nY 8 N hx ?_)
    (simp only [Va,if_false])
    refine UL (nY 8 N hv ?_)
    (simp only [Va,if_false])
    exact UO ⟨rfl,rfl,nx⟩
 ·(rintro ⟨r1,r2⟩ s' ⟨hr,rfl,_⟩)
  simp only at hr
  subst hr
  exact UO h
end
end DL
namespace DL
open PySem PySem.Spec PyProof.Rows L2 ST
def KV (K:UM) (J:Hp) (u:UN) (d:D):Prop:=(∃a,u=.ref a)/\isKey d=true/\dep d<=8/\∃v,Rep K J d v/\RelV v u
theorem KV.key {K:UM}{J:Hp}{u:UN}{d:D}(h:KV K J u d):i9 K J 8 u:=let ⟨_,a,b,v,c,e⟩:=h;⟨d,v,a,b,c,e⟩
inductive fQ (K:UM) (J:Hp):List (Int×UN)->List D->Prop
 | nil:fQ K J [] []
 | cons {h:Int}{x:UN}{d:D}{es:List (Int×UN)}{ks:List D}:h=bY d->KV K J x d->fQ K J es ks->fQ K J ((h,x)::es) (d::ks)
section
variable {K:UM}{J:Hp}
theorem fQ.length {es:List (Int×UN)}{ks:List D}(h:fQ K J es ks):es.length=ks.length:=by
 induction h with
 | nil=>rfl
 | cons _ _ _ ih=>simp [ih]
theorem fQ.at_ (h:fQ K J es ks):∀{i:Nat}{e:Int×UN},es[i]?=some e->∃d,ks[i]?=some d/\KV K J e.2 d/\e.1=bY d:=by
 induction h with
 | nil=>intro i e q;simp at q
 | @cons hh x d es ks h1 h2 _ ih=>
  intro i e q
  cases i with
  | zero=>simp at q;subst q;exact ⟨d,rfl,h2,h1⟩
  | succ i=>simp at q;obtain ⟨d',a,b⟩:=ih q;exact ⟨d',by simpa using a,b⟩
theorem fQ.mem (h:fQ K J es ks):∀e∈es,∃d∈ks,KV K J e.2 d/\e.1=bY d:=λe he=>by
 obtain ⟨i,hi⟩:=aa_.mp he
 obtain ⟨d,h1,h2⟩:=h.at_ hi
 exact ⟨d,VS h1,h2⟩
theorem fQ.back {es:List (Int×UN)}{ks:List D}(h:fQ K J es ks){i:Nat}{d:D}(q:ks[i]?=some d):∃e,es[i]?=some e/\KV K J e.2 d/\e.1=bY d:=by
 have hi:i < es.length:=by rw [h.length];exact (Vo.mp q).1
 obtain ⟨d',h1,h2⟩:=h.at_ (U5 hi)
 rw [q] at h1;cases h1
 exact ⟨_,U5 hi,h2⟩
theorem fQ.perm {es es':List (Int×UN)}(p:es.Perm es'):∀{ks:List D},fQ K J es ks->∃ks',ks.Perm ks'/\fQ K J es' ks':=by
 induction p with
 | nil=>intro ks h;exact ⟨ks,.refl _,h⟩
 | cons x _ ih=>
  intro ks h
  cases h with
  | cons h1 h2 h3=>obtain ⟨ks',a,b⟩:=ih h3;exact ⟨_,a.cons _,.cons h1 h2 b⟩
 | swap x y l=>
  intro ks h
  cases h with
  | cons h1 h2 h3=>cases h3 with
   | cons h4 h5 h6=>exact ⟨_,.swap _ _ _,.cons h4 h5 (.cons h1 h2 h6)⟩
 | trans _ _ ih1 ih2=>
  intro ks h
  obtain ⟨k1,a,b⟩:=ih1 h
  obtain ⟨k2,c,d⟩:=ih2 b
  exact ⟨k2,a.trans c,d⟩
end
theorem eH {t:WK}{es:Array (Int×UN)}(T:Tab t es L):t.fits es.size=true:=by
 have h1:t.place.size=L.length:=by rw [<-Vb,T.pl,UR]
 have h2:es.size=L.length:=by rw [<-Vb,T.en,UR]
 have h3:t.fill=L.length:=by unfold aee;rw [T.dm,h1];rfl
 unfold SetTable.fits
 rw [h1,h2,h3]
 simp [T.fl]
theorem LQ {t:WK}(T:Tab t es L):t.gaveWay=false:=by
 unfold SetTable.gaveWay
 rcases T.mo with h | h | h <;> rw [h] <;> rfl
section
variable {prog:U6}{w:Vs}{E:UN->UP->Prop}{K:UM}{J:Hp}{A:Vz}{s:UP}
theorem search {a:Vd}{o:Obj}{es:Array (Int×UN)}{ep:Nat}{t:WK}{L:List (Nat×Int×UN)}{ks:List D}{x:UN}{d:D}{Q:SetFound->UP->Prop}(N:HF K J s) (ho:s.heap.get? a=some o) (hd:o.data=.set es ep t) (T:Tab t es L) (en:fQ K J es.toList ks)
  (hx:KV K J x d) (hu:A.units + 8 < Wj) (n0:Nat) (hf:pos t.mask (bY d) n0∉L.map (·.1)) (hb:∀m,m < n0->pos t.mask (bY d) m∈L.map (·.1)) (hn0:n0<=10 * (t.mask + 12))
  (q1:d∈ks->Q (.there none) s) (q2:d∉ks->Q (.free (pos t.mask (bY d) n0) false) s):
  ∀(fuel n:Nat) (stand:Option SetTable.Probe),n<=n0->n0 - n < fuel->stand.getD (t.probeStart (bY d))=st t.mask (bY d) n->(∀k,k < n->∀(i:Nat) (e:Nat×Int×UN),L[i]?=some e->e.1=pos t.mask (bY d) k->ks[i]?≠some d)->
   U9 (Vg prog w) A (aef a x (bY d) true fuel stand) Q E s
 | 0,n,stand,h1,h2,h3,h4=>absurd h2 (V4 _)
 | fuel + 1,n,stand,h1,h2,h3,h4=>by
  have esL:∀i,es[i]?=(L[i]?).map (λe:Nat×Int×UN=>e.2):=λi=>by rw [<-Wa,T.en,Vh]
  unfold aef
  refine UL (WQ ho hd (eH T) ?_)
  dsimp only
  rw [LQ T]
  (simp only [Va,if_false])
  rw [h3]
  obtain ⟨m,m1,m2,m3,m4⟩:=AM T (λi=>(es[i]?.map (·.1)).getD 0) (λi e q=>by rw [q];rfl) (bY d) n0 hf hb (n0 - n) n (10 * adF t.mask) rfl h1 (by unfold adF;omega)
  generalize hP:SetTable.probe t _ (bY d) (st t.mask (bY d) n)=r
  rcases m4 with ⟨rfl,m4⟩ | ⟨m5,i,e,m6,m7,m8,m4⟩
  ·have:r=_:=hP.symm.trans m4
   subst this
   dsimp only
   refine UO (q2 λhm=>?_)
   obtain ⟨i,hi⟩:=aa_.mp hm
   obtain ⟨e,e1,e2,e3⟩:=en.back hi
   rw [Wa,esL] at e1
   obtain ⟨e',e4,rfl⟩:=Option.map_eq_some_iff.mp e1
   have hm':=VS e4
   obtain ⟨k,k1,k2⟩:=T.pr _ hm'
   rw [e3] at k1 k2
   have kl:k < m:=by
    rcases Yq k m with c | c | c
    ·exact c
    ·subst c;rw [k1] at hf;exact absurd (UY.mpr ⟨_,hm',rfl⟩) hf
    ·exact absurd (k2 m c) hf
   by_cases c:k < n
   ·exact h4 k c i e' e4 k1.symm hi
   ·exact m3 k (by omega) kl e' hm' k1.symm e3
  ·have:r=_:=hP.symm.trans m4
   subst this
   dsimp only
   have hei:es[i]?=some e.2:=by rw [esL,m6];rfl
   obtain ⟨d',f1,f2,f3⟩:=en.at_ (by rw [Wa];exact hei)
   obtain ⟨⟨ya,g0⟩,g1,g2',v',g3,g4⟩:=id f2
   obtain ⟨_,x1,x2,v,x3,x4⟩:=id hx
   obtain ⟨j,hh,y⟩:=e
   dsimp only at g0 g4 m7 m8 hei
   subst g0
   have cmp:=nM N A g3 x3 g4 x4 (by omega) (by omega) (by omega)
   have pass:∀(k:Sem SetFound),U9 (Vg prog w) A k Q E s->U9 (Vg prog w) A (if (!t.led)=true then do
     let c <-aal x (ae3 (λx=>x.snd) (Array.filter (λx=>x.fst == bY d) es).toList)
     if c=true then do unsupported "set:the-search-would-show-the-table";k else k
     else k) Q E s:=λk hk=>by
    split
    ·refine UL (Ow N hx.key (λy hy=>?_) ?_)
     ·obtain ⟨e',he',rfl⟩:=UY.mp hy
      have:e'∈es.toList:=by
       rw [Array.toList_filter] at he'
       exact (VI.mp he').1
      obtain ⟨d2,_,h2,_⟩:=en.mem e' this
      exact h2.key
     ·(simp only [Va,if_false])
      exact hk
    ·exact hk
   refine pass _ ?_
   rw [hei]
   dsimp only
   refine UL (VB (cmp _ _ _ _ ?_))
   refine UL (WQ ho hd (eH T) ?_)
   dsimp only
   by_cases c:bu d' d=true
   ·rw [c]
    (simp only [ad6,if_true])
    refine UO (q1 ?_)
    rw [<-Az g1 x1 c]
    exact VS f1
   ·rw [Bool.not_eq_true] at c
    rw [c]
    have sm:t.sameMemory t.moves t.mask=some true:=by unfold SetTable.sameMemory;simp
    have sl:t.slot (pos t.mask (bY d) m)=.live i:=yk T.sop (by rw [<-m7];exact (T.at_ m6).1)
    rw [sm]
    simp only [Xu,Va,if_false,if_true]
    rw [sl]
    dsimp only
    rw [hei]
    dsimp only
    refine UL (wpAny_isSame_ref_self ?_)
    simp only [if_true]
    (refine UL (UO ?_))
    dsimp only
    refine search N ho hd T en hx hu n0 hf hb hn0 q1 q2 fuel (m + 1) _ (by omega) (by omega) rfl λk hk i2 e2 z1 z2 z3=>?_
    by_cases c1:k < n
    ·exact h4 k c1 i2 e2 z1 z2 z3
    ·by_cases c2:k < m
     ·obtain ⟨dd,w1,_,w3⟩:=en.at_ (i:=i2) (e:=e2.2) (by rw [Wa,esL,z1];rfl)
      rw [z3] at w1;cases w1
      exact m3 k (by omega) c2 e2 (VS z1) z2 w3
     ·obtain rfl:k=m:=by omega
      have hi2:i2=i:=by
       obtain ⟨p1,p2⟩:=Vo.mp z1
       obtain ⟨p3,p4⟩:=Vo.mp m6
       have sw:=VP.mp T.so
       rcases Yq i2 i with c | c | c
       ·have:=sw i2 i (by simpa using p1) (by simpa using p3) c
        simp [p2,p4] at this
        omega
       ·exact c
       ·have:=sw i i2 (by simpa using p3) (by simpa using p1) c
        simp [p2,p4] at this
        omega
      subst hi2
      rw [f1] at z3
      cases z3
      rw [ic] at c
      exact absurd c (by decide)
end
structure g_ (K:UM) (J:Hp) (h:V1) (a:Vd) (led:Bool) (ks:List D) (es:Array (Int×UN)) (ep:Nat) (t:WK):Prop where
 at_:h.get? a=some {cls:=.type "set",dict:=none,data:=.set es ep t}
 tab:∃L,Tab t es L
 pl:t.plain=true
 ld:t.led=led
 rm:ks.length * 5 < t.mask * 3
 en:fQ K J es.toList ks
 nd:ks.Nodup
theorem E8 (mask i:Nat) (h:i<=mask):i + (adh mask i - i)<=mask:=by unfold adh;split <;> omega
theorem JP (mask:Nat) (h:Int):∀n,(ST.st mask h n).j + (ST.st mask h n).more<=mask
 | 0=>E8 mask _ (Zl (abm _ (by omega)))
 | n + 1=>by
  have ih:=JP mask h n
  show (aaL _ (ST.st mask h n)).j + (aaL _ (ST.st mask h n)).more<=mask
  unfold aaL
  split
  ·dsimp only;omega
  ·exact E8 mask _ (Zl (abm _ (by omega)))
theorem NO (mask:Nat) (h:Int) (n:Nat):ST.pos mask h n<=mask:=by have:=JP mask h n;show (ST.st mask h n).j<=mask;omega
theorem J_:Yb 20=32:=by decide +kernel
theorem Ka:Yb 76=128:=by decide +kernel
theorem wQ {es:Array (Int×UN)}{L:List (Nat×Int×UN)}(T:Tab t es L):L.length=es.size:=by rw [<-Vb,T.en,UR]
section
variable {prog:U6}{w:Vs}{E:UN->UP->Prop}{K:UM}{J:Hp}{A:Vz}{s:UP}
theorem O_ {es:Array (Int×UN)}{t:WK}{ks:List D}{Q:Unit->UP->Prop}(ho:s.heap.get? a=some {cls:=.type "set",dict:=none,data:=.set es ep t}) (T:Tab t es L) (hp:t.plain=true) (hl:t.led=led)
 (en:fQ K J es.toList ks) (nd:ks.Nodup) (W:Nat) (hW:(Yb W=32/\ks.length=5)\/(Yb W=128/\ks.length=19))
 (h:∀(h':V1) ks' es' ep' t',VL a s.heap h'->ks.Perm ks'->g_ K J h' a led ks' es' ep' t'->Q () {s with heap:=h'}):U9 (Vg prog w) A (setRelay a W) Q E s:=by
 have hsz:es.size=ks.length:=by rw [<-Vb,en.length]
 have hm:ql (Yb W - 1):=by rcases hW with ⟨h,_⟩ | ⟨h,_⟩ <;> rw [h];exact .inr (.inl rfl);exact .inr (.inr rfl)
 obtain ⟨t',UK,L',e1,e2,e3,e4,e5,e6⟩:=Gn (t:=t) (es:=es) hm (by rcases hW with ⟨h,_⟩ | ⟨h,_⟩ <;> rw [h] <;> omega)
 unfold setRelay
 refine UL (WQ ho rfl (eH T) ?_)
 dsimp only
 rw [if_neg (by rw [Wv];rcases hW with ⟨h,_⟩ | ⟨h,_⟩ <;> rw [h] <;> omega)]
 have sz':(UK.filterMap (es[·]?)).size=es.size:=by
  rw [<-Vb,e6.length_eq,Vb]
 rw [e1]
 have lI:((UK.filterMap (es[·]?)).size != es.size)=false:=by rw [sz'];simp
 refine UL (ZN (a:=(UK.filterMap (es[·]?),t')) ?_ ?_)
 ·show (if ((UK.filterMap (es[·]?)).size != es.size)=true then _ else pure (UK.filterMap (es[·]?),t'))=_
  rw [lI]
  rfl
 ·dsimp only
  obtain ⟨ks',p1,p2⟩:=en.perm e6.symm
  refine acw ho rfl ?_ (by rw [sz',Wv];rcases hW with ⟨_,h⟩ | ⟨_,h⟩ <;> omega)
  have hg:=Wy (adU (UK.filterMap (es[·]?)) t') ho rfl
  refine h _ ks' _ _ _ (WL _ _ _) p1 ⟨hg,⟨L',e5⟩,e4.trans hp,e3.trans hl,?_,p2,p1.nodup_iff.mp nd⟩
  rw [<-p1.length_eq,e2]
  rcases hW with ⟨h,h'⟩ | ⟨h,h'⟩ <;> rw [h,h'] <;> omega
theorem Kc {a:Vd}{es:Array (Int×UN)}{ep:Nat}{t:WK}{led:Bool}{ks:List D}{x:UN}{d:D}{Q:Bool->UP->Prop}(N:HF K J s) (S:g_ K J s.heap a led ks es ep t) (hx:KV K J x d) (hu:A.units + 8 < Wj) (hl:ks.length < 76)
  (q1:d∈ks->Q false s) (q2:d∉ks->∀(h':V1) ks' es' ep' t',VL a s.heap h'->(d::ks).Perm ks'->g_ K J h' a led ks' es' ep' t'->Q true {s with heap:=h'}):
  U9 (Vg prog w) A (setAddHashed a x (bY d)) Q E s:=by
 obtain ⟨L,T⟩:=S.tab
 have lenL:L.length=ks.length:=by rw [wQ T,<-Vb,S.en.length]
 obtain ⟨n0,b1,b2,b3⟩:=DF T.mo (bY d) (L.map (·.1)) (by rw [UR];exact T.fl)
 have hj:pos t.mask (bY d) n0<=t.mask:=NO _ _ _
 (unfold setAddHashed setAddHashedIn)
 refine VB (UL (WQ S.at_ rfl (eH T) ?_))
 dsimp only
 have ns:byScan x es=false:=by
  obtain ⟨⟨xa,rfl⟩,_⟩:=hx
  rfl
 rw [ns]
 (simp only [Va,if_false])
 unfold setSearch
 refine UL (search N S.at_ rfl T S.en hx hu n0 b2 b3 b1 (λhm=>?_) (λhm=>?_) 100000 0 none (Vl _) (by rcases T.mo with h | h | h <;> rw [h] at b1 <;> omega) rfl (λk hk=>absurd hk (V4 _)))
 ·exact UO (q1 hm)
 ·dsimp only
  refine UL (WQ S.at_ rfl (eH T) ?_)
  dsimp only
  obtain ⟨L',T',pm⟩:=T.put (bY d) x n0 b2 b3 hj (by have:=S.rm;rcases T.mo with h | h | h <;> rw [h] at this <;> omega)
  have fl:(t.put (pos t.mask (bY d) n0)).1.mask=t.mask/\(t.put (pos t.mask (bY d) n0)).1.plain=t.plain/\(t.put (pos t.mask (bY d) n0)).1.led=t.led:=⟨rfl,rfl,rfl⟩
  generalize t.put (pos t.mask (bY d) n0)=tp at T' fl ⊢
  obtain ⟨t',p⟩:=tp
  dsimp only at T' fl ⊢
  obtain ⟨f1,f2,f3⟩:=fl
  have en':∃ks',(d::ks).Perm ks'/\fQ K J (Zm es p (bY d,x)).toList ks':=by
   refine fQ.perm (es:=(bY d,x)::es.toList) ?_ (.cons rfl hx S.en)
   rw [T'.en,T.en]
   have:=pm.map (·.2)
   exact this.symm
  obtain ⟨ks',p1,p2⟩:=en'
  have nd':ks'.Nodup:=p1.nodup_iff.mp (WD.mpr ⟨hm,S.nd⟩)
  have lk:ks'.length=ks.length + 1:=by rw [<-p1.length_eq];rfl
  rw [f2,S.pl]
  simp only [if_true]
  refine UL (Ga 8 N hx.key ?_)
  simp only [if_true]
  have esz:(Zm es p (bY d,x)).size=ks'.length:=by rw [<-Vb,p2.length]
  refine UL (acw S.at_ rfl ?_ (by rw [esz,Wv];omega))
  have hg:=Wy (adU (Zm es p (bY d,x)) t') S.at_ rfl
  have hfill:t'.fill=ks'.length:=by
   unfold aee
   rw [T'.dm,<-Vb,T'.pl,UR,wQ T',esz]
   rfl
  have hes:es.size=ks.length:=by rw [<-Vb,S.en.length]
  split
  ·rename_i c
   simp only [abz,Y_] at c
   unfold acQ at c
   rw [hfill,f1,decide_eq_true_eq] at c
   have rm:=S.rm
   refine UL (O_ (s:={s with heap:=s.heap.update a (adU (Zm es p (bY d,x)) t')}) hg T' (f2.trans S.pl) (f3.trans S.ld) p2 nd' _ ?_ λh' ks2 es2 ep2 t2 g1 g2' g3=>?_)
   ·rw [hes]
    unfold SetTable.grown
    rw [if_neg (by omega)]
    rcases T.mo with h | h | h
    ·rw [h] at c rm
     have:ks.length + 1=5:=by omega
     rw [this]
     exact .inl ⟨J_,by omega⟩
    ·rw [h] at c rm
     have:ks.length + 1=19:=by omega
     rw [this]
     exact .inr ⟨Ka,by omega⟩
    ·rw [h] at c;omega
   ·exact UO (q2 hm h' ks2 es2 ep2 t2 ((WL _ _ _).trans g1) (p1.trans g2') g3)
  ·rename_i c
   simp only [abz,Y_] at c
   unfold acQ at c
   rw [hfill,f1,decide_eq_true_eq] at c
   exact UO (q2 hm _ ks' _ _ _ (WL _ _ _) p1 ⟨hg,⟨L',T'⟩,f2.trans S.pl,f3.trans S.ld,by rw [f1];omega,p2,nd'⟩)
end
theorem g_.keep {K:UM}{J:Hp}{h h':V1}{a:Vd}{led:Bool}{ks:List D}{es:Array (Int×UN)}{ep:Nat}{t:WK}(S:g_ K J h a led ks es ep t) (e:∀o,h.get? a=some o->h'.get? a=some o):g_ K J h' a led ks es ep t:=
 ⟨e _ S.at_,S.tab,S.pl,S.ld,S.rm,S.en,S.nd⟩
section
variable {prog:U6}{w:Vs}{A:Vz}{R:acY->UP->Prop}{I:Vd}{fp wr:List Vd}{G:Array aeU->Array aeU->Prop}{n:Nat}{P:Nat->UN->Prop}{St:Nat->UP->Prop}{K:UM}{J:Hp}
theorem IU (W:WalksS prog w A.in1 I fp wr G n P St) (S:Vd) (hSf:S∉fp) (val:Nat->D) (hval:∀i v,P i v->KV K J v (val i)){s0:UP}(N0:HF K J s0) (hnew:∀b∈S::wr,s0.heap.get? b=none) (hu:A.in1.units + 8 < Wj) (hn:n<=76){led:Bool}:
  ∀(k i:Nat) (s:UP) (ks:List D) (es:Array (Int×UN)) (ep:Nat) (t:WK),n - i=k->i<=n->St i s->(∀b o,s0.heap.get? b=some o->s.heap.get? b=some o)->g_ K J s.heap S led ks es ep t->(∀d,d∈ks↔d∈(UQ i).map val)->
   (∀s' ks' es' ep' t',Moved (S::wr) G s s'->g_ K J s'.heap S led ks' es' ep' t'->(∀d,d∈ks'↔d∈(UQ n).map val)->R (.ok (.ret .none)) s')->
   (Xf (Vg prog w) A (.builtin "set.update.loop" ⟨[.ref S,.ref I],[]⟩) R s):=by
 (have TF:S∉wr:=λh=>hSf (W.sub _ h))
 (have hsub:∀b∈wr,b∈S::wr:=λb hb=>UU _ hb)
 have old:∀b o,s0.heap.get? b=some o->b∉S::wr:=λb o e hm=>by rw [hnew b hm] at e;cases e
 intro k
 induction k with
 | zero=>
  intro i s ks es ep t hk hi hst hb hS hm hR
  have hin:i=n:=by omega
  subst hin
  refine Xi Yz ?_
  rw [WH Wq _]
  (show U9 _ A.in1 (YM (.ref I) >>= _) _ _ s)
  refine UL (W.done s _ _ hst λs' Sq=>?_)
  (show U9 _ A.in1 (ret VM) _ _ s')
  exact UO (hR s' ks es ep t (Sq.mono hsub) (hS.keep λo e=>Sq.heap S o TF e) hm)
 | succ k ih=>
  intro i s ks es ep t hk hi hst hb hS hm hR
  have hlt:i < n:=by omega
  have hlen:ks.length<=i:=by
   have:=Vx hS.nd (λd hd=>(hm d).mp hd)
   simpa using this
  refine Xi Yz ?_
  rw [WH Wq _]
  (show U9 _ A.in1 (YM (.ref I) >>= _) _ _ s)
  refine UL (W.item i s _ _ hlt hst λv s' hP SE Sq=>?_)
  have hx:=hval i v hP
  obtain ⟨_,x1,x2,vv,x3,x4⟩:=id hx
  have hS':=hS.keep (h':=s'.heap) λo e=>Sq.heap S o TF e
  have hb':∀b o,s0.heap.get? b=some o->s'.heap.get? b=some o:=λb o e=>Sq.heap b o (λhm=>old b o e (hsub b hm)) (hb b o e)
  have N':HF K J s':=N0.keep hb'
  have mem':∀(ks':List D),(∀d,d∈ks'↔d=val i\/d∈ks)->∀d,d∈ks'↔d∈(UQ (i + 1)).map val:=λks' h d=>by
   rw [h d,hm d,XN,Ve,Vj]
   simp only [U_,aa0,U4]
   exact Or.comm
  show U9 _ A.in1 (holding [v] (setAdd S v) >>= _) _ _ s'
  (refine UL (VB ?_))
  unfold setAdd
  refine VB ?_
  refine UL (wV (val i) vv v A.in1 s' N' x1 x3 x4 (by omega) _ _ _ N' ?_)
  refine Kc (s:={s' with toks:=s'.toks + kO (val i)}) (⟨N'.t,N'.l,N'.e,N'.d⟩:HF K J {s' with toks:=s'.toks + kO (val i)}) hS' hx hu (by omega) (λhin=>?_) (λhin h' ks' es' ep' t' Tr Ui SJ=>?_)
  ·refine UO ⟨YZ Wq _,ih (i + 1) _ ks es ep t (by omega) hlt (W.frame _ s' _ _ SE (YE _ _) λb hb o e=>e) hb' hS' (mem' ks λd=>⟨.inr,λh=>h.elim (λh=>h▸hin) id⟩) λs'' ks'' es'' ep'' t'' hm'' hS'' Sv=>?_⟩
   exact hR s'' ks'' es'' ep'' t'' (aeS W.gtrans ((Sq.mono hsub).then_heap (YE _ _) λb o hb e=>e) hm'') hS'' Sv
  ·refine UO ⟨YZ Wq _,ih (i + 1) _ ks' es' ep' t' (by omega) hlt (W.frame _ s' _ _ SE (YE _ _) λb hb o e=>?_) (λb o e=>?_) SJ (mem' ks' λd=>?_) λs'' ks'' es'' ep'' t'' hm'' hS'' Sv=>?_⟩
   ·(rw [Tr.2 b (λh:b=S=>hSf (by rw [<-h];exact hb))];exact e)
   ·show h'.get? b=some o
    rw [Tr.2 b (λh:b=S=>old b o e (by rw [h];exact UW))]
    exact hb' b o e
   ·rw [<-Ui.mem_iff,U8]
   ·refine hR s'' ks'' es'' ep'' t'' (aeS W.gtrans ((Sq.mono hsub).then_heap (YE _ _) λb o hb e=>?_) hm'') hS'' Sv
    (rw [Tr.2 b (λh:b=S=>hb (by rw [h];exact UW))];exact e)
end
theorem Eb {K:UM}{J:Hp}{h:V1}{a:Vd}{led:Bool}(e:h.get? a=some {cls:=.type "set",dict:=none,data:=.set #[] 0 (.fresh 0 0 led)}):g_ K J h a led [] #[] 0 (.fresh 0 0 led):=
 ⟨e,⟨[],⟨rfl,rfl,rfl,XH,(λ_ h=>nomatch h),.inl rfl,Vl _,(λ_ h=>nomatch h)⟩⟩,rfl,rfl,(show 0 * 5 < 7 * 3 by decide),.nil,Xw⟩
end DL
namespace ST
open PySem PySem.SetTable
theorem zP {xs:Array Nat}(hs:xs.toList.Pairwise (· < ·)) (hi:i<=xs.size) (h1:∀k,k < i->xs.getD k 0 < j) (h2:∀k,i<=k->k < xs.size->j<=xs.getD k 0):below xs j=i:=by
 obtain ⟨b1,b2,b3⟩:=oN xs j hs
 rcases Yq (below xs j) i with c | c | c
 ·have:=h1 _ c
  have:=b3 _ (UX _) (by omega)
  omega
 ·exact c
 ·have:=b2 _ c
  have:=h2 i (UX _) (by omega)
  omega
theorem Dp {xs:Array Nat}(hs:xs.toList.Pairwise (· < ·)):below xs 0=0:=zP hs (Vl _) (λk h=>absurd h (V4 _)) λk _ _=>Vl _
theorem Dn {xs:Array Nat}(hs:xs.toList.Pairwise (· < ·)) (h:xs[i]?=some j):below xs (j + 1)=i + 1:=by
 obtain ⟨hi,e⟩:=Wh.mp h
 have sw:=VP.mp hs
 have gd:∀k (hk:k < xs.size),xs.getD k 0=xs[k]:=λk hk=>by simp [WN,hk]
 refine zP hs (by omega) (λk hk=>?_) (λk h1 h2=>?_)
 ·rw [gd k (by omega)]
  by_cases c:k=i
  ·subst c;omega
  ·have:=sw k i (by simp;omega) (by simpa using hi) (by omega)
   simp at this
   omega
 ·rw [gd k h2]
  have:=sw i k (by simpa using hi) (by simpa using h2) (by omega)
  simp at this
  omega
theorem xU {α:Type}(next:Nat->Nat):∀(f k:Nat) (left:List α) (out:Array α),f=left.length->(acH next f k left out).toList.Perm (out.toList++left)
 | 0,k,left,out,h=>by
  have:left=[]:=X4.mp h.symm
  subst this
  unfold acH
  simp
 | f + 1,k,left,out,h=>by
  have hl:next k % left.length < left.length:=abm _ (by omega)
  unfold acH
  rw [U5 hl]
  dsimp only
  refine (xU next f (k + 1) _ _ (by rw [abu];simp [hl];omega)).trans ?_
  rw [acu,Xc]
  (refine aer _ ?_)
  have e1:left.eraseIdx (next k % left.length)=left.take (next k % left.length)++left.drop (next k % left.length + 1):=Zn _ _
  have e2:left=left.take (next k % left.length)++left[next k % left.length]::left.drop (next k % left.length + 1):=by
   rw [List.getElem_cons_drop,aa9]
  rw [e1,List.singleton_append]
  exact (acP.symm).trans (afj e2.symm)
theorem DZ {α:Type}(next:Nat->Nat) (xs:Array α):(adi next xs).toList.Perm xs.toList:=by
 have h:=xU next xs.size 0 xs.toList #[] (by simp)
 rw [show (#[]:Array α).toList++xs.toList=xs.toList from rfl] at h
 exact h
end ST
namespace DL
open PySem PySem.Spec PyProof.Rows L2 ST
structure kD (h:V1) (a:Vd) (led:Bool) (es:Array (Int×UN)) (ep:Nat) (t:WK):Prop where
 at_:h.get? a=some {cls:=.type "set",dict:=none,data:=.set es ep t}
 tab:∃L,Tab t es L
 pl:t.plain=true
 ld:t.led=led
theorem kD.keep {h h':V1}(S:kD h a led es ep t) (e:∀o,h.get? a=some o->h'.get? a=some o):kD h' a led es ep t:=⟨e _ S.at_,S.tab,S.pl,S.ld⟩
theorem g_.wk {K:UM}{J:Hp}{h:V1}{a:Vd}{led:Bool}{ks:List D}{es:Array (Int×UN)}{ep:Nat}{t:WK}(S:g_ K J h a led ks es ep t):kD h a led es ep t:=⟨S.at_,S.tab,S.pl,S.ld⟩
abbrev pB (w:Vs):Bool:=!w.params.followText "set-order"
noncomputable def gO (w:Vs) (a ep:Nat) (es:Array (Int×UN)):Array (Int×UN):=if w.params.followText "set-order"=true then adi (w.params.setOrder a ep) es else es
theorem tX (w:Vs) (a ep:Nat) (es:Array (Int×UN)):(gO w a ep es).toList.Perm es.toList:=by
 unfold gO
 split
 ·exact DZ _ _
 ·exact .refl _
theorem nF (w:Vs) (a ep:Nat) (es:Array (Int×UN)):(gO w a ep es).size=es.size:=by
 rw [<-Vb,(tX w a ep es).length_eq,Vb]
abbrev p5 (a:Vd) (slot i n ep:Nat):Obj:={cls:=.type "set_iterator",data:=.fields #[.int slot 0,.int i 0,.ref a,.int n 0,.int ep 0]}
theorem uX:ae4 table "set.__iter__"=some YU.«frozenset.__iter__»:=
 (adG (id':="frozenset.__iter__") (by kernel_rfl) rfl (by decide +kernel) (by kernel_rfl))
theorem gj:Slot "set_iterator" "__next__" "set_iterator.__next__":=
 (.of (owner:="set_iterator") (n:="__next__") (by rw [aba,Zu];kernel_rfl) (by decide +kernel) (by decide +kernel) (by decide +kernel)
  (by first | exact .inl (by decide +kernel) | exact .inr (by decide +kernel)) (by rw [YA];kernel_rfl))
theorem pV:ae4 table "set_iterator.__next__"=some YU.«set_iterator.__next__»:=(entryFor_of_tree (by kernel_rfl))
theorem qv (a:UN):argsOk "set_iterator.__next__" ⟨[a],[]⟩:=by unfold argsOk;kernel_rfl
section
variable {prog:U6}{w:Vs}{A:Vz}{E:UN->UP->Prop}{s:UP}
theorem Hu {es:Array (Int×UN)}{Q:UN->UP->Prop}(S:kD s.heap a led es ep t)
 (hQ:Q (.ref s.heap.objs.size) {s with heap:=s.heap.push (p5 a 0 0 es.size ep)}):U9 (Vg prog w) A (Z2 (.ref a)) Q E s:=by
 obtain ⟨L,T⟩:=S.tab
 have hT:s.TypeIs (.ref a) "set":=⟨_,S.at_,rfl⟩
 refine aam hT adj (VA adj hT uX ?_ (F.args_set_iter_1 _))
 show U9 _ _ (aan a >>= _) _ _ s
 unfold aan
 refine UL (UL (ZQ S.at_ rfl (eH T) (UO ?_)))
 unfold setDrawn adV
 refine UL (UL (WQ S.at_ rfl (eH T) (UL (UL (Xm (UO (UO ?_)))))))
 dsimp only
 split
 ·rename_i c
  have c:(!w.params.followText "set-order" && (!t.plain && decide (es.size > 1)))=true:=c
  rw [S.pl] at c
  simp at c
 ·(refine UL (UO ?_))
  refine UL (wpAny_setEpoch_of S.at_ rfl (eH T) ?_)
  (refine UL (Vu ?_))
  exact UO ⟨_,rfl,"set_iterator",_,⟨_,U0 _ rfl,rfl⟩,gj.lookup,hQ⟩
theorem A1 {t:WK}{Q:Option (UN×Nat)->UP->Prop}(S:kD s.heap a (pB w) es ep t) (hb:w.params.followText "set-order"=false->YB t.place slot=i)
 (q1:∀e slot',(gO w a ep es)[i]?=some e->(w.params.followText "set-order"=false->YB t.place slot'=i + 1)->Q (some (e.2,slot')) s) (q2:(gO w a ep es)[i]?=none->Q none s):
  U9 (Vg prog w) A (setNext a slot i ep) Q E s:=by
 obtain ⟨L,T⟩:=S.tab
 unfold setNext adV
 refine UL (WQ S.at_ rfl (eH T) ?_)
 dsimp only
 (refine UL (UL (Xm (UO ?_))))
 dsimp only
 cases bt:w.params.followText "set-order" with
 | true=>
  rw [show (Vg prog w).w.params.followText "set-order"=true from bt]
  simp only [if_true,bne_self_eq_false,Va,if_false]
  unfold setWalk adV
  refine UL (UL (WQ S.at_ rfl (eH T) ?_))
  dsimp only
  (refine UL (UL (Xm (UO ?_))))
  dsimp only
  rw [show (Vg prog w).w.params.followText "set-order"=true from bt]
  simp only [if_true]
  refine UL (Xm (UO ?_))
  dsimp only
  have ew:gO w a ep es=adi ((Vg prog w).w.params.setOrder a ep) es:=by unfold gO;rw [if_pos bt];rfl
  rw [ew] at q1 q2
  cases q:(adi ((Vg prog w).w.params.setOrder a ep) es)[i]? with
  | none=>exact UO (q2 q)
  | some e=>exact UO (q1 e slot q λz=>absurd (bt.symm.trans z) (by decide))
 | false=>
  rw [show (Vg prog w).w.params.followText "set-order"=false from bt]
  (simp only [Va,if_false])
  have ew:gO w a ep es=es:=by unfold gO;rw [if_neg (by rw [bt];decide)]
  rw [ew] at q1 q2
  have Tc:t.led=true:=by rw [S.ld];show (!w.params.followText "set-order")=true;rw [bt];rfl
  split
  ·rename_i c
   have c:(!t.plain && decide (es.size > 1))=true:=c
   rw [S.pl] at c
   simp at c
  ·refine UL (ZN (a:=()) ?_ ?_)
   ·show (if (!t.led && !es.isEmpty)=true then _ else pure ())=pure ()
    rw [Tc]
    rfl
   ·rw [hb bt]
    cases q:es[i]? with
    | none=>exact UO (q2 q)
    | some e=>
     have hlen:i < t.place.size:=by
      have h1:=(Wh.mp q).1
      have h2:t.place.size=es.size:=by rw [<-Vb,T.pl,UR,wQ T]
      omega
     have ep':t.place[i]?=some t.place[i]:=Xy hlen
     rw [ep']
     exact UO (q1 e _ q λ_=>Dn T.sop ep')
theorem HJ {es:Array (Int×UN)}{t:WK}{Q:Option UN->UP->Prop}(hne:a≠I) (S:kD s.heap a (pB w) es ep t) (hI:s.heap.get? I=some (p5 a slot i es.size ep)) (hb:w.params.followText "set-order"=false->YB t.place slot=i) (hi:i < es.size)
 (hQ:∀h' slot' e,(gO w a ep es)[i]?=some e->h'.get? I=some (p5 a slot' (i + 1) es.size ep)->(w.params.followText "set-order"=false->YB t.place slot'=i + 1)->VL I s.heap h'->Q (some e.2) {s with heap:=h'}):
  U9 (Vg prog w) A (YM (.ref I)) Q E s:=by
 obtain ⟨L,T⟩:=S.tab
 have hT:s.TypeIs (.ref I) "set_iterator":=⟨_,hI,rfl⟩
 unfold YM
 refine UL (XY (VG (name:=Xo "__next__") hT gj (VA gj hT pV ?_ (qv _))))
 show U9 _ _ (fieldsOf (.ref I) >>= _) _ _ s
 refine UL (aac hI rfl ?_)
 dsimp only
 refine UL (ZQ S.at_ rfl (eH T) ?_)
 simp only [bne_self_eq_false,Va,if_false,V7]
 refine UL (A1 S hb (λe slot' q1 q2=>?_) λq=>?_)
 ·dsimp only
  refine UL (WG hI (by simp) λh1 g1 b1=>?_)
  refine UL (WG (s:={s with heap:=h1}) g1 (by simp) λh2 g2' b2=>?_)
  exact UO ⟨_,rfl,UO (hQ h2 slot' e q1 (g2'.trans (by simp [abx])) q2 (b1.trans b2))⟩
 ·exfalso
  have:=(Array.getElem?_eq_none_iff.mp q)
  rw [nF] at this
  omega
theorem Kz {es:Array (Int×UN)}{t:WK}{Q:Option UN->UP->Prop}(hh:A.handled=none) (S:kD s.heap a (pB w) es ep t) (hI:s.heap.get? I=some (p5 a slot es.size es.size ep)) (hb:w.params.followText "set-order"=false->YB t.place slot=es.size)
 (hQ:∀h',aaz I s.heap h'->Q none {s with heap:=h'}):U9 (Vg prog w) A (YM (.ref I)) Q E s:=by
 obtain ⟨L,T⟩:=S.tab
 have hT:s.TypeIs (.ref I) "set_iterator":=⟨_,hI,rfl⟩
 unfold YM
 refine UL (XY (VG (name:=Xo "__next__") hT gj (VA gj hT pV ?_ (qv _))))
 show U9 _ _ (fieldsOf (.ref I) >>= _) _ _ s
 refine UL (aac hI rfl ?_)
 dsimp only
 refine UL (ZQ S.at_ rfl (eH T) ?_)
 simp only [bne_self_eq_false,Va,if_false,V7]
 refine UL (A1 S hb (λe slot' q1 q2=>?_) λq=>?_)
 ·exfalso
  have:=(Wh.mp q1).1
  rw [nF] at this
  omega
 ·dsimp only
  refine UL (WG hI (by simp) λh1 g1 b1=>?_)
  refine UL ?_
  simp only [ae0,ad7]
  (refine UL (Vu ?_ (by size_fits)))
  (refine UL (m:=Yw _ _) (ZN (a:=VM) (by first | rfl | (simp only [Yw];rfl)) ?_))
  (refine Vu ?_ (by size_fits))
  simp only [ae1]
  (refine UL (ab1 ?_))
  (first | rw [show A.in1.handled=none from hh] | rw [hh])
  (refine UL (UO (ac4 ?_)))
  (refine UL (YF (T:="StopIteration") (b:=true) ⟨_,U0 _ rfl,rfl⟩ abC ?_))
  exact UO (hQ _ ((b1.extBut.push _).push _))
end
theorem yQ:typeLookup (.type "set") "__len__"=pure (some (.builtin "set.__len__")):=by rw [aba,Zu];kernel_rfl
theorem GN {M:aey}{A:Vz}{E:UN->UP->Prop}{s:UP}{α:Type}{c:Prop} [Decidable c] {m1 m2:Sem α}{Q:α->UP->Prop}(hc:c) (h:U9 M A m1 Q E s):U9 M A (if c then m1 else m2) Q E s:=by rw [if_pos hc];exact h
theorem Ho {prog:U6}{w:Vs}{A:Vz}{E:UN->UP->Prop}{s:UP}{a:Vd}{Q:Bool->UP->Prop}(hT:s.TypeIs (.ref a) "set") (hQ:Q false s):U9 (Vg prog w) A (ZR (.ref a)) Q E s:=by
 have sp:splitId "set.__len__"=some ("set","__len__"):=by decide +kernel
 (unfold ZR)
 refine UL (Y8 hT yQ ?_)
 dsimp -zeta only
 rw [sp]
 dsimp -zeta only
 refine UL (m:=adP (.ref a) (.type "set")) (YF hT sub_set_self ?_)
 (show U9 _ _ (if (!true)=true then _ else _) _ _ _)
 rw [if_neg (by decide)]
 refine GN (by decide +kernel) ?_
 (refine UL (Zs hT ?_))
 exact UO hQ
theorem qW:Slot "set_iterator" "__iter__" "set_iterator.__iter__":=
 ((.of (owner:="set_iterator") (n:="__iter__") (by rw [aba,Zu];kernel_rfl) (by decide +kernel) (by decide +kernel) (by decide +kernel)
  ((by first | exact .inl (by decide +kernel) | exact .inr (by decide +kernel))) (by rw [YA];kernel_rfl)))
theorem yN:ae4 table "set_iterator.__iter__"=some YU.«dict_keyiterator.__iter__»:=
 (adG (id':="dict_keyiterator.__iter__") (by kernel_rfl) rfl (by decide +kernel) (by kernel_rfl))
theorem zL (a:UN):argsOk "set_iterator.__iter__" ⟨[a],[]⟩:=by unfold argsOk;kernel_rfl
section
variable {prog:U6}{w:Vs}{A:Vz}{E:UN->UP->Prop}{s:UP}
def kX (w:Vs) (a ep:Nat) (es:Array (Int×UN)):List UN:=(gO w a ep es).toList.map (·.2)
theorem GL (hh:A.handled=none) (I a:Vd) (hne:a≠I){es:Array (Int×UN)}{t:WK}:
  Walks prog w A I [I,a] [I] es.size (λi v=>(kX w a ep es)[i]?=some v) (λi h=>∃slot,h.get? I=some (p5 a slot i es.size ep)/\kD h a (pB w) es ep t/\(w.params.followText "set-order"=false->YB t.place slot=i)) where
 sub:=λ_ hb=>by simp at hb;simp [hb]
 frame:=λ_ _ _ ⟨slot,h1,h2,h3⟩ hk=>⟨slot,hk I (by simp) _ h1,h2.keep λo e=>hk a (by simp) o e,h3⟩
 item:=λi s Q E hi ⟨slot,h1,h2,h3⟩ hQ=>by
  refine HJ hne h2 h1 h3 hi λh' slot' e q1 q2 q3 q4=>?_
  refine hQ e.2 h' s.toks ?_ ⟨slot',q2,h2.keep λo e=>?_,q3⟩ λb o hb e=>?_
  ·unfold kX;rw [Vh,Wa,q1];rfl
  ·rw [q4.2 a hne];exact e
  ·exact q4.extBut b o (λh=>hb (by simp [h])) e
 done:=λs Q E ⟨slot,h1,h2,h3⟩ hQ=>Kz hh h2 h1 h3 λh' he=>hQ h' s.toks λb o hb e=>he b o (λh=>hb (by simp [h])) e
 self:=λi s Q E ⟨slot,h1,h2,h3⟩ hQ=>by
  have hT:s.TypeIs (.ref I) "set_iterator":=⟨_,h1,rfl⟩
  refine aam hT qW (VA qW hT yN ?_ (zL _))
  show U9 _ _ (ret (.ref I)) _ _ s
  exact UO ⟨_,rfl,"set_iterator",_,hT,gj.lookup,hQ⟩
theorem Bu {a:Vd}{es:Array (Int×UN)}{ep:Nat}{t:WK}{Q:List UN->UP->Prop}(hh:A.handled=none) (S:kD s.heap a (pB w) es ep t) (hn:es.size<=76)
  (hQ:∀(h':V1) (tk:Nat),(∀b o,s.heap.get? b=some o->h'.get? b=some o)->s.heap.objs.size < h'.objs.size->Q (kX w a ep es) {s with heap:=h',toks:=tk}):U9 (Vg prog w) A (collect (.ref a)) Q E s:=by
 have ha:a < s.heap.objs.size:=U7 S.at_
 have hT:s.TypeIs (.ref a) "set":=⟨_,S.at_,rfl⟩
 unfold collect
 (refine UL (abB (Xi aa7 ?_)))
 (rw [WH aa8 _])
 show U9 _ A.in1 (newList [] >>= λl=>again (.builtin "list.__iadd__" ⟨[l,.ref a],[]⟩)) _ _ s
 (refine UL (Vu ?_))
 (refine UO ⟨YZ Zk _,Xi acp ?_⟩)
 (rw [WH Zk _])
 generalize Ud:({cls:=.type "list",data:=.seq ([]:List UN).toArray}:Obj)=l0
 have S1:kD (s.heap.push l0) a (pB w) es ep t:=S.keep λo e=>US _ e
 have hT1:aaD {s with heap:=s.heap.push l0} (.ref a) "set":=⟨_,S1.at_,rfl⟩
 show U9 _ A.in1 (ZS (.ref s.heap.objs.size) (.ref a) (.ref s.heap.objs.size)) _ _ _
 (unfold ZS)
 refine UL (Zs hT1 ?_)
 have h1:adW (.ref s.heap.objs.size) (.ref a)=false:=by
  show (s.heap.objs.size == a)=false
  exact beq_eq_false_iff_ne.mpr (WU ha)
 have h2:(YL "set" == YL "list")=false:=by decide
 have h3:(YL "set" == YL "tuple")=false:=by decide
 (simp only [h1,h2,h3,ad3,Va,if_false])
 refine UL (Hu S1 ?_)
 (refine UL (VB ?_))
 have z1:(s.heap.push l0).objs.size=s.heap.objs.size + 1:=Xx _ _
 rw [z1]
 have S2:kD ((s.heap.push l0).push (p5 a 0 0 es.size ep)) a (pB w) es ep t:=S1.keep λo e=>US _ e
 have hT2:aaD {s with heap:=(s.heap.push l0).push (p5 a 0 0 es.size ep)} (.ref a) "set":=⟨_,S2.at_,rfl⟩
 refine Ho hT2 ?_
 refine GN (by decide +kernel) ?_
 (refine UL (ZH ?_))
 subst Ud
 have hI:((s.heap.push {cls:=.type "list",data:=.seq ([]:List UN).toArray}).push (p5 a 0 0 es.size ep)).get? (s.heap.objs.size + 1)=some (p5 a 0 0 es.size ep):=by rw [<-z1];exact U0 _ rfl
 have hS₁:((s.heap.push {cls:=.type "list",data:=.seq ([]:List UN).toArray}).push (p5 a 0 0 es.size ep)).get? s.heap.objs.size=some {cls:=.type "list",data:=.seq ([]:List UN).toArray}:=US _ (U0 _ rfl)
 refine UL ?_
 (show U9 _ A.in1 (updateSeq s.heap.objs.size (·.push .none) >>= λ_=>updateSeq s.heap.objs.size (·.pop)) _ _ _)
 (refine UL (ZO hS₁ rfl ?_))
 (have hS₂:=Wy (W0 (·.push VM)) hS₁ rfl)
 (refine ZO hS₂ rfl ?_)
 (have hS₃:=Wy (W0 (·.pop)) hS₂ rfl)
 have oth:∀b o,b≠s.heap.objs.size->((s.heap.push {cls:=.type "list",data:=.seq ([]:List UN).toArray}).push (p5 a 0 0 es.size ep)).get? b=some o->
   ((((s.heap.push {cls:=.type "list",data:=.seq ([]:List UN).toArray}).push (p5 a 0 0 es.size ep)).update s.heap.objs.size (W0 (·.push VM))).update s.heap.objs.size (W0 (·.pop))).get? b=some o:=
  (λb o hb e=>(Zd _ _ (WT hb)).trans ((Zd _ _ (WT hb)).trans e))
 have hne:a≠s.heap.objs.size + 1:=Vn (Zo ha)
 have hSf:s.heap.objs.size∉[s.heap.objs.size + 1,a]:=by
  simp only [U8,V3,or_false,not_or]
  exact ⟨Vn (Wt _),WU ha⟩
 obtain ⟨L,T⟩:=S.tab
 refine UO ⟨YZ F.plain_extend_loop _,codeAny_extend_loopS ((GL (A:=A.in1) (prog:=prog) (w:=w) (es:=es) (ep:=ep) (t:=t) hh (s.heap.objs.size + 1) a hne).toS) (by rw [Wv];omega) _ hSf _ es.size 0 _ _ _ rfl (Vl _)
  ⟨0,oth _ _ (WU (Wt _)) hI,S2.keep λo e=>oth _ _ (Vn ha) e,λ_=>Dp T.sop⟩ hS₃ (ItemsOf.nil _) λs' acc' c' hm hS' hacc=>?_⟩
 (show U9 _ A (load s.heap.objs.size >>= _) _ _ s')
 (refine UL (adL hS' ?_))
 have eacc:acc'.toList=kX w a ep es:=by
  obtain ⟨z,q⟩:=hacc
  have lw:(kX w a ep es).length=es.size:=by unfold kX;rw [UR,Vb,nF]
  refine W5 (by rw [Vb,z,lw]) λi x1 x2=>?_
  have this:(kX w a ep es)[i]?=some (acc'[i]'(by simpa using x1)):=q i _ (Xy (by simpa using x1))
  rw [U5 x2] at this
  (exact (V2 this).symm)
 refine UO ?_
 rw [eacc]
 (obtain ⟨h',g',d',tk',os'⟩:=s')
 (have eg:g'=s.gens:=hm.gens)
 (have ed:d'=s.drawn:=hm.drawn)
 have eo:os'=s.os:=hm.os
 subst eg;subst ed;subst eo
 refine hQ h' tk' (λb o e=>?_) (U7 hS')
 have lb:=U7 e
 refine hm.heap b o ?_ (oth b o (Vn lb) (US _ (US _ e)))
 simp only [U8,V3,or_false,not_or]
 exact ⟨Vn lb,Vn (Zo lb)⟩
end
theorem GB:abb (.type "tuple") (.type "set")=pure false:=by rw [YA];kernel_rfl
theorem GA:abb (.type "tuple") (.type "frozenset")=pure false:=by rw [YA];kernel_rfl
theorem FJ:abb (.type "list") (.type "set")=pure false:=by rw [YA];kernel_rfl
theorem FI:abb (.type "list") (.type "frozenset")=pure false:=by rw [YA];kernel_rfl
abbrev gA (led:Bool):Obj:={cls:=.type "set",dict:=none,data:=.set #[] 0 (.fresh 0 0 led)}
abbrev dS (w:Vs):Bool:=!w.params.followText "set-order"
section
variable {prog:U6}{w:Vs}{A:Vz}{E:UN->UP->Prop}{s:UP}{K:UM}{J:Hp}
theorem IG (a:UN){Q₁:UN->UP->Prop}(h:Q₁ (.ref s.heap.objs.size) {s with heap:=s.heap.push (gA (dS w))}):
  (Xf (Vg prog w) A (.call (.builtin "set.__new__") ⟨[.type "set",a],[]⟩) (wants Q₁ E) s):=by
 refine (ZT ?_)
 (show U9 _ A.in1 (do aaJ "set.__new__" ⟨[.type "set",a],[]⟩;again (.builtin "set.__new__" ⟨[.type "set",a],[]⟩)) _ _ s)
 refine UL (ZN (PySem.F.newCall_set_1 a) (UO ⟨YZ adk _,Xi F.entry_set_new ?_⟩))
 (rw [WH adk _])
 (unfold YU.«set.__new__» adu)
 have hsub:=sub_set_self
 (obtain ⟨hp,g,d,tk,os⟩:=s)
 dsimp only
 wp_walk
 (refine Xm (UO ?_))
 dsimp only
 simp only [newObj]
 (refine UL (wpAny_alloc (UO ?_)))
 exact UO h
noncomputable def GQ (prog:U6) (w:Vs) (A:Vz) (E:UN->UP->Prop) (s:UP) (l:Vd) (items:Array UN):Prop:=
 ∃(I:Vd) (fp:List Vd) (St:Nat->UP->Prop) (h2:V1),WalksS prog w A.in1.in1.in1 I fp [I] (λa b=>b=a) items.size (λi v=>items[i]?=some v) St/\s.heap.objs.size∉fp/\s.heap.objs.size < I/\St 0 {s with heap:=h2}/\(∀b o,(s.heap.push (gA (dS w))).get? b=some o->h2.get? b=some o)/\
  ∀R:UN->UP->Prop,R (.ref I) {s with heap:=h2}->U9 (Vg prog w) A.in1.in1 (Z2 (.ref l)) R E {s with heap:=s.heap.push (gA (dS w))}
theorem AZ {ol:Obj}{Q:UN->UP->Prop}{items:Array UN}(P:V1->Prop) (Se:s.heap.get? l=some ol) (hcl:ol.cls=.type T) (Um:abb (.type T) (.type "set")=pure false) (Ul:abb (.type T) (.type "frozenset")=pure false) (hne:(YL T == YL "dict")=false)
 (it:GQ prog w A E s l items)
 (loop:∀{I:Vd}{fp:List Vd}{St:Nat->UP->Prop}{h2:V1}{R:_->UP->Prop},WalksS prog w A.in1.in1.in1 I fp [I] (λa b=>b=a) items.size (λi v=>items[i]?=some v) St->s.heap.objs.size∉fp->s.heap.objs.size < I->St 0 {s with heap:=h2}->(∀b o,(s.heap.push (gA (dS w))).get? b=some o->h2.get? b=some o)->
 (∀s',Moved [s.heap.objs.size,I] (λa b=>b=a) {s with heap:=h2} s'->P s'.heap->R (.ok (.ret .none)) s')->Xf (Vg prog w) A.in1.in1 (.builtin "set.update.loop" ⟨[.ref s.heap.objs.size,.ref I],[]⟩) R {s with heap:=h2})
 (h:∀(h':V1) (tk:Nat),P h'->(∀b o,b < s.heap.objs.size->s.heap.get? b=some o->h'.get? b=some o)->Q (.ref s.heap.objs.size) {s with heap:=h',toks:=tk}):
  (U9 (Vg prog w) A (call (.type "set") [.ref l]) Q E s):=by
 (obtain ⟨c,tl,Ug⟩:=Yk.mro)
 (have hmade:=Yk.made)
 have hsub:=Yk.sub
 (refine ab9 (ZT ?_))
 (show U9 _ _ (callAny (.type "set") _) _ _ _)
 (refine UO ⟨Code.quiet_builtin _ (by decide +kernel),Xi F.entry_type_call ?_⟩)
 (rw [Around.under_plain (weight_type_call_type "set" [.ref l] []) rfl])
 (have h1:=Yk.notType)
 (have h2:=Yk.canCreate)
 have hct:=PySem.F.typeCall_set_1 (.ref l)
 (repeat (any_goals (first | assumption | wp_step)))
 refine XR (IG (.ref l) (E:=E) (Q₁:=λobj s₁=>obj=.ref s.heap.objs.size/\s₁={s with heap:=s.heap.push (gA (dS w))}) ⟨rfl,rfl⟩) λr s₁ hr=>?_
 cases r with
 | error e=>exact hr
 | ok fl=>
  cases fl with
  | ret obj=>
   obtain ⟨rfl,rfl⟩:=hr
   have hS:(s.heap.push (gA (dS w))).get? s.heap.objs.size=some (gA (dS w)):=U0 _ rfl
   have hT:aaD {s with heap:=s.heap.push (gA (dS w))} (.ref s.heap.objs.size) "set":=⟨_,hS,rfl⟩
   (have hli:=Yk.init.lookup)
   (have hbi:=Yk.init.bind (.ref s.heap.objs.size))
   (repeat (any_goals (first | assumption | wp_step)))
   refine XR (abr (R:=wants (λr s₂=>r=.none/\∃h' tk,s₂={s with heap:=h',toks:=tk}/\P h'/\
     (∀b o,b < s.heap.objs.size->s.heap.get? b=some o->h'.get? b=some o)) E) Yk.init.plain F.entry_set_init ((check_set_init_1 hT ?_))) λr₂ s₂ hr₂=>?_
   ·have Tg:(s.heap.push (gA (dS w))).get? l=some ol:=US _ Se
    have Uu:aaD {s with heap:=s.heap.push (gA (dS w))} (.ref l) T:=⟨_,Tg,hcl⟩
    (unfold YU.«set.__init__» noKeywords acV)
    generalize TU:Z2=PI
    wp_walk
    subst TU
    obtain ⟨I,fp,St,h2,W,hSf,hSI,st,hk,hit⟩:=it
    refine hit _ (UL (abB (loop W hSf hSI st hk λs' hm hp=>?_)))
    (obtain ⟨h',g',d',tk',os'⟩:=s')
    (have eg:g'=s.gens:=hm.gens)
    (have ed:d'=s.drawn:=hm.drawn)
    have eo:os'=s.os:=hm.os
    subst eg;subst ed;subst eo
    show U9 _ _ _ _ _ _
    refine UO ?_
    (show U9 _ _ (ret VM) _ _ _)
    refine UO ⟨rfl,h',tk',rfl,hp,λb o hb e=>hm.heap b o ?_ (hk b o (US _ e))⟩
    simp only [U8,V3,or_false,not_or]
    exact ⟨Vn hb,Vn (XS hb hSI)⟩
   ·cases r₂ with
    | error e=>exact hr₂
    | ok fl₂=>
     cases fl₂ with
     | ret r=>
      obtain ⟨rfl,h',tk,rfl,hp,hk'⟩:=hr₂
      (repeat (any_goals (first | assumption | wp_step)))
      exact h _ _ hp hk'
     | _=>exact hr₂.elim
  | _=>exact hr.elim
theorem Hr (hh:A.handled=none) (hl:s.heap.IsTuple l items):GQ prog w A E s l items:=by
 obtain ⟨ol,Se,hcl,nl,hdl⟩:=id hl
 have hl1:(s.heap.push (gA (dS w))).IsTuple l items:=⟨_,US _ Se,hcl,nl,hdl⟩
 have hlS:l < s.heap.objs.size:=U7 Se
 have z1:(s.heap.push (gA (dS w))).objs.size=s.heap.objs.size + 1:=Xx _ _
 have Ss:l≠(s.heap.push (gA (dS w))).objs.size:=by rw [z1];exact Vn (Zo hlS)
 refine ⟨_,_,_,_,(Walks.tuple (A:=A.in1.in1.in1) (by simp [hh]) (s.heap.push (gA (dS w))).objs.size l Ss items).toS,?_,?_,⟨⟨_,U0 _ rfl,rfl,rfl⟩,hl1.push _⟩,λb o e=>US _ e,λR q=>Z7 hl1 q⟩
 ·rw [z1]
  simp only [U8,V3,or_false,not_or]
  exact ⟨Vn (Wt _),WU hlS⟩
 ·rw [z1];exact Wt _
theorem KJ {l:Vd}{items:Array UN}(hh:A.handled=none) (hl:s.heap.IsList l items):GQ prog w A E s l items:=by
 obtain ⟨ol,Se,hcl,nl,hdl⟩:=id hl
 have hl1:(s.heap.push (gA (dS w))).IsList l items:=⟨_,US _ Se,hcl,nl,hdl⟩
 have hlS:l < s.heap.objs.size:=U7 Se
 have z1:(s.heap.push (gA (dS w))).objs.size=s.heap.objs.size + 1:=Xx _ _
 have Ss:l≠(s.heap.push (gA (dS w))).objs.size:=by rw [z1];exact Vn (Zo hlS)
 refine ⟨_,_,_,_,(adS (A:=A.in1.in1.in1) (by simp [hh]) (s.heap.push (gA (dS w))).objs.size l Ss items).toS,?_,?_,⟨⟨_,U0 _ rfl,rfl,rfl⟩,hl1.push _⟩,λb o e=>US _ e,λR q=>Yo hl1 q⟩
 ·rw [z1]
  simp only [U8,V3,or_false,not_or]
  exact ⟨Vn (Wt _),WU hlS⟩
 ·rw [z1];exact Wt _
theorem FO {items:Array UN}{ds:List D}(N:HF K J s) (hz:items.size=ds.length) (hi:∀i v,items[i]?=some v->KV K J v (ds.getD i .non)) (hn:ds.length<=76) (hu:A.units + 16 < Wj){St:Nat->UP->Prop}{h2:V1}{R:_->UP->Prop}(W:WalksS prog w A.in1.in1.in1 I fp [I] (λa b=>b=a) items.size (λi v=>items[i]?=some v) St) (hSf:s.heap.objs.size∉fp) (hSI:s.heap.objs.size < I) (st:St 0 {s with heap:=h2})
 (hk:∀b o,(s.heap.push (gA (dS w))).get? b=some o->h2.get? b=some o) (hR:∀s',Moved [s.heap.objs.size,I] (λa b=>b=a) {s with heap:=h2} s'->(∃ks es ep t,g_ K J s'.heap s.heap.objs.size (dS w) ks es ep t/\∀d,d∈ks↔d∈ds)->R (.ok (.ret .none)) s'):Xf (Vg prog w) A.in1.in1 (.builtin "set.update.loop" ⟨[.ref s.heap.objs.size,.ref I],[]⟩) R {s with heap:=h2}:=by
 have all:(UQ items.size).map (λi=>ds.getD i .non)=ds:=by
  refine W5 (by simp [hz]) λi a b=>?_
  simp [b]
 have hno:∀b,s.heap.objs.size<=b->s.heap.get? b=none:=λb hb=>by
  cases q:s.heap.get? b with
  | none=>rfl
  | some o=>exact absurd (U7 q) (Nat.not_lt.mpr hb)
 refine IU (A:=A.in1.in1) (K:=K) (J:=J) (s0:=s) (led:=dS w) W s.heap.objs.size hSf (λi=>ds.getD i .non) hi N (λb hb=>hno b ?_) (by simp only [in1_units];omega) (by omega) items.size 0 _ [] #[] 0 (.fresh 0 0 (dS w)) (by omega) (Vl _) st (λb o e=>hk b o (US _ e)) (Eb (hk _ _ (U0 _ rfl))) (λd=>by simp) λs' ks es ep t hm hS' hmem=>hR s' hm ⟨ks,es,ep,t,hS',by rw [all] at hmem;exact hmem⟩
 rcases U8.mp hb with rfl | hb
 ·exact UX _
 ·rw [U4.mp hb];exact Z1 hSI
theorem A2 {items:Array UN}{ds:List D}{Q:UN->UP->Prop}(N:HF K J s) (hh:A.handled=none) (hl:s.heap.IsTuple l items) (hz:items.size=ds.length) (hi:∀i v,items[i]?=some v->KV K J v (ds.getD i .non)) (hn:ds.length<=76) (hu:A.units + 16 < Wj)
 (h:∀(h':V1) (tk:Nat) ks es ep t,g_ K J h' s.heap.objs.size (dS w) ks es ep t->(∀d,d∈ks↔d∈ds)->(∀b o,b < s.heap.objs.size->s.heap.get? b=some o->h'.get? b=some o)->Q (.ref s.heap.objs.size) {s with heap:=h',toks:=tk}):
  (U9 (Vg prog w) A (call (.type "set") [.ref l]) Q E s):=by
 obtain ⟨ol,Se,hcl,_⟩:=id hl
 exact AZ (λh'=>∃ks es ep t,g_ K J h' s.heap.objs.size (dS w) ks es ep t/\∀d,d∈ks↔d∈ds) Se hcl GB GA (by decide) (Hr hh hl) (λW a b c d e=>FO N hz hi hn hu W a b c d e) λh' tk ⟨ks,es,ep,t,a,b⟩=>h h' tk ks es ep t a b
theorem By {l:Vd}{items:Array UN}{ds:List D}{Q:UN->UP->Prop}(N:HF K J s) (hh:A.handled=none) (hl:s.heap.IsList l items) (hz:items.size=ds.length) (hi:∀i v,items[i]?=some v->KV K J v (ds.getD i .non)) (hn:ds.length<=76) (hu:A.units + 16 < Wj)
  (h:∀(h':V1) (tk:Nat) ks es ep t,g_ K J h' s.heap.objs.size (dS w) ks es ep t->(∀d,d∈ks↔d∈ds)->(∀b o,b < s.heap.objs.size->s.heap.get? b=some o->h'.get? b=some o)->Q (.ref s.heap.objs.size) {s with heap:=h',toks:=tk}):
  (U9 (Vg prog w) A (call (.type "set") [.ref l]) Q E s):=by
 obtain ⟨ol,Se,hcl,_⟩:=id hl
 exact AZ (λh'=>∃ks es ep t,g_ K J h' s.heap.objs.size (dS w) ks es ep t/\∀d,d∈ks↔d∈ds) Se hcl FJ FI (by decide) (KJ hh hl) (λW a b c d e=>FO N hz hi hn hu W a b c d e) λh' tk ⟨ks,es,ep,t,a,b⟩=>h h' tk ks es ep t a b
end
end DL
namespace DL
open PySem PySem.Spec PyProof.Rows L2 ST
open PySem.W (KasT kas_sort kas_ask)
mutual
noncomputable def formOf:D->Fm
 | .int _=>.i
 | .tup xs=>B7 xs
 | _=>.b
noncomputable def B7:List D->Fm
 | []=>.tn
 | x::xs=>.tc (formOf x) (B7 xs)
end
noncomputable def rQ:Fm->D->Bool
 | .i,.int _=>true
 | .tn,.tup xs=>xs.isEmpty
 | .tc x r,.tup (y::ys)=>rQ x y && rQ r (.tup ys)
 | _,_=>false
theorem um:∀(f:Fm) (d:D),rQ f d=true->nq f d
 | .i,.int k,_=>⟨k,rfl⟩
 | .tn,.tup [],_=>⟨[],rfl,rfl⟩
 | .tc x r,.tup (y::ys),h=>by
  unfold rQ at h
  rw [UT] at h
  exact ⟨_,rfl,y,ys,rfl,um x y h.1,um r (.tup ys) h.2⟩
noncomputable def JB:List D->Bool
 | []=>true
 | d::r=>(match ie d with
  | some k=>gX k (d::r)
  | none=>false) && (d::r).all (rQ (formOf d))
def nZ (ds:List D):Bool:=decide (ds.length < 64) && (areKeys ds && (decide (deps ds<=8) && JB ds))
theorem HQ (h:JB ds=true):∃k f,∀d∈ds,ie d=some k/\nq f d:=by
 cases ds with
 | nil=>exact ⟨.i,.i,λ_ h=>nomatch h⟩
 | cons d r=>
  unfold JB at h
  rw [UT] at h
  cases q:ie d with
  | none=>rw [q] at h;cases h.1
  | some k=>
   rw [q] at h
   exact ⟨k,formOf d,λx hx=>⟨mz h.1 x hx,um _ _ (Vm.mp h.2 x hx)⟩⟩
theorem ua {n:Nat}:∀{ds:List D},deps ds<=n->∀d∈ds,dep d<=n
 | [],_,_,h=>nomatch h
 | x::r,hn,d,h=>by
  unfold deps at hn
  (rcases U8.mp h with rfl | h)
  ·omega
  ·exact ua (ds:=r) (by omega) d h
theorem oK {k:Hd}:∀{ds:List D},(∀d∈ds,ie d=some k)->gX k ds=true
 | [],_=>rfl
 | x::r,h=>by
  unfold gX
  rw [h x (UW ..),oK λd hd=>h d (UU _ hd)]
  cases k <;> rfl
structure PM (ds:List D) (k:Hd) (f:Fm):Prop where
 ln:ds.length < 64
 ky:areKeys ds=true
 dp:deps ds<=8
 al:∀d∈ds,ie d=some k/\nq f d
theorem uo (h:nZ ds=true):∃k f,PM ds k f:=by
 unfold nZ at h
 rw [UT,UT,UT] at h
 obtain ⟨h1,h2,h3,h4⟩:=h
 obtain ⟨k,f,h5⟩:=HQ h4
 exact ⟨k,f,of_decide_eq_true h1,h2,of_decide_eq_true h3,h5⟩
abbrev kW (X:Cx) (H0:Hp) (a:Vd) (ds:List D):HO:=.ext λh=>∃ks es ep t,g_ X.K H0 h a (dS X.w) ks es ep t/\∀d,d∈ks↔d∈ds
section
variable {X:Cx}
theorem Jy {K:UM}{J:Hp}{k:Hd}{f:Fm}{ds:List D}{vs:List V}{us:List UN}(o:PM ds k f) (rs:aL K J ds vs) (rv:Vals vs us):∀i v,us.toArray[i]?=some v->KV K J v (ds.getD i .non):=λi v q=>by
 have l1:vs.length=us.length:=rv.length
 have l2:ds.length=vs.length:=rs.length
 have hi:i < us.length:=by
  have:=(Wh.mp q).1
  simpa using this
 have e:us.getD i VM=v:=by
  simp at q
  simp [aao,q]
 have r1:=jZ rs (i:=i) (by omega)
 have r2:=j4 rv (i:=i) (by omega)
 rw [e] at r2
 have m:=iC (ds:=ds) (i:=i) (by omega)
 refine ⟨?_,sR o.ky _ m,ua o.dp _ m,_,r1,r2⟩
 have hh:=(o.al _ m).1
 generalize dJ ds i=d at r1 hh
 generalize vs.getD i V.non=vv at r1 r2
 cases d with
 | tup xs=>cases r1 with
  | tup _ _=>cases r2;exact ⟨_,rfl⟩
 | _=>cases hh
theorem EV (hu:X.A.units + 64 < Wj) (hc:X.calm=true):cO X (.type "set") (λxs H Q=>∃p vs ds J0,xs=[.ref p]/\dg X.K H p vs/\aU J0 H/\aL X.K J0 ds vs/\nZ ds=true/\∀l,H l=none->Q (.ref l) (upd H l (kW X J0 l ds))):=by
 intro UB s σ H xs us Q I r h
 obtain ⟨p,vs,ds,J0,rfl,hq,sm,rs,oks,q⟩:=h
 obtain ⟨u,rfl,rx⟩:=vals1 r
 cases rx
 obtain ⟨k,f,o⟩:=uo oks
 have N:HF X.K J0 s:=HF.of (c:=⟨X.K,H,H,λ_=>True⟩) I sm
 obtain ⟨UC,r',pt,hz⟩:=I.tuple hq
 refine A2 N (I.ok.hd hc) pt (by simp [<-r'.length,rs.length]) (Jy o rs r') (by have:=o.ln;omega) (by omega) λh' tk ks es ep t S hm kp=>?_
 exact ⟨.ref s.heap.objs.size,_,I.laid (t':=tk) (λb o e=>kp b o (U7 e) e) (UX _) (show cT X.prog X.w _ _ _ (kW X J0 s.heap.objs.size ds) from ⟨⟨ks,es,ep,t,S,hm⟩,⟨_,S.at_⟩,λh1 h2 ⟨ks,es,ep,t,S,hm⟩ e=>⟨ks,es,ep,t,S.keep e,hm⟩⟩),rfl,q _ (I.hok.fresh (UX _))⟩
theorem EU (hu:X.A.units + 64 < Wj) (hc:X.calm=true):cO X (.type "set") (λxs H Q=>∃p vs ds J0,xs=[.ref p]/\cB X.K H p vs/\aU J0 H/\aL X.K J0 ds vs/\nZ ds=true/\∀l,H l=none->Q (.ref l) (upd H l (kW X J0 l ds))):=by
 intro UB s σ H xs us Q I r h
 obtain ⟨p,vs,ds,J0,rfl,hq,sm,rs,oks,q⟩:=h
 obtain ⟨u,rfl,rx⟩:=vals1 r
 cases rx
 obtain ⟨k,f,o⟩:=uo oks
 have N:HF X.K J0 s:=HF.of (c:=⟨X.K,H,H,λ_=>True⟩) I sm
 obtain ⟨UC,r',pl,hz⟩:=I.list hq
 refine By N (I.ok.hd hc) pl.isList (by simp [<-r'.length,rs.length]) (Jy o rs r') (by have:=o.ln;omega) (by omega) λh' tk ks es ep t S hm kp=>?_
 exact ⟨.ref s.heap.objs.size,_,I.laid (t':=tk) (λb o e=>kp b o (U7 e) e) (UX _) (show cT X.prog X.w _ _ _ (kW X J0 s.heap.objs.size ds) from ⟨⟨ks,es,ep,t,S,hm⟩,⟨_,S.at_⟩,λh1 h2 ⟨ks,es,ep,t,S,hm⟩ e=>⟨ks,es,ep,t,S.keep e,hm⟩⟩),rfl,q _ (I.hok.fresh (UX _))⟩
theorem ET (hu:X.A.units + 64 < Wj) (hc:X.calm=true):cO X (.type "set") (λxs H Q=>∃p vs ds J0,xs=[.ref p]/\(dg X.K H p vs\/cB X.K H p vs)/\aU J0 H/\aL X.K J0 ds vs/\nZ ds=true/\∀l,H l=none->Q (.ref l) (upd H l (kW X J0 l ds))):=λUB s σ H xs us Q I r ⟨p,vs,ds,J0,h1,h2,h3⟩=>
 h2.elim (λh2=>EV hu hc UB s σ H xs us Q I r ⟨p,vs,ds,J0,h1,h2,h3⟩) λh2=>EU hu hc UB s σ H xs us Q I r ⟨p,vs,ds,J0,h1,h2,h3⟩
end
noncomputable def dd:List D->List D
 | []=>[]
 | x::xs=>if (dd xs).any (bu x)=true then dd xs else x::dd xs
def gE (ds:List D):List D:=bW (dd ds)
section
variable {P:D->Prop}
theorem yX (p:gx P):∀(ds:List D),(∀x∈ds,P x)->(dd ds).Nodup/\∀y,y∈dd ds↔y∈ds
 | [],_=>⟨Xw,λ_=>.rfl⟩
 | x::xs,h=>by
  obtain ⟨h1,h2⟩:=yX p xs λy hy=>h y (UU _ hy)
  have px:=h x (UW ..)
  have eqv:(dd xs).any (bu x)=true↔x∈xs:=by
   rw [WI]
   constructor
   ·rintro ⟨z,hz,e⟩
    have hz':=(h2 z).mp hz
    rw [(p.eq x z px (h z (UU _ hz'))).mp e]
    exact hz'
   ·intro hx
    exact ⟨x,(h2 x).mpr hx,(p.eq x x px px).mpr rfl⟩
  unfold dd
  by_cases c:(dd xs).any (bu x)=true
  ·rw [if_pos c]
   refine ⟨h1,λy=>?_⟩
   rw [h2 y,U8]
   exact ⟨.inr,λz=>z.elim (λe=>e▸eqv.mp c) id⟩
  ·rw [if_neg c]
   refine ⟨WD.mpr ⟨λz=>c (eqv.mpr ((h2 x).mp z)),h1⟩,λy=>?_⟩
   rw [U8,U8,h2 y]
theorem Bb (p:gx P):∀{A B:List D},(∀x∈A,P x)->A.Pairwise (λa b=>d8 a b=true)->B.Pairwise (λa b=>d8 a b=true)->(∀y,y∈A↔y∈B)->A=B
 | [],[],_,_,_,_=>rfl
 | [],b::B,_,_,_,h=>by cases (h b).mpr UW
 | a::A,[],_,_,_,h=>by cases (h a).mp UW
 | a::A,b::B,hp,hA,hB,h=>by
  obtain ⟨a1,a2⟩:=Xp.mp hA
  obtain ⟨b1,b2⟩:=Xp.mp hB
  have pa:=hp a UW
  have pb:=hp b ((h b).mpr UW)
  have no:∀z,P z->d8 z z=true->False:=λz pz q=>by
   have:=p.asy z z pz pz q
   rw [q] at this;cases this
  have e:a=b:=by
   rcases U8.mp ((h a).mp UW) with e | e
   ·exact e
   ·rcases U8.mp ((h b).mpr UW) with f | f
    ·exact f.symm
    ·exact (no a pa (p.tra _ _ _ pa pb pa (a1 b f) (b1 a e))).elim
  subst e
  have:A=B:=by
   refine Bb p (λx hx=>hp x (UU _ hx)) a2 b2 λy=>⟨λhy=>?_,λhy=>?_⟩
   ·rcases U8.mp ((h y).mp (UU _ hy)) with e | e
    ·subst e;exact (no y pa (a1 y hy)).elim
    ·exact e
   ·rcases U8.mp ((h y).mpr (UU _ hy)) with e | e
    ·subst e;exact (no y pa (b1 y hy)).elim
    ·exact e
  rw [this]
theorem wO (p:gx P){ds:List D}(h:∀x∈ds,P x) (nd:ds.Nodup):(bW ds).Pairwise λa b=>d8 a b=true:=by
 have up:=II p ds h
 have pm:=jJ ds
 have nd':(bW ds).Nodup:=pm.nodup_iff.mpr nd
 have both:=ae7 up nd'
 refine (Yj.mp both).imp ?_
 rintro a b ⟨ha,hb,h1,h2⟩
 cases q:d8 a b with
 | true=>rfl
 | false=>exact absurd (p.tri a b (h a (pm.mem_iff.mp ha)) (h b (pm.mem_iff.mp hb)) q h1) h2
theorem IJ (p:gx P){ds ks:List D}(h:∀x∈ds,P x) (nd:ks.Nodup) (hm:∀d,d∈ks↔d∈ds):bW ks=gE ds:=by
 obtain ⟨h1,h2⟩:=yX p ds h
 have hk:∀x∈ks,P x:=λx hx=>h x ((hm x).mp hx)
 have hd:∀x∈dd ds,P x:=λx hx=>h x ((h2 x).mp hx)
 exact Bb p (λx hx=>hk x ((jJ ks).mem_iff.mp hx)) (wO p hk nd) (wO p hd h1) λy=>by
  rw [(jJ ks).mem_iff,hm y]
  show _↔y∈bW (dd ds)
  rw [(jJ (dd ds)).mem_iff,h2 y]
theorem uz (p:gx P) (h:∀x∈ds,P x):(gE ds).Pairwise (λa b=>d8 a b=true)/\∀d,d∈gE ds↔d∈ds:=by
 obtain ⟨h1,h2⟩:=yX p ds h
 exact ⟨wO p (λx hx=>h x ((h2 x).mp hx)) h1,λd=>by show d∈bW (dd ds)↔_;rw [(jJ (dd ds)).mem_iff,h2 d]⟩
end
theorem fQ.reps {K:UM}{J:Hp}{es:List (Int×UN)}{ks:List D}(h:fQ K J es ks):∃vs,aL K J ks vs/\Vals vs (es.map (·.2)):=by
 induction h with
 | nil=>exact ⟨_,.nil,.nil⟩
 | cons _ hk _ ih=>
  obtain ⟨vs,h1,h2⟩:=ih
  obtain ⟨_,_,_,v,r,rv⟩:=hk
  exact ⟨v::vs,.cons r h1,.cons rv h2⟩
section
variable {X:Cx}
theorem Dt (hu:X.A.units + 64 < Wj) (hc:X.calm=true):cO X (.builtin "sorted") (λxs H Q=>∃p ds J0,xs=[.ref p]/\H p=some (kW X J0 p ds)/\aU J0 H/\nZ ds=true/\∀l vs',H l=none->aL X.K J0 (gE ds) vs'->Q (.ref l) (upd H l (.lst vs'))):=by
 intro UB s σ H xs us Q I r h
 obtain ⟨p,ds,J0,rfl,hp,sm,oks,q⟩:=h
 obtain ⟨u,rfl,rx⟩:=vals1 r
 cases rx
 obtain ⟨k,f,o⟩:=uo oks
 have hh:X.A.handled=none:=I.ok.hd hc
 have N:HF X.K J0 s:=HF.of (c:=⟨X.K,H,H,λ_=>True⟩) I sm
 obtain ⟨⟨ks,es,ep,t,S,hm⟩,_⟩:=(show cT X.prog X.w H s.heap p (kW X J0 p ds) from I.hok p _ hp)
 obtain ⟨ks',pm,en'⟩:=S.en.perm (tX X.w p ep es).symm
 have nd':ks'.Nodup:=pm.nodup_iff.mp S.nd
 have hm':∀d,d∈ks'↔d∈ds:=λd=>by rw [<-pm.mem_iff,hm d]
 obtain ⟨vs,rs,rv⟩:=en'.reps
 have hv:kX X.w p ep es=(gO X.w p ep es).toList.map (·.2):=rfl
 rw [<-hv] at rv
 generalize hits:kX X.w p ep es=UC at rv
 have l1:vs.length=UC.length:=rv.length
 have l2:ks'.length=vs.length:=rs.length
 have len:ks'.length<=ds.length:=Vx nd' λd hd=>(hm' d).mp hd
 have l64:=o.ln
 have les:es.size=ks'.length:=by rw [<-Vb,S.en.length,pm.length_eq]
 have out:=IJ (jK f) (λx hx=>(o.al x hx).2) nd' hm'
 refine qY I (λE C h=>Bu hh S.wk (by omega) λh1 tk k1 le=>hits▸h h1 tk k1 (Z1 le)) rv l2 (by omega) (EB (N.keep λ_ _ e=>e) rs rv (k:=k) (λd hd=>⟨(o.al d ((hm' d).mp hd)).1,Vq (ua o.dp d ((hm' d).mp hd)) (by decide)⟩) (oK λd hd=>(o.al d ((hm' d).mp hd)).1) (λx hx y hy=>(jK f).lt _ _ (o.al _ ((hm' x).mp hx)).2 (o.al _ ((hm' y).mp hy)).2) hu) λl vs' hl rr=>q l vs' hl (out▸rr _ rs)
end
end DL
namespace DL
open PySem PySem.Spec PyProof.Rows L2 ST
section
variable {X:Cx}{c:C}{e:Vv}{pos pos2:Pos}
theorem EL:VR "set"=some (.type "set"):=by decide +kernel
noncomputable def Am:List R->M R
 | [r]=>iK r >>= λxs=>if nZ xs=true then .ok (.l .fresh (gE xs)) else .bad
 | _=>.bad
noncomputable def Iv (X:Cx):List V->Hp->VK->Prop:=λxs H Q=>∃p vs ds J0,xs=[.ref p]/\(dg X.K H p vs\/cB X.K H p vs)/\aU J0 H/\aL X.K J0 ds vs/\nZ ds=true/\∀l,H l=none->Q (.ref l) (upd H l (kW X J0 l ds))
noncomputable def Iw (X:Cx):List V->Hp->VK->Prop:=λxs H Q=>∃p ds J0,xs=[.ref p]/\H p=some (kW X J0 p ds)/\aU J0 H/\nZ ds=true/\∀l vs',H l=none->aL X.K J0 (gE ds) vs'->Q (.ref l) (upd H l (.lst vs'))
theorem wN {J H:Hp}{p:Vd}{vs:List V}{ds:List D}{Q:VK}(hq:dg X.K H p vs\/cB X.K H p vs) (sm:aU J H) (rs:aL X.K J ds vs) (ok:nZ ds=true) (q:∀l o l2 vs',H l=none->upd H l o l2=none->aL X.K J (gE ds) vs'->Q (.ref l2) (upd (upd H l o) l2 (.lst vs'))):
  Iv X [.ref p] H λv H2=>Iw X [v] H2 Q:=
 ⟨p,vs,ds,J,rfl,hq,sm,rs,ok,λl hl=>⟨l,ds,J,rfl,b9,(Ext.new sm hl _).sub,ok,λl2 vs' h2 rr=>q l _ l2 vs' hl h2 rr⟩⟩
end
end DL
namespace DL
open PySem PySem.Spec PyProof.Rows L2 DX
section
variable {X:Cx}{c:C}{a e ke:Vv}{g gk:G R}{pos:Pos}{elts:List Vv}{kk:Nat}{tp:Pos}
theorem Gj {p:Pos}{gs:G (List R)}(ha:iX X c [a] gs) (hm:X.mg "enumerate"=none) (hK:X.K=c.K:=by rfl) (hg:Gl X "enumerate":=by rfl) (hs:UZ [a] X.env=[(false,eval a X.env)]:=by rfl) (hs2:UZ [] X.env=[]:=by rfl):
  xh X c (.Tuple elts kk tp) (.Call (.Name "enumerate" p) [a] [] pos) (Js gs):=have ha:=ha.h;⟨
 rX (Lj hg hm ha hs hs2) λσ H Q ⟨J,env,sr,w⟩=>by
  refine ⟨J,env,sr,aF (aK w) λrs wr vs J1 H1 e1 r1=>?_⟩
  split at wr
  ·obtain ⟨v,rfl,r⟩:=r1.one
   obtain ⟨xs,q1,wr⟩:=LW wr
   have hp1:=sr.hp.ext e1
   obtain ⟨k1,l1,us1,rfl,a1,s1⟩:=Of hp1 r q1
   refine ⟨k1,l1,us1,rfl,by rw [hK];exact s1,?_⟩
   rw [hK]
   refine wr _ J1 H1 e1 λi J' H' hp u=>?_
   have t1:=s1.same u.2
   refine ⟨λhl=>⟨us1,t1,?_⟩,λd hd=>?_⟩
   ·rw [E9,a1.length] at hl
    exact hl
   ·obtain ⟨x,b0,rfl⟩:=G8 hd
    obtain ⟨ux,b1,c1⟩:=a1.get b0
    refine ⟨⟨us1,ux,t1,b1⟩,λz H2 ⟨q,hq,e,hy⟩=>?_⟩
    have:=hy us1 ux t1 b1
    subst this e
    have s':aU J' (upd J' q (.tup [.int i,ux])):=cQ (hp.sub.free hq) _
    exact ⟨_,Ext.newJ hp.sub hq _,.tup (.inl (.inl b9)) (.cons (.int _) (.cons ((c1.mono u.1).mono s') .nil))⟩
  ·exact wr.elim⟩
end
end DL
namespace DL
open PySem PySem.Spec PyProof.Rows L2 ST PySem.SetTable
end DL
namespace DL
open PySem PySem.Spec PyProof.Rows L2 ST
end DL
namespace DL
open PySem PySem.Spec PyProof.Rows L2 ST DX
open PySem.W (KasT kas_sort kas_ask)
end DL
namespace DL
open PySem PySem.Spec PyProof.Rows L2 ST DX
section
variable {X:Cx}{c:C}{e:Vv}{pos pos2:Pos}
def u6:List R->M R:=Am
theorem xY {gs:G (List R)}(hu:X.A.units + 64 < Wj) (ha:iX X c [e] gs) (hm:X.mg "sorted"=none) (hm2:X.mg "set"=none) (hK:X.K=c.K:=by rfl) (hc:X.calm=true:=by rfl) (hg:Gl X "sorted":=by rfl) (S6:Gl X "set":=by rfl)
 (he:UZ [.Call (.Name "set" p2) [e] [] pos2] X.env=(false,eval (.Call (.Name "set" p2) [e] [] pos2) X.env)::UZ [] X.env:=by rfl) (hpl:(Wu pos (UZ [] X.env)).any (·.1)=false:=by rfl)
 (Sw:UZ [e] X.env=(false,eval e X.env)::UZ [] X.env:=by rfl) (Ti:(Wu pos2 (UZ [] X.env)).any (·.1)=false:=by rfl):
  QD X c (.Call (.Name "sorted" p) [.Call (.Name "set" p2) [e] [] pos2] [] pos) (gN u6 gs):=by
 have ha:=ha.h
 refine ⟨?_⟩
 have h1:=m9 (p:=p2) (pos:=pos2) (show cO X (.type "set") (Iv X) from ET hu hc) S6 hm2 EL ha (by decide) (by decide) Sw Ti
 have h2:=ur (p:=p) (pos:=pos) (show cO X (.builtin "sorted") (Iw X) from Dt hu hc) hg hm lH (fH h1 iZ he) (by decide) (by decide) he hpl
 refine HZ (ta:=Eg) (f:=Am) (r:=λvs H1 Q=>Iv X vs H1 λv H2=>Iw X [v] H2 Q) h2 rfl ?_
 intro He J H xs vs Q hp rs w
 unfold Am at w
 split at w
 ·obtain ⟨v,rfl,r⟩:=rs.one
  rename_i r0
  obtain ⟨xs,q,w⟩:=jr w
  split at w
  ·rename_i ok
   have fin:∀(vs:List V),aL c.K J xs vs->∀l o l2 vs',H l=none->upd H l o l2=none->aL X.K J (gE xs) vs'->Q (.ref l2) (upd (upd H l o) l2 (.lst vs')):=λvs _ l o l2 vs' hl h2 rr=>by
    rw [hK] at rr
    have e1:=Ext.new hp.sub hl o
    have e2:=Ext.new e1.sub h2 (.lst vs')
    exact w _ _ _ (e1.trans e2) (RR.from e1.h (iz (hp.ext e1) h2 rr))
   cases r0 with
   | d y=>
    cases y with
    | tup ys=>
     cases q
     cases r with
     | tup h hs=>exact wN (.inl (by rw [hK];exact fk hp.sub h)) hp.sub (by rw [hK];exact hs) ok (fin _ hs)
    | lst ys=>
     cases q
     obtain ⟨p,vs,rfl,hq,hs⟩:=RR.list hp r rfl
     exact wN (.inr (by rw [hK];exact hq)) hp.sub (by rw [hK];exact hs) ok (fin _ hs)
    | _=>cases q
   | mo _ _=>cases q
   | mb _ _=>cases q
   | mf _ _=>cases q
   | l m ys=>
    cases q
    obtain ⟨p,vs,rfl,hq,hs⟩:=RR.list hp r rfl
    exact wN (.inr (by rw [hK];exact hq)) hp.sub (by rw [hK];exact hs) ok (fin _ hs)
  ·exact w.elim
 ·exact w.elim
end
end DL
namespace DL
open PySem PySem.Spec PyProof.Rows L2 DX
end DL
namespace K55
open PySem DL
def sL:List Str:=["told","least","most"]
noncomputable def tw:G O:=(bK (ki (gy (bx (gN (aN 1 K01.qf) (ao (af 0) aE)))) (ki (bx (g2 (nO λi j=>.bl (decide (i < j))) (af 0) (af 1))) (bx (g2 (nO λi j=>.bl (decide (j < i))) (af 0) (af 2))))) y9 cL)
def fR (as:List S):M R:=fin (tw (aV sL as))
end K55
namespace K55
open PySem DL K01 WP K51 K52
theorem uY (a b:Nat):bu (dN a) (dN b)=(a == b):=by
 show ((a:Int) == (b:Int))=_
 by_cases h:a=b
 ·subst h;simp
 ·rw [beq_eq_false_iff_ne.mpr h,beq_eq_false_iff_ne.mpr (by omega)]
structure Es (n:Nat) (w:Wd):Prop where
 mp:∀r∈w.ms,r.2.length<=n/\∀p∈r.2,p < w.m
 ap:∀r∈w.ar,r.2.length<=n/\∀p∈r.2,p.1 < w.m/\p.2 < w.m
def em (m:Nat) (x:Nat×Nat):Nat:=if x.1=0 then x.2 else x.2 + m
theorem inN (l:Nat) (xs:List Nat):inD (dN l) (xs.map dN)=decide (l∈xs):=by
 unfold inD
 rw [Z_,Vy,WI,decide_eq_true_eq]
 constructor
 ·rintro ⟨x,hx,e⟩
  have e:bu (dN x) (dN l)=true:=e
  rw [uY] at e
  rw [<-eq_of_beq e];exact hx
 ·intro h
  exact ⟨l,h,by show bu (dN l) (dN l)=true;rw [uY];simp⟩
theorem xB (a b:Nat×Nat):bu (dP a) (dP b)=decide (a=b):=by
 have:bu (dP a) (dP b)=(bu (dN a.1) (dN b.1) && (bu (dN a.2) (dN b.2) && true)):=by
  show bu (.tup [dN a.1,dN a.2]) (.tup [dN b.1,dN b.2])=_
  rw [jU,iD,iD,cH]
 rw [this,uY,uY,Vy]
 obtain ⟨a1,a2⟩:=a
 obtain ⟨b1,b2⟩:=b
 simp
theorem MN (l:Nat×Nat) (xs:List (Nat×Nat)):inD (dP l) (xs.map dP)=decide (l∈xs):=by
 unfold inD
 rw [Z_,Vy,WI,decide_eq_true_eq]
 constructor
 ·rintro ⟨x,hx,e⟩
  have e:bu (dP x) (dP l)=true:=e
  rw [xB,decide_eq_true_eq] at e
  rw [<-e];exact hx
 ·intro h
  exact ⟨l,h,by show bu (dP l) (dP l)=true;rw [xB];simp⟩
theorem Hy {env:Ev}{Q:O->Prop}{g:G R}{i j k:Nat}{xs zs:List D}(h1:env[i]?=some (some (.own zs))) (h2:env[j]?=some (some (.own xs))) (hij:i≠j) (h:g env=.ok (.d (.int k))) (hk:k < xs.length) (lz:zs.length < 1000) (lx:xs.length<=1000)
  (c:Q (.nx ((env.set j (some (.own (xs.eraseIdx k)))).set i (some (.own (zs++[xs[k]])))))):Wp (nQ i j g env) Q:=by
 refine ⟨_,?_,c⟩
 unfold nQ
 rw [h1,h2]
 show (if i=j then M.bad else (g env >>= _))=_
 rw [if_neg hij,h,aS]
 show (if 0<=(k:Int)/\(k:Int).toNat < xs.length/\zs.length < sizeLine/\xs.length<=sizeLine then _ else _)=_
 rw [if_pos ⟨by omega,by simpa using hk,Vf lz (gz (UX _)),gz lx⟩]
 rw [V7,U5 hk]
noncomputable def CL:D->Nat
 | .int i=>i.toNat
 | _=>0
noncomputable def Ba:D->Nat×Nat
 | .tup [x,y]=>(CL x,CL y)
 | _=>(0,0)
theorem PJ (n:Nat):CL (dN n)=n:=rfl
theorem vN (n:Nat×Nat):Ba (dP n)=n:=rfl
theorem back {α:Type}(h:α->D) (u:D->α) (hu:∀x,u (h x)=x){l:List D}(hl:∀d∈l,∃x,d=h x):(l.map u).map h=l:=by
 rw [Vr]
 refine (Wx (g:=id) λd hd=>?_).trans (List.map_id _)
 obtain ⟨x,rfl⟩:=hl d hd
 show h (u (h x))=h x
 rw [hu]
theorem ym {α:Type}(h:α->D) (u:D->α) (hu:∀x,u (h x)=x) (xs:List α):((bW (xs.map h)).map u).map h=bW (xs.map h):=back h u hu λd hd=>by
 obtain ⟨x,_,rfl⟩:=UY.mp (Gx hd)
 exact ⟨x,rfl⟩
def pF:Fm:=.tc .i (.tc .i .tn)
theorem Au (p:Nat×Nat):nq pF (dP p):=⟨_,rfl,_,_,rfl,⟨_,rfl⟩,_,rfl,_,_,rfl,⟨_,rfl⟩,[],rfl,rfl⟩
theorem OV (xs:List Nat) (hl:xs.length < 64):AL (xs.map dN)=true:=by
 unfold AL
 rw [UR,decide_eq_true hl,Y_,Vm]
 intro d hd
 obtain ⟨x,_,rfl⟩:=UY.mp hd
 rfl
theorem MM (xs:List (Nat×Nat)):∀d∈xs.map dP,ie d=some .i:=λd hd=>by
 obtain ⟨x,_,rfl⟩:=UY.mp hd
 rfl
theorem OX (xs:List (Nat×Nat)) (hl:xs.length < 64):xR (xs.map dP)=true:=by
 have T8:=Ad xs
 have hc:Aa (xs.map dP)=true:=by
  unfold Aa
  rw [Vm]
  intro x hx
  rw [Vm]
  intro y hy
  obtain ⟨a,_,rfl⟩:=UY.mp hx
  obtain ⟨b,_,rfl⟩:=UY.mp hy
  exact (jK pF).lt _ _ (Au a) (Au b)
 unfold xR
 rw [hc,decide_eq_true T8,UR,decide_eq_true hl]
 cases xs with
 | nil=>rfl
 | cons x xs=>
  have hh:HR ((x::xs).map dP)=true:=by
   show gX .i ((x::xs).map dP)=true
   exact oK (MM (x::xs))
  rw [hh]
  simp
theorem Qy (xs:List Nat) (hl:xs.length < 64):nP [.l .fresh (xs.map dN)]=.ok (.l .fresh (bW (xs.map dN))):=by
 show (if xR (xs.map dN)=true then M.ok (R.l .fresh (bW (xs.map dN))) else if AL (xs.map dN)=true then M.ok (R.l .fresh (bW (xs.map dN))) else .bad)=_
 rw [if_pos (OV xs hl)]
 split <;> rfl
theorem Qz (xs:List (Nat×Nat)) (hl:xs.length < 64):nP [.l .fresh (xs.map dP)]=.ok (.l .fresh (bW (xs.map dP))):=by
 show (if xR (xs.map dP)=true then M.ok (R.l .fresh (bW (xs.map dP))) else if AL (xs.map dP)=true then M.ok (R.l .fresh (bW (xs.map dP))) else .bad)=_
 rw [if_pos (OX xs hl)]
noncomputable def iM (w:Wd) (ps:List Nat):Wd:=⟨w.m,w.ms.map λr=>(r.1,(bW ((r.2.map λp=>ps.getD p 0).map dN)).map CL),w.ar.map λr=>(r.1,(bW ((r.2.map λp=>(ps.getD p.1 0,ps.getD p.2 0)).map dP)).map Ba)⟩
theorem OW (xs:List (Nat×Nat)) (hl:xs.length < 64):nZ (xs.map dP)=true:=by
 have h1:areKeys (xs.map dP)=true:=by
  induction xs with
  | nil=>rfl
  | cons x xs ih=>
   rw [U_]
   show (isKey (dP x) && areKeys (xs.map dP))=true
   rw [ih (by simp at hl;omega)]
   rfl
 have h2:deps (xs.map dP)<=8:=gS λd hd=>by
  obtain ⟨x,_,rfl⟩:=UY.mp hd
  exact (by decide:(1:Nat)<=8)
 have h3:JB (xs.map dP)=true:=by
  cases xs with
  | nil=>rfl
  | cons x xs=>
   show (gX .i ((x::xs).map dP) && ((x::xs).map dP).all (rQ pF))=true
   rw [oK (MM (x::xs)),Y_,Vm]
   intro d hd
   obtain ⟨y,_,rfl⟩:=UY.mp hd
   rfl
 unfold nZ
 rw [h1,h3,decide_eq_true h2,UR,decide_eq_true hl]
 rfl
theorem Ob (xs:List (Nat×Nat)) (hl:xs.length < 64):u6 [.d (.tup (xs.map dP))]=.ok (.l .fresh (gE (xs.map dP))):=by
 show (if nZ (xs.map dP)=true then M.ok (R.l .fresh (gE (xs.map dP))) else _)=_
 rw [if_pos (OW xs hl)]
theorem yl {P:D->Prop}(p:gx P){ds:List D}(h:∀x∈ds,P x):(gE ds).length<=ds.length/\∀d∈gE ds,d∈ds:=by
 obtain ⟨h1,h2⟩:=yX p ds h
 refine ⟨?_,λd hd=>((uz p h).2 d).mp hd⟩
 show (bW (dd ds)).length<=_
 rw [Gw]
 exact Vx h1 λd hd=>(h2 d).mp hd
theorem MA (xs:List D) (k:Nat) (hk:k<=xs.length):cutD xs none (some (k:Int))=xs.take k:=by
 unfold cutD
 rw [HT.IE,HT.LD,Nat.min_eq_left hk]
 simp
theorem Nk {i:Int}(h:0<=i):∃k:Nat,i=k:=⟨i.toNat,by omega⟩
end K55
namespace DL
open PySem PySem.Spec PyProof.Rows L2 DX
noncomputable def bZ (gt:GT) (gts:G Bool) (act:Ev->M (List D×Ev)):List D->Ev->M (List D×Ev)
 | [],env=>.ok ([],env)
 | d::ds,env=>gt d env >>= λe=>gts e >>= λk=>if k=true then act e >>= λr=>bZ gt gts act ds r.2 >>= λz=>.ok (r.1++z.1,z.2) else bZ gt gts act ds e
def zG (env:Ev) (σ:L2.St) (p:Vd):Prop:=∀(j:Nat) (xs:Mn),env[j]?=some (some (mS xs))->σ[j]?≠some (some (.ref p))
structure zj (Acc:Hp->Hp->List D->Prop):Prop where
 ext:∀{J H J' H':Hp}{ys:List D},Acc J H ys->Ext J H J' H'->Acc J' H' ys
noncomputable def vS (X:Cx) (c:C) (p:Vd) (Acc:Hp->Hp->List D->Prop) (J2 H2:Hp) (N:Nat) (m:Sem Unit) (act:Ev->M (List D×Ev)):Prop:=
 ∀(UB:List (Vd×Obj)) (s:UP) (σ:L2.St) (H J:Hp) (env:Ev) (ys:List D) (Qf:List D×Ev->Prop),Inv X UB σ H s->Ext J2 H2 J H->SR c J H σ env->zG env σ p->Acc J H ys->ys.length + N<=sizeLine->cD (act env) Qf c.T->
  U9 (Vg X.prog X.w) X.A m (λ_ s'=>∃σ' H' J' r,Inv X UB σ' H' s'/\Ext J2 H2 J' H'/\aU J J'/\SR c J' H' σ' r.2/\zG r.2 σ' p/\Acc J' H' (ys++r.1)/\r.1.length<=N/\Qf r) (λ_ _=>False) s
abbrev GC (ifs:List Vv) (env:Env):Sem Bool:=forIn ifs true λc r=>if r=true then do let ok <-abw c env (eval c env);pure (Xg ok) else pure (Xg r)
abbrev nj (UD UE:Vv) (ifs:List Vv) (it:UN) (env:Env) (act:Sem Unit) (again':Sem Fin):Sem Fin:=do
 Yd UE.pos
 match <-YM it with
 | none=>pure (.done .next)
 | some v=>
  Xe UD it v
  assign UD env v
  let mut ok:=true
  for c in ifs do
   if ok then ok <-abw c env (eval c env)
  if ok then
   act
  again'
noncomputable def uI (prog:U6) (w:Vs) (A:Vz) (e:Vv) (depth:Nat) (it acc:UN) (env:Env) (UD:Vv) (ifs:List Vv) (m:Sem Unit):Prop:=
 ∀(R:acY->UP->Prop) (I:Nat->UP->Prop),(∀n s,I n s->U9 (Vg prog w) A (YM it) (λr s₁=>match r with
   | none=>R (.ok .next) s₁
   | some v=>U9 (Vg prog w) A (Xe UD it v) (λ_ s₁=>U9 (Vg prog w) A (assign UD env v) (λ_ s₂=>
     U9 (Vg prog w) A (GC ifs env) (λok s₃=>if ok=true then U9 (Vg prog w) A m (λ_ s₅=>∃m,m < n/\I m s₅) (λ_ _=>False) s₃ else ∃m,m < n/\I m s₃) (λ_ _=>False) s₂) (λ_ _=>False) s₁) (λ_ _=>False) s₁) (λ_ _=>False) s)->
  ∀(n:Nat) (s:UP),I n s->Xf (Vg prog w) A (.compLoop e depth it acc env) R s
section
variable {prog:U6}{w:Vs}{A:Vz}{UD UE:Vv}{ifs:List Vv}{UA:Yc}{pos:Pos}{it acc:UN}{env:Env}{depth:Nat}{gens:List aaE}{act:Sem Unit}
theorem A_ {R:acY->UP->Prop}{I:Nat->UP->Prop}{E:UN->UP->Prop}{code:Code}{n:Nat}{s:UP}{Q:Fin->UP->Prop}
  (TV:∀s,R (.ok .next) s->Q (.done .next) s) (Tz:∀s,(∃m,m < n/\I m s)->U9 (Vg prog w) A (again code) Q E s)
  (t:U9 (Vg prog w) A (YM it) (λr s₁=>match r with
   | none=>R (.ok .next) s₁
   | some v=>U9 (Vg prog w) A (Xe UD it v) (λ_ s₁=>U9 (Vg prog w) A (assign UD env v) (λ_ s₂=>
     U9 (Vg prog w) A (GC ifs env) (λok s₃=>if ok=true then U9 (Vg prog w) A act (λ_ s₅=>∃m,m < n/\I m s₅) (λ_ _=>False) s₃ else ∃m,m < n/\I m s₃) (λ_ _=>False) s₂) (λ_ _=>False) s₁) (λ_ _=>False) s₁) (λ_ _=>False) s):
  U9 (Vg prog w) A (nj UD UE ifs it env act (again code)) Q E s:=by
 refine UL (XU (UL (VN t (λr s₁ h₁=>?_) λ_ _ f=>f.elim)))
 cases r with
 | none=>exact UO (TV _ h₁)
 | some v=>
  refine UL (VN h₁ (λ_ s₁' h₁'=>?_) λ_ _ f=>f.elim)
  refine UL (VN h₁' (λ_ s₂ h₂=>UL (VN h₂ (λok s₃ h₃=>?_) λ_ _ f=>f.elim)) λ_ _ f=>f.elim)
  cases ok with
  | false=>exact Tz _ h₃
  | true=>exact UL (VN h₃ (λ_ s₅ h₅=>Tz _ h₅) λ_ _ f=>f.elim)
theorem DU {elt:Vv}(ht:Zr (.ListComp elt gens UA pos) depth it acc env=nj UD UE ifs it env act (again (.compLoop (.ListComp elt gens UA pos) depth it acc env))):uI prog w A (.ListComp elt gens UA pos) depth it acc env UD ifs act:=by
 intro R I turn n s h
 refine codeAny_loop rfl I (λn s hI=>?_) n h
 show U9 _ A ((Zr (.ListComp elt gens UA pos) depth it acc env).onRaise (λx=>do adl x env;adm x)) _ _ s
 refine wpAny_noted ?_
 rw [ht]
 exact A_ (λ_ h=>h) (λ_ h=>UO ⟨rfl,h⟩) (turn n s hI)
theorem DT {kx vx:Vv}(ht:Zr (.DictComp kx vx gens UA pos) depth it acc env=nj UD UE ifs it env act (again (.compLoop (.DictComp kx vx gens UA pos) depth it acc env))):uI prog w A (.DictComp kx vx gens UA pos) depth it acc env UD ifs act:=by
 intro R I turn n s h
 refine codeAny_loop rfl I (λn s hI=>?_) n h
 show U9 _ A ((Zr (.DictComp kx vx gens UA pos) depth it acc env).onRaise (λx=>do adl x env;adm x)) _ _ s
 refine wpAny_noted ?_
 rw [ht]
 exact A_ (λ_ h=>h) (λ_ h=>UO ⟨rfl,h⟩) (turn n s hI)
end
section
variable {X:Cx}{c:C}{p:Vd}{Acc:Hp->Hp->List D->Prop}{J2 H2:Hp}{N:Nat}{m:Sem Unit}{act:Ev->M (List D×Ev)}{UD:Vv}{ifs:List Vv}{gt:GT}{gts:G Bool}{e:Vv}{depth:Nat}{acc:UN}{it:Vd}{fp:List Vd}{tn:Nat->V1->Prop}{It:It}{ds:List D}{J1:Hp}
theorem AF (aR:zj Acc) (hc:X.calm=true) (hx:∀v s,X.xe v s->False) (LP:uI X.prog X.w X.A e depth (.ref it) acc X.env UD ifs m) (hT:Ez X c UD gt) (hIf:Dc X c ifs gts) (hA:vS X c p Acc J2 H2 N m act) (T:Turn X.prog X.w X.K UD It fp it tn)
 (U:Hp->Hp->Prop) (wk:Walk c It ds J1 U){s:UP}{H J:Hp}{ys:List D}{Qf:List D×Ev->Prop}(hU:∀J' H',Ext J2 H2 J' H'->aU J J'->U J' H') (I:Inv X UB σ H s) (st:tn 0 s.heap) (fr:∀b∈fp,jR X UB H b) (e2:Ext J2 H2 J H) (sr:SR c J H σ env) (no:zG env σ p) (ac:Acc J H ys)
 (hl:ys.length + ds.length * N<=sizeLine) (w:cD (bZ gt gts act ds env) Qf c.T):
  Xf (Vg X.prog X.w) X.A (.compLoop e depth (.ref it) acc X.env) (λr s'=>r=.ok .next/\∃σ' H' J' r',Inv X UB σ' H' s'/\Ext J2 H2 J' H'/\aU J J'/\SR c J' H' σ' r'.2/\zG r'.2 σ' p/\Acc J' H' (ys++r'.1)/\r'.1.length<=ds.length * N/\Qf r') s:=by
 refine LP _ (λn s'=>∃(i:Nat) (σ':L2.St) (H' J':Hp) (env':Ev) (zs:List D),n=ds.length - i/\i<=ds.length/\Inv X UB σ' H' s'/\tn i s'.heap/\(∀b∈fp,H' b=none)/\Ext J2 H2 J' H'/\aU J J'/\SR c J' H' σ' env'/\zG env' σ' p/\Acc J' H' (ys++zs)/\zs.length<=i * N/\
  cD (bZ gt gts act (ds.drop i) env') (λr=>Qf (zs++r.1,r.2)) c.T) ?_ ds.length s ⟨0,σ,H,J,env,[],rfl,Vl _,I,st,λb hb=>(fr b hb).1,e2,aU.refl J,sr,no,by rw [WV];exact ac,by simp,by rw [adA];exact w⟩
 rintro n s' ⟨i,σ',H',J',env',zs,rfl,hi,I',st',fr',e',sj,sr',no',ac',hz,w'⟩
 have stat:∀{H':Hp},(∀b∈fp,H' b=none)->∀b∈fp,jR X UB H' b:=λhn b hb=>⟨hn b hb,(fr b hb).2⟩
 obtain ⟨wk1,wk2⟩:=wk i J' H' sr'.hp (hU J' H' e' sj)
 by_cases hlt:i < ds.length
 ·obtain ⟨g1,y1⟩:=wk2 ds[i] (by simp [hlt])
  rw [Yx hlt] at w'
  refine VN (T.item X rfl rfl rfl hc i UB s' σ' H' (λ_ _=>False) I' (stat fr') st' g1) (λr s4 ⟨u,hr,h4⟩=>?_) λ_ _ f=>f.elim
  subst hr
  refine VN h4 (λ_ s5 ⟨x,H5,I5,r5,y5,st5,fr5⟩=>?_) λ_ _ f=>f.elim
  obtain ⟨J5,e5,rx⟩:=y1 x H5 y5
  have I5':=I5.pinned (stat fr5) (T.obj _ _ st5)
  have again:∀{σ7:L2.St}{H7:Hp}{s7:UP},Inv X (UB++qP fp s5.heap) σ7 H7 s7->Inv X UB σ7 H7 s7/\tn (i + 1) s7.heap/\(∀b∈fp,H7 b=none):=fun {σ7 H7 s7} I7=>by
   refine ⟨I7.unpinned,T.keep _ _ _ st5 λb hb o e=>(I7.pin (b,o) (VH _ (VH _ (kR hb e)))).1,λb hb=>?_⟩
   obtain ⟨o,e,d⟩:=T.obj _ _ st5 b hb
   exact (I7.pin (b,o) (VH _ (VH _ (kR hb e)))).2.1
  refine VN (hT _ s5 σ' H5 x u (λσ6 H6=>∃e6,H6=H5/\SR c J5 H5 σ6 e6/\KO env' σ' e6 σ6/\cD (gts e6 >>= λk=>if k=true then act e6 >>= λr=>bZ gt gts act (ds.drop (i + 1)) r.2 >>= λz=>.ok (r.1++z.1,z.2) else bZ gt gts act (ds.drop (i + 1)) e6)
   (λr=>Qf (zs++r.1,r.2)) c.T) I5' r5 ⟨J5,env',ds[i],sr'.ext e5,rx,aF (aK w') λe6 w6 σ6 sr6 ko=>⟨e6,rfl,sr6,ko,w6⟩⟩) (λ_ s6 ⟨σ6,H6,I6,e6,TR,sr6,ko,w6⟩=>?_) λ_ _ f=>(hx _ _ f).elim
  subst TR
  have no6:zG e6 σ6 p:=λj xs q z=>by
   obtain ⟨k1,k2⟩:=ko j xs q
   exact no' j xs k1 (k2▸z)
  refine VN (hIf _ s6 σ6 H6 (λk H7=>∃J7,Ext J5 H6 J7 H7/\cD (if k=true then act e6 >>= λr=>bZ gt gts act (ds.drop (i + 1)) r.2 >>= λz=>.ok (r.1++z.1,z.2) else bZ gt gts act (ds.drop (i + 1)) e6)
   (λr=>Qf (zs++r.1,r.2)) c.T) I6 ⟨J5,e6,sr6,aF (aK w6) λk wk J7 H7 e7=>⟨J7,e7,wk⟩⟩) (λk s7 ⟨H7,I7,J7,e7,w7⟩=>?_) λ_ _ f=>(hx _ _ f).elim
  have sr7:=sr6.ext e7
  have ac7:=aR.ext (aR.ext ac' e5) e7
  have x7:=(e'.trans e5).trans e7
  have j7:=(sj.trans e5.j).trans e7.j
  have hm:(i + 1) * N=i * N + N:=by rw [adn,Nat.one_mul]
  cases k with
  | false=>
   rw [if_neg (by decide)] at w7 ⊢
   obtain ⟨a1,a2,a3⟩:=again I7
   exact ⟨ds.length - (i + 1),by omega,i + 1,σ6,H7,J7,e6,zs,rfl,hlt,a1,a2,a3,x7,j7,sr7,no6,ac7,by omega,w7⟩
  | true=>
   rw [if_pos rfl] at w7 ⊢
   have hN:(i + 1) * N<=ds.length * N:=W8 N hlt
   refine VN (hA _ s7 σ6 H7 J7 e6 (ys++zs) _ I7 x7 sr7 no6 ac7 (by rw [Vc];omega) (aK w7)) (λ_ s8 ⟨σ8,H8,J8,r,I8,x8,j8,sr8,no8,ac8,l8,w8⟩=>?_) λ_ _ f=>f.elim
   obtain ⟨a1,a2,a3⟩:=again I8
   refine ⟨ds.length - (i + 1),by omega,i + 1,σ8,H8,J8,r.2,zs++r.1,rfl,hlt,a1,a2,a3,x8,j7.trans j8,sr8,no8,by rw [<-Xc];exact ac8,by rw [Vc];omega,?_⟩
   refine aF (aK w8) λz q=>?_
   rw [Xc]
   exact q
 ·have Uc:i=ds.length:=by omega
  subst Uc
  rw [aaO (UX _)] at w'
  refine VN (T.done X rfl rfl rfl hc _ UB s' σ' H' (λ_ _=>False) I' (stat fr') st' (wk1 (UX _))) (λr s4 ⟨hr,I9⟩=>?_) λ_ _ f=>f.elim
  subst hr
  have w9:Qf (zs++[],env'):=w'
  rw [WV] at w9
  exact ⟨rfl,σ',H',J',(zs,env'),I9,e',sj,sr',no',ac',hz,w9⟩
end
section
variable {prog:U6}{w:Vs}{A:Vz}{R:acY->UP->Prop}{s:UP}{it acc:UN}{env:Env}{UA:Yc}{pos:Pos}{g0:aaE}{UD UE:Vv}{ifs:List Vv}{rest:List aaE}
theorem Oi (h0:Xf (Vg prog w) A (.compLoop (.ListComp elt (g0::⟨UD,UE,ifs,0⟩::rest) UA pos) 1 it acc env) R s)
 (h:U9 (Vg prog w) A (Z2 it) (λit' s'=>Xf (Vg prog w) A (.compLoop (.ListComp elt (g0::⟨UD,UE,ifs,0⟩::rest) UA pos) 1 it' acc env) R s') (λ_ _=>False) s):
  Xf (Vg prog w) A (.compStart (.ListComp elt (g0::⟨UD,UE,ifs,0⟩::rest) UA pos) 1 it acc env) R s:=by
 refine ZT ?_
 show U9 _ _ ((ado (.ListComp elt (g0::⟨UD,UE,ifs,0⟩::rest) UA pos) 1 it acc env).onRaise (λx=>do adl x env;Yd adp)) _ _ s
 refine aeg ?_
 unfold ado
 show U9 _ _ (ask >>= _) _ _ s
 refine UL (Xm (wpAny_ite ?_))
 split
 ·first
   | exact UL (UO (UO (abd rfl h0)))
   | exact UO (abd rfl h0)
 ·refine UL (ZH ?_)
  show U9 _ _ (Yd UE.pos >>= _) _ _ s
  exact UL (XU (UL (VN h (λit' s' h'=>UO (abd rfl h')) λ_ _ x=>x.elim)))
theorem Oh (h0:Xf (Vg prog w) A (.compLoop (.DictComp kx vx (g0::⟨UD,UE,ifs,0⟩::rest) UA pos) 1 it acc env) R s)
 (h:U9 (Vg prog w) A (Z2 it) (λit' s'=>Xf (Vg prog w) A (.compLoop (.DictComp kx vx (g0::⟨UD,UE,ifs,0⟩::rest) UA pos) 1 it' acc env) R s') (λ_ _=>False) s):
  Xf (Vg prog w) A (.compStart (.DictComp kx vx (g0::⟨UD,UE,ifs,0⟩::rest) UA pos) 1 it acc env) R s:=by
 refine ZT ?_
 show U9 _ _ ((ado (.DictComp kx vx (g0::⟨UD,UE,ifs,0⟩::rest) UA pos) 1 it acc env).onRaise (λx=>do adl x env;Yd adp)) _ _ s
 refine aeg ?_
 unfold ado
 show U9 _ _ (ask >>= _) _ _ s
 refine UL (Xm (wpAny_ite ?_))
 split
 ·first
   | exact UL (UO (UO (abd rfl h0)))
   | exact UO (abd rfl h0)
 ·refine UL (ZH ?_)
  show U9 _ _ (Yd UE.pos >>= _) _ _ s
  exact UL (XU (UL (VN h (λit' s' h'=>UO (abd rfl h')) λ_ _ x=>x.elim)))
end
noncomputable def jy (gi:G (List D)) (gt:GT) (gts:G Bool) (act:Ev->M (List D×Ev)):Ev->M (List D×Ev):=λenv=>gi env >>= λds=>if ds.length<=1000 then bZ gt gts act ds env else .bad
abbrev ue (e UE:Vv) (acc:UN) (env:Env):Sem Unit:=do
 let x <-eval UE env
 Yd UE.pos
 let x <-We UE env x
 let _ <-runOwn (.compStart e 1 (<-holding [x] (Z2 x)) acc env) env
section
variable {X:Cx}{c:C}{p:Vd}{Acc:Hp->Hp->List D->Prop}{J2 H2:Hp}{N:Nat}{m:Sem Unit}{act:Ev->M (List D×Ev)}{UD UE:Vv}{ifs:List Vv}{gi:G (List D)}{gt:GT}{gts:G Bool}{e:Vv}{acc:UN}
theorem BR (aR:zj Acc) (hc:X.calm=true) (hx:∀v s,X.xe v s->False) (hs:∀x,We UE X.env x=pure x)
  (start:∀(it:Vd) (R:acY->UP->Prop) (s:UP),Xf (Vg X.prog X.w) X.A (.compLoop e 1 (.ref it) acc X.env) R s->U9 (Vg X.prog X.w) X.A (Z2 (.ref it)) (λit' s'=>Xf (Vg X.prog X.w) X.A (.compLoop e 1 it' acc X.env) R s') (λ_ _=>False) s->Xf (Vg X.prog X.w) X.A (.compStart e 1 (.ref it) acc X.env) R s)
  (LP:∀it:Vd,uI X.prog X.w X.A e 1 (.ref it) acc X.env UD ifs m) (hi:PU X c UD UE gi) (hT:Ez X c UD gt) (hIf:Dc X c ifs gts) (hA:vS X c p Acc J2 H2 N m act):
  vS X c p Acc J2 H2 (1000 * N) (ue e UE acc X.env) (jy gi gt gts act):=by
 intro UB s σ H J env ys Qf I x2 sr no ac hl w
 refine UL (VN (hi UB s σ H (λIt H1=>∃ds J1,Ext J H J1 H1/\Walk c It ds J1 (λJ' _=>aU J1 J')/\cD (if ds.length<=1000 then bZ gt gts act ds env else .bad) Qf c.T) I ⟨J,env,sr,aF (aK w) λds wd It J1 H1 e1 wk=>⟨ds,J1,e1,wk,wd⟩⟩) (λxv s1 h1=>?_) λv s f=>(hx v s f).elim)
 refine UL (XU ?_)
 rw [hs xv]
 refine UL (UO (UL (VB (VN h1 (λitv s2 h2=>?_) λv s f=>(hx v s f).elim))))
 obtain ⟨it,fp,tn,It,H1,rfl,I1,T,st1,f1,ds,J1,e1,wk,w1⟩:=h2
 have hsz:ds.length<=1000:=by
  by_cases z:ds.length<=1000
  ·exact z
  ·rw [if_neg z] at w1;exact w1.elim
 rw [if_pos hsz] at w1
 have hm:ds.length * N<=1000 * N:=W8 N hsz
 have hb:ys.length + ds.length * N<=sizeLine:=Vq (Nat.add_le_add_left hm _) hl
 have run:=AF aR hc hx (LP it) hT hIf hA T (λJ' _=>aU J1 J') wk (λ_ _ _ h=>h) I1 st1 f1 (x2.trans e1) (sr.ext e1) no (aR.ext ac e1) hb w1
 have run':Xf (Vg X.prog X.w) X.A (.compLoop e 1 (.ref it) acc X.env) (λr s'=>match r with | .ok f=>U9 (Vg X.prog X.w) X.A (pure ()) (λ_ s'=>∃σ' H' J' r,Inv X UB σ' H' s'/\Ext J2 H2 J' H'/\aU J J'/\SR c J' H' σ' r.2/\zG r.2 σ' p/\Acc J' H' (ys++r.1)/\r.1.length<=1000 * N/\Qf r) (λ_ _=>False) s' | .error e=>cameBackBy (Vg X.prog X.w) X.A X.env (λ_ _=>False) e s') s2:=XR run λr s' ⟨hr,σ',H',J',r',q1,q2,q3,q4,q5,q6,q7,q8⟩=>by
  subst hr
  exact UO ⟨σ',H',J',r',q1,q2,e1.j.trans q3,q4,q5,q6,Vq q7 hm,q8⟩
 exact UL (wpAny_runOwn (h:=none) (start it _ _ run' (T.self _ 0 _ _ _ st1 run')))
end
def h_ (ge:G R):Ev->M (List D×Ev):=λe=>ge e >>= λr=>toD r >>= λy=>.ok ([y],e)
def Dh (c:C) (p:Vd):Hp->Hp->List D->Prop:=λJ H ys=>∃us,H p=some (.lst us)/\J p=none/\aL c.K J ys us
theorem t7:zj (Dh c p):=⟨fun {J H J' H' ys} ⟨us,h1,h2,h3⟩ e=>⟨us,e.h _ _ h1,e.frz _ (by rw [h1];intro z;cases z) h2,h3.mono e.j⟩⟩
section
variable {X:Cx}{c:C}{p:Vd}{J2 H2:Hp}{elt:Vv}{ge:G R}
theorem BQ (hx:∀v s,X.xe v s->False) (hp2:H2 p=none) (hp0:c.H0 p=none) (hE:PD X c elt ge):vS X c p (Dh c p) J2 H2 1 (do let _ <-call (.builtin "list.append") [.ref p,<-eval elt X.env]) (h_ ge):=by
 intro UB s σ H J env ys Qf I x2 sr no ⟨us,h1,h2,h3⟩ hl w
 have hlen:ys.length=us.length:=h3.length
 refine UL (VN (hE _ s σ H (λv H8=>∃J8 y,Ext J H J8 H8/\Rep c.K J8 y v/\Qf ([y],env)) I ⟨J,env,sr,aF (aK w) λr wr v J8 H8 e8 r8=>?_⟩) (λu8 s8 ⟨v8,H8,I8,r8,J8,y,e8,ry,w8⟩=>?_) λv s f=>(hx v s f).elim)
 ·obtain ⟨y,q,wr⟩:=jt wr
  obtain ⟨J9,e9,_,ry⟩:=freeze e8 r8 q
  exact ⟨J9,y,e9,ry,wr⟩
 have p8:H8 p=some (.lst us):=e8.h _ _ h1
 have J8p:J8 p=none:=e8.frz _ (by rw [h1];intro z;cases z) h2
 refine UL (VN (qM (X:=X) _ s8 σ H8 (.ref p) [v8] (.ref p) [u8] (λ_ H9=>H9=L2.upd H8 p (.lst (us++[v8]))) I8 rfl (.cons r8 .nil) ⟨_,us,v8,rfl,rfl,p8,by omega,rfl⟩) (λ_ s9 ⟨_,H9,I9,_,h9⟩=>?_) λv s f=>(hx v s f).elim)
 subst h9
 exact UO ⟨σ,_,J8,([y],env),I9,(x2.trans e8).other hp2 J8p,e8.j,(sr.ext e8).other J8p hp0 no,no,⟨us++[v8],b9,J8p,(h3.mono e8.j).append (.cons ry .nil)⟩,UX _,w8⟩
end
noncomputable def jC (lim n:Nat) (cap:List Nat) (gi:G (List D)) (gt:GT) (gts:G Bool) (act:Ev->M (List D×Ev)) (fin:List D->M R):G R:=λenv=>gi env >>= λds=>if ds.length<=lim then bZ gt gts act ds (cE n cap env) >>= λr=>fin r.1 else .bad
section
variable {X:Cx}{c:C}
structure BB (X:Cx) (UA:Yc) (cap:List Nat) (UE:Vv):Prop where
 hk:UA.kind=.function
 hno:Jk X cap UA=true
 hnames:(UA.names.all λx=>!(x.2 == .local) || (UA.names.lookup x.1 == some .local))=true
 hcl:(dW X.env.cells UA.names []).isSome=true
 hcap:rJ X cap=true
 hloc:EZ X cap UA=true
 hnd:AH cap=true
 hcalm:X.calm=true
 hs:∀x,We UE X.env x=pure x
theorem sU {UA:Yc}{cap:List Nat}{UE:Vv}(hcl:(dW X.env.cells UA.names []).isSome=true) (hk:UA.kind=.function:=by rfl) (hno:Jk X cap UA=true:=by rfl) (hnames:(UA.names.all λx=>!(x.2 == .local) || (UA.names.lookup x.1 == some .local))=true:=by rfl)
  (hcap:rJ X cap=true:=by rfl) (hloc:EZ X cap UA=true:=by rfl) (hnd:AH cap=true:=by rfl) (hcalm:X.calm=true:=by rfl) (hs:∀x,We UE X.env x=pure x:=by intro _;rfl):BB X UA cap UE:=⟨hk,hno,hnames,hcl,hcap,hloc,hnd,hcalm,hs⟩
noncomputable def Em (X:Cx) (c:C) (cm:Option (UN->Sem Unit)->Sem UN) (g:G R):Prop:=
 ∀{UB:List (Vd×Obj)}{s:UP}{σ:L2.St}{H:Hp}{Q:VK}{use:Option (UN->Sem Unit)}{Q0:UN->UP->Prop},Inv X UB σ H s->tD c g σ H Q->
  (∀(acc C:Vd) (m:Str->Option UN) (s':UP) (H':Hp) (fl:Flow),s'.heap.Ns C m->((C∈X.ex\/X.s₀.heap.objs.size<=C)/\C≠X.env.locals/\(∀x c,X.env.cells.lookup x=some c->c≠C)/\∀p∈X.pn++UB,p.1≠C)->H' C=none->(∀h'',VL C s'.heap h''->Inv X UB σ H' {s' with heap:=h''})->Q (.ref acc) H'->compPost (Vg X.prog X.w) X.A X.xe use Q0 (.ref acc) C (.ok fl) s')->
  U9 (Vg X.prog X.w) X.A (cm use) Q0 X.xe s
theorem oQ (own:List Str) (cap:List Nat){e UD UE:Vv}{ifs:List Vv}{gs:List aaE}{UA:Yc}{gi:G (List D)}{gt:GT}{gts:G Bool}{act:Ev->M (List D×Ev)}{fin:List D->M R}{newAcc:Sem UN}{ob:Obj}{o0:Vd->HO}{Acc:Vd->Hp->Hp->List D->Prop}{N lim:Nat}{m:Vd->Env->Sem Unit}
  (hcls:clausesOf e=⟨UD,UE,ifs,0⟩::gs) (hi:PR X c UD UE gi)
  (hnew:∀(s:UP) (Q:UN->UP->Prop) (E:UN->UP->Prop),Q (.ref s.heap.objs.size) {s with heap:=s.heap.push ob}->U9 (Vg X.prog X.w) X.A newAcc Q E s)
  (hob:∀(h:V1) (H:Hp),cT X.prog X.w H (h.push ob) h.objs.size (o0 h.objs.size))
  (aR:∀p,zj (Acc p)) (a0:∀(p:Vd) (J H:Hp),X7 < p->H p=some (o0 p)->J p=none->Acc p J H [])
  (hN:lim * N<=sizeLine) (LP:∀(it p:Vd) (env:Env),uI X.prog X.w X.A e 0 (.ref it) (.ref p) env UD ifs (m p env))
  (start:∀(it:Vd) (acc:UN) (env:Env) (R:acY->UP->Prop) (s:UP),Xf (Vg X.prog X.w) X.A (.compLoop e 0 (.ref it) acc env) R s->U9 (Vg X.prog X.w) X.A (Z2 (.ref it)) (λit' s'=>Xf (Vg X.prog X.w) X.A (.compLoop e 0 it' acc env) R s') (notedBy (Vg X.prog X.w) X.A env λx s'=>R (.error x) s') s->Xf (Vg X.prog X.w) X.A (.compStart e 0 (.ref it) acc env) R s)
  (nofin:∀ys z,fin ys≠.exc z) (hend:∀{p:Vd}{J H J' H':Hp}{ys:List D}{r:R},H p=none->Ext J H J' H'->Acc p J' H' ys->fin ys=.ok r->∃J'',Ext J H J'' H'/\RR c H J'' H' r (.ref p))
  (hbody:∀(cl:List (Str×Vd)) (C:Vd) (s:UP) (H:Hp) (fp:List Vd),dW X.env.cells UA.names []=some cl->Ez (c9 X own cap UA cl C s H fp) c UD gt/\Dc (c9 X own cap UA cl C s H fp) c ifs gts/\∀(p:Vd) (J2 H2:Hp),H2 p=none->c.H0 p=none->vS (c9 X own cap UA cl C s H fp) c p (Acc p) J2 H2 N (m p (c9 X own cap UA cl C s H fp).env) act)
  (a:BB X UA cap UE){pos':Pos}:Em X c (λuse=>comprehension e UA X.env pos' newAcc false (eval UE X.env) use) (jC lim own.length cap gi gt gts act fin):=by
 obtain ⟨hk,hno,hnames,hcl,hcap,hloc,hnd,hcalm,hs⟩:=a
 intro UB s σ H Q use Q0 I h S5
 obtain ⟨J,env,sr,w⟩:=h
 obtain ⟨cl,hcl⟩:=VV.mp hcl
 have Td:∀j∈cap,∀x,X.N[j]?=some x->dz UA.names x=false:=λj hj x hx=>by
  have:=Vm.mp hno j hj
  rw [hx] at this
  simpa using this
 have Sh:∀x∈UA.names,x.2=.local->UA.names.lookup x.1=some .local:=λy hy z=>by
  have:=Vm.mp hnames y hy
  rw [z] at this
  simpa using this
 have SD:∀j∈cap,∀x,X.N[j]?=some x->(relabel UA X.env).names.lookup x≠some .local:=λj hj x hx z=>by
  have:=Vm.mp hloc j hj
  rw [hx] at this
  simp only at this
  rw [z] at this
  cases this
 refine wpAny_comprehension_free (use:=use) hcls hs (yM hcl) hk Sh ?_
 refine bP (hi UB s σ H (λIt H1=>∃ds J1,Ext J H J1 H1/\Walk c It ds J1 (λJ' H'=>aU J1 J'/\aU H1 H')/\
  cD (if ds.length<=lim then bZ gt gts act ds (cE own.length cap env) >>= λr=>fin r.1 else .bad) (λr=>∀v J' H',Ext J H J' H'->RR c H J' H' r v->Q v H') c.T) I ⟨J,env,sr,aF (aK w) λds wd It J1 H1 e1 wk=>⟨ds,J1,e1,wk,wd⟩⟩) λxv s1 h1=>bP h1 λitv s2 h2=>?_
 obtain ⟨it,fp,tn,It,H2,rfl,I2,T,st2,f2,ds,J2,e2,wk,w2⟩:=h2
 have hsz:ds.length<=lim:=by
  by_cases z:ds.length<=lim
  ·exact z
  ·rw [if_neg z] at w2;exact w2.elim
 rw [if_pos hsz] at w2
 have w3:=aK w2
 refine hnew s2 _ _ (DW ?_)
 dsimp only
 generalize SO:s2.heap.push ob=Hs
 have hC:Hs.objs.size=s2.heap.objs.size + 1:=by rw [<-SO,Xx]
 have hp2:H2 s2.heap.objs.size=none:=I2.hok.fresh (UX _)
 have kHs:∀b o,s2.heap.get? b=some o->Hs.get? b=some o:=λb o e=>by rw [<-SO];exact US _ e
 have I3:Inv X UB σ (L2.upd H2 s2.heap.objs.size (o0 s2.heap.objs.size)) {s2 with heap:=Hs,toks:=s2.toks}:=I2.laid (t':=s2.toks) kHs (UX _) (by rw [<-SO];exact hob _ _)
 have f3:∀b∈fp,jR X UB (L2.upd H2 s2.heap.objs.size (o0 s2.heap.objs.size)) b:=λb hb=>by
  obtain ⟨o,ho,_⟩:=T.obj _ _ st2 b hb
  exact ⟨by rw [bD (Vn (U7 ho))];exact (f2 b hb).1,(f2 b hb).2⟩
 have hin:∀b∈fp,b < Hs.objs.size:=λb hb=>by
  obtain ⟨o,ho,_⟩:=T.obj _ _ st2 b hb
  exact XS (U7 ho) (by rw [hC];exact Wt _)
 obtain ⟨h₁,eh₁⟩:∃h₁,h₁=ade (Hs.push {cls:=.type "dict",data:=.dict #[]}) UA.names:=⟨_,rfl⟩
 rw [<-eh₁]
 have hns₁:h₁.Ns Hs.objs.size (λ_=>none):=by rw [eh₁];exact Nl Hs UA.names
 have ck:aeR h₁ (Hs.objs.size + 1) (VQ (Hs.objs.size + 1) UA.names []):=by rw [eh₁];exact E1 Hs UA.names
 have okC:=Kq (own:=own) (cap:=cap) I3 hk hcl ck f3 hin
 have old1:∀b o,Hs.get? b=some o->h₁.get? b=some o:=λb o e=>by rw [eh₁];exact adf _ _ _ _ (US _ e)
 have I4:=G6 (tk:=s2.toks) I3 okC hcl ck hcap SD Td hns₁ old1
 have sr2:=sr.ext e2
 have srA:SR c J2 (L2.upd H2 s2.heap.objs.size (o0 s2.heap.objs.size)) σ env:=sr2.ext (Ext.new e2.sub hp2 _)
 have J2p:J2 s2.heap.objs.size=none:=e2.sub.free hp2
 have H0p:c.H0 s2.heap.objs.size=none:=sr2.hp.ent.free hp2
 have nown:∀(j:Nat) (xs:Mn),(cE own.length cap env)[j]?=some (some (mS xs))->(Wm own.length none++cap.map λ(j:Nat)=>(σ[j]?).getD none)[j]?≠some (some (.ref s2.heap.objs.size)):=λj xs q z=>by
  obtain ⟨a,h1,h2,h3⟩:=kN q
  obtain ⟨a',h4,h5,h6⟩:=kN z
  rw [h2] at h5;cases h5
  obtain ⟨p,k1,k2,_⟩:=sr2.mine h3
  rw [h6] at k1
  cases k1
  exact k2 hp2
 obtain ⟨hT,hIf,hE⟩:=hbody cl Hs.objs.size {s2 with heap:=Hs,toks:=s2.toks} (L2.upd H2 s2.heap.objs.size (o0 s2.heap.objs.size)) fp hcl
 have fpC:∀{H':Hp},(∀b∈fp,H' b=none)->∀b∈fp,jR (c9 X own cap UA cl Hs.objs.size {s2 with heap:=Hs,toks:=s2.toks} (L2.upd H2 s2.heap.objs.size (o0 s2.heap.objs.size)) fp) [] H' b:=fun {H'} hn b hb=>by
  obtain ⟨m1,_⟩:=ia UA.names [] cl hcl (λx c h=>by simp at h)
  refine ⟨hn b hb,Vn (hin b hb),λz=>?_,.inl hb,λx d h=>(gq h).elim (λh=>WU (Vf (hin b hb) (XJ (ck.empty _ _ (Y0 h)).2))) (λh=>(f2 b hb).2.2.2.2.1 x d (m1 x d h.2)),λp hp=>absurd (show p∈([]:List (Vd×Obj)) from hp) (by simp)⟩
  rcases U8.mp (I2.stkSub b z) with e | e
  ·exact (f2 b hb).2.1 e
  ·exact (f2 b hb).2.2.1 e
 have back:∀{pi:List (Vd×Obj)}{σ':L2.St}{H':Hp}{s':UP}{h'':V1},Inv (c9 X own cap UA cl Hs.objs.size {s2 with heap:=Hs,toks:=s2.toks} (L2.upd H2 s2.heap.objs.size (o0 s2.heap.objs.size)) fp) pi σ' H' s'->VL Hs.objs.size s'.heap h''->Inv X UB σ H' {s' with heap:=h''}:=fun {pi σ' H' s' h''} I' sb=>by
  have B:Un (frs X.stack) fp (L2.upd H2 s2.heap.objs.size (o0 s2.heap.objs.size)) H' Hs s'.heap:=I'.base
  have ne2:∀{b:Vd}{o:Obj},s2.heap.get? b=some o->b≠s2.heap.objs.size/\b≠Hs.objs.size:=fun {b o} e=>
   ⟨Vn (U7 e),Vn (XS (U7 e) (by rw [hC];exact Wt _))⟩
  have nH:∀{b:Vd}{o:HO},H2 b=some o->L2.upd H2 s2.heap.objs.size (o0 s2.heap.objs.size) b=some o:=fun {b o} e=>by rw [bD (eU e hp2)];exact e
  refine Inv.call' (ch:=fp) (s':={s' with heap:=h''}) I2 I'.os ⟨λb o e n hf hx=>?_,λb o e n hf hx=>?_,λb o e n hx=>?_,λb o e hx=>?_,λb xs e=>B.tups b xs (nH e),λb o u e=>B.frzs b o u (nH e),λb ps e=>B.tbls b ps (nH e)⟩ (Bx I'.hok I'.free sb) I'.bare λb hb=>⟨(f2 b hb).2.2.2.1,(f2 b hb).2.1,(f2 b hb).2.2.2.2.1,(f2 b hb).2.2.2.2.2⟩
  ·exact (sb.2 b (ne2 e).2).trans (B.keep b o (kHs b o e) (by rw [bD (ne2 e).1];exact n) hf hx)
  ·obtain ⟨sl,z⟩:=B.slot b o (kHs b o e) (by rw [bD (ne2 e).1];exact n) hf hx
   exact ⟨sl,(sb.2 b (ne2 e).2).trans z⟩
  ·exact B.free b o (kHs b o e) (by rw [bD (ne2 e).1];exact n) hx
  ·obtain ⟨o',z⟩:=B.there b o (kHs b o e) hx
   exact ⟨o',(sb.2 b (ne2 e).2).trans z⟩
 have run:=λ(s4:UP) (I4:Inv (c9 X own cap UA cl Hs.objs.size {s2 with heap:=Hs,toks:=s2.toks} (L2.upd H2 s2.heap.objs.size (o0 s2.heap.objs.size)) fp) [] _ _ s4) (st4:tn 0 s4.heap)=>AF (X:=c9 X own cap UA cl Hs.objs.size {s2 with heap:=Hs,toks:=s2.toks} (L2.upd H2 s2.heap.objs.size (o0 s2.heap.objs.size)) fp) (e:=e) (depth:=0) (acc:=.ref s2.heap.objs.size) (aR _) hcalm (λ_ _ f=>f) (LP it _ _) hT hIf (hE s2.heap.objs.size J2 H2 hp2 H0p) T (λJ' H'=>aU J2 J'/\aU H2 H') wk (λJ' H' x _=>⟨x.j,x.h⟩) I4 st4 (fpC λb hb=>(f3 b hb).1) (Ext.new e2.sub hp2 _) (srA.cap own.length cap (Co hnd)) nown (a0 _ _ _ (Ms I2) b9 J2p) (Vq (by rw [ZU,acG];exact W8 N hsz) hN) w3
 have st4:=T.keep _ _ _ st2 (λb hb o e=>old1 b o (kHs b o e))
 have go:=XR (run _ I4 st4) (R':=compPost (Vg X.prog X.w) X.A X.xe use Q0 (.ref s2.heap.objs.size) Hs.objs.size) λr s' ⟨hr,σ',H',J',r',I9,x9,j9,sr9,no9,ac9,l9,w9⟩=>by
  subst hr
  obtain ⟨mm,hm,_⟩:=I9.loc
  refine S5 s2.heap.objs.size Hs.objs.size mm _ H' _ hm (Ml I2 (by rw [hC];exact YI _)) I9.free (λh'' sb=>back I9 sb) ?_
  cases q:fin r'.1 with
  | bad=>rw [q] at w9;exact w9.elim
  | exc z=>rw [q] at w9;exact (nofin _ z q).elim
  | ok z=>
   rw [q] at w9
   obtain ⟨J9,x10,rr⟩:=hend (e2.h.free hp2) (e2.trans x9) ac9 q
   exact w9 _ J9 H' x10 rr
 exact start it _ _ _ _ go (T.self _ 0 _ _ _ st4 go)
def rD (X:Cx) (c:C) (e:Vv) (g:G R):Prop:=∃cm,Em X c cm g/\eval e X.env=cm none/\∀use,evalThenUse e X.env use=(do let _ <-cm (some use))
theorem bX {e:Vv}{g:G R}(h:rD X c e g):QD X c e g:=by
 obtain ⟨cm,core,hev,_⟩:=h
 refine ⟨λUB s σ H Q I h=>?_⟩
 rw [hev]
 exact core I h λacc C m s' H' fl hm hz hf hb q=>⟨m,hm,λh'' sb=>⟨.ref acc,H',hb h'' sb,rfl,q⟩⟩
theorem n8 (i:Nat){e:Vv}{g:G R}{x:Str}{pos' pos2:Pos}(hN:X.N.Nodup) (h:rD X c e g) (hx:X.N[i]?=some x:=by rfl) (SK:X.env.scope.names.lookup x=some .local:=by rfl)
  (hsw:ZJ e (some (.Name x pos')) pos2.line X.env=pure true:=by rfl):jM X c (.Assign [.Name x pos'] e pos2) (bg i g):=by
 obtain ⟨cm,core,_,S3⟩:=h
 refine ⟨λUB s σ H D I ⟨J,env,sr,w⟩=>?_⟩
 rw [arm_exec_Assign]
 refine UL (XU ?_)
 rw [show aas [.Name x pos'] e pos2.line X.env=pure true from hsw]
 refine UL (UO ?_)
 rw [if_pos rfl,S3]
 refine UL (UL (core (Q:=λv H1=>∃J1 r xx,Ext J H J1 H1/\RR c H J1 H1 r v/\toS r=.ok xx/\oP c J D (.nx (env.set i (some xx)))) I ⟨J,env,sr,aF (aK w) λr wr v J1 H1 e1 r1=>?_⟩ λacc C m s' H' fl hm ap hf hb ⟨J1,r,xx,e1,r1,q1,w1⟩=>?_))
 ·obtain ⟨xx,q,wr⟩:=wU wr
  exact ⟨J1,r,xx,e1,r1,q,wr⟩
 ·have I1:L2.Inv X UB σ H' s':=hb s'.heap (ae8 ..)
  show U9 _ _ (do Yd pos';bindName X.env x (.ref acc)) _ _ _
  refine UL (XU (wpAny_bindName ?_))
  refine yt I1 hN hx (.inl SK) (v:=.ref acc) (u:=.ref acc) rfl (λs2 I2 ⟨a,sb,ha⟩=>?_) (.inr SK)
  have hac:C≠a:=λz=>by
   rcases ha with e | e
   ·exact ap.2.1 (z.trans e)
   ·exact ap.2.2.1 _ _ e z.symm
  refine ⟨m,hm.sameBut sb hac,λh2 sb2=>?_⟩
  refine UO (UO ⟨σ.set i (some (.ref acc)),H',F5 I2 ap hf sb2 (o0:=default),?_⟩)
  exact w1 _ J1 H' e1.j (sr.set e1 r1 q1)
end
noncomputable def vc (n:Nat) (cap:List Nat) (gi0:G (List D)) (gt0:GT) (gts0:G Bool) (gi1:G (List D)) (gt1:GT) (gts1:G Bool) (ge:G R):G R:=jC 10000 n cap gi0 gt0 gts0 (jy gi1 gt1 gts1 (h_ ge)) (λys=>.ok (.l .fresh ys))
theorem LU (elt t0 i0 t1 i1:Vv) (f0 f1:List Vv) (UA:Yc) (pos:Pos) (it acc:UN) (env:Env):
  Zr (.ListComp elt [⟨t0,i0,f0,0⟩,⟨t1,i1,f1,0⟩] UA pos) 0 it acc env=(do
   Yd i0.pos
   match <-YM it with
   | none=>pure (.done .next)
   | some v=>
    Xe t0 it v
    assign t0 env v
    let mut ok:=true
    for c in f0 do
     if ok then ok <-abw c env (eval c env)
    if ok then
     let x <-eval i1 env
     Yd i1.pos
     let x <-We i1 env x
     let _ <-runOwn (.compStart (.ListComp elt [⟨t0,i0,f0,0⟩,⟨t1,i1,f1,0⟩] UA pos) 1 (<-holding [x] (Z2 x)) acc env) env
    again (.compLoop (.ListComp elt [⟨t0,i0,f0,0⟩,⟨t1,i1,f1,0⟩] UA pos) 0 it acc env)):=by rfl
theorem Ot (elt t0 i0 t1 i1:Vv) (f0 f1:List Vv) (UA:Yc) (pos:Pos) (it acc:UN) (env:Env):
  Zr (.ListComp elt [⟨t0,i0,f0,0⟩,⟨t1,i1,f1,0⟩] UA pos) 0 it acc env=nj t0 i0 f0 it env (ue (.ListComp elt [⟨t0,i0,f0,0⟩,⟨t1,i1,f1,0⟩] UA pos) i1 acc env) (again (.compLoop (.ListComp elt [⟨t0,i0,f0,0⟩,⟨t1,i1,f1,0⟩] UA pos) 0 it acc env)):=by
 rw [LU]
 refine bind_congr λ_=>bind_congr λr=>?_
 cases r with
 | none=>rfl
 | some v=>
  refine bind_congr λ_=>bind_congr λ_=>bind_congr λok=>?_
  cases ok with
  | false=>rfl
  | true=>simp only [ue,bind_assoc,pure_bind,if_true]
theorem Ou (elt t0 i0 t1 i1:Vv) (f0 f1:List Vv) (UA:Yc) (pos:Pos) (it acc:UN) (env:Env):
  Zr (.ListComp elt [⟨t0,i0,f0,0⟩,⟨t1,i1,f1,0⟩] UA pos) 1 it acc env=nj t1 i1 f1 it env (do let _ <-call (.builtin "list.append") [acc,<-eval elt env]) (again (.compLoop (.ListComp elt [⟨t0,i0,f0,0⟩,⟨t1,i1,f1,0⟩] UA pos) 1 it acc env)):=by rfl
section
variable {X:Cx}{c:C}
theorem Mz (own:List Str) (cap:List Nat){elt t0 i0 t1 i1:Vv}{f0 f1:List Vv}{UA:Yc}{pos:Pos}{gi0 gi1:G (List D)}{gt0 gt1:GT}{gts0 gts1:G Bool}{ge:G R}(hi:xh X c t0 i0 gi0)
  (hbody:∀(cl:List (Str×Vd)) (C:Vd) (s:UP) (H:Hp) (fp:List Vd),dW X.env.cells UA.names []=some cl->qu (c9 X own cap UA cl C s H fp) c t0 gt0/\qq (c9 X own cap UA cl C s H fp) c f0 gts0/\BL (c9 X own cap UA cl C s H fp) c t1 i1 gi1/\qu (c9 X own cap UA cl C s H fp) c t1 gt1/\qq (c9 X own cap UA cl C s H fp) c f1 gts1/\QD (c9 X own cap UA cl C s H fp) c elt ge)
  (a:BB X UA cap i0:=by exact sU rfl) (hs1:∀(en:Env) x,We i1 en x=pure x:=by intro _ _;rfl):rD X c (.ListComp elt [⟨t0,i0,f0,0⟩,⟨t1,i1,f1,0⟩] UA pos) (vc own.length cap gi0 gt0 gts0 gi1 gt1 gts1 ge):=by
 refine ⟨_,?_,rfl,λ_=>rfl⟩
 refine oQ (e:=.ListComp elt [⟨t0,i0,f0,0⟩,⟨t1,i1,f1,0⟩] UA pos) (ob:={cls:=.type "list",dict:=none,data:=.seq ([]:List UN).toArray}) (o0:=λ_=>.lst []) (Acc:=Dh c) (N:=1000 * 1) (lim:=10000) (m:=λp env=>ue (.ListComp elt [⟨t0,i0,f0,0⟩,⟨t1,i1,f1,0⟩] UA pos) i1 (.ref p) env) own cap rfl hi.h
  (λs Q E q=>Vu q) (λh H=>⟨Vl _,[],0,.nil,U0 _ rfl⟩) (λp=>t7) (λp J H _ h1 h2=>⟨[],h1,h2,.nil⟩) (by decide) (λit p env=>DU (Ot ..)) (λit acc env R s h0 h=>aaT h0 h) (λys z q=>by cases q)
  (fun {p J H J' H' ys r} hp e ⟨us,h1,h2,h3⟩ q=>by cases q;exact ⟨J',e,⟨p,us,rfl,h1,h2,hp,h3⟩⟩) (λcl C s H fp hcc=>?_) a
 obtain ⟨b1,b2,b3,b4,b5,b6⟩:=hbody cl C s H fp hcc
 exact ⟨b1.h,b2.h,λp J2 H2 hp2 hp0=>BR t7 a.hcalm (λ_ _ f=>f) (λx=>hs1 _ x) (λit R s h0 h=>Oi h0 h) (λit=>DU (Ou ..)) b3.h b4.h b5.h (BQ (λ_ _ f=>f) hp2 hp0 b6.h)⟩
end
noncomputable def D9:UN->Option V
 | .int i _=>some (.int i)
 | .ref a=>some (.ref a)
 | _=>none
noncomputable def kU:List UN->Option (List V)
 | []=>some []
 | u::us=>match D9 u,kU us with
  | some v,some vs=>some (v::vs)
  | _,_=>none
open Classical in
noncomputable def lS (h:V1):Hp:=λa=>match h.get? a with
 | some o=>if o.cls=.type "tuple" then (match o.data with
  | .seq UC _=>(kU UC.toList).map .tup
  | _=>none) else none
 | none=>none
theorem IA (h:D9 u=some v):RelV v u:=by
 cases u with
 | int i t=>cases h;exact ⟨t,rfl⟩
 | ref a=>cases h;exact rfl
 | _=>cases h
theorem x6:∀{us:List UN}{vs:List V},kU us=some vs->Vals vs us
 | [],vs,h=>by cases h;exact .nil
 | u::us,vs,h=>by
  unfold kU at h
  cases q:D9 u with
  | none=>rw [q] at h;cases h
  | some v=>
   cases q2:kU us with
   | none=>rw [q,q2] at h;cases h
   | some ws=>rw [q,q2] at h;cases h;exact .cons (IA q) (x6 q2)
theorem jd {h:V1}(q:lS h a=some o):∃vs ob UC n,o=.tup vs/\h.get? a=some ob/\ob.cls=.type "tuple"/\ob.data=.seq UC n/\Vals vs UC.toList:=by
 unfold lS at q
 split at q
 ·rename_i ob hob
  split at q
  ·rename_i hc
   split at q
   ·rename_i UC n hd
    cases z:kU UC.toList with
    | none=>rw [z] at q;cases q
    | some vs=>rw [z] at q;cases q;exact ⟨vs,ob,UC,n,rfl,hob,hc,hd,x6 z⟩
   ·cases q
  ·cases q
 ·cases q
theorem LB {h:V1}{UC:List UN}(p:h.IsTuple a UC.toArray) (q:kU UC=some vs):lS h a=some (.tup vs):=by
 obtain ⟨o,ho,hc,n,hd⟩:=p
 unfold lS
 rw [ho]
 simp only [hc,if_true,hd]
 rw [q];rfl
theorem qI {s:UP}:HF [] (lS s.heap) s:=by
 refine ⟨λa xs h=>?_,λa xs h=>?_,λa h=>?_,λa ep UJ h=>?_⟩
 ·rcases h with (h | ⟨o,h⟩) | ⟨o,UC,n,h,_⟩
  ·obtain ⟨vs,ob,UC,n,e,h1,h2,h3,h4⟩:=jd h
   cases e
   exact ⟨UC.toList,h4,ob,h1,h2,n,by rw [h3]⟩
  ·obtain ⟨vs,ob,UC,n,e,_⟩:=jd h;cases e
  ·cases h
 ·rcases h with (h | ⟨o,h⟩) | ⟨o,UC,n,h,_⟩
  ·obtain ⟨vs,ob,UC,n,e,_⟩:=jd h;cases e
  ·obtain ⟨vs,ob,UC,n,e,_⟩:=jd h;cases e
  ·cases h
 ·obtain ⟨vs,ob,UC,n,e,_⟩:=jd h;cases e
 ·obtain ⟨vs,ob,UC,n,e,_⟩:=jd h;cases e
theorem AR {K:UM}{J:Hp}:∀{ds:List D}{vs:List V}{us:List UN},areKeys ds=true->aL K J ds vs->Vals vs us->kU us=some vs
 | _,_,_,_,.nil,.nil=>rfl
 | d::ds,v::vs,u::us,h,.cons r rs,.cons q qs=>by
  unfold areKeys at h
  rw [UT] at h
  have ih:=AR h.2 rs qs
  have e:D9 u=some v:=by
   cases d with
   | int i=>cases r;obtain ⟨t,rfl⟩:=q;rfl
   | tup xs=>cases r;cases q;rfl
   | _=>cases h.1
  unfold kU
  rw [e,ih]
mutual
theorem jY {K:UM}{J:Hp}{s:UP}(F:HF K J s):∀{d:D}{v:V},isKey d=true->Rep K J d v->Rep [] (lS s.heap) d v
 | .int i,_,_,.int _=>.int i
 | .tup ds,_,hk,.tup (a:=a) (vs:=vs) h hs=>by
  obtain ⟨UC,r,p⟩:=F.t _ _ h
  exact .tup (.inl (.inl (LB p (AR hk hs r)))) (AS F hk hs)
 | .non,_,hk,_=>nomatch hk
 | .bl _,_,hk,_=>nomatch hk
 | .str _,_,hk,_=>nomatch hk
 | .lst _,_,hk,_=>nomatch hk
 | .emp,_,hk,_=>nomatch hk
 | .exn _ _ _,_,hk,_=>nomatch hk
 | .dct _ _,_,hk,_=>nomatch hk
theorem AS {K:UM}{J:Hp}{s:UP}(F:HF K J s):∀{ds:List D}{vs:List V},areKeys ds=true->aL K J ds vs->aL [] (lS s.heap) ds vs
 | [],_,_,.nil=>.nil
 | d::ds,_,h,.cons r rs=>by
  unfold areKeys at h
  rw [UT] at h
  exact .cons (jY F h.1 r) (AS F h.2 rs)
end
theorem Gk {h h':V1}{o:Obj} {es ep}(ho:h.get? d=some o) (hd:o.data=.dict es ep) (sb:VL d h h'):aU (lS h) (lS h'):=λa x q=>by
 obtain ⟨vs,ob,UC,n,rfl,h1,h2,h3,h4⟩:=jd q
 have hne:a≠d:=by
  rintro rfl
  rw [ho] at h1;cases h1
  rw [hd] at h3;cases h3
 unfold lS at q ⊢
 rw [sb.2 a hne]
 exact q
def KD:Type:={d:D // isKey d=true/\dep d<=8}
noncomputable instance:DecidableEq KD:=λa b=>aeh (a=b)
def D_ (A:Vz):Prop:=A.units + 16 < Wj
noncomputable def nD (prog:U6) (w:Vs):HeapKind prog w KD where
 is:=λh k a=>Rep [] (lS h) k.1 (.ref a)
 hash:=λk=>bY k.1
 draws:=λk=>kO k.1
 room:=D_
 inj:=fun {h a x y} hx hy=>aaF (Rep.inj (s:=({heap:=h}:UP)) qI hx hy (by have:=x.2.2;omega) (by have:=y.2.2;omega))
 keeps:=λhx ho hd sb=>Rep.mono (Gk ho hd sb) hx
 pyHash:=fun {A E s k a Q} hu hx q=>wV k.1 (.ref a) (.ref a) A s qI k.2.1 hx rfl (by have:=k.2.2;unfold D_ at hu;omega) E s Q qI q
 eqBool:=fun {A E s x y a b Q} hu hx hy q=>by
  have h:=nM (s:=s) qI A hx hy rfl rfl (u:=.ref a) (u':=.ref b) (by have:=x.2.2;unfold D_ at hu;omega) (by have:=x.2.2;omega) (by have:=y.2.2;omega)
  refine h _ _ _ _ ?_
  have e:bu x.1 y.1=decide (x=y):=by
   rw [Vy,wG x.2.1 y.2.1,decide_eq_true_eq]
   exact ⟨λz=>aaF z,λz=>congrArg Subtype.val z⟩
  rw [e];exact q
 quiet:=fun {A E s k a Q} hx q=>om 8 qI ⟨k.1,.ref a,k.2.1,k.2.2,hx,rfl⟩ q
noncomputable def gK:List D->List D->D->Option D
 | k::ks,v::vs,x=>if bu k x=true then some v else gK ks vs x
 | _,_,_=>none
section
variable {K:UM}{J:Hp}{s:UP}{P:U6}{w:Vs}
theorem B4 (F:HF K J s):∀{ks:List D}{us ws:List V}{es:List aa2},areKeys ks=true->(∀k∈ks,∃xs,k=.tup xs)->deps ks<=8->aL K J ks us->ws.length=us.length->aae zq ((cJ ks).zip (us.zip ws)) es->
  ∃xs:List (KD×Vd×UN),es=xs.map (adI (nD P w))/\xs.map (λx=>x.1.1)=ks/\(∀x∈xs,(nD P w).is s.heap x.1 x.2.1)/\Vals ws (xs.map λx=>x.2.2)/\Vals us (xs.map λx=>XA x.2.1)
 | _,_,[],_,_,_,_,.nil,_,h=>by
  cases h
  exact ⟨[],rfl,rfl,λ_ h=>(nomatch h),.nil,.nil⟩
 | k::ks,u::us,v::ws,es,hk,ht,hd,.cons r rs,hl,h=>by
  unfold areKeys at hk
  rw [UT] at hk
  unfold deps at hd
  have h:aae zq ((bY k,u,v)::(cJ ks).zip (us.zip ws)) es:=h
  cases h with
  | @cons _ e _ es' h1 h2=>
   obtain ⟨xs,e1,e2,e3,e4,e5⟩:=B4 F hk.2 (λk hk=>ht k (UU _ hk)) (by omega) rs (by simpa using hl) h2
   obtain ⟨xs',rfl⟩:=ht k UW
   obtain ⟨q1,q2,q3⟩:=h1
   obtain ⟨eh,ek,ev⟩:=e
   cases r with
   | tup t1 t2=>
    rename_i a vs
    have q2:ek=.ref a:=q2
    have q1:eh=bY (.tup xs'):=q1
    subst q2;subst q1
    refine ⟨(⟨.tup xs',hk.1,by omega⟩,a,ev)::xs,by rw [e1];rfl,by rw [U_,e2],λx hx=>?_,.cons q3 e4,.cons rfl e5⟩
    (rcases U8.mp hx with rfl | hx)
    ·exact jY F hk.1 (.tup t1 t2)
    ·exact e3 x hx
 | [],us,v::ws,_,_,_,_,rs,hl,_=>by cases rs;cases hl
 | k::ks,us,[],_,_,_,_,rs,hl,_=>by cases rs;cases hl
theorem HN {xs:List (KD×Vd×UN)}{ks:List D}(e:xs.map (λx=>x.1.1)=ks) (nd:ks.Nodup):(xs.map (·.1)).Nodup:=by
 rw [<-e] at nd
 have this:((xs.map (·.1)).map (λk:KD=>k.1)).Nodup:=by rw [Vr];exact nd
 exact aew (λk:KD=>k.1) (λa b h e=>h (congrArg (λk:KD=>k.1) e)) this
theorem uO:∀{xs:List (KD×Vd×UN)}{ks vs:List D}{ws:List V}(k:KD),xs.map (λx=>x.1.1)=ks->aL K J vs ws->Vals ws (xs.map λx=>x.2.2)->
  (∀d,gK ks vs k.1=some d->∃p v,aei xs k=some p/\RelV v p.2/\Rep K J d v)/\(gK ks vs k.1=none->aei xs k=none)
 | [],_,vs,ws,k,e,rs,rv=>by
  subst e
  exact ⟨λd h=>(nomatch h),λ_=>rfl⟩
 | x::xs,_,_,_,k,e,.cons r rs,.cons q rv=>by
  subst e
  obtain ⟨i1,i2⟩:=uO (xs:=xs) k rfl rs rv
  rw [U_]
  unfold gK
  by_cases c:x.1=k
  ·have:bu x.1.1 k.1=true:=by rw [c];exact ic _
   rw [if_pos this]
   have ek:aei (x::xs) k=some x.2:=by unfold aei;rw [List.find?_cons_of_pos (by simpa using c)];rfl
   exact ⟨λd h=>by cases h;exact ⟨x.2,_,ek,q,r⟩,λh=>nomatch h⟩
  ·have:¬bu x.1.1 k.1=true:=λh=>c (aaF ((wG x.1.2.1 k.2.1).mp h))
   rw [if_neg this]
   have ek:aei (x::xs) k=aei xs k:=by unfold aei;rw [List.find?_cons_of_neg (by simpa using c)]
   rw [ek]
   exact ⟨i1,i2⟩
theorem oS {H:Hp}(F:HF K J s) (F':HF K H s) (h:d7 K J H a ks vs):∃(xs:List (KD×Vd×UN)) (us ws:List V),s.heap.DictOfH (nD P w) a xs/\xs.map (λx=>x.1.1)=ks/\aL K J ks us/\aL K J vs ws/\Vals ws (xs.map λx=>x.2.2)/\Vals us (xs.map λx=>XA x.2.1)/\(a == X7)=false:=by
 obtain ⟨us,ws,ep,h,hk,hv,ok,hs⟩:=h
 obtain ⟨o,es,h1,h2,h3,h4⟩:=F'.d _ _ _ h
 obtain ⟨xs,e1,e2,e3,e4,e5⟩:=B4 (P:=P) (w:=w) F ok.key ok.tp ok.dp hk (by rw [<-hv.length,<-hk.length,hs.2]) h4
 exact ⟨xs,us,ws,⟨o,es,ep,h1,h2,h3,e1,e3,HN e2 ok.nd⟩,e2,hk,hv,e4,e5,hs.1⟩
end
noncomputable def dO:D->Bool
 | .tup xs=>areKeys xs && decide (deps xs + 1<=8)
 | _=>false
theorem iG (h:dO k=true):∃xs,k=.tup xs/\isKey k=true/\dep k<=8:=by
 cases k with
 | tup xs=>
  unfold dO at h
  rw [UT] at h
  exact ⟨xs,rfl,h.1,of_decide_eq_true h.2⟩
 | _=>cases h
noncomputable def sS:R->Option (List D×List D)
 | .d (.dct ks vs)=>some (ks,vs)
 | .mo ks vs=>some (ks,vs)
 | .mb ks vs=>some (ks,vs)
 | .mf ks vs=>some (ks,vs)
 | _=>none
noncomputable def fD (x y:R):M R:=match sS x,y with
 | some z,.d k=>if dO k=true then (match gK z.1 z.2 k with
  | some d=>.ok (.d d)
  | none=>.bad) else .bad
 | _,_=>.bad
section
variable {X:Cx}{c:C}{a b:Vv}{ga gb:G R}{pos:Pos}
theorem RR.dk {He J H:Hp}(hp:HI c J H):∀{r:R}{v:V}{z:List D×List D},RR c He J H r v->sS r=some z->∃a,v=.ref a/\d7 c.K J H a z.1 z.2
 | .d (.dct ks vs),v,z,h,e=>by
  cases e
  cases h with
  | dct h1 h2 h3 h4 h5=>exact ⟨_,rfl,_,_,_,hp.sub _ _ h1,h2,h3,h4,h5⟩
 | .mo ks vs,v,z,⟨a,h1,h2,_⟩,e=>by cases e;exact ⟨a,h1,h2⟩
 | .mf ks vs,v,z,⟨a,h1,h2,_⟩,e=>by cases e;exact ⟨a,h1,h2⟩
 | .mb ks vs,v,z,⟨a,h1,h2⟩,e=>by cases e;exact ⟨a,h1,h2.mono (aU.refl _) hp.ent⟩
 | .d .non,_,_,_,e=>nomatch e
 | .d (.bl _),_,_,_,e=>nomatch e
 | .d (.int _),_,_,_,e=>nomatch e
 | .d (.str _),_,_,_,e=>nomatch e
 | .d (.tup _),_,_,_,e=>nomatch e
 | .d (.lst _),_,_,_,e=>nomatch e
 | .d .emp,_,_,_,e=>nomatch e
 | .d (.exn _ _ _),_,_,_,e=>nomatch e
 | .l _ _,_,_,_,e=>nomatch e
theorem MX (hu:X.A.units + 64 < Wj):qi X (λx y H Q=>∃J p ks vs k d,aU J H/\x=.ref p/\d7 X.K J H p ks vs/\Rep X.K J k y/\dO k=true/\gK ks vs k=some d/\∀v,Rep X.K J d v->Q v H):=by
 intro value slice UB s σ H x y v u Q I rx ry h hs
 obtain ⟨J,p,ks,vs,k,d,sm,rfl,hd,hk,ok,lk,q⟩:=h
 have F:HF X.K J s:=HF.of (c:=⟨X.K,H,H,λ_=>True⟩) I sm
 obtain ⟨kx,rfl,k1,k2⟩:=iG ok
 obtain ⟨r,rfl⟩:∃r,y=.ref r:=by cases hk;exact ⟨_,rfl⟩
 cases rx
 cases ry
 obtain ⟨xs,us,ws,hm,e2,_,hv,e4,_,hsm⟩:=oS (P:=X.prog) (w:=X.w) F (fG I) hd
 obtain ⟨pp,v,ea,rv,rd⟩:=(uO ⟨.tup kx,k1,k2⟩ e2 hv e4).1 d lk
 have room:(nD X.prog X.w).room X.A.in1:=by show X.A.units + 1 + 16 < Wj;omega
 exact Zc (x:=pp.2) hm.typeIs slot_dict_getitem.lookup (wpAny_getItem_heap (Q:=λr s'=>r=pp.2/\EP X UB σ Q r s') room (jY F k1 hk) hm ea ⟨rfl,v,H,I.tok _,rv,q v rd⟩) hs
theorem fJ (hu:X.A.units + 64 < Wj) (ha:QD X c a ga) (hb:QD X c b gb) (hK:X.K=c.K:=by rfl) (hs:rG b:=by exact λ_ _=>rfl):QD X c (.Subscript a b pos) (g2 fD ga gb):=have ha:=ha.h;have hb:=hb.h;⟨JE (MX hu) (by
 intro He He' J H x y u v Q hp rx ry w
 unfold fD at w
 split at w
 ·rename_i hz
  obtain ⟨p,rfl,hd⟩:=rx.dk hp hz
  split at w
  ·rename_i ok
   split at w
   ·rename_i d hl
    exact ⟨J,p,_,_,_,d,hp.sub,rfl,by rw [hK];exact hd,by rw [hK];exact ry,ok,hl,λv rd=>w v J H (Ext.refl hp.sub) (by rw [hK] at rd;exact rd)⟩
   ·exact w.elim
  ·exact w.elim
 ·exact w.elim) ha hb hs⟩
end
noncomputable def wL:List D->List D->D->D->List D
 | k::ks,v::vs,x,d=>(if bu k x=true then d else v)::wL ks vs x d
 | _,vs,_,_=>vs
def dput (z:List D×List D) (k d:D):List D×List D:=if (gK z.1 z.2 k).isSome=true then (z.1,wL z.1 z.2 k d) else (z.1++[k],z.2++[d])
noncomputable def jl (ys:List D):List D×List D:=ys.foldl (λz y=>match y with
 | .tup [k,d]=>dput z k d
 | _=>z) ([],[])
theorem oR (ys:List D) (k d:D):jl (ys++[.tup [k,d]])=dput (jl ys) k d:=by unfold jl;rw [List.foldl_append];rfl
inductive cU (K:UM) (J:Hp):List (KD×Vd×UN)->List D->List V->List D->List V->Prop
 | nil:cU K J [] [] [] [] []
 | cons {x:KD×Vd×UN}{xs:List (KD×Vd×UN)}{ks vs:List D}{us ws:List V}{d:D}{v:V}:RelV v x.2.2->Rep K J d v->cU K J xs ks us vs ws->cU K J (x::xs) (x.1.1::ks) (.ref x.2.1::us) (d::vs) (v::ws)
section
variable {K:UM}{J:Hp}{P:U6}{w:Vs}
theorem cU.of:∀{xs:List (KD×Vd×UN)}{us:List V}{vs:List D}{ws:List V},aL K J vs ws->Vals ws (xs.map λx=>x.2.2)->Vals us (xs.map λx=>XA x.2.1)->cU K J xs (xs.map λx=>x.1.1) us vs ws
 | [],_,_,_,.nil,.nil,.nil=>.nil
 | x::xs,u::us,_,_,.cons r rs,.cons q qs,.cons p ps=>by
  have:u=.ref x.2.1:=by
   cases u with
   | ref a=>cases p;rfl
   | int i=>obtain ⟨t,h⟩:=p;cases h
   | str i=>obtain ⟨t,h⟩:=p;cases h
   | byt i=>obtain ⟨t,h⟩:=p;cases h
   | flt i=>obtain ⟨t,h⟩:=p;cases h
   | non=>cases p
   | bl b=>cases p
   | ty n=>cases p
  subst this
  exact .cons q r (cU.of rs qs ps)
theorem cU.put {k:KD}(rv:RelV v u) (rd:Rep K J d v):∀{xs:List (KD×Vd×UN)}{ks vs:List D}{us ws:List V},cU K J xs ks us vs ws->∃ws',cU K J (xs.map (putAt k u)) ks us (wL ks vs k.1 d) ws'
 | _,_,_,_,_,.nil=>⟨[],.nil⟩
 | x::xs,_,_,_,_,.cons q r t=>by
  obtain ⟨ws',ih⟩:=cU.put rv rd t
  rw [U_]
  unfold wL
  by_cases c:x.1=k
  ·have:bu x.1.1 k.1=true:=by rw [c];exact ic _
   rw [if_pos this]
   have e:putAt k u x=(x.1,x.2.1,u):=by unfold putAt;rw [if_pos c]
   rw [e]
   exact ⟨v::ws',.cons (x:=(x.1,x.2.1,u)) rv rd ih⟩
  ·have:¬bu x.1.1 k.1=true:=λh=>c (aaF ((wG x.1.2.1 k.2.1).mp h))
   rw [if_neg this]
   have e:putAt k u x=x:=by unfold putAt;rw [if_neg c]
   rw [e]
   exact ⟨_,.cons q r ih⟩
theorem cU.snoc {k:KD}{a:Vd}{u:UN}{d:D}{v:V}(rv:RelV v u) (rd:Rep K J d v):∀{xs:List (KD×Vd×UN)}{ks vs:List D}{us ws:List V},cU K J xs ks us vs ws->cU K J (xs++[(k,a,u)]) (ks++[k.1]) (us++[.ref a]) (vs++[d]) (ws++[v])
 | _,_,_,_,_,.nil=>.cons (x:=(k,a,u)) rv rd .nil
 | _,_,_,_,_,.cons q r t=>.cons q r (cU.snoc rv rd t)
theorem cU.ents:∀{xs:List (KD×Vd×UN)}{ks vs:List D}{us ws:List V},cU K J xs ks us vs ws->aae zq ((cJ ks).zip (us.zip ws)) (xs.map (adI (nD P w)))
 | _,_,_,_,_,.nil=>.nil
 | _,_,_,_,_,.cons q r t=>.cons ⟨rfl,rfl,q⟩ t.ents
theorem cU.reps:∀{xs:List (KD×Vd×UN)}{ks vs:List D}{us ws:List V},cU K J xs ks us vs ws->aL K J vs ws
 | _,_,_,_,_,.nil=>.nil
 | _,_,_,_,_,.cons q r t=>.cons r t.reps
theorem cU.keys:∀{xs:List (KD×Vd×UN)}{ks vs:List D}{us ws:List V},cU K J xs ks us vs ws->xs.map (λx=>x.1.1)=ks
 | _,_,_,_,_,.nil=>rfl
 | _,_,_,_,_,.cons q r t=>by rw [U_,t.keys]
theorem cU.len:∀{xs:List (KD×Vd×UN)}{ks vs:List D}{us ws:List V},cU K J xs ks us vs ws->ks.length=vs.length
 | _,_,_,_,_,.nil=>rfl
 | _,_,_,_,_,.cons q r t=>by rw [VU,VU,t.len]
theorem sQ:∀{xs ys:List D},areKeys (xs++ys)=(areKeys xs && areKeys ys)
 | [],_=>rfl
 | x::xs,ys=>by
  show (isKey x && areKeys (xs++ys))=((isKey x && areKeys xs) && areKeys ys)
  rw [sQ,Bool.and_assoc]
theorem Ae:∀{xs ys:List D}{n:Nat},deps xs<=n->deps ys<=n->deps (xs++ys)<=n
 | [],_,_,_,h=>h
 | x::xs,ys,n,h1,h2=>by
  unfold deps at h1
  have:=Ae (xs:=xs) (ys:=ys) (n:=n) (by omega) h2
  show max (dep x) (deps (xs++ys))<=n
  omega
theorem aL.snoc (h:aL K J ds vs) (r:Rep K J d v):aL K J (ds++[d]) (vs++[v]):=h.append (.cons r .nil)
end
section
variable {X:Cx}
theorem Cs {s:UP}{H J:Hp}(I:Inv X UB σ H s) (sub:aU J H){ks vs:List D}(h:d7 X.K J H p ks vs):
  ∃xs:List (KD×Vd×UN),s.heap.DictOfH (nD X.prog X.w) p xs/\xs.length=ks.length/\∀{kxs:List D}{a:Vd}{d:D}{v:V}{u:UN}(k1:isKey (.tup kxs)=true) (k2:dep (.tup kxs)<=8),Rep X.K J (.tup kxs) (.ref a)->Rep X.K J d v->RelV v u->
   ∀(h':V1) (tk:Nat),h'.DictOfH (nD X.prog X.w) p (storedH xs ⟨.tup kxs,k1,k2⟩ a u)->VL p s.heap h'->
    ∃o,Inv X UB σ (upd H p o) {s with heap:=h',toks:=tk}/\d7 X.K J (upd H p o) p (dput (ks,vs) (.tup kxs) d).1 (dput (ks,vs) (.tup kxs) d).2/\(dput (ks,vs) (.tup kxs) d).1.length<=ks.length + 1:=by
 have F:HF X.K J s:=HF.of (c:=⟨X.K,H,H,λ_=>True⟩) I sub
 obtain ⟨xs,us,ws,hm,q2,h3,h4,q4,q5,h7⟩:=oS (P:=X.prog) (w:=X.w) F (fG I) h
 obtain ⟨_,_,_,p9,_,_,h5,_⟩:=h
 have UI:cU X.K J xs ks us vs ws:=by
  have:=cU.of h4 q4 q5
  rw [q2] at this
  exact this
 refine ⟨xs,hm,by rw [<-q2,UR],fun {kxs a d v u} k1 k2 rk rd r9 h' tk hm' sb=>?_⟩
 obtain ⟨o',es',ep',g1',g2'',g3',g4',g5',g6'⟩:=hm'
 obtain ⟨l1,l2⟩:=uO (K:=X.K) (J:=J) ⟨.tup kxs,k1,k2⟩ q2 h4 q4
 have key:∃us' ws',cU X.K J (storedH xs ⟨.tup kxs,k1,k2⟩ a u) (dput (ks,vs) (.tup kxs) d).1 us' (dput (ks,vs) (.tup kxs) d).2 ws'/\aL X.K J (dput (ks,vs) (.tup kxs) d).1 us'/\areKeys (dput (ks,vs) (.tup kxs) d).1=true/\deps (dput (ks,vs) (.tup kxs) d).1<=8/\(∀k∈(dput (ks,vs) (.tup kxs) d).1,∃xs,k=.tup xs)/\(dput (ks,vs) (.tup kxs) d).1.length<=ks.length + 1:=by
  unfold dput
  cases lk:gK ks vs (.tup kxs) with
  | some z=>
   obtain ⟨pp,v,ea,_,_⟩:=l1 z lk
   rw [storedH_old ea]
   obtain ⟨ws',t⟩:=cU.put (k:=⟨.tup kxs,k1,k2⟩) r9 rd UI
   exact ⟨us,ws',t,h3,h5.key,h5.dp,h5.tp,YI _⟩
  | none=>
   rw [storedH_new (l2 lk)]
   refine ⟨us++[.ref a],ws++[v],cU.snoc (k:=⟨.tup kxs,k1,k2⟩) r9 rd UI,h3.snoc rk,?_,Ae h5.dp (by show max (dep (.tup kxs)) 0<=8;omega),λk hk=>?_,by simp⟩
   ·show areKeys (ks++[.tup kxs])=true
    rw [sQ,h5.key]
    show (true && (isKey (.tup kxs) && true))=true
    rw [k1];rfl
   ·rcases Vj.mp hk with h | h
    ·exact h5.tp k h
    ·exact ⟨kxs,U4.mp h⟩
 obtain ⟨us',ws',t,tk',kk,kd,kt,kl⟩:=key
 have nd':(dput (ks,vs) (.tup kxs) d).1.Nodup:=by
  rw [<-t.keys]
  have:((storedH xs ⟨.tup kxs,k1,k2⟩ a u).map (·.1)).Nodup:=g6'
  have h:=ae9 (S:=(·≠·)) (λk:KD=>k.1) (λa b (h:a≠b) e=>h (aaF e)) this
  rw [Vr] at h
  exact h
 refine ⟨lJ p ep' ((cJ (dput (ks,vs) (.tup kxs) d).1).zip (us'.zip ws')),I.write (e:=p) (by rw [p9];trivial) (.inl rfl) (λb u hb q=>by rw [sb.2 b hb];exact q) ⟨_,g1'⟩ ⟨⟨o',es',g1',g2'',g3',by rw [g4'];exact t.ents⟩,⟨_,g1'⟩,?_⟩,⟨us',ws',ep',b9,tk',t.reps,⟨kk,nd',kd,kt⟩,h7,t.len⟩,kl⟩
 rintro h1 h2 ⟨o,es,a1,a2⟩ e
 exact ⟨o,es,e o a1,a2⟩
end
def Dg (c:C) (p:Vd):Hp->Hp->List D->Prop:=λJ H ys=>d7 c.K J H p (jl ys).1 (jl ys).2/\J p=none/\(jl ys).1.length<=ys.length
theorem t6:zj (Dg c p):=⟨fun {J H J' H' ys} ⟨h1,h2,h3⟩ e=>⟨h1.mono e.j e.h,e.frz _ h1.ne h2,h3⟩⟩
noncomputable def t8 (gk gv:G R):Ev->M (List D×Ev):=λe=>gk e >>= λr=>toD r >>= λk=>gv e >>= λr2=>toD r2 >>= λd=>if dO k=true then .ok ([.tup [k,d]],e) else .bad
abbrev D5 (kx vx:Vv) (p:Vd) (env:Env):Sem Unit:=do
 let kv <-eval kx env
 let vv <-holding [kv] (eval vx env)
 Yd {kx.pos with endLine:=vx.pos.endLine,endCol:=vx.pos.endCol}
 holding [kv,vv] (dictSet p kv vv)
section
variable {X:Cx}{c:C}{p:Vd}{J2 H2:Hp}{kx vx:Vv}{gk gv:G R}
theorem BS (hu:X.A.units + 64 < Wj) (hK:X.K=c.K) (hx:∀v s,X.xe v s->False) (hp2:H2 p=none) (hp0:c.H0 p=none) (hk:PD X c kx gk) (hv:PD X c vx gv):vS X c p (Dg c p) J2 H2 1 (D5 kx vx p X.env) (t8 gk gv):=by
 intro UB s σ H J env ys Qf I x2 sr no ⟨h1,h2,h8⟩ hl w
 refine UL (VN (hk _ s σ H (λv H8=>∃J8 k,Ext J H J8 H8/\Rep c.K J8 k v/\cD (gv env >>= λr2=>toD r2 >>= λd=>if dO k=true then M.ok ([.tup [k,d]],env) else .bad) Qf c.T) I ⟨J,env,sr,aF (aK w) λr wr v J8 H8 e8 r8=>?_⟩) (λu8 s8 ⟨v8,H8,I8,r8,J8,k,e8,rk,w8⟩=>?_) λv s f=>(hx v s f).elim)
 ·obtain ⟨y,q,wr⟩:=jt wr
  obtain ⟨J9,e9,_,ry⟩:=freeze e8 r8 q
  exact ⟨J9,y,e9,ry,wr⟩
 refine UL (VB (VN (hv _ s8 σ H8 (λv H9=>∃J9 d,Ext J8 H8 J9 H9/\Rep c.K J9 d v/\cD (if dO k=true then M.ok ([.tup [k,d]],env) else .bad) Qf c.T) I8 ⟨J8,env,sr.ext e8,aF (aK w8) λr wr v J9 H9 e9 r9=>?_⟩) (λu9 s9 ⟨v9,H9,I9,r9,J9,d,e9,rd,w9⟩=>?_) λv s f=>(hx v s f).elim))
 ·obtain ⟨y,q,wr⟩:=jt wr
  obtain ⟨J9',e9',_,ry⟩:=freeze e9 r9 q
  exact ⟨J9',y,e9',ry,wr⟩
 refine UL (XU (VB ?_))
 by_cases ok:dO k=true
 case neg=>rw [if_neg ok] at w9;exact w9.elim
 rw [if_pos ok] at w9
 have w9:Qf ([.tup [k,d]],env):=w9
 obtain ⟨kxs,rfl,k1,k2⟩:=iG ok
 have ee:=e8.trans e9
 have rk9:=rk.mono e9.j
 obtain ⟨a,rfl⟩:∃a,v8=.ref a:=by cases rk;exact ⟨_,rfl⟩
 cases r8
 have J9p:J9 p=none:=ee.frz _ h1.ne h2
 rw [<-hK] at rk9 rd
 have h9:=h1.mono ee.j ee.h
 rw [<-hK] at h9
 obtain ⟨xs,hm,lx,put⟩:=Cs I9 ee.sub h9
 refine wpAny_dictSet_heap (knd:=nD X.prog X.w) (k:=⟨.tup kxs,k1,k2⟩) (show X.A.units + 16 < Wj by omega) (jY (HF.of (c:=⟨X.K,H9,H9,λ_=>True⟩) I9 ee.sub) k1 rk9) hm (λh' hm' sb=>?_) (by rw [lx];omega)
 obtain ⟨o,W,hd,kl⟩:=put k1 k2 rk9 rd r9 h' _ hm' sb
 refine ⟨σ,_,J9,([.tup [.tup kxs,d]],env),W,(x2.trans ee).other hp2 J9p,ee.j,(sr.ext ee).other J9p hp0 no,no,⟨by rw [oR,<-hK];exact hd,J9p,?_⟩,UX _,w9⟩
 rw [oR,Vc];exact Vq kl (Nat.add_le_add_right h8 1)
end
noncomputable def rP (n:Nat) (cap:List Nat) (gi0:G (List D)) (gt0:GT) (gts0:G Bool) (gi1:G (List D)) (gt1:GT) (gts1:G Bool) (gk gv:G R):G R:=jC 10000 n cap gi0 gt0 gts0 (jy gi1 gt1 gts1 (t8 gk gv)) (λys=>.ok (.d (.dct (jl ys).1 (jl ys).2)))
theorem LS (kx vx t0 i0 t1 i1:Vv) (f0 f1:List Vv) (UA:Yc) (pos:Pos) (it acc:UN) (env:Env):
  Zr (.DictComp kx vx [⟨t0,i0,f0,0⟩,⟨t1,i1,f1,0⟩] UA pos) 0 it acc env=(do
   Yd i0.pos
   match <-YM it with
   | none=>pure (.done .next)
   | some v=>
    Xe t0 it v
    assign t0 env v
    let mut ok:=true
    for c in f0 do
     if ok then ok <-abw c env (eval c env)
    if ok then
     let x <-eval i1 env
     Yd i1.pos
     let x <-We i1 env x
     let _ <-runOwn (.compStart (.DictComp kx vx [⟨t0,i0,f0,0⟩,⟨t1,i1,f1,0⟩] UA pos) 1 (<-holding [x] (Z2 x)) acc env) env
    again (.compLoop (.DictComp kx vx [⟨t0,i0,f0,0⟩,⟨t1,i1,f1,0⟩] UA pos) 0 it acc env)):=by rfl
theorem Oo (kx vx t0 i0 t1 i1:Vv) (f0 f1:List Vv) (UA:Yc) (pos:Pos) (it acc:UN) (env:Env):
  Zr (.DictComp kx vx [⟨t0,i0,f0,0⟩,⟨t1,i1,f1,0⟩] UA pos) 0 it acc env=nj t0 i0 f0 it env (ue (.DictComp kx vx [⟨t0,i0,f0,0⟩,⟨t1,i1,f1,0⟩] UA pos) i1 acc env) (again (.compLoop (.DictComp kx vx [⟨t0,i0,f0,0⟩,⟨t1,i1,f1,0⟩] UA pos) 0 it acc env)):=by
 rw [LS]
 refine bind_congr λ_=>bind_congr λr=>?_
 cases r with
 | none=>rfl
 | some v=>
  refine bind_congr λ_=>bind_congr λ_=>bind_congr λok=>?_
  cases ok with
  | false=>rfl
  | true=>simp only [ue,bind_assoc,pure_bind,if_true]
theorem Oq (kx vx t0 i0 t1 i1:Vv) (f0 f1:List Vv) (UA:Yc) (pos:Pos) (it:UN) (p:Vd) (env:Env):
  Zr (.DictComp kx vx [⟨t0,i0,f0,0⟩,⟨t1,i1,f1,0⟩] UA pos) 1 it (.ref p) env=nj t1 i1 f1 it env (D5 kx vx p env) (again (.compLoop (.DictComp kx vx [⟨t0,i0,f0,0⟩,⟨t1,i1,f1,0⟩] UA pos) 1 it (.ref p) env)):=by rfl
section
variable {X:Cx}{c:C}
theorem My (hu:X.A.units + 64 < Wj) (own:List Str) (cap:List Nat){kx vx t0 i0 t1 i1:Vv}{f0 f1:List Vv}{UA:Yc}{pos:Pos}{gi0 gi1:G (List D)}{gt0 gt1:GT}{gts0 gts1:G Bool}{gk gv:G R}(hi:xh X c t0 i0 gi0)
  (hbody:∀(cl:List (Str×Vd)) (C:Vd) (s:UP) (H:Hp) (fp:List Vd),dW X.env.cells UA.names []=some cl->qu (c9 X own cap UA cl C s H fp) c t0 gt0/\qq (c9 X own cap UA cl C s H fp) c f0 gts0/\BL (c9 X own cap UA cl C s H fp) c t1 i1 gi1/\qu (c9 X own cap UA cl C s H fp) c t1 gt1/\qq (c9 X own cap UA cl C s H fp) c f1 gts1/\QD (c9 X own cap UA cl C s H fp) c kx gk/\QD (c9 X own cap UA cl C s H fp) c vx gv)
  (a:BB X UA cap i0:=by exact sU rfl) (hs1:∀(en:Env) x,We i1 en x=pure x:=by intro _ _;rfl) (hK:X.K=c.K:=by rfl):rD X c (.DictComp kx vx [⟨t0,i0,f0,0⟩,⟨t1,i1,f1,0⟩] UA pos) (rP own.length cap gi0 gt0 gts0 gi1 gt1 gts1 gk gv):=by
 refine ⟨_,?_,rfl,λ_=>rfl⟩
 refine oQ (e:=.DictComp kx vx [⟨t0,i0,f0,0⟩,⟨t1,i1,f1,0⟩] UA pos) (ob:={cls:=.type "dict",data:=.dict #[]}) (o0:=λa=>lJ a 0 []) (Acc:=Dg c) (N:=1000 * 1) (lim:=10000) (m:=λp env=>ue (.DictComp kx vx [⟨t0,i0,f0,0⟩,⟨t1,i1,f1,0⟩] UA pos) i1 (.ref p) env) own cap rfl hi.h
  (λs Q E q=>Vu q) (λh H=>⟨⟨_,#[],U0 _ rfl,⟨rfl,rfl,rfl⟩,rfl,.nil⟩,⟨_,U0 _ rfl⟩,λh1 h2 ⟨o,es,a1,a2⟩ e=>⟨o,es,e o a1,a2⟩⟩) (λp=>t6) (λp J H hsm h1 h2=>⟨⟨[],[],0,h1,.nil,.nil,⟨rfl,Xw,Vl _,λ_ h=>(nomatch h)⟩,beq_eq_false_iff_ne.mpr (WT (Vn hsm)),rfl⟩,h2,UX _⟩) (by decide) (λit p env=>DT (Oo ..)) (λit acc env R s h0 h=>aaU h0 h) (λys z q=>by cases q)
  (fun {p J H J' H' ys r} hp e ⟨⟨us,ws,ep,h1,h3,h4,h5,h7⟩,h2,h8⟩ q=>by
   cases q
   have s1:aU J' (upd J' p (lJ p ep ((cJ (jl ys).1).zip (us.zip ws)))):=cQ h2 _
   refine ⟨upd J' p (lJ p ep ((cJ (jl ys).1).zip (us.zip ws))),⟨e.h,e.j.trans s1,λa o q=>?_,λa ha ja=>?_⟩,.dct b9 (h3.mono s1) (h4.mono s1) h5 h7⟩
   ·by_cases z:a=p
    ·subst z;rw [b9] at q;cases q;exact h1
    ·rw [bD z] at q;exact e.sub _ _ q
   ·have:a≠p:=λz=>ha (z▸hp)
    rw [bD this];exact e.frz a ha ja) (λcl C s H fp hcc=>?_) a
 obtain ⟨b1,b2,b3,b4,b5,b6,b7⟩:=hbody cl C s H fp hcc
 exact ⟨b1.h,b2.h,λp J2 H2 hp2 hp0=>BR t6 a.hcalm (λ_ _ f=>f) (λx=>hs1 _ x) (λit R s h0 h=>Oh h0 h) (λit=>DT (Oq ..)) b3.h b4.h b5.h (BS hu hK (λ_ _ f=>f) hp2 hp0 b6.h b7.h)⟩
end
noncomputable def lexLe:List Int->List Int->Bool
 | [],_=>true
 | _::_,[]=>false
 | x::xs,y::ys=>if x=y then lexLe xs ys else decide (x<=y)
theorem kQ (x y:Int) (xs ys:List Int):lexLe (x::xs) (y::ys)=if x=y then lexLe xs ys else decide (x<=y):=rfl
theorem p6:lexLe [] []=true:=rfl
theorem wJ (y:Int) (ys:List Int):lexLe [] (y::ys)=true:=rfl
theorem wI (x:Int) (xs:List Int):lexLe (x::xs) []=false:=rfl
theorem IB (A:Vz) (s:UP) (a:Int) (t:Tok) (c:Int) (u:Tok) (prog:U6) (w:Vs) (E:UN->UP->Prop) (Q:UN->UP->Prop) (h:Q (.bool (decide (a<=c))) s):
  U9 (Vg prog w) A (richCompare .LtE (.int a t) (.int c u)) Q E s:=
 (aeT h:U9 (Vg prog w) A (Wl .LtE (.int a t) (.int c u)) Q E s)
section
open PySem.SeqAt
open PySem.AutoSeq1 (wpAny_loadPart')
open PySem.MeetsSeq PySem.MeetsSeq2 PySem.MeetsSeq3
theorem yR (l b:Vd) (items UH:Array UN) (n n2:Nat) (dd dd2:Option Vd) (sl sl2:Array (Option UN)) (ns ms:List Int) (hi:YT items.toList ns) (hj:YT UH.toList ms):
  Meets (YU.«tuple.__le__» ⟨[.ref l,.ref b],[]⟩)
   (λ_ R s=>s.heap.get? l=some {cls:=.type "tuple",dict:=dd,data:=.seq items n,slots:=sl}/\s.heap.get? b=some {cls:=.type "tuple",dict:=dd2,data:=.seq UH n2,slots:=sl2}/\
    R (.ok (.ret (.bool (lexLe ns ms)))) s):=
 .of_wp λprog w A R s h=>by
  obtain ⟨hp,g,d,tk,os⟩:=s;obtain ⟨hl,hb,h⟩:=h
  have f2:=YO
  have z1:items.size=ns.length:=by rw [<-hi.length];simp
  have z2:UH.size=ms.length:=by rw [<-hj.length];simp
  wp_walk using Xh hl,Xh hb,Xl _ (λrest b s'=>b.1=none/\s'=⟨hp,g,d,tk,os⟩/\∃(vs ws:List UN) (ns' ms':List Int),rest=vs.zip ws/\
   YT vs ns'/\YT ws ms'/\ns'.length + UH.size=ms'.length + items.size/\R (.ok (.ret (.bool (lexLe ns' ms')))) ⟨hp,g,d,tk,os⟩) _
  case turn=>
   rintro ⟨y,x⟩ rest b s' ⟨hb',rfl,vs,ws,ns',ms',hz,Tt,hwi,hlen,hR⟩
   cases Tt with
   | nil=>rw [List.zip_nil_left] at hz;cases hz
   | cons a t Tu=>
    cases hwi with
    | nil=>rw [List.zip_nil_right] at hz;cases hz
    | cons c u Tv=>
     rw [YY] at hz
     injection hz with hyx hrest
     injection hyx with hy hx
     subst hy hx
     rw [kQ] at hR
     simp only [VU] at hlen
     obtain ⟨e,he,hiff⟩:=HT.G9 A.in1 ⟨hp,g,d,tk,os⟩ a t c u
     refine UL (he prog w _ _ ?_)
     cases e with
     | true=>
      rw [if_pos (hiff.mp rfl)] at hR
      wp_walk
      exact ⟨rfl,rfl,_,_,_,_,hrest,Tu,Tv,by omega,hR⟩
     | false=>
      rw [if_neg (λq=>absurd (hiff.mpr q) Vp)] at hR
      have Tq:=IB A.in1 ⟨hp,g,d,tk,os⟩ a t c u prog w
      wp_walk using Tq
      exact ⟨_,rfl,by simpa using hR⟩
  case fin=>
   rintro ⟨b1,b2⟩ s' ⟨hb',rfl,vs,ws,ns',ms',hz,Tt,hwi,hlen,hR⟩
   simp only at hb'
   subst hb'
   have hv:lexLe ns' ms'=decide (items.size<=UH.size):=by
    cases Tt with
    | nil=>
     cases hwi with
     | nil=>
      simp only [ZU] at hlen
      rw [p6]
      exact (decide_eq_true (by omega)).symm
     | cons c u hw=>
      simp only [ZU,VU] at hlen
      rw [wJ]
      exact (decide_eq_true (by omega)).symm
    | cons a t hv=>
     cases hwi with
     | nil=>
      simp only [ZU,VU] at hlen
      rw [wI]
      exact (decide_eq_false (by omega)).symm
     | cons c u hw=>
      rw [YY] at hz
      cases hz
   rw [hv] at hR
   wp_walk
   exact ⟨_,rfl,by simpa [Zj] using hR⟩
  case h=>
   exact ⟨rfl,rfl,items.toList,UH.toList,ns,ms,rfl,hi,hj,by omega,h⟩
end
section
variable {prog:U6}{w:Vs}{A:Vz}{E:UN->UP->Prop}{s:UP}
theorem DQ {items UH:Array UN}{Q:UN->UP->Prop}(hl:aex s.heap l items) (hb:aex s.heap b UH) (hi:YT items.toList ns) (hj:YT UH.toList ms)
 (hu:A.units < Wj) (h:Q (.bool (lexLe ns ms)) s):U9 (Vg prog w) A (Wl .LtE (.ref l) (.ref b)) Q E s:=by
 obtain ⟨⟨cls,dd,data,sl⟩,ho,hc,n,hd⟩:=id hl
 obtain ⟨⟨cls2,dd2,data2,sl2⟩,ho2,hc2,n2,hd2⟩:=id hb
 simp only at hc hd hc2 hd2
 subst hc hd hc2 hd2
 exact aaP (op:=.LtE) ⟨_,ho,rfl⟩ ⟨_,ho2,rfl⟩ PySem.F.slot_tuple_le PySem.F.entry_tuple_le (PySem.F.args_tuple_le_2 _ _) (yR l b items UH n n2 dd dd2 sl sl2 ns ms hi hj)
  ⟨ho,ho2,show Xk (lexLe ns ms)≠abt/\Q (.bool (lexLe ns ms)) s from ⟨(λx=>nomatch x),h⟩⟩ hu
end
section
variable {X:Cx}{c:C}{a b e:Vv}{ga gb:G R}{pos pos2:Pos}
theorem Nn (hu:X.A.units < Wj):dD X (Wl .LtE) (λx y H Q=>∃a b ns ms,x=.ref a/\y=.ref b/\dg X.K H a (ns.map V.int)/\dg X.K H b (ms.map V.int)/\Q (.bl (lexLe ns ms)) H):=by
 intro UB s σ H x y v u Q I rx ry h
 obtain ⟨a,b,ns,ms,rfl,rfl,ha,hb,q⟩:=h
 cases rx
 cases ry
 obtain ⟨UC,r1,p1,_⟩:=I.tuple ha
 obtain ⟨its2,r2,p2,_⟩:=I.tuple hb
 exact DQ p1 p2 (L2.intsAre_of r1:YT UC.toArray.toList ns) (L2.intsAre_of r2:YT its2.toArray.toList ms) hu ⟨.bl (lexLe ns ms),H,I,rfl,q⟩
noncomputable def Ak:R->R->M R
 | .d (.tup xs),.d (.tup ys)=>match intsOf xs,intsOf ys with
  | some ns,some ms=>.ok (.d (.bl (lexLe ns ms)))
  | _,_=>.bad
 | _,_=>.bad
theorem Ls (hu:X.A.units + 64 < Wj) (ha:QD X c a ga) (hb:QD X c b gb) (hK:X.K=c.K:=by rfl):QB X c (.Compare a [.LtE] [b] pos) (bx (g2 Ak ga gb)):=have ha:=ha.h;have hb:=hb.h;⟨i6 (Nn (by omega)) (by
 intro He He' J H x y u v Q hp rx ry w
 unfold Ak at w
 split at w
 ·cases rx with
  | tup h1 s1=>
   cases ry with
   | tup h2 s2=>
    split at w
    ·rename_i ns ms z1 z2
     have e1:=pe z1 s1
     have e2:=pe z2 s2
     subst e1 e2
     exact ⟨_,_,ns,ms,rfl,rfl,by rw [hK];exact fk hp.sub h1,by rw [hK];exact fk hp.sub h2,w _ J H (Ext.refl hp.sub) (.bl _)⟩
    ·exact w.elim
 ·exact w.elim) ha hb⟩
end
theorem v_ (gt:GT) (gts:G Bool) (ge:G R):∀(ds:List D) (env:Ev) (k:List D->M R),(bZ gt gts (h_ ge) ds env >>= λr=>k r.1)=(fW gt gts ge ds env >>= k)
 | [],env,k=>rfl
 | d::ds,env,k=>by
  unfold bZ fW
  cases gt d env with
  | bad=>rfl
  | exc z=>rfl
  | ok e=>
   show ((gts e >>= λk=>if k=true then h_ ge e >>= λr=>bZ gt gts (h_ ge) ds r.2 >>= λz=>.ok (r.1++z.1,z.2) else bZ gt gts (h_ ge) ds e) >>= _)=((gts e >>= λk=>if k=true then ge e >>= λr=>toD r >>= λy=>fW gt gts ge ds e >>= λys=>.ok (y::ys) else fW gt gts ge ds e) >>= _)
   cases gts e with
   | bad=>rfl
   | exc z=>rfl
   | ok b=>
    cases b with
    | false=>exact v_ gt gts ge ds e k
    | true=>
     show ((h_ ge e >>= λr=>bZ gt gts (h_ ge) ds r.2 >>= λz=>.ok (r.1++z.1,z.2)) >>= _)=((ge e >>= λr=>toD r >>= λy=>fW gt gts ge ds e >>= λys=>.ok (y::ys)) >>= _)
     unfold h_
     cases ge e with
     | bad=>rfl
     | exc z=>rfl
     | ok r=>
      show (((toD r >>= λy=>M.ok ([y],e)) >>= λr=>bZ gt gts (h_ ge) ds r.2 >>= λz=>.ok (r.1++z.1,z.2)) >>= _)=((toD r >>= λy=>fW gt gts ge ds e >>= λys=>.ok (y::ys)) >>= _)
      cases toD r with
      | bad=>rfl
      | exc z=>rfl
      | ok y=>
       have ih:=v_ gt gts ge ds e λys=>k (y::ys)
       show ((bZ gt gts (h_ ge) ds e >>= λz=>.ok ([y]++z.1,z.2)) >>= λr=>k r.1)=((fW gt gts ge ds e >>= λys=>M.ok (y::ys)) >>= k)
       have e1:((bZ gt gts (h_ ge) ds e >>= λz=>M.ok ([y]++z.1,z.2)) >>= λr=>k r.1)=(bZ gt gts (h_ ge) ds e >>= λr=>k (y::r.1)):=by cases bZ gt gts (h_ ge) ds e <;> rfl
       have e2:((fW gt gts ge ds e >>= λys=>M.ok (y::ys)) >>= k)=(fW gt gts ge ds e >>= λys=>k (y::ys)):=by cases fW gt gts ge ds e <;> rfl
       rw [e1,e2,ih]
theorem KH (n:Nat) (cap:List Nat) (gi:G (List D)) (gt:GT) (gts:G Bool) (ge:G R):bV n cap gi gt gts ge=jC sizeLine n cap gi gt gts (h_ ge) (λys=>.ok (.l .fresh ys)):=by
 funext env
 unfold bV jC
 cases gi env with
 | bad=>rfl
 | exc z=>rfl
 | ok ds=>
  show (if ds.length<=sizeLine then _ else _)=(if ds.length<=sizeLine then _ else _)
  by_cases c:ds.length<=sizeLine
  ·rw [if_pos c,if_pos c]
   exact (v_ gt gts ge ds _ λys=>.ok (.l .fresh ys)).symm
  ·rw [if_neg c,if_neg c]
section
variable {X:Cx}{c:C}
theorem f7 (own:List Str) (cap:List Nat){elt UD UE:Vv}{ifs:List Vv}{UA:Yc}{pos:Pos}{gi:G (List D)}{gt:GT}{gts:G Bool}{ge:G R}(hi:xh X c UD UE gi)
  (hbody:∀(cl:List (Str×Vd)) (C:Vd) (s:UP) (H:Hp) (fp:List Vd),dW X.env.cells UA.names []=some cl->qu (c9 X own cap UA cl C s H fp) c UD gt/\qq (c9 X own cap UA cl C s H fp) c ifs gts/\QD (c9 X own cap UA cl C s H fp) c elt ge) (a:BB X UA cap UE:=by exact sU rfl):rD X c (.ListComp elt [⟨UD,UE,ifs,0⟩] UA pos) (bV own.length cap gi gt gts ge):=by
 refine ⟨_,?_,rfl,λ_=>rfl⟩
 rw [KH]
 refine oQ (e:=.ListComp elt [⟨UD,UE,ifs,0⟩] UA pos) (ob:={cls:=.type "list",dict:=none,data:=.seq ([]:List UN).toArray}) (o0:=λ_=>.lst []) (Acc:=Dh c) (N:=1) (lim:=sizeLine) (m:=λp env=>do let _ <-call (.builtin "list.append") [.ref p,<-eval elt env]) own cap rfl hi.h
  (λs Q E q=>Vu q) (λh H=>⟨Vl _,[],0,.nil,U0 _ rfl⟩) (λp=>t7) (λp J H _ h1 h2=>⟨[],h1,h2,.nil⟩) (by rw [Nat.mul_one];exact UX _) (λit p env=>DU (compTurn_list ..)) (λit acc env R s h0 h=>aaT h0 h) (λys z q=>by cases q)
  (fun {p J H J' H' ys r} hp e ⟨us,h1,h2,h3⟩ q=>by cases q;exact ⟨J',e,⟨p,us,rfl,h1,h2,hp,h3⟩⟩) (λcl C s H fp hcc=>?_) a
 obtain ⟨b1,b2,b3⟩:=hbody cl C s H fp hcc
 exact ⟨b1.h,b2.h,λp J2 H2 hp2 hp0=>BQ (λ_ _ f=>f) hp2 hp0 b3.h⟩
end
end DL
namespace K23
open PySem DL
def uM:List Str:=["world","many","marks","arrows"]
noncomputable def vh:G O:=(aH (uf (c7 3 (bA (aC 1) (bA (aC 2) (bA (aC 3) dB)))) (af 0))
 (bf (bE (aA (gN dw (ao (bV 2 [] (gU (af 2)) (c7 2 (bA (aC 0) (bA (aC 1) dB))) cM (af 0)) aE)) (aA (gN dw (ao (bV 2 [] (gU (af 3)) (c7 2 (bA (aC 0) (bA (aC 1) dB))) cM (af 0)) aE)) aT)))))
def jx (as:List S):M R:=fin (vh (aV uM as))
def qp:List Str:=["one","other"]
def qG:G O:=(bK (bx (g2 (cj true) (gN (aN 1 K23.jx) (ao (af 0) aE)) (gN (aN 1 K23.jx) (ao (af 1) aE)))) y9 cL)
def jw (as:List S):M R:=fin (qG (aV qp as))
def lF:List Str:=["worlds","world"]
def lK:G O:=(cg (fE (af 0)) (aC 1) (bK (bx (g2 (nO λi j=>.bl (decide (j < i))) (g2 aY (af 1) (gC (.int 0))) (gC (.int 4)))) y9 cL))
def gw (as:List S):M R:=fin (lK (aV lF as))
def sM:List Str:=["one","other"]
noncomputable def tE:G O:=(aH (jD (gN (aN 2 K23.jw) (ao (af 0) (ao (af 1) aE))))
 (jD (gN (aN 1 K23.gw) (ao (bE (aA (af 0) (aA (af 1) aT))) aE))))
def dF (as:List S):M R:=fin (tE (aV sM as))
def BJ:List Str:=["pairs"]
noncomputable def Cc:G O:=(aH (bK (bx (g2 (gZ false) (af 0) (gC .non))) (bf (bE aT)) cL)
 (bf (gN dw (ao (gN u6 (ao (af 0) aE)) aE))))
def dc (as:List S):M R:=fin (Cc (aV BJ as))
def Jf:List Str:=["world","one","other","many","marks","arrows","bearing","leading"]
noncomputable def Jw:G O:=(aH (uf (c7 3 (bA (aC 3) (bA (aC 4) (bA (aC 5) dB)))) (af 0))
 (aH (bg 6 (gN dw (ao (bV 2 [1] (gU (af 4)) (c7 2 (bA (aC 0) (bA (aC 1) dB))) cM (g2 (fB false) (af 2) (af 1))) aE)))
 (aH (bg 7 (gN dw (ao (bV 2 [1,2] (gU (af 5)) (c7 2 (bA (aC 0) (bA (aC 1) dB))) cM (g2 (fB false) (bE (aA (af 2) (aA (af 3) aT))) (af 1))) aE)))
 (bf (bE (aA (g2 (cj false) (af 1) (af 2)) (aA (af 6) (aA (af 7) aT))))))))
def yT (as:List S):M R:=fin (Jw (aV Jf as))
def Ey:List Str:=["world"]
noncomputable def Fq:G O:=(bf (rP 2 [0] (bR (ao (g2 aY (af 0) (gC (.int 0))) aE)) (aC 0) cM (bR (ao (g2 aY (af 2) (gC (.int 0))) aE)) (aC 1) cM (bE (aA (af 0) (aA (af 1) aT))) (gN (aN 3 K23.yT) (ao (af 2) (ao (af 0) (ao (af 1) aE))))))
def qh (as:List S):M R:=fin (Fq (aV Ey as))
def Ex:List Str:=["first","second","pair","again"]
noncomputable def Fj:G O:=(bf (g2 (cj false) (g2 fD (af 0) (bE (aA (g2 aY (af 2) (gC (.int 0))) (aA (g2 aY (af 3) (gC (.int 0))) aT)))) (g2 fD (af 1) (bE (aA (g2 aY (af 2) (gC (.int 1))) (aA (g2 aY (af 3) (gC (.int 1))) aT))))))
def fL (as:List S):M R:=fin (Fj (aV Ex as))
def qm:List Str:=["first","second","pairing","pair","again"]
noncomputable def qF:G O:=(aH (bK (iP (wB (af 2)) (bx (g2 Ak (af 3) (g2 aY (af 2) (wm (gC (.int 1))))))) (bf (gC (.bl false))) cL)
 (aH (cg (fE (af 2)) (aC 4) (bK (ki (gy (bx (gN (aN 4 K23.fL) (ao (af 0) (ao (af 1) (ao (af 3) (ao (af 4) aE))))))) (gy (bx (gN (aN 4 K23.fL) (ao (af 0) (ao (af 1) (ao (af 4) (ao (af 3) aE)))))))) (bf (gC (.bl false))) cL))
 (bf (gC (.bl true)))))
def jv (as:List S):M R:=fin (qF (aV qm as))
def w_:List Str:=["one","other","most","first","second","pairs","longest","told","step"]
noncomputable def xK:G O:=(aH (jD (gN (aN 2 K23.dF) (ao (af 0) (ao (af 1) aE))))
 (aH (jD (gN (aN 3 K55.fR) (ao (af 2) (ao (gC (.int 0)) (ao (gC (.int 4)) aE)))))
 (aH (bg 3 (gN (aN 1 K23.qh) (ao (af 0) aE)))
 (aH (bg 4 (gN (aN 1 K23.qh) (ao (af 1) aE)))
 (aH (bg 5 (vc 2 [1,3,4] (bR (ao (g2 aY (af 0) (gC (.int 0))) aE)) (aC 0) cM (bR (ao (g2 aY (af 2) (gC (.int 0))) aE)) (aC 1) (bx (gN (aN 4 K23.fL) (ao (af 3) (ao (af 4) (ao (bE (aA (af 0) (aA (af 1) aT))) (ao (bE (aA (af 0) (aA (af 1) aT))) aE)))))) (bE (aA (af 0) (aA (af 1) aT)))))
 (aH (fS 5 (bg 6 (dR (aA (bE aT) aT))))
 (aH (bg 7 (dR (aA (bE aT) aT)))
 (aH (cg (bR (ao (af 2) aE)) (aC 8) (aH (fS 5 (bg 6 (vc 2 [5,3,4] (gU (af 6)) (aC 0) cM (fE (af 2)) (aC 1) (bx (gN (aN 4 K23.jv) (ao (af 3) (ao (af 4) (ao (af 0) (ao (af 1) aE)))))) (g2 cX (af 0) (bE (aA (af 1) aT))))))
 (wg 7 (af 6))))
 (bf (af 7))))))))))
def l6 (as:List S):M R:=fin (xK (aV w_ as))
end K23
namespace K23
open PySem DL K01 WP K51 K52 K55
section
variable {α β:Type}
theorem Jl {gts:G Bool}{act:Ev->M (List D×Ev)}{h':β->D}{rest:Ev}(p:β->Bool) (f:β->D):∀(ys:List β),(∀y∈ys,gts (a0::some (.d (h' y))::rest)=.ok (p y)/\(p y=true->act (a0::some (.d (h' y))::rest)=.ok ([f y],a0::some (.d (h' y))::rest)))->
  ∀z:Option S,∃z',bZ (aC 1) gts act (ys.map h') (a0::z::rest)=.ok ((ys.filter p).map f,a0::z'::rest)
 | [],_,z=>⟨z,rfl⟩
 | y::ys,H,z=>by
  obtain ⟨h1,h2⟩:=H y UW
  obtain ⟨z',ih⟩:=Jl p f ys (λy hy=>H y (UU _ hy)) (some (.d (h' y)))
  refine ⟨z',?_⟩
  rw [U_]
  unfold bZ
  show (gts (a0::some (.d (h' y))::rest) >>= λk=>if k=true then act (a0::some (.d (h' y))::rest) >>= λr=>bZ (aC 1) gts act (ys.map h') r.2 >>= λz=>.ok (r.1++z.1,z.2) else bZ (aC 1) gts act (ys.map h') (a0::some (.d (h' y))::rest))=_
  rw [h1,aS]
  cases q:p y with
  | true=>
   rw [if_pos rfl,h2 q,aS]
   show (bZ (aC 1) gts act (ys.map h') (a0::some (.d (h' y))::rest) >>= _)=_
   rw [ih,aS,Y4 q]
   rfl
  | false=>
   rw [if_neg (by decide),ih,Y5 (by simp [q])]
theorem E3 {gi1:G (List D)}{gts:G Bool}{act:Ev->M (List D×Ev)}{h:α->D}{h':β->D}{rest:Ev}(ys:α->List β) (p:α->β->Bool) (f:α->β->D):∀(xs:List α),(∀x∈xs,(ys x).length<=1000/\(∀z:Option S,gi1 (some (.d (h x))::z::rest)=.ok ((ys x).map h'))/\∀y∈ys x,gts (some (.d (h x))::some (.d (h' y))::rest)=.ok (p x y)/\(p x y=true->act (some (.d (h x))::some (.d (h' y))::rest)=.ok ([f x y],some (.d (h x))::some (.d (h' y))::rest)))->
  ∀z0 z:Option S,∃z0' z',bZ (aC 0) cM (jy gi1 (aC 1) gts act) (xs.map h) (z0::z::rest)=.ok (xs.flatMap λx=>((ys x).filter (p x)).map (f x),z0'::z'::rest)
 | [],_,z0,z=>⟨z0,z,rfl⟩
 | x::xs,H,z0,z=>by
  obtain ⟨h1,h2,h3⟩:=H x UW
  obtain ⟨z1,e1⟩:=Jl (a0:=some (.d (h x))) (p x) (f x) (ys x) h3 z
  obtain ⟨z0',z',ih⟩:=E3 ys p f xs (λy hy=>H y (UU _ hy)) (some (.d (h x))) z1
  refine ⟨z0',z',?_⟩
  rw [U_]
  unfold bZ
  show (jy gi1 (aC 1) gts act (some (.d (h x))::z::rest) >>= _)=_
  unfold jy
  rw [h2 z,aS,if_pos (by rw [UR];exact h1),e1,aS]
  show (bZ (aC 0) cM (jy gi1 (aC 1) gts act) (xs.map h) (some (.d (h x))::z1::rest) >>= _)=_
  rw [ih]
  rfl
theorem yW {gi0 gi1:G (List D)}{gts:G Bool}{act:Ev->M (List D×Ev)}{fin:List D->M R}{h:α->D}{h':β->D}{xs:List α}(ys:α->List β) (p:α->β->Bool) (f:α->β->D) (hi:gi0 env=.ok (xs.map h)) (hl:xs.length<=10000)
 (H:∀x∈xs,(ys x).length<=1000/\(∀z:Option S,gi1 (some (.d (h x))::z::cE 0 cap env)=.ok ((ys x).map h'))/\∀y∈ys x,gts (some (.d (h x))::some (.d (h' y))::cE 0 cap env)=.ok (p x y)/\(p x y=true->act (some (.d (h x))::some (.d (h' y))::cE 0 cap env)=.ok ([f x y],some (.d (h x))::some (.d (h' y))::cE 0 cap env))):
  jC 10000 2 cap gi0 (aC 0) cM (jy gi1 (aC 1) gts act) fin env=fin (xs.flatMap λx=>((ys x).filter (p x)).map (f x)):=by
 unfold jC
 rw [hi,aS,if_pos (by rw [UR];exact hl)]
 obtain ⟨z0',z',e⟩:=E3 ys p f xs H none none
 show (bZ (aC 0) cM (jy gi1 (aC 1) gts act) (xs.map h) (none::none::cE 0 cap env) >>= _)=_
 rw [e]
 rfl
theorem BP {ge:G R}(h:ge env=.ok r) (h2:toD r=.ok d):h_ ge env=.ok ([d],env):=by
 unfold h_
 rw [h,aS,h2]
 rfl
theorem vU {gk gv:G R}(h:gk env=.ok r) (h2:toD r=.ok k) (h3:gv env=.ok r2) (h4:toD r2=.ok d) (ok:dO k=true):t8 gk gv env=.ok ([.tup [k,d]],env):=by
 unfold t8
 rw [h,aS,h2,aS,h3,aS,h4,aS,if_pos ok]
end
noncomputable def fq (u:Wd) (a c:Nat):D:=.tup [.bl (bu (dN a) (dN c)),.tup (u.ms.map λr=>.bl (inD (dN a) (r.2.map dN))),.tup (u.ar.map λr=>.bl (inD (dP (a,c)) (r.2.map dP)))]
theorem L_ (u:Wd) (hu:BO u) (a c:Nat):yT [.d u.d,.d (dN a),.d (dN c)]=.ok (.d (fq u a c)):=by
 have ml:=hu.ml
 have al:=hu.al
 refine bM (Ea rfl rfl rfl ?_)
 refine bB (n1 (oO (xs:=u.ms) (λr=>.str r.1) (λr=>.tup (r.2.map dN)) (λr=>.bl (inD (dN a) (r.2.map dN))) rfl (by omega) λr _=>⟨_,two rfl rfl (Qo a r.2),rfl⟩) rfl) rfl ?_
 refine bB (n1 (oO (xs:=u.ar) (λr=>.str r.1) (λr=>.tup (r.2.map dP)) (λr=>.bl (inD (dP (a,c)) (r.2.map dP))) rfl (by omega) λr _=>⟨_,two (bF (aI rfl rfl (aI rfl rfl br)) t2) rfl (MO (a,c) r.2),rfl⟩) rfl) rfl ?_
 exact bz (bF (aI rfl rfl (aI rfl rfl (aI rfl rfl br))) (by show 3<=1000;decide)) rfl rfl
def dQ (m n:Nat):List (Nat×Nat):=(UQ m).flatMap λa=>(UQ n).map λb=>(a,b)
theorem lN {p:Nat×Nat}:p∈dQ m n↔p.1 < m/\p.2 < n:=by
 unfold dQ
 simp only [Zz,U1,UY]
 constructor
 ·rintro ⟨a,ha,b,hb,rfl⟩;exact ⟨ha,hb⟩
 ·rintro ⟨h1,h2⟩;exact ⟨p.1,h1,p.2,h2,rfl⟩
theorem pC (m n:Nat):(dQ m n).Nodup:=by
 unfold dQ
 refine abe.mpr ⟨λa _=>VO.mpr (acy (λh e=>h (by cases e;rfl)) (WJ (n:=n))),?_⟩
 refine acy ?_ (WJ (n:=m))
 intro a b hab p h1 q h2 e
 subst e
 obtain ⟨x,_,rfl⟩:=UY.mp h1
 obtain ⟨y,_,e⟩:=UY.mp h2
 cases e
 exact hab rfl
theorem HB (m n:Nat):(dQ m n).length=m * n:=by
 induction m with
 | zero=>simp [dQ]
 | succ m ih=>
  unfold dQ at ih ⊢
  rw [XN,ZV,Vc,ih,adn]
  simp
theorem KY (h:∀x∈ks,bu x k=false):gK ks vs k=none:=by
 induction ks generalizing vs with
 | nil=>cases vs <;> rfl
 | cons x ks ih=>
  cases vs with
  | nil=>rfl
  | cons v vs=>
   unfold gK
   rw [h x UW,if_neg (by decide)]
   exact ih λy hy=>h y (UU _ hy)
theorem xA (f:Nat×Nat->D):∀(n:Nat) (ps:List (Nat×Nat)),ps.length=n->ps.Nodup->jl (ps.map λp=>D.tup [dP p,f p])=(ps.map dP,ps.map f)
 | 0,ps,h,_=>by
  have:=X4.mp h
  subst this
  rfl
 | n + 1,ps,h,nd=>by
  rcases Wz ps with rfl | ⟨qs,p,rfl⟩
  ·cases h
  ·rw [WA] at h nd ⊢
   have nd':=XM.mp nd
   have ih:=xA f n qs (by simpa using h) nd'.1
   have hn:gK (qs.map dP) (qs.map f) (dP p)=none:=KY λx hx=>by
    obtain ⟨q,hq,rfl⟩:=UY.mp hx
    rw [xB,decide_eq_false_iff_not]
    rintro rfl
    exact nd'.2.2 q hq q UW rfl
   rw [Ve,List.map_singleton,oR,ih]
   unfold dput
   rw [hn]
   simp
abbrev iN (u:Wd):List D:=(dQ u.m u.m).map dP
abbrev iO (u:Wd):List D:=(dQ u.m u.m).map λp=>fq u p.1 p.2
theorem BH (u:Wd) (hu:BO u):qh [.d u.d]=.ok (.d (.dct (iN u) (iO u))):=by
 have hi:=hu.hi
 refine bM (bz (r:=.d (.dct (iN u) (iO u))) ?_ rfl rfl)
 refine (yW (xs:=UQ u.m) (h:=dN) (h':=dN) (λ_=>UQ u.m) (λ_ _=>true) (λa b=>.tup [dP (a,b),fq u a b]) ?_ (by simp;omega) λa _=>⟨by simp;omega,λz=>?_,λb _=>⟨rfl,λ_=>vU (bF (aI rfl rfl (aI rfl rfl br)) t2) rfl (c3 rfl rfl rfl (L_ u hu a b)) rfl rfl⟩⟩).trans ?_
 ·exact jH (cu (two rfl rfl (fN _ _))) (by omega)
 ·exact jH (cu (two rfl rfl (fN _ _))) (by omega)
 ·have ef:(UQ u.m).filter (λ_=>true)=UQ u.m:=YJ.mpr λ_ _=>rfl
  have e:((UQ u.m).flatMap λa=>((UQ u.m).filter λ_=>true).map λb=>D.tup [dP (a,b),fq u a b])=(dQ u.m u.m).map λp=>D.tup [dP p,fq u p.1 p.2]:=by
   rw [ef]
   unfold dQ
   rw [YG]
   simp [Vr,aap]
  rw [e]
  have h:=xA (λp=>fq u p.1 p.2) _ (dQ u.m u.m) rfl (pC _ _)
  show M.ok (R.d (.dct (jl ((dQ u.m u.m).map λp=>D.tup [dP p,fq u p.1 p.2])).1 (jl ((dQ u.m u.m).map λp=>D.tup [dP p,fq u p.1 p.2])).2))=_
  rw [h]
theorem Ck (u:Wd):∀(ps:List (Nat×Nat)) (p:Nat×Nat),p∈ps->gK (ps.map dP) (ps.map λp=>fq u p.1 p.2) (dP p)=some (fq u p.1 p.2)
 | q::ps,p,h=>by
  rw [U_,U_]
  unfold gK
  by_cases c:q=p
  ·subst c
   rw [if_pos (by rw [xB];simp)]
  ·rw [if_neg (by rw [xB];simpa using c)]
   rcases U8.mp h with e | e
   ·exact absurd e.symm c
   ·exact Ck u ps p e
theorem Af (u:Wd) (a c:Nat) (ha:a < u.m) (hc:c < u.m):fD (.d (.dct (iN u) (iO u))) (.d (dP (a,c)))=.ok (.d (fq u a c)):=by
 show (if dO (dP (a,c))=true then (match gK (iN u) (iO u) (dP (a,c)) with
  | some d=>M.ok (R.d d)
  | none=>.bad) else .bad)=_
 rw [if_pos (show dO (dP (a,c))=true from rfl),Ck u (dQ u.m u.m) (a,c) (lN.mpr ⟨ha,hc⟩)]
theorem Bd (u:Wd) (a c:Nat):dep (fq u a c)<=60:=by
 have h1:deps (u.ms.map λr=>D.bl (inD (dN a) (r.2.map dN)))<=0:=gS λx hx=>by obtain ⟨r,_,rfl⟩:=UY.mp hx;exact Vl _
 have h2:deps (u.ar.map λr=>D.bl (inD (dP (a,c)) (r.2.map dP)))<=0:=gS λx hx=>by obtain ⟨r,_,rfl⟩:=UY.mp hx;exact Vl _
 unfold fq
 simp only [dep,deps]
 omega
def ji (v w:Wd) (p q:Nat×Nat):Bool:=bu (fq v p.1 q.1) (fq w p.2 q.2)
def g9 (v w:Wd) (p:Nat×Nat):Prop:=p.1 < v.m/\p.2 < w.m
theorem vO (v w:Wd) (p q:Nat×Nat) (hp:g9 v w p) (hq:g9 v w q):fL [.d (.dct (iN v) (iO v)),.d (.dct (iN w) (iO w)),.d (dP p),.d (dP q)]=.ok (.d (.bl (ji v w p q))):=by
 refine bM (bz (two (x:=.d (fq v p.1 q.1)) (y:=.d (fq w p.2 q.2)) (two rfl (bF (aI (two rfl rfl (fN _ _)) rfl (aI (two rfl rfl (fN _ _)) rfl br)) t2) (Af v p.1 q.1 hp.1 hq.1)) (two rfl (bF (aI (two rfl rfl (FF _ _ _)) rfl (aI (two rfl rfl (FF _ _ _)) rfl br)) t2) (Af w p.2 q.2 hp.2 hq.2)) (rL _ _ _ (Bd v p.1 q.1) (Bd w p.2 q.2))) rfl rfl)
def tG (p q:Nat×Nat):Bool:=lexLe [p.1,p.2] [q.1,q.2]
theorem Q3 (p q:Nat×Nat):Ak (.d (dP p)) (.d (dP q))=.ok (.d (.bl (tG p q))):=rfl
noncomputable def gb (v w:Wd) (ps:List (Nat×Nat)) (q:Nat×Nat):Bool:=(match ps.getLast? with
 | some l=>!tG q l
 | none=>true) && ps.all λr=>ji v w q r && ji v w r q
theorem iT {g:G R}(h:g env=.ok (.d (.bl b))):bx g env=.ok b:=by
 show (g env >>= _)=_
 rw [h]
 rfl
theorem eK {g:G R}(h:g env=.ok (mK (.d (.bl b)))):bx g env=.ok b:=iT h
theorem bH {f:R->R->M R}{g h:G R}(hx:g env=.ok x) (hy:h env=.ok y) (hf:f x y=.ok (.d (.bl b))):bx (g2 f g h) env=.ok b:=iT (two hx hy hf)
theorem fY {g:G Bool}(h:g env=.ok b):gy g env=.ok (!b):=by
 show (g env >>= _)=_
 rw [h]
 rfl
theorem f6 {a b:G Bool}(h:a env=.ok false):iP a b env=.ok false:=by
 unfold iP
 rw [h]
 rfl
theorem d_ {a b:G Bool}(h:a env=.ok true) (h2:b env=.ok k):iP a b env=.ok k:=by
 unfold iP
 rw [h]
 exact h2
theorem Ny {a b:G Bool}(h:a env=.ok (!x)) (h2:b env=.ok (!y)):ki a b env=.ok (!(x && y)):=by
 unfold ki
 rw [h]
 cases x with
 | true=>exact h2
 | false=>rfl
theorem P8 (v w:Wd) (ps:List (Nat×Nat)) (q:Nat×Nat) (hp:∀p∈ps,g9 v w p) (hq:g9 v w q):jv [.d (.dct (iN v) (iO v)),.d (.dct (iN w) (iO w)),.d (.tup (ps.map dP)),.d (dP q)]=.ok (.d (.bl (gb v w ps q))):=by
 have loop:(match ps.getLast? with
   | some l=>!tG q l
   | none=>true)=true->Wp (aH (cg (fE (af 2)) (aC 4) (bK (ki (gy (bx (gN (aN 4 K23.fL) (ao (af 0) (ao (af 1) (ao (af 3) (ao (af 4) aE))))))) (gy (bx (gN (aN 4 K23.fL) (ao (af 0) (ao (af 1) (ao (af 4) (ao (af 3) aE)))))))) (bf (gC (.bl false))) cL))
 (bf (gC (.bl true))) [some (.d (.dct (iN v) (iO v))),some (.d (.dct (iN w) (iO w))),some (.d (.tup (ps.map dP))),some (.d (dP q)),none]) (·=.rt (.d (.bl (gb v w ps q)))):=by
  intro hl
  refine dY (ds:=ps.map dP) rfl ?_
  have key:∀(rs:List (Nat×Nat)),(∀p∈rs,g9 v w p)->∀x:Option S,Wp (fh (aC 4) (bK (ki (gy (bx (gN (aN 4 K23.fL) (ao (af 0) (ao (af 1) (ao (af 3) (ao (af 4) aE))))))) (gy (bx (gN (aN 4 K23.fL) (ao (af 0) (ao (af 1) (ao (af 4) (ao (af 3) aE)))))))) (bf (gC (.bl false))) cL) (rs.map dP) [some (.d (.dct (iN v) (iO v))),some (.d (.dct (iN w) (iO w))),some (.d (.tup (ps.map dP))),some (.d (dP q)),x])
    (λo=>((∃e,o=.nx e)/\(rs.all λr=>ji v w q r && ji v w r q)=true)\/(o=.rt (.d (.bl false))/\(rs.all λr=>ji v w q r && ji v w r q)=false)):=by
   intro rs
   induction rs with
   | nil=>intro _ x;exact ⟨_,rfl,.inl ⟨⟨_,rfl⟩,rfl⟩⟩
   | cons r rs ih=>
    intro hr x
    have h1:=vO v w q r hq (hr r UW)
    have h2:=vO v w r q (hr r UW) hq
    have ht:(ki (gy (bx (gN (aN 4 K23.fL) (ao (af 0) (ao (af 1) (ao (af 3) (ao (af 4) aE))))))) (gy (bx (gN (aN 4 K23.fL) (ao (af 0) (ao (af 1) (ao (af 4) (ao (af 3) aE)))))))) [some (.d (.dct (iN v) (iO v))),some (.d (.dct (iN w) (iO w))),some (.d (.tup (ps.map dP))),some (.d (dP q)),some (.d (dP r))]=.ok (!(ji v w q r && ji v w r q)):=Ny (fY (eK (c4 rfl rfl rfl rfl h1))) (fY (eK (c4 rfl rfl rfl rfl h2)))
    rw [U_,X0]
    unfold fh
    show Wp ((bK _ _ _ [some (.d (.dct (iN v) (iO v))),some (.d (.dct (iN w) (iO w))),some (.d (.tup (ps.map dP))),some (.d (dP q)),some (.d (dP r))]) >>= _) _
    cases hc:(ji v w q r && ji v w r q) with
    | true=>
     rw [hc] at ht
     rw [lM ht]
     exact ih (λp hp=>hr p (UU _ hp)) _
    | false=>
     rw [hc] at ht
     rw [jV ht]
     exact ⟨_,rfl,.inr ⟨rfl,rfl⟩⟩
  refine (key ps hp none).mono ?_
  rintro o (⟨⟨e,rfl⟩,h⟩ | ⟨rfl,h⟩)
  ·refine bz rfl rfl ?_
   unfold gb
   rw [hl,h]
   rfl
  ·show O.rt _=_
   unfold gb
   rw [h,Xu]
 refine bM ?_
 cases q':ps.getLast? with
 | none=>
  have:ps=[]:=aad.mp q'
  subst this
  exact ff (f6 rfl) (loop rfl)
 | some l=>
  obtain ⟨rs,rfl⟩:∃rs,ps=rs++[l]:=by
   rcases Wz ps with rfl | ⟨ys,y,rfl⟩
   ·cases q'
   ·rw [WA] at q' ⊢
    rw [Yt] at q'
    cases q'
    exact ⟨ys,rfl⟩
  have hix:aY (.d (.tup ((rs++[l]).map dP))) (.d (.int (-1)))=.ok (.d (dP l)):=by rw [Ve];exact Cf _ _
  have ht:iP (wB (af 2)) (bx (g2 Ak (af 3) (g2 aY (af 2) (wm (gC (.int 1)))))) [some (.d (.dct (iN v) (iO v))),some (.d (.dct (iN w) (iO w))),some (.d (.tup ((rs++[l]).map dP))),some (.d (dP q)),none]=.ok (tG q l):=by
   refine d_ ?_ (iT (two rfl (two rfl rfl hix) (Q3 q l)))
   show M.ok (!((rs++[l]).map dP).isEmpty)=_
   simp
  cases hc:tG q l with
  | true=>
   rw [hc] at ht
   refine b8 (pq ht (bz rfl rfl ?_))
   show O.rt _=_
   unfold gb
   rw [q']
   simp [hc]
  | false=>
   rw [hc] at ht
   exact ff ht (loop (by rw [q'];simp [hc]))
section
variable {env:Ev}{Q:O->Prop}{g:G R}{t:G O}{r:R}{i:Nat}
theorem DP {xs ys:List D}(h0:env[i]?=some (some (.own xs))) (h:g env=.ok r) (h2:iK r=.ok ys) (hl:xs.length + ys.length<=16777216) (k:Q (.nx (env.set i (some (.own (xs++ys)))))):Wp (wg i g env) Q:=by
 refine ⟨_,?_,k⟩
 unfold wg
 rw [h0]
 show (g env >>= _)=_
 rw [h,aS,h2,aS,if_pos (by rw [Wv];exact hl)]
theorem Nb (h:g env=.ok r) (k:Q (.nx env)):Wp (jD g env) Q:=⟨.nx env,by show (g env >>= _)=_;rw [h];rfl,k⟩
theorem GK (h:env[i]?=some (some (.d d))) (k:Wp (t env) Q):Wp (fS i t env) Q:=by
 have:fS i t env=t env:=by unfold fS;rw [h]
 rw [this];exact k
theorem Ox (h:env[i]?=some none) (k:Wp (t env) Q):Wp (fS i t env) Q:=by
 have:fS i t env=t env:=by unfold fS;rw [h]
 rw [this];exact k
end
structure Pr (v w:Wd):Prop where
 vo:BO v
 wo:BO w
 v4:v.m<=4
 w4:w.m<=4
 mn:v.ms.map VC=w.ms.map VC
 an:v.ar.map VC=w.ar.map VC
def j3 (u:Wd):D:=.tup [.tup ((u.ms.map VC).map .str),.tup ((u.ar.map VC).map .str)]
theorem zo (u:Wd) (hu:BO u):jx [.d u.d]=.ok (.d (j3 u)):=by
 have ml:=hu.ml
 have al:=hu.al
 refine bM (Ea rfl rfl rfl (bz (bF (aI (n1 (oO (xs:=u.ms) (λr=>.str r.1) (λr=>.tup (r.2.map dN)) (λr=>.str r.1) rfl (by omega) λr _=>⟨_,rfl,rfl⟩) rfl) rfl (aI (n1 (oO (xs:=u.ar) (λr=>.str r.1) (λr=>.tup (r.2.map dP)) (λr=>.str r.1) rfl (by omega) λr _=>⟨_,rfl,rfl⟩) rfl) rfl br)) t2) rfl ?_))
 unfold j3
 rw [Vr,Vr]
 rfl
theorem CJ (u:Wd):dep (j3 u)<=60:=by
 have h:∀ss:List Str,deps (ss.map D.str)<=0:=λss=>gS λx hx=>by obtain ⟨r,_,rfl⟩:=UY.mp hx;exact Vl _
 have h1:=h (u.ms.map VC)
 have h2:=h (u.ar.map VC)
 unfold j3
 simp only [dep,deps]
 omega
theorem jQ {v w:Wd}(t:Pr v w):dF [.d v.d,.d w.d]=.ok (.d .non):=by
 have ht:jw [.d v.d,.d w.d]=.ok (.d .non):=by
  refine rB (wH (bH (b:=false) (c1 rfl (zo v t.vo)) (c1 rfl (zo w t.wo)) ?_) (fU ⟨_,rfl⟩))
  show cj true (.d (j3 v)) (.d (j3 w))=_
  rw [rL true (.d (j3 v)) (.d (j3 w)) (CJ v) (CJ w)]
  have e:j3 v=j3 w:=by unfold j3;rw [t.mn,t.an]
  show M.ok (R.d (.bl (!bu (j3 v) (j3 w))))=_
  rw [e,ic]
  rfl
 have hf:gw [.d (.tup [v.d,w.d])]=.ok (.d .non):=by
  have v4:=t.v4
  have w4:=t.w4
  have one:∀(u:Wd),u.m<=4->bx (g2 (nO λi j=>.bl (decide (j < i))) (g2 aY (af 1) (gC (.int 0))) (gC (.int 4))) [some (.d (.tup [v.d,w.d])),some (.d u.d)]=.ok false:=λu hu=>by
   refine bH (two rfl rfl (fN _ _)) rfl ?_
   show M.ok (R.d (.bl (decide ((4:Int) < (u.m:Int)))))=_
   rw [decide_eq_false (by omega)]
  refine rB (mW (ds:=[v.d,w.d]) rfl (kB (λk env=>∃x,env=[some (.d (.tup [v.d,w.d])),x]) [v.d,w.d] ⟨none,rfl⟩ ?_ λe _=>⟨e,rfl⟩))
  rintro k hk _ ⟨x,rfl⟩
  match k,hk with
  | 0,_=>exact ⟨_,rfl,wH (one v v4) (fU ⟨_,rfl,_,rfl⟩)⟩
  | 1,_=>exact ⟨_,rfl,wH (one w w4) (fU ⟨_,rfl,_,rfl⟩)⟩
 refine rB (jT (c2 rfl rfl ht) ?_)
 exact Nb (c1 (bF (aI rfl rfl (aI rfl rfl br)) t2) hf) ⟨_,rfl⟩
theorem OA (d:Nat) (hd:d<=4):K55.fR [.d (.int d),.d (.int 0),.d (.int 4)]=.ok (.d .non):=by
 refine rB (wH ?_ (fU ⟨_,rfl⟩))
 show (if decide ((d:Int) < 0)=true then M.ok true else M.ok (decide ((4:Int) < d)))=M.ok false
 rw [decide_eq_false (show ¬(d:Int) < 0 by omega),decide_eq_false (show ¬(4:Int) < d by omega)]
 rfl
def prs (v w:Wd):List (Nat×Nat):=(dQ v.m w.m).filter λp=>ji v w p p
noncomputable def LG (v w:Wd):Nat->List (List (Nat×Nat))
 | 0=>[[]]
 | j + 1=>(LG v w j).flatMap λah=>((prs v w).filter (gb v w ah)).map λq=>ah++[q]
noncomputable def told (v w:Wd):Nat->List (List (Nat×Nat))
 | 0=>[[]]
 | j + 1=>told v w j++LG v w (j + 1)
abbrev aP (ps:List (Nat×Nat)):D:=.tup (ps.map dP)
theorem Gd (h:p∈prs v w):g9 v w p:=lN.mp (VI.mp h).1
theorem Cr (t:Pr v w):(prs v w).length<=16:=by
 have h1:=V0 (λp=>ji v w p p) (dQ v.m w.m)
 rw [HB] at h1
 have h2:=X8 t.v4 t.w4
 unfold prs
 omega
theorem oJ:∀(j:Nat){ps:List (Nat×Nat)},ps∈LG v w j->ps.length=j/\∀p∈ps,g9 v w p
 | 0,ps,h=>by
  rw [show ps=[] from U4.mp h]
  exact ⟨rfl,λ_ h=>by cases h⟩
 | j + 1,ps,h=>by
  obtain ⟨ah,h1,h2⟩:=Zz.mp h
  obtain ⟨q,h3,rfl⟩:=UY.mp h2
  obtain ⟨l,k⟩:=oJ j h1
  refine ⟨by rw [Vc,l];rfl,λp hp=>?_⟩
  rcases Vj.mp hp with h | h
  ·exact k p h
  ·rw [U4.mp h];exact Gd (VI.mp h3).1
theorem o5 {α β:Type}(f:α->List β) (n:Nat):∀(xs:List α),(∀x∈xs,(f x).length<=n)->(xs.flatMap f).length<=xs.length * n
 | [],_=>by simp
 | x::xs,h=>by
  have h1:=h x UW
  have h2:=o5 f n xs λy hy=>h y (UU _ hy)
  rw [List.flatMap_cons,Vc,VU,adn]
  omega
theorem lE (t:Pr v w):∀j,(LG v w j).length<=16 ^ j
 | 0=>UX _
 | j + 1=>by
  have h:=o5 (λah=>((prs v w).filter (gb v w ah)).map λq=>ah++[q]) 16 (LG v w j) λah _=>by
   rw [UR]
   exact Vq (V0 _ _) (Cr t)
  have h2:=W8 16 (lE t j)
  rw [acF]
  exact Vq h h2
theorem pO (t:Pr v w):∀j,j<=4->(told v w j).length<=(j + 1) * 65536
 | 0,_=>by show 1<=_;omega
 | j + 1,h=>by
  have h1:=pO t j (by omega)
  have h2:=lE t (j + 1)
  have h3:(16:Nat) ^ (j + 1)<=16 ^ 4:=W7 (by decide) h
  have h4:(16:Nat) ^ 4=65536:=by decide
  show (told v w j++LG v w (j + 1)).length<=_
  rw [Vc]
  omega
theorem oB:∀(n:Nat){ps:List (Nat×Nat)},ps∈told v w n↔∃j,j<=n/\ps∈LG v w j
 | 0,ps=>by
  constructor
  ·exact λh=>⟨0,UX _,h⟩
  ·rintro ⟨j,hj,h⟩
   have:j=0:=by omega
   subst this
   exact h
 | n + 1,ps=>by
  show ps∈told v w n++LG v w (n + 1)↔_
  rw [Vj,oB n]
  constructor
  ·rintro (⟨j,hj,h⟩ | h)
   ·exact ⟨j,by omega,h⟩
   ·exact ⟨n + 1,UX _,h⟩
  ·rintro ⟨j,hj,h⟩
   by_cases c:j=n + 1
   ·subst c;exact .inr h
   ·exact .inl ⟨j,by omega,h⟩
theorem CU {v w:Wd}(t:Pr v w) (n:Nat) (hn:n<=4):l6 [.d v.d,.d w.d,.d (.int n)]=.ok (.l .fresh ((told v w n).map aP)):=by
 have v4:=t.v4
 have w4:=t.w4
 refine bM (jT (c2 rfl rfl (jQ t)) (jT (c3 rfl rfl rfl (OA n hn)) (bB (c1 rfl (BH v t.vo)) rfl (bB (c1 rfl (BH w t.wo)) rfl ?_))))
 have hp:vc 2 [1,3,4] (bR (ao (g2 aY (af 0) (gC (.int 0))) aE)) (aC 0) cM (bR (ao (g2 aY (af 2) (gC (.int 0))) aE)) (aC 1) (bx (gN (aN 4 K23.fL) (ao (af 3) (ao (af 4) (ao (bE (aA (af 0) (aA (af 1) aT))) (ao (bE (aA (af 0) (aA (af 1) aT))) aE)))))) (bE (aA (af 0) (aA (af 1) aT)))
   [some (.d v.d),some (.d w.d),some (.d (.int n)),some (.d (.dct (iN v) (iO v))),some (.d (.dct (iN w) (iO w))),none,none,none,none]=.ok (.l .fresh ((prs v w).map dP)):=by
  refine (yW (xs:=UQ v.m) (h:=dN) (h':=dN) (λ_=>UQ w.m) (λa b=>ji v w (a,b) (a,b)) (λa b=>dP (a,b)) (jH (cu (two rfl rfl (fN _ _))) (by omega)) (by simp;omega) λa ha=>⟨by simp;omega,λz=>jH (cu (two rfl rfl (fN _ _))) (by omega),λb hb=>⟨?_,λ_=>BP (bF (aI rfl rfl (aI rfl rfl br)) t2) rfl⟩⟩).trans ?_
  ·have ha:a < v.m:=by simpa using ha
   have hb:b < w.m:=by simpa using hb
   exact eK (c4 rfl rfl (bF (aI rfl rfl (aI rfl rfl br)) t2) (bF (aI rfl rfl (aI rfl rfl br)) t2) (vO v w (a,b) (a,b) ⟨ha,hb⟩ ⟨ha,hb⟩))
  ·have e:((UQ v.m).flatMap λa=>((UQ w.m).filter λb=>ji v w (a,b) (a,b)).map λb=>dP (a,b))=(prs v w).map dP:=by
    unfold prs dQ
    rw [abL,YG]
    congr 1
    funext a
    rw [abf,Vr]
    rfl
   rw [e]
 refine bB hp rfl ?_
 refine b8 (sf rfl (fX (ig (aI (bF br (by decide)) rfl br) (by show 1<=1000;decide)) rfl ?_))
 refine bB (ig (aI (bF br (by decide)) rfl br) (by show 1<=1000;decide)) rfl ?_
 refine dY (iS (n:=n) rfl (by omega)) ?_
 refine gF (λk env=>∃x:Option S,env=[some (.d v.d),some (.d w.d),some (.d (.int n)),some (.d (.dct (iN v) (iO v))),some (.d (.dct (iN w) (iO w))),some (.d (.lst ((prs v w).map dP))),some (.own ((LG v w k).map aP)),some (.own ((told v w k).map aP)),x]) ⟨none,rfl⟩ ?_ ?_
 ·rintro k hk _ ⟨x,rfl⟩
  have l1:=lE t k
  have l2:=lE t (k + 1)
  have l3:=pO t k (by omega)
  have p1:(16:Nat) ^ k<=16 ^ 3:=W7 (by decide) (by omega)
  have p2:(16:Nat) ^ (k + 1)<=16 ^ 4:=W7 (by decide) (by omega)
  have p3:(16:Nat) ^ 3=4096:=by decide
  have p4:(16:Nat) ^ 4=65536:=by decide
  refine ⟨_,rfl,b8 (GK rfl (fX (r:=.l .fresh ((LG v w (k + 1)).map aP)) ?_ rfl (DP rfl rfl rfl (by simp only [UR];omega) ⟨_,rfl,some (.d (.int k)),?_⟩)))⟩
  ·refine (yW (xs:=LG v w k) (h:=aP) (h':=dP) (λ_=>prs v w) (λah q=>gb v w ah q) (λah q=>aP (ah++[q])) rfl (by omega) λah TH=>⟨by have:=Cr t;omega,λz=>rfl,λq hq=>⟨?_,λ_=>BP (two rfl (bF (aI rfl rfl br) (by show 1<=1000;decide)) (Eh _ _ ?_)) ?_⟩⟩).trans ?_
   ·exact eK (c4 rfl rfl rfl rfl (P8 v w ah q (oJ k TH).2 (Gd hq)))
   ·have:=(oJ k TH).1
    simp;omega
   ·show M.ok (D.tup (ah.map dP++[dP q]))=M.ok (D.tup ((ah++[q]).map dP))
    rw [Ve]
    rfl
   ·show M.ok (R.l .fresh _)=_
    show _=M.ok (R.l .fresh (((LG v w k).flatMap λah=>((prs v w).filter (gb v w ah)).map λq=>ah++[q]).map aP))
    rw [YG]
    simp only [Vr]
    rfl
  ·show _=[_,_,_,_,_,_,_,some (S.own ((told v w k++LG v w (k + 1)).map aP)),_]
   rw [Ve]
   rfl
 ·rintro _ ⟨x,rfl⟩
  exact bz rfl rfl rfl
theorem allM {α:Type}(f:α->Bool) (xs:List α):uc [.l .fresh (xs.map λx=>.bl (f x))]=.ok (.d (.bl (xs.all f))):=by
 have:=all_map (λd=>match d with
  | .bl b=>b
  | _=>false) (xs.map λx=>.bl (f x))
 rw [Vr,Z6] at this
 exact this
theorem g8:dc [.d .non]=.ok (.d (aP [])):=rfl
theorem Ah:∀{xs ys:List Bool},cH (xs.map D.bl) (ys.map D.bl)=true↔xs=ys
 | [],[]=>by simp [cH]
 | [],_::_=>by simp [cH]
 | _::_,[]=>by simp [cH]
 | x::xs,y::ys=>by
  rw [U_,U_,iD,UT,Ah]
  simp [bu]
structure pP (v w:Wd) (p q:Nat×Nat):Prop where
 eq:p.1=q.1↔p.2=q.2
 ms:v.ms.map (λr=>decide (p.1∈r.2))=w.ms.map λr=>decide (p.2∈r.2)
 ar:v.ar.map (λr=>decide ((p.1,q.1)∈r.2))=w.ar.map λr=>decide ((p.2,q.2)∈r.2)
theorem jj (v w:Wd) (p q:Nat×Nat):ji v w p q=true↔pP v w p q:=by
 have e:ji v w p q=((p.1 == q.1) == (p.2 == q.2) && (cH ((v.ms.map λr=>decide (p.1∈r.2)).map D.bl) ((w.ms.map λr=>decide (p.2∈r.2)).map D.bl) && (cH ((v.ar.map λr=>decide ((p.1,q.1)∈r.2)).map D.bl) ((w.ar.map λr=>decide ((p.2,q.2)∈r.2)).map D.bl) && true))):=by
  unfold ji fq
  rw [jU,iD,iD,iD,jU,jU,cH]
  simp only [K55.inN,K55.MN,Vr,K55.uY]
  rfl
 rw [e,UT,UT,UT,Ah,Ah]
 have e1:((p.1 == q.1) == (p.2 == q.2))=true↔(p.1=q.1↔p.2=q.2):=by
  rw [beq_iff_eq,Vy,beq_iff_eq,beq_iff_eq]
 rw [e1]
 exact ⟨λ⟨a,b,c,_⟩=>⟨a,b,c⟩,λ⟨a,b,c⟩=>⟨a,b,c,rfl⟩⟩
theorem Nf {p q:Nat×Nat}(h:tG p q=false):q.1 < p.1\/(q.1=p.1/\q.2 < p.2):=by
 unfold tG at h
 rw [kQ] at h
 by_cases c:(p.1:Int)=q.1
 ·rw [if_pos c,kQ] at h
  by_cases c2:(p.2:Int)=q.2
  ·rw [if_pos c2,p6] at h;cases h
  ·rw [if_neg c2,decide_eq_false_iff_not] at h
   exact .inr ⟨by omega,by omega⟩
 ·rw [if_neg c,decide_eq_false_iff_not] at h
  exact .inl (by omega)
theorem Nd {p q:Nat×Nat}(h:q.1 < p.1):tG p q=false:=by
 unfold tG
 rw [kQ,if_neg (by omega),decide_eq_false_iff_not]
 omega
structure Good (v w:Wd) (ps:List (Nat×Nat)):Prop where
 up:ps.Pairwise λp q=>p.1 < q.1
 ag:∀p∈ps,∀q∈ps,pP v w p q
 rg:∀p∈ps,g9 v w p
theorem rR {α:Type}{ps:List α}{l:α}(h:ps.getLast?=some l):∃rs,ps=rs++[l]:=by
 rcases Wz ps with rfl | ⟨ys,y,rfl⟩
 ·cases h
 ·rw [WA] at h ⊢
  rw [Yt] at h
  cases h
  exact ⟨ys,rfl⟩
theorem k_:p∈prs v w↔g9 v w p/\pP v w p p:=by
 unfold prs
 rw [VI,lN,jj]
 exact aej
theorem qE {v w:Wd}{ps:List (Nat×Nat)}(g:Good v w ps){q:Nat×Nat}(hq:q∈prs v w):gb v w ps q=true↔Good v w (ps++[q]):=by
 obtain ⟨h1,h2⟩:=k_.mp hq
 unfold gb
 rw [UT,Vm]
 constructor
 ·rintro ⟨a,b⟩
  have ag:∀r∈ps,pP v w q r/\pP v w r q:=λr hr=>by
   have:=b r hr
   rw [UT,jj,jj] at this
   exact this
  have lt:∀r∈ps,r.1 < q.1:=by
   cases e:ps.getLast? with
   | none=>rw [aad.mp e];exact λ_ h=>by cases h
   | some l=>
    rw [e] at a
    have hl:l.1 < q.1:=by
     obtain ⟨rs,rfl⟩:=rR e
     rcases Nf (by simpa using a) with h | ⟨h,h'⟩
     ·exact h
     ·have:=(ag l (by simp)).1.eq
      omega
    obtain ⟨rs,rfl⟩:=rR e
    intro r hr
    rcases Vj.mp hr with h | h
    ·have:=(Wi.mp g.up).2.2 r h l (by simp)
     omega
    ·rw [U4.mp h];exact hl
  refine ⟨Wi.mpr ⟨g.up,WE _ _,λr hr x hx=>by rw [U4.mp hx];exact lt r hr⟩,λr hr x hx=>?_,λr hr=>?_⟩
  ·rcases Vj.mp hr with hr | hr <;> rcases Vj.mp hx with hx | hx
   ·exact g.ag r hr x hx
   ·rw [U4.mp hx];exact (ag r hr).2
   ·rw [U4.mp hr];exact (ag x hx).1
   ·rw [U4.mp hr,U4.mp hx];exact h2
  ·rcases Vj.mp hr with hr | hr
   ·exact g.rg r hr
   ·rw [U4.mp hr];exact h1
 ·intro h
  refine ⟨?_,λr hr=>?_⟩
  ·cases e:ps.getLast? with
   | none=>rfl
   | some l=>
    have hl:l∈ps:=by obtain ⟨rs,rfl⟩:=rR e;simp
    have:=(Wi.mp h.up).2.2 l hl q (by simp)
    show (!tG q l)=true
    rw [Nd this]
    rfl
  ·rw [UT,jj,jj]
   exact ⟨h.ag q (by simp) r (by simp [hr]),h.ag r (by simp [hr]) q (by simp)⟩
theorem iY:∀(j:Nat){ps:List (Nat×Nat)},ps∈LG v w j↔ps.length=j/\Good v w ps
 | 0,ps=>by
  constructor
  ·intro h
   rw [show ps=[] from U4.mp h]
   exact ⟨rfl,.nil,(λ_ h=>nomatch h),(λ_ h=>nomatch h)⟩
  ·rintro ⟨h,_⟩
   rw [X4.mp h]
   exact U4.mpr rfl
 | j + 1,ps=>by
  constructor
  ·intro h
   obtain ⟨ah,h1,h2⟩:=Zz.mp h
   obtain ⟨q,h3,rfl⟩:=UY.mp h2
   obtain ⟨l,g⟩:=(iY j).mp h1
   obtain ⟨h4,h5⟩:=VI.mp h3
   exact ⟨by rw [Vc,l];rfl,(qE g h4).mp h5⟩
  ·rintro ⟨h,g⟩
   rcases Wz ps with rfl | ⟨ah,q,rfl⟩
   ·cases h
   ·rw [WA] at h g ⊢
    have ga:Good v w ah:=⟨(Wi.mp g.up).1,λp hp x hx=>g.ag p (by simp [hp]) x (by simp [hx]),λp hp=>g.rg p (by simp [hp])⟩
    have hq:q∈prs v w:=k_.mpr ⟨g.rg q (by simp),g.ag q (by simp) q (by simp)⟩
    exact Zz.mpr ⟨ah,(iY j).mpr ⟨by simpa using h,ga⟩,UY.mpr ⟨q,VI.mpr ⟨hq,(qE ga hq).mpr g⟩,rfl⟩⟩
theorem IT {l:List Nat}(hu:l.Pairwise (· < ·)) (hl:l.length=m) (hm:∀x∈l,x < m):l=UQ m:=by
 have st:=VP.mp hu
 have lo:∀k (hk:k < l.length),k<=l[k]:=by
  intro k
  induction k with
  | zero=>intro _;exact Vl _
  | succ k ih=>
   intro hk
   have:=st k (k + 1) (by omega) hk (by omega)
   have:=ih (by omega)
   omega
 have hi:∀d k (hk:k < l.length),l.length - 1 - k=d->l[k]<=k:=by
  intro d
  induction d with
  | zero=>
   intro k hk e
   have:=hm l[k] (Vt hk)
   omega
  | succ d ih=>
   intro k hk e
   have h1:=ih (k + 1) (by omega) (by omega)
   have h2:=st k (k + 1) hk (by omega) (by omega)
   omega
 refine W5 (by simp [hl]) λk h1 h2=>?_
 rw [Z9]
 exact Nat.le_antisymm (hi _ k h1 rfl) (lo k h1)
structure zw (v w:Wd) (σ:List Nat):Prop where
 len:σ.length=v.m
 rg:∀y∈σ,y < v.m
 nd:σ.Nodup
 ms:∀k (hk:k < σ.length),v.ms.map (λr=>decide (k∈r.2))=w.ms.map λr=>decide (σ[k]∈r.2)
 ar:∀j k (hj:j < σ.length) (hk:k < σ.length),v.ar.map (λr=>decide ((j,k)∈r.2))=w.ar.map λr=>decide ((σ[j],σ[k])∈r.2)
def iU (σ:List Nat):List (Nat×Nat):=(UQ σ.length).zip σ
theorem CO {σ:List Nat}(hk:k < σ.length):(iU σ)[k]?=some (k,σ[k]):=by
 unfold iU
 rw [YC]
 exact ⟨by simp [hk],by simp [hk]⟩
theorem jf {σ:List Nat}{p:Nat×Nat}:p∈iU σ↔∃hk:p.1 < σ.length,σ[p.1]=p.2:=by
 constructor
 ·intro h
  obtain ⟨k,hk,e⟩:=VT.mp h
  have hk':k < σ.length:=by simpa [iU] using hk
  have:=CO hk'
  rw [U5 hk,e] at this
  cases this
  exact ⟨hk',rfl⟩
 ·rintro ⟨hk,e⟩
  have:=CO hk
  rw [e] at this
  exact VS this
theorem pg {v w:Wd}(hm:w.m=v.m) (i:zw v w σ):Good v w (iU σ):=by
 refine ⟨?_,λp hp q hq=>?_,λp hp=>?_⟩
 ·have h:((iU σ).map VC).Pairwise (· < ·):=by
   unfold iU
   rw [acR (by simp)]
   exact aaS
  exact VO.mp h
 ·obtain ⟨h1,e1⟩:=jf.mp hp
  obtain ⟨h2,e2⟩:=jf.mp hq
  refine ⟨⟨λe=>?_,λe=>?_⟩,?_,?_⟩
  ·rw [<-e1,<-e2];simp only [e]
  ·rw [<-e1,<-e2] at e
   exact (aaG i.nd).mp e
  ·rw [<-e1];exact i.ms p.1 h1
  ·rw [<-e1,<-e2];exact i.ar p.1 q.1 h1 h2
 ·obtain ⟨h1,e1⟩:=jf.mp hp
  refine ⟨by rw [<-i.len];exact h1,?_⟩
  rw [hm,<-e1]
  exact i.rg _ (Vt h1)
theorem o8 {v w:Wd}(hm:w.m=v.m){ps:List (Nat×Nat)}(g:Good v w ps) (hl:ps.length=v.m):ps=iU (ps.map abn)/\zw v w (ps.map abn):=by
 have f:ps.map VC=UQ v.m:=IT (VO.mpr g.up) (by rw [UR,hl]) λx hx=>by
  obtain ⟨p,hp,rfl⟩:=UY.mp hx
  exact (g.rg p hp).1
 have at_:∀k (hk:k < ps.length),ps[k]=(k,(ps.map abn)[k]'(by rw [UR];exact hk)):=λk hk=>by
  have h1:(ps.map VC)[k]?=some ps[k].1:=by rw [Vh,U5 hk];rfl
  rw [f,XZ (by omega)] at h1
  rw [V5]
  exact afm (V2 h1).symm rfl
 refine ⟨?_,⟨by rw [UR,hl],λy hy=>?_,?_,λk hk=>?_,λj k hj hk=>?_⟩⟩
 ·unfold iU
  rw [UR,hl,<-f]
  refine W5 (by simp) λk h1 h2=>?_
  simp
 ·obtain ⟨p,hp,rfl⟩:=UY.mp hy
  rw [<-hm]
  exact (g.rg p hp).2
 ·refine VO.mpr ((Yj.mp g.up).imp ?_)
  rintro p q ⟨hp,hq,h⟩ e
  have:=(g.ag p hp q hq).eq
  omega
 ·have hk':k < ps.length:=by rw [UR] at hk;exact hk
  have h:=(g.ag ps[k] (Vt hk') ps[k] (Vt hk')).ms
  have e1:=congrArg VC (at_ k hk')
  have e2:=congrArg abn (at_ k hk')
  rw [e1,e2] at h
  exact h
 ·have hk':k < ps.length:=by rw [UR] at hk;exact hk
  have hj':j < ps.length:=by rw [UR] at hj;exact hj
  have h:=(g.ag ps[j] (Vt hj') ps[k] (Vt hk')).ar
  have e1:=congrArg VC (at_ k hk')
  have e2:=congrArg abn (at_ k hk')
  have e3:=congrArg VC (at_ j hj')
  have e4:=congrArg abn (at_ j hj')
  rw [e1,e2,e3,e4] at h
  exact h
theorem JA (a b:Nat):d8 (dN a) (dN b)=true↔a < b:=by
 rw [nW,decide_eq_true_eq]
 omega
theorem vt (a b:Nat×Nat):d8 (dP a) (dP b)=true↔mY a b:=by
 have e:d8 (dP a) (dP b)=iR [dN a.1,dN a.2] [dN b.1,dN b.2]:=rfl
 rw [e,jW,K55.uY]
 unfold mY
 by_cases c:a.1=b.1
 ·rw [if_pos (by simpa using c),jW,K55.uY]
  by_cases c2:a.2=b.2
  ·rw [if_pos (by simpa using c2)]
   constructor
   ·intro h;cases h
   ·intro h;omega
  ·rw [if_neg (by simpa using c2)]
   rw [show d8 (D.int a.2) (D.int b.2)=d8 (dN a.2) (dN b.2) from rfl,JA]
   omega
 ·rw [if_neg (by simpa using c)]
  rw [show d8 (D.int a.1) (D.int b.1)=d8 (dN a.1) (dN b.1) from rfl,JA]
  omega
theorem Ni {α β:Type}{f:α->β}{xs:List α}(nd:xs.Nodup) (inj:∀a∈xs,∀b∈xs,f a=f b->a=b):(xs.map f).Nodup:=by
 refine VO.mpr ((Yj.mp nd).imp ?_)
 rintro a b ⟨ha,hb,h⟩ e
 exact h (inj a ha b hb e)
end K23
namespace DL
open PySem PySem.Spec PyProof.Rows L2 DX
section
variable {X:Cx}{c:C}{e ke a b:Vv}{g gk ga gb:G R}{pos:Pos}
noncomputable def O9 (K:UM):Df:=λo i v H Q=>∃J p ks vs kxs d,aU J H/\o=.ref p/\d7 K J H p ks vs/\dO (.tup kxs)=true/\Rep K J (.tup kxs) i/\Rep K J d v/\ks.length<=sizeLine/\∀o,d7 K J (upd H p o) p (dput (ks,vs) (.tup kxs) d).1 (dput (ks,vs) (.tup kxs) d).2->Q (upd H p o)
theorem set_dict (hu:X.A.units + 64 < Wj):Mf X (O9 X.K):=by
 intro UB s σ H o i v ov iv u Q I ro ri rv h
 obtain ⟨J,p,ks,vs,kxs,d,sm,rfl,hd,ok,rk,rd,hl,q⟩:=h
 obtain ⟨_,_,k1,k2⟩:=iG ok
 obtain ⟨r,rfl⟩:∃r,i=.ref r:=by cases rk;exact ⟨_,rfl⟩
 cases ro
 cases ri
 obtain ⟨xs,hm,lx,put⟩:=Cs I sm hd
 refine wpAny_setItem_heap (knd:=nD X.prog X.w) (k:=⟨.tup kxs,k1,k2⟩) (show X.A.units + 1 + 16 < Wj by omega) (jY (HF.of (c:=⟨X.K,H,H,λ_=>True⟩) I sm) k1 rk) hm (λh' hm' sb=>?_) (by rw [lx];exact hl)
 obtain ⟨o,W,hd,_⟩:=put k1 k2 rk rd rv h' _ hm' sb
 exact ⟨_,W,q o hd⟩
noncomputable def wA (i:Nat) (gk g:G R):G O:=λenv=>match env[i]? with
 | some (some (.dk ks vs))=>g env >>= λr=>toD r >>= λd=>gk env >>= λr2=>toD r2 >>= λk=>if dO k=true/\ks.length<=1000000 then .ok (.nx (env.set i (some (.dk (dput (ks,vs) k d).1 (dput (ks,vs) k d).2)))) else .bad
 | _=>.bad
theorem E5 {prog:U6}{w:Vs}{K:Type} [DecidableEq K] {knd:HeapKind prog w K}{A:Vz}{E:UN->UP->Prop}{s:UP}{d a:Vd}{k:K}{xs:List (K×Vd×UN)}{Q:Bool->UP->Prop}(hu:knd.room A.in1) (hkey:knd.is s.heap k a) (hd:(d == X7)=false)
  (hm:s.heap.DictOfH knd d xs) (h:Q (aei xs k).isSome {s with toks:=s.toks + knd.draws k}):U9 (Vg prog w) A (contains (.ref d) (.ref a)) Q E s:=by
 refine wpAny_contains_slot hm.typeIs ab5 (VA ab5 hm.typeIs entry_dict_contains ?_ (args_dict_contains _ _))
 show U9 _ _ (dictGet d (.ref a) >>= λ_=>_) _ _ s
 refine UL (wpAny_dictGet_heap hu hkey hm ?_)
 cases q:aei xs k with
 | some p=>rw [q] at h;exact UO ⟨_,rfl,V6 h⟩
 | none=>rw [q] at h;exact UL (wpAny_pendingKey_other hd (UO ⟨_,rfl,V6 h⟩))
noncomputable def Iu (K:UM) (neg:Bool):R2:=λx y H Q=>∃J p ks vs k,aU J H/\y=.ref p/\d7 K J H p ks vs/\Rep K J k x/\dO k=true/\Q (.bl (if neg then !(gK ks vs k).isSome else (gK ks vs k).isSome)) H
theorem G4 (hu:X.A.units + 64 < Wj){UB:List (Vd×Obj)}{s:UP}{σ:L2.St}{H:Hp}{x y:V}{v u:UN}{Q:VK}{neg:Bool}(I:Inv X UB σ H s) (rx:RelV x v) (ry:RelV y u) (h:Iu X.K neg x y H Q):U9 (Vg X.prog X.w) X.A (contains u v) (λr s'=>EP X UB σ Q (.bool (if neg then !r else r)) s') X.xe s:=by
 obtain ⟨J,p,ks,vs,k,sm,rfl,hd,hk,ok,q⟩:=h
 have F:HF X.K J s:=HF.of (c:=⟨X.K,H,H,λ_=>True⟩) I sm
 obtain ⟨kx,rfl,k1,k2⟩:=iG ok
 obtain ⟨r,rfl⟩:∃r,x=.ref r:=by cases hk;exact ⟨_,rfl⟩
 cases rx
 cases ry
 obtain ⟨xs,us,ws,hm,e2,_,hv,e4,_,hsm⟩:=oS (P:=X.prog) (w:=X.w) F (fG I) hd
 have e:(aei xs ⟨.tup kx,k1,k2⟩).isSome=(gK ks vs (.tup kx)).isSome:=by
  obtain ⟨l1,l2⟩:=uO (K:=X.K) (J:=J) ⟨.tup kx,k1,k2⟩ e2 hv e4
  cases z:gK ks vs (.tup kx) with
  | some d=>obtain ⟨p,_,e,_⟩:=l1 d z;rw [e];rfl
  | none=>rw [l2 z];rfl
 exact E5 (k:=⟨.tup kx,k1,k2⟩) (show X.A.units + 1 + 16 < Wj by omega) (jY F k1 hk) hsm hm ⟨.bl _,H,I.tok _,by rw [e];rfl,q⟩
theorem F1 (hu:X.A.units + 64 < Wj):dD X (Wl .In) (Iu X.K false):=λUB s σ H x y v u Q I rx ry h=>UL (VN (G4 hu I rx ry h) (λ_ _ h=>UO h) λ_ _ f=>f)
noncomputable def oW (neg:Bool) (x y:R):M R:=match sS y,x with
 | some z,.d k=>if dO k=true then .ok (.d (.bl (if neg then !(gK z.1 z.2 k).isSome else (gK z.1 z.2 k).isSome))) else .bad
 | _,_=>.bad
theorem EE (neg:Bool) (hK:X.K=c.K):BD c (Iu X.K neg) (oW neg):=by
 intro He He' J H x y u v Q hp rx ry w
 unfold oW at w
 split at w
 ·rename_i hz
  obtain ⟨p,rfl,hd⟩:=ry.dk hp hz
  split at w
  ·rename_i ok
   exact ⟨J,p,_,_,_,hp.sub,rfl,by rw [hK];exact hd,by rw [hK];exact rx,ok,w _ J H (Ext.refl hp.sub) (.bl _)⟩
  ·exact w.elim
 ·exact w.elim
theorem Ik (i:Nat){x:Str}{p1 p2:Pos}(hu:X.A.units + 64 < Wj) (h:QD X c e g) (hk:QD X c ke gk) (hN:X.N[i]?=some x:=by rfl) (hv:sP X.env.scope x:=by first | exact Zt rfl | exact X6 (Zt rfl) | exact X6 (X6 rfl)) (hd:(x == ("__debug__":Str))=false:=by decide)
  (hcd:(x == ("__classdict__":Str))=false:=by decide)
  (ha:∀v,assign (.Subscript (.Name x p1) ke p2) X.env v=(do
   let ov <-holding [v] (eval (.Name x p1) X.env)
   let iv <-holding [v,ov] (eval ke X.env)
   Yd p2
   (holding [v,ov,iv] (setItem ov iv v))
   release [v,ov,iv] []):=by intro _;rfl)
  (hs:aas [.Subscript (.Name x p1) ke p2] e pos.line X.env=pure false:=by rfl) (hw:abO [.Subscript (.Name x p1) ke p2] e X.env=pure none:=by rfl)
  (h1:(XC [.Subscript (.Name x p1) ke p2] X.env).map (·.2)=[assign (.Subscript (.Name x p1) ke p2) X.env]:=by rfl) (hK:X.K=c.K:=by rfl):
  jM X c (.Assign [.Subscript (.Name x p1) ke p2] e pos) (wA i gk g):=have h:=h.h;have hk:=hk.h;⟨
 i7 (Ge h (NK (lO hN hv hd hcd) hk (set_dict hu) ha) hs hw h1) λE σ H ⟨J,env,sr,w⟩=>by
  unfold wA at w
  split at w
  ·rename_i ks vs hi
   obtain ⟨v,q1,p,rfl,h2,h3,h4⟩:=sr.at_ i _ hi
   refine ⟨J,env,sr,aF (aK w) λr wr y J1 H1 e1 r1=>?_⟩
   obtain ⟨d,q,wr⟩:=jt wr
   obtain ⟨J2,e2,s2,rd⟩:=freeze e1 r1 q
   refine ⟨.ref p,q1,?_⟩
   refine ⟨J2,env,sr.ext e2,aF (aK wr) λrk wk vk J3 H3 e3 r3=>?_⟩
   obtain ⟨k,qk,wk⟩:=jt wk
   obtain ⟨J4,e4,s4,rk⟩:=freeze e3 r3 qk
   have e5:=e2.trans e4
   split at wk
   ·rename_i ok
    obtain ⟨kxs,rfl,_⟩:=iG ok.1
    have h2':=h2.mono e5.j e5.h
    have h3':=e5.frz p h2.ne h3
    refine ⟨J4,p,ks,vs,kxs,d,e5.sub,rfl,by rw [hK];exact h2',ok.1,by rw [hK];exact rk,by rw [hK];exact rd.mono e4.j,Vq ok.2 (by decide),λo ho=>?_⟩
    rw [hK] at ho
    exact wk σ J4 _ e5.j ((sr.ext e5).updM (x:=.inr (ks,vs)) (y:=.inr (dput (ks,vs) (.tup kxs) d)) hi q1 h3' h4 ⟨p,rfl,ho,h3',h4⟩)
   ·exact wk.elim
  ·exact w.elim⟩
theorem Lx (hu:X.A.units + 64 < Wj) (ha:QD X c a ga) (hb:QD X c b gb) (hK:X.K=c.K:=by rfl) (hm:V9 .In b=false:=by rfl):QD X c (.Compare a [.In] [b] pos) (g2 (oW false) ga gb):=⟨n5 (F1 hu) (EE false hK) ha.h hb.h hm⟩
theorem Lr (hu:X.A.units + 64 < Wj) (ha:QD X c a ga) (hb:QD X c b gb) (hK:X.K=c.K:=by rfl) (hm:V9 .In b=false:=by rfl):QB X c (.Compare a [.In] [b] pos) (bx (g2 (oW false) ga gb)):=⟨i6 (F1 hu) (EE false hK) ha.h hb.h hm⟩
noncomputable def ud (x y:R):M R:=match x,y with
 | .d d,.d e=>if dep d<=60/\dep e<=60 then (match dM d e with
  | some b=>.ok (.d (.bl b))
  | none=>.bad) else .bad
 | _,_=>.bad
theorem Np (hu:X.A.units + 64 < Wj):dD X (Wl .Lt) (λx y H Q=>∃d e b,Rep X.K H d x/\Rep X.K H e y/\dep d<=60/\dep e<=60/\dM d e=some b/\Q (.bl b) H):=λUB s σ H x y v u Q I rx ry ⟨d,e,b,h1,h2,h3,h4,h5,q⟩=>
 Nh (fG I) d X.A h5 h1 h2 rx ry (by omega) (by omega) (by omega) X.prog X.w X.xe _ ⟨.bl b,H,I,rfl,q⟩
theorem Mr (hK:X.K=c.K):BD c (λx y H Q=>∃d e b,Rep X.K H d x/\Rep X.K H e y/\dep d<=60/\dep e<=60/\dM d e=some b/\Q (.bl b) H) ud:=by
 intro He He' J H x y u v Q hp rx ry w
 unfold ud at w
 split at w
 ·split at w
  ·rename_i hd
   split at w
   ·rename_i b hb
    exact ⟨_,_,b,by rw [hK];exact Rep.mono hp.sub rx,by rw [hK];exact Rep.mono hp.sub ry,hd.1,hd.2,hb,w _ J H (Ext.refl hp.sub) (.bl _)⟩
   ·exact w.elim
  ·exact w.elim
 ·exact w.elim
theorem Lu (hu:X.A.units + 64 < Wj) (ha:QD X c a ga) (hb:QD X c b gb) (hK:X.K=c.K:=by rfl):QB X c (.Compare a [.Lt] [b] pos) (bx (g2 ud ga gb)):=⟨i6 (Np hu) (Mr hK) ha.h hb.h⟩
end
end DL
namespace K22
open PySem DL
end K22
namespace K22
open PySem DL K01 WP K51 K52 K55 K23
section
variable {env:Ev}{tg:GT}{u t:G O}{α:Type}{h:α->D}{Q:O->Prop}{gi:G (List D)}
theorem w_all (I:Ev->Prop) (f:α->Bool):∀(xs:List α) (env:Ev),I env->(∀x∈xs,∀env,I env->∃e,tg (h x) env=.ok e/\Wp (u e) λo=>(f x=true/\∃e',o=.nx e'/\I e')\/(f x=false/\o=.rt (.d (.bl false))))->
  Wp (fh tg u (xs.map h) env) λo=>(xs.all f=true/\∃e',o=.nx e'/\I e')\/(xs.all f=false/\o=.rt (.d (.bl false)))
 | [],env,hI,_=>⟨.nx env,rfl,.inl ⟨rfl,env,rfl,hI⟩⟩
 | x::xs,env,hI,step=>by
  obtain ⟨e,h1,o,ho,hP⟩:=step x UW env hI
  rw [U_,X0]
  show Wp (tg (h x) env >>= _) _
  rw [h1,aS,ho,aS]
  rcases hP with ⟨hf,e',rfl,hI'⟩ | ⟨hf,rfl⟩
  ·rw [hf,Y_]
   exact w_all I f xs e' hI' λx hx=>step x (UU _ hx)
  ·rw [hf]
   exact ⟨_,rfl,.inr ⟨rfl,rfl⟩⟩
theorem JM (I:Ev->Prop) (f:α->Bool) (xs:List α) (hg:gi env=.ok (xs.map h)) (h0:I env) (step:∀x∈xs,∀env,I env->∃e,tg (h x) env=.ok e/\Wp (u e) λo=>(f x=true/\∃e',o=.nx e'/\I e')\/(f x=false/\o=.rt (.d (.bl false))))
  (k1:xs.all f=true->∀e,I e->Wp (t e) Q) (k2:xs.all f=false->Q (.rt (.d (.bl false)))):Wp (aH (cg gi tg u) t env) Q:=by
 refine dY hg ((w_all I f xs env h0 step).mono ?_)
 rintro o (⟨z,e,rfl,hI⟩ | ⟨z,rfl⟩)
 ·exact k1 z e hI
 ·exact k2 z
theorem Jz (I:Ev->Prop) (f:α->Bool) (xs:List α) (hg:gi env=.ok (xs.map h)) (h0:I env) (step:∀x∈xs,∀env,I env->∃e,tg (h x) env=.ok e/\Wp (u e) λo=>(f x=true/\∃e',o=.nx e'/\I e')\/(f x=false/\o=.rt (.d (.bl false)))):
  Wp (cg gi tg u env) λo=>(xs.all f=true/\∃e',o=.nx e'/\I e')\/(xs.all f=false/\o=.rt (.d (.bl false))):=mW hg (w_all I f xs env h0 step)
end
theorem Dw (neg a b:Bool):cj neg (.d (.bl a)) (.d (.bl b))=.ok (.d (.bl (if neg then !(a == b) else a == b))):=by
 cases neg <;> cases a <;> cases b <;> rfl
def mB (v w:Wd) (p:Nat×Nat):Bool:=(v.ms.zip w.ms).all λr=>decide (p.1∈r.1.2) == decide (p.2∈r.2.2)
def aB (v w:Wd) (p q:Nat×Nat):Bool:=(v.ar.zip w.ar).all λr=>decide ((p.1,q.1)∈r.1.2) == decide ((p.2,q.2)∈r.2.2)
def eB (p q:Nat×Nat):Bool:=(p.1 == q.1) == (p.2 == q.2)
def oZ (v w:Wd) (ps:List (Nat×Nat)):Bool:=ps.all λp=>mB v w p && ps.all λq=>eB p q && aB v w p q
theorem oF {α β:Type}(f:α->Bool) (g:β->Bool):∀{xs:List α}{ys:List β},xs.length=ys.length->(((xs.zip ys).all λr=>f r.1 == g r.2)=true↔xs.map f=ys.map g)
 | [],[],_=>by simp
 | x::xs,y::ys,h=>by
  have ih:=oF f g (xs:=xs) (ys:=ys) (by simpa using h)
  rw [YY,X0,UT,ih,U_,U_,afk,beq_iff_eq]
theorem rN {v w:Wd}(t:Pr v w) (ps:List (Nat×Nat)):oZ v w ps=true↔∀p∈ps,∀q∈ps,pP v w p q:=by
 have l1:v.ms.length=w.ms.length:=by have:=congrArg Ww t.mn;simpa using this
 have l2:v.ar.length=w.ar.length:=by have:=congrArg Ww t.an;simpa using this
 have e1:∀p q:Nat×Nat,eB p q=true↔(p.1=q.1↔p.2=q.2):=λp q=>by
  unfold eB
  rw [beq_iff_eq,Vy,beq_iff_eq,beq_iff_eq]
 unfold oZ
 rw [Vm]
 constructor
 ·intro h p hp q hq
  have h1:=h p hp
  rw [UT,Vm] at h1
  have h2:=h1.2 q hq
  rw [UT] at h2
  exact ⟨(e1 p q).mp h2.1,(oF (λr:Str×List Nat=>decide (p.1∈r.2)) (λr:Str×List Nat=>decide (p.2∈r.2)) l1).mp h1.1,(oF (λr:Str×List (Nat×Nat)=>decide ((p.1,q.1)∈r.2)) (λr:Str×List (Nat×Nat)=>decide ((p.2,q.2)∈r.2)) l2).mp h2.2⟩
 ·intro h p hp
  rw [UT,Vm]
  refine ⟨(oF (λr:Str×List Nat=>decide (p.1∈r.2)) (λr:Str×List Nat=>decide (p.2∈r.2)) l1).mpr (h p hp p hp).ms,λq hq=>?_⟩
  rw [UT]
  exact ⟨(e1 p q).mpr (h p hp q hq).eq,(oF (λr:Str×List (Nat×Nat)=>decide ((p.1,q.1)∈r.2)) (λr:Str×List (Nat×Nat)=>decide ((p.2,q.2)∈r.2)) l2).mpr (h p hp q hq).ar⟩
theorem Ng (p q:Nat×Nat):dM (dP p) (dP q)=some (d8 (dP p) (dP q)):=by
 have h:(dM (dP p) (dP q)).isSome=true:=by
  show (if bu (.int (p.1:Int)) (.int (q.1:Int))=true then (if bu (.int (p.2:Int)) (.int (q.2:Int))=true then some false else some (decide ((p.2:Int) < q.2))) else some (decide ((p.1:Int) < q.1))).isSome=true
  split
  ·split <;> rfl
  ·rfl
 unfold d8
 cases z:dM (dP p) (dP q) with
 | some b=>rfl
 | none=>rw [z] at h;cases h
theorem yu {v w:Wd}{n:Nat}{ps:List (Nat×Nat)}:ps∈told v w n↔ps.length<=n/\Good v w ps:=by
 rw [oB]
 constructor
 ·rintro ⟨j,hj,h⟩
  obtain ⟨h1,h2⟩:=(iY j).mp h
  exact ⟨by omega,h2⟩
 ·rintro ⟨h1,h2⟩
  exact ⟨_,h1,(iY _).mpr ⟨rfl,h2⟩⟩
theorem Fp {v w:Wd}{ps:List (Nat×Nat)}(g:Good v w ps){q:Nat×Nat}(hq:g9 v w q) (ab:∀rs l,ps=rs++[l]->mY l q) (ag:∀x∈ps++[q],∀y∈ps++[q],pP v w x y):Good v w (ps++[q]):=by
 refine ⟨?_,ag,λp hp=>?_⟩
 ·rw [Wi]
  refine ⟨g.up,WE _ _,λp hp r hr=>?_⟩
  rw [U4.mp hr]
  rcases Wz ps with rfl | ⟨rs,l,rfl⟩
  ·cases hp
  ·rw [WA] at *
   have h1:=ab rs l rfl
   have h2:=(ag l (by simp) q (by simp)).eq
   have h3:l.1 < q.1:=by
    rcases h1 with h | ⟨h,h'⟩
    ·exact h
    ·have:=h2.mp h;omega
   rcases Vj.mp hp with h | h
   ·have:=(Wi.mp g.up).2.2 p h l (by simp)
    omega
   ·rw [U4.mp h];exact h3
 ·rcases Vj.mp hp with h | h
  ·exact g.rg p h
  ·rw [U4.mp h];exact hq
theorem gf (ps:List (Nat×Nat)):dO (aP ps)=true:=by
 have h1:∀qs:List (Nat×Nat),areKeys (qs.map dP)=true:=λqs=>by
  induction qs with
  | nil=>rfl
  | cons q qs ih=>rw [U_];unfold areKeys;rw [ih];rfl
 have h2:deps (ps.map dP)<=1:=gS λx hx=>by obtain ⟨q,_,rfl⟩:=UY.mp hx;exact UX _
 show (areKeys (ps.map dP) && decide (deps (ps.map dP) + 1<=8))=true
 rw [h1,decide_eq_true (by omega)]
 rfl
section
variable {env:Ev}{g gk:G R}{r r2:R}{u:G O}{Q:O->Prop}{i:Nat}
theorem OQ {ks vs:List D}(h0:env[i]?=some (some (.dk ks vs))) (h:g env=.ok r) (h2:toD r=.ok d) (h3:gk env=.ok r2) (h4:toD r2=.ok k) (ok:dO k=true) (hl:ks.length<=1000000) (q:Q (.nx (env.set i (some (.dk (dput (ks,vs) k d).1 (dput (ks,vs) k d).2))))):Wp (wA i gk g env) Q:=by
 refine ⟨_,?_,q⟩
 unfold wA
 rw [h0]
 simp only
 rw [h,aS,h2,aS,h3,aS,h4,aS,if_pos ⟨ok,hl⟩]
theorem K7 {a b:G R}(h:a env=.ok (.d (.bl true))):uh a b env=.ok (.d (.bl true)):=by
 unfold uh;rw [h];rfl
theorem Nx {a b:G R}(h:a env=.ok (.d (.bl false))) (h2:b env=.ok r):uh a b env=.ok r:=by
 unfold uh;rw [h];exact h2
theorem F4 {a b:G Bool}(h1:a env=.ok false) (h2:b env=.ok k):ki a b env=.ok k:=by
 unfold ki;rw [h1];exact h2
end
theorem OS (p q:Nat×Nat):ud (.d (dP p)) (.d (dP q))=.ok (.d (.bl (d8 (dP p) (dP q)))):=by
 show (if dep (dP p)<=60/\dep (dP q)<=60 then (match dM (dP p) (dP q) with
  | some b=>M.ok (R.d (.bl b))
  | none=>.bad) else .bad)=_
 rw [if_pos ⟨by show 1<=60;decide,by show 1<=60;decide⟩,Ng]
theorem AN (ps:List (Nat×Nat)):dep (aP ps)<=60:=by
 have h2:deps (ps.map dP)<=1:=gS λx hx=>by obtain ⟨q,_,rfl⟩:=UY.mp hx;exact UX _
 show deps (ps.map dP) + 1<=60
 omega
end K22
namespace DL
open PySem PySem.Spec PyProof.Rows L2 DX
section
variable {X:Cx}{c:C}
noncomputable def jm (n:Nat) (cap:List Nat) (gi:G (List D)) (gt:GT) (gts:G Bool) (gk gv:G R):G R:=jC 1000000 n cap gi gt gts (t8 gk gv) (λys=>.ok (.mf (jl ys).1 (jl ys).2))
theorem PF (kx vx t0 i0:Vv) (f0:List Vv) (UA:Yc) (pos:Pos) (it:UN) (p:Vd) (env:Env):
  Zr (.DictComp kx vx [⟨t0,i0,f0,0⟩] UA pos) 0 it (.ref p) env=nj t0 i0 f0 it env (D5 kx vx p env) (again (.compLoop (.DictComp kx vx [⟨t0,i0,f0,0⟩] UA pos) 0 it (.ref p) env)):=by rfl
theorem Du (hu:X.A.units + 64 < Wj) (own:List Str) (cap:List Nat){kx vx t0 i0:Vv}{f0:List Vv}{UA:Yc}{pos:Pos}{gi0:G (List D)}{gt0:GT}{gts0:G Bool}{gk gv:G R}(hi:xh X c t0 i0 gi0)
  (hbody:∀(cl:List (Str×Vd)) (C:Vd) (s:UP) (H:Hp) (fp:List Vd),dW X.env.cells UA.names []=some cl->qu (c9 X own cap UA cl C s H fp) c t0 gt0/\qq (c9 X own cap UA cl C s H fp) c f0 gts0/\QD (c9 X own cap UA cl C s H fp) c kx gk/\QD (c9 X own cap UA cl C s H fp) c vx gv) (a:BB X UA cap i0:=by exact sU rfl) (hK:X.K=c.K:=by rfl):
  rD X c (.DictComp kx vx [⟨t0,i0,f0,0⟩] UA pos) (jm own.length cap gi0 gt0 gts0 gk gv):=by
 refine ⟨_,?_,rfl,λ_=>rfl⟩
 refine oQ (e:=.DictComp kx vx [⟨t0,i0,f0,0⟩] UA pos) (ob:={cls:=.type "dict",data:=.dict #[]}) (o0:=λa=>lJ a 0 []) (Acc:=Dg c) (N:=1) (lim:=1000000) (m:=λp env=>D5 kx vx p env) own cap rfl hi.h
  (λs Q E q=>Vu q) (λh H=>⟨⟨_,#[],U0 _ rfl,⟨rfl,rfl,rfl⟩,rfl,.nil⟩,⟨_,U0 _ rfl⟩,λh1 h2 ⟨o,es,a1,a2⟩ e=>⟨o,es,e o a1,a2⟩⟩) (λp=>t6) (λp J H hsm h1 h2=>⟨⟨[],[],0,h1,.nil,.nil,⟨rfl,Xw,Vl _,λ_ h=>(nomatch h)⟩,beq_eq_false_iff_ne.mpr (WT (Vn hsm)),rfl⟩,h2,UX _⟩) (by decide) (λit p env=>DT (PF ..)) (λit acc env R s h0 h=>aaU h0 h) (λys z q=>by cases q)
  (fun {p J H J' H' ys r} hp e ⟨h1,h2,h8⟩ q=>by cases q;exact ⟨J',e,⟨p,rfl,h1,h2,hp⟩⟩) (λcl C s H fp hcc=>?_) a
 obtain ⟨b1,b2,b3,b4⟩:=hbody cl C s H fp hcc
 exact ⟨b1.h,b2.h,λp J2 H2 hp2 hp0=>BS hu hK (λ_ _ f=>f) hp2 hp0 b3.h b4.h⟩
end
end DL
namespace DL
open PySem PySem.Spec PyProof.Rows L2 DX
open Sem (wp)
section
variable {prog:U6}{w:Vs}{A:Vz}{E:UN->UP->Prop}{s:UP}{d it:Vd}{o:Obj}{es:Array aa2}{ep i:Nat}
theorem Ht {Q:UN->UP->Prop}(hd:(d == X7)=false) (ho:s.heap.get? d=some o) (hc:o.ExactDict) (hdat:o.data=.dict es ep)
  (hQ:Q (.ref s.heap.objs.size) {s with heap:=s.heap.push {cls:=.type "dict_keyiterator",data:=.fields #[.ref d,.int 0 0,.int es.size 0,.int ep 0]}}):U9 (Vg prog w) A (Z2 (.ref d)) Q E s:=by
 have hT:s.TypeIs (.ref d) "dict":=⟨o,ho,hc.1⟩
 refine aam hT acS (VA acS hT F.entry_dict_iter ?_ (F.args_dict_iter_1 _));unfold YU.«dict.__iter__»;refine UL ?_
 unfold adH;refine UL (wpAny_notOrdered_dict hT (UO ?_))
 show U9 _ _ (Bind.bind (abg d) _) _ _ s
 unfold abg;rw [if_neg (by rw [hd];decide)]
 refine UL (UO (UL (aaq ho hdat (UL (abh ho hdat ?_)))))
 exact UL (Vu (UO ⟨_,rfl,"dict_keyiterator",_,⟨_,U0 _ rfl,rfl⟩,WC.lookup,by simpa [abx] using hQ⟩))
theorem HH {Q:Option UN->UP->Prop}(hit:s.heap.IsKeyIter it d i es.size ep) (hod:s.heap.get? d=some o) (Sa:o.data=.dict es ep) (hi:i < es.size)
  (hQ:∀h',h'.IsKeyIter it d (i + 1) es.size ep->VL it s.heap h'->Q (some es[i].key) {s with heap:=h'}):U9 (Vg prog w) A (YM (.ref it)) Q E s:=by
 obtain ⟨oi,ho,hc,hd⟩:=id hit
 unfold YM
 refine UL (XY (VG (name:=Xo "__next__") hit.typeIs WC (VA WC hit.typeIs ZA ?_ (Zv _))))
 refine UL (UO (UL (UL ?_)))
 refine UL (W6 hit.typeIs (UO (UL (aac ho hd ?_))))
 have hown:ZG "dict_keyiterator"=false:=by decide
 simp only [hown,Va,if_false]
 show U9 _ _ (ite ((XA d == VM)=true) _ _) _ _ s
 rw [if_neg (show ¬((XA d == VM)=true) from Vp)];refine UL (UO (UL (aaq hod Sa ?_)))
 rw [if_neg (by simp)];refine UL (UO (UL (abh hod Sa ?_)))
 rw [if_neg (by simp)];refine UO ?_
 simp only [show ¬((i:Int) < 0) from by omega,if_false,V7,Xy hi]
 refine UL (UL (W6 hit.typeIs (UO ?_)))
 refine UL (abi hit.typeIs ?_)
 refine UL (m:=aec (.ref it) 1 (abx ((i:Int) + 1))) (aab ho hd (by simp) ?_)
 have SA:(s.heap.update it (aek (·.setIfInBounds 1 (abx ((i:Int) + 1))))).IsKeyIter it d (i + 1) es.size ep:=⟨_,Wy _ ho (aa6 (YX hd _)),(acm ..).trans hc,by rw [YX hd];simp [abx]⟩
 refine UL (VB (UL (abi (s:={s with heap:=s.heap.update it (aek (·.setIfInBounds 1 (abx ((i:Int) + 1))))}) SA.typeIs ?_)))
 exact UO (UO ⟨_,rfl,UO (hQ _ SA (WL ..))⟩)
theorem Ky {Q:Option UN->UP->Prop}(hh:A.handled=none) (hit:s.heap.IsKeyIter it d i es.size ep) (hod:s.heap.get? d=some o) (Sa:o.data=.dict es ep) (hi:es.size<=i)
  (hQ:∀h',aaz it s.heap h'->Q none {s with heap:=h'}):U9 (Vg prog w) A (YM (.ref it)) Q E s:=by
 obtain ⟨oi,ho,hc,hd⟩:=id hit
 unfold YM
 refine UL (XY (VG (name:=Xo "__next__") hit.typeIs WC (VA WC hit.typeIs ZA ?_ (Zv _))))
 refine UL (UO (UL (UL ?_)))
 refine UL (W6 hit.typeIs (UO (UL (aac ho hd ?_))))
 have hown:ZG "dict_keyiterator"=false:=by decide
 simp only [hown,Va,if_false]
 show U9 _ _ (ite ((XA d == VM)=true) _ _) _ _ s
 rw [if_neg (show ¬((XA d == VM)=true) from Vp)];refine UL (UO (UL (aaq hod Sa ?_)))
 rw [if_neg (by simp)];refine UL (UO (UL (abh hod Sa ?_)))
 rw [if_neg (by simp)];refine UO ?_
 simp only [show ¬((i:Int) < 0) from by omega,if_false,V7,Array.getElem?_eq_none hi]
 refine UL (UL (W6 hit.typeIs (UO ?_)))
 refine UL (m:=aec (.ref it) 0 .none) (aab ho hd (by simp) ?_)
 refine UL (m:=ae0 (.type "StopIteration") []) ?_
 simp only [ae0,ad7];refine UL (Vu ?_ (by size_fits))
 refine UL (m:=Yw _ _) (ZN (a:=VM) (by first | rfl | (simp only [Yw];rfl)) (Vu ?_ (by size_fits)))
 simp only [ae1];refine UL (ab1 ?_)
 rw [show A.in1.handled=none from hh];refine UL (UO (ac4 ?_))
 exact UL (YF (T:="StopIteration") (b:=true) ⟨_,U0 _ rfl,rfl⟩ abC (UO (hQ _ (((WL ..).extBut.push _).push _))))
end
end DL
namespace DL
open PySem PySem.Spec PyProof.Rows L2 DX
noncomputable def PK (a:Vd) (ep:Nat) (UJ:List (Int×V×V)):It:=⟨λi H=>H a=some (lJ a ep UJ)/\i < UJ.length,λi H x H'=>H'=H/\∃p,UJ[i]?=some p/\x=p.2.1,λi H=>H a=some (lJ a ep UJ)/\UJ.length<=i⟩
theorem xT {α β:Type}{F:α->β->Prop}:∀{xs:List α}{ys:List β}{i:Nat}(hi:i < ys.length),aae F xs ys->∃p,xs[i]?=some p/\F p ys[i]
 | _,_,0,_,.cons h _=>⟨_,rfl,h⟩
 | _,_,i + 1,hi,.cons _ t=>xT (i:=i) (by simpa using hi) t
theorem IS {P:U6}{w:Vs}{K:UM}{tg:Vv}(a it:Vd) (ep:Nat) (UJ:List (Int×V×V)):Turn P w K tg (PK a ep UJ) [it] it (λi h=>h.IsKeyIter it a i UJ.length ep) where
 mem:=by simp
 obj:=λi h st b hb=>by
  cases U4.mp hb
  obtain ⟨o,e,c,d⟩:=st
  exact ⟨o,e,λv z=>by rw [d] at z;cases z⟩
 keep:=λi h h' st k=>st.at λo e=>k it (by simp) o e
 item:=by
  rintro X rfl rfl rfl hc i UB s σ H E I hf st ⟨hq,hi⟩
  obtain ⟨o,es,h1,h2,h3,h4⟩:=(show cT X.prog X.w H s.heap a (lJ a ep UJ) from I.hok a _ hq).1
  have hl:UJ.length=es.size:=by have:=h4.length;simpa using this
  obtain ⟨p,hp,er⟩:=xT (i:=i) (by simp;omega) h4
  obtain ⟨f0,f1,f2,f3,f4,f5⟩:=hf it (by simp)
  refine HH (es:=es) (ep:=ep) (hl▸st) h1 h3 (by omega) λh' st' sb=>?_
  have I1:Inv X UB σ H {s with heap:=h'}:=I.turned (t':=s.toks) (λb o hb e=>(sb.2 b hb).trans e) f0 f1 f3 f4 f5
  obtain ⟨oi,e,c,d⟩:=id st'
  exact ⟨_,rfl,za (s:={s with heap:=h'}) e c d (by decide) ⟨p.2.1,H,I1,by simpa using er.2.1,⟨rfl,p,hp,rfl⟩,by rw [hl];exact st',λb hb=>(hf b hb).1⟩⟩
 done:=by
  rintro X rfl rfl rfl hc i UB s σ H E I hf st ⟨hq,hi⟩
  obtain ⟨o,es,h1,h2,h3,h4⟩:=(show cT X.prog X.w H s.heap a (lJ a ep UJ) from I.hok a _ hq).1
  have hl:UJ.length=es.size:=by have:=h4.length;simpa using this
  obtain ⟨f0,f1,f2,f3,f4,f5⟩:=hf it (by simp)
  exact Ky (es:=es) (ep:=ep) (I.ok.hd hc) (hl▸st) h1 h3 (by omega) λh' eb=>⟨rfl,I.turned (t':=s.toks) (λb o hb e=>eb b o hb e) f0 f1 f3 f4 f5⟩
 self:=λ_ _ _ _ _ st h=>wpAny_pyIter_keyiter st h
section
variable {X:Cx}{c:C}{e tg:Vv}{g:G R}
noncomputable def o6 (g:G R):G (List D):=λenv=>g env >>= λr=>match sS r with
 | some z=>.ok z.1
 | none=>.bad
theorem NN {tl:TE}(hl:PE X e tl):PI X tg e (λσ H Q=>tl σ H λx H1=>∃a ep UJ,x=.ref a/\(a == X7)=false/\H1 a=some (lJ a ep UJ)/\Q (PK a ep UJ) H1):=λUB s σ H R I h=>bP (hl UB s σ H _ I h) λv s1 ⟨x,H1,I1,r1,a,ep,UJ,ex,hsm,hq,q⟩=>by
 subst ex
 cases r1
 obtain ⟨o,es,h1,h2,h3,h4⟩:=(show cT X.prog X.w H1 s1.heap a (lJ a ep UJ) from I1.hok a _ hq).1
 have hl:UJ.length=es.size:=by have:=h4.length;simpa using this
 refine Ht hsm h1 h2 h3 ⟨s1.heap.objs.size,[s1.heap.objs.size],_,_,H1,rfl,I1.kept (t':=s1.toks) (λb o e=>US _ e),IS a _ ep UJ,⟨_,U0 _ rfl,rfl,by rw [hl];rfl⟩,λb hb=>?_,q⟩
 cases U4.mp hb
 exact I1.fpOk (UX _) (I1.hok.fresh (UX _))
theorem lR (h:QD X c e g) (hK:X.K=c.K:=by rfl):xh X c tg e (o6 g):=have h:=h.h;⟨rX (NN h) λσ H Q ⟨J,env,sr,w⟩=>by
 refine ⟨J,env,sr,aF (aK w) λr wr v J1 H1 e1 r1=>?_⟩
 cases hz:sS r with
 | none=>rw [hz] at wr;exact wr.elim
 | some z=>
  rw [hz] at wr
  obtain ⟨a,rfl,us,ws,ep,h1,h2,h3,h4,h5,h6⟩:=r1.dk (sr.hp.ext e1) hz
  have hh:∀ds:List D,(cJ ds).length=ds.length:=λds=>by induction ds with
   | nil=>rfl
   | cons d ds ih=>show (cJ ds).length + 1=_;rw [ih];rfl
  have lk:((cJ z.1).zip (us.zip ws)).length=z.1.length:=by
   rw [adq,adq,hh,<-h2.length,<-h3.length,<-h6];omega
  refine ⟨a,ep,_,rfl,h5,h1,wr _ J1 H1 e1 λi J' H' hp u=>⟨λhl=>⟨u.2 _ _ h1,by omega⟩,λd hd=>?_⟩⟩
  have hi:i < z.1.length:=(Vo.mp hd).1
  obtain ⟨x,k1,k2⟩:=h2.get hd
  refine ⟨⟨u.2 _ _ h1,by omega⟩,λy H2 ⟨e,p,hp',hy⟩=>⟨J',by subst e;exact Ext.refl hp.sub,?_⟩⟩
  have:p.2.1=x:=by
   rw [YC,] at hp'
   have:=(YC.mp hp'.2).1
   rw [k1] at this
   cases this;rfl
  rw [hy,this]
  exact k2.mono u.1⟩
end
end DL
namespace DL
open PySem PySem.Spec PyProof.Rows L2
section
variable {X:Cx}{c:C}{e:Vv}{es:List Vv}{g:G R}{pos p:Pos}{x y:Str}
def CW (K:UM) (mg:Str->Option UN) (x:Str):Prop:=∃f,Vw K Vi x=some (some (.ref f))/\mg x=some (.ref f)
noncomputable def An (y:Str) (F:List S->M R) (g:G R):G R:=λenv=>g env >>= λr=>match F [gm r,.fn y] with
 | .ok r=>.ok (mK r)
 | _=>.bad
theorem AO {k k':Nat}{F:List S->M R}{q:Pos}(G:bh X.prog X.w X.K X.mg X.base k 2 x F) (hv:CW X.K X.mg y) (hr:c8 k' X.A) (ha:QD X c e g) (hk:k<=k':=by decide) (hT:c.K=X.K:=by rfl) (hg:Gl X x:=by rfl) (Ua:Gl X y:=by rfl)
  (hdb:(x == ("__debug__":Str))=false:=by decide) (S0:(y == ("__debug__":Str))=false:=by decide) (he:UZ [e,.Name y q] X.env=(false,eval e X.env)::UZ [.Name y q] X.env:=by rfl) (Sw:UZ [.Name y q] X.env=(false,eval (.Name y q) X.env)::UZ [] X.env:=by rfl)
  (hpl:(Wu pos (UZ [.Name y q] X.env)).any (·.1)=false:=by rfl):QD X c (.Call (.Name x p) [e,.Name y q] [] pos) (An y F g):=by
 obtain ⟨f,fd,ps,h1,h2,h3,h4⟩:=G
 obtain ⟨f',h5,h6⟩:=hv
 refine ⟨fj (rW (E:=E0) h1 (hr.mono hk) hg h2 h3 h4 .nil D3 (fH ha.h (fH (Cq (v:=.ref f') Ua h6 rfl S0) iZ Sw) he) hdb he hpl) λσ H Q ⟨J,env,sr,w⟩=>?_⟩
 refine ⟨J,env,sr,aF (aK w) λr wr v J1 H1 e1 r1=>JO hT e1 ?_ rfl wr⟩
 obtain ⟨_,_,e,a1,_⟩:=kI.args (rs:=[r]) (vs:=[v]) (sr.hp.ext e1) ⟨v,[],rfl,r1,rfl⟩
 cases e
 exact ⟨v,_,rfl,a1,_,_,rfl,⟨f',rfl,hT▸h5⟩,rfl⟩
noncomputable def qB (i:Nat) (x:Str) (g g':G R):G R:=λenv=>match env[i]? with
 | some (some (.fn z))=>if z=x then g env else g' env
 | _=>.bad
def yZ:G R:=λ_=>.bad
theorem Cw:QD X c e yZ:=⟨λ_ _ _ _ _ _ ⟨_,_,_,w⟩=>w.elim⟩
theorem pK (i:Nat){F:List S->M R}{gs:G (List R)}(G:bh X.prog X.w X.K X.mg X.base k n x F) (hv:CW X.K X.mg x) (hr:c8 k' X.A) (ha:iX X c (e::es) gs) (rest:QD X c (.Call (.Name y p) (e::es) [] pos) g) (hk:k<=k':=by decide) (hT:c.K=X.K:=by rfl)
 (hN:X.N[i]?=some y:=by rfl) (hvs:sP X.env.scope y:=by first | exact Zt rfl | exact X6 (Zt rfl) | exact X6 (X6 rfl)) (hd:(y == ("__debug__":Str))=false:=by decide) (hcd:(y == ("__classdict__":Str))=false:=by decide)
 (he:UZ (e::es) X.env=(false,eval e X.env)::UZ es X.env:=by rfl) (hpl:(Wu pos (UZ es X.env)).any (·.1)=false:=by rfl):QD X c (.Call (.Name y p) (e::es) [] pos) (qB i x (gN (aN n F) gs) g):=by
 refine ⟨λUB s σ H Q I ⟨J,env,sr,w⟩=>?_⟩
 obtain ⟨f,fd,ps,h1,h2,h3,h4⟩:=G
 obtain ⟨f',h5,h6⟩:=hv
 have ef:f'=f:=by rw [h2] at h6;cases h6;rfl
 subst ef
 unfold qB at w
 split at w
 ·rename_i z hz
  split at w
  ·rename_i ez
   subst ez
   obtain ⟨_,hv,_,rfl,q⟩:=sr.at_ i _ hz
   rw [hT,h5] at q
   cases q
   refine YQ (bP (lO hN hvs hd hcd UB s σ H (λv H1=>v=.ref f'/\H1=H) I ⟨_,hv,rfl,rfl⟩) λu s1 ⟨x',H1,I1,rx,ev,eh⟩=>?_)
   subst ev eh
   cases rx
   refine abP (h₀:=X.base) I1.ok.mod.kin h3 (bP (ha.h pos UB s1 σ H1 _ I1 (zR hT σ H1 Q ⟨J,env,sr,w⟩)) λus s2 ⟨vs,H2,I2,r,q⟩=>⟨I2.kIn,?_⟩) he hpl
   exact Gq h1 (hr.mono hk) h4 .nil D3 I2 r q
  ·exact rest.h UB s σ H Q I ⟨J,env,sr,w⟩
 ·exact w.elim
end
end DL
namespace K33
open PySem DL
def Ew:List Str:=["pairing","pair"]
def Fi:G O:=(bf (gN (aN 1 K23.dc) (ao (g2 cX (af 0) (bE (aA (af 1) aT))) aE)))
def lD (as:List S):M R:=fin (Fi (aV Ew as))
def sN:List Str:=["one","other","side","point"]
noncomputable def tF:G O:=(aH (bK (bx (g2 (cj false) (af 2) (gC (.int 0)))) (bf (bV 1 [3] (bR (ao (g2 aY (af 1) (gC (.int 0))) aE)) (aC 0) cM (bE (aA (af 1) (aA (af 0) aT))))) cL)
 (bf (bV 1 [3] (bR (ao (g2 aY (af 0) (gC (.int 0))) aE)) (aC 0) cM (bE (aA (af 0) (aA (af 1) aT))))))
def gQ (as:List S):M R:=fin (tF (aV sN as))
def xg:List Str:=["one","other"]
noncomputable def xM:G O:=(bf (g2 iE (bV 1 [] (bR (ao (g2 aY (af 0) (gC (.int 0))) aE)) (aC 0) cM (bE (aA (gC (.int 0)) (aA (af 0) aT)))) (bV 1 [] (bR (ao (g2 aY (af 1) (gC (.int 0))) aE)) (aC 0) cM (bE (aA (gC (.int 1)) (aA (af 0) aT))))))
def l7 (as:List S):M R:=fin (xM (aV xg as))
def w5:List Str:=["one","other","pairing","known","grown"]
noncomputable def xJ:G O:=(aH (bg 4 (rP 2 [0,1,2] (bR (ao (g2 aY (af 0) (gC (.int 0))) aE)) (aC 0) cM (fE (gN (aN 4 K33.gQ) (ao (af 2) (ao (af 3) (ao (gC (.int 0)) (ao (af 0) aE)))))) (aC 1) cM (af 1) (gN (aN 2 K33.lD) (ao (af 4) (ao (af 1) aE)))))
 (bf (bV 2 [0,1,4,3] (gU (gN (aN 2 K33.l7) (ao (af 0) (ao (af 1) aE)))) (c7 2 (bA (aC 0) (bA (aC 1) dB))) cM (bV 1 [4,5] (gU (gN (aN 4 K33.gQ) (ao (af 2) (ao (af 3) (ao (af 0) (ao (af 1) aE)))))) (aC 0) (bx (g2 (oW false) (g2 fD (af 1) (af 0)) (af 2))) (g2 fD (af 1) (af 0))))))
def lZ (as:List S):M R:=fin (xJ (aV w5 as))
def mh:List Str:=["rows","depths"]
noncomputable def mL:G O:=(bf (gN uc (ao (bV 1 [1] (gU (af 0)) (aC 0) cM (gN Ai (ao (bV 1 [1] (gU (af 0)) (aC 0) cM (g2 (gZ false) (g2 fD (af 1) (af 0)) (gC .non))) aE))) aE)))
def dG (as:List S):M R:=fin (mL (aV mh as))
def nJ:List Str:=["rows","stays","depths","depth","gone","pairing"]
def nI:List Str:=["one","other","base"]
noncomputable def nT:G O:=(bf (bV 1 [2] (gU (gN (aN 3 K23.l6) (ao (af 0) (ao (af 1) (ao (gC (.int 4)) aE))))) (aC 0) (bx (gN uc (ao (bV 1 [0] (gU (af 1)) (aC 0) cM (g2 (fB false) (af 0) (af 1))) aE))) (af 0)))
def eZ (as:List S):M R:=fin (nT (aV nI as))
def qo:List Str:=["depths","pairing","depth"]
noncomputable def xG:G O:=(bf (rO (g2 (oW false) (af 1) (af 0)) (uh (g2 (gZ false) (g2 fD (af 0) (af 1)) (gC .non)) (g2 (nO λi j=>.bl (decide (j < i))) (g2 fD (af 0) (af 1)) (af 2)))))
def jg (as:List S):M R:=fin (xG (aV qo as))
def uL:List Str:=["depths","depth"]
noncomputable def vg:G O:=(bf (bV 1 [0] (bR (ao (g2 iE (af 1) (gC (.int 1))) aE)) (aC 0) cM (bV 1 [1,0] (o6 (af 1)) (aC 0) (bx (gN (aN 3 K33.jg) (ao (af 1) (ao (af 0) (ao (af 2) aE))))) (af 0))))
def kM (as:List S):M R:=fin (vg (aV uL as))
end K33
namespace K33
open PySem DL K01 WP K51 K52 K55 K23
abbrev Ps:=List (Nat×Nat)
section
variable {κ:Type}{UI:κ->List (List κ)}{st:(κ->Bool)->κ->Bool}{i j d e:Nat}{k:κ}{ks:List κ}
noncomputable def LZ (st:(κ->Bool)->κ->Bool):Nat->κ->Bool
 | 0,_=>true
 | j + 1,k=>LZ st j k && st (LZ st j) k
abbrev JL (UI:κ->List (List κ)) (L:κ->Bool) (k:κ):Bool:=(UI k).all λr=>r.any L
abbrev LY (UI:κ->List (List κ)):Nat->κ->Bool:=LZ (JL UI)
theorem zx:LZ st (j + 1) k=true↔LZ st j k=true/\st (LZ st j) k=true:=by
 show (LZ st j k && _)=true↔_
 rw [UT]
theorem GR:LY UI (j + 1) k=true↔LY UI j k=true/\∀r∈UI k,∃x∈r,LY UI j x=true:=by
 rw [zx]
 simp only [Vm,WI]
theorem rE (h:i<=j) (q:LZ st j k=true):LZ st i k=true:=by
 induction h with
 | refl=>exact q
 | step _ ih=>exact ih (zx.mp q).1
def dZ (st:(κ->Bool)->κ->Bool) (d:Nat) (k:κ):Option Nat:=(UQ (d + 1)).find? λj=>!LZ st j k
abbrev dA (UI:κ->List (List κ)):Nat->κ->Option Nat:=dZ (JL UI)
theorem jk:dZ st d k=none↔LZ st d k=true:=by
 unfold dZ
 rw [Y7]
 constructor
 ·intro h;simpa using h d (by simp)
 ·intro h j hj
  rw [rE (by have:=U1.mp hj;omega) h]
  decide
theorem B3 (h:dZ st d k=some e):LZ st e k=false/\e<=d/\∀i,i < e->LZ st i k=true:=by
 obtain ⟨h1,h3,h2⟩:=WB.mp h
 exact ⟨by simpa using h1,by have:=U1.mp h3;omega,λi hi=>by simpa using h2 i hi⟩
theorem Kr:dZ st (d + 1) k=if (LZ st d k && !LZ st (d + 1) k)=true then some (d + 1) else dZ st d k:=by
 have e:dZ st (d + 1) k=(dZ st d k).or ([d + 1].find? λj=>!LZ st j k):=by
  show (UQ (d + 1 + 1)).find? _=_
  rw [XN,List.find?_append];rfl
 rw [e]
 cases q:dZ st d k with
 | none=>
  rw [jk.mp q]
  cases z:LZ st (d + 1) k <;> simp [List.find?,z]
 | some e=>
  have:LZ st d k=false:=by
   cases z:LZ st d k with
   | false=>rfl
   | true=>rw [jk.mpr z] at q;cases q
  rw [this];rfl
theorem zh (hm:∀(L L':κ->Bool),∀k∈ks,(∀x∈ks,L x=true->L' x=true)->st L k=true->st L' k=true) (h:∀k∈ks,LZ st d k=true->LZ st (d + 1) k=true):∀j,∀k∈ks,LZ st d k=true->LZ st j k=true
 | 0,_,_,_=>rfl
 | j + 1,k,hk,q=>zx.mpr ⟨zh hm h j k hk q,hm _ _ k hk (zh hm h j) (zx.mp (h k hk q)).2⟩
theorem QF (hc:∀k∈ks,∀r∈UI k,∀x∈r,x∈ks) (h:∀k∈ks,LY UI d k=true->LY UI (d + 1) k=true):∀j,∀k∈ks,LY UI d k=true->LY UI j k=true:=
 zh (λL L' k hk hx=>by
  simp only [Vm,WI]
  exact λg r hr=>let ⟨x,h1,h2⟩:=g r hr;⟨x,h1,hx x (hc k hk r hr x h1) h2⟩) h
noncomputable def mU (o:Option Nat) (j:Nat):Bool:=match o with
 | none=>true
 | some e=>decide (j < e)
theorem Fw (hs:∀j,LZ st d k=true->LZ st j k=true):mU (dZ st d k) j=LZ st j k:=by
 cases q:dZ st d k with
 | none=>exact (hs j (jk.mp q)).symm
 | some e=>
  obtain ⟨h1,_,h2⟩:=B3 q
  show decide (j < e)=_
  by_cases c:j < e
  ·rw [h2 j c,decide_eq_true c]
  ·cases z:LZ st j k with
   | false=>exact decide_eq_false c
   | true=>rw [rE (by omega) z] at h1;cases h1
theorem yU {rows':κ->List (List κ)}(hc:∀k∈ks,∀r∈UI k,∀x∈r,x∈ks) (he:∀k∈ks,UI k=rows' k):∀j,∀k∈ks,LY UI j k=LY rows' j k
 | 0,_,_=>rfl
 | j + 1,k,hk=>by
  rw [Vy,GR,GR,yU hc he j k hk,<-he k hk]
  refine and_congr aej ⟨λh r hr=>?_,λh r hr=>?_⟩ <;> obtain ⟨x,h1,h2⟩:=h r hr <;> refine ⟨x,h1,?_⟩
  ·rw [<-yU hc he j x (hc k hk r hr x h1)];exact h2
  ·rw [yU hc he j x (hc k hk r hr x h1)];exact h2
end
def jO (ps:Ps):Ps:=(gE (ps.map dP)).map Ba
theorem vM (ps:Ps):∀d∈ps.map dP,nq pF d:=λd hd=>by obtain ⟨x,_,rfl⟩:=UY.mp hd;exact Au x
theorem q_ (ps:Ps):(jO ps).map dP=gE (ps.map dP):=back dP Ba vN λd hd=>by
 obtain ⟨x,_,rfl⟩:=UY.mp ((yl (jK pF) (vM ps)).2 d hd);exact ⟨x,rfl⟩
theorem Jm {ps:Ps}:dP p∈ps.map dP↔p∈ps:=by
 rw [UY]
 exact ⟨λ⟨q,h,e⟩=>by rw [<-vN p,<-e,vN];exact h,λh=>⟨p,h,rfl⟩⟩
theorem eu:q∈jO ps↔q∈ps:=by
 rw [<-Jm,q_,(uz (jK pF) (vM ps)).2,Jm]
theorem ku (ps:Ps):(jO ps).Pairwise mY:=by
 have:=(uz (jK pF) (vM ps)).1
 rw [<-q_,VO] at this
 exact this.imp fun {a b} h=>(vt a b).mp h
theorem OF {A B:Ps}(hA:A.Pairwise mY) (hB:B.Pairwise mY) (h:∀y,y∈A↔y∈B):A=B:=by
 have up:∀{C:Ps},C.Pairwise mY->(C.map dP).Pairwise λa b=>d8 a b=true:=fun {C} hC=>VO.mpr (hC.imp fun {a b} h=>(vt a b).mpr h)
 have e:=Bb (jK pF) (vM A) (up hA) (up hB) λy=>by
  rw [UY,UY]
  exact ⟨λ⟨q,a,b⟩=>⟨q,(h q).mp a,b⟩,λ⟨q,a,b⟩=>⟨q,(h q).mpr a,b⟩⟩
 have:=congrArg (ae3 Ba) e
 simpa only [Vr,aap,vN,List.map_id'] using this
section
variable {v w:Wd}{ps qs S:Ps}{p:Nat×Nat}{n j:Nat}
structure zu (v w:Wd) (S:Ps):Prop where
 ag:∀p∈S,∀q∈S,pP v w p q
 rg:∀p∈S,g9 v w p
theorem zu.sub (h:zu v w S) (hs:∀p∈ps,p∈S):zu v w ps:=⟨λp hp q hq=>h.ag p (hs p hp) q (hs q hq),λp hp=>h.rg p (hs p hp)⟩
theorem o7 (hu:ps.Pairwise mY):Good v w ps↔zu v w ps:=⟨λg=>⟨g.ag,g.rg⟩,λf=>⟨hu.imp_of_mem fun {a b} ha hb h=>by
 have:=(f.ag a ha b hb).eq
 unfold mY at h
 omega,f.ag,f.rg⟩⟩
theorem o9 (g:Good v w ps):ps.length<=v.m:=by
 have h:=Vx (l₁:=ps.map VC) (l₂:=UQ v.m) (VO.mpr (g.up.imp λh=>by omega)) λx hx=>by
  obtain ⟨p,hp,rfl⟩:=UY.mp hx
  exact U1.mpr (g.rg p hp).1
 simpa using h
abbrev T4 (v w:Wd):List Ps:=told v w 4
theorem jG (t:Pr v w):ps∈T4 v w↔Good v w ps:=by
 rw [oB]
 constructor
 ·rintro ⟨j,_,h⟩;exact ((iY j).mp h).2
 ·intro g;exact ⟨ps.length,Vq (o9 g) t.v4,(iY _).mpr ⟨rfl,g⟩⟩
theorem Jb (v w:Wd):∀j,(LG v w j).Nodup
 | 0=>WE _ _
 | j + 1=>by
  refine abe.mpr ⟨λah _=>VO.mpr ?_,(Jb v w j).imp_of_mem fun {a b} _ _ hab x hx y hy e=>?_⟩
  ·exact (((pC v.m w.m).filter _).filter _).imp λh e=>h (by simpa using e)
  ·obtain ⟨p,_,rfl⟩:=UY.mp hx
   obtain ⟨q,_,rfl⟩:=UY.mp hy
   exact hab (List.append_inj' e rfl).1
theorem wR (v w:Wd):∀j,(told v w j).Nodup
 | 0=>WE _ _
 | j + 1=>XM.mpr ⟨wR v w j,Jb v w (j + 1),λa ha b hb e=>by
  obtain ⟨i,hi,h⟩:=(oB j).mp ha
  have h1:=(oJ i h).1
  have h2:=(oJ (j + 1) hb).1
  rw [e] at h1
  omega⟩
def bL (ps:Ps) (p:Nat×Nat):Ps:=jO (ps++[p])
theorem gT:q∈bL ps p↔q∈ps\/q=p:=by unfold bL;rw [eu];simp
theorem Jh (t:Pr v w):bL ps p∈T4 v w↔zu v w (ps++[p]):=by
 rw [jG t,bL,o7 (ku _)]
 exact ⟨λh=>h.sub λq hq=>eu.mpr hq,λh=>h.sub λq hq=>eu.mp hq⟩
def kn (v w:Wd) (B:Ps):List Ps:=(T4 v w).filter λps=>B.all λq=>decide (q∈ps)
theorem ir:ps∈kn v w B↔ps∈T4 v w/\∀q∈B,q∈ps:=by
 unfold kn
 rw [VI,Vm]
 simp
def picks (v w:Wd):Ps:=(UQ v.m).map (λa=>(0,a))++(UQ w.m).map λb=>(1,b)
def kL (v w:Wd) (k:Nat×Nat):Ps:=if k.1=0 then (UQ w.m).map λb=>(k.2,b) else (UQ v.m).map λa=>(a,k.2)
def RW (v w:Wd) (B ps:Ps):List (List Ps):=(picks v w).map λk=>((kL v w k).map (bL ps)).filter λx=>decide (x∈kn v w B)
theorem De:∀k∈kn v w B,∀r∈RW v w B k,∀x∈r,x∈kn v w B:=λk _ r hr x hx=>by
 obtain ⟨_,_,rfl⟩:=UY.mp hr
 simpa using (VI.mp hx).2
theorem OG:∀k∈kn v w B,RW v w B k=RW v w [] k:=λk hk=>Wx λa _=>Zp λx hx=>by
 obtain ⟨p,_,rfl⟩:=UY.mp hx
 rw [Vy,decide_eq_true_eq,decide_eq_true_eq,ir,ir]
 exact ⟨λh=>⟨h.1,λ_ h=>nomatch h⟩,λh=>⟨h.1,λq hq=>gT.mpr (.inl ((ir.mp hk).2 q hq))⟩⟩
def La (v w:Wd) (j:Nat) (ps:Ps):Bool:=LY (RW v w []) j ps
theorem Qa (h:ps∈kn v w B):LY (RW v w B) j ps=La v w j ps:=yU De OG j ps h
theorem GS:La v w (j + 1) ps=true↔La v w j ps=true/\∀k∈picks v w,∃p∈kL v w k,bL ps p∈T4 v w/\La v w j (bL ps p)=true:=by
 show LY _ (j + 1) ps=true↔_
 rw [GR]
 refine and_congr aej ⟨λh k hk=>?_,λh r hr=>?_⟩
 ·obtain ⟨x,h1,h2⟩:=h _ (UY.mpr ⟨k,hk,rfl⟩)
  obtain ⟨h3,h4⟩:=VI.mp h1
  obtain ⟨p,h5,rfl⟩:=UY.mp h3
  exact ⟨p,h5,(ir.mp (of_decide_eq_true h4)).1,h2⟩
 ·obtain ⟨k,hk,rfl⟩:=UY.mp hr
  obtain ⟨p,h1,h2,h3⟩:=h k hk
  exact ⟨_,VI.mpr ⟨UY.mpr ⟨p,h1,rfl⟩,decide_eq_true (ir.mpr ⟨h2,λ_ h=>nomatch h⟩)⟩,h3⟩
end
end K33
namespace K33
open PySem DL K01 WP K51 K52 K55 K23 K22
section
variable {α:Type} [DecidableEq α] {e:α->D}{f:α->D}{ks:List α}{k:α}{d:D}
theorem nV (he:∀a b,bu (e a) (e b)=decide (a=b)) (f:α->D):∀(ks:List α) (k:α),gK (ks.map e) (ks.map f) (e k)=if k∈ks then some (f k) else none
 | [],_=>rfl
 | a::ks,k=>by
  rw [U_,U_,gK,he,nV he f ks k]
  by_cases h:a=k
  ·subst h;simp
  ·rw [if_neg (by simpa using h)]
   simp [WT h]
theorem Ct (he:∀a b,bu (e a) (e b)=decide (a=b)) (f:α->D) (k:α) (d:D):∀ks:List α,wL (ks.map e) (ks.map f) (e k) d=ks.map λx=>if x=k then d else f x
 | []=>rfl
 | a::ks=>by
  rw [U_,U_,wL,he,Ct he f k d ks,U_]
  simp only [decide_eq_true_eq]
theorem G7 (he:∀a b,bu (e a) (e b)=decide (a=b)) (hk:k∈ks):dput (ks.map e,ks.map f) (e k) d=(ks.map e,ks.map λx=>if x=k then d else f x):=by
 unfold dput
 simp only
 rw [nV he,if_pos hk,Ct he]
 rfl
theorem wc (he:∀a b,bu (e a) (e b)=decide (a=b)) (f:α->D):∀(n:Nat) (ks:List α),ks.length=n->ks.Nodup->jl (ks.map λk=>D.tup [e k,f k])=(ks.map e,ks.map f)
 | 0,ks,h,_=>by rw [X4.mp h];rfl
 | n + 1,ks,h,nd=>by
  rcases Wz ks with rfl | ⟨qs,p,rfl⟩
  ·cases h
  ·rw [WA] at h nd ⊢
   have nd':=XM.mp nd
   have hp:p∉qs:=λhq=>nd'.2.2 p hq p (by simp) rfl
   rw [Ve,Ve,Ve,U_,aa0,oR,wc he f n qs (by simpa using h) nd'.1]
   unfold dput
   simp only
   rw [nV he,if_neg hp]
   rfl
end
theorem gY (a b:Ps):bu (aP a) (aP b)=decide (a=b):=by
 show cH (a.map dP) (b.map dP)=_
 induction a generalizing b with
 | nil=>cases b <;> simp [cH]
 | cons x a ih=>
  cases b with
  | nil=>simp [cH]
  | cons y b=>rw [U_,U_,iD,ih,K55.xB,Vy];simp
theorem MP {m:Md}(p:Ps) (L:List Ps) (x:R) (hx:iK x=.ok (L.map aP)):fB false (.d (aP p)) x=.ok (.d (.bl (decide (p∈L)))):=by
 have h1:∀q:Ps,dep (aP q)<=60:=AN
 unfold fB
 rw [hx,aS,if_pos ⟨gS λd hd=>by obtain ⟨q,_,rfl⟩:=UY.mp hd;exact h1 q,h1 p⟩]
 have:inD (aP p) (L.map aP)=decide (p∈L):=by
  unfold inD
  rw [Z_,Vy,WI,decide_eq_true_eq]
  simp only [aap,gY,decide_eq_true_eq]
  exact ⟨λ⟨x,h,e⟩=>e▸h,λh=>⟨p,h,rfl⟩⟩
 show M.ok (R.d (.bl (inD (aP p) (L.map aP))))=_
 rw [this]
theorem yS (ps:Ps) (hl:ps.length < 64):dc [.d (aP ps)]=.ok (.d (aP (jO ps))):=by
 refine bM (ff (bH (b:=false) rfl rfl rfl) (bz (n1 (n1 (x:=.d (aP ps)) (z:=.l .fresh (gE (ps.map dP))) rfl (Ob ps hl)) rfl) rfl ?_))
 rw [<-q_]
theorem Og {ps:Ps}(h:ps.Pairwise mY):jO ps=ps:=OF (ku ps) h λ_=>eu
theorem zZ (ps:Ps) (p:Nat×Nat) (hl:ps.length < 63):cX (.d (aP ps)) (.d (.tup [dP p]))=.ok (.d (aP (ps++[p]))):=by
 rw [aP,Eh _ _ (by simp;omega),aP,Ve];rfl
theorem BC (ps:Ps) (p:Nat×Nat) (hl:ps.length < 63):lD [.d (aP ps),.d (dP p)]=.ok (.d (aP (bL ps p))):=
 bM (bz (c1 (two rfl (bF (aI rfl rfl br) (by show 1<=1000;decide)) (zZ ps p hl)) (yS _ (by simp;omega))) rfl rfl)
section
variable {v w:Wd}
theorem L7 (hv:v.m<=1000) (hw:w.m<=1000) (s x:Nat):gQ [.d v.d,.d w.d,.d (.int s),.d (.int x)]=.ok (.l .fresh ((kL v w (s,x)).map dP)):=by
 have hb:cj false (.d (.int (s:Int))) (.d (.int 0))=.ok (.d (.bl (decide (s=0)))):=by
  rw [K01.eq_int]
  congr 3
  rw [Vy];simp
 unfold kL
 by_cases h:s=0
 ·rw [if_pos h,Vr]
  exact bM (b8 (pq (bH rfl rfl (hb.trans (by rw [decide_eq_true h]))) (bz (jB (λb=>dP (x,b)) (jH (cu (two rfl rfl (fN _ _))) hw) (by simp;omega) λb _=>⟨_,bF (aI rfl rfl (aI rfl rfl br)) t2,rfl⟩) rfl rfl)))
 ·rw [if_neg h,Vr]
  exact bM (ff (bH rfl rfl (hb.trans (by rw [decide_eq_false h]))) (bz (jB (λa=>dP (a,x)) (jH (cu (two rfl rfl (fN _ _))) hv) (by simp;omega) λb _=>⟨_,bF (aI rfl rfl (aI rfl rfl br)) t2,rfl⟩) rfl rfl))
theorem JW (hv:v.m<=1000) (hw:w.m<=1000):l7 [.d v.d,.d w.d]=.ok (.l .fresh ((picks v w).map dP)):=by
 refine bM (bz (two (jB (λa=>dP (0,a)) (jH (cu (two rfl rfl (fN _ _))) hv) (by simp;omega) λb _=>⟨_,bF (aI rfl rfl (aI rfl rfl br)) t2,rfl⟩) (jB (λa=>dP (1,a)) (jH (cu (two rfl rfl (fN _ _))) hw) (by simp;omega) λb _=>⟨_,bF (aI rfl rfl (aI rfl rfl br)) t2,rfl⟩) (z:=.l .fresh ((picks v w).map dP)) ?_) rfl rfl)
 unfold picks
 rw [Ve,Vr,Vr]
 show (if _<=sizeLine then _ else M.bad)=_
 rw [if_pos (by rw [Wv];simp;omega)]
 rfl
end
section
variable {α:Type} [DecidableEq α] {e f:α->D}{ks:List α}{k:α}{env:Ev}
theorem PX {act:Ev->M (List D×Ev)}{h f:α->D}{rest:Ev}:∀(ys:List α),(∀y∈ys,act (some (.d (h y))::rest)=.ok ([f y],some (.d (h y))::rest))->∀z:Option S,∃z',bZ (aC 0) cM act (ys.map h) (z::rest)=.ok (ys.map f,z'::rest)
 | [],_,z=>⟨z,rfl⟩
 | y::ys,H,z=>by
  obtain ⟨z',ih⟩:=PX ys (λy hy=>H y (UU _ hy)) (some (.d (h y)))
  refine ⟨z',?_⟩
  rw [U_]
  unfold bZ
  show (act (some (.d (h y))::rest) >>= _)=_
  rw [H y UW,aS]
  show (bZ (aC 0) cM act (ys.map h) (some (.d (h y))::rest) >>= _)=_
  rw [ih]
  rfl
theorem uV {gi:G (List D)}{gk gv:G R}(he:∀a b,bu (e a) (e b)=decide (a=b)) (nd:ks.Nodup) (hi:gi env=.ok (ks.map e)) (hl:ks.length<=1000000)
 (hb:∀k∈ks,dO (e k)=true/\gk (some (.d (e k))::cE 0 cap env)=.ok (.d (e k))/\∃r,gv (some (.d (e k))::cE 0 cap env)=.ok r/\toD r=.ok (f k)):jm 1 cap gi (aC 0) cM gk gv env=.ok (.mf (ks.map e) (ks.map f)):=by
 obtain ⟨z,h⟩:=PX (act:=t8 gk gv) (h:=e) (f:=λk=>.tup [e k,f k]) (rest:=cE 0 cap env) ks (λk hk=>by
  obtain ⟨h1,h2,r,h3,h4⟩:=hb k hk
  exact vU h2 rfl h3 h4 h1) none
 unfold jm jC
 rw [hi,aS,if_pos (by rw [UR];exact hl)]
 show (bZ (aC 0) cM (t8 gk gv) (ks.map e) (none::cE 0 cap env) >>= _)=_
 rw [h]
 show M.ok (R.mf (jl _).1 (jl _).2)=_
 rw [wc he f _ ks rfl nd]
theorem k8 (he:∀a b,bu (e a) (e b)=decide (a=b)) (hx:sS x=some (ks.map e,ks.map f)) (ok:dO (e k)=true) (hk:k∈ks):fD x (.d (e k))=.ok (.d (f k)):=by
 unfold fD
 rw [hx]
 simp only
 rw [if_pos ok,nV he,if_pos hk]
theorem Cd (he:∀a b,bu (e a) (e b)=decide (a=b)) (hx:sS x=some (ks.map e,ks.map f)) (ok:dO (e k)=true):oW false (.d (e k)) x=.ok (.d (.bl (@decide (k∈ks) q))):=by
 unfold oW
 rw [hx]
 simp only
 rw [if_pos ok,nV he]
 by_cases h:k∈ks <;> simp [h]
end
theorem anyM {α:Type}(f:α->Bool) (xs:List α):Ai [.l .fresh (xs.map λx=>.bl (f x))]=.ok (.d (.bl (xs.any f))):=by
 have:=vX (λd=>match d with
  | .bl b=>b
  | _=>false) (xs.map λx=>.bl (f x))
 rw [Vr,Vr] at this
 unfold Ai
 show (match j_ (xs.map λx=>.bl (f x)) with
  | some ks=>M.ok (R.d (.bl (ks.any id)))
  | none=>.bad)=_
 rw [show j_ (xs.map λx=>.bl (f x))=some (xs.map f) from this]
 simp [Z_]
section
variable {v w:Wd}
abbrev jI (r:List Ps):D:=.lst (r.map aP)
theorem OC (t:Pr v w) (ks:List Ps) (ps:Ps) (hl:ps.length < 63):lZ [.d v.d,.d w.d,.d (aP ps),.db (ks.map aP) (ks.map λ_=>.bl true)]=.ok (.l .fresh (((picks v w).map λk=>((kL v w k).map (bL ps)).filter λx=>decide (x∈ks)).map jI)):=by
 have v4:=t.v4
 have w4:=t.w4
 have hg:rP 2 [0,1,2] (bR (ao (g2 aY (af 0) (gC (.int 0))) aE)) (aC 0) cM (fE (gN (aN 4 K33.gQ) (ao (af 2) (ao (af 3) (ao (gC (.int 0)) (ao (af 0) aE)))))) (aC 1) cM (af 1) (gN (aN 2 K33.lD) (ao (af 4) (ao (af 1) aE)))
   [some (.d v.d),some (.d w.d),some (.d (aP ps)),some (.db (ks.map aP) (ks.map λ_=>.bl true)),none]=.ok (.d (.dct ((dQ v.m w.m).map dP) ((dQ v.m w.m).map λq=>aP (bL ps q)))):=by
  refine (yW (xs:=UQ v.m) (h:=dN) (h':=dP) (λa=>(UQ w.m).map λb=>(a,b)) (λ_ _=>true) (λ_ q=>.tup [dP q,aP (bL ps q)]) (jH (cu (two rfl rfl (fN _ _))) (by omega)) (by simp;omega) λa ha=>⟨by simp;omega,λz=>?_,λq hq=>⟨rfl,λ_=>vU rfl rfl (c2 rfl rfl (BC ps q hl)) rfl rfl⟩⟩).trans ?_
  ·show (gN _ _ _ >>= _)=_
   rw [c4 rfl rfl rfl rfl (L7 (v:=v) (w:=w) (by omega) (by omega) 0 a)]
   rfl
  ·have e:((UQ v.m).flatMap λa=>(((UQ w.m).map λb=>(a,b)).filter λ_=>true).map λq=>D.tup [dP q,aP (bL ps q)])=(dQ v.m w.m).map λq=>D.tup [dP q,aP (bL ps q)]:=by
    unfold dQ
    rw [YG]
    congr 1
    funext a
    rw [YJ.mpr λ_ _=>rfl]
   rw [e]
   show M.ok (R.d (.dct (jl _).1 (jl _).2))=_
   rw [wc K55.xB _ _ _ rfl (pC v.m w.m)]
 refine bM (bB hg rfl (bz (oO (xs:=picks v w) (λk=>dN k.1) (λk=>dN k.2) (λk=>jI (((kL v w k).map (bL ps)).filter λx=>decide (x∈ks))) ?_ (by unfold picks;simp;omega) λk hk=>?_) rfl (by rw [Vr];rfl)))
 ·show (gN _ _ _ >>= _)=_
  rw [c2 rfl rfl (JW (v:=v) (w:=w) (by omega) (by omega))]
  rfl
 ·have hin:∀q∈kL v w k,q∈dQ v.m w.m:=λq hq=>by
   rw [lN]
   have hk:(k.1=0/\k.2 < v.m)\/(k.1≠0/\k.2 < w.m):=by
    unfold picks at hk
    simp only [Vj,UY,U1] at hk
    rcases hk with ⟨a,h,rfl⟩ | ⟨a,h,rfl⟩
    ·exact .inl ⟨rfl,h⟩
    ·exact .inr ⟨Nat.one_ne_zero,h⟩
   unfold kL at hq
   rcases hk with ⟨h1,h2⟩ | ⟨h1,h2⟩
   ·rw [if_pos h1] at hq
    obtain ⟨b,hb,rfl⟩:=UY.mp hq
    exact ⟨h2,U1.mp hb⟩
   ·rw [if_neg h1] at hq
    obtain ⟨b,hb,rfl⟩:=UY.mp hq
    exact ⟨U1.mp hb,h2⟩
  refine ⟨.l .fresh (((((kL v w k).map (bL ps)).filter λx=>decide (x∈ks))).map aP),?_,rfl⟩
  rw [abf,Vr]
  refine rK (xs:=kL v w k) (h:=dP) (λq=>decide (bL ps q∈ks)) (λq=>aP (bL ps q)) ?_ (by unfold kL;split <;> simp <;> omega) λq hq=>?_
  ·show (gN _ _ _ >>= _)=_
   rw [c4 rfl rfl rfl rfl (L7 (v:=v) (w:=w) (by omega) (by omega) k.1 k.2)]
   rfl
  ·have hd:=k8 (e:=dP) (f:=λq=>aP (bL ps q)) K55.xB (x:=.d (.dct ((dQ v.m w.m).map dP) ((dQ v.m w.m).map λq=>aP (bL ps q)))) rfl (k:=q) rfl (hin q hq)
   exact ⟨bH (two rfl rfl hd) rfl (Cd (ks:=ks) (f:=λ_=>.bl true) gY (x:=.mb (ks.map aP) (ks.map λ_=>.bl true)) rfl (gf (bL ps q))),λ_=>⟨_,two rfl rfl hd,rfl⟩⟩
end
noncomputable def dV:Option Nat->D
 | none=>.non
 | some e=>.int e
theorem DK (o:Option Nat):gZ false (.d (dV o)) (.d .non)=.ok (.d (.bl o.isNone)):=by cases o <;> rfl
theorem JX (rs:List (List Ps)) (ks:List Ps) (f:Ps->Option Nat) (h:∀r∈rs,∀x∈r,x∈ks) (h1:rs.length<=1000) (h2:∀r∈rs,r.length<=1000):dG [.d (.lst (rs.map jI)),.db (ks.map aP) (ks.map λk=>dV (f k))]=.ok (.d (.bl (rs.all λr=>r.any λx=>(f x).isNone))):=by
 refine bM (bz (n1 (jB (xs:=rs) (h:=jI) (λr=>.bl (r.any λx=>(f x).isNone)) rfl (by omega) λr hr=>⟨_,n1 (jB (xs:=r) (h:=aP) (λx=>.bl (f x).isNone) rfl (by have:=h2 r hr;omega) λx hx=>⟨_,two (two rfl rfl (k8 (f:=λk=>dV (f k)) gY rfl (gf x) (h r hr x hx))) rfl (DK (f x)),rfl⟩) (anyM _ r),rfl⟩) (allM _ rs)) rfl rfl)
theorem part {κ:Type}{p q:κ->Bool}(h:∀k,q k=true->p k=true):∀l:List κ,(l.filter p).length=(l.filter q).length + (l.filter λk=>p k && !q k).length
 | []=>rfl
 | a::l=>by
  have ih:=part h l
  cases hq:q a with
  | true=>simp [h a hq,hq];omega
  | false=>cases hp:p a <;> simp [hp,hq] <;> omega
abbrev AV (UI:Ps->List (List Ps)) (k:Ps):D:=.lst ((UI k).map jI)
abbrev eP (x:Str) (ks:List Ps) (val:Ps->D) (f:Ps->Option Nat) (d:Nat) (g z:Option S):Ev:=[some (.db (ks.map aP) (ks.map val)),some (.fn x),some (.dk (ks.map aP) (ks.map λk=>dV (f k))),some (.d (.int d)),g,z]
noncomputable def Ju (c1 c2:G R):G O:=(aH (bg 2 (jm 1 [] (o6 (af 0)) (aC 0) cM (af 0) (gC .non)))
 (aH (bg 3 (gC (.int 1)))
 (aH (bg 4 (bV 1 [1,0,2] (o6 (af 0)) (aC 0) (gy (bx c1)) (af 0)))
 (aH (ve 400000 (wB (af 4)) (aH (fS 4 (cg (fE (af 4)) (aC 5) (wA 2 (af 5) (af 3))))
 (aH (ug 3 we (gC (.int 1)))
 (bg 4 (bV 1 [2,1,0] (o6 (af 0)) (aC 0) (iP (bx (g2 (gZ false) (g2 fD (af 1) (af 0)) (gC .non))) (gy (bx c2))) (af 0))))))
 (bf (af 2))))))
section
variable {ks:List Ps}{UI:Ps->List (List Ps)}{st:(Ps->Bool)->Ps->Bool}{val:Ps->D}{c1 c2:G R}{x:Str}
theorem Ep (ok:Nat->Prop) (o0:ok 0) (os:∀d,ok d->∀k∈ks,LZ st d k=true->LZ st (d + 1) k=false->ok (d + 1)) (nd:ks.Nodup) (hl:ks.length<=390000)
  (h1:∀k∈ks,∀d,ok d->c1 [some (.d (aP k)),some (.fn x),some (.db (ks.map aP) (ks.map val)),some (.dk (ks.map aP) (ks.map λk=>dV (dZ st d k)))]=.ok (.d (.bl (st (LZ st d) k))))
  (h2:∀k∈ks,∀d,ok d->c2 [some (.d (aP k)),some (.dk (ks.map aP) (ks.map λk=>dV (dZ st d k))),some (.fn x),some (.db (ks.map aP) (ks.map val))]=.ok (.d (.bl (st (LZ st d) k)))):
  ∃d,ok d/\fin (Ju c1 c2 (aV nJ [.db (ks.map aP) (ks.map val),.fn x]))=.ok (.mf (ks.map aP) (ks.map λk=>dV (dZ st d k)))/\∀k∈ks,LZ st d k=true->LZ st (d + 1) k=true:=by
 have key:Wp (Ju c1 c2 (aV nJ [.db (ks.map aP) (ks.map val),.fn x])) λo=>∃r,o=.rt r/\∃d,ok d/\r=.mf (ks.map aP) (ks.map λk=>dV (dZ st d k))/\∀k∈ks,LZ st d k=true->LZ st (d + 1) k=true:=by
  refine bB (uV (e:=aP) (f:=λk=>dV (dZ st 0 k)) (ks:=ks) gY nd rfl (by omega) λk hk=>⟨gf k,rfl,_,rfl,by rw [jk.mpr rfl];rfl⟩) rfl (bB rfl rfl (bB (rK (xs:=ks) (h:=aP) (λk=>LZ st 0 k && !LZ st 1 k) aP rfl (by omega) λk hk=>⟨?_,λ_=>⟨_,rfl,rfl⟩⟩) rfl ?_))
  ·exact fY (b:=LZ st 1 k) (iT (h1 k hk 0 o0))
  ·refine LF (λn env=>∃d z,ok d/\env=eP x ks val (dZ st d) (d + 1) (some (.own ((ks.filter λk=>LZ st d k && !LZ st (d + 1) k).map aP))) z/\n=(ks.filter (LZ st d)).length) (ks.filter (LZ st 0)).length (by have:=V0 (LZ st 0) ks;omega) ⟨0,none,o0,rfl,rfl⟩ ?_
   rintro n _ ⟨d,z,od,rfl,rfl⟩
   obtain ⟨g,hg⟩:∃g,g=ks.filter λk=>LZ st d k && !LZ st (d + 1) k:=⟨_,rfl⟩
   rw [<-hg]
   have hm:∀k,k∈g↔k∈ks/\LZ st d k=true/\LZ st (d + 1) k=false:=λk=>by rw [hg,VI];simp
   by_cases h0:g=[]
   ·refine .inl ⟨by rw [h0];rfl,bz rfl rfl ⟨_,rfl,d,od,rfl,λk hk q=>?_⟩⟩
    cases z:LZ st (d + 1) k with
    | true=>rfl
    | false=>have:=(hm k).mpr ⟨hk,q,z⟩;rw [h0] at this;cases this
   ·have od1:ok (d + 1):=by
     obtain ⟨y,hy⟩:=List.exists_mem_of_ne_nil g h0
     obtain ⟨a,b,c⟩:=(hm y).mp hy
     exact os d od y a b c
    refine .inr ⟨?_,?_⟩
    ·show M.ok (!(g.map aP).isEmpty)=_
     cases g with
     | nil=>exact absurd rfl h0
     | cons _ _=>rfl
    have Uj:=part (p:=LZ st d) (q:=LZ st (d + 1)) (λk h=>rE (YI d) h) ks
    rw [<-hg] at Uj
    have g0:0 < g.length:=List.length_pos_iff.mpr h0
    refine b8 (sf rfl (mW (ds:=g.map aP) rfl (kB (λi env=>∃z,env=eP x ks val (λk=>if k∈g.take i then some (d + 1) else dZ st d k) (d + 1) (some (.d (.lst (g.map aP)))) z) (g.map aP) ⟨z,by simp⟩ ?_ ?_)))
    ·rintro i hi _ ⟨z,rfl⟩
     have hi':i < g.length:=by simpa using hi
     have e:(g.map aP)[i]=aP g[i]:=V5 ..
     have hk:g[i]∈ks:=((hm _).mp (Vt hi')).1
     rw [e]
     have ev:dput (ks.map aP,ks.map λk=>dV (if k∈g.take i then some (d + 1) else dZ st d k)) (aP g[i]) (.int ((d + 1:Nat):Int))=(ks.map aP,ks.map λk=>dV (if k∈g.take (i + 1) then some (d + 1) else dZ st d k)):=by
      rw [G7 gY hk,YD,U5 hi']
      congr 1
      refine Wx λk _=>?_
      simp only [Vj,Option.toList_some,U4]
      by_cases c:k=g[i]
      ·rw [if_pos c,if_pos (.inr c)];rfl
      ·simp only [c,if_false,or_false]
     exact ⟨_,rfl,OQ (ks:=ks.map aP) (vs:=ks.map λk=>dV (if k∈g.take i then some (d + 1) else dZ st d k)) rfl rfl rfl rfl rfl (gf g[i]) (by rw [UR];omega) ⟨_,rfl,some (.d (aP g[i])),by rw [ev];rfl⟩⟩
    ·rintro _ ⟨z,rfl⟩
     have ev:(ks.map λk=>dV (if k∈g.take (g.map aP).length then some (d + 1) else dZ st d k))=ks.map λk=>dV (dZ st (d + 1) k):=Wx λk hk=>by
      rw [UR,Xn,Kr]
      congr 1
      by_cases c:k∈g
      ·rw [if_pos c,if_pos (by obtain ⟨_,a,b⟩:=(hm k).mp c;rw [a,b];rfl)]
      ·rw [if_neg c,if_neg λz=>c ((hm k).mpr ⟨hk,by simpa using z⟩)]
     show Wp _ _
     unfold eP
     rw [ev]
     refine b8 (OP rfl rfl rfl rfl (fX (rK (xs:=ks) (h:=aP) (λk=>LZ st (d + 1) k && !LZ st (d + 1 + 1) k) aP rfl (by omega) λk hk=>⟨?_,λ_=>⟨_,rfl,rfl⟩⟩) rfl ⟨(ks.filter (LZ st (d + 1))).length,by omega,d + 1,z,od1,rfl,rfl⟩))
     have q1:=k8 (f:=λk=>dV (dZ st (d + 1) k)) (ks:=ks) (k:=k) (e:=aP) gY (x:=.mo (ks.map aP) (ks.map λk=>dV (dZ st (d + 1) k))) rfl (gf k) hk
     cases c:LZ st (d + 1) k with
     | false=>
      refine f6 (bH (two rfl rfl q1) rfl ((DK _).trans ?_))
      cases z:dZ st (d + 1) k with
      | none=>rw [jk.mp z] at c;cases c
      | some _=>rfl
     | true=>
      rw [jk.mpr c] at q1
      refine d_ (bH (two rfl rfl q1) rfl (DK none)) (fY (b:=LZ st (d + 1 + 1) k) (iT ((h2 k hk (d + 1) od1).trans ?_)))
      show M.ok (R.d (.bl _))=M.ok (R.d (.bl (LZ st (d + 1) k && _)))
      rw [c];rfl
 obtain ⟨r,h,d,od,rfl,hs⟩:=nk key
 exact ⟨d,od,h,hs⟩
end
section
variable {v w:Wd}{B:Ps}
theorem yV (t:Pr v w):(T4 v w).length<=327680:=pO t 4 (UX _)
theorem PV (t:Pr v w){ps:Ps}(h:ps∈T4 v w):ps.length<=4:=Vq (o9 ((jG t).mp h)) t.v4
theorem BG (t:Pr v w) (hB:B.length<=100):eZ [.d v.d,.d w.d,.d (aP B)]=.ok (.l .fresh ((kn v w B).map aP)):=by
 have tl:=yV t
 refine bM (bz (rK (xs:=T4 v w) (h:=aP) (λps=>B.all λq=>decide (q∈ps)) aP ?_ (by omega) λps _=>⟨?_,λ_=>⟨_,rfl,rfl⟩⟩) rfl rfl)
 ·show (gN _ _ _ >>= _)=_
  rw [c3 rfl rfl rfl (CU t 4 (UX _))]
  rfl
 ·refine iT (n1 (jB (xs:=B) (h:=dP) (λq=>.bl (decide (q∈ps))) rfl (by omega) λq _=>⟨_,two rfl rfl (MO q ps),by rw [K55.MN];rfl⟩) (allM _ B))
theorem IX (ks:List Ps) (f:Ps->Option Nat) (p:Ps) (j:Nat):jg [.db (ks.map aP) (ks.map λk=>dV (f k)),.d (aP p),.d (.int j)]=.ok (.d (.bl (decide (p∈ks) && mU (f p) j))):=by
 have hi:=Cd (ks:=ks) (f:=λk=>dV (f k)) gY (x:=.mb (ks.map aP) (ks.map λk=>dV (f k))) rfl (gf p) (q:=inferInstance)
 refine bM (bz (r:=.d (.bl (decide (p∈ks) && mU (f p) j))) ?_ rfl rfl)
 unfold rO
 rw [show g2 (oW false) (af 1) (af 0) (aV qo [.db (ks.map aP) (ks.map λk=>dV (f k)),.d (aP p),.d (.int j)])=_ from two rfl rfl hi,aS]
 by_cases h:p∈ks
 ·rw [decide_eq_true h]
  have hd:=k8 (ks:=ks) (f:=λk=>dV (f k)) gY (x:=.mb (ks.map aP) (ks.map λk=>dV (f k))) rfl (gf p) h
  show uh _ _ _=M.ok (R.d (.bl (mU (f p) j)))
  cases q:f p with
  | none=>rw [q] at hd;exact K7 (two (two rfl rfl hd) rfl rfl)
  | some e=>
   rw [q] at hd
   refine Nx (two (two rfl rfl hd) rfl rfl) (two (two rfl rfl hd) rfl ?_)
   show M.ok (R.d (.bl (decide ((j:Int) < (e:Int)))))=M.ok (R.d (.bl (decide (j < e))))
   rw [show decide ((j:Int) < (e:Int))=decide (j < e) by rw [Vy];simp]
 ·rw [decide_eq_false h];rfl
theorem OB (ks:List Ps) (f:Ps->Option Nat) (n:Nat) (hn:n<=100) (hl:ks.length<=1000000):kM [.db (ks.map aP) (ks.map λk=>dV (f k)),.d (.int n)]=.ok (.l .fresh ((UQ (n + 1)).map λj=>jI (ks.filter λk=>mU (f k) j))):=by
 refine bM (bz (jB (xs:=UQ (n + 1)) (h:=dN) (λj=>jI (ks.filter λk=>mU (f k) j)) (jH (n:=n + 1) (cu (two rfl rfl rfl)) (by omega)) (by simp;omega) λj _=>⟨_,rK (xs:=ks) (h:=aP) (λk=>mU (f k) j) aP rfl hl λk hk=>⟨eK ((c3 rfl rfl rfl (IX ks f k j)).trans ?_),λ_=>⟨_,rfl,rfl⟩⟩,rfl⟩) rfl rfl)
 rw [decide_eq_true hk,Y_]
theorem P7 (d m:Nat) (hd:d<=m):K55.fR [.d (.int d),.d (.int 0),.d (.int m)]=.ok (.d .non):=by
 refine rB (wH ?_ (fU ⟨_,rfl⟩))
 show (if decide ((d:Int) < 0)=true then M.ok true else M.ok (decide ((m:Int) < d)))=M.ok false
 rw [decide_eq_false (show ¬(d:Int) < 0 by omega),decide_eq_false (show ¬(m:Int) < d by omega)]
 rfl
theorem M_:kn v w []=T4 v w:=YJ.mpr λ_ _=>rfl
end
end K33
namespace K33
open PySem DL K01 WP K51 K52 K55 K23
section
variable {v w:Wd}{ps qs:Ps}{n j:Nat}
def sd (s:Nat) (p:Nat×Nat):Nat:=if s=0 then p.1 else p.2
theorem Pe {k p:Nat×Nat}(h:p∈kL v w k):sd k.1 p=k.2:=by
 unfold kL at h
 unfold sd
 split at h <;> rename_i c <;> obtain ⟨b,_,rfl⟩:=UY.mp h
 ·rw [if_pos c]
 ·rw [if_neg c]
theorem chain (t:Pr v w) (s:Nat):∀(xs:List Nat) (n:Nat) (ps:Ps),(∀x∈xs,(s,x)∈picks v w)->Good v w ps->xs.length<=n->La v w n ps=true->∃qs,Good v w qs/\(∀p∈ps,p∈qs)/\∀x∈xs,∃p∈qs,sd s p=x
 | [],_,ps,_,g,_,_=>⟨ps,g,λ_ h=>h,λ_ h=>nomatch h⟩
 | x::xs,0,_,_,_,h,_=>nomatch h
 | x::xs,n + 1,ps,hx,g,hl,h=>by
  obtain ⟨p,h1,h2,h3⟩:=(GS.mp h).2 _ (hx x UW)
  obtain ⟨qs,a,b,c⟩:=chain t s xs n (bL ps p) (λy hy=>hx y (UU _ hy)) ((jG t).mp h2) (by simpa using hl) h3
  refine ⟨qs,a,λq hq=>b q (gT.mpr (.inl hq)),λy hy=>?_⟩
  rcases U8.mp hy with rfl | hy
  ·exact ⟨p,b p (gT.mpr (.inr rfl)),Pe h1⟩
  ·exact c y hy
theorem cover {l:List Nat}(nd:l.Nodup) (h:∀x∈l,x < m) (hm:m<=l.length):∀b,b < m->b∈l:=λb hb=>Wo λz=>by
 have:=Vx (l₁:=b::l) (l₂:=UQ m) (WD.mpr ⟨z,nd⟩) λx hx=>by
  rcases U8.mp hx with rfl | hx
  ·exact U1.mpr hb
  ·exact U1.mpr (h x hx)
 simp at this
 omega
theorem many (h:∀x,x < m->∃p∈qs,sd s p=x):m<=qs.length:=by
 have:=Vx (l₁:=UQ m) (l₂:=qs.map (sd s)) WJ λx hx=>by
  obtain ⟨p,hp,e⟩:=h x (U1.mp hx)
  exact UY.mpr ⟨p,hp,e⟩
 simpa using this
structure zw (v w:Wd) (qs:Ps):Prop where
 g:Good v w qs
 a:∀x,x < v.m->∃p∈qs,p.1=x
 b:∀x,x < w.m->∃p∈qs,p.2=x
theorem MT (t:Pr v w) (g:Good v w ps) (hv:v.m<=n) (hw:w.m<=n) (h:La v w n ps=true):∃qs,zw v w qs/\∀p∈ps,p∈qs:=by
 by_cases c:w.m<=v.m
 ·obtain ⟨qs,a,b,d⟩:=chain t 0 (UQ v.m) n ps (λx hx=>Xz _ (UY.mpr ⟨x,hx,rfl⟩)) g (by simpa using hv) h
  have d':∀x,x < v.m->∃p∈qs,p.1=x:=λx hx=>d x (U1.mpr hx)
  have hl:=many (s:=0) d'
  have nd:(qs.map abn).Nodup:=VO.mpr (a.up.imp_of_mem fun {p q} hp hq hlt e=>by have:=(a.ag p hp q hq).eq;omega)
  refine ⟨qs,⟨a,d',λx hx=>?_⟩,b⟩
  obtain ⟨p,hp,e⟩:=UY.mp (cover nd (λy hy=>by obtain ⟨p,hp,rfl⟩:=UY.mp hy;exact (a.rg p hp).2) (by rw [UR];omega) x hx)
  exact ⟨p,hp,e⟩
 ·obtain ⟨qs,a,b,d⟩:=chain t 1 (UQ w.m) n ps (λx hx=>VH _ (UY.mpr ⟨x,hx,rfl⟩)) g (by simpa using hw) h
  have hl:=many (s:=1) λx hx=>d x (U1.mpr hx)
  have:=o9 a
  omega
theorem zy (t:Pr v w) (i:zw v w qs):∀(j:Nat) (ps:Ps),(∀p∈ps,p∈qs)->La v w j ps=true
 | 0,_,_=>rfl
 | j + 1,ps,h=>by
  have add:∀p∈qs,bL ps p∈T4 v w/\La v w j (bL ps p)=true:=λp hp=>
   ⟨(Jh t).mpr (zu.sub ⟨i.g.ag,i.g.rg⟩ λq hq=>by rcases Vj.mp hq with hq | hq;exact h q hq;rw [U4.mp hq];exact hp),zy t i j _ λq hq=>by rcases gT.mp hq with hq | rfl;exact h q hq;exact hp⟩
  refine GS.mpr ⟨zy t i j ps h,λk hk=>?_⟩
  rcases Vj.mp hk with hk | hk <;> obtain ⟨x,hx,rfl⟩:=UY.mp hk
  ·obtain ⟨p,hp,rfl⟩:=i.a x (U1.mp hx)
   exact ⟨p,UY.mpr ⟨p.2,U1.mpr (i.g.rg p hp).2,rfl⟩,add p hp⟩
  ·obtain ⟨p,hp,rfl⟩:=i.b x (U1.mp hx)
   exact ⟨p,UY.mpr ⟨p.1,U1.mpr (i.g.rg p hp).1,rfl⟩,add p hp⟩
theorem Mb (t:Pr v w) (g:Good v w ps) (hv:v.m<=n) (hw:w.m<=n) (h:La v w n ps=true) (j:Nat):La v w j ps=true:=by
 obtain ⟨qs,i,hs⟩:=MT t g hv hw h
 exact zy t i j ps hs
end
end K33
namespace K33
open PySem DL K01 WP K51 K52 K55 K23 K22
theorem iF (i:Int) (m:Nat) (h:0 < m):∃k:Nat,i % (m:Int)=k/\k < m:=by
 obtain ⟨k,hk⟩:=Nk (Za i (b:=m) (by omega))
 have:=Y6 i (b:=m) (by omega)
 exact ⟨k,hk,by omega⟩
end K33
namespace DL
open PySem PySem.Spec PyProof.Rows L2
section
variable {X:Cx}{c:C}{o a b:Vv}{go ga gb:G R}{apos cpos:Pos}
noncomputable def Ao (go ga gb:G R):G R:=λenv=>go env >>= λr=>match sS r with
 | some z=>ga env >>= λk=>gb env >>= λe=>(match k,e with
  | .d k,.d e=>if dO k=true then .ok (.d ((gK z.1 z.2 k).getD e)) else .bad
  | _,_=>.bad)
 | none=>.bad
theorem Cy (hu:X.A.units + 64 < Wj) (ho:QD X c o go) (ha:QD X c a ga) (hb:QD X c b gb) (hK:X.K=c.K:=by rfl) (hbase:Ym o "get" X.env (eval o X.env)=eval o X.env:=by rfl) (hline:(apos.endLine == cpos.line)=true:=by rfl)
  (htr:Wu cpos (UZ [a,b] X.env)=[(false,eval a X.env),(false,eval b X.env)]:=by rfl):QD X c (.Call (.Attribute o "get" apos) [a,b] [] cpos) (Ao go ga gb):=by
 refine ⟨λUB s σ H Q I ⟨J,env,sr,w⟩=>?_⟩
 refine wpAny_Call_method2_late hbase hline htr (bP (ho.h UB s σ H (λx H1=>∃J1 r,Ext J H J1 H1/\RR c H J1 H1 r x/\cD _ _ _) I ⟨J,env,sr,aF (aK w) λr wr v J1 H1 e1 r1=>⟨J1,r,e1,r1,wr⟩⟩) λov s1 ⟨x,H1,I1,rx,J1,r,e1,r1,wr⟩=>?_)
 split at wr
 ·rename_i z hz
  obtain ⟨p,rfl,hd⟩:=r1.dk (sr.hp.ext e1) hz
  cases rx
  obtain ⟨us,ws,ep,h1,_,_,_,hsm,_⟩:=id hd
  obtain ⟨ob,es,g1,g2,_⟩:=(fG I1).d _ _ _ h1
  refine ⟨"dict","dict.get",PySem.F.plainAttrs_dict,PySem.F.slot_dict_get,PySem.F.type_dict_get,⟨ob,g1,g2.1⟩,λq e=>⟨ob,by cases e;exact g1,g2.2.1⟩,?_⟩
  refine wpAny_dict_get2_heap (knd:=nD X.prog X.w) (by show X.A.units + 1 + 16 < Wj;omega) hsm (bP (ha.h UB s1 σ H1 (λx H2=>∃J2 r,Ext J1 H1 J2 H2/\RR c H1 J2 H2 r x/\cD _ _ _) I1 ⟨J1,env,sr.ext e1,aF (aK wr) λr wr v J2 H2 e2 r2=>⟨J2,r,e2,r2,wr⟩⟩) λkv s2 ⟨y,H2,I2,ry,J2,r',e2,r2,wr⟩=>?_)
  refine bP (hb.h UB s2 σ H2 (λx H3=>∃J3 r,Ext J2 H2 J3 H3/\RR c H2 J3 H3 r x/\cD _ _ _) I2 ⟨J2,env,(sr.ext e1).ext e2,aF (aK wr) λr wr v J3 H3 e3 r3=>⟨J3,r,e3,r3,wr⟩⟩) λdv s3 ⟨y',H3,I3,ry',J3,r'',e3,r3,wr⟩=>?_
  have e4:=e1.trans (e2.trans e3)
  split at wr
  ·rename_i k e _ _
   split at wr
   ·rename_i ok
    have F:HF X.K J3 s3:=HF.of (c:=⟨X.K,H3,H3,λ_=>True⟩) I3 e3.sub
    have T6:d7 X.K J3 H3 p z.1 z.2:=hK▸hd.mono (e2.j.trans e3.j) (e2.h.trans e3.h)
    have hk:Rep X.K J3 k y:=hK▸Rep.mono e3.j r2
    obtain ⟨kx,rfl,k1,k2⟩:=iG ok
    obtain ⟨q,rfl⟩:∃q,y=.ref q:=by cases hk;exact ⟨_,rfl⟩
    cases ry
    obtain ⟨xs,us,ws,hm,m2,_,hv,m4,_,_⟩:=oS (P:=X.prog) (w:=X.w) F (fG I3) T6
    obtain ⟨l1,l2⟩:=uO (K:=X.K) (J:=J3) ⟨.tup kx,k1,k2⟩ m2 hv m4
    refine ⟨q,⟨.tup kx,k1,k2⟩,xs,rfl,jY F k1 hk,hm,?_⟩
    cases q2:gK z.1 z.2 (.tup kx) with
    | none=>rw [l2 q2];exact ⟨y',H3,I3.tok _,ry',wr y' J3 H3 e4 (by rw [q2];exact r3)⟩
    | some d=>
     obtain ⟨pp,v,ea,rv,rd⟩:=l1 d q2
     rw [ea]
     exact ⟨v,H3,I3.tok _,rv,wr v J3 H3 e4 (by rw [q2];show Rep c.K J3 d v;rw [<-hK];exact rd)⟩
   ·exact wr.elim
  ·exact wr.elim
 ·exact wr.elim
end
def FA (K:UM) (x:Str) (st:Xd):Prop:=∃f fd,Vw K Vi x=some (some (.ref f))/\l_ K x x st f fd
theorem OL {K:UM}{st:Xd}(a:Vw K Vi x=some (some (.ref f)))
 (l:K.lookup f=some ⟨u,o,.func (VE x x (cG st) (bS st) (aX st) .none v d p n q r),s⟩) (c:Xb K q x=true) (k:VZ K (.ref f)=true):FA K x st:=⟨f,_,a,Ff l c k⟩
def FB (K:UM) (mg:Str->Option UN) (x:Str) (st:Xd):Prop:=∃f fd,mg x=some (.ref f)/\l_ K x x st f fd
theorem bQ {K:UM}{h:V1}{mg:Str->Option UN}(X:K.In h) (G:h.Ns Vi mg){x:Str}{st:Xd}(e:FA K x st):FB K mg x st:=let ⟨f,fd,a,F⟩:=e;⟨f,fd,WS X G a,F⟩
theorem qc {P:U6}{w:Vs}{K:UM}{mg:Str->Option UN}{base:V1}{x:Str}{st:Xd}{k:Nat}{Fm:List S->M R}(gB:G O) (N:List Str) (n:Nat) (e:FB K mg x st)
  (hb:N.Nodup->∀(f:Vd) (cdv:UN) (A:Vz) (outer:List Env) (s:UP) (H:Hp) (E:XK) (J:Hp) (T:Exc->Prop),c8 k (A.deeper (Z4 x (aX st) s.heap.objs.size f cdv))->
   nK (E7 P w K mg base N x (aX st) f cdv A outer s H E) ⟨K,H,J,T⟩ (bS st) gB)
  (Sc:eY N (N.take n) (aX st):=by exact ⟨rfl,rfl,rfl,by decide +kernel,rfl,by decide +kernel,by decide +kernel⟩)
  (hbi:∀(kV doc pm:UN) (an:Option Vd) (cdv ct:UN) (us:List UN),us.length=(N.take n).length->aau (VE x x (cG st) (bS st) (aX st) .none kV doc pm an cdv ct) ⟨us,[]⟩=pure ((N.take n).zip us):=by
   intro _ _ _ _ _ _ us hl;rcases us with _ | ⟨_,_ | ⟨_,_ | ⟨_,_ | ⟨_,_ | ⟨_,_ | ⟨_,_ | ⟨_,_⟩⟩⟩⟩⟩⟩⟩ <;> first | exact rfl | (cases hl;done) | exact nomatch hl)
  (hF:∀as r,as.length=(N.take n).length->Fm as=.ok r->fin (gB (aV N as))=.ok r:=by intro _ _ _ h;exact h):bh P w K mg base (k + 1) (N.take n).length x Fm:=
 let ⟨f,_,hm,F⟩:=e;Cu F hm Sc hbi (hb Sc.nd f) hF
end DL
namespace K32
open PySem DL
def zD:List Str:=["_law_found","_law_due_here"]
noncomputable def Ar:G O:=(aH (bK (bx (g2 (gZ false) (af 1) (gC .non))) (bf (g2 (gZ false) (af 0) (gC .non))) cL)
 (bf (rO (Fg "int" (af 0)) (rO (DH (Fg "bool" (af 0))) (g2 (cj false) (af 0) (af 1))))))
def i8 (as:List S):M R:=fin (Ar (aV zD as))
end K32
namespace K32
open PySem DL K01 WP K51 K52 K55 K23 K22 K33
theorem HP {x y:R}{b:Bool}(h:fB false x y=.ok (.d (.bl b))):fB true x y=.ok (.d (.bl (!b))):=by
 unfold fB at h ⊢
 cases q:iK y with
 | bad=>rw [q] at h;cases h
 | exc z=>rw [q] at h;cases h
 | ok ys=>
  rw [q,aS] at h
  rw [aS]
  split at h
  ·rename_i c
   rw [if_pos c]
   have:inD x.dat ys=b:=by simpa using h
   rw [this];rfl
  ·cases h
section
variable {v w:Wd}
theorem CT (o:Option Nat):i8 [.d (dV o),.d (dV o)]=.ok (.d (.bl true)):=by
 cases o with
 | none=>rfl
 | some e=>exact bM (ff rfl (bz (r:=.d (.bl true)) (by
   show cj false (.d (.int (e:Int))) (.d (.int (e:Int)))=_
   rw [K01.eq_int];simp) rfl rfl))
end
theorem LM (ps:Ps):(jO ps).length<=ps.length:=by
 have:=(yl (jK pF) (vM ps)).1
 rw [<-q_] at this
 simpa using this
end K32
namespace K23
open PySem DL K01 WP K51 K52 K55
def Qk (m:Nat) (o:List Nat):List (List Nat):=((UQ m).filter λp=>!inD (dN p) (o.map dN)).map λp=>o++[p]
noncomputable def OR (m:Nat):Nat->List (List Nat)
 | 0=>[[]]
 | k + 1=>(OR m k).flatMap (Qk m)
noncomputable def fs (k:Nat) (L:List D):S:=match k with
 | 0=>.own L
 | _ + 1=>.d (.lst L)
theorem ne_int (a b:Nat):cj true (.d (.int a)) (.d (.int b))=.ok (.d (.bl (!(a == b)))):=by
 show M.ok (R.d (.bl (!((a:Int) == (b:Int)))))=_
 rw [show ((a:Int) == (b:Int))=(a == b) by rw [Vy,beq_iff_eq,beq_iff_eq];omega]
theorem rV {σ:List Nat}(nd:σ.Nodup) (l:σ.length=m) (rg:∀p∈σ,p < m):σ.Perm (UQ m):=
 (Z0 nd WJ).mpr λy=>⟨λh=>U1.mpr (rg y h),λhy=>Wo λhn=>by
  have:=Vx (WD.mpr ⟨hn,nd⟩) (l₂:=UQ m) λz hz=>by
   rcases U8.mp hz with rfl | hz
   ·exact hy
   ·exact U1.mpr (rg z hz)
  rw [VU,WO] at this
  omega⟩
end K23
namespace K22
open PySem DL K01 WP K51 K52 K55 K23
end K22
namespace K35
open PySem DL
end K35
namespace K35
open PySem DL K01 WP K51 K52 K55 K22 K33 K32
open K23 (Pr iU jf told oB iY aP OR o8 pg rV eK bH iT fY Good pP g9 f6 d_ g8 dc)
section
variable {v w:Wd}{B C:Ps}{n j:Nat}
theorem Nz {env:Ev}{a b:G Bool}(h:a env=.ok true):ki a b env=.ok true:=by
 unfold ki
 rw [h];rfl
end
end K35
namespace DL
open PySem PySem.Spec PyProof.Rows L2
end DL
namespace K81
open PySem DL
end K81
namespace K81
open PySem DL K01 WP K51 K52 K55 K23 K33
end K81
namespace K81
open PySem DL K01 WP K51 K52 K55 K23 K22 K33
theorem Qq {gs:G (List R)}{env:Ev}{n:Nat}(hg:gs env=.ok [.d (.int (n:Int))]) (h:n<=1000):y_ gs env=.ok (.l .fresh ((UQ n).map dN)):=by
 unfold y_
 rw [hg,aS]
 simp only
 rw [if_pos (dh.mpr ⟨by omega,by omega⟩),V7,N8]
end K81
namespace DL
open PySem PySem.Spec PyProof.Rows L2
section
variable {X:Cx}{c:C}{o a e:Vv}{es:List Vv}{go ga:G R}{apos cpos pos:Pos}
theorem EM:cO X (.builtin "abs") (λxs H Q=>∃i:Int,xs=[.int i]/\Q (.int (if i < 0 then -i else i)) H):=by
 intro UB s σ H xs us Q I r h
 obtain ⟨i,rfl,q⟩:=h
 obtain ⟨u,rfl,t,rfl⟩:=vals1 r
 exact call_abs_int λu tk=>⟨.int _,H,I.tok _,⟨_,rfl⟩,q⟩
noncomputable def Dy:List R->M R
 | [.d (.int i)]=>.ok (.d (.int (if i < 0 then -i else i)))
 | _=>.bad
theorem Lv {p:Pos}{gs:G (List R)}(ha:iX X c (e::es) gs) (hm:X.mg "abs"=none) (hg:Gl X "abs":=by rfl)
  (he:UZ (e::es) X.env=(false,eval e X.env)::UZ es X.env:=by rfl) (hpl:(Wu pos (UZ es X.env)).any (·.1)=false:=by rfl):QD X c (.Call (.Name "abs" p) (e::es) [] pos) (gN Dy gs):=
 ⟨jc EM (by
  intro He J H xs vs Q hp rs w
  unfold Dy at w
  split at w
  ·obtain ⟨v,rfl,r⟩:=rs.one
   cases r
   exact ⟨_,rfl,w _ J H (Ext.refl hp.sub) (.int _)⟩
  ·exact w.elim) (by decide +kernel) hm ha.h hg (by decide) (by decide) he hpl⟩
def Oz (_ j:Int):Prop:=0 < j/\j < 2 ^ 200
theorem HW:dD X (X_ .FloorDiv) (rI Oz λi j=>.int (i / j)):=FT λi j _ _ _ _ _ hc q=>by
 have h1:(0:Int) < j:=hc.1
 have h2:j.natAbs < 2 ^ 200:=by have:=hc.2;omega
 exact floordiv_int (by omega) (by rw [ZY i (by omega)];exact q) (.inl (PyProof.noPylong_of_log2 (XS ((Nat.log2_lt (by omega)).mpr h2) (by decide))))
def DO (_ j:Int):Bool:=decide (0 < j) && below 1606938044258990275541962092341162602522202993782792835301376 j
abbrev mG:R->R->M R:=fI DO λi j=>.int (i / j)
theorem jX (ha:QD X c a ga) (hb:QD X c o go):QD X c (.BinOp a .FloorDiv o pos) (g2 mG ga go):=⟨mZ HW (zO (λi j h=>by
 unfold DO at h
 rw [UT] at h
 exact ⟨of_decide_eq_true h.1,(dh.mp h.2).2⟩) λ_ _ _=>.int _) ha.h hb.h⟩
theorem Od:sO X (λx lo hi H Q=>∃z:Str,x=.str z/\z.length<=sizeLine/\Q (.str (WY z lo hi)) H):=by
 intro UB s σ H x v vl vu lo hi sl Q I rx hs pl pu h
 obtain ⟨z,rfl,hz,q⟩:=h
 obtain ⟨t,rfl⟩:=rx
 have fin:∀t' k,EP X UB σ Q (.str (WY z lo hi) t') {s with toks:=k}:=λt' k=>⟨.str _,H,I.tok _,⟨_,rfl⟩,q⟩
 cases pl <;> cases pu
 ·exact ⟨"str",_,XQ.lookup,Zg _ _ _,X5 (l:=none) (u:=none) (st:=none) hs rfl (ZW ⟨Vq (aaa z _ _) hz,fin⟩)⟩
 ·exact ⟨"str",_,XQ.lookup,Zg _ _ _,X5 (l:=none) (u:=some (_,_)) (st:=none) hs rfl (ZW ⟨Vq (aaa z _ _) hz,fin⟩)⟩
 ·exact ⟨"str",_,XQ.lookup,Zg _ _ _,X5 (l:=some (_,_)) (u:=none) (st:=none) hs rfl (ZW ⟨Vq (aaa z _ _) hz,fin⟩)⟩
 ·exact ⟨"str",_,XQ.lookup,Zg _ _ _,X5 (l:=some (_,_)) (u:=some (_,_)) (st:=none) hs rfl (ZW ⟨Vq (aaa z _ _) hz,fin⟩)⟩
noncomputable def oY:R->Option Int->Option Int->M R
 | .d (.str z),l,u=>if z.length<=sizeLine then .ok (.d (.str (WY z l u))) else .bad
 | _,_,_=>.bad
theorem oj {lo hi:Option Vv}{gl gh:GO}{p2:Pos}(h:QD X c o go) (hl:BN X c lo gl) (hh:BN X c hi gh):QD X c (.Subscript o (.Slice lo hi none p2) pos) (nR oY go gl gh):=⟨JF Od (by
 intro He J H x v l u Q hp rx w
 unfold oY at w
 split at w
 ·cases rx
  split at w
  ·rename_i hz;exact ⟨_,rfl,hz,w _ J H (Ext.refl hp.sub) (.str _)⟩
  ·exact w.elim
 ·exact w.elim) h.h hl.h hh.h⟩
noncomputable def DG (go ga:G R):G R:=λenv=>go env >>= λr=>match r with
 | .d (.str x)=>ga env >>= λk=>(match k with
  | .d (.str y)=>.ok (.d (.int (Txt.find x y)))
  | _=>.bad)
 | _=>.bad
theorem Im (ho:QD X c o go) (ha:QD X c a ga) (hbase:Ym o "find" X.env (eval o X.env)=eval o X.env:=by rfl) (hline:(apos.endLine == cpos.line)=true:=by rfl)
  (htr:Wu cpos (UZ [a] X.env)=[(false,eval a X.env)]:=by rfl):QD X c (.Call (.Attribute o "find" apos) [a] [] cpos) (DG go ga):=by
 refine ⟨λUB s σ H Q I ⟨J,env,sr,w⟩=>?_⟩
 refine wpAny_Call_method1_late hbase hline htr (bP (ho.h UB s σ H (λx H1=>∃J1 r,Ext J H J1 H1/\RR c H J1 H1 r x/\cD _ _ _) I ⟨J,env,sr,aF (aK w) λr wr v J1 H1 e1 r1=>⟨J1,r,e1,r1,wr⟩⟩) λov s1 ⟨x,H1,I1,rx,J1,r,e1,r1,wr⟩=>?_)
 split at wr
 ·rename_i x
  cases r1
  obtain ⟨t,rfl⟩:=rx
  refine ⟨"str","str.find",PySem.F.plainAttrs_str,abj,PySem.F.type_str_find,Zg _ _ _,(λ_ e=>nomatch e),?_⟩
  refine method1_gives abj PySem.F.entry_str_find (bP (ha.h UB s1 σ H1 (λx H2=>∃J2 r,Ext J1 H1 J2 H2/\RR c H1 J2 H2 r x/\cD _ _ _) I1 ⟨J1,env,sr.ext e1,aF (aK wr) λr wr v J2 H2 e2 r2=>⟨J2,r,e2,r2,wr⟩⟩) λkv s2 ⟨y,H2,I2,ry,J2,r',e2,r2,wr⟩=>?_)
  split at wr
  ·rename_i y
   cases r2
   obtain ⟨t',rfl⟩:=ry
   exact ⟨Zg _ _ _,PySem.F.args_str_find_2 _ _,_,gives_str_find x y t t',.int _,H2,I2.tok _,⟨_,rfl⟩,wr _ J2 H2 (e1.trans e2) (.int _)⟩
  ·exact wr.elim
 ·exact wr.elim
end
end DL
namespace K72
open PySem DL
def nu:List Str:=["choices","ahead","point","found"]
noncomputable def tu (Fr:List S->M R):G O:=(aH (bK (bx (g2 (cj false) (gN eS (ao (af 1) aE)) (gN eS (ao (af 0) aE)))) (bf (af 1)) cL)
 (aH (cg (fE (g2 aY (af 0) (gN eS (ao (af 1) aE)))) (aC 2) (bK (bx (g2 (fB true) (af 2) (af 1))) (aH (bg 3 (gN (aN 2 Fr) (ao (af 0) (ao (g2 cX (af 1) (bE (aA (af 2) aT))) aE))))
 (bK (bx (g2 (gZ true) (af 3) (gC .non))) (bf (af 3)) cL)) cL))
 (bf (gC .non))))
noncomputable def eX:Nat->List S->M R
 | 0,_=>.bad
 | k + 1,as=>fin (tu (eX k) (aV nu as))
def sJ:List Str:=["grid","depths","depth"]
noncomputable def s_:G O:=(bf (bV 1 [1,2] (gU (af 0)) (aC 0) cM (bV 2 [1,2] (Js (ao (af 0) aE)) (c7 2 (bA (aC 0) (bA (aC 1) dB))) (bx (gN (aN 3 K33.jg) (ao (af 2) (ao (af 1) (ao (af 3) aE))))) (af 0))))
def j5 (as:List S):M R:=fin (s_ (aV sJ as))
def pT:List Str:=["grid","depths"]
noncomputable def pY:G O:=(bf (g2 (gZ true) (gN (aN 2 (K72.eX 6)) (ao (gN (aN 3 K72.j5) (ao (af 0) (ao (af 1) (ao (gC (.int 6)) aE)))) (ao (bE aT) aE))) (gC .non)))
def fF (as:List S):M R:=fin (pY (aV pT as))
def zF:List Str:=["one","other","pairing"]
noncomputable def As:G O:=(aH (bK (bx (g2 (cj true) (g2 aY (af 0) (gC (.int 0))) (g2 aY (af 1) (gC (.int 0))))) (bf (bV 1 [] (bR (ao (g2 aY (af 0) (gC (.int 0))) aE)) (aC 0) cM (dR aT))) cL)
 (bf (bV 1 [1,2] (bR (ao (g2 aY (af 0) (gC (.int 0))) aE)) (aC 0) cM (bV 1 [2,0] (bR (ao (g2 aY (af 1) (gC (.int 0))) aE)) (aC 0) cM (gN (aN 2 K33.lD) (ao (af 1) (ao (bE (aA (af 2) (aA (af 0) aT))) aE)))))))
def oH (as:List S):M R:=fin (As (aV zF as))
def pS:List Str:=["_law_script","_law_k"]
noncomputable def pW:G O:=(aH (bK (bx (g2 (nO λi j=>.bl (decide (i < j))) (af 1) (gN eS (ao (af 0) aE)))) (bf (g2 aY (af 0) (af 1))) cL)
 (bf (gC (.int 0))))
def c6 (as:List S):M R:=fin (pW (aV pS as))
def CZ:List Str:=["_law_cell","_law_count","_law_found","_law_number","_law_k"]
noncomputable def vf:G O:=(aH (bg 2 (dR aT))
 (aH (bg 3 (gN Dy (ao (g2 mG (af 0) (gC (.int 2))) aE)))
 (aH (bK (bx (g2 (cj false) (g2 cV (af 0) (gC (.int 2))) (gC (.int 1)))) (aH (cg (bR (ao (af 1) aE)) (aC 4) (aH (f9 2 (g2 cV (af 3) (g2 oX (gC (.int 10)) (gC (.int 20)))))
 (bg 3 (g2 mG (af 3) (g2 oX (gC (.int 10)) (gC (.int 20)))))))
 (bf (af 2))) cL)
 (aH (bg 3 (g2 iE (g2 cV (af 3) (g2 oX (gC (.int 10)) (gC (.int 50)))) (gC (.int 1234577))))
 (aH (cg (bR (ao (af 1) aE)) (aC 4) (aH (bg 3 (g2 cV (g2 iE (g2 iE (g2 gJ (af 3) (gC (.int 30013))) (g2 mG (af 3) (g2 oX (gC (.int 10)) (gC (.int 30))))) (g2 gJ (gC (.int 77)) (af 4))) (g2 iE (g2 oX (gC (.int 10)) (gC (.int 50))) (gC (.int 151)))))
 (f9 2 (g2 mG (g2 gJ (af 3) (g2 iE (g2 mG (af 3) (g2 oX (gC (.int 10)) (gC (.int 40)))) (gC (.int 3)))) (g2 oX (gC (.int 10)) (gC (.int 9)))))))
 (bf (af 2)))))))
def ju (as:List S):M R:=fin (vf (aV CZ as))
def sI:List Str:=["_law_name","_law_ahead"]
noncomputable def sX:G O:=(aH (bK (bx (g2 (fB false) (af 0) (dR (aA (gC (.str "and")) (aA (gC (.str "or")) (aA (gC (.str "not")) (aA (gC (.str "some")) (aA (gC (.str "every")) (aA (gC (.str "least")) (aA (gC (.str "true")) (aA (gC (.str "false")) aT))))))))))) (aH (bK (wB (af 1)) (bf (g2 cX (gC (.str "q")) (nR oY (af 0) (qC (gC (.int 1))) vd))) cL)
 (bf (g2 cX (af 0) (gC (.str "q"))))) cL)
 (bf (af 0)))
def iW (as:List S):M R:=fin (sX (aV sI as))
def Bf:List Str:=["_law_number","_law_many","_law_letters","_law_stem","_law_k","_law_at_here","_law_found","_law_sign"]
noncomputable def sY:G O:=(aH (bg 2 (gC (.str "abcdefghijklmnopqrstuvwxyz")))
 (aH (bg 3 (gC (.str "")))
 (aH (cg (bR (ao (gC (.int 7)) aE)) (aC 4) (aH (bg 3 (g2 cX (af 3) (g2 aY (af 2) (g2 cV (af 0) (gC (.int 26))))))
 (bg 0 (g2 fC (af 0) (gC (.int 26))))))
 (aH (bK (bx (g2 (cj false) (g2 cV (af 0) (gC (.int 2))) (gC (.int 0)))) (bf (gN k9 (ao (bV 1 [3] (bR (ao (af 1) aE)) (aC 0) cM (gN (aN 2 K72.iW) (ao (nR oY (af 1) vd (qC (g2 cX (gC (.int 2)) (af 0)))) (ao (gC (.bl true)) aE)))) aE))) cL)
 (aH (bg 3 (nR oY (af 3) vd (qC (g2 cX (gC (.int 2)) (g2 cV (g2 fC (af 0) (gC (.int 2))) (gC (.int 6)))))))
 (aH (bg 5 (g2 cV (g2 fC (af 0) (gC (.int 12))) (gN eS (ao (af 3) aE))))
 (aH (bg 6 (dR aT))
 (aH (cg (bR (ao (af 1) aE)) (aC 4) (aH (bg 7 (g2 aY (af 2) (g2 cV (g2 cX (DG (af 2) (g2 aY (af 3) (af 5))) (g2 gJ (gC (.int 5)) (af 4))) (gC (.int 26)))))
 (f9 6 (gN (aN 2 K72.iW) (ao (g2 cX (g2 cX (nR oY (af 3) vd (qC (af 5))) (af 7)) (nR oY (af 3) (qC (g2 cX (af 5) (gC (.int 1)))) vd)) (ao (gC (.bl false)) aE))))))
 (bf (gN k9 (ao (af 6) aE)))))))))))
def gP (as:List S):M R:=fin (sY (aV Bf as))
noncomputable def Bg:List Str:=["_law_many","_law_marks","_law_arrows","_law_number","_law_parts","_law_name","_law_points","_law_point","_law_more_here","_law_pairs","_law_one","_law_other"]
noncomputable def sZ:G O:=(aH (bg 4 (dR aT))
 (aH (cg (fE (af 1)) (aC 5) (aH (bg 6 (dR aT))
 (aH (cg (bR (ao (af 0) aE)) (aC 7) (aH (bK (bx (g2 (cj false) (g2 cV (af 3) (gC (.int 2))) (gC (.int 1)))) (f9 6 (af 7)) cL)
 (bg 3 (g2 fC (af 3) (gC (.int 2))))))
 (f9 4 (bE (aA (af 5) (aA (gN dw (ao (af 6) aE)) aT)))))))
 (aH (bg 8 (dR aT))
 (aH (cg (fE (af 2)) (aC 5) (aH (bg 9 (dR aT))
 (aH (cg (bR (ao (af 0) aE)) (aC 10) (cg (bR (ao (af 0) aE)) (aC 11) (aH (bK (bx (g2 (cj false) (g2 cV (af 3) (gC (.int 2))) (gC (.int 1)))) (f9 9 (bE (aA (af 10) (aA (af 11) aT)))) cL)
 (bg 3 (g2 fC (af 3) (gC (.int 2)))))))
 (f9 8 (bE (aA (af 5) (aA (gN dw (ao (af 9) aE)) aT)))))))
 (bf (bE (aA (af 0) (aA (gN dw (ao (af 4) aE)) (aA (gN dw (ao (af 8) aE)) aT)))))))))
def dU (as:List S):M R:=fin (sZ (aV Bg as))
def yy:List Str:=["_law_number","_law_at_here","_law_low","_law_k"]
noncomputable def pX:G O:=(aH (bg 2 (gC (.int 1)))
 (aH (cg (bR (ao (af 1) aE)) (aC 3) (bg 2 (g2 gJ (af 2) (gC (.int 2)))))
 (aH (bK (bx (g2 (cj false) (g2 cV (g2 mG (af 0) (af 2)) (gC (.int 2))) (gC (.int 1)))) (bf (g2 DE (af 0) (af 2))) cL)
 (bf (g2 iE (af 0) (af 2))))))
def gG (as:List S):M R:=fin (pX (aV yy as))
noncomputable def zE:List Str:=["_law_world_here","_law_number","_law_left","_law_order","_law_k","_law_marks","_law_name","_law_points","_law_arrows","_law_pairs"]
noncomputable def qD:G O:=(aH (bg 2 (y_ (ao (g2 aY (af 0) (gC (.int 0))) aE)))
 (aH (bg 3 (dR aT))
 (aH (cg (bR (ao (g2 aY (af 0) (gC (.int 0))) aE)) (aC 4) (aH (nQ 3 2 (g2 cV (af 1) (gN eS (ao (af 2) aE))))
 (bg 1 (g2 fC (af 1) (gC (.int 5))))))
 (aH (bg 5 (dR aT))
 (aH (cg (fE (g2 aY (af 0) (gC (.int 1)))) (c7 2 (bA (aC 6) (bA (aC 7) dB))) (f9 5 (bE (aA (af 6) (aA (gN dw (ao (gN nP (ao (bV 1 [3] (gU (af 7)) (aC 0) cM (g2 aY (af 1) (af 0))) aE)) aE)) aT)))))
 (aH (bg 8 (dR aT))
 (aH (cg (fE (g2 aY (af 0) (gC (.int 2)))) (c7 2 (bA (aC 6) (bA (aC 9) dB))) (f9 8 (bE (aA (af 6) (aA (gN dw (ao (gN nP (ao (bV 2 [3] (gU (af 9)) (c7 2 (bA (aC 0) (bA (aC 1) dB))) cM (bE (aA (g2 aY (af 2) (af 0)) (aA (g2 aY (af 2) (af 1)) aT)))) aE)) aE)) aT)))))
 (bf (bE (aA (g2 aY (af 0) (gC (.int 0))) (aA (gN dw (ao (af 5) aE)) (aA (gN dw (ao (af 8) aE)) aT))))))))))))
def fc (as:List S):M R:=fin (qD (aV zE as))
noncomputable def wY:List Str:=["_law_cell","_law_sizes","_law_xs","_law_marks","_law_arrows","_law_many","_law_fill","_law_one","_law_way","_law_bits","_law_other"]
noncomputable def xF:G O:=(aH (bg 2 (gN (aN 2 K72.ju) (ao (af 0) (ao (gC (.int 7)) aE))))
 (aH (bg 3 (nR Al (gN (aN 2 K72.gP) (ao (g2 aY (af 2) (gC (.int 0))) (ao (gC (.int 3)) aE))) vd (qC (g2 aY (dR (aA (gC (.int 0)) (aA (gC (.int 1)) (aA (gC (.int 1)) (aA (gC (.int 2)) (aA (gC (.int 1)) (aA (gC (.int 3)) aT))))))) (g2 cV (g2 aY (af 2) (gC (.int 1))) (gC (.int 6)))))))
 (aH (bg 4 (nR Al (gN (aN 2 K72.gP) (ao (g2 aY (dR (aA (g2 aY (af 2) (gC (.int 2))) (aA (g2 aY (af 2) (gC (.int 0))) aT))) (g2 fC (g2 cV (g2 fC (g2 aY (af 2) (gC (.int 1))) (gC (.int 6))) (gC (.int 4))) (gC (.int 3)))) (ao (gC (.int 3)) aE))) vd (qC (g2 aY (dR (aA (gC (.int 1)) (aA (gC (.int 1)) (aA (gC (.int 2)) (aA (gC (.int 0)) (aA (gC (.int 1)) (aA (gC (.int 3)) aT))))))) (g2 cV (g2 fC (g2 aY (af 2) (gC (.int 1))) (gC (.int 24))) (gC (.int 6)))))))
 (aH (bg 5 (g2 aY (af 1) (g2 cV (g2 fC (g2 aY (af 2) (gC (.int 1))) (gC (.int 144))) (gN eS (ao (af 1) aE)))))
 (aH (bg 6 (g2 aY (dR (aA (gC (.int 0)) (aA (g2 DE (g2 oX (gC (.int 2)) (gC (.int 60))) (gC (.int 1))) (aA (g2 aY (af 2) (gC (.int 3))) (aA (g2 aY (af 2) (gC (.int 3))) (aA (g2 aY (af 2) (gC (.int 3))) (aA (g2 aY (af 2) (gC (.int 3))) aT))))))) (g2 cV (g2 fC (g2 aY (af 2) (gC (.int 1))) (gC (.int 10000))) (gC (.int 6)))))
 (aH (fS 4 (fS 3 (bg 7 (gN (aN 4 K72.dU) (ao (af 5) (ao (af 3) (ao (af 4) (ao (af 6) aE))))))))
 (aH (bg 8 (g2 cV (g2 aY (af 2) (gC (.int 4))) (gC (.int 5))))
 (aH (bK (bx (g2 (cj false) (af 8) (gC (.int 0)))) (bf (bE (aA (af 7) (aA (gN (aN 2 K72.fc) (ao (af 7) (ao (g2 aY (af 2) (gC (.int 5))) aE))) aT)))) cL)
 (aH (bK (bx (g2 (cj false) (af 8) (gC (.int 1)))) (aH (bg 9 (gN DB (ao (gC (.int 1)) (ao (g2 iE (g2 gJ (af 5) (gN eS (ao (af 3) aE))) (g2 gJ (g2 gJ (af 5) (af 5)) (gN eS (ao (af 4) aE)))) aE))))
 (aH (bg 10 (gN (aN 4 K72.dU) (ao (af 5) (ao (af 3) (ao (af 4) (ao (gN (aN 2 K72.gG) (ao (af 6) (ao (g2 cV (g2 fC (g2 aY (af 2) (gC (.int 4))) (gC (.int 5))) (af 9)) aE))) aE))))))
 (bf (bE (aA (af 7) (aA (gN (aN 2 K72.fc) (ao (af 10) (ao (g2 aY (af 2) (gC (.int 5))) aE))) aT)))))) cL)
 (aH (bg 5 (g2 aY (af 1) (g2 cV (g2 aY (af 2) (gC (.int 6))) (gN eS (ao (af 1) aE)))))
 (aH (bK (bx (g2 (cj false) (af 8) (gC (.int 2)))) (bf (bE (aA (af 7) (aA (gN (aN 4 K72.dU) (ao (af 5) (ao (af 3) (ao (af 4) (ao (af 6) aE))))) aT)))) cL)
 (bf (bE (aA (af 7) (aA (gN (aN 4 K72.dU) (ao (af 5) (ao (af 3) (ao (af 4) (ao (g2 aY (af 2) (gC (.int 5))) aE))))) aT)))))))))))))))
def kg (as:List S):M R:=fin (xF (aV wY as))
def zC:List Str:=["_law_some","_law_name","_law_thing","_law_other","_law_things"]
noncomputable def Aq:G O:=(aH (cg (fE (af 0)) (c7 2 (bA (aC 3) (bA (aC 4) dB))) (bK (bx (g2 (cj false) (af 3) (af 1))) (bf (g2 (fB false) (af 2) (af 4))) cL))
 (bf (gC (.bl false))))
def lC (as:List S):M R:=fin (Aq (aV zC as))
def wX:List Str:=["_law_one","_law_other","_law_pairs","_law_a","_law_b","_law_name","_law_points","_law_c","_law_d","_law_arrows"]
noncomputable def xE:G O:=(aH (cg (fE (af 2)) (c7 2 (bA (aC 3) (bA (aC 4) dB))) (aH (cg (fE (g2 aY (af 0) (gC (.int 1)))) (c7 2 (bA (aC 5) (bA (aC 6) dB))) (bK (bx (g2 (cj true) (g2 (fB false) (af 3) (af 6)) (gN (aN 3 K72.lC) (ao (g2 aY (af 1) (gC (.int 1))) (ao (af 5) (ao (af 4) aE)))))) (bf (gC (.bl false))) cL))
 (cg (fE (af 2)) (c7 2 (bA (aC 7) (bA (aC 8) dB))) (aH (bK (bx (g2 (cj true) (g2 (cj false) (af 3) (af 7)) (g2 (cj false) (af 4) (af 8)))) (bf (gC (.bl false))) cL)
 (cg (fE (g2 aY (af 0) (gC (.int 2)))) (c7 2 (bA (aC 5) (bA (aC 9) dB))) (bK (bx (g2 (cj true) (g2 (fB false) (bE (aA (af 3) (aA (af 7) aT))) (af 9)) (gN (aN 3 K72.lC) (ao (g2 aY (af 1) (gC (.int 2))) (ao (af 5) (ao (bE (aA (af 4) (aA (af 8) aT))) aE)))))) (bf (gC (.bl false))) cL))))))
 (bf (gC (.bl true))))
def eV (as:List S):M R:=fin (xE (aV wX as))
noncomputable def nG:List Str:=["_law_one","_law_other","_law_most_pairs","_law_found","_law_last","_law_size","_law_more_here","_law_pairs","_law_a","_law_b"]
noncomputable def nS:G O:=(aH (bg 3 (dR (aA (bE aT) aT)))
 (aH (fS 6 (bg 4 (dR (aA (bE aT) aT))))
 (aH (cg (bR (ao (af 2) aE)) (aC 5) (aH (bg 6 (dR aT))
 (aH (fS 4 (cg (fE (af 4)) (aC 7) (cg (bR (ao (g2 aY (af 0) (gC (.int 0))) aE)) (aC 8) (cg (bR (ao (g2 aY (af 1) (gC (.int 0))) aE)) (aC 9) (bK (iP (ki (bx (g2 (cj false) (af 7) (bE aT))) (bx (g2 ud (g2 aY (af 7) (wm (gC (.int 1)))) (bE (aA (af 8) (aA (af 9) aT)))))) (bx (gN (aN 3 K72.eV) (ao (af 0) (ao (af 1) (ao (g2 cX (af 7) (bE (aA (bE (aA (af 8) (aA (af 9) aT))) aT))) aE)))))) (f9 6 (g2 cX (af 7) (bE (aA (bE (aA (af 8) (aA (af 9) aT))) aT)))) cL)))))
 (aH (fS 6 (bg 4 (af 6)))
 (wg 3 (af 6))))))
 (bf (af 3)))))
def iA (as:List S):M R:=fin (nS (aV nG as))
end K72
namespace K72
open PySem DL K01 WP K51 K52 K55
open K23 (iT eK bH)
theorem oG (ns:List Int) (k:Nat):c6 [.bor (ns.map D.int),.d (.int k)]=.ok (.d (.int (ns.getD k 0))):=by
 refine bM (b8 (jb (c:=decide ((k:Int) < ((ns.map D.int).length:Nat))) rfl (λh=>?_) λh=>?_))
 ·have h:k < ns.length:=by simpa using h
  have e:(ns.map D.int)[k]?=some (.int ns[k]):=by rw [Vh,U5 h];rfl
  exact bz (two rfl rfl (mH e)) rfl (by simp [aao,h])
 ·have h:ns.length<=k:=by simpa using h
  exact fU (bz rfl rfl (by simp [aao,h]))
theorem rq (i j:Int) (h1:0 < j) (h2:j < 2 ^ 200):mG (.d (.int i)) (.d (.int j))=.ok (.d (.int (i / j))):=yY (by
 unfold DO
 rw [UT]
 exact ⟨decide_eq_true h1,dh.mpr ⟨by omega,h2⟩⟩)
theorem L6 (c:Int):∃xs:List Int,ju [.d (.int c),.d (.int 7)]=.ok (.l .fresh (xs.map .int))/\xs.length=7/\∀x∈xs,0<=x:=by
 have key:Wp (ju [.d (.int c),.d (.int 7)]) λr=>∃xs:List Int,r=.l .fresh (xs.map .int)/\xs.length=7/\∀x∈xs,0<=x:=by
  obtain ⟨n,hn,hn0⟩:∃n:Int,Dy [.d (.int (c / 2))]=.ok (.d (.int n))/\0<=n:=⟨if c / 2 < 0 then -(c / 2) else c / 2,rfl,by split <;> omega⟩
  have app:∀{xs:List Int}{y:Int},(∀x∈xs,0<=x)->0<=y->∀x∈xs++[y],0<=x:=λh hy x hx=>by
   rcases Vj.mp hx with q | q
   ·exact h x q
   ·rw [U4.mp q];exact hy
  refine nk (bB rfl rfl (bB (n1 (two rfl rfl (fm c 2 (by decide) (by decide))) hn) rfl (b8 (jb (c:=bu (.int (c % 2)) (.int 1)) (bH (two rfl rfl (cK c 2 (by decide))) rfl rfl) (λ_=>?_) λ_=>fU ?_))))
  ·refine dY (iS (n:=7) rfl (by decide)) ?_
   refine gF (n:=7) (λk env=>∃(xs:List Int) (n:Int) (x:Option S),env=[some (.d (.int c)),some (.d (.int 7)),some (.own (xs.map .int)),some (.d (.int n)),x]/\xs.length=k/\0<=n/\∀x∈xs,0<=x) ⟨[],n,none,rfl,rfl,hn0,λ_ h=>nomatch h⟩ ?_ ?_
   ·rintro k hk _ ⟨xs,n,x,rfl,hl,h0,hx⟩
    refine ⟨_,rfl,Pa rfl (two rfl rfl (cK n (10 ^ 20) (by decide))) rfl (by rw [UR];omega) (fX (two rfl rfl (rq n (10 ^ 20) (by decide) (by decide))) rfl ⟨_,rfl,xs++[n % 10 ^ 20],n / 10 ^ 20,_,by rw [Ve];rfl,by simp [hl],abk h0 (by decide),app hx (Za _ (by decide))⟩)⟩
   ·rintro _ ⟨xs,n,x,rfl,hl,h0,hx⟩
    exact bz rfl rfl ⟨_,rfl,xs,rfl,hl,hx⟩
  ·refine bB (two (two rfl rfl (cK n (10 ^ 50) (by decide))) rfl (lW _ _)) rfl (dY (iS (n:=7) rfl (by decide)) ?_)
   have hm:=Za n (b:=10 ^ 50) (by decide)
   refine gF (n:=7) (λk env=>∃(xs:List Int) (n:Int) (x:Option S),env=[some (.d (.int c)),some (.d (.int 7)),some (.own (xs.map .int)),some (.d (.int n)),x]/\xs.length=k/\0<=n/\∀x∈xs,0<=x) ⟨[],n % 10 ^ 50 + 1234577,none,rfl,rfl,by omega,λ_ h=>nomatch h⟩ ?_ ?_
   ·rintro k hk _ ⟨xs,n,x,rfl,hl,h0,hx⟩
    obtain ⟨n',hn'⟩:∃n',n'=(n * 30013 + n / 10 ^ 30 + 77 * k) % (10 ^ 50 + 151):=⟨_,rfl⟩
    have p1:0<=n':=hn'▸Za _ (by decide)
    have p2:n' < 10 ^ 50 + 151:=hn'▸Y6 _ (by decide)
    have p3:0<=n' / 10 ^ 40:=abk p1 (by decide)
    have p4:n' / 10 ^ 40 < 10 ^ 11:=Int.ediv_lt_of_lt_mul (by decide) (Int.lt_trans p2 (by decide))
    refine ⟨_,rfl,bB (r:=.d (.int n')) ((two (two (two (two rfl rfl (iJ n 30013 (by decide) (by decide))) (two rfl rfl (rq n (10 ^ 30) (by decide) (by decide))) (lW _ _)) (two rfl rfl (iJ 77 k (by omega) (by omega))) (lW _ _)) (two rfl rfl (lW (10 ^ 50) 151)) (cK _ _ (by decide))).trans (by rw [hn'])) rfl ?_⟩
    refine jF rfl (two (two rfl (two (two rfl rfl (rq n' (10 ^ 40) (by decide) (by decide))) rfl (lW _ 3)) (iJ _ _ (by omega) (by omega))) rfl (rq _ (10 ^ 9) (by decide) (by decide))) rfl (by rw [UR];omega) ⟨_,rfl,xs++[n' * (n' / 10 ^ 40 + 3) / 10 ^ 9],n',_,by rw [Ve];rfl,by simp [hl],p1,app hx (abk (Int.mul_nonneg p1 (by omega)) (by decide))⟩
   ·rintro _ ⟨xs,n,x,rfl,hl,h0,hx⟩
    exact bz rfl rfl ⟨_,rfl,xs,rfl,hl,hx⟩
 obtain ⟨_,h,xs,rfl,hl⟩:=key
 exact ⟨xs,h,hl⟩
theorem JN (z:Str) (j:Nat) (h:j<=z.length):(WY z none (some (j:Int))).cps.toList=z.cps.toList.take j:=by
 rw [dH] at h
 rw [show WY z none (some (j:Int))=_ from adv (x:=z) (j:=j) ⟨by omega,by omega⟩]
 simp
theorem LH (z:Str) (i:Nat) (h:i<=z.length):(WY z (some (i:Int)) none).cps.toList=z.cps.toList.drop i:=by
 rw [dH] at h
 rw [show WY z (some (i:Int)) none=_ from acW (x:=z) (i:=i) ⟨by omega,by omega⟩]
 rw [show ((z.cps.toList.length:Int) - (i:Int)).toNat=(z.cps.toList.drop i).length by rw [W4];omega]
 show ((z.cps.toList.drop i).take (z.cps.toList.drop i).length).toArray.toList=_
 rw [Xn]
def JT:List D:=[.str "and",.str "or",.str "not",.str "some",.str "every",.str "least",.str "true",.str "false"]
def kh (s:Str) (b:Bool):Str:=if inD (.str s) JT=true then (if b=true then ("q":Str)++WY s (some 1) none else s++"q") else s
theorem rA (x y:Str) (h:x.length + y.length<=1000):cX (.d (.str x)) (.d (.str y))=.ok (.d (.str (x++y))):=Pw x y h
theorem vG (s:Str) (l u:Option Int) (h:s.length<=900):oY (.d (.str s)) l u=.ok (.d (.str (WY s l u)))/\(WY s l u).length<=s.length:=by
 refine ⟨?_,aaa s l u⟩
 show (if s.length<=sizeLine then _ else _)=_
 rw [if_pos (gz (by omega))]
theorem BE (s:Str) (b:Bool) (h:s.length<=900):iW [.d (.str s),.d (.bl b)]=.ok (.d (.str (kh s b))):=by
 obtain ⟨h1,h2⟩:=vG s (some 1) none h
 refine bM (b8 (jb (c:=inD (.str s) JT) ?_ (λe=>?_) λe=>fU (bz rfl rfl ?_)))
 ·refine bH rfl rfl ?_
  show (if deps JT<=60/\dep (.str s)<=60 then M.ok (R.d (.bl (inD (.str s) JT))) else .bad)=_
  rw [if_pos ⟨by decide,by show (0:Nat)<=60;decide⟩]
 ·cases b with
  | true=>
   refine b8 (pq rfl (bz (two rfl (show nR oY (af 0) (qC (gC (.int 1))) vd _=_ from h1) (rA _ _ (by show 1 + _<=1000;omega))) rfl ?_))
   unfold kh
   rw [if_pos e];rfl
  | false=>
   refine ff rfl (bz (two rfl rfl (rA _ _ (by show _ + 1<=1000;omega))) rfl ?_)
   unfold kh
   rw [if_pos e];rfl
 ·unfold kh
  rw [if_neg (by rw [e];decide)]
theorem xQ {α β:Type}{f:α->β}:∀{xs:List α},(∀a∈xs,∀b∈xs,f a=f b->a=b)->xs.Nodup->(xs.map f).Nodup:=λh nd=>K23.Ni nd h
theorem Jr (s:Str) (h1:1<=s.length):(kh s true).length=s.length:=by
 unfold kh
 split
 ·have h2:=dH s
  have h3:("q":Str).cps.toList.length=1:=rfl
  rw [if_pos rfl,dH,k7,Vc,show (1:Int)=((1:Nat):Int) from rfl,LH s 1 h1,W4]
  omega
 ·rfl
theorem oA (i j:Int):cX (.d (.int i)) (.d (.int j))=.ok (.d (.int (i + j))):=rfl
theorem se {env:Ev}{f:R->Option Int->Option Int->M R}{g:G R}{lo hi:GO}{x z:R}{l u:Option Int}(h:g env=.ok x) (h2:lo env=.ok l) (h3:hi env=.ok u) (hf:f x l u=.ok z):nR f g lo hi env=.ok z:=by
 unfold nR
 rw [h,aS,h2,aS,h3]
 exact hf
theorem rZ {env:Ev}{g:G R}{i:Int}(h:g env=.ok (.d (.int i))):qC g env=.ok (some i):=by
 unfold qC
 rw [h];rfl
theorem len_str (s:Str) (h:s.length<=1000):eS [.d (.str s)]=.ok (.d (.int (s.length:Nat))):=by
 show (if s.length<=sizeLine then _ else _)=_
 rw [if_pos (gz h)]
theorem Jq (s:Str):(kh s false).cps.toList=s.cps.toList\/(kh s false).cps.toList=s.cps.toList++[113]:=by
 unfold kh
 split
 ·rw [if_neg (by decide),k7];exact .inr rfl
 ·exact .inl rfl
theorem BF (c:Int) (hc:0<=c):∃ss:List Str,gP [.d (.int c),.d (.int 3)]=.ok (.l .fresh (ss.map .str))/\ss.length=3/\ss.Nodup:=by
 have fin3:∀(f:Nat->Str),(∀a,a < 3->∀b,b < 3->f a=f b->a=b)->(nh ((UQ 3).map f)).length=3/\(nh ((UQ 3).map f)).Nodup:=λf h=>
  ⟨by rw [(pN _).length_eq];simp,(pN _).symm.nodup (xQ (λa ha b hb=>h a (U1.mp ha) b (U1.mp hb)) WJ)⟩
 have key:Wp (gP [.d (.int c),.d (.int 3)]) λr=>∃ss:List Str,r=.l .fresh (ss.map .str)/\ss.length=3/\ss.Nodup:=by
  refine nk (bB rfl rfl (bB rfl rfl (dY (iS (n:=7) rfl (by decide)) ?_)))
  refine gF (n:=7) (λk env=>∃(n:Int) (st:Str) (x:Option S),env=[some (.d (.int n)),some (.d (.int 3)),some (.d (.str "abcdefghijklmnopqrstuvwxyz")),some (.d (.str st)),x,none,none,none]/\0<=n/\st.length=k) ⟨c,"",none,rfl,hc,rfl⟩ ?_ ?_
  ·rintro k hk _ ⟨n,st,x,rfl,hn,hl⟩
   refine ⟨_,rfl,bB (two rfl (two rfl (two rfl rfl (cK n 26 (by decide))) (FG _ (by omega) (by omega))) (rA st _ (by show st.length + 1<=1000;omega))) rfl (fX (two rfl rfl (fm n 26 (by decide) (by decide))) rfl ⟨_,rfl,n / 26,_,_,rfl,by omega,?_⟩)⟩
   rw [dH,k7,Vc,<-dH,hl];rfl
  ·rintro _ ⟨n,st,x,rfl,hn,hl⟩
   refine b8 (jb (c:=bu (.int (n % 2)) (.int 0)) (bH (two rfl rfl (cK n 2 (by decide))) rfl rfl) (λ_=>?_) λ_=>fU ?_)
   ·have hs:∀k,k < 3->(WY st none (some ((2 + k:Nat):Int))).length=2 + k:=λk hk=>by
     rw [dH,JN _ _ (by omega),Wc,<-dH];omega
    obtain ⟨h1,h2⟩:=fin3 (λk=>kh (WY st none (some ((2 + k:Nat):Int))) true) λa ha b hb e=>by
     have:=congrArg ace e
     rw [Jr _ (by rw [hs a ha];omega),Jr _ (by rw [hs b hb];omega),hs a ha,hs b hb] at this
     omega
    refine bz (n1 (z:=.l .fresh ((nh ((UQ 3).map λk=>kh (WY st none (some ((2 + k:Nat):Int))) true)).map .str)) (jB (xs:=UQ 3) (h:=dN) (λk=>.str (kh (WY st none (some ((2 + k:Nat):Int))) true)) (jH (n:=3) rfl (by decide)) (by decide) λk hk=>?_) ?_) rfl ⟨_,rfl,_,rfl,h1,h2⟩
    ·obtain ⟨a,b⟩:=vG st none (some ((2 + k:Nat):Int)) (by omega)
     exact ⟨_,c2 (se rfl rfl (rZ ((two rfl rfl (oA 2 k)).trans (by rw [show (2:Int) + (k:Int)=((2 + k:Nat):Int) by omega]))) a) rfl (BE _ true (by omega)),rfl⟩
    ·have:=sorted_strs .fresh ((UQ 3).map λk=>kh (WY st none (some ((2 + k:Nat):Int))) true) (by simp)
     rw [Vr] at this
     exact this
   ·obtain ⟨q,hq,Uz⟩:=K33.iF (n / 2) 6 (by decide)
    have hq:n / 2 % 6=(q:Int):=hq
    obtain ⟨a,b⟩:=vG st none (some ((2 + q:Nat):Int)) (by omega)
    obtain ⟨s2,hs2⟩:∃s2,s2=WY st none (some ((2 + q:Nat):Int)):=⟨_,rfl⟩
    have l2:s2.length=2 + q:=by rw [hs2,dH,JN _ _ (by omega),Wc,<-dH];omega
    obtain ⟨at_,hat,SX⟩:=K33.iF (n / 12) s2.length (by omega)
    obtain ⟨ch,hch⟩:∃ch,s2.cps.toList[at_]?=some ch:=⟨_,U5 (by rw [<-dH];exact SX)⟩
    have hix:=B5 (z:=s2) (k:=at_) (by omega) hch
    obtain ⟨A,hA⟩:∃A,A=WY s2 none (some (at_:Int)):=⟨_,rfl⟩
    obtain ⟨B,hB⟩:∃B,B=WY s2 (some ((at_ + 1:Nat):Int)) none:=⟨_,rfl⟩
    obtain ⟨eA,lA⟩:=vG s2 none (some (at_:Int)) (by omega)
    obtain ⟨eB,lB⟩:=vG s2 (some ((at_ + 1:Nat):Int)) none (by omega)
    rw [<-hA] at eA lA
    rw [<-hB] at eB lB
    obtain ⟨F,hF⟩:∃F:Int,F=Txt.find "abcdefghijklmnopqrstuvwxyz" ⟨#[ch]⟩:=⟨_,rfl⟩
    obtain ⟨sg,hsg⟩:∃sg:Nat->Nat,∀k:Nat,sg k=97 + ((F + 5 * (k:Int)) % 26).toNat:=⟨_,λ_=>rfl⟩
    obtain ⟨nm,hnm⟩:∃nm:Nat->Str,∀k:Nat,nm k=A++⟨#[sg k]⟩++B:=⟨_,λ_=>rfl⟩
    have cn:∀k,(nm k).cps.toList=A.cps.toList++sg k::B.cps.toList:=λk=>by
     rw [hnm,k7,k7,Xc];rfl
    have lnm:∀k,(nm k).length<=30:=λk=>by
     rw [dH,cn,Vc,VU,<-dH,<-dH];omega
    obtain ⟨h1,h2⟩:=fin3 (λk=>kh (nm k) false) λi hi j hj e=>by
     have e:=congrArg (λs:Str=>s.cps.toList) e
     have e:(kh (nm i) false).cps.toList=(kh (nm j) false).cps.toList:=e
     have ln:∀k,(nm k).cps.toList.length=A.cps.toList.length + (B.cps.toList.length + 1):=λk=>by rw [cn,Vc,VU]
     have li:=ln i
     have lj:=ln j
     have:(nm i).cps.toList=(nm j).cps.toList:=by
      rcases Jq (nm i) with p | p <;> rcases Jq (nm j) with q | q <;> rw [p,q] at e
      ·exact e
      ·have:=congrArg Ww e;simp only [Vc,Yg] at this;omega
      ·have:=congrArg Ww e;simp only [Vc,Yg] at this;omega
      ·exact List.append_cancel_right e
     rw [cn,cn] at this
     have:=List.append_cancel_left this
     have:=(aeb this).1
     rw [hsg,hsg] at this
     omega
    rw [<-hs2] at a
    refine bB (se rfl rfl (rZ ((two rfl (two (two rfl rfl (fm n 2 (by decide) (by decide))) rfl (cK _ 6 (by decide))) (oA 2 _)).trans (by rw [hq,show (2:Int) + (q:Int)=((2 + q:Nat):Int) by omega]))) a) rfl ?_
    refine bB (r:=.d (.int (at_:Int))) ((two (two rfl rfl (fm n 12 (by decide) (by decide))) (n1 rfl (len_str s2 (by omega))) (cK _ _ (by omega))).trans (by rw [hat])) rfl ?_
    refine bB rfl rfl (dY (iS (n:=3) rfl (by decide)) ?_)
    refine gF (n:=3) (λk env=>∃(x y:Option S),env=[some (.d (.int n)),some (.d (.int 3)),some (.d (.str "abcdefghijklmnopqrstuvwxyz")),some (.d (.str s2)),x,some (.d (.int (at_:Int))),some (.own (((UQ k).map λk=>kh (nm k) false).map .str)),y]) ⟨_,_,rfl⟩ ?_ ?_
    ·rintro k hk _ ⟨x,y,rfl⟩
     have TM:=FG ((F + 5 * (k:Int)) % 26) (by omega) (by omega)
     rw [<-hsg] at TM
     refine ⟨_,rfl,bB (two rfl (two (two (show DG (af 2) (g2 aY (af 3) (af 5)) _=.ok (.d (.int F)) from ?_) (two rfl rfl (iJ 5 k (by omega) (by omega))) (oA F _)) rfl (cK _ 26 (by decide))) TM) rfl ?_⟩
     ·show (g2 aY (af 3) (af 5) _ >>= _)=_
      rw [two (x:=.d (.str s2)) (y:=.d (.int (at_:Int))) rfl rfl hix,aS,hF]
     ·have e1:=rA A ⟨#[sg k]⟩ (by show A.length + 1<=1000;omega)
      have e2:=rA (A++⟨#[sg k]⟩) B (by
       rw [dH,k7,Vc,<-dH]
       show A.length + 1 + B.length<=1000
       omega)
      have e3:=BE (nm k) false (by have:=lnm k;omega)
      rw [<-hnm] at e2
      refine jF rfl (c2 (two (two (se rfl rfl (rZ rfl) eA) rfl e1) (se rfl (rZ (i:=((at_ + 1:Nat):Int)) ((two rfl rfl (oA _ 1)).trans (by rw [show ((at_:Int) + 1)=((at_ + 1:Nat):Int) by omega]))) rfl eB) e2) rfl e3) rfl (by simp;omega) ⟨_,rfl,some (.d (.int k)),some (.d (.str ⟨#[sg k]⟩)),?_⟩
      rw [XN,Ve,Ve];rfl
    ·rintro _ ⟨x,y,rfl⟩
     exact bz (n1 rfl (sorted_strs _ _ (by simp))) rfl ⟨_,rfl,_,rfl,h1,h2⟩
 obtain ⟨_,h,ss,rfl,hl⟩:=key
 exact ⟨ss,h,hl⟩
abbrev eW (m:Nat) (A B:List Str) (n:Int) (r:List (Option S)):Ev:=some (.d (.int m))::some (.d (.lst (A.map .str)))::some (.d (.lst (B.map .str)))::some (.d (.int n))::r
theorem EG {env:Ev}{n:Int}(h:af 3 env=.ok (.d (.int n))):bx (g2 (cj false) (g2 cV (af 3) (gC (.int 2))) (gC (.int 1))) env=.ok (bu (.int (n % 2)) (.int 1)):=bH (two h rfl (cK n 2 (by decide))) rfl rfl
theorem half {env:Ev}{n:Int}(h:af 3 env=.ok (.d (.int n))):g2 fC (af 3) (gC (.int 2)) env=.ok (.d (.int (n / 2))):=two h rfl (fm n 2 (by decide) (by decide))
theorem BI (m:Nat) (hm:m<=4) (A B:List Str) (hA:A.length<=3) (hB:B.length<=3) (n:Int):
  ∃ms rs,dU [.d (.int m),.d (.lst (A.map .str)),.d (.lst (B.map .str)),.d (.int n)]=.ok (.d (Wd.d ⟨m,ms,rs⟩))/\ms.map VC=A/\rs.map VC=B/\Es 16 ⟨m,ms,rs⟩:=by
 have Sv:m * m<=16:=X8 hm hm
 have key:Wp (dU [.d (.int m),.d (.lst (A.map .str)),.d (.lst (B.map .str)),.d (.int n)]) λr=>∃ms rs,r=.d (Wd.d ⟨m,ms,rs⟩)/\ms.map VC=A/\rs.map VC=B/\Es 16 ⟨m,ms,rs⟩:=by
  refine nk (bB rfl rfl (dY (ds:=A.map .str) rfl ?_))
  refine kB (λk env=>∃(n:Int) (ms:List (Str×List Nat)) (x y z:Option S),env=eW m A B n [some (.own (ms.map kG)),x,y,z,none,none,none,none]/\ms.map VC=A.take k/\∀r∈ms,r.2.length<=16/\∀p∈r.2,p < m) _ ⟨n,[],none,none,none,rfl,rfl,λ_ h=>nomatch h⟩ ?_ ?_
  ·rintro k hk _ ⟨n,ms,x,y,z,rfl,hf,hp⟩
   rw [UR] at hk
   have lm:ms.length<=3:=by
    have:=congrArg Ww hf
    rw [UR,Wc] at this
    omega
   rw [V5]
   refine ⟨_,rfl,bB rfl rfl (dY (iS (n:=m) rfl (by omega)) ?_)⟩
   refine gF (n:=m) (λj env=>∃(n:Int) (xs:List Nat) (z:Option S),env=eW m A B n [some (.own (ms.map kG)),some (.d (.str A[k])),some (.own (xs.map dN)),z,none,none,none,none]/\xs.length<=j/\∀x∈xs,x < m) ⟨n,[],z,rfl,UX _,λ_ h=>nomatch h⟩ ?_ ?_
   ·rintro j hj _ ⟨n,xs,z,rfl,hl,hx⟩
    refine ⟨_,rfl,b8 (jb (EG (n:=n) rfl) (λ_=>jF rfl rfl rfl (by simp;omega) ?_) λ_=>fU ?_)⟩
    ·refine fX (half (n:=n) rfl) rfl ⟨_,rfl,n / 2,xs++[j],some (.d (.int j)),by rw [Ve];rfl,by simp;omega,λx hx'=>?_⟩
     rcases Vj.mp hx' with h | h
     ·exact hx x h
     ·rw [U4.mp h];exact hj
    ·exact fX (half (n:=n) rfl) rfl ⟨_,rfl,n / 2,xs,some (.d (.int j)),rfl,by omega,hx⟩
   ·rintro _ ⟨n,xs,z,rfl,hl,hx⟩
    refine jF rfl (bF (aI rfl rfl (aI (n1 rfl rfl) rfl br)) t2) rfl (by simp;omega) ⟨_,rfl,n,ms++[(A[k],xs)],_,_,_,by rw [Ve];rfl,?_,λr hr=>?_⟩
    ·rw [Ve,hf,YD,U5 hk];rfl
    ·rcases Vj.mp hr with h | h
     ·exact hp r h
     ·rw [U4.mp h];exact ⟨by show xs.length<=16;omega,hx⟩
  rintro _ ⟨n,ms,x,y,z,rfl,hf,hp⟩
  rw [UR,Xn] at hf
  refine bB rfl rfl (dY (ds:=B.map .str) rfl ?_)
  refine kB (λk env=>∃(n:Int) (rs:List (Str×List (Nat×Nat))) (x a b c:Option S),env=eW m A B n [some (.own (ms.map kG)),x,y,z,some (.own (rs.map pL)),a,b,c]/\rs.map VC=B.take k/\∀r∈rs,r.2.length<=16/\∀p∈r.2,p.1 < m/\p.2 < m) _ ⟨n,[],x,none,none,none,rfl,rfl,λ_ h=>nomatch h⟩ ?_ ?_
  ·rintro k hk _ ⟨n,rs,x,a,b,c,rfl,hf,hp⟩
   rw [UR] at hk
   have lm:rs.length<=3:=by
    have:=congrArg Ww hf
    rw [UR,Wc] at this
    omega
   rw [V5]
   refine ⟨_,rfl,bB rfl rfl (dY (iS (n:=m) rfl (by omega)) ?_)⟩
   refine gF (n:=m) (λi env=>∃(n:Int) (ps:List (Nat×Nat)) (b c:Option S),env=eW m A B n [some (.own (ms.map kG)),some (.d (.str B[k])),y,z,some (.own (rs.map pL)),some (.own (ps.map dP)),b,c]/\ps.length<=i * m/\∀p∈ps,p.1 < m/\p.2 < m) ⟨n,[],b,c,rfl,by simp,λ_ h=>nomatch h⟩ ?_ ?_
   ·rintro i hi _ ⟨n,ps,b,c,rfl,hl,hx⟩
    have Ux:i * m + m<=m * m:=by rw [<-acC];exact W8 m hi
    refine ⟨_,rfl,mW (iS (n:=m) rfl (by omega)) ?_⟩
    refine gF (n:=m) (λj env=>∃(n:Int) (ps:List (Nat×Nat)) (c:Option S),env=eW m A B n [some (.own (ms.map kG)),some (.d (.str B[k])),y,z,some (.own (rs.map pL)),some (.own (ps.map dP)),some (.d (.int i)),c]/\ps.length<=i * m + j/\∀p∈ps,p.1 < m/\p.2 < m) ⟨n,ps,c,rfl,hl,hx⟩ ?_ ?_
    ·rintro j hj _ ⟨n,ps,c,rfl,hl,hx⟩
     refine ⟨_,rfl,b8 (jb (EG (n:=n) rfl) (λ_=>jF rfl (bF (aI rfl rfl (aI rfl rfl br)) t2) rfl (by simp;omega) ?_) λ_=>fU ?_)⟩
     ·refine fX (half (n:=n) rfl) rfl ⟨_,rfl,n / 2,ps++[(i,j)],some (.d (.int j)),by rw [Ve];rfl,by simp;omega,λx hx'=>?_⟩
      rcases Vj.mp hx' with h | h
      ·exact hx x h
      ·rw [U4.mp h];exact ⟨hi,hj⟩
     ·exact fX (half (n:=n) rfl) rfl ⟨_,rfl,n / 2,ps,some (.d (.int j)),rfl,by omega,hx⟩
    ·rintro _ ⟨n,ps,c,rfl,hl,hx⟩
     exact ⟨_,rfl,n,ps,_,c,rfl,by rw [acC];exact hl,hx⟩
   ·rintro _ ⟨n,ps,b,c,rfl,hl,hx⟩
    refine jF rfl (bF (aI rfl rfl (aI (n1 rfl rfl) rfl br)) t2) rfl (by simp;omega) ⟨_,rfl,n,rs++[(B[k],ps)],_,_,_,_,by rw [Ve];rfl,?_,λr hr=>?_⟩
    ·rw [Ve,hf,YD,U5 hk];rfl
    ·rcases Vj.mp hr with h | h
     ·exact hp r h
     ·rw [U4.mp h];exact ⟨by show ps.length<=16;omega,hx⟩
  rintro _ ⟨n,rs,x,a,b,c,rfl,hf2,hp2⟩
  rw [UR,Xn] at hf2
  exact bz (bF (aI rfl rfl (aI (n1 rfl rfl) rfl (aI (n1 rfl rfl) rfl br))) (by show 3<=1000;decide)) rfl ⟨_,rfl,ms,rs,rfl,hf,hf2,⟨hp,hp2⟩⟩
 obtain ⟨_,h,ms,rs,rfl,hk⟩:=key
 exact ⟨ms,rs,h,hk⟩
theorem L4 (n:Int) (k:Nat) (hk:k<=60):∃n',gG [.d (.int n),.d (.int k)]=.ok (.d (.int n')):=by
 have key:Wp (gG [.d (.int n),.d (.int k)]) λr=>∃n':Int,r=.d (.int n'):=by
  refine nk (bB rfl rfl (dY (iS (n:=k) rfl (by omega)) ?_))
  refine gF (n:=k) (λj env=>∃x:Option S,env=[some (.d (.int n)),some (.d (.int k)),some (.d (.int (2 ^ j))),x]) ⟨none,rfl⟩ ?_ ?_
  ·rintro j hj _ ⟨x,rfl⟩
   exact ⟨_,rfl,fX (two rfl rfl (iJ _ 2 (by decide) (by decide))) rfl ⟨_,rfl,some (.d (.int j)),by rw [Int.pow_succ];rfl⟩⟩
  ·rintro _ ⟨x,rfl⟩
   have p0:(0:Int) < 2 ^ k:=Int.pow_pos (by decide)
   have p1:(2:Int) ^ k < 2 ^ 200:=by
    have:(2:Nat) ^ k < 2 ^ 200:=Nat.pow_lt_pow_right (by decide) (by omega)
    exact_mod_cast this
   exact b8 (jb (c:=bu (.int (n / 2 ^ k % 2)) (.int 1)) (bH (two (two rfl rfl (rq n _ p0 p1)) rfl (cK _ 2 (by decide))) rfl rfl) (λ_=>bz (two rfl rfl (JS _ _)) rfl ⟨_,rfl,_,rfl⟩) λ_=>fU (bz (two rfl rfl (lW _ _)) rfl ⟨_,rfl,_,rfl⟩))
 obtain ⟨_,h,n',rfl⟩:=key
 exact ⟨n',h⟩
theorem Hv {ps:List Nat}{p:Nat}(hp:p < ps.length):aY (.l .own (ps.map dN)) (.d (dN p))=.ok (.d (dN (ps.getD p 0))):=
 mH (by rw [Vh,U5 hp];simp [aao,hp])
theorem L8 (u:Wd) (hu:BO u) (hb:Es 16 u) (h4:u.m<=4) (n:Int):∃ps:List Nat,fc [.d u.d,.d (.int n)]=.ok (.d (iM u ps).d):=by
 have ml:=hu.ml
 have al:=hu.al
 have key:Wp (fc [.d u.d,.d (.int n)]) λr=>∃ps:List Nat,r=.d (iM u ps).d:=by
  refine nk (bB (r:=.l .fresh ((UQ u.m).map dN)) (K81.Qq (cu (two rfl rfl (fN _ _))) (by omega)) rfl (bB rfl rfl (dY (iS (n:=u.m) (cu (two rfl rfl (fN _ _))) (by omega)) ?_)))
  refine gF (n:=u.m) (λk env=>∃(c:Int) (ls ps:List Nat) (x:Option S),env=[some (.d u.d),some (.d (.int c)),some (.own (ls.map dN)),some (.own (ps.map dN)),x,none,none,none,none,none]/\ls.length + k=u.m/\ps.length=k) ⟨n,UQ u.m,[],none,rfl,by simp,rfl⟩ ?_ ?_
  ·rintro k hk _ ⟨c,ls,ps,x,rfl,l1,l2⟩
   have hlen:(0:Int) < ((ls.map dN).length:Nat):=by simp;omega
   obtain ⟨j,hj,hjl⟩:=K33.iF c (ls.map dN).length (by simp;omega)
   have S_:j < ls.length:=by simpa using hjl
   refine ⟨_,rfl,b8 (Hy (k:=j) rfl rfl (by decide) ((two rfl (n1 rfl rfl) (cK _ _ hlen)).trans (by rw [hj])) hjl (by simp;omega) (by simp;omega) ?_)⟩
   refine fX (two rfl rfl (fm _ 5 (by decide) (by decide))) rfl ⟨_,rfl,c / 5,ls.eraseIdx j,ps++[ls[j]],some (.d (.int k)),?_,?_,?_⟩
   ·rw [Ve,V5,show (ls.eraseIdx j).map dN=(ls.map dN).eraseIdx j by simp [Zn,ZF,aaC]]
    rfl
   ·rw [abu,if_pos S_];omega
   ·rw [Vc];simp;omega
  rintro _ ⟨c,ls,ps,x,rfl,l1,l2⟩
  refine bB rfl rfl (dY (ds:=u.ms.map kG) ?_ ?_)
  ·show (g2 aY (af 0) (gC (.int 1)) _ >>= _)=_
   rw [two (x:=.d u.d) rfl rfl (FF _ _ _)]
   rfl
  refine kB (λk env=>∃(y z:Option S),env=[some (.d u.d),some (.d (.int c)),some (.own (ls.map dN)),some (.own (ps.map dN)),x,some (.own ((((iM u ps).ms).take k).map kG)),y,z,none,none]) _ ⟨none,none,rfl⟩ ?_ ?_
  ·rintro k hk _ ⟨y,z,rfl⟩
   rw [UR] at hk
   rw [V5]
   obtain ⟨h1,h2⟩:=hb.mp u.ms[k] (Vt hk)
   refine ⟨_,rfl,jF rfl (bF (aI rfl rfl (aI (n1 (n1 (jB (xs:=u.ms[k].2) (h:=dN) (λp=>dN (ps.getD p 0)) rfl (by omega) λp hp=>⟨_,two rfl rfl (Hv (by rw [l2];exact h2 p hp)),rfl⟩) (x:=.l .fresh (u.ms[k].2.map λp=>dN (ps.getD p 0))) (z:=.l .fresh (bW ((u.ms[k].2.map λp=>ps.getD p 0).map dN))) ?_) rfl) rfl br)) t2) rfl (by simp;omega) ⟨_,rfl,some (.d (.str u.ms[k].1)),some (.d (.tup (u.ms[k].2.map dN))),?_⟩⟩
   ·have:=Qy (u.ms[k].2.map λp=>ps.getD p 0) (by simp;omega)
    rw [Vr] at this ⊢
    exact this
   ·have hk':k < (iM u ps).ms.length:=by unfold iM;simpa using hk
    rw [YD,U5 hk',Ve]
    have e:(iM u ps).ms[k]=(u.ms[k].1,(bW ((u.ms[k].2.map λp=>ps.getD p 0).map dN)).map CL):=by unfold iM;simp
    show _=[_,_,_,_,_,some (S.own (_++[kG (iM u ps).ms[k]])),_,_,_,_]
    rw [e]
    unfold kG
    rw [ym dN CL PJ]
    rfl
  rintro _ ⟨y,z,rfl⟩
  rw [UR,show u.ms.length=(iM u ps).ms.length by unfold iM;simp,Xn]
  refine bB rfl rfl (dY (ds:=u.ar.map pL) ?_ ?_)
  ·show (g2 aY (af 0) (gC (.int 2)) _ >>= _)=_
   rw [two (x:=.d u.d) rfl rfl (MW _ _ _ _)]
   rfl
  refine kB (λk env=>∃(y a:Option S),env=[some (.d u.d),some (.d (.int c)),some (.own (ls.map dN)),some (.own (ps.map dN)),x,some (.own ((iM u ps).ms.map kG)),y,z,some (.own ((((iM u ps).ar).take k).map pL)),a]) _ ⟨y,none,rfl⟩ ?_ ?_
  ·rintro k hk _ ⟨y,a,rfl⟩
   rw [UR] at hk
   rw [V5]
   obtain ⟨h1,h2⟩:=hb.ap u.ar[k] (Vt hk)
   refine ⟨_,rfl,jF rfl (bF (aI rfl rfl (aI (n1 (n1 (oO (xs:=u.ar[k].2) (λp=>dN p.1) (λp=>dN p.2) (λp=>dP (ps.getD p.1 0,ps.getD p.2 0)) rfl (by omega) λp hp=>⟨_,bF (aI (two rfl rfl (Hv (by rw [l2];exact (h2 p hp).1))) rfl (aI (two rfl rfl (Hv (by rw [l2];exact (h2 p hp).2))) rfl br)) t2,rfl⟩) (x:=.l .fresh (u.ar[k].2.map λp=>dP (ps.getD p.1 0,ps.getD p.2 0))) (z:=.l .fresh (bW ((u.ar[k].2.map λp=>(ps.getD p.1 0,ps.getD p.2 0)).map dP))) ?_) rfl) rfl br)) t2) rfl (by simp;omega) ⟨_,rfl,some (.d (.str u.ar[k].1)),some (.d (.tup (u.ar[k].2.map dP))),?_⟩⟩
   ·have:=Qz (u.ar[k].2.map λp=>(ps.getD p.1 0,ps.getD p.2 0)) (by simp;omega)
    rw [Vr] at this ⊢
    exact this
   ·have hk':k < (iM u ps).ar.length:=by unfold iM;simpa using hk
    rw [YD,U5 hk',Ve]
    have e:(iM u ps).ar[k]=(u.ar[k].1,(bW ((u.ar[k].2.map λp=>(ps.getD p.1 0,ps.getD p.2 0)).map dP)).map Ba):=by unfold iM;simp
    show _=[_,_,_,_,_,_,_,_,some (S.own (_++[pL (iM u ps).ar[k]])),_]
    rw [e]
    unfold pL
    rw [ym dP Ba vN]
    rfl
  rintro _ ⟨y,a,rfl⟩
  rw [UR,show u.ar.length=(iM u ps).ar.length by unfold iM;simp,Xn]
  exact bz (bF (aI (two rfl rfl (fN _ _)) rfl (aI (n1 rfl rfl) rfl (aI (n1 rfl rfl) rfl br))) (by show 3<=1000;decide)) rfl ⟨_,rfl,ps,rfl⟩
 obtain ⟨_,h,ps,rfl⟩:=key
 exact ⟨ps,h⟩
end K72
namespace K72
open PySem DL K01 WP K51 K52 K55 K22 K33
open K23 (Pr iU jf aP o8 pg Good iT eK bH f6 d_ jQ fY)
noncomputable def mb (ch:List (List Nat)):Nat->List Nat->Option (List Nat)
 | 0,ah=>some ah
 | r + 1,ah=>(ch.getD ah.length []).findSome? λp=>if p∈ah then none else mb ch r (ah++[p])
theorem Cn {ch:List (List Nat)}:∀{r:Nat}{ah σ:List Nat},ah.Nodup->mb ch r ah=some σ->σ.Nodup/\σ.length=ah.length + r/\ah <+:σ/\∀i (hi:i < σ.length),ah.length<=i->σ[i]∈ch.getD i []
 | 0,ah,σ,nd,h=>by
  cases h
  exact ⟨nd,rfl,List.prefix_refl _,λi h1 h2=>absurd h2 (by omega)⟩
 | r + 1,ah,σ,nd,h=>by
  obtain ⟨p,h1,h2⟩:=List.exists_of_findSome?_eq_some h
  split at h2
  ·cases h2
  rename_i hp
  have nd':(ah++[p]).Nodup:=XM.mpr ⟨nd,WE _ _,λx hx y hy e=>hp (by rw [U4.mp hy] at e;exact e▸hx)⟩
  obtain ⟨a,b,c,d⟩:=Cn nd' h2
  rw [Vc,Yg] at b d
  refine ⟨a,by omega,(List.prefix_append _ _).trans c,λi hi hl=>?_⟩
  by_cases e:i=ah.length
  ·obtain ⟨t,rfl⟩:=c
   subst e
   simpa using h1
  ·exact d i hi (by omega)
theorem Cm {ch:List (List Nat)}:∀{r:Nat}{ah:List Nat},mb ch r ah=none->∀σ:List Nat,σ.Nodup->σ.length=ah.length + r->ah <+:σ->¬∀i (hi:i < σ.length),ah.length<=i->σ[i]∈ch.getD i []
 | 0,_,h,_,_,_,_,_=>by cases h
 | r + 1,ah,h,σ,nd,hl,hp,hc=>by
  obtain ⟨t,rfl⟩:=hp
  cases t with
  | nil=>simp at hl
  | cons p t=>
   have hm:p∈ch.getD ah.length []:=by
    have:=hc ah.length (by simp) (UX _)
    simpa using this
   have hn:p∉ah:=λz=>(XM.mp nd).2.2 p z p (by simp) rfl
   have:=List.findSome?_eq_none_iff.mp h p hm
   rw [if_neg hn] at this
   refine Cm this (ah++p::t) nd (by simp at hl ⊢;omega) ⟨t,by simp⟩ λi hi hl=>hc i hi (by simp at hl;omega)
abbrev tL (xs:List Nat):D:=.lst (xs.map dN)
noncomputable def oM:Option (List Nat)->D
 | none=>.non
 | some σ=>.tup (σ.map dN)
theorem IY (ch:List (List Nat)) (hc:ch.length<=10) (hr:∀r∈ch,r.length<=10):∀(f r:Nat) (ah:List Nat),ah.length + r=ch.length->r < f->eX f [.bor (ch.map tL),.d (.tup (ah.map dN))]=.ok (.d (oM (mb ch r ah)))
 | 0,_,_,_,h=>absurd h (by omega)
 | f + 1,r,ah,hl,h=>by
  have eqi:∀a b:Nat,cj false (.d (.int (a:Int))) (.d (.int (b:Int)))=.ok (.d (.bl (decide (a=b)))):=λa b=>by
   rw [K01.eq_int]
   congr 3
   show ((a:Int) == (b:Int))=_
   rw [Vy,beq_iff_eq,decide_eq_true_eq]
   omega
  have ht:bx (g2 (cj false) (gN eS (ao (af 1) aE)) (gN eS (ao (af 0) aE))) (aV nu [.bor (ch.map tL),.d (.tup (ah.map dN))])=.ok (decide (ah.length=ch.length)):=by
   refine bH (x:=.d (.int (ah.length:Nat))) (y:=.d (.int (ch.length:Nat))) (n1 rfl ?_) (n1 rfl ?_) (eqi _ _)
   ·show M.ok (R.d (.int ((ah.map dN).length:Nat)))=_;rw [UR]
   ·show M.ok (R.d (.int ((ch.map tL).length:Nat)))=_;rw [UR]
  cases r with
  | zero=>
   rw [decide_eq_true (by omega)] at ht
   exact bM (b8 (pq ht (bz rfl rfl rfl)))
  | succ r=>
   rw [decide_eq_false (by omega)] at ht
   have hlt:ah.length < ch.length:=by omega
   have hg:ch.getD ah.length []=ch[ah.length]:=by simp [aao,hlt]
   refine bM (ff ht ?_)
   have hit:fE (g2 aY (af 0) (gN eS (ao (af 1) aE))) (aV nu [.bor (ch.map tL),.d (.tup (ah.map dN))])=.ok (ch[ah.length].map dN):=by
    show (g2 aY _ _ _ >>= _)=_
    rw [two (y:=.d (.int (ah.length:Nat))) (z:=.d (tL ch[ah.length])) rfl (n1 rfl (by show M.ok (R.d (.int ((ah.map dN).length:Nat)))=_;rw [UR])) (mH (m:=.bor) (by rw [Vh,U5 hlt];rfl))]
    rfl
   refine dY hit ?_
   unfold mb
   rw [hg]
   have key:∀(xs:List Nat) (z y:Option S),Wp (fh (aC 2) (bK (bx (g2 (fB true) (af 2) (af 1))) (aH (bg 3 (gN (aN 2 (eX f)) (ao (af 0) (ao (g2 cX (af 1) (bE (aA (af 2) aT))) aE))))
     (bK (bx (g2 (gZ true) (af 3) (gC .non))) (bf (af 3)) cL)) cL) (xs.map dN) [some (.bor (ch.map tL)),some (.d (.tup (ah.map dN))),z,y]) λo=>match xs.findSome? λp=>if p∈ah then none else mb ch r (ah++[p]) with
      | some σ=>o=.rt (.d (oM (some σ)))
      | none=>∃e,o=.nx e:=by
    intro xs
    induction xs with
    | nil=>exact λz y=>⟨_,rfl,_,rfl⟩
    | cons p xs ih=>
     intro z y
     rw [U_,List.findSome?_cons]
     show Wp (aC 2 (dN p) _ >>= _) _
     rw [show aC 2 (dN p) [some (.bor (ch.map tL)),some (.d (.tup (ah.map dN))),z,y]=.ok [some (.bor (ch.map tL)),some (.d (.tup (ah.map dN))),some (.d (dN p)),y] from rfl,aS]
     have hin:bx (g2 (fB true) (af 2) (af 1)) [some (.bor (ch.map tL)),some (.d (.tup (ah.map dN))),some (.d (dN p)),y]=.ok (!decide (p∈ah)):=by
      refine bH rfl rfl ((vn true (dN p) (ah.map dN) (Ac ah) (by show (0:Nat)<=60;decide)).trans ?_)
      rw [K55.inN];rfl
     by_cases hp:p∈ah
     ·rw [decide_eq_true hp] at hin
      rw [lM hin,if_pos hp]
      exact ih _ _
     ·rw [decide_eq_false hp] at hin
      rw [jV hin,if_neg hp]
      have SY:cX (.d (.tup (ah.map dN))) (.d (.tup [dN p]))=.ok (.d (.tup ((ah++[p]).map dN))):=by rw [Eh _ _ (by simp;omega),Ve];rfl
      have hrec:=IY ch hc hr f r (ah++[p]) (by simp;omega) (by omega)
      have hs:bg 3 (gN (aN 2 (eX f)) (ao (af 0) (ao (g2 cX (af 1) (bE (aA (af 2) aT))) aE))) [some (.bor (ch.map tL)),some (.d (.tup (ah.map dN))),some (.d (dN p)),y]=.ok (.nx [some (.bor (ch.map tL)),some (.d (.tup (ah.map dN))),some (.d (dN p)),some (.d (oM (mb ch r (ah++[p]))))]):=by
       show (gN _ _ _ >>= _)=_
       rw [c2 rfl (two rfl (bF (aI rfl rfl br) (by show 1<=1000;decide)) SY) hrec]
       rfl
      rw [Oc hs]
      cases q:mb ch r (ah++[p]) with
      | none=>
       rw [lM (show bx (g2 (gZ true) (af 3) (gC .non)) _=.ok false from rfl)]
       exact ih _ _
      | some σ=>
       rw [jV (show bx (g2 (gZ true) (af 3) (gC .non)) _=.ok true from rfl)]
       exact ⟨_,rfl,rfl⟩
   refine (key _ none none).mono λo ho=>?_
   cases q:ch[ah.length].findSome? λp=>if p∈ah then none else mb ch r (ah++[p]) with
   | some σ=>rw [q] at ho;rw [ho]
   | none=>
    rw [q] at ho
    obtain ⟨e,rfl⟩:=ho
    exact bz rfl rfl rfl
section
variable {v w:Wd}{B C k:Ps}{j n:Nat}{L L':Ps->Bool}
noncomputable def mD (v w:Wd) (L:Ps->Bool) (k:Ps):List (List Nat):=(UQ v.m).map λa=>(UQ w.m).filter λb=>decide (v.m=w.m) && (decide (bL k (a,b)∈T4 v w) && L (bL k (a,b)))
def iL (v w:Wd) (L:Ps->Bool) (k:Ps):Bool:=(mb (mD v w L k) v.m []).isSome
structure Mp (v w:Wd) (L:Ps->Bool) (k:Ps) (σ:List Nat):Prop where
 m:v.m=w.m
 nd:σ.Nodup
 len:σ.length=v.m
 at_:∀a (h:a < σ.length),σ[a] < w.m/\bL k (a,σ[a])∈T4 v w/\L (bL k (a,σ[a]))=true
theorem E2 {a:Nat}(ha:a < v.m):(mD v w L k).getD a []=(UQ w.m).filter λb=>decide (v.m=w.m) && (decide (bL k (a,b)∈T4 v w) && L (bL k (a,b))):=by
 unfold mD
 simp [aao,ha]
theorem OT (t:Pr v w){σ:List Nat}(h:mb (mD v w L k) v.m []=some σ):Mp v w L k σ:=by
 obtain ⟨a,b,_,d⟩:=Cn Xw h
 have b:σ.length=v.m:=by simpa using b
 have e:∀i (hi:i < σ.length),v.m=w.m/\σ[i] < w.m/\bL k (i,σ[i])∈T4 v w/\L (bL k (i,σ[i]))=true:=λi hi=>by
  have:=d i hi (Vl _)
  rw [E2 (by omega),VI,UT,UT,decide_eq_true_eq,decide_eq_true_eq,U1] at this
  exact ⟨this.2.1,this.1,this.2.2⟩
 have lo:=t.vo.lo
 exact ⟨(e 0 (by omega)).1,a,b,λi hi=>(e i hi).2⟩
theorem A7 (t:Pr v w):iL v w L k=true↔∃σ,Mp v w L k σ:=by
 unfold iL
 constructor
 ·intro h
  obtain ⟨σ,h⟩:=VV.mp h
  exact ⟨σ,OT t h⟩
 ·rintro ⟨σ,m⟩
  cases q:mb (mD v w L k) v.m [] with
  | some _=>rfl
  | none=>
   refine absurd (λi hi _=>?_) (Cm q σ m.nd (by simpa using m.len) (List.nil_prefix))
   rw [E2 (by have:=m.len;omega),VI,UT,UT,decide_eq_true_eq,decide_eq_true_eq,U1]
   obtain ⟨a,b⟩:=m.at_ i hi
   exact ⟨a,m.m,b⟩
def Lc (v w:Wd) (j:Nat) (ps:Ps):Bool:=LZ (iL v w) j ps
theorem tY (t:Pr v w):Lc v w (j + 1) k=true↔Lc v w j k=true/\∃σ,Mp v w (Lc v w j) k σ:=zx.trans (and_congr aej (A7 t))
theorem zB (t:Pr v w) (hm:w.m=v.m){σ:List Nat}(i:K23.zw v w σ):∀(j:Nat) (B:Ps),(∀p∈B,p∈iU σ)->Lc v w j B=true
 | 0,_,_=>rfl
 | j + 1,B,hs=>by
  have g:=pg hm i
  refine (tY t).mpr ⟨zB t hm i j B hs,σ,hm.symm,i.nd,i.len,λa ha=>?_⟩
  have hz:(a,σ[a])∈iU σ:=jf.mpr ⟨ha,rfl⟩
  have hs':∀p∈B++[(a,σ[a])],p∈iU σ:=λp hp=>by
   rcases Vj.mp hp with h | h
   ·exact hs p h
   ·rw [U4.mp h];exact hz
  refine ⟨by rw [hm];exact i.rg _ (Vt ha),(Jh t).mpr (zu.sub ⟨g.ag,g.rg⟩ hs'),zB t hm i j _ λp hp=>?_⟩
  rw [gT] at hp
  rcases hp with h | h
  ·exact hs p h
  ·rw [h];exact hz
theorem zA (t:Pr v w):∀(xs:List Nat) (n:Nat) (ps:Ps),(∀x∈xs,x < v.m)->Good v w ps->xs.length<=n->Lc v w n ps=true->∃qs,Good v w qs/\(∀p∈ps,p∈qs)/\∀x∈xs,∃p∈qs,p.1=x
 | [],_,ps,_,g,_,_=>⟨ps,g,λ_ h=>h,λ_ h=>nomatch h⟩
 | x::xs,0,_,_,_,h,_=>absurd h (by simp)
 | x::xs,n + 1,ps,hx,g,hn,h=>by
  obtain ⟨_,σ,m⟩:=(tY t).mp h
  obtain ⟨a1,a2,a3⟩:=m.at_ x (by have:=m.len;have:=hx x (by simp);omega)
  obtain ⟨qs,g',h1,h2⟩:=zA t xs n (bL ps (x,σ[x]'(by have:=m.len;have:=hx x (by simp);omega))) (λy hy=>hx y (by simp [hy])) ((jG t).mp a2) (by simpa using hn) a3
  refine ⟨qs,g',λp hp=>h1 p (gT.mpr (.inl hp)),λy hy=>?_⟩
  rcases U8.mp hy with rfl | hy
  ·exact ⟨_,h1 _ (gT.mpr (.inr rfl)),rfl⟩
  ·exact h2 y hy
theorem JY (t:Pr v w) (g:Good v w B) (hn:v.m<=n) (h:Lc v w n B=true):w.m=v.m/\∃σ,K23.zw v w σ/\∀p∈B,p∈iU σ:=by
 have lo:=t.vo.lo
 have hm:w.m=v.m:=by
  obtain ⟨n',rfl⟩:∃n',n=n' + 1:=⟨n - 1,by omega⟩
  obtain ⟨_,σ,m⟩:=(tY t).mp h
  exact m.m.symm
 obtain ⟨qs,g',h1,h2⟩:=zA t (UQ v.m) n B (λx hx=>U1.mp hx) g (by simpa using hn) h
 have l1:v.m<=qs.length:=many (s:=0) λx hx=>h2 x (U1.mpr hx)
 have l2:qs.length<=v.m:=o9 g'
 obtain ⟨z,j⟩:=o8 hm g' (by omega)
 exact ⟨hm,_,j,λp hp=>z▸h1 p hp⟩
theorem Eu (t:Pr v w) (g:Good v w B) (hn:v.m<=n) (h:Lc v w n B=true) (j:Nat):Lc v w j B=true:=by
 obtain ⟨hm,σ,i,hs⟩:=JY t g hn h
 exact zB t hm i j B hs
end
end K72
namespace K72
open PySem DL K01 WP K51 K52 K55 K22 K33
open K23 (Pr iU jf aP o8 pg Good iT eK bH f6 d_ jQ fY ne_int g8 dc)
section
variable {v w:Wd}{B k:Ps}
def jE (v w:Wd) (k:Ps) (a:Nat):List Ps:=if v.m=w.m then (UQ w.m).map λb=>bL k (a,b) else []
abbrev qH (v w:Wd) (k:Ps):List D:=(UQ v.m).map λa=>jI (jE v w k a)
theorem L5 (t:Pr v w) (k:Ps) (hl:k.length < 63):oH [.d v.d,.d w.d,.d (aP k)]=.ok (.l .fresh (qH v w k)):=by
 have v4:=t.v4
 have w4:=t.w4
 have hr:∀env:Ev,af 0 env=.ok (.d v.d)->bR (ao (g2 aY (af 0) (gC (.int 0))) aE) env=.ok ((UQ v.m).map dN):=λenv he=>jH (cu (two he rfl (fN _ _))) (by omega)
 by_cases hm:v.m=w.m
 ·refine bM (ff (bH (b:=false) (two rfl rfl (fN _ _)) (two rfl rfl (fN _ _)) ?_) (bz (jB (xs:=UQ v.m) (h:=dN) (λa=>jI (jE v w k a)) (hr _ rfl) (by simp;omega) λa _=>⟨_,jB (xs:=UQ w.m) (h:=dN) (λb=>aP (bL k (a,b))) (jH (cu (two rfl rfl (fN _ _))) (by omega)) (by simp;omega) λb _=>⟨_,c2 rfl (bF (aI rfl rfl (aI rfl rfl br)) t2) (BC k (a,b) hl),rfl⟩,?_⟩) rfl rfl))
  ·show cj true (.d (.int (v.m:Nat))) (.d (.int (w.m:Nat)))=_
   rw [ne_int,hm];simp
  ·show M.ok (D.lst ((UQ w.m).map λb=>aP (bL k (a,b))))=M.ok (jI (jE v w k a))
   unfold jE
   rw [if_pos hm,jI,Vr];rfl
 ·refine bM (b8 (pq (bH (b:=true) (two rfl rfl (fN _ _)) (two rfl rfl (fN _ _)) ?_) (bz (jB (xs:=UQ v.m) (h:=dN) (λa=>jI (jE v w k a)) (hr _ rfl) (by simp;omega) λa _=>⟨_,ig br (by decide),?_⟩) rfl rfl)))
  ·show cj true (.d (.int (v.m:Nat))) (.d (.int (w.m:Nat)))=_
   rw [ne_int,beq_eq_false_iff_ne.mpr hm];rfl
  ·unfold jE
   rw [if_neg hm];rfl
theorem En (t:Pr v w) (k:Ps) (ks:List Ps) (f:Ps->Option Nat) (j:Nat) (x:S) (hx:x=.d (.lst (qH v w k))\/x=.bor (qH v w k)):
  j5 [x,.db (ks.map aP) (ks.map λk=>dV (f k)),.d (.int j)]=.ok (.l .fresh (((UQ v.m).map λa=>(UQ w.m).filter λb=>decide (v.m=w.m) && (decide (bL k (a,b)∈ks) && mU (f (bL k (a,b))) j)).map tL)):=by
 have v4:=t.v4
 have w4:=t.w4
 rw [Vr]
 refine bM (bz (jB (xs:=UQ v.m) (h:=λa=>jI (jE v w k a)) (tL ∘ λa=>(UQ w.m).filter λb=>decide (v.m=w.m) && (decide (bL k (a,b)∈ks) && mU (f (bL k (a,b))) j)) (by rcases hx with rfl | rfl <;> rfl) (by simp;omega) λa _=>?_) rfl rfl)
 by_cases hm:v.m=w.m
 ·refine ⟨_,Ab (xs:=UQ w.m) dN (λb=>aP (bL k (a,b))) (λb=>decide (bL k (a,b)∈ks) && mU (f (bL k (a,b))) j) dN ?_ (by simp;omega) λb _=>⟨eK (c3 rfl rfl rfl (IX ks f (bL k (a,b)) j)),λ_=>⟨_,rfl,rfl⟩⟩,?_⟩
  ·show M.ok (mF ((jE v w k a).map aP))=_
   unfold jE mF
   rw [if_pos hm]
   congr 1
   refine W5 (by simp) λi h1 h2=>?_
   simp
  ·show M.ok (D.lst _)=M.ok (D.lst _)
   congr 2
   show _=((UQ w.m).filter _).map dN
   rw [decide_eq_true hm]
   congr 1
 ·refine ⟨.l .fresh [],?_,?_⟩
  ·refine (Ab (xs:=([]:List Nat)) dN dN (λ_=>true) dN ?_ (by decide) λb hb=>nomatch hb).trans rfl
   show M.ok (mF ((jE v w k a).map aP))=_
   unfold jE
   rw [if_neg hm];rfl
  ·show M.ok (D.lst [])=M.ok (D.lst _)
   congr 2
   show []=((UQ w.m).filter _).map dN
   rw [decide_eq_false hm]
   simp
theorem zm (t:Pr v w) (k:Ps) (ks:List Ps) (d:Nat) (hd:d<=6) (hk:∀p,bL k p∈ks↔bL k p∈T4 v w):fF [.d (.lst (qH v w k)),.db (ks.map aP) (ks.map λk=>dV (dZ (iL v w) d k))]=.ok (.d (.bl (iL v w (LZ (iL v w) d) k))):=by
 have v4:=t.v4
 have w4:=t.w4
 have e:((UQ v.m).map λa=>(UQ w.m).filter λb=>decide (v.m=w.m) && (decide (bL k (a,b)∈ks) && mU (dZ (iL v w) d (bL k (a,b))) 6))=mD v w (LZ (iL v w) d) k:=by
  unfold mD
  refine Wx λa _=>Zp λb _=>?_
  rw [show decide (bL k (a,b)∈ks)=decide (bL k (a,b)∈T4 v w) from decide_eq_decide.mpr (hk _)]
  congr 2
  cases q:dZ (iL v w) d (bL k (a,b)) with
  | none=>exact (jk.mp q).symm
  | some e=>
   obtain ⟨h1,h2,_⟩:=B3 q
   have h3:LZ (iL v w) d (bL k (a,b))=false:=by
    cases z:LZ (iL v w) d (bL k (a,b)) with
    | false=>rfl
    | true=>rw [rE h2 z] at h1;cases h1
   rw [h3]
   exact decide_eq_false (by omega)
 have hc:=En t k ks (dZ (iL v w) d) 6 (.d (.lst (qH v w k))) (.inl rfl)
 rw [e] at hc
 have lc:(mD v w (LZ (iL v w) d) k).length=v.m:=by unfold mD;simp
 have hM:=IY (mD v w (LZ (iL v w) d) k) (by omega) (λr hr=>by
  unfold mD at hr
  obtain ⟨a,_,rfl⟩:=UY.mp hr
  refine Vq (V0 _ _) ?_
  simp;omega) 6 v.m [] (by simpa using lc.symm) (by omega)
 refine bM (bz (r:=.d (.bl (iL v w (LZ (iL v w) d) k))) (two (c2 (c3 rfl rfl rfl hc) (bF br (by decide)) hM) rfl ?_) rfl rfl)
 show gZ true (.d (oM (mb (mD v w (LZ (iL v w) d) k) v.m []))) (.d .non)=.ok (.d (.bl (mb (mD v w (LZ (iL v w) d) k) v.m []).isSome))
 cases mb (mD v w (LZ (iL v w) d) k) v.m [] <;> rfl
theorem AB (hk:k∈kn v w B) (p:Nat×Nat):bL k p∈kn v w B↔bL k p∈T4 v w:=by
 rw [ir]
 exact ⟨λh=>h.1,λh=>⟨h,λq hq=>gT.mpr (.inl ((ir.mp hk).2 q hq))⟩⟩
def xw (v w:Wd) (j:Nat):D:=jI ((T4 v w).filter (Lc v w j))
end
end K72
namespace K72
open PySem DL K01 WP K51 K52 K55
open K23 (iT eK bH Pr)
structure Pn (v w:Wd):Prop where
 t:Pr v w
 mn:(v.ms.map VC).Nodup
 an:(v.ar.map VC).Nodup
theorem Q4 {f:List R->M R}{env:Ev}{g h:G R}{x y z:R}(hx:g env=.ok x) (hy:h env=.ok y) (hf:f [x,y]=.ok z):gN f (ao g (ao h aE)) env=.ok z:=by
 show (ao g (ao h aE) env >>= f)=_
 unfold ao aE
 rw [hx,hy]
 exact hf
theorem xy (ss:List Str) (a:Nat) (h:a<=ss.length):Al (.l .fresh (ss.map .str)) none (some (a:Int))=.ok (.l .fresh ((ss.take a).map .str)):=by
 show M.ok (R.l .fresh (cutD (ss.map D.str) none (some (a:Int))))=_
 rw [MA _ _ (by simpa using h),ZF]
theorem IP (u:Wd) (ps:List Nat):(iM u ps).ms.map VC=u.ms.map VC/\(iM u ps).ar.map VC=u.ar.map VC:=by
 unfold iM
 simp only [Vr]
 exact ⟨rfl,rfl⟩
theorem zf {m m':Nat}{ms ms':List (Str×List Nat)}{rs rs':List (Str×List (Nat×Nat))}{A B:List Str}(h1:1<=m) (h2:m<=4) (h3:1<=m') (h4:m'<=4) (e1:ms.map VC=A) (e2:rs.map VC=B) (e3:ms'.map VC=A) (e4:rs'.map VC=B) (lA:A.length<=3) (lB:B.length<=3) (nA:A.Nodup) (nB:B.Nodup):Pn ⟨m,ms,rs⟩ ⟨m',ms',rs'⟩:=by
 have q1:=congrArg Ww e1
 have q2:=congrArg Ww e2
 have q3:=congrArg Ww e3
 have q4:=congrArg Ww e4
 rw [UR] at q1 q2 q3 q4
 exact ⟨⟨⟨h1,by show m<=8;omega,by show ms.length<=3;omega,by show rs.length<=3;omega⟩,⟨h3,by show m'<=8;omega,by show ms'.length<=3;omega,by show rs'.length<=3;omega⟩,h2,h4,e1.trans e3.symm,e2.trans e4.symm⟩,e1.symm▸nA,e2.symm▸nB⟩
theorem OD (c:Int) (sz:List Nat) (hz:1<=sz.length) (hs:∀n∈sz,1<=n/\n<=4):∃v w:Wd,kg [.d (.int c),.d (.lst (sz.map dN))]=.ok (.d (.tup [v.d,w.d]))/\Pn v w:=by
 have key:Wp (kg [.d (.int c),.d (.lst (sz.map dN))]) λr=>∃v w:Wd,r=.d (.tup [v.d,w.d])/\Pn v w:=by
  obtain ⟨xs,hx,lx,px⟩:=L6 c
  obtain ⟨X,hX⟩:∃X:Nat->Int,∀i,X i=xs.getD i 0:=⟨_,λ_=>rfl⟩
  have xi:∀(i:Nat),i < 7->∀env:Ev,af 2 env=.ok (.l .own (xs.map .int))->g2 aY (af 2) (gC (.int i)) env=.ok (.d (.int (X i))):=λi hi env he=>two he rfl (mH (by rw [hX,Vh,U5 (by omega)];simp [aao,show i < xs.length by omega]))
  have xp:∀i,0<=X i:=λi=>by
   rw [hX,Wg]
   cases q:xs[i]? with
   | none=>exact Int.le_refl _
   | some y=>exact px y (VS q)
  have x0:=xp 0
  have x2:=xp 2
  refine nk (bB (c2 rfl rfl hx) rfl ?_)
  obtain ⟨a,ha,S4⟩:=qK (xs:=[0,1,1,2,1,3]) (h:=dN) (.l .fresh (([0,1,1,2,1,3]:List Nat).map dN)) rfl (X 1 % 6) (by omega) (by show _ < (6:Int);omega)
  have Uv:a<=3:=by simp at ha;omega
  obtain ⟨A0,TN,lA0,nA0⟩:=BF (X 0) x0
  refine bB (se (c2 (xi 0 (by decide) _ rfl) rfl TN) rfl (rZ (two (ig rfl (by show 6<=1000;decide)) (two (xi 1 (by decide) _ rfl) rfl (cK _ 6 (by decide))) S4)) (xy A0 a (by omega))) rfl ?_
  obtain ⟨A,hA⟩:∃A,A=A0.take a:=⟨_,rfl⟩
  have lA:A.length<=3:=by rw [hA,Wc];omega
  have nA:A.Nodup:=hA▸(Zf a A0).nodup nA0
  rw [<-hA]
  obtain ⟨n2,_,hn2⟩:=qK (xs:=[X 2,X 0]) (h:=D.int) (.l .fresh [.int (X 2),.int (X 0)]) rfl (X 1 / 6 % 4 / 3) (by omega) (by show _ < (2:Int);omega)
  have n2p:0<=n2:=by
   rename_i h
   simp at h
   rcases h with rfl | rfl
   ·exact x2
   ·exact x0
  obtain ⟨b,hb,T9⟩:=qK (xs:=[1,1,2,0,1,3]) (h:=dN) (.l .fresh (([1,1,2,0,1,3]:List Nat).map dN)) rfl (X 1 / 24 % 6) (by omega) (by show _ < (6:Int);omega)
  have Uw:b<=3:=by simp at hb;omega
  obtain ⟨B0,TQ,lB0,nB0⟩:=BF n2 n2p
  refine bB (se (c2 (two (ig (aI (xi 2 (by decide) _ rfl) rfl (aI (xi 0 (by decide) _ rfl) rfl br)) (by show 2<=1000;decide)) (two (two (two (xi 1 (by decide) _ rfl) rfl (fm _ 6 (by decide) (by decide))) rfl (cK _ 4 (by decide))) rfl (fm _ 3 (by decide) (by decide))) hn2) rfl TQ) rfl (rZ (two (ig rfl (by show 6<=1000;decide)) (two (two (xi 1 (by decide) _ rfl) rfl (fm _ 24 (by decide) (by decide))) rfl (cK _ 6 (by decide))) T9)) (xy B0 b (by omega))) rfl ?_
  obtain ⟨B,hB⟩:∃B,B=B0.take b:=⟨_,rfl⟩
  have lB:B.length<=3:=by rw [hB,Wc];omega
  have nB:B.Nodup:=hB▸(Zf b B0).nodup nB0
  rw [<-hB]
  have zp:(0:Int) < (sz.length:Nat):=by omega
  have len:∀env:Ev,af 1 env=.ok (.d (.lst (sz.map dN)))->gN eS (ao (af 1) aE) env=.ok (.d (.int (sz.length:Nat))):=λenv he=>n1 he (by show M.ok (R.d (.int ((sz.map dN).length:Nat)))=_;rw [UR])
  have pick:∀i:Int,∃m,1<=m/\m<=4/\aY (.d (.lst (sz.map dN))) (.d (.int (i % (sz.length:Nat))))=.ok (.d (dN m)):=λi=>by
   obtain ⟨m,hm,e⟩:=qK (xs:=sz) (h:=dN) (.d (.lst (sz.map dN))) rfl (i % (sz.length:Nat)) (Za _ (by omega)) (Y6 _ zp)
   exact ⟨m,(hs m hm).1,(hs m hm).2,e⟩
  obtain ⟨m,m1,m4,hm⟩:=pick (X 1 / 144)
  refine bB (two rfl (two (two (xi 1 (by decide) _ rfl) rfl (fm _ 144 (by decide) (by decide))) (len _ rfl) (cK _ _ zp)) hm) rfl ?_
  obtain ⟨f,_,hf⟩:=qK (xs:=[0,2 ^ 60 - 1,X 3,X 3,X 3,X 3]) (h:=D.int) (.l .fresh (([0,2 ^ 60 - 1,X 3,X 3,X 3,X 3]:List Int).map D.int)) rfl (X 1 / 10000 % 6) (by omega) (by show _ < (6:Int);omega)
  refine bB (two (ig (aI rfl rfl (aI (two rfl rfl (JS (2 ^ 60) 1)) rfl (aI (xi 3 (by decide) _ rfl) rfl (aI (xi 3 (by decide) _ rfl) rfl (aI (xi 3 (by decide) _ rfl) rfl (aI (xi 3 (by decide) _ rfl) rfl br)))))) (by show 6<=1000;decide)) (two (two (xi 1 (by decide) _ rfl) rfl (fm _ 10000 (by decide) (by decide))) rfl (cK _ 6 (by decide))) hf) rfl ?_
  obtain ⟨ms,rs,hw,e1,e2,ib⟩:=BI m m4 A B lA lB f
  have world:∀(m:Nat),1<=m->m<=4->∀n:Int,∃ms rs,dU [.d (.int m),.d (.lst (A.map .str)),.d (.lst (B.map .str)),.d (.int n)]=.ok (.d (Wd.d ⟨m,ms,rs⟩))/\ms.map VC=A/\rs.map VC=B/\Es 16 ⟨m,ms,rs⟩:=λm _ h n=>BI m h A B lA lB n
  have turn:∀{ms rs},ms.map VC=A->rs.map VC=B->Es 16 ⟨m,ms,rs⟩->∃ms' rs',fc [.d (Wd.d ⟨m,ms,rs⟩),.d (.int (X 5))]=.ok (.d (Wd.d ⟨m,ms',rs'⟩))/\ms'.map VC=A/\rs'.map VC=B:=fun {ms rs} h1 h2 h3=>by
   have q1:=congrArg Ww h1
   have q2:=congrArg Ww h2
   rw [UR] at q1 q2
   obtain ⟨ps,hp⟩:=L8 ⟨m,ms,rs⟩ ⟨m1,by show m<=8;omega,by show ms.length<=3;omega,by show rs.length<=3;omega⟩ h3 m4 (X 5)
   obtain ⟨t1,t2⟩:=IP ⟨m,ms,rs⟩ ps
   exact ⟨_,_,hp,t1.trans h1,t2.trans h2⟩
  refine b8 (sf rfl (sf rfl (fX (c4 rfl rfl rfl rfl hw) rfl (bB (two (xi 4 (by decide) _ rfl) rfl (cK _ 5 (by decide))) rfl ?_))))
  refine b8 (jb (c:=bu (.int (X 4 % 5)) (.int 0)) (bH rfl rfl rfl) (λ_=>?_) λ_=>fU ?_)
  ·obtain ⟨ms',rs',ht,t1,t2⟩:=turn e1 e2 ib
   exact bz (bF (aI rfl rfl (aI (c2 rfl (xi 5 (by decide) _ rfl) ht) rfl br)) (by show 2<=1000;decide)) rfl ⟨_,rfl,_,_,rfl,zf m1 m4 m1 m4 e1 e2 t1 t2 lA lB nA nB⟩
  refine b8 (jb (c:=bu (.int (X 4 % 5)) (.int 1)) (bH rfl rfl rfl) (λ_=>?_) λ_=>fU ?_)
  ·have Sv:m * m<=16:=X8 m4 m4
   have q1:m * A.length<=12:=X8 m4 lA
   have q2:m * m * B.length<=48:=X8 Sv lB
   obtain ⟨bt,TZ,b1,b60⟩:∃bt:Nat,DB [.d (.int 1),.d (.int ((m:Int) * (A.length:Nat) + (m:Int) * m * (B.length:Nat)))]=.ok (.d (.int (bt:Int)))/\1<=bt/\bt<=60:=by
    refine ⟨max 1 (m * A.length + m * m * B.length),?_,by omega,by omega⟩
    show M.ok (R.d (.int (if (m:Int) * (A.length:Nat) + (m:Int) * m * (B.length:Nat) > 1 then (m:Int) * (A.length:Nat) + (m:Int) * m * (B.length:Nat) else 1)))=_
    rw [show (m:Int) * (A.length:Nat) + (m:Int) * m * (B.length:Nat)=((m * A.length + m * m * B.length:Nat):Int) by simp]
    congr 3
    split <;> omega
   obtain ⟨k,hk,Uy⟩:=K33.iF (X 4 / 5) bt (by omega)
   have hix:∀env:Ev,af 2 env=.ok (.l .own (xs.map .int))->af 9 env=.ok (.d (.int (bt:Int)))->g2 cV (g2 fC (g2 aY (af 2) (gC (.int 4))) (gC (.int 5))) (af 9) env=.ok (.d (.int (k:Int))):=λenv h2 h9=>(two (two (xi 4 (by decide) env h2) rfl (fm _ 5 (by decide) (by decide))) h9 (cK _ _ (by omega))).trans (by rw [hk])
   obtain ⟨f',hf'⟩:=L4 f k (by omega)
   obtain ⟨ms2,rs2,SI,g1,g2',ib2⟩:=world m m1 m4 f'
   obtain ⟨ms',rs',ht,t1,t2⟩:=turn g1 g2' ib2
   have lnA:∀env:Ev,af 3 env=.ok (.d (.lst (A.map .str)))->gN eS (ao (af 3) aE) env=.ok (.d (.int (A.length:Nat))):=λenv he=>n1 he (by show M.ok (R.d (.int ((A.map D.str).length:Nat)))=_;rw [UR])
   have lnB:∀env:Ev,af 4 env=.ok (.d (.lst (B.map .str)))->gN eS (ao (af 4) aE) env=.ok (.d (.int (B.length:Nat))):=λenv he=>n1 he (by show M.ok (R.d (.int ((B.map D.str).length:Nat)))=_;rw [UR])
   exact bB (Q4 rfl (two (two rfl (lnA _ rfl) (iJ _ _ (by omega) (by omega))) (two (two rfl rfl (iJ _ _ (by omega) (by omega))) (lnB _ rfl) (iJ _ _ (by omega) (by omega))) (lW _ _)) TZ) rfl (bB (c4 rfl rfl rfl (c2 rfl (hix _ rfl rfl) hf') SI) rfl (bz (bF (aI rfl rfl (aI (c2 rfl (xi 5 (by decide) _ rfl) ht) rfl br)) (by show 2<=1000;decide)) rfl ⟨_,rfl,_,_,rfl,zf m1 m4 m1 m4 e1 e2 t1 t2 lA lB nA nB⟩))
  obtain ⟨m',m1',m4',hm'⟩:=pick (X 6)
  refine bB (two rfl (two (xi 6 (by decide) _ rfl) (len _ rfl) (cK _ _ zp)) hm') rfl ?_
  refine b8 (jb (c:=bu (.int (X 4 % 5)) (.int 2)) (bH rfl rfl rfl) (λ_=>?_) λ_=>fU ?_)
  ·obtain ⟨ms2,rs2,SI,g1,g2',ib2⟩:=world m' m1' m4' f
   exact bz (bF (aI rfl rfl (aI (c4 rfl rfl rfl rfl SI) rfl br)) (by show 2<=1000;decide)) rfl ⟨_,rfl,_,_,rfl,zf m1 m4 m1' m4' e1 e2 g1 g2' lA lB nA nB⟩
  ·obtain ⟨ms2,rs2,SI,g1,g2',ib2⟩:=world m' m1' m4' (X 5)
   exact bz (bF (aI rfl rfl (aI (c4 rfl rfl rfl (xi 5 (by decide) _ rfl) SI) rfl br)) (by show 2<=1000;decide)) rfl ⟨_,rfl,_,_,rfl,zf m1 m4 m1' m4' e1 e2 g1 g2' lA lB nA nB⟩
 obtain ⟨_,h,v,w,rfl,hk⟩:=key
 exact ⟨v,w,h,hk⟩
end K72
namespace K72
open PySem DL K01 WP K51 K52 K55 K22
open K23 (iT eK bH Pr aP f6 d_ Good g9 prs gb LG told dQ iY oJ lE qE k_ lN pP ji jj vt fs DP)
section
variable {α:Type} [BEq α] [LawfulBEq α] {h:α->D}
noncomputable def nL (UI:List (Str×List α)) (nm:Str) (x:α):Bool:=match UI.find? λr=>decide (r.1=nm) with
 | some r=>decide (x∈r.2)
 | none=>false
theorem eq_str (a b:Str):bu (.str a) (.str b)=decide (a=b):=by
 unfold bu
 rw [Vy,beq_iff_eq,decide_eq_true_eq]
theorem LX (hin:∀(x:α) (xs:List α),fB false (.d (h x)) (.d (.tup (xs.map h)))=.ok (.d (.bl (decide (x∈xs))))) (UI:List (Str×List α)) (nm:Str) (x:α):
  lC [.d (.tup (UI.map λr=>.tup [.str r.1,.tup (r.2.map h)])),.d (.str nm),.d (h x)]=.ok (.d (.bl (nL UI nm x))):=by
 refine bM (dY (ds:=UI.map λr=>.tup [.str r.1,.tup (r.2.map h)]) rfl ?_)
 obtain ⟨R0,TX⟩:∃R0:S,R0=.d (.tup (UI.map λr=>.tup [.str r.1,.tup (r.2.map h)])):=⟨_,rfl⟩
 have key:∀(rs:List (Str×List α)) (a b:Option S),Wp (fh (c7 2 (bA (aC 3) (bA (aC 4) dB))) (bK (bx (g2 (cj false) (af 3) (af 1))) (bf (g2 (fB false) (af 2) (af 4))) cL) (rs.map λr=>.tup [.str r.1,.tup (r.2.map h)]) [some R0,some (.d (.str nm)),some (.d (h x)),a,b]) λo=>match rs.find? (λr=>decide (r.1=nm)) with
   | some r=>o=.rt (.d (.bl (decide (x∈r.2))))
   | none=>∃e,o=.nx e:=by
  intro rs
  induction rs with
  | nil=>exact λa b=>⟨_,rfl,_,rfl⟩
  | cons r rs ih=>
   intro a b
   rw [U_,ads]
   show Wp (c7 2 (bA (aC 3) (bA (aC 4) dB)) (.tup [.str r.1,.tup (r.2.map h)]) _ >>= _) _
   rw [show c7 2 (bA (aC 3) (bA (aC 4) dB)) (.tup [.str r.1,.tup (r.2.map h)]) [some R0,some (.d (.str nm)),some (.d (h x)),a,b]=.ok [some R0,some (.d (.str nm)),some (.d (h x)),some (.d (.str r.1)),some (.d (.tup (r.2.map h)))] from rfl,aS]
   have ht:bx (g2 (cj false) (af 3) (af 1)) [some R0,some (.d (.str nm)),some (.d (h x)),some (.d (.str r.1)),some (.d (.tup (r.2.map h)))]=.ok (decide (r.1=nm)):=by
    refine bH rfl rfl ((rL false (.d (.str r.1)) (.d (.str nm)) (Vl _) (Vl _)).trans ?_)
    show M.ok (R.d (.bl (bu (.str r.1) (.str nm))))=_
    rw [eq_str]
   cases q:decide (r.1=nm) with
   | true=>
    rw [q] at ht
    rw [jV ht,show bf (g2 (fB false) (af 2) (af 4)) [some R0,some (.d (.str nm)),some (.d (h x)),some (.d (.str r.1)),some (.d (.tup (r.2.map h)))]=.ok (.rt (.d (.bl (decide (x∈r.2))))) from Gp (two rfl rfl (hin x r.2)) rfl]
    exact ⟨_,rfl,rfl⟩
   | false=>
    rw [q] at ht
    rw [lM ht]
    exact ih _ _
 have k0:=key UI none none
 rw [TX] at k0
 refine k0.mono λo ho=>?_
 unfold nL
 cases q:UI.find? λr=>decide (r.1=nm) with
 | some r=>rw [q] at ho;rw [ho]
 | none=>
  rw [q] at ho
  obtain ⟨e,rfl⟩:=ho
  exact bz rfl rfl rfl
theorem OH {UI:List (Str×List α)}(nd:(UI.map VC).Nodup){i:Nat}(hi:i < UI.length) (x:α):nL UI UI[i].1 x=decide (x∈UI[i].2):=by
 unfold nL
 have:UI.find? (λr=>decide (r.1=UI[i].1))=some UI[i]:=by
  rw [List.find?_eq_some_iff_getElem]
  refine ⟨decide_eq_true rfl,i,hi,rfl,λj hj=>?_⟩
  have:=(VP.mp nd) j i (by simp;omega) (by simpa using hi) hj
  rw [V5,V5] at this
  simpa using this
 rw [this]
theorem BU {A B:List (Str×List α)}(he:A.map VC=B.map VC) (nd:(A.map VC).Nodup) (x y:α):(A.all λr=>decide (x∈r.2) == nL B r.1 y)=(A.zip B).all λr=>decide (x∈r.1.2) == decide (y∈r.2.2):=by
 have hl:A.length=B.length:=by have:=congrArg Ww he;simpa using this
 rw [show (A.all λr=>decide (x∈r.2) == nL B r.1 y)=((A.zip B).map VC).all λr=>decide (x∈r.2) == nL B r.1 y by rw [acR (by omega)],Z6,Vy,Vm,Vm]
 have e:∀r∈A.zip B,nL B r.1.1 y=decide (y∈r.2.2):=λr hr=>by
  obtain ⟨i,hi,rfl⟩:=VT.mp hr
  have Ub:i < A.length:=by simp at hi;omega
  have TL:i < B.length:=by omega
  rw [List.getElem_zip]
  have:A[i].1=B[i].1:=by
   have:=congrArg (λl:List Str=>l[i]?) he
   simpa [Ub,TL] using this
  show nL B A[i].1 y=_
  rw [this,OH (he▸nd) TL]
 exact ⟨λh r hr=>by have:=h r hr;rw [<-e r hr];exact this,λh r hr=>by have:=h r hr;rw [<-e r hr] at this;exact this⟩
end
variable {v w:Wd}
theorem Fx (x:Nat) (xs:List Nat):fB false (.d (dN x)) (.d (.tup (xs.map dN)))=.ok (.d (.bl (decide (x∈xs)))):=(vn false (dN x) (xs.map dN) (Ac _) (Vl _)).trans (by rw [K55.inN];rfl)
theorem Fy (x:Nat×Nat) (xs:List (Nat×Nat)):fB false (.d (dP x)) (.d (.tup (xs.map dP)))=.ok (.d (.bl (decide (x∈xs)))):=(vn false (dP x) (xs.map dP) (Ad _) (by show 1<=60;decide)).trans (by rw [K55.MN];rfl)
abbrev eT (v w:Wd) (ps:List (Nat×Nat)) (r:List (Option S)):Ev:=some (.d v.d)::some (.d w.d)::some (.d (aP ps))::r
theorem CS (t:Pn v w) (ps:List (Nat×Nat)):eV [.d v.d,.d w.d,.d (aP ps)]=.ok (.d (.bl (oZ v w ps))):=by
 refine bM (JM (h:=dP) (λenv=>∃a b c d e f g:Option S,env=eT v w ps [a,b,c,d,e,f,g]) (λp=>mB v w p && ps.all λq=>eB p q && aB v w p q) ps rfl ⟨none,none,none,none,none,none,none,rfl⟩ ?_ (λz e _=>bz rfl rfl (by unfold oZ;rw [z])) (λz=>by unfold oZ;rw [z]))
 rintro p _ _ ⟨_,_,c0,d0,e0,f0,g0,rfl⟩
 refine ⟨eT v w ps [some (.d (dN p.1)),some (.d (dN p.2)),c0,d0,e0,f0,g0],rfl,?_⟩
 have em:=BU t.t.mn t.mn p.1 p.2
 refine JM (h:=kG) (λenv=>∃c d e f g:Option S,env=eT v w ps [some (.d (dN p.1)),some (.d (dN p.2)),c,d,e,f,g]) (λr=>decide (p.1∈r.2) == nL w.ms r.1 p.2) v.ms ?_ ⟨c0,d0,e0,f0,g0,rfl⟩ ?_ (λz e he=>?_) (λz=>.inr ⟨by show (mB v w p && _)=false;unfold mB;rw [<-em,z];rfl,rfl⟩)
 ·show (g2 aY (af 0) (gC (.int 1)) _ >>= _)=_
  rw [two (x:=.d v.d) rfl rfl (FF _ _ _)]
  rfl
 ·rintro r _ _ ⟨_,_,e0,f0,g0,rfl⟩
  refine ⟨eT v w ps [some (.d (dN p.1)),some (.d (dN p.2)),some (.d (.str r.1)),some (.d (.tup (r.2.map dN))),e0,f0,g0],rfl,?_⟩
  refine jb (c:=!(decide (p.1∈r.2) == nL w.ms r.1 p.2)) (bH (two rfl rfl (Fx _ _)) (c3 (two rfl rfl (FF _ _ _)) rfl rfl (LX (h:=dN) Fx w.ms r.1 p.2)) ((K22.Dw ..).trans rfl)) (λz=>bz rfl rfl (.inr ⟨by simpa using z,rfl⟩)) (λz=>fU (.inl ⟨by simpa using z,_,rfl,_,_,_,_,_,rfl⟩))
 ·obtain ⟨c0,d0,e0,f0,g0,rfl⟩:=he
  have hm:mB v w p=true:=by unfold mB;rw [<-em];exact z
  refine (Jz (h:=dP) (λenv=>∃c d e f g:Option S,env=eT v w ps [some (.d (dN p.1)),some (.d (dN p.2)),c,d,e,f,g]) (λq=>eB p q && aB v w p q) ps rfl ⟨c0,d0,e0,f0,g0,rfl⟩ ?_).mono ?_
  ·rintro q _ _ ⟨c0,d0,_,_,g0,rfl⟩
   refine ⟨eT v w ps [some (.d (dN p.1)),some (.d (dN p.2)),c0,d0,some (.d (dN q.1)),some (.d (dN q.2)),g0],rfl,?_⟩
   have he:bx (g2 (cj true) (g2 (cj false) (af 3) (af 7)) (g2 (cj false) (af 4) (af 8))) (eT v w ps [some (.d (dN p.1)),some (.d (dN p.2)),c0,d0,some (.d (dN q.1)),some (.d (dN q.2)),g0])=.ok (!eB p q):=by
    refine bH (two rfl rfl (rL false (.d (dN p.1)) (.d (dN q.1)) (Vl _) (Vl _))) (two rfl rfl (rL false (.d (dN p.2)) (.d (dN q.2)) (Vl _) (Vl _))) ?_
    show cj true (.d (.bl (bu (dN p.1) (dN q.1)))) (.d (.bl (bu (dN p.2) (dN q.2))))=_
    rw [K55.uY,K55.uY,K22.Dw]
    rfl
   cases hc:eB p q with
   | false=>
    rw [hc] at he
    exact Pc he (Pb rfl rfl (.inr ⟨rfl,rfl⟩))
   | true=>
    rw [hc] at he
    refine ff he ?_
    have ea:=BU t.t.an t.an (p.1,q.1) (p.2,q.2)
    refine (Jz (h:=pL) (λenv=>∃c d g:Option S,env=eT v w ps [some (.d (dN p.1)),some (.d (dN p.2)),c,d,some (.d (dN q.1)),some (.d (dN q.2)),g]) (λr=>decide ((p.1,q.1)∈r.2) == nL w.ar r.1 (p.2,q.2)) v.ar ?_ ⟨c0,d0,g0,rfl⟩ ?_).mono ?_
    ·show (g2 aY (af 0) (gC (.int 2)) _ >>= _)=_
     rw [two (x:=.d v.d) rfl rfl (MW _ _ _ _)]
     rfl
    ·rintro r _ _ ⟨_,d0,_,rfl⟩
     refine ⟨eT v w ps [some (.d (dN p.1)),some (.d (dN p.2)),some (.d (.str r.1)),d0,some (.d (dN q.1)),some (.d (dN q.2)),some (.d (.tup (r.2.map dP)))],rfl,?_⟩
     refine jb (c:=!(decide ((p.1,q.1)∈r.2) == nL w.ar r.1 (p.2,q.2))) (bH (two (bF (aI rfl rfl (aI rfl rfl br)) t2) rfl (Fy (p.1,q.1) r.2)) (c3 (two rfl rfl (MW _ _ _ _)) rfl (bF (aI rfl rfl (aI rfl rfl br)) t2) (LX (h:=dP) Fy w.ar r.1 (p.2,q.2))) ((K22.Dw ..).trans rfl)) (λz=>bz rfl rfl (.inr ⟨by simpa using z,rfl⟩)) (λz=>fU (.inl ⟨by simpa using z,_,rfl,_,_,_,rfl⟩))
    ·rintro o (⟨z,e,rfl,c1,d1,g1,rfl⟩ | ⟨z,rfl⟩)
     ·exact .inl ⟨by show (true && aB v w p q)=true;unfold aB;rw [<-ea,z];rfl,_,rfl,c1,d1,_,_,g1,rfl⟩
     ·exact .inr ⟨by show (true && aB v w p q)=false;unfold aB;rw [<-ea,z];rfl,rfl⟩
  ·rintro o (⟨z,e,rfl,c1,d1,e1,f1,g1,rfl⟩ | ⟨z,rfl⟩)
   ·exact .inl ⟨by rw [hm,z];rfl,_,rfl,_,_,_,_,_,_,_,rfl⟩
   ·exact .inr ⟨by rw [hm,z];rfl,rfl⟩
noncomputable def lI (v w:Wd) (ps:List (Nat×Nat)) (q:Nat×Nat):Bool:=(match ps.getLast? with
 | some l=>d8 (dP l) (dP q)
 | none=>true) && oZ v w (ps++[q])
theorem Mw (t:Pr v w){ps:List (Nat×Nat)}(g:Good v w ps){q:Nat×Nat}(hq:g9 v w q):lI v w ps q=(ji v w q q && gb v w ps q):=by
 rw [Vy,UT]
 constructor
 ·intro h
  unfold lI at h
  rw [UT,rN t] at h
  have hp:q∈prs v w:=k_.mpr ⟨hq,h.2 q (by simp) q (by simp)⟩
  refine ⟨(jj ..).mpr (k_.mp hp).2,(qE g hp).mpr (Fp g hq (λrs l e=>?_) h.2)⟩
  subst e
  have:=h.1
  rw [Yt] at this
  exact (vt l q).mp this
 ·rintro ⟨h1,h2⟩
  have hp:q∈prs v w:=k_.mpr ⟨hq,(jj ..).mp h1⟩
  have g':=(qE g hp).mp h2
  unfold lI
  rw [UT,rN t]
  refine ⟨?_,g'.ag⟩
  cases e:ps.getLast? with
  | none=>rfl
  | some l=>
   obtain ⟨rs,rfl⟩:=K23.rR e
   refine (vt l q).mpr (.inl ?_)
   have:=g'.up
   rw [Xc] at this
   have:=(Wi.mp this).2.1
   exact (Xp.mp this).1 q (by simp)
def kF (v w:Wd) (ps:List (Nat×Nat)) (a:Nat):List (List (Nat×Nat)):=((UQ w.m).filter λb=>lI v w ps (a,b)).map λb=>ps++[(a,b)]
theorem MH (t:Pr v w){ps:List (Nat×Nat)}(g:Good v w ps):(UQ v.m).flatMap (kF v w ps)=((prs v w).filter (gb v w ps)).map λq=>ps++[q]:=by
 unfold prs dQ
 rw [List.filter_filter,abL,YG]
 rw [ZC,ZC]
 congr 1
 refine Wx λa ha=>?_
 unfold kF
 rw [abf,Vr]
 congr 1
 refine Zp λb hb=>?_
 rw [Mw t g ⟨U1.mp ha,U1.mp hb⟩,Bool.and_comm]
 rfl
theorem Na {env:Ev}{i:Nat}{g:G R}{r:R}{Q:O->Prop}{xs:List D}{d:D}(h0:env[i]?=some (some (.own xs))) (h:g env=.ok r) (h2:toD r=.ok d) (hl:xs.length<=1000000) (k:Q (.nx (env.set i (some (.own (xs++[d])))))):Wp (f9 i g env) Q:=by
 refine ⟨_,?_,k⟩
 unfold f9
 rw [h0]
 show (g env >>= _)=_
 rw [h,aS,h2,aS,if_pos (Y3 hl (by decide))]
theorem Ke {env:Ev}{a b:G Bool}{x y:Bool}(h:a env=.ok x) (h2:b env=.ok y):iP a b env=.ok (x && y):=by
 cases x with
 | true=>exact d_ h h2
 | false=>exact f6 h
abbrev eG (v w:Wd) (n:Nat) (F:List (List (Nat×Nat))) (r:List (Option S)):Ev:=some (.d v.d)::some (.d w.d)::some (.d (.int n))::some (.own (F.map aP))::r
theorem Mx (t:Pn v w) (ps:List (Nat×Nat)) (hl:ps.length < 63) (a b:Nat){env:Ev}(h0:af 0 env=.ok (.d v.d)) (h1:af 1 env=.ok (.d w.d)) (h7:af 7 env=.ok (.d (aP ps))) (h8:af 8 env=.ok (.d (dN a))) (h9:af 9 env=.ok (.d (dN b))):
  iP (ki (bx (g2 (cj false) (af 7) (bE aT))) (bx (g2 ud (g2 aY (af 7) (wm (gC (.int 1)))) (bE (aA (af 8) (aA (af 9) aT)))))) (bx (gN (aN 3 K72.eV) (ao (af 0) (ao (af 1) (ao (g2 cX (af 7) (bE (aA (bE (aA (af 8) (aA (af 9) aT))) aT))) aE))))) env=.ok (lI v w ps (a,b)):=by
 have ht:bE (aA (af 8) (aA (af 9) aT)) env=.ok (.d (dP (a,b))):=bF (aI h8 rfl (aI h9 rfl br)) t2
 refine Ke ?_ (eK (c3 h0 h1 (two h7 (bF (aI ht rfl br) (by show 1<=1000;decide)) (K33.zZ ps (a,b) hl)) (CS t _)))
 have he:=bH (f:=cj false) h7 (bF (env:=env) br (by decide)) (rL false (.d (aP ps)) (.d (aP [])) (AN _) (AN _))
 rcases Wz ps with rfl | ⟨rs,l,rfl⟩
 ·exact K35.Nz he
 ·rw [WA] at h7 he ⊢
  rw [show bu (R.dat (.d (aP (rs++[l])))) (R.dat (.d (aP [])))=false by
   show bu (.tup _) (.tup _)=false
   rw [jU,Ve]
   cases rs <;> rfl] at he
  rw [Yt]
  refine F4 he (bH (two h7 rfl ?_) ht (OS l (a,b)))
  show aY (.d (.tup ((rs++[l]).map dP))) (.d (.int (-1)))=_
  rw [Ve]
  exact Cf _ _
theorem JV (t:Pn v w) (n:Nat) (hn:n<=4):iA [.d v.d,.d w.d,.d (.int n)]=.ok (.l .fresh ((told v w n).map aP)):=by
 have v4:=t.t.v4
 have w4:=t.t.w4
 have one:dR (aA (bE aT) aT)=λ_=>.ok (.l .fresh [.tup []]):=by
  funext env
  exact ig (aI (bF br (by decide)) rfl br) (by show 1<=1000;decide)
 refine bM (bB (r:=.l .fresh ([[]].map aP)) (by rw [one];rfl) rfl (b8 (K23.Ox rfl (fX (r:=.l .fresh ([[]].map aP)) (by rw [one];rfl) rfl (dY (iS (n:=n) rfl (by omega)) ?_)))))
 refine gF (n:=n) (λk env=>∃x y a b c:Option S,env=eG v w n (told v w k) [some (fs k ((LG v w k).map aP)),x,y,a,b,c]) ⟨none,none,none,none,none,rfl⟩ ?_ ?_
 ·rintro k hk _ ⟨x,y,a,b,c,rfl⟩
  refine ⟨_,rfl,bB rfl rfl ?_⟩
  have l0:=lE t.t k
  have l1:=lE t.t (k + 1)
  have p0:(16:Nat) ^ k<=16 ^ 3:=W7 (by decide) (by omega)
  have p1:(16:Nat) ^ (k + 1)<=16 ^ 4:=W7 (by decide) (by omega)
  have p2:(16:Nat) ^ 3=4096:=by decide
  have p3:(16:Nat) ^ 4=65536:=by decide
  have le:∀(ps:List (Nat×Nat)) (a:Nat),(kF v w ps a).length<=4:=λps a=>by
   unfold kF
   rw [UR]
   refine Vq (V0 _ _) (by simpa using w4)
  have lf:∀(ps:List (Nat×Nat)) (i:Nat),i<=4->((UQ i).flatMap (kF v w ps)).length<=16:=λps i hi=>by
   have:=K23.o5 (kF v w ps) 4 (UQ i) λa _=>le ps a
   rw [WO] at this
   omega
  have loop:Wp (cg (fE (af 4)) (aC 7) (cg (bR (ao (g2 aY (af 0) (gC (.int 0))) aE)) (aC 8) (cg (bR (ao (g2 aY (af 1) (gC (.int 0))) aE)) (aC 9) (bK (iP (ki (bx (g2 (cj false) (af 7) (bE aT))) (bx (g2 ud (g2 aY (af 7) (wm (gC (.int 1)))) (bE (aA (af 8) (aA (af 9) aT)))))) (bx (gN (aN 3 K72.eV) (ao (af 0) (ao (af 1) (ao (g2 cX (af 7) (bE (aA (bE (aA (af 8) (aA (af 9) aT))) aT))) aE)))))) (f9 6 (g2 cX (af 7) (bE (aA (bE (aA (af 8) (aA (af 9) aT))) aT)))) cL))) (eG v w n (told v w k) [some (.d (.lst ((LG v w k).map aP))),some (.d (.int k)),some (.own []),a,b,c]))
    (λo=>∃e,o=.nx e/\∃a b c:Option S,e=eG v w n (told v w k) [some (.d (.lst ((LG v w k).map aP))),some (.d (.int k)),some (.own ((LG v w (k + 1)).map aP)),a,b,c]):=by
   refine mW (ds:=(LG v w k).map aP) rfl ?_
   refine kB (λj env=>∃a b c:Option S,env=eG v w n (told v w k) [some (.d (.lst ((LG v w k).map aP))),some (.d (.int k)),some (.own ((((LG v w k).take j).flatMap λps=>(UQ v.m).flatMap (kF v w ps)).map aP)),a,b,c]) _ ⟨a,b,c,rfl⟩ ?_ ?_
   ·rintro j hj _ ⟨a,b,c,rfl⟩
    rw [UR] at hj
    rw [V5]
    obtain ⟨ps,hps⟩:∃ps,ps=(LG v w k)[j]:=⟨_,rfl⟩
    have lps:ps.length=k:=(oJ k (hps▸Vt hj)).1
    rw [<-hps]
    obtain ⟨M0,SS⟩:∃M0,M0=((LG v w k).take j).flatMap λps=>(UQ v.m).flatMap (kF v w ps):=⟨_,rfl⟩
    have lM0:M0.length<=65536:=by
     have:=K23.o5 (λps=>(UQ v.m).flatMap (kF v w ps)) 16 ((LG v w k).take j) λps _=>lf ps v.m v4
     rw [<-SS,Wc] at this
     omega
    rw [<-SS]
    refine ⟨_,rfl,mW (iS (n:=v.m) (cu (two rfl rfl (fN _ _))) (by omega)) ?_⟩
    refine gF (n:=v.m) (λi env=>∃b c:Option S,env=eG v w n (told v w k) [some (.d (.lst ((LG v w k).map aP))),some (.d (.int k)),some (.own ((M0++(UQ i).flatMap (kF v w ps)).map aP)),some (.d (aP ps)),b,c]) ⟨b,c,by simp⟩ ?_ ?_
    ·rintro i hi _ ⟨b,c,rfl⟩
     obtain ⟨M1,SV⟩:∃M1,M1=M0++(UQ i).flatMap (kF v w ps):=⟨_,rfl⟩
     have lM1:M1.length<=65552:=by rw [SV,Vc];have:=lf ps i (by omega);omega
     rw [<-SV]
     refine ⟨_,rfl,mW (iS (n:=w.m) (cu (two rfl rfl (fN _ _))) (by omega)) ?_⟩
     refine gF (n:=w.m) (λx env=>∃c:Option S,env=eG v w n (told v w k) [some (.d (.lst ((LG v w k).map aP))),some (.d (.int k)),some (.own ((M1++((UQ x).filter λb=>lI v w ps (i,b)).map λb=>ps++[(i,b)]).map aP)),some (.d (aP ps)),some (.d (.int i)),c]) ⟨c,by simp⟩ ?_ ?_
     ·rintro x hx _ ⟨c,rfl⟩
      refine ⟨_,rfl,jb (Mx t ps (by omega) i x rfl rfl rfl rfl rfl) (λz=>?_) λz=>?_⟩
      ·refine Na rfl (two rfl (bF (aI (bF (aI rfl rfl (aI rfl rfl br)) t2) rfl br) (by show 1<=1000;decide)) (K33.zZ ps (i,x) (by omega))) rfl ?_ ⟨_,rfl,some (.d (.int x)),?_⟩
       ·have:=V0 (λb=>lI v w ps (i,b)) (UQ x)
        rw [WO] at this
        rw [UR,Vc,UR]
        omega
       ·have e:((UQ (x + 1)).filter λb=>lI v w ps (i,b)).map (λb=>ps++[(i,b)])=((UQ x).filter λb=>lI v w ps (i,b)).map (λb=>ps++[(i,b)])++[ps++[(i,x)]]:=by
         rw [XN,ab6,Y4 (p:=λb=>lI v w ps (i,b)) z,Ve];rfl
        rw [e,<-Xc,Ve (l₂:=[ps++[(i,x)]])]
        rfl
      ·refine fU ⟨_,rfl,some (.d (.int x)),?_⟩
       have e:((UQ (x + 1)).filter λb=>lI v w ps (i,b))=(UQ x).filter λb=>lI v w ps (i,b):=by
        rw [XN,ab6,Y5 (p:=λb=>lI v w ps (i,b)) (by rw [z];decide),List.filter_nil,WV]
       rw [e]
       rfl
     ·rintro _ ⟨c,rfl⟩
      refine ⟨_,rfl,some (.d (.int i)),c,?_⟩
      rw [XN,ZV,aaV,<-Xc,<-SV]
      rfl
    ·rintro _ ⟨b,c,rfl⟩
     refine ⟨_,rfl,some (.d (aP ps)),b,c,?_⟩
     rw [YD,U5 hj,<-hps,ZV,<-SS]
     show _=eG v w n (told v w k) [_,_,some (.own ((M0++[ps].flatMap _).map aP)),_,_,_]
     rw [aaV]
   ·rintro _ ⟨a,b,c,rfl⟩
    rw [UR,Xn]
    refine ⟨_,rfl,a,b,c,?_⟩
    have:((LG v w k).flatMap λps=>(UQ v.m).flatMap (kF v w ps))=LG v w (k + 1):=by
     show _=(LG v w k).flatMap _
     rw [ZC,ZC]
     congr 1
     exact Wx λps hps=>MH t.t ((iY k).mp hps).2
    rw [this]
  have fz:∀{g:G O}{Q:O->Prop},Wp (g (eG v w n (told v w k) [some (.d (.lst ((LG v w k).map aP))),some (.d (.int k)),some (.own []),a,b,c])) Q->Wp (fS 4 g (eG v w n (told v w k) [some (fs k ((LG v w k).map aP)),some (.d (.int k)),some (.own []),a,b,c])) Q:=fun {g Q} h=>by
   cases k with
   | zero=>exact sf rfl h
   | succ k=>exact K23.GK rfl h
  refine b8 (fz (loop.mono ?_))
  rintro o ⟨e,rfl,a',b',c',rfl⟩
  have tl:=K23.pO t.t k (by omega)
  refine b8 (sf rfl (fX rfl rfl (DP (ys:=(LG v w (k + 1)).map aP) rfl rfl rfl ?_ ⟨_,rfl,some (.d (.int k)),some (.d (.lst ((LG v w (k + 1)).map aP))),a',b',c',?_⟩)))
  ·have:(k + 1) * 65536<=4 * 65536:=W8 _ (by omega)
   rw [UR,UR]
   omega
  ·show _=eG v w n (told v w k++LG v w (k + 1)) _
   unfold eG
   rw [Ve]
   rfl
 ·rintro _ ⟨x,y,a,b,c,rfl⟩
  exact bz rfl rfl rfl
end K72
namespace K72
open PySem DL K01 WP K51 K52 K55 K22 K33
open K23 (iT eK bH Pr aP f6 d_ Good g9 LG told iY fY allM rV ne_int g8 dc)
end K72
namespace DL
open PySem PySem.Spec PyProof.Rows L2
section
variable {X:Cx}{c:C}{e:Vv}{g:G R}{pos:Pos}
theorem yP (UC:List UN):ac0 UC.toArray none none (some (-1))=UC.reverse.toArray:=by
 have h:=Ie UC.toArray
 unfold ac0
 show ((sliceRange ((UC.toArray.size:Int) - 1) (-1) (-1)).filterMap _).toArray=_
 congr 1
 refine Eq.trans ?_ h
 unfold sliceRange
 rw [if_neg (by decide),Z5]
 have e:(if (UC.toArray.size:Int) - 1 > -1 then ((UC.toArray.size:Int) - 1 - -1 - -1 - 1) / (- -1) else 0).toNat=UC.toArray.size:=by
  split
  ·rw [show ((UC.toArray.size:Int) - 1 - -1 - -1 - 1) / (- -1)=UC.toArray.size by simp]
   exact V7 _
  ·omega
 rw [e]
 congr 1
 funext m
 show UC.toArray[_]?=UC.toArray[_]?
 rw [Int.mul_comm]
def Jv (g:G R):G R:=λenv=>g env >>= λr=>kK r >>= λxs=>.ok (.l .fresh xs.reverse)
theorem Ip {st:Vv}{p2:Pos}(h:QD X c e g) (hst:PE X st (tC (.int (-1)))) (hK:X.K=c.K:=by rfl):QD X c (.Subscript e (.Slice none none (some st) p2) pos) (Jv g):=by
 refine ⟨λUB s σ H Q I ⟨J,env,sr,w⟩=>?_⟩
 refine adM (bP (h.h UB s σ H (λv H1=>∃a xs,v=.ref a/\cB X.K H1 a xs/\∀p,H1 p=none->Q (.ref p) (upd H1 p (.lst xs.reverse))) I ⟨J,env,sr,aF (aK w) λr wr v J1 H1 e1 r1=>?_⟩) λv s1 ⟨x,H1,I1,r1,a,xs,hx,hq,q⟩=>?_)
 ·obtain ⟨ds,q,wr⟩:=oE wr
  obtain ⟨a,vs,rfl,h1,h2⟩:=RR.list (sr.hp.ext e1) r1 q
  exact ⟨a,vs,rfl,by rw [hK];exact h1,λp hp'=>wr _ _ _ (e1.trans (Ext.new e1.sub hp' _)) (RR.from e1.h (iz (sr.hp.ext e1) hp' h2.rev))⟩
 subst hx
 cases r1
 refine wpAny_Slice ?_
 rw [abU]
 refine UO (UO ?_)
 rw [ad1]
 refine bP (hst UB s1 σ H1 (λv H2=>v=.int (-1)/\H2=H1) I1 ⟨rfl,rfl⟩) λu s3 ⟨y,H3,I3,r3,hy,hH⟩=>?_
 subst hy hH
 obtain ⟨k,rfl⟩:=r3
 have I4:Inv X UB σ H3 {s3 with heap:=s3.heap.push {cls:=.type "slice",data:=.fields #[.none,.none,.int (-1) k]}}:=I3.kept (t':=s3.toks) λb ob q=>US _ q
 obtain ⟨UC,r,ht,hz⟩:=I4.list hq
 have hlen:=r.length
 refine aeW (ops:=[.ref a,.ref s3.heap.objs.size]) ht.isList.typeIs aag.lookup ?_ (by with_unfolding_all rfl)
 refine aah ht.isList (abV ..) .none .none (.int (-1) k) (by simp) ?_ (by rw [U3];omega)
 rw [yP]
 refine ⟨.ref _,_,I4.laid (t':=s3.toks) (o:=.lst xs.reverse) (λb ob q=>US _ q) (UX _) ?_,rfl,q _ (I4.hok.fresh (UX _))⟩
 exact ⟨by simpa using hz,_,0,r.reverse,U0 _ rfl⟩
end
end DL
namespace K73
open PySem DL
def nJ:List Str:=["rows","stays","depths","depth","gone","pairing"]
noncomputable def Ca:G O:=(aH (bg 2 (jm 1 [] (o6 (af 0)) (aC 0) cM (af 0) (gC .non)))
 (aH (bg 3 (gC (.int 1)))
 (aH (bg 4 (bV 1 [1,0,2] (o6 (af 0)) (aC 0) (gy (bx (qB 1 "answered_still" (gN (aN 2 K33.dG) (ao (g2 fD (af 2) (af 0)) (ao (af 3) aE))) (qB 1 "mapped_still" (gN (aN 2 K72.fF) (ao (g2 fD (af 2) (af 0)) (ao (af 3) aE))) yZ)))) (af 0)))
 (aH (ve 400000 (wB (af 4)) (aH (fS 4 (cg (fE (af 4)) (aC 5) (wA 2 (af 5) (af 3))))
 (aH (ug 3 we (gC (.int 1)))
 (bg 4 (bV 1 [2,1,0] (o6 (af 0)) (aC 0) (iP (bx (g2 (gZ false) (g2 fD (af 1) (af 0)) (gC .non))) (gy (bx (qB 2 "answered_still" (gN (aN 2 K33.dG) (ao (g2 fD (af 3) (af 0)) (ao (af 1) aE))) (qB 2 "mapped_still" (gN (aN 2 K72.fF) (ao (g2 fD (af 3) (af 0)) (ao (af 1) aE))) yZ))))) (af 0))))))
 (bf (af 2))))))
def iB (as:List S):M R:=fin (Ca (aV nJ as))
def mw:List Str:=["one","other","base","known","rows"]
noncomputable def mR:G O:=(aH (bg 3 (jm 1 [] (gU (gN (aN 3 K33.eZ) (ao (af 0) (ao (af 1) (ao (af 2) aE))))) (aC 0) cM (af 0) (gC (.bl true))))
 (aH (bg 4 (jm 1 [0,1,3] (o6 (af 3)) (aC 0) cM (af 0) (gN (aN 4 K33.lZ) (ao (af 1) (ao (af 2) (ao (af 0) (ao (af 3) aE)))))))
 (bf (An "answered_still" K73.iB (af 4)))))
def gW (as:List S):M R:=fin (mR (aV mw as))
def JZ:List Str:=["one","other","pairs","base"]
noncomputable def B_:G O:=(aH (jD (gN (aN 2 K23.dF) (ao (af 0) (ao (af 1) aE))))
 (aH (bg 3 (gN (aN 1 K23.dc) (ao (af 2) aE)))
 (bf (Ao (gN (aN 3 K73.gW) (ao (af 0) (ao (af 1) (ao (af 3) aE)))) (af 3) (gC (.int 0))))))
def jh (as:List S):M R:=fin (B_ (aV JZ as))
def mj:List Str:=["one","other","base","grids"]
noncomputable def mO:G O:=(aH (bg 3 (jm 1 [0,1] (gU (gN (aN 3 K33.eZ) (ao (af 0) (ao (af 1) (ao (af 2) aE))))) (aC 0) cM (af 0) (gN (aN 3 K72.oH) (ao (af 1) (ao (af 2) (ao (af 0) aE))))))
 (bf (An "mapped_still" K73.iB (af 3))))
def d9 (as:List S):M R:=fin (mO (aV mj as))
def mq:List Str:=["one","other","depth"]
noncomputable def mP:G O:=(aH (jD (gN (aN 2 K23.dF) (ao (af 0) (ao (af 1) aE))))
 (aH (jD (gN (aN 3 K55.fR) (ao (af 2) (ao (gC (.int 0)) (ao (gC (.int 6)) aE)))))
 (bf (gN (aN 2 K33.kM) (ao (gN (aN 3 K73.d9) (ao (af 0) (ao (af 1) (ao (bE aT) aE)))) (ao (af 2) aE))))))
def gV (as:List S):M R:=fin (mP (aV mq as))
def uK:List Str:=["one","other","pairs","base"]
noncomputable def mQ:G O:=(aH (jD (gN (aN 2 K23.dF) (ao (af 0) (ao (af 1) aE))))
 (aH (bg 3 (gN (aN 1 K23.dc) (ao (af 2) aE)))
 (bf (Ao (gN (aN 3 K73.d9) (ao (af 0) (ao (af 1) (ao (af 3) aE)))) (af 3) (gC (.int 0))))))
def bU (as:List S):M R:=fin (mQ (aV uK as))
def sH:List Str:=["_law_script","_law_one","_law_other","_law_cell","_law_pairs","_law_k","_law_number_here","_law_some"]
noncomputable def sW:G O:=(aH (bg 3 (gN (aN 2 K72.c6) (ao (af 0) (ao (gC (.int 2)) aE))))
 (aH (bg 4 (dR aT))
 (aH (bK (bx (g2 (cj false) (g2 cV (af 3) (gC (.int 2))) (gC (.int 0)))) (aH (cg (bR (ao (g2 cV (g2 fC (af 3) (gC (.int 2))) (gC (.int 9))) aE)) (aC 5) (aH (bg 6 (gN (aN 2 K72.c6) (ao (af 0) (ao (g2 cX (gC (.int 3)) (af 5)) aE))))
 (f9 4 (bE (aA (g2 cV (af 6) (g2 aY (af 1) (gC (.int 0)))) (aA (g2 cV (g2 fC (af 6) (gC (.int 5))) (g2 aY (af 2) (gC (.int 0)))) aT))))))
 (bf (gN dw (ao (af 4) aE)))) cL)
 (aH (bg 7 (gN (aN 3 K72.iA) (ao (af 1) (ao (af 2) (ao (gC (.int 3)) aE)))))
 (aH (bg 4 (gN DA (ao (g2 aY (af 7) (g2 cV (g2 fC (af 3) (gC (.int 2))) (gN eS (ao (af 7) aE)))) aE)))
 (aH (cg (bR (ao (g2 gJ (g2 cV (g2 fC (af 3) (gC (.int 1000))) (gC (.int 2))) (gN Aj (ao (g2 (nO λi j=>.bl (decide (j < i))) (gN eS (ao (af 4) aE)) (gC (.int 0))) aE))) aE)) (aC 5) (f9 4 (g2 aY (af 4) (g2 cV (g2 fC (af 3) (gC (.int 2000))) (gN eS (ao (af 4) aE))))))
 (aH (bK (bx (g2 (cj false) (g2 cV (g2 fC (af 3) (gC (.int 8000))) (gC (.int 2))) (gC (.int 1)))) (bg 4 (Jv (af 4))) cL)
 (bf (gN dw (ao (af 4) aE))))))))))
def iV (as:List S):M R:=fin (sW (aV sH as))
def wW:List Str:=["_law_one","_law_other","_law_pairs","_law_told","_law_key","_law_depth"]
noncomputable def xD:G O:=(aH (bK (gy (bx (gN (aN 3 K72.eV) (ao (af 0) (ao (af 1) (ao (af 2) aE)))))) (bf (gC (.int 0))) cL)
 (aH (bg 4 (gN dw (ao (gN u6 (ao (af 2) aE)) aE)))
 (aH (cg (bR (ao (gC (.int 5)) aE)) (aC 5) (bK (bx (g2 (fB true) (af 4) (g2 aY (af 3) (af 5)))) (bf (af 5)) cL))
 (bf (gC .non)))))
def kc (as:List S):M R:=fin (xD (aV wW as))
def Qc:List Str:=["_law_script","_law_large","_law_one","_law_other","_law_pairs","_law_told","_law_due_here","_law_plain"]
noncomputable def ML:G O:=(aH (bg 1 (g2 (cj false) (g2 cV (gN (aN 2 K72.c6) (ao (af 0) (ao (gC (.int 0)) aE))) (gC (.int 8))) (gC (.int 1))))
 (aH (uf (c7 2 (bA (aC 2) (bA (aC 3) dB))) (gN (aN 2 K72.kg) (ao (gN (aN 2 K72.c6) (ao (af 0) (ao (gC (.int 1)) aE))) (ao (g2 aY (dR (aA (dR (aA (gC (.int 1)) (aA (gC (.int 2)) (aA (gC (.int 3)) (aA (gC (.int 3)) (aA (gC (.int 2)) aT)))))) (aA (dR (aA (gC (.int 4)) (aA (gC (.int 3)) (aA (gC (.int 4)) (aA (gC (.int 2)) (aA (gC (.int 1)) aT)))))) aT))) (gN Aj (ao (af 1) aE))) aE))))
 (aH (bg 4 (gN (aN 3 K73.iV) (ao (af 0) (ao (af 2) (ao (af 3) aE)))))
 (aH (bg 5 (gN (aN 3 K73.gV) (ao (af 2) (ao (af 3) (ao (gC (.int 4)) aE)))))
 (aH (bg 6 (gN (aN 4 K73.kc) (ao (af 2) (ao (af 3) (ao (af 4) (ao (af 5) aE))))))
 (aH (bK (gy (bx (gN (aN 2 K32.i8) (ao (gN (aN 3 K73.bU) (ao (af 2) (ao (af 3) (ao (af 4) aE)))) (ao (af 6) aE))))) (bf (gC (.bl false))) cL)
 (aH (bg 7 (gN (aN 3 K73.jh) (ao (af 2) (ao (af 3) (ao (af 4) aE)))))
 (aH (bK (iP (bx (g2 (gZ true) (af 7) (gC .non))) (ki (bx (g2 (gZ false) (af 6) (gC .non))) (bx (g2 (nO λi j=>.bl (decide (j < i))) (af 6) (af 7))))) (bf (gC (.bl false))) cL)
 (aH (bK (iP (bx (gN (aN 3 K72.eV) (ao (af 2) (ao (af 3) (ao (af 4) aE))))) (iP (bx (g2 (cj true) (g2 aY (af 2) (gC (.int 0))) (g2 aY (af 3) (gC (.int 0))))) (bx (g2 (cj true) (af 6) (gC (.int 1)))))) (bf (gC (.bl false))) cL)
 (aH (bK (gy (bx (gN (aN 2 K32.i8) (ao (gN (aN 3 K73.bU) (ao (af 3) (ao (af 2) (ao (gN dw (ao (bV 2 [] (gU (af 4)) (c7 2 (bA (aC 0) (bA (aC 1) dB))) cM (bE (aA (af 1) (aA (af 0) aT)))) aE)) aE)))) (ao (af 6) aE))))) (bf (gC (.bl false))) cL)
 (aH (bg 6 (gN (aN 4 K73.kc) (ao (af 2) (ao (af 3) (ao (bE aT) (ao (af 5) aE))))))
 (aH (bK (gy (bx (gN (aN 2 K32.i8) (ao (gN (aN 2 (λas=>K73.bU (as++[.d .non]))) (ao (af 2) (ao (af 3) aE))) (ao (af 6) aE))))) (bf (gC (.bl false))) cL)
 (bf (gN (aN 2 K32.i8) (ao (gN (aN 3 K73.bU) (ao (af 2) (ao (af 3) (ao (gC .non) aE)))) (ao (af 6) aE))))))))))))))))
def vQ (as:List S):M R:=fin (ML (aV Qc as))
end K73
namespace K73
open PySem PySem.Spec PyProof.Rows L2 DL DX
structure cS (w:Vs) (K:UM) (mg:Str->Option UN):Prop where
 abs:mg "abs"=none
 all:mg "all"=none
 any:mg "any"=none
 bool:mg "bool"=none
 enumerate:mg "enumerate"=none
 int:mg "int"=none
 isinstance:mg "isinstance"=none
 len:mg "len"=none
 list:mg "list"=none
 max:mg "max"=none
 range:mg "range"=none
 set:mg "set"=none
 sorted:mg "sorted"=none
 tuple:mg "tuple"=none
 MOST_DEPTH:CY K mg "MOST_DEPTH" (.int 6)
 MOST_SMALL:CY K mg "MOST_SMALL" (.int 4)
 fv_answered_still:CW K mg "answered_still"
 fv_mapped_still:CW K mg "mapped_still"
section
variable {P:U6}{w:Vs}{K:UM}{mg:Str->Option UN}{base:V1}{f:Vd}{fd:Vk}
abbrev yj:Xd:=top 6
theorem Bp (m:cS w K mg) (e:FB K mg "is_whole" yj):bh P w K mg base 1 1 "is_whole" K01.qf:=
 qc K01.xH K01.wZ 1 e (λnd _ cdv A outer s H E J T hr=>
 (az (aM (r_ (kT Cg xu m.int (aa 0) m.isinstance) (pI (CA (kT AA uQ m.bool (aa 0) m.isinstance)))))))
abbrev vJ:Xd:=top 7
theorem zY (m:cS w K mg) (e:FB K mg "tongue_of" vJ):bh P w K mg base 1 1 "tongue_of" K23.jx:=
 qc K23.vh K23.uM 1 e (λnd _ cdv A outer s H E J T hr=>
 (av (uv (aa 0) (cI (aW (aD 1 nd) (aW (aD 2 nd) (aW (aD 3 nd) cA)))))
 (az (aM (aZ (ay (cC (ak (bX (f7 ["name","points"] [] (cP (aa 2)) (λ_ _ _ _ _ hc=>⟨(cI (aW (aD 0 (bT rfl)) (aW (aD 1 (bT rfl)) cA))),bC,(aa 0)⟩))) au) m.tuple) (ay (cC (ak (bX (f7 ["name","pairs"] [] (cP (aa 3)) (λ_ _ _ _ _ hc=>⟨(cI (aW (aD 0 (bT rfl)) (aW (aD 1 (bT rfl)) cA))),bC,(aa 0)⟩))) au) m.tuple) aJ)))))))
abbrev qX:Xd:=top 8
theorem v7 (m:cS w K mg) (RM:bh P w K mg base 1 1 "tongue_of" K23.jx) (e:FB K mg "need_tongue" qX):bh P w K mg base 2 2 "need_tongue" K23.jw:=
 qc K23.qG K23.qp 2 e (λnd _ cdv A outer s H E J T hr=>
 (az (bG (lQ hr.units (aQ RM hr (ak (aa 0) au)) (aQ RM hr (ak (aa 1) au))) (az pH) bw)))
abbrev lV:Xd:=top 11
theorem qy (m:cS w K mg) (e:FB K mg "need_few_points" lV):bh P w K mg base 1 1 "need_few_points" K23.gw:=
 qc K23.lK K23.lF 1 e (λnd _ cdv A outer s H E J T hr=>
 (az (bI (cW (aa 0)) (aD 1 nd) (az (bG (n6 zc (j6 λ_ _ _=>.bl _) (aG (aa 1) aq) (kr m.MOST_SMALL)) (az pH) bw)))))
abbrev tV:Xd:=top 12
theorem yJ (m:cS w K mg) (RS:bh P w K mg base 2 2 "need_tongue" K23.jw) (RE:bh P w K mg base 1 1 "need_few_points" K23.gw) (e:FB K mg "need_small" tV):bh P w K mg base 3 2 "need_small" K23.dF:=
 qc K23.tE K23.sM 2 e (λnd _ cdv A outer s H E J T hr=>
 (av (gr (aQ RS hr (ak (aa 0) (ak (aa 1) au))))
 (az (gr (aQ RE hr (ak (aZ (ay (aa 0) (ay (aa 1) aJ))) au))))))
abbrev tU:Xd:=top 13
theorem yI (m:cS w K mg) (R7:bh P w K mg base 1 1 "is_whole" K01.qf) (e:FB K mg "need_count" tU):bh P w K mg base 2 3 "need_count" K55.fR:=
 qc K55.tw K55.sL 3 e (λnd _ cdv A outer s H E J T hr=>
 (az (bG (iH (qR (iI (dI (aQ R7 hr (ak (aa 0) au)))) (qR (n6 JC (j6 λ_ _ _=>.bl _) (aa 0) (aa 1)) (r6 (n6 zc (j6 λ_ _ _=>.bl _) (aa 0) (aa 2)))))) (az pH) bw)))
abbrev CH:Xd:=top 15
theorem EY (m:cS w K mg) (e:FB K mg "rising" CH):bh P w K mg base 1 1 "rising" K23.dc:=
 qc K23.Cc K23.BJ 1 e (λnd _ cdv A outer s H E J T hr=>
 (av (bG (vB (aa 0) eE) (az (aM (aZ aJ))) bw)
 (az (aM (cC (ak (xY hr.units (ak (aa 0) au) m.sorted m.set) au) m.tuple)))))
abbrev JQ:Xd:=top 16
theorem Km (m:cS w K mg) (e:FB K mg "view" JQ):bh P w K mg base 1 3 "view" K23.yT:=
 qc K23.Jw K23.Jf 3 e (λnd _ cdv A outer s H E J T hr=>
 (av (uv (aa 0) (cI (aW (aD 3 nd) (aW (aD 4 nd) (aW (aD 5 nd) cA)))))
 (av (aO 6 nd (cC (ak (bX (f7 ["name","points"] [1] (cP (aa 4)) (λ_ _ _ _ _ hc=>⟨(cI (aW (aD 0 (bT rfl)) (aW (aD 1 (bT rfl)) cA))),bC,(oh hr.units (aa 2) (aa 1))⟩))) au) m.tuple))
 (av (aO 7 nd (cC (ak (bX (f7 ["name","pairs"] [1,2] (cP (aa 5)) (λ_ _ _ _ _ hc=>⟨(cI (aW (aD 0 (bT rfl)) (aW (aD 1 (bT rfl)) cA))),bC,(oh hr.units (aZ (ay (aa 2) (ay (aa 3) aJ))) (aa 1))⟩))) au) m.tuple))
 (az (aM (aZ (ay (n_ hr.units (aa 1) (aa 2)) (ay (aa 6) (ay (aa 7) aJ))))))))))
abbrev Gy:Xd:=top 17
theorem G2 (m:cS w K mg) (SH:bh P w K mg base 1 3 "view" K23.yT) (e:FB K mg "views" Gy):bh P w K mg base 2 1 "views" K23.qh:=
 qc K23.Fq K23.Ey 1 e (λnd _ cdv A outer s H E J T hr=>
 (az (aM (bX (My hr.units ["one","other"] [0] (eF (a_ (ak (aG (aa 0) aq) au) m.range)) (λ_ _ _ _ _ hc=>⟨(aD 0 (bT rfl)),bC,(a_ (ak (aG (aa 2) aq) au) m.range),(aD 1 (bT rfl)),bC,(aZ (ay (aa 0) (ay (aa 1) aJ))),(aQ SH hr (ak (aa 2) (ak (aa 0) (ak (aa 1) au))))⟩))))))
abbrev Gs:Xd:=top 18
theorem G0 (m:cS w K mg) (e:FB K mg "agree" Gs):bh P w K mg base 1 4 "agree" K23.fL:=
 qc K23.Fj K23.Ex 4 e (λnd _ cdv A outer s H E J T hr=>
 (az (aM (n_ hr.units (fJ hr.units (aa 0) (aZ (ay (aG (aa 2) aq) (ay (aG (aa 3) aq) aJ)))) (fJ hr.units (aa 1) (aZ (ay (aG (aa 2) aq) (ay (aG (aa 3) aq) aJ))))))))
abbrev qV:Xd:=top 19
theorem v5 (m:cS w K mg) (RP:bh P w K mg base 1 4 "agree" K23.fL) (e:FB K mg "goes_behind" qV):bh P w K mg base 2 4 "goes_behind" K23.jv:=
 qc K23.qF K23.qm 4 e (λnd _ cdv A outer s H E J T hr=>
 (av (bG (iH (ly (wM (aa 2)) (lP (Ls hr.units (aa 3) (aG (aa 2) (Cz aq)))))) (az (aM eN)) bw)
 (av (bI (cW (aa 2)) (aD 4 nd) (az (bG (iH (qR (iI (dI (aQ RP hr (ak (aa 0) (ak (aa 1) (ak (aa 3) (ak (aa 4) au))))))) (r6 (iI (dI (aQ RP hr (ak (aa 0) (ak (aa 1) (ak (aa 4) (ak (aa 3) au)))))))))) (az (aM eN)) bw)))
 (az (aM eN)))))
abbrev yp:Xd:=top 20
theorem Bs (m:cS w K mg) (Rn:bh P w K mg base 3 2 "need_small" K23.dF) (Ry:bh P w K mg base 2 3 "need_count" K55.fR) (Sf:bh P w K mg base 2 1 "views" K23.qh) (RP:bh P w K mg base 1 4 "agree" K23.fL) (RQ:bh P w K mg base 2 4 "goes_behind" K23.jv) (e:FB K mg "pairings" yp):bh P w K mg base 4 3 "pairings" K23.l6:=
 qc K23.xK K23.w_ 3 e (λnd _ cdv A outer s H E J T hr=>
 (av (gr (aQ Rn hr (ak (aa 0) (ak (aa 1) au))))
 (av (gr (aQ Ry hr (ak (aa 2) (ak aq (ak (kr m.MOST_SMALL) au)))))
 (av (aO 3 nd (aQ Sf hr (ak (aa 0) au)))
 (av (aO 4 nd (aQ Sf hr (ak (aa 1) au)))
 (av (aO 5 nd (bX (Mz ["a","b"] [1,3,4] (eF (a_ (ak (aG (aa 0) aq) au) m.range)) (λ_ _ _ _ _ hc=>⟨(aD 0 (bT rfl)),bC,(a_ (ak (aG (aa 2) aq) au) m.range),(aD 1 (bT rfl)),(gu (dI (aQ RP hr (ak (aa 3) (ak (aa 4) (ak (aZ (ay (aa 0) (ay (aa 1) aJ))) (ak (aZ (ay (aa 0) (ay (aa 1) aJ))) au))))))),(aZ (ay (aa 0) (ay (aa 1) aJ)))⟩))))
 (av (iu 5 (aO 6 nd (b_ (ay (aZ aJ) aJ))))
 (av (aO 7 nd (b_ (ay (aZ aJ) aJ)))
 (av (bI (a_ (ak (aa 2) au) m.range) (aD 8 nd) (av (iu 5 (n8 6 nd (Mz ["ahead","pair"] [5,3,4] (cP (aa 6)) (λ_ _ _ _ _ hc=>⟨(aD 0 (bT rfl)),bC,(cW (aa 2)),(aD 1 (bT rfl)),(gu (dI (aQ RQ hr (ak (aa 3) (ak (aa 4) (ak (aa 0) (ak (aa 1) au))))))),(c_ (aa 0) (aZ (ay (aa 1) aJ)))⟩))))
 (az (tH 7 (aa 6)))))
 (az (aM (aa 7))))))))))))
abbrev Gr:Xd:=top 23
theorem GZ (m:cS w K mg) (RB:bh P w K mg base 1 1 "rising" K23.dc) (e:FB K mg "added" Gr):bh P w K mg base 2 2 "added" K33.lD:=
 qc K33.Fi K33.Ew 2 e (λnd _ cdv A outer s H E J T hr=>
 (az (aM (aQ RB hr (ak (c_ (aa 0) (aZ (ay (aa 1) aJ))) au)))))
abbrev tW:Xd:=top 24
theorem yK (m:cS w K mg) (e:FB K mg "pairs_with" tW):bh P w K mg base 1 4 "pairs_with" K33.gQ:=
 qc K33.tF K33.sN 4 e (λnd _ cdv A outer s H E J T hr=>
 (av (bG (fO hr.units (aa 2) aq) (az (aM (bX (f7 ["answer"] [3] (eF (a_ (ak (aG (aa 1) aq) au) m.range)) (λ_ _ _ _ _ hc=>⟨(aD 0 (bT rfl)),bC,(aZ (ay (aa 1) (ay (aa 0) aJ)))⟩))))) bw)
 (az (aM (bX (f7 ["answer"] [3] (eF (a_ (ak (aG (aa 0) aq) au) m.range)) (λ_ _ _ _ _ hc=>⟨(aD 0 (bT rfl)),bC,(aZ (ay (aa 0) (ay (aa 1) aJ)))⟩)))))))
abbrev yq:Xd:=top 25
theorem Bt (m:cS w K mg) (e:FB K mg "picks_of" yq):bh P w K mg base 1 2 "picks_of" K33.l7:=
 qc K33.xM K33.xg 2 e (λnd _ cdv A outer s H E J T hr=>
 (az (aM (gD (bX (f7 ["point"] [] (eF (a_ (ak (aG (aa 0) aq) au) m.range)) (λ_ _ _ _ _ hc=>⟨(aD 0 (bT rfl)),bC,(aZ (ay aq (ay (aa 0) aJ)))⟩))) (bX (f7 ["point"] [] (eF (a_ (ak (aG (aa 1) aq) au) m.range)) (λ_ _ _ _ _ hc=>⟨(aD 0 (bT rfl)),bC,(aZ (ay aq (ay (aa 0) aJ)))⟩)))))))
abbrev yo:Xd:=top 26
theorem Br (m:cS w K mg) (RI:bh P w K mg base 1 4 "pairs_with" K33.gQ) (R1:bh P w K mg base 2 2 "added" K33.lD) (R_:bh P w K mg base 1 2 "picks_of" K33.l7) (e:FB K mg "outcomes" yo):bh P w K mg base 3 4 "outcomes" K33.lZ:=
 qc K33.xJ K33.w5 4 e (λnd _ cdv A outer s H E J T hr=>
 (av (aO 4 nd (bX (My hr.units ["a","pair"] [0,1,2] (eF (a_ (ak (aG (aa 0) aq) au) m.range)) (λ_ _ _ _ _ hc=>⟨(aD 0 (bT rfl)),bC,(cW (aQ RI hr (ak (aa 2) (ak (aa 3) (ak aq (ak (aa 0) au)))))),(aD 1 (bT rfl)),bC,(aa 1),(aQ R1 hr (ak (aa 4) (ak (aa 1) au)))⟩))))
 (az (aM (bX (f7 ["side","point"] [0,1,4,3] (cP (aQ R_ hr (ak (aa 0) (ak (aa 1) au)))) (λ_ _ _ _ _ hc=>⟨(cI (aW (aD 0 (bT rfl)) (aW (aD 1 (bT rfl)) cA))),bC,(bX (f7 ["pair"] [4,5] (cP (aQ RI hr (ak (aa 2) (ak (aa 3) (ak (aa 0) (ak (aa 1) au)))))) (λ_ _ _ _ _ hc=>⟨(aD 0 (bT rfl)),(gu (Lr hr.units (fJ hr.units (aa 1) (aa 0)) (aa 2))),(fJ hr.units (aa 1) (aa 0))⟩) (sU (k6 hc rfl))))⟩)))))))
abbrev m_:Xd:=top 27
theorem su (m:cS w K mg) (e:FB K mg "answered_still" m_):bh P w K mg base 1 2 "answered_still" K33.dG:=
 qc K33.mL K33.mh 2 e (λnd _ cdv A outer s H E J T hr=>
 (az (aM (Cv (ak (bX (f7 ["row"] [1] (cP (aa 0)) (λ_ _ _ _ _ hc=>⟨(aD 0 (bT rfl)),bC,(Lw (ak (bX (f7 ["pairing"] [1] (cP (aa 0)) (λ_ _ _ _ _ hc=>⟨(aD 0 (bT rfl)),bC,(AQ (fJ hr.units (aa 1) (aa 0)) eE)⟩) (sU (k6 hc rfl)))) au) m.any)⟩))) au) m.all))))
abbrev nE:Xd:=top 36
theorem AY:eY ["choices","ahead","point","found"] ["choices","ahead"] (aX nE):=⟨rfl,rfl,rfl,by decide +kernel,rfl,by decide +kernel,by decide +kernel⟩
theorem pU (m:cS w K mg) (F:l_ K "map_behind" "map_behind" nE f fd) (hm:mg "map_behind"=some (.ref f)):∀fu:Nat,bh P w K mg base (0 + fu) 2 "map_behind" (K72.eX fu)
 | 0=>Kl (ps:=["choices","ahead"]) F hm (λ_ _ _ _ _ _ us hl=>match us,hl with | [_,_],_=>rfl) (λ_=>rfl)
 | fu + 1=>
  have sc:=AY
  have hself:=pU m F hm fu
  Cu (k:=0 + fu) (gB:=K72.tu (K72.eX fu)) F hm sc (λ_ _ _ _ _ _ us hl=>match us,hl with | [_,_],_=>rfl) (λcdv A outer s H E J T hr=>
 (av (bG (fO hr.units (e_ (ak (aa 1) au) m.len) (e_ (ak (aa 0) au) m.len)) (az (aM (aa 1))) bw)
 (av (bI (cW (aG (aa 0) (e_ (ak (aa 1) au) m.len))) (aD 2 sc.nd) (az (bG (xW hr.units (aa 2) (aa 1)) (av (aO 3 sc.nd (aQ hself hr (ak (aa 0) (ak (c_ (aa 1) (aZ (ay (aa 2) aJ))) au)) (by omega)))
 (az (bG (xV (aa 3) eE) (az (aM (aa 3))) bw))) bw)))
 (az (aM eE))))) (λas r _ h=>h)
abbrev yi:Xd:=top 31
theorem Bo (m:cS w K mg) (e:FB K mg "in_layer" yi):bh P w K mg base 1 3 "in_layer" K33.jg:=
 qc K33.xG K33.qo 3 e (λnd _ cdv A outer s H E J T hr=>
 (az (aM (r_ (Lx hr.units (aa 1) (aa 0)) (pI (N2 (AQ (fJ hr.units (aa 0) (aa 1)) eE) (pI (Gh (fJ hr.units (aa 0) (aa 1)) (aa 2)))))))))
abbrev tR:Xd:=top 37
theorem yF (m:cS w K mg) (RD:bh P w K mg base 1 3 "in_layer" K33.jg) (e:FB K mg "choices_in" tR):bh P w K mg base 2 3 "choices_in" K72.j5:=
 qc K72.s_ K72.sJ 3 e (λnd _ cdv A outer s H E J T hr=>
 (az (aM (bX (f7 ["row"] [1,2] (cP (aa 0)) (λ_ _ _ _ _ hc=>⟨(aD 0 (bT rfl)),bC,(bX (f7 ["b","pairing"] [1,2] (Gj (ak (aa 0) au) m.enumerate) (λ_ _ _ _ _ hc=>⟨(cI (aW (aD 0 (bT rfl)) (aW (aD 1 (bT rfl)) cA))),(gu (dI (aQ RD hr (ak (aa 2) (ak (aa 1) (ak (aa 3) au)))))),(aa 0)⟩) (sU (k6 hc rfl))))⟩))))))
abbrev qb:Xd:=top 38
theorem uU (m:cS w K mg) (RX:bh P w K mg base 2 3 "choices_in" K72.j5) (RY:bh P w K mg base 6 2 "map_behind" (K72.eX 6)) (e:FB K mg "mapped_still" qb):bh P w K mg base 7 2 "mapped_still" K72.fF:=
 qc K72.pY K72.pT 2 e (λnd _ cdv A outer s H E J T hr=>
 (az (aM (Gi (aQ RY hr (ak (aQ RX hr (ak (aa 0) (ak (aa 1) (ak (kr m.MOST_DEPTH) au)))) (ak (aZ aJ) au))) eE))))
abbrev CG:Xd:=top 28
theorem EX (m:cS w K mg) (Rz:bh P w K mg base 7 2 "mapped_still" K72.fF) (Rx:bh P w K mg base 1 2 "answered_still" K33.dG) (e:FB K mg "peeled" CG):bh P w K mg base 8 2 "peeled" K73.iB:=
 qc K73.Ca K73.nJ 2 e (λnd _ cdv A outer s H E J T hr=>
 (av (aO 2 nd (bX (Du hr.units ["pairing"] [] (lR (aa 0)) (λ_ _ _ _ _ hc=>⟨(aD 0 (bT rfl)),bC,(aa 0),eE⟩))))
 (av (aO 3 nd aq)
 (av (n8 4 nd (f7 ["pairing"] [1,0,2] (lR (aa 0)) (λ_ _ _ _ _ hc=>⟨(aD 0 (bT rfl)),(gu (iI (dI (pK 1 Rx m.fv_answered_still hr (ak (fJ hr.units (aa 2) (aa 0)) (ak (aa 3) au)) (pK 1 Rz m.fv_mapped_still hr (ak (fJ hr.units (aa 2) (aa 0)) (ak (aa 3) au)) Cw))))),(aa 0)⟩)))
 (av (D7 400000 (wM (aa 4)) (av (iu 4 (bI (cW (aa 4)) (aD 5 nd) (az (Ik 2 hr.units (aa 3) (aa 5)))))
 (av (Gg 3 nd aq)
 (az (n8 4 nd (f7 ["pairing"] [2,1,0] (lR (aa 0)) (λ_ _ _ _ _ hc=>⟨(aD 0 (bT rfl)),(gu (iH (ly (vB (fJ hr.units (aa 1) (aa 0)) eE) (lP (iI (dI (pK 2 Rx m.fv_answered_still hr (ak (fJ hr.units (aa 3) (aa 0)) (ak (aa 1) au)) (pK 2 Rz m.fv_mapped_still hr (ak (fJ hr.units (aa 3) (aa 0)) (ak (aa 1) au)) Cw)))))))),(aa 0)⟩)))))))
 (az (aM (aa 2))))))))
abbrev oz:Xd:=top 29
theorem t_ (m:cS w K mg) (R9:bh P w K mg base 4 3 "pairings" K23.l6) (e:FB K mg "pairings_with" oz):bh P w K mg base 5 3 "pairings_with" K33.eZ:=
 qc K33.nT K33.nI 3 e (λnd _ cdv A outer s H E J T hr=>
 (az (aM (bX (f7 ["pairing"] [2] (cP (aQ R9 hr (ak (aa 0) (ak (aa 1) (ak (kr m.MOST_SMALL) au))))) (λ_ _ _ _ _ hc=>⟨(aD 0 (bT rfl)),(gu (dI (Cv (ak (bX (f7 ["pair"] [0] (cP (aa 1)) (λ_ _ _ _ _ hc=>⟨(aD 0 (bT rfl)),bC,(oh hr.units (aa 0) (aa 1))⟩) (sU (k6 hc rfl)))) au) m.all))),(aa 0)⟩))))))
abbrev ni:Xd:=top 30
theorem sE (m:cS w K mg) (Ru:bh P w K mg base 5 3 "pairings_with" K33.eZ) (R8:bh P w K mg base 3 4 "outcomes" K33.lZ) (RT:bh P w K mg base 8 2 "peeled" K73.iB) (e:FB K mg "parting_depths" ni):bh P w K mg base 9 3 "parting_depths" K73.gW:=
 qc K73.mR K73.mw 3 e (λnd _ cdv A outer s H E J T hr=>
 (av (aO 3 nd (bX (Du hr.units ["pairing"] [] (cP (aQ Ru hr (ak (aa 0) (ak (aa 1) (ak (aa 2) au))))) (λ_ _ _ _ _ hc=>⟨(aD 0 (bT rfl)),bC,(aa 0),eN⟩))))
 (av (n8 4 nd (Du hr.units ["pairing"] [0,1,3] (lR (aa 3)) (λ_ _ _ _ _ hc=>⟨(aD 0 (bT rfl)),bC,(aa 0),(aQ R8 hr (ak (aa 1) (ak (aa 2) (ak (aa 0) (ak (aa 3) au)))))⟩)))
 (az (aM (AO RT m.fv_answered_still hr (aa 4)))))))
abbrev vH:Xd:=top 32
theorem zX (m:cS w K mg) (RD:bh P w K mg base 1 3 "in_layer" K33.jg) (e:FB K mg "layers_of" vH):bh P w K mg base 2 2 "layers_of" K33.kM:=
 qc K33.vg K33.uL 2 e (λnd _ cdv A outer s H E J T hr=>
 (az (aM (bX (f7 ["step"] [0] (eF (a_ (ak (gD (aa 1) aq) au) m.range)) (λ_ _ _ _ _ hc=>⟨(aD 0 (bT rfl)),bC,(bX (f7 ["pairing"] [1,0] (lR (aa 1)) (λ_ _ _ _ _ hc=>⟨(aD 0 (bT rfl)),(gu (dI (aQ RD hr (ak (aa 1) (ak (aa 0) (ak (aa 2) au)))))),(aa 0)⟩) (sU (k6 hc rfl))))⟩))))))
abbrev jq:Xd:=top 33
theorem IF:eY ["one","other","pairs","base"] ["one","other","pairs"] (aX jq):=⟨rfl,rfl,rfl,by decide +kernel,rfl,by decide +kernel,by decide +kernel⟩
theorem Fe (m:cS w K mg) (Rn:bh P w K mg base 3 2 "need_small" K23.dF) (RB:bh P w K mg base 1 1 "rising" K23.dc) (RK:bh P w K mg base 9 3 "parting_depths" K73.gW) (F:kC K "parted" "parted" jq f fd):eO P w K mg base (pR P w) 10 f fd ["one","other","pairs"] (q9 K 3 K73.jh):=
 have sc:=IF
 B6 (k:=9) (gB:=K73.B_) F sc (λcdv A outer s H E J hr=>nK.h (
 (av (gr (aQ Rn hr (ak (aa 0) (ak (aa 1) au))))
 (av (aO 3 sc.nd (aQ RB hr (ak (aa 2) au)))
 (az (aM (Cy hr.units (aQ RK hr (ak (aa 0) (ak (aa 1) (ak (aa 3) au)))) (aa 3) aq))))))) (λ_ _ _=>rfl)
theorem EW (G:eO P w K mg base (pR P w) 10 f fd ["one","other","pairs"] (q9 K 3 K73.jh)) (F:kC K "parted" "parted" jq f fd) (hm:mg "parted"=some (.ref f)):zl P w K mg base 10 3 "parted" K73.jh:=⟨f,fd,["one","other","pairs"],G,hm,F.kp,F.bindsAll (λT kV doc pm an cdv ct us hl=>match us,hl with | [_,_,_],_=>⟨_,rfl,rfl⟩)⟩
theorem Dr (G:eO P w K mg base (pR P w) 10 f fd ["one","other","pairs"] (q9 K 3 K73.jh)) (F:kC K "parted" "parted" jq f fd) (hm:mg "parted"=some (.ref f)):CQ P w K mg base 10 2 "parted" K73.jh:=⟨f,fd,["one","other","pairs"],G,hm,F.kp,F.bindsOne (λT kV doc pm an cdv ct us hl=>match us,hl with | [_,_],_=>⟨_,rfl,rfl⟩)⟩
abbrev A3:Xd:=top 35
theorem Ds (m:cS w K mg) (R1:bh P w K mg base 2 2 "added" K33.lD) (e:FB K mg "grid_of" A3):bh P w K mg base 3 3 "grid_of" K72.oH:=
 qc K72.As K72.zF 3 e (λnd _ cdv A outer s H E J T hr=>
 (av (bG (lQ hr.units (aG (aa 0) aq) (aG (aa 1) aq)) (az (aM (bX (f7 ["a"] [] (eF (a_ (ak (aG (aa 0) aq) au) m.range)) (λ_ _ _ _ _ hc=>⟨(aD 0 (bT rfl)),bC,(b_ aJ)⟩))))) bw)
 (az (aM (bX (f7 ["a"] [1,2] (eF (a_ (ak (aG (aa 0) aq) au) m.range)) (λ_ _ _ _ _ hc=>⟨(aD 0 (bT rfl)),bC,(bX (f7 ["b"] [2,0] (eF (a_ (ak (aG (aa 1) aq) au) m.range)) (λ_ _ _ _ _ hc=>⟨(aD 0 (bT rfl)),bC,(aQ R1 hr (ak (aa 1) (ak (aZ (ay (aa 2) (ay (aa 0) aJ))) au)))⟩) (sU (k6 hc rfl))))⟩)))))))
abbrev nc:Xd:=top 39
theorem sA (m:cS w K mg) (Ru:bh P w K mg base 5 3 "pairings_with" K33.eZ) (Sb:bh P w K mg base 3 3 "grid_of" K72.oH) (RT:bh P w K mg base 8 2 "peeled" K73.iB) (e:FB K mg "counted_depths" nc):bh P w K mg base 9 3 "counted_depths" K73.d9:=
 qc K73.mO K73.mj 3 e (λnd _ cdv A outer s H E J T hr=>
 (av (n8 3 nd (Du hr.units ["pairing"] [0,1] (cP (aQ Ru hr (ak (aa 0) (ak (aa 1) (ak (aa 2) au))))) (λ_ _ _ _ _ hc=>⟨(aD 0 (bT rfl)),bC,(aa 0),(aQ Sb hr (ak (aa 1) (ak (aa 2) (ak (aa 0) au))))⟩)))
 (az (aM (AO RT m.fv_mapped_still hr (aa 3))))))
abbrev ng:Xd:=top 40
theorem sC (m:cS w K mg) (Rn:bh P w K mg base 3 2 "need_small" K23.dF) (Ry:bh P w K mg base 2 3 "need_count" K55.fR) (Rq:bh P w K mg base 9 3 "counted_depths" K73.d9) (R3:bh P w K mg base 2 2 "layers_of" K33.kM) (e:FB K mg "counted_layers" ng):bh P w K mg base 10 3 "counted_layers" K73.gV:=
 qc K73.mP K73.mq 3 e (λnd _ cdv A outer s H E J T hr=>
 (av (gr (aQ Rn hr (ak (aa 0) (ak (aa 1) au))))
 (av (gr (aQ Ry hr (ak (aa 2) (ak aq (ak (kr m.MOST_DEPTH) au)))))
 (az (aM (aQ R3 hr (ak (aQ Rq hr (ak (aa 0) (ak (aa 1) (ak (aZ aJ) au)))) (ak (aa 2) au))))))))
abbrev cY:Xd:=top 41
theorem uy:eY ["one","other","pairs","base"] ["one","other","pairs"] (aX cY):=⟨rfl,rfl,rfl,by decide +kernel,rfl,by decide +kernel,by decide +kernel⟩
theorem sF (m:cS w K mg) (Rn:bh P w K mg base 3 2 "need_small" K23.dF) (RB:bh P w K mg base 1 1 "rising" K23.dc) (Rq:bh P w K mg base 9 3 "counted_depths" K73.d9) (F:kC K "counted_parted" "counted_parted" cY f fd):eO P w K mg base (pR P w) 10 f fd ["one","other","pairs"] (q9 K 3 K73.bU):=
 have sc:=uy
 B6 (k:=9) (gB:=K73.mQ) F sc (λcdv A outer s H E J hr=>nK.h (
 (av (gr (aQ Rn hr (ak (aa 0) (ak (aa 1) au))))
 (av (aO 3 sc.nd (aQ RB hr (ak (aa 2) au)))
 (az (aM (Cy hr.units (aQ Rq hr (ak (aa 0) (ak (aa 1) (ak (aa 3) au)))) (aa 3) aq))))))) (λ_ _ _=>rfl)
theorem sD (G:eO P w K mg base (pR P w) 10 f fd ["one","other","pairs"] (q9 K 3 K73.bU)) (F:kC K "counted_parted" "counted_parted" cY f fd) (hm:mg "counted_parted"=some (.ref f)):zl P w K mg base 10 3 "counted_parted" K73.bU:=⟨f,fd,["one","other","pairs"],G,hm,F.kp,F.bindsAll (λT kV doc pm an cdv ct us hl=>match us,hl with | [_,_,_],_=>⟨_,rfl,rfl⟩)⟩
theorem qx (G:eO P w K mg base (pR P w) 10 f fd ["one","other","pairs"] (q9 K 3 K73.bU)) (F:kC K "counted_parted" "counted_parted" cY f fd) (hm:mg "counted_parted"=some (.ref f)):CQ P w K mg base 10 2 "counted_parted" K73.bU:=⟨f,fd,["one","other","pairs"],G,hm,F.kp,F.bindsOne (λT kV doc pm an cdv ct us hl=>match us,hl with | [_,_],_=>⟨_,rfl,rfl⟩)⟩
abbrev p_:Xd:=top 43
theorem uS (m:cS w K mg) (e:FB K mg "_law_cell_at" p_):bh P w K mg base 1 2 "_law_cell_at" K72.c6:=
 qc K72.pW K72.pS 2 e (λnd _ cdv A outer s H E J T hr=>
 (av (bG (n6 JC (j6 λ_ _ _=>.bl _) (aa 1) (e_ (ak (aa 0) au) m.len)) (az (aM (aG (aa 0) (aa 1)))) bw)
 (az (aM aq))))
abbrev vF:Xd:=top 44
theorem zQ (m:cS w K mg) (e:FB K mg "_law_more" vF):bh P w K mg base 1 2 "_law_more" K72.ju:=
 qc K72.vf ["_law_cell","_law_count","_law_found","_law_number_here","_law_k"] 2 e (λnd _ cdv A outer s H E J T hr=>
 (av (aO 2 nd (b_ aJ))
 (av (aO 3 nd (Lv (ak (jX (aa 0) aq) au) m.abs))
 (av (bG (fO hr.units (bO (aa 0) aq) aq) (av (bI (a_ (ak (aa 1) au) m.range) (aD 4 nd) (av (cR 2 (bO (aa 3) (jo aq aq)))
 (az (aO 3 nd (jX (aa 3) (jo aq aq))))))
 (az (aM (aa 2)))) bw)
 (av (aO 3 nd (gD (bO (aa 3) (jo aq aq)) aq))
 (av (bI (a_ (ak (aa 1) au) m.range) (aD 4 nd) (av (aO 3 nd (bO (gD (gD (fP (aa 3) aq) (jX (aa 3) (jo aq aq))) (fP aq (aa 4))) (gD (jo aq aq) aq)))
 (az (cR 2 (jX (fP (aa 3) (gD (jX (aa 3) (jo aq aq)) aq)) (jo aq aq))))))
 (az (aM (aa 2)))))))))
abbrev tN:Xd:=top 45
theorem yC (m:cS w K mg) (e:FB K mg "_law_freed" tN):bh P w K mg base 1 2 "_law_freed" K72.iW:=
 qc K72.sX K72.sI 2 e (λnd _ cdv A outer s H E J T hr=>
 (av (bG (N1 hr.units (aa 0) (b_ (ay fK (ay fK (ay fK (ay fK (ay fK (ay fK (ay fK (ay fK aJ)))))))))) (av (bG (wM (aa 1)) (az (aM (c_ fK (oj (aa 0) (iy aq) iw)))) bw)
 (az (aM (c_ (aa 0) fK)))) bw)
 (az (aM (aa 0)))))
abbrev tP:Xd:=top 46
theorem yD (m:cS w K mg) (RG:bh P w K mg base 1 2 "_law_freed" K72.iW) (e:FB K mg "_law_names" tP):bh P w K mg base 2 2 "_law_names" K72.gP:=
 qc K72.sY ["_law_number_here","_law_many","_law_letters","_law_stem","_law_k","_law_at_here","_law_found","_law_sign"] 2 e (λnd _ cdv A outer s H E J T hr=>
 (av (aO 2 nd fK)
 (av (aO 3 nd fK)
 (av (bI (a_ (ak aq au) m.range) (aD 4 nd) (av (aO 3 nd (c_ (aa 3) (aG (aa 2) (bO (aa 0) aq))))
 (az (aO 0 nd (cZ (aa 0) aq)))))
 (av (bG (fO hr.units (bO (aa 0) aq) aq) (az (aM (vC (ak (bX (f7 ["_law_k"] [3] (eF (a_ (ak (aa 1) au) m.range)) (λ_ _ _ _ _ hc=>⟨(aD 0 (bT rfl)),bC,(aQ RG hr (ak (oj (aa 1) iw (iy (c_ aq (aa 0)))) (ak eN au)))⟩))) au) m.sorted))) bw)
 (av (aO 3 nd (oj (aa 3) iw (iy (c_ aq (bO (cZ (aa 0) aq) aq)))))
 (av (aO 5 nd (bO (cZ (aa 0) aq) (e_ (ak (aa 3) au) m.len)))
 (av (aO 6 nd (b_ aJ))
 (av (bI (a_ (ak (aa 1) au) m.range) (aD 4 nd) (av (aO 7 nd (aG (aa 2) (bO (c_ (Im (aa 2) (aG (aa 3) (aa 5))) (fP aq (aa 4))) aq)))
 (az (cR 6 (aQ RG hr (ak (c_ (c_ (oj (aa 3) iw (iy (aa 5))) (aa 7)) (oj (aa 3) (iy (c_ (aa 5) aq)) iw)) (ak eN au)))))))
 (az (aM (vC (ak (aa 6) au) m.sorted))))))))))))
abbrev tQ:Xd:=top 47
theorem yE (m:cS w K mg) (e:FB K mg "_law_world" tQ):bh P w K mg base 1 4 "_law_world" K72.dU:=
 qc K72.sZ ["_law_many","_law_marks","_law_arrows","_law_number_here","_law_parts","_law_name","_law_points","_law_point","_law_more_here","_law_pairs","_law_one","_law_other"] 4 e (λnd _ cdv A outer s H E J T hr=>
 (av (aO 4 nd (b_ aJ))
 (av (bI (cW (aa 1)) (aD 5 nd) (av (aO 6 nd (b_ aJ))
 (av (bI (a_ (ak (aa 0) au) m.range) (aD 7 nd) (av (bG (fO hr.units (bO (aa 3) aq) aq) (az (cR 6 (aa 7))) bw)
 (az (aO 3 nd (cZ (aa 3) aq)))))
 (az (cR 4 (aZ (ay (aa 5) (ay (cC (ak (aa 6) au) m.tuple) aJ))))))))
 (av (aO 8 nd (b_ aJ))
 (av (bI (cW (aa 2)) (aD 5 nd) (av (aO 9 nd (b_ aJ))
 (av (bI (a_ (ak (aa 0) au) m.range) (aD 10 nd) (az (bI (a_ (ak (aa 0) au) m.range) (aD 11 nd) (av (bG (fO hr.units (bO (aa 3) aq) aq) (az (cR 9 (aZ (ay (aa 10) (ay (aa 11) aJ))))) bw)
 (az (aO 3 nd (cZ (aa 3) aq)))))))
 (az (cR 8 (aZ (ay (aa 5) (ay (cC (ak (aa 9) au) m.tuple) aJ))))))))
 (az (aM (aZ (ay (aa 0) (ay (cC (ak (aa 4) au) m.tuple) (ay (cC (ak (aa 8) au) m.tuple) aJ)))))))))))
abbrev qa:Xd:=top 48
theorem uT (m:cS w K mg) (e:FB K mg "_law_flipped" qa):bh P w K mg base 1 2 "_law_flipped" K72.gG:=
 qc K72.pX ["_law_number_here","_law_at_here","_law_low","_law_k"] 2 e (λnd _ cdv A outer s H E J T hr=>
 (av (aO 2 nd aq)
 (av (bI (a_ (ak (aa 1) au) m.range) (aD 3 nd) (az (aO 2 nd (fP (aa 2) aq))))
 (av (bG (fO hr.units (bO (jX (aa 0) (aa 2)) aq) aq) (az (aM (CC (aa 0) (aa 2)))) bw)
 (az (aM (gD (aa 0) (aa 2))))))))
abbrev qU:Xd:=top 49
theorem vZ (m:cS w K mg) (e:FB K mg "_law_turned" qU):bh P w K mg base 1 2 "_law_turned" K72.fc:=
 qc K72.qD ["_law_world_here","_law_number_here","_law_left","_law_order","_law_k","_law_marks","_law_name","_law_points","_law_arrows","_law_pairs"] 2 e (λnd _ cdv A outer s H E J T hr=>
 (av (aO 2 nd (D8 (ak (aG (aa 0) aq) au) m.range m.list))
 (av (aO 3 nd (b_ aJ))
 (av (bI (a_ (ak (aG (aa 0) aq) au) m.range) (aD 4 nd) (av (Bv 3 2 (bO (aa 1) (e_ (ak (aa 2) au) m.len)))
 (az (aO 1 nd (cZ (aa 1) aq)))))
 (av (aO 5 nd (b_ aJ))
 (av (bI (cW (aG (aa 0) aq)) (cI (aW (aD 6 nd) (aW (aD 7 nd) cA))) (az (cR 5 (aZ (ay (aa 6) (ay (cC (ak (xX hr.units (ak (bX (f7 ["_law_point"] [3] (cP (aa 7)) (λ_ _ _ _ _ hc=>⟨(aD 0 (bT rfl)),bC,(aG (aa 1) (aa 0))⟩))) au) m.sorted) au) m.tuple) aJ))))))
 (av (aO 8 nd (b_ aJ))
 (av (bI (cW (aG (aa 0) aq)) (cI (aW (aD 6 nd) (aW (aD 9 nd) cA))) (az (cR 8 (aZ (ay (aa 6) (ay (cC (ak (xX hr.units (ak (bX (f7 ["_law_a","_law_b"] [3] (cP (aa 9)) (λ_ _ _ _ _ hc=>⟨(cI (aW (aD 0 (bT rfl)) (aW (aD 1 (bT rfl)) cA))),bC,(aZ (ay (aG (aa 2) (aa 0)) (ay (aG (aa 2) (aa 1)) aJ)))⟩))) au) m.sorted) au) m.tuple) aJ))))))
 (az (aM (aZ (ay (aG (aa 0) aq) (ay (cC (ak (aa 5) au) m.tuple) (ay (cC (ak (aa 8) au) m.tuple) aJ))))))))))))))
abbrev yh:Xd:=top 50
theorem Bm (m:cS w K mg) (RZ:bh P w K mg base 1 2 "_law_more" K72.ju) (RH:bh P w K mg base 2 2 "_law_names" K72.gP) (Rv:bh P w K mg base 1 4 "_law_world" K72.dU) (RA:bh P w K mg base 1 2 "_law_turned" K72.fc) (RN:bh P w K mg base 1 2 "_law_flipped" K72.gG) (e:FB K mg "_law_two" yh):bh P w K mg base 3 2 "_law_two" K72.kg:=
 qc K72.xF K72.wY 2 e (λnd _ cdv A outer s H E J T hr=>
 (av (aO 2 nd (aQ RZ hr (ak (aa 0) (ak aq au))))
 (av (aO 3 nd (CB (aQ RH hr (ak (aG (aa 2) aq) (ak aq au))) iw (iy (aG (b_ (ay aq (ay aq (ay aq (ay aq (ay aq (ay aq aJ))))))) (bO (aG (aa 2) aq) aq)))))
 (av (aO 4 nd (CB (aQ RH hr (ak (aG (b_ (ay (aG (aa 2) aq) (ay (aG (aa 2) aq) aJ))) (cZ (bO (cZ (aG (aa 2) aq) aq) aq) aq)) (ak aq au))) iw (iy (aG (b_ (ay aq (ay aq (ay aq (ay aq (ay aq (ay aq aJ))))))) (bO (cZ (aG (aa 2) aq) aq) aq)))))
 (av (aO 5 nd (aG (aa 1) (bO (cZ (aG (aa 2) aq) aq) (e_ (ak (aa 1) au) m.len))))
 (av (aO 6 nd (aG (b_ (ay aq (ay (CC (jo aq aq) aq) (ay (aG (aa 2) aq) (ay (aG (aa 2) aq) (ay (aG (aa 2) aq) (ay (aG (aa 2) aq) aJ))))))) (bO (cZ (aG (aa 2) aq) aq) aq)))
 (av (iu 4 (iu 3 (aO 7 nd (aQ Rv hr (ak (aa 5) (ak (aa 3) (ak (aa 4) (ak (aa 6) au))))))))
 (av (aO 8 nd (bO (aG (aa 2) aq) aq))
 (av (bG (fO hr.units (aa 8) aq) (az (aM (aZ (ay (aa 7) (ay (aQ RA hr (ak (aa 7) (ak (aG (aa 2) aq) au))) aJ))))) bw)
 (av (bG (fO hr.units (aa 8) aq) (av (aO 9 nd (Ly (ak aq (ak (gD (fP (aa 5) (e_ (ak (aa 3) au) m.len)) (fP (fP (aa 5) (aa 5)) (e_ (ak (aa 4) au) m.len))) au)) m.max))
 (av (aO 10 nd (aQ Rv hr (ak (aa 5) (ak (aa 3) (ak (aa 4) (ak (aQ RN hr (ak (aa 6) (ak (bO (cZ (aG (aa 2) aq) aq) (aa 9)) au))) au))))))
 (az (aM (aZ (ay (aa 7) (ay (aQ RA hr (ak (aa 10) (ak (aG (aa 2) aq) au))) aJ))))))) bw)
 (av (aO 5 nd (aG (aa 1) (bO (aG (aa 2) aq) (e_ (ak (aa 1) au) m.len))))
 (av (bG (fO hr.units (aa 8) aq) (az (aM (aZ (ay (aa 7) (ay (aQ Rv hr (ak (aa 5) (ak (aa 3) (ak (aa 4) (ak (aa 6) au))))) aJ))))) bw)
 (az (aM (aZ (ay (aa 7) (ay (aQ Rv hr (ak (aa 5) (ak (aa 3) (ak (aa 4) (ak (aG (aa 2) aq) au))))) aJ)))))))))))))))))
abbrev AW:Xd:=top 51
theorem Dq (m:cS w K mg) (e:FB K mg "_law_at" AW):bh P w K mg base 1 3 "_law_at" K72.lC:=
 qc K72.Aq K72.zC 3 e (λnd _ cdv A outer s H E J T hr=>
 (av (bI (cW (aa 0)) (cI (aW (aD 3 nd) (aW (aD 4 nd) cA))) (az (bG (fO hr.units (aa 3) (aa 1)) (az (aM (oh hr.units (aa 2) (aa 4)))) bw)))
 (az (aM eN))))
abbrev yg:Xd:=top 52
theorem Bl (m:cS w K mg) (RU:bh P w K mg base 1 3 "_law_at" K72.lC) (e:FB K mg "_law_fit" yg):bh P w K mg base 2 3 "_law_fit" K72.eV:=
 qc K72.xE K72.wX 3 e (λnd _ cdv A outer s H E J T hr=>
 (av (bI (cW (aa 2)) (cI (aW (aD 3 nd) (aW (aD 4 nd) cA))) (av (bI (cW (aG (aa 0) aq)) (cI (aW (aD 5 nd) (aW (aD 6 nd) cA))) (az (bG (lQ hr.units (oh hr.units (aa 3) (aa 6)) (aQ RU hr (ak (aG (aa 1) aq) (ak (aa 5) (ak (aa 4) au))))) (az (aM eN)) bw)))
 (az (bI (cW (aa 2)) (cI (aW (aD 7 nd) (aW (aD 8 nd) cA))) (av (bG (lQ hr.units (n_ hr.units (aa 3) (aa 7)) (n_ hr.units (aa 4) (aa 8))) (az (aM eN)) bw)
 (az (bI (cW (aG (aa 0) aq)) (cI (aW (aD 5 nd) (aW (aD 9 nd) cA))) (az (bG (lQ hr.units (oh hr.units (aZ (ay (aa 3) (ay (aa 7) aJ))) (aa 9)) (aQ RU hr (ak (aG (aa 1) aq) (ak (aa 5) (ak (aZ (ay (aa 4) (ay (aa 8) aJ))) au))))) (az (aM eN)) bw)))))))))
 (az (aM eN))))
abbrev ow:Xd:=top 53
theorem t9 (m:cS w K mg) (Rw:bh P w K mg base 2 3 "_law_fit" K72.eV) (e:FB K mg "_law_pairings" ow):bh P w K mg base 3 3 "_law_pairings" K72.iA:=
 qc K72.nS K72.nG 3 e (λnd _ cdv A outer s H E J T hr=>
 (av (aO 3 nd (b_ (ay (aZ aJ) aJ)))
 (av (iu 6 (aO 4 nd (b_ (ay (aZ aJ) aJ))))
 (av (bI (a_ (ak (aa 2) au) m.range) (aD 5 nd) (av (aO 6 nd (b_ aJ))
 (av (iu 4 (bI (cW (aa 4)) (aD 7 nd) (az (bI (a_ (ak (aG (aa 0) aq) au) m.range) (aD 8 nd) (az (bI (a_ (ak (aG (aa 1) aq) au) m.range) (aD 9 nd) (az (bG (iH (ly (iH (qR (fO hr.units (aa 7) (aZ aJ)) (r6 (Lu hr.units (aG (aa 7) (Cz aq)) (aZ (ay (aa 8) (ay (aa 9) aJ))))))) (lP (dI (aQ Rw hr (ak (aa 0) (ak (aa 1) (ak (c_ (aa 7) (aZ (ay (aZ (ay (aa 8) (ay (aa 9) aJ))) aJ))) au)))))))) (az (cR 6 (c_ (aa 7) (aZ (ay (aZ (ay (aa 8) (ay (aa 9) aJ))) aJ))))) bw))))))))
 (av (iu 6 (aO 4 nd (aa 6)))
 (az (tH 3 (aa 6)))))))
 (az (aM (aa 3)))))))
abbrev tM:Xd:=top 54
theorem yz (m:cS w K mg) (Ro:bh P w K mg base 1 2 "_law_cell_at" K72.c6) (RL:bh P w K mg base 3 3 "_law_pairings" K72.iA) (e:FB K mg "_law_drawn" tM):bh P w K mg base 4 3 "_law_drawn" K73.iV:=
 qc K73.sW K73.sH 3 e (λnd _ cdv A outer s H E J T hr=>
 (av (aO 3 nd (aQ Ro hr (ak (aa 0) (ak aq au))))
 (av (aO 4 nd (b_ aJ))
 (av (bG (fO hr.units (bO (aa 3) aq) aq) (av (bI (a_ (ak (bO (cZ (aa 3) aq) aq) au) m.range) (aD 5 nd) (av (aO 6 nd (aQ Ro hr (ak (aa 0) (ak (c_ aq (aa 5)) au))))
 (az (cR 4 (aZ (ay (bO (aa 6) (aG (aa 1) aq)) (ay (bO (cZ (aa 6) aq) (aG (aa 2) aq)) aJ)))))))
 (az (aM (cC (ak (aa 4) au) m.tuple)))) bw)
 (av (aO 7 nd (aQ RL hr (ak (aa 1) (ak (aa 2) (ak aq au)))))
 (av (aO 4 nd (Io (ak (aG (aa 7) (bO (cZ (aa 3) aq) (e_ (ak (aa 7) au) m.len))) au) m.list))
 (av (bI (a_ (ak (fP (bO (cZ (aa 3) aq) aq) (xZ (ak (Gh (e_ (ak (aa 4) au) m.len) aq) au) m.int)) au) m.range) (aD 5 nd) (az (cR 4 (aG (aa 4) (bO (cZ (aa 3) aq) (e_ (ak (aa 4) au) m.len))))))
 (av (bG (fO hr.units (bO (cZ (aa 3) aq) aq) aq) (az (aO 4 nd (Ip (aa 4) O1))) bw)
 (az (aM (cC (ak (aa 4) au) m.tuple)))))))))))
abbrev qT:Xd:=top 55
theorem vY (m:cS w K mg) (e:FB K mg "_law_number" qT):bh P w K mg base 1 2 "_law_number" K32.i8:=
 qc K32.Ar K32.zD 2 e (λnd _ cdv A outer s H E J T hr=>
 (av (bG (vB (aa 1) eE) (az (aM (AQ (aa 0) eE))) bw)
 (az (aM (r_ (kT Cg xu m.int (aa 0) m.isinstance) (r_ (CA (kT AA uQ m.bool (aa 0) m.isinstance)) (pI (n_ hr.units (aa 0) (aa 1)))))))))
abbrev yf:Xd:=top 56
theorem Bk (m:cS w K mg) (Rw:bh P w K mg base 2 3 "_law_fit" K72.eV) (e:FB K mg "_law_due" yf):bh P w K mg base 3 4 "_law_due" K73.kc:=
 qc K73.xD K73.wW 4 e (λnd _ cdv A outer s H E J T hr=>
 (av (bG (iI (dI (aQ Rw hr (ak (aa 0) (ak (aa 1) (ak (aa 2) au)))))) (az (aM aq)) bw)
 (av (aO 4 nd (cC (ak (xY hr.units (ak (aa 2) au) m.sorted m.set) au) m.tuple))
 (av (bI (a_ (ak aq au) m.range) (aD 5 nd) (az (bG (xW hr.units (aa 4) (aG (aa 3) (aa 5))) (az (aM (aa 5))) bw)))
 (az (aM eE))))))
abbrev pM:Xd:=top 57
theorem Pd:eY ["_law_script","_law_large","_law_one","_law_other","_law_pairs","_law_told","_law_due_here","_law_plain"] ["_law_script"] (aX pM):=⟨rfl,rfl,rfl,by decide +kernel,rfl,by decide +kernel,by decide +kernel⟩
theorem OY (m:cS w K mg) (Ro:bh P w K mg base 1 2 "_law_cell_at" K72.c6) (R6:bh P w K mg base 3 2 "_law_two" K72.kg) (RV:bh P w K mg base 4 3 "_law_drawn" K73.iV) (RJ:bh P w K mg base 10 3 "counted_layers" K73.gV) (RO:bh P w K mg base 3 4 "_law_due" K73.kc) (Rr:zl P w K mg base 10 3 "counted_parted" K73.bU) (Rt:bh P w K mg base 1 2 "_law_number" K32.i8) (Si:zl P w K mg base 10 3 "parted" K73.jh) (Rw:bh P w K mg base 2 3 "_law_fit" K72.eV) (RC:CQ P w K mg base 10 2 "counted_parted" K73.bU) (F:l_ K "law" "law" pM f fd):eO P w K mg base pQ 11 f fd ["_law_script"] (qZ K 1 K73.vQ):=
 have sc:=Pd
 Lq (k:=10) (gB:=K73.ML) F sc (λcdv A outer s H E J T hr=>
 (av (aO 1 sc.nd (n_ hr.units (bO (aQ Ro hr (ak (aa 0) (ak aq au))) aq) aq))
 (av (uv (aQ R6 hr (ak (aQ Ro hr (ak (aa 0) (ak aq au))) (ak (aG (b_ (ay (b_ (ay aq (ay aq (ay aq (ay aq (ay aq aJ)))))) (ay (b_ (ay aq (ay aq (ay aq (ay aq (ay aq aJ)))))) aJ))) (xZ (ak (aa 1) au) m.int)) au))) (cI (aW (aD 2 sc.nd) (aW (aD 3 sc.nd) cA))))
 (av (aO 4 sc.nd (aQ RV hr (ak (aa 0) (ak (aa 2) (ak (aa 3) au)))))
 (av (aO 5 sc.nd (aQ RJ hr (ak (aa 2) (ak (aa 3) (ak aq au)))))
 (av (aO 6 sc.nd (aQ RO hr (ak (aa 2) (ak (aa 3) (ak (aa 4) (ak (aa 5) au))))))
 (av (bG (iI (dI (aQ Rt hr (ak (pJ Rr hr (ak (aa 2) (ak (aa 3) (ak (aa 4) au)))) (ak (aa 6) au))))) (az (aM eN)) bw)
 (av (aO 7 sc.nd (pJ Si hr (ak (aa 2) (ak (aa 3) (ak (aa 4) au)))))
 (av (bG (iH (ly (xV (aa 7) eE) (lP (iH (qR (vB (aa 6) eE) (r6 (n6 zc (j6 λ_ _ _=>.bl _) (aa 6) (aa 7)))))))) (az (aM eN)) bw)
 (av (bG (iH (ly (dI (aQ Rw hr (ak (aa 2) (ak (aa 3) (ak (aa 4) au))))) (ly (lQ hr.units (aG (aa 2) aq) (aG (aa 3) aq)) (lP (lQ hr.units (aa 6) aq))))) (az (aM eN)) bw)
 (av (bG (iI (dI (aQ Rt hr (ak (pJ Rr hr (ak (aa 3) (ak (aa 2) (ak (cC (ak (bX (f7 ["_law_a","_law_b"] [] (cP (aa 4)) (λ_ _ _ _ _ hc=>⟨(cI (aW (aD 0 (bT rfl)) (aW (aD 1 (bT rfl)) cA))),bC,(aZ (ay (aa 1) (ay (aa 0) aJ)))⟩))) au) m.tuple) au)))) (ak (aa 6) au))))) (az (aM eN)) bw)
 (av (aO 6 sc.nd (aQ RO hr (ak (aa 2) (ak (aa 3) (ak (aZ aJ) (ak (aa 5) au))))))
 (av (bG (iI (dI (aQ Rt hr (ak (Il RC hr (ak (aa 2) (ak (aa 3) au))) (ak (aa 6) au))))) (az (aM eN)) bw)
 (az (aM (aQ Rt hr (ak (pJ Rr hr (ak (aa 2) (ak (aa 3) (ak eE au)))) (ak (aa 6) au)))))))))))))))))) (λas r _ h=>h)
end
end K73
namespace K73
open PySem DL K01 WP K51 K52 K55 K22 K33 K72
open K23 (Pr aP Good iT eK bH jQ fY g8 dc g9 pP)
def fV (v w:Wd) (L:Nat->Ps->Bool) (n:Nat) (B:Ps):Option Nat:=(UQ (n + 1)).find? λj=>!(decide (B∈T4 v w) && L j B)
section
variable {v w:Wd}{B C:Ps}{n j:Nat}{L:Nat->Ps->Bool}
abbrev JD (i r d:Nat):G R:=qB i "answered_still" (gN (aN 2 dG) (ao (g2 fD (af r) (af 0)) (ao (af d) aE))) (qB i "mapped_still" (gN (aN 2 fF) (ao (g2 fD (af r) (af 0)) (ao (af d) aE))) yZ)
theorem P9 (t:Pr v w) (hB:B.length<=100):∃f:Ps->Option Nat,K73.gW [.d v.d,.d w.d,.d (aP B)]=.ok (.mf ((kn v w B).map aP) ((kn v w B).map λk=>dV (f k)))/\∀j,∀k∈kn v w B,mU (f k) j=La v w j k:=by
 have v4:=t.v4
 have w4:=t.w4
 have tl:=yV t
 have kl:(kn v w B).length<=(T4 v w).length:=V0 _ _
 have nd:(kn v w B).Nodup:=(wR v w 4).filter _
 have pl:(picks v w).length<=8:=by unfold picks;simp;omega
 have h2:∀k∈kn v w B,∀r∈RW v w B k,r.length<=1000:=λk _ r hr=>by
  obtain ⟨q,_,rfl⟩:=UY.mp hr
  refine Vq (V0 _ _) ?_
  rw [UR]
  unfold kL
  split <;> simp <;> omega
 have h1:∀k∈kn v w B,(RW v w B k).length<=1000:=λk _=>by unfold RW;rw [UR];omega
 have st:∀d k,k∈kn v w B->dG [.d (AV (RW v w B) k),.db ((kn v w B).map aP) ((kn v w B).map λk=>dV (dA (RW v w B) d k))]=.ok (.d (.bl (JL (RW v w B) (LY (RW v w B) d) k))):=λd k hk=>by
  rw [JX (RW v w B k) (kn v w B) (dA (RW v w B) d) (De k hk) (h1 k hk) (h2 k hk)]
  congr 4
  funext r
  congr 1
  funext x
  rw [Vy,Option.isNone_iff_eq_none,jk]
 have dx:∀k∈kn v w B,∀x:R,sS x=some ((kn v w B).map aP,(kn v w B).map (AV (RW v w B)))->fD x (.d (aP k))=.ok (.d (AV (RW v w B) k)):=λk hk x hx=>k8 gY hx (gf k) hk
 obtain ⟨d,_,h,hs⟩:=Ep (ks:=kn v w B) (val:=AV (RW v w B)) (x:="answered_still") (st:=JL (RW v w B)) (c1:=JD 1 2 3) (c2:=JD 2 3 1) (λ_=>True) trivial (λ_ _ _ _ _ _=>trivial) nd (by omega)
  (λk hk d _=>(c2 (two rfl rfl (dx k hk _ rfl)) rfl (st d k hk)).trans rfl) (λk hk d _=>(c2 (two rfl rfl (dx k hk _ rfl)) rfl (st d k hk)).trans rfl)
 refine ⟨dA (RW v w B) d,?_,λj k hk=>(Fw λj q=>QF De hs j k hk q).trans (Qa hk)⟩
 refine bM (bB (uV (e:=aP) (f:=λ_=>.bl true) (ks:=kn v w B) gY nd ?_ (by omega) λk hk=>⟨gf k,rfl,_,rfl,rfl⟩) rfl (bB (uV (e:=aP) (f:=AV (RW v w B)) (ks:=kn v w B) gY nd rfl (by omega) λk hk=>⟨gf k,rfl,_,c4 rfl rfl rfl rfl (OC t (kn v w B) k (by have:=PV t (ir.mp hk).1;omega)),rfl⟩) rfl (bz (r:=.mf ((kn v w B).map aP) ((kn v w B).map λk=>dV (dA (RW v w B) d k))) ?_ rfl rfl)))
 ·show (gN _ _ _ >>= _)=_
  rw [c3 rfl rfl rfl (BG t hB)]
  rfl
 ·show (match K73.iB [.db ((kn v w B).map aP) ((kn v w B).map (AV (RW v w B))),.fn "answered_still"] with
   | .ok r=>M.ok (mK r)
   | _=>.bad)=_
  rw [show K73.iB [.db ((kn v w B).map aP) ((kn v w B).map (AV (RW v w B))),.fn "answered_still"]=_ from h]
  rfl
theorem L3 (t:Pr v w) (hB:B.length<=100):∃f:Ps->Option Nat,K73.d9 [.d v.d,.d w.d,.d (aP B)]=.ok (.mf ((kn v w B).map aP) ((kn v w B).map λk=>dV (f k)))/\∀j,∀k∈kn v w B,mU (f k) j=Lc v w j k:=by
 have v4:=t.v4
 have tl:=yV t
 have kl:(kn v w B).length<=(T4 v w).length:=V0 _ _
 have nd:(kn v w B).Nodup:=(wR v w 4).filter _
 have dx:∀k∈kn v w B,∀x:R,sS x=some ((kn v w B).map aP,(kn v w B).map λk=>D.lst (qH v w k))->fD x (.d (aP k))=.ok (.d (.lst (qH v w k))):=λk hk x hx=>k8 gY hx (gf k) hk
 obtain ⟨d,_,h,hs⟩:=Ep (ks:=kn v w B) (val:=λk=>.lst (qH v w k)) (x:="mapped_still") (st:=iL v w) (c1:=JD 1 2 3) (c2:=JD 2 3 1) (λd=>d<=v.m) (Vl _) (λd hd k hk h1 h2=>Nat.lt_of_le_of_ne hd λe=>by
   have:=Eu t ((jG t).mp (ir.mp hk).1) (acB e.symm) h1 (d + 1)
   rw [show Lc v w (d + 1) k=false from h2] at this
   cases this) nd (by omega)
  (λk hk d hd=>(c2 (two rfl rfl (dx k hk _ rfl)) rfl (zm t k _ d (by omega) (AB hk))).trans rfl) (λk hk d hd=>(c2 (two rfl rfl (dx k hk _ rfl)) rfl (zm t k _ d (by omega) (AB hk))).trans rfl)
 refine ⟨dZ (iL v w) d,?_,λj k hk=>Fw λj q=>zh (λL L' k hk hx=>?_) hs j k hk q⟩
 ·refine bM (bB (uV (e:=aP) (f:=λk=>D.lst (qH v w k)) (ks:=kn v w B) gY nd ?_ (by omega) λk hk=>⟨gf k,rfl,_,c3 rfl rfl rfl (L5 t k (by have:=PV t (ir.mp hk).1;omega)),rfl⟩) rfl (bz (r:=.mf ((kn v w B).map aP) ((kn v w B).map λk=>dV (dZ (iL v w) d k))) ?_ rfl rfl))
  ·show (gN _ _ _ >>= _)=_
   rw [c3 rfl rfl rfl (BG t hB)]
   rfl
  ·show (match K73.iB [.db ((kn v w B).map aP) ((kn v w B).map λk=>D.lst (qH v w k)),.fn "mapped_still"] with
    | .ok r=>M.ok (mK r)
    | _=>.bad)=_
   rw [show K73.iB [.db ((kn v w B).map aP) ((kn v w B).map λk=>D.lst (qH v w k)),.fn "mapped_still"]=_ from h]
   rfl
 ·rw [A7 t,A7 t]
  rintro ⟨σ,m⟩
  exact ⟨σ,m.m,m.nd,m.len,λa ha=>let ⟨a1,a2,a3⟩:=m.at_ a ha;⟨a1,a2,hx _ ((AB hk _).mpr a2) a3⟩⟩
theorem Eo (t:Pr v w) (n:Nat) (hn:n<=6):K73.gV [.d v.d,.d w.d,.d (.int n)]=.ok (.l .fresh ((UQ (n + 1)).map (xw v w))):=by
 obtain ⟨f,h1,h2⟩:=L3 (B:=[]) t (by decide)
 rw [M_] at h1 h2
 refine bM (jT (c2 rfl rfl (jQ t)) (jT (c3 rfl rfl rfl (P7 n 6 hn)) (bz (c2 (c3 rfl rfl (bF br (by decide)) h1) rfl (OB (T4 v w) f n (by omega) (by have:=yV t;omega))) rfl ?_)))
 show O.rt (.l .fresh _)=_
 congr 2
 refine Wx λj _=>?_
 unfold xw
 rw [Zp λk hk=>h2 j k hk]
theorem Fo (f:Ps->Option Nat) (h2:∀j,∀k∈kn v w B,mU (f k) j=L j k) (hst:B∈T4 v w->L n B=true->∀j,L j B=true):
  (if dO (aP B)=true then M.ok (R.d ((gK ((kn v w B).map aP) ((kn v w B).map λk=>dV (f k)) (aP B)).getD (.int 0))) else .bad)=.ok (.d (dV (fV v w L n B))):=by
 rw [if_pos (gf B),nV gY]
 have hk:B∈kn v w B↔B∈T4 v w:=by rw [ir];exact ⟨λh=>h.1,λh=>⟨h,λ_ h=>h⟩⟩
 congr 3
 by_cases hB:B∈T4 v w
 ·rw [if_pos (hk.mpr hB)]
  have h3:=λj=>h2 j B (hk.mpr hB)
  show dV (f B)=_
  congr 1
  unfold fV
  cases q:f B with
  | none=>
   refine (Y7.mpr λj _=>?_).symm
   rw [decide_eq_true hB,<-h3 j,q]
   show ¬(!(true && true))=true
   decide
  | some e=>
   rw [q] at h3
   have he:e<=n:=aaI λc=>by
    have:=hst hB ((h3 n).symm.trans (decide_eq_true c)) e
    rw [<-h3 e] at this
    exact absurd (of_decide_eq_true this) (Wr _)
   refine (WB.mpr ⟨?_,U1.mpr (by omega),λj hj=>?_⟩).symm
   ·rw [<-h3 e,decide_eq_true hB]
    show (!(true && decide (e < e)))=true
    simp
   ·rw [<-h3 j,decide_eq_true hB]
    show (!(!(true && decide (j < e))))=true
    rw [decide_eq_true hj];rfl
 ·rw [if_neg λz=>hB (hk.mp z)]
  unfold fV
  rw [decide_eq_false hB]
  have:(UQ (n + 1)).find? (λj=>!(false && L j B))=some 0:=WB.mpr ⟨rfl,U1.mpr (by omega),λj hj=>absurd hj (V4 _)⟩
  rw [this];rfl
theorem GP (t:Pr v w) (d:D) (hr:dc [.d d]=.ok (.d (aP B))) (hB:B.length<=100):K73.jh [.d v.d,.d w.d,.d d]=.ok (.d (dV (fV v w (La v w) 4 B))):=by
 obtain ⟨f,h1,h2⟩:=P9 (B:=B) t hB
 refine bM (jT (c2 rfl rfl (jQ t)) (bB (c1 rfl hr) rfl (bz (r:=.d (dV (fV v w (La v w) 4 B))) ?_ rfl rfl)))
 unfold Ao
 rw [c3 rfl rfl rfl h1,aS]
 exact Fo f h2 λhT h j=>Mb t ((jG t).mp hT) t.v4 t.w4 h j
theorem qe (t:Pr v w) (d:D) (hr:dc [.d d]=.ok (.d (aP B))) (hB:B.length<=100):K73.bU [.d v.d,.d w.d,.d d]=.ok (.d (dV (fV v w (Lc v w) 4 B))):=by
 obtain ⟨f,h1,h2⟩:=L3 (B:=B) t hB
 refine bM (jT (c2 rfl rfl (jQ t)) (bB (c1 rfl hr) rfl (bz (r:=.d (dV (fV v w (Lc v w) 4 B))) ?_ rfl rfl)))
 unfold Ao
 rw [c3 rfl rfl rfl h1,aS]
 exact Fo f h2 λhT h j=>Eu t ((jG t).mp hT) t.v4 h j
end
end K73
namespace K73
open PySem DL K01 WP K51 K52 K55 K22 K33 K72
open K23 (Pr aP Good iT eK bH fY g8 dc g9 pP rV f6 d_)
section
variable {v w:Wd}{B C:Ps}{n j:Nat}{L:Nat->Ps->Bool}
theorem rT {L:Ps->Bool}{σ:List Nat}(m:Mp v w L B σ){b:Nat}(hb:b < w.m):∃a,∃h:a < σ.length,σ[a]=b:=by
 have:=(rV m.nd m.len λp hp=>by
  obtain ⟨i,hi,rfl⟩:=VT.mp hp
  rw [m.m];exact (m.at_ i hi).1).mem_iff (a:=b)
 obtain ⟨i,hi,e⟩:=VT.mp (this.mpr (U1.mpr (by rw [m.m];exact hb)))
 exact ⟨i,hi,e⟩
theorem uH (t:Pr v w):∀(j:Nat) (B:Ps),Lc v w j B=true->La v w j B=true
 | 0,_,_=>rfl
 | j + 1,B,h=>by
  obtain ⟨h1,σ,m⟩:=(tY t).mp h
  refine GS.mpr ⟨uH t j B h1,λk hk=>?_⟩
  unfold picks at hk
  rcases Vj.mp hk with hk | hk
  ·obtain ⟨a,ha,rfl⟩:=UY.mp hk
   have ha':a < σ.length:=by rw [m.len];exact U1.mp ha
   obtain ⟨a1,a2,a3⟩:=m.at_ a ha'
   exact ⟨(a,σ[a]),by unfold kL;exact UY.mpr ⟨_,U1.mpr a1,rfl⟩,a2,uH t j _ a3⟩
  ·obtain ⟨b,hb,rfl⟩:=UY.mp hk
   obtain ⟨a,ha',rfl⟩:=rT m (U1.mp hb)
   obtain ⟨a1,a2,a3⟩:=m.at_ a ha'
   exact ⟨(a,σ[a]),by unfold kL;exact UY.mpr ⟨a,U1.mpr (by rw [<-m.len];exact ha'),rfl⟩,a2,uH t j _ a3⟩
def Sy (B C:Ps):Prop:=∀a b,(a,b)∈B↔(b,a)∈C
theorem Sy.add (h:Sy B C) (a b:Nat):Sy (bL B (a,b)) (bL C (b,a)):=λx y=>by
 rw [gT,gT,h x y]
 simp only [Prod.mk.injEq]
 exact or_congr aej and_comm
theorem qQ (t:Pr v w):Pr w v:=⟨t.wo,t.vo,t.w4,t.v4,t.mn.symm,t.an.symm⟩
theorem Sy.T (t:Pr v w) (h:Sy B C) (uB:B.Pairwise mY) (uC:C.Pairwise mY) (hB:B∈T4 v w):C∈T4 w v:=by
 have g:=(jG t).mp hB
 refine (jG (qQ t)).mpr ((o7 uC).mpr ⟨λp hp q hq=>?_,λp hp=>?_⟩)
 ·have a:=g.ag (p.2,p.1) ((h p.2 p.1).mpr hp) (q.2,q.1) ((h q.2 q.1).mpr hq)
  exact ⟨a.eq.symm,a.ms.symm,a.ar.symm⟩
 ·have:=g.rg (p.2,p.1) ((h p.2 p.1).mpr hp)
  exact ⟨this.2,this.1⟩
theorem Sy.Lc (t:Pr v w):∀(j:Nat){B C:Ps},Sy B C->Lc v w j B=true->Lc w v j C=true
 | 0,_,_,_,_=>rfl
 | j + 1,B,C,h,q=>by
  obtain ⟨h1,σ,m⟩:=(tY t).mp q
  refine (tY (qQ t)).mpr ⟨Sy.Lc t j h h1,(UQ w.m).map λb=>σ.idxOf b,m.m.symm,?_,by simp,λb hb=>?_⟩
  ·refine xQ (λa ha b hb e=>?_) WJ
   obtain ⟨i,hi,rfl⟩:=rT m (U1.mp ha)
   have:=Xr (VY (Vt hi))
   rw [<-this]
   obtain ⟨k,hk,rfl⟩:=rT m (U1.mp hb)
   have:=Xr (VY (Vt hk))
   rw [<-this]
   congr 1
  ·have hb':b < w.m:=by simpa using hb
   obtain ⟨a,ha,e⟩:=rT m hb'
   have hm:b∈σ:=e▸Vt ha
   have hl:=VY hm
   have hg:σ[σ.idxOf b]=b:=Xr hl
   obtain ⟨_,a2,a3⟩:=m.at_ (σ.idxOf b) hl
   rw [hg] at a2 a3
   rw [V5,Z9]
   exact ⟨by rw [<-m.len];exact hl,(h.add (σ.idxOf b) b).T t (ku _) (ku _) a2,Sy.Lc t j (h.add (σ.idxOf b) b) a3⟩
theorem NV {v w v' w':Wd}{L L':Nat->Ps->Bool}{B C:Ps}(h:∀j,(B∈T4 v w/\L j B=true)↔(C∈T4 v' w'/\L' j C=true)):fV v w L n B=fV v' w' L' n C:=by
 unfold fV
 congr 1
 funext j
 congr 1
 rw [Vy,UT,UT,decide_eq_true_eq,decide_eq_true_eq]
 exact h j
theorem NX (t:Pr v w) (h:Sy B C) (uB:B.Pairwise mY) (uC:C.Pairwise mY):fV w v (Lc w v) n C=fV v w (Lc v w) n B:=
 NV λj=>⟨λq=>⟨Sy.T (qQ t) (λa b=>(h b a).symm) uC uB q.1,Sy.Lc (qQ t) j (λa b=>(h b a).symm) q.2⟩,λq=>⟨Sy.T t h uB uC q.1,Sy.Lc t j h q.2⟩⟩
theorem D6 {j:Nat}(h:fV v w L n B=some j):(B∈T4 v w/\L j B=true->False)/\∀i,i < j->B∈T4 v w/\L i B=true:=by
 unfold fV at h
 obtain ⟨h1,_,h3⟩:=WB.mp h
 refine ⟨λq=>?_,λi hi=>?_⟩
 ·rw [decide_eq_true q.1,q.2] at h1
  cases h1
 ·have:=h3 i hi
  rw [Bool.not_not,UT,decide_eq_true_eq] at this
  exact this
theorem Ij (h:fV v w L n B=none){j:Nat}(hj:j<=n):B∈T4 v w/\L j B=true:=by
 unfold fV at h
 have:=Y7.mp h j (U1.mpr (by omega))
 rw [Bool.not_eq_true',Bool.not_eq_false,UT,decide_eq_true_eq] at this
 exact this
theorem O6 (t:Pr v w){p:Nat}(hp:fV v w (La v w) 4 B=some p) (p4:p<=4):∃q,fV v w (Lc v w) 4 B=some q/\q<=p:=by
 cases e:fV v w (Lc v w) 4 B with
 | none=>
  obtain ⟨a,b⟩:=Ij e p4
  exact ((D6 hp).1 ⟨a,uH t p B b⟩).elim
 | some q=>
  refine ⟨q,rfl,aaI λc=>?_⟩
  obtain ⟨a,b⟩:=(D6 e).2 p c
  exact (D6 hp).1 ⟨a,uH t p B b⟩
theorem Qs {p:Nat}(hp:fV v w L 4 B=some p):p<=4:=by
 unfold fV at hp
 have:=(WB.mp hp).2.1
 have:=U1.mp this
 omega
theorem NW (t:Pr v w) (hm:v.m≠w.m) (hB:B∈T4 v w):fV v w (Lc v w) 4 B=some 1:=by
 unfold fV
 refine WB.mpr ⟨?_,by decide,λi hi=>?_⟩
 ·cases q:Lc v w 1 B with
  | false=>rw [Xu];rfl
  | true=>
   obtain ⟨_,σ,m⟩:=(tY t).mp q
   exact absurd m.m hm
 ·rw [show i=0 by omega,decide_eq_true hB]
  rfl
theorem IW (t:Pn v w) (ps:Ps) (hl:ps.length < 64) (hr:∀p∈ps,g9 v w p):K73.kc [.d v.d,.d w.d,.d (aP ps),.bor ((UQ 5).map (xw v w))]=.ok (.d (dV (fV v w (Lc v w) 4 (jO ps)))):=by
 have hT:jO ps∈T4 v w↔oZ v w ps=true:=by
  rw [jG t.t,o7 (ku ps),rN t.t]
  exact ⟨λf p hp q hq=>f.ag p (eu.mpr hp) q (eu.mpr hq),λh=>⟨λp hp q hq=>h p (eu.mp hp) q (eu.mp hq),λp hp=>hr p (eu.mp hp)⟩⟩
 have hf:=CS t ps
 cases q:oZ v w ps with
 | false=>
  rw [q] at hf
  refine bM (b8 (pq (fY (b:=false) (eK (c3 rfl rfl rfl hf))) (bz rfl rfl ?_)))
  have hn:¬jO ps∈T4 v w:=λh=>by rw [hT.mp h] at q;cases q
  unfold fV
  rw [decide_eq_false hn]
  rfl
 | true=>
  rw [q] at hf
  refine bM (ff (fY (b:=true) (eK (c3 rfl rfl rfl hf))) (bB (n1 (n1 (x:=.d (aP ps)) rfl (Ob ps hl)) rfl) rfl ?_))
  rw [<-q_]
  obtain ⟨B,hB⟩:∃B,B=jO ps:=⟨_,rfl⟩
  rw [<-hB]
  refine dY (ds:=(UQ 5).map dN) (jH (n:=5) rfl (by decide)) ?_
  have key:∀(js:List Nat) (z:Option S),(∀j∈js,j < 5)->Wp (fh (aC 5) (bK (bx (g2 (fB true) (af 4) (g2 aY (af 3) (af 5)))) (bf (af 5)) cL) (js.map dN) [some (.d v.d),some (.d w.d),some (.d (aP ps)),some (.bor ((UQ 5).map (xw v w))),some (.d (aP B)),z])
    λo=>match js.find? (λj=>!(decide (B∈T4 v w) && Lc v w j B)) with
     | some j=>o=.rt (.d (.int j))
     | none=>∃e,o=.nx e:=by
   intro js
   induction js with
   | nil=>exact λz _=>⟨_,rfl,_,rfl⟩
   | cons j js ih=>
    intro z hj
    have ht:bx (g2 (fB true) (af 4) (g2 aY (af 3) (af 5))) [some (.d v.d),some (.d w.d),some (.d (aP ps)),some (.bor ((UQ 5).map (xw v w))),some (.d (aP B)),some (.d (dN j))]=.ok (!(decide (B∈T4 v w) && Lc v w j B)):=by
     refine bH rfl (two rfl rfl (mH (m:=.bor) (by rw [Vh,XZ (hj j UW)];rfl))) ?_
     have h:=MP (m:=.own) B ((T4 v w).filter (Lc v w j)) (.d (xw v w j)) rfl
     have e:decide (B∈(T4 v w).filter (Lc v w j))=(decide (B∈T4 v w) && Lc v w j B):=by rw [Vy,decide_eq_true_eq,VI,UT,decide_eq_true_eq]
     rw [e] at h
     exact K32.HP h
    rw [U_]
    show Wp (aC 5 (dN j) _ >>= _) _
    rw [show aC 5 (dN j) [some (.d v.d),some (.d w.d),some (.d (aP ps)),some (.bor ((UQ 5).map (xw v w))),some (.d (aP B)),z]=.ok [some (.d v.d),some (.d w.d),some (.d (aP ps)),some (.bor ((UQ 5).map (xw v w))),some (.d (aP B)),some (.d (dN j))] from rfl,aS,ads]
    cases q:(decide (B∈T4 v w) && Lc v w j B) with
    | false=>
     rw [q] at ht
     rw [jV ht]
     exact ⟨_,rfl,rfl⟩
    | true=>
     rw [q] at ht
     rw [lM ht]
     exact ih _ λi hi=>hj i (UU _ hi)
  refine (key (UQ 5) none λj hj=>U1.mp hj).mono λo h=>?_
  unfold fV
  cases q:(UQ (4 + 1)).find? (λj=>!(decide (B∈T4 v w) && Lc v w j B)) with
  | some j=>rw [show (UQ 5).find? (λj=>!(decide (B∈T4 v w) && Lc v w j B))=some j from q] at h;rw [h];rfl
  | none=>
   rw [show (UQ 5).find? (λj=>!(decide (B∈T4 v w) && Lc v w j B))=none from q] at h
   obtain ⟨e,rfl⟩:=h
   exact bz rfl rfl rfl
end
end K73
namespace K73
open PySem DL K01 WP K51 K52 K55 K22 K33 K72
open K23 (Pr aP Good iT eK bH fY g8 dc g9 f6 d_ told ne_int)
section
variable {v w:Wd}
theorem JU (ns:List Int) (t:Pn v w):∃ps:Ps,K73.iV [.bor (ns.map D.int),.d v.d,.d w.d]=.ok (.d (aP ps))/\(∀p∈ps,g9 v w p)/\ps.length<=8:=by
 have vlo:=t.t.vo.lo
 have wlo:=t.t.wo.lo
 have key:Wp (K73.iV [.bor (ns.map D.int),.d v.d,.d w.d]) λr=>∃ps:Ps,r=.d (aP ps)/\(∀p∈ps,g9 v w p)/\ps.length<=8:=by
  obtain ⟨c,hc⟩:∃c,c=ns.getD 2 0:=⟨_,rfl⟩
  have cell:=oG ns 2
  rw [<-hc] at cell
  refine nk (bB (c2 rfl rfl cell) rfl (bB rfl rfl (b8 (jb (c:=bu (.int (c % 2)) (.int 0)) (bH (two rfl rfl (cK c 2 (by decide))) rfl rfl) (λ_=>?_) λ_=>fU ?_))))
  ·obtain ⟨n,hn,n9⟩:=iF (c / 2) 9 (by decide)
   refine dY (iS (n:=n) (cu ((two (two rfl rfl (fm c 2 (by decide) (by decide))) rfl (cK _ 9 (by decide))).trans (by rw [<-hn];rfl))) (by omega)) ?_
   refine gF (n:=n) (λk env=>∃(ps:Ps) (a b:Option S),env=[some (.bor (ns.map D.int)),some (.d v.d),some (.d w.d),some (.d (.int c)),some (.own (ps.map dP)),a,b,none]/\(∀p∈ps,g9 v w p)/\ps.length=k) ⟨[],none,none,rfl,λ_ h=>(nomatch h),rfl⟩ ?_ ?_
   ·rintro k hk _ ⟨ps,a,b,rfl,hp,hl⟩
    obtain ⟨x,hx,SK⟩:=iF (ns.getD (3 + k) 0) v.m (by omega)
    obtain ⟨y,hy,hyl⟩:=iF (ns.getD (3 + k) 0 / 5) w.m (by omega)
    have ce:K72.c6 [.bor (ns.map D.int),.d (.int (3 + (k:Int)))]=.ok (.d (.int (ns.getD (3 + k) 0))):=by
     rw [show (3:Int) + (k:Int)=((3 + k:Nat):Int) by omega];exact oG ns (3 + k)
    refine ⟨_,rfl,bB (c2 rfl (two rfl rfl (oA 3 k)) ce) rfl (jF rfl (bF (aI ((two rfl (two rfl rfl (fN _ _)) (cK _ (v.m:Int) (by omega))).trans (by rw [hx])) rfl (aI ((two (two rfl rfl (fm _ 5 (by decide) (by decide))) (two rfl rfl (fN _ _)) (cK _ (w.m:Int) (by omega))).trans (by rw [hy])) rfl br)) t2) rfl (by simp;omega) ⟨_,rfl,ps++[(x,y)],_,_,by rw [Ve];rfl,λp hp'=>?_,by simp [hl]⟩)⟩
    rcases Vj.mp hp' with h | h
    ·exact hp p h
    ·rw [U4.mp h];exact ⟨SK,hyl⟩
   ·rintro _ ⟨ps,a,b,rfl,hp,hl⟩
    exact bz (n1 rfl rfl) rfl ⟨_,rfl,ps,rfl,hp,by omega⟩
  ·obtain ⟨L,hL⟩:∃L,L=told v w 3:=⟨_,rfl⟩
   have L0:0 < L.length:=List.length_pos_of_mem (a:=[]) (by rw [hL];exact yu.mpr ⟨by decide,XH,(λ_ h=>nomatch h),(λ_ h=>nomatch h)⟩)
   have pr:=JV t 3 (by decide)
   rw [<-hL] at pr
   obtain ⟨j,hj,hjl⟩:=iF (c / 2) L.length L0
   obtain ⟨ps,hps⟩:∃ps,ps=L[j]:=⟨_,rfl⟩
   have g:=(yu (n:=3)).mp (show ps∈told v w 3 by rw [hps,<-hL];exact Vt hjl)
   have lenL:eS [.l .own (L.map aP)]=.ok (.d (.int (L.length:Nat))):=by show M.ok (R.d (.int ((L.map aP).length:Nat)))=_;rw [UR]
   refine bB (c3 rfl rfl rfl pr) rfl (bB (r:=.l .fresh (ps.map dP)) (n1 (two (y:=.d (.int (j:Int))) rfl ((two (two rfl rfl (fm c 2 (by decide) (by decide))) (n1 rfl lenL) (cK _ _ (by omega))).trans (by rw [hj])) (mH (x:=aP ps) (by rw [Vh,U5 hjl,hps];rfl))) rfl) rfl ?_)
   obtain ⟨m,hm,m1⟩:∃m:Nat,gJ (.d (.int (c / 1000 % 2))) (.d (.int (if decide ((0:Int) < (ps.length:Nat)) then 1 else 0)))=.ok (.d (.int (m:Int)))/\m<=1/\(0 < m->0 < ps.length):=by
    rw [iJ _ _ (by split <;> omega) (by split <;> omega)]
    split
    ·rename_i h
     exact ⟨(c / 1000 % 2).toNat,by rw [aeB,Int.toNat_of_nonneg (by omega)],by omega,λ_=>by simpa using h⟩
    ·exact ⟨0,by rw [Int.mul_zero];rfl,by decide,λh=>absurd h (by decide)⟩
   have lenP:∀qs:Ps,eS [.l .own (qs.map dP)]=.ok (.d (.int (qs.length:Nat))):=λqs=>by show M.ok (R.d (.int ((qs.map dP).length:Nat)))=_;rw [UR]
   refine dY (iS (n:=m) (cu (two (two (two rfl rfl (fm c 1000 (by decide) (by decide))) rfl (cK _ 2 (by decide))) (n1 (two (n1 rfl (lenP ps)) rfl rfl) rfl) hm)) (by omega)) ?_
   refine gF (n:=m) (λk env=>∃(qs:Ps) (a:Option S),env=[some (.bor (ns.map D.int)),some (.d v.d),some (.d w.d),some (.d (.int c)),some (.own (qs.map dP)),a,none,some (.own (L.map aP))]/\(∀p∈qs,g9 v w p)/\qs.length<=3 + k/\(k < m->0 < qs.length)) ⟨ps,none,rfl,g.2.rg,g.1,m1.2 ∘ (λh=>Y3 (Vl _) h)⟩ ?_ ?_
   ·rintro k hk _ ⟨qs,a,rfl,hq,lq,l0⟩
    obtain ⟨i,hi,hil⟩:=iF (c / 2000) qs.length (l0 hk)
    have l0:=l0 hk
    refine ⟨_,rfl,jF (d:=dP qs[i]) rfl (two (y:=.d (.int (i:Int))) rfl ((two (two rfl rfl (fm c 2000 (by decide) (by decide))) (n1 rfl (lenP qs)) (cK _ _ (by omega))).trans (by rw [hi])) (mH (by rw [Vh,U5 hil];rfl))) rfl (by simp;omega) ⟨_,rfl,qs++[qs[i]],_,by rw [Ve];rfl,λp hp'=>?_,by simp;omega,λ_=>by simp⟩⟩
    rcases Vj.mp hp' with h | h
    ·exact hq p h
    ·rw [U4.mp h];exact hq _ (Vt hil)
   ·rintro _ ⟨qs,a,rfl,hq,lq,_⟩
    refine b8 (jb (c:=bu (.int (c / 8000 % 2)) (.int 1)) (bH (two (two rfl rfl (fm c 8000 (by decide) (by decide))) rfl (cK _ 2 (by decide))) rfl rfl) (λ_=>?_) λ_=>fU ?_)
    ·refine fX (r:=.l .fresh (qs.reverse.map dP)) (by show M.ok (R.l .fresh (qs.map dP).reverse)=_;rw [List.map_reverse]) rfl (bz (n1 rfl rfl) rfl ⟨_,rfl,qs.reverse,rfl,λp hp=>hq p (List.mem_reverse.mp hp),by simp;omega⟩)
    ·exact bz (n1 rfl rfl) rfl ⟨_,rfl,qs,rfl,hq,by omega⟩
 obtain ⟨_,h,ps,rfl,hk⟩:=key
 exact ⟨ps,h,hk⟩
end
theorem K1 (ns:List Int) (h:ns.length<=63):vQ [.bor (ns.map .int)]=.ok (.d (.bl true)):=by
 obtain ⟨lg,Ue⟩:∃lg:Bool,cj false (.d (.int (ns.getD 0 0 % 8))) (.d (.int 1))=.ok (.d (.bl lg)):=⟨_,rfl⟩
 obtain ⟨sz,hsz,s1,s2⟩:∃sz:List Nat,aY (.l .fresh [.lst ([1,2,3,3,2].map dN),.lst ([4,3,4,2,1].map dN)]) (.d (.int (if lg then 1 else 0)))=.ok (.d (.lst (sz.map dN)))/\1<=sz.length/\∀n∈sz,1<=n/\n<=4:=by
  cases lg with
  | true=>exact ⟨[4,3,4,2,1],rfl,by decide,by decide⟩
  | false=>exact ⟨[1,2,3,3,2],rfl,by decide,by decide⟩
 obtain ⟨v,w,hw,t⟩:=OD (ns.getD 1 0) sz s1 s2
 have tt:=t.t
 obtain ⟨ps,hps,hr,l8⟩:=JU ns t
 have hint:Aj [.d (.bl lg)]=.ok (.d (.int (if lg then 1 else 0))):=rfl
 have sl:∀qs:Ps,qs.length<=8->(jO qs).length<=100:=λqs h=>by have:=K32.LM qs;omega
 have due:=IW t ps (by omega) hr
 have cp:=qe tt (aP ps) (yS ps (by omega)) (sl ps l8)
 have pp:=GP tt (aP ps) (yS ps (by omega)) (sl ps l8)
 obtain ⟨qs,Tp⟩:∃qs:Ps,qs=ps.map λp=>(p.2,p.1):=⟨_,rfl⟩
 have lq:qs.length<=8:=by rw [Tp,UR];exact l8
 have sy:Sy (jO ps) (jO qs):=λa b=>by
  rw [eu,eu,Tp,UY]
  exact ⟨λh=>⟨(a,b),h,rfl⟩,λ⟨p,h,e⟩=>by cases e;exact h⟩
 have cs:=qe (qQ tt) (aP qs) (yS qs (by omega)) (sl qs lq)
 rw [NX tt sy (ku _) (ku _)] at cs
 obtain ⟨D0,SN⟩:∃D0,D0=fV v w (Lc v w) 4 (jO ps):=⟨_,rfl⟩
 have due0:=IW t [] (by decide) (λ_ h=>nomatch h)
 have c0:=qe tt .non g8 (by decide)
 rw [show jO []=[] from Og XH] at due0
 rw [<-SN] at due cp cs
 refine bM (bB (two (two (c2 rfl rfl (oG ns 0)) rfl (cK _ 8 (by decide))) rfl Ue) rfl (Ea (c2 (c2 rfl rfl (oG ns 1)) (two (ig (aI (ig rfl (by show 5<=1000;decide)) rfl (aI (ig rfl (by show 5<=1000;decide)) rfl br)) (by show 2<=1000;decide)) (n1 rfl hint) hsz) hw) rfl rfl (bB (c3 rfl rfl rfl hps) rfl (bB (c3 rfl rfl rfl (Eo tt 4 (by decide))) rfl (bB (c4 rfl rfl rfl rfl due) rfl (ff (fY (b:=true) (eK (c2 (c3 rfl rfl rfl cp) rfl (K32.CT D0)))) (bB (c3 rfl rfl rfl pp) rfl ?_)))))))
 refine ff ?_ ?_
 ·cases hp:fV v w (La v w) 4 (jO ps) with
  | none=>exact f6 rfl
  | some p=>
   obtain ⟨q,hq,hle⟩:=O6 tt hp (Qs hp)
   rw [<-SN] at hq
   rw [hq]
   refine d_ rfl (F4 rfl (bH rfl rfl ?_))
   show M.ok (R.d (.bl (decide ((p:Int) < (q:Int)))))=_
   rw [decide_eq_false (by omega)]
 refine ff ?_ ?_
 ·have hf:=CS t ps
  cases hq:oZ v w ps with
  | false=>
   rw [hq] at hf
   exact f6 (eK (c3 rfl rfl rfl hf))
  | true=>
   rw [hq] at hf
   have ne:cj true (.d (.int (v.m:Nat))) (.d (.int (w.m:Nat)))=.ok (.d (.bl (!(v.m == w.m)))):=ne_int v.m w.m
   by_cases hm:v.m=w.m
   ·rw [show (v.m == w.m)=true by rw [hm];simp] at ne
    exact d_ (eK (c3 rfl rfl rfl hf)) (f6 (bH (two rfl rfl (fN _ _)) (two rfl rfl (fN _ _)) ne))
   ·rw [show (v.m == w.m)=false from beq_eq_false_iff_ne.mpr hm] at ne
    have hd:=(rN tt ps).mp hq
    have hT:jO ps∈T4 v w:=(jG tt).mpr ((o7 (ku ps)).mpr ⟨λp hp q hq=>hd p (eu.mp hp) q (eu.mp hq),λp hp=>hr p (eu.mp hp)⟩)
    rw [SN,NW tt hm hT]
    exact d_ (eK (c3 rfl rfl rfl hf)) (d_ (bH (two rfl rfl (fN _ _)) (two rfl rfl (fN _ _)) ne) rfl)
 refine ff (fY (b:=true) (eK (c2 (c3 rfl rfl (n1 (oO (xs:=ps) (λp=>dN p.1) (λp=>dN p.2) (λp=>dP (p.2,p.1)) rfl (by omega) λp _=>⟨_,bF (aI rfl rfl (aI rfl rfl br)) t2,rfl⟩) (show dw [.l .fresh (ps.map λp=>dP (p.2,p.1))]=.ok (.d (aP qs)) from ?_)) cs) rfl (K32.CT D0)))) ?_
 ·rw [Tp,aP,Vr];rfl
 refine bB (c4 rfl rfl (bF br (by decide)) rfl due0) rfl (ff (fY (b:=true) (eK (c2 (c2 rfl rfl c0) rfl (K32.CT _)))) (bz (c2 (c3 rfl rfl rfl c0) rfl (K32.CT _)) rfl rfl))
end K73
namespace K73
open PySem PySem.Spec PyProof.Rows L2 DL DX
theorem all_mk {l:aa3}{w:Vs}{K:UM}{h:V1}{mg:Str->Option UN}{fa:Vd}(X:K.In h) (G:h.Ns Vi mg) (S4:mg "law"=some (.ref fa))
  {f25 f29 f44:Vd}{o25 n25 o29 n29 o44 n44:Option Vd}{s25 s29 s44:Array (Option UN)}{u25 v25 d25 p25 q25 r25 u29 v29 d29 p29 q29 r29 u44 v44 d44 p44 q44 r44:UN}
  {T25:Vd}{oT25:UN}{dT25:Option Vd}{nT25:Nat}{sT25:Array (Option UN)}
  {T29:Vd}{oT29:UN}{dT29:Option Vd}{nT29:Nat}{sT29:Array (Option UN)}
  {t1:Tok}
  {t2:Tok}
  (e0:FA K "is_whole" yj)
  (e1:FA K "tongue_of" vJ)
  (e2:FA K "need_tongue" qX)
  (e3:FA K "need_few_points" lV)
  (e4:FA K "need_small" tV)
  (e5:FA K "need_count" tU)
  (e6:FA K "rising" CH)
  (e7:FA K "view" JQ)
  (e8:FA K "views" Gy)
  (e9:FA K "agree" Gs)
  (e10:FA K "goes_behind" qV)
  (e11:FA K "pairings" yp)
  (e12:FA K "added" Gr)
  (e13:FA K "pairs_with" tW)
  (e14:FA K "picks_of" yq)
  (e15:FA K "outcomes" yo)
  (e16:FA K "answered_still" m_)
  (e17:FA K "map_behind" nE)
  (e18:FA K "in_layer" yi)
  (e19:FA K "choices_in" tR)
  (e20:FA K "mapped_still" qb)
  (e21:FA K "peeled" CG)
  (e22:FA K "pairings_with" oz)
  (e23:FA K "parting_depths" ni)
  (e24:FA K "layers_of" vH)
  (a25:Vw K Vi "parted"=some (some (.ref f25)))
  (l25:K.lookup f25=some ⟨u25,o25,.func (VE "parted" "parted" (cG jq) (bS jq) (aX jq) (.ref T25) v25 d25 p25 n25 q25 r25),s25⟩)
  (c25:Xb K q25 "parted"=true)
  (k25:VZ K (.ref f25)=true)
  (lT25:K.lookup T25=some ⟨oT25,dT25,.seq #[.none] nT25,sT25⟩)
  (e26:FA K "grid_of" A3)
  (e27:FA K "counted_depths" nc)
  (e28:FA K "counted_layers" ng)
  (a29:Vw K Vi "counted_parted"=some (some (.ref f29)))
  (l29:K.lookup f29=some ⟨u29,o29,.func (VE "counted_parted" "counted_parted" (cG cY) (bS cY) (aX cY) (.ref T29) v29 d29 p29 n29 q29 r29),s29⟩)
  (c29:Xb K q29 "counted_parted"=true)
  (k29:VZ K (.ref f29)=true)
  (lT29:K.lookup T29=some ⟨oT29,dT29,.seq #[.none] nT29,sT29⟩)
  (e30:FA K "_law_cell_at" p_)
  (e31:FA K "_law_more" vF)
  (e32:FA K "_law_freed" tN)
  (e33:FA K "_law_names" tP)
  (e34:FA K "_law_world" tQ)
  (e35:FA K "_law_flipped" qa)
  (e36:FA K "_law_turned" qU)
  (e37:FA K "_law_two" yh)
  (e38:FA K "_law_at" AW)
  (e39:FA K "_law_fit" yg)
  (e40:FA K "_law_pairings" ow)
  (e41:FA K "_law_drawn" tM)
  (e42:FA K "_law_number" qT)
  (e43:FA K "_law_due" yf)
  (a44:Vw K Vi "law"=some (some (.ref f44)))
  (l44:K.lookup f44=some ⟨u44,o44,.func (VE "law" "law" (cG pM) (bS pM) (aX pM) .none v44 d44 p44 n44 q44 r44),s44⟩)
  (c44:Xb K q44 "law"=true)
  (k44:VZ K (.ref f44)=true)
  (z0:Vw K Vi "abs"=some none)
  (z1:Vw K Vi "all"=some none)
  (z2:Vw K Vi "any"=some none)
  (z3:Vw K Vi "bool"=some none)
  (z4:Vw K Vi "enumerate"=some none)
  (z5:Vw K Vi "int"=some none)
  (z6:Vw K Vi "isinstance"=some none)
  (z7:Vw K Vi "len"=some none)
  (z8:Vw K Vi "list"=some none)
  (z9:Vw K Vi "max"=some none)
  (z10:Vw K Vi "range"=some none)
  (z11:Vw K Vi "set"=some none)
  (z12:Vw K Vi "sorted"=some none)
  (z13:Vw K Vi "tuple"=some none)
  (gMOST_DEPTH:Vw K Vi "MOST_DEPTH"=some (some (.int 6 t1)))
  (gMOST_SMALL:Vw K Vi "MOST_SMALL"=some (some (.int 4 t2))):
  ∃fd:Vk,(∀(s:UP) (v:UN),acZ s fd ⟨[v],[]⟩ [("_law_script",v)])/\∀base:V1,K.In base->base.Ns Vi mg->eO l.prog w K mg base pQ 11 fa fd ["_law_script"] (qZ K 1 K73.vQ):=by
 have e:=S4.symm.trans (WS X G a44)
 cases e
 obtain ⟨f16,d16,a16,F16⟩:=id e16
 obtain ⟨f17,d17,a17,F17⟩:=e17
 obtain ⟨f20,d20,a20,F20⟩:=id e20
 have F25:=B9 (st:=jq) l25 c25 k25 lT25
 have F29:=B9 (st:=cY) l29 c29 k29 lT29
 have F44:=Ff (st:=pM) l44 c44 k44
 have m:cS w K mg:=⟨VD X G z0,
   VD X G z1,
   VD X G z2,
   VD X G z3,
   VD X G z4,
   VD X G z5,
   VD X G z6,
   VD X G z7,
   VD X G z8,
   VD X G z9,
   VD X G z10,
   VD X G z11,
   VD X G z12,
   VD X G z13,
   ⟨_,(.int 6),WS X G gMOST_DEPTH,⟨_,rfl⟩,λ_=>(.int _)⟩,
   ⟨_,(.int 4),WS X G gMOST_SMALL,⟨_,rfl⟩,λ_=>(.int _)⟩,
   ⟨_,a16,WS X G a16⟩,
   ⟨_,a20,WS X G a20⟩⟩
 refine ⟨VE "law" "law" (cG pM) (bS pM) (aX pM) .none v44 d44 p44 n44 q44 r44,λs v=>.of_eq rfl,λbase _ _=>?_⟩
 have C0:=Bp (P:=l.prog) (base:=base) m (bQ X G e0)
 have C1:=zY (P:=l.prog) (base:=base) m (bQ X G e1)
 have C2:=v7 (P:=l.prog) (base:=base) m C1 (bQ X G e2)
 have C3:=qy (P:=l.prog) (base:=base) m (bQ X G e3)
 have C4:=yJ (P:=l.prog) (base:=base) m C2 C3 (bQ X G e4)
 have C5:=yI (P:=l.prog) (base:=base) m C0 (bQ X G e5)
 have C6:=EY (P:=l.prog) (base:=base) m (bQ X G e6)
 have C7:=Km (P:=l.prog) (base:=base) m (bQ X G e7)
 have C8:=G2 (P:=l.prog) (base:=base) m C7 (bQ X G e8)
 have C9:=G0 (P:=l.prog) (base:=base) m (bQ X G e9)
 have C10:=v5 (P:=l.prog) (base:=base) m C9 (bQ X G e10)
 have C11:=Bs (P:=l.prog) (base:=base) m C4 C5 C8 C9 C10 (bQ X G e11)
 have C12:=GZ (P:=l.prog) (base:=base) m C6 (bQ X G e12)
 have C13:=yK (P:=l.prog) (base:=base) m (bQ X G e13)
 have C14:=Bt (P:=l.prog) (base:=base) m (bQ X G e14)
 have C15:=Br (P:=l.prog) (base:=base) m C13 C12 C14 (bQ X G e15)
 have C16:=su (P:=l.prog) (base:=base) m (bQ X G e16)
 have C17:=pU (P:=l.prog) (base:=base) m F17 (WS X G a17) 6
 have C18:=Bo (P:=l.prog) (base:=base) m (bQ X G e18)
 have C19:=yF (P:=l.prog) (base:=base) m C18 (bQ X G e19)
 have C20:=uU (P:=l.prog) (base:=base) m C19 C17 (bQ X G e20)
 have C21:=EX (P:=l.prog) (base:=base) m C20 C16 (bQ X G e21)
 have C22:=t_ (P:=l.prog) (base:=base) m C11 (bQ X G e22)
 have C23:=sE (P:=l.prog) (base:=base) m C22 C15 C21 (bQ X G e23)
 have C24:=zX (P:=l.prog) (base:=base) m C18 (bQ X G e24)
 have O_parted:=Fe (P:=l.prog) (w:=w) (base:=base) m C4 C6 C23 F25
 have C25:=EW O_parted F25 (WS X G a25)
 have D_parted:=Dr O_parted F25 (WS X G a25)
 have C26:=Ds (P:=l.prog) (base:=base) m C12 (bQ X G e26)
 have C27:=sA (P:=l.prog) (base:=base) m C22 C26 C21 (bQ X G e27)
 have C28:=sC (P:=l.prog) (base:=base) m C4 C5 C27 C24 (bQ X G e28)
 have O_counted_parted:=sF (P:=l.prog) (w:=w) (base:=base) m C4 C6 C27 F29
 have C29:=sD O_counted_parted F29 (WS X G a29)
 have D_counted_parted:=qx O_counted_parted F29 (WS X G a29)
 have C30:=uS (P:=l.prog) (base:=base) m (bQ X G e30)
 have C31:=zQ (P:=l.prog) (base:=base) m (bQ X G e31)
 have C32:=yC (P:=l.prog) (base:=base) m (bQ X G e32)
 have C33:=yD (P:=l.prog) (base:=base) m C32 (bQ X G e33)
 have C34:=yE (P:=l.prog) (base:=base) m (bQ X G e34)
 have C35:=uT (P:=l.prog) (base:=base) m (bQ X G e35)
 have C36:=vZ (P:=l.prog) (base:=base) m (bQ X G e36)
 have C37:=Bm (P:=l.prog) (base:=base) m C31 C33 C34 C36 C35 (bQ X G e37)
 have C38:=Dq (P:=l.prog) (base:=base) m (bQ X G e38)
 have C39:=Bl (P:=l.prog) (base:=base) m C38 (bQ X G e39)
 have C40:=t9 (P:=l.prog) (base:=base) m C39 (bQ X G e40)
 have C41:=yz (P:=l.prog) (base:=base) m C30 C40 (bQ X G e41)
 have C42:=vY (P:=l.prog) (base:=base) m (bQ X G e42)
 have C43:=Bk (P:=l.prog) (base:=base) m C39 (bQ X G e43)
 exact OY m C30 C37 C41 C28 C43 C29 C42 C25 C39 D_counted_parted F44
theorem LL (K:UM) (H:Hp) (a:Vd) (ns:List Int) (hl:ns.length<=63) (hO:C_ H) (hS:cB K H a (ns.map V.int)):qZ K 1 K73.vQ [.ref a] H (λv _=>v=.bl true) λ_ _ _=>False:=by
 refine ⟨λ_=>none,[.bor (ns.map D.int)],λ_ _ z=>(by cases z),rfl,⟨_,[],rfl,⟨a,_,rfl,hS,?_⟩,rfl⟩,?_⟩
 ·exact K01.yb ns
 ·rw [K1 ns hl]
  intro v J H2 _ r
  cases r
  rfl
theorem walk {l:aa3}{q:U6}{loose:List Str}{XP:(Str->Option UN)->V1->Prop}{YP:Vs->V1->Prop}{d:DefRec}{K:aeY->UM}(hn:l.most=some 63) (hdf:d.params.defaults=[])
  (hY:∀(w:Vs) (h:V1),YP w h->(K w.params).In h)
  (F:∀(w:Vs) (mg:Str->Option UN) (fa:Vd) (h:V1),(K w.params).In h->h.Ns Vi mg->mg d.name=some (.ref fa)->
   ∃fd:Vk,(∀(s:UP) (u:UN),acZ s fd ⟨[u],[]⟩ [("_law_script",u)])/\∀base:V1,(K w.params).In base->base.Ns Vi mg->eO l.prog w (K w.params) mg base pQ 11 fa fd ["_law_script"] (qZ (K w.params) 1 K73.vQ)):
  ad5 q loose XP YP l.row.toRowW d [] (λf vs=>adN f vs):=
 L2.LV (n:=63) (k:=11) (x:="_law_script") (CX:=λ_=>pQ) (sp:=λw=>qZ (K w.params) 1 K73.vQ) hn (by decide) hdf ⟨rfl,by decide,by decide⟩ hY F (λw H a ns hl hO hS=>LL _ H a ns hl hO hS) λ_ _ _ _ _ z=>z
end K73
open PySem PySem.W PyProof.Rows
set_option maxRecDepth 100000 in
set_option maxHeartbeats 0 in
theorem PySem.Challenge.cw_pickalike_k73_parted_by_counting_holds : PySem.Challenge.rw_pickalike_k73_parted_by_counting.Holds := by
 refine holds_law K73.look λsaid=>?_
 refine holds_open (q:=K73.VW) (XP:=XL K73.VW []) (YP:=Hook.says K73.HK) K73.left (Hook.of K73.HK) (Hook.keeps K73.HK) (λs e=>xl_of s (abv.mp e).1) XL.keeps (by rfl) (by rfl) (by rfl) (λs e=>recFacts_of (abv.mp e).2) (by rfl) said (by decide +kernel) ⟨rfl,rfl,rfl,rfl,rfl,by decide +kernel⟩ ?hw ?hc
 (case hw=>w_witness2)
 delta K73.HK
 k_fill
 refine K73.walk (l:=VJ) rfl rfl (K:=K73.KF) (λw h Y=>PySem.W.kIn_of Y) ?F
 case F=>
  intro w mg fa h KX G hmg
  refine' K73.all_mk KX G hmg ..
  all_goals try first | k_is | (refine' DL.OL ?a ?l ?c ?k;case a | l | c | k=>k_is)
