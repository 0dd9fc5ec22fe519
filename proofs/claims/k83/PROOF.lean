import PyProof.Rows.All
import Wide.All
import OpenK.AllK
import Wide.FinOn
import Lean
import PyProof.EqAt
import PyProof.EqKinds
import PyProof.TupleCall
import KE.KIsAll
import PyProof.ExcAttrAll.ValueError
import PyProof.NeKinds
import PyProof.InstStoreFacts
import KE.KUnpackStar
import KE.KSortTup
import PyProof.TupleOfSeq
import PyProof.Rows.SortWalk
import PyProof.EnumFor
import PyProof.EnumStmt
import PyProof.ListRange
import PyProof.TupleKey
import PyProof.SetKind
import PyProof.Rows.SetFrom
import PyProof.SetRoads
import PyProof.CollectWalk
import PyProof.WalksMore
import PyProof.DictKinds
import PyProof.DictCompW
import PyProof.DictRoadsH
import PyProof.DictWalks
import PySem.Challenge.RW_pickalike_k83_whole_orbits
noncomputable section
open And renaming intro->YT
open Array renaming length_toList->Ss,getElem?_eq_some_iff->TV,getElem?_toList->Uy,getD->UN,getElem?_eq_getElem->Vq,forIn_toList->Wz,getD_eq_getD_getElem?->Xf,toList->YD,size_append->Z2,toList_push->Z_
open Array.Perm renaming mem_iff->ZI,refl->acU
open Bool renaming and_eq_true->Sk,false_eq_true->SE,false_ne_true->S_,eq_iff_iff->Tp,not_true->U1,or_eq_true->U6,true_and->Vi,and_false->VL,not_false->WN,eq_false_iff->XM,and_eq_true_iff->Za,or_false->abE,and_self->abG,false_or->abL
open Classical renaming byContradiction->T3,propDecidable->abR
open False renaming elim->VT
open ForInStep renaming yield->U7
open Function renaming comp_def->X7
open Iff renaming rfl->aab
open Int renaming toNat_natCast->UL,emod_nonneg->U9,emod_lt_of_pos->Vj,fdiv_eq_ediv_of_nonneg->Xn,zero_add->YK,natCast_add->YL
open List renaming range->Se,mem_map->Sf,mem_cons_of_mem->Sg,length_map->Sh,mem_cons_self->Si,mem_range->Sj,getElem?_eq_getElem->Sn,mem_singleton->So,size_toArray->Su,map_cons->Sx,mem_cons->SD,getElem?_map->SJ,all_eq_true->SK,mem_append->SN,length_append->SO,getD_eq_getElem?_getD->SS,map_append->SV,getElem?_eq_some_iff->SW,pairwise_map->S0,map_map->S6,mem_filter->S7,length_filter_le->Tf,replicate->Th,pairwise_singleton->Ti,mem_append_right->Tj,getElem?_set_ne->Tq,getElem_mem->Tt,idxOf_lt_length_of_mem->TM,length_replicate->TR,pairwise_iff_getElem->TZ,mem_of_getElem?->T6,mem_iff_getElem->T8,pairwise_lt_range->T9,nodup_cons->Ud,length_cons->Uh,length_range->Uj,getElem?_append_right->Uk,getElem?_set_self->Um,lookup_cons->Uq,nodup_range->Ur,replicate_succ->Uu,pairwise_append->UH,length_take->UI,any_eq_true->UK,getElem?_append_left->UQ,append_nil->UR,not_mem_nil->UY,mem_append_left->U0,nodup_nil->U4,range_succ->U_,map_congr_left->Va,ext_getElem->Vg,eq_nil_or_concat->Vl,concat_eq_append->Vm,getElem?_zip_eq_some->Vr,all_cons->VE,length_eq_zero_iff->VH,length_drop->VI,pairwise_cons->VM,getElem_idxOf->VN,nodup_append->VY,perm_ext_iff_of_nodup->V1,drop_eq_getElem_cons->V5,take_length->V8,getElem_map->Wa,mem_flatMap->Wb,getElem?_range->We,any_map->Wj,eq_of_mem_replicate->Wk,mem_filterMap->Wn,getElem?_replicate->Wq,filter_append->Ww,range_succ_eq_map->WE,take_succ->WM,mem_iff_getElem?->WU,eq_nil_of_length_eq_zero->WY,map_flatMap->W4,any_cons->W6,filterMap_cons->W9,foldl_cons->Xd,length_nil->Xk,filter_eq_self->Xl,nodup_iff_pairwise_ne->Xp,map_nil->Xq,zip_cons_cons->Xs,find?_eq_none->Xu,mem_of_find?_eq_some->Xx,getLast?_eq_none_iff->XC,take_sublist->XJ,append_cancel_right->XR,getElem_append_left->XS,append_assoc->XY,foldl_append->X6,length->Yc,map_take->Yg,map_drop->Yh,filter_cons_of_pos->Yj,filter_cons_of_neg->Yk,pairwise_filterMap->Yl,getElem_inj->Yq,drop_eq_nil_of_le->Yx,of_mem_zip->YF,all_map->YJ,take_append_drop->YQ,pairwise_flatMap->YV,filter_map->YW,range_eq_range'->Y8,getLast?_concat->Y_,getD_cons_zero->Zl,flatMap_append->Zp,filterMap_map->ZA,contains_cons->ZF,getElem_range->ZL,drop_sublist->Z5,any_eq_false->Z7,getElem_drop->Z8,idxOf_append->Z9,filter_congr->aac,all_eq_false->aad,map_inj_left->aae,le_antisymm->aan,range'_succ->aap,perm_middle->aar,find?_some->aaM,getD->aaS,length_zip->aaY,drop_zero->aa5,filterMap->aa_,lookup->acq,range'->acs,map->acH
open List.Nodup renaming length_le_of_subset->SX
open List.Pairwise renaming and_mem->VR,nil->VU,imp->X3,of_map->ab8,and->acN,map->acO
open List.Perm renaming append_left->ab3,of_eq->acX
open List.cons renaming inj->ac1
open Nat renaming le_refl->Sl,lt_of_lt_of_le->SI,zero_le->SQ,ne_of_lt->S4,le_trans->S5,not_lt_zero->TL,pow_le_pow_right->Ul,lt_succ_self->UJ,lt_irrefl->UO,mul_le_mul_right->Vs,le_of_succ_le->Vy,lt_trichotomy->Vz,le_succ->VF,lt_trans->VQ,lt_succ_of_lt->VX,le_add_right->V_,ne_of_gt->Wg,le_of_lt_succ->WK,le_of_lt->WR,div_div_eq_div_mul->Yz,pow_succ->YO,mod_lt->Y3,mul_le_mul->Zd,lt_of_le_of_lt->ZK,lt_or_eq_of_le->ZM,zero_add->aai,add_mul->aaV,add_assoc->abM,le_of_eq->abX
open Ne renaming symm->Vt
open Option renaming isSome_iff_exists->Ub,bind_some->Yt,getD_none->aal,map_some->aaE,none->acp
open Option.some renaming inj->TF,injEq->UM
open Or renaming inr->Wv,inl->Xr
open Prod renaming fst->Vb,snd->W7,ext->acZ
open PyProof.Rows renaming slot_tuple_getitem->TH,seqObj->VP,IntsAre->Wc,subscriptTail_builtinR->WC,callWith_type1->Xa,envOfC->XI,AllBare->X_,listUpdate_at->Yi,entry_tuple_getitem->Zi,seqEpoch_at->Zn,args_tuple_getitem->ZC,callWith_builtin1->aaf,get?_update_seq->aaH,list_sort_plain->aaI,entry_list_sort->aaJ,slicePart_none->aa2,slot_list_sort->aa7,args_list_sort->aa8,sortedHeap->abu,tupleItemsOf_->abB,subscriptTail->abD,sortedHeap_at->abK,IsTup->ab9,lt_int->acu,lt_str->acv,le_int->acA,SortKind->acF,keyKind'->acG
open PyProof.Rows.F renaming plain_set_update_loop->S8,entry_set_update_loop->Uo
open PyProof.Rows.IsTup renaming new->abW
open PySem renaming wpAny_bind->R9,Value->Sa,wpAny_pure->Sb,Shared->Sd,Addr->Sq,starEach->Sv,Program->Sy,foldedSetIterable->Sz,wpAny->SH,model->SM,FuncData->SY,mainGlobals->S3,World->S9,Expr->Tc,Around->Td,wpAny_holding->Te,wpAny_newObj_type->Tg,wpAny_mono->Tr,cellsFrom->Tu,bootBuiltins->Tv,wpAny_call_entry->Tz,SetTable->TN,wpAny_truthy_bool->TX,behindInMarks->T_,sizeLine_eq->Uc,Heap->Ui,cLine->Us,compareOp->Uw,wpAny_setState_of->Uz,wpAny_standAt->UC,wpAny_callSpecial?_slot->UD,codeAny_builtin->UE,NameKind->UP,codeAny->UX,wpAny_typeNameOfWhole_keyiter->UZ,letOwnedTupleGo->U5,wpAny_loadPart'->U8,Scope->Vc,backTo->Vd,wpAny_forIn_list->Vf,wpAny_askSetting->Vh,Stmt->Vu,assignEach->Vv,wpAny_passesOwn->Vw,codeAny_mono->VA,standAt->VB,binaryOp->VC,mem_of_lookup->VD,plainId_quiet->VG,sysModules->VJ,swapsWith->VO,hashInt->V2,wpAny_of_eq->Wf,swapsWithSole->Wm,wpAny_Call_Name_kw->Wo,wpAny_attempt->Ws,mem_of_lookup->Wx,wpAny_specialOf->Wy,pyNext->WA,sliceBounds->WH,wpAny_storeSet_of->WL,compTurn->WQ,wpAny_typeOf->WT,builtinLookup_eq_fast->WV,Builtin->WX,wpAny_isInstance->W2,wpAny_execs_nil->W_,wpAny_updateSeq->Xe,wpAny_setEntries_of->Xg,codeAny_of_tree->Xj,wpAny_setField_rec->Xv,isSubtype_type->Xy,wpAny_fieldsOf->Xz,firstArgMember->XA,Paired->XD,pyIter->XH,wpAny_pyIter_list->XN,wpAny_rule->XQ,searchCouldBeSeen->XU,wpAny_pyIter_slot->XZ,arm_evalThenUse_ListComp->X4,wpAny_dictEntries->X8,Comprehension->Yn,wpAny_pyHash_int->Yp,noFill_tuple_add->Yr,checkBuiltinCall->Ys,richCompare_meets_room->Yy,codeAny_compStart_list->YA,codeAny_compStart_dict->YB,wpAny_isTrue_Compare1->YC,inplaceOp->YE,DictEntry->YH,setAddHashed->YR,typeLookup_type->YS,arm_exec_Assign->YU,wpAny_dictEpoch->YY,wpAny_isOneOf_keyiter->YZ,wpAny_loadName_local->Y4,codeAny_call_builtin->Y7,isTrue->Zb,wpAny_runValue->Ze,wpAny_seqItems->Zf,wpAny_bindName->Zg,wpAny_loadName_cell->Zh,GenState->Zs,Operator->Zt,swappedStores->Zu,bindArgs->Zv,seq_tuple_add->Zy,IsPart->Zz,attributeBase->ZD,wpAny_pyIter_tuple->ZH,wpAny_newList->ZJ,compPost->ZO,slot_dict_contains->ZP,intKind->ZT,wpAny_call->ZU,getItem->ZV,wpAny_sequenceKey->ZW,slot_list_getitem->ZX,callerA->ZZ,ofAClassStatement->aaa,concat_meets->aag,wpAny_execs_cons->aak,PassesOwn->aaw,Result->aax,BindsTo->aay,wpAny_field->aaz,keywordEach->aaA,Keyword->aaB,pushCells->aaK,pushCells_keeps->aaL,pickOrder->aaO,isSubtype->aaQ,noteFrame->aaT,theTreesLotGoes->aaU,compStart->aaW,theWindowsPlace->aaX,recursionLimit->aa1,wpAny_newTuple->aa6,newFunctionEnv->aa9,setAddHashedIn->abb,entryFor_alias->abd,isSubtype_stop->abe,wpAny_setField->abg,entryOfKey->abh,builtinsNs->abi,wpAny_Name->abj,wpAny_load->abk,rawInt->abl,call_meets->abm,Params->abn,call->abo,isInstance->abq,reduceHash->abr,setsByText->abv,intKind_is->abx,rangeSize_one->abz,intBits_le_64->abA,evalPart_none->abC,setSearchFrom->abN,wpAny_handled->abO,wpAny_notedAt->abP,eval_ListComp->abQ,atKey->abS,storeName->abU,CmpOp->abV,seqItems?->ab0,WalksS->ab2,Model->ab_,bindL->ace,bindC->acf,newList->acw,CellsOk->acy,backToKw->acD,entryFor->acI,bindName->acJ,Fin->acV
open PySem.Around renaming under_plainId->T7
open PySem.AutoSeq1 renaming sub_tuple_tuple->Wi
open PySem.Builtin renaming bitAnd->Xw
open PySem.Builtin.Dict renaming showsAll->YX,dictSlotNone->abf
open PySem.Builtin.Dict_items renaming ownsTuple->W8
open PySem.Builtin.Frozenset renaming sizeOf->X0,updateFrom->aau,newClass->aa0
open PySem.Builtin.List renaming listTooLong->UW,listLengthHint->Xh,listExtendWith->Xi,listSameRef->abw
open PySem.Builtin.Range renaming rangeSize->Yb
open PySem.Builtin.Slice renaming slicePlaces->Vo,sliceAdjust->V3,sliceApplied->Xo,slicePartIndex->aat,sliceFields->aa3
open PySem.Builtin.Str renaming tooLong->Zk,occurrences->abH
open PySem.Builtin.Tuple renaming tupleHashOf->TY,tupleExact->Vx,tupleItemsOf->V0,tupleCompareSizes->WI,tupleIsExact->aaZ
open PySem.Calls renaming Name_function_global->Xm
open PySem.Challenge renaming rw_pickalike_k83_whole_orbits->TJ,pw_pickalike_k83_whole_orbits->Ux
open PySem.CmpOp renaming NotIn->acd,In->acY
open PySem.Env renaming kindOf->acL
open PySem.Expr renaming Call->acW
open PySem.F renaming slot_dict_keyiterator_next->UB,called_set->VS,slot_tuple_hash->VZ,args_tuple_add_2->Wh,entry_tuple_add->Wr,slot_tuple_add->WB,plain_list_iadd->WJ,args_dict_keyiterator_next_1->WW,entry_dict_keyiterator_next->W5,attrBase_ValueError->Xc,plainAttrs_list->Ye,entry_proto_collect->YM,plain_proto_collect->YN,args_list_extend_2->Y5,entry_list_extend->Zj,slot_list_extend->ZE,entry_list_iadd->Z6,slot_dict_iter->aas,slot_set_iter->aaP,plain_set_new->aaR
open PySem.Heap renaming get?_push_of_some->Sm,get?_push_size->Sw,lt_size->SA,SameBut->T5,get?_update_self->Ue,size_push->V6,get?_update_other->WD,get?_update_ne->Zm,size_update->aaq,ExtBut->acz
open PySem.Heap.IsList renaming push->aao
open PySem.Heap.IsSliceOf renaming new->acB
open PySem.Heap.SameBut renaming update->Uv,refl->X5
open PySem.IsL renaming update->acP
open PySem.Moved renaming trans->Zo
open PySem.NameKind renaming free->Ua,cell->Wu
open PySem.Obj renaming mapSeq->UU,putSet->XX,data_mapFields->ZQ,mapFields->abT
open PySem.Paired renaming length->aby
open PySem.PassesOwn renaming leaving->Z4,never->aaF
open PySem.SeqAt renaming EqAt->UT,ne_of_list_tuple->Yw
open PySem.SeqAt.EqAt renaming same->YG,int_str->Zq,str_int->Zr,int_int->Zx,of_refs->ZG,tuple_list->abY,list_tuple->abZ,none_bool->ab4,bool_none->ab5,bool_bool->ab6,none_int->acg,none_str->ach,bool_int->aci,bool_str->acj,int_none->ack,int_bool->acm,str_none->acn,str_bool->aco,str_str->acC
open PySem.SeqAt.RcAt renaming tuples->Z1,lists->aam,lists_lengths->abt
open PySem.SeqAt.RcNeAt renaming tuples->acr,lists->acE
open PySem.SetTable renaming insertAt->UA,sizeAbove->UG,below->V7,grown->WO,tooFull->W3,advance->Yu,fill->ZN,runEnd->aaN,turns->aba
open PySem.Shared renaming TypeIs->Ym
open PySem.Str renaming ofString->WS,length->ZY
open PySem.Value renaming none->TU,bool->Ve,ref->Wl,type->WG,builtin->Yd,notImplemented->Y9,int->aav,str->acS
open PySem.Value.ref renaming inj->ac0
open PySem.W renaming Frag->R_,mg_of->SG,nsIn->Tn,fnOf->Tw,mg_none_of->TQ,keepIn->Ug,kia_one->US,kas_desc->U3,kas_place->Vk,codeIn->Vn,findIn->Vp,mroIn->VV,InstAt->V4,kas_sort->V9,clsIn->Wt,kas_rev->WZ,kas_asc->W0,findObj->Xb,methodObj->XG,cellsFrom_some->Yv,OpenLaw->YI,looks_findIn->Y6,kitOne->Zc,callWith_K->Zw,specialIn->Z0,kitx_dict->Z3,kas_descPart->aah,takesIn->aaC,kitMeta->aaD,kas_count->aaG,notCls->aa4,WalkO->abF,kas_bin->abI,kat_cons->abJ,kas_tail3->ab1
open PySem.W.Hook renaming obs->acQ,val->acR
open PySem.W.OpenLaw renaming wellSaid->abp
open PySem.W.RowW renaming records->ab7
open PySem.W.WData renaming int->acT
open PySem.W.WShape renaming has->acK
open PySem.Walks renaming list->acM
open PySem.pickOrder renaming go->aaj
open Subtype renaming ext->Yo
open Sum renaming inl->ZR,inr->ZS
open True renaming intro->Y0
set_option Elab.async false
set_option linter.all false
set_option maxRecDepth 100000
namespace L2
open PySem PySem.Spec PyProof.Rows
abbrev Key:=Sum Int Str
noncomputable def I0:Key->Sa->Bool
 | .inl k,v=>Value.isInt k v
 | .inr x,v=>Value.isStrOf x v
noncomputable def Pp (w:S9):Key->Int
 | .inl k=>V2 k
 | .inr x=>hashStr w x
theorem eX:∀{k:Key}{v:Sa},I0 k v=true->(∃i t,k=ZR i/\v=aav i t)\/(∃x t,k=ZS x/\v=acS x t)
 | .inl i,v,h=>by
  obtain ⟨t,e⟩:=Value.isInt_shape (k:=i) (v:=v) h
  exact .inl ⟨i,t,rfl,e⟩
 | .inr x,v,h=>by
  obtain ⟨t,e⟩:=Value.isStrOf_shape (x:=x) (v:=v) h
  exact .inr ⟨x,t,rfl,e⟩
theorem Mv (a b:Int):decide ((ZR a:Key)=ZR b)=(a == b):=by
 by_cases e:a=b
 ·subst e;simp
 ·have h:¬(ZR a:Key)=ZR b:=λq=>e (Sum.inl.inj q)
  rw [decide_eq_false h]
  exact (beq_eq_false_iff_ne.mpr e).symm
theorem My (a b:Str):decide ((ZS a:Key)=ZS b)=decide (a=b):=by
 by_cases e:a=b
 ·subst e;simp
 ·have h:¬(ZS a:Key)=ZS b:=λq=>e (Sum.inr.inj q)
  rw [decide_eq_false h,decide_eq_false e]
theorem Mw (a:Int) (b:Str):decide ((ZR a:Key)=ZS b)=false:=decide_eq_false (λq=>nomatch q)
theorem Mx (a:Str) (b:Int):decide ((ZS a:Key)=ZR b)=false:=decide_eq_false (λq=>nomatch q)
noncomputable def vC (prog:Sy) (w:S9):PySem.KeyKind prog w Key where
 is:=I0
 hash:=Pp w
 inj:=λv a b ha hb=>by
  rcases eX ha with ⟨i,t,rfl,rfl⟩ | ⟨x,t,rfl,rfl⟩
  ·rcases eX hb with ⟨j,u,rfl,e⟩ | ⟨y,u,rfl,e⟩
   ·injection e with e1 _;rw [e1]
   ·exact nomatch e
  ·rcases eX hb with ⟨j,u,rfl,e⟩ | ⟨y,u,rfl,e⟩
   ·exact nomatch e
   ·injection e with e1 _;rw [e1]
 byValue:=λk v h=>by
  rcases eX h with ⟨i,t,rfl,rfl⟩ | ⟨x,t,rfl,rfl⟩ <;> rfl
 pyHash:=λhv h=>by
  rcases eX hv with ⟨i,t,rfl,rfl⟩ | ⟨x,t,rfl,rfl⟩
  ·exact Yp h
  ·exact wpAny_pyHash_str h
 eqBool:=λhu hv h=>by
  rcases eX hu with ⟨i,t,rfl,rfl⟩ | ⟨x,t,rfl,rfl⟩
  ·rcases eX hv with ⟨j,u,rfl,rfl⟩ | ⟨y,u,rfl,rfl⟩
   ·rw [Mv] at h;exact wpAny_eqBool_int h
   ·rw [Mw] at h;exact Zq i t y u _ _ _ _ h
  ·rcases eX hv with ⟨j,u,rfl,rfl⟩ | ⟨y,u,rfl,rfl⟩
   ·rw [Mx] at h;exact Zr x t j u _ _ _ _ h
   ·rw [My] at h;exact wpAny_eqBool_str h
 «strs»:=λk x t v h=>by
  rcases eX h with ⟨i,u,rfl,e⟩ | ⟨y,u,rfl,e⟩
  ·exact nomatch e
  ·injection e with e1 _
   subst e1
   cases v <;> rfl
inductive V where
 | non | bl (b:Bool) | int (i:Int) | str (x:Str) | byt (b:Array UInt8) | flt (b:UInt64) | ref (a:Sq) | ty (n:String)
 deriving DecidableEq
noncomputable def RelV:V->Sa->Prop
 | .non,u=>u=TU
 | .bl b,u=>u=Ve b
 | .int i,u=>∃t,u=aav i t
 | .str x,u=>∃t,u=acS x t
 | .byt b,u=>∃t,u=Value.bytes b t
 | .flt b,u=>∃t,u=Value.float b t
 | .ref a,u=>u=Wl a
 | .ty n,u=>u=WG n
abbrev Vals:List V->List Sa->Prop:=XD RelV
theorem Vals.length {xs:List V}{us:List Sa}(r:Vals xs us):xs.length=us.length:=aby r
theorem Vals.get:∀{xs:List V}{us:List Sa}{i:Nat}{x:V},Vals xs us->xs[i]?=some x->∃u,us[i]?=some u/\RelV x u
 | _,_,_,_,.nil,e=>by simp at e
 | _,_,0,_,.cons r _,e=>by simp at e;subst e;exact ⟨_,rfl,r⟩
 | _,_,i + 1,x,.cons _ t,e=>by
  obtain ⟨u,h1,h2⟩:=Vals.get (i:=i) (x:=x) t (by simpa using e)
  exact ⟨u,by simpa using h1,h2⟩
theorem Vals.append:∀{xs ys:List V}{us ws:List Sa},Vals xs us->Vals ys ws->Vals (xs++ys) (us++ws)
 | _,_,_,_,.nil,s=>s
 | _,_,_,_,.cons r t,s=>.cons r (Vals.append t s)
theorem Vals.take:∀{xs:List V}{us:List Sa}(n:Nat),Vals xs us->Vals (xs.take n) (us.take n)
 | _,_,0,_=>.nil
 | _,_,_ + 1,.nil=>.nil
 | _,_,n + 1,.cons r t=>.cons r (Vals.take n t)
theorem Vals.drop:∀{xs:List V}{us:List Sa}(n:Nat),Vals xs us->Vals (xs.drop n) (us.drop n)
 | _,_,0,r=>r
 | _,_,_ + 1,.nil=>.nil
 | _,_,n + 1,.cons _ t=>Vals.drop n t
noncomputable def LK:Option V->Option Sa->Prop
 | some v,some u=>RelV v u
 | none,none=>True
 | _,_=>False
def KV {κ:Type}:List (κ×V)->List (κ×Sa)->Prop:=XD λ(p:κ×V) (q:κ×Sa)=>p.1=q.1/\RelV p.2 q.2
noncomputable def kV:Key->V
 | .inl i=>.int i
 | .inr x=>.str x
inductive HO where
  | lst (xs:List V)
  | tup (xs:List V)
  | dK (R7:List (Key×V)) | dT (R7:List (List Key×V))
  | set (S:Int->Bool) (n:Nat)
  | ins (C dx:Sq) (fs:List (Str×V))
  | own (x:Sq)
  | xd (fs:List (Str×V))
  | met (f x:Sq)
  | rng (lo hi:Int)
  | frz (o:Obj) (u:HO)
  | tbl (ps:Array Sa)
  | ext (φ:Ui->Prop)
abbrev Hp:=Sq->Option HO
def upd (H:Hp) (a:Sq) (o:HO):Hp:=λb=>if b=a then some o else H b
theorem cO {H:Hp}{a:Sq}{o:HO}:upd H a o a=some o:=by unfold upd;rw [if_pos rfl]
theorem bI {H:Hp}{a b:Sq}{o:HO}(h:b≠a):upd H a o b=H b:=by unfold upd;rw [if_neg h]
theorem fT {H:Hp}{a b:Sq}{o:HO}(h:H a=some o) (h':H b=none):a≠b:=by
 intro e;subst e;rw [h] at h';cases h'
section
variable (P:Sy) (w:S9)
noncomputable def dw (H:Hp) (h:Ui) (a:Sq):HO->Prop
 | .lst xs=>xs.length<=sizeLine/\∃(R1:List Sa) (n:Nat),Vals xs R1/\h.get? a=some {cls:=.type "list",data:=.seq R1.toArray n}
 | .tup xs=>xs.length<=sizeLine/\∃R1:List Sa,Vals xs R1/\ab9 h a R1.toArray
 | .dK R7=>R7.length<=sizeLine/\(a == VJ)=false/\∃vs,KV R7 vs/\h.DictOf (vC P w) a vs
 | .dT R7=>R7.length<=sizeLine/\(a == VJ)=false/\∃xs:List (List Key×Sq×Sa),
   XD (λ(p:List Key×V) (q:List Key×Sq×Sa)=>p.1=q.1/\H q.2.1=some (.tup (p.1.map kV))/\RelV p.2 q.2.2) R7 xs/\
   ∃o es ep,h.get? a=some o/\o.ExactDict/\o.data=.dict es ep/\es.toList=xs.map (abh (tupleKind (vC P w)))/\(xs.map (·.1)).Nodup
 | .set S n=>h.SetOf (ZT P w) a S n
 | .ins C dx fs=>H dx=some (.own a)/\fs.length<=1000/\dx≠a/\h.get? a=some (W.instObj C dx)/\
   ∃mA,h.Ns1 dx mA/\(∀f,LK (fs.lookup f) (mA f))/\PySem.Within mA (fs.map (·.1))
 | .own _=>∃o,h.get? a=some o
 | .xd fs=>∃mA,h.Ns1 a mA/\∀f,LK (fs.lookup f) (mA f)
 | .rng lo hi=>∃t u v,h.get? a=some {cls:=.type "range",data:=.fields #[.int lo t,.int hi u,.int 1 v]}
 | .frz o u=>h.get? a=some o/\dw H h a u
 | .tbl ps=>h.get? a=some {cls:=.none,data:=.fields ps}
 | .met f x=>h.get? a=some (XG (.ref f) (.ref x))
 | .ext φ=>φ h/\(∃o,h.get? a=some o)/\∀h1 h2:Ui,φ h1->(∀o,h1.get? a=some o->h2.get? a=some o)->φ h2
def gx (H:Hp) (h:Ui):Prop:=∀a o,H a=some o->dw P w H h a o
end
section
variable {P:Sy}{w:S9}{H H':Hp}{h h':Ui}{a:Sq}{o:HO}
theorem dw.lt (x:dw P w H h a o):a < h.objs.size:=by
 cases o with
 | lst xs=>obtain ⟨_,_,_,_,e⟩:=x;exact SA e
 | tup xs=>obtain ⟨_,_,_,p⟩:=x;exact p.lt
 | dK R7=>obtain ⟨_,_,_,_,o,_,_,e,_⟩:=x;exact SA e
 | dT R7=>obtain ⟨_,_,_,_,o,_,_,e,_⟩:=x;exact SA e
 | set S n=>obtain ⟨o,_,_,_,e,_⟩:=x;exact SA e
 | ins C dx fs=>obtain ⟨_,_,_,e,_⟩:=x;exact SA e
 | own y=>obtain ⟨_,e⟩:=x;exact SA e
 | xd fs=>obtain ⟨_,⟨_,_,_,e,_⟩,_⟩:=x;exact SA e
 | rng lo hi=>obtain ⟨_,_,_,e⟩:=x;exact SA e
 | frz ob u=>obtain ⟨e,_⟩:=x;exact SA e
 | tbl ps=>exact SA (show h.get? a=some _ from x)
 | met f y=>exact SA (show h.get? a=some _ from x)
 | ext φ=>obtain ⟨_,⟨_,e⟩,_⟩:=x;exact SA e
theorem XD.mapP {α β:Type}{F G:α->β->Prop}:∀{l₁:List α}{l₂:List β},XD F l₁ l₂->(∀a b,F a b->G a b)->XD G l₁ l₂
 | _,_,.nil,_=>.nil
 | _,_,.cons r t,f=>.cons (f _ _ r) (XD.mapP t f)
theorem dw.stay (x:dw P w H h a o) (k:∀b u,(b=a\/H b=some (.own a))->h.get? b=some u->h'.get? b=some u)
  (ho:∀b,H b=some (.own a)->H' b=some (.own a)) (ht:∀b xs,H b=some (.tup xs)->H' b=some (.tup xs)):dw P w H' h' a o:=by
 induction o with
 | lst xs=>obtain ⟨z,R1,n,r,e⟩:=x;exact ⟨z,R1,n,r,k _ _ (.inl rfl) e⟩
 | tup xs=>obtain ⟨z,R1,r,ob,e,c⟩:=x;exact ⟨z,R1,r,ob,k _ _ (.inl rfl) e,c⟩
 | dK R7=>obtain ⟨z,y,vs,r,ob,es,ep,e,c⟩:=x;exact ⟨z,y,vs,r,ob,es,ep,k _ _ (.inl rfl) e,c⟩
 | dT R7=>
  obtain ⟨z,y,xs,r,ob,es,ep,e,c⟩:=x
  exact ⟨z,y,xs,XD.mapP r λp q z=>⟨z.1,ht _ _ z.2.1,z.2.2⟩,ob,es,ep,k _ _ (.inl rfl) e,c⟩
 | set S n=>obtain ⟨ob,es,ep,t,e,c⟩:=x;exact ⟨ob,es,ep,t,k _ _ (.inl rfl) e,c⟩
 | ins C dx fs=>
  obtain ⟨d,z,ne,e,mA,⟨od,es,ep,e2,c⟩,r⟩:=x
  exact ⟨ho _ d,z,ne,k _ _ (.inl rfl) e,mA,⟨od,es,ep,k _ _ (.inr d) e2,c⟩,r⟩
 | own y=>obtain ⟨ob,e⟩:=x;exact ⟨ob,k _ _ (.inl rfl) e⟩
 | xd fs=>obtain ⟨mA,⟨od,es,ep,e,c⟩,r⟩:=x;exact ⟨mA,⟨od,es,ep,k _ _ (.inl rfl) e,c⟩,r⟩
 | rng lo hi=>obtain ⟨t,u,v,e⟩:=x;exact ⟨t,u,v,k _ _ (.inl rfl) e⟩
 | frz ob u ih=>obtain ⟨e,q⟩:=x;exact ⟨k _ _ (.inl rfl) e,ih q⟩
 | tbl ps=>
  have e:h.get? a=some {cls:=.none,data:=.fields ps}:=x
  show h'.get? a=some {cls:=.none,data:=.fields ps}
  exact k a _ (.inl rfl) e
 | met f y=>
  have e:h.get? a=some (XG (.ref f) (.ref y)):=x
  show h'.get? a=some (XG (.ref f) (.ref y))
  exact k a _ (.inl rfl) e
 | ext φ=>obtain ⟨p,⟨o,e⟩,st⟩:=x;exact ⟨st _ _ p λo q=>k _ _ (.inl rfl) q,⟨o,k _ _ (.inl rfl) e⟩,st⟩
theorem gx.lt (x:gx P w H h) (e:H a=some o):a < h.objs.size:=(x a o e).lt
theorem gx.fresh (x:gx P w H h) (e:h.objs.size<=a):H a=none:=by
 cases q:H a with
 | none=>rfl
 | some u=>exact absurd (SI (x.lt q) e) (UO _)
theorem gx.kept (x:gx P w H h) (k:∀b u,h.get? b=some u->h'.get? b=some u):gx P w H h':=λa o e=>
 (x a o e).stay (λb u _ q=>k b u q) (λ_ q=>q) λ_ _ q=>q
theorem gx.laid (x:gx P w H h) (k:∀b u,h.get? b=some u->h'.get? b=some u) (hp:h.objs.size<=a) (new:dw P w (upd H a o) h' a o):gx P w (upd H a o) h':=λb u e=>by
 have hn:=x.fresh hp
 by_cases hb:b=a
 ·subst hb;rw [cO] at e;cases e;exact new
 ·rw [bI hb] at e
  exact (x b u e).stay (λc v _ q=>k c v q) (λc q=>by rw [bI (fT q hn)];exact q) λc xs q=>by rw [bI (fT q hn)];exact q
end
def Rd (H:Hp) (a:Sq) (u:HO):Prop:=H a=some u\/∃o,H a=some (.frz o u)
theorem Rd.ok {P:Sy}{w:S9}{H:Hp}{h:Ui}{a:Sq}{u:HO}(r:Rd H a u) (x:gx P w H h):dw P w H h a u:=by
 rcases r with r | ⟨o,r⟩
 ·exact x a u r
 ·obtain ⟨_,q⟩:=x a _ r
  exact q
noncomputable def IJ:Option HO->Prop
 | some (.lst _)=>True
 | some (.dK _)=>True
 | some (.dT _)=>True
 | some (.set _ _)=>True
 | some (.ins _ _ _)=>True
 | some (.ext _)=>True
 | _=>False
section
variable {P:Sy}{w:S9}{H:Hp}{h h':Ui}{x e:Sq}{o':HO}
theorem gx.write (ok:gx P w H h) (mu:IJ (H x)) (he:e=x\/H e=some (.own x)) (k:∀b u,b≠e->h.get? b=some u->h'.get? b=some u) (Q6:∃u,h'.get? e=some u)
  (new:dw P w (upd H x o') h' x o'):gx P w (upd H x o') h':=λb u q=>by
 have nown:∀c y,H c=some (.own y)->c≠x:=λc y r z=>by subst z;rw [r] at mu;exact mu
 have ntup:∀c xs,H c=some (.tup xs)->c≠x:=λc xs r z=>by subst z;rw [r] at mu;exact mu
 by_cases hb:b=x
 ·subst hb;rw [cO] at q;cases q;exact new
 ·rw [bI hb] at q
  by_cases Q2:b=e
  ·have q':H b=some (.own x):=by
    rcases he with z | z
    ·exact absurd (Q2.trans z) hb
    ·rw [Q2];exact z
   rw [q] at q';cases q'
   obtain ⟨v,hv⟩:=Q6
   exact ⟨v,by rw [Q2];exact hv⟩
  ·refine (ok b u q).stay (λc v hc r=>k c v ?_ r) (λc r=>by rw [bI (nown c b r)];exact r) λc xs r=>by rw [bI (ntup c xs r)];exact r
   rcases hc with rfl | hc
   ·exact Q2
   ·rintro rfl
    rcases he with z | z
    ·exact nown c b hc z
    ·rw [hc] at z;cases z;exact hb rfl
end
structure Un (fs ex:List Sq) (H H':Hp) (h h':Ui):Prop where
 keep:∀b o,h.get? b=some o->H b=none->b∉fs->b∉ex->h'.get? b=some o
 slot:∀b o,h.get? b=some o->H b=none->b∈fs->b∉ex->∃sl,h'.get? b=some {o with slots:=sl}
 free:∀b o,h.get? b=some o->H b=none->b∉ex->H' b=none
 there:∀b o,h.get? b=some o->b∉ex->∃o',h'.get? b=some o'
 tups:∀b xs,H b=some (.tup xs)->H' b=some (.tup xs)
 frzs:∀b o u,H b=some (.frz o u)->H' b=some (.frz o u)
 tbls:∀b ps,H b=some (.tbl ps)->∃more,H' b=some (.tbl (ps++more))
section
variable {fs fs' ex ex':List Sq}{H H1 H2:Hp}{h h1 h2 h':Ui}{a x e:Sq}{o:HO}
theorem Un.any (u:Un fs ex H H1 h h1){b:Sq}{ob:Obj}(q:h.get? b=some ob) (n:H b=none) (hx:b∉ex):∃sl,h1.get? b=some {ob with slots:=sl}:=by
 by_cases hb:b∈fs
 ·exact u.slot b ob q n hb hx
 ·exact ⟨ob.slots,u.keep b ob q n hb hx⟩
theorem Un.kept (k:∀b u,h.get? b=some u->h'.get? b=some u):Un fs ex H H h h':=
 ⟨λb ob q _ _ _=>k b ob q,λb ob q _ _ _=>⟨ob.slots,k b ob q⟩,λ_ _ _ n _=>n,λb ob q _=>⟨ob,k b ob q⟩,λ_ _ q=>q,λ_ _ _ q=>q,λ_ ps q=>⟨#[],by rw [q];simp⟩⟩
theorem Un.refl:Un fs ex H H h h:=Un.kept λ_ _ q=>q
theorem Un.laid (k:∀b u,h.get? b=some u->h'.get? b=some u) (hp:h.objs.size<=a) (hn:H a=none):Un fs ex H (upd H a o) h h' where
 keep:=λb u q _ _ _=>k b u q
 slot:=λb u q _ _ _=>⟨u.slots,k b u q⟩
 free:=λb u q n _=>by rw [bI (S4 (SI (SA q) hp))];exact n
 there:=λb u q _=>⟨u,k b u q⟩
 tups:=λb xs q=>by rw [bI (fT q hn)];exact q
 frzs:=λb u xs q=>by rw [bI (fT q hn)];exact q
 tbls:=λb ps q=>⟨#[],by rw [bI (fT q hn),q];simp⟩
theorem Un.write (mu:IJ (H x)) (he:e=x\/H e=some (.own x)) (k:∀b u,b≠e->h.get? b=some u->h'.get? b=some u) (Q6:∃u,h'.get? e=some u):Un fs ex H (upd H x o) h h':=by
 have hx:∀b,H b=none->b≠x:=λb n z=>by subst z;rw [n] at mu;exact mu
 have hb:∀b,H b=none->b≠e:=λb n z=>by
  subst z
  rcases he with r | r
  ·exact hx b n r
  ·rw [n] at r;cases r
 have hm:∀b u,H b=some u->¬IJ (some u)->b≠x:=λb u q nm z=>by subst z;rw [q] at mu;exact nm mu
 refine ⟨λb u q n _ _=>k b u (hb b n) q,λb u q n _ _=>⟨u.slots,k b u (hb b n) q⟩,λb u q n _=>by rw [bI (hx b n)];exact n,λb u q _=>?_,
  λb xs q=>by rw [bI (hm b _ q λz=>z)];exact q,λb u xs q=>by rw [bI (hm b _ q λz=>z)];exact q,λb ps q=>⟨#[],by rw [bI (hm b _ q λz=>z),q];simp⟩⟩
 by_cases Q2:b=e
 ·subst Q2;exact Q6
 ·exact ⟨u,k b u Q2 q⟩
end
def Gd (h:Ui) (H:Hp):List Sq:=(Se h.objs.size).filter λa=>(H a).isSome
def oR (h:Ui) (H:Hp):Ui:=W.hideAll h (Gd h H)
theorem EM (h:Ui) (H:Hp):(oR h H).objs.size=h.objs.size:=W.hideAll_size _ _
theorem G1 {h:Ui}{H:Hp}{b:Sq}{o:Obj}(e:h.get? b=some o) (n:H b=none):(oR h H).get? b=some o:=
 W.hideAll_get _ e λhm=>by
  have q:(H b).isSome=true:=(S7.mp hm).2
  rw [n] at q;simp at q
theorem Kw {h:Ui}{H:Hp}{b:Sq}{o:Obj}(e:(oR h H).get? b=some o):h.get? b=some o/\H b=none:=by
 have e':h.get? b=some o:=W.of_hideAll (Gd h H) e
 refine ⟨e',?_⟩
 cases q:H b with
 | none=>rfl
 | some x=>
  have hm:b∈Gd h H:=S7.mpr ⟨Sj.mpr (SA e'),by simp [q]⟩
  have z:(oR h H).get? b=none:=W.hideAll_none (Gd h H) hm
  rw [z] at e;cases e
def JD (g h:Ui) (L:Sq):List (Sq×Obj):=(Se h.objs.size).filterMap λa=>if a=L\/(g.get? a).isSome=true then none else (h.get? a).map λo=>(a,o)
def rest (g h:Ui) (L d:Sq):List (Sq×Obj):=(JD g h L).filter λp=>decide (p.1≠d)
structure Mod (K:R_) (mg:Str->Option Sa) (base:Ui):Prop where
 kin:K.In base
 glob:base.Ns S3 mg
 blt:∃mb,base.Ns abi mb/\∀x:Str,x≠"__name__"->mb x=Tv x
 nolimit:base.NoLimit
structure Cx where
 prog:Sy
 w:S9
 K:R_
 mg:Str->Option Sa
 base:Ui
 A:Td
 N:List Str
 s₀:Sd
 H₀:Hp
 env:Env
 outer:List Env
 stack:List Env
 ex:List Sq
 fn:Str->Bool
 calm:Bool
 pn:List (Sq×Obj)
 xe:Sa->Sd->Prop
def frs (l:List Env):List Sq:=l.filterMap (·.frame)
abbrev Cx.fs (X:Cx):List Sq:=frs X.outer
def vW (sc:Vc) (x:Str):Prop:=sc.names.lookup x=some .local\/sc.names.lookup x=some .cell\/sc.names.lookup x=some .free
def Loc (sc:Vc) (x:Str):Prop:=sc.names.lookup x=some .local\/sc.names.lookup x=some .cell
noncomputable def Look (env:Env) (h:Ui) (m:Str->Option Sa) (x:Str) (u:Sa):Prop:=
 (env.kindOf x=some .local/\m x=some u)\/((env.kindOf x=some .cell\/env.kindOf x=some .free)/\∃c,env.cells.lookup x=some c/\h.IsCell c (some u))
structure Cx.Ok (X:Cx):Prop where
 mod:Mod X.K X.mg X.base
 kind:X.env.scope.kind=.function
 glob:X.env.globals=S3
 blt:X.env.builtins=abi
 above:X.s₀.heap.objs.size<=X.env.locals
 inj:∀x y c,X.env.cells.lookup x=some c->X.env.cells.lookup y=some c->x=y
 has:∀x,(X.env.kindOf x=some .cell\/X.env.kindOf x=some .free)->∃c,X.env.cells.lookup x=some c
 cab:∀x c,X.fn x=true->X.env.cells.lookup x=some c->X.s₀.heap.objs.size<=c
 hd:X.calm=true->X.A.handled=none
 frames:X.A.frames=some X.stack
 stk:X.stack=X.outer\/(X.stack=X.env::X.outer/\X.env.frame=some X.env.locals)
 exf:∀b∈X.ex,b≠X.env.locals/\∀x c,X.env.cells.lookup x=some c->c≠b
 bs:∀b o,X.base.get? b=some o->X.s₀.heap.get? b=some o/\X.H₀ b=none
 bsz:X.base.objs.size<=X.s₀.heap.objs.size
 noex:∀b o,X.base.get? b=some o->b∉X.ex
 exfs:∀b∈X.ex,b∉X.fs
 funs:X.s₀.heap.FunFrames X.base X.outer
 frf:∀b∈X.fs,X.H₀ b=none
structure Inv (X:Cx) (R0:List (Sq×Obj)) (σ:List (Option V)) (H:Hp) (s:Sd):Prop where
 ok:X.Ok
 os:s.os=X.s₀.os
 bare:X_ s.gens
 base:Un X.fs X.ex X.H₀ H X.s₀.heap s.heap
 loc:∃m,s.heap.Ns X.env.locals m/\∀(i:Nat) (x:Str) (v:V),X.N[i]?=some x->σ[i]?=some (some v)->vW X.env.scope x->∃u,RelV v u/\Look X.env s.heap m x u
 cell:∀x c,X.env.cells.lookup x=some c->∃v,s.heap.IsCell c v
 free:H X.env.locals=none
 freeC:∀x c,X.env.cells.lookup x=some c->H c=none
 pin:∀p∈X.pn++R0,s.heap.get? p.1=some p.2/\H p.1=none/\p.1≠X.env.locals/\p.1∉X.fs/\∀v,p.2.data≠.cell v
 hok:gx X.prog X.w H s.heap
 len:σ.length=X.N.length
section
variable {X:Cx}{R0:List (Sq×Obj)}{σ:List (Option V)}{H H':Hp}{s:Sd}{h':Ui}
theorem Cx.Ok.nofr (ok:X.Ok){b:Sq}{o:Obj}(e:X.base.get? b=some o):b∉X.fs:=λhb=>by
 have:=(ok.funs.mem hb).1
 rw [e] at this;cases this
theorem Inv.bs (I:Inv X R0 σ H s):∀b o,X.base.get? b=some o->s.heap.get? b=some o/\H b=none:=λb o e=>
 ⟨I.base.keep b o (I.ok.bs b o e).1 (I.ok.bs b o e).2 (I.ok.nofr e) (I.ok.noex b o e),I.base.free b o (I.ok.bs b o e).1 (I.ok.bs b o e).2 (I.ok.noex b o e)⟩
theorem Inv.bk (I:Inv X R0 σ H s):∀b o,X.base.get? b=some o->s.heap.get? b=some o:=λb o e=>(I.bs b o e).1
theorem Inv.mod (I:Inv X R0 σ H s):Mod X.K X.mg X.base:=I.ok.mod
theorem Inv.kIn (I:Inv X R0 σ H s):X.K.In s.heap:=I.ok.mod.kin.keeps I.bk
theorem Inv.lt (I:Inv X R0 σ H s):X.env.locals < s.heap.objs.size:=let ⟨_,hn,_⟩:=I.loc;hn.lt
theorem Inv.sz (I:Inv X R0 σ H s):X.s₀.heap.objs.size<=s.heap.objs.size:=S5 I.ok.above (WR I.lt)
theorem Inv.nofs (I:Inv X R0 σ H s){a:Sq}(h:s.heap.objs.size<=a):a∉X.fs:=λhb=>by
 obtain ⟨_,o,ho,_⟩:=I.ok.funs.mem hb
 exact absurd (SI (SA ho) (S5 I.sz h)) (UO _)
theorem Inv.cne (I:Inv X R0 σ H s):∀x c,X.env.cells.lookup x=some c->c≠X.env.locals:=λx c e z=>by
 obtain ⟨v,o,ho,hd⟩:=I.cell x c e
 obtain ⟨m,⟨o',es,ep,ho',hd',_⟩,_⟩:=I.loc
 rw [z,ho'] at ho;cases ho;rw [hd'] at hd;cases hd
theorem Inv.funs (I:Inv X R0 σ H s):s.heap.FunFrames X.base X.outer:=by
 have all:∀(l:List Env),(∀b∈frs l,b∈X.fs)->X.s₀.heap.FunFrames X.base l->s.heap.FunFrames X.base l:=by
  intro l
  induction l with
  | nil=>intro _ _;trivial
  | cons env r ih=>
   intro hs hl
   obtain ⟨hk,⟨L,o,hf,hn,ho,hd⟩,hr⟩:=hl
   have hL:L∈X.fs:=hs L (by unfold frs;rw [W9,hf];exact Si)
   obtain ⟨sl,e⟩:=I.base.slot L o ho (I.ok.frf L hL) hL λz=>I.ok.exfs L z hL
   exact ⟨hk,⟨L,_,hf,hn,e,hd⟩,ih (λb hb=>hs b (by unfold frs;rw [W9,hf];exact Sg _ hb)) hr⟩
 exact all X.outer (λ_ hb=>hb) I.ok.funs
theorem Inv.stack (I:Inv X R0 σ H s):s.heap.FunFrames X.base X.stack:=by
 rcases I.ok.stk with e | ⟨e,hf⟩
 ·rw [e];exact I.funs
 ·rw [e]
  obtain ⟨m,hn,_⟩:=I.loc
  refine .cons (by rw [I.ok.kind];decide) hf hn ?_ I.funs
  exact Heap.get?_none_of_le (S5 I.ok.bsz I.ok.above)
theorem Inv.stkSub (I:Inv X R0 σ H s):∀b∈frs X.stack,b∈X.env.locals::X.fs:=λb hb=>by
 rcases I.ok.stk with e | ⟨e,hf⟩
 ·rw [e] at hb;exact Sg _ hb
 ·rw [e] at hb
  unfold frs at hb
  rw [W9,hf] at hb
  exact hb
theorem Inv.stkFree (I:Inv X R0 σ H s):∀b∈frs X.stack,H b=none:=λb hb=>by
 rcases SD.mp (I.stkSub b hb) with e | hb
 ·rw [e];exact I.free
 ·obtain ⟨_,o,ho,_⟩:=I.ok.funs.mem hb
  exact I.base.free b o ho (I.ok.frf b hb) λz=>I.ok.exfs b z hb
theorem Inv.step {g':Array Zs}{t':Nat}{d':Drawn}{ch:List Sq}(I:Inv X R0 σ H s)
  (hch:∀b∈ch,(b∈X.ex\/X.s₀.heap.objs.size<=b)/\b≠X.env.locals/\(∀x c,X.env.cells.lookup x=some c->c≠b)/\∀p∈X.pn++R0,p.1≠b)
  (keep:∀b o,b≠X.env.locals->b∉X.fs->b∉ch->s.heap.get? b=some o->H b=none->h'.get? b=some o)
  (slot:∀b o,b≠X.env.locals->b∈X.fs->b∉ch->s.heap.get? b=some o->H b=none->∃sl,h'.get? b=some {o with slots:=sl}) (free:∀b o,b∉ch->s.heap.get? b=some o->H b=none->H' b=none)
  (there:∀b o,b∉ch->s.heap.get? b=some o->∃o',h'.get? b=some o')
  (tups:∀b xs,H b=some (.tup xs)->H' b=some (.tup xs)) (frzs:∀b o u,H b=some (.frz o u)->H' b=some (.frz o u)) (tbls:∀b ps,H b=some (.tbl ps)->∃more,H' b=some (.tbl (ps++more)))
  (ns:∀m,s.heap.Ns X.env.locals m->h'.Ns X.env.locals m) (hok:gx X.prog X.w H' h') (hg:X_ g'):
  Inv X R0 σ H' {s with heap:=h',gens:=g',drawn:=d',toks:=t'}:=by
 have neL:∀b o,X.s₀.heap.get? b=some o->b≠X.env.locals:=λb o e=>S4 (SI (SA e) I.ok.above)
 have neC:∀b o,X.s₀.heap.get? b=some o->b∉X.ex->b∉ch:=λb o e hx hb=>by
  rcases (hch b hb).1 with z | z
  ·exact hx z
  ·exact absurd (SI (SA e) z) (UO _)
 have cellK:∀x c,X.env.cells.lookup x=some c->∀v,s.heap.IsCell c v->h'.IsCell c v:=λx c e v ⟨o,ho,hd⟩=>by
  have nch:c∉ch:=λz=>(hch c z).2.2.1 x c e rfl
  by_cases hc:c∈X.fs
  ·obtain ⟨sl,q⟩:=slot c o (I.cne x c e) hc nch ho (I.freeC x c e)
   exact ⟨_,q,hd⟩
  ·exact ⟨o,keep c o (I.cne x c e) hc nch ho (I.freeC x c e),hd⟩
 refine ⟨I.ok,I.os,hg,⟨λb o e n hb hx=>?_,λb o e n hb hx=>?_,λb o e n hx=>?_,λb o e hx=>?_,λb xs e=>tups b xs (I.base.tups b xs e),λb o xs e=>frzs b o xs (I.base.frzs b o xs e),λb ps e=>?_⟩,?_,λx c e=>?_,?_,λx c e=>?_,λp hp=>?_,hok,I.len⟩
 ·exact keep b o (neL b o e) hb (neC b o e hx) (I.base.keep b o e n hb hx) (I.base.free b o e n hx)
 ·obtain ⟨sl,e1⟩:=I.base.slot b o e n hb hx
  obtain ⟨sl',e2⟩:=slot b _ (neL b o e) hb (neC b o e hx) e1 (I.base.free b o e n hx)
  exact ⟨sl',e2⟩
 ·obtain ⟨o',e1⟩:=I.base.there b o e hx
  exact free b o' (neC b o e hx) e1 (I.base.free b o e n hx)
 ·obtain ⟨o',e1⟩:=I.base.there b o e hx
  exact there b o' (neC b o e hx) e1
 ·obtain ⟨m1,e1⟩:=I.base.tbls b ps e
  obtain ⟨m2,e2⟩:=tbls b _ e1
  exact ⟨m1++m2,by rw [e2,Array.append_assoc]⟩
 ·obtain ⟨m,hn,hl⟩:=I.loc
  refine ⟨m,ns m hn,λi x v e1 e2 e3=>?_⟩
  obtain ⟨u,r,l⟩:=hl i x v e1 e2 e3
  refine ⟨u,r,?_⟩
  rcases l with l | ⟨k,c,e,z⟩
  ·exact .inl l
  ·exact .inr ⟨k,c,e,cellK x c e _ z⟩
 ·obtain ⟨v,z⟩:=I.cell x c e
  exact ⟨v,cellK x c e v z⟩
 ·obtain ⟨m,⟨o,_,_,ho,_⟩,_⟩:=I.loc
  exact free _ o (λz=>(hch _ z).2.1 rfl) ho I.free
 ·obtain ⟨v,o,ho,hd⟩:=I.cell x c e
  exact free c o (λz=>(hch c z).2.2.1 x c e rfl) ho (I.freeC x c e)
 ·obtain ⟨e,n,ne,nf,d⟩:=I.pin p hp
  have nch:p.1∉ch:=λz=>(hch p.1 z).2.2.2 p hp rfl
  exact ⟨keep p.1 p.2 ne nf nch e n,free p.1 p.2 nch e n,ne,nf,d⟩
theorem Inv.un {t':Nat}(I:Inv X R0 σ H s) (u:Un X.fs [] H H' s.heap h') (hok:gx X.prog X.w H' h'):Inv X R0 σ H' {s with heap:=h',toks:=t'}:=by
 obtain ⟨m,⟨o,es,ep,ho,r⟩,_⟩:=id I.loc
 obtain ⟨sl,hL⟩:=u.any ho I.free (by simp)
 exact I.step (g':=s.gens) (d':=s.drawn) (ch:=[]) (λ_ z=>nomatch z) (λb o _ hb _ e n=>u.keep b o e n hb (by simp)) (λb o _ hb _ e n=>u.slot b o e n hb (by simp)) (λb o _ e n=>u.free b o e n (by simp)) (λb o _ e=>u.there b o e (by simp)) u.tups u.frzs u.tbls (λm' hm=>by
  obtain ⟨o',es',ep',ho',r'⟩:=hm
  rw [ho] at ho';cases ho'
  exact ⟨_,es',ep',hL,r'⟩) hok I.bare
theorem Inv.call {g':Array Zs}{t':Nat}{d':Drawn}{ch:List Sq}(I:Inv X R0 σ H s) (u:Un (frs X.stack) ch H H' s.heap h') (hok:gx X.prog X.w H' h') (hg:X_ g')
  (hch:∀b∈ch,(b∈X.ex\/X.s₀.heap.objs.size<=b)/\b≠X.env.locals/\(∀x c,X.env.cells.lookup x=some c->c≠b)/\∀p∈X.pn++R0,p.1≠b):
  Inv X R0 σ H' {s with heap:=h',gens:=g',drawn:=d',toks:=t'}:=by
 obtain ⟨m,⟨o,es,ep,ho,r⟩,_⟩:=id I.loc
 obtain ⟨sl,hL⟩:=u.any ho I.free λz=>(hch _ z).2.1 rfl
 exact I.step (ch:=ch) hch (λb o hL hb hc e n=>u.keep b o e n (λz=>(SD.mp (I.stkSub b z)).elim hL hb) hc) (λb o _ _ hc e n=>u.any e n hc) (λb o hc e n=>u.free b o e n hc) (λb o hc e=>u.there b o e hc) u.tups u.frzs u.tbls (λm' hm=>by
  obtain ⟨o',es',ep',ho',r'⟩:=hm
  rw [ho] at ho';cases ho'
  exact ⟨_,es',ep',hL,r'⟩) hok hg
theorem Inv.turned {t':Nat}{it:Sq}(I:Inv X R0 σ H s) (k:∀b o,b≠it->s.heap.get? b=some o->h'.get? b=some o) (hn:H it=none) (hL:it≠X.env.locals)
  (h1:it∈X.ex\/X.s₀.heap.objs.size<=it) (h2:∀x c,X.env.cells.lookup x=some c->c≠it) (h3:∀p∈X.pn++R0,p.1≠it):Inv X R0 σ H {s with heap:=h',toks:=t'}:=by
 have nit:∀b u,H b=some u->b≠it:=λb u e z=>by rw [z,hn] at e;cases e
 refine I.step (g':=s.gens) (d':=s.drawn) (ch:=[it]) (λb hb=>?_) (λb o _ _ hc e _=>k b o (λz=>hc (by simp [z])) e) (λb o _ _ hc e _=>⟨o.slots,k b o (λz=>hc (by simp [z])) e⟩) (λ_ _ _ _ n=>n)
  (λb o hc e=>⟨o,k b o (λz=>hc (by simp [z])) e⟩) (λ_ _ e=>e) (λ_ _ _ e=>e) (λb ps e=>⟨#[],by rw [e];simp⟩) (λm hm=>?_) (λb u e=>?_) I.bare
 ·have e:b=it:=by simpa using hb
  subst e
  exact ⟨h1,hL,h2,h3⟩
 ·obtain ⟨o,es,ep,ho,r⟩:=hm
  exact ⟨o,es,ep,k _ o (Vt hL) ho,r⟩
 ·refine (I.hok b u e).stay (λc v hc q=>k c v ?_ q) (λ_ q=>q) λ_ _ q=>q
  rcases hc with z | z
  ·rw [z];exact nit b u e
  ·exact nit c _ z
theorem Inv.tok (I:Inv X R0 σ H s) (t:Nat):Inv X R0 σ H {s with toks:=t}:=I.un (h':=s.heap) (t':=t) Un.refl I.hok
theorem Inv.kept {t':Nat}(I:Inv X R0 σ H s) (k:∀b u,s.heap.get? b=some u->h'.get? b=some u):Inv X R0 σ H {s with heap:=h',toks:=t'}:=I.un (Un.kept k) (I.hok.kept k)
theorem Inv.laid {a:Sq}{o:HO}{t':Nat}(I:Inv X R0 σ H s) (k:∀b u,s.heap.get? b=some u->h'.get? b=some u) (hp:s.heap.objs.size<=a) (new:dw X.prog X.w (upd H a o) h' a o):
  Inv X R0 σ (upd H a o) {s with heap:=h',toks:=t'}:=I.un (Un.laid k hp (I.hok.fresh hp)) (I.hok.laid k hp new)
theorem Inv.write {x e:Sq}{o:HO}{t':Nat}(I:Inv X R0 σ H s) (mu:IJ (H x)) (he:e=x\/H e=some (.own x)) (k:∀b u,b≠e->s.heap.get? b=some u->h'.get? b=some u) (Q6:∃u,h'.get? e=some u)
  (new:dw X.prog X.w (upd H x o) h' x o):Inv X R0 σ (upd H x o) {s with heap:=h',toks:=t'}:=I.un (Un.write mu he k Q6) (I.hok.write mu he k Q6 new)
theorem Inv.pins_of {pins':List (Sq×Obj)}(I:Inv X R0 σ H s) (h:∀p∈pins',s.heap.get? p.1=some p.2/\H p.1=none/\p.1≠X.env.locals/\p.1∉X.fs/\∀v,p.2.data≠.cell v):Inv X pins' σ H s:=
 ⟨I.ok,I.os,I.bare,I.base,I.loc,I.cell,I.free,I.freeC,λp hp=>(SN.mp hp).elim (λz=>I.pin p (U0 _ z)) (h p),I.hok,I.len⟩
theorem zI {N:List Str}(hN:N.Nodup){i j:Nat}{x:Str}(a:N[i]?=some x) (b:N[j]?=some x):i=j:=by
 obtain ⟨h1,e1⟩:=SW.mp a
 obtain ⟨h2,e2⟩:=SW.mp b
 exact (Yq hN).mp (e1.trans e2.symm)
theorem mW {M:ab_}{A:Td}{E:Sa->Sd->Prop}{i:Nat}{x:Str}{v:V}{u:Sa}{Q:Unit->Sd->Prop}(I:Inv X R0 σ H s) (hN:X.N.Nodup) (hi:X.N[i]?=some x) (hx:Loc X.env.scope x) (r:RelV v u)
  (h:∀s',Inv X R0 (σ.set i (some v)) H s'->(∃a,T5 a s.heap s'.heap/\(a=X.env.locals\/X.env.cells.lookup x=some a))->Q () s') (hf:X.fn x=true\/X.env.scope.names.lookup x=some .local:=by first | exact .inl rfl | exact .inr rfl | assumption):SH M A (abU X.env x u) Q E s:=by
 obtain ⟨m,hn,hl⟩:=id I.loc
 have hcls:(X.env.scope.kind == .class || (X.env.scope.kind == .module && X.env.locals != X.env.globals))=false:=by rw [I.ok.kind];rfl
 have hiσ:i < σ.length:=by rw [I.len];exact (SW.mp hi).1
 have cne:=I.cne
 have tracked:∀{a:Sq}{h':Ui},(∃o,s.heap.get? a=some o/\H a=none)->T5 a s.heap h'->gx X.prog X.w H h':=fun {a h'} ha hs b ob e=>by
  obtain ⟨_,_,hfree⟩:=ha
  refine (I.hok b ob e).stay (λc w' hc q=>(hs.2 c ?_).trans q) (λ_ q=>q) λ_ _ q=>q
  rintro rfl
  rcases hc with rfl | hc
  ·rw [hfree] at e;cases e
  ·rw [hfree] at hc;cases hc
 rcases hx with hk | hk
 ·refine wpAny_storeName_local hk hn (λh' hn' hs=>?_) hcls
  obtain ⟨oL,_,_,RP,_⟩:=id hn
  refine h _ ⟨I.ok,I.os,I.bare,⟨λb o e n hb hx=>?_,λb o e n hb hx=>?_,I.base.free,λb o e hx=>?_,I.base.tups,I.base.frzs,I.base.tbls⟩,⟨_,hn',λj y v' e1 e2 e3=>?_⟩,λy c e=>?_,I.free,I.freeC,λp hp=>?_,tracked ⟨oL,RP,I.free⟩ hs,by simpa using I.len⟩ ⟨_,hs,.inl rfl⟩
  ·exact (hs.2 b (S4 (SI (SA e) I.ok.above))).trans (I.base.keep b o e n hb hx)
  ·obtain ⟨sl,e1⟩:=I.base.slot b o e n hb hx
   exact ⟨sl,(hs.2 b (S4 (SI (SA e) I.ok.above))).trans e1⟩
  ·obtain ⟨o',e1⟩:=I.base.there b o e hx
   exact ⟨o',(hs.2 b (S4 (SI (SA e) I.ok.above))).trans e1⟩
  ·by_cases hj:j=i
   ·subst hj
    rw [hi] at e1;cases e1
    rw [Um hiσ] at e2
    cases e2
    exact ⟨u,r,.inl ⟨hk,by simp⟩⟩
   ·rw [Tq (Vt hj)] at e2
    obtain ⟨u',r',q⟩:=hl j y v' e1 e2 e3
    refine ⟨u',r',?_⟩
    rcases q with ⟨k,e⟩ | ⟨k,c,e,z⟩
    ·refine .inl ⟨k,?_⟩
     have:y≠x:=λe=>hj (zI hN e1 (e▸hi))
     simp [this,e]
    ·exact .inr ⟨k,c,e,z.sameBut hs (cne y c e)⟩
  ·obtain ⟨w',z⟩:=I.cell y c e
   exact ⟨w',z.sameBut hs (cne y c e)⟩
  ·obtain ⟨e,n,ne,nf,d⟩:=I.pin p hp
   exact ⟨(hs.2 p.1 ne).trans e,n,ne,nf,d⟩
 ·have hfn:X.fn x=true:=by
   rcases hf with z | z
   ·exact z
   ·rw [z] at hk;cases hk
  obtain ⟨c,hc⟩:=I.ok.has x (.inl hk)
  obtain ⟨w',z⟩:=I.cell x c hc
  refine wpAny_storeName_cell I.ok.kind hk hc z (λh' hc' hs=>?_)
  obtain ⟨oc,hoc,Rl⟩:=id z
  refine h {s with heap:=h'} ⟨I.ok,I.os,I.bare,⟨λb o e n hb hx=>?_,λb o e n hb hx=>?_,I.base.free,λb o e hx=>?_,I.base.tups,I.base.frzs,I.base.tbls⟩,⟨m,hn.sameBut hs (Vt (cne x c hc)),λj y v' e1 e2 e3=>?_⟩,λy c' e=>?_,I.free,I.freeC,λp hp=>?_,tracked ⟨oc,hoc,I.freeC x c hc⟩ hs,by simpa using I.len⟩ ⟨c,hs,.inr hc⟩
  ·exact (hs.2 b (S4 (SI (SA e) (I.ok.cab x c hfn hc)))).trans (I.base.keep b o e n hb hx)
  ·obtain ⟨sl,e1⟩:=I.base.slot b o e n hb hx
   exact ⟨sl,(hs.2 b (S4 (SI (SA e) (I.ok.cab x c hfn hc)))).trans e1⟩
  ·obtain ⟨o',e1⟩:=I.base.there b o e hx
   exact ⟨o',(hs.2 b (S4 (SI (SA e) (I.ok.cab x c hfn hc)))).trans e1⟩
  ·by_cases hj:j=i
   ·subst hj
    rw [hi] at e1;cases e1
    rw [Um hiσ] at e2
    cases e2
    exact ⟨u,r,.inr ⟨.inl hk,c,hc,hc'⟩⟩
   ·rw [Tq (Vt hj)] at e2
    obtain ⟨u',r',q⟩:=hl j y v' e1 e2 e3
    refine ⟨u',r',?_⟩
    rcases q with q | ⟨k,c',e,z'⟩
    ·exact .inl q
    ·refine .inr ⟨k,c',e,z'.sameBut hs ?_⟩
     rintro rfl
     exact hj (zI hN e1 (I.ok.inj _ _ _ e hc▸hi))
  ·by_cases hcc:c'=c
   ·subst hcc;exact ⟨_,hc'⟩
   ·obtain ⟨w2,z2⟩:=I.cell y c' e
    exact ⟨w2,z2.sameBut hs hcc⟩
  ·obtain ⟨e,n,ne,nf,d⟩:=I.pin p hp
   refine ⟨(hs.2 p.1 ?_).trans e,n,ne,nf,d⟩
   intro q
   rw [q,hoc] at e
   have q':oc=p.2:=TF e
   exact d w' (by rw [<-q'];exact Rl)
theorem s_ {M:ab_}{A:Td}{E:Sa->Sd->Prop}{i:Nat}{x:Str}{v:V}{u:Sa}{Q:Unit->Sd->Prop}(I:Inv X R0 σ H s) (hN:X.N.Nodup) (hi:X.N[i]?=some x) (hx:Loc X.env.scope x) (r:RelV v u)
  (h:∀s',Inv X R0 (σ.set i (some v)) H s'->Q () s') (hf:X.fn x=true\/X.env.scope.names.lookup x=some .local:=by first | exact .inl rfl | exact .inr rfl | assumption):SH M A (abU X.env x u) Q E s:=
 mW I hN hi hx r (λs' I' _=>h s' I') hf
theorem Inv.call' {s':Sd}{ch:List Sq}(I:Inv X R0 σ H s) (ho:s'.os=s.os) (u:Un (frs X.stack) ch H H' s.heap s'.heap) (hok:gx X.prog X.w H' s'.heap) (hg:X_ s'.gens)
  (hch:∀b∈ch,(b∈X.ex\/X.s₀.heap.objs.size<=b)/\b≠X.env.locals/\(∀x c,X.env.cells.lookup x=some c->c≠b)/\∀p∈X.pn++R0,p.1≠b):Inv X R0 σ H' s':=by
 obtain ⟨h',g',d',t',o'⟩:=s'
 have e:o'=s.os:=ho
 subst e
 exact I.call (g':=g') (t':=t') (d':=d') u hok hg hch
end
abbrev XK:=Sa->Option Sq->Hp->Prop
abbrev St:=List (Option V)
abbrev VK:=V->Hp->Prop
abbrev TE:=St->Hp->VK->Prop
abbrev TT:=St->Hp->(Bool->Hp->Prop)->Prop
abbrev TA:=St->Hp->(List V->Hp->Prop)->Prop
structure Ends where
 nx:St->Hp->Prop
 rt:VK
 bk:St->Hp->Prop:=λ_ _=>False
 ct:St->Hp->Prop:=λ_ _=>False
abbrev TS:=Ends->St->Hp->Prop
def EP (X:Cx) (R0:List (Sq×Obj)) (σ:St) (Q:VK) (u:Sa) (s':Sd):Prop:=∃v H',Inv X R0 σ H' s'/\RelV v u/\Q v H'
def TP (X:Cx) (R0:List (Sq×Obj)) (σ:St) (Q:Bool->Hp->Prop) (b:Bool) (s':Sd):Prop:=∃H',Inv X R0 σ H' s'/\Q b H'
def AP (X:Cx) (R0:List (Sq×Obj)) (σ:St) (Q:List V->Hp->Prop) (us:List Sa) (s':Sd):Prop:=∃vs H',Inv X R0 σ H' s'/\Vals vs us/\Q vs H'
noncomputable def SP (X:Cx) (R0:List (Sq×Obj)) (D:Ends) (f:Flow) (s':Sd):Prop:=
 match f with
 | .next=>∃σ' H',Inv X R0 σ' H' s'/\D.nx σ' H'
 | .brk=>∃σ' H',Inv X R0 σ' H' s'/\D.bk σ' H'
 | .cont=>∃σ' H',Inv X R0 σ' H' s'/\D.ct σ' H'
 | .ret u=>∃v σ' H',Inv X R0 σ' H' s'/\RelV v u/\D.rt v H'
noncomputable def PE (X:Cx) (e:Tc) (t:TE):Prop:=
 ∀(R0:List (Sq×Obj)) (s:Sd) (σ:St) (H:Hp) (Q:VK),Inv X R0 σ H s->t σ H Q->SH (SM X.prog X.w) X.A (eval e X.env) (EP X R0 σ Q) X.xe s
noncomputable def PT (X:Cx) (e:Tc) (t:TT):Prop:=
 ∀(R0:List (Sq×Obj)) (s:Sd) (σ:St) (H:Hp) (Q:Bool->Hp->Prop),Inv X R0 σ H s->t σ H Q->SH (SM X.prog X.w) X.A (Zb e X.env (eval e X.env)) (TP X R0 σ Q) X.xe s
noncomputable def PW (X:Cx) (e:Tc) (t:TT):Prop:=
 ∀(whole:Sem Sa) (R0:List (Sq×Obj)) (s:Sd) (σ:St) (H:Hp) (Q:Bool->Hp->Prop),Inv X R0 σ H s->t σ H Q->SH (SM X.prog X.w) X.A (Zb e X.env whole) (TP X R0 σ Q) X.xe s
theorem PW.pt {X:Cx}{e:Tc}{t:TT}(h:PW X e t):PT X e t:=h _
noncomputable def PA (X:Cx) (es:List Tc) (t:TA):Prop:=
 ∀(pos:Pos) (R0:List (Sq×Obj)) (s:Sd) (σ:St) (H:Hp) (Q:List V->Hp->Prop),Inv X R0 σ H s->t σ H Q->SH (SM X.prog X.w) X.A (spliced (Vd pos (Sv es X.env))) (AP X R0 σ Q) X.xe s
noncomputable def PS (X:Cx) (st:Vu) (t:TS):Prop:=
 ∀(R0:List (Sq×Obj)) (s:Sd) (σ:St) (H:Hp) (D:Ends),Inv X R0 σ H s->t D σ H->SH (SM X.prog X.w) X.A (exec st X.env) (SP X R0 D) X.xe s
noncomputable def kH (X:Cx) (st:List Vu) (t:TS):Prop:=
 ∀(R0:List (Sq×Obj)) (s:Sd) (σ:St) (H:Hp) (D:Ends),Inv X R0 σ H s->t D σ H->SH (SM X.prog X.w) X.A (execs st X.env) (SP X R0 D) X.xe s
theorem cg {α:Type}{t:Sem α}{Q Q':α->Sd->Prop}{M:ab_}{A:Td}{E:Sa->Sd->Prop}{s:Sd}(h:SH M A t Q E s) (hQ:∀a s,Q a s->Q' a s):SH M A t Q' E s:=Tr h hQ λ_ _ x=>x
section
variable {X:Cx}
theorem bin {a b:Tc}{ta tb:TE}(ha:PE X a ta) (hb:PE X b tb){R0:List (Sq×Obj)}{s:Sd}{σ:St}{H:Hp}{R:V->V->Hp->Prop}(I:Inv X R0 σ H s) (h:ta σ H λx H1=>tb σ H1 λy H2=>R x y H2)
  {α:Type}{Q:α->Sd->Prop}{f:Sa->Sa->Sem α}
  (hf:∀v u s2 x y H2,Inv X R0 σ H2 s2->RelV x v->RelV y u->R x y H2->SH (SM X.prog X.w) X.A (f v u) Q X.xe s2):
  SH (SM X.prog X.w) X.A (eval a X.env) (λv s₁=>SH (SM X.prog X.w) X.A (eval b X.env) (λu s₂=>SH (SM X.prog X.w) X.A (f v u) Q X.xe s₂) X.xe s₁) X.xe s:=by
 refine cg (ha R0 s σ H _ I h) λv s1 ⟨x,H1,I1,r1,q1⟩=>?_
 refine cg (hb R0 s1 σ H1 _ I1 q1) λu s2 ⟨y,H2,I2,r2,q2⟩=>?_
 exact hf v u s2 x y H2 I2 r1 r2 q2
def NI (i:Nat):TE:=λσ H Q=>∃v,σ[i]?=some (some v)/\Q v H
def tC (v:V):TE:=λ_ H Q=>Q v H
theorem qz {i:Nat}{x:Str}{pos:Pos}(hN:X.N[i]?=some x) (hv:vW X.env.scope x) (hd:(x == ("__debug__":Str))=false:=by decide) (hcd:(x == ("__classdict__":Str))=false:=by decide):PE X (.Name x pos) (NI i):=by
 intro R0 s σ H Q I h
 obtain ⟨v,e,h⟩:=h
 obtain ⟨m,hn,hl⟩:=I.loc
 obtain ⟨u,r,l⟩:=hl i x v hN e hv
 have fin:EP X R0 σ Q u s:=⟨v,H,I,r,h⟩
 rcases l with ⟨hk,hm⟩ | ⟨hk,c,hc,hcell⟩
 ·exact abj (Y4 I.ok.kind hk hn hm fin) hd
 ·rcases hk with hk | hk
  ·exact abj (Zh I.ok.kind hk hc hcell fin) hd
  ·exact abj (wpAny_loadName_free I.ok.kind hk hc hcell fin hcd) hd
theorem M0 {i j pos}:PE X (.Constant (.int i) j pos) (tC (.int i)):=λ_ _ _ H _ I h=>wpAny_Constant_int ⟨.int i,H,I.tok _,⟨_,rfl⟩,h⟩
theorem Oo {b j pos}:PE X (.Constant (.bool b) j pos) (tC (.bl b)):=λ_ _ _ H _ I h=>Constant_bool ⟨.bl b,H,I,rfl,h⟩
theorem M3 {j pos}:PE X (.Constant .none j pos) (tC .non):=λ_ _ _ H _ I h=>Constant_none ⟨.non,H,I,rfl,h⟩
theorem M6 {x j pos}:PE X (.Constant (.str x) j pos) (tC (.str x)):=λ_ _ _ H _ I h=>Calls.Constant_str ⟨.str x,H,I.tok _,⟨_,rfl⟩,h⟩
def Gl (X:Cx) (x:Str):Prop:=X.env.kindOf x=some .globalImplicit
theorem BF {E:Sa->Sd->Prop}{R0:List (Sq×Obj)}{s:Sd}{σ:St}{H:Hp}{x:Str}{u:Sa}{pos:Pos}{Q:Sa->Sd->Prop}(I:Inv X R0 σ H s) (hg:Gl X x) (hm:X.mg x=some u) (h:Q u s)
  (hd:(x == ("__debug__":Str))=false:=by decide):SH (SM X.prog X.w) X.A (eval (.Name x pos) X.env) Q E s:=
 Xm I.ok.kind hg (Calls.loadGlobal_global (by rw [I.ok.glob];exact I.mod.glob.keeps I.bk) hm h) hd
theorem uq {E:Sa->Sd->Prop}{R0:List (Sq×Obj)}{s:Sd}{σ:St}{H:Hp}{x:Str}{u:Sa}{pos:Pos}{Q:Sa->Sd->Prop}(I:Inv X R0 σ H s) (hg:Gl X x) (hm:X.mg x=none) (hv:Tv x=some u) (h:Q u s)
  (hn:x≠"__name__":=by decide) (hd:(x == ("__debug__":Str))=false:=by decide):SH (SM X.prog X.w) X.A (eval (.Name x pos) X.env) Q E s:=by
 obtain ⟨mb,h1,h2⟩:=I.mod.blt
 exact Xm I.ok.kind hg (Calls.loadGlobal_builtin (by rw [I.ok.glob];exact I.mod.glob.keeps I.bk) hm (by rw [I.ok.blt];exact h1.keeps I.bk) ((h2 x hn).trans hv) h) hd
theorem BQ {x:Str}{v:V}{u:Sa}{pos:Pos}(hg:Gl X x) (hm:X.mg x=some u) (r:RelV v u) (hd:(x == ("__debug__":Str))=false:=by decide):PE X (.Name x pos) (tC v):=
 λ_ _ _ H _ I h=>BF I hg hm ⟨v,H,I,r,h⟩ hd
theorem KP {x:Str}{v:V}{u:Sa}{pos:Pos}(hg:Gl X x) (hm:X.mg x=none) (hv:Tv x=some u) (r:RelV v u) (hn:x≠"__name__":=by decide) (hd:(x == ("__debug__":Str))=false:=by decide):PE X (.Name x pos) (tC v):=
 λ_ _ _ H _ I h=>uq I hg hm hv ⟨v,H,I,r,h⟩ hn hd
variable {a b:Tc}{ta tb:TE}{pos:Pos}
noncomputable def PC (X:Cx) (op:abV) (a b:Tc) (t:TE):Prop:=
 ∀(R0:List (Sq×Obj)) (s:Sd) (σ:St) (H:Hp) (Q:VK),Inv X R0 σ H s->t σ H Q->
  SH (SM X.prog X.w) X.A (eval a X.env) (λv s₁=>SH (SM X.prog X.w) X.A (eval b X.env) (λu s₂=>SH (SM X.prog X.w) X.A (Uw op v u) (EP X R0 σ Q) X.xe s₂) X.xe s₁) X.xe s
theorem Hu (b:Tc){op:abV}(h:op≠.In) (h2:op≠.NotIn):T_ op b=false:=by
 have e1:(op == acY)=false:=by cases op <;> first | rfl | exact absurd rfl h
 have e2:(op == acd)=false:=by cases op <;> first | rfl | exact absurd rfl h2
 cases b <;> simp [T_,e1,e2]
def tB (t:TE):TT:=λσ H Q=>t σ H λx H1=>∃c,x=.bl c/\Q c H1
theorem Qh {op:abV}{t:TE}(h:PC X op a b t) (h1:T_ op b=false:=by first | exact Hu _ (by decide) (by decide) | rfl):PT X (.Compare a [op] [b] pos) (tB t):=by
 intro R0 s σ H Q I hw
 refine YC (cg (h R0 s σ H _ I hw) λv s1 h1=>cg h1 λu s2 h2=>cg h2 λc s3 ⟨x,H1,I1,r1,q1⟩=>?_) h1
 obtain ⟨d,rfl,q⟩:=q1
 cases r1
 exact TX ⟨H1,I1,q⟩
theorem Ng {e:Tc}{t:TE}(h:PE X e t) (he:∀whole,Zb e X.env whole=(do let v <-whole;VB e.pos;holding [v] (truthy v)):=by intro _;rfl):PT X e (tB t):=by
 intro R0 s σ H Q I hw
 refine isTrue_plain (cg (h R0 s σ H _ I hw) λv s1 ⟨x,H1,I1,r1,q1⟩=>?_) (he _)
 obtain ⟨d,rfl,q⟩:=q1
 cases r1
 exact TX ⟨H1,I1,q⟩
variable {tA tB':TT}{rest:List Tc}
def PN (t u:TT):TT:=λσ H Q=>t σ H λc H1=>if c=true then u σ H1 Q else Q false H1
def Qm (t u:TT):TT:=λσ H Q=>t σ H λc H1=>if c=true then Q true H1 else u σ H1 Q
def PY (t:TT):TT:=λσ H Q=>t σ H λc H1=>Q (!c) H1
theorem K1 (ha:PT X a tA):PW X (.BoolOp .And [a] pos) tA:=by
 intro wh R0 s σ H Q I h
 refine isTrue_and (cg (ha R0 s σ H Q I h) λc s1 e=>?_)
 cases c with
 | true=>exact isTrue_and_nil e
 | false=>exact e
theorem Ni (ha:PT X a tA):PW X (.BoolOp .Or [a] pos) tA:=by
 intro wh R0 s σ H Q I h
 refine isTrue_or (cg (ha R0 s σ H Q I h) λc s1 e=>?_)
 cases c with
 | false=>exact isTrue_or_nil e
 | true=>exact e
theorem Nh (ha:PT X a tA) (hb:PW X (.BoolOp .And (b::rest) pos) tB'):PW X (.BoolOp .And (a::b::rest) pos) (PN tA tB'):=by
 intro wh R0 s σ H Q I h
 refine isTrue_and (cg (ha R0 s σ H _ I h) λc s1 ⟨H1,I1,q1⟩=>?_)
 cases c with
 | true=>exact hb wh R0 s1 σ H1 Q I1 q1
 | false=>exact ⟨H1,I1,q1⟩
theorem Ox (ha:PT X a tA) (hb:PW X (.BoolOp .Or (b::rest) pos) tB'):PW X (.BoolOp .Or (a::b::rest) pos) (Qm tA tB'):=by
 intro wh R0 s σ H Q I h
 refine isTrue_or (cg (ha R0 s σ H _ I h) λc s1 ⟨H1,I1,q1⟩=>?_)
 cases c with
 | true=>exact ⟨H1,I1,q1⟩
 | false=>exact hb wh R0 s1 σ H1 Q I1 q1
theorem Nf (ha:PT X a tA):PT X (.UnaryOp .Not a pos) (PY tA):=by
 intro R0 s σ H Q I h
 exact isTrue_not (ha R0 s σ H (λc H1=>Q (!c) H1) I h)
def OG (ta tb:TE):TE:=λσ H Q=>ta σ H λx H1=>∃c,x=.bl c/\if c=true then tb σ H1 Q else Q (.bl false) H1
def PZ (ta tb:TE):TE:=λσ H Q=>ta σ H λx H1=>∃c,x=.bl c/\if c=true then Q (.bl true) H1 else tb σ H1 Q
def OL (ta:TE):TE:=λσ H Q=>ta σ H λx H1=>∃c,x=.bl c/\Q (.bl (!c)) H1
theorem M5 {op}{t:TE}(h:PE X a t):PE X (.BoolOp op [a] pos) t:=λR0 s σ H Q I hw=>BoolOp_one (h R0 s σ H Q I hw)
theorem MZ (ha:PE X a ta) (hb:PE X (.BoolOp .And (b::rest) pos) tb):PE X (.BoolOp .And (a::b::rest) pos) (OG ta tb):=by
 intro R0 s σ H Q I h
 refine BoolOp_and (cg (ha R0 s σ H _ I h) λv s1 ⟨x,H1,I1,r1,q1⟩=>?_)
 obtain ⟨c,rfl,q1⟩:=q1
 cases r1
 refine TX ?_
 cases c with
 | true=>exact hb R0 s1 σ H1 Q I1 q1
 | false=>exact ⟨.bl false,H1,I1,rfl,q1⟩
theorem Ou (ha:PE X a ta) (hb:PE X (.BoolOp .Or (b::rest) pos) tb):PE X (.BoolOp .Or (a::b::rest) pos) (PZ ta tb):=by
 intro R0 s σ H Q I h
 refine BoolOp_or (cg (ha R0 s σ H _ I h) λv s1 ⟨x,H1,I1,r1,q1⟩=>?_)
 obtain ⟨c,rfl,q1⟩:=q1
 cases r1
 refine TX ?_
 cases c with
 | false=>exact hb R0 s1 σ H1 Q I1 q1
 | true=>exact ⟨.bl true,H1,I1,rfl,q1⟩
theorem M4 (ha:PE X a ta):PE X (.UnaryOp .Not a pos) (OL ta):=by
 intro R0 s σ H Q I h
 refine UnaryOp_ (cg (ha R0 s σ H _ I h) λv s1 ⟨x,H1,I1,r1,q1⟩=>?_)
 obtain ⟨c,rfl,q1⟩:=q1
 cases r1
 exact not_of (TX ⟨.bl (!c),H1,I1,rfl,q1⟩)
end
noncomputable def dD (K:R_) (H:Hp) (a:Sq) (xs:List V):Prop:=
 Rd H a (.lst xs)\/
  ∃(o:Obj) (R1:Array Sa) (n:Nat),K.lookup a=some o/\o.cls=.type "list"/\o.dict=none/\o.data=.seq R1 n/\R1.size<=sizeLine/\Vals xs R1.toList
noncomputable def dQ (K:R_) (H:Hp) (a:Sq) (xs:List V):Prop:=
 Rd H a (.tup xs)\/
  ∃(o:Obj) (R1:Array Sa) (n:Nat),K.lookup a=some o/\o.cls=.type "tuple"/\o.data=.seq R1 n/\R1.size<=sizeLine/\Vals xs R1.toList
noncomputable def Pe:Sa->Option V
 | .none=>some .non
 | .bool b=>some (.bl b)
 | .int i _=>some (.int i)
 | .str x _=>some (.str x)
 | .bytes b _=>some (.byt b)
 | .float b _=>some (.flt b)
 | .ref a=>some (.ref a)
 | .type n=>some (.ty n)
 | _=>none
theorem RelV.abs {x:V}{u:Sa}(r:RelV x u):Pe u=some x:=by
 cases x with
 | non=>cases r;rfl
 | bl _=>cases r;rfl
 | int _=>obtain ⟨t,rfl⟩:=r;rfl
 | str _=>obtain ⟨t,rfl⟩:=r;rfl
 | byt _=>obtain ⟨t,rfl⟩:=r;rfl
 | flt _=>obtain ⟨t,rfl⟩:=r;rfl
 | ref _=>cases r;rfl
 | ty _=>cases r;rfl
theorem RelV.inj {x y:V}{u:Sa}(r:RelV x u) (q:RelV y u):x=y:=TF (r.abs.symm.trans q.abs)
theorem Vals.inj:∀{xs ys:List V}{us:List Sa},Vals xs us->Vals ys us->xs=ys
 | _,_,_,.nil,.nil=>rfl
 | _,_,_,.cons r t,.cons r' t'=>by rw [r.inj r',Vals.inj t t']
section
variable {X:Cx}{R0:List (Sq×Obj)}{σ:St}{H:Hp}{s:Sd}{a:Sq}{xs ys:List V}
theorem dD.of {K:R_}(h:H a=some (.lst xs)):dD K H a xs:=.inl (.inl h)
theorem Inv.list (I:Inv X R0 σ H s) (h:dD X.K H a xs):∃R1:List Sa,Vals xs R1/\PlainL s.heap a R1.toArray/\xs.length<=sizeLine:=by
 rcases h with h | ⟨o,R1,n,hk,hc,hd,hs,hz,r⟩
 ·obtain ⟨z,R1,n,r,e⟩:=h.ok I.hok
  exact ⟨R1,r,⟨_,n,e,rfl,rfl,rfl⟩,z⟩
 ·refine ⟨R1.toList,r,⟨o,n,I.kIn a o hk,hc,hd,by simpa using hs⟩,?_⟩
  have e:=r.length
  simp only [Ss] at e
  omega
theorem Inv.tuple (I:Inv X R0 σ H s) (h:dQ X.K H a xs):∃R1:List Sa,Vals xs R1/\ab9 s.heap a R1.toArray/\xs.length<=sizeLine:=by
 rcases h with h | ⟨o,R1,n,hk,hc,hs,hz,r⟩
 ·obtain ⟨z,R1,r,p⟩:=h.ok I.hok
  exact ⟨R1,r,p,z⟩
 ·refine ⟨R1.toList,r,⟨o,I.kIn a o hk,hc,n,by simpa using hs⟩,?_⟩
  have e:=r.length
  simp only [Ss] at e
  omega
theorem Inv.list_inj (I:Inv X R0 σ H s) (h:dD X.K H a xs) (h':dD X.K H a ys):xs=ys:=by
 obtain ⟨R1,r,⟨o,n,e,_,_,d⟩,_⟩:=I.list h
 obtain ⟨its',r',⟨o',n',e',_,_,d'⟩,_⟩:=I.list h'
 rw [e] at e';cases e'
 rw [d] at d'
 injection d' with d1 _
 have:R1=its':=by simpa using congrArg YD d1
 subst this
 exact r.inj r'
theorem Inv.tuple_inj (I:Inv X R0 σ H s) (h:dQ X.K H a xs) (h':dQ X.K H a ys):xs=ys:=by
 obtain ⟨R1,r,⟨o,e,_,n,d⟩,_⟩:=I.tuple h
 obtain ⟨its',r',⟨o',e',_,n',d'⟩,_⟩:=I.tuple h'
 rw [e] at e';cases e'
 rw [d] at d'
 injection d' with d1 _
 have:R1=its':=by simpa using congrArg YD d1
 subst this
 exact r.inj r'
end
abbrev Cx.wish (X:Cx) (E:Sa->Sd->Prop):Cx:={X with xe:=E}
abbrev Cx.nox (X:Cx):Cx:=X.wish λ_ _=>False
theorem Cx.Ok.wish {X:Cx}(ok:X.Ok) (E:Sa->Sd->Prop):(X.wish E).Ok:=
 ⟨ok.mod,ok.kind,ok.glob,ok.blt,ok.above,ok.inj,ok.has,ok.cab,ok.hd,ok.frames,ok.stk,ok.exf,ok.bs,ok.bsz,ok.noex,ok.exfs,ok.funs,ok.frf⟩
theorem Cx.Ok.unwish {X:Cx}{E:Sa->Sd->Prop}(ok:(X.wish E).Ok):X.Ok:=
 ⟨ok.mod,ok.kind,ok.glob,ok.blt,ok.above,ok.inj,ok.has,ok.cab,ok.hd,ok.frames,ok.stk,ok.exf,ok.bs,ok.bsz,ok.noex,ok.exfs,ok.funs,ok.frf⟩
section
variable {X:Cx}{R0:List (Sq×Obj)}{σ:St}{H:Hp}{s:Sd}{E:Sa->Sd->Prop}
theorem Inv.wish (I:Inv X R0 σ H s) (E:Sa->Sd->Prop):Inv (X.wish E) R0 σ H s:=⟨I.ok.wish E,I.os,I.bare,I.base,I.loc,I.cell,I.free,I.freeC,I.pin,I.hok,I.len⟩
theorem Inv.unwish (I:Inv (X.wish E) R0 σ H s):Inv X R0 σ H s:=⟨I.ok.unwish,I.os,I.bare,I.base,I.loc,I.cell,I.free,I.freeC,I.pin,I.hok,I.len⟩
theorem SP.unwish {D:Ends}{f:Flow}{s':Sd}(h:SP (X.wish E) R0 D f s'):SP X R0 D f s':=by
 cases f with
 | next=>obtain ⟨σ',H',I,q⟩:=h;exact ⟨σ',H',I.unwish,q⟩
 | brk=>obtain ⟨σ',H',I,q⟩:=h;exact ⟨σ',H',I.unwish,q⟩
 | cont=>obtain ⟨σ',H',I,q⟩:=h;exact ⟨σ',H',I.unwish,q⟩
 | ret u=>obtain ⟨v,σ',H',I,r,q⟩:=h;exact ⟨v,σ',H',I.unwish,r,q⟩
theorem kH.nox {st:List Vu}{t:TS}(h:kH X.nox st t):kH X st t:=λR0 s σ H D I hw=>
 Tr (h R0 s σ H D (I.wish _) hw) (λ_ _ q=>q.unwish) λ_ _ z=>VT z
end
section
variable {X:Cx}{st:Vu}{rest:List Vu}{t u:TS}{e:Tc}{te:TE}{pos:Pos}
def OJ:TS:=λD σ H=>D.nx σ H
def P1 (t u:TS):TS:=λD σ H=>t {D with nx:=u D} σ H
theorem KY:kH X [] OJ:=λ_ _ σ H _ I h=>W_ ⟨σ,H,I,h⟩
theorem HR (h1:PS X st t) (h2:kH X rest u):kH X (st::rest) (P1 t u):=by
 intro R0 s σ H D I h
 refine aak (cg (h1 R0 s σ H {D with nx:=u D} I h) λf s1 q=>?_)
 cases f with
 | next=>
  obtain ⟨σ',H',I',q⟩:=q
  exact h2 R0 s1 σ' H' D I' q
 | ret v=>exact q
 | brk=>exact q
 | cont=>exact q
theorem KZ (h1:PS X st t):kH X [st] t:=by
 intro R0 s σ H D I h
 refine aak (cg (h1 R0 s σ H D I h) λf s1 q=>?_)
 cases f with
 | next=>exact W_ q
 | ret v=>exact q
 | brk=>exact q
 | cont=>exact q
theorem Inv.quiet {R0:List (Sq×Obj)}{σ:St}{H:Hp}{s:Sd}(I:Inv X R0 σ H s):interactive X.env=false:=by simp [interactive,I.ok.kind]
def OI (te:TE):TS:=λD σ H=>te σ H λ_ H1=>D.nx σ H1
theorem vF (he:PE X e te) (hs:VO e none pos.line X.env=pure false:=by rfl):PS X (.Expr e pos) (OI te):=by
 intro R0 s σ H D I h
 exact wpAny_Expr_any (cg (he R0 s σ H _ I h) λv s1 ⟨x,H1,I1,r1,q1⟩=>⟨σ,H1,I1,q1⟩) I.quiet hs
def P0 (te:TE):TS:=λD σ H=>te σ H D.rt
theorem Nc (he:PE X e te):PS X (.Return (some e) pos) (P0 te):=by
 intro R0 s σ H D I h
 exact wpAny_Return_some (cg (he R0 s σ H _ I h) λv s1 ⟨x,H1,I1,r1,q1⟩=>⟨x,σ,H1,I1,r1,q1⟩)
def PV (c:TT) (t u:TS):TS:=λD σ H=>c σ H λb H1=>if b=true then t D σ H1 else u D σ H1
theorem Ow {c:Tc}{a b:List Vu}{tc:TT}(hc:PT X c tc) (ha:kH X a t) (hb:kH X b u):PS X (.If c a b pos) (PV tc t u):=by
 intro R0 s σ H D I h
 refine wpAny_If (cg (hc R0 s σ H _ I h) λd s1 ⟨H1,I1,q1⟩=>?_)
 cases d with
 | true=>exact ha R0 s1 σ H1 D I1 q1
 | false=>exact hb R0 s1 σ H1 D I1 q1
end
abbrev TG:=V->St->Hp->(St->Hp->Prop)->Prop
abbrev tR:=List V->St->Hp->(St->Hp->Prop)->Prop
noncomputable def PG (X:Cx) (R3:Tc) (t:TG):Prop:=
 ∀(R0:List (Sq×Obj)) (s:Sd) (σ:St) (H:Hp) (v:V) (u:Sa) (Q:St->Hp->Prop),Inv X R0 σ H s->RelV v u->t v σ H Q->
  SH (SM X.prog X.w) X.A (assign R3 X.env u) (λ_ s'=>∃σ' H',Inv X R0 σ' H' s'/\Q σ' H') X.xe s
noncomputable def yC (X:Cx) (ts:List Tc) (t:tR):Prop:=
 ∀(R0:List (Sq×Obj)) (s:Sd) (σ:St) (H:Hp) (vs:List V) (us:List Sa) (Q:St->Hp->Prop),Inv X R0 σ H s->Vals vs us->t vs σ H Q->
  SH (SM X.prog X.w) X.A (assignInOrder ((Vv ts X.env).map (·.2)) us) (λ_ s'=>∃σ' H',Inv X R0 σ' H' s'/\Q σ' H') X.xe s
abbrev Cr:=V->V->V->Hp->(Hp->Prop)->Prop
noncomputable def LJ (X:Cx) (t:Cr):Prop:=
 ∀(R0:List (Sq×Obj)) (s:Sd) (σ:St) (H:Hp) (o i v:V) (ov iv u:Sa) (Q:Hp->Prop),Inv X R0 σ H s->RelV o ov->RelV i iv->RelV v u->t o i v H Q->
  SH (SM X.prog X.w) X.A (setItem ov iv u) (λ_ s'=>∃H',Inv X R0 σ H' s'/\Q H') X.xe s
abbrev LL:=V->V->Hp->VK->Prop
noncomputable def Qa (X:Cx) (op:Zt) (t:LL):Prop:=
 ∀(R0:List (Sq×Obj)) (s:Sd) (σ:St) (H:Hp) (x y:V) (v u:Sa) (Q:VK),Inv X R0 σ H s->RelV x v->RelV y u->t x y H Q->
  SH (SM X.prog X.w) X.A (YE op v u) (EP X R0 σ Q) X.xe s
section
variable {X:Cx}{pos:Pos}
def IY (i:Nat):TG:=λv σ H Q=>Q (σ.set i (some v)) H
theorem KR {i:Nat}{x:Str}(hN:X.N.Nodup) (hi:X.N[i]?=some x) (hx:Loc X.env.scope x) (hf:X.fn x=true\/X.env.scope.names.lookup x=some .local:=by first | exact .inl rfl | exact .inr rfl | assumption):PG X (.Name x pos) (IY i):=by
 intro R0 s σ H v u Q I r h
 exact wpAny_assign_Name (s_ I hN hi hx r (λs' I'=>⟨_,H,I',h⟩) hf)
def ay:tR:=λvs σ H Q=>vs=[]/\Q σ H
def ao (t:TG) (u:tR):tR:=λvs σ H Q=>∃v r,vs=v::r/\t v σ H λσ' H'=>u r σ' H' Q
theorem KS:yC X [] ay:=by
 intro R0 s σ H vs us Q I r h
 obtain ⟨e,h⟩:=h
 subst e
 cases r
 exact assignInOrder_nil ⟨σ,H,I,h⟩
theorem HM {e:Tc}{es:List Tc}{t:TG}{u:tR}(h1:PG X e t) (h2:yC X es u)
  (hs:(Vv (e::es) X.env).map (·.2)=assign e X.env::(Vv es X.env).map (·.2):=by rfl):yC X (e::es) (ao t u):=by
 intro R0 s σ H vs us Q I r h
 obtain ⟨v,vr,e1,h⟩:=h
 subst e1
 cases r with
 | cons r rr=>
  rw [hs]
  refine assignInOrder_cons (cg (h1 R0 s σ H _ _ _ I r h) λ_ s1 ⟨σ1,H1,I1,q1⟩=>?_)
  exact h2 R0 s1 σ1 H1 _ _ Q I1 rr q1
def bL (K:R_) (n:Nat) (t:tR):TG:=λv σ H Q=>∃a xs,v=.ref a/\dQ K H a xs/\xs.length=n/\t xs σ H Q
theorem M9 {es:List Tc}{k:Nat}{t:tR}{n:Nat}(hc:X.calm=true) (h:yC X es t)
  (hn:(Vv es X.env).length=n:=by rfl) (hst:(Vv es X.env).findIdx? (·.1)=none:=by rfl):PG X (.Tuple es k pos) (bL X.K n t):=by
 intro R0 s σ H v u Q I r hw
 obtain ⟨a,xs,e1,hq,hl,hw⟩:=hw
 subst e1
 cases r
 obtain ⟨R1,rv,ht,hz⟩:=I.tuple hq
 refine assign_Tuple_tuple (I.ok.hd hc) ht (by simp [hn,<-hl,rv.length]) hst λh' hx=>?_
 have I1:Inv X R0 σ H {s with heap:=h'}:=I.kept (t':=s.toks) λb o e=>hx b o (S4 (SA e)) e
 exact h R0 _ σ H xs _ Q I1 (by simpa using rv) hw
def Pj (to ti:TE) (t:Cr):TG:=λv σ H Q=>to σ H λo H1=>ti σ H1 λi H2=>t o i v H2 λH3=>Q σ H3
theorem M8 {o i:Tc}{to ti:TE}{t:Cr}(ho:PE X o to) (hi:PE X i ti) (hs:LJ X t)
  (ha:∀v,assign (.Subscript o i pos) X.env v=(do
   let ov <-holding [v] (eval o X.env)
   let iv <-holding [v,ov] (eval i X.env)
   VB pos
   holding [v,ov,iv] (setItem ov iv v)
   release [v,ov,iv] []):=by intro _;rfl):PG X (.Subscript o i pos) (Pj to ti t):=by
 intro R0 s σ H v u Q I r h
 rw [ha]
 refine R9 (Te (cg (ho R0 s σ H _ I h) λov s1 ⟨x,H1,I1,r1,q1⟩=>?_))
 refine R9 (Te (cg (hi R0 s1 σ H1 _ I1 q1) λiv s2 ⟨y,H2,I2,r2,q2⟩=>?_))
 refine R9 (UC (R9 (Te (cg (hs R0 s2 σ H2 x y v ov iv u _ I2 r1 r2 r q2) λ_ s3 ⟨H3,I3,q3⟩=>?_))))
 exact wpAny_release ⟨σ,H3,I3,q3⟩
def Iu (te:TE) (g:TG):TS:=λD σ H=>te σ H λx H1=>g x σ H1 D.nx
theorem Fz {tg e:Tc}{te:TE}{g:TG}(he:PE X e te) (hg:PG X tg g) (hs:Wm [tg] e pos.line X.env=pure false:=by rfl) (hw:Zu [tg] e X.env=pure none:=by rfl)
  (h1:(Vv [tg] X.env).map (·.2)=[assign tg X.env]:=by rfl):PS X (.Assign [tg] e pos) (Iu te g):=by
 intro R0 s σ H D I h
 refine wpAny_Assign_stores (cg (he R0 s σ H _ I h) λv s1 ⟨x,H1,I1,r1,q1⟩=>?_) hs hw
 rw [h1]
 exact cg (hg R0 s1 σ H1 x v _ I1 r1 q1) λ_ s2 q=>q
theorem Nd {i:Nat}{x:Str}{e:Tc}{te:TE}{pos':Pos}(hN:X.N.Nodup) (hi:X.N[i]?=some x) (hx:Loc X.env.scope x) (he:PE X e te) (hs:VO e (some (.Name x pos')) pos.line X.env=pure false:=by rfl) (hf:X.fn x=true\/X.env.scope.names.lookup x=some .local:=by first | exact .inl rfl | exact .inr rfl | assumption):
  PS X (.Assign [.Name x pos'] e pos) (Iu te (IY i)):=by
 intro R0 s σ H D I h
 refine wpAny_Assign_Name (cg (he R0 s σ H _ I h) λv s1 ⟨y,H1,I1,r1,q1⟩=>?_) hs
 exact s_ I1 hN hi hx r1 (λs2 I2=>⟨_,H1,I2,q1⟩) hf
def PR (i:Nat) (te:TE) (ti:LL):TS:=λD σ H=>∃x,σ[i]?=some (some x)/\te σ H λy H1=>ti x y H1 λz H2=>D.nx (σ.set i (some z)) H2
theorem Na {i:Nat}{x:Str}{e:Tc}{te:TE}{op:Zt}{ti:LL}{pos':Pos}(hN:X.N.Nodup) (hi:X.N[i]?=some x) (hx:Loc X.env.scope x) (he:PE X e te) (ho:Qa X op ti) (hf:X.fn x=true\/X.env.scope.names.lookup x=some .local:=by first | exact .inl rfl | exact .inr rfl | assumption):
  PS X (.AugAssign (.Name x pos') op e pos) (PR i te ti):=by
 intro R0 s σ H D I h
 obtain ⟨v,e1,h⟩:=h
 obtain ⟨m,hn,hl⟩:=I.loc
 have vis:vW X.env.scope x:=by rcases hx with k | k;exact .inl k;exact .inr (.inl k)
 obtain ⟨u,r,l⟩:=hl i x v hi e1 vis
 refine wpAny_AugAssign_Name ?_
 have go:SH (SM X.prog X.w) X.A (eval e X.env) (λw s₂=>SH (SM X.prog X.w) X.A (YE op u w) (λr s₃=>SH (SM X.prog X.w) X.A (abU X.env x r) (λ_=>SP X R0 D .next) X.xe s₃) X.xe s₂) X.xe s:=by
  refine cg (he R0 s σ H _ I h) λw s1 ⟨y,H1,I1,r1,q1⟩=>?_
  refine cg (ho R0 s1 σ H1 v y u w _ I1 r r1 q1) λz s2 ⟨zv,H2,I2,r2,q2⟩=>?_
  exact s_ I2 hN hi hx r2 (λs3 I3=>⟨_,H2,I3,q2⟩) hf
 rcases l with ⟨hk,hm⟩ | ⟨hk,c,hc,hcell⟩
 ·exact Y4 I.ok.kind hk hn hm go
 ·rcases hk with hk | hk
  ·exact Zh I.ok.kind hk hc hcell go
  ·rcases hx with k | k
   ·have:X.env.scope.names.lookup x=some .free:=hk
    rw [k] at this;cases this
   ·have:X.env.scope.names.lookup x=some .free:=hk
    rw [k] at this;cases this
noncomputable def NJ (c:TT) (tb:TS):TS:=λD σ H=>∃W:Nat->St->Hp->Prop,(∃m,W m σ H)/\∀m σ H,W m σ H->
 c σ H λb H1=>if b=true then ∃N:St->Hp->Prop,(∀σ' H',N σ' H'->∃m',m' < m/\W m' σ' H')/\tb {D with nx:=N,ct:=N,bk:=D.nx} σ H1 else D.nx σ H1
theorem HQ {c:Tc}{body:List Vu}{tc:TT}{tb:TS}(hp:aaw (SM X.prog X.w) X.A X.env X.xe) (hc:PT X c tc) (hb:kH X body tb):PS X (.While c body [] pos) (NJ tc tb):=by
 intro R0 s σ H D I h
 obtain ⟨W,⟨m0,w0⟩,turn⟩:=h
 refine wpAny_While (codeAny_whileLoop (λn s'=>∃σ' H',Inv X R0 σ' H' s'/\W n σ' H') ?_ m0 ⟨σ,H,I,w0⟩)
 rintro n s1 ⟨σ1,H1,I1,w1⟩
 refine Vw hp (cg (hc R0 s1 σ1 H1 _ I1 (turn n σ1 H1 w1)) λb s2 ⟨H2,I2,q2⟩=>?_)
 cases b with
 | true=>
  obtain ⟨N,hN,q2⟩:=q2
  rw [if_pos rfl]
  refine Vw hp (cg (hb R0 s2 σ1 H2 _ I2 q2) λf s3 q3=>?_)
  cases f with
  | next=>
   obtain ⟨σ3,H3,I3,n3⟩:=q3
   obtain ⟨m',hm,w3⟩:=hN σ3 H3 n3
   exact ⟨m',hm,σ3,H3,I3,w3⟩
  | cont=>
   obtain ⟨σ3,H3,I3,n3⟩:=q3
   obtain ⟨m',hm,w3⟩:=hN σ3 H3 n3
   exact ⟨m',hm,σ3,H3,I3,w3⟩
  | brk=>exact q3
  | ret v=>exact q3
 | false=>
  rw [if_neg S_]
  exact W_ ⟨σ1,H2,I2,q2⟩
end
structure It where
 go:Nat->Hp->Prop
 yld:Nat->Hp->V->Hp->Prop
 stop:Nat->Hp->Prop
noncomputable def kB (X:Cx) (R0:List (Sq×Obj)) (H:Hp) (b:Sq):Prop:=
 H b=none/\b≠X.env.locals/\b∉X.fs/\(b∈X.ex\/X.s₀.heap.objs.size<=b)/\(∀x c,X.env.cells.lookup x=some c->c≠b)/\∀p∈X.pn++R0,p.1≠b
theorem Inv.fpOk {X:Cx}{R0:List (Sq×Obj)}{σ:St}{H H':Hp}{s:Sd}{b:Sq}(I:Inv X R0 σ H s) (hb:s.heap.objs.size<=b) (hn:H' b=none):kB X R0 H' b:=by
 refine ⟨hn,Wg (SI I.lt hb),I.nofs hb,.inr (S5 I.sz hb),λx c e z=>?_,λp hp z=>?_⟩
 ·obtain ⟨v,q⟩:=I.cell x c e
  exact absurd (SI q.lt (by rw [z];exact hb)) (UO _)
 ·exact absurd (SI (SA (I.pin p hp).1) (by rw [z];exact hb)) (UO _)
structure Turn (P:Sy) (w:S9) (K:R_) (tg:Tc) (J:It) (fp:List Sq) (it:Sq) (tn:Nat->Ui->Prop):Prop where
 mem:it∈fp
 obj:∀i h,tn i h->∀b∈fp,∃o,h.get? b=some o/\∀v,o.data≠.cell v
 keep:∀i h h',tn i h->(∀b∈fp,∀o,h.get? b=some o->h'.get? b=some o)->tn i h'
 item:∀(X:Cx),X.prog=P->X.w=w->X.K=K->X.calm=true->∀(i:Nat) (R0:List (Sq×Obj)) (s:Sd) (σ:St) (H:Hp) (E:Sa->Sd->Prop),Inv X R0 σ H s->(∀b∈fp,kB X R0 H b)->tn i s.heap->J.go i H->
  SH (SM P w) X.A (WA (.ref it)) (λr s1=>∃u,r=some u/\
   SH (SM P w) X.A (U5 tg (.ref it) u) (λ_ s2=>∃x H',Inv X R0 σ H' s2/\RelV x u/\J.yld i H x H'/\tn (i + 1) s2.heap/\∀b∈fp,H' b=none) E s1) E s
 done:∀(X:Cx),X.prog=P->X.w=w->X.K=K->X.calm=true->∀(i:Nat) (R0:List (Sq×Obj)) (s:Sd) (σ:St) (H:Hp) (E:Sa->Sd->Prop),Inv X R0 σ H s->(∀b∈fp,kB X R0 H b)->tn i s.heap->J.stop i H->
  SH (SM P w) X.A (WA (.ref it)) (λr s1=>r=none/\Inv X R0 σ H s1) E s
 self:∀(A:Td) (i:Nat) (s:Sd) (Q:Sa->Sd->Prop) (E:Sa->Sd->Prop),tn i s.heap->Q (.ref it) s->SH (SM P w) A (XH (.ref it)) Q E s
abbrev TI:=St->Hp->(It->Hp->Prop)->Prop
noncomputable def OW (X:Cx) (R0:List (Sq×Obj)) (σ:St) (tg:Tc) (R:It->Hp->Prop) (itv:Sa) (s2:Sd):Prop:=
 ∃(it:Sq) (fp:List Sq) (tn:Nat->Ui->Prop) (J:It) (H':Hp),itv=.ref it/\Inv X R0 σ H' s2/\Turn X.prog X.w X.K tg J fp it tn/\tn 0 s2.heap/\(∀b∈fp,kB X R0 H' b)/\R J H'
noncomputable def PI (X:Cx) (tg R4:Tc) (wi:TI):Prop:=
 ∀(R0:List (Sq×Obj)) (s:Sd) (σ:St) (H:Hp) (R:It->Hp->Prop),Inv X R0 σ H s->wi σ H R->
  SH (SM X.prog X.w) X.A (eval R4 X.env) (λv s1=>SH (SM X.prog X.w) X.A (XH v) (OW X R0 σ tg R) X.xe s1) X.xe s
theorem yd {M:ab_}{A:Td}{E:Sa->Sd->Prop}{s:Sd}{tg:Tc}{it:Sq}{u:Sa}{o:Obj}{n:String}{vs:Array Sa}{Q:Unit->Sd->Prop}(ho:s.heap.get? it=some o) (hc:o.cls=.type n) (hd:o.data=.fields vs)
  (hn:["enumerate","zip","dict_itemiterator","dict_reverseitemiterator","odict_iterator","itertools.zip_longest","itertools.pairwise"].contains n=false) (hQ:Q () s):SH M A (U5 tg (.ref it) u) Q E s:=by
 unfold U5
 cases tg <;> first
  | exact Sb hQ
  | (cases u <;> first
    | exact Sb hQ
    | (refine R9 (abk ho ?_);rw [hc,hd];show SH M A (if (["enumerate","zip","dict_itemiterator","dict_reverseitemiterator","odict_iterator","itertools.zip_longest","itertools.pairwise"].contains n && vs[0]? == some (abl _))=true then _ else _) Q E s;rw [if_neg (by intro h;rw [hn,Bool.false_and] at h;cases h)];exact Sb hQ))
noncomputable def IC (K:R_) (a:Sq):It:=
 ⟨λi H=>∃xs x,dD K H a xs/\xs[i]?=some x,λi H x H'=>H'=H/\∀xs,dD K H a xs->xs[i]?=some x,λi H=>∃xs,dD K H a xs/\xs.length<=i⟩
noncomputable def IE (K:R_) (a:Sq):It:=
 ⟨λi H=>∃xs x,dQ K H a xs/\xs[i]?=some x,λi H x H'=>H'=H/\∀xs,dQ K H a xs->xs[i]?=some x,λi H=>∃xs,dQ K H a xs/\xs.length<=i⟩
def ID (lo:Int) (n:Nat):It:=⟨λi _=>i < n,λi H x H'=>H'=H/\x=.int (lo + i),λi _=>n<=i⟩
theorem Gh {P:Sy}{w:S9}{K:R_}{tg:Tc}(a it:Sq):Turn P w K tg (IC K a) [it] it (λi h=>h.IsListIter it a i) where
 mem:=by simp
 obj:=λi h st b hb=>by
  have e:b=it:=by simpa using hb
  subst e
  obtain ⟨o,e,c,d⟩:=st
  exact ⟨o,e,λv z=>by rw [d] at z;cases z⟩
 keep:=λi h h' st k=>st.at λo e=>k it (by simp) o e
 item:=by
  intro X hP hw hK hc i R0 s σ H E I hf st hg
  subst hP hw hK
  obtain ⟨xs,x,hq,hx⟩:=hg
  obtain ⟨R1,rv,p,hz⟩:=I.list hq
  obtain ⟨u,hu,ru⟩:=rv.get hx
  obtain ⟨f0,f1,f2,f3,f4,f5⟩:=hf it (by simp)
  refine wpAny_pyNext_list_item st p.isList (x:=u) (by simpa using hu) λh' st' sb=>?_
  have I1:Inv X R0 σ H {s with heap:=h'}:=I.turned (t':=s.toks) (λb o hb e=>(sb.2 b hb).trans e) f0 f1 f3 f4 f5
  obtain ⟨o,e,c,d⟩:=id st'
  exact ⟨u,rfl,yd (s:={s with heap:=h'}) e c d (by decide) ⟨x,H,I1,ru,⟨rfl,λys hy=>by rw [I.list_inj hy hq];exact hx⟩,st',λb hb=>(hf b hb).1⟩⟩
 done:=by
  intro X hP hw hK hc i R0 s σ H E I hf st hg
  subst hP hw hK
  obtain ⟨xs,hq,hx⟩:=hg
  obtain ⟨R1,rv,p,hz⟩:=I.list hq
  obtain ⟨f0,f1,f2,f3,f4,f5⟩:=hf it (by simp)
  have hl:=rv.length
  exact wpAny_pyNext_list_end (I.ok.hd hc) st p.isList (by simp;omega) λh' eb=>⟨rfl,I.turned (t':=s.toks) (λb o hb e=>eb b o hb e) f0 f1 f3 f4 f5⟩
 self:=λ_ _ _ _ _ st h=>wpAny_pyIter_listiter st h
theorem DR {P:Sy}{w:S9}{K:R_}{tg:Tc}(a it:Sq):Turn P w K tg (IE K a) [it] it (λi h=>h.IsTupleIter it a i) where
 mem:=by simp
 obj:=λi h st b hb=>by
  have e:b=it:=by simpa using hb
  subst e
  obtain ⟨o,e,c,d⟩:=st
  exact ⟨o,e,λv z=>by rw [d] at z;cases z⟩
 keep:=λi h h' st k=>st.at λo e=>k it (by simp) o e
 item:=by
  intro X hP hw hK hc i R0 s σ H E I hf st hg
  subst hP hw hK
  obtain ⟨xs,x,hq,hx⟩:=hg
  obtain ⟨R1,rv,p,hz⟩:=I.tuple hq
  obtain ⟨u,hu,ru⟩:=rv.get hx
  obtain ⟨f0,f1,f2,f3,f4,f5⟩:=hf it (by simp)
  refine wpAny_pyNext_tuple_item st (show s.heap.IsTuple a R1.toArray from p) (x:=u) (by simpa using hu) λh' st' sb=>?_
  have I1:Inv X R0 σ H {s with heap:=h'}:=I.turned (t':=s.toks) (λb o hb e=>(sb.2 b hb).trans e) f0 f1 f3 f4 f5
  obtain ⟨o,e,c,d⟩:=id st'
  exact ⟨u,rfl,yd (s:={s with heap:=h'}) e c d (by decide) ⟨x,H,I1,ru,⟨rfl,λys hy=>by rw [I.tuple_inj hy hq];exact hx⟩,st',λb hb=>(hf b hb).1⟩⟩
 done:=by
  intro X hP hw hK hc i R0 s σ H E I hf st hg
  subst hP hw hK
  obtain ⟨xs,hq,hx⟩:=hg
  obtain ⟨R1,rv,p,hz⟩:=I.tuple hq
  obtain ⟨f0,f1,f2,f3,f4,f5⟩:=hf it (by simp)
  have hl:=rv.length
  exact wpAny_pyNext_tuple_end (I.ok.hd hc) st (show s.heap.IsTuple a R1.toArray from p) (by simp;omega) λh' eb=>⟨rfl,I.turned (t':=s.toks) (λb o hb e=>eb b o hb e) f0 f1 f3 f4 f5⟩
 self:=λ_ _ _ _ _ st h=>wpAny_pyIter_tupleiter st h
theorem DQ {P:Sy}{w:S9}{K:R_}{tg:Tc}(it:Sq) (lo:Int) (n:Nat):Turn P w K tg (ID lo n) [it] it (λi h=>IsRangeIter h it (lo + (i:Nat) * 1) ((n:Int) - (i:Nat)) 1) where
 mem:=by simp
 obj:=λi h st b hb=>by
  have e:b=it:=by simpa using hb
  subst e
  exact ⟨_,st,λv z=>by
   have z':Data.fields _=Data.cell v:=z
   cases z'⟩
 keep:=λi h h' st k=>k it (by simp) _ st
 item:=by
  intro X hP hw hK hc i R0 s σ H E I hf st hg
  subst hP hw hK
  obtain ⟨f0,f1,f2,f3,f4,f5⟩:=hf it (by simp)
  have W:=Walks.range (prog:=X.prog) (w:=X.w) (I.ok.hd hc) it lo 1 n
  refine W.item i s _ _ hg st λv h' tk hv st' kk=>?_
  obtain ⟨t,rfl⟩:=hv
  have I1:Inv X R0 σ H {s with heap:=h',toks:=tk}:=I.turned (λb o hb e=>kk b o (by simpa using hb) e) f0 f1 f3 f4 f5
  refine ⟨_,rfl,yd (s:={s with heap:=h',toks:=tk}) (n:="range_iterator") st' rfl rfl (by decide) ⟨.int (lo + i),H,I1,⟨t,?_⟩,⟨rfl,rfl⟩,st',λb hb=>(hf b hb).1⟩⟩
  rw [Int.mul_one]
 done:=by
  intro X hP hw hK hc i R0 s σ H E I hf st hg
  subst hP hw hK
  obtain ⟨f0,f1,f2,f3,f4,f5⟩:=hf it (by simp)
  exact wpAny_pyNext_range_end (I.ok.hd hc) st (by have:n<=i:=hg;omega) λh' eb=>⟨rfl,I.turned (t':=s.toks) (λb o hb e=>eb b o hb e) f0 f1 f3 f4 f5⟩
 self:=λ_ _ _ _ _ st h=>wpAny_pyIter_rangeiter st h
section
variable {X:Cx}{tg:Tc}
theorem Ic {R0:List (Sq×Obj)}{σ:St}{H:Hp}{s:Sd}{R:It->Hp->Prop}{E:Sa->Sd->Prop}{lo hi:Int}{t u v:Tok}{tk:Nat}(I:Inv X R0 σ H s) (h1:-(2 ^ 62)<=lo) (h2:lo < 2 ^ 62) (h3:-(2 ^ 62)<=hi) (h4:hi < 2 ^ 62)
  (q:R (ID lo (hi - lo).toNat) H):SH (SM X.prog X.w) X.A (XH (.ref s.heap.objs.size)) (OW X R0 σ tg R) E {s with heap:=s.heap.push {cls:=.type "range",data:=.fields #[.int lo t,.int hi u,.int 1 v]},toks:=tk}:=by
 refine wpAny_pyIter_range (IsRange.new ..) (small_one h1 h2 h3 h4) ?_
 have I1:Inv X R0 σ H {s with heap:=s.heap.push {cls:=.type "range",data:=.fields #[.int lo t,.int hi u,.int 1 v]},toks:=tk}:=I.kept λb o e=>Sm _ e
 refine ⟨(s.heap.push {cls:=.type "range",data:=.fields #[.int lo t,.int hi u,.int 1 v]}).objs.size,[(s.heap.push {cls:=.type "range",data:=.fields #[.int lo t,.int hi u,.int 1 v]}).objs.size],_,_,H,rfl,
  I1.kept (t':=tk) λb o e=>Sm _ e,DQ _ lo (hi - lo).toNat,?_,λb hb=>?_,q⟩
 ·have e1:lo + ((0:Nat):Int) * 1=lo:=by simp
  have e2:(((hi - lo).toNat:Nat):Int) - ((0:Nat):Int)=Yb lo hi 1:=by rw [abz];split <;> omega
  show IsRangeIter _ _ (lo + ((0:Nat):Int) * 1) ((((hi - lo).toNat:Nat):Int) - ((0:Nat):Int)) 1
  rw [e1,e2]
  exact Sw _ rfl
 ·have e:b=(s.heap.push {cls:=.type "range",data:=.fields #[.int lo t,.int hi u,.int 1 v]}).objs.size:=by simpa using hb
  subst e
  exact I1.fpOk (Sl _) (I1.hok.fresh (Sl _))
def Oc (ta:TA):TI:=λσ H R=>ta σ H λvs H1=>∃j:Int,vs=[.int j]/\-(2 ^ 62)<=j/\j < 2 ^ 62/\R (ID 0 j.toNat) H1
theorem Fv {a:Tc}{ta:TA}{p pos:Pos}(hg:Gl X "range") (hm:X.mg "range"=none) (ha:PA X [a] ta) (hs:Sv [a] X.env=[(false,eval a X.env)]:=by rfl):PI X tg (.Call (.Name "range" p) [a] [] pos) (Oc ta):=by
 intro R0 s σ H R I h
 refine Call_ (uq I hg hm boot_range (Xa (cg (ha pos R0 s σ H _ I h) λus s1 ⟨vs,H1,I1,r1,q1⟩=>?_) hs rfl))
 obtain ⟨j,e,q1,q2,q⟩:=q1
 subst e
 cases r1 with
 | cons r rr=>
  cases rr
  obtain ⟨t,rfl⟩:=r
  exact call_range_1 (Ic I1 (by omega) (by omega) q1 q2 (by simpa using q))
noncomputable def PU (wi:TI) (g:TG) (tb:TS):TS:=λD σ H=>wi σ H λJ H1=>∃W:Nat->Nat->St->Hp->Prop,(∃m,W 0 m σ H1)/\∀i m σ H,W i m σ H->
 (J.stop i H/\D.nx σ H)\/(J.go i H/\∃N:St->Hp->Prop,(∀σ' H',N σ' H'->∃m',m' < m/\W (i + 1) m' σ' H')/\∀x H',J.yld i H x H'->g x σ H' λσ2 H2=>tb {D with nx:=N,ct:=N,bk:=D.nx} σ2 H2)
def qA (fp:List Sq) (h:Ui):List (Sq×Obj):=fp.filterMap λb=>(h.get? b).map λo=>(b,o)
theorem kN {fp:List Sq}{h:Ui}{b:Sq}{o:Obj}(hb:b∈fp) (e:h.get? b=some o):(b,o)∈qA fp h:=Wn.mpr ⟨b,hb,by rw [e];rfl⟩
theorem E4 {fp:List Sq}{h:Ui}{p:Sq×Obj}(hp:p∈qA fp h):p.1∈fp/\h.get? p.1=some p.2:=by
 obtain ⟨b,hb,e⟩:=Wn.mp hp
 cases q:h.get? b with
 | none=>rw [q] at e;cases e
 | some o=>
  rw [q] at e
  have e':(b,o)=p:=TF e
  subst e'
  exact ⟨hb,q⟩
theorem Inv.pinned {R0:List (Sq×Obj)}{σ:St}{H:Hp}{s:Sd}{fp:List Sq}(I:Inv X R0 σ H s) (hf:∀b∈fp,kB X R0 H b) (ho:∀b∈fp,∃o,s.heap.get? b=some o/\∀v,o.data≠.cell v):Inv X (R0++qA fp s.heap) σ H s:=
 I.pins_of λp hp=>(SN.mp hp).elim (λz=>I.pin p (Tj _ z)) λz=>by
  obtain ⟨hb,e⟩:=E4 z
  obtain ⟨f0,f1,f2,_⟩:=hf p.1 hb
  obtain ⟨o,e',d⟩:=ho p.1 hb
  rw [e] at e';cases e'
  exact ⟨e,f0,f1,f2,d⟩
theorem Inv.unpinned {R0 pl:List (Sq×Obj)}{σ:St}{H:Hp}{s:Sd}(I:Inv X (R0++pl) σ H s):Inv X R0 σ H s:=I.pins_of λp hp=>I.pin p (Tj _ (U0 _ hp))
theorem Nb {R4:Tc}{body:List Vu}{wi:TI}{g:TG}{tb:TS}{pos:Pos}(hp:aaw (SM X.prog X.w) X.A X.env X.xe) (hc:X.calm=true) (hi:PI X tg R4 wi) (hg:PG X tg g) (hb:kH X body tb)
  (hs:∀x,Sz R4 X.env x=pure x:=by intro _;rfl):PS X (.For tg R4 body [] pos) (PU wi g tb):=by
 intro R0 s σ H D I h
 refine wpAny_For (cg (hi R0 s σ H _ I h) λv s1 h1=>cg h1 λitv s2 h2=>?_) hs
 obtain ⟨it,fp,tn,J,H2,e,I2,T,st2,f2,W,⟨m0,w0⟩,turn⟩:=h2
 subst e
 have stat:∀{H':Hp},(∀b∈fp,H' b=none)->∀b∈fp,kB X R0 H' b:=λhn b hb=>⟨hn b hb,(f2 b hb).2⟩
 refine codeAny_forLoop_any (λn s'=>∃i σ' H',Inv X R0 σ' H' s'/\tn i s'.heap/\(∀b∈fp,H' b=none)/\W i n σ' H') ?_ m0 ⟨0,σ,H2,I2,st2,λb hb=>(f2 b hb).1,w0⟩
 rintro n s3 ⟨i,σ3,H3,I3,st3,fr3,w3⟩
 rcases turn i n σ3 H3 w3 with ⟨stop,qn⟩ | ⟨go,N,hN,step⟩
 ·refine Vw hp (cg (T.done X rfl rfl rfl hc i R0 s3 σ3 H3 X.xe I3 (stat fr3) st3 stop) λr s4 ⟨hr,I4⟩=>?_)
  subst hr
  exact W_ ⟨σ3,H3,I4,qn⟩
 ·refine Vw hp (cg (T.item X rfl rfl rfl hc i R0 s3 σ3 H3 X.xe I3 (stat fr3) st3 go) λr s4 ⟨u,hr,h4⟩=>?_)
  subst hr
  refine Vw hp (cg h4 λ_ s5 ⟨x,H5,I5,r5,y5,st5,fr5⟩=>?_)
  have I5':=I5.pinned (stat fr5) (T.obj _ _ st5)
  refine Vw hp (cg (hg _ s5 σ3 H5 x u _ I5' r5 (step x H5 y5)) λ_ s6 ⟨σ6,H6,I6,q6⟩=>?_)
  refine Vw hp (cg (hb _ s6 σ6 H6 _ I6 q6) λf s7 q7=>?_)
  have again:∀{σ7:St}{H7:Hp},Inv X (R0++qA fp s5.heap) σ7 H7 s7->N σ7 H7->∃m,m < n/\∃i σ' H',Inv X R0 σ' H' s7/\tn i s7.heap/\(∀b∈fp,H' b=none)/\W i m σ' H':=fun {σ7 H7} I7 n7=>by
   obtain ⟨m',hm,w7⟩:=hN σ7 H7 n7
   refine ⟨m',hm,i + 1,σ7,H7,I7.unpinned,T.keep _ _ _ st5 λb hb o e=>(I7.pin (b,o) (Tj _ (Tj _ (kN hb e)))).1,λb hb=>?_,w7⟩
   obtain ⟨o,e,d⟩:=T.obj _ _ st5 b hb
   exact (I7.pin (b,o) (Tj _ (Tj _ (kN hb e)))).2.1
  cases f with
  | next=>obtain ⟨σ7,H7,I7,n7⟩:=q7;exact again I7 n7
  | cont=>obtain ⟨σ7,H7,I7,n7⟩:=q7;exact again I7 n7
  | brk=>obtain ⟨σ7,H7,I7,q7⟩:=q7;exact ⟨σ7,H7,I7.unpinned,q7⟩
  | ret v=>obtain ⟨x7,σ7,H7,I7,r7,q7⟩:=q7;exact ⟨x7,σ7,H7,I7.unpinned,r7,q7⟩
end
abbrev R2:=V->V->Hp->VK->Prop
noncomputable def dY (X:Cx) (f:Sa->Sa->Sem Sa) (r:R2):Prop:=
 ∀(R0:List (Sq×Obj)) (s:Sd) (σ:St) (H:Hp) (x y:V) (v u:Sa) (Q:VK),Inv X R0 σ H s->RelV x v->RelV y u->r x y H Q->
  SH (SM X.prog X.w) X.A (f v u) (EP X R0 σ Q) X.xe s
noncomputable def LN (X:Cx) (f:Sa->Sem Sa) (r:V->Hp->VK->Prop):Prop:=
 ∀(R0:List (Sq×Obj)) (s:Sd) (σ:St) (H:Hp) (x:V) (v:Sa) (Q:VK),Inv X R0 σ H s->RelV x v->r x H Q->
  SH (SM X.prog X.w) X.A (f v) (EP X R0 σ Q) X.xe s
noncomputable def cP (X:Cx) (f:Sa) (r:List V->Hp->VK->Prop):Prop:=
 ∀(R0:List (Sq×Obj)) (s:Sd) (σ:St) (H:Hp) (xs:List V) (us:List Sa) (Q:VK),Inv X R0 σ H s->Vals xs us->r xs H Q->
  SH (SM X.prog X.w) X.A (call f us) (EP X R0 σ Q) X.xe s
noncomputable def Pc (X:Cx) (r:V->Hp->(Bool->Hp->Prop)->Prop):Prop:=
 ∀(R0:List (Sq×Obj)) (s:Sd) (σ:St) (H:Hp) (x:V) (v:Sa) (Q:Bool->Hp->Prop),Inv X R0 σ H s->RelV x v->r x H Q->
  SH (SM X.prog X.w) X.A (truthy v) (TP X R0 σ Q) X.xe s
def Ga (r:R2) (ta tb:TE):TE:=λσ H Q=>ta σ H λx H1=>tb σ H1 λy H2=>r x y H2 Q
def Qp (r:V->Hp->VK->Prop) (ta:TE):TE:=λσ H Q=>ta σ H λx H1=>r x H1 Q
def rI (C:Int->Int->Prop) (g:Int->Int->V):R2:=λx y H Q=>∃i j,x=.int i/\y=.int j/\C i j/\Q (g i j) H
def qC (g:Int->Int->V):R2:=λx y H Q=>∃i j,x=.int i/\y=.int j/\Q (g i j) H
def rU (g:Int->V):V->Hp->VK->Prop:=λx H Q=>∃i,x=.int i/\Q (g i) H
section
variable {X:Cx}{a b c:Tc}{ta tb tc:TE}{pos:Pos}
theorem GC (ha:PE X a ta) (hb:PE X b tb){R0:List (Sq×Obj)}{s:Sd}{σ:St}{H:Hp}{R:V->V->Hp->Prop}(I:Inv X R0 σ H s)
  (h:ta σ H λx H1=>tb σ H1 λy H2=>R x y H2){Q:Sa->Sd->Prop}{f:Sa->Sa->Sem Sa}
  (hf:∀v u s2 x y H2,Inv X R0 σ H2 s2->RelV x v->RelV y u->R x y H2->SH (SM X.prog X.w) X.A (f v u) Q X.xe s2):
  SH (SM X.prog X.w) X.A (eval a X.env) (λv s₁=>SH (SM X.prog X.w) X.A (eval b X.env) (λu s₂=>SH (SM X.prog X.w) X.A (f v u) Q X.xe s₂) X.xe s₁) X.xe s:=by
 refine cg (ha R0 s σ H _ I h) λv s1 ⟨x,H1,I1,r1,q1⟩=>?_
 refine cg (hb R0 s1 σ H1 _ I1 q1) λu s2 ⟨y,H2,I2,r2,q2⟩=>?_
 exact hf v u s2 x y H2 I2 r1 r2 q2
theorem Ot {op:Zt}{r:R2}(ho:dY X (VC op) r) (ha:PE X a ta) (hb:PE X b tb):PE X (.BinOp a op b pos) (Ga r ta tb):=by
 intro R0 s σ H Q I h
 exact wpAny_BinOp (GC ha hb I h λv u s2 x y H2 I2 rx ry q=>ho R0 s2 σ H2 x y v u Q I2 rx ry q)
theorem Ov {op:UnaryOp}{r:V->Hp->VK->Prop}(ho:LN X (unaryOp op) r) (ha:PE X a ta):PE X (.UnaryOp op a pos) (Qp r ta):=by
 intro R0 s σ H Q I h
 exact UnaryOp_ (cg (ha R0 s σ H _ I h) λv s1 ⟨x,H1,I1,r1,q1⟩=>ho R0 s1 σ H1 x v Q I1 r1 q1)
theorem Pf {op:Zt}{r:R2}(ho:dY X (YE op) r){R0:List (Sq×Obj)}{s:Sd}{σ:St}{H:Hp}{x y:V}{v u:Sa}{Q:VK}(I:Inv X R0 σ H s)
  (rx:RelV x v) (ry:RelV y u) (q:r x y H Q):SH (SM X.prog X.w) X.A (YE op v u) (EP X R0 σ Q) X.xe s:=ho R0 s σ H x y v u Q I rx ry q
theorem E6 {f:Sa->Sa->Sem Sa}{C:Int->Int->Prop}{g:Int->Int->Int}
  (rule:∀(i j:Int) (t u:Tok) (s:Sd) (Q:Sa->Sd->Prop) (E:Sa->Sd->Prop),C i j->Q (.int (g i j) s.toks) {s with toks:=s.toks + 1}->SH (SM X.prog X.w) X.A (f (.int i t) (.int j u)) Q E s):
  dY X f (rI C λi j=>.int (g i j)):=by
 intro R0 s σ H x y v u Q I rx ry h
 obtain ⟨i,j,rfl,rfl,hc,q⟩:=h
 obtain ⟨t,rfl⟩:=rx
 obtain ⟨t',rfl⟩:=ry
 exact rule i j t t' s _ _ hc ⟨.int (g i j),H,I.tok _,⟨_,rfl⟩,q⟩
theorem Dk {f:Sa->Sa->Sem Sa}{g:Int->Int->Int}
  (rule:∀(i j:Int) (t u:Tok) (s:Sd) (Q:Sa->Sd->Prop) (E:Sa->Sd->Prop),Q (.int (g i j) s.toks) {s with toks:=s.toks + 1}->SH (SM X.prog X.w) X.A (f (.int i t) (.int j u)) Q E s):
  dY X f (qC λi j=>.int (g i j)):=by
 intro R0 s σ H x y v u Q I rx ry h
 obtain ⟨i,j,rfl,rfl,q⟩:=h
 obtain ⟨t,rfl⟩:=rx
 obtain ⟨t',rfl⟩:=ry
 exact rule i j t t' s _ _ ⟨.int (g i j),H,I.tok _,⟨_,rfl⟩,q⟩
theorem MN {f:Sa->Sa->Sem Sa}{g:Int->Int->Bool}
  (rule:∀(i j:Int) (t u:Tok) (s:Sd) (Q:Sa->Sd->Prop) (E:Sa->Sd->Prop),Q (.bool (g i j)) s->SH (SM X.prog X.w) X.A (f (.int i t) (.int j u)) Q E s):
  dY X f (qC λi j=>.bl (g i j)):=by
 intro R0 s σ H x y v u Q I rx ry h
 obtain ⟨i,j,rfl,rfl,q⟩:=h
 obtain ⟨t,rfl⟩:=rx
 obtain ⟨t',rfl⟩:=ry
 exact rule i j t t' s _ _ ⟨.bl (g i j),H,I,rfl,q⟩
def O3 (i j:Int):Prop:=0 < j/\j < 1073741824
def O4 (i j:Int):Prop:=0<=j/\j<=1000000/\i.natAbs < 2 ^ 64
def Ca (i j:Int):Prop:=(-(2 ^ 64) < i/\i < 2 ^ 64)\/(-(2 ^ 64) < j/\j < 2 ^ 64)
theorem Ca.ok {i j:Int}(h:Ca i j):IntMulOk i j:=by
 rcases h with ⟨h1,h2⟩ | ⟨h1,h2⟩
 ·exact .of_left (abA h1 h2)
 ·exact .of_right (abA h1 h2)
theorem DS (k:Nat):(0:Int)<=2 ^ k:=by
 rw [two_pow_cast]
 exact Int.natCast_nonneg _
theorem E7:dY X (VC .Add) (qC λi j=>.int (i + j)):=Dk λ_ _ _ _ _ _ _ q=>add_int q
theorem MV:dY X (VC .Sub) (qC λi j=>.int (i - j)):=Dk λ_ _ _ _ _ _ _ q=>sub_int q
theorem MR:dY X (VC .Mult) (rI Ca λi j=>.int (i * j)):=E6 λ_ _ _ _ _ _ _ hc q=>mul_int q hc.ok
theorem Kz:dY X (VC .FloorDiv) (rI O3 λi j=>.int (i / j)):=E6 λi j _ _ _ _ _ hc q=>by
 have h1:(0:Int) < j:=hc.1
 have h2:j < 1073741824:=hc.2
 exact floordiv_int (by omega) (by rw [Xn i (by omega)];exact q) (.inl (PyProof.noPylong_small (by omega)))
theorem MQ:dY X (VC .Mod) (rI (λ_ j=>0 < j) λi j=>.int (i % j)):=E6 λi j _ _ _ _ _ hc q=>by
 have h1:(0:Int) < j:=hc
 exact mod_int' (by omega) (by rw [Int.fmod_eq_emod_of_nonneg i (by omega)];exact q)
theorem MT:dY X (VC .Pow) (rI O4 λi j=>.int (i ^ j.toNat)):=E6 λ_ _ _ _ _ _ _ hc q=>pow_int_small hc.1 hc.2.1 hc.2.2 q
theorem MU:dY X (VC .RShift) (rI (λ_ j=>0<=j) λi j=>.int (i / 2 ^ j.toNat)):=E6 λi j _ _ _ _ _ hc q=>
 rshift_int hc (by rw [Xn i (DS _)];exact q)
theorem MO:dY X (VC .BitAnd) (qC λi j=>.int (Xw i j)):=Dk λ_ _ _ _ _ _ _ q=>and_int q
theorem J_:dY X (YE .Add) (qC λi j=>.int (i + j)):=Dk λ_ _ _ _ _ _ _ q=>iadd_int q
theorem B7 {f:Sa->Sem Sa}{g:Int->Int}
  (rule:∀(i:Int) (t:Tok) (s:Sd) (Q:Sa->Sd->Prop) (E:Sa->Sd->Prop),Q (.int (g i) s.toks) {s with toks:=s.toks + 1}->SH (SM X.prog X.w) X.A (f (.int i t)) Q E s):
  LN X f (rU λi=>.int (g i)):=by
 intro R0 s σ H x v Q I rx h
 obtain ⟨i,rfl,q⟩:=h
 obtain ⟨t,rfl⟩:=rx
 exact rule i t s _ _ ⟨.int (g i),H,I.tok _,⟨_,rfl⟩,q⟩
theorem NU:LN X (unaryOp .USub) (rU λi=>.int (-i)):=B7 λ_ _ _ _ _ q=>neg_int q
theorem Dl:dY X (Uw .Lt) (qC λi j=>.bl (decide (i < j))):=MN λ_ _ _ _ _ _ _ q=>lt_int q
theorem yg:dY X (Uw .Gt) (qC λi j=>.bl (decide (j < i))):=MN λ_ _ _ _ _ _ _ q=>gt_int q
theorem dY.or {f:Sa->Sa->Sem Sa}{r r':R2}(h:dY X f r) (h':dY X f r'):dY X f (λx y H Q=>r x y H Q\/r' x y H Q):=by
 intro R0 s σ H x y v u Q I rx ry q
 rcases q with q | q
 ·exact h R0 s σ H x y v u Q I rx ry q
 ·exact h' R0 s σ H x y v u Q I rx ry q
theorem zJ (b:Tc){op:abV}(h:op≠.In:=by decide) (h2:op≠.NotIn:=by decide):T_ op b=false:=by
 have e1:(op == acY)=false:=by cases op <;> first | rfl | exact absurd rfl h
 have e2:(op == acd)=false:=by cases op <;> first | rfl | exact absurd rfl h2
 cases b <;> simp [T_,e1,e2]
theorem KQ {op:abV}{r:R2}(ho:dY X (Uw op) r) (ha:PE X a ta) (hb:PE X b tb) (hm:T_ op b=false):PE X (.Compare a [op] [b] pos) (Ga r ta tb):=by
 intro R0 s σ H Q I h
 exact wpAny_Compare1 (GC ha hb I h λv u s2 x y H2 I2 rx ry q=>ho R0 s2 σ H2 x y v u Q I2 rx ry q) hm
def ON (t:TE):TT:=λσ H Q=>t σ H λx H'=>∃k,x=.bl k/\Q k H'
theorem K0 {op:abV}{r:R2}(ho:dY X (Uw op) r) (ha:PE X a ta) (hb:PE X b tb) (hm:T_ op b=false):PT X (.Compare a [op] [b] pos) (ON (Ga r ta tb)):=by
 intro R0 s σ H Q I h
 refine YC (cg (ha R0 s σ H _ I h) λv s1 ⟨x,H1,I1,r1,q1⟩=>cg (hb R0 s1 σ H1 _ I1 q1) λu s2 ⟨y,H2,I2,r2,q2⟩=>
  cg (ho R0 s2 σ H2 x y v u _ I2 r1 r2 q2) λc s3 ⟨z,H3,I3,r3,k,e,q3⟩=>?_) hm
 subst e
 cases r3
 exact TX ⟨H3,I3,q3⟩
noncomputable def Gz (K:R_) (x:V) (H:Hp) (k:Bool):Prop:=
 match x with
 | .non=>k=false
 | .bl b=>k=b
 | .int i=>k=(i != 0)
 | .str y=>y.length<=sizeLine/\k=((y.length:Int) != 0)
 | .byt y=>y.size<=sizeLine/\k=((y.size:Int) != 0)
 | .ref p=>(∃xs,dD K H p xs/\k=!xs.isEmpty)\/(∃xs,dQ K H p xs/\k=!xs.isEmpty)\/∃R7,H p=some (.dK R7)/\k=!R7.isEmpty
 | _=>False
theorem CS {κ:Type}{R7:List (κ×V)}{vs:List (κ×Sa)}(r:KV R7 vs):(!vs.isEmpty)=!R7.isEmpty:=by
 cases r <;> rfl
theorem uo {xs:List V}{R1:List Sa}(r:Vals xs R1):(!R1.toArray.isEmpty)=!xs.isEmpty:=by
 cases r <;> simp
theorem nR:(sizeLine:Nat) < 2 ^ 63:=by rw [Uc];decide
theorem NL:Pc X (λx H Q=>∃k,Gz X.K x H k/\Q k H):=by
 intro R0 s σ H x v Q I rx h
 obtain ⟨k,e,q⟩:=h
 have hl:=nR
 have hs:sizeLine=16777216:=Uc
 cases x with
 | non=>
  cases rx
  have e':k=false:=e
  subst e'
  exact truthy_none ⟨H,I,q⟩
 | bl b=>
  cases rx
  have e':k=b:=e
  subst e'
  exact TX ⟨H,I,q⟩
 | int i=>
  obtain ⟨t,rfl⟩:=rx
  have e':k=(i != 0):=e
  subst e'
  exact PySem.P.truthy_int ⟨H,I,q⟩
 | str y=>
  obtain ⟨t,rfl⟩:=rx
  obtain ⟨hy,e'⟩:y.length<=sizeLine/\k=((y.length:Int) != 0):=e
  subst e'
  exact PySem.P.truthy_str (by omega) ⟨H,I.tok _,q⟩
 | byt y=>
  obtain ⟨t,rfl⟩:=rx
  obtain ⟨hy,e'⟩:y.size<=sizeLine/\k=((y.size:Int) != 0):=e
  subst e'
  exact W.truthy_bytes (by omega) ⟨H,I.tok _,q⟩
 | ref p=>
  cases rx
  have e':(∃xs,dD X.K H p xs/\k=!xs.isEmpty)\/(∃xs,dQ X.K H p xs/\k=!xs.isEmpty)\/∃R7,H p=some (.dK R7)/\k=!R7.isEmpty:=e
  rcases e' with ⟨xs,hx,e'⟩ | ⟨xs,hx,e'⟩ | ⟨R7,hx,e'⟩
  ·subst e'
   obtain ⟨R1,r,pl,hz⟩:=I.list hx
   have hlen:=r.length
   exact wpAny_truthy_list pl.isList (by simp only [Su];omega) ⟨H,I.tok _,by rw [uo r];exact q⟩
  ·subst e'
   obtain ⟨R1,r,pl,hz⟩:=I.tuple hx
   have hlen:=r.length
   exact truthy_tuple pl (by simp only [Su];omega) ⟨H,I.tok _,by rw [uo r];exact q⟩
  ·subst e'
   obtain ⟨hz,hS,vs,r,m⟩:R7.length<=sizeLine/\(p == VJ)=false/\∃vs,KV R7 vs/\s.heap.DictOf (vC X.prog X.w) p vs:=I.hok p _ hx
   have hlen:R7.length=vs.length:=aby r
   exact wpAny_truthy_dict hS m (by omega) ⟨H,I.tok _,by rw [CS r];exact q⟩
 | _=>exact (show False from e).elim
theorem HU (ha:PE X a ta) (he:∀whole,Zb a X.env whole=(do let v <-whole;VB a.pos;holding [v] (truthy v))):
  PT X a (λσ H Q=>ta σ H λx H'=>∃k,Gz X.K x H' k/\Q k H'):=by
 intro R0 s σ H Q I h
 exact isTrue_plain (cg (ha R0 s σ H _ I h) λv s1 ⟨x,H1,I1,r1,q1⟩=>NL R0 s1 σ H1 x v Q I1 r1 q1) (he _)
theorem ur:dY X (VC .Add) (λx y H Q=>∃i j,x=.str i/\y=.str j/\i.length + j.length<=sizeLine/\Q (.str (i++j)) H):=by
 intro R0 s σ H x y v u Q I rx ry h
 obtain ⟨i,j,rfl,rfl,hz,q⟩:=h
 obtain ⟨t,rfl⟩:=rx
 obtain ⟨t',rfl⟩:=ry
 exact add_str (λt' tk=>⟨.str (i++j),H,I.tok _,⟨_,rfl⟩,q⟩) hz
theorem vals1 {x:V}{us:List Sa}(r:Vals [x] us):∃u,us=[u]/\RelV x u:=by
 cases r with
 | cons r1 r2=>cases r2;exact ⟨_,rfl,r1⟩
theorem vals2 {x y:V}{us:List Sa}(r:Vals [x,y] us):∃u w',us=[u,w']/\RelV x u/\RelV y w':=by
 cases r with
 | cons r1 r2=>
  cases r2 with
  | cons r3 r4=>cases r4;exact ⟨_,_,rfl,r1,r3⟩
end
structure eF (k:Nat) (A:Td):Prop where
 hd:A.handled=none
 dp:A.depth + 3 * k + 5 < aa1
 un:A.units + 16 * k + 200 < Us
theorem eF.mono {j k:Nat}{A:Td}(r:eF k A) (h:j<=k):eF j A:=⟨r.hd,by have:=r.dp;omega,by have:=r.un;omega⟩
theorem eF.deeper {k:Nat}{A:Td}(r:eF (k + 1) A) (env:Env):eF k (A.deeper env):=
 ⟨r.hd,by have:=r.dp;show A.depth + 1 + 3 * k + 5 < _;omega,by have:=r.un;show A.units + 3 + 16 * k + 200 < _;omega⟩
theorem eF.depth {k:Nat}{A:Td}(r:eF k A):A.depth < aa1:=by have:=r.dp;omega
theorem eF.units {k:Nat}{A:Td}(r:eF k A):A.units + 64 < Us:=by have:=r.un;omega
def DK:TA:=λ_ H Q=>Q [] H
def OH (ta:TE) (tr:TA):TA:=λσ H Q=>ta σ H λx H1=>tr σ H1 λxs H2=>Q (x::xs) H2
section
variable {X:Cx}{e:Tc}{es:List Tc}{te:TE}{t:TA}{pos:Pos}
theorem kq:PA X [] DK:=λ_ _ _ _ H Q I h=>Calls.spliced_nil ⟨[],H,I,.nil,h⟩
theorem gT (ha:PE X e te) (hr:PA X es t) (hs:Sv (e::es) X.env=(false,eval e X.env)::Sv es X.env:=by rfl):PA X (e::es) (OH te t):=by
 intro pos R0 s σ H Q I h
 rw [hs]
 show SH _ _ (spliced ((false,eval e X.env)::Vd pos (Sv es X.env))) _ _ s
 refine Calls.spliced_cons (cg (ha R0 s σ H _ I h) λu s1 ⟨x,H1,I1,r1,q1⟩=>?_)
 exact cg (hr pos R0 s1 σ H1 _ I1 q1) λus s2 ⟨xs,H2,I2,r2,q2⟩=>⟨x::xs,H2,I2,.cons r1 r2,q2⟩
def P4 (t:TA):TE:=λσ H Q=>t σ H λxs H1=>xs.length<=sizeLine/\∀p,H1 p=none->Q (.ref p) (upd H1 p (.tup xs))
def PX (t:TA):TE:=λσ H Q=>t σ H λxs H1=>xs.length<=sizeLine/\∀p,H1 p=none->Q (.ref p) (upd H1 p (.lst xs))
theorem M7 {x1}(h:PA X es t):PE X (.Tuple es x1 pos) (P4 t):=by
 intro R0 s σ H Q I hq
 refine wpAny_Tuple_spliced (cg (h pos R0 s σ H _ I hq) λus s1 ⟨xs,H1,I1,r,z,q⟩=>⟨by rw [<-r.length];exact z,?_⟩)
 have hf:H1 s1.heap.objs.size=none:=I1.hok.fresh (Sl _)
 refine ⟨.ref s1.heap.objs.size,upd H1 s1.heap.objs.size (.tup xs),I1.laid (t':=s1.toks) (λb u e=>Sm _ e) (Sl _) ?_,rfl,q _ hf⟩
 exact ⟨z,us,r,⟨_,Sw _ rfl,rfl,_,rfl⟩⟩
theorem M1 (h:PA X es t):PE X (.List es pos) (PX t):=by
 intro R0 s σ H Q I hq
 refine wpAny_List_spliced (cg (h pos R0 s σ H _ I hq) λus s1 ⟨xs,H1,I1,r,z,q⟩=>⟨by rw [<-r.length];exact z,?_⟩)
 have hf:H1 s1.heap.objs.size=none:=I1.hok.fresh (Sl _)
 refine ⟨.ref s1.heap.objs.size,upd H1 s1.heap.objs.size (.lst xs),I1.laid (t':=s1.toks) (λb u e=>Sm _ e) (Sl _) ?_,rfl,q _ hf⟩
 exact ⟨z,us,0,r,Sw _ rfl⟩
end
abbrev Sp:=List V->Hp->VK->XK->Prop
abbrev pR:=List Env->Hp->Sd->XK->Sa->Sd->Prop
structure Ce (P:Sy) (w:S9) (K:R_) (mg:Str->Option Sa) (base:Ui) (A:Td) (outer:List Env) (s:Sd) (H:Hp):Prop where
 frames:A.frames=some outer
 mod:Mod K mg base
 bs:∀b o,base.get? b=some o->s.heap.get? b=some o/\H b=none
 bsz:base.objs.size<=s.heap.objs.size
 funs:s.heap.FunFrames base outer
 frf:∀b∈frs outer,H b=none
 hok:gx P w H s.heap
 bare:X_ s.gens
noncomputable def CE (outer:List Env) (P:Sy) (w:S9) (H:Hp) (s:Sd) (Q:VK) (u:Sa) (s':Sd):Prop:=
 ∃v H',s'.os=s.os/\X_ s'.gens/\Un (frs outer) [] H H' s.heap s'.heap/\gx P w H' s'.heap/\RelV v u/\Q v H'
noncomputable def CR (CX:pR) (outer:List Env) (P:Sy) (w:S9) (H:Hp) (s:Sd) (Q:VK) (E:XK) (r:aax) (s':Sd):Prop:=
 match r with
 | .ok (.ret u)=>CE outer P w H s Q u s'
 | .ok _=>False
 | .error e=>CX outer H s E e s'
structure gp (P:Sy) (w:S9) (K:R_) (mg:Str->Option Sa) (base:Ui) (CX:pR) (k:Nat) (f:Sq) (fd:SY) (ps:List Str) (sp:Sp):Prop where
 len:∀vs H Q E,sp vs H Q E->vs.length=ps.length
 run:∀(A:Td) (outer:List Env) (s:Sd) (H:Hp) (args:Args) (us:List Sa) (vs:List V) (Q:VK) (E:XK),eF k A->Ce P w K mg base A outer s H->aay s fd args (ps.zip us)->Vals vs us->sp vs H Q E->
  UX (SM P w) A (.call (.ref f) args) (CR CX outer P w H s Q E) s
section
variable {X:Cx}{R0:List (Sq×Obj)}{σ:St}{H:Hp}{s s':Sd}
theorem Inv.env0 (I:Inv X R0 σ H s):Ce X.prog X.w X.K X.mg X.base X.A X.stack s H:=
 ⟨I.ok.frames,I.ok.mod,I.bs,S5 I.ok.bsz I.sz,I.stack,I.stkFree,I.hok,I.bare⟩
theorem Inv.after {Q:VK}{u:Sa}(I:Inv X R0 σ H s) (h:CE X.stack X.prog X.w H s Q u s'):EP X R0 σ Q u s':=by
 obtain ⟨v,H',os,bare,un,hok,r,q⟩:=h
 obtain ⟨hh,g,d,t,os'⟩:=s'
 obtain rfl:os'=s.os:=os
 exact ⟨v,H',I.call (h':=hh) (g':=g) (d':=d) (t':=t) (ch:=[]) un hok bare (λb z=>absurd z (by simp)),r,q⟩
end
def Jq (sp:Sp) (dvs:List V) (E:XK) (t:TA):TE:=λσ H Q=>t σ H λvs H1=>sp (vs++dvs) H1 Q E
noncomputable def Binds (K:R_) (fd:SY) (ps:List Str) (ds:List Sa):Prop:=
 ∀(s:Sd) (us:List Sa),K.In s.heap->(us++ds).length=ps.length->aay s fd ⟨us,[]⟩ (ps.zip (us++ds))
theorem Binds.all {K:R_}{fd:SY}{ps:List Str}(h:∀us:List Sa,us.length=ps.length->Zv fd ⟨us,[]⟩=pure (ps.zip us)):Binds K fd ps []:=λs us _ hl=>by
 rw [UR] at hl ⊢
 exact .of_eq (h us hl)
def Passes (CX:pR) (X:Cx) (E:XK):Prop:=∀(R0:List (Sq×Obj)) (σ:St) (H:Hp) (s:Sd) (e:Sa) (s':Sd),Inv X R0 σ H s->CX X.stack H s E e s'->X.xe e s'
section
variable {X:Cx}{CX:pR}{k:Nat}{f C:Sq}{fd:SY}{ps:List Str}{sp:Sp}{dvs:List V}{ds:List Sa}{E:XK}{x m:Str}{p pos apos:Pos}{e o:Tc}{es:List Tc}{ta:TE}{t:TA}
theorem FP {R0:List (Sq×Obj)}{σ:St}{H:Hp}{s:Sd}{Q:VK}{us:List Sa}{vs:List V}(F:gp X.prog X.w X.K X.mg X.base CX k f fd ps sp) (hr:eF k X.A) (hb:Binds X.K fd ps ds) (hd:Vals dvs ds) (hx:Passes CX X E)
  (I:Inv X R0 σ H s) (r:Vals vs us) (h:sp (vs++dvs) H Q E):SH (SM X.prog X.w) X.A (call (.ref f) us) (EP X R0 σ Q) X.xe s:=by
 have r2:Vals (vs++dvs) (us++ds):=r.append hd
 have hl:(us++ds).length=ps.length:=by rw [<-r2.length];exact F.len _ _ _ _ h
 refine ZU (VA (F.run X.A X.stack s H ⟨us,[]⟩ (us++ds) (vs++dvs) Q E hr I.env0 (hb s us I.kIn hl) r2 h) λr s' hq=>?_)
 cases r with
 | error e=>exact hx R0 σ H s e s' I hq
 | ok fl=>
  cases fl with
  | ret u=>exact I.after hq
  | next=>exact VT hq
  | brk=>exact VT hq
  | cont=>exact VT hq
theorem vE (F:gp X.prog X.w X.K X.mg X.base CX k f fd ps sp) (hr:eF k X.A) (hg:Gl X x) (hm:X.mg x=some (.ref f)) (hk:Ug X.K (.ref f)=true) (hb:Binds X.K fd ps ds) (hd:Vals dvs ds) (hx:Passes CX X E)
  (ha:PA X (e::es) t) (hdb:(x == ("__debug__":Str))=false:=by decide) (he:Sv (e::es) X.env=(false,eval e X.env)::Sv es X.env:=by rfl) (hpl:(Vd pos (Sv es X.env)).any (·.1)=false:=by rfl):
  PE X (.Call (.Name x p) (e::es) [] pos) (Jq sp dvs E t):=by
 intro R0 s σ H Q I h
 refine Wo (BF I hg hm ?_ hdb)
 refine Zw (h₀:=X.base) I.ok.mod.kin hk (cg (ha pos R0 s σ H _ I h) λus s1 ⟨vs,H1,I1,r,q⟩=>⟨I1.kIn,?_⟩) he hpl
 exact FP F hr hb hd hx I1 r q
end
structure bg (N P:List Str) (sc:Vc):Prop where
 kind:sc.kind=.function
 co:sc.isCoroutine=false
 gen:sc.isGenerator=false
 nd:N.Nodup
 pre:N.take P.length=P
 par:∀x∈P,sc.names.lookup x=some .local\/sc.names.lookup x=some .cell
 nofree:∀y∈sc.names,y.2≠.free
theorem v7 {kindOf:Str->Option UP}{x:Str}:∀{binds:List (Str×Sa)}{m:Str->Option Sa},(∀v,(x,v)∉binds)->ace kindOf binds m x=m x
 | [],_,_=>rfl
 | (n,v)::r,m,h=>by
  unfold ace
  rw [v7 λw hw=>h w (Sg _ hw)]
  split
  ·have:x≠n:=by rintro rfl;exact h v Si
   simp [this]
  ·rfl
theorem vZ {kindOf:Str->Option UP}{x:Str}:∀{binds:List (Str×Sa)}{m:Str->Option Sa},(∀v,(x,v)∉binds)->acf kindOf binds m x=m x
 | [],_,_=>rfl
 | (n,v)::r,m,h=>by
  unfold acf
  rw [vZ λw hw=>h w (Sg _ hw)]
  split
  ·rfl
  ·have:x≠n:=by rintro rfl;exact h v Si
   simp [this]
theorem v5 {kindOf:Str->Option UP}{x:Str}{v:Sa}:∀{P:List Str}{vs:List Sa}{i:Nat}{m:Str->Option Sa},P.Nodup->P[i]?=some x->vs[i]?=some v->kindOf x=some .local->
  ace kindOf (P.zip vs) m x=some v
 | [],_,_,_,_,h,_,_=>by simp at h
 | _::_,[],_,_,_,_,h,_=>by simp at h
 | p::P,w::vs,0,m,nd,h1,h2,hk=>by
  simp at h1 h2;subst h1;subst h2
  show ace kindOf ((p,w)::P.zip vs) m p=_
  unfold ace
  rw [v7 λv hv=>(Ud.mp nd).1 (YF hv).1,if_pos hk]
  simp
 | p::P,w::vs,i + 1,m,nd,h1,h2,hk=>by
  show ace kindOf ((p,w)::P.zip vs) m x=_
  unfold ace
  exact v5 (i:=i) (Ud.mp nd).2 (by simpa using h1) (by simpa using h2) hk
theorem vY {kindOf:Str->Option UP}{x:Str}{v:Sa}:∀{P:List Str}{vs:List Sa}{i:Nat}{m:Str->Option Sa},P.Nodup->P[i]?=some x->vs[i]?=some v->kindOf x≠some .local->
  acf kindOf (P.zip vs) m x=some v
 | [],_,_,_,_,h,_,_=>by simp at h
 | _::_,[],_,_,_,_,h,_=>by simp at h
 | p::P,w::vs,0,m,nd,h1,h2,hk=>by
  simp at h1 h2;subst h1;subst h2
  show acf kindOf ((p,w)::P.zip vs) m p=_
  unfold acf
  rw [vZ λv hv=>(Ud.mp nd).1 (YF hv).1,if_neg hk]
  simp
 | p::P,w::vs,i + 1,m,nd,h1,h2,hk=>by
  show acf kindOf ((p,w)::P.zip vs) m x=_
  unfold acf
  exact vY (i:=i) (Ud.mp nd).2 (by simpa using h1) (by simpa using h2) hk
def start (N:List Str) (vs:List V):St:=vs.map some++Th (N.length - vs.length) none
noncomputable def qa (CX:pR) (P:Sy) (w:S9) (K:R_) (mg:Str->Option Sa) (base:Ui) (N:List Str) (R5:Str) (RZ:Vc) (f:Sq) (cd:Sa) (A:Td) (outer:List Env) (s:Sd) (H:Hp) (E:XK):Cx where
 prog:=P
 w:=w
 K:=K
 mg:=mg
 base:=base
 A:=A.deeper (XI R5 RZ s.heap.objs.size f cd)
 N:=N
 s₀:=s
 H₀:=H
 env:=XI R5 RZ s.heap.objs.size f cd
 outer:=outer
 stack:=XI R5 RZ s.heap.objs.size f cd::outer
 ex:=[]
 calm:=true
 fn:=λ_=>true
 pn:=[]
 xe:=λe s'=>SH (SM P w) (A.deeper (XI R5 RZ s.heap.objs.size f cd)) (leaving (XI R5 RZ s.heap.objs.size f cd) e) (λ_ s''=>CX outer H s E e s'') (λe' s''=>CX outer H s E e' s'') s'
theorem yV {sc:Vc}{n:Nat}{x:Str}(h:sc.names.lookup x=some .cell):∃c,(Tu n sc.names []).lookup x=some c:=by
 have q:=Yv sc.names n [] (.inl h)
 exact Ub.mp q
theorem ER {CX:pR}{P:Sy}{w:S9}{K:R_}{mg:Str->Option Sa}{base:Ui}{N ps:List Str}{R5:Str}{RZ:Vc}{f:Sq}{cd:Sa}{A:Td}{outer:List Env}{s s1:Sd}{H:Hp}{E:XK}{us:List Sa}{vs:List V}
  (S:bg N ps RZ) (hd:A.handled=none) (e0:Ce P w K mg base A outer s H) (hl:vs.length=ps.length) (r:Vals vs us)
  (x:InCallC s s.heap.objs.size (ace (XI R5 RZ s.heap.objs.size f cd).kindOf (ps.zip us) λ_=>none) (Tu (s.heap.objs.size + 1) RZ.names []) (acf (XI R5 RZ s.heap.objs.size f cd).kindOf (ps.zip us) λ_=>none) s1):
  Inv (qa CX P w K mg base N R5 RZ f cd A outer s H E) [] (start N vs) H s1:=by
 have hpl:ps.length<=N.length:=by have:=congrArg Yc S.pre;rw [UI] at this;omega
 obtain ⟨h1,tk,rfl,hk⟩:=x.done
 have noA:∀b:Sq,b∉(qa CX P w K mg base N R5 RZ f cd A outer s H E).ex:=λb z=>absurd (show b∈([]:List Sq) from z) (by simp)
 refine ⟨⟨e0.mod,S.kind,rfl,rfl,Sl _,λy z c h1 h2=>?_,λy hy=>?_,λy c _ h=>?_,λ_=>hd,Around.frames_deeper e0.frames,.inr ⟨rfl,rfl⟩,λb z=>absurd z (noA b),e0.bs,e0.bsz,λb _ _=>noA b,λb z=>absurd z (noA b),e0.funs,e0.frf⟩,
  rfl,e0.bare,Un.kept hk,⟨_,x.toInCall.ns,λi y v h1 h2 h3=>?_⟩,λy c h=>⟨_,x.cell y c h⟩,e0.hok.fresh (Sl _),λy c h=>?_,λp hp=>absurd (show p∈([]:List (Sq×Obj)) from hp) (by simp),e0.hok.kept hk,?_⟩
 ·exact name_of_addr x.apart (VD h1) (VD h2)
 ·have hy:RZ.names.lookup y=some .cell\/RZ.names.lookup y=some .free:=hy
  rcases hy with hy | hy
  ·exact yV hy
  ·exact absurd rfl (S.nofree _ (VD hy))
 ·exact WR (x.above y c (VD h))
 ·have hi:i < vs.length:=by
   unfold start at h2
   by_cases hi:i < vs.length
   ·exact hi
   ·rw [Uk (by simpa using hi)] at h2
    rw [Wq] at h2
    split at h2 <;> cases h2
  have ha:vs[i]?=some v:=by
   unfold start at h2
   rw [UQ (by simpa using hi),SJ] at h2
   cases e:vs[i]? with
   | none=>rw [e] at h2;cases h2
   | some a=>rw [e] at h2;cases h2;rfl
  obtain ⟨u,hu,rv⟩:=r.get ha
  have hp:ps[i]?=some y:=by
   rw [<-S.pre,List.getElem?_take_of_lt (by omega)];exact h1
  have ndP:ps.Nodup:=by rw [<-S.pre];exact S.nd.sublist (XJ _ _)
  refine ⟨u,rv,?_⟩
  rcases S.par y (T6 hp) with k | k
  ·exact .inl ⟨k,v5 ndP hp hu k⟩
  ·obtain ⟨c,e⟩:=yV (n:=s.heap.objs.size + 1) k
   refine .inr ⟨.inl k,c,e,?_⟩
   have q:=x.cell y c e
   rw [vY ndP hp hu (by show RZ.names.lookup y≠_;rw [k];decide)] at q
   exact q
 ·exact e0.hok.fresh (WR (x.above y c (VD h)))
 ·unfold start
  show _=N.length
  rw [SO,Sh,TR]
  omega
theorem IX {CX:pR}{P:Sy}{w:S9}{K:R_}{mg:Str->Option Sa}{base:Ui}{k:Nat}{f:Sq}{name R5:Str}{params:Arguments}{body:List Vu}{RZ:Vc}{dV kV doc pm cdv ct oc:Sa}{an od:Option Sq}
  {osl:Array (Option Sa)}{N ps:List Str}{sp:Sp}(lk:K.lookup f=some ⟨oc,od,.func (Tw name R5 params body RZ dV kV doc pm an cdv ct),osl⟩) (hcd:Vn K cdv R5=true) (S:bg N ps RZ)
  (len:∀vs H Q E,sp vs H Q E->vs.length=ps.length)
  (hbody:∀(A:Td) (outer:List Env) (s:Sd) (H:Hp) (vs:List V) (Q:VK) (E:XK),eF k (A.deeper (XI R5 RZ s.heap.objs.size f cdv))->sp vs H Q E->
   ∃t,kH (qa CX P w K mg base N R5 RZ f cdv A outer s H E) body t/\t {nx:=λ_ H'=>Q .non H',rt:=Q} (start N vs) H):
  gp P w K mg base CX (k + 1) f (Tw name R5 params body RZ dV kV doc pm an cdv ct) ps sp:=by
 refine ⟨len,λA outer s H args us vs Q E hr e0 hb r QT=>?_⟩
 have hl:=len _ _ _ _ QT
 have KX:K.In s.heap:=e0.mod.kin.keeps λb o e=>(e0.bs b o e).1
 have lim:s.heap.NoLimit:=e0.mod.nolimit.keeps λb o e=>(e0.bs b o e).1
 have hkind:∀y∈ps.zip us,RZ.names.lookup y.1=some .local\/(RZ.names.lookup y.1=some .cell/\((Tu (s.heap.objs.size + 1) RZ.names []).lookup y.1).isSome=true):=λ⟨n,v⟩ hy=>by
  rcases S.par n (YF hy).1 with q | q
  ·exact .inl q
  ·exact .inr ⟨q,Yv _ _ _ (.inl q)⟩
 refine codeAny_call_function hr.depth (KX _ _ lk) rfl S.co S.gen rfl (W.codeRec_of KX hcd) (hb _ _ _ _ ?_)
 refine wpAny_newFunctionEnv_cells S.kind hkind λenv he s1 x=>?_
 subst he
 refine ⟨lim.keeps x.toInCall.keep,codeAny_func ?_⟩
 obtain ⟨t,ht,hq⟩:=hbody A outer s H vs Q E (hr.deeper _) QT
 have I:Inv (qa CX P w K mg base N R5 RZ f cdv A outer s H E) [] (start N vs) H s1:=ER S hr.hd e0 hl r x
 refine Tr (ht [] s1 (start N vs) H _ I hq) (λfl s' hs=>?_) λe s' hs=>hs
 have fin:∀{σ':St}{H':Hp}{v:V}{u:Sa},Inv (qa CX P w K mg base N R5 RZ f cdv A outer s H E) [] σ' H' s'->RelV v u->Q v H'->CE outer P w H s Q u s':=
  fun {σ' H' v u} J rv q=>⟨v,H',J.os,J.bare,J.base,J.hok,rv,q⟩
 cases fl with
 | ret u=>
  obtain ⟨v,σ',H',J,rv,q⟩:=hs
  exact fin J rv q
 | next=>
  obtain ⟨σ',H',J,q⟩:=hs
  exact fin (v:=V.non) (u:=TU) J rfl q
 | brk=>
  obtain ⟨_,_,_,q⟩:=hs
  exact VT q
 | cont=>
  obtain ⟨_,_,_,q⟩:=hs
  exact VT q
section
variable {X:Cx}{x:Str}{p pos:Pos}{e:Tc}{es:List Tc}{t:TA}{id T:String}{r:List V->Hp->VK->Prop}
def O0 (r:List V->Hp->VK->Prop) (t:TA):TE:=λσ H Q=>t σ H λvs H1=>r vs H1 Q
theorem sS (hc:cP X (.builtin id) r) (hg:Gl X x) (hm:X.mg x=none) (hv:Tv x=some (.builtin id)) (ha:PA X (e::es) t) (hn:x≠"__name__":=by decide) (hdb:(x == ("__debug__":Str))=false:=by decide)
  (he:Sv (e::es) X.env=(false,eval e X.env)::Sv es X.env:=by rfl) (hpl:(Vd pos (Sv es X.env)).any (·.1)=false:=by rfl):PE X (.Call (.Name x p) (e::es) [] pos) (O0 r t):=by
 intro R0 s σ H Q I h
 refine Wo (uq I hg hm hv ?_ hn hdb)
 exact aaf (cg (ha pos R0 s σ H _ I h) λus s1 ⟨vs,H1,I1,r1,q1⟩=>hc R0 s1 σ H1 vs us Q I1 r1 q1) he hpl
theorem mQ (hc:cP X (.type T) r) (hg:Gl X x) (hm:X.mg x=none) (hv:Tv x=some (.type T)) (ha:PA X (e::es) t) (hn:x≠"__name__":=by decide) (hdb:(x == ("__debug__":Str))=false:=by decide)
  (he:Sv (e::es) X.env=(false,eval e X.env)::Sv es X.env:=by rfl) (hpl:(Vd pos (Sv es X.env)).any (·.1)=false:=by rfl):PE X (.Call (.Name x p) (e::es) [] pos) (O0 r t):=by
 intro R0 s σ H Q I h
 refine Wo (uq I hg hm hv ?_ hn hdb)
 exact Xa (cg (ha pos R0 s σ H _ I h) λus s1 ⟨vs,H1,I1,r1,q1⟩=>hc R0 s1 σ H1 vs us Q I1 r1 q1) he hpl
end
end L2
namespace HT
open PySem PyProof.Rows
theorem GQ (A:Td) (s:Sd) (a:Int) (t:Tok) (c:Int) (u:Tok):∃e,UT A s (.int a t) (.int c u) e/\(e=true↔a=c):=
 ⟨(a == c),Zx a t c u,by simp⟩
section
open PySem.SeqAt
open PySem.AutoSeq1 (wpAny_loadPart')
open PySem.MeetsSeq PySem.MeetsSeq2 PySem.MeetsSeq3
end
section
variable {prog:Sy}{w:S9}{A:Td}{E:Sa->Sd->Prop}{s:Sd}
theorem JL {t b:Sq}{vs ws:List Sa}{Q:Sa->Sd->Prop}(ht:ab9 s.heap t vs.toArray) (hb:ab9 s.heap b ws.toArray) (hv:vs≠[])
  (h1:ws=[]->Q (.ref t) s) (h2:ws≠[]->Q (.ref s.heap.objs.size) {s with heap:=s.heap.push {cls:=.type "tuple",data:=.seq (vs++ws).toArray}})
  (hsz:vs.length + ws.length<=sizeLine):SH (SM prog w) A (VC .Add (.ref t) (.ref b)) Q E s:=by
 obtain ⟨⟨cls,dd,data,sl⟩,ho,hc,n,hd⟩:=id ht
 obtain ⟨⟨cls2,dd2,data2,sl2⟩,ho2,hc2,n2,hd2⟩:=id hb
 simp only at hc hd hc2 hd2
 subst hc hd hc2 hd2
 have e:vs.toArray++ws.toArray=(vs++ws).toArray:=by simp
 by_cases hw:ws=[]
 ·exact aag ⟨_,ho,rfl⟩ ⟨_,ho2,rfl⟩ Yr Zy WB Wr (Wh _ _)
   (tuple_addW1 t b vs.toArray ws.toArray n n2 dd dd2 sl sl2 (by simpa using hv) (by simp [hw])) ⟨ho,ho2,h1 hw⟩
 ·refine aag ⟨_,ho,rfl⟩ ⟨_,ho2,rfl⟩ Yr Zy WB Wr (Wh _ _)
   (tuple_addW2 t b vs.toArray ws.toArray n n2 dd dd2 sl sl2 (by simpa using hv) (by simpa using hw) (by rw [Su,Su];exact hsz)) ⟨ho,ho2,?_⟩
  rw [e]
  exact h2 hw
noncomputable def bP (n d:Nat):Option Int->Nat
 | none=>d
 | some v=>if v < 0 then (v + (n:Int)).toNat else min v.toNat n
theorem Ij (n d:Nat):bP n d none=d:=rfl
theorem vL (n d k:Nat):bP n d (some (k:Int))=min k n:=by
 show (if (k:Int) < 0 then ((k:Int) + (n:Int)).toNat else min (k:Int).toNat n)=min k n
 rw [if_neg (by omega),UL]
theorem Nx (n d:Nat) (hd:d<=n) (o:Option Int):bP n d o<=n:=by
 cases o with
 | none=>exact hd
 | some v=>
  show (if v < 0 then (v + (n:Int)).toNat else min v.toNat n)<=n
  by_cases hv:v < 0
  ·rw [if_pos hv];omega
  ·rw [if_neg hv];exact Nat.min_le_right _ _
theorem Bq (v:Int) (n d:Nat):(if v < 0 then max (v + (n:Int)) 0 else min v (n:Int))=((bP n d (some v):Nat):Int):=by
 show (if v < 0 then max (v + (n:Int)) 0 else min v (n:Int))=(((if v < 0 then (v + (n:Int)).toNat else min v.toNat n):Nat):Int)
 by_cases hv:v < 0
 ·simp only [if_pos hv];omega
 ·simp only [if_neg hv];omega
theorem Cu (lo hi:Option Int) (n:Nat):V3 lo hi 1 (n:Int)=(((bP n 0 lo:Nat):Int),((bP n n hi:Nat):Int)):=by
 have h1:¬((1:Int) < 0):=by omega
 unfold V3
 simp only [h1,if_false]
 refine acZ ?_ ?_
 ·cases lo with
  | none=>rfl
  | some v=>exact Bq v n 0
 ·cases hi with
  | none=>rfl
  | some v=>exact Bq v n n
theorem Dp (i j:Nat):Vo (i:Int) (j:Int) 1=j - i:=by
 unfold Vo
 have h1:(1:Int) > 0:=by omega
 simp only [h1,if_true,Int.ediv_one]
 split <;> omega
theorem uF {v:Sa}{o:Option Int}{Q:Option Int->Sd->Prop}(p:Zz v o) (h:Q o s):SH (SM prog w) A (aat v) Q E s:=by
 cases p with
 | none=>exact aa2 h
 | int i t=>exact slicePart_int h
theorem lZ {sl:Sq}{vl vu:Sa}{lo hi:Option Int}{n:Nat}{Q:Int×Int×Nat->Sd->Prop}(hs:s.heap.IsSliceOf sl vl vu .none) (pl:Zz vl lo) (pu:Zz vu hi)
  (h:Q (((bP n 0 lo:Nat):Int),1,bP n n hi - bP n 0 lo) s):SH (SM prog w) A (Xo (.ref sl) (pure (n:Int))) Q E s:=by
 obtain ⟨os,hos,hcs,hds⟩:=id hs
 unfold Xo aa3
 refine R9 (R9 (aaz hos hds (x:=vl) rfl (R9 (aaz hos hds (x:=vu) rfl (R9 (aaz hos hds (x:=.none) rfl (Sb ?_)))))))
 refine R9 (aa2 ?_)
 show SH _ _ (if ((1:Int) == 0)=true then _ else _) _ _ s
 rw [if_neg (by decide)]
 refine R9 (uF pl (R9 (uF pu (R9 (Sb ?_)))))
 show SH _ _ (match V3 lo hi 1 (n:Int) with | (lo,hi)=>pure (lo,(1:Int),Vo lo hi 1)) _ _ s
 rw [Cu lo hi n]
 show SH _ _ (pure (((bP n 0 lo:Nat):Int),(1:Int),Vo ((bP n 0 lo:Nat):Int) ((bP n n hi:Nat):Int) 1)) _ _ s
 rw [Dp]
 exact Sb h
theorem HN (xs:Array Sa) (i k:Nat):((Se k).filterMap λ(m:Nat)=>xs[((i:Int) + (m:Int) * 1).toNat]?).toArray=((xs.toList.drop i).take k).toArray:=by
 have e:(λ(m:Nat)=>xs[((i:Int) + (m:Int) * 1).toNat]?)=λm=>xs[i + m]?:=by
  funext m
  have:((i:Int) + (m:Int) * 1).toNat=i + m:=by omega
  rw [this]
 rw [e]
 have:=pick_run xs i k
 rw [ZA] at this
 have e2:((λx=>xs[x]?) ∘ λx=>i + x)=λm=>xs[i + m]?:=rfl
 rw [e2] at this
 rw [this]
theorem rG {t sl:Sq}{items:Array Sa}{vl vu:Sa}{lo hi:Option Int}{Q:Sa->Sd->Prop}(ht:ab9 s.heap t items) (hs:s.heap.IsSliceOf sl vl vu .none) (pl:Zz vl lo) (pu:Zz vu hi)
  (hw:¬(bP items.size 0 lo=0/\bP items.size items.size hi=items.size))
  (h:Q (.ref s.heap.objs.size) {s with heap:=s.heap.push {cls:=.type "tuple",data:=.seq ((items.toList.drop (bP items.size 0 lo)).take (bP items.size items.size hi - bP items.size 0 lo)).toArray}})
  (hsz:items.size<=sizeLine):SH (SM prog w) A (ZV (.ref t) (.ref sl)) Q E s:=by
 have QI:sizeOk (.seq ((items.toList.drop (bP items.size 0 lo)).take (bP items.size items.size hi - bP items.size 0 lo)).toArray):=by
  show ((items.toList.drop (bP items.size 0 lo)).take (bP items.size items.size hi - bP items.size 0 lo)).toArray.size<=sizeLine
  rw [Su,UI,VI,Ss]
  omega
 have hj:bP items.size items.size hi<=items.size:=Nx _ _ (Sl _) hi
 obtain ⟨os,hos,hcs,hds⟩:=id hs
 have Rh:s.TypeIs (.ref sl) "slice":=⟨os,hos,hcs⟩
 unfold ZV
 try with_reducible refine Te ?_
 first | refine R9 (Sb ?_) | skip
 refine R9 (ZW ht.typeIs (by decide) ?_)
 refine R9 (UD (name:=WS "__getitem__") ht.typeIs TH
  (Tz TH ht.typeIs Zi ?_ (ZC _ _)))
 show SH _ _ (V0 (.ref t) >>= _) _ _ s
 refine R9 (abB ht ?_)
 refine R9 (WT Rh ?_)
 rw [if_pos (by decide)]
 refine R9 (lZ hs pl pu ?_)
 have hno:¬((((bP items.size 0 lo:Nat):Int) == 0 && (1:Int) == 1 && (bP items.size items.size hi - bP items.size 0 lo) == items.size)=true):=by
  intro q
  rw [Sk,Sk] at q
  have q1:((bP items.size 0 lo:Nat):Int)=0:=eq_of_beq q.1.1
  have q2:bP items.size items.size hi - bP items.size 0 lo=items.size:=eq_of_beq q.2
  exact hw ⟨by omega,by omega⟩
 show SH _ _ (if (((bP items.size 0 lo:Nat):Int) == 0 && (1:Int) == 1 && (bP items.size items.size hi - bP items.size 0 lo) == items.size)=true then _ else _) _ _ s
 rw [if_neg hno,HN]
 first
  | exact R9 (m:=Vx _) (Tg (Sb ⟨_,rfl,Sb h⟩) QI)
  | exact R9 (m:=Vx _) (Tg (R9 (Sb (Sb ⟨_,rfl,Sb h⟩))) QI)
  | exact R9 (R9 (m:=Vx _) (Tg (Sb (Sb ⟨_,rfl,Sb h⟩)) QI))
  | exact R9 (R9 (m:=Vx _) (Tg (Sb ⟨_,rfl,Sb h⟩) QI))
end
end HT
namespace L2
open PySem PySem.Spec PyProof.Rows
abbrev TO:=St->Hp->(Option Int->Hp->Prop)->Prop
noncomputable def PO (X:Cx) (e:Option Tc) (t:TO):Prop:=
 ∀(R0:List (Sq×Obj)) (s:Sd) (σ:St) (H:Hp) (Q:Option Int->Hp->Prop),Inv X R0 σ H s->t σ H Q->
  SH (SM X.prog X.w) X.A (evalPart e X.env) (λu s'=>∃o H',Inv X R0 σ H' s'/\Zz u o/\Q o H') X.xe s
def Ll:TO:=λ_ H Q=>Q none H
def OM (t:TE):TO:=λσ H Q=>t σ H λx H1=>∃i,x=.int i/\Q (some i) H1
theorem intsAre_of {ns:List Int}:∀{us:List Sa},Vals (ns.map V.int) us->Wc us ns:=by
 induction ns with
 | nil=>intro us r;rw [Xq] at r;cases r;exact .nil
 | cons n ns ih=>
  intro us r
  rw [Sx] at r
  cases r with
  | cons r1 r2=>
   obtain ⟨t,e⟩:=r1
   subst e
   exact .cons n t (ih r2)
section
variable {X:Cx}{e:Tc}{te:TE}{lo hi:Option Tc}{tl th:TO}{pos p2:Pos}
theorem KU:PO X none Ll:=by
 intro R0 s σ H Q I h
 rw [abC]
 exact Sb ⟨none,H,I,.none,h⟩
theorem KW (h:PE X e te):PO X (some e) (OM te):=by
 intro R0 s σ H Q I hw
 rw [evalPart_some]
 refine cg (h R0 s σ H _ I hw) λu s1 ⟨x,H1,I1,r1,q1⟩=>?_
 obtain ⟨i,rfl,q⟩:=q1
 obtain ⟨t,rfl⟩:=r1
 exact ⟨some i,H1,I1,.int i t,q⟩
noncomputable def tQ (X:Cx) (r:V->Option Int->Option Int->Hp->VK->Prop):Prop:=
 ∀(R0:List (Sq×Obj)) (s:Sd) (σ:St) (H:Hp) (x:V) (v vl vu:Sa) (lo hi:Option Int) (sl:Sq) (Q:VK),Inv X R0 σ H s->RelV x v->s.heap.IsSliceOf sl vl vu .none->Zz vl lo->Zz vu hi->r x lo hi H Q->
  ∃T id,typeLookup (.type T) "__getitem__"=pure (some (.builtin id))/\s.TypeIs v T/\SH (SM X.prog X.w) X.A (ZV v (.ref sl)) (EP X R0 σ Q) X.xe s
theorem tQ.or {r r':V->Option Int->Option Int->Hp->VK->Prop}(h:tQ X r) (h':tQ X r'):tQ X (λx lo hi H Q=>r x lo hi H Q\/r' x lo hi H Q):=by
 intro R0 s σ H x v vl vu lo hi sl Q I rx hs pl pu q
 rcases q with q | q
 ·exact h R0 s σ H x v vl vu lo hi sl Q I rx hs pl pu q
 ·exact h' R0 s σ H x v vl vu lo hi sl Q I rx hs pl pu q
def Qn (r:V->Option Int->Option Int->Hp->VK->Prop) (te:TE) (tl th:TO):TE:=λσ H Q=>te σ H λx H1=>tl σ H1 λl H2=>th σ H2 λu H3=>r x l u H3 Q
theorem HL {r:V->Option Int->Option Int->Hp->VK->Prop}(hr:tQ X r) (he:PE X e te) (hl:PO X lo tl) (hu:PO X hi th):PE X (.Subscript e (.Slice lo hi none p2) pos) (Qn r te tl th):=by
 intro R0 s σ H Q I h
 refine Subscript_ (cg (he R0 s σ H _ I h) λv s1 ⟨x,H1,I1,r1,q1⟩=>?_)
 refine wpAny_Slice (cg (hl R0 s1 σ H1 _ I1 q1) λvl s2 ⟨l,H2,I2,pl,q2⟩=>cg (hu R0 s2 σ H2 _ I2 q2) λvu s3 ⟨u,H3,I3,pu,q3⟩=>?_)
 rw [abC]
 refine Sb ?_
 have I4:Inv X R0 σ H3 {s3 with heap:=s3.heap.push {cls:=.type "slice",data:=.fields #[vl,vu,.none]}}:=I3.kept (t':=s3.toks) λb ob q=>Sm _ q
 obtain ⟨T,id,hT,ht,hg⟩:=hr R0 {s3 with heap:=s3.heap.push {cls:=.type "slice",data:=.fields #[vl,vu,.none]}} σ H3 x v vl vu l u s3.heap.objs.size Q I4 r1 (acB ..) pl pu q3
 show SH (SM X.prog X.w) X.A (abD e (.Slice lo hi none p2) v (.ref s3.heap.objs.size)) (EP X R0 σ Q) X.xe {s3 with heap:=s3.heap.push {cls:=.type "slice",data:=.fields #[vl,vu,.none]}}
 exact tail_any (ops:=[.ref s3.heap.objs.size,v]) ht hT hg (by with_unfolding_all rfl)
def m9 (xs:List V) (lo hi:Option Int):List V:=(xs.drop (HT.bP xs.length 0 lo)).take (HT.bP xs.length xs.length hi - HT.bP xs.length 0 lo)
theorem rP (xs:List V) (lo hi:Option Int):(m9 xs lo hi).length<=xs.length:=by
 unfold m9
 rw [UI,VI]
 omega
noncomputable def Pz (K:R_):V->Option Int->Option Int->Hp->VK->Prop:=λx lo hi H Q=>∃a xs,x=.ref a/\dQ K H a xs/\
 ¬(HT.bP xs.length 0 lo=0/\HT.bP xs.length xs.length hi=xs.length)/\∀p,H p=none->Q (.ref p) (upd H p (.tup (m9 xs lo hi)))
theorem ND:tQ X (Pz X.K):=by
 intro R0 s σ H x v vl vu lo hi sl Q I rx hs pl pu h
 obtain ⟨a,xs,rfl,hx,hw,q⟩:=h
 cases rx
 obtain ⟨R1,r,ht,hz⟩:=I.tuple hx
 have hlen:R1.toArray.size=xs.length:=by rw [Su];exact r.length.symm
 refine ⟨"tuple",_,TH.lookup,ht.typeIs,?_⟩
 refine HT.rG ht hs pl pu (by rw [hlen];exact hw) ?_ (by rw [hlen];exact hz)
 rw [hlen]
 refine ⟨.ref s.heap.objs.size,_,I.laid (t':=s.toks) (o:=.tup (m9 xs lo hi)) (λb ob q=>Sm _ q) (Sl _) ?_,rfl,q _ (I.hok.fresh (Sl _))⟩
 exact ⟨S5 (rP xs lo hi) hz,_,(r.drop (HT.bP xs.length 0 lo)).take (HT.bP xs.length xs.length hi - HT.bP xs.length 0 lo),abW _ _⟩
noncomputable def Oz (K:R_):R2:=λx y H Q=>∃a b xs ys,x=.ref a/\y=.ref b/\dQ K H a xs/\dQ K H b ys/\xs≠[]/\xs.length + ys.length<=sizeLine/\
 (ys=[]->Q (.ref a) H)/\(ys≠[]->∀p,H p=none->Q (.ref p) (upd H p (.tup (xs++ys))))
theorem Vals.nil_iff {xs:List V}{us:List Sa}(r:Vals xs us):us=[]↔xs=[]:=by
 cases r with
 | nil=>simp
 | cons _ _=>simp
theorem Ky:dY X (VC .Add) (Oz X.K):=by
 intro R0 s σ H x y v u Q I rx ry h
 obtain ⟨a,b,xs,ys,rfl,rfl,ha,hb,hx,hz,q1,q2⟩:=h
 cases rx
 cases ry
 obtain ⟨R1,r1,p1,_⟩:=I.tuple ha
 obtain ⟨its2,r2,p2,_⟩:=I.tuple hb
 refine HT.JL p1 p2 (λz=>hx (r1.nil_iff.mp z)) (λz=>⟨.ref a,H,I,rfl,q1 (r2.nil_iff.mp z)⟩) (λz=>?_) (by rw [<-r1.length,<-r2.length];exact hz)
 refine ⟨.ref s.heap.objs.size,_,I.laid (t':=s.toks) (o:=.tup (xs++ys)) (λb ob q=>Sm _ q) (Sl _) ?_,rfl,q2 (λw=>z (r2.nil_iff.mpr w)) _ (I.hok.fresh (Sl _))⟩
 exact ⟨by rw [SO];exact hz,_,r1.append r2,abW _ _⟩
end
def zu (n:Nat) (i:Int):Option Nat:=if 0<=i then (if i < n then some i.toNat else none) else if -(n:Int)<=i then some (i + n).toNat else none
def mF {α:Type}(xs:List α) (i:Int):Option α:=(zu xs.length i).bind λj=>xs[j]?
theorem Ka {n:Nat}{i:Int}{j:Nat}(h:zu n i=some j):seqIndex? i n=some j/\j < n/\-(n:Int)<=i/\i < n:=by
 unfold zu at h
 by_cases h0:0<=i
 ·rw [if_pos h0] at h
  by_cases h1:i < n
  ·rw [if_pos h1] at h
   have e:i.toNat=j:=TF h
   exact ⟨by rw [seqIndex_of h0 h1,e],by omega,by omega,h1⟩
  ·rw [if_neg h1] at h;cases h
 ·rw [if_neg h0] at h
  by_cases h1:-(n:Int)<=i
  ·rw [if_pos h1] at h
   have e:(i + n).toNat=j:=TF h
   exact ⟨by rw [seqIndex_neg (by omega) h1,e],by omega,h1,by omega⟩
  ·rw [if_neg h1] at h;cases h
theorem uX {α:Type}{xs:List α}{i:Int}{v:α}(h:mF xs i=some v):∃j,seqIndex? i xs.length=some j/\xs[j]?=some v/\j < xs.length/\-(xs.length:Int)<=i/\i < xs.length:=by
 unfold mF at h
 cases e:zu xs.length i with
 | none=>rw [e] at h;cases h
 | some j=>
  rw [e] at h
  obtain ⟨h1,h2,h3,h4⟩:=Ka e
  exact ⟨j,h1,h,h2,h3,h4⟩
def qV (b:Tc):Prop:=∀o i,subscripted b false o i=operate [o,i] (ZV o i)
noncomputable def pX (X:Cx) (r:R2):Prop:=
 ∀(value slice:Tc) (R0:List (Sq×Obj)) (s:Sd) (σ:St) (H:Hp) (x y:V) (v u:Sa) (Q:VK),Inv X R0 σ H s->RelV x v->RelV y u->r x y H Q->
  subscripted slice false v u=operate [v,u] (ZV v u)->SH (SM X.prog X.w) X.A (abD value slice v u) (EP X R0 σ Q) X.xe s
noncomputable def P8 (X:Cx) (id:String) (r:V->List V->Hp->VK->Prop):Prop:=
 ∀(R0:List (Sq×Obj)) (s:Sd) (σ:St) (H:Hp) (x:V) (xs:List V) (v:Sa) (us:List Sa) (Q:VK),Inv X R0 σ H s->RelV x v->Vals xs us->r x xs H Q->
  SH (SM X.prog X.w) X.A (call (.builtin id) (v::us)) (EP X R0 σ Q) X.xe s
section
variable {X:Cx}{a b:Tc}{ta tb:TE}{pos:Pos}
theorem pX.or {r r':R2}(h:pX X r) (h':pX X r'):pX X (λx y H Q=>r x y H Q\/r' x y H Q):=by
 intro value slice R0 s σ H x y v u Q I rx ry q hs
 rcases q with q | q
 ·exact h value slice R0 s σ H x y v u Q I rx ry q hs
 ·exact h' value slice R0 s σ H x y v u Q I rx ry q hs
theorem Oq {r:R2}(hr:pX X r) (ha:PE X a ta) (hb:PE X b tb) (hs:qV b):PE X (.Subscript a b pos) (Ga r ta tb):=by
 intro R0 s σ H Q I h
 exact Subscript_ (GC ha hb I h λv u s2 x y H2 I2 rx ry q=>hr a b R0 s2 σ H2 x y v u Q I2 rx ry q (hs _ _))
def Nl (K:R_):R2:=λx y H Q=>∃p xs i v,x=.ref p/\y=.int i/\dD K H p xs/\mF xs i=some v/\Q v H
def Nn (K:R_):R2:=λx y H Q=>∃p xs i v,x=.ref p/\y=.int i/\dQ K H p xs/\mF xs i=some v/\Q v H
def Nm:R2:=λx y H Q=>∃z i c,x=.str z/\y=.int i/\z.length<=sizeLine/\mF z.cps.toList i=some c/\Q (.str ⟨#[c]⟩) H
theorem Kd:pX X (Nl X.K):=by
 intro value slice R0 s σ H x y v u Q I rx ry h hs
 obtain ⟨p,xs,i,z,rfl,rfl,hq,he,q⟩:=h
 cases rx
 obtain ⟨t,rfl⟩:=ry
 obtain ⟨R1,r,pl,hz⟩:=I.list hq
 obtain ⟨j,h1,h2,h3,h4,h5⟩:=uX he
 obtain ⟨w,ew,rw'⟩:=r.get h2
 have hl:=r.length
 have hn:=nR
 have fin:EP X R0 σ Q w s:=⟨z,H,I,rw',q⟩
 by_cases h0:0<=i
 ·have hj:i.toNat=j:=by
   rw [seqIndex_of h0 h5] at h1
   exact TF h1
  exact item_listR pl.isList h0 (by omega) (by rw [hj];simpa using ew) fin hs
 ·have hj:(i + (R1.toArray.size:Int)).toNat=j:=by
   rw [seqIndex_neg (by omega) h4] at h1
   rw [Su,<-hl]
   exact TF h1
  exact WC (x:=w) pl.isList.typeIs ZX.lookup
   (wpAny_getItem_list_neg (Q:=λr s'=>r=w/\EP X R0 σ Q r s') pl.isList (by omega) (by rw [Su] <;> omega) (by omega) (by rw [hj];simpa using ew) ⟨rfl,fin⟩) hs
theorem Mt:pX X (Nn X.K):=by
 intro value slice R0 s σ H x y v u Q I rx ry h hs
 obtain ⟨p,xs,i,z,rfl,rfl,hq,he,q⟩:=h
 cases rx
 obtain ⟨t,rfl⟩:=ry
 obtain ⟨R1,r,pl,hz⟩:=I.tuple hq
 obtain ⟨j,h1,h2,h3,h4,h5⟩:=uX he
 obtain ⟨w,ew,rw'⟩:=r.get h2
 have hl:=r.length
 have hn:=nR
 have fin:EP X R0 σ Q w s:=⟨z,H,I,rw',q⟩
 exact WC (x:=w) pl.typeIs slot_tuple_getitem.lookup
  (getItem_tuple (j:=j) (Q:=λr s'=>r=w/\EP X R0 σ Q r s') pl (by omega) (by omega) (by rw [Su,<-hl];exact h1) (by simpa using ew) ⟨rfl,fin⟩) hs
theorem Ms:pX X Nm:=by
 intro value slice R0 s σ H x y v u Q I rx ry h hs
 obtain ⟨z,i,c,rfl,rfl,hz,he,q⟩:=h
 obtain ⟨t,rfl⟩:=rx
 obtain ⟨t',rfl⟩:=ry
 obtain ⟨j,h1,h2,h3,h4,h5⟩:=uX he
 have hl:z.cps.toList.length=z.length:=by simp [ZY]
 rw [hl] at h1 h4 h5
 have hn:=nR
 exact tail_any (typeIs_str s z t) slot_str_getitem.lookup (getItem_str (c:=c) (by
  have e1:decide (i < -(2 ^ 63:Int))=false:=decide_eq_false (by omega)
  have e2:decide (i ≥ 2 ^ 63)=false:=decide_eq_false (by omega)
  rw [e1,e2,abE]) (by rw [h1];simpa using h2) ⟨.str ⟨#[c]⟩,H,I.tok _,⟨_,rfl⟩,q⟩) hs
def Qi (K:R_):R2:=λx y H Q=>Nl K x y H Q\/Nn K x y H Q\/Nm x y H Q
theorem Mr:pX X (Qi X.K):=Kd.or (Mt.or Ms)
theorem Inv.lst {R0:List (Sq×Obj)}{σ:St}{H:Hp}{s:Sd}{p:Sq}{xs:List V}(I:Inv X R0 σ H s) (h:H p=some (.lst xs)):
  ∃(R1:List Sa) (n:Nat),Vals xs R1/\s.heap.get? p=some {cls:=.type "list",data:=.seq R1.toArray n}/\xs.length<=sizeLine:=by
 obtain ⟨z,R1,n,r,e⟩:=I.hok p _ h
 exact ⟨R1,n,r,e,z⟩
theorem Aq (lo hi:Option Int) (n:Nat):(WH lo hi none n).1=((HT.bP n 0 lo:Nat):Int)/\(WH lo hi none n).2.1=((HT.bP n n hi:Nat):Int)/\(WH lo hi none n).2.2=1:=by
 refine ⟨?_,?_,rfl⟩
 ·cases lo with
  | none=>simp [WH,HT.bP]
  | some i=>
   simp only [WH,HT.bP,aal,show (1:Int) > 0 by decide,if_true]
   by_cases h:i < 0
   ·simp only [h,if_true] <;> omega
   ·simp only [h,if_false] <;> omega
 ·cases hi with
  | none=>simp [WH,HT.bP]
  | some i=>
   simp only [WH,HT.bP,aal,show (1:Int) > 0 by decide,if_true]
   by_cases h:i < 0
   ·simp only [h,if_true] <;> omega
   ·simp only [h,if_false] <;> omega
theorem xU (R1:List Sa) (lo hi:Option Int):slicePick R1.toArray lo hi none=((R1.drop (HT.bP R1.length 0 lo)).take (HT.bP R1.length R1.length hi - HT.bP R1.length 0 lo)).toArray:=by
 obtain ⟨h1,h2,h3⟩:=Aq lo hi R1.toArray.size
 unfold slicePick
 rw [h1,h2,h3]
 simp only [sliceRange_one,pick_run,Su] <;> rfl
noncomputable def Py (K:R_):V->Option Int->Option Int->Hp->VK->Prop:=λx lo hi H Q=>∃a xs,x=.ref a/\dD K H a xs/\∀p,H p=none->Q (.ref p) (upd H p (.lst (m9 xs lo hi)))
theorem Lg:tQ X (Py X.K):=by
 intro R0 s σ H x v vl vu lo hi sl Q I rx hs pl pu h
 obtain ⟨a,xs,rfl,hx,q⟩:=h
 cases rx
 obtain ⟨R1,r,ht,hz⟩:=I.list hx
 have hlen:=r.length
 refine ⟨"list",_,ZX.lookup,ht.isList.typeIs,?_⟩
 refine wpAny_getItem_list_slice ht.isList hs pl pu .none (by simp) ?_ (by rw [Su] <;> omega)
 rw [xU,<-hlen]
 refine ⟨.ref s.heap.objs.size,_,I.laid (t':=s.toks) (o:=.lst (m9 xs lo hi)) (λb ob q=>Sm _ q) (Sl _) ?_,rfl,q _ (I.hok.fresh (Sl _))⟩
 exact ⟨S5 (rP xs lo hi) hz,_,0,(r.drop (HT.bP xs.length 0 lo)).take (HT.bP xs.length xs.length hi - HT.bP xs.length 0 lo),Sw _ rfl⟩
noncomputable def t_:V->Bool
 | .non=>true
 | .bl _=>true
 | .int _=>true
 | .str _=>true
 | _=>false
noncomputable def Ma:V->V->Bool
 | .non,.non=>true
 | .bl a,.bl b=>a == b
 | .bl a,.int b=>(if a then 1 else 0) == b
 | .int a,.bl b=>a == (if b then 1 else 0)
 | .int a,.int b=>a == b
 | .str a,.str b=>a == b
 | _,_=>false
theorem L_ {A:Td}{s:Sd}{y x:V}{u v:Sa}(ry:RelV y u) (rx:RelV x v) (fy:t_ y=true) (fx:t_ x=true):UT A s u v (Ma y x):=by
 cases y with
 | non=>
  cases ry
  cases x with
  | non=>cases rx;exact YG _
  | bl b=>cases rx;exact ab4 b
  | int b=>obtain ⟨t,rfl⟩:=rx;exact acg b t
  | str b=>obtain ⟨t,rfl⟩:=rx;exact ach b t
  | _=>exact absurd (show false=true from fx) S_
 | bl a=>
  cases ry
  cases x with
  | non=>cases rx;exact ab5 a
  | bl b=>cases rx;exact ab6 a b
  | int b=>obtain ⟨t,rfl⟩:=rx;exact aci a b t
  | str b=>obtain ⟨t,rfl⟩:=rx;exact acj a b t
  | _=>exact absurd (show false=true from fx) S_
 | int a=>
  obtain ⟨t',rfl⟩:=ry
  cases x with
  | non=>cases rx;exact ack a t'
  | bl b=>cases rx;exact acm a t' b
  | int b=>obtain ⟨t,rfl⟩:=rx;exact Zx a t' b t
  | str b=>obtain ⟨t,rfl⟩:=rx;exact Zq a t' b t
  | _=>exact absurd (show false=true from fx) S_
 | str a=>
  obtain ⟨t',rfl⟩:=ry
  cases x with
  | non=>cases rx;exact acn a t'
  | bl b=>cases rx;exact aco a t' b
  | int b=>obtain ⟨t,rfl⟩:=rx;exact Zr a t' b t
  | str b=>obtain ⟨t,rfl⟩:=rx;exact acC a t' b t
  | _=>exact absurd (show false=true from fx) S_
 | _=>exact absurd (show false=true from fy) S_
theorem yQ:cP X (.builtin "len") (λxs H Q=>∃p ys,xs=[.ref p]/\(dD X.K H p ys\/dQ X.K H p ys)/\Q (.int ys.length) H):=by
 intro R0 s σ H xs us Q I r h
 obtain ⟨p,ys,rfl,hq,q⟩:=h
 obtain ⟨u,rfl,rx⟩:=vals1 r
 cases rx
 have hn:=nR
 rcases hq with hq | hq
 ·obtain ⟨R1,r',pl,hz⟩:=I.list hq
  have hlen:=r'.length
  exact Calls.call_len_list pl.isList (by simp only [Su] <;> omega) ⟨.int ys.length,H,I.tok _,⟨s.toks + 1,by rw [Su,hlen]⟩,q⟩
 ·obtain ⟨R1,r',pl,hz⟩:=I.tuple hq
  have hlen:=r'.length
  exact len_tuple pl (by simp only [Su] <;> omega) ⟨.int ys.length,H,I.tok _,⟨s.toks + 1,by rw [Su,hlen]⟩,q⟩
theorem yR:cP X (.builtin "len") (λxs H Q=>∃z,xs=[.str z]/\z.length<=sizeLine/\Q (.int z.length) H):=by
 intro R0 s σ H xs us Q I r h
 obtain ⟨z,rfl,hz,q⟩:=h
 obtain ⟨u,rfl,t,rfl⟩:=vals1 r
 have hn:=nR
 exact len_str (by omega) ⟨.int z.length,H,I.tok _,⟨_,rfl⟩,q⟩
theorem cP.or {f:Sa}{r r':List V->Hp->VK->Prop}(h:cP X f r) (h':cP X f r'):cP X f (λxs H Q=>r xs H Q\/r' xs H Q):=by
 intro R0 s σ H xs us Q I rs q
 rcases q with q | q
 ·exact h R0 s σ H xs us Q I rs q
 ·exact h' R0 s σ H xs us Q I rs q
theorem xF:cP X (.type "tuple") (λxs H Q=>∃p ys,xs=[.ref p]/\((dD X.K H p ys/\∀l,H l=none->Q (.ref l) (upd H l (.tup ys)))\/(dQ X.K H p ys/\Q (.ref p) H))):=by
 intro R0 s σ H xs us Q I r h
 obtain ⟨p,ys,rfl,h⟩:=h
 obtain ⟨u,rfl,rx⟩:=vals1 r
 cases rx
 rcases h with ⟨hq,q⟩ | ⟨hq,q⟩
 ·obtain ⟨R1,r',pl,hz⟩:=I.list hq
  have hlen:=r'.length
  refine call_tuple_list pl.isList (λh' kp=>?_) (by simp only [Su] <;> omega)
  have I1:Inv X R0 σ H {s with heap:=h'}:=I.kept (t':=s.toks) kp
  have I2:Inv X R0 σ (upd H h'.objs.size (.tup ys)) {s with heap:=h'.push {cls:=.type "tuple",data:=.seq R1.toArray}}:=
   I1.laid (t':=s.toks) (λb o e=>Sm _ e) (Sl _) (show dw X.prog X.w _ _ _ (.tup ys) from ⟨hz,R1,r',abW _ _⟩)
  exact ⟨.ref h'.objs.size,_,I2,rfl,q _ (I1.hok.fresh (Sl _))⟩
 ·obtain ⟨R1,r',pl,hz⟩:=I.tuple hq
  exact call_tuple_same pl ⟨.ref p,H,I,rfl,q⟩
noncomputable def O1 (K:R_) (T:String) (x:V) (H:Hp):Prop:=match x with
 | .str _=>T="str"
 | .int _=>T="int"
 | .ref p=>(T="list"/\∃xs,dD K H p xs)\/(T="tuple"/\∃o,K.lookup p=some o/\o.cls=.type "tuple"/\o.dict=none)\/
   (T="dict"/\((∃R7,H p=some (.dK R7))\/∃R7,H p=some (.dT R7)))\/(T="set"/\∃S n,H p=some (.set S n))
 | _=>False
theorem NR {R0:List (Sq×Obj)}{σ:St}{H:Hp}{s:Sd}{T:String}{x:V}{v:Sa}(I:Inv X R0 σ H s) (r:RelV x v) (ty:O1 X.K T x H):
  s.TypeIs v T/\∀a,v=.ref a->∃ob,s.heap.get? a=some ob/\ob.dict=none:=by
 cases x with
 | str z=>
  obtain ⟨t,rfl⟩:=r
  cases (show T="str" from ty)
  exact ⟨typeIs_str s z t,λ_ e=>nomatch e⟩
 | int i=>
  obtain ⟨t,rfl⟩:=r
  cases (show T="int" from ty)
  exact ⟨typeIs_int s i t,λ_ e=>nomatch e⟩
 | ref p=>
  cases r
  rcases ty with ⟨rfl,xs,hq⟩ | ⟨rfl,o,hk,hc,hd⟩ | ⟨rfl,hk⟩ | ⟨rfl,S,n,hk⟩
  ·obtain ⟨R1,_,pl,_⟩:=I.list hq
   refine ⟨pl.isList.typeIs,λa e=>?_⟩
   cases e
   obtain ⟨o,n,e,c,hd,_⟩:=pl
   exact ⟨o,e,hd⟩
  ·refine ⟨⟨o,I.kIn p o hk,hc⟩,λa e=>?_⟩
   cases e
   exact ⟨o,I.kIn _ o hk,hd⟩
  ·have z:∃o,s.heap.get? p=some o/\o.ExactDict:=by
    rcases hk with ⟨R7,hk⟩ | ⟨R7,hk⟩
    ·obtain ⟨_,_,_,_,o,_,_,e,ex,_⟩:=I.hok p _ hk
     exact ⟨o,e,ex⟩
    ·obtain ⟨_,_,_,_,o,_,_,e,ex,_⟩:=I.hok p _ hk
     exact ⟨o,e,ex⟩
   obtain ⟨o,e,ex⟩:=z
   refine ⟨⟨o,e,ex.1⟩,λa e2=>?_⟩
   cases e2
   exact ⟨o,e,ex.2.1⟩
  ·obtain ⟨o,_,_,_,e,ex,_⟩:=I.hok p _ hk
   refine ⟨⟨o,e,ex.1⟩,λa e2=>?_⟩
   cases e2
   exact ⟨o,e,ex.2.1⟩
 | _=>exact VT ty
def Qk (K:R_) (T:String) (r:V->List V->Hp->VK->Prop) (to:TE) (t:TA):TE:=λσ H Q=>to σ H λx H1=>O1 K T x H1/\t σ H1 λxs H2=>r x xs H2 Q
variable {o e:Tc}{es:List Tc}{to:TE}{t:TA}{name:Str}{apos cpos:Pos}{T id:String}{r:V->List V->Hp->VK->Prop}
theorem Jg (pa:PlainAttrs T) (slot:Slot T name id) (hty:typeOf (.builtin id)=pure (.type "method_descriptor")) (hm:P8 X id r) (ho:PE X o to) (ha:PA X (e::es) t)
  (hbase:ZD o name X.env (eval o X.env)=eval o X.env:=by rfl)
  (hfew:((Vd cpos (Sv (e::es) X.env)).all (λx=>!x.1) && (acD cpos (aaA [] X.env)).all (λx=>x.1.isSome)
   && decide ((e::es).length + ([]:List aaB).length + (if ([]:List aaB).isEmpty then 0 else 1) < 30))=true:=by rfl)
  (hline:(apos.endLine == cpos.line)=true:=by rfl) (hs:Sv (e::es) X.env=(false,eval e X.env)::Sv es X.env:=by rfl) (hplain:(Vd cpos (Sv es X.env)).any (·.1)=false:=by rfl):
  PE X (.Call (.Attribute o name apos) (e::es) [] cpos) (Qk X.K T r to t):=by
 intro R0 s σ H Q I h
 refine wpAny_Call_method_late hbase hfew hline rfl (cg (ho R0 s σ H _ I h) λv s1 ⟨x,H1,I1,r1,ty,q1⟩=>?_)
 obtain ⟨h1,h2⟩:=NR I1 r1 ty
 refine ⟨T,id,pa,slot,hty,h1,h2,?_⟩
 have hA:=ha cpos R0 s1 σ H1 _ I1 q1
 rw [hs] at hA ⊢
 refine Calls.callWith_builtin (by show (false || (Vd cpos (Sv es X.env)).any (·.1))=false;rw [hplain] <;> rfl) (Calls.evalArgs_plain ?_)
 exact cg hA λus s2 ⟨vs,H2,I2,r2,q2⟩=>hm R0 s2 σ H2 x vs v us Q I2 r1 r2 q2
end
noncomputable def LC (X:Cx) (id:String) (r:V->List V->Hp->VK->Prop):Prop:=
 ∀(R0:List (Sq×Obj)) (s:Sd) (σ:St) (H:Hp) (x:V) (xs:List V) (v:Sa) (us:List Sa) (Q:VK),Inv X R0 σ H s->RelV x v->Vals xs us->r x xs H Q->
  SH (SM X.prog X.w) X.A (call (.builtin id) (v::us)) (EP X R0 σ Q) X.xe s
theorem Vals.one:∀{x:V}{us:List Sa},Vals [x] us->∃u,us=[u]/\RelV x u
 | _,_,.cons r .nil=>⟨_,rfl,r⟩
section
variable {X:Cx}{R0:List (Sq×Obj)}{σ:St}{H:Hp}{s:Sd}{l b:Sq}{xs ys zs:List V}
theorem Inv.lset {R1 its':List Sa}{n:Nat}{f:Array Sa->Array Sa}{t':Nat}(I:Inv X R0 σ H s) (hH:H l=some (.lst xs))
  (e:s.heap.get? l=some {cls:=.type "list",data:=.seq R1.toArray n}) (hf:f R1.toArray=its'.toArray) (hv:Vals ys its') (hz:ys.length<=sizeLine):
  Inv X R0 σ (upd H l (.lst ys)) {s with heap:=s.heap.update l (UU f),toks:=t'}:=by
 have q:=acP e f
 rw [hf] at q
 refine I.write (x:=l) (e:=l) (by rw [hH];exact trivial) (.inl rfl) (λb' u hb hu=>(WD s.heap (UU f) (Vt hb)).trans hu) ⟨_,q⟩ ?_
 exact ⟨hz,its',_,hv,q⟩
theorem Inv.lnew {R1:List Sa}{t':Nat}(I:Inv X R0 σ H s) (hv:Vals ys R1) (hz:ys.length<=sizeLine):
  Inv X R0 σ (upd H s.heap.objs.size (.lst ys)) {s with heap:=s.heap.push {cls:=.type "list",data:=.seq R1.toArray},toks:=t'}:=
 I.laid (λ_ _ q=>Sm _ q) (Sl _) ⟨hz,R1,0,hv,Sw _ rfl⟩
theorem Inv.fresh (I:Inv X R0 σ H s):H s.heap.objs.size=none:=I.hok.fresh (Sl _)
theorem Inv.lstM (I:Inv X R0 σ H s) (hH:H l=some (.lst xs)):xs.length<=sizeLine/\∃(R1:List Sa) (n:Nat),Vals xs R1/\xs.length=R1.length/\s.heap.get? l=some {cls:=.type "list",data:=.seq R1.toArray n}:=by
 obtain ⟨z,R1,n,r,e⟩:=I.hok l _ hH
 exact ⟨z,R1,n,r,r.length,e⟩
theorem zK {n:Nat}(h:n<=sizeLine):UW n=false:=by
 unfold UW
 exact decide_eq_false (by omega)
end
section
variable {X:Cx}
noncomputable def K8:V->List V->Hp->VK->Prop:=λx vs H Q=>∃l xs y,x=.ref l/\vs=[y]/\H l=some (.lst xs)/\xs.length < sizeLine/\Q .non (upd H l (.lst (xs++[y])))
theorem wK:LC X "list.append" K8:=by
 intro R0 s σ H x vs v us Q I rx rv h
 obtain ⟨l,xs,y,rfl,rfl,hH,hz,q⟩:=h
 cases rx
 obtain ⟨u,rfl,ru⟩:=rv.one
 obtain ⟨z,R1,n,r,hl,e⟩:=I.lstM hH
 refine abm F.slot_list_append ⟨_,e,rfl⟩ F.entry_list_append (F.args_list_append_2 _ _) (PySem.list_append l R1.toArray n u (by rw [Su];omega)) ⟨e,?_⟩
 refine ⟨.non,_,I.lset (its':=R1++[u]) hH e (by simp) (r.append (.cons ru .nil)) ?_,rfl,q⟩
 rw [SO,List.length_singleton]
 omega
noncomputable def K9:V->List V->Hp->VK->Prop:=λx vs H Q=>∃l b xs zs,x=.ref l/\vs=[.ref b]/\H l=some (.lst xs)/\H b=some (.lst zs)/\xs.length + zs.length<=sizeLine/\Q .non (upd H l (.lst (xs++zs)))
theorem OZ:LC X "list.extend" K9:=by
 intro R0 s σ H x vs v us Q I rx rv h
 obtain ⟨l,b,xs,zs,rfl,rfl,hH,hB,hz,q⟩:=h
 cases rx
 obtain ⟨u,rfl,ru⟩:=rv.one
 cases ru
 obtain ⟨z,R1,n,r,hl,e⟩:=I.lstM hH
 obtain ⟨z2,its2,n2,r2,hl2,e2⟩:=I.lstM hB
 have hsz:R1.toArray.size + its2.toArray.size<=sizeLine:=by rw [Su,Su];omega
 have QM:¬(!R1.toArray.isEmpty && UW (R1.toArray.size + its2.toArray.size))=true:=by
  rw [zK hsz,VL]
  exact S_
 refine abm ZE ⟨_,e,rfl⟩ Zj (Y5 _ _)
  (AutoSeq1.list_extend_list_list_0 l R1.toArray n b its2.toArray n2 QM (by rw [Su];omega) (by omega)) ⟨e,e2,?_⟩
 refine ⟨.non,_,I.lset (its':=R1++its2) hH e (by simp) (r.append r2) ?_,rfl,q⟩
 rw [SO]
 omega
noncomputable def Pw:R2:=λx y H Q=>∃l b xs zs,x=.ref l/\y=.ref b/\H l=some (.lst xs)/\H b=some (.lst zs)/\xs.length + zs.length<=sizeLine/\∀p,H p=none->Q (.ref p) (upd H p (.lst (xs++zs)))
theorem E8:dY X (VC .Add) Pw:=by
 intro R0 s σ H x y v u Q I rx ry h
 obtain ⟨l,b,xs,zs,rfl,rfl,hH,hB,hz,q⟩:=h
 cases rx
 cases ry
 obtain ⟨z,R1,n,r,hl,e⟩:=I.lstM hH
 obtain ⟨z2,its2,n2,r2,hl2,e2⟩:=I.lstM hB
 refine PySem.P.add_list e e2 ?_ (by rw [Su,Su];omega)
 have ea:R1.toArray++its2.toArray=(R1++its2).toArray:=by simp
 rw [ea]
 exact ⟨.ref _,_,I.lnew (t':=s.toks) (r.append r2) (by rw [SO];omega),rfl,q _ I.fresh⟩
end
end L2
namespace Att
open PySem PySem.W PySem.Calls PyProof.Rows
theorem uh {P:abn}{h:Ui}:∀(ns:List Int) (vs:List Sa),WellAll P h vs (ns.map acT)->Wc vs ns:=by
 intro ns
 induction ns with
 | nil=>
  intro vs w
  rw [Xq] at w
  cases w
  exact .nil
 | cons n ns ih=>
  intro vs w
  rw [Sx] at w
  cases w with
  | cons a b=>
   cases a
   exact .cons _ _ (ih _ b)
theorem FT {l:OpenLaw}{n:Nat}(hn:l.most=some n){P:abn}{h:Ui}{args:List WData}{vals:List Sa}
  (hpre:l.row.toRowW.claim.pre args=true) (hwl:WellAll P h vals args):
  ∃a vs ns,vals=[Wl a]/\args=[WData.list (ns.map acT)]/\h.get? a=some {cls:=.type "list",data:=.seq vs.toArray}/\Wc vs ns/\ns.length<=n:=by
 have hsh:WShape.hasAll [] args [.list .int]=true:=(pre_splitW hpre).1
 have hc:l.pre.holds [] {args:=args}=true:=(pre_splitW hpre).2
 obtain ⟨d,r,rfl,h1,h2⟩:=hasAllW_cons hsh
 obtain rfl:=hasAllW_nil h2
 obtain ⟨xs,rfl,h3⟩:=hasW_list h1
 obtain ⟨ns,rfl⟩:=items_int h3
 have hlen:ns.length<=n:=by
  unfold OpenLaw.pre at hc
  have h4:(WTm.not (.lt (.lit (.int (n:Int))) (.len (.arg 0)))).holds [] {args:=[.list (ns.map .int)]}=true:=by
   have h4:=(holds_andW hc).1
   rw [hn] at h4
   exact h4
  have h5:=condW_of h4 (w_not (w_lt w_lit (w_len_list (w_arg rfl))))
  rw [Sh] at h5
  refine Nat.le_of_not_lt λq=>?_
  have q':(n:Int) < ((ns.length:Nat):Int):=by omega
  first
   | (rw [decide_eq_true q'] at h5;exact absurd h5 (by decide))
   | (simp at h5;omega)
 cases hwl with
 | cons w1 w2=>
  cases w2
  cases w1 with
  | list ho hall=>exact ⟨_,_,ns,rfl,rfl,ho,uh ns _ hall,hlen⟩
theorem Fx (l:OpenLaw) (args:List WData):l.row.toRowW.claim.post args (.bool true) args=true:=
 postW_of (r:=l.row.toRowW) (X:=(true == true))
  (show acK [] (.bool true) .bool=true by first | rfl | decide | simp [acK,WShape.arms,WShape.armsAll])
  (show (WTm.eq .res (.lit (.bool true))).value [] {args:=args,res:=some (.bool true),after:=args}=some (.bool (true == true)) from w_eq_bool (w_res rfl) w_lit) rfl
theorem AO {l:OpenLaw}{n:Nat}{q:Sy}{loose:List Str}{XP:(Str->Option Sa)->Ui->Prop}{YP:S9->Ui->Prop}{d:DefRec}
  (hn:l.most=some n) (hdf:d.params.defaults=[])
  (call:∀(w:S9) (s₀ s₁:Sd) (mg mb:Str->Option Sa) (fa:Sq) (o:Obj) (pm cd doc:Sa) (a:Sq) (vs:List Sa) (ns:List Int),
   Ground q loose [] XP w s₀ mg mb s₁.heap->YP w s₁.heap->
   s₁.heap.get? fa=some o->o.data=.func (docDef d.name d.params d.body d.scope pm cd doc)->s₁.heap.CodeRec cd d.name->mg d.name=some (.ref fa)->
   s₁.heap.get? a=some {cls:=.type "list",data:=.seq vs.toArray}->Wc vs ns->ns.length<=n->s₁.gens=#[]->
   UX (SM l.prog w) ZZ (.call (.ref fa) ⟨[.ref a],[]⟩) (λr s'=>r=.ok (.ret (.bool true))/\OldK s₁.heap s'.heap/\s'.os=s₁.os/\X_ s'.gens) s₁):
  WalkO q loose XP YP l.row.toRowW d [] (λf vs=>abo f vs):=by
 intro w s₀ s₁ mg mb G Y fa o pm cd doc dV kV ho hd hcd hD hmg hg args vals as hpre hlay hrd hwl hlo
 obtain rfl:dV=.none:=Dflts.none hD hdf
 obtain rfl:kV=.none:=Dflts.noKw hD
 obtain ⟨a,vs,ns,rfl,rfl,hobj,hints,hlen⟩:=FT hn hpre hwl
 refine enter_call (VA (call w s₀ s₁ mg mb fa o pm cd doc a vs ns G Y ho (fd_plain hd) hcd hmg hobj hints hlen hg) λr s' hq=>?_)
 obtain ⟨rfl,h2,h3,h4⟩:=hq
 exact ⟨.inl ⟨.bool true,.bool true,[],rfl,λ_=>rfl,.bool true,Fx l _,λ_=>⟨VU,λ_ hm=>(nomatch hm)⟩⟩,h2,h3,h4⟩
end Att
namespace L2
open PySem PySem.Spec PyProof.Rows
theorem xo:∀{vs:List Sa}{ns:List Int},Wc vs ns->Vals (ns.map V.int) vs
 | _,_,.nil=>.nil
 | _,_,.cons n t h=>.cons ⟨t,rfl⟩ (xo h)
def Cm (H:Hp):Prop:=∀b,H b=none\/∃o xs,H b=some (.frz o (.lst xs))
theorem G_ {P:Sy}{w:S9}{K:R_}{mg mb:Str->Option Sa}{CX:pR}{k:Nat}{fa a:Sq}{fd:SY}{x:Str}{sp:Sp}{s₁:Sd}{vs:List Sa}{ns:List Int}
  (KX:K.In s₁.heap) (hns:s₁.heap.Ns S3 mg) (hb:s₁.heap.Ns abi mb) (RG:∀x:Str,x≠"__name__"->mb x=Tv x) (hlim:s₁.heap.NoLimit) (hg:s₁.gens=#[])
  (ha:s₁.heap.get? a=some {cls:=.type "list",data:=.seq vs.toArray}) (hi:Wc vs ns) (hl:ns.length<=sizeLine) (hr:eF k ZZ)
  (F:∀base:Ui,K.In base->base.Ns S3 mg->gp P w K mg base CX k fa fd [x] sp) (hbind:∀(s:Sd) (u:Sa),aay s fd ⟨[u],[]⟩ [(x,u)])
  (QT:∀H:Hp,Cm H->dD K H a (ns.map V.int)->sp [.ref a] H (λv _=>v=.bl true) λ_ _ _=>False)
  (Rf:∀H e s',CX [] H s₁ (λ_ _ _=>False) e s'->False):
  UX (SM P w) ZZ (.call (.ref fa) ⟨[.ref a],[]⟩) (λr s'=>r=.ok (.ret (.bool true))/\OldK s₁.heap s'.heap/\s'.os=s₁.os/\X_ s'.gens) s₁:=by
 have rv:=xo hi
 have lenV:=hi.length
 have core:∀H:Hp,Cm H->dD K H a (ns.map V.int)->gx P w H s₁.heap->(∀b,H b≠none->b=a)->(H a≠none->K.lookup a=none)->
   UX (SM P w) ZZ (.call (.ref fa) ⟨[.ref a],[]⟩) (λr s'=>r=.ok (.ret (.bool true))/\OldK s₁.heap s'.heap/\s'.os=s₁.os/\X_ s'.gens) s₁:=by
  intro H hO hS hok hA hK
  have base_of:∀{b:Sq}{o:Obj},s₁.heap.get? b=some o->H b=none->(oR s₁.heap H).get? b=some o:=λe n=>G1 e n
  have noA:∀{b:Sq}{o:Obj}{es:Array YH}{ep:Nat},s₁.heap.get? b=some o->o.data=.dict es ep->H b=none:=fun {b o es ep} e d=>by
   cases q:H b with
   | none=>rfl
   | some u=>
    have e':b=a:=hA b (by rw [q];simp)
    subst e'
    rw [ha] at e;cases e
    have d':Data.seq vs.toArray _=Data.dict es ep:=d
    cases d'
  have nsK:∀{b:Sq}{m:Str->Option Sa},s₁.heap.Ns b m->(oR s₁.heap H).Ns b m:=fun {b m} ⟨o,es,ep,e,d,r⟩=>⟨o,es,ep,base_of e (noA e d),d,r⟩
  have Rw:K.In (oR s₁.heap H):=λb o e=>base_of (KX b o e) (by
   cases q:H b with
   | none=>rfl
   | some u=>
    have e':b=a:=hA b (by rw [q];simp)
    subst e'
    rw [hK (by rw [q];simp)] at e;cases e)
  have hM:Mod K mg (oR s₁.heap H):=⟨Rw,nsK hns,⟨mb,nsK hb,RG⟩,let ⟨mc,h1,h2⟩:=hlim;⟨mc,nsK h1,h2⟩⟩
  have e0:Ce P w K mg (oR s₁.heap H) ZZ [] s₁ H:=⟨rfl,hM,λb o e=>Kw e,abX (EM _ _),trivial,λb hb=>absurd (show b∈([]:List Sq) from hb) (by simp),hok,.of_eq hg⟩
  refine VA ((F _ Rw (nsK hns)).run ZZ [] s₁ H ⟨[.ref a],[]⟩ [.ref a] [.ref a] _ _ hr e0 (hbind s₁ (.ref a)) (.cons rfl .nil) (QT H hO hS)) λr s' h=>?_
  cases r with
  | error e=>exact (Rf H e s' h).elim
  | ok fl=>
   cases fl with
   | next=>exact VT h
   | brk=>exact VT h
   | cont=>exact VT h
   | ret u=>
    obtain ⟨v,H',os,bare,un,Rm,r',q⟩:=h
    have q':v=.bl true:=q
    subst q'
    obtain rfl:u=Ve true:=r'
    refine ⟨rfl,OldK.of_keep λb o e=>?_,os,bare⟩
    cases q:H b with
    | none=>exact un.keep b o e q (by intro z;exact absurd (show b∈([]:List Sq) from z) (by simp)) (by simp)
    | some u=>
     rcases hO b with z | ⟨ob,xs,z⟩
     ·rw [q] at z;cases z
     ·have z2:=un.frzs b ob _ z
      obtain ⟨e1,_⟩:=hok b _ z
      obtain ⟨e2,_⟩:=Rm b _ z2
      rw [e] at e1;cases e1
      exact e2
 cases hk:K.lookup a with
 | some o=>
  have e:=KX a o hk
  rw [ha] at e
  cases e
  refine core (λ_=>none) (λ_=>.inl rfl) (.inr ⟨_,vs.toArray,_,hk,rfl,rfl,rfl,by rw [Su,lenV];exact hl,by simpa using rv⟩) (λb u z=>by have z':(none:Option HO)=some u:=z;cases z') (λb z=>absurd rfl z) λz=>absurd rfl z
 | none=>
  refine core (λb=>if b=a then some (.frz {cls:=.type "list",data:=.seq vs.toArray} (.lst (ns.map V.int))) else none) (λb=>?_) (.inl (.inr ⟨{cls:=.type "list",data:=.seq vs.toArray},if_pos rfl⟩)) (λb u z=>?_) (λb z=>?_) λ_=>hk
  ·by_cases hb:b=a
   ·exact .inr ⟨_,_,if_pos hb⟩
   ·exact .inl (if_neg hb)
  ·by_cases hb:b=a
   ·have z':=(if_pos hb).symm.trans z
    cases z'
    subst hb
    exact ⟨ha,by rw [Sh];exact hl,vs,_,rv,ha⟩
   ·have z':=(if_neg hb).symm.trans z
    cases z'
  ·by_cases hb:b=a
   ·exact hb
   ·exact absurd (if_neg hb) z
abbrev Qv {K:R_}{h:Ui}(_:K.In h):R_:=K
theorem Lu {l:YI}{n k:Nat}{q:Sy}{loose:List Str}{XP:(Str->Option Sa)->Ui->Prop}{YP:S9->Ui->Prop}{d:DefRec}{K:abn->R_}{CX:S9->pR}{sp:S9->Sp}{x:Str}
  (hn:l.most=some n) (hn2:n<=sizeLine) (hdf:d.params.defaults=[]) (hr:eF k ZZ)
  (hY:∀(w:S9) (h:Ui),YP w h->(K w.params).In h)
  (F:∀(w:S9) (mg:Str->Option Sa) (fa:Sq) (h:Ui),(K w.params).In h->h.Ns S3 mg->mg d.name=some (.ref fa)->
   ∃fd:SY,(∀(s:Sd) (u:Sa),aay s fd ⟨[u],[]⟩ [(x,u)])/\
    ∀base:Ui,(K w.params).In base->base.Ns S3 mg->gp l.prog w (K w.params) mg base (CX w) k fa fd [x] (sp w))
  (QT:∀(w:S9) (H:Hp) (a:Sq) (ns:List Int),ns.length<=n->Cm H->dD (K w.params) H a (ns.map V.int)->sp w [.ref a] H (λv _=>v=.bl true) λ_ _ _=>False)
  (Rf:∀(w:S9) (H:Hp) (s:Sd) (e:Sa) (s':Sd),CX w [] H s (λ_ _ _=>False) e s'->False):
  abF q loose XP YP l.row.toRowW d [] (λf vs=>abo f vs):=by
 refine Att.AO hn hdf λw s₀ s₁ mg mb fa o pm cd doc a vs ns G Y ho hd hcd hmg hobj hints hlen hg=>?_
 have KX:=hY w _ Y
 obtain ⟨fd,hb,hF⟩:=F w mg fa _ KX G.T.g hmg
 exact G_ KX G.T.g G.T.b G.T.builtins G.T.nolimit hg hobj hints (S5 hlen hn2) hr hF hb (λH hO hS=>QT w H a ns hlen hO hS) λH e s'=>Rf w H s₁ e s'
noncomputable def dR (s:Vu):Arguments:=match s with
 | .FunctionDef _ a _ _ _ _ _ _ _ _=>a
 | _=>{posonlyargs:=[],args:=[],vararg:=none,kwonlyargs:=[],kw_defaults:=[],kwarg:=none,defaults:=[]}
noncomputable def cL (s:Vu):List Vu:=match s with
 | .FunctionDef _ _ b _ _ _ _ _ _ _=>b
 | _=>[]
noncomputable def aI (s:Vu):Vc:=match s with
 | .FunctionDef _ _ _ _ _ _ sc _ _ _=>sc
 | _=>{kind:=.function,names:=[],isGenerator:=false,isCoroutine:=false}
abbrev pL:pR:=λ_ _ _ _ _ _=>False
abbrev E0:XK:=λ_ _ _=>False
theorem Dn {X:Cx}:Passes pL X E0:=λ_ _ _ _ _ _ _ h=>h.elim
structure cZ (K:R_) (x R5:Str) (st:Vu) (f:Sq) (fd:SY):Prop where
 ex:∃(oc:Sa) (od:Option Sq) (kV doc pm:Sa) (an:Option Sq) (cdv ct:Sa) (osl:Array (Option Sa)),
  fd=Tw x R5 (dR st) (cL st) (aI st) .none kV doc pm an cdv ct/\K.lookup f=some ⟨oc,od,.func fd,osl⟩/\Vn K cdv R5=true
 kp:Ug K (.ref f)=true
section
variable {P:Sy}{w:S9}{K:R_}{mg:Str->Option Sa}{base:Ui}
theorem cZ.ok {x R5:Str}{st:Vu}{f:Sq}{fd:SY}{N ps:List Str}{k:Nat}{sp:Sp}(F:cZ K x R5 st f fd) (S:bg N ps (aI st)) (len:∀vs H Q E,sp vs H Q E->vs.length=ps.length)
  (hbody:∀(cdv:Sa) (A:Td) (outer:List Env) (s:Sd) (H:Hp) (vs:List V) (Q:VK) (E:XK),eF k (A.deeper (XI R5 (aI st) s.heap.objs.size f cdv))->sp vs H Q E->
   ∃t,kH (qa pL P w K mg base N R5 (aI st) f cdv A outer s H E).nox (cL st) t/\t {nx:=λ_ H'=>Q .non H',rt:=Q} (start N vs) H):gp P w K mg base pL (k + 1) f fd ps sp:=by
 obtain ⟨oc,od,kV,doc,pm,an,cdv,ct,osl,rfl,lk,hcd⟩:=F.ex
 refine IX lk hcd S len λA outer s H vs Q E hr QT=>?_
 obtain ⟨t,h,q⟩:=hbody cdv A outer s H vs Q E hr QT
 exact ⟨t,h.nox,q⟩
theorem cZ.binds {x R5:Str}{st:Vu}{f:Sq}{fd:SY}{ps:List Str}(F:cZ K x R5 st f fd)
  (h:∀(kV doc pm:Sa) (an:Option Sq) (cdv ct:Sa) (us:List Sa),us.length=ps.length->Zv (Tw x R5 (dR st) (cL st) (aI st) .none kV doc pm an cdv ct) ⟨us,[]⟩=pure (ps.zip us)):Binds K fd ps []:=by
 obtain ⟨oc,od,kV,doc,pm,an,cdv,ct,osl,rfl,lk,hcd⟩:=F.ex
 exact .all (h kV doc pm an cdv ct)
theorem ED {x R5:Str}{st:Vu}{f:Sq}{oc:Sa}{od an:Option Sq}{osl:Array (Option Sa)}{kV doc pm cdv ct:Sa}(l:K.lookup f=some ⟨oc,od,.func (Tw x R5 (dR st) (cL st) (aI st) .none kV doc pm an cdv ct),osl⟩)
  (c:Vn K cdv R5=true) (k:Ug K (.ref f)=true):cZ K x R5 st f (Tw x R5 (dR st) (cL st) (aI st) .none kV doc pm an cdv ct):=⟨⟨oc,od,kV,doc,pm,an,cdv,ct,osl,rfl,l,c⟩,k⟩
end
theorem Mm {A B:Prop}(h:B):if false=true then A else B:=by
 rw [if_neg S_]
 exact h
theorem Mp {A B:Prop}(h:A):if true=true then A else B:=by
 rw [if_pos rfl]
 exact h
def aW (H H':Hp):Prop:=∀b o,H b=some o->H' b=some o
theorem aW.refl (H:Hp):aW H H:=λ_ _ h=>h
theorem aW.trans {H H1 H2:Hp}(a:aW H H1) (b:aW H1 H2):aW H H2:=λc o h=>b c o (a c o h)
theorem aW.free {H H':Hp}(e:aW H H'){l:Sq}(h:H' l=acp):H l=acp:=by
 cases q:H l with
 | none=>rfl
 | some o=>
  rw [e l o q] at h
  cases h
theorem aW.seq {K:R_}{H H':Hp}{a:Sq}{xs:List V}(e:aW H H') (h:dD K H a xs):dD K H' a xs:=by
 rcases h with (h | ⟨o,h⟩) | h
 ·exact .inl (.inl (e _ _ h))
 ·exact .inl (.inr ⟨o,e _ _ h⟩)
 ·exact .inr h
end L2
set_option maxHeartbeats 4000000
namespace K83
open PySem
def top (i:Nat):Vu:=Ux.main.body.getD i (.Pass ⟨0,0,0,0⟩)
end K83
namespace K83
open PySem PySem.Spec PyProof.Rows L2
abbrev E (P:abn) (k:Str) (t:Nat) (v:Sa):YH:=⟨PyData.keyHash P k,.str k t,v⟩
abbrev dJ (P:abn) (k:Str) (t r:Nat):YH:=E P k t (.ref r)
noncomputable def OY (n:Str) (t l k a:Nat) (v w:Sa) (r u:Nat):Obj:=⟨.type "code",none,.fields #[.str n t,.str n (t + 1),.str "/claim/cut.py" (t + 2),.int l 0,.int k 0,.int 0 0,.int 0 0,.int 3 0,.ref a,.bool true,.int 181 0,.ref (a + 1),.none,v,w,.ref r,.int u 0,.int l 0,.str "/claim/cut.py" (u + 1)],#[]⟩
def kh (n:Str) (t l k a u:Nat):Obj:=OY n t l k a (.ref (a + 2)) (.ref (a + 3)) (a + 4) u
def iM (n:Str) (t l k a u:Nat):Obj:=OY n t l k a .none .none (a + 2) u
noncomputable def eH (n:Str) (k:Nat) (m:Sa) (c:Nat):Obj:=⟨.type "function",none,.func (Tw n n (dR (top k)) (cL (top k)) (aI (top k)) .none .none .none m none (.ref c) .none),#[]⟩
def GZ:Sa:=.str "pickalike.worlds" 273
def G0:Sa:=.str "pickalike.checks" 296
def vp:Sa:=.str "pickalike.pairings" 325
def oQ:Sa:=.str "pickalike.layers" 373
def Pk:Sa:=.str "pickalike.parts" 436
def Mg:Sa:=.str "pickalike.points" 455
def jR:Sa:=.str "law_pickalike_k83_whole_orbits" 469
def KF (P:abn):R_:=
(nat_lit 2,⟨.none,none,(.dict #[] 0),#[]⟩)::
(nat_lit 3,⟨(.type "dict"),none,(.dict #[E P "__name__" 165 (.str "law_pickalike_k83_whole_orbits" 469),E P "__doc__" 166 .none,E P "__package__" 167 .none,E P "__loader__" 168 (.builtin "__main__.__loader__#opaque"),E P "__spec__" 169 .none,dJ P "__annotations__" 170 6,dJ P "__builtins__" 171 4,E P "__file__" 173 (.str "/claim/cut.py" 172),E P "__cached__" 174 .none,dJ P "PickError" 206 24,dJ P "NoTongue" 222 37,dJ P "TooMany" 247 56,dJ P "NoCount" 272 75,dJ P "is_whole" 281 84,dJ P "tongue_of" 287 89,dJ P "need_tongue" 295 96,E P "MOST_SMALL" 299 (.int 4 298),dJ P "need_few_points" 307 103,dJ P "need_small" 315 110,dJ P "need_count" 324 117,dJ P "rising" 333 124,dJ P "view" 339 129,dJ P "views" 345 134,dJ P "agree" 355 141,dJ P "goes_behind" 366 148,dJ P "pairings" 372 153,E P "MOST_DEPTH" 376 (.int 6 375),dJ P "added" 384 160,dJ P "pairs_with" 390 165,dJ P "picks_of" 396 170,dJ P "outcomes" 402 175,dJ P "answered_still" 408 180,dJ P "peeled" 414 185,dJ P "pairings_with" 420 190,dJ P "parting_depths" 426 195,dJ P "in_layer" 435 202,dJ P "each_once" 446 209,dJ P "turning" 454 215,dJ P "classes" 462 220,dJ P "orbits" 468 225,dJ P "_law_cell" 478 232,dJ P "_law_names" 484 237,dJ P "_law_some" 494 244,dJ P "_law_pairs" 505 251,dJ P "_law_tongue" 515 258,dJ P "_law_world" 529 265,dJ P "_law_even" 535 270,dJ P "_law_shaped" 541 275,dJ P "_law_orders" 547 280,dJ P "_law_turns" 561 287,dJ P "_law_is_order" 567 292,dJ P "_law_right" 573 297,dJ P "law" 579 302] 53),#[]⟩)::
(nat_lit 83,kh "is_whole" 275 17 1 78 279)::
(nat_lit 84,eH "is_whole" 6 GZ 83)::
(nat_lit 88,iM "tongue_of" 282 19 1 85 285)::
(nat_lit 89,eH "tongue_of" 7 GZ 88)::
(nat_lit 95,kh "need_tongue" 288 22 2 90 293)::
(nat_lit 96,eH "need_tongue" 8 GZ 95)::
(nat_lit 102,kh "need_few_points" 300 27 1 97 305)::
(nat_lit 103,eH "need_few_points" 11 G0 102)::
(nat_lit 109,kh "need_small" 308 31 2 104 313)::
(nat_lit 110,eH "need_small" 12 G0 109)::
(nat_lit 116,kh "need_count" 316 34 3 111 322)::
(nat_lit 117,eH "need_count" 13 G0 116)::
(nat_lit 123,kh "rising" 327 38 1 118 331)::
(nat_lit 124,eH "rising" 15 vp 123)::
(nat_lit 128,iM "view" 334 42 3 125 337)::
(nat_lit 129,eH "view" 16 vp 128)::
(nat_lit 133,iM "views" 340 47 1 130 343)::
(nat_lit 134,eH "views" 17 vp 133)::
(nat_lit 140,kh "agree" 346 49 4 135 353)::
(nat_lit 141,eH "agree" 18 vp 140)::
(nat_lit 147,kh "goes_behind" 356 51 4 142 364)::
(nat_lit 148,eH "goes_behind" 19 vp 147)::
(nat_lit 152,iM "pairings" 367 58 3 149 370)::
(nat_lit 153,eH "pairings" 20 vp 152)::
(nat_lit 159,kh "added" 377 72 2 154 382)::
(nat_lit 160,eH "added" 23 oQ 159)::
(nat_lit 164,iM "pairs_with" 385 74 4 161 388)::
(nat_lit 165,eH "pairs_with" 24 oQ 164)::
(nat_lit 169,iM "picks_of" 391 78 2 166 394)::
(nat_lit 170,eH "picks_of" 25 oQ 169)::
(nat_lit 174,iM "outcomes" 397 80 4 171 400)::
(nat_lit 175,eH "outcomes" 26 oQ 174)::
(nat_lit 179,iM "answered_still" 403 83 2 176 406)::
(nat_lit 180,eH "answered_still" 27 oQ 179)::
(nat_lit 184,iM "peeled" 409 85 2 181 412)::
(nat_lit 185,eH "peeled" 28 oQ 184)::
(nat_lit 189,iM "pairings_with" 415 95 3 186 418)::
(nat_lit 190,eH "pairings_with" 29 oQ 189)::
(nat_lit 194,iM "parting_depths" 421 97 3 191 424)::
(nat_lit 195,eH "parting_depths" 30 oQ 194)::
(nat_lit 201,kh "in_layer" 427 101 3 196 433)::
(nat_lit 202,eH "in_layer" 31 oQ 201)::
(nat_lit 208,kh "each_once" 438 104 1 203 444)::
(nat_lit 209,eH "each_once" 33 Pk 208)::
(nat_lit 210,⟨(.type "tuple"),none,(.seq #[.none] 0),#[]⟩)::
(nat_lit 214,iM "turning" 449 111 3 211 452)::
(nat_lit 215,⟨(.type "function"),none,(.func (Tw "turning" "turning" (dR (top 35)) (cL (top 35)) (aI (top 35)) (.ref 210) .none .none (.str "pickalike.turns" 447) none (.ref 214) .none)),#[]⟩)::
(nat_lit 219,iM "classes" 457 122 2 216 460)::
(nat_lit 220,eH "classes" 37 Mg 219)::
(nat_lit 224,iM "orbits" 463 128 1 221 466)::
(nat_lit 225,eH "orbits" 38 Mg 224)::
(nat_lit 231,kh "_law_cell" 471 133 2 226 476)::
(nat_lit 232,eH "_law_cell" 40 jR 231)::
(nat_lit 236,iM "_law_names" 479 137 2 233 482)::
(nat_lit 237,eH "_law_names" 41 jR 236)::
(nat_lit 243,kh "_law_some" 485 154 2 238 492)::
(nat_lit 244,eH "_law_some" 42 jR 243)::
(nat_lit 250,kh "_law_pairs" 495 161 2 245 503)::
(nat_lit 251,eH "_law_pairs" 43 jR 250)::
(nat_lit 257,kh "_law_tongue" 506 169 1 252 513)::
(nat_lit 258,eH "_law_tongue" 44 jR 257)::
(nat_lit 264,kh "_law_world" 516 174 4 259 527)::
(nat_lit 265,eH "_law_world" 45 jR 264)::
(nat_lit 269,iM "_law_even" 530 183 2 266 533)::
(nat_lit 270,eH "_law_even" 46 jR 269)::
(nat_lit 274,iM "_law_shaped" 536 193 4 271 539)::
(nat_lit 275,eH "_law_shaped" 47 jR 274)::
(nat_lit 279,iM "_law_orders" 542 206 1 276 545)::
(nat_lit 280,eH "_law_orders" 48 jR 279)::
(nat_lit 286,kh "_law_turns" 548 214 2 281 559)::
(nat_lit 287,eH "_law_turns" 49 jR 286)::
(nat_lit 291,iM "_law_is_order" 562 225 2 288 565)::
(nat_lit 292,eH "_law_is_order" 50 jR 291)::
(nat_lit 296,iM "_law_right" 568 231 5 293 571)::
(nat_lit 297,eH "_law_right" 51 jR 296)::
(nat_lit 301,iM "law" 574 236 1 298 577)::
(nat_lit 302,eH "law" 52 jR 301)::[]
noncomputable def VW:Sy:={Ux with main:={Ux.main with body:=[top 1,top 2,top 3,top 4,top 6,top 7,top 8,top 10,top 11,top 12,top 13,top 15,top 16,top 17,top 18,top 19,top 20,top 22,top 23,top 24,top 25,top 26,top 27,top 28,top 29,top 30,top 31,top 33,top 37,top 38,top 40,top 41,top 42,top 43,top 44,top 45,top 46,top 47,top 48,top 49,top 50,top 51,top 52]}}
noncomputable def HK:W.Hook:=W.kHook KF [2,3,83,84,88,89,95,96,102,103,109,110,116,117,123,124,128,129,133,134,140,141,147,148,152,153,159,160,164,165,169,170,174,175,179,180,184,185,189,190,194,195,201,202,208,209,210,214,215,219,220,224,225,231,232,236,237,243,244,250,251,257,258,264,265,269,270,274,275,279,280,286,287,291,292,296,297,301,302] (λ_=>by kernel_rfl)
def XT:Sd->Bool:=λs=>W.xlAt VW [] s && W.recOk (ab7 TJ.row.toRowW) s
theorem look:abp TJ=true:=by decide +kernel
theorem left:W.LeftO TJ.row.prog VW ["turning"] XT (acQ HK) (acR HK) 4266:=λw=>by kernel_rfl
end K83
namespace DX
open PySem PySem.Spec
open Sem (wp)
abbrev Qe (C t:Sq) (dx:Option Sq):Obj:={cls:=.ref C,dict:=dx,data:=.fields #[.ref t,.none,.none,.none,.bool false,.none]}
end DX
namespace DX
open PySem PySem.Spec
section
variable {M:ab_}{A:Td}{E:Sa->Sd->Prop}{s:Sd}
noncomputable def P6 (e C:Sq) (dx:Option Sq) (T:Sq) (h:Ui):Prop:=
 ∃oe vs oT ts,h.get? e=some oe/\oe.cls=.ref C/\oe.dict=dx/\oe.data=.fields vs/\vs[1]?=some (.ref T)/\T≠e/\h.get? T=some oT/\oT.data=.fields ts/\ts[3]?=some .none
end
end DX
namespace DX
open PySem PySem.Spec PyProof.Rows L2
def N4 (a C:Sq) (dx:Option Sq):Ui->Prop:=λh=>∃oe vs,h.get? a=some oe/\oe.cls=.ref C/\oe.dict=dx/\oe.data=.fields vs
abbrev XO (a C:Sq) (dx:Option Sq):HO:=.ext (N4 a C dx)
noncomputable def Fl (e C:Sq) (dx:Option Sq):Option Sq->Ui->Prop
 | none,h=>∃t,h.get? e=some (Qe C t dx)
 | some T,h=>P6 e C dx T h
structure O9 (P:Sy) (w:S9) (fs ex:List Sq) (H:Hp) (s:Sd) (E:XK) (e C:Sq) (dx To:Option Sq) (H':Hp) (s':Sd):Prop where
 os:s'.os=s.os
 bare:X_ s'.gens
 un:Un fs ex H H' s.heap s'.heap
 hok:gx P w H' s'.heap
 fl:Fl e C dx To s'.heap
 newE:s.heap.objs.size<=e
 newT:∀T∈To.toList,s.heap.objs.size<=T
 Gd:H' e=some (XO e C dx)
 free:∀T∈To.toList,H' T=none
 wish:E (.ref e) dx H'
def vR (P:Sy) (w:S9):pR:=λouter H s E v s'=>∃e C dx T H',v=.ref e/\O9 P w (frs outer) [] H s E e C dx (some T) H' s'
end DX
namespace DX
open PySem PySem.Spec PyProof.Rows
open Sem (wp)
section
variable {prog:Sy}{w:S9}{A:Td}{E:Sa->Sd->Prop}{s:Sd}{K:R_}{x C:Sq}{ox:Obj}{od:Option Obj}{name:Str}
theorem GJ {M:ab_}{nameV:Sa}{Q:Unit->Sd->Prop}(X:K.In s.heap) (I:V4 s.heap x ox C od) (hm:VV K C (.type "BaseException")=some true) (hq:Q () s):SH M A (Ys "BaseException.__getattribute__" ⟨[.ref x,nameV],[]⟩) Q E s:=by
 have hk:builtinKind "BaseException.__getattribute__"=some .slot:=by decide +kernel
 have QT:splitId "BaseException.__getattribute__"=some ("BaseException","__getattribute__"):=by decide +kernel
 have ha:=F.args_bexc_ga (.ref x) nameV
 have L1:=I.type (M:=M)
 have L2:=W.looks_mroIn (M:=M) X hm
 simp only [Ys,hk,QT]
 have L:W.Looks M s.heap (abq (.ref x) (.type "BaseException")) true:=L1.andThen L2
 refine R9 (L.here ?_)
 obtain ⟨h,g,d,t,os⟩:=s
 repeat (any_goals (first | assumption | wp_step))
theorem entry_class {tk:Tok}{Q:Fin->Sd->Prop}(X:K.In s.heap) (I:V4 s.heap x ox C od) (hf:Xb K C od "__class__"=some (.bind (.builtin "getset_descriptor.__get__") (.builtin "object.__class__"))) (hm:VV K C (.type "object")=some true) (h:Q (.done (.ret (.ref C))) s):
  SH (SM prog w) A (WX.«object.__getattribute__» ⟨[.ref x,.str "__class__" tk],[]⟩) Q E s:=by
 obtain ⟨hh,g,d,t,os⟩:=s
 have L0:=I.type (M:=SM prog w)
 have L1:=W.looks_find (M:=SM prog w) X I hf
 refine R9 (Sb (R9 (Sb (R9 (L0.at (R9 (L1.at ?_)))))))
 show SH _ _ (holding [_] (call _ [_,.ref x,.ref C]) >>= ret) _ _ _
 exact R9 (Te (ZU (W.class_get (ox:=ox) (od:=od) X I hm (Sb h))))
theorem Me {tk:Tok}{fill expr:Bool}{Q:Sa->Sd->Prop}(X:K.In s.heap) (I:V4 s.heap x ox C od) (hga:Vp K (.ref C) "__getattribute__"=some (some (.builtin "BaseException.__getattribute__"))) (hgt:Vp K (.ref C) "__getattr__"=some none)
  (h:UX (SM prog w) A (.call (.builtin "BaseException.__getattribute__") ⟨[.ref x,.str name tk],[]⟩) (λr s'=>match r with | .ok (.ret v)=>SH (SM prog w) A (handedOut v) Q E s' | _=>False) s):SH (SM prog w) A (getAttrBy (.ref x) (.str name tk) fill expr) Q E s:=by
 obtain ⟨hh,g,d,t,os⟩:=s
 have L0:=I.type (M:=SM prog w)
 have L1:=Y6 (M:=SM prog w) X hga
 have L2:=Y6 (M:=SM prog w) X hgt
 have QU:(Yd "BaseException.__getattribute__" == Yd "object.__getattribute__")=false:=by decide +kernel
 unfold getAttrBy
 refine Te (R9 (L0.at (R9 (L1.at ?_))))
 dsimp only
 rw [QU,VL,if_neg (by decide)]
 unfold getAttrByItsOwn
 refine R9 (L2.at ?_)
 have h0:(expr && onTheHeap (Yd "BaseException.__getattribute__"))=false:=by cases expr <;> rfl
 refine R9 (Ws (Te ?_))
 unfold callGetattribute
 rw [h0,if_neg (by decide)]
 unfold boundAndCalled
 rw [Xc.ga.bind (.ref x)]
 refine R9 (Sb (ZU (VA h λr s' q=>?_)))
 match r,q with
 | .ok (.ret v),q=>exact q
theorem get_class {Q:Option Sa->Sd->Prop}(X:K.In s.heap) (I:V4 s.heap x ox C od) (hga:Vp K (.ref C) "__getattribute__"=some (some (.builtin "BaseException.__getattribute__"))) (hgt:Vp K (.ref C) "__getattr__"=some none)
  (hm:VV K C (.type "BaseException")=some true) (hf:Xb K C od "__class__"=some (.bind (.builtin "getset_descriptor.__get__") (.builtin "object.__class__"))) (ho:VV K C (.type "object")=some true) (h:Q (some (.ref C)) {s with toks:=s.toks + 1}):
  SH (SM prog w) A (getAttr? (.ref x) "__class__") Q E s:=by
 obtain ⟨hp,g,d,t,os⟩:=s
 unfold getAttr? getAttrBy?
 refine R9 (wpAny_mkText (R9 (Ws (Me (s:=⟨hp,g,d,t + 1,os⟩) X I hga hgt ?_))))
 refine Y7 Xc.ga.plain F.entry_bexc_ga (GJ (s:=⟨hp,g,d,t + 1,os⟩) X I hm (entry_class (s:=⟨hp,g,d,t + 1,os⟩) X I hf ho ?_))
 exact Sb (Sb h)
end
end DX
namespace DX
open PySem PySem.Spec PyProof.Rows L2
abbrev AD:List Sa:=[.type "ValueError",.type "Exception",.type "BaseException",.type "object"]
def quiet:List Str:=["__init__","__setattr__","name","letter","many","told","point","row"]
structure GX (K:R_) (P:Sq):Prop where
 gt:Z0 K (.builtin "object.__class__") "__get__"=some (some (.builtin "getset_descriptor.__get__"))
 tk:aaC K (.builtin "object.__class__")=some true
 lk:∃nm q N bs sn sub ab col dd k0 k1 k2 k3 k5,K.lookup P=some (excClassObj nm q P N bs AD true sn sub ab col dd k0 k1 k2 k3 k5 "ValueError.__new__")/\∀h,K.In h->∃m,h.Ns N m/\∀n∈quiet,m n=none
structure XE (K:R_) (P C:Sq):Prop where
 lk:∃nm q N bs sn sub ab col dd k0 k1 k2 k3 k5,K.lookup C=some (excClassObj nm q C N bs (.ref P::AD) true sn sub ab col dd k0 k1 k2 k3 k5 "ValueError.__new__")
 ga:Vp K (.ref C) "__getattribute__"=some (some (.builtin "BaseException.__getattribute__"))
 gt:Vp K (.ref C) "__getattr__"=some none
 cl:Vp K (.ref C) "__class__"=some (some (.builtin "object.__class__"))
section
variable {K:R_}{P C:Sq}
theorem Er (X:XE K P C):∃cd,Wt K C=some cd/\cd.mro=.ref C::.ref P::AD/\cd.hasDict=true/\W.typeIn K (.ref C)=some (.type "type"):=by
 obtain ⟨nm,q,N,bs,sn,sub,ab,col,dd,k0,k1,k2,k3,k5,l⟩:=X.lk
 have h1:Wt K C=some {name:=nm,bases:=bs,mro:=.ref C::.ref P::AD,ns:=N,qualname:=q,hasDict:=true,slotNames:=sn,subclasses:=sub,abstract:=ab,collection:=col,hasDel:=false}:=by
  unfold Wt
  rw [l]
 refine ⟨_,h1,rfl,rfl,?_⟩
 show (K.lookup C).map (·.cls)=_
 rw [l]
 rfl
theorem zG (X:XE K P C) (b:Sa):VV K C b=some ((Wl C::.ref P::AD).contains b):=by
 obtain ⟨cd,h1,h2,_⟩:=Er X
 unfold VV
 rw [h1,Yt,h2]
 rfl
end
theorem Mz {K:R_}{P C:Sq}(X:XE K P C){T:String}(h1:aaD T=true) (h2:AD.contains (.type T)=false):Zc K (.ref C) (.type T)=some false:=by
 unfold Zc W.kitCls
 rw [if_neg (by simp)]
 simp only [h1,if_true]
 show VV K C _=_
 rw [zG X,ZF,ZF,h2]
 rfl
theorem JX {K:R_}{C:Sq}{od:Option Obj}{name:Str}{a g:Sa}(hc:(Wt K C).isSome=true) (ha:Vp K (.ref C) name=some (some a)) (hg:Z0 K a "__get__"=some (some g)) (ht:aaC K a=some true):Xb K C od name=some (.bind g a):=by
 obtain ⟨cd,hc⟩:=Ub.mp hc
 unfold Xb
 rw [hc,Yt,ha,Yt]
 simp [hg,ht]
theorem G8 {K:R_}{e P C:Sq}(G:GX K P) (E:XE K P C):W.KitX K (.ref e) (.ref C) (λh=>∃ox od,V4 h e ox C od):=by
 obtain ⟨cd,hc,hm,hd,ht⟩:=Er E
 refine ⟨λM h _ ⟨ox,od,I⟩=>I.type,λM h X _=>?_,λh tp dd R1 n sl X htp=>?_,λX ⟨ox,od,I⟩ k=>?_⟩
 ·unfold Wt at hc
  split at hc
  ·rename_i ho
   intro A' Q' E' s' k q
   unfold isType loadHead
   exact R9 (wpAny_loadPart (k _ _ (X _ _ ho)) (Sb q))
  ·cases hc
 ·refine XM.mpr λq=>?_
  obtain rfl:C=tp:=ac0 (beq_iff_eq.mp q)
  unfold Wt at hc
  split at hc
  ·rename_i ho
   have z:=(X _ _ ho).symm.trans htp
   cases z
  ·cases hc
 ·exact get_class X I E.ga E.gt (by rw [zG E];simp) (JX (by rw [hc];rfl) E.cl G.gt G.tk) (by rw [zG E];simp) k
end DX
namespace DL
open PySem PySem.Spec PyProof.Rows L2
inductive D where
 | non | bl (b:Bool) | int (i:Int) | str (x:Str) | tup (xs:List D) | lst (xs:List D) | emp
 | exn (cls:Str) (ns:List Str) (ds:List D)
  | dct (ks vs:List D)
mutual
noncomputable def isKey:D->Bool
 | .int _=>true
 | .tup xs=>areKeys xs
 | _=>false
noncomputable def areKeys:List D->Bool
 | []=>true
 | x::xs=>isKey x && areKeys xs
end
mutual
noncomputable def cB:D->Int
 | .int i=>V2 i
 | .tup xs=>abr (TY (cX xs))
 | _=>0
noncomputable def cX:List D->List Int
 | []=>[]
 | x::xs=>cB x::cX xs
end
mutual
noncomputable def dep:D->Nat
 | .tup xs=>deps xs + 1
 | .lst xs=>deps xs + 1
 | .emp=>5000
 | .exn _ _ _=>5000
 | .dct _ _=>5000
 | _=>0
noncomputable def deps:List D->Nat
 | []=>0
 | x::xs=>max (dep x) (deps xs)
end
structure LB (ks:List D):Prop where
 key:areKeys ks=true
 nd:ks.Nodup
 dp:deps ks<=8
 tp:∀k∈ks,∃xs,k=.tup xs
def yt (p:Int×V×V) (e:YH):Prop:=e.hash=p.1/\RelV p.2.1 e.key/\RelV p.2.2 e.val
abbrev lI (a:Sq) (ep:Nat) (R7:List (Int×V×V)):HO:=.ext λh=>∃o es,h.get? a=some o/\o.ExactDict/\o.data=.dict es ep/\XD yt R7 es.toList
noncomputable def XF (J:Hp) (dx:Option Sq) (ns:List Str) (vs:List V):Prop:=(dx=none/\ns=[]/\vs=[])\/∃d,dx=some d/\ns.length=vs.length/\J d=some (.xd (ns.zip vs))
theorem XF.mono {J J':Hp}(e:aW J J'){dx:Option Sq}{ns:List Str}{vs:List V}(h:XF J dx ns vs):XF J' dx ns vs:=by
 rcases h with h | ⟨d,h1,h2,h3⟩
 ·exact .inl h
 ·exact .inr ⟨d,h1,h2,e _ _ h3⟩
mutual
inductive Rep (K:R_) (J:Hp):D->V->Prop
 | non:Rep K J .non .non
 | bl (b:Bool):Rep K J (.bl b) (.bl b)
 | int (i:Int):Rep K J (.int i) (.int i)
 | str (x:Str):Rep K J (.str x) (.str x)
 | emp {a:Sq}:J a=some (.dK [])->Rep K J .emp (.ref a)
 | tup {a:Sq}{vs:List V}{ds:List D}:dQ K J a vs->aK K J ds vs->Rep K J (.tup ds) (.ref a)
 | lst {a:Sq}{vs:List V}{ds:List D}:dD K J a vs->aK K J ds vs->Rep K J (.lst ds) (.ref a)
 | exn {a C:Sq}{dx:Option Sq}{cls:Str}{ns:List Str}{vs:List V}{ds:List D}:J a=some (DX.XO a C dx)->Tn K S3 cls=some (some (.ref C))->XF J dx ns vs->aK K J ds vs->(∃P,DX.GX K P/\DX.XE K P C)->Rep K J (.exn cls ns ds) (.ref a)
 | dct {a:Sq}{ep:Nat}{ks vs:List D}{us ws:List V}:J a=some (lI a ep ((cX ks).zip (us.zip ws)))->aK K J ks us->aK K J vs ws->LB ks->(a == VJ)=false/\ks.length=vs.length->Rep K J (.dct ks vs) (.ref a)
inductive aK (K:R_) (J:Hp):List D->List V->Prop
 | nil:aK K J [] []
 | cons {d:D}{v:V}{ds:List D}{vs:List V}:Rep K J d v->aK K J ds vs->aK K J (d::ds) (v::vs)
end
theorem gj {K:R_}{H H':Hp}{a:Sq}{xs:List V}(e:aW H H') (h:dQ K H a xs):dQ K H' a xs:=by
 rcases h with (h | ⟨o,h⟩) | h
 ·exact .inl (.inl (e _ _ h))
 ·exact .inl (.inr ⟨o,e _ _ h⟩)
 ·exact .inr h
mutual
theorem Rep.mono {K:R_}{J J':Hp}(e:aW J J'):∀{d:D}{v:V},Rep K J d v->Rep K J' d v
 | _,_,.non=>.non
 | _,_,.bl b=>.bl b
 | _,_,.int i=>.int i
 | _,_,.str x=>.str x
 | _,_,.emp h=>.emp (e _ _ h)
 | _,_,.tup h hs=>.tup (gj e h) (aK.mono e hs)
 | _,_,.lst h hs=>.lst (e.seq h) (aK.mono e hs)
 | _,_,.exn h1 h2 h3 hs hx=>.exn (e _ _ h1) h2 (h3.mono e) (aK.mono e hs) hx
 | _,_,.dct h h1 h2 h3 h4=>.dct (e _ _ h) (aK.mono e h1) (aK.mono e h2) h3 h4
theorem aK.mono {K:R_}{J J':Hp}(e:aW J J'):∀{ds:List D}{vs:List V},aK K J ds vs->aK K J' ds vs
 | _,_,.nil=>.nil
 | _,_,.cons h hs=>.cons (Rep.mono e h) (aK.mono e hs)
end
section
variable {K:R_}{J:Hp}
theorem aK.length:∀{ds:List D}{vs:List V},aK K J ds vs->ds.length=vs.length
 | _,_,.nil=>rfl
 | _,_,.cons _ hs=>congrArg (· + 1) (aK.length hs)
theorem aK.get:∀{ds:List D}{vs:List V}{i:Nat}{d:D},aK K J ds vs->ds[i]?=some d->∃v,vs[i]?=some v/\Rep K J d v
 | _,_,_,_,.nil,e=>by simp at e
 | _,_,0,_,.cons r _,e=>by simp at e;subst e;exact ⟨_,rfl,r⟩
 | _,_,i + 1,d,.cons _ t,e=>by
  obtain ⟨v,h1,h2⟩:=aK.get (i:=i) (d:=d) t (by simpa using e)
  exact ⟨v,by simpa using h1,h2⟩
theorem aK.append:∀{ds es:List D}{vs us:List V},aK K J ds vs->aK K J es us->aK K J (ds++es) (vs++us)
 | _,_,_,_,.nil,s=>s
 | _,_,_,_,.cons r t,s=>.cons r (aK.append t s)
theorem aK.take:∀{ds:List D}{vs:List V}(n:Nat),aK K J ds vs->aK K J (ds.take n) (vs.take n)
 | _,_,0,_=>.nil
 | _,_,_ + 1,.nil=>.nil
 | _,_,n + 1,.cons r t=>.cons r (aK.take n t)
theorem aK.drop:∀{ds:List D}{vs:List V}(n:Nat),aK K J ds vs->aK K J (ds.drop n) (vs.drop n)
 | _,_,0,r=>r
 | _,_,_ + 1,.nil=>.nil
 | _,_,n + 1,.cons _ t=>aK.drop n t
end
noncomputable def fm (K:R_) (J H:Hp) (a:Sq) (ks vs:List D):Prop:=∃us ws ep,H a=some (lI a ep ((cX ks).zip (us.zip ws)))/\aK K J ks us/\aK K J vs ws/\LB ks/\(a == VJ)=false/\ks.length=vs.length
theorem fm.mono {K:R_}{J J' H H':Hp}{a:Sq}{ks vs:List D}(e:aW J J') (e':aW H H'):fm K J H a ks vs->fm K J' H' a ks vs
 | ⟨us,ws,ep,h1,h2,h3,h4⟩=>⟨us,ws,ep,e' _ _ h1,h2.mono e,h3.mono e,h4⟩
theorem fm.ne {K:R_}{J H:Hp}{a:Sq}{ks vs:List D}:fm K J H a ks vs->H a≠none
 | ⟨us,ws,ep,h1,_⟩=>by rw [h1];intro z;cases z
theorem fm.rep {K:R_}{J H:Hp}{a:Sq}{ks vs:List D}(e:aW J H):fm K J H a ks vs->Rep K H (.dct ks vs) (.ref a)
 | ⟨us,ws,ep,h1,h2,h3,h4,h5⟩=>.dct h1 (h2.mono e) (h3.mono e) h4 h5
structure Exc where
 cls:Str
 ns:List Str
 ds:List D
inductive M (α:Type) where
 | bad | ok (a:α) | exc (x:Exc)
noncomputable def M.bind {α β:Type}:M α->(α->M β)->M β
 | .bad,_=>.bad
 | .ok a,f=>f a
 | .exc x,_=>.exc x
instance:Monad M where
 pure:=M.ok
 bind:=M.bind
@[simp] theorem aM {α β:Type}(a:α) (f:α->M β):(M.ok a >>= f)=f a:=rfl
noncomputable def dg {α:Type}(m:M α) (Q:α->Prop) (T:Exc->Prop):Prop:=match m with
 | .bad=>False
 | .ok a=>Q a
 | .exc x=>T x
theorem aL {α β:Type}{m:M α}{f:α->M β}{Q:β->Prop}{T:Exc->Prop}(h:dg (m >>= f) Q T):dg m (λa=>dg (f a) Q T) T:=by
 cases m with
 | bad=>exact h
 | ok a=>exact h
 | exc x=>exact h
theorem aG {α:Type}{m:M α}{Q Q':α->Prop}{T:Exc->Prop}(h:dg m Q T) (k:∀a,Q a->Q' a):dg m Q' T:=by
 cases m with
 | bad=>exact h
 | ok a=>exact k a h
 | exc x=>exact h
inductive Md where
 | fresh | own | bor
inductive R where
 | d (x:D) | l (m:Md) (xs:List D)
  | mo (ks vs:List D) | mb (ks vs:List D) | mf (ks vs:List D)
inductive S where
 | d (x:D) | own (xs:List D) | bor (xs:List D) | dk (ks vs:List D) | db (ks vs:List D)
  | fn (x:Str)
abbrev Ev:=List (Option S)
abbrev Mn:=List D ⊕ (List D×List D)
noncomputable def mS:Mn->S
 | .inl xs=>.own xs
 | .inr p=>.dk p.1 p.2
structure C where
 K:R_
 H0:Hp
 J0:Hp
 T:Exc->Prop
structure HI (c:C) (J H:Hp):Prop where
 sub:aW J H
 ent:aW c.H0 H
 entJ:aW c.J0 J
 frz:∀a,c.H0 a≠none->c.J0 a=none->J a=none
structure Ext (J H J' H':Hp):Prop where
 h:aW H H'
 j:aW J J'
 sub:aW J' H'
 frz:∀a,H a≠none->J a=none->J' a=none
theorem aW.ne {H H':Hp}(e:aW H H'){a:Sq}(h:H a≠none):H' a≠none:=by
 cases q:H a with
 | none=>exact absurd q h
 | some o=>rw [e a o q];intro z;cases z
theorem Ext.refl {J H:Hp}(h:aW J H):Ext J H J H:=⟨aW.refl H,aW.refl J,h,λ_ _ q=>q⟩
theorem Ext.trans {J H J1 H1 J2 H2:Hp}(a:Ext J H J1 H1) (b:Ext J1 H1 J2 H2):Ext J H J2 H2:=
 ⟨a.h.trans b.h,a.j.trans b.j,b.sub,λp h q=>b.frz p (aW.ne a.h h) (a.frz p h q)⟩
theorem HI.ext {c:C}{J H J' H':Hp}(h:HI c J H) (e:Ext J H J' H'):HI c J' H':=
 ⟨e.sub,h.ent.trans e.h,h.entJ.trans e.j,λa h0 j0=>e.frz a (aW.ne h.ent h0) (h.frz a h0 j0)⟩
theorem dH {H:Hp}{p:Sq}(h:H p=none) (o:HO):aW H (upd H p o):=λb u q=>by rw [bI (fT q h)];exact q
theorem Ext.new {J H:Hp}(h:aW J H){p:Sq}(e:H p=none) (o:HO):Ext J H J (upd H p o):=
 ⟨dH e o,aW.refl J,λb u q=>dH e o b u (h b u q),λ_ _ q=>q⟩
theorem Ext.newJ {J H:Hp}(h:aW J H){p:Sq}(e:H p=none) (o:HO):Ext J H (upd J p o) (upd H p o):=
 ⟨dH e o,dH (h.free e) o,λb u q=>by
  by_cases hb:b=p
  ·subst hb;rw [cO] at q ⊢;exact q
  ·rw [bI hb] at q ⊢;exact h b u q,λa ha q=>by
  have:a≠p:=λz=>ha (z▸e)
  rw [bI this];exact q⟩
noncomputable def sf (c:C) (J H:Hp):S->V->Prop
 | .d x,v=>Rep c.K J x v
 | .own xs,v=>∃a vs,v=.ref a/\H a=some (.lst vs)/\J a=none/\c.H0 a=none/\aK c.K J xs vs
 | .bor xs,v=>∃a vs,v=.ref a/\dD c.K c.H0 a vs/\aK c.K J xs vs
 | .dk ks vs,v=>∃a,v=.ref a/\fm c.K J H a ks vs/\J a=none/\c.H0 a=none
 | .db ks vs,v=>∃a,v=.ref a/\fm c.K J c.H0 a ks vs
 | .fn x,v=>∃f,v=.ref f/\Tn c.K S3 x=some (some (.ref f))
theorem sf.ext {c:C}{J H J' H':Hp}(e:Ext J H J' H'):∀{x:S}{v:V},sf c J H x v->sf c J' H' x v
 | .d x,v,h=>Rep.mono e.j h
 | .own xs,v,⟨a,vs,h1,h2,h3,h4,h5⟩=>⟨a,vs,h1,e.h _ _ h2,e.frz a (by rw [h2];intro z;cases z) h3,h4,aK.mono e.j h5⟩
 | .bor xs,v,⟨a,vs,h1,h2,h3⟩=>⟨a,vs,h1,h2,aK.mono e.j h3⟩
 | .dk _ _,v,⟨a,h1,h2,h3,h4⟩=>⟨a,h1,h2.mono e.j e.h,e.frz a h2.ne h3,h4⟩
 | .db _ _,v,⟨a,h1,h2⟩=>⟨a,h1,h2.mono e.j (aW.refl _)⟩
 | .fn _,v,h=>h
structure SR (c:C) (J H:Hp) (σ:L2.St) (env:Ev):Prop where
 hp:HI c J H
 len:env.length=σ.length
 at_:∀(i:Nat) (x:S),env[i]?=some (some x)->∃v,σ[i]?=some (some v)/\sf c J H x v
 sep:∀(i j:Nat) (xs ys:Mn) (v:V),i≠j->env[i]?=some (some (mS xs))->env[j]?=some (some (mS ys))->σ[i]?=some (some v)->σ[j]?≠some (some v)
theorem SR.ext {c:C}{J H J' H':Hp}{σ:L2.St}{env:Ev}(h:SR c J H σ env) (e:Ext J H J' H'):SR c J' H' σ env:=
 ⟨h.hp.ext e,h.len,λi x q=>let ⟨v,q1,q2⟩:=h.at_ i x q;⟨v,q1,q2.ext e⟩,h.sep⟩
theorem SR.mine {c:C}{J H:Hp}{σ:L2.St}{env:Ev}(sr:SR c J H σ env){i:Nat}:∀{x:Mn},env[i]?=some (some (mS x))->∃p,σ[i]?=some (some (.ref p))/\H p≠none/\J p=none/\c.H0 p=none
 | .inl xs,h=>let ⟨_,k1,p,vs,e,k2,k3,k4,_⟩:=sr.at_ i (.own xs) h;⟨p,e▸k1,by rw [k2];exact λz=>(by cases z),k3,k4⟩
 | .inr q,h=>let ⟨_,k1,p,e,k2,k3,k4⟩:=sr.at_ i (.dk q.1 q.2) h;⟨p,e▸k1,k2.ne,k3,k4⟩
noncomputable def RR (c:C) (He J H:Hp):R->V->Prop
 | .d x,v=>Rep c.K J x v
 | .l .fresh xs,v=>∃a vs,v=.ref a/\H a=some (.lst vs)/\J a=none/\He a=none/\aK c.K J xs vs
 | .l .own xs,v=>∃a vs,v=.ref a/\H a=some (.lst vs)/\J a=none/\c.H0 a=none/\aK c.K J xs vs
 | .l .bor xs,v=>∃a vs,v=.ref a/\dD c.K c.H0 a vs/\aK c.K J xs vs
 | .mo ks vs,v=>∃a,v=.ref a/\fm c.K J H a ks vs/\J a=none/\c.H0 a=none
 | .mb ks vs,v=>∃a,v=.ref a/\fm c.K J c.H0 a ks vs
 | .mf ks vs,v=>∃a,v=.ref a/\fm c.K J H a ks vs/\J a=none/\He a=none
theorem RR.ext {c:C}{He J H J' H':Hp}(e:Ext J H J' H'):∀{x:R}{v:V},RR c He J H x v->RR c He J' H' x v
 | .d x,v,h=>Rep.mono e.j h
 | .l .fresh xs,v,⟨a,vs,h1,h2,h3,h4,h5⟩=>⟨a,vs,h1,e.h _ _ h2,e.frz a (by rw [h2];intro z;cases z) h3,h4,aK.mono e.j h5⟩
 | .l .own xs,v,⟨a,vs,h1,h2,h3,h4,h5⟩=>⟨a,vs,h1,e.h _ _ h2,e.frz a (by rw [h2];intro z;cases z) h3,h4,aK.mono e.j h5⟩
 | .l .bor xs,v,⟨a,vs,h1,h2,h3⟩=>⟨a,vs,h1,h2,aK.mono e.j h3⟩
 | .mo _ _,v,⟨a,h1,h2,h3,h4⟩=>⟨a,h1,h2.mono e.j e.h,e.frz a h2.ne h3,h4⟩
 | .mb _ _,v,⟨a,h1,h2⟩=>⟨a,h1,h2.mono e.j (aW.refl _)⟩
 | .mf _ _,v,⟨a,h1,h2,h3,h4⟩=>⟨a,h1,h2.mono e.j e.h,e.frz a h2.ne h3,h4⟩
theorem RR.from {c:C}{He He' J H:Hp}(e:aW He He'):∀{x:R}{v:V},RR c He' J H x v->RR c He J H x v
 | .d x,v,h=>h
 | .l .fresh xs,v,⟨a,vs,h1,h2,h3,h4,h5⟩=>⟨a,vs,h1,h2,h3,e.free h4,h5⟩
 | .l .own xs,v,h=>h
 | .l .bor xs,v,h=>h
 | .mo _ _,v,h=>h
 | .mb _ _,v,h=>h
 | .mf _ _,v,⟨a,h1,h2,h3,h4⟩=>⟨a,h1,h2,h3,e.free h4⟩
noncomputable def kI:R->M (List D)
 | .d (.lst xs)=>.ok xs
 | .l _ xs=>.ok xs
 | _=>.bad
noncomputable def toD:R->M D
 | .d x=>.ok x
 | .l .fresh xs=>.ok (.lst xs)
 | .mf ks vs=>.ok (.dct ks vs)
 | _=>.bad
theorem RR.list {c:C}{He J H:Hp}(hp:HI c J H):∀{r:R}{v:V}{xs:List D},RR c He J H r v->kI r=.ok xs->∃a vs,v=.ref a/\dD c.K H a vs/\aK c.K J xs vs
 | .d (.lst ys),v,xs,h,e=>by
  cases e
  cases h with
  | lst h hs=>exact ⟨_,_,rfl,hp.sub.seq h,hs⟩
 | .l .fresh ys,v,xs,⟨a,vs,h1,h2,h3,h4,h5⟩,e=>by cases e;exact ⟨a,vs,h1,dD.of h2,h5⟩
 | .l .own ys,v,xs,⟨a,vs,h1,h2,h3,h4,h5⟩,e=>by cases e;exact ⟨a,vs,h1,dD.of h2,h5⟩
 | .l .bor ys,v,xs,⟨a,vs,h1,h2,h3⟩,e=>by cases e;exact ⟨a,vs,h1,hp.ent.seq h2,h3⟩
 | .d .non,_,_,_,e=>nomatch e
 | .d (.bl _),_,_,_,e=>nomatch e
 | .d (.int _),_,_,_,e=>nomatch e
 | .d (.str _),_,_,_,e=>nomatch e
 | .d (.tup _),_,_,_,e=>nomatch e
 | .d .emp,_,_,_,e=>nomatch e
 | .d (.dct _ _),_,_,_,e=>nomatch e
 | .mo _ _,_,_,_,e=>nomatch e
 | .mb _ _,_,_,_,e=>nomatch e
 | .mf _ _,_,_,_,e=>nomatch e
theorem Bx {Je He J H:Hp}(x:Ext Je He J H){a:Sq}{o:HO}(h2:H a=some o) (h3:J a=none) (h4:He a=none):Ext Je He (upd J a o) H:=by
 refine ⟨x.h,x.j.trans (dH h3 _),λb u q=>?_,λb hb q=>?_⟩
 ·by_cases hb:b=a
  ·subst hb;rw [cO] at q;cases q;exact h2
  ·rw [bI hb] at q;exact x.sub b u q
 ·have:b≠a:=λz=>hb (z▸h4)
  rw [bI this];exact x.frz b hb q
theorem freeze {c:C}{Je He J H:Hp}(x:Ext Je He J H):∀{r:R}{v:V}{d:D},RR c He J H r v->toD r=.ok d->∃J',Ext Je He J' H/\aW J J'/\Rep c.K J' d v
 | .d y,v,d,h,e=>by cases e;exact ⟨J,x,aW.refl J,h⟩
 | .l .fresh ys,v,d,⟨a,vs,h1,h2,h3,h4,h5⟩,e=>by
  cases e
  subst h1
  exact ⟨_,Bx x h2 h3 h4,dH h3 _,.lst (.inl (.inl cO)) (aK.mono (dH h3 _) h5)⟩
 | .mf ks vs,v,d,⟨a,h1,⟨us,ws,ep,h2,m1,m2,m3⟩,h3,h4⟩,e=>by
  cases e
  subst h1
  exact ⟨_,Bx x h2 h3 h4,dH h3 _,.dct cO (m1.mono (dH h3 _)) (m2.mono (dH h3 _)) m3.1 m3.2⟩
 | .l .own _,_,_,_,e=>nomatch e
 | .l .bor _,_,_,_,e=>nomatch e
 | .mo _ _,_,_,_,e=>nomatch e
 | .mb _ _,_,_,_,e=>nomatch e
abbrev G (α:Type):=Ev->M α
def tD (c:C) (g:G R):TE:=λσ H Q=>∃J env,SR c J H σ env/\dg (g env) (λr=>∀v J' H',Ext J H J' H'->RR c H J' H' r v->Q v H') c.T
def PD (X:Cx) (c:C) (e:Tc) (g:G R):Prop:=PE X e (tD c g)
def tB (c:C) (g:G Bool):TT:=λσ H Q=>∃J env,SR c J H σ env/\dg (g env) (λb=>∀J' H',Ext J H J' H'->Q b H') c.T
def PB (X:Cx) (c:C) (e:Tc) (g:G Bool):Prop:=PT X e (tB c g)
noncomputable def mD (c:C) (He J H:Hp):List R->List V->Prop
 | [],vs=>vs=[]
 | r::rs,vs=>∃v us,vs=v::us/\RR c He J H r v/\mD c He J H rs us
def tA (c:C) (g:G (List R)):TA:=λσ H Q=>∃J env,SR c J H σ env/\dg (g env) (λrs=>∀vs J' H',Ext J H J' H'->mD c H J' H' rs vs->Q vs H') c.T
def D4 (X:Cx) (c:C) (es:List Tc) (g:G (List R)):Prop:=PA X es (tA c g)
def Qj (c:C) (g:G (List D)):TA:=λσ H Q=>∃J env,SR c J H σ env/\dg (g env) (λds=>∀vs J' H',Ext J H J' H'->aK c.K J' ds vs->Q vs H') c.T
def P9 (X:Cx) (c:C) (es:List Tc) (g:G (List D)):Prop:=PA X es (Qj c g)
inductive O where
 | nx (e:Ev) | rt (r:R) | bk (e:Ev) | ct (e:Ev)
noncomputable def RF (c:C) (J H:Hp):R->V->Prop
 | .d x,v=>Rep c.K J x v
 | .l _ xs,v=>∃a vs,v=.ref a/\H a=some (.lst vs)/\J a=none/\c.H0 a=none/\aK c.K J xs vs
 | .mf ks vs,v=>∃a,v=.ref a/\fm c.K J H a ks vs/\J a=none/\c.H0 a=none
 | _,_=>False
noncomputable def oP (c:C) (J:Hp) (E:Ends):O->Prop
 | .nx e=>∀σ' J' H',aW J J'->SR c J' H' σ' e->E.nx σ' H'
 | .rt r=>∀v J' H',aW J J'->HI c J' H'->RF c J' H' r v->E.rt v H'
 | .bk e=>∀σ' J' H',aW J J'->SR c J' H' σ' e->E.bk σ' H'
 | .ct e=>∀σ' J' H',aW J J'->SR c J' H' σ' e->E.ct σ' H'
def tS (c:C) (g:G O):TS:=λE σ H=>∃J env,SR c J H σ env/\dg (g env) (oP c J E) c.T
def Bf (X:Cx) (c:C) (st:Vu) (g:G O):Prop:=PS X st (tS c g)
def IK (X:Cx) (c:C) (st:List Vu) (g:G O):Prop:=kH X st (tS c g)
theorem oP.mono {c:C}{J J1:Hp}{E:Ends}(e:aW J J1):∀{o:O},oP c J E o->oP c J1 E o
 | .nx _,h=>λσ' J' H' q r=>h σ' J' H' (e.trans q) r
 | .rt _,h=>λσ' J' H' q r=>h σ' J' H' (e.trans q) r
 | .bk _,h=>λσ' J' H' q r=>h σ' J' H' (e.trans q) r
 | .ct _,h=>λσ' J' H' q r=>h σ' J' H' (e.trans q) r
theorem gg {X:Cx}{e:Tc}{t t':TE}(h:PE X e t) (k:∀σ H Q,t' σ H Q->t σ H Q):PE X e t':=λR0 s σ H Q I q=>h R0 s σ H Q I (k σ H Q q)
theorem yi {X:Cx}{e:Tc}{t t':TT}(h:PT X e t) (k:∀σ H Q,t' σ H Q->t σ H Q):PT X e t':=λR0 s σ H Q I q=>h R0 s σ H Q I (k σ H Q q)
theorem yh {X:Cx}{es:List Tc}{t t':TA}(h:PA X es t) (k:∀σ H Q,t' σ H Q->t σ H Q):PA X es t':=λpos R0 s σ H Q I q=>h pos R0 s σ H Q I (k σ H Q q)
theorem jy {X:Cx}{st:Vu}{t t':TS}(h:PS X st t) (k:∀D σ H,t' D σ H->t D σ H):PS X st t':=λR0 s σ H D I q=>h R0 s σ H D I (k D σ H q)
theorem FD {X:Cx}{st:List Vu}{t t':TS}(h:kH X st t) (k:∀D σ H,t' D σ H->t D σ H):kH X st t':=λR0 s σ H D I q=>h R0 s σ H D I (k D σ H q)
section
variable {X:Cx}{c:C}{e a b:Tc}{ga gb:G R}{pos:Pos}
noncomputable def S.rd:S->M R
 | .d x=>.ok (.d x)
 | .own xs=>.ok (.l .own xs)
 | .bor xs=>.ok (.l .bor xs)
 | .dk ks vs=>.ok (.mo ks vs)
 | .db ks vs=>.ok (.mb ks vs)
 | .fn _=>.bad
noncomputable def af (i:Nat):G R:=λenv=>match env[i]? with
 | some (some x)=>x.rd
 | _=>.bad
theorem KN {x:Str}{i:Nat}(h:PE X (.Name x pos) (NI i)):PD X c (.Name x pos) (af i):=gg h λσ H Q ⟨J,env,sr,w⟩=>by
 unfold af at w
 cases q:env[i]? with
 | none=>rw [q] at w;exact w.elim
 | some o=>
  cases o with
  | none=>rw [q] at w;exact w.elim
  | some x=>
   rw [q] at w
   obtain ⟨v,h1,h2⟩:=sr.at_ i x q
   refine ⟨v,h1,?_⟩
   cases x with
   | fn _=>exact w.elim
   | _=>exact w v J H (Ext.refl sr.hp.sub) h2
def gC (d:D):G R:=λ_=>.ok (.d d)
theorem uu {d:D}{v:V}(hr:∀J,Rep c.K J d v) (h:PE X e (tC v)):PD X c e (gC d):=gg h λσ H Q ⟨J,env,sr,w⟩=>w v J H (Ext.refl sr.hp.sub) (hr J)
noncomputable def BD (c:C) (r:R2) (f:R->R->M R):Prop:=∀(He He' J H:Hp) (x y:R) (u v:V) (Q:VK),HI c J H->RR c He J H x u->RR c He' J H y v->
 dg (f x y) (λz=>∀w J' H',Ext J H J' H'->RR c H J' H' z w->Q w H') c.T->r u v H Q
def g2 (f:R->R->M R) (ga gb:G R):G R:=λenv=>ga env >>= λx=>gb env >>= λy=>f x y
theorem two {P:R->R->M R}{σ:L2.St}{H:Hp}{k:V->V->Hp->Prop}{Q:VK}{J:Hp}{env:Ev}(sr:SR c J H σ env)
  (w:dg (g2 P ga gb env) (λr=>∀v J' H',Ext J H J' H'->RR c H J' H' r v->Q v H') c.T)
  (hk:∀x y u v J2 H2,SR c J2 H2 σ env->Ext J H J2 H2->RR c H J2 H2 x u->RR c H J2 H2 y v->dg (P x y) (λz=>∀w J' H',Ext J2 H2 J' H'->RR c H2 J' H' z w->Q w H') c.T->k u v H2):
  tD c ga σ H λu H1=>tD c gb σ H1 λv H2=>k u v H2:=by
 refine ⟨J,env,sr,aG (aL w) λx wx u J1 H1 e1 r1=>?_⟩
 have sr1:=sr.ext e1
 refine ⟨J1,env,sr1,aG (aL wx) λy wy v J2 H2 e2 r2=>?_⟩
 exact hk x y u v J2 H2 (sr1.ext e2) (e1.trans e2) (r1.ext e2) (RR.from e1.h r2) (aG wy λz q w J' H' e3 r3=>q w J' H' ((e1.trans e2).trans e3) (RR.from (e1.h.trans e2.h) r3))
theorem HE {t:TE}{r:R2}{f:R->R->M R}(ht:PE X e t) (heq:t=Ga r (tD c ga) (tD c gb)) (hf:BD c r f):PD X c e (g2 f ga gb):=by
 subst heq
 exact gg ht λσ H Q ⟨J,env,sr,w⟩=>two (k:=λu v H2=>r u v H2 Q) sr w λx y u v J2 H2 sr2 e2 r1 r2 q=>hf H H J2 H2 x y u v Q sr2.hp r1 r2 q
theorem kO {op:Zt}{r:R2}{f:R->R->M R}(ho:dY X (VC op) r) (hf:BD c r f) (ha:PD X c a ga) (hb:PD X c b gb):PD X c (.BinOp a op b pos) (g2 f ga gb):=HE (Ot ho ha hb) rfl hf
theorem qy {op:abV}{r:R2}{f:R->R->M R}(ho:dY X (Uw op) r) (hf:BD c r f) (ha:PD X c a ga) (hb:PD X c b gb) (hm:T_ op b=false:=by first | exact zJ _ | rfl):PD X c (.Compare a [op] [b] pos) (g2 f ga gb):=HE (KQ ho ha hb hm) rfl hf
theorem Jf {r:R2}{f:R->R->M R}(ho:pX X r) (hf:BD c r f) (ha:PD X c a ga) (hb:PD X c b gb) (hs:qV b:=by exact λ_ _=>rfl):PD X c (.Subscript a b pos) (g2 f ga gb):=HE (Oq ho ha hb hs) rfl hf
theorem BD.or {r r':R2}{f f':R->R->M R}(p:R->R->Bool) (h:BD c r f) (h':BD c r' f'):BD c (λx y H Q=>r x y H Q\/r' x y H Q) (λx y=>if p x y then f x y else f' x y):=by
 intro He He' J H x y u v Q hp rx ry w
 simp only at w
 cases q:p x y with
 | true=>rw [q] at w;exact .inl (h He He' J H x y u v Q hp rx ry w)
 | false=>rw [q] at w;exact .inr (h' He He' J H x y u v Q hp rx ry w)
noncomputable def fI (C:Int->Int->Bool) (f:Int->Int->D):R->R->M R
 | .d (.int i),.d (.int j)=>if C i j then .ok (.d (f i j)) else .bad
 | _,_=>.bad
noncomputable def cC (f:Int->Int->D):R->R->M R
 | .d (.int i),.d (.int j)=>.ok (.d (f i j))
 | _,_=>.bad
theorem yJ {P:Int->Int->Prop}{Cb:Int->Int->Bool}{g:Int->Int->V}{f:Int->Int->D}(hC:∀i j,Cb i j=true->P i j) (hr:∀i j J,Rep c.K J (f i j) (g i j)):BD c (rI P g) (fI Cb f):=by
 intro He He' J H x y u v Q hp rx ry w
 unfold fI at w
 split at w
 ·cases rx;cases ry
  rename_i i j
  cases q:Cb i j with
  | true=>rw [q] at w;exact ⟨i,j,rfl,rfl,hC i j q,w _ J H (Ext.refl hp.sub) (hr i j J)⟩
  | false=>rw [q] at w;exact w.elim
 ·exact w.elim
theorem iQ {g:Int->Int->V}{f:Int->Int->D}(hr:∀i j J,Rep c.K J (f i j) (g i j)):BD c (qC g) (cC f):=by
 intro He He' J H x y u v Q hp rx ry w
 unfold cC at w
 split at w
 ·cases rx;cases ry
  rename_i i j
  exact ⟨i,j,rfl,rfl,w _ J H (Ext.refl hp.sub) (hr i j J)⟩
 ·exact w.elim
def below (n:Nat) (j:Int):Bool:=Nat.blt j.natAbs n
theorem eE {n:Nat}{j:Int}:below n j=true↔-(n:Int) < j/\j < n:=by
 unfold below
 rw [Nat.blt_eq]
 omega
def CV (_ j:Int):Bool:=decide (0 < j) && below 1073741824 j
def Mu (_ j:Int):Bool:=decide (0 < j)
def sP (i j:Int):Bool:=below 18446744073709551616 i || below 18446744073709551616 j
theorem Kg {i j:Int}(h:sP i j=true):(-(2 ^ 64) < i/\i < 2 ^ 64)\/(-(2 ^ 64) < j/\j < 2 ^ 64):=by
 unfold sP at h
 rw [U6] at h
 exact h.imp eE.mp eE.mp
theorem Kf {i j:Int}(h:CV i j=true):0 < j/\j < 1073741824:=by
 unfold CV at h
 rw [Sk] at h
 exact ⟨of_decide_eq_true h.1,(eE.mp h.2).2⟩
def G6 (i j:Int):Bool:=decide (0<=j) && below 1000001 j && below 18446744073709551616 i
theorem Kh {i j:Int}(h:G6 i j=true):0<=j/\j<=1000000/\i.natAbs < 2 ^ 64:=by
 unfold G6 at h
 rw [Sk,Sk] at h
 have h2:=eE.mp h.1.2
 have h3:=eE.mp h.2
 exact ⟨of_decide_eq_true h.1.1,by omega,by omega⟩
abbrev zc:R->R->M R:=cC λi j=>.int (i + j)
abbrev nc:R->R->M R:=cC λi j=>.int (i - j)
abbrev Mb:R->R->M R:=fI sP λi j=>.int (i * j)
abbrev fM:R->R->M R:=fI CV λi j=>.int (i / j)
abbrev cR:R->R->M R:=fI Mu λi j=>.int (i % j)
abbrev m_:R->R->M R:=fI G6 λi j=>.int (i ^ j.toNat)
noncomputable def t6:R->R->M R
 | .d (.str i),.d (.str j)=>if i.length + j.length<=sizeLine then .ok (.d (.str (i++j))) else .bad
 | _,_=>.bad
theorem Lb {K:R_}{J:Hp}{ds:List D}{vs:List V}{i:Int}{d:D}(h:aK K J ds vs) (e:mF ds i=some d):∃v,mF vs i=some v/\Rep K J d v:=by
 unfold mF at e ⊢
 rw [h.length] at e
 cases q:zu vs.length i with
 | none=>rw [q] at e;cases e
 | some j=>rw [q] at e;exact h.get e
theorem rC {x:R}{f:List D->M R}{Q:R->Prop}{T:Exc->Prop}(w:dg (kI x >>= f) Q T):∃xs,kI x=.ok xs/\dg (f xs) Q T:=by
 cases q:kI x with
 | bad=>rw [q] at w;exact w.elim
 | ok xs=>rw [q] at w;exact ⟨xs,rfl,w⟩
 | exc z=>unfold kI at q;split at q <;> cases q
noncomputable def zo:R->Bool
 | .l .fresh _=>true
 | .l .own _=>true
 | _=>false
noncomputable def t7 (x y:R):M R:=if zo x && zo y then kI x >>= λxs=>kI y >>= λys=>if xs.length + ys.length<=sizeLine then .ok (.l .fresh (xs++ys)) else .bad else .bad
theorem RR.made {He J H:Hp}:∀{r:R}{v:V},zo r=true->RR c He J H r v->∃a vs xs,kI r=.ok xs/\v=.ref a/\H a=some (.lst vs)/\aK c.K J xs vs
 | .l .fresh xs,v,_,⟨a,vs,h1,h2,h3,h4,h5⟩=>⟨a,vs,xs,rfl,h1,h2,h5⟩
 | .l .own xs,v,_,⟨a,vs,h1,h2,h3,h4,h5⟩=>⟨a,vs,xs,rfl,h1,h2,h5⟩
 | .l .bor _,_,e,_=>nomatch e
 | .mo _ _,_,e,_=>nomatch e
 | .mb _ _,_,e,_=>nomatch e
 | .mf _ _,_,e,_=>nomatch e
 | .d _,_,e,_=>nomatch e
theorem jA {J H:Hp}{xs:List D}{vs:List V}{p:Sq}(hp:HI c J H) (e:H p=none) (h:aK c.K J xs vs):RR c H J (upd H p (.lst vs)) (.l .fresh xs) (.ref p):=
 ⟨p,vs,rfl,cO,hp.sub.free e,e,h⟩
noncomputable def CD (c:C) (r:List V->Hp->VK->Prop) (f:List R->M R):Prop:=∀(He J H:Hp) (xs:List R) (vs:List V) (Q:VK),HI c J H->mD c He J H xs vs->
 dg (f xs) (λz=>∀w J' H',Ext J H J' H'->RR c H J' H' z w->Q w H') c.T->r vs H Q
def gN (f:List R->M R) (gs:G (List R)):G R:=λenv=>gs env >>= f
theorem HG {t:TE}{ta:TA}{r:List V->Hp->VK->Prop}{f:List R->M R}{gs:G (List R)}(ht:PE X e t) (heq:t=λσ H Q=>tA c gs σ H λvs H1=>r vs H1 Q) (hf:CD c r f):PD X c e (gN f gs):=by
 subst heq
 refine gg ht λσ H Q ⟨J,env,sr,w⟩=>⟨J,env,sr,aG (aL w) λrs w vs J1 H1 e1 r1=>?_⟩
 exact hf H J1 H1 rs vs Q (sr.hp.ext e1) r1 (aG w λz q v J' H' e2 r2=>q v J' H' (e1.trans e2) (RR.from e1.h r2))
def ay:G (List R):=λ_=>.ok []
def ao (g:G R) (gs:G (List R)):G (List R):=λenv=>g env >>= λx=>gs env >>= λxs=>.ok (x::xs)
theorem mD.from {He He' J H:Hp}(e:aW He He'):∀{xs:List R}{vs:List V},mD c He' J H xs vs->mD c He J H xs vs
 | [],_,h=>h
 | _::_,_,⟨v,us,h1,h2,h3⟩=>⟨v,us,h1,RR.from e h2,mD.from e h3⟩
theorem lQ {id:String}{x:Str}{p:Pos}{es:List Tc}{r:List V->Hp->VK->Prop}{f:List R->M R}{gs:G (List R)}(hc:cP X (.builtin id) r) (hf:CD c r f) (hv:Tv x=some (.builtin id)) (hm:X.mg x=none) (ha:D4 X c (e::es) gs)
  (hg:Gl X x:=by rfl) (hn:x≠"__name__":=by decide) (hdb:(x == ("__debug__":Str))=false:=by decide)
  (he:Sv (e::es) X.env=(false,eval e X.env)::Sv es X.env:=by rfl) (hpl:(Vd pos (Sv es X.env)).any (·.1)=false:=by rfl):PD X c (.Call (.Name x p) (e::es) [] pos) (gN f gs):=
 HG (ta:=DK) (sS hc hg hm hv ha hn hdb he hpl) rfl hf
theorem Fj {T:String}{x:Str}{p:Pos}{es:List Tc}{r:List V->Hp->VK->Prop}{f:List R->M R}{gs:G (List R)}(hc:cP X (.type T) r) (hf:CD c r f) (hv:Tv x=some (.type T)) (hm:X.mg x=none) (ha:D4 X c (e::es) gs)
  (hg:Gl X x:=by rfl) (hn:x≠"__name__":=by decide) (hdb:(x == ("__debug__":Str))=false:=by decide)
  (he:Sv (e::es) X.env=(false,eval e X.env)::Sv es X.env:=by rfl) (hpl:(Vd pos (Sv es X.env)).any (·.1)=false:=by rfl):PD X c (.Call (.Name x p) (e::es) [] pos) (gN f gs):=
 HG (ta:=DK) (mQ hc hg hm hv ha hn hdb he hpl) rfl hf
end
section
variable {X:Cx}{c:C}{e a b:Tc}{es:List Tc}{ga gb g:G R}{pos:Pos}
def aJ:G (List D):=λ_=>.ok []
def au (g:G R) (gs:G (List D)):G (List D):=λenv=>g env >>= λx=>toD x >>= λd=>gs env >>= λds=>.ok (d::ds)
theorem jf {α:Type}{x:R}{f:D->M α}{Q:α->Prop}{T:Exc->Prop}(w:dg (toD x >>= f) Q T):∃d,toD x=.ok d/\dg (f d) Q T:=by
 cases q:toD x with
 | bad=>rw [q] at w;exact w.elim
 | ok xs=>rw [q] at w;exact ⟨xs,rfl,w⟩
 | exc z=>unfold toD at q;split at q <;> cases q
def bL (gs:G (List D)):G R:=λenv=>gs env >>= λds=>if ds.length<=sizeLine then .ok (.d (.tup ds)) else .bad
def f_ (gs:G (List D)):G R:=λenv=>gs env >>= λds=>if ds.length<=sizeLine then .ok (.l .fresh ds) else .bad
theorem qF {J H:Hp}{xs:List D}{vs:List V}{p:Sq}(hp:HI c J H) (e:H p=none) (h:aK c.K J xs vs):Rep c.K (upd J p (.tup vs)) (.tup xs) (.ref p):=
 .tup (.inl (.inl cO)) (h.mono (dH (hp.sub.free e) _))
noncomputable def jH:R->M (List D)
 | .d (.tup xs)=>.ok xs
 | .d (.lst xs)=>.ok xs
 | .l _ xs=>.ok xs
 | _=>.bad
theorem nI {He J H:Hp}(hp:HI c J H):∀{r:R}{v:V}{xs:List D},RR c He J H r v->jH r=.ok xs->∃a vs,v=.ref a/\(dD c.K H a vs\/dQ c.K H a vs)/\aK c.K J xs vs
 | .d (.tup ys),v,xs,h,e=>by
  cases e
  cases h with
  | tup h hs=>exact ⟨_,_,rfl,.inr (gj hp.sub h),hs⟩
 | .d (.lst ys),v,xs,h,e=>let ⟨a,vs,h1,h2,h3⟩:=RR.list hp h e;⟨a,vs,h1,.inl h2,h3⟩
 | .l m ys,v,xs,h,e=>let ⟨a,vs,h1,h2,h3⟩:=RR.list hp h e;⟨a,vs,h1,.inl h2,h3⟩
 | .d .non,_,_,_,e=>nomatch e
 | .d (.bl _),_,_,_,e=>nomatch e
 | .d (.int _),_,_,_,e=>nomatch e
 | .d (.str _),_,_,_,e=>nomatch e
 | .d .emp,_,_,_,e=>nomatch e
 | .d (.dct _ _),_,_,_,e=>nomatch e
theorem lA {α:Type}{x:R}{f:List D->M α}{Q:α->Prop}{T:Exc->Prop}(w:dg (jH x >>= f) Q T):∃xs,jH x=.ok xs/\dg (f xs) Q T:=by
 cases q:jH x with
 | bad=>rw [q] at w;exact w.elim
 | ok xs=>rw [q] at w;exact ⟨xs,rfl,w⟩
 | exc z=>unfold jH at q;split at q <;> cases q
noncomputable def jt:List R->M R
 | [.d (.str z)]=>if z.length<=sizeLine then .ok (.d (.int z.length)) else .bad
 | [r]=>jH r >>= λxs=>.ok (.d (.int xs.length))
 | _=>.bad
theorem mD.one {He J H:Hp}{r:R}{vs:List V}(h:mD c He J H [r] vs):∃v,vs=[v]/\RR c He J H r v:=by
 obtain ⟨v,us,rfl,h1,h2⟩:=h
 cases h2
 exact ⟨v,rfl,h1⟩
noncomputable def dG:List R->M R
 | [r]=>jH r >>= λxs=>.ok (.d (.tup xs))
 | _=>.bad
theorem AQ:Tv "tuple"=some (.type "tuple"):=by decide +kernel
theorem CC:Tv "list"=some (.type "list"):=by decide +kernel
noncomputable def aV (g:G R):G Bool:=λenv=>g env >>= λr=>match r with
 | .d (.bl k)=>.ok k
 | _=>.bad
theorem jx {op:abV}{r:R2}{f:R->R->M R}(ho:dY X (Uw op) r) (hf:BD c r f) (ha:PD X c a ga) (hb:PD X c b gb) (hm:T_ op b=false:=by first | exact zJ _ | rfl):PB X c (.Compare a [op] [b] pos) (aV (g2 f ga gb)):=
 yi (K0 ho ha hb hm) λσ H Q ⟨J,env,sr,w⟩=>by
  have w2:=aL w
  refine two (k:=λu v H2=>r u v H2 λz H3=>∃k,z=.bl k/\Q k H3) (Q:=λz H3=>∃k,z=.bl k/\Q k H3) sr (aG w2 λr0 wr v J1 H1 e1 r1=>?_)
   λx y u v J2 H2 sr2 e2 r1 r2 q=>hf H H J2 H2 x y u v _ sr2.hp r1 r2 q
  split at wr
  ·cases r1;exact ⟨_,rfl,wr J1 H1 e1⟩
  ·exact wr.elim
def bK (g h:G Bool):G Bool:=λenv=>g env >>= λk=>if k=true then h env else .ok false
def bV (g h:G Bool):G Bool:=λenv=>g env >>= λk=>if k=true then .ok true else h env
def bD (g:G Bool):G Bool:=λenv=>g env >>= λk=>.ok (!k)
def P_ (X:Cx) (c:C) (e:Tc) (g:G Bool):Prop:=PW X e (tB c g)
variable {t u:G Bool}{rest:List Tc}
theorem Jj {X:Cx}{e:Tc}{t t':TT}(h:PW X e t) (k:∀σ H Q,t' σ H Q->t σ H Q):PW X e t':=λwh R0 s σ H Q I q=>h wh R0 s σ H Q I (k σ H Q q)
noncomputable def bu (g h:G R):G R:=λenv=>g env >>= λr=>match r with
 | .d (.bl true)=>h env
 | .d (.bl false)=>.ok (.d (.bl false))
 | _=>.bad
noncomputable def sL (g h:G R):G R:=λenv=>g env >>= λr=>match r with
 | .d (.bl false)=>h env
 | .d (.bl true)=>.ok (.d (.bl true))
 | _=>.bad
noncomputable def bC (g:G R):G R:=λenv=>g env >>= λr=>match r with
 | .d (.bl k)=>.ok (.d (.bl (!k)))
 | _=>.bad
end
section
variable {X:Cx}{c:C}{e a b tg:Tc}{es:List Tc}{ga gb g:G R}{pos:Pos}{st:Vu}{rest:List Vu}{t u:G O}{tb:G Bool}
def bF:G O:=λenv=>.ok (.nx env)
noncomputable def aD (t u:G O):G O:=λenv=>t env >>= λo=>match o with
 | .nx e=>u e
 | o=>.ok o
def jv (g:G R):G O:=λenv=>g env >>= λ_=>.ok (.nx env)
noncomputable def rF:R->M R
 | .d x=>.ok (.d x)
 | .l .fresh xs=>.ok (.l .fresh xs)
 | .l .own xs=>.ok (.l .fresh xs)
 | .l .bor _=>.bad
 | .mo ks vs=>.ok (.mf ks vs)
 | .mf ks vs=>.ok (.mf ks vs)
 | .mb _ _=>.bad
def aP (g:G R):G O:=λenv=>g env >>= λr=>rF r >>= λr=>.ok (.rt r)
theorem RR.rf {J H J1 H1:Hp}(hp:HI c J H):∀{r r':R}{v:V},RR c H J1 H1 r v->rF r=.ok r'->RF c J1 H1 r' v
 | .d x,r',v,h,e=>by cases e;exact h
 | .l .fresh xs,r',v,⟨a,vs,h1,h2,h3,h4,h5⟩,e=>by cases e;exact ⟨a,vs,h1,h2,h3,hp.ent.free h4,h5⟩
 | .l .own xs,r',v,⟨a,vs,h1,h2,h3,h4,h5⟩,e=>by cases e;exact ⟨a,vs,h1,h2,h3,h4,h5⟩
 | .l .bor _,_,_,_,e=>nomatch e
 | .mo _ _,_,v,⟨a,h1,h2,h3,h4⟩,e=>by cases e;exact ⟨a,h1,h2,h3,h4⟩
 | .mb _ _,_,_,_,e=>nomatch e
 | .mf _ _,_,v,⟨a,h1,h2,h3,h4⟩,e=>by cases e;exact ⟨a,h1,h2,h3,hp.ent.free h4⟩
def aX (b:G Bool) (t u:G O):G O:=λenv=>b env >>= λk=>if k=true then t env else u env
noncomputable def toS:R->M S
 | .d x=>.ok (.d x)
 | .l .fresh xs=>.ok (.own xs)
 | .l .bor xs=>.ok (.bor xs)
 | .l .own _=>.bad
 | .mb ks vs=>.ok (.db ks vs)
 | .mf ks vs=>.ok (.dk ks vs)
 | .mo _ _=>.bad
theorem gM {α:Type}{l:List (Option α)}{i j:Nat}{x y:α}(h:(l.set i (some x))[j]?=some (some y)):(j=i/\i < l.length/\y=x)\/(j≠i/\l[j]?=some (some y)):=by
 by_cases e:j=i
 ·subst e
  have hj:j < l.length:=by
   have:=(SW.mp h).1
   simpa using this
  rw [Um hj] at h
  cases h
  exact .inl ⟨rfl,hj,rfl⟩
 ·rw [Tq (Vt e)] at h
  exact .inr ⟨e,h⟩
theorem SR.setD {J H:Hp}{σ:L2.St}{env:Ev}(sr:SR c J H σ env){i:Nat}{x:S}{v:V}(h:sf c J H x v) (hx:∀xs,x≠mS xs):SR c J H (σ.set i (some v)) (env.set i (some x)):=by
 refine ⟨sr.hp,by simpa using sr.len,λj y q=>?_,λj k xs ys w hjk q1 q2 q3 q4=>?_⟩
 ·rcases gM q with ⟨rfl,hl,rfl⟩ | ⟨hj,q⟩
  ·exact ⟨v,by rw [Um (by rw [<-sr.len];exact hl)],h⟩
  ·obtain ⟨w,h1,h2⟩:=sr.at_ j y q
   exact ⟨w,by rw [Tq (Vt hj)];exact h1,h2⟩
 ·rcases gM q1 with ⟨rfl,hl,e⟩ | ⟨hj,q1⟩
  ·exact hx xs e.symm
  ·rcases gM q2 with ⟨rfl,hl,e⟩ | ⟨hk,q2⟩
   ·exact hx ys e.symm
   ·rw [Tq (Vt hj)] at q3
    rw [Tq (Vt hk)] at q4
    exact sr.sep j k xs ys w hjk q1 q2 q3 q4
theorem SR.setM {J He:Hp}{σ:L2.St}{env:Ev}(sr:SR c J He σ env){J1 H1:Hp}(e1:Ext J He J1 H1){i:Nat}{y:Mn}{p:Sq}(h3:He p=none) (h:sf c J1 H1 (mS y) (.ref p)):SR c J1 H1 (σ.set i (some (.ref p))) (env.set i (some (mS y))):=by
 have sr1:=sr.ext e1
 have old:∀(j:Nat) (ys:Mn),env[j]?=some (some (mS ys))->σ[j]?≠some (some (.ref p)):=λj ys qj z=>by
  obtain ⟨a,k1,k2,_⟩:=sr.mine qj
  rw [z] at k1
  cases k1
  exact k2 h3
 refine ⟨sr1.hp,by simpa using sr.len,λj y q=>?_,λj k ys zs w hjk q1 q2 q3 q4=>?_⟩
 ·rcases gM q with ⟨rfl,hl,rfl⟩ | ⟨hj,q⟩
  ·exact ⟨.ref p,by rw [Um (by rw [<-sr.len];exact hl)],h⟩
  ·obtain ⟨w,k1,k2⟩:=sr1.at_ j y q
   exact ⟨w,by rw [Tq (Vt hj)];exact k1,k2⟩
 ·rcases gM q1 with ⟨rfl,hl,e⟩ | ⟨hj,q1'⟩
  ·rcases gM q2 with ⟨rfl,_,_⟩ | ⟨hk,q2⟩
   ·exact hjk rfl
   ·rw [Um (by rw [<-sr.len];exact hl)] at q3
    cases q3
    rw [Tq (Vt hk)] at q4
    exact old k zs q2 q4
  ·rw [Tq (Vt hj)] at q3
   rcases gM q2 with ⟨rfl,hl,e⟩ | ⟨hk,q2⟩
   ·rw [Um (by rw [<-sr.len];exact hl)] at q4
    cases q4
    exact old j ys q1' q3
   ·rw [Tq (Vt hk)] at q4
    exact sr.sep j k ys zs w hjk q1' q2 q3 q4
theorem SR.set {J He:Hp}{σ:L2.St}{env:Ev}(sr:SR c J He σ env){J1 H1:Hp}(e1:Ext J He J1 H1){i:Nat}{r:R}{x:S}{v:V}(h:RR c He J1 H1 r v) (q:toS r=.ok x):SR c J1 H1 (σ.set i (some v)) (env.set i (some x)):=by
 have sr1:=sr.ext e1
 cases r with
 | d y=>cases q;exact sr1.setD h (λx z=>by cases x <;> cases z)
 | mb _ _=>cases q;exact sr1.setD h (λx z=>by cases x <;> cases z)
 | mf ks vs=>cases q;obtain ⟨p,rfl,h1,h2,h3⟩:=h;exact sr.setM (y:=.inr (ks,vs)) e1 h3 ⟨p,rfl,h1,h2,sr.hp.ent.free h3⟩
 | mo _ _=>cases q
 | l m xs=>
  cases m with
  | own=>cases q
  | bor=>cases q;exact sr1.setD h (λx z=>by cases x <;> cases z)
  | fresh=>
   cases q
   obtain ⟨p,vs,rfl,h1,h2,h3,h4⟩:=h
   exact sr.setM (y:=.inl xs) e1 h3 ⟨p,vs,rfl,h1,h2,sr.hp.ent.free h3,h4⟩
theorem oh {α:Type}{x:R}{f:S->M α}{Q:α->Prop}{T:Exc->Prop}(w:dg (toS x >>= f) Q T):∃d,toS x=.ok d/\dg (f d) Q T:=by
 cases q:toS x with
 | bad=>rw [q] at w;exact w.elim
 | ok xs=>rw [q] at w;exact ⟨xs,rfl,w⟩
 | exc z=>unfold toS at q;split at q <;> cases q
def aN (i:Nat) (g:G R):G O:=λenv=>g env >>= λr=>toS r >>= λx=>.ok (.nx (env.set i (some x)))
abbrev GT:=D->Ev->M Ev
def KO (env:Ev) (σ:L2.St) (e:Ev) (σ':L2.St):Prop:=∀(j:Nat) (xs:Mn),e[j]?=some (some (mS xs))->env[j]?=some (some (mS xs))/\σ'[j]?=σ[j]?
theorem KO.refl {env:Ev}{σ:L2.St}:KO env σ env σ:=λ_ _ h=>⟨h,rfl⟩
theorem KO.trans {env e1 e2:Ev}{σ s1 s2:L2.St}(a:KO env σ e1 s1) (b:KO e1 s1 e2 s2):KO env σ e2 s2:=λj xs h=>by
 obtain ⟨h1,h2⟩:=b j xs h
 obtain ⟨h3,h4⟩:=a j xs h1
 exact ⟨h3,h2.trans h4⟩
def tT (c:C) (g:GT):TG:=λv σ H Q=>∃J env d,SR c J H σ env/\Rep c.K J d v/\dg (g d env) (λe=>∀σ',SR c J H σ' e->KO env σ e σ'->Q σ' H) c.T
def jl (X:Cx) (c:C) (tg:Tc) (g:GT):Prop:=PG X tg (tT c g)
abbrev tG:=List D->Ev->M Ev
def Qo (c:C) (g:tG):tR:=λvs σ H Q=>∃J env ds,SR c J H σ env/\aK c.K J ds vs/\dg (g ds env) (λe=>∀σ',SR c J H σ' e->KO env σ e σ'->Q σ' H) c.T
def Pb (X:Cx) (c:C) (tgs:List Tc) (g:tG):Prop:=yC X tgs (Qo c g)
theorem Jh {X:Cx}{e:Tc}{t t':TG}(h:PG X e t) (k:∀v σ H Q,t' v σ H Q->t v σ H Q):PG X e t':=λR0 s σ H v u Q I r q=>h R0 s σ H v u Q I r (k v σ H Q q)
theorem Fq {X:Cx}{e:List Tc}{t t':tR}(h:yC X e t) (k:∀v σ H Q,t' v σ H Q->t v σ H Q):yC X e t':=λR0 s σ H vs us Q I r q=>h R0 s σ H vs us Q I r (k vs σ H Q q)
def az (i:Nat):GT:=λd env=>.ok (env.set i (some (.d d)))
noncomputable def gF:tG:=λds env=>match ds with
 | []=>.ok env
 | _=>.bad
noncomputable def b_ (t:GT) (u:tG):tG:=λds env=>match ds with
 | d::r=>t d env >>= λe=>u r e
 | []=>.bad
noncomputable def gm (n:Nat) (u:tG):GT:=λd env=>match d with
 | .tup ds=>if ds.length=n then u ds env else .bad
 | _=>.bad
def vh (t:GT) (g:G R):G O:=λenv=>g env >>= λr=>toD r >>= λd=>t d env >>= λe=>.ok (.nx e)
theorem KH {t:GT}(h:PD X c e g) (ht:jl X c tg t)
  (hq:PS X (.Assign [tg] e pos) (Iu (tD c g) (tT c t))):Bf X c (.Assign [tg] e pos) (vh t g):=jy hq λE σ H ⟨J,env,sr,w⟩=>by
 refine ⟨J,env,sr,aG (aL w) λr wr v J1 H1 e1 r1=>?_⟩
 obtain ⟨d,q,wr⟩:=jf wr
 obtain ⟨J1',e1',s1,rd⟩:=freeze e1 r1 q
 refine ⟨J1',env,d,sr.ext e1',rd,aG (aL wr) λe2 w2 σ' sr' _=>?_⟩
 exact w2 σ' J1' H1 e1'.j sr'
noncomputable def Walk (c:C) (It:It) (ds:List D) (J1:Hp) (U:Hp->Hp->Prop):Prop:=∀(i:Nat) (J H:Hp),HI c J H->U J H->
 (ds.length<=i->It.stop i H)/\∀d,ds[i]?=some d->It.go i H/\∀x H2,It.yld i H x H2->∃J2,Ext J H J2 H2/\Rep c.K J2 d x
noncomputable def tI (c:C) (g:G (List D)):TI:=λσ H Q=>∃J env,SR c J H σ env/\dg (g env) (λds=>∀It J1 H1,Ext J H J1 H1->Walk c It ds J1 (λJ' _=>aW J1 J')->Q It H1) c.T
def yD (X:Cx) (c:C) (tg R4:Tc) (g:G (List D)):Prop:=PI X tg R4 (tI c g)
theorem uv {X:Cx}{tg it:Tc}{t t':TI}(h:PI X tg it t) (k:∀σ H Q,t' σ H Q->t σ H Q):PI X tg it t':=λR0 s σ H Q I q=>h R0 s σ H Q I (k σ H Q q)
noncomputable def eY (t:GT) (u:G O):List D->Ev->M O
 | [],env=>.ok (.nx env)
 | d::ds,env=>t d env >>= λe=>u e >>= λo=>match o with
  | .nx e=>eY t u ds e
  | .ct e=>eY t u ds e
  | .bk e=>.ok (.nx e)
  | .rt r=>.ok (.rt r)
def c_ (g:G (List D)) (t:GT) (u:G O):G O:=λenv=>g env >>= λds=>eY t u ds env
noncomputable def Qu (g:G R):G (List D):=λenv=>g env >>= λr=>match r with
 | .d (.tup xs)=>.ok xs
 | _=>.bad
theorem qS {J1:Hp}{a:Sq}{vs:List V}{ds:List D}(h:dD c.K J1 a vs\/dD c.K c.H0 a vs) (hs:aK c.K J1 ds vs):Walk c (IC c.K a) ds J1 (λJ' _=>aW J1 J'):=by
 intro i J H hp u
 have h':dD c.K H a vs:=h.elim (λh=>hp.sub.seq (u.seq h)) λh=>hp.ent.seq h
 refine ⟨λhl=>⟨vs,h',by rw [<-hs.length];exact hl⟩,λd hd=>?_⟩
 obtain ⟨v,h1,h2⟩:=hs.get hd
 refine ⟨⟨vs,v,h',h1⟩,λx H2 ⟨e,hy⟩=>?_⟩
 subst e
 have:=hy vs h'
 rw [h1] at this
 cases this
 exact ⟨J,Ext.refl hp.sub,h2.mono u⟩
def eB (lo:Int) (n:Nat):List D:=(Se n).map λ(k:Nat)=>.int (lo + (k:Int))
theorem DU {J1:Hp}{lo:Int}{n:Nat}{Ut:Hp->Hp->Prop}:Walk c (ID lo n) (eB lo n) J1 Ut:=by
 intro i J H hp u
 refine ⟨λhl=>(show n<=i by simpa [eB] using hl),λd hd=>?_⟩
 have hi:i < n:=by
  have:=(SW.mp hd).1
  simpa [eB] using this
 have hd':d=.int (lo + i):=by
  unfold eB at hd
  rw [SJ,We hi] at hd
  exact (TF hd).symm
 subst hd'
 exact ⟨hi,λx H2 ⟨e,hx⟩=>by subst e hx;exact ⟨J,Ext.refl hp.sub,.int _⟩⟩
noncomputable def bR (gs:G (List R)):G (List D):=λenv=>gs env >>= λrs=>match rs with
 | [.d (.int j)]=>if below 4611686018427387904 j then .ok (eB 0 j.toNat) else .bad
 | _=>.bad
noncomputable def Ql (c:C) (g:G (List D)):TI:=λσ H Q=>∃J env,SR c J H σ env/\dg (g env) (λds=>∀It J1 H1,Ext J H J1 H1->Walk c It ds J1 (λJ' H'=>aW J1 J'/\aW H1 H')->Q It H1) c.T
def pZ (X:Cx) (c:C) (tg R4:Tc) (g:G (List D)):Prop:=PI X tg R4 (Ql c g)
end
section
variable {X:Cx}{c:C}{e a b tg:Tc}{es:List Tc}{ga gb g:G R}{pos:Pos}
theorem SR.updM {J H:Hp}{σ:L2.St}{env:Ev}(sr:SR c J H σ env){i:Nat}{x y:Mn}{p:Sq}{o:HO}(hi:env[i]?=some (some (mS x))) (hs:σ[i]?=some (some (.ref p))) (hJ:J p=none) (h0:c.H0 p=none)
  (h:sf c J (L2.upd H p o) (mS y) (.ref p)):SR c J (L2.upd H p o) σ (env.set i (some (mS y))):=by
 refine ⟨⟨λb o q=>?_,λb o q=>?_,sr.hp.entJ,sr.hp.frz⟩,by simpa using sr.len,λj y q=>?_,λj k ys zs w hjk q1 q2 q3 q4=>?_⟩
 ·have:b≠p:=λz=>by rw [z,hJ] at q;cases q
  rw [bI this];exact sr.hp.sub b o q
 ·have:b≠p:=λz=>by rw [z,h0] at q;cases q
  rw [bI this];exact sr.hp.ent b o q
 ·rcases gM q with ⟨rfl,hl,rfl⟩ | ⟨hj,q⟩
  ·exact ⟨.ref p,hs,h⟩
  ·obtain ⟨w,k1,k2⟩:=sr.at_ j y q
   refine ⟨w,k1,?_⟩
   have hne:∀(z:Mn) p',y=mS z->w=.ref p'->p'≠p:=λz p' e ew ep=>sr.sep i j x z (.ref p) (Vt hj) hi (e▸q) hs (ep▸ew▸k1)
   cases y with
   | d x=>exact k2
   | bor zs=>exact k2
   | db _ _=>exact k2
   | fn _=>exact k2
   | dk ks zs=>
    obtain ⟨p',rfl,⟨us,ws,ep,m1,mr⟩,m2⟩:=k2
    exact ⟨p',rfl,⟨us,ws,ep,by rw [bI (hne (.inr (ks,zs)) p' rfl rfl)];exact m1,mr⟩,m2⟩
   | own zs=>
    obtain ⟨p',us,rfl,m1,m2,m3,m4⟩:=k2
    exact ⟨p',us,rfl,by rw [bI (hne (.inl zs) p' rfl rfl)];exact m1,m2,m3,m4⟩
 ·have f:∀(k:Nat) (ys:Mn),(env.set i (some (mS y)))[k]?=some (some (mS ys))->∃ys',env[k]?=some (some (mS ys')):=λk ys q=>by
   rcases gM q with ⟨rfl,_,_⟩ | ⟨_,q⟩
   ·exact ⟨x,hi⟩
   ·exact ⟨ys,q⟩
  obtain ⟨ys',r1⟩:=f j ys q1
  obtain ⟨zs',r2⟩:=f k zs q2
  exact sr.sep j k ys' zs' w hjk r1 r2 q3 q4
theorem SR.upd {J H:Hp}{σ:L2.St}{env:Ev}(sr:SR c J H σ env){i:Nat}{xs xs':List D}{p:Sq}{vs vs':List V}(hi:env[i]?=some (some (.own xs))) (hs:σ[i]?=some (some (.ref p))) (hH:H p=some (.lst vs)) (hJ:J p=none) (h0:c.H0 p=none)
  (h:aK c.K J xs' vs'):SR c J (L2.upd H p (.lst vs')) σ (env.set i (some (.own xs'))):=sr.updM (x:=.inl xs) (y:=.inl xs') hi hs hJ h0 ⟨p,vs',rfl,cO,hJ,h0,h⟩
noncomputable def e_ (i:Nat) (g:G R):G O:=λenv=>match env[i]? with
 | some (some (.own xs))=>g env >>= λr=>toD r >>= λd=>if xs.length < sizeLine then .ok (.nx (env.set i (some (.own (xs++[d]))))) else .bad
 | _=>.bad
noncomputable def bH:R->S
 | .d x=>.d x
 | .l _ xs=>.bor xs
 | .mo ks vs=>.db ks vs
 | .mb ks vs=>.db ks vs
 | .mf ks vs=>.db ks vs
noncomputable def lB (K:R_) (J H:Hp):List S->List V->Prop
 | [],vs=>vs=[]
 | s::ss,vs=>∃v us,vs=v::us/\(match s with
  | .d x=>Rep K J x v
  | .bor xs=>∃a ws,v=.ref a/\dD K H a ws/\aK K J xs ws
  | .db ks ws=>∃a,v=.ref a/\fm K J H a ks ws
  | .fn x=>∃f,v=.ref f/\Tn K S3 x=some (some (.ref f))
  | _=>False)/\lB K J H ss us
theorem lB.length {K:R_}{J H:Hp}:∀{ss:List S}{vs:List V},lB K J H ss vs->vs.length=ss.length
 | [],_,h=>by cases h;rfl
 | _::_,_,⟨_,_,h,_,h2⟩=>by subst h;exact congrArg (· + 1) h2.length
theorem lB.get {K:R_}{J H:Hp}:∀{ss:List S}{vs:List V}{i:Nat}{s:S},lB K J H ss vs->ss[i]?=some s->∃v,vs[i]?=some v/\(match s with
  | .d x=>Rep K J x v
  | .bor xs=>∃a ws,v=.ref a/\dD K H a ws/\aK K J xs ws
  | .db ks ws=>∃a,v=.ref a/\fm K J H a ks ws
  | .fn x=>∃f,v=.ref f/\Tn K S3 x=some (some (.ref f))
  | _=>False)
 | [],_,_,_,_,e=>by simp at e
 | _::_,_,0,_,⟨v,us,h,h1,h2⟩,e=>by simp at e;subst e;subst h;exact ⟨v,rfl,h1⟩
 | _::_,_,i + 1,s,⟨v,us,h,h1,h2⟩,e=>by
  subst h
  obtain ⟨v,k1,k2⟩:=lB.get (i:=i) (s:=s) h2 (by simpa using e)
  exact ⟨v,by simpa using k1,k2⟩
noncomputable def FR (K:R_) (H J' H':Hp):R->V->Prop
 | .d x,v=>Rep K J' x v
 | .l _ xs,v=>∃a vs,v=.ref a/\H' a=some (.lst vs)/\J' a=none/\H a=none/\aK K J' xs vs
 | .mf ks vs,v=>∃a,v=.ref a/\fm K J' H' a ks vs/\J' a=none/\H a=none
 | _,_=>False
noncomputable def qM (K:R_) (n:Nat) (F:List S->M R):Sp:=λvs H Q _=>∃J as,aW J H/\as.length=n/\lB K J H as vs/\dg (F as) (λr=>∀v J' H',Ext J H J' H'->FR K H J' H' r v->Q v H') (λ_=>False)
noncomputable def fin:M O->M R
 | .ok (.rt r)=>.ok r
 | .ok (.nx _)=>.ok (.d .non)
 | .exc x=>.exc x
 | _=>.bad
def aH (N:List Str) (as:List S):Ev:=as.map some++Th (N.length - as.length) none
theorem xg {N:List Str}{as:List S}{i:Nat}{x:S}(h:(aH N as)[i]?=some (some x)):as[i]?=some x:=by
 unfold aH at h
 by_cases hi:i < as.length
 ·rw [UQ (by simpa using hi),SJ] at h
  cases q:as[i]? with
  | none=>rw [q] at h;cases h
  | some y=>rw [q] at h;cases h;rfl
 ·rw [Uk (by simpa using hi),Wq] at h
  split at h <;> cases h
theorem Ir {N:List Str}{vs:List V}{i:Nat}{v:V}(h:vs[i]?=some v):(L2.start N vs)[i]?=some (some v):=by
 unfold L2.start
 have hi:i < vs.length:=(SW.mp h).1
 rw [UQ (by simpa using hi),SJ,h]
 rfl
theorem Au {K:R_}{J H:Hp}{T:Exc->Prop}{N:List Str}{as:List S}{vs:List V}(hs:aW J H) (h:lB K J H as vs):SR ⟨K,H,J,T⟩ J H (L2.start N vs) (aH N as):=by
 have own:∀(i:Nat) (xs:Mn),(aH N as)[i]?≠some (some (mS xs)):=λi xs q=>by
  obtain ⟨v,_,k⟩:=h.get (xg q)
  cases xs <;> exact k
 refine ⟨⟨hs,aW.refl H,aW.refl J,λ_ _ q=>q⟩,?_,λi x q=>?_,λi j xs ys v _ q=>absurd q (own i xs)⟩
 ·unfold aH L2.start
  rw [SO,SO,Sh,Sh,TR,TR,h.length]
 ·obtain ⟨v,k1,k2⟩:=h.get (xg q)
  refine ⟨v,Ir k1,?_⟩
  cases x with
  | d y=>exact k2
  | own y=>exact k2.elim
  | bor y=>exact k2
  | dk _ _=>exact k2.elim
  | db _ _=>exact k2
  | fn _=>exact k2
abbrev IT (P:Sy) (w:S9) (K:R_) (mg:Str->Option Sa) (base:Ui) (N:List Str) (R5:Str) (sc:Vc) (f:Sq) (cd:Sa) (A:Td) (outer:List Env) (s:Sd) (H:Hp) (E:XK):Cx:=(qa pL P w K mg base N R5 sc f cd A outer s H E).nox
theorem EB {P:Sy}{w:S9}{K:R_}{mg:Str->Option Sa}{base:Ui}{x R5:Str}{st:Vu}{f:Sq}{fd:SY}{N ps:List Str}{k:Nat}{Fm:List S->M R}(F:cZ K x R5 st f fd) (Sc:bg N ps (aI st)){gB:G O}
  (hb:∀(cdv:Sa) (A:Td) (outer:List Env) (s:Sd) (H:Hp) (E:XK) (J:Hp) (T:Exc->Prop),eF k (A.deeper (XI R5 (aI st) s.heap.objs.size f cdv))->
   IK (IT P w K mg base N R5 (aI st) f cdv A outer s H E) ⟨K,H,J,T⟩ (cL st) gB)
  (hF:∀as r,as.length=ps.length->Fm as=.ok r->fin (gB (aH N as))=.ok r):gp P w K mg base pL (k + 1) f fd ps (qM K ps.length Fm):=by
 refine F.ok Sc (λvs H Q E h=>?_) (λcdv A outer s H vs Q E hr h=>?_)
 ·obtain ⟨J,as,h1,h2,h3,h4⟩:=h
  rw [h3.length,h2]
 ·obtain ⟨J,as,h1,h2,h3,h4⟩:=h
  refine ⟨_,hb cdv A outer s H E J (λ_=>False) hr,J,aH N as,Au h1 h3,?_⟩
  cases q:Fm as with
  | bad=>rw [q] at h4;exact h4.elim
  | exc x=>rw [q] at h4;exact h4.elim
  | ok r=>
   rw [q] at h4
   have z:=hF as r h2 q
   have ext:∀{J' H':Hp},HI ⟨K,H,J,λ_=>False⟩ J' H'->Ext J H J' H':=λhp=>⟨hp.ent,hp.entJ,hp.sub,hp.frz⟩
   cases qg:gB (aH N as) with
   | bad=>rw [qg] at z;cases z
   | exc x=>rw [qg] at z;cases z
   | ok o=>
    rw [qg] at z
    cases o with
    | bk _=>cases z
    | ct _=>cases z
    | nx env=>cases z;exact λσ' J' H' _ sr=>h4 .non J' H' (ext sr.hp) .non
    | rt r'=>
     cases z
     exact λv J' H' _ hp rf=>h4 v J' H' (ext hp) (by
      cases r with
      | d x=>exact rf
      | l m xs=>exact rf
      | mo _ _=>exact rf
      | mf _ _=>exact rf
      | mb _ _=>exact rf)
noncomputable def cu:R->R
 | .d x=>.d x
 | .l _ xs=>.l .fresh xs
 | .mo ks vs=>.mo ks vs
 | .mb ks vs=>.mb ks vs
 | .mf ks vs=>.mf ks vs
noncomputable def aF (n:Nat) (F:List S->M R):List R->M R:=λrs=>if rs.length=n then (match F (rs.map bH) with
 | .ok r=>.ok (cu r)
 | _=>.bad) else .bad
theorem mD.args {He J H:Hp}(hp:HI c J H):∀{rs:List R}{vs:List V},mD c He J H rs vs->lB c.K J H (rs.map bH) vs
 | [],_,h=>h
 | r::rs,_,⟨v,us,h,h1,h2⟩=>by
  refine ⟨v,us,h,?_,mD.args hp h2⟩
  cases r with
  | d x=>exact h1
  | l m xs=>exact RR.list hp h1 rfl
  | mo _ _=>obtain ⟨a,h1,h2,_⟩:=h1;exact ⟨a,h1,h2⟩
  | mb _ _=>obtain ⟨a,h1,h2⟩:=h1;exact ⟨a,h1,h2.mono (aW.refl _) hp.ent⟩
  | mf _ _=>obtain ⟨a,h1,h2,_⟩:=h1;exact ⟨a,h1,h2⟩
theorem Jo {n:Nat}{F:List S->M R}{J H J1 H1:Hp}{Q:VK}{as:List S}{vs:List V}{T:Exc->Prop}(hT:c.K=X.K) (e1:Ext J H J1 H1) (ar:lB c.K J1 H1 as vs) (hl:as.length=n)
  (wr:dg (match F as with
   | .ok r=>.ok (cu r)
   | _=>.bad) (λr=>∀v J' H',Ext J H J' H'->RR c H J' H' r v->Q v H') T):qM X.K n F (vs++[]) H1 Q E0:=by
 rw [hT] at ar
 refine ⟨J1,as,e1.sub,hl,by rw [UR];exact ar,?_⟩
 cases q:F as with
 | bad=>rw [q] at wr;exact wr
 | exc x=>rw [q] at wr;exact wr
 | ok r=>
  rw [q] at wr
  intro v J' H' e2 fr
  refine wr v J' H' (e1.trans e2) ?_
  cases r with
  | d y=>exact (show Rep c.K J' y v from hT▸fr)
  | mo _ _=>exact fr.elim
  | mb _ _=>exact fr.elim
  | mf _ _=>obtain ⟨a,h1,h2,h3,h4⟩:=fr;exact ⟨a,h1,hT▸h2,h3,e1.h.free h4⟩
  | l m ys=>
   obtain ⟨a,us,h1,h2,h3,h4,h5⟩:=fr
   exact ⟨a,us,h1,h2,h3,e1.h.free h4,hT▸h5⟩
theorem yP {n:Nat}{F:List S->M R}{gs:G (List R)}(hT:c.K=X.K):∀σ H Q,tD c (gN (aF n F) gs) σ H Q->Jq (qM X.K n F) [] E0 (tA c gs) σ H Q:=λσ H Q ⟨J,env,sr,w⟩=>by
 refine ⟨J,env,sr,aG (aL w) λrs wr vs J1 H1 e1 r1=>?_⟩
 unfold aF at wr
 split at wr
 ·rename_i hl
  exact Jo hT e1 (r1.args (sr.hp.ext e1)) (by simpa using hl) wr
 ·exact wr.elim
theorem KJ {k n:Nat}{f:Sq}{fd:SY}{ps:List Str}{F:List S->M R}{x:Str}{p:Pos}{gs:G (List R)}(G:gp X.prog X.w X.K X.mg X.base pL k f fd ps (qM X.K n F)) (hr:eF k X.A) (hm:X.mg x=some (.ref f)) (hk:Ug X.K (.ref f)=true)
  (hb:Binds X.K fd ps []) (ha:D4 X c (e::es) gs) (hT:c.K=X.K:=by rfl) (hg:Gl X x:=by rfl) (hdb:(x == ("__debug__":Str))=false:=by decide) (he:Sv (e::es) X.env=(false,eval e X.env)::Sv es X.env:=by rfl)
  (hpl:(Vd pos (Sv es X.env)).any (·.1)=false:=by rfl):PD X c (.Call (.Name x p) (e::es) [] pos) (gN (aF n F) gs):=
 gg (vE (E:=E0) G hr hg hm hk hb .nil Dn ha hdb he hpl) (yP hT)
end
noncomputable def bJ (cells:List (Str×Sq)):List (Str×UP)->List (Str×Sq)->Option (List (Str×Sq))
 | [],cs=>some cs
 | (n,k)::r,cs=>if k == .free then (match cells.lookup n with
  | some a=>bJ cells r ((n,a)::cs)
  | none=>none) else bJ cells r cs
theorem mZ {env:Env}:∀(names:List (Str×UP)) (cs cl:List (Str×Sq)),bJ env.cells names cs=some cl->
  (forIn names cs λ(x:Str×UP) (r:List (Str×Sq))=>(if (x.2 == .free)=true then do let a <-cellOf env x.1;pure (U7 ((x.1,a)::r)) else pure (U7 r):Sem (ForInStep (List (Str×Sq)))))=(pure cl:Sem (List (Str×Sq)))
 | [],cs,cl,h=>by cases h;rfl
 | (n,k)::r,cs,cl,h=>by
  unfold bJ at h
  rw [List.forIn_cons]
  cases hk:(k == Ua) with
  | true=>
   rw [hk,if_pos rfl] at h
   cases hc:env.cells.lookup n with
   | none=>rw [hc] at h;cases h
   | some a=>
    rw [hc] at h
    have e:cellOf env n=pure a:=by unfold cellOf;rw [hc]
    simp only [hk,if_true,e]
    exact mZ r ((n,a)::cs) cl h
  | false=>
   rw [hk,if_neg (by decide)] at h
   simp only [hk]
   exact mZ r cs cl h
theorem xM {RZ:Vc}{env:Env}{cl:List (Str×Sq)}(h:bJ env.cells RZ.names []=some cl):closureFor RZ env=pure cl:=by
 have q:=mZ (env:=env) RZ.names [] cl h
 unfold closureFor
 show ((forIn RZ.names [] λ(x:Str×UP) (r:List (Str×Sq))=>(if (x.2 == .free)=true then do let a <-cellOf env x.1;pure (U7 ((x.1,a)::r)) else pure (U7 r):Sem (ForInStep (List (Str×Sq))))) >>= λz=>pure z)=pure cl
 rw [q]
 rfl
theorem h_ {cells:List (Str×Sq)}:∀(names:List (Str×UP)) (cs cl:List (Str×Sq)),bJ cells names cs=some cl->(∀x c,cs.lookup x=some c->cells.lookup x=some c)->
  (∀x c,cl.lookup x=some c->cells.lookup x=some c)/\(∀x,((cs.lookup x).isSome=true\/(x,Ua)∈names)->(cl.lookup x).isSome=true)
 | [],cs,cl,h,k=>by
  cases h
  exact ⟨k,λx hx=>hx.elim id λz=>by cases z⟩
 | (n,kd)::r,cs,cl,h,k=>by
  unfold bJ at h
  cases hk:(kd == Ua) with
  | true=>
   rw [hk,if_pos rfl] at h
   cases hc:cells.lookup n with
   | none=>rw [hc] at h;cases h
   | some a=>
    rw [hc] at h
    obtain ⟨h1,h2⟩:=h_ r ((n,a)::cs) cl h (λx c q=>by
     rw [Uq] at q
     cases e:x == n with
     | true=>
      rw [e] at q
      cases q
      have:x=n:=by simpa using e
      rw [this];exact hc
     | false=>rw [e] at q;exact k x c q)
    refine ⟨h1,λx hx=>h2 x ?_⟩
    by_cases e:x=n
    ·left;subst e;rw [Uq];simp
    ·have e':(x == n)=false:=by simpa using e
     rcases hx with hx | hx
     ·left;rw [Uq,e'];exact hx
     ·right
      rcases SD.mp hx with z | z
      ·cases z;exact absurd rfl e
      ·exact z
  | false=>
   rw [hk,if_neg (by decide)] at h
   obtain ⟨h1,h2⟩:=h_ r cs cl h k
   refine ⟨h1,λx hx=>h2 x ?_⟩
   rcases hx with hx | hx
   ·exact .inl hx
   ·rcases SD.mp hx with z | z
    ·cases z;simp at hk
    ·exact .inr z
section
variable {X:Cx}
def cN (X:Cx) (own:List Str) (cap:List Nat):List Str:=own++cap.map λ(j:Nat)=>(X.N[j]?).getD ("":Str)
noncomputable def L6 (X:Cx) (own:List Str) (cap:List Nat) (RZ:Vc) (cl:List (Str×Sq)) (C:Sq) (s:Sd) (H:Hp) (fp:List Sq):Cx where
 prog:=X.prog
 w:=X.w
 K:=X.K
 mg:=X.mg
 base:=X.base
 A:=X.A
 N:=cN X own cap
 s₀:=s
 H₀:=H
 env:=compEnvC RZ cl C X.env
 outer:=X.stack
 stack:=X.stack
 ex:=fp
 fn:=λ_=>false
 calm:=X.calm
 pn:=[]
 xe:=λ_ _=>False
noncomputable def eW (X:Cx) (cap:List Nat):Bool:=cap.all λj=>match X.N[j]? with
 | some x=>(match X.env.scope.names.lookup x with
  | some .cell=>true
  | some .free=>true
  | _=>false)
 | none=>false
theorem zY {RZ:Vc}{env:Env}(hc:∀y∈RZ.names,y.2≠.cell):∀{x:Str},((relabel RZ env).names.lookup x=some .cell\/(relabel RZ env).names.lookup x=some .free)->(x,Ua)∈RZ.names:=by
 unfold relabel
 have main:∀(names:List (Str×UP)),(∀y∈names,y.2≠.cell)->∀x,((names.map λ(n,k)=>if (k == Ua && env.scope.kind == .function && env.kindOf n == some .cell) then (n,Wu) else (n,k)).lookup x=some .cell\/
   (names.map λ(n,k)=>if (k == Ua && env.scope.kind == .function && env.kindOf n == some .cell) then (n,Wu) else (n,k)).lookup x=some .free)->(x,Ua)∈names:=by
  intro names
  induction names with
  | nil=>intro _ x h;simp at h
  | cons p r ih=>
   obtain ⟨n,k⟩:=p
   intro hc x h
   rw [Sx] at h
   simp only at h
   by_cases hx:x=n
   ·subst hx
    have hk:k≠.cell:=hc (x,k) Si
    have:k=.free:=by
     by_cases q:(k == Ua && env.scope.kind == .function && env.kindOf x == some .cell)=true
     ·rw [Sk,Sk] at q
      simpa using q.1.1
     ·rw [if_neg q,Uq] at h
      simp at h
      rcases h with h | h
      ·exact absurd h hk
      ·exact h
    subst this
    exact Si
   ·have hx':(x == n)=false:=by simpa using hx
    refine Sg _ (ih (λy hy=>hc y (Sg _ hy)) x ?_)
    have red:∀(q:Str×UP) (l:List (Str×UP)),q.1=n->acq x (q::l)=acq x l:=λq l hq=>by
     obtain ⟨q1,q2⟩:=q
     simp only at hq
     subst hq
     rw [Uq,hx']
    have hq:(if (k == Ua && env.scope.kind == .function && env.kindOf n == some .cell) then (n,Wu) else (n,k)).1=n:=by split <;> rfl
    rw [red _ _ hq] at h
    exact h
 intro x h
 exact main RZ.names hc x h
end
section
variable {X:Cx}{c:C}
noncomputable def gX (X:Cx) (c:C) (ifs:List Tc) (g:G Bool):Prop:=
 ∀(R0:List (Sq×Obj)) (s:Sd) (σ:L2.St) (H:Hp) (Q:Bool->Hp->Prop),Inv X R0 σ H s->tB c g σ H Q->
  SH (SM X.prog X.w) X.A (forIn ifs true λc r=>if r=true then do let ok <-Zb c X.env (eval c X.env);pure (U7 ok) else pure (U7 r)) (TP X R0 σ Q) X.xe s
def cI:G Bool:=λ_=>.ok true
noncomputable def dB (gt:GT) (gts:G Bool) (ge:G R):List D->Ev->M (List D)
 | [],_=>.ok []
 | d::ds,env=>gt d env >>= λe=>gts e >>= λk=>if k=true then ge e >>= λr=>toD r >>= λy=>dB gt gts ge ds e >>= λys=>.ok (y::ys) else dB gt gts ge ds e
def cE (n:Nat) (cap:List Nat) (env:Ev):Ev:=Th n none++cap.map λ(j:Nat)=>(env[j]?).getD none
noncomputable def bA (n:Nat) (cap:List Nat) (gi:G (List D)) (gt:GT) (gts:G Bool) (ge:G R):G R:=λenv=>gi env >>= λds=>if ds.length<=sizeLine then dB gt gts ge ds (cE n cap env) >>= λys=>.ok (.l .fresh ys) else .bad
theorem kJ {α:Type}{n:Nat}{cap:List Nat}{env:List (Option α)}{i:Nat}{x:α}(h:(Th n none++cap.map λ(j:Nat)=>(env[j]?).getD none)[i]?=some (some x)):∃j,n<=i/\cap[i - n]?=some j/\env[j]?=some (some x):=by
 by_cases hi:i < n
 ·rw [UQ (by simpa using hi),Wq] at h
  split at h <;> cases h
 ·rw [Uk (by simpa using hi),TR,SJ] at h
  cases q:cap[i - n]? with
  | none=>rw [q] at h;cases h
  | some j=>
   rw [q] at h
   refine ⟨j,by omega,rfl,?_⟩
   have h':(env[j]?).getD none=some x:=TF h
   cases z:env[j]? with
   | none=>rw [z] at h';cases h'
   | some o=>rw [z] at h';exact congrArg some h'
theorem N8 {α:Type}{n:Nat}{cap:List Nat}{env:List (Option α)}{i j:Nat}{x:α}(h1:n<=i) (h2:cap[i - n]?=some j) (h3:env[j]?=some (some x)):(Th n none++cap.map λ(j:Nat)=>(env[j]?).getD none)[i]?=some (some x):=by
 rw [Uk (by simpa using h1),TR,SJ,h2]
 simp [h3]
theorem SR.cap {J H:Hp}{σ:L2.St}{env:Ev}(sr:SR c J H σ env) (n:Nat) (cap:List Nat) (hnd:cap.Nodup):SR c J H (Th n none++cap.map λ(j:Nat)=>(σ[j]?).getD none) (cE n cap env):=by
 refine ⟨sr.hp,by simp [cE],λi x q=>?_,λi j xs ys v hij q1 q2 q3 q4=>?_⟩
 ·obtain ⟨j,h1,h2,h3⟩:=kJ q
  obtain ⟨v,k1,k2⟩:=sr.at_ j x h3
  exact ⟨v,N8 h1 h2 k1,k2⟩
 ·obtain ⟨a,h1,h2,h3⟩:=kJ q1
  obtain ⟨b,h4,h5,h6⟩:=kJ q2
  obtain ⟨a',h7,h8,h9⟩:=kJ q3
  obtain ⟨b',RX,h11,h12⟩:=kJ q4
  rw [h2] at h8;cases h8
  rw [h5] at h11;cases h11
  have hab:a≠b:=λz=>by
   subst z
   have e1:=(SW.mp h2)
   have e2:=(SW.mp h5)
   have:=(Yq hnd).mp (e1.2.trans e2.2.symm)
   omega
  exact sr.sep a b xs ys v hab h3 h6 h9 h12
theorem SR.other {J H:Hp}{σ:L2.St}{env:Ev}(sr:SR c J H σ env){p:Sq}{o:HO}(hJ:J p=none) (h0:c.H0 p=none) (hn:∀(j:Nat) (xs:Mn),env[j]?=some (some (mS xs))->σ[j]?≠some (some (.ref p))):SR c J (L2.upd H p o) σ env:=by
 refine ⟨⟨λb u q=>?_,λb u q=>?_,sr.hp.entJ,sr.hp.frz⟩,sr.len,λj y q=>?_,sr.sep⟩
 ·have:b≠p:=λz=>by rw [z,hJ] at q;cases q
  rw [bI this];exact sr.hp.sub b u q
 ·have:b≠p:=λz=>by rw [z,h0] at q;cases q
  rw [bI this];exact sr.hp.ent b u q
 ·obtain ⟨w,k1,k2⟩:=sr.at_ j y q
  refine ⟨w,k1,?_⟩
  cases y with
  | d x=>exact k2
  | bor zs=>exact k2
  | db _ _=>exact k2
  | fn _=>exact k2
  | dk ks zs=>
   obtain ⟨p',rfl,⟨us,ws,ep,m1,mr⟩,m2⟩:=k2
   have hne:p'≠p:=λz=>hn j (.inr (ks,zs)) q (z▸k1)
   exact ⟨p',rfl,⟨us,ws,ep,by rw [bI hne];exact m1,mr⟩,m2⟩
  | own zs=>
   obtain ⟨p',us,rfl,m1,m2,m3,m4⟩:=k2
   have hne:p'≠p:=λz=>hn j (.inl zs) q (z▸k1)
   exact ⟨p',us,rfl,by rw [bI hne];exact m1,m2,m3,m4⟩
theorem Ext.other {J H J' H':Hp}(e:Ext J H J' H'){p:Sq}{o:HO}(h:H p=none) (hJ:J' p=none):Ext J H J' (L2.upd H' p o):=
 ⟨λb u q=>by rw [bI (fT q h)];exact e.h b u q,e.j,λb u q=>by
  have:b≠p:=λz=>by rw [z,hJ] at q;cases q
  rw [bI this];exact e.sub b u q,e.frz⟩
theorem A2 {P:Sy}{w:S9}{H:Hp}{h h':Ui}{a:Sq}(x:gx P w H h) (hn:H a=none) (sb:T5 a h h'):gx P w H h':=λb u e=>by
 refine (x b u e).stay (λd v hd q=>(sb.2 d ?_).trans q) (λ_ q=>q) λ_ _ q=>q
 rintro rfl
 rcases hd with rfl | hd
 ·rw [hn] at e;cases e
 ·rw [hn] at hd;cases hd
theorem P5 {R0:List (Sq×Obj)}{σ:L2.St}{H:Hp}{s:Sd}{own:List Str}{cap:List Nat}{RZ:Vc}{cl:List (Str×Sq)}{fp:List Sq}{h1:Ui}{m:Str->Option Sa}{tk:Nat}(I:Inv X R0 σ H s) (ok:(L6 X own cap RZ cl s.heap.objs.size s H fp).Ok)
  (hcl:bJ X.env.cells RZ.names []=some cl) (hcell:∀y∈RZ.names,y.2≠.cell) (hcap:eW X cap=true) (QG:∀j∈cap,∀x,X.N[j]?=some x->(relabel RZ X.env).names.lookup x≠some .local)
  (hns:h1.Ns s.heap.objs.size m) (old:∀b o,s.heap.get? b=some o->h1.get? b=some o):
  Inv (L6 X own cap RZ cl s.heap.objs.size s H fp) [] (Th own.length none++cap.map λ(j:Nat)=>(σ[j]?).getD none) H {s with heap:=h1,toks:=tk}:=by
 obtain ⟨m1,m2⟩:=h_ RZ.names [] cl hcl (λx c h=>by simp at h)
 refine ⟨ok,rfl,I.bare,Un.kept old,⟨m,hns,λi x v q1 q2 q3=>?_⟩,λx d h=>?_,I.hok.fresh (Sl _),λx d h=>I.freeC x d (m1 x d h),λp hp=>absurd (show p∈([]:List (Sq×Obj)) from hp) (by simp),I.hok.kept old,?_⟩
 ·obtain ⟨j,h2,h3,h4⟩:=kJ q2
  have q1':(own++cap.map λ(j:Nat)=>(X.N[j]?).getD ("":Str))[i]?=some x:=q1
  rw [Uk (by exact h2),SJ,h3] at q1'
  have hj:j∈cap:=T6 h3
  have hc:(match X.N[j]? with
   | some x=>(match X.env.scope.names.lookup x with
    | some .cell=>true
    | some .free=>true
    | _=>false)
   | none=>false)=true:=by
   unfold eW at hcap
   exact SK.mp hcap j hj
  cases hx:X.N[j]? with
  | none=>rw [hx] at hc;cases hc
  | some y=>
   rw [aaE,hx] at q1'
   rw [hx] at hc
   have e:y=x:=by simpa using q1'
   subst e
   have kd:X.env.kindOf y=some .cell\/X.env.kindOf y=some .free:=by
    unfold acL
    simp only at hc
    split at hc
    ·rename_i z;exact .inl z
    ·rename_i z;exact .inr z
    ·cases hc
   obtain ⟨mX,nX,lX⟩:=I.loc
   obtain ⟨u,ru,lu⟩:=lX j y v hx h4 (kd.elim (λz=>.inr (.inl z)) λz=>.inr (.inr z))
   refine ⟨u,ru,.inr ?_⟩
   have kd':(relabel RZ X.env).names.lookup y=some .cell\/(relabel RZ X.env).names.lookup y=some .free:=by
    rcases q3 with z | z | z
    ·exact absurd z (QG j hj y hx)
    ·exact .inl z
    ·exact .inr z
   refine ⟨kd',?_⟩
   obtain ⟨d,hd⟩:=Ub.mp (m2 y (.inr (zY hcell kd')))
   refine ⟨d,hd,?_⟩
   rcases lu with ⟨z,_⟩ | ⟨_,d',hd',z⟩
   ·rcases kd with k | k <;> (rw [k] at z;cases z)
   ·have:=m1 y d hd
    rw [hd'] at this
    cases this
    obtain ⟨o,ho,hod⟩:=z
    exact ⟨o,old _ _ ho,hod⟩
 ·obtain ⟨v,o,ho,hod⟩:=I.cell x d (m1 x d h)
  exact ⟨v,o,old _ _ ho,hod⟩
 ·show _=(own++cap.map λ(j:Nat)=>(X.N[j]?).getD ("":Str)).length
  simp
noncomputable def eZ (X:Cx) (cap:List Nat) (RZ:Vc):Bool:=cap.all λj=>match X.N[j]? with
 | some x=>!((relabel RZ X.env).names.lookup x == some .local)
 | none=>true
noncomputable def gq:List Nat->Bool
 | []=>true
 | x::r=>!(r.contains x) && gq r
theorem BL:∀{l:List Nat},gq l=true->l.Nodup
 | [],_=>U4
 | x::r,h=>by
  unfold gq at h
  rw [Sk] at h
  refine Ud.mpr ⟨λz=>?_,BL h.2⟩
  have:=h.1
  simp [z] at this
theorem LR {X:Cx}{R0:List (Sq×Obj)}{σ:L2.St}{H:Hp}{s:Sd}(I:L2.Inv X R0 σ H s){T:Sq}(h:s.heap.objs.size<=T):(T∈X.ex\/X.s₀.heap.objs.size<=T)/\T≠X.env.locals/\(∀x c,X.env.cells.lookup x=some c->c≠T)/\∀p∈X.pn++R0,p.1≠T:=by
 have ne:∀b,b < s.heap.objs.size->b≠T:=λb hb z=>absurd (SI (z▸hb) h) (UO _)
 refine ⟨.inr (S5 I.sz h),(ne _ I.lt).symm,λx c hc=>?_,λp hp=>ne _ (SA (I.pin p hp).1)⟩
 obtain ⟨v,o,hv,_⟩:=I.cell x c hc
 exact ne _ (SA hv)
theorem qv {X:Cx}{R0:List (Sq×Obj)}{σ:L2.St}{H:Hp}{s:Sd}{C:Sq}{h':Ui}{o0:Obj}(I:L2.Inv X R0 σ H s) (ap:(C∈X.ex\/X.s₀.heap.objs.size<=C)/\C≠X.env.locals/\(∀x c,X.env.cells.lookup x=some c->c≠C)/\∀p∈X.pn++R0,p.1≠C) (hf:H C=none) (sb:T5 C s.heap h'):L2.Inv X R0 σ H {s with heap:=h'}:=by
 refine I.call' (ch:=[C]) rfl ⟨λb o hb hn _ hx=>?_,λb o hb hn _ hx=>⟨o.slots,?_⟩,λ_ _ _ n _=>n,λb o hb hx=>⟨o,?_⟩,λ_ _ q=>q,λ_ _ _ q=>q,λ_ ps q=>⟨#[],by rw [q];simp⟩⟩ (λa o ha=>?_) I.bare (λb hb=>by rw [So.mp hb];exact ap)
 ·exact (sb.2 b λz=>hx (by simp [z])).trans hb
 ·exact (sb.2 b λz=>hx (by simp [z])).trans hb
 ·exact (sb.2 b λz=>hx (by simp [z])).trans hb
 ·refine (I.hok a o ha).stay (λb u hb q=>(sb.2 b λz=>?_).trans q) (λ_ q=>q) λ_ _ q=>q
  rcases hb with rfl | hb
  ·rw [z,hf] at ha;cases ha
  ·rw [z,hf] at hb;cases hb
end
mutual
noncomputable def bx:D->D->Bool
 | .non,.non=>true
 | .bl p,.bl q=>p == q
 | .bl p,.int q=>(if p then 1 else 0) == q
 | .int p,.bl q=>p == (if q then 1 else 0)
 | .int p,.int q=>p == q
 | .str p,.str q=>p == q
 | .tup p,.tup q=>cQ p q
 | .lst p,.lst q=>cQ p q
 | .emp,.emp=>true
 | .exn _ _ _,.exn _ _ _=>true
 | .dct _ _,.dct _ _=>true
 | _,_=>false
noncomputable def cQ:List D->List D->Bool
 | [],[]=>true
 | x::xs,y::ys=>bx x y && cQ xs ys
 | _,_=>false
end
mutual
theorem fZ:∀d:D,bx d d=true
 | .non=>by simp [bx]
 | .bl _=>by simp [bx]
 | .int _=>by simp [bx]
 | .str _=>by simp [bx]
 | .tup xs=>by simp only [bx];exact qb xs
 | .lst xs=>by simp only [bx];exact qb xs
 | .emp=>by simp [bx]
 | .exn _ _ _=>by simp [bx]
 | .dct _ _=>by simp [bx]
theorem qb:∀ds:List D,cQ ds ds=true
 | []=>by simp [cQ]
 | x::xs=>by simp only [cQ,fZ x,qb xs,abG]
end
theorem oG:∀{xs ys:List D},xs.length≠ys.length->cQ xs ys=false
 | [],[],h=>absurd rfl h
 | [],_::_,_=>by simp [cQ]
 | _::_,[],_=>by simp [cQ]
 | x::xs,y::ys,h=>by
  simp only [cQ,oG (xs:=xs) (ys:=ys) (λz=>h (congrArg (· + 1) z)),VL]
noncomputable def o6 (xs ys:List D) (j:Nat):Bool:=match xs[j]?,ys[j]? with
 | some x,some y=>bx x y
 | _,_=>false
theorem oH:∀{xs ys:List D},xs.length=ys.length->(Se xs.length).all (o6 xs ys)=cQ xs ys
 | [],[],_=>by simp [cQ]
 | x::xs,y::ys,h=>by
  have ih:=oH (xs:=xs) (ys:=ys) (by simpa using h)
  rw [Uh,WE,VE,YJ]
  simp only [cQ]
  rw [<-ih]
  rfl
theorem y_ (xs ys:List D):((Se (min xs.length ys.length)).all (o6 xs ys) && xs.length == ys.length)=cQ xs ys:=by
 by_cases h:xs.length=ys.length
 ·rw [<-h,Nat.min_self,oH h];simp
 ·rw [oG h,beq_eq_false_iff_ne.mpr h,VL]
section
structure HF (K:R_) (J:Hp) (s:Sd):Prop where
 t:∀a xs,dQ K J a xs->∃R1:List Sa,Vals xs R1/\s.heap.IsTuple a R1.toArray
 l:∀a xs,dD K J a xs->∃R1:List Sa,Vals xs R1/\s.heap.IsList a R1.toArray
 e:∀a,J a=some (.dK [])->∃o,s.heap.get? a=some o/\o.cls=.type "dict"
 d:∀a ep R7,J a=some (lI a ep R7)->∃o es,s.heap.get? a=some o/\o.ExactDict/\o.data=.dict es ep/\XD yt R7 es.toList
variable {K:R_}{J:Hp}{s:Sd}
theorem HF.of {X:Cx}{c:C}{R0:List (Sq×Obj)}{σ:L2.St}{H:Hp}(I:Inv X R0 σ H s) (hs:aW J H):HF X.K J s:=
 ⟨λa xs h=>let ⟨R1,r,p,_⟩:=I.tuple (gj hs h);⟨R1,r,p⟩,λa xs h=>let ⟨R1,r,p,_⟩:=I.list (hs.seq h);⟨R1,r,p.isList⟩,λa h=>by
  obtain ⟨_,_,vs,_,p⟩:=(show dw X.prog X.w H s.heap a (.dK []) from I.hok a _ (hs _ _ h))
  obtain ⟨o,es,ep,h1,h2,_⟩:=p
  exact ⟨o,h1,h2.1⟩,λa ep R7 h=>(show dw X.prog X.w H s.heap a (lI a ep R7) from I.hok a _ (hs _ _ h)).1⟩
theorem ET {a:Sq}{xs ys:List Sa}(h:s.heap.IsTuple a xs.toArray) (h':s.heap.IsTuple a ys.toArray):xs=ys:=by
 obtain ⟨o,ho,_,n,hd⟩:=h
 obtain ⟨o',ho',_,n',hd'⟩:=h'
 rw [ho] at ho';cases ho'
 rw [hd] at hd'
 injection hd' with h1 _
 simpa using congrArg YD h1
theorem CT {a:Sq}{xs ys:List Sa}(h:s.heap.IsList a xs.toArray) (h':s.heap.IsList a ys.toArray):xs=ys:=by
 obtain ⟨o,ho,_,n,hd⟩:=h
 obtain ⟨o',ho',_,n',hd'⟩:=h'
 rw [ho] at ho';cases ho'
 rw [hd] at hd'
 injection hd' with h1 _
 simpa using congrArg YD h1
mutual
theorem Rep.inj (F:HF K J s):∀{d e:D}{v:V},Rep K J d v->Rep K J e v->dep d<=1000->dep e<=1000->d=e
 | _,_,_,.emp _,_,h,_=>by unfold dep at h;omega
 | _,_,_,.exn _ _ _ _ _,_,h,_=>by unfold dep at h;omega
 | _,_,_,.dct _ _ _ _ _,_,h,_=>by unfold dep at h;omega
 | _,_,_,.non,.non,_,_=>rfl
 | _,_,_,.bl _,.bl _,_,_=>rfl
 | _,_,_,.int _,.int _,_,_=>rfl
 | _,_,_,.str _,.str _,_,_=>rfl
 | _,_,_,.tup _ _,.emp _,_,h=>by unfold dep at h;omega
 | _,_,_,.lst _ _,.emp _,_,h=>by unfold dep at h;omega
 | _,_,_,.tup _ _,.exn _ _ _ _ _,_,h=>by unfold dep at h;omega
 | _,_,_,.tup _ _,.dct _ _ _ _ _,_,h=>by unfold dep at h;omega
 | _,_,_,.lst _ _,.exn _ _ _ _ _,_,h=>by unfold dep at h;omega
 | _,_,_,.lst _ _,.dct _ _ _ _ _,_,h=>by unfold dep at h;omega
 | _,_,_,.tup h hs,.tup h' hs',k,k'=>by
  obtain ⟨R1,r,p⟩:=F.t _ _ h
  obtain ⟨its',r',p'⟩:=F.t _ _ h'
  have:=ET p p'
  subst this
  have:=r.inj r'
  subst this
  rw [aK.inj F hs hs' (by unfold dep at k;omega) (by unfold dep at k';omega)]
 | _,_,_,.lst h hs,.lst h' hs',k,k'=>by
  obtain ⟨R1,r,p⟩:=F.l _ _ h
  obtain ⟨its',r',p'⟩:=F.l _ _ h'
  have:=CT p p'
  subst this
  have:=r.inj r'
  subst this
  rw [aK.inj F hs hs' (by unfold dep at k;omega) (by unfold dep at k';omega)]
 | _,_,_,.tup h _,.lst h' _,_,_=>by
  obtain ⟨R1,r,p⟩:=F.t _ _ h
  obtain ⟨its',r',p'⟩:=F.l _ _ h'
  exact absurd rfl (Yw p' p)
 | _,_,_,.lst h _,.tup h' _,_,_=>by
  obtain ⟨R1,r,p⟩:=F.l _ _ h
  obtain ⟨its',r',p'⟩:=F.t _ _ h'
  exact absurd rfl (Yw p p')
theorem aK.inj (F:HF K J s):∀{ds es:List D}{vs:List V},aK K J ds vs->aK K J es vs->deps ds<=1000->deps es<=1000->ds=es
 | _,_,_,.nil,.nil,_,_=>rfl
 | _,_,_,.cons h hs,.cons h' hs',k,k'=>by rw [Rep.inj F h h' (by unfold deps at k;omega) (by unfold deps at k';omega),aK.inj F hs hs' (by unfold deps at k;omega) (by unfold deps at k';omega)]
end
theorem jD {A:Td}{a:Sq}{R1:Array Sa}{v:V}{u:Sa}(h:s.heap.IsTuple a R1) (r:RelV v u) (f:t_ v=true) (hu:A.units < Us):UT A s (.ref a) u false/\UT A s u (.ref a) false:=by
 cases v with
 | non=>cases r;exact ⟨.tuple_none h hu,.none_tuple h hu⟩
 | bl b=>cases r;exact ⟨.tuple_bool b h hu,.bool_tuple b h hu⟩
 | int i=>obtain ⟨t,rfl⟩:=r;exact ⟨.tuple_int i t h hu,.int_tuple i t h hu⟩
 | str x=>obtain ⟨t,rfl⟩:=r;exact ⟨.tuple_str x t h hu,.str_tuple x t h hu⟩
 | _=>exact absurd (show false=true from f) S_
theorem kj {A:Td}{a:Sq}{R1:Array Sa}{v:V}{u:Sa}(h:s.heap.IsList a R1) (r:RelV v u) (f:t_ v=true) (hu:A.units < Us):UT A s (.ref a) u false/\UT A s u (.ref a) false:=by
 cases v with
 | non=>cases r;exact ⟨.list_none h hu,.none_list h hu⟩
 | bl b=>cases r;exact ⟨.list_bool b h hu,.bool_list b h hu⟩
 | int i=>obtain ⟨t,rfl⟩:=r;exact ⟨.list_int i t h hu,.int_list i t h hu⟩
 | str x=>obtain ⟨t,rfl⟩:=r;exact ⟨.list_str x t h hu,.str_list x t h hu⟩
 | _=>exact absurd (show false=true from f) S_
noncomputable def qq:D->Bool
 | .tup _=>false
 | .lst _=>false
 | .emp=>false
 | .exn _ _ _=>false
 | .dct _ _=>false
 | _=>true
theorem Rep.flat {d:D}{v:V}(h:Rep K J d v) (f:qq d=true):t_ v=true:=by
 cases h <;> first | rfl | cases f
theorem GR {d e:D}{v w:V}(h:Rep K J d v) (h':Rep K J e w) (f:qq d=true) (f':qq e=true):Ma v w=bx d e:=by
 cases h <;> cases h' <;> first | rfl | cases f | cases f' | simp [Ma,bx]
theorem in1_units (A:Td):A.in1.units=A.units + 1:=rfl
theorem t9 (F:HF K J s){d e:D}{v w:V}{u u':Sa}(A:Td) (hd:Rep K J d v) (he:Rep K J e w) (rv:RelV v u) (rw':RelV w u') (f:qq d=true) (hu:A.units < Us) (hu':dep e<=1000):UT A s u u' (bx d e):=by
 cases q:qq e with
 | true=>rw [<-GR hd he f q];exact L_ rv rw' (hd.flat f) (he.flat q)
 | false=>
  cases he with
  | tup h' hs'=>
   cases rw'
   obtain ⟨its',r',p'⟩:=F.t _ _ h'
   have:=(jD p' rv (hd.flat f) hu).2
   cases hd <;> first | exact this | cases f
  | lst h' hs'=>
   cases rw'
   obtain ⟨its',r',p'⟩:=F.l _ _ h'
   have:=(kj p' rv (hd.flat f) hu).2
   cases hd <;> first | exact this | cases f
  | emp _=>unfold dep at hu';omega
  | exn _ _ _ _ _=>unfold dep at hu';omega
  | dct _ _ _ _ _=>unfold dep at hu';omega
  | _=>cases q
mutual
theorem nL (F:HF K J s):∀{d e:D}{v w:V}{u u':Sa}(A:Td),Rep K J d v->Rep K J e w->RelV v u->RelV w u'->A.units + dep d < Us->dep d<=1000->dep e<=1000->UT A s u u' (bx d e)
 | .tup ds,e,_,w,u,u',A,.tup h hs,he,rv,rw',hu,hd1,hu'=>by
  cases rv
  obtain ⟨R1,r,p⟩:=F.t _ _ h
  have Qx:A.units < Us:=by unfold dep at hu;omega
  cases he with
  | tup h' hs'=>
   cases rw'
   obtain ⟨its',r',p'⟩:=F.t _ _ h'
   rename_i a vs b ws es
   by_cases q:a=b
   ·subst q
    have:=Rep.inj F (.tup h hs) (.tup h' hs') hd1 hu'
    rw [<-this,fZ]
    exact YG _
   ·have l1:R1.length=ds.length:=by rw [<-r.length,hs.length]
    have l2:its'.length=es.length:=by rw [<-r'.length,hs'.length]
    simp only [bx]
    rw [<-y_,<-l1,<-l2]
    refine ZG q ?_
    have:=Z1 (e:=o6 ds es) p p' Qx λj j1 j2=>by
     have k1:j < ds.length:=by rw [<-l1];simpa using j1
     have k2:j < es.length:=by rw [<-l2];simpa using j2
     have:=nM F A.in1 hs hs' r r' (by rw [in1_units];unfold dep at hu;omega) (by unfold dep at hd1;omega) (by unfold dep at hu';omega) j k1 k2
     have m1:j < R1.length:=by simpa using j1
     have m2:j < its'.length:=by simpa using j2
     simpa [m1,m2] using this
    simpa using this
  | lst h' hs'=>
   cases rw'
   obtain ⟨its',r',p'⟩:=F.l _ _ h'
   exact abY p p' Qx
  | non=>exact (jD p rw' rfl Qx).1
  | bl _=>exact (jD p rw' rfl Qx).1
  | int _=>exact (jD p rw' rfl Qx).1
  | str _=>exact (jD p rw' rfl Qx).1
  | emp _=>unfold dep at hu';omega
  | exn _ _ _ _ _=>unfold dep at hu';omega
  | dct _ _ _ _ _=>unfold dep at hu';omega
 | .lst ds,e,_,w,u,u',A,.lst h hs,he,rv,rw',hu,hd1,hu'=>by
  cases rv
  obtain ⟨R1,r,p⟩:=F.l _ _ h
  have Qx:A.units < Us:=by unfold dep at hu;omega
  cases he with
  | lst h' hs'=>
   cases rw'
   obtain ⟨its',r',p'⟩:=F.l _ _ h'
   rename_i a vs b ws es
   by_cases q:a=b
   ·subst q
    have:=Rep.inj F (.lst h hs) (.lst h' hs') hd1 hu'
    rw [<-this,fZ]
    exact YG _
   ·have l1:R1.length=ds.length:=by rw [<-r.length,hs.length]
    have l2:its'.length=es.length:=by rw [<-r'.length,hs'.length]
    simp only [bx]
    refine ZG q ?_
    by_cases z:ds.length=es.length
    ·rw [<-oH z,<-l1]
     have:=aam (e:=o6 ds es) p p' (by simp;omega) Qx λj j1 j2=>by
      have k1:j < ds.length:=by rw [<-l1];simpa using j1
      have k2:j < es.length:=by rw [<-l2];simpa using j2
      have:=nM F A.in1 hs hs' r r' (by rw [in1_units];unfold dep at hu;omega) (by unfold dep at hd1;omega) (by unfold dep at hu';omega) j k1 k2
      have m1:j < R1.length:=by simpa using j1
      have m2:j < its'.length:=by simpa using j2
      simpa [m1,m2] using this
     simpa using this
    ·rw [oG z]
     exact abt p p' (by simp;omega) Qx
  | tup h' hs'=>
   cases rw'
   obtain ⟨its',r',p'⟩:=F.t _ _ h'
   exact abZ p p' Qx
  | non=>exact (kj p rw' rfl Qx).1
  | bl _=>exact (kj p rw' rfl Qx).1
  | int _=>exact (kj p rw' rfl Qx).1
  | str _=>exact (kj p rw' rfl Qx).1
  | emp _=>unfold dep at hu';omega
  | exn _ _ _ _ _=>unfold dep at hu';omega
  | dct _ _ _ _ _=>unfold dep at hu';omega
 | .non,e,v,w,u,u',A,hd,he,rv,rw',hu,_,hu'=>t9 F A hd he rv rw' rfl (by omega) hu'
 | .bl _,e,v,w,u,u',A,hd,he,rv,rw',hu,_,hu'=>t9 F A hd he rv rw' rfl (by omega) hu'
 | .int _,e,v,w,u,u',A,hd,he,rv,rw',hu,_,hu'=>t9 F A hd he rv rw' rfl (by omega) hu'
 | .emp,e,v,w,u,u',A,hd,he,rv,rw',hu,hd1,hu'=>by unfold dep at hd1;omega
 | .exn _ _ _,e,v,w,u,u',A,hd,he,rv,rw',hu,hd1,hu'=>by unfold dep at hd1;omega
 | .dct _ _,e,v,w,u,u',A,hd,he,rv,rw',hu,hd1,hu'=>by unfold dep at hd1;omega
 | .str _,e,v,w,u,u',A,hd,he,rv,rw',hu,_,hu'=>t9 F A hd he rv rw' rfl (by omega) hu'
theorem nM (F:HF K J s):∀{ds es:List D}{vs ws:List V}{us us':List Sa}(A:Td),aK K J ds vs->aK K J es ws->Vals vs us->Vals ws us'->A.units + deps ds < Us->deps ds<=1000->deps es<=1000->
  ∀(j:Nat) (h1:j < ds.length) (h2:j < es.length),UT A s (us.getD j .none) (us'.getD j .none) (o6 ds es j)
 | _,_,_,_,_,_,A,.cons h hs,.cons h' hs',.cons r rs,.cons r' rs',hu,k1,k2,0,_,_=>nL F A h h' r r' (by unfold deps at hu;omega) (by unfold deps at k1;omega) (by unfold deps at k2;omega)
 | _,_,_,_,_,_,A,.cons h hs,.cons h' hs',.cons r rs,.cons r' rs',hu,k1,k2,j + 1,h1,h2=>nM F A hs hs' rs rs' (by unfold deps at hu;omega) (by unfold deps at k1;omega) (by unfold deps at k2;omega) j (by simpa using h1) (by simpa using h2)
end
end
section
variable {K:R_}{J:Hp}{s:Sd}
theorem FL (F:HF K J s){d e:D}{v w:V}{u u':Sa}(A:Td) (hd:Rep K J d v) (he:Rep K J e w) (rv:RelV v u) (rw':RelV w u') (hu:A.units + dep d < Us) (hd1:dep d<=1000) (hu':dep e<=1000):SeqAt.RcAt A s u u' (bx d e)/\SeqAt.RcNeAt A s u u' (!bx d e):=by
 have Qx:A.units < Us:=by omega
 cases hd with
 | non=>
  cases rv
  cases he with
  | non=>cases rw';exact ⟨.none_none,.none_none⟩
  | bl b=>cases rw';exact ⟨.none_bool b,.none_bool b⟩
  | int i=>obtain ⟨t,rfl⟩:=rw';exact ⟨.none_int i t,.none_int i t⟩
  | str x=>obtain ⟨t,rfl⟩:=rw';exact ⟨.none_str x t,.none_str x t⟩
  | tup h hs=>cases rw';obtain ⟨R1,r,p⟩:=F.t _ _ h;exact ⟨.none_tuple p Qx,.none_tuple p Qx⟩
  | lst h hs=>cases rw';obtain ⟨R1,r,p⟩:=F.l _ _ h;exact ⟨.none_list p Qx,.none_list p Qx⟩
  | emp _=>unfold dep at hu';omega
  | exn _ _ _ _ _=>unfold dep at hu';omega
  | dct _ _ _ _ _=>unfold dep at hu';omega
 | bl a=>
  cases rv
  cases he with
  | non=>cases rw';exact ⟨.bool_none a,.bool_none a⟩
  | bl b=>cases rw';exact ⟨.bool_bool a b,.bool_bool a b⟩
  | int i=>obtain ⟨t,rfl⟩:=rw';exact ⟨.bool_int a i t,.bool_int a i t⟩
  | str x=>obtain ⟨t,rfl⟩:=rw';exact ⟨.bool_str a x t,.bool_str a x t⟩
  | tup h hs=>cases rw';obtain ⟨R1,r,p⟩:=F.t _ _ h;exact ⟨.bool_tuple a p Qx,.bool_tuple a p Qx⟩
  | lst h hs=>cases rw';obtain ⟨R1,r,p⟩:=F.l _ _ h;exact ⟨.bool_list a p Qx,.bool_list a p Qx⟩
  | emp _=>unfold dep at hu';omega
  | exn _ _ _ _ _=>unfold dep at hu';omega
  | dct _ _ _ _ _=>unfold dep at hu';omega
 | int a=>
  obtain ⟨t0,rfl⟩:=rv
  cases he with
  | non=>cases rw';exact ⟨.int_none a t0,.int_none a t0⟩
  | bl b=>cases rw';exact ⟨.int_bool a t0 b,.int_bool a t0 b⟩
  | int i=>obtain ⟨t,rfl⟩:=rw';exact ⟨.int_int a t0 i t,.int_int a t0 i t⟩
  | str x=>obtain ⟨t,rfl⟩:=rw';exact ⟨.int_str a t0 x t,.int_str a t0 x t⟩
  | tup h hs=>cases rw';obtain ⟨R1,r,p⟩:=F.t _ _ h;exact ⟨.int_tuple a t0 p Qx,.int_tuple a t0 p Qx⟩
  | lst h hs=>cases rw';obtain ⟨R1,r,p⟩:=F.l _ _ h;exact ⟨.int_list a t0 p Qx,.int_list a t0 p Qx⟩
  | emp _=>unfold dep at hu';omega
  | exn _ _ _ _ _=>unfold dep at hu';omega
  | dct _ _ _ _ _=>unfold dep at hu';omega
 | str a=>
  obtain ⟨t0,rfl⟩:=rv
  cases he with
  | non=>cases rw';exact ⟨.str_none a t0,.str_none a t0⟩
  | bl b=>cases rw';exact ⟨.str_bool a t0 b,.str_bool a t0 b⟩
  | int i=>obtain ⟨t,rfl⟩:=rw';exact ⟨.str_int a t0 i t,.str_int a t0 i t⟩
  | str x=>obtain ⟨t,rfl⟩:=rw';exact ⟨.str_str a t0 x t,.str_str a t0 x t⟩
  | tup h hs=>cases rw';obtain ⟨R1,r,p⟩:=F.t _ _ h;exact ⟨.str_tuple a t0 p Qx,.str_tuple a t0 p Qx⟩
  | lst h hs=>cases rw';obtain ⟨R1,r,p⟩:=F.l _ _ h;exact ⟨.str_list a t0 p Qx,.str_list a t0 p Qx⟩
  | emp _=>unfold dep at hu';omega
  | exn _ _ _ _ _=>unfold dep at hu';omega
  | dct _ _ _ _ _=>unfold dep at hu';omega
 | tup h hs=>
  cases rv
  obtain ⟨R1,r,p⟩:=F.t _ _ h
  cases he with
  | non=>cases rw';exact ⟨.tuple_none p Qx,.tuple_none p Qx⟩
  | bl b=>cases rw';exact ⟨.tuple_bool b p Qx,.tuple_bool b p Qx⟩
  | int i=>obtain ⟨t,rfl⟩:=rw';exact ⟨.tuple_int i t p Qx,.tuple_int i t p Qx⟩
  | str x=>obtain ⟨t,rfl⟩:=rw';exact ⟨.tuple_str x t p Qx,.tuple_str x t p Qx⟩
  | lst h' hs'=>cases rw';obtain ⟨its',r',p'⟩:=F.l _ _ h';exact ⟨.tuple_list p p' Qx,.tuple_list p p' Qx⟩
  | emp _=>unfold dep at hu';omega
  | exn _ _ _ _ _=>unfold dep at hu';omega
  | dct _ _ _ _ _=>unfold dep at hu';omega
  | tup h' hs'=>
   cases rw'
   obtain ⟨its',r',p'⟩:=F.t _ _ h'
   rename_i a vs ds b ws es
   have l1:R1.length=ds.length:=by rw [<-r.length,hs.length]
   have l2:its'.length=es.length:=by rw [<-r'.length,hs'.length]
   have it:∀(j:Nat) (j1:j < R1.toArray.size) (j2:j < its'.toArray.size),UT A.in1 s R1.toArray[j] its'.toArray[j] (o6 ds es j):=λj j1 j2=>by
    have k1:j < ds.length:=by rw [<-l1];simpa using j1
    have k2:j < es.length:=by rw [<-l2];simpa using j2
    have:=nM F A.in1 hs hs' r r' (by rw [in1_units];unfold dep at hu;omega) (by unfold dep at hd1;omega) (by unfold dep at hu';omega) j k1 k2
    have m1:j < R1.length:=by simpa using j1
    have m2:j < its'.length:=by simpa using j2
    simpa [m1,m2] using this
   simp only [bx]
   rw [<-y_,<-l1,<-l2]
   have q1:=Z1 p p' Qx it
   have q2:=acr p p' Qx it
   exact ⟨by simpa using q1,by simpa using q2⟩
 | emp _=>unfold dep at hd1;omega
 | exn _ _ _ _ _=>unfold dep at hd1;omega
 | dct _ _ _ _ _=>unfold dep at hd1;omega
 | lst h hs=>
  cases rv
  obtain ⟨R1,r,p⟩:=F.l _ _ h
  cases he with
  | non=>cases rw';exact ⟨.list_none p Qx,.list_none p Qx⟩
  | bl b=>cases rw';exact ⟨.list_bool b p Qx,.list_bool b p Qx⟩
  | int i=>obtain ⟨t,rfl⟩:=rw';exact ⟨.list_int i t p Qx,.list_int i t p Qx⟩
  | str x=>obtain ⟨t,rfl⟩:=rw';exact ⟨.list_str x t p Qx,.list_str x t p Qx⟩
  | tup h' hs'=>cases rw';obtain ⟨its',r',p'⟩:=F.t _ _ h';exact ⟨.list_tuple p p' Qx,.list_tuple p p' Qx⟩
  | emp _=>unfold dep at hu';omega
  | exn _ _ _ _ _=>unfold dep at hu';omega
  | dct _ _ _ _ _=>unfold dep at hu';omega
  | lst h' hs'=>
   cases rw'
   obtain ⟨its',r',p'⟩:=F.l _ _ h'
   rename_i a vs ds b ws es
   have l1:R1.length=ds.length:=by rw [<-r.length,hs.length]
   have l2:its'.length=es.length:=by rw [<-r'.length,hs'.length]
   have it:∀(j:Nat) (j1:j < R1.toArray.size) (j2:j < its'.toArray.size),UT A.in1 s R1.toArray[j] its'.toArray[j] (o6 ds es j):=λj j1 j2=>by
    have k1:j < ds.length:=by rw [<-l1];simpa using j1
    have k2:j < es.length:=by rw [<-l2];simpa using j2
    have:=nM F A.in1 hs hs' r r' (by rw [in1_units];unfold dep at hu;omega) (by unfold dep at hd1;omega) (by unfold dep at hu';omega) j k1 k2
    have m1:j < R1.length:=by simpa using j1
    have m2:j < its'.length:=by simpa using j2
    simpa [m1,m2] using this
   simp only [bx]
   by_cases z:ds.length=es.length
   ·rw [<-oH z,<-l1]
    have q1:=aam p p' (by simp;omega) Qx it
    have q2:=acE p p' (by simp;omega) Qx it
    exact ⟨by simpa using q1,by simpa using q2⟩
   ·rw [oG z]
    exact ⟨.lists_lengths p p' (by simp;omega) Qx,.lists_lengths p p' (by simp;omega) Qx⟩
end
section
variable {X:Cx}{c:C}{e a b tg:Tc}{es:List Tc}{ga gb g:G R}{pos:Pos}
theorem RR.rep {He J H:Hp}(hp:HI c J H):∀{r:R}{v:V}{d:D},RR c He J H r v->(∀xs,r=.l .fresh xs\/r=.l .own xs\/r=.l .bor xs->d=.lst xs)->(∀x,r=.d x->d=x)->(∀ks vs,r≠.mo ks vs/\r≠.mb ks vs/\r≠.mf ks vs)->Rep c.K H d v
 | .mo _ _,_,_,_,_,_,n=>((n _ _).1 rfl).elim
 | .mb _ _,_,_,_,_,_,n=>((n _ _).2.1 rfl).elim
 | .mf _ _,_,_,_,_,_,n=>((n _ _).2.2 rfl).elim
 | .d x,v,d,h,_,k,_=>by rw [k x rfl];exact Rep.mono hp.sub h
 | .l m xs,v,d,h,k,_,_=>by
  have e:d=.lst xs:=k xs (by cases m;exact .inl rfl;exact .inr (.inl rfl);exact .inr (.inr rfl))
  obtain ⟨a,vs,rfl,h1,h2⟩:=RR.list hp h rfl
  rw [e]
  exact .lst h1 (h2.mono hp.sub)
noncomputable def R.dat:R->D
 | .d x=>x
 | .l _ xs=>.lst xs
 | .mo ks vs=>.dct ks vs
 | .mb ks vs=>.dct ks vs
 | .mf ks vs=>.dct ks vs
theorem RR.dat {He J H:Hp}(hp:HI c J H){r:R}{v:V}(h:RR c He J H r v):Rep c.K H r.dat v:=by
 by_cases hm:∃ks vs,r=.mo ks vs
 ·obtain ⟨ks,vs,rfl⟩:=hm;obtain ⟨a,rfl,h,_⟩:=h;exact h.rep hp.sub
 by_cases hb:∃ks vs,r=.mb ks vs
 ·obtain ⟨ks,vs,rfl⟩:=hb;obtain ⟨a,rfl,h⟩:=h;exact (h.mono (aW.refl _) hp.ent).rep hp.sub
 by_cases hf:∃ks vs,r=.mf ks vs
 ·obtain ⟨ks,vs,rfl⟩:=hf;obtain ⟨a,rfl,h,_⟩:=h;exact h.rep hp.sub
 refine h.rep hp (λxs q=>?_) (λx q=>by rw [q];rfl) λks vs=>⟨λz=>hm ⟨_,_,z⟩,λz=>hb ⟨_,_,z⟩,λz=>hf ⟨_,_,z⟩⟩
 rcases q with q | q | q <;> (rw [q];rfl)
def HY (K:R_) (neg:Bool):R2:=λx y H Q=>∃d e,Rep K H d x/\Rep K H e y/\dep d<=60/\dep e<=60/\Q (.bl (if neg then !bx d e else bx d e)) H
theorem iz {R0:List (Sq×Obj)}{σ:L2.St}{H:Hp}{s:Sd}(I:Inv X R0 σ H s):HF X.K H s:=HF.of (c:=⟨X.K,H,H,λ_=>True⟩) I (aW.refl H)
theorem E_ (hu:X.A.units + 64 < Us):dY X (Uw .Eq) (HY X.K false):=by
 intro R0 s σ H x y v u Q I rx ry h
 obtain ⟨d,e,h1,h2,h3,h4,q⟩:=h
 exact (FL (iz I) X.A h1 h2 rx ry (by omega) (by omega) (by omega)).1 X.prog X.w X.xe _ ⟨.bl _,H,I,rfl,q⟩
theorem MS (hu:X.A.units + 64 < Us):dY X (Uw .NotEq) (HY X.K true):=by
 intro R0 s σ H x y v u Q I rx ry h
 obtain ⟨d,e,h1,h2,h3,h4,q⟩:=h
 exact (FL (iz I) X.A h1 h2 rx ry (by omega) (by omega) (by omega)).2 X.prog X.w X.xe _ ⟨.bl _,H,I,rfl,q⟩
def dO (neg:Bool) (x y:R):M R:=if dep x.dat<=60/\dep y.dat<=60 then .ok (.d (.bl (if neg then !bx x.dat y.dat else bx x.dat y.dat))) else .bad
theorem Cy (neg:Bool) (hK:X.K=c.K):BD c (HY X.K neg) (dO neg):=by
 intro He He' J H x y u v Q hp rx ry w
 unfold dO at w
 split at w
 ·rename_i hd
  exact ⟨x.dat,y.dat,by rw [hK];exact rx.dat hp,by rw [hK];exact ry.dat hp,hd.1,hd.2,w _ J H (Ext.refl hp.sub) (.bl _)⟩
 ·exact w.elim
def inD (d:D) (xs:List D):Bool:=xs.any λx=>bx x d
noncomputable def HZ (K:R_) (neg:Bool):R2:=λx y H Q=>∃d p vs ds,Rep K H d x/\dep d<=60/\y=.ref p/\(dD K H p vs\/dQ K H p vs)/\aK K H ds vs/\deps ds<=60/\Q (.bl (if neg then !inD d ds else inD d ds)) H
theorem wV {K:R_}{H:Hp}{y:Sa}:∀{ds:List D}{vs:List V}{us:List Sa},aK K H ds vs->Vals vs us->deps ds<=60->y∈us->∃d' v',Rep K H d' v'/\RelV v' y/\dep d'<=60
 | _,_,_,.nil,.nil,_,hy=>nomatch hy
 | _,_,_,.cons r hs,.cons q rs,hd,hy=>by
  unfold deps at hd
  rcases SD.mp hy with rfl | hy
  ·exact ⟨_,_,r,q,by omega⟩
  ·exact wV hs rs (by omega) hy
open Classical in
noncomputable def Cv (K:R_) (H:Hp) (d:D) (y:Sa):Bool:=decide (∃d' v',Rep K H d' v'/\RelV v' y/\dep d'<=1000/\bx d' d=true)
theorem Bo {K:R_}{H:Hp}{s:Sd}(F:HF K H s){d d':D}{v':V}{y:Sa}(r':Rep K H d' v') (q':RelV v' y) (hd:dep d'<=1000):Cv K H d y=bx d' d:=by
 classical
 unfold Cv
 cases z:bx d' d with
 | true=>exact decide_eq_true ⟨d',v',r',q',hd,z⟩
 | false=>
  refine decide_eq_false ?_
  rintro ⟨d2,v2,r2,q2,hd2,z2⟩
  have:v2=v':=q2.inj q'
  subst this
  rw [Rep.inj F r2 r' hd2 hd] at z2
  rw [z] at z2
  cases z2
theorem yG {K:R_}{H:Hp}{s:Sd}(F:HF K H s){d:D}:∀{ds:List D}{vs:List V}{us:List Sa},aK K H ds vs->Vals vs us->deps ds<=1000->us.any (Cv K H d)=inD d ds
 | _,_,_,.nil,.nil,_=>rfl
 | _,_,_,.cons r hs,.cons q rs,hd=>by
  unfold deps at hd
  unfold inD
  rw [W6,W6,yG F hs rs (by omega),Bo F r q (by omega)]
  rfl
theorem tV {A:Td}{s:Sd}{K:R_}{H:Hp}(F:HF K H s){d:D}{x:V}{u:Sa}(h:Rep K H d x) (rx:RelV x u) (QL:dep d<=60) (hA:A.units + 60 < Us){ds:List D}{vs:List V}{us:List Sa}(hs:aK K H ds vs) (rs:Vals vs us) (hd:deps ds<=60):
  ∃e:Sa->Bool,(∀y∈us,UT A s y u (e y))/\us.any e=inD d ds:=by
 refine ⟨Cv K H d,λy hy=>?_,yG F hs rs (by omega)⟩
 obtain ⟨d',v',r',q',hd'⟩:=wV hs rs hd hy
 rw [Bo F r' q' (by omega)]
 exact nL F A r' h q' rx (by omega) (by omega) (by omega)
theorem Fb (hu:X.A.units + 64 < Us):dY X (Uw .In) (HZ X.K false):=by
 intro R0 s σ H x y v u Q I rx ry h
 obtain ⟨d,p,vs,ds,h1,QL,rfl,h2,h3,h4,q⟩:=h
 cases ry
 have F:=iz I
 rcases h2 with h2 | h2
 ·obtain ⟨R1,r,pl⟩:=F.l _ _ h2
  obtain ⟨e,he,hany⟩:=tV (A:=X.A.in1) F h1 rx QL (by rw [in1_units];omega) h3 r h4
  exact SeqAt.in_listAt e pl (λz hz=>he z (by simpa using hz)) ⟨.bl _,H,I,rfl,by rw [show R1.toArray.any e=R1.any e by simp,hany];exact q⟩
 ·obtain ⟨R1,r,pl⟩:=F.t _ _ h2
  obtain ⟨e,he,hany⟩:=tV (A:=X.A.in1) F h1 rx QL (by rw [in1_units];omega) h3 r h4
  exact SeqAt.in_tupleAt e pl (λz hz=>he z (by simpa using hz)) ⟨.bl _,H,I,rfl,by rw [show R1.toArray.any e=R1.any e by simp,hany];exact q⟩
theorem Fg (hu:X.A.units + 64 < Us):dY X (Uw .NotIn) (HZ X.K true):=by
 intro R0 s σ H x y v u Q I rx ry h
 obtain ⟨d,p,vs,ds,h1,QL,rfl,h2,h3,h4,q⟩:=h
 cases ry
 have F:=iz I
 rcases h2 with h2 | h2
 ·obtain ⟨R1,r,pl⟩:=F.l _ _ h2
  obtain ⟨e,he,hany⟩:=tV (A:=X.A.in1) F h1 rx QL (by rw [in1_units];omega) h3 r h4
  exact SeqAt.notIn_listAt e pl (λz hz=>he z (by simpa using hz)) ⟨.bl _,H,I,rfl,by rw [show R1.toArray.any e=R1.any e by simp,hany];exact q⟩
 ·obtain ⟨R1,r,pl⟩:=F.t _ _ h2
  obtain ⟨e,he,hany⟩:=tV (A:=X.A.in1) F h1 rx QL (by rw [in1_units];omega) h3 r h4
  exact SeqAt.notIn_tupleAt e pl (λz hz=>he z (by simpa using hz)) ⟨.bl _,H,I,rfl,by rw [show R1.toArray.any e=R1.any e by simp,hany];exact q⟩
noncomputable def fu (neg:Bool) (x y:R):M R:=jH y >>= λys=>if deps ys<=60/\dep x.dat<=60 then .ok (.d (.bl (if neg then !inD x.dat ys else inD x.dat ys))) else .bad
theorem Cz (neg:Bool) (hK:X.K=c.K):BD c (HZ X.K neg) (fu neg):=by
 intro He He' J H x y u v Q hp rx ry w
 obtain ⟨ys,q,w⟩:=lA w
 obtain ⟨p,vs,rfl,h1,h2⟩:=nI hp ry q
 split at w
 ·rename_i hd
  exact ⟨x.dat,p,vs,ys,by rw [hK];exact rx.dat hp,hd.2,rfl,by rw [hK];exact h1,by rw [hK];exact h2.mono hp.sub,hd.1,w _ J H (Ext.refl hp.sub) (.bl _)⟩
 ·exact w.elim
abbrev GO:=G (Option Int)
def tO (c:C) (g:GO):TO:=λσ H Q=>∃J env,SR c J H σ env/\dg (g env) (λo=>∀J' H',Ext J H J' H'->Q o H') c.T
def LI (X:Cx) (c:C) (e:Option Tc) (g:GO):Prop:=PO X e (tO c g)
theorem Ji {X:Cx}{e:Option Tc}{t t':TO}(h:PO X e t) (k:∀σ H Q,t' σ H Q->t σ H Q):PO X e t':=λR0 s σ H Q I q=>h R0 s σ H Q I (k σ H Q q)
def EF:GO:=λ_=>.ok none
noncomputable def wm (g:G R):GO:=λenv=>g env >>= λr=>match r with
 | .d (.int i)=>.ok (some i)
 | _=>.bad
def cutD (xs:List D) (lo hi:Option Int):List D:=(xs.drop (HT.bP xs.length 0 lo)).take (HT.bP xs.length xs.length hi - HT.bP xs.length 0 lo)
theorem aK.cut {K:R_}{J:Hp}{xs:List D}{vs:List V}(h:aK K J xs vs) (lo hi:Option Int):aK K J (cutD xs lo hi) (m9 vs lo hi):=by
 unfold cutD m9
 rw [h.length]
 exact (h.drop _).take _
def wA (f:R->Option Int->Option Int->M R) (g:G R) (lo hi:GO):G R:=λenv=>g env >>= λx=>lo env >>= λl=>hi env >>= λu=>f x l u
theorem Om {r:V->Option Int->Option Int->Hp->VK->Prop}{f:R->Option Int->Option Int->M R}{lo hi:Option Tc}{gl gh:GO}{p2:Pos}(hr:tQ X r) (hf:∀(He J H:Hp) (x:R) (v:V) (l u:Option Int) (Q:VK),HI c J H->RR c He J H x v->
   dg (f x l u) (λz=>∀w J' H',Ext J H J' H'->RR c H J' H' z w->Q w H') c.T->r v l u H Q) (h:PD X c e g) (hl:LI X c lo gl) (hh:LI X c hi gh):PD X c (.Subscript e (.Slice lo hi none p2) pos) (wA f g gl gh):=
 gg (HL hr h hl hh) λσ H Q ⟨J,env,sr,w⟩=>by
  refine ⟨J,env,sr,aG (aL w) λx wx v J1 H1 e1 r1=>?_⟩
  refine ⟨J1,env,sr.ext e1,aG (aL wx) λl wl J2 H2 e2=>?_⟩
  refine ⟨J2,env,(sr.ext e1).ext e2,aG (aL wl) λu wu J3 H3 e3=>?_⟩
  have ee:=(e1.trans e2).trans e3
  exact hf H J3 H3 x v l u Q (sr.hp.ext ee) ((r1.ext e2).ext e3) (aG wu λz q w J' H' e4 r4=>q w J' H' (ee.trans e4) (RR.from ee.h r4))
def Ph (x:R) (l u:Option Int):M R:=kI x >>= λxs=>.ok (.l .fresh (cutD xs l u))
theorem DI {ss:List Str}:∀{us:List Sa},Vals (ss.map V.str) us->StrsAre us ss:=by
 induction ss with
 | nil=>intro us h;cases h;exact .nil
 | cons x r ih=>
  intro us h
  cases h with
  | cons q rs=>
   obtain ⟨t,rfl⟩:=q
   exact .cons x t (ih rs)
theorem xq:∀{us:List Sa}{ss:List Str},StrsAre us ss->Vals (ss.map V.str) us
 | _,_,.nil=>.nil
 | _,_,.cons y t h=>.cons ⟨t,rfl⟩ (xq h)
def jI (x y:Str):Bool:=decide (x.cps.toList<=y.cps.toList)
def iC (ss:List Str):List Str:=ss.mergeSort jI
theorem wJ (x y z:Str) (h1:jI x y=true) (h2:jI y z=true):jI x z=true:=by
 unfold jI at *
 exact decide_eq_true (List.le_trans (of_decide_eq_true h1) (of_decide_eq_true h2))
theorem EZ (x y:Str):(jI x y || jI y x)=true:=by
 unfold jI
 rw [U6]
 rcases List.le_total x.cps.toList y.cps.toList with h | h
 ·exact .inl (decide_eq_true h)
 ·exact .inr (decide_eq_true h)
theorem Hf {x y:Str}(h1:jI x y=true) (h2:jI y x=true):x=y:=by
 unfold jI at *
 have:=aan (of_decide_eq_true h1) (of_decide_eq_true h2)
 obtain ⟨⟨cx⟩⟩:=x
 obtain ⟨⟨cy⟩⟩:=y
 simp only at this
 rw [this]
theorem qK (ss:List Str):(iC ss).Pairwise λx y=>jI x y=true:=List.pairwise_mergeSort wJ EZ ss
theorem kR (ss:List Str):(iC ss).Perm ss:=List.mergeSort_perm ss jI
theorem uC:∀(x:Str) (r:List Str),risingS x r=true->(x::r).Pairwise λx y=>jI x y=true
 | x,[],_=>by simp
 | x,y::r,h=>by
  unfold risingS at h
  rw [Sk] at h
  have hy:=uC y r h.2
  have hxy:jI x y=true:=by
   have h1:=h.1
   rw [ltCps_eq] at h1
   unfold jI
   refine decide_eq_true ?_
   have:¬y.cps.toList < x.cps.toList:=by simpa using h1
   exact this
  refine VM.mpr ⟨λz hz=>?_,hy⟩
  rcases SD.mp hz with rfl | hz
  ·exact hxy
  ·exact wJ x y z hxy ((VM.mp hy).1 z hz)
theorem DG {ss ss':List Str}(hp:ss'.Perm ss) (hs:sortedS ss'=true):ss'=iC ss:=by
 have pw:ss'.Pairwise λx y=>jI x y=true:=by
  cases ss' with
  | nil=>exact VU
  | cons x r=>exact uC x r hs
 exact (hp.trans (kR ss).symm).eq_of_pairwise (λx y _ _ h1 h2=>Hf h1 h2) pw (qK ss)
theorem yS:cP X (.builtin "sorted") (λxs H Q=>∃p ss,xs=[.ref p]/\dD X.K H p (ss.map V.str)/\ss.length < 64/\∀ss',ss'.Perm ss->sortedS ss'=true->∀l,H l=none->Q (.ref l) (upd H l (.lst (ss'.map V.str)))):=by
 intro R0 s σ H xs us Q I r h
 obtain ⟨p,ss,rfl,hq,hl,q⟩:=h
 obtain ⟨u,rfl,rx⟩:=vals1 r
 cases rx
 obtain ⟨R1,r',pl,hz⟩:=I.list hq
 have hlen:=r'.length
 refine sorted_strs pl.isList (DI r') (by rw [<-hlen,Sh];exact hl) λout ss' a1 a2 a3=>?_
 obtain ⟨n,hn⟩:=sortedAll_at s.heap R1 out
 have kp:∀b o,s.heap.get? b=some o->(sortedAll s.heap R1 out).get? b=some o:=λb o e=>sortedAll_old e
 have fr:H (s.heap.objs.size + 1)=none:=I.hok.fresh (VF _)
 have ll:(ss'.map V.str).length=(ss.map V.str).length:=by rw [Sh,Sh,a2.length_eq]
 refine ⟨.ref (s.heap.objs.size + 1),_,I.laid (t':=s.toks) kp (VF _) (show dw X.prog X.w _ _ _ (.lst (ss'.map V.str)) from ⟨by rw [ll];exact hz,out.toList,n,xq a1,by simpa [VP] using hn⟩),rfl,q ss' a2 a3 _ fr⟩
noncomputable def strsOf:List D->Option (List Str)
 | []=>some []
 | .str x::r=>(strsOf r).map (x::·)
 | _::_=>none
theorem uH {K:R_}{J:Hp}:∀{ds:List D}{vs:List V}{ss:List Str},strsOf ds=some ss->aK K J ds vs->vs=ss.map V.str
 | [],_,_,h,.nil=>by cases h;rfl
 | .str x::r,_,ss,h,.cons q rs=>by
  unfold strsOf at h
  cases z:strsOf r with
  | none=>rw [z] at h;cases h
  | some ss'=>
   rw [z] at h
   cases h
   cases q
   rw [uH z rs]
   rfl
theorem wX {K:R_}{J:Hp}:∀(ss:List Str),aK K J (ss.map D.str) (ss.map V.str)
 | []=>.nil
 | x::r=>.cons (.str x) (wX r)
noncomputable def kW:List R->M R
 | [r]=>kI r >>= λxs=>match strsOf xs with
  | some ss=>if ss.length < 64 then .ok (.l .fresh ((iC ss).map .str)) else .bad
  | none=>.bad
 | _=>.bad
theorem lH:Tv "sorted"=some (.builtin "sorted"):=by decide +kernel
theorem foldl_size (c:Array Nat):∀(k:Nat) (acc:Array Nat),((Th k c).foldl (·++·) acc).size=acc.size + k * c.size
 | 0,acc=>by simp
 | k + 1,acc=>by
  rw [Uu,Xd,foldl_size c k,Z2,Nat.succ_mul]
  omega
def gf (x:Str) (n:Nat):Str:=⟨(Th n x.cps).foldl (·++·) #[]⟩
theorem A1 (x:Str) (n:Nat):(gf x n).length=n * x.length:=by
 unfold gf ZY
 simp only
 rw [foldl_size]
 simp
theorem KA:dY X (VC .Mult) (λx y H Q=>∃z n,x=.str z/\y=.int n/\0<=n/\n<=1000/\z.length<=1000/\Q (.str (gf z n.toNat)) H):=by
 intro R0 s σ H x y v u Q I rx ry h
 obtain ⟨z,n,rfl,rfl,h0,h1,h2,q⟩:=h
 obtain ⟨t,rfl⟩:=rx
 obtain ⟨t',rfl⟩:=ry
 have hz:Zk (z.length * n.toNat)=false:=by
  have:z.length * n.toNat<=1000 * 1000:=Zd h2 (by omega)
  unfold Zk
  exact decide_eq_false (by have:=Uc;omega)
 refine PySem.P.mul_str (by
  rw [decide_eq_false (by omega:¬n < -(2 ^ 63:Int)),decide_eq_false (by omega:¬n ≥ 2 ^ 63)];rfl) (λhn _=>?_) (λ_ _=>hz) ?_
 ·have:(2 ^ 63 - 1:Int) / 1000<=(2 ^ 63 - 1) / n:=by
   refine (Int.le_ediv_iff_mul_le (by omega)).mpr ?_
   have:(2 ^ 63 - 1:Int) / 1000 * n<=(2 ^ 63 - 1:Int) / 1000 * 1000:=Int.mul_le_mul_of_nonneg_left h1 (by decide)
   exact Int.le_trans this (by decide)
  have e:(2 ^ 63 - 1:Int) / 1000=9223372036854775:=by decide
  omega
 ·split
  ·rename_i hn
   have e:n=0:=by omega
   subst e
   exact ⟨by decide,.str _,H,I.tok _,⟨_,rfl⟩,q⟩
  ·split
   ·rename_i hn hc
    have e:gf z n.toNat=z:=by
     unfold gf
     rw [U6] at hc
     rcases hc with hc | hc
     ·have e:n=1:=by simpa using hc
      subst e
      simp
     ·have e:z.length=0:=by simpa using hc
      have e2:z.cps=#[]:=by
       unfold ZY at e
       exact Array.eq_empty_of_size_eq_zero e
      obtain ⟨cz⟩:=z
      simp only at e2
      subst e2
      congr 1
      generalize n.toNat=k
      induction k with
      | zero=>rfl
      | succ k ih=>rw [Uu,Xd];exact ih
    rw [e] at q
    exact ⟨.str z,H,I,⟨_,rfl⟩,q⟩
   ·exact ⟨by
     have:=A1 z n.toNat
     unfold gf at this
     rw [this,Nat.mul_comm]
     have:z.length * n.toNat<=1000 * 1000:=Zd h2 (by omega)
     rw [Uc]
     omega,.str _,H,I.tok _,⟨_,rfl⟩,q⟩
noncomputable def CM:R->R->M R
 | .d (.str z),.d (.int n)=>if 0<=n/\n<=1000/\z.length<=1000 then .ok (.d (.str (gf z n.toNat))) else .bad
 | _,_=>.bad
noncomputable def cH:D->String
 | .non=>"NoneType"
 | .bl _=>"bool"
 | .int _=>"int"
 | .str _=>"str"
 | .tup _=>"tuple"
 | .lst _=>"list"
 | .emp=>"dict"
 | .exn _ _ _=>"exc"
 | .dct _ _=>"dict"
def bT (t T:String):Bool:=t == T || (t == "bool" && T == "int")
noncomputable def ES:R->Bool
 | .d (.int _)=>true
 | _=>false
noncomputable def Mk:R->Bool
 | .d (.str _)=>true
 | _=>false
def cF (x y:R):M R:=if ES x then zc x y else if Mk x then t6 x y else t7 x y
def dF (x y:R):M R:=if ES x then Mb x y else CM x y
noncomputable def br (x y:R):M R:=match x,y with
 | .d (.str z),.d (.int i)=>if z.length<=sizeLine then (match mF z.cps.toList i with
  | some k=>.ok (.d (.str ⟨#[k]⟩))
  | none=>.bad) else .bad
 | x,.d (.int i)=>jH x >>= λxs=>(match mF xs i with
  | some d=>.ok (.d d)
  | none=>.bad)
 | _,_=>.bad
noncomputable def bB (P:Sy) (w:S9) (K:R_) (mg:Str->Option Sa) (base:Ui) (k n:Nat) (x:Str) (Fm:List S->M R):Prop:=
 ∃f fd ps,gp P w K mg base pL k f fd ps (qM K n Fm)/\mg x=some (.ref f)/\Ug K (.ref f)=true/\Binds K fd ps []
theorem LX {P:Sy}{w:S9}{K:R_}{mg:Str->Option Sa}{base:Ui}{x R5:Str}{st:Vu}{f:Sq}{fd:SY}{N ps:List Str}{k:Nat}{Fm:List S->M R}(F:cZ K x R5 st f fd) (hm:mg x=some (.ref f)) (Sc:bg N ps (aI st))
  (hbi:∀(kV doc pm:Sa) (an:Option Sq) (cdv ct:Sa) (us:List Sa),us.length=ps.length->Zv (Tw x R5 (dR st) (cL st) (aI st) .none kV doc pm an cdv ct) ⟨us,[]⟩=pure (ps.zip us)){gB:G O}
  (hb:∀(cdv:Sa) (A:Td) (outer:List Env) (s:Sd) (H:Hp) (E:XK) (J:Hp) (T:Exc->Prop),eF k (A.deeper (XI R5 (aI st) s.heap.objs.size f cdv))->
   IK (IT P w K mg base N R5 (aI st) f cdv A outer s H E) ⟨K,H,J,T⟩ (cL st) gB)
  (hF:∀as r,as.length=ps.length->Fm as=.ok r->fin (gB (aH N as))=.ok r):bB P w K mg base (k + 1) ps.length x Fm:=
 ⟨f,fd,ps,EB F Sc hb hF,hm,F.kp,F.binds hbi⟩
noncomputable def Hv:List Str->Bool
 | []=>true
 | x::r=>!(r.contains x) && Hv r
theorem bS:∀{l:List Str},Hv l=true->l.Nodup
 | [],_=>U4
 | x::r,h=>by
  unfold Hv at h
  rw [Sk] at h
  refine Ud.mpr ⟨λz=>?_,bS h.2⟩
  have:=h.1
  simp [z] at this
theorem GS {X:Cx}{R0:List (Sq×Obj)}{σ:L2.St}{H:Hp}{s:Sd}{a C:Sq}{dx:Option Sq}{ns:List Str}{vs:List V}(I:L2.Inv X R0 σ H s) (h:H a=some (DX.XO a C dx)) (xf:XF H dx ns vs):∃ox od,V4 s.heap a ox C od/\od.isSome=dx.isSome/\(∀d,dx=some d->∃o,od=some o/\s.heap.get? d=some o):=by
 obtain ⟨⟨oe,fs,h1,h2,h3,h4⟩,_⟩:=I.hok a _ h
 have hn:aa4 oe=true:=by unfold aa4;rw [h4]
 rcases xf with ⟨rfl,_⟩ | ⟨d,rfl,_,hd⟩
 ·exact ⟨oe,none,⟨h1,h2,hn,by rw [h3];exact Y0⟩,rfl,λd z=>by cases z⟩
 ·obtain ⟨m,⟨o,es,ep,k1,_⟩,_⟩:=I.hok d _ hd
  exact ⟨oe,some o,⟨h1,h2,hn,by rw [h3];exact k1⟩,rfl,λd' z=>by cases z;exact ⟨o,rfl,k1⟩⟩
noncomputable def Bd (T:String):Prop:=(∀(K:R_) (t:String),t∈["NoneType","bool","int","str","tuple","list","dict"]->Zc K (.type t) (.type T)=some (bT t T))/\aaD T=true/\DX.AD.contains (.type T)=false/\bT "exc" T=false
theorem BE:Bd "int":=⟨λK t h=>by
 simp only [SD,UY,or_false] at h
 rcases h with rfl | rfl | rfl | rfl | rfl | rfl | rfl <;> rfl,by decide +kernel,by decide,by decide⟩
theorem zC:Bd "bool":=⟨λK t h=>by
 simp only [SD,UY,or_false] at h
 rcases h with rfl | rfl | rfl | rfl | rfl | rfl | rfl <;> rfl,by decide +kernel,by decide,by decide⟩
theorem kit_tuple:Bd "tuple":=⟨λK t h=>by
 simp only [SD,UY,or_false] at h
 rcases h with rfl | rfl | rfl | rfl | rfl | rfl | rfl <;> rfl,by decide +kernel,by decide,by decide⟩
theorem G7:Bd "list":=⟨λK t h=>by
 simp only [SD,UY,or_false] at h
 rcases h with rfl | rfl | rfl | rfl | rfl | rfl | rfl <;> rfl,by decide +kernel,by decide,by decide⟩
theorem AW {T:String}(kit:Bd T):
  cP X (.builtin "isinstance") (λxs H Q=>∃d x,xs=[x,.ty T]/\Rep X.K H d x/\Q (.bl (bT (cH d) T)) H):=by
 intro R0 s σ H xs us Q I r h
 obtain ⟨d,x,rfl,hd,q⟩:=h
 obtain ⟨u,w',rfl,rx,ry⟩:=vals2 r
 cases ry
 have fin:∀tk,EP X R0 σ Q (.bool (bT (cH d) T)) {s with toks:=tk}:=λtk=>⟨.bl _,H,I.tok tk,rfl,q⟩
 have F:=iz I
 cases hd with
 | non=>cases rx;exact US W.kitx_none I.kIn Y0 (kit.1 X.K _ (by simp [cH])) (λz=>nomatch z) fin
 | bl y=>cases rx;exact US W.kitx_bool I.kIn Y0 (kit.1 X.K _ (by simp [cH])) (λz=>nomatch z) fin
 | int i=>obtain ⟨t,rfl⟩:=rx;exact US W.kitx_int I.kIn Y0 (kit.1 X.K _ (by simp [cH])) (λz=>nomatch z) fin
 | str y=>obtain ⟨t,rfl⟩:=rx;exact US W.kitx_str I.kIn Y0 (kit.1 X.K _ (by simp [cH])) (λz=>nomatch z) fin
 | tup h hs=>
  cases rx
  obtain ⟨R1,r,o,h1,h2,_⟩:=F.t _ _ h
  exact US W.kitx_tuple I.kIn ⟨o,h1,h2⟩ (kit.1 X.K _ (by simp [cH])) (λz=>nomatch z) fin
 | lst h hs=>
  cases rx
  obtain ⟨R1,r,o,h1,h2,_⟩:=F.l _ _ h
  exact US W.kitx_list I.kIn ⟨o,h1,h2⟩ (kit.1 X.K _ (by simp [cH])) (λz=>nomatch z) fin
 | emp h=>
  cases rx
  obtain ⟨o,h1,h2⟩:=F.e _ h
  exact US Z3 I.kIn ⟨o,h1,h2⟩ (kit.1 X.K _ (by simp [cH])) (λz=>nomatch z) fin
 | dct h _ _ _ _=>
  cases rx
  obtain ⟨o,es,h1,h2,_⟩:=F.d _ _ _ h
  exact US Z3 I.kIn ⟨o,h1,h2.1⟩ (kit.1 X.K _ (by simp [cH])) (λz=>nomatch z) fin
 | exn h1 h2 h3 hs hx=>
  cases rx
  obtain ⟨P,G,E⟩:=hx
  obtain ⟨ox,od,J,_⟩:=GS I h1 h3
  simp only [cH,kit.2.2.2] at fin
  exact US (DX.G8 G E) I.kIn ⟨ox,od,J⟩ (DX.Mz E kit.2.1 kit.2.2.1) (λz=>nomatch z) fin
def cT (T:String) (g:G R):G R:=λenv=>g env >>= λr=>.ok (.d (.bl (bT (cH r.dat) T)))
noncomputable def iR:List D->Option (List Bool)
 | []=>some []
 | .bl k::r=>(iR r).map (k::·)
 | _::_=>none
theorem p7 {K:R_}{J:Hp}:∀{ds:List D}{vs:List V}{ks:List Bool},iR ds=some ks->aK K J ds vs->vs=ks.map V.bl
 | [],_,_,h,.nil=>by cases h;rfl
 | .bl x::r,_,ks,h,.cons q rs=>by
  unfold iR at h
  cases z:iR r with
  | none=>rw [z] at h;cases h
  | some ks'=>
   rw [z] at h
   cases h
   cases q
   rw [p7 z rs]
   rfl
theorem tE:∀{ks:List Bool}{us:List Sa},Vals (ks.map V.bl) us->us=ks.map Ve
 | [],_,.nil=>rfl
 | k::ks,_,.cons r rs=>by
  cases r
  rw [tE rs]
  rfl
theorem all_range (ks:List Bool):(Se ks.length).all (λi=>ks.getD i true)=ks.all id:=by
 induction ks with
 | nil=>rfl
 | cons k r ih=>
  rw [Uh,WE,VE,YJ,VE]
  simp only [Zl]
  rw [<-ih]
  rfl
theorem Eg (hc:X.calm=true):cP X (.builtin "all") (λxs H Q=>∃(p:Sq) (ks:List Bool),xs=[.ref p]/\dD X.K H p (ks.map V.bl)/\Q (.bl (ks.all id)) H):=by
 intro R0 s σ H xs us Q I r h
 obtain ⟨p,ks,rfl,hq,q⟩:=h
 obtain ⟨u,rfl,rx⟩:=vals1 r
 cases rx
 obtain ⟨R1,r',pl,hz⟩:=I.list hq
 have hi:=tE r'
 subst hi
 have Rq:p≠s.heap.objs.size:=by
  obtain ⟨o,h1,_⟩:=pl.isList
  exact S4 (SA h1)
 refine call_all_walk (XN pl.isList ⟨s.heap.objs.size,_,_,_,_,_,(λi=>ks.getD i true),rfl,acM (A:=X.A.in1) (show X.A.in1.handled=none from I.ok.hd hc) s.heap.objs.size p Rq (ks.map Ve).toArray,⟨⟨_,Sw _ rfl,rfl,rfl⟩,aao pl.isList _⟩,?_,λh' tk k=>?_⟩)
 ·intro i v s' Q' E' hP hQ
  have e:∃k,ks[i]?=some k/\v=.bool k:=by
   have hP':(ks.map Ve)[i]?=some v:=by simpa using hP
   rw [SJ] at hP'
   cases z:ks[i]? with
   | none=>rw [z] at hP';cases hP'
   | some k=>rw [z] at hP';cases hP';exact ⟨k,rfl,rfl⟩
  obtain ⟨k,e1,rfl⟩:=e
  simp only at hQ
  rw [SS,e1] at hQ
  exact TX hQ
 ·have sz:(ks.map Ve).toArray.size=ks.length:=by simp
  rw [sz,all_range]
  refine ⟨.bl (ks.all id),H,?_,rfl,q⟩
  refine I.kept λb o e=>k b o (λz=>?_) (Sm _ e)
  have:b=s.heap.objs.size:=by simpa using z
  exact absurd (this▸SA e) (UO _)
noncomputable def kF:List R->M R
 | [r]=>kI r >>= λxs=>match iR xs with
  | some ks=>.ok (.d (.bl (ks.all id)))
  | none=>.bad
 | _=>.bad
theorem Ec:Tv "all"=some (.builtin "all"):=by decide +kernel
theorem KL {d:D}{v:V}{x:Str}{u:Sa}(hm:X.mg x=some u) (r:RelV v u) (hr:∀J,Rep c.K J d v) (hg:Gl X x:=by rfl) (hd:(x == ("__debug__":Str))=false:=by decide):PD X c (.Name x pos) (gC d):=uu hr (BQ hg hm r hd)
theorem LU {R0:List (Sq×Obj)}{σ:L2.St}{H:Hp}{s:Sd}(I:Inv X R0 σ H s):VJ < s.heap.objs.size:=by
 have h:S3 < s.heap.objs.size:=(I.mod.glob.keeps I.bk).lt
 exact VQ (by decide) h
theorem E9:dY X (VC .Add) (λx y H Q=>∃a b xs ys,x=.ref a/\y=.ref b/\dQ X.K H a xs/\dQ X.K H b ys/\xs.length + ys.length<=sizeLine/\
  (xs=[]->Q (.ref b) H)/\(ys=[]->Q (.ref a) H)/\∀p,H p=none->Q (.ref p) (upd H p (.tup (xs++ys)))):=by
 intro R0 s σ H x y v u Q I rx ry h
 obtain ⟨a,b,xs,ys,rfl,rfl,ha,hb,hz,q0,q1,q2⟩:=h
 by_cases hx:xs=[]
 ·cases rx
  cases ry
  obtain ⟨R1,r1,p1,_⟩:=I.tuple ha
  obtain ⟨its2,r2,p2,_⟩:=I.tuple hb
  have he:R1=[]:=r1.nil_iff.mpr hx
  subst he
  obtain ⟨⟨cls,dd,data,sl⟩,ho,hc,n,hd⟩:=id p1
  obtain ⟨⟨cls2,dd2,data2,sl2⟩,ho2,hc2,n2,hd2⟩:=id p2
  simp only at hc hd hc2 hd2
  subst hc hd hc2 hd2
  exact aag ⟨_,ho,rfl⟩ ⟨_,ho2,rfl⟩ Yr Zy WB Wr (Wh _ _) (tuple_addW0 a b _ _ n n2 dd dd2 sl sl2 rfl) ⟨ho,ho2,⟨.ref b,H,I,rfl,q0 hx⟩⟩
 ·exact Ky R0 s σ H (.ref a) (.ref b) v u Q I rx ry ⟨a,b,xs,ys,rfl,rfl,ha,hb,hx,hz,q1,λ_=>q2⟩
noncomputable def CK:R->R->M R
 | .d (.tup xs),.d (.tup ys)=>if xs.length + ys.length<=sizeLine then .ok (.d (.tup (xs++ys))) else .bad
 | _,_=>.bad
theorem JH (hK:X.K=c.K):BD c (λx y H Q=>∃a b xs ys,x=.ref a/\y=.ref b/\dQ X.K H a xs/\dQ X.K H b ys/\xs.length + ys.length<=sizeLine/\
  (xs=[]->Q (.ref b) H)/\(ys=[]->Q (.ref a) H)/\∀p,H p=none->Q (.ref p) (upd H p (.tup (xs++ys)))) CK:=by
 intro He He' J H x y u v Q hp rx ry w
 unfold CK at w
 split at w
 ·rename_i ds es
  cases rx with
  | tup h1 s1=>
   cases ry with
   | tup h2 s2=>
    split at w
    ·rename_i hz
     rw [s1.length,s2.length] at hz
     refine ⟨_,_,_,_,rfl,rfl,by rw [hK];exact gj hp.sub h1,by rw [hK];exact gj hp.sub h2,hz,λe=>?_,λe=>?_,λp hp'=>w _ _ _ (Ext.newJ hp.sub hp' _) (qF hp hp' (s1.append s2))⟩
     ·have e':ds=[]:=WY (by rw [s1.length,e];rfl)
      subst e'
      exact w _ J H (Ext.refl hp.sub) (.tup h2 s2)
     ·have e':es=[]:=WY (by rw [s2.length,e];rfl)
      subst e'
      rw [UR] at w
      exact w _ J H (Ext.refl hp.sub) (.tup h1 s1)
    ·exact w.elim
 ·exact w.elim
noncomputable def Ml:R->Bool
 | .d (.tup _)=>true
 | _=>false
def mH (x y:R):M R:=if Ml x then CK x y else cF x y
noncomputable def intsOf:List D->Option (List Int)
 | []=>some []
 | .int i::r=>(intsOf r).map (i::·)
 | _::_=>none
theorem oS {K:R_}{J:Hp}:∀{ds:List D}{vs:List V}{ns:List Int},intsOf ds=some ns->aK K J ds vs->vs=ns.map V.int
 | [],_,_,h,.nil=>by cases h;rfl
 | .int x::r,_,ks,h,.cons q rs=>by
  unfold intsOf at h
  cases z:intsOf r with
  | none=>rw [z] at h;cases h
  | some ks'=>
   rw [z] at h
   cases h
   cases q
   rw [oS z rs]
   rfl
def signs (x:Str):List D:=x.cps.toList.map λk=>.str ⟨#[k]⟩
noncomputable def Qt (g:G R):G (List D):=λenv=>g env >>= λr=>match r with
 | .d (.str x)=>.ok (signs x)
 | _=>.bad
theorem A9 {prog:Sy}{w:S9}{A:Td}{E:Sa->Sd->Prop}{s:Sd}{t sl:Sq}{items:Array Sa}{vl vu:Sa}{lo hi:Option Int}{Q:Sa->Sd->Prop}(ht:ab9 s.heap t items) (hs:s.heap.IsSliceOf sl vl vu .none) (pl:Zz vl lo) (pu:Zz vu hi)
  (hw:HT.bP items.size 0 lo=0/\HT.bP items.size items.size hi=items.size) (h:Q (.ref t) s):SH (SM prog w) A (ZV (.ref t) (.ref sl)) Q E s:=by
 obtain ⟨os,hos,hcs,hds⟩:=id hs
 have Rh:s.TypeIs (.ref sl) "slice":=⟨os,hos,hcs⟩
 unfold ZV
 try with_reducible refine Te ?_
 first | refine R9 (Sb ?_) | skip
 refine R9 (ZW ht.typeIs (by decide) ?_)
 refine R9 (UD (name:=WS "__getitem__") ht.typeIs TH
  (Tz TH ht.typeIs Zi ?_ (ZC _ _)))
 show SH _ _ (V0 (.ref t) >>= _) _ _ s
 refine R9 (abB ht ?_)
 refine R9 (WT Rh ?_)
 rw [if_pos (by decide)]
 refine R9 (HT.lZ hs pl pu ?_)
 have hyes:(((HT.bP items.size 0 lo:Nat):Int) == 0 && (1:Int) == 1 && (HT.bP items.size items.size hi - HT.bP items.size 0 lo) == items.size)=true:=by
  rw [hw.1,hw.2]
  simp
 show SH _ _ (if (((HT.bP items.size 0 lo:Nat):Int) == 0 && (1:Int) == 1 && (HT.bP items.size items.size hi - HT.bP items.size 0 lo) == items.size)=true then _ else _) _ _ s
 rw [if_pos hyes]
 unfold aaZ
 refine R9 (R9 (WT ht.typeIs (Sb ?_)))
 rw [if_pos (by decide)]
 exact R9 (XQ (Sb ⟨_,rfl,Sb h⟩))
theorem FY:tQ X (λx lo hi H Q=>∃a xs,x=.ref a/\dQ X.K H a xs/\((HT.bP xs.length 0 lo=0/\HT.bP xs.length xs.length hi=xs.length)->Q (.ref a) H)/\∀p,H p=none->Q (.ref p) (upd H p (.tup (m9 xs lo hi)))):=by
 intro R0 s σ H x v vl vu lo hi sl Q I rx hs pl pu h
 obtain ⟨a,xs,rfl,hx,q0,q1⟩:=h
 by_cases hw:HT.bP xs.length 0 lo=0/\HT.bP xs.length xs.length hi=xs.length
 ·cases rx
  obtain ⟨R1,r,ht,hz⟩:=I.tuple hx
  have hlen:R1.toArray.size=xs.length:=by rw [Su];exact r.length.symm
  exact ⟨"tuple",_,TH.lookup,ht.typeIs,A9 ht hs pl pu (by rw [hlen];exact hw) ⟨.ref a,H,I,rfl,q0 hw⟩⟩
 ·exact ND R0 s σ H (.ref a) v vl vu lo hi sl Q I rx hs pl pu ⟨a,xs,rfl,hx,hw,q1⟩
theorem CJ {xs:List D}{lo hi:Option Int}(h:HT.bP xs.length 0 lo=0/\HT.bP xs.length xs.length hi=xs.length):cutD xs lo hi=xs:=by
 unfold cutD
 rw [h.1,h.2]
 simp
noncomputable def GU:R->Option Int->Option Int->M R
 | .d (.tup xs),l,u=>.ok (.d (.tup (cutD xs l u)))
 | _,_,_=>.bad
theorem PM (hK:X.K=c.K) (He J H:Hp) (x:R) (v:V) (l u:Option Int) (Q:VK) (hp:HI c J H) (rx:RR c He J H x v) (w:dg (GU x l u) (λz=>∀w J' H',Ext J H J' H'->RR c H J' H' z w->Q w H') c.T):
  ∃a xs,v=.ref a/\dQ X.K H a xs/\((HT.bP xs.length 0 l=0/\HT.bP xs.length xs.length u=xs.length)->Q (.ref a) H)/\∀p,H p=none->Q (.ref p) (upd H p (.tup (m9 xs l u))):=by
 unfold GU at w
 split at w
 ·rename_i ds
  cases rx with
  | tup h1 s1=>
   refine ⟨_,_,rfl,by rw [hK];exact gj hp.sub h1,λhw=>?_,λp hp'=>w _ _ _ (Ext.newJ hp.sub hp' _) (qF hp hp' (s1.cut _ _))⟩
   rw [<-s1.length] at hw
   rw [CJ hw] at w
   exact w _ J H (Ext.refl hp.sub) (.tup h1 s1)
 ·exact w.elim
def sI (x:R) (l u:Option Int):M R:=if Ml x then GU x l u else Ph x l u
def Cf (K:R_) (mg:Str->Option Sa) (x:Str) (d:D):Prop:=∃u v,mg x=some u/\RelV v u/\∀J,Rep K J d v
theorem v_:Tv "int"=some (.type "int"):=by decide +kernel
theorem tX:Tv "bool"=some (.type "bool"):=by decide +kernel
theorem AR:Tv "tuple"=some (.type "tuple"):=by decide +kernel
theorem CF:Tv "list"=some (.type "list"):=by decide +kernel
end
section
variable {X:Cx}{c:C}{e a b tg:Tc}{es:List Tc}{ga gb g:G R}{pos:Pos}{st:Vu}{t u:G O}{tb:G Bool}
def yc:G O:=λ_=>.bad
noncomputable def GW (g:G R):G R:=λenv=>g env >>= λr=>match r with
 | .d (.int i)=>.ok (.d (.int (-i)))
 | _=>.bad
noncomputable def Iv:R->M Bool
 | .d .non=>.ok false
 | .d (.bl b)=>.ok b
 | .d (.int i)=>.ok (i != 0)
 | .d (.str y)=>if y.length<=sizeLine then .ok ((y.length:Int) != 0) else .bad
 | .d (.tup xs)=>.ok (!xs.isEmpty)
 | .d (.lst xs)=>.ok (!xs.isEmpty)
 | .d .emp=>.ok false
 | .d (.exn _ _ _)=>.bad
 | .d (.dct _ _)=>.bad
 | .l _ xs=>.ok (!xs.isEmpty)
 | _=>.bad
theorem Mj {K:R_}{J:Hp}{ds:List D}{vs:List V}(h:aK K J ds vs):ds.isEmpty=vs.isEmpty:=by
 cases h <;> rfl
theorem Lo {He J H:Hp}(hp:HI c J H){Q:Bool->Prop}{T:Exc->Prop}:∀{r:R}{v:V},RR c He J H r v->dg (Iv r) Q T->∃k,Gz c.K v H k/\Q k
 | .d .non,_,h,w=>by cases h;exact ⟨_,rfl,w⟩
 | .d (.bl b),_,h,w=>by cases h;exact ⟨_,rfl,w⟩
 | .d (.int i),_,h,w=>by cases h;exact ⟨_,rfl,w⟩
 | .d (.str y),_,h,w=>by
  cases h
  unfold Iv at w
  simp only at w
  split at w
  ·rename_i hz;exact ⟨_,⟨hz,rfl⟩,w⟩
  ·exact w.elim
 | .d (.tup xs),_,h,w=>by
  cases h with
  | tup h1 h2=>exact ⟨_,.inr (.inl ⟨_,gj hp.sub h1,rfl⟩),by rw [<-Mj h2];exact w⟩
 | .d (.lst xs),_,h,w=>by
  cases h with
  | lst h1 h2=>exact ⟨_,.inl ⟨_,hp.sub.seq h1,rfl⟩,by rw [<-Mj h2];exact w⟩
 | .d .emp,_,h,w=>by
  cases h with
  | emp h1=>exact ⟨_,.inr (.inr ⟨_,hp.sub _ _ h1,rfl⟩),w⟩
 | .d (.exn _ _ _),_,_,w=>w.elim
 | .d (.dct _ _),_,_,w=>w.elim
 | .mo _ _,_,_,w=>w.elim
 | .mb _ _,_,_,w=>w.elim
 | .mf _ _,_,_,w=>w.elim
 | .l m xs,_,h,w=>by
  obtain ⟨a,vs,rfl,h1,h2⟩:=RR.list hp h rfl
  exact ⟨_,.inl ⟨_,h1,rfl⟩,by rw [<-Mj h2];exact w⟩
def zg (g:G R):G Bool:=λenv=>g env >>= Iv
noncomputable def mj (tb:G Bool) (u:G O):Nat->Ev->M O
 | 0,_=>.bad
 | n + 1,env=>tb env >>= λk=>if k=true then u env >>= λo=>(match o with
  | .nx e=>mj tb u n e
  | .ct e=>mj tb u n e
  | .bk e=>.ok (.nx e)
  | .rt r=>.ok (.rt r)) else .ok (.nx env)
def zh (n:Nat) (tb:G Bool) (u:G O):G O:=λenv=>mj tb u n env
end
open PySem.AutoSeq1 in
theorem EA (T:String) (hT:T="tuple"\/T="list") (l b:Sq) (xs ys:Array Sa) (n m:Nat) (dd:Option Sq) (sl:Array (Option Sa)) (z0:¬(!xs.isEmpty && UW (xs.size + ys.size))=true) (z1:xs.size<=sizeLine) (z2:xs.size + ys.size<=sizeLine + 1):
  Meets (WX.«list.extend» ⟨[.ref l,.ref b],[]⟩) λ_ R s=>s.heap.get? l=some {cls:=.type "list",dict:=none,data:=.seq xs n,slots:=#[]}/\
   s.heap.get? b=some {cls:=.type T,dict:=dd,data:=.seq ys m,slots:=sl}/\R (.ok (.ret TU)) {s with heap:=s.heap.update l (UU λx=>x++ys),toks:=s.toks}:=
 .of_wp λprog w A R s h=>by
  obtain ⟨hp,gs,dr,tk,os⟩:=s
  obtain ⟨h1,h2,h3⟩:=h
  have t1:=AutoSeq1.idx_int
  have t2:=Wi
  have t3:=AutoSeq1.sub_list_list
  have t4:=AutoSeq1.sub_tuple_list
  have t5:=AutoSeq1.sub_list_tuple
  have z3:(xs++ys).size<=sizeLine + 1:=by
   rw [Z2]
   exact z2
  rcases hT with rfl | rfl
  ·wp_walk using (Xe h1 rfl (hz:=z1) (_hz':=z3)),U8 h1,U8 h2
   exact ⟨_,rfl,h3⟩
  ·wp_walk using (Xe h1 rfl (hz:=z1) (_hz':=z3)),U8 h1,U8 h2
   exact ⟨_,rfl,h3⟩
section
variable {X:Cx}{c:C}{e a b tg:Tc}{es:List Tc}{ga gb g:G R}{pos:Pos}
noncomputable def Px (K:R_):V->List V->Hp->VK->Prop:=λx vs H Q=>∃l b xs zs,x=.ref l/\vs=[.ref b]/\H l=some (.lst xs)/\(dD K H b zs\/dQ K H b zs)/\xs.length + zs.length<=sizeLine/\Q .non (upd H l (.lst (xs++zs)))
theorem MI:LC X "list.extend" (Px X.K):=by
 intro R0 s σ H x vs v us Q I rx rv h
 obtain ⟨l,b,xs,zs,rfl,rfl,hH,hB,hz,q⟩:=h
 cases rx
 obtain ⟨u,rfl,ru⟩:=rv.one
 cases ru
 obtain ⟨z,R1,n,r,hl,e⟩:=I.lstM hH
 have obj:∃T its2,(T="tuple"\/T="list")/\Vals zs its2/\∃dd m sl,s.heap.get? b=some {cls:=.type T,dict:=dd,data:=.seq its2.toArray m,slots:=sl}:=by
  rcases hB with hB | hB
  ·obtain ⟨its2,r2,pl,_⟩:=I.list hB
   obtain ⟨⟨cls,dd,data,sl⟩,ho,hc,m,hd⟩:=pl.isList
   simp only at hc hd
   subst hc hd
   exact ⟨"list",its2,.inr rfl,r2,dd,m,sl,ho⟩
  ·obtain ⟨its2,r2,pl,_⟩:=I.tuple hB
   obtain ⟨⟨cls,dd,data,sl⟩,ho,hc,m,hd⟩:=pl
   simp only at hc hd
   subst hc hd
   exact ⟨"tuple",its2,.inl rfl,r2,dd,m,sl,ho⟩
 obtain ⟨T,its2,hT,r2,dd,m,sl,e2⟩:=obj
 have hl2:=r2.length
 have hsz:R1.toArray.size + its2.toArray.size<=sizeLine:=by rw [Su,Su];omega
 have QM:¬(!R1.toArray.isEmpty && UW (R1.toArray.size + its2.toArray.size))=true:=by
  rw [zK hsz,VL]
  exact S_
 refine abm ZE ⟨_,e,rfl⟩ Zj (Y5 _ _) (EA T hT l b R1.toArray its2.toArray n m dd sl QM (by rw [Su];omega) (by omega)) ⟨e,e2,?_⟩
 refine ⟨.non,_,I.lset (its':=R1++its2) hH e (by simp) (r.append r2) ?_,rfl,q⟩
 rw [SO]
 omega
noncomputable def qh (i:Nat) (g:G R):G O:=λenv=>match env[i]? with
 | some (some (.own xs))=>g env >>= λr=>jH r >>= λys=>if xs.length + ys.length<=sizeLine then .ok (.nx (env.set i (some (.own (xs++ys))))) else .bad
 | _=>.bad
noncomputable def sR:V->Option (Option Bool)
 | .non=>some none
 | .bl k=>some (some k)
 | _=>none
theorem Ab {x y:V}{v u:Sa}{o:Option Bool}(rx:RelV x v) (ry:RelV y u) (h:sR y=some o):isSame v u=pure (sR x == some o):=by
 cases y with
 | non=>
  cases h
  cases ry
  cases x with
  | non=>cases rx;rfl
  | bl k=>cases rx;rfl
  | int i=>obtain ⟨t,rfl⟩:=rx;rfl
  | str z=>obtain ⟨t,rfl⟩:=rx;rfl
  | byt z=>obtain ⟨t,rfl⟩:=rx;rfl
  | flt z=>obtain ⟨t,rfl⟩:=rx;rfl
  | ref p=>cases rx;rfl
  | ty n=>cases rx;rfl
 | bl k'=>
  cases h
  cases ry
  cases x with
  | non=>cases rx;rfl
  | bl k=>cases rx;cases k <;> cases k' <;> rfl
  | int i=>obtain ⟨t,rfl⟩:=rx;rfl
  | str z=>obtain ⟨t,rfl⟩:=rx;rfl
  | byt z=>obtain ⟨t,rfl⟩:=rx;rfl
  | flt z=>obtain ⟨t,rfl⟩:=rx;rfl
  | ref p=>cases rx;rfl
  | ty n=>cases rx;rfl
 | _=>cases h
theorem Fe:dY X (Uw .Is) (λx y H Q=>∃o,sR y=some o/\Q (.bl (sR x == some o)) H):=by
 intro R0 s σ H x y v u Q I rx ry h
 obtain ⟨o,ho,q⟩:=h
 show SH _ _ (do return Ve (<-isSame v u)) _ _ s
 rw [Ab rx ry ho]
 exact R9 (Sb (Sb ⟨.bl _,H,I,rfl,q⟩))
theorem Ff:dY X (Uw .IsNot) (λx y H Q=>∃o,sR y=some o/\Q (.bl (!(sR x == some o))) H):=by
 intro R0 s σ H x y v u Q I rx ry h
 obtain ⟨o,ho,q⟩:=h
 show SH _ _ (do return Ve (!(<-isSame v u))) _ _ s
 rw [Ab rx ry ho]
 exact R9 (Sb (Sb ⟨.bl _,H,I,rfl,q⟩))
noncomputable def Dj:R->Option (Option Bool)
 | .d .non=>some none
 | .d (.bl k)=>some (some k)
 | _=>none
noncomputable def mJ (neg:Bool) (x y:R):M R:=match Dj y with
 | some o=>.ok (.d (.bl (if neg then !(Dj x == some o) else Dj x == some o)))
 | none=>.bad
theorem kY {He J H:Hp}:∀{r:R}{v:V},RR c He J H r v->sR v=Dj r
 | .d .non,_,h=>by cases h;rfl
 | .d (.bl _),_,h=>by cases h;rfl
 | .d (.int _),_,h=>by cases h;rfl
 | .d (.str _),_,h=>by cases h;rfl
 | .d (.tup _),_,h=>by cases h;rfl
 | .d (.lst _),_,h=>by cases h;rfl
 | .d .emp,_,h=>by cases h;rfl
 | .d (.exn _ _ _),_,h=>by cases h;rfl
 | .d (.dct _ _),_,h=>by cases h;rfl
 | .l .fresh _,_,h=>by obtain ⟨_,_,rfl,_⟩:=h;rfl
 | .l .own _,_,h=>by obtain ⟨_,_,rfl,_⟩:=h;rfl
 | .l .bor _,_,h=>by obtain ⟨_,_,rfl,_⟩:=h;rfl
 | .mo _ _,_,h=>by obtain ⟨_,rfl,_⟩:=h;rfl
 | .mb _ _,_,h=>by obtain ⟨_,rfl,_⟩:=h;rfl
 | .mf _ _,_,h=>by obtain ⟨_,rfl,_⟩:=h;rfl
end
section
variable {X:Cx}{c:C}{e a b d tg:Tc}{es:List Tc}{ga gb g:G R}{pos:Pos}
def Po (K:R_) (tl:TE):TI:=λσ H R=>tl σ H λx H1=>∃a,x=.ref a/\(((∃xs,dD K H1 a xs)/\R (IC K a) H1)\/((∃xs,dQ K H1 a xs)/\R (IE K a) H1))
theorem Ft {tl:TE}(hl:PE X e tl):PI X tg e (Po X.K tl):=λR0 s σ H R I h=>cg (hl R0 s σ H _ I h) λv s1 ⟨x,H1,I1,r1,a,ex,q1⟩=>by
 subst ex
 cases r1
 have fp:∀b∈[s1.heap.objs.size],kB X R0 H1 b:=λb hb=>by
  rw [So] at hb
  subst hb
  exact I1.fpOk (Sl _) (I1.hok.fresh (Sl _))
 rcases q1 with ⟨⟨xs,hq⟩,q⟩ | ⟨⟨xs,hq⟩,q⟩
 ·obtain ⟨R1,rv,p,hz⟩:=I1.list hq
  exact XN p.isList ⟨s1.heap.objs.size,[s1.heap.objs.size],_,_,H1,rfl,I1.kept (t':=s1.toks) (λb o e=>Sm _ e),Gh a _,⟨_,Sw _ rfl,rfl,rfl⟩,fp,q⟩
 ·obtain ⟨R1,rv,p,hz⟩:=I1.tuple hq
  exact ZH (show s1.heap.IsTuple a R1.toArray from p) ⟨s1.heap.objs.size,[s1.heap.objs.size],_,_,H1,rfl,I1.kept (t':=s1.toks) (λb o e=>Sm _ e),DR a _,⟨_,Sw _ rfl,rfl,rfl⟩,fp,q⟩
theorem xr {J1:Hp}{a:Sq}{vs:List V}{ds:List D}{U:Hp->Hp->Prop}(hU:∀J H,U J H->aW J1 J) (h:dQ c.K J1 a vs) (hs:aK c.K J1 ds vs):Walk c (IE c.K a) ds J1 U:=by
 intro i J H hp u
 have h':=gj hp.sub (gj (hU J H u) h)
 refine ⟨λhl=>⟨vs,h',by rw [<-hs.length];exact hl⟩,λd hd=>?_⟩
 obtain ⟨v,k1,k2⟩:=hs.get hd
 refine ⟨⟨vs,v,h',k1⟩,λx H2 ⟨e,hy⟩=>?_⟩
 subst e
 have:=hy vs h'
 rw [k1] at this
 cases this
 exact ⟨J,Ext.refl hp.sub,k2.mono (hU J _ u)⟩
noncomputable def iV (g:G R):G (List D):=λenv=>g env >>= λr=>match r with
 | .d (.tup xs)=>.ok xs
 | .d (.lst xs)=>.ok xs
 | .l .fresh xs=>.ok xs
 | .l .bor xs=>.ok xs
 | _=>.bad
def dX (g:G R):G (List D):=λenv=>g env >>= jH
end
section
variable {X:Cx}{c:C}{st:Vu}{g:G O}
theorem SR.frz {J H:Hp}{σ:L2.St}{env:Ev}(sr:SR c J H σ env){i:Nat}{x:Mn}{a:Sq}{o:HO}{d:D}(hi:env[i]?=some (some (mS x))) (h1:σ[i]?=some (some (.ref a))) (h2:H a=some o) (h3:J a=none) (h4:c.H0 a=none) (h5:Rep c.K (L2.upd J a o) d (.ref a)):∃J',aW J J'/\SR c J' H σ (env.set i (some (.d d))):=by
 have s1:aW J (L2.upd J a o):=dH h3 _
 refine ⟨L2.upd J a o,s1,⟨⟨λb o q=>?_,sr.hp.ent,sr.hp.entJ.trans s1,λb k1 k2=>?_⟩,by simpa using sr.len,λj y q=>?_,λj k ys zs w hjk q1 q2 q3 q4=>?_⟩⟩
 ·by_cases hb:b=a
  ·subst hb;rw [cO] at q;cases q;exact h2
  ·rw [bI hb] at q;exact sr.hp.sub b o q
 ·have:b≠a:=λz=>k1 (z▸h4)
  rw [bI this];exact sr.hp.frz b k1 k2
 ·rcases gM q with ⟨rfl,hl,rfl⟩ | ⟨hj,q⟩
  ·exact ⟨.ref a,h1,h5⟩
  ·obtain ⟨w,k1,k2⟩:=sr.at_ j y q
   refine ⟨w,k1,?_⟩
   have hne:∀(z:Mn) p',y=mS z->w=.ref p'->p'≠a:=λz p' e ew ep=>sr.sep i j x z (.ref a) (Vt hj) hi (e▸q) h1 (ep▸ew▸k1)
   cases y with
   | d x=>exact Rep.mono s1 k2
   | bor zs=>obtain ⟨p,us,m1,m2,m3⟩:=k2;exact ⟨p,us,m1,m2,m3.mono s1⟩
   | db _ _=>obtain ⟨p,m1,m2⟩:=k2;exact ⟨p,m1,m2.mono s1 (aW.refl _)⟩
   | fn _=>exact k2
   | dk ks zs=>
    obtain ⟨p,rfl,m1,m2,m3⟩:=k2
    exact ⟨p,rfl,m1.mono s1 (aW.refl _),by rw [bI (hne (.inr (ks,zs)) p rfl rfl)];exact m2,m3⟩
   | own zs=>
    obtain ⟨p,us,rfl,m1,m2,m3,m4⟩:=k2
    exact ⟨p,us,rfl,m1,by rw [bI (hne (.inl zs) p rfl rfl)];exact m2,m3,m4.mono s1⟩
 ·have f:∀(k:Nat) (ys:Mn),(env.set i (some (.d d)))[k]?=some (some (mS ys))->env[k]?=some (some (mS ys)):=λk ys q=>by
   rcases gM q with ⟨rfl,_,z⟩ | ⟨_,q⟩
   ·cases ys <;> cases z
   ·exact q
  exact sr.sep j k ys zs w hjk (f j ys q1) (f k zs q2) q3 q4
noncomputable def gY (i:Nat) (g:G O):G O:=λenv=>match env[i]? with
 | some (some (.own xs))=>g (env.set i (some (.d (.lst xs))))
 | some (some (.dk ks vs))=>g (env.set i (some (.d (.dct ks vs))))
 | _=>g env
end
structure QD (X:Cx) (c:C) (x0:Tc) (x1:G R):Prop where
 h:PD X c x0 x1
structure QB (X:Cx) (c:C) (x0:Tc) (x1:G Bool):Prop where
 h:PB X c x0 x1
structure lE (X:Cx) (c:C) (x0:List Tc) (x1:G (List R)):Prop where
 h:D4 X c x0 x1
structure D5 (X:Cx) (c:C) (x0:List Tc) (x1:G (List D)):Prop where
 h:P9 X c x0 x1
structure jm (X:Cx) (c:C) (x0:Vu) (x1:G O):Prop where
 h:Bf X c x0 x1
structure p5 (X:Cx) (c:C) (x0:List Vu) (x1:G O):Prop where
 h:IK X c x0 x1
structure yE (X:Cx) (c:C) (x0:Tc) (x1:G Bool):Prop where
 h:P_ X c x0 x1
structure lF (X:Cx) (c:C) (x0:Tc) (x1:GT):Prop where
 h:jl X c x0 x1
structure Cp (X:Cx) (c:C) (x0:List Tc) (x1:tG):Prop where
 h:Pb X c x0 x1
structure yF (X:Cx) (c:C) (x0:Tc) (x1:Tc) (x2:G (List D)):Prop where
 h:yD X c x0 x1 x2
structure rK (X:Cx) (c:C) (x0:Tc) (x1:Tc) (x2:G (List D)):Prop where
 h:pZ X c x0 x1 x2
structure kC (X:Cx) (c:C) (x0:List Tc) (x1:G Bool):Prop where
 h:gX X c x0 x1
structure IM (X:Cx) (c:C) (x0:Option Tc) (x1:GO):Prop where
 h:LI X c x0 x1
section
variable {X:Cx}{c:C}{e a b:Tc}{ga gb:G R}{pos:Pos}
theorem aa (i:Nat){x:Str}(hN:X.N[i]?=some x:=by rfl) (hv:vW X.env.scope x:=by first | exact Xr rfl | exact Wv (Xr rfl) | exact Wv (Wv rfl)) (hd:(x == ("__debug__":Str))=false:=by decide)
  (hcd:(x == ("__classdict__":Str))=false:=by decide):QD X c (.Name x pos) (af i):=⟨KN (qz hN hv hd hcd)⟩
theorem aA {i:Int}{j:Nat}:QD X c (.Constant (.int i) j pos) (gC (.int i)):=⟨uu (λ_=>.int i) M0⟩
theorem fU {i:Bool}{j:Nat}:QD X c (.Constant (.bool i) j pos) (gC (.bl i)):=⟨uu (λ_=>.bl i) Oo⟩
theorem iB {j:Nat}:QD X c (.Constant .none j pos) (gC .non):=⟨uu (λ_=>.non) M3⟩
theorem gr {x:Str}{j:Nat}:QD X c (.Constant (.str x) j pos) (gC (.str x)):=⟨uu (λ_=>.str x) M6⟩
theorem nZ (ha:QD X c a ga) (hb:QD X c b gb):QD X c (.BinOp a .Sub b pos) (g2 nc ga gb):=have ha:=ha.h;have hb:=hb.h;⟨kO MV (iQ λ_ _ _=>.int _) ha hb⟩
theorem fk (ha:QD X c a ga) (hb:QD X c b gb):QD X c (.BinOp a .FloorDiv b pos) (g2 fM ga gb):=have ha:=ha.h;have hb:=hb.h;⟨kO Kz (yJ (λi j h=>Kf h) λ_ _ _=>.int _) ha hb⟩
theorem b9 (ha:QD X c a ga) (hb:QD X c b gb):QD X c (.BinOp a .Mod b pos) (g2 cR ga gb):=have ha:=ha.h;have hb:=hb.h;⟨kO MQ (yJ (λi j h=>by unfold Mu at h;exact of_decide_eq_true h) λ_ _ _=>.int _) ha hb⟩
theorem vJ (ha:QD X c a ga) (hb:QD X c b gb):QD X c (.BinOp a .Pow b pos) (g2 m_ ga gb):=have ha:=ha.h;have hb:=hb.h;⟨kO MT (yJ (λi j h=>Kh h) λ_ _ _=>.int _) ha hb⟩
theorem Nj (ha:QD X c a ga) (hb:QD X c b gb):QD X c (.Compare a [.Gt] [b] pos) (g2 (cC λi j=>.bl (decide (j < i))) ga gb):=have ha:=ha.h;have hb:=hb.h;⟨qy yg (iQ λ_ _ _=>.bl _) ha hb⟩
theorem aq:lE X c [] ay:=⟨yh kq λσ H Q ⟨J,env,sr,w⟩=>w [] J H (Ext.refl sr.hp.sub) rfl⟩
theorem ak {es:List Tc}{g:G R}{gs:G (List R)}(h:QD X c e g) (hs:lE X c es gs) (hst:Sv (e::es) X.env=(false,eval e X.env)::Sv es X.env:=by rfl):lE X c (e::es) (ao g gs):=have h:=h.h;have hs:=hs.h;⟨
 yh (gT h hs hst) λσ H Q ⟨J,env,sr,w⟩=>by
  refine ⟨J,env,sr,aG (aL w) λx wx u J1 H1 e1 r1=>?_⟩
  refine ⟨J1,env,sr.ext e1,aG (aL wx) λxs wy us J2 H2 e2 r2=>?_⟩
  exact wy (u::us) J2 H2 (e1.trans e2) ⟨u,us,rfl,r1.ext e2,mD.from e1.h r2⟩⟩
end
section
variable {X:Cx}{c:C}{e a b:Tc}{es:List Tc}{ga gb g:G R}{pos:Pos}
theorem aS:D5 X c [] aJ:=⟨yh kq λσ H Q ⟨J,env,sr,w⟩=>w [] J H (Ext.refl sr.hp.sub) .nil⟩
theorem aE {gs:G (List D)}(h:QD X c e g) (hs:D5 X c es gs) (hst:Sv (e::es) X.env=(false,eval e X.env)::Sv es X.env:=by rfl):D5 X c (e::es) (au g gs):=have h:=h.h;have hs:=hs.h;⟨
 yh (gT h hs hst) λσ H Q ⟨J,env,sr,w⟩=>by
  refine ⟨J,env,sr,aG (aL w) λx wx u J1 H1 e1 r1=>?_⟩
  obtain ⟨d,q,wx⟩:=jf wx
  obtain ⟨J1',e1',s1,rd⟩:=freeze e1 r1 q
  refine ⟨J1',env,sr.ext e1',aG (aL wx) λxs wy us J2 H2 e2 r2=>?_⟩
  exact wy (u::us) J2 H2 (e1'.trans e2) (.cons (rd.mono e2.j) r2)⟩
theorem bw {k}{gs:G (List D)}(h:D5 X c es gs):QD X c (.Tuple es k pos) (bL gs):=have h:=h.h;⟨gg (M7 h) λσ H Q ⟨J,env,sr,w⟩=>by
 refine ⟨J,env,sr,aG (aL w) λds wd vs J1 H1 e1 r1=>?_⟩
 split at wd
 ·rename_i hz
  rw [r1.length] at hz
  exact ⟨hz,λp hp=>wd _ _ _ (e1.trans (Ext.newJ e1.sub hp _)) (qF (sr.hp.ext e1) hp r1)⟩
 ·exact wd.elim⟩
theorem fE {gs:G (List D)}(h:D5 X c es gs):QD X c (.List es pos) (f_ gs):=have h:=h.h;⟨gg (M1 h) λσ H Q ⟨J,env,sr,w⟩=>by
 refine ⟨J,env,sr,aG (aL w) λds wd vs J1 H1 e1 r1=>?_⟩
 split at wd
 ·rename_i hz
  rw [r1.length] at hz
  exact ⟨hz,λp hp=>wd _ _ _ (e1.trans (Ext.new e1.sub hp _)) (RR.from e1.h (jA (sr.hp.ext e1) hp r1))⟩
 ·exact wd.elim⟩
theorem jX {p:Pos}{gs:G (List R)}(ha:lE X c (e::es) gs) (hm:X.mg "len"=none) (hK:X.K=c.K:=by rfl) (hg:Gl X "len":=by rfl)
  (he:Sv (e::es) X.env=(false,eval e X.env)::Sv es X.env:=by rfl) (hpl:(Vd pos (Sv es X.env)).any (·.1)=false:=by rfl):QD X c (.Call (.Name "len" p) (e::es) [] pos) (gN jt gs):=have ha:=ha.h;⟨
 lQ (yR.or yQ) (by
  intro He J H xs vs Q hp rs w
  unfold jt at w
  split at w
  ·obtain ⟨v,rfl,r⟩:=rs.one
   cases r
   split at w
   ·rename_i hz;exact .inl ⟨_,rfl,hz,w _ J H (Ext.refl hp.sub) (.int _)⟩
   ·exact w.elim
  ·obtain ⟨v,rfl,r⟩:=rs.one
   obtain ⟨xs,q,w⟩:=lA w
   obtain ⟨p,vs,rfl,hq,hs⟩:=nI hp r q
   have w':=w (.int vs.length) J H (Ext.refl hp.sub) (by rw [hs.length];exact .int _)
   exact .inr ⟨p,vs,rfl,by rw [hK];exact hq,w'⟩
  ·exact w.elim) PySem.boot_len hm ha hg (by decide) (by decide) he hpl⟩
theorem cJ {p:Pos}{gs:G (List R)}(ha:lE X c (e::es) gs) (hm:X.mg "tuple"=none) (hK:X.K=c.K:=by rfl) (hg:Gl X "tuple":=by rfl)
  (he:Sv (e::es) X.env=(false,eval e X.env)::Sv es X.env:=by rfl) (hpl:(Vd pos (Sv es X.env)).any (·.1)=false:=by rfl):QD X c (.Call (.Name "tuple" p) (e::es) [] pos) (gN dG gs):=have ha:=ha.h;⟨
 Fj xF (by
  intro He J H xs vs Q hp rs w
  unfold dG at w
  split at w
  ·obtain ⟨v,rfl,r⟩:=rs.one
   rename_i r0
   obtain ⟨xs,q,w⟩:=lA w
   cases r0 with
   | d y=>
    cases y with
    | tup ys=>
     cases q
     cases r with
     | tup h hs=>exact ⟨_,_,rfl,.inr ⟨by rw [hK];exact gj hp.sub h,w _ J H (Ext.refl hp.sub) (.tup h hs)⟩⟩
    | lst ys=>
     cases q
     obtain ⟨p,vs,rfl,hq,hs⟩:=RR.list hp r rfl
     exact ⟨p,vs,rfl,.inl ⟨by rw [hK];exact hq,λl hl=>w _ _ _ (Ext.newJ hp.sub hl _) (qF hp hl hs)⟩⟩
    | _=>cases q
   | mo _ _=>cases q
   | mb _ _=>cases q
   | mf _ _=>cases q
   | l m ys=>
    cases q
    obtain ⟨p,vs,rfl,hq,hs⟩:=RR.list hp r rfl
    exact ⟨p,vs,rfl,.inl ⟨by rw [hK];exact hq,λl hl=>w _ _ _ (Ext.newJ hp.sub hl _) (qF hp hl hs)⟩⟩
  ·exact w.elim) AQ hm ha hg (by decide) (by decide) he hpl⟩
theorem eV (h:QD X c e g) (he:∀whole,Zb e X.env whole=(do let v <-whole;VB e.pos;holding [v] (truthy v)):=by intro _;rfl):QB X c e (aV g):=have h:=h.h;⟨yi (Ng h he) λσ H Q ⟨J,env,sr,w⟩=>by
 refine ⟨J,env,sr,aG (aL w) λr wr v J1 H1 e1 r1=>?_⟩
 split at wr
 ·cases r1;exact ⟨_,rfl,wr J1 H1 e1⟩
 ·exact wr.elim⟩
theorem kZ {op:abV}{r:R2}{f:R->R->M R}(ho:dY X (Uw op) r) (hf:BD c r f) (ha:QD X c a ga) (hb:QD X c b gb) (hm:T_ op b=false:=by first | exact zJ _ | rfl):QB X c (.Compare a [op] [b] pos) (aV (g2 f ga gb)):=⟨jx ho hf ha.h hb.h hm⟩
variable {t u:G Bool}{rest:List Tc}
theorem gU (h:yE X c e t):QB X c e t:=have h:=h.h;⟨PW.pt h⟩
theorem o7 (h:QB X c a t):yE X c (.BoolOp .And [a] pos) t:=have h:=h.h;⟨K1 h⟩
theorem k_ (h:QB X c a t):yE X c (.BoolOp .Or [a] pos) t:=have h:=h.h;⟨Ni h⟩
theorem rz (h:QB X c a t) (h':yE X c (.BoolOp .And (b::rest) pos) u):yE X c (.BoolOp .And (a::b::rest) pos) (bK t u):=have h:=h.h;have h':=h'.h;⟨Jj (Nh h h') λσ H Q ⟨J,env,sr,w⟩=>by
 refine ⟨J,env,sr,aG (aL w) λk wk J1 H1 e1=>?_⟩
 cases k with
 | true=>
  rw [if_pos rfl] at wk ⊢
  exact ⟨J1,env,sr.ext e1,aG wk λk q J2 H2 e2=>q J2 H2 (e1.trans e2)⟩
 | false=>
  rw [if_neg (by decide)] at wk ⊢
  exact wk J1 H1 e1⟩
theorem lR (h:QB X c a t) (h':yE X c (.BoolOp .Or (b::rest) pos) u):yE X c (.BoolOp .Or (a::b::rest) pos) (bV t u):=have h:=h.h;have h':=h'.h;⟨Jj (Ox h h') λσ H Q ⟨J,env,sr,w⟩=>by
 refine ⟨J,env,sr,aG (aL w) λk wk J1 H1 e1=>?_⟩
 cases k with
 | true=>
  rw [if_pos rfl] at wk ⊢
  exact wk J1 H1 e1
 | false=>
  rw [if_neg (by decide)] at wk ⊢
  exact ⟨J1,env,sr.ext e1,aG wk λk q J2 H2 e2=>q J2 H2 (e1.trans e2)⟩⟩
theorem gV (h:QB X c a t):QB X c (.UnaryOp .Not a pos) (bD t):=have h:=h.h;⟨yi (Nf h) λσ H Q ⟨J,env,sr,w⟩=>⟨J,env,sr,aG (aL w) λk wk J1 H1 e1=>wk J1 H1 e1⟩⟩
theorem jW {op}(h:QD X c a ga):QD X c (.BoolOp op [a] pos) ga:=have h:=h.h;⟨M5 h⟩
theorem lg (h:QD X c a ga) (h':QD X c (.BoolOp .And (b::rest) pos) gb):QD X c (.BoolOp .And (a::b::rest) pos) (bu ga gb):=have h:=h.h;have h':=h'.h;⟨gg (MZ h h') λσ H Q ⟨J,env,sr,w⟩=>by
 refine ⟨J,env,sr,aG (aL w) λr wr v J1 H1 e1 r1=>?_⟩
 split at wr
 ·cases r1
  exact ⟨true,rfl,Mp ⟨J1,env,sr.ext e1,aG wr λz q v J2 H2 e2 r2=>q v J2 H2 (e1.trans e2) (RR.from e1.h r2)⟩⟩
 ·cases r1
  exact ⟨false,rfl,Mm (wr _ J1 H1 e1 (.bl _))⟩
 ·exact wr.elim⟩
theorem Nk (h:QD X c a ga) (h':QD X c (.BoolOp .Or (b::rest) pos) gb):QD X c (.BoolOp .Or (a::b::rest) pos) (sL ga gb):=have h:=h.h;have h':=h'.h;⟨gg (Ou h h') λσ H Q ⟨J,env,sr,w⟩=>by
 refine ⟨J,env,sr,aG (aL w) λr wr v J1 H1 e1 r1=>?_⟩
 split at wr
 ·cases r1
  exact ⟨false,rfl,Mm ⟨J1,env,sr.ext e1,aG wr λz q v J2 H2 e2 r2=>q v J2 H2 (e1.trans e2) (RR.from e1.h r2)⟩⟩
 ·cases r1
  exact ⟨true,rfl,Mp (wr _ J1 H1 e1 (.bl _))⟩
 ·exact wr.elim⟩
theorem vI (h:QD X c a ga):QD X c (.UnaryOp .Not a pos) (bC ga):=have h:=h.h;⟨gg (M4 h) λσ H Q ⟨J,env,sr,w⟩=>by
 refine ⟨J,env,sr,aG (aL w) λr wr v J1 H1 e1 r1=>?_⟩
 split at wr
 ·cases r1
  exact ⟨_,rfl,wr _ J1 H1 e1 (.bl _)⟩
 ·exact wr.elim⟩
end
section
variable {X:Cx}{c:C}{e a b tg:Tc}{es:List Tc}{ga gb g:G R}{pos:Pos}{st:Vu}{rest:List Vu}{t u:G O}{tb:G Bool}
theorem bQ:p5 X c [] bF:=⟨FD KY λE σ H ⟨J,env,sr,w⟩=>w σ J H (aW.refl J) sr⟩
theorem av (h:jm X c st t) (h':p5 X c rest u):p5 X c (st::rest) (aD t u):=have h:=h.h;have h':=h'.h;⟨FD (HR h h') λE σ H ⟨J,env,sr,w⟩=>by
 refine ⟨J,env,sr,aG (aL w) λo wo=>?_⟩
 cases o with
 | nx e=>exact λσ' J' H' s' sr'=>⟨J',e,sr',aG wo λo q=>q.mono s'⟩
 | rt r=>exact wo
 | bk e=>exact wo
 | ct e=>exact wo⟩
theorem aC (h:jm X c st t):p5 X c [st] t:=have h:=h.h;⟨KZ h⟩
theorem gz (h:QD X c e g) (hs:VO e none pos.line X.env=pure false:=by rfl):jm X c (.Expr e pos) (jv g):=have h:=h.h;⟨jy (vF h hs) λE σ H ⟨J,env,sr,w⟩=>
 ⟨J,env,sr,aG (aL w) λr wr v J1 H1 e1 r1=>wr σ J1 H1 e1.j (sr.ext e1)⟩⟩
theorem aT (h:QD X c e g):jm X c (.Return (some e) pos) (aP g):=have h:=h.h;⟨jy (Nc h) λE σ H ⟨J,env,sr,w⟩=>by
 refine ⟨J,env,sr,aG (aL w) λr wr v J1 H1 e1 r1=>?_⟩
 cases q:rF r with
 | bad=>rw [q] at wr;exact wr.elim
 | exc x=>cases r with
  | d _=>cases q
  | l m _=>cases m <;> cases q
  | mo _ _=>cases q
  | mb _ _=>cases q
  | mf _ _=>cases q
 | ok r'=>rw [q] at wr;exact wr v J1 H1 e1.j (sr.hp.ext e1) (RR.rf sr.hp r1 q)⟩
theorem b8 {x:Tc}{as bs:List Vu}(hx:QB X c x tb) (h:p5 X c as t) (h':p5 X c bs u):jm X c (.If x as bs pos) (aX tb t u):=have hx:=hx.h;have h:=h.h;have h':=h'.h;⟨jy (Ow hx h h') λE σ H ⟨J,env,sr,w⟩=>by
 refine ⟨J,env,sr,aG (aL w) λk wk J1 H1 e1=>?_⟩
 cases k with
 | true=>
  rw [if_pos rfl] at wk ⊢
  exact ⟨J1,env,sr.ext e1,aG wk λo q=>q.mono e1.j⟩
 | false=>
  rw [if_neg (by decide)] at wk ⊢
  exact ⟨J1,env,sr.ext e1,aG wk λo q=>q.mono e1.j⟩⟩
theorem aQ (i:Nat){x:Str}{pos':Pos}(hN:X.N.Nodup) (h:QD X c e g) (hi:X.N[i]?=some x:=by rfl) (hx:Loc X.env.scope x:=by first | exact Xr rfl | exact Wv rfl) (hs:VO e (some (.Name x pos')) pos.line X.env=pure false:=by rfl)
  (hf:X.fn x=true\/X.env.scope.names.lookup x=some .local:=by first | exact .inl rfl | exact .inr rfl):jm X c (.Assign [.Name x pos'] e pos) (aN i g):=have h:=h.h;⟨jy (Nd hN hi hx h hs hf) λE σ H ⟨J,env,sr,w⟩=>by
 refine ⟨J,env,sr,aG (aL w) λr wr v J1 H1 e1 r1=>?_⟩
 obtain ⟨x,q,wr⟩:=oh wr
 exact wr (σ.set i (some v)) J1 H1 e1.j (sr.set e1 r1 q)⟩
theorem aB (i:Nat){x:Str}(hN:X.N.Nodup) (hi:X.N[i]?=some x:=by rfl) (hx:Loc X.env.scope x:=by first | exact Xr rfl | exact Wv rfl) (hf:X.fn x=true\/X.env.scope.names.lookup x=some .local:=by first | exact .inl rfl | exact .inr rfl):lF X c (.Name x pos) (az i):=⟨
 Jh (KR hN hi hx hf) λv σ H Q ⟨J,env,d,sr,rd,w⟩=>w _ (sr.setD (x:=.d d) rd λx z=>by cases x <;> cases z) λj xs q=>by
  rcases gM q with ⟨_,_,e⟩ | ⟨hj,q⟩
  ·cases xs <;> cases e
  ·exact ⟨q,Tq (Vt hj)⟩⟩
theorem fc:Cp X c [] gF:=⟨Fq KS λvs σ H Q ⟨J,env,ds,sr,rd,w⟩=>by
 cases rd with
 | nil=>exact ⟨rfl,w σ sr KO.refl⟩
 | cons _ _=>exact w.elim⟩
theorem bG {t:GT}{u:tG}(h:lF X c e t) (h':Cp X c es u) (hs:(Vv (e::es) X.env).map (·.2)=assign e X.env::(Vv es X.env).map (·.2):=by rfl):Cp X c (e::es) (b_ t u):=have h:=h.h;have h':=h'.h;⟨
 Fq (HM h h' hs) λvs σ H Q ⟨J,env,ds,sr,rd,w⟩=>by
  cases rd with
  | nil=>exact w.elim
  | cons r rs=>
   refine ⟨_,_,rfl,J,env,_,sr,r,aG (aL w) λe1 w1 σ' sr' ko=>?_⟩
   exact ⟨J,e1,_,sr',rs,aG w1 λe2 q σ2 sr2 ko2=>q σ2 sr2 (ko.trans ko2)⟩⟩
theorem fJ {k:Nat}{u:tG}{n:Nat}(h:Cp X c es u) (hc:X.calm=true:=by rfl) (hK:X.K=c.K:=by rfl) (hn:(Vv es X.env).length=n:=by rfl) (hst:(Vv es X.env).findIdx? (·.1)=none:=by rfl):lF X c (.Tuple es k pos) (gm n u):=have h:=h.h;⟨
 Jh (M9 hc h hn hst) λv σ H Q ⟨J,env,d,sr,rd,w⟩=>by
  cases rd with
  | tup h1 h2=>
   unfold gm at w
   simp only at w
   split at w
   ·rename_i hl
    exact ⟨_,_,rfl,by rw [hK];exact gj sr.hp.sub h1,by rw [<-h2.length];exact hl,J,env,_,sr,h2,w⟩
   ·exact w.elim
  | _=>exact w.elim⟩
theorem bX {R4:Tc}{body:List Vu}{gi:G (List D)}{t:GT}(hi:yF X c tg R4 gi) (ht:lF X c tg t) (hb:p5 X c body u) (hp:aaw (SM X.prog X.w) X.A X.env X.xe:=by first | exact aaF | exact Z4) (hc:X.calm=true:=by rfl)
  (hs:∀x,Sz R4 X.env x=pure x:=by intro _;rfl):jm X c (.For tg R4 body [] pos) (c_ gi t u):=have hi:=hi.h;have ht:=ht.h;have hb:=hb.h;⟨jy (Nb hp hc hi ht hb hs) λE σ H ⟨J,env,sr,w⟩=>by
 refine ⟨J,env,sr,aG (aL w) λds wd It J1 H1 e1 wk=>?_⟩
 refine ⟨λi m σ H=>m=ds.length - i/\∃J' env,aW J1 J'/\SR c J' H σ env/\dg (eY t u (ds.drop i) env) (oP c J' E) c.T,
  ⟨ds.length,by simp,J1,env,aW.refl J1,sr.ext e1,by rw [aa5];exact aG wd λo q=>q.mono e1.j⟩,?_⟩
 rintro i m σ H ⟨rfl,J',env,s',sr',w'⟩
 obtain ⟨w1,w2⟩:=wk i J' H sr'.hp s'
 by_cases hlt:i < ds.length
 ·obtain ⟨g1,y1⟩:=w2 ds[i] (by simp [hlt])
  rw [V5 hlt] at w'
  refine .inr ⟨g1,λσ2 H2=>∃J2 env2,aW J' J2/\SR c J2 H2 σ2 env2/\dg (eY t u (ds.drop (i + 1)) env2) (oP c J2 E) c.T,?_,?_⟩
  ·rintro σ2 H2 ⟨J2,env2,s2,sr2,w2⟩
   exact ⟨ds.length - (i + 1),by omega,rfl,J2,env2,s'.trans s2,sr2,w2⟩
  ·intro x H2 hy
   obtain ⟨J2,e2,rx⟩:=y1 x H2 hy
   refine ⟨J2,env,ds[i],sr'.ext e2,rx,aG (aL w') λenv3 w3 σ3 sr3 _=>?_⟩
   refine ⟨J2,env3,sr3,aG (aL w3) λo wo=>?_⟩
   cases o with
   | nx env4=>exact λσ4 J4 H4 s4 sr4=>⟨J4,env4,e2.j.trans s4,sr4,aG wo λo q=>q.mono (e2.j.trans s4)⟩
   | ct env4=>exact λσ4 J4 H4 s4 sr4=>⟨J4,env4,e2.j.trans s4,sr4,aG wo λo q=>q.mono (e2.j.trans s4)⟩
   | bk env4=>exact λσ4 J4 H4 s4 sr4=>wo σ4 J4 H4 (e2.j.trans s4) sr4
   | rt r=>exact λv J4 H4 s4 h4 r4=>wo v J4 H4 (e2.j.trans s4) h4 r4
 ·rw [Yx (by omega)] at w'
  exact .inl ⟨w1 (by omega),w' σ J' H (aW.refl J') sr'⟩⟩
theorem bf {p:Pos}{gs:G (List R)}(ha:lE X c [a] gs) (hm:X.mg "range"=none) (hg:Gl X "range":=by rfl) (hs:Sv [a] X.env=[(false,eval a X.env)]:=by rfl):yF X c tg (.Call (.Name "range" p) [a] [] pos) (bR gs):=have ha:=ha.h;⟨
 uv (Fv hg hm ha hs) λσ H Q ⟨J,env,sr,w⟩=>by
  refine ⟨J,env,sr,aG (aL w) λrs wr vs J1 H1 e1 r1=>?_⟩
  split at wr
  ·split at wr
   ·rename_i h
    obtain ⟨v,rfl,r⟩:=r1.one
    cases r
    have h:=eE.mp h
    exact ⟨_,rfl,Int.le_of_lt h.1,h.2,wr _ J1 H1 e1 DU⟩
   ·exact wr.elim
  ·exact wr.elim⟩
theorem fH {gi:G (List D)}(h:yF X c tg e gi):rK X c tg e gi:=have h:=h.h;⟨uv h λσ H Q ⟨J,env,sr,w⟩=>
 ⟨J,env,sr,aG w λds q It J1 H1 e1 wk=>q It J1 H1 e1 λi J' H' hp u=>wk i J' H' hp u.1⟩⟩
end
section
variable {X:Cx}{c:C}{e a b tg:Tc}{es:List Tc}{ga gb g:G R}{pos:Pos}
theorem fC (i:Nat){x:Str}{p1 p2 pos':Pos}(h:QD X c e g) (hN:X.N[i]?=some x:=by rfl) (hv:vW X.env.scope x:=by first | exact Xr rfl | exact Wv (Xr rfl) | exact Wv (Wv rfl)) (hd:(x == ("__debug__":Str))=false:=by decide)
  (hcd:(x == ("__classdict__":Str))=false:=by decide)
  (hbase:ZD (.Name x p1) "append" X.env (eval (.Name x p1) X.env)=eval (.Name x p1) X.env:=by rfl)
  (hfew:((Vd pos' (Sv [e] X.env)).all (λx=>!x.1) && (acD pos' (aaA [] X.env)).all (λx=>x.1.isSome)
   && decide (([e]:List Tc).length + ([]:List aaB).length + (if ([]:List aaB).isEmpty then 0 else 1) < 30))=true:=by rfl)
  (hline:(p2.endLine == pos'.line)=true:=by rfl) (hst:Sv [e] X.env=(false,eval e X.env)::Sv [] X.env:=by rfl) (hplain:(Vd pos' (Sv [] X.env)).any (·.1)=false:=by rfl)
  (hs:VO (.Call (.Attribute (.Name x p1) "append" p2) [e] [] pos') none pos.line X.env=pure false:=by rfl):jm X c (.Expr (.Call (.Attribute (.Name x p1) "append" p2) [e] [] pos') pos) (e_ i g):=have h:=h.h;⟨
 jy (vF (Jg Ye PySem.F.slot_list_append PySem.F.type_list_append wK (qz hN hv hd hcd) (gT h kq hst) hbase hfew hline hst hplain) hs) λE σ H ⟨J,env,sr,w⟩=>by
  unfold e_ at w
  split at w
  ·rename_i xs hi
   obtain ⟨v,h1,a,vs,rfl,h2,h3,h4,h5⟩:=sr.at_ i _ hi
   refine ⟨.ref a,h1,.inl ⟨rfl,vs,dD.of h2⟩,?_⟩
   refine ⟨J,env,sr,aG (aL w) λr wr y J1 H1 e1 r1=>?_⟩
   obtain ⟨d,q,wr⟩:=jf wr
   obtain ⟨J2,e2,s2,rd⟩:=freeze e1 r1 q
   split at wr
   ·rename_i hz
    refine ⟨a,vs,y,rfl,rfl,e2.h _ _ h2,by rw [<-h5.length];exact hz,?_⟩
    refine wr σ J2 _ e2.j ?_
    exact (sr.ext e2).upd hi h1 (e2.h _ _ h2) (e2.frz a (by rw [h2];intro z;cases z) h3) h4 ((h5.mono e2.j).append (.cons rd .nil))
   ·exact wr.elim
  ·exact w.elim⟩
end
section
variable {X:Cx}{c:C}
theorem bz:kC X c [] cI:=⟨λR0 s σ H Q I ⟨J,env,sr,w⟩=>wpAny_tests_nil ⟨H,I,w J H (Ext.refl sr.hp.sub)⟩⟩
theorem dU {x:Tc}{g:G Bool}(h:QB X c x g):kC X c [x] g:=have h:=h.h;⟨λR0 s σ H Q I q=>wpAny_tests_one (h R0 s σ H Q I q)⟩
end
section
variable {K:R_}{J:Hp}{s:Sd}
variable {X:Cx}{c:C}{e a b tg:Tc}{es:List Tc}{ga gb g:G R}{pos:Pos}
theorem qB (hu:X.A.units + 64 < Us) (ha:QD X c a ga) (hb:QD X c b gb) (hK:X.K=c.K:=by rfl):QD X c (.Compare a [.Eq] [b] pos) (g2 (dO false) ga gb):=have ha:=ha.h;have hb:=hb.h;⟨qy (E_ hu) (Cy false hK) ha hb⟩
theorem iO (hu:X.A.units + 64 < Us) (ha:QD X c a ga) (hb:QD X c b gb) (hK:X.K=c.K:=by rfl):QB X c (.Compare a [.Eq] [b] pos) (aV (g2 (dO false) ga gb)):=have ha:=ha.h;have hb:=hb.h;⟨jx (E_ hu) (Cy false hK) ha hb⟩
theorem ku (hu:X.A.units + 64 < Us) (ha:QD X c a ga) (hb:QD X c b gb) (hK:X.K=c.K:=by rfl):QB X c (.Compare a [.NotEq] [b] pos) (aV (g2 (dO true) ga gb)):=have ha:=ha.h;have hb:=hb.h;⟨jx (MS hu) (Cy true hK) ha hb⟩
theorem jz (hu:X.A.units + 64 < Us) (ha:QD X c a ga) (hb:QD X c b gb) (hK:X.K=c.K:=by rfl) (hm:T_ .In b=false:=by rfl):QD X c (.Compare a [.In] [b] pos) (g2 (fu false) ga gb):=have ha:=ha.h;have hb:=hb.h;⟨qy (Fb hu) (Cz false hK) ha hb hm⟩
theorem zR (hu:X.A.units + 64 < Us) (ha:QD X c a ga) (hb:QD X c b gb) (hK:X.K=c.K:=by rfl) (hm:T_ .In b=false:=by rfl):QB X c (.Compare a [.In] [b] pos) (aV (g2 (fu false) ga gb)):=have ha:=ha.h;have hb:=hb.h;⟨jx (Fb hu) (Cz false hK) ha hb hm⟩
theorem wO (hu:X.A.units + 64 < Us) (ha:QD X c a ga) (hb:QD X c b gb) (hK:X.K=c.K:=by rfl) (hm:T_ .NotIn b=false:=by rfl):QB X c (.Compare a [.NotIn] [b] pos) (aV (g2 (fu true) ga gb)):=have ha:=ha.h;have hb:=hb.h;⟨jx (Fg hu) (Cz true hK) ha hb hm⟩
end
section
variable {X:Cx}{c:C}{e a b tg:Tc}{es:List Tc}{ga gb g:G R}{pos:Pos}
theorem wQ:IM X c none EF:=⟨Ji KU λσ H Q ⟨J,env,sr,w⟩=>w J H (Ext.refl sr.hp.sub)⟩
theorem mU (h:QD X c e g):IM X c (some e) (wm g):=have h:=h.h;⟨Ji (KW h) λσ H Q ⟨J,env,sr,w⟩=>by
 refine ⟨J,env,sr,aG (aL w) λr wr v J1 H1 e1 r1=>?_⟩
 split at wr
 ·cases r1;exact ⟨_,rfl,wr J1 H1 e1⟩
 ·exact wr.elim⟩
theorem uz {p:Pos}{gs:G (List R)}(ha:lE X c (e::es) gs) (hm:X.mg "sorted"=none) (hK:X.K=c.K:=by rfl) (hg:Gl X "sorted":=by rfl)
  (he:Sv (e::es) X.env=(false,eval e X.env)::Sv es X.env:=by rfl) (hpl:(Vd pos (Sv es X.env)).any (·.1)=false:=by rfl):QD X c (.Call (.Name "sorted" p) (e::es) [] pos) (gN kW gs):=have ha:=ha.h;⟨
 lQ yS (by
  intro He J H xs vs Q hp rs w
  unfold kW at w
  split at w
  ·obtain ⟨v,rfl,r⟩:=rs.one
   obtain ⟨xs,q,w⟩:=rC w
   obtain ⟨p,vs,rfl,h1,h2⟩:=RR.list hp r q
   split at w
   ·rename_i ss z
    split at w
    ·rename_i hl
     have:=uH z h2
     subst this
     refine ⟨p,ss,rfl,by rw [hK];exact h1,hl,λss' hp' hs' l hl'=>?_⟩
     rw [DG hp' hs']
     exact w _ _ _ (Ext.new hp.sub hl' _) (jA hp hl' (wX _))
    ·exact w.elim
   ·exact w.elim
  ·exact w.elim) lH hm ha hg (by decide) (by decide) he hpl⟩
theorem dc (ha:QD X c a ga) (hb:QD X c b gb):QD X c (.BinOp a .Add b pos) (g2 cF ga gb):=by
 have ha:=ha.h
 have hb:=hb.h
 refine ⟨?_⟩
 have h1:BD c (qC λi j=>.int (i + j)) zc:=iQ λ_ _ _=>.int _
 have q:=kO (pos:=pos) (E7.or (ur.or E8)) (BD.or (c:=c) (λx _=>ES x) h1 (BD.or (c:=c) (λx _=>Mk x) (f:=t6) (f':=t7) (by
  intro He He' J H x y u v Q hp rx ry w
  unfold t6 at w
  split at w
  ·cases rx;cases ry
   split at w
   ·rename_i h;exact ⟨_,_,rfl,rfl,h,w _ J H (Ext.refl hp.sub) (.str _)⟩
   ·exact w.elim
  ·exact w.elim) (by
  intro He He' J H x y u v Q hp rx ry w
  unfold t7 at w
  split at w
  ·rename_i hm
   rw [Sk] at hm
   obtain ⟨p,vs,xs,e1,rfl,h1,s1⟩:=rx.made hm.1
   obtain ⟨p2,vs2,ys,e2,rfl,h2,s2⟩:=ry.made hm.2
   rw [e1,e2] at w
   simp only [aM] at w
   split at w
   ·rename_i hz
    rw [s1.length,s2.length] at hz
    exact ⟨p,p2,vs,vs2,rfl,rfl,h1,h2,hz,λq hq=>w _ J _ (Ext.new hp.sub hq _) (jA hp hq (s1.append s2))⟩
   ·exact w.elim
  ·exact w.elim))) ha hb
 exact q
theorem fD (ha:QD X c a ga) (hb:QD X c b gb):QD X c (.BinOp a .Mult b pos) (g2 dF ga gb):=by
 have ha:=ha.h
 have hb:=hb.h
 refine ⟨?_⟩
 have h1:BD c (rI Ca λi j=>.int (i * j)) Mb:=yJ (λi j h=>Kg h) λ_ _ _=>.int _
 exact kO (pos:=pos) (MR.or KA) (BD.or (c:=c) (λx _=>ES x) h1 (f':=CM) (by
  intro He He' J H x y u v Q hp rx ry w
  unfold CM at w
  split at w
  ·cases rx;cases ry
   split at w
   ·rename_i h;exact ⟨_,_,rfl,rfl,h.1,h.2.1,h.2.2,w _ J H (Ext.refl hp.sub) (.str _)⟩
   ·exact w.elim
  ·exact w.elim)) ha hb
theorem aO (ha:QD X c a ga) (hb:QD X c b gb) (hK:X.K=c.K:=by rfl) (hs:qV b:=by exact λ_ _=>rfl):QD X c (.Subscript a b pos) (g2 br ga gb):=have ha:=ha.h;have hb:=hb.h;⟨Jf Mr (by
 intro He He' J H x y u v Q hp rx ry w
 rw [hK]
 unfold br at w
 split at w
 ·cases rx;cases ry
  split at w
  ·rename_i h
   split at w
   ·rename_i k hk;exact .inr (.inr ⟨_,_,k,rfl,rfl,h,hk,w _ J H (Ext.refl hp.sub) (.str _)⟩)
   ·exact w.elim
  ·exact w.elim
 ·cases ry
  obtain ⟨xs,q,w⟩:=lA w
  obtain ⟨p,vs,rfl,hl,hs⟩:=nI hp rx q
  split at w
  ·rename_i d hd
   obtain ⟨z,h1,h2⟩:=Lb hs hd
   have fin:=w z J H (Ext.refl hp.sub) h2
   rcases hl with hl | hl
   ·exact .inl ⟨p,vs,_,z,rfl,rfl,hl,h1,fin⟩
   ·exact .inr (.inl ⟨p,vs,_,z,rfl,rfl,hl,h1,fin⟩)
  ·exact w.elim
 ·exact w.elim) ha hb hs⟩
theorem aY {k k' n:Nat}{F:List S->M R}{x:Str}{p:Pos}{gs:G (List R)}(G:bB X.prog X.w X.K X.mg X.base k n x F) (hr:eF k' X.A) (ha:lE X c (e::es) gs) (hk:k<=k':=by decide) (hT:c.K=X.K:=by rfl) (hg:Gl X x:=by rfl) (hdb:(x == ("__debug__":Str))=false:=by decide)
  (he:Sv (e::es) X.env=(false,eval e X.env)::Sv es X.env:=by rfl) (hpl:(Vd pos (Sv es X.env)).any (·.1)=false:=by rfl):QD X c (.Call (.Name x p) (e::es) [] pos) (gN (aF n F) gs):=by
 have ha:=ha.h
 refine ⟨?_⟩
 obtain ⟨f,fd,ps,h1,h2,h3,h4⟩:=G
 exact KJ h1 (hr.mono hk) h2 h3 h4 ha hT hg hdb he hpl
theorem zS {t:GT}(h:QD X c e g) (ht:lF X c tg t) (hs:Wm [tg] e pos.line X.env=pure false:=by rfl) (hw:Zu [tg] e X.env=pure none:=by rfl)
  (h1:(Vv [tg] X.env).map (·.2)=[assign tg X.env]:=by rfl):jm X c (.Assign [tg] e pos) (vh t g):=have h:=h.h;have ht:=ht.h;⟨KH h ht (Fz h ht hs hw h1)⟩
theorem iA {T:String}{Ts:Str}{p p2:Pos}(kit:Bd T) (hT:Tv Ts=some (.type T)) (mT:X.mg Ts=none)
  (h:QD X c a g) (hm:X.mg "isinstance"=none) (hK:X.K=c.K:=by rfl) (hg:Gl X "isinstance":=by rfl) (RK:Gl X Ts:=by rfl) (hn:Ts≠"__name__":=by decide) (RH:(Ts == ("__debug__":Str))=false:=by decide)
  (he:Sv [a,.Name Ts p2] X.env=(false,eval a X.env)::Sv [.Name Ts p2] X.env:=by rfl) (Q9:Sv [.Name Ts p2] X.env=(false,eval (.Name Ts p2) X.env)::Sv [] X.env:=by rfl)
  (hpl:(Vd pos (Sv [.Name Ts p2] X.env)).any (·.1)=false:=by rfl):QD X c (.Call (.Name "isinstance" p) [a,.Name Ts p2] [] pos) (cT T g):=have h:=h.h;⟨
 gg (sS (AW kit) hg hm (by decide +kernel) (gT h (gT (KP RK mT hT (v:=.ty T) rfl hn RH) kq Q9) he) (by decide) (by decide) he hpl) λσ H Q ⟨J,env,sr,w⟩=>by
  refine ⟨J,env,sr,aG (aL w) λr wr v J1 H1 e1 r1=>?_⟩
  exact ⟨r.dat,v,rfl,by rw [hK];exact r1.dat (sr.hp.ext e1),wr _ J1 H1 e1 (.bl _)⟩⟩
theorem rA {p:Pos}{gs:G (List R)}(ha:lE X c (e::es) gs) (hm:X.mg "all"=none) (hK:X.K=c.K:=by rfl) (hc:X.calm=true:=by rfl) (hg:Gl X "all":=by rfl)
  (he:Sv (e::es) X.env=(false,eval e X.env)::Sv es X.env:=by rfl) (hpl:(Vd pos (Sv es X.env)).any (·.1)=false:=by rfl):QD X c (.Call (.Name "all" p) (e::es) [] pos) (gN kF gs):=have ha:=ha.h;⟨
 lQ (Eg hc) (by
  intro He J H xs vs Q hp rs w
  unfold kF at w
  split at w
  ·obtain ⟨v,rfl,r⟩:=rs.one
   obtain ⟨xs,q,w⟩:=rC w
   obtain ⟨p,vs,rfl,h1,h2⟩:=RR.list hp r q
   split at w
   ·rename_i ks z
    have:=p7 z h2
    subst this
    exact ⟨p,ks,rfl,by rw [hK];exact h1,w _ J H (Ext.refl hp.sub) (.bl _)⟩
   ·exact w.elim
  ·exact w.elim) Ec hm ha hg (by decide) (by decide) he hpl⟩
theorem sV (ha:QD X c a ga) (hb:QD X c b gb) (hK:X.K=c.K:=by rfl):QD X c (.BinOp a .Add b pos) (g2 mH ga gb):=by
 have ha:=ha.h
 have hb:=hb.h
 refine ⟨?_⟩
 have h1:BD c (qC λi j=>.int (i + j)) zc:=iQ λ_ _ _=>.int _
 exact kO (pos:=pos) (E9.or (E7.or (ur.or E8))) (BD.or (c:=c) (λx _=>Ml x) (JH hK) (BD.or (c:=c) (λx _=>ES x) h1 (BD.or (c:=c) (λx _=>Mk x) (f:=t6) (f':=t7) (by
  intro He He' J H x y u v Q hp rx ry w
  unfold t6 at w
  split at w
  ·cases rx;cases ry
   split at w
   ·rename_i h;exact ⟨_,_,rfl,rfl,h,w _ J H (Ext.refl hp.sub) (.str _)⟩
   ·exact w.elim
  ·exact w.elim) (by
  intro He He' J H x y u v Q hp rx ry w
  unfold t7 at w
  split at w
  ·rename_i hm
   rw [Sk] at hm
   obtain ⟨p,vs,xs,e1,rfl,h1,s1⟩:=rx.made hm.1
   obtain ⟨p2,vs2,ys,e2,rfl,h2,s2⟩:=ry.made hm.2
   rw [e1,e2] at w
   simp only [aM] at w
   split at w
   ·rename_i hz
    rw [s1.length,s2.length] at hz
    exact ⟨p,p2,vs,vs2,rfl,rfl,h1,h2,hz,λq hq=>w _ J _ (Ext.new hp.sub hq _) (jA hp hq (s1.append s2))⟩
   ·exact w.elim
  ·exact w.elim)))) ha hb
theorem vK {lo hi:Option Tc}{gl gh:GO}{p2:Pos}(h:QD X c e g) (hl:IM X c lo gl) (hh:IM X c hi gh) (hK:X.K=c.K:=by rfl):QD X c (.Subscript e (.Slice lo hi none p2) pos) (wA sI g gl gh):=have h:=h.h;have hl:=hl.h;have hh:=hh.h;⟨Om (FY.or Lg) (by
 intro He J H x v l u Q hp rx w
 unfold sI at w
 split at w
 ·exact .inl (PM hK He J H x v l u Q hp rx w)
 ·obtain ⟨xs,q,w⟩:=rC w
  obtain ⟨p,vs,rfl,h1,h2⟩:=rx.list hp q
  exact .inr ⟨p,vs,rfl,by rw [hK];exact h1,λp' hp'=>w _ _ _ (Ext.new hp.sub hp' _) (jA hp hp' (h2.cut l u))⟩) h hl hh⟩
theorem mR {d:D}{x:Str}(h:Cf X.K X.mg x d) (hK:X.K=c.K:=by rfl) (hg:Gl X x:=by rfl) (hd:(x == ("__debug__":Str))=false:=by decide):QD X c (.Name x pos) (gC d):=by
 refine ⟨?_⟩
 obtain ⟨u,v,h1,h2,h3⟩:=h
 exact KL h1 h2 (λJ=>hK▸h3 J) hg hd
end
section
variable {X:Cx}{c:C}{e a b tg:Tc}{es:List Tc}{ga gb g:G R}{pos:Pos}{st:Vu}{t u:G O}{tb:G Bool}
theorem o8:jm X c st yc:=⟨λR0 s σ H D I ⟨J,env,sr,w⟩=>w.elim⟩
theorem K6 (h:QD X c a g):QD X c (.UnaryOp .USub a pos) (GW g):=have h:=h.h;⟨gg (Ov NU h) λσ H Q ⟨J,env,sr,w⟩=>by
 refine ⟨J,env,sr,aG (aL w) λr wr v J1 H1 e1 r1=>?_⟩
 split at wr
 ·cases r1
  exact ⟨_,rfl,wr _ J1 H1 e1 (.int _)⟩
 ·exact wr.elim⟩
theorem vH (h:QD X c e g) (hK:X.K=c.K:=by rfl) (he:∀whole,Zb e X.env whole=(do let v <-whole;VB e.pos;holding [v] (truthy v)):=by intro _;rfl):QB X c e (zg g):=have h:=h.h;⟨yi (HU h he) λσ H Q ⟨J,env,sr,w⟩=>by
 refine ⟨J,env,sr,aG (aL w) λr wr v J1 H1 e1 r1=>?_⟩
 rw [hK]
 obtain ⟨k,k1,k2⟩:=Lo (sr.hp.ext e1) r1 wr
 exact ⟨k,k1,k2 J1 H1 e1⟩⟩
theorem Dt (n:Nat){body:List Vu}(ht:QB X c e tb) (hb:p5 X c body u) (hp:aaw (SM X.prog X.w) X.A X.env X.xe:=by first | exact aaF | exact Z4):jm X c (.While e body [] pos) (zh n tb u):=have ht:=ht.h;have hb:=hb.h;⟨jy (HQ hp ht hb) λE σ H ⟨J,env,sr,w⟩=>by
 refine ⟨λm σ H=>∃J' env,aW J J'/\SR c J' H σ env/\dg (mj tb u m env) (oP c J' E) c.T,⟨n,J,env,aW.refl J,sr,w⟩,?_⟩
 rintro m σ H ⟨J',env,s',sr',w'⟩
 cases m with
 | zero=>exact w'.elim
 | succ m=>
  refine ⟨J',env,sr',aG (aL w') λk wk J1 H1 e1=>?_⟩
  cases k with
  | false=>
   rw [if_neg (by decide)] at wk ⊢
   exact wk σ J1 H1 e1.j (sr'.ext e1)
  | true=>
   rw [if_pos rfl] at wk ⊢
   refine ⟨λσ2 H2=>∃J2 env2,aW J1 J2/\SR c J2 H2 σ2 env2/\dg (mj tb u m env2) (oP c J2 E) c.T,?_,?_⟩
   ·rintro σ2 H2 ⟨J2,env2,s2,sr2,w2⟩
    exact ⟨m,UJ m,J2,env2,(s'.trans e1.j).trans s2,sr2,w2⟩
   ·refine ⟨J1,env,sr'.ext e1,aG (aL wk) λo wo=>?_⟩
    cases o with
    | nx env4=>exact λσ4 J4 H4 s4 sr4=>⟨J4,env4,s4,sr4,aG wo λo q=>q.mono (e1.j.trans s4)⟩
    | ct env4=>exact λσ4 J4 H4 s4 sr4=>⟨J4,env4,s4,sr4,aG wo λo q=>q.mono (e1.j.trans s4)⟩
    | bk env4=>exact λσ4 J4 H4 s4 sr4=>wo σ4 J4 H4 (e1.j.trans s4) sr4
    | rt r=>exact λv J4 H4 s4 h4 r4=>wo v J4 H4 (e1.j.trans s4) h4 r4⟩
end
section
variable {X:Cx}{c:C}{e a b tg:Tc}{es:List Tc}{ga gb g:G R}{pos:Pos}
theorem r6 (i:Nat){x:Str}{p1 p2 pos':Pos}(h:QD X c e g) (hN:X.N[i]?=some x:=by rfl) (hv:vW X.env.scope x:=by first | exact Xr rfl | exact Wv (Xr rfl) | exact Wv (Wv rfl)) (hd:(x == ("__debug__":Str))=false:=by decide)
  (hcd:(x == ("__classdict__":Str))=false:=by decide)
  (hbase:ZD (.Name x p1) "extend" X.env (eval (.Name x p1) X.env)=eval (.Name x p1) X.env:=by rfl)
  (hfew:((Vd pos' (Sv [e] X.env)).all (λx=>!x.1) && (acD pos' (aaA [] X.env)).all (λx=>x.1.isSome)
   && decide (([e]:List Tc).length + ([]:List aaB).length + (if ([]:List aaB).isEmpty then 0 else 1) < 30))=true:=by rfl)
  (hline:(p2.endLine == pos'.line)=true:=by rfl) (hst:Sv [e] X.env=(false,eval e X.env)::Sv [] X.env:=by rfl) (hplain:(Vd pos' (Sv [] X.env)).any (·.1)=false:=by rfl)
  (hs:VO (.Call (.Attribute (.Name x p1) "extend" p2) [e] [] pos') none pos.line X.env=pure false:=by rfl) (hK:X.K=c.K:=by rfl):jm X c (.Expr (.Call (.Attribute (.Name x p1) "extend" p2) [e] [] pos') pos) (qh i g):=have h:=h.h;⟨
 jy (vF (Jg Ye PySem.F.slot_list_extend PySem.F.type_list_extend MI (qz hN hv hd hcd) (gT h kq hst) hbase hfew hline hst hplain) hs) λE σ H ⟨J,env,sr,w⟩=>by
  unfold qh at w
  split at w
  ·rename_i xs hi
   obtain ⟨v,h1,a,vs,rfl,h2,h3,h4,h5⟩:=sr.at_ i _ hi
   refine ⟨.ref a,h1,.inl ⟨rfl,vs,dD.of h2⟩,?_⟩
   refine ⟨J,env,sr,aG (aL w) λr wr y J1 H1 e1 r1=>?_⟩
   obtain ⟨ys,q,wr⟩:=lA wr
   split at wr
   ·rename_i hz
    obtain ⟨p,ws,rfl,hq,hs⟩:=nI (sr.hp.ext e1) r1 q
    refine ⟨a,p,vs,ws,rfl,rfl,e1.h _ _ h2,by rw [hK];exact hq,by rw [<-h5.length,<-hs.length];exact hz,?_⟩
    refine wr σ J1 _ e1.j ?_
    exact (sr.ext e1).upd hi h1 (e1.h _ _ h2) (e1.frz a (by rw [h2];intro z;cases z) h3) h4 ((h5.mono e1.j).append hs)
   ·exact wr.elim
  ·exact w.elim⟩
theorem zV (ha:QD X c a ga) (hb:QD X c b gb):QD X c (.Compare a [.Is] [b] pos) (g2 (mJ false) ga gb):=have ha:=ha.h;have hb:=hb.h;⟨qy Fe (by
 intro He He' J H x y u v Q hp rx ry w
 unfold mJ at w
 split at w
 ·rename_i o ho
  refine ⟨o,by rw [kY ry];exact ho,?_⟩
  rw [kY rx]
  exact w _ J H (Ext.refl hp.sub) (.bl _)
 ·exact w.elim) ha hb⟩
theorem FE (ha:QD X c a ga) (hb:QD X c b gb):QB X c (.Compare a [.Is] [b] pos) (aV (g2 (mJ false) ga gb)):=have ha:=ha.h;have hb:=hb.h;⟨jx Fe (by
 intro He He' J H x y u v Q hp rx ry w
 unfold mJ at w
 split at w
 ·rename_i o ho
  refine ⟨o,by rw [kY ry];exact ho,?_⟩
  rw [kY rx]
  exact w _ J H (Ext.refl hp.sub) (.bl _)
 ·exact w.elim) ha hb⟩
theorem FF (ha:QD X c a ga) (hb:QD X c b gb):QB X c (.Compare a [.IsNot] [b] pos) (aV (g2 (mJ true) ga gb)):=have ha:=ha.h;have hb:=hb.h;⟨jx Ff (by
 intro He He' J H x y u v Q hp rx ry w
 unfold mJ at w
 split at w
 ·rename_i o ho
  refine ⟨o,by rw [kY ry];exact ho,?_⟩
  rw [kY rx]
  exact w _ J H (Ext.refl hp.sub) (.bl _)
 ·exact w.elim) ha hb⟩
end
section
variable {X:Cx}{c:C}{e a b d tg:Tc}{es:List Tc}{ga gb g:G R}{pos:Pos}
theorem gc (h:QD X c e g) (hK:X.K=c.K:=by rfl):yF X c tg e (iV g):=have h:=h.h;⟨uv (Ft h) λσ H Q ⟨J,env,sr,w⟩=>by
 refine ⟨J,env,sr,aG (aL w) λr wr v J1 H1 e1 r1=>?_⟩
 rw [hK]
 split at wr
 ·cases r1 with
  | tup h1 h2=>exact ⟨_,rfl,.inr ⟨⟨_,gj e1.sub h1⟩,wr _ J1 H1 e1 (xr (λJ H u=>u) h1 h2)⟩⟩
 ·cases r1 with
  | lst h1 h2=>exact ⟨_,rfl,.inl ⟨⟨_,e1.sub.seq h1⟩,wr _ J1 H1 e1 (qS (.inl h1) h2)⟩⟩
 ·obtain ⟨J2,e2,s2,rd⟩:=freeze e1 r1 rfl
  cases rd with
  | lst h1 h2=>exact ⟨_,rfl,.inl ⟨⟨_,e2.sub.seq h1⟩,wr _ J2 H1 e2 (qS (.inl h1) h2)⟩⟩
 ·obtain ⟨a,vs,rfl,h1,h2⟩:=r1
  exact ⟨_,rfl,.inl ⟨⟨_,(sr.hp.ext e1).ent.seq h1⟩,wr _ J1 H1 e1 (qS (.inr h1) h2)⟩⟩
 ·exact wr.elim⟩
theorem bY (h:QD X c e g) (hK:X.K=c.K:=by rfl):rK X c tg e (dX g):=have h:=h.h;⟨uv (Ft h) λσ H Q ⟨J,env,sr,w⟩=>by
 refine ⟨J,env,sr,aG (aL w) λr wr v J1 H1 e1 r1=>?_⟩
 rw [hK]
 have lst:∀{xs:List D},kI r=.ok xs->(∀It J1' H1',Ext J H J1' H1'->Walk c It xs J1' (λJ' H'=>aW J1' J'/\aW H1' H')->Q It H1')->∃a,v=.ref a/\(((∃xs,dD c.K H1 a xs)/\Q (IC c.K a) H1)\/((∃xs,dQ c.K H1 a xs)/\Q (IE c.K a) H1)):=fun {xs} q wr=>by
  obtain ⟨a,vs,rfl,h1,h2⟩:=RR.list (sr.hp.ext e1) r1 q
  refine ⟨a,rfl,.inl ⟨⟨_,h1⟩,wr _ J1 H1 e1 λi J' H' hp u=>?_⟩⟩
  have h':=u.2.seq h1
  refine ⟨λhl=>⟨vs,h',by rw [<-h2.length];exact hl⟩,λd hd=>?_⟩
  obtain ⟨v,k1,k2⟩:=h2.get hd
  refine ⟨⟨vs,v,h',k1⟩,λx H2 ⟨e,hy⟩=>?_⟩
  subst e
  have:=hy vs h'
  rw [k1] at this
  cases this
  exact ⟨J',Ext.refl hp.sub,k2.mono u.1⟩
 cases r with
 | d y=>
  cases y with
  | tup xs=>
   cases r1 with
   | tup h1 h2=>exact ⟨_,rfl,.inr ⟨⟨_,gj e1.sub h1⟩,wr _ J1 H1 e1 (xr (λJ H u=>u.1) h1 h2)⟩⟩
  | lst xs=>exact lst rfl wr
  | _=>exact wr.elim
 | l m xs=>exact lst rfl wr
 | mo _ _=>exact wr.elim
 | mb _ _=>exact wr.elim
 | mf _ _=>exact wr.elim⟩
end
section
variable {X:Cx}{c:C}{st:Vu}{g:G O}
theorem jV (i:Nat) (h:jm X c st g):jm X c st (gY i g):=have h:=h.h;⟨λR0 s σ H D I ⟨J,env,sr,w⟩=>by
 unfold gY at w
 split at w
 ·rename_i xs hi
  obtain ⟨v,h1,a,vs,rfl,h2,h3,h4,h5⟩:=sr.at_ i _ hi
  obtain ⟨J',s1,sr'⟩:=sr.frz (x:=.inl xs) hi h1 h2 h3 h4 (.lst (.inl (.inl cO)) (h5.mono (dH h3 _)))
  exact h R0 s σ H D I ⟨J',_,sr',aG w λo q=>q.mono s1⟩
 ·rename_i ks vs hi
  obtain ⟨v,h1,a,rfl,⟨us,ws,ep,h2,m1,m2,m3,m4⟩,h3,h4⟩:=sr.at_ i _ hi
  obtain ⟨J',s1,sr'⟩:=sr.frz (x:=.inr (ks,vs)) hi h1 h2 h3 h4 (.dct cO (m1.mono (dH h3 _)) (m2.mono (dH h3 _)) m3 m4)
  exact h R0 s σ H D I ⟨J',_,sr',aG w λo q=>q.mono s1⟩
 ·exact h R0 s σ H D I ⟨J,env,sr,w⟩⟩
end
section
variable {X:Cx}{c:C}
theorem bE {P:Sy}{w:S9}{K:R_}{mg:Str->Option Sa}{base:Ui}{x R5:Str}{st:Vu}{f:Sq}{fd:SY}{N ps:List Str}{k:Nat}{Fm:List S->M R}(F:cZ K x R5 st f fd) (hm:mg x=some (.ref f)) (Sc:bg N ps (aI st))
  (hbi:∀(kV doc pm:Sa) (an:Option Sq) (cdv ct:Sa) (us:List Sa),us.length=ps.length->Zv (Tw x R5 (dR st) (cL st) (aI st) .none kV doc pm an cdv ct) ⟨us,[]⟩=pure (ps.zip us)){gB:G O}
  (hb:∀(cdv:Sa) (A:Td) (outer:List Env) (s:Sd) (H:Hp) (E:XK) (J:Hp) (T:Exc->Prop),eF k (A.deeper (XI R5 (aI st) s.heap.objs.size f cdv))->
   p5 (IT P w K mg base N R5 (aI st) f cdv A outer s H E) ⟨K,H,J,T⟩ (cL st) gB)
  (hF:∀as r,as.length=ps.length->Fm as=.ok r->fin (gB (aH N as))=.ok r):bB P w K mg base (k + 1) ps.length x Fm:=
 LX F hm Sc hbi (λcdv A outer s H E J T hr=>(hb cdv A outer s H E J T hr).h) hF
theorem K2 {P:Sy}{w:S9}{K:R_}{mg:Str->Option Sa}{base:Ui}{x R5:Str}{st:Vu}{f:Sq}{fd:SY}{N ps:List Str}{k:Nat}{Fm:List S->M R}(F:cZ K x R5 st f fd) (Sc:bg N ps (aI st)){gB:G O}
  (hb:∀(cdv:Sa) (A:Td) (outer:List Env) (s:Sd) (H:Hp) (E:XK) (J:Hp) (T:Exc->Prop),eF k (A.deeper (XI R5 (aI st) s.heap.objs.size f cdv))->
   p5 (IT P w K mg base N R5 (aI st) f cdv A outer s H E) ⟨K,H,J,T⟩ (cL st) gB)
  (hF:∀as r,as.length=ps.length->Fm as=.ok r->fin (gB (aH N as))=.ok r):gp P w K mg base pL (k + 1) f fd ps (qM K ps.length Fm):=
 EB F Sc (λcdv A outer s H E J T hr=>(hb cdv A outer s H E J T hr).h) hF
end
end DL
namespace K01
open PySem DL
def DY:List Str:=["thing"]
def wC:G O:=(aP (bu (cT "int" (af 0)) (bC (cT "bool" (af 0)))))
def pU (as:List S):M R:=fin (wC (aH DY as))
def oq:List Str:=["_law_script","_law_k"]
noncomputable def oN:G O:=(aD (aX (aV (g2 (cC λi j=>.bl (decide (i < j))) (af 1) (gN jt (ao (af 0) ay)))) (aP (g2 cR (g2 br (af 0) (af 1)) (g2 m_ (gC (.int 2)) (gC (.int 64))))) bF)
 (aP (gC (.int 0))))
def dh (as:List S):M R:=fin (oN (aH oq as))
noncomputable def AG:List Str:=["_law_cell_here","_law_many","_law_number","_law_base","_law_size","_law_words","_law_first","_law_signs","_law_at","_law_found","_law_k","_law_sign"]
noncomputable def ng:G O:=(aD (aN 2 (g2 cR (g2 dF (af 0) (gC (.int 7129))) (gC (.int 1000033))))
 (aD (aN 3 (g2 br (gC (.str "bcdfg")) (g2 cR (af 2) (gC (.int 5)))))
 (aD (aN 4 (g2 cF (gC (.int 2)) (g2 cR (g2 fM (af 2) (gC (.int 5))) (gC (.int 7)))))
 (aD (aX (aV (g2 (dO false) (g2 cR (g2 fM (af 2) (gC (.int 35))) (gC (.int 4))) (gC (.int 1)))) (aP (bA 1 [3] (bR (ao (af 1) ay)) (az 0) cI (g2 dF (af 1) (g2 cF (gC (.int 2)) (af 0))))) bF)
 (aD (aX (aV (g2 (dO false) (g2 cR (g2 fM (af 2) (gC (.int 35))) (gC (.int 4))) (gC (.int 2)))) (aD (aN 5 (f_ (au (gC (.str "and")) (au (gC (.str "or")) (au (gC (.str "not")) (au (gC (.str "some")) (au (gC (.str "every")) (au (gC (.str "least")) (au (gC (.str "true")) (au (gC (.str "false")) aJ))))))))))
 (aD (aN 6 (g2 cR (g2 fM (af 2) (gC (.int 140))) (gC (.int 8))))
 (aD (aN 7 (gC (.str "abcdefghijklmnopqrstuvwxyz")))
 (aP (gN kW (ao (bA 1 [5,6,7,2] (bR (ao (af 1) ay)) (az 0) cI (g2 cF (g2 br (g2 cF (af 1) (af 1)) (g2 cF (af 2) (af 0))) (g2 br (af 3) (g2 cR (g2 fM (af 4) (gC (.int 1120))) (gC (.int 26)))))) ay)))))) bF)
 (aD (aN 8 (g2 cR (g2 fM (af 2) (gC (.int 105))) (af 4)))
 (aD (aN 9 (f_ aJ))
 (aD (c_ (bR (ao (af 1) ay)) (az 10) (aD (aN 11 (g2 br (gC (.str "abcdefghijklmnopqrstuvwxyz")) (g2 cR (g2 cF (g2 fM (af 2) (gC (.int 840))) (g2 dF (gC (.int 5)) (af 10))) (gC (.int 26)))))
 (e_ 9 (g2 cF (g2 cF (g2 dF (af 3) (af 8)) (af 11)) (g2 dF (af 3) (g2 nc (g2 nc (af 4) (gC (.int 1))) (af 8)))))))
 (aP (gN kW (ao (af 9) ay)))))))))))
def fX (as:List S):M R:=fin (ng (aH AG as))
def Ci:List Str:=["_law_bits","_law_many","_law_found","_law_point_here"]
noncomputable def oO:G O:=(aD (aN 2 (f_ aJ))
 (aD (c_ (bR (ao (af 1) ay)) (az 3) (aD (aX (aV (g2 (dO false) (g2 cR (af 0) (gC (.int 2))) (gC (.int 1)))) (e_ 2 (af 3)) bF)
 (aN 0 (g2 fM (af 0) (gC (.int 2))))))
 (aP (gN dG (ao (af 2) ay)))))
def ir (as:List S):M R:=fin (oO (aH Ci as))
def AH:List Str:=["_law_bits","_law_many","_law_found","_law_one","_law_other"]
noncomputable def nh:G O:=(aD (aN 2 (f_ aJ))
 (aD (c_ (bR (ao (af 1) ay)) (az 3) (c_ (bR (ao (af 1) ay)) (az 4) (aD (aX (aV (g2 (dO false) (g2 cR (af 0) (gC (.int 2))) (gC (.int 1)))) (e_ 2 (bL (au (af 3) (au (af 4) aJ)))) bF)
 (aN 0 (g2 fM (af 0) (gC (.int 2)))))))
 (aP (gN dG (ao (af 2) ay)))))
def gO (as:List S):M R:=fin (nh (aH AH as))
def yw:List Str:=["_law_cell_here","_law_names_here","_law_number","_law_first"]
noncomputable def lK:G O:=(aD (aN 1 (gN (aF 2 fX) (ao (af 0) (ao (gC (.int 6)) ay))))
 (aD (aN 2 (g2 cR (g2 dF (af 0) (gC (.int 523))) (gC (.int 10007))))
 (aD (aN 3 (g2 cR (g2 fM (af 2) (gC (.int 16))) (gC (.int 3))))
 (aP (bL (au (gN dG (ao (wA sI (af 1) EF (wm (g2 cR (af 2) (gC (.int 4))))) ay)) (au (gN dG (ao (wA sI (af 1) (wm (af 3)) (wm (g2 cF (af 3) (g2 cR (g2 fM (af 2) (gC (.int 4))) (gC (.int 4)))))) ay)) aJ)))))))
def g9 (as:List S):M R:=fin (lK (aH yw as))
def AK:List Str:=["_law_script","_law_at","_law_many","_law_tongue_here","_law_marks","_law_k","_law_arrows","_law_bits"]
noncomputable def ni:G O:=(aD (aN 4 (f_ aJ))
 (aD (c_ (bR (ao (gN jt (ao (g2 br (af 3) (gC (.int 0))) ay)) ay)) (az 5) (e_ 4 (bL (au (g2 br (g2 br (af 3) (gC (.int 0))) (af 5)) (au (gN (aF 2 ir) (ao (g2 cR (g2 dF (gN (aF 2 dh) (ao (af 0) (ao (g2 cF (af 1) (af 5)) ay))) (gC (.int 167))) (g2 m_ (gC (.int 2)) (gC (.int 8)))) (ao (af 2) ay))) aJ)))))
 (aD (aN 6 (f_ aJ))
 (aD (c_ (bR (ao (gN jt (ao (g2 br (af 3) (gC (.int 1))) ay)) ay)) (az 5) (aD (aN 7 (g2 cR (g2 dF (gN (aF 2 dh) (ao (af 0) (ao (g2 cF (g2 cF (af 1) (gC (.int 3))) (af 5)) ay))) (gC (.int 11400714819323198485))) (g2 m_ (gC (.int 2)) (gC (.int 64)))))
 (e_ 6 (bL (au (g2 br (g2 br (af 3) (gC (.int 1))) (af 5)) (au (gN (aF 2 gO) (ao (af 7) (ao (af 2) ay))) aJ))))))
 (aP (bL (au (af 2) (au (gN dG (ao (af 4) ay)) (au (gN dG (ao (af 6) ay)) aJ)))))))))
def iL (as:List S):M R:=fin (ni (aH AK as))
theorem ic {n:Nat}(h:n<=1000):n<=sizeLine:=S5 h (by decide)
def ME (k:Nat):Bool:=!(abH "abcdefghijklmnopqrstuvwxyz" ⟨#[k]⟩ 0 (ZY "abcdefghijklmnopqrstuvwxyz") 1).isEmpty
def words:List D:=[.str "and",.str "or",.str "not",.str "some",.str "every",.str "least",.str "true",.str "false"]
def E3 (x:Str):Bool:=decide (2<=x.length) && (decide (x.length<=8) && (!inD (.str x) words && x.cps.toList.all ME))
theorem Et {ge:G R}{f:D->D}(tl:Ev):∀(ds:List D) (x:Option S),(∀d∈ds,ge (some (.d d)::tl)=.ok (.d (f d)))->dB (az 0) cI ge ds (x::tl)=.ok (ds.map f)
 | [],_,_=>rfl
 | d::r,x,h=>by
  have ih:=Et tl r (some (.d d)) λe he=>h e (Sg _ he)
  unfold dB
  simp only [az,List.set_cons_zero,aM,cI,if_true,h d Si,toD]
  rw [ih]
  rfl
theorem u5 (f:D->Bool):∀(ds:List D),iR (ds.map λd=>.bl (f d))=some (ds.map f)
 | []=>rfl
 | d::r=>by
  simp only [Sx,iR,u5 f r]
  rfl
theorem all_map (f:D->Bool) (ds:List D):kF [.l .fresh (ds.map λd=>.bl (f d))]=.ok (.d (.bl (ds.all f))):=by
 unfold kF
 simp only [kI,aM,u5]
 congr 3
 simp [YJ]
theorem uY {α:Type}{xs:List α}{k:Nat}{x:α}(h:xs[k]?=some x):L2.mF xs (k:Int)=some x:=by
 have hk:k < xs.length:=(SW.mp h).1
 unfold L2.mF L2.zu
 rw [if_pos (by omega),if_pos (by omega)]
 simpa using h
theorem jP {xs:List D}{k:Nat}{x:D}(h:xs[k]?=some x):br (.d (.tup xs)) (.d (.int k))=.ok (.d x):=by
 unfold br
 simp only [jH,aM,uY h]
theorem CL {m:Md}{xs:List D}{k:Nat}{x:D}(h:xs[k]?=some x):br (.l m xs) (.d (.int k))=.ok (.d x):=by
 unfold br
 simp only [jH,aM,uY h]
theorem Bv {z:Str}{k:Nat}{c:Nat}(hz:z.length<=1000) (h:z.cps.toList[k]?=some c):br (.d (.str z)) (.d (.int k))=.ok (.d (.str ⟨#[c]⟩)):=by
 unfold br
 simp only [ic hz,if_true,uY h]
theorem a_ (xs:List D):jt [.d (.tup xs)]=.ok (.d (.int xs.length)):=rfl
theorem eq_int (neg:Bool) (i j:Int):dO neg (.d (.int i)) (.d (.int j))=.ok (.d (.bl (if neg then !(i == j) else i == j))):=rfl
theorem bU (a:D) (r:List D):br (.d (.tup (a::r))) (.d (.int 0))=.ok (.d a):=jP (k:=0) rfl
theorem cU (a b:D) (r:List D):br (.d (.tup (a::b::r))) (.d (.int 1))=.ok (.d b):=jP (k:=1) rfl
theorem cW (a b c:D) (r:List D):br (.d (.tup (a::b::c::r))) (.d (.int 2))=.ok (.d c):=jP (k:=2) rfl
theorem PF (n:Nat) (h:n<=1000):below 4611686018427387904 (n:Int)=true:=eE.mpr ⟨by omega,by omega⟩
def Jk (j:Int):M (List D):=if below 4611686018427387904 j then .ok (eB 0 j.toNat) else .bad
theorem Nv (j:Int) (h:below 4611686018427387904 j=true):Jk j=.ok (eB 0 j.toNat):=by unfold Jk;exact if_pos h
theorem Nu {gs:G (List R)}{env:Ev}{j:Int}(hg:gs env=.ok [.d (.int j)]):bR gs env=Jk j:=by
 unfold bR Jk
 rw [hg]
 rfl
theorem sW {gs:G (List R)}{env:Ev}{n:Nat}(hg:gs env=.ok [.d (.int (n:Int))]) (h:n<=1000):bR gs env=.ok (eB 0 n):=by
 rw [Nu hg,Nv _ (PF n h)]
 exact congrArg (λk=>M.ok (eB 0 k)) (UL n)
theorem cM {t u:G O}{env e:Ev}(h:t env=.ok (.nx e)):aD t u env=u e:=by
 unfold aD
 rw [h]
 rfl
theorem FW {t u:G O}{env:Ev}{r:R}(h:t env=.ok (.rt r)):aD t u env=.ok (.rt r):=by
 unfold aD
 rw [h]
 rfl
theorem lJ {g:G (List D)}{t:GT}{u:G O}{env:Ev}{ds:List D}(h:g env=.ok ds):c_ g t u env=eY t u ds env:=by
 unfold c_
 rw [h]
 rfl
theorem iP (i j:Int):cF (.d (.int i)) (.d (.int j))=.ok (.d (.int (i + j))):=rfl
theorem Jr (i j:Int):nc (.d (.int i)) (.d (.int j))=.ok (.d (.int (i - j))):=rfl
theorem oJ {C:Int->Int->Bool}{f:Int->Int->D}{i j:Int}(h:C i j=true):fI C f (.d (.int i)) (.d (.int j))=.ok (.d (f i j)):=by
 show (if C i j=true then M.ok (R.d (f i j)) else M.bad)=_
 rw [if_pos h]
theorem n9 (i j:Int) (h1:-(2 ^ 64) < j) (h2:j < 2 ^ 64):dF (.d (.int i)) (.d (.int j))=.ok (.d (.int (i * j))):=oJ (C:=sP) (f:=λi j=>.int (i * j)) (by unfold sP;rw [U6];exact Wv (eE.mpr ⟨h1,h2⟩))
theorem Ax (i j:Int) (h1:-(2 ^ 64) < i) (h2:i < 2 ^ 64):dF (.d (.int i)) (.d (.int j))=.ok (.d (.int (i * j))):=oJ (C:=sP) (f:=λi j=>.int (i * j)) (by unfold sP;rw [U6];exact Xr (eE.mpr ⟨h1,h2⟩))
theorem fK (i j:Int) (h1:0 < j) (h2:j < 1073741824):fM (.d (.int i)) (.d (.int j))=.ok (.d (.int (i / j))):=oJ (by
 unfold CV
 rw [Sk]
 exact ⟨decide_eq_true h1,eE.mpr ⟨by omega,h2⟩⟩)
theorem cV (i j:Int) (h1:0 < j):cR (.d (.int i)) (.d (.int j))=.ok (.d (.int (i % j))):=oJ (decide_eq_true h1)
theorem BY:m_ (.d (.int 2)) (.d (.int 64))=.ok (.d (.int 18446744073709551616)):=oJ (by decide)
theorem NK:m_ (.d (.int 2)) (.d (.int 8))=.ok (.d (.int 256)):=oJ (by decide)
theorem DO (x y:Str) (h:x.length + y.length<=1000):cF (.d (.str x)) (.d (.str y))=.ok (.d (.str (x++y))):=by
 show (if x.length + y.length<=sizeLine then M.ok (R.d (D.str (x++y))) else M.bad)=_
 rw [if_pos (ic h)]
theorem DN (x:Str) (n:Int) (h0:0<=n) (h:n<=1000) (hx:x.length<=1000):dF (.d (.str x)) (.d (.int n))=.ok (.d (.str (gf x n.toNat))):=by
 show (if 0<=n/\n<=1000/\x.length<=1000 then M.ok (R.d (D.str (gf x n.toNat))) else M.bad)=_
 rw [if_pos ⟨h0,h,hx⟩]
def LO:Str:="abcdefghijklmnopqrstuvwxyz"
theorem LQ:∀k:Fin 26,LO.cps.toList[k.val]?=some (97 + k.val):=by decide +kernel
theorem JB:LO.length<=1000:=by decide +kernel
theorem EV (i:Int) (h0:0<=i) (h:i < 26):br (.d (.str "abcdefghijklmnopqrstuvwxyz")) (.d (.int i))=.ok (.d (.str ⟨#[97 + i.toNat]⟩)):=by
 have e:i=((i.toNat:Nat):Int):=by omega
 have:=Bv (z:=LO) (k:=i.toNat) JB (LQ ⟨i.toNat,by omega⟩)
 rw [e]
 exact this
def bases:List Nat:=[98,99,100,102,103]
theorem JG:∀k:Fin 5,("bcdfg":Str).cps.toList[k.val]?=some (bases.getD k.val 0):=by decide +kernel
theorem GB:("bcdfg":Str).length<=1000:=by decide +kernel
theorem Kc (i:Int) (h0:0<=i) (h:i < 5):∃b∈bases,br (.d (.str "bcdfg")) (.d (.int i))=.ok (.d (.str ⟨#[b]⟩)):=by
 have e:i=((i.toNat:Nat):Int):=by omega
 have hb:i.toNat < bases.length:=by show _ < 5;omega
 refine ⟨bases.getD i.toNat 0,?_,?_⟩
 ·rw [SS,Sn hb]
  exact Tt _
 ·have:=Bv (z:="bcdfg") (k:=i.toNat) GB (JG ⟨i.toNat,by omega⟩)
  rw [e]
  exact this
theorem qX (x y:Str):(x++y).cps.toList=x.cps.toList++y.cps.toList:=by
 show (x.cps++y.cps).toList=_
 simp
theorem ua (c:Array Nat):∀(k:Nat) (acc:Array Nat),((Th k c).foldl (·++·) acc).toList=acc.toList++(Th k c.toList).flatten
 | 0,acc=>by simp
 | k + 1,acc=>by
  rw [Uu,Xd,ua c k]
  simp [Uu]
theorem jM (b n:Nat):(gf ⟨#[b]⟩ n).cps.toList=Th n b:=by
 unfold gf
 simp only
 rw [ua]
 induction n with
 | zero=>rfl
 | succ n ih=>simpa [Uu] using ih
theorem nQ (x:Str):x.length=x.cps.toList.length:=by
 show x.cps.size=_
 simp
theorem vP {x y:Str}(h:x.cps.toList=y.cps.toList):x=y:=by
 cases x with
 | mk a=>
  cases y with
  | mk b=>
   simp only at h
   congr 1
   exact Array.toList_inj.mp h
theorem jT {t:GT}{u:G O}(I:Nat->Ev->Prop) (n:Nat)
  (h:∀k,k < n->∀env,I k env->∃e1 e2,t (.int k) env=.ok e1/\u e1=.ok (.nx e2)/\I (k + 1) e2) (env:Ev) (h0:I 0 env):
  ∃e,eY t u (eB 0 n) env=.ok (.nx e)/\I n e:=by
 have key:∀(m i:Nat),i + m=n->∀env,I i env->∃e,eY t u ((acs i m).map λ(k:Nat)=>D.int (0 + (k:Int))) env=.ok (.nx e)/\I n e:=by
  intro m
  induction m with
  | zero=>exact λi hi env hI=>⟨env,rfl,(by omega:i=n)▸hI⟩
  | succ m ih=>
   intro i hi env hI
   obtain ⟨e1,e2,h1,h2,h3⟩:=h i (by omega) env hI
   obtain ⟨e,h4,h5⟩:=ih (i + 1) (by omega) e2 h3
   refine ⟨e,?_,h5⟩
   rw [aap,Sx]
   unfold eY
   rw [YK,h1,aM,h2,aM]
   exact h4
 obtain ⟨e,h1,h2⟩:=key n 0 (by omega) env h0
 refine ⟨e,?_,h2⟩
 unfold eB
 rw [Y8]
 exact h1
noncomputable def eK:List (List Nat):=[[97,110,100],[111,114],[110,111,116],[115,111,109,101],[101,118,101,114,121],[108,101,97,115,116],[116,114,117,101],[102,97,108,115,101]]
def ff:List Str:=["and","or","not","some","every","least","true","false"]
theorem xu:ff.map (λw=>w.cps.toList)=eK:=by decide +kernel
theorem xw:words=ff.map .str:=rfl
theorem EO (x:Str):inD (.str x) words=ff.any λw=>w == x:=by
 rw [xw]
 unfold inD
 rw [Wj]
 congr 1
theorem Hi:∀k:Fin 26,ME (97 + k.val)=true:=by decide +kernel
theorem zH {x:Str}(h2:2<=x.cps.toList.length) (h8:x.cps.toList.length<=8) (hw:x.cps.toList∉eK) (ha:∀k∈x.cps.toList,97<=k/\k < 123):E3 x=true:=by
 unfold E3
 rw [nQ,decide_eq_true h2,decide_eq_true h8,Vi,Vi,Sk]
 refine ⟨?_,SK.mpr λk hk=>?_⟩
 ·rw [Bool.not_eq_true',XM]
  intro h
  rw [EO,UK] at h
  obtain ⟨w,h1,h3⟩:=h
  have e:w=x:=eq_of_beq h3
  subst e
  refine hw ?_
  rw [<-xu]
  exact Sf.mpr ⟨w,h1,rfl⟩
 ·obtain ⟨h1,h3⟩:=ha k hk
  have:=Hi ⟨k - 97,by omega⟩
  rw [show 97 + (k - 97)=k by omega] at this
  exact this
theorem GV:∀b∈bases,∀w∈eK,¬(w.filter (· != b)).length<=1:=by decide
theorem zL {b:Nat}(hb:b∈bases){l:List Nat}(h:(l.filter (· != b)).length<=1):l∉eK:=λz=>GV b hb l z h
theorem E1:∀w∈eK,∀w'∈eK,w'.dropLast≠w:=by decide
theorem sD:∀b∈bases,97<=b/\b < 123:=by decide
theorem strs_map:∀(ss:List Str),strsOf (ss.map .str)=some ss
 | []=>rfl
 | s::r=>by
  simp only [Sx,strsOf,strs_map r]
  rfl
theorem sorted_strs (m:Md) (ss:List Str) (h:ss.length < 64):kW [.l m (ss.map .str)]=.ok (.l .fresh ((iC ss).map .str)):=by
 unfold kW
 simp only [kI,aM,strs_map,h,if_true]
theorem F_ {ss:List Str}(h:ss.Nodup):(iC ss).Pairwise λa b=>a.cps.toList < b.cps.toList:=by
 have h1:=qK ss
 have h2:(iC ss).Nodup:=(kR ss).symm.nodup h
 have:=h1.and h2
 refine this.imp fun {a b} ⟨x,y⟩=>?_
 unfold jI at x
 have x:=of_decide_eq_true x
 rcases List.le_iff_lt_or_eq.mp x with z | z
 ·exact z
 ·exact absurd (vP z) y
theorem yW {cap:List Nat}{gi:G (List D)}{ge:G R}{env tl:Ev}{m:Nat}(hm:m<=1000) (f:Nat->D) (hi:gi env=.ok (eB 0 m)) (hc:cE 1 cap env=none::tl) (h:∀k,k < m->ge (some (.d (.int (k:Nat)))::tl)=.ok (.d (f k))):
  bA 1 cap gi (az 0) cI ge env=.ok (.l .fresh ((Se m).map f)):=by
 have e:=Et (ge:=ge) (f:=λd=>match d with | .int i=>f i.toNat | _=>.non) tl (eB 0 m) none λd hd=>by
  unfold eB at hd
  rw [Sf] at hd
  obtain ⟨k,hk,rfl⟩:=hd
  rw [YK]
  exact h k (Sj.mp hk)
 have hl:(eB 0 m).length<=sizeLine:=by
  unfold eB
  rw [Sh,Uj]
  exact ic hm
 unfold bA
 rw [hi,aM,if_pos hl,hc,e,aM]
 unfold eB
 rw [S6]
 congr 3
 funext k
 show f ((0:Int) + (k:Int)).toNat=f k
 rw [YK,UL]
theorem FO (b:Nat):∀(i j:Nat),i < j->Th i b < Th j b
 | 0,j + 1,_=>by
  rw [Uu]
  exact List.nil_lt_cons _ _
 | i + 1,j + 1,h=>by
  rw [Uu,Uu,List.cons_lt_cons_iff]
  exact .inr ⟨rfl,FO b i j (by omega)⟩
def vD (b k:Nat):Str:=gf ⟨#[b]⟩ (2 + k)
def oZ (f s k:Nat):Str:=(ff++ff).getD (f + k) ""++⟨#[97 + s]⟩
def nj (b a r:Nat) (q:Int) (k:Nat):Str:=gf ⟨#[b]⟩ a++⟨#[97 + ((q + 5 * (k:Int)) % 26).toNat]⟩++gf ⟨#[b]⟩ r
def Good (m:Nat) (ss:List Str):Prop:=ss.length=m/\(∀s∈ss,E3 s=true)/\ss.Pairwise λa b=>a.cps.toList < b.cps.toList
theorem Oa {b m:Nat}(hb:b∈bases) (hm:m<=6):Good m ((Se m).map (vD b)):=by
 refine ⟨by simp,λs hs=>?_,?_⟩
 ·obtain ⟨k,hk,rfl⟩:=Sf.mp hs
  have hk:=Sj.mp hk
  have e:(vD b k).cps.toList=Th (2 + k) b:=jM b (2 + k)
  refine zH (by rw [e,TR];omega) (by rw [e,TR];omega) (zL hb ?_) λx hx=>?_
  ·rw [e];simp
  ·rw [e] at hx;rw [Wk hx];exact sD b hb
 ·rw [S0]
  refine T9.imp fun {i j} h=>?_
  show (gf _ _).cps.toList < (gf _ _).cps.toList
  rw [jM,jM]
  exact FO b _ _ (by omega)
theorem rW {m:Nat}{ss:List Str}(hl:ss.length=m) (hn:∀s∈ss,E3 s=true) (hd:ss.Nodup):Good m (iC ss):=
 ⟨by rw [(kR ss).length_eq,hl],λs hs=>hn s ((kR ss).mem_iff.mp hs),F_ hd⟩
theorem zx (f s k:Nat) (h:f + k < 16):(oZ f s k).cps.toList=(eK++eK).getD (f + k) []++[97 + s]:=by
 show (_++_:Str).cps.toList=_
 rw [qX]
 congr 1
 rw [<-xu,<-SV,SS,SS,SJ]
 have hl:f + k < (ff++ff).length:=h
 rw [Sn hl]
 rfl
theorem Qq:∀j:Fin 16,(eK++eK).getD j.val []∈eK:=by decide
theorem Ls:∀w∈eK,2<=w.length/\w.length<=5/\∀k∈w,97<=k/\k < 123:=by decide
theorem NW:∀(f:Fin 8) (j k:Fin 6),j.val≠k.val->(eK++eK).getD (f.val + j.val) []≠(eK++eK).getD (f.val + k.val) []:=by decide
theorem good2 {f s m:Nat}(hf:f < 8) (hs:s < 26) (hm:m<=6):Good m (iC ((Se m).map (oZ f s))):=by
 refine rW (by simp) (λx hx=>?_) ?_
 ·obtain ⟨k,hk,rfl⟩:=Sf.mp hx
  have hk:=Sj.mp hk
  have e:=zx f s k (by omega)
  have hw:=Qq ⟨f + k,by omega⟩
  obtain ⟨h1,h2,h3⟩:=Ls _ hw
  simp only at h1 h2 h3 hw
  generalize (eK++eK).getD (f + k) []=w at e hw h1 h2 h3
  refine zH (by rw [e,SO];simp;omega) (by rw [e,SO];simp;omega) (λz=>?_) λy hy=>?_
  ·rw [e] at z
   exact E1 w hw _ z (by simp)
  ·rw [e,SN] at hy
   rcases hy with hy | hy
   ·exact h3 y hy
   ·rw [So] at hy;omega
 ·rw [Xp,S0]
  refine (T9 (n:=m)).imp_of_mem fun {i j} hi hj h z=>?_
  have hi:=Sj.mp hi
  have hj:=Sj.mp hj
  have z':(oZ f s i).cps.toList=(oZ f s j).cps.toList:=by rw [z]
  rw [zx f s i (by omega),zx f s j (by omega)] at z'
  exact NW ⟨f,hf⟩ ⟨i,by omega⟩ ⟨j,by omega⟩ (show i≠j by omega) (XR z')
theorem zy (b a r:Nat) (q:Int) (k:Nat):(nj b a r q k).cps.toList=Th a b++[97 + ((q + 5 * (k:Int)) % 26).toNat]++Th r b:=by
 show (_++_++_:Str).cps.toList=_
 rw [qX,qX,jM,jM]
theorem good3 {b a r m:Nat}{q:Int}(hb:b∈bases) (h2:1<=a + r) (h8:a + r<=7) (hm:m<=6):Good m (iC ((Se m).map (nj b a r q))):=by
 refine rW (by simp) (λx hx=>?_) ?_
 ·obtain ⟨k,hk,rfl⟩:=Sf.mp hx
  have e:=zy b a r q k
  refine zH (by rw [e];simp;omega) (by rw [e];simp;omega) (zL hb ?_) λy hy=>?_
  ·rw [e,Ww,Ww]
   have:∀n,(Th n b).filter (· != b)=[]:=λn=>by simp
   rw [this,this,List.nil_append,UR]
   exact Tf _ _
  ·rw [e,SN,SN,So] at hy
   rcases hy with (hy | hy) | hy
   ·rw [Wk hy];exact sD b hb
   ·have:0<=(q + 5 * (k:Int)) % 26:=U9 _ (by decide)
    have:(q + 5 * (k:Int)) % 26 < 26:=Vj _ (by decide)
    omega
   ·rw [Wk hy];exact sD b hb
 ·rw [Xp,S0]
  refine (T9 (n:=m)).imp_of_mem fun {i j} hi hj h z=>?_
  have hi:=Sj.mp hi
  have hj:=Sj.mp hj
  have z':(nj b a r q i).cps.toList=(nj b a r q j).cps.toList:=by rw [z]
  rw [zy,zy] at z'
  have z2:=XR z'
  have z3:=List.append_cancel_left z2
  have z4:97 + ((q + 5 * (i:Int)) % 26).toNat=97 + ((q + 5 * (j:Int)) % 26).toNat:=by simpa using z3
  have g1:0<=(q + 5 * (i:Int)) % 26:=U9 _ (by decide)
  have g2:0<=(q + 5 * (j:Int)) % 26:=U9 _ (by decide)
  have z5:(q + 5 * (i:Int)) % 26=(q + 5 * (j:Int)) % 26:=by omega
  omega
theorem Ja (m:Md) (xs:List D):jt [.l m xs]=.ok (.d (.int xs.length)):=rfl
def fB (ns:List Int) (k:Nat):Int:=(ns.map λx=>x % 18446744073709551616).getD k 0
theorem GI (ns:List Int) (k:Nat):0<=fB ns k:=by
 unfold fB
 rw [SS,SJ]
 cases ns[k]? with
 | none=>exact Int.le_refl _
 | some x=>exact U9 _ (by decide)
theorem JM (ns:List Int) (k:Nat):fB ns k < 2 ^ 64:=by
 unfold fB
 rw [SS,SJ]
 cases ns[k]? with
 | none=>decide
 | some x=>exact Vj _ (by decide)
theorem pS (ns:List Int) (k:Nat):dh [.bor (ns.map D.int),.d (.int k)]=.ok (.d (.int (fB ns k))):=by
 unfold dh oN
 by_cases h:k < ns.length
 ·have h':(k:Int) < ns.length:=by omega
  have e:(ns.map D.int)[k]?=some (.int ns[k]):=by rw [SJ,Sn h];rfl
  have e2:fB ns k=ns[k] % 18446744073709551616:=by
   unfold fB
   rw [SS,SJ,Sn h]
   rfl
  simp [aD,aX,bV,bK,bD,aV,cT,af,aH,S.rd,R.dat,cH,bT,g2,gN,ao,ay,gC,bF,aP,bu,bC,aF,bH,cu,rF,fin,cC,a_,eq_int,au,aJ,toD,toS,aN,bU,cU,cW,oq,Ja,h',CL e,BY,cV,e2]
 ·have h':¬(k:Int) < ns.length:=by omega
  have e2:fB ns k=0:=by
   unfold fB
   rw [SS,SJ,List.getElem?_eq_none (by omega)]
   rfl
  simp [aD,aX,bV,bK,bD,aV,cT,af,aH,S.rd,R.dat,cH,bT,g2,gN,ao,ay,gC,bF,aP,bu,bC,aF,bH,cu,rF,fin,cC,a_,eq_int,au,aJ,toD,toS,aN,bU,cU,cW,oq,Ja,h',e2]
abbrev eN (c m x2:Int) (x3:S) (x4:Int) (x5 x6 x7 x8 x9 x10 x11:Option S):Ev:=[some (.d (.int c)),some (.d (.int m)),some (.d (.int x2)),some x3,some (.d (.int x4)),x5,x6,x7,x8,x9,x10,x11]
theorem qD {m:Nat}{env:Ev}{gs:G (List R)}(h:m<=1000) (hg:gs env=.ok [.d (.int (m:Int))]):bR gs env=.ok (eB 0 m):=sW hg h
theorem Lv:f_ (au (gC (.str "and")) (au (gC (.str "or")) (au (gC (.str "not")) (au (gC (.str "some")) (au (gC (.str "every")) (au (gC (.str "least")) (au (gC (.str "true")) (au (gC (.str "false")) aJ))))))))=λ_=>.ok (.l .fresh words):=by
 funext env
 rfl
theorem JK (xs ys:List D) (h:xs.length + ys.length<=1000):cF (.l .own xs) (.l .own ys)=.ok (.l .fresh (xs++ys)):=by
 show (if xs.length + ys.length<=sizeLine then M.ok (R.l Md.fresh (xs++ys)) else M.bad)=_
 rw [if_pos (ic h)]
theorem OT (j:Nat) (h:j < 16):(words++words)[j]?=some (.str ((ff++ff).getD j "")):=by
 rw [xw,<-SV,SJ,SS]
 have hl:j < (ff++ff).length:=h
 rw [Sn hl]
 rfl
theorem NY:∀j:Fin 16,((ff++ff).getD j.val "").length<=5:=by decide +kernel
theorem ki {b:G Bool}{t u:G O}{env:Ev}(h:b env=.ok false):aX b t u env=u env:=by
 unfold aX
 rw [h]
 rfl
theorem nP {b:G Bool}{t u:G O}{env:Ev}(h:b env=.ok true):aX b t u env=t env:=by
 unfold aX
 rw [h]
 rfl
theorem Dh {g:G R}{f:List R->M R}{env:Ev}{r r':R}(h:g env=.ok r) (hf:f [r]=.ok r'):gN f (ao g ay) env=.ok r':=by
 unfold gN ao
 rw [h]
 exact hf
theorem uA {g:G R}{env:Ev}{r r':R}(h:g env=.ok r) (h2:rF r=.ok r'):aP g env=.ok (.rt r'):=by
 unfold aP
 rw [h,aM,h2]
 rfl
theorem Jt (c:Int) (m:Nat) (hm:m<=6):∃ss:List Str,fX [.d (.int c),.d (.int m)]=.ok (.l .fresh (ss.map .str))/\Good m ss:=by
 unfold fX ng
 rw [Lv]
 show ∃ss:List Str,fin (aD _ _ [some (.d (.int c)),some (.d (.int m)),none,none,none,none,none,none,none,none,none,none])=_/\_
 obtain ⟨n,hn⟩:∃n,c * 7129 % 1000033=n:=⟨_,rfl⟩
 have n0:0<=n:=hn▸U9 _ (by decide)
 have n1:n < 1000033:=hn▸Vj _ (by decide)
 obtain ⟨b,hb,eb⟩:=Kc (n % 5) (by omega) (by omega)
 rw [cM (e:=[some (.d (.int c)),some (.d (.int m)),some (.d (.int n)),none,none,none,none,none,none,none,none,none]) (by simp [aD,aX,bV,bK,bD,aV,cT,af,aH,S.rd,R.dat,cH,bT,g2,gN,ao,ay,gC,bF,aP,bu,bC,aF,bH,cu,rF,fin,cC,a_,eq_int,au,aJ,toD,toS,aN,bU,cU,cW,n9,cV,hn])]
 rw [cM (e:=[some (.d (.int c)),some (.d (.int m)),some (.d (.int n)),some (.d (.str ⟨#[b]⟩)),none,none,none,none,none,none,none,none]) (by simp [aD,aX,bV,bK,bD,aV,cT,af,aH,S.rd,R.dat,cH,bT,g2,gN,ao,ay,gC,bF,aP,bu,bC,aF,bH,cu,rF,fin,cC,a_,eq_int,au,aJ,toD,toS,aN,bU,cU,cW,cV,eb])]
 rw [cM (e:=eN c m n (.d (.str ⟨#[b]⟩)) (2 + n / 5 % 7) none none none none none none none) (by simp [aD,aX,bV,bK,bD,aV,cT,af,aH,S.rd,R.dat,cH,bT,g2,gN,ao,ay,gC,bF,aP,bu,bC,aF,bH,cu,rF,fin,cC,a_,eq_int,au,aJ,toD,toS,aN,bU,cU,cW,cV,fK,iP])]
 have lb:(⟨#[b]⟩:Str).length<=1000:=by show 1<=1000;decide
 by_cases c1:n / 35 % 4=1
 ·refine ⟨(Se m).map (vD b),?_,Oa hb hm⟩
  have cr:=yW (cap:=[3]) (gi:=bR (ao (af 1) ay)) (ge:=g2 dF (af 1) (g2 cF (gC (.int 2)) (af 0))) (env:=eN c m n (.d (.str ⟨#[b]⟩)) (2 + n / 5 % 7) none none none none none none none) (tl:=[some (.d (.str ⟨#[b]⟩))]) (m:=m) (by omega) (λk=>.str (vD b k)) (qD (by omega) (by simp [aD,aX,bV,bK,bD,aV,cT,af,aH,S.rd,R.dat,cH,bT,g2,gN,ao,ay,gC,bF,aP,bu,bC,aF,bH,cu,rF,fin,cC,a_,eq_int,au,aJ,toD,toS,aN,bU,cU,cW])) rfl (λk hk=>by
   have:=DN ⟨#[b]⟩ (2 + (k:Int)) (by omega) (by omega) lb
   have e:(2 + (k:Int)).toNat=2 + k:=by omega
   rw [e] at this
   simp [aD,aX,bV,bK,bD,aV,cT,af,aH,S.rd,R.dat,cH,bT,g2,gN,ao,ay,gC,bF,aP,bu,bC,aF,bH,cu,rF,fin,cC,a_,eq_int,au,aJ,toD,toS,aN,bU,cU,cW,iP,this,vD])
  rw [FW (r:=.l .fresh (((Se m).map (vD b)).map .str)) (by
   unfold aX aP
   rw [cr]
   simp [aD,aX,bV,bK,bD,aV,cT,af,aH,S.rd,R.dat,cH,bT,g2,gN,ao,ay,gC,bF,aP,bu,bC,aF,bH,cu,rF,fin,cC,a_,eq_int,au,aJ,toD,toS,aN,bU,cU,cW,fK,cV,c1])]
  rfl
 ·rw [cM (e:=eN c m n (.d (.str ⟨#[b]⟩)) (2 + n / 5 % 7) none none none none none none none) ((ki (by simp [aD,aX,bV,bK,bD,aV,cT,af,aH,S.rd,R.dat,cH,bT,g2,gN,ao,ay,gC,bF,aP,bu,bC,aF,bH,cu,rF,fin,cC,a_,eq_int,au,aJ,toD,toS,aN,bU,cU,cW,fK,cV,c1])).trans rfl)]
  by_cases c2:n / 35 % 4=2
  ·refine ⟨iC ((Se m).map (oZ (n / 140 % 8).toNat (n / 1120 % 26).toNat)),?_,good2 (by omega) (by omega) hm⟩
   have cr:=yW (cap:=[5,6,7,2]) (gi:=bR (ao (af 1) ay)) (ge:=(g2 cF (g2 br (g2 cF (af 1) (af 1)) (g2 cF (af 2) (af 0))) (g2 br (af 3) (g2 cR (g2 fM (af 4) (gC (.int 1120))) (gC (.int 26)))))) (env:=eN c m n (.d (.str ⟨#[b]⟩)) (2 + n / 5 % 7) (some (.own words)) (some (.d (.int (n / 140 % 8)))) (some (.d (.str "abcdefghijklmnopqrstuvwxyz"))) none none none none) (tl:=[some (.own words),some (.d (.int (n / 140 % 8))),some (.d (.str "abcdefghijklmnopqrstuvwxyz")),some (.d (.int n))]) (m:=m) (by omega) (λk=>.str (oZ (n / 140 % 8).toNat (n / 1120 % 26).toNat k)) (qD (by omega) (by simp [aD,aX,bV,bK,bD,aV,cT,af,aH,S.rd,R.dat,cH,bT,g2,gN,ao,ay,gC,bF,aP,bu,bC,aF,bH,cu,rF,fin,cC,a_,eq_int,au,aJ,toD,toS,aN,bU,cU,cW])) rfl (λk hk=>by
    have ea:=EV (n / 1120 % 26) (by omega) (by omega)
    have ew:=CL (m:=.fresh) (OT ((n / 140 % 8).toNat + k) (by omega))
    have ei:(((n / 140 % 8).toNat + k:Nat):Int)=n / 140 % 8 + k:=by omega
    rw [ei] at ew
    have el:=NY ⟨(n / 140 % 8).toNat + k,by omega⟩
    simp only at el
    have es:=DO ((ff++ff).getD ((n / 140 % 8).toNat + k) "") ⟨#[97 + (n / 1120 % 26).toNat]⟩ (by show _ + 1<=_;omega)
    have ec:=JK words words (by decide)
    unfold oZ
    generalize (ff++ff).getD ((n / 140 % 8).toNat + k) ""=w at ew es ⊢
    simp only [g2,af,gC,List.getElem?_cons_zero,List.getElem?_cons_succ,aM,S.rd,ec,iP]
    rw [ew,aM,fK _ _ (by decide) (by decide),aM,cV _ _ (by decide),aM,ea,aM,es])
   rw [FW (r:=.l .fresh ((iC ((Se m).map (oZ (n / 140 % 8).toNat (n / 1120 % 26).toNat))).map .str)) (by
    unfold aX
    rw [show aV (g2 (dO false) (g2 cR (g2 fM (af 2) (gC (.int 35))) (gC (.int 4))) (gC (.int 2))) (eN c m n (.d (.str ⟨#[b]⟩)) (2 + n / 5 % 7) none none none none none none none)=.ok true by simp [aD,aX,bV,bK,bD,aV,cT,af,aH,S.rd,R.dat,cH,bT,g2,gN,ao,ay,gC,bF,aP,bu,bC,aF,bH,cu,rF,fin,cC,a_,eq_int,au,aJ,toD,toS,aN,bU,cU,cW,fK,cV,c2],aM,if_pos rfl]
    rw [cM (e:=eN c m n (.d (.str ⟨#[b]⟩)) (2 + n / 5 % 7) (some (.own words)) none none none none none none) (by simp [aD,aX,bV,bK,bD,aV,cT,af,aH,S.rd,R.dat,cH,bT,g2,gN,ao,ay,gC,bF,aP,bu,bC,aF,bH,cu,rF,fin,cC,a_,eq_int,au,aJ,toD,toS,aN,bU,cU,cW])]
    rw [cM (e:=eN c m n (.d (.str ⟨#[b]⟩)) (2 + n / 5 % 7) (some (.own words)) (some (.d (.int (n / 140 % 8)))) none none none none none) (by simp [aD,aX,bV,bK,bD,aV,cT,af,aH,S.rd,R.dat,cH,bT,g2,gN,ao,ay,gC,bF,aP,bu,bC,aF,bH,cu,rF,fin,cC,a_,eq_int,au,aJ,toD,toS,aN,bU,cU,cW,fK,cV])]
    rw [cM (e:=eN c m n (.d (.str ⟨#[b]⟩)) (2 + n / 5 % 7) (some (.own words)) (some (.d (.int (n / 140 % 8)))) (some (.d (.str "abcdefghijklmnopqrstuvwxyz"))) none none none none) (by simp [aD,aX,bV,bK,bD,aV,cT,af,aH,S.rd,R.dat,cH,bT,g2,gN,ao,ay,gC,bF,aP,bu,bC,aF,bH,cu,rF,fin,cC,a_,eq_int,au,aJ,toD,toS,aN,bU,cU,cW])]
    have hs:=sorted_strs .fresh ((Se m).map (oZ (n / 140 % 8).toNat (n / 1120 % 26).toNat)) (by simp;omega)
    rw [S6] at hs
    exact uA (Dh cr hs) rfl)]
   rfl
  ·rw [cM (e:=eN c m n (.d (.str ⟨#[b]⟩)) (2 + n / 5 % 7) none none none none none none none) ((ki (by simp [aD,aX,bV,bK,bD,aV,cT,af,aH,S.rd,R.dat,cH,bT,g2,gN,ao,ay,gC,bF,aP,bu,bC,aF,bH,cu,rF,fin,cC,a_,eq_int,au,aJ,toD,toS,aN,bU,cU,cW,fK,cV,c2])).trans rfl)]
   have hz:0 < 2 + n / 5 % 7:=by omega
   rw [cM (e:=eN c m n (.d (.str ⟨#[b]⟩)) (2 + n / 5 % 7) none none none (some (.d (.int (n / 105 % (2 + n / 5 % 7))))) none none none) (by simp [aD,aX,bV,bK,bD,aV,cT,af,aH,S.rd,R.dat,cH,bT,g2,gN,ao,ay,gC,bF,aP,bu,bC,aF,bH,cu,rF,fin,cC,a_,eq_int,au,aJ,toD,toS,aN,bU,cU,cW,fK,cV,hz])]
   rw [cM (e:=eN c m n (.d (.str ⟨#[b]⟩)) (2 + n / 5 % 7) none none none (some (.d (.int (n / 105 % (2 + n / 5 % 7))))) (some (.own [])) none none) (by simp [aD,aX,bV,bK,bD,aV,cT,af,aH,S.rd,R.dat,cH,bT,g2,gN,ao,ay,gC,bF,aP,bu,bC,aF,bH,cu,rF,fin,cC,a_,eq_int,au,aJ,toD,toS,aN,bU,cU,cW,f_])]
   obtain ⟨a,ha⟩:∃a,n / 105 % (2 + n / 5 % 7)=a:=⟨_,rfl⟩
   have a0:0<=a:=ha▸U9 _ (by omega)
   have a1:a < 2 + n / 5 % 7:=ha▸Vj _ hz
   obtain ⟨z,hz2⟩:∃z,2 + n / 5 % 7=z:=⟨_,rfl⟩
   have z1:2<=z/\z<=8:=by omega
   rw [ha,hz2]
   rw [hz2] at a1
   refine ⟨iC ((Se m).map (nj b a.toNat (z - 1 - a).toNat (n / 840))),?_,good3 hb (by omega) (by omega) hm⟩
   have ra:=DN ⟨#[b]⟩ a (by omega) (by omega) lb
   have rr:=DN ⟨#[b]⟩ (z - 1 - a) (by omega) (by omega) lb
   have la:(gf ⟨#[b]⟩ a.toNat).length<=8:=by
    rw [nQ,jM,TR];omega
   have lr:(gf ⟨#[b]⟩ (z - 1 - a).toNat).length<=8:=by
    rw [nQ,jM,TR];omega
   obtain ⟨e,h1,x,y,rfl⟩:=jT (t:=az 10) (u:=(aD (aN 11 (g2 br (gC (.str "abcdefghijklmnopqrstuvwxyz")) (g2 cR (g2 cF (g2 fM (af 2) (gC (.int 840))) (g2 dF (gC (.int 5)) (af 10))) (gC (.int 26)))))
 (e_ 9 (g2 cF (g2 cF (g2 dF (af 3) (af 8)) (af 11)) (g2 dF (af 3) (g2 nc (g2 nc (af 4) (gC (.int 1))) (af 8))))))) (λk env=>∃x y,env=eN c m n (.d (.str ⟨#[b]⟩)) z none none none (some (.d (.int a))) (some (.own (((Se k).map (nj b a.toNat (z - 1 - a).toNat (n / 840))).map .str))) x y) m (λk hk env ⟨x,y,he⟩=>by
    subst he
    refine ⟨_,_,rfl,?_,some (.d (.int k)),some (.d (.str ⟨#[97 + ((n / 840 + 5 * (k:Int)) % 26).toNat]⟩)),rfl⟩
    ·have ea:=EV ((n / 840 + 5 * (k:Int)) % 26) (by omega) (by omega)
     rw [cM (e:=eN c m n (.d (.str ⟨#[b]⟩)) z none none none (some (.d (.int a))) (some (.own (((Se k).map (nj b a.toNat (z - 1 - a).toNat (n / 840))).map .str))) (some (.d (.int k))) (some (.d (.str ⟨#[97 + ((n / 840 + 5 * (k:Int)) % 26).toNat]⟩)))) (by simp [aD,aX,bV,bK,bD,aV,cT,af,aH,S.rd,R.dat,cH,bT,g2,gN,ao,ay,gC,bF,aP,bu,bC,aF,bH,cu,rF,fin,cC,a_,eq_int,au,aJ,toD,toS,aN,bU,cU,cW,az,iP,Ax,fK,cV,ea])]
     have e1:=DO (gf ⟨#[b]⟩ a.toNat) ⟨#[97 + ((n / 840 + 5 * (k:Int)) % 26).toNat]⟩ (by show _ + 1<=_;omega)
     have e2:=DO (gf ⟨#[b]⟩ a.toNat++⟨#[97 + ((n / 840 + 5 * (k:Int)) % 26).toNat]⟩) (gf ⟨#[b]⟩ (z - 1 - a).toNat) (by
      rw [nQ,qX,SO,<-nQ]
      simp
      omega)
     have hk':k < sizeLine:=SI (by omega:k < 1000) (by decide)
     simp [aD,aX,bV,bK,bD,aV,cT,af,aH,S.rd,R.dat,cH,bT,g2,gN,ao,ay,gC,bF,aP,bu,bC,aF,bH,cu,rF,fin,cC,a_,eq_int,au,aJ,toD,toS,aN,bU,cU,cW,e_,ra,rr,e1,e2,Jr,hk',U_,nj]) (eN c m n (.d (.str ⟨#[b]⟩)) z none none none (some (.d (.int a))) (some (.own [])) none none) ⟨none,none,rfl⟩
   rw [cM ((lJ (qD (m:=m) (by omega) (by simp [aD,aX,bV,bK,bD,aV,cT,af,aH,S.rd,R.dat,cH,bT,g2,gN,ao,ay,gC,bF,aP,bu,bC,aF,bH,cu,rF,fin,cC,a_,eq_int,au,aJ,toD,toS,aN,bU,cU,cW]))).trans h1)]
   have hs:=sorted_strs .own ((Se m).map (nj b a.toNat (z - 1 - a).toNat (n / 840))) (by simp;omega)
   rw [uA (Dh (r:=.l .own (((Se m).map (nj b a.toNat (z - 1 - a).toNat (n / 840))).map .str)) rfl hs) rfl]
   rfl
abbrev dN (k:Nat):D:=.int k
abbrev dP (p:Nat×Nat):D:=.tup [.int p.1,.int p.2]
def qx (p q:Nat×Nat):Prop:=p.1 < q.1\/(p.1=q.1/\p.2 < q.2)
def Co (m:Nat) (xs:List Nat):Prop:=xs.length<=8/\xs.Pairwise (· < ·)/\∀x∈xs,x < m
def Cn (m:Nat) (ps:List (Nat×Nat)):Prop:=ps.length<=64/\ps.Pairwise qx/\∀p∈ps,p.1 < m/\p.2 < m
def LM (ss:List Str):Prop:=ss.length<=3/\(∀s∈ss,E3 s=true)/\ss.Pairwise λa b=>a.cps.toList < b.cps.toList
structure Wd where
 m:Nat
 ms:List (Str×List Nat)
 ar:List (Str×List (Nat×Nat))
abbrev pg (r:Str×List Nat):D:=.tup [.str r.1,.tup (r.2.map dN)]
abbrev qE (r:Str×List (Nat×Nat)):D:=.tup [.str r.1,.tup (r.2.map dP)]
def Wd.d (w:Wd):D:=.tup [.int w.m,.tup (w.ms.map pg),.tup (w.ar.map qE)]
theorem Ly (b:Int) (m:Nat) (hm:m<=8):∃xs:List Nat,ir [.d (.int b),.d (.int m)]=.ok (.d (.tup (xs.map dN)))/\Co m xs:=by
 unfold ir oO
 show ∃xs:List Nat,fin (aD _ _ [some (.d (.int b)),some (.d (.int m)),none,none])=_/\_
 rw [cM (e:=[some (.d (.int b)),some (.d (.int m)),some (.own []),none]) (by simp [aD,aX,bV,bK,bD,aV,cT,af,aH,S.rd,R.dat,cH,bT,g2,gN,ao,ay,gC,bF,aP,bu,bC,aF,bH,cu,rF,fin,cC,a_,eq_int,au,aJ,toD,toS,aN,bU,cU,cW,f_])]
 obtain ⟨e,h1,b',xs,y,rfl,hl,hp,hx⟩:=jT (t:=az 3) (u:=(aD (aX (aV (g2 (dO false) (g2 cR (af 0) (gC (.int 2))) (gC (.int 1)))) (e_ 2 (af 3)) bF)
 (aN 0 (g2 fM (af 0) (gC (.int 2)))))) (λk env=>∃(b':Int) (xs:List Nat) (y:Option S),env=[some (.d (.int b')),some (.d (.int m)),some (.own (xs.map dN)),y]/\xs.length<=k/\xs.Pairwise (· < ·)/\∀x∈xs,x < k) m (λk hk env ⟨b',xs,y,he,hl,hp,hx⟩=>by
  subst he
  have hz:xs.length < sizeLine:=SI (by omega:xs.length < 1000) (by decide)
  by_cases hb:b' % 2=1
  ·refine ⟨_,_,rfl,?_,b' / 2,xs++[k],some (.d (.int k)),rfl,by simp;omega,?_,λx hx'=>?_⟩
   ·rw [cM (e:=[some (.d (.int b')),some (.d (.int m)),some (.own ((xs++[k]).map dN)),some (.d (.int k))]) ((nP (by simp [aD,aX,bV,bK,bD,aV,cT,af,aH,S.rd,R.dat,cH,bT,g2,gN,ao,ay,gC,bF,aP,bu,bC,aF,bH,cu,rF,fin,cC,a_,eq_int,au,aJ,toD,toS,aN,bU,cU,cW,cV,hb])).trans (by simp [aD,aX,bV,bK,bD,aV,cT,af,aH,S.rd,R.dat,cH,bT,g2,gN,ao,ay,gC,bF,aP,bu,bC,aF,bH,cu,rF,fin,cC,a_,eq_int,au,aJ,toD,toS,aN,bU,cU,cW,e_,hz]))]
    simp [aD,aX,bV,bK,bD,aV,cT,af,aH,S.rd,R.dat,cH,bT,g2,gN,ao,ay,gC,bF,aP,bu,bC,aF,bH,cu,rF,fin,cC,a_,eq_int,au,aJ,toD,toS,aN,bU,cU,cW,fK]
   ·rw [UH]
    exact ⟨hp,Ti _ _,λa ha c hc=>by rw [So] at hc;rw [hc];exact hx a ha⟩
   ·rw [SN,So] at hx'
    rcases hx' with h | h
    ·exact VX (hx x h)
    ·omega
  ·refine ⟨_,_,rfl,?_,b' / 2,xs,some (.d (.int k)),rfl,by omega,hp,λx h=>VX (hx x h)⟩
   rw [cM (e:=[some (.d (.int b')),some (.d (.int m)),some (.own (xs.map dN)),some (.d (.int k))]) ((ki (by simp [aD,aX,bV,bK,bD,aV,cT,af,aH,S.rd,R.dat,cH,bT,g2,gN,ao,ay,gC,bF,aP,bu,bC,aF,bH,cu,rF,fin,cC,a_,eq_int,au,aJ,toD,toS,aN,bU,cU,cW,cV,hb])).trans rfl)]
   simp [aD,aX,bV,bK,bD,aV,cT,af,aH,S.rd,R.dat,cH,bT,g2,gN,ao,ay,gC,bF,aP,bu,bC,aF,bH,cu,rF,fin,cC,a_,eq_int,au,aJ,toD,toS,aN,bU,cU,cW,fK]) [some (.d (.int b)),some (.d (.int m)),some (.own []),none] ⟨b,[],none,rfl,SQ _,.nil,λx h=>by cases h⟩
 rw [cM ((lJ (qD (m:=m) (by omega) (by simp [aD,aX,bV,bK,bD,aV,cT,af,aH,S.rd,R.dat,cH,bT,g2,gN,ao,ay,gC,bF,aP,bu,bC,aF,bH,cu,rF,fin,cC,a_,eq_int,au,aJ,toD,toS,aN,bU,cU,cW]))).trans h1)]
 exact ⟨xs,rfl,by omega,hp,hx⟩
def wH (k j:Nat) (p:Nat×Nat):Prop:=p.1 < k\/(p.1=k/\p.2 < j)
theorem Gr (b:Int) (m:Nat) (hm:m<=8):∃ps:List (Nat×Nat),gO [.d (.int b),.d (.int m)]=.ok (.d (.tup (ps.map dP)))/\Cn m ps:=by
 unfold gO nh
 show ∃ps:List (Nat×Nat),fin (aD _ _ [some (.d (.int b)),some (.d (.int m)),none,none,none])=_/\_
 rw [cM (e:=[some (.d (.int b)),some (.d (.int m)),some (.own []),none,none]) (by simp [aD,aX,bV,bK,bD,aV,cT,af,aH,S.rd,R.dat,cH,bT,g2,gN,ao,ay,gC,bF,aP,bu,bC,aF,bH,cu,rF,fin,cC,a_,eq_int,au,aJ,toD,toS,aN,bU,cU,cW,f_])]
 obtain ⟨e,h1,b',ps,y,z,rfl,hl,hp,hx⟩:=jT (t:=az 3) (u:=(c_ (bR (ao (af 1) ay)) (az 4) (aD (aX (aV (g2 (dO false) (g2 cR (af 0) (gC (.int 2))) (gC (.int 1)))) (e_ 2 (bL (au (af 3) (au (af 4) aJ)))) bF)
 (aN 0 (g2 fM (af 0) (gC (.int 2))))))) (λk env=>∃(b':Int) (ps:List (Nat×Nat)) (y z:Option S),env=[some (.d (.int b')),some (.d (.int m)),some (.own (ps.map dP)),y,z]/\ps.length<=8 * k/\ps.Pairwise qx/\∀p∈ps,p.1 < k/\p.2 < m) m (λk hk env ⟨b',ps,y,z,he,hl,hp,hx⟩=>by
  subst he
  obtain ⟨e,h1,b2,qs,z,rfl,hl2,hp2,QU⟩:=jT (t:=az 4) (u:=(aD (aX (aV (g2 (dO false) (g2 cR (af 0) (gC (.int 2))) (gC (.int 1)))) (e_ 2 (bL (au (af 3) (au (af 4) aJ)))) bF)
 (aN 0 (g2 fM (af 0) (gC (.int 2)))))) (λj env=>∃(b2:Int) (qs:List (Nat×Nat)) (z:Option S),env=[some (.d (.int b2)),some (.d (.int m)),some (.own (qs.map dP)),some (.d (.int k)),z]/\qs.length<=8 * k + j/\qs.Pairwise qx/\∀p∈qs,wH k j p/\p.2 < m) m (λj hj env ⟨b2,qs,z,he,hl2,hp2,QU⟩=>by
   subst he
   have hz:qs.length < sizeLine:=SI (by omega:qs.length < 1000) (by decide)
   have QS:2<=sizeLine:=by decide
   by_cases hb:b2 % 2=1
   ·refine ⟨_,_,rfl,?_,b2 / 2,qs++[(k,j)],some (.d (.int j)),rfl,by simp;omega,?_,λp hp'=>?_⟩
    ·rw [cM (e:=[some (.d (.int b2)),some (.d (.int m)),some (.own ((qs++[(k,j)]).map dP)),some (.d (.int k)),some (.d (.int j))]) ((nP (by simp [aD,aX,bV,bK,bD,aV,cT,af,aH,S.rd,R.dat,cH,bT,g2,gN,ao,ay,gC,bF,aP,bu,bC,aF,bH,cu,rF,fin,cC,a_,eq_int,au,aJ,toD,toS,aN,bU,cU,cW,cV,hb])).trans (by simp [aD,aX,bV,bK,bD,aV,cT,af,aH,S.rd,R.dat,cH,bT,g2,gN,ao,ay,gC,bF,aP,bu,bC,aF,bH,cu,rF,fin,cC,a_,eq_int,au,aJ,toD,toS,aN,bU,cU,cW,e_,bL,hz,QS]))]
     simp [aD,aX,bV,bK,bD,aV,cT,af,aH,S.rd,R.dat,cH,bT,g2,gN,ao,ay,gC,bF,aP,bu,bC,aF,bH,cu,rF,fin,cC,a_,eq_int,au,aJ,toD,toS,aN,bU,cU,cW,fK]
    ·rw [UH]
     refine ⟨hp2,Ti _ _,λa ha c hc=>?_⟩
     rw [So] at hc
     rw [hc]
     exact (QU a ha).1
    ·rw [SN,So] at hp'
     rcases hp' with h | h
     ·refine ⟨?_,(QU p h).2⟩
      rcases (QU p h).1 with q | ⟨q,q'⟩
      ·exact .inl q
      ·exact .inr ⟨q,by omega⟩
     ·rw [h]
      exact ⟨.inr ⟨rfl,UJ _⟩,hj⟩
   ·refine ⟨_,_,rfl,?_,b2 / 2,qs,some (.d (.int j)),rfl,by omega,hp2,λp h=>⟨?_,(QU p h).2⟩⟩
    ·rw [cM (e:=[some (.d (.int b2)),some (.d (.int m)),some (.own (qs.map dP)),some (.d (.int k)),some (.d (.int j))]) ((ki (by simp [aD,aX,bV,bK,bD,aV,cT,af,aH,S.rd,R.dat,cH,bT,g2,gN,ao,ay,gC,bF,aP,bu,bC,aF,bH,cu,rF,fin,cC,a_,eq_int,au,aJ,toD,toS,aN,bU,cU,cW,cV,hb])).trans rfl)]
     simp [aD,aX,bV,bK,bD,aV,cT,af,aH,S.rd,R.dat,cH,bT,g2,gN,ao,ay,gC,bF,aP,bu,bC,aF,bH,cu,rF,fin,cC,a_,eq_int,au,aJ,toD,toS,aN,bU,cU,cW,fK]
    ·rcases (QU p h).1 with q | ⟨q,q'⟩
     ·exact .inl q
     ·exact .inr ⟨q,by omega⟩) [some (.d (.int b')),some (.d (.int m)),some (.own (ps.map dP)),some (.d (.int k)),z] ⟨b',ps,z,rfl,hl,hp,λp h=>⟨.inl (hx p h).1,(hx p h).2⟩⟩
  refine ⟨_,_,rfl,(lJ (qD (m:=m) (by omega) (by simp [aD,aX,bV,bK,bD,aV,cT,af,aH,S.rd,R.dat,cH,bT,g2,gN,ao,ay,gC,bF,aP,bu,bC,aF,bH,cu,rF,fin,cC,a_,eq_int,au,aJ,toD,toS,aN,bU,cU,cW]))).trans h1,b2,qs,some (.d (.int k)),z,rfl,by omega,hp2,λp h=>⟨?_,(QU p h).2⟩⟩
  rcases (QU p h).1 with q | ⟨q,q'⟩
  ·omega
  ·omega) [some (.d (.int b)),some (.d (.int m)),some (.own []),none,none] ⟨b,[],none,none,rfl,SQ _,.nil,λx h=>by cases h⟩
 rw [cM ((lJ (qD (m:=m) (by omega) (by simp [aD,aX,bV,bK,bD,aV,cT,af,aH,S.rd,R.dat,cH,bT,g2,gN,ao,ay,gC,bF,aP,bu,bC,aF,bH,cu,rF,fin,cC,a_,eq_int,au,aJ,toD,toS,aN,bU,cU,cW]))).trans h1)]
 exact ⟨ps,rfl,by omega,hp,hx⟩
theorem qY {α:Type}(f:α->D) (xs:List α) (l u:Option Int):∃ys:List α,cutD (xs.map f) l u=ys.map f/\ys=(xs.drop (HT.bP xs.length 0 l)).take (HT.bP xs.length xs.length u - HT.bP xs.length 0 l):=by
 refine ⟨_,?_,rfl⟩
 unfold cutD
 rw [Sh,Yg,Yh]
theorem Bt {α:Type}(xs:List α) (i j:Nat):((xs.drop i).take j).Sublist xs:=(XJ _ _).trans (Z5 _ _)
theorem Good.sub {m:Nat}{ss ys:List Str}(h:Good m ss) (s:ys.Sublist ss) (hl:ys.length<=3):LM ys:=⟨hl,λx hx=>h.2.1 x (s.subset hx),h.2.2.sublist s⟩
theorem NC (xs:List D) (l u:Option Int):sI (.l .own xs) l u=.ok (.l .fresh (cutD xs l u)):=rfl
theorem B5 (m:Md) (xs:List D):dG [.l m xs]=.ok (.d (.tup xs)):=rfl
theorem oj (c:Int):∃A B:List Str,g9 [.d (.int c)]=.ok (.d (.tup [.tup (A.map .str),.tup (B.map .str)]))/\LM A/\LM B:=by
 obtain ⟨ss,hs,hg⟩:=Jt c 6 (Sl _)
 have hs:fX [.d (.int c),.d (.int 6)]=.ok (.l .fresh (ss.map .str)):=hs
 unfold g9 lK
 generalize fX=F_names at hs ⊢
 show ∃A B:List Str,fin (aD _ _ [some (.d (.int c)),none,none,none])=_/\_
 obtain ⟨n,hn⟩:∃n,c * 523 % 10007=n:=⟨_,rfl⟩
 have n0:0<=n:=hn▸U9 _ (by decide)
 rw [cM (e:=[some (.d (.int c)),some (.own (ss.map .str)),none,none]) (by simp [aD,aX,bV,bK,bD,aV,cT,af,aH,S.rd,R.dat,cH,bT,g2,gN,ao,ay,gC,bF,aP,bu,bC,aF,bH,cu,rF,fin,cC,a_,eq_int,au,aJ,toD,toS,aN,bU,cU,cW,hs])]
 rw [cM (e:=[some (.d (.int c)),some (.own (ss.map .str)),some (.d (.int n)),none]) (by simp [aD,aX,bV,bK,bD,aV,cT,af,aH,S.rd,R.dat,cH,bT,g2,gN,ao,ay,gC,bF,aP,bu,bC,aF,bH,cu,rF,fin,cC,a_,eq_int,au,aJ,toD,toS,aN,bU,cU,cW,n9,cV,hn])]
 rw [cM (e:=[some (.d (.int c)),some (.own (ss.map .str)),some (.d (.int n)),some (.d (.int (n / 16 % 3)))]) (by simp [aD,aX,bV,bK,bD,aV,cT,af,aH,S.rd,R.dat,cH,bT,g2,gN,ao,ay,gC,bF,aP,bu,bC,aF,bH,cu,rF,fin,cC,a_,eq_int,au,aJ,toD,toS,aN,bU,cU,cW,fK,cV])]
 obtain ⟨A,ha,ha'⟩:=qY D.str ss none (some (n % 4))
 obtain ⟨B,hb,hb'⟩:=qY D.str ss (some (n / 16 % 3)) (some (n / 16 % 3 + n / 4 % 4))
 refine ⟨A,B,?_,hg.sub (ha'▸Bt _ _ _) ?_,hg.sub (hb'▸Bt _ _ _) ?_⟩
 ·have QS:2<=sizeLine:=by decide
  simp [aD,aX,bV,bK,bD,aV,cT,af,aH,S.rd,R.dat,cH,bT,g2,gN,ao,ay,gC,bF,aP,bu,bC,aF,bH,cu,rF,fin,cC,a_,eq_int,au,aJ,toD,toS,aN,bU,cU,cW,bL,wA,EF,wm,cV,fK,iP,NC,B5,ha,hb,QS]
 ·rw [ha',UI,HT.Ij]
  have e:n % 4=((n % 4).toNat:Int):=by omega
  rw [e,HT.vL]
  omega
 ·rw [hb',UI]
  have e:n / 16 % 3=((n / 16 % 3).toNat:Int):=by omega
  have e2:n / 16 % 3 + n / 4 % 4=((n / 16 % 3 + n / 4 % 4).toNat:Int):=by omega
  rw [e2,HT.vL,e,HT.vL,hg.1]
  omega
theorem DH (Fs Fc:List S->M R) (ns:List Int) (a k m:Nat) (v:Int) (xs:List Nat) (T T2:D) (s:Str) (ms:List (Str×List Nat)) (hi:br (.d T) (.d (.int k))=.ok (.d (.str s))) (hc:Fc [.bor (ns.map D.int),.d (.int ((a:Int) + k))]=.ok (.d (.int v))) (hx:Fs [.d (.int (v * 167 % 256)),.d (.int m)]=.ok (.d (.tup (xs.map dN))))
  (QS:2<=sizeLine) (hz:ms.length < sizeLine):(e_ 4 (bL (au (g2 br (g2 br (af 3) (gC (.int 0))) (af 5)) (au (gN (aF 2 Fs) (ao (g2 cR (g2 dF (gN (aF 2 Fc) (ao (af 0) (ao (g2 cF (af 1) (af 5)) ay))) (gC (.int 167))) (g2 m_ (gC (.int 2)) (gC (.int 8)))) (ao (af 2) ay))) aJ)))) [some (.bor (ns.map D.int)),some (.d (.int a)),some (.d (.int m)),some (.d (.tup [T,T2])),some (.own (ms.map pg)),some (.d (.int k)),none,none]=.ok (.nx [some (.bor (ns.map D.int)),some (.d (.int a)),some (.d (.int m)),some (.d (.tup [T,T2])),some (.own ((ms++[(s,xs)]).map pg)),some (.d (.int k)),none,none]):=by
 simp [aD,aX,bV,bK,bD,aV,cT,af,aH,S.rd,R.dat,cH,bT,g2,gN,ao,ay,gC,bF,aP,bu,bC,aF,bH,cu,rF,fin,cC,a_,eq_int,au,aJ,toD,toS,aN,bU,cU,cW,e_,bL,hi,iP,hc,n9,NK,cV,hx,hz,QS]
theorem A8 (Fs Fc:List S->M R) (ns:List Int) (a k m:Nat) (v:Int) (xs:List (Nat×Nat)) (T T2:D) (s:Str) (ms:List D) (z:Option S) (rs:List (Str×List (Nat×Nat))) (hi:br (.d T2) (.d (.int k))=.ok (.d (.str s))) (hc:Fc [.bor (ns.map D.int),.d (.int ((a:Int) + 3 + k))]=.ok (.d (.int v))) (hx:Fs [.d (.int (v * 11400714819323198485 % 18446744073709551616)),.d (.int m)]=.ok (.d (.tup (xs.map dP))))
  (QS:2<=sizeLine) (hz:rs.length < sizeLine):(aD (aN 7 (g2 cR (g2 dF (gN (aF 2 Fc) (ao (af 0) (ao (g2 cF (g2 cF (af 1) (gC (.int 3))) (af 5)) ay))) (gC (.int 11400714819323198485))) (g2 m_ (gC (.int 2)) (gC (.int 64)))))
 (e_ 6 (bL (au (g2 br (g2 br (af 3) (gC (.int 1))) (af 5)) (au (gN (aF 2 Fs) (ao (af 7) (ao (af 2) ay))) aJ))))) [some (.bor (ns.map D.int)),some (.d (.int a)),some (.d (.int m)),some (.d (.tup [T,T2])),some (.own ms),some (.d (.int k)),some (.own (rs.map qE)),z]=.ok (.nx [some (.bor (ns.map D.int)),some (.d (.int a)),some (.d (.int m)),some (.d (.tup [T,T2])),some (.own ms),some (.d (.int k)),some (.own ((rs++[(s,xs)]).map qE)),some (.d (.int (v * 11400714819323198485 % 18446744073709551616)))]):=by
 simp [aD,aX,bV,bK,bD,aV,cT,af,aH,S.rd,R.dat,cH,bT,g2,gN,ao,ay,gC,bF,aP,bu,bC,aF,bH,cu,rF,fin,cC,a_,eq_int,au,aJ,toD,toS,aN,bU,cU,cW,e_,bL,hi,iP,hc,n9,BY,cV,hx,hz,QS]
theorem Jy (ns:List Int) (a m:Nat) (hm:m<=8) (A B:List Str) (hA:A.length<=3) (hB:B.length<=3):∃ms rs,iL [.bor (ns.map D.int),.d (.int a),.d (.int m),.d (.tup [.tup (A.map .str),.tup (B.map .str)])]=.ok (.d (Wd.d ⟨m,ms,rs⟩))/\
  ms.map Vb=A/\rs.map Vb=B/\(∀r∈ms,Co m r.2)/\∀r∈rs,Cn m r.2:=by
 unfold iL ni
 have HS:=λb=>Ly b m hm
 have HP:=λb=>Gr b m hm
 have HC:=pS ns
 generalize ir=F_some at HS ⊢
 generalize gO=F_pairs at HP ⊢
 generalize dh=F_cell at HC ⊢
 show ∃ms rs,fin (aD _ _ [some (.bor (ns.map D.int)),some (.d (.int a)),some (.d (.int m)),some (.d (.tup [.tup (A.map .str),.tup (B.map .str)])),none,none,none,none])=_/\_
 have zA:∀k,k < 3->k < sizeLine:=λk hk=>SI (by omega:k < 1000) (by decide)
 have QS:2<=sizeLine:=by decide
 have RB:3<=sizeLine:=by decide
 rw [cM (e:=[some (.bor (ns.map D.int)),some (.d (.int a)),some (.d (.int m)),some (.d (.tup [.tup (A.map .str),.tup (B.map .str)])),some (.own []),none,none,none]) (by simp [aD,aX,bV,bK,bD,aV,cT,af,aH,S.rd,R.dat,cH,bT,g2,gN,ao,ay,gC,bF,aP,bu,bC,aF,bH,cu,rF,fin,cC,a_,eq_int,au,aJ,toD,toS,aN,bU,cU,cW,f_])]
 obtain ⟨e,h1,ms,y,rfl,hf,hp⟩:=jT (t:=az 5) (u:=(e_ 4 (bL (au (g2 br (g2 br (af 3) (gC (.int 0))) (af 5)) (au (gN (aF 2 F_some) (ao (g2 cR (g2 dF (gN (aF 2 F_cell) (ao (af 0) (ao (g2 cF (af 1) (af 5)) ay))) (gC (.int 167))) (g2 m_ (gC (.int 2)) (gC (.int 8)))) (ao (af 2) ay))) aJ)))))
  (λk env=>∃(ms:List (Str×List Nat)) (y:Option S),env=[some (.bor (ns.map D.int)),some (.d (.int a)),some (.d (.int m)),some (.d (.tup [.tup (A.map .str),.tup (B.map .str)])),some (.own (ms.map pg)),y,none,none]/\ms.map Vb=A.take k/\∀r∈ms,Co m r.2) A.length (λk hk env ⟨ms,y,he,hf,hp⟩=>by
   subst he
   obtain ⟨xs,hx,px⟩:=HS (fB ns (a + k) * 167 % 256)
   have hc:=HC (a + k)
   rw [YL] at hc
   have hi:br (.d (.tup (A.map D.str))) (.d (.int k))=.ok (.d (.str A[k])):=jP (by rw [SJ,Sn hk];rfl)
   have hl:ms.length=k:=by
    have:=congrArg Yc hf
    rw [Sh,UI] at this
    omega
   have hz:=zA ms.length (by have:=hA;omega)
   refine ⟨_,_,rfl,?_,ms++[(A[k],xs)],some (.d (.int k)),rfl,?_,λr hr=>?_⟩
   ·exact DH F_some F_cell ns a k m _ xs _ _ _ ms hi hc hx QS hz
   ·rw [SV,hf,WM,Sn hk]
    rfl
   ·rw [SN,So] at hr
    rcases hr with h | h
    ·exact hp r h
    ·rw [h];exact px) [some (.bor (ns.map D.int)),some (.d (.int a)),some (.d (.int m)),some (.d (.tup [.tup (A.map .str),.tup (B.map .str)])),some (.own []),none,none,none] ⟨[],none,rfl,rfl,λr h=>by cases h⟩
 rw [cM ((lJ (qD (m:=A.length) (by have:=hA;omega) (by simp [aD,aX,bV,bK,bD,aV,cT,af,aH,S.rd,R.dat,cH,bT,g2,gN,ao,ay,gC,bF,aP,bu,bC,aF,bH,cu,rF,fin,cC,a_,eq_int,au,aJ,toD,toS,aN,bU,cU,cW]))).trans h1)]
 rw [cM (e:=[some (.bor (ns.map D.int)),some (.d (.int a)),some (.d (.int m)),some (.d (.tup [.tup (A.map .str),.tup (B.map .str)])),some (.own (ms.map pg)),y,some (.own []),none]) (by simp [aD,aX,bV,bK,bD,aV,cT,af,aH,S.rd,R.dat,cH,bT,g2,gN,ao,ay,gC,bF,aP,bu,bC,aF,bH,cu,rF,fin,cC,a_,eq_int,au,aJ,toD,toS,aN,bU,cU,cW,f_])]
 obtain ⟨e,h2,rs,y2,z2,rfl,hf2,hp2⟩:=jT (t:=az 5) (u:=(aD (aN 7 (g2 cR (g2 dF (gN (aF 2 F_cell) (ao (af 0) (ao (g2 cF (g2 cF (af 1) (gC (.int 3))) (af 5)) ay))) (gC (.int 11400714819323198485))) (g2 m_ (gC (.int 2)) (gC (.int 64)))))
 (e_ 6 (bL (au (g2 br (g2 br (af 3) (gC (.int 1))) (af 5)) (au (gN (aF 2 F_pairs) (ao (af 7) (ao (af 2) ay))) aJ))))))
  (λk env=>∃(rs:List (Str×List (Nat×Nat))) (y z:Option S),env=[some (.bor (ns.map D.int)),some (.d (.int a)),some (.d (.int m)),some (.d (.tup [.tup (A.map .str),.tup (B.map .str)])),some (.own (ms.map pg)),y,some (.own (rs.map qE)),z]/\rs.map Vb=B.take k/\∀r∈rs,Cn m r.2) B.length (λk hk env ⟨rs,y,z,he,hf,hp⟩=>by
   subst he
   obtain ⟨xs,hx,px⟩:=HP (fB ns (a + 3 + k) * 11400714819323198485 % 18446744073709551616)
   have hc:=HC (a + 3 + k)
   rw [YL,YL] at hc
   have hc:F_cell [.bor (ns.map D.int),.d (.int ((a:Int) + 3 + (k:Int)))]=.ok (.d (.int (fB ns (a + 3 + k)))):=hc
   have hi:br (.d (.tup (B.map D.str))) (.d (.int k))=.ok (.d (.str B[k])):=jP (by rw [SJ,Sn hk];rfl)
   have hl:rs.length=k:=by
    have:=congrArg Yc hf
    rw [Sh,UI] at this
    omega
   have hz:=zA rs.length (by have:=hB;omega)
   refine ⟨_,_,rfl,?_,rs++[(B[k],xs)],some (.d (.int k)),some (.d (.int (fB ns (a + 3 + k) * 11400714819323198485 % 18446744073709551616))),rfl,?_,λr hr=>?_⟩
   ·exact A8 F_pairs F_cell ns a k m _ xs _ _ _ _ z rs hi hc hx QS hz
   ·rw [SV,hf,WM,Sn hk]
    rfl
   ·rw [SN,So] at hr
    rcases hr with h | h
    ·exact hp r h
    ·rw [h];exact px) [some (.bor (ns.map D.int)),some (.d (.int a)),some (.d (.int m)),some (.d (.tup [.tup (A.map .str),.tup (B.map .str)])),some (.own (ms.map pg)),y,some (.own []),none] ⟨[],y,none,rfl,rfl,λr h=>by cases h⟩
 rw [cM ((lJ (qD (m:=B.length) (by have:=hB;omega) (by simp [aD,aX,bV,bK,bD,aV,cT,af,aH,S.rd,R.dat,cH,bT,g2,gN,ao,ay,gC,bF,aP,bu,bC,aF,bH,cu,rF,fin,cC,a_,eq_int,au,aJ,toD,toS,aN,bU,cU,cW]))).trans h2)]
 refine ⟨ms,rs,?_,by rw [hf,V8],by rw [hf2,V8],hp,hp2⟩
 simp [aD,aX,bV,bK,bD,aV,cT,af,aH,S.rd,R.dat,cH,bT,g2,gN,ao,ay,gC,bF,aP,bu,bC,aF,bH,cu,rF,fin,cC,a_,eq_int,au,aJ,toD,toS,aN,bU,cU,cW,bL,B5,RB,Wd.d]
theorem wW {K:R_}{J:L2.Hp}:∀(ns:List Int),aK K J (ns.map D.int) (ns.map L2.V.int)
 | []=>.nil
 | n::r=>.cons (.int n) (wW r)
end K01
namespace DX
open PySem PySem.Spec
open Builtin Builtin.ObjectAttr
end DX
namespace DX
open PySem PySem.Spec
end DX
namespace DX
open PySem PySem.Spec PyProof.Rows L2
end DX
namespace DL
open PySem PySem.Spec PyProof.Rows L2 DX
noncomputable def Pd (K:R_) (J:Hp) (x:Exc) (v:Sa) (dx:Option Sq):Prop:=
 ∃a C vs,v=.ref a/\J a=some (XO a C dx)/\Tn K S3 x.cls=some (some (.ref C))/\XF J dx x.ns vs/\aK K J x.ds vs/\∃P,GX K P/\XE K P C
def XW (K:R_) (J H:Hp) (E:XK) (x:Exc):Prop:=∀v dx J' H',Ext J H J' H'->Pd K J' x v dx->E v dx H'
noncomputable def As (K:R_) (n:Nat) (F:List S->M R):Sp:=λvs H Q E=>∃J as,aW J H/\as.length=n/\lB K J H as vs/\dg (F as) (λr=>∀v J' H',Ext J H J' H'->FR K H J' H' r v->Q v H') (XW K J H E)
abbrev Qd (P:Sy) (w:S9) (K:R_) (mg:Str->Option Sa) (base:Ui) (N:List Str) (R5:Str) (sc:Vc) (f:Sq) (cd:Sa) (A:Td) (outer:List Env) (s:Sd) (H:Hp) (E:XK):Cx:=qa (vR P w) P w K mg base N R5 sc f cd A outer s H E
end DL
namespace DX
open PySem PySem.Spec PyProof.Rows L2
end DX
namespace DL
open PySem PySem.Spec PyProof.Rows L2 DX
end DL
namespace DX
open PySem PySem.Spec PyProof.Rows L2
end DX
namespace DL
open PySem PySem.Spec PyProof.Rows L2 DX
end DL
namespace DX
open PySem PySem.Spec PyProof.Rows L2
open Sem (wp)
end DX
namespace DL
open PySem PySem.Spec PyProof.Rows L2 DX
noncomputable def Cc (P:Sy) (w:S9) (K:R_) (mg:Str->Option Sa) (base:Ui) (k n:Nat) (x:Str) (Fm:List S->M R):Prop:=
 ∃f fd ps,gp P w K mg base (vR P w) k f fd ps (As K n Fm)/\mg x=some (.ref f)/\Ug K (.ref f)=true/\Binds K fd ps []
section
variable {X:Cx}{c:C}{e a:Tc}{es:List Tc}{pos:Pos}{g:G R}{L:List Str}
theorem HH {k n:Nat}{f:Sq}{fd:SY}{ps:List Str}{F:List S->M R}{x:Str}{p:Pos}{gs:G (List R)}(G:gp X.prog X.w X.K X.mg X.base (vR X.prog X.w) k f fd ps (As X.K n F)) (hr:eF k X.A) (hm:X.mg x=some (.ref f)) (hk:Ug X.K (.ref f)=true)
  (hb:Binds X.K fd ps []) (ha:D4 X c (e::es) gs) (hT:c.K=X.K:=by rfl) (hg:Gl X x:=by rfl) (hdb:(x == ("__debug__":Str))=false:=by decide) (he:Sv (e::es) X.env=(false,eval e X.env)::Sv es X.env:=by rfl)
  (hpl:(Vd pos (Sv es X.env)).any (·.1)=false:=by rfl):PD X c (.Call (.Name x p) (e::es) [] pos) (gN (aF n F) gs):=by
 refine gg (vE (E:=λ_ _ _=>False) G hr hg hm hk hb .nil (λR0 σ H s v s' I ⟨e,C,dx,T,H',ev,f⟩=>f.wish.elim) ha hdb he hpl) λσ H Q ⟨J,env,sr,w⟩=>?_
 refine ⟨J,env,sr,aG (aL w) λrs wr vs J1 H1 e1 r1=>?_⟩
 unfold aF at wr
 split at wr
 ·rename_i hl
  have h1:=sr.hp.ext e1
  have ar:=r1.args h1
  rw [hT] at ar
  refine ⟨J1,rs.map bH,e1.sub,by simpa using hl,by rw [UR];exact ar,?_⟩
  cases q:F (rs.map bH) with
  | bad=>rw [q] at wr;exact wr
  | exc x=>rw [q] at wr;exact wr.elim
  | ok r=>
   rw [q] at wr
   intro v J' H' e2 fr
   refine wr v J' H' (e1.trans e2) ?_
   cases r with
   | d y=>exact (show Rep c.K J' y v from hT▸fr)
   | mo _ _=>exact fr.elim
   | mb _ _=>exact fr.elim
   | mf _ _=>obtain ⟨a,h1,h2,h3,h4⟩:=fr;exact ⟨a,h1,hT▸h2,h3,e1.h.free h4⟩
   | l m ys=>
    obtain ⟨a,us,h1,h2,h3,h4,h5⟩:=fr
    exact ⟨a,us,h1,h2,h3,e1.h.free h4,hT▸h5⟩
 ·exact wr.elim
theorem zT {k k' n:Nat}{F:List S->M R}{x:Str}{p:Pos}{gs:G (List R)}(G:Cc X.prog X.w X.K X.mg X.base k n x F) (hr:eF k' X.A) (ha:lE X c (e::es) gs) (hk:k<=k':=by decide) (hT:c.K=X.K:=by rfl) (hg:Gl X x:=by rfl) (hdb:(x == ("__debug__":Str))=false:=by decide)
  (he:Sv (e::es) X.env=(false,eval e X.env)::Sv es X.env:=by rfl) (hpl:(Vd pos (Sv es X.env)).any (·.1)=false:=by rfl):QD X c (.Call (.Name x p) (e::es) [] pos) (gN (aF n F) gs):=by
 obtain ⟨f,fd,ps,h1,h2,h3,h4⟩:=G
 exact ⟨HH h1 (hr.mono hk) h2 h3 h4 ha.h hT hg hdb he hpl⟩
end
structure om (K:R_) (x R5:Str) (st:Vu) (f:Sq) (fd:SY):Prop where
 ex:∃(oc:Sa) (od:Option Sq) (T:Sq) (o:Obj) (n:Nat) (kV doc pm:Sa) (an:Option Sq) (cdv ct:Sa) (osl:Array (Option Sa)),
  fd=Tw x R5 (dR st) (cL st) (aI st) (.ref T) kV doc pm an cdv ct/\K.lookup f=some ⟨oc,od,.func fd,osl⟩/\Vn K cdv R5=true/\K.lookup T=some o/\o.data=.seq #[.none] n
 kp:Ug K (.ref f)=true
section
variable {P:Sy}{w:S9}{K:R_}{mg:Str->Option Sa}{base:Ui}
theorem JW {x R5:Str}{st:Vu}{f:Sq}{fd:SY}{N ps:List Str}{k:Nat}{Fm:List S->M R}(F:om K x R5 st f fd) (Sc:bg N ps (aI st)){gB:G O}
  (hb:∀(cdv:Sa) (A:Td) (outer:List Env) (s:Sd) (H:Hp) (E:XK) (J:Hp),eF k (A.deeper (XI R5 (aI st) s.heap.objs.size f cdv))->IK (Qd P w K mg base N R5 (aI st) f cdv A outer s H E) ⟨K,H,J,XW K J H E⟩ (cL st) gB)
  (hF:∀as,as.length=ps.length->Fm as≠.bad->fin (gB (aH N as))=Fm as):gp P w K mg base (vR P w) (k + 1) f fd ps (As K ps.length Fm):=by
 obtain ⟨oc,od,T,o,n,kV,doc,pm,an,cdv,ct,osl,rfl,lk,hcd,lT,dT⟩:=F.ex
 refine IX lk hcd Sc (λvs H Q E ⟨J,as,h1,h2,h3,h4⟩=>by rw [h3.length,h2]) λA outer s H vs Q E hr ⟨J,as,h1,h2,h3,h4⟩=>?_
 refine ⟨_,hb cdv A outer s H E J hr,J,aH N as,Au h1 h3,?_⟩
 have z:=hF as h2 (λq=>by rw [q] at h4;exact h4)
 rw [<-z] at h4
 have ext:∀{J' H':Hp},HI ⟨K,H,J,XW K J H E⟩ J' H'->Ext J H J' H':=λhp=>⟨hp.ent,hp.entJ,hp.sub,hp.frz⟩
 cases qg:gB (aH N as) with
 | bad=>rw [qg] at h4;exact h4
 | exc x=>rw [qg] at h4;exact h4
 | ok o=>
  rw [qg] at h4
  cases o with
  | bk _=>exact h4.elim
  | ct _=>exact h4.elim
  | nx env=>exact λσ' J' H' _ sr=>h4 .non J' H' (ext sr.hp) .non
  | rt r=>exact λv J' H' _ hp rf=>h4 v J' H' (ext hp) (by
    cases r with
    | d x=>exact rf
    | mo _ _=>exact rf
    | mf _ _=>exact rf
    | mb _ _=>exact rf
    | l m xs=>exact rf)
noncomputable def O5 (P:Sy) (w:S9) (K:R_) (mg:Str->Option Sa) (base:Ui) (k n:Nat) (x:Str) (Fm:List S->M R):Prop:=
 ∃f fd ps,gp P w K mg base (vR P w) k f fd ps (As K (n + 1) Fm)/\mg x=some (.ref f)/\Ug K (.ref f)=true/\Binds K fd ps [.none]
theorem om.bindsAll {x R5:Str}{st:Vu}{f:Sq}{fd:SY}{ps:List Str}(F:om K x R5 st f fd)
  (h:∀(T:Sq) (kV doc pm:Sa) (an:Option Sq) (cdv ct:Sa) (us:List Sa),us.length=ps.length->∃k:Option (Array Sa)->Sem (List (Str×Sa)),
   Zv (Tw x R5 (dR st) (cL st) (aI st) (.ref T) kV doc pm an cdv ct) ⟨us,[]⟩=ab0 (.ref T) >>= k/\k (some #[.none])=pure (ps.zip us)):Binds K fd ps []:=by
 obtain ⟨oc,od,T,o,n,kV,doc,pm,an,cdv,ct,osl,rfl,lk,hcd,lT,dT⟩:=F.ex
 intro s us hK hl
 rw [UR] at hl ⊢
 obtain ⟨k,h1,h2⟩:=h T kV doc pm an cdv ct us hl
 exact .of_defaults (T:=T) (items:=#[.none]) rfl (hK _ _ lT) dT h1 h2
theorem om.bindsOne {x R5:Str}{st:Vu}{f:Sq}{fd:SY}{ps:List Str}(F:om K x R5 st f fd)
  (h:∀(T:Sq) (kV doc pm:Sa) (an:Option Sq) (cdv ct:Sa) (us:List Sa),us.length + 1=ps.length->∃k:Option (Array Sa)->Sem (List (Str×Sa)),
   Zv (Tw x R5 (dR st) (cL st) (aI st) (.ref T) kV doc pm an cdv ct) ⟨us,[]⟩=ab0 (.ref T) >>= k/\k (some #[.none])=pure (ps.zip (us++[.none]))):Binds K fd ps [.none]:=by
 obtain ⟨oc,od,T,o,n,kV,doc,pm,an,cdv,ct,osl,rfl,lk,hcd,lT,dT⟩:=F.ex
 intro s us hK hl
 obtain ⟨k,h1,h2⟩:=h T kV doc pm an cdv ct us (by simpa using hl)
 exact .of_defaults (T:=T) (items:=#[.none]) rfl (hK _ _ lT) dT h1 h2
end
end DL
namespace DL
open PySem PySem.Spec PyProof.Rows L2
noncomputable def uS (A:Td) (s:Sd) (y x:Sa) (b:Bool):Prop:=
 ∀(prog:Sy) (w:S9) (E:Sa->Sd->Prop) (Q:Sa->Sd->Prop),Q (.bool b) s->SH (SM prog w) A (richCompare .Lt y x) Q E s
inductive gR (A:Td) (s:Sd) (fin:Bool):List (Sa×Sa)->Bool->Prop
 | nil:gR A s fin [] fin
 | yes {x y:Sa}{r:List (Sa×Sa)}{b:Bool}:UT A s x y true->gR A s fin r b->gR A s fin ((x,y)::r) b
 | no {x y:Sa}{r:List (Sa×Sa)}{b:Bool}:UT A s x y false->uS A s x y b->gR A s fin ((x,y)::r) b
section
open PySem.SeqAt
open PySem.AutoSeq1 (wpAny_loadPart')
open PySem.MeetsSeq PySem.MeetsSeq2 PySem.MeetsSeq3
theorem Gg (l b:Sq) (items R6:Array Sa) (n n2:Nat) (dd dd2:Option Sq) (sl sl2:Array (Option Sa)) (ans:Bool):
  Meets (WX.«tuple.__lt__» ⟨[.ref l,.ref b],[]⟩)
   (λA R s=>s.heap.get? l=some {cls:=.type "tuple",dict:=dd,data:=.seq items n,slots:=sl}/\s.heap.get? b=some {cls:=.type "tuple",dict:=dd2,data:=.seq R6 n2,slots:=sl2}/\
    gR A.in1 s (decide (items.size < R6.size)) (items.toList.zip R6.toList) ans/\R (.ok (.ret (.bool ans))) s):=
 .of_wp λprog w A R s h=>by
  obtain ⟨hp,g,d,tk,os⟩:=s;obtain ⟨hl,hb,hP,h⟩:=h
  have f2:=Wi
  wp_walk using U8 hl,U8 hb,Vf _ (λrest b s'=>b.1=none/\s'=⟨hp,g,d,tk,os⟩/\gR A.in1 ⟨hp,g,d,tk,os⟩ (decide (items.size < R6.size)) rest ans) _
  case turn=>
   rintro ⟨y,x⟩ rest b s' ⟨hb',rfl,hq⟩
   cases hq with
   | yes he hr=>
    refine R9 (he prog w _ _ ?_)
    wp_walk
    exact ⟨rfl,rfl,hr⟩
   | no he hlt=>
    refine R9 (he prog w _ _ ?_)
    have Rr:=hlt prog w
    wp_walk using Rr
    exact ⟨_,rfl,by simpa using h⟩
  case fin=>
   rintro ⟨b1,b2⟩ s' ⟨hb',rfl,hq⟩
   simp only at hb'
   subst hb'
   cases hq
   wp_walk
   exact ⟨_,rfl,by simpa [WI] using h⟩
  case h=>
   exact ⟨rfl,rfl,hP⟩
end
section
variable {K:R_}{J:Hp}{s:Sd}
theorem Ks {A:Td}{l b:Sq}{items R6:Array Sa}{ans:Bool}(hl:s.heap.IsTuple l items) (hb:s.heap.IsTuple b R6) (hP:gR A.in1 s (decide (items.size < R6.size)) (items.toList.zip R6.toList) ans)
  (hu:A.units < Us):uS A s (.ref l) (.ref b) ans:=λprog w E Q h=>by
 obtain ⟨⟨cls,dd,data,sl⟩,ho,hc,n,hd⟩:=id hl
 obtain ⟨⟨cls2,dd2,data2,sl2⟩,ho2,hc2,n2,hd2⟩:=id hb
 simp only at hc hd hc2 hd2
 subst hc hd hc2 hd2
 exact Yy (op:=.Lt) ⟨_,ho,rfl⟩ ⟨_,ho2,rfl⟩ PySem.F.slot_tuple_lt PySem.F.entry_tuple_lt (PySem.F.args_tuple_lt_2 _ _) (Gg l b items R6 n n2 dd dd2 sl sl2 ans)
  ⟨ho,ho2,hP,show Ve ans≠Y9/\Q (.bool ans) s from ⟨(λx=>nomatch x),h⟩⟩ hu
mutual
noncomputable def fF:D->D->Option Bool
 | .bl p,y=>match y with
  | .bl q=>some (!p && q)
  | _=>none
 | .int i,y=>match y with
  | .int j=>some (decide (i < j))
  | _=>none
 | .str x,y=>match y with
  | .str z=>some (decide (x.cps.toList < z.cps.toList))
  | _=>none
 | .tup xs,y=>match y with
  | .tup ys=>kG xs ys
  | _=>none
 | _,_=>none
noncomputable def kG:List D->List D->Option Bool
 | [],ys=>some (!ys.isEmpty)
 | x::xs,ys=>match ys with
  | []=>some false
  | y::ys=>if bx x y=true then kG xs ys else fF x y
end
theorem Kr (A:Td){p:Bool}{e:D}{w:V}{u':Sa}{b:Bool}(h:fF (.bl p) e=some b) (re:Rep K J e w) (rw':RelV w u'):uS A s (.bool p) u' b:=by
 unfold fF at h
 cases e with
 | bl q=>
  cases re
  cases rw'
  simp only [UM] at h
  subst h
  intro prog w E Q hq
  refine (lt_bool (p:=p) (q:=q) ?_:SH (SM prog w) A (Uw .Lt (.bool p) (.bool q)) Q E s)
  cases p <;> cases q <;> exact hq
 | _=>cases h
theorem Hl (A:Td){p:Int}{t:Tok}{e:D}{w:V}{u':Sa}{b:Bool}(h:fF (.int p) e=some b) (re:Rep K J e w) (rw':RelV w u'):uS A s (.int p t) u' b:=by
 unfold fF at h
 cases e with
 | int q=>
  cases re
  obtain ⟨t',rfl⟩:=rw'
  simp only [UM] at h
  subst h
  intro prog w E Q hq
  exact (acu hq:SH (SM prog w) A (Uw .Lt (.int p t) (.int q t')) Q E s)
 | _=>cases h
theorem Ho (A:Td){p:Str}{t:Tok}{e:D}{w:V}{u':Sa}{b:Bool}(h:fF (.str p) e=some b) (re:Rep K J e w) (rw':RelV w u'):uS A s (.str p t) u' b:=by
 unfold fF at h
 cases e with
 | str q=>
  cases re
  obtain ⟨t',rfl⟩:=rw'
  simp only [UM] at h
  subst h
  intro prog w E Q hq
  exact (acv hq:SH (SM prog w) A (Uw .Lt (.str p t) (.str q t')) Q E s)
 | _=>cases h
noncomputable def Gw (K:R_) (J:Hp) (s:Sd) (d:D):Prop:=∀{e:D}{v w:V}{u u':Sa}{b:Bool}(A:Td),fF d e=some b->Rep K J d v->Rep K J e w->RelV v u->RelV w u'->A.units + dep d < Us->dep d<=1000->dep e<=1000->uS A s u u' b
noncomputable def tL (K:R_) (J:Hp) (s:Sd) (ds:List D):Prop:=∀{es:List D}{vs ws:List V}{us us':List Sa}{b:Bool}{n1 n2:Nat}(A:Td),kG ds es=some b->aK K J ds vs->aK K J es ws->Vals vs us->Vals ws us'->A.units + deps ds < Us->deps ds<=1000->deps es<=1000->
  us.length + n2=us'.length + n1->gR A s (decide (n1 < n2)) (us.zip us') b
theorem Hq (F:HF K J s){ds:List D}(ih:tL K J s ds):Gw K J s (.tup ds):=by
 intro e v w u u' b A h rd re rv rw' hu k1 k2
 unfold fF at h
 cases e with
 | tup es=>
  simp only at h
  cases rd with
  | tup h1 hs=>
   cases re with
   | tup h2 hs'=>
    cases rv;cases rw'
    obtain ⟨R1,r,p⟩:=F.t _ _ h1
    obtain ⟨its',r',p'⟩:=F.t _ _ h2
    refine Ks p p' ?_ (by unfold dep at hu;omega)
    have:=ih A.in1 (n1:=R1.length) (n2:=its'.length) h hs hs' r r' (by rw [in1_units];unfold dep at hu;omega) (by unfold dep at k1;omega) (by unfold dep at k2;omega) (by omega)
    simpa using this
 | _=>cases h
theorem E2:tL K J s []:=by
 intro es vs ws us us' b n1 n2 A h rd re rv rw' hu k1 k2 hl
 cases rd;cases rv
 cases re with
 | nil=>
  cases rw'
  simp only [kG,List.isEmpty_nil,U1,UM] at h
  subst h
  have:decide (n1 < n2)=false:=decide_eq_false (by simp at hl;omega)
  rw [this]
  exact .nil
 | cons _ _=>
  cases rw'
  simp only [kG,List.isEmpty_cons,WN,UM] at h
  subst h
  have:decide (n1 < n2)=true:=decide_eq_true (by simp at hl;omega)
  rw [this]
  exact .nil
theorem Df (F:HF K J s){x:D}{xs:List D}(ix:Gw K J s x) (ih:tL K J s xs):tL K J s (x::xs):=by
 intro es vs ws us us' b n1 n2 A h rd re rv rw' hu k1 k2 hl
 cases rd with
 | cons q1 r1=>
  cases rv with
  | cons t1 u1=>
   cases re with
   | nil=>
    cases rw'
    simp only [kG,UM] at h
    subst h
    have:decide (n1 < n2)=false:=decide_eq_false (by simp at hl;omega)
    rw [this]
    exact .nil
   | cons q2 r2=>
    cases rw' with
    | cons t2 u2=>
     unfold deps at hu k1 k2
     rename_i y v' ys ws' u0 us0
     have he:=nL F A q1 q2 t1 t2 (by omega) (by omega) (by omega)
     simp only [kG] at h
     cases z:bx x y with
     | true=>
      rw [z,if_pos rfl] at h
      rw [z] at he
      exact .yes he (ih A h r1 r2 u1 u2 (by omega) (by omega) (by omega) (by simp at hl;omega))
     | false=>
      rw [z,if_neg S_] at h
      rw [z] at he
      exact .no he (ix A h q1 q2 t1 t2 (by omega) (by omega) (by omega))
mutual
theorem Pq (F:HF K J s):∀d:D,Gw K J s d
 | .bl p=>λA h rd re rv rw' _ _ _=>by cases rd;cases rv;exact Kr A h re rw'
 | .int p=>λA h rd re rv rw' _ _ _=>by cases rd;obtain ⟨t,rfl⟩:=rv;exact Hl A h re rw'
 | .str p=>λA h rd re rv rw' _ _ _=>by cases rd;obtain ⟨t,rfl⟩:=rv;exact Ho A h re rw'
 | .tup ds=>Hq F (yf F ds)
 | .non=>λA h _ _ _ _ _ _ _=>by unfold fF at h;cases h
 | .lst _=>λA h _ _ _ _ _ _ _=>by unfold fF at h;cases h
 | .emp=>λA h _ _ _ _ _ _ _=>by unfold fF at h;cases h
 | .exn _ _ _=>λA h _ _ _ _ _ _ _=>by unfold fF at h;cases h
 | .dct _ _=>λA h _ _ _ _ _ _ _=>by unfold fF at h;cases h
theorem yf (F:HF K J s):∀ds:List D,tL K J s ds
 | []=>E2
 | x::xs=>Df F (Pq F x) (yf F xs)
end
end
end DL
namespace DL
open PySem PySem.Spec PyProof.Rows L2
open PySem.W (KasT kas_sort kas_asc kas_desc kas_rev kas_tail3 kas_descPart kas_count kas_place kas_bin)
noncomputable def bh {α:Type}(q:Nat->Nat->Bool):KasT α->α
 | .ret a=>a
 | .ask i j k=>bh q (k (q i j))
inductive gn (n:Nat){α:Type}(P:α->Prop):KasT α->Prop
 | ret {a:α}:P a->gn n P (.ret a)
 | ask {i j:Nat}{k:Bool->KasT α}:i < n->j < n->(∀b,gn n P (k b))->gn n P (.ask i j k)
theorem gn.bind {n:Nat}{α β:Type}{P:α->Prop}{R:β->Prop}{f:α->KasT β}{t:KasT α}(h:gn n P t) (hf:∀a,P a->gn n R (f a)):gn n R (t.bind f):=by
 induction h with
 | ret p=>exact hf _ p
 | ask h1 h2 _ ih=>exact .ask h1 h2 ih
theorem gn.run {n:Nat}{α:Type}{P:α->Prop}{t:KasT α}(q:Nat->Nat->Bool) (h:gn n P t):P (bh q t):=by
 induction h with
 | ret p=>exact p
 | ask _ _ _ ih=>exact ih _
theorem gn.wp {n:Nat}{α:Type}{P:α->Prop}{t:KasT α}{q:Nat->Nat->Bool}{cmp:Nat->Nat->(Bool->Sd->Prop)->Sd->Prop}{s:Sd}{G:α->Sd->Prop}(h:gn n P t)
  (hc:∀i j C,i < n->j < n->C (q i j) s->cmp i j C s) (hG:G (bh q t) s):t.kasWp cmp G s:=by
 induction h with
 | ret p=>exact hG
 | ask h1 h2 _ ih=>exact hc _ _ _ h1 h2 (ih _ hG)
def gI (n:Nat) (p:Array Nat):Prop:=p.Perm (Se n).toArray
theorem gI.lt {n:Nat}{p:Array Nat}(h:gI n p) (hn:0 < n) (k:Nat):p.getD k 0 < n:=by
 by_cases hk:k < p.size
 ·have e:p.getD k 0=p[k]:=by simp [UN,hk]
  rw [e]
  have hm:p[k]∈p:=Array.getElem_mem hk
  have:=(ZI h).mp hm
  simpa using this
 ·have e:p.getD k 0=0:=by simp [UN,hk]
  rw [e];exact hn
theorem gI.rev {n:Nat}{p:Array Nat}(h:gI n p) (i j:Nat):gI n (WZ p i j):=(mirror_perm _ _ _ _).trans h
theorem gI.bub {n:Nat}{p:Array Nat}(h:gI n p) (i j:Nat):gI n (bubble p i j):=(bubble_perm _ _ _).trans h
variable {n:Nat}
theorem Cw {p:Array Nat}(hn:0 < n) (h:gI n p):∀f m,gn n (λ_:Nat=>True) (W0 p f m)
 | 0,m=>.ret trivial
 | f + 1,m=>.ask (h.lt hn _) (h.lt hn _) λb=>by cases b with
  | true=>exact .ret trivial
  | false=>exact Cw hn h f (m + 1)
theorem tW (hn:0 < n):∀f {p:Array Nat} m q,gI n p->gn n (λr:Array Nat×Nat×Nat=>gI n r.1) (U3 f p m q)
 | 0,p,m,q,h=>.ret h
 | f + 1,p,m,q,h=>.ask (h.lt hn _) (h.lt hn _) λb=>by
  cases b with
  | true=>
   simp only [if_true]
   by_cases hq:q > 0
   ·rw [if_pos hq];exact tW hn f _ _ (h.rev _ _)
   ·rw [if_neg hq];exact tW hn f _ _ h
  | false=>
   simp only [SE,if_false]
   refine .ask (h.lt hn _) (h.lt hn _) λb=>?_
   cases b with
   | true=>exact .ret h
   | false=>exact tW hn f _ _ h
theorem D_ (hn:0 < n){p:Array Nat}(h:gI n p) (m k:Nat):gn n (λr:Nat×Array Nat=>gI n r.2) (ab1 m k p):=(Cw hn (h.rev 0 m) _ _).bind λa _=>.ret (h.rev _ _)
theorem Bp (hn:0 < n){p:Array Nat}(h:gI n p) (m k:Nat):gn n (λr:Nat×Array Nat=>gI n r.2) (aah m k p):=(tW hn _ _ _ h).bind λr hr=>by
 split
 ·exact D_ hn (hr.rev _ _) _ _
 ·exact D_ hn hr _ _
theorem JF (hn:0 < n){p:Array Nat}(h:gI n p) (k:Nat):gn n (λr:Nat×Array Nat=>gI n r.2) (aaG k p):=(Cw hn h _ _).bind λm _=>by
 split
 ·exact .ret h
 ·split
  ·refine .ask (h.lt hn _) (h.lt hn _) λb=>?_
   cases b with
   | true=>exact .ret h
   | false=>exact Bp hn (h.rev _ _) _ _
  ·exact Bp hn h _ _
theorem uZ (hn:0 < n){p:Array Nat}(h:gI n p) (k:Nat):∀f l r,gn n (λ_:Nat=>True) (Vk p k f l r)
 | 0,l,r=>.ret trivial
 | f + 1,l,r=>by
  unfold Vk
  split
  ·exact .ret trivial
  ·refine .ask (h.lt hn _) (h.lt hn _) λb=>?_
   cases b with
   | true=>exact uZ hn h k f _ _
   | false=>exact uZ hn h k f _ _
theorem IQ (hn:0 < n):∀f {p:Array Nat} k,gI n p->gn n (gI n) (abI f p k)
 | 0,p,k,h=>.ret h
 | f + 1,p,k,h=>(uZ hn h k _ _ _).bind λl _=>IQ hn f _ (h.bub _ _)
theorem kc (hn:0 < n):gn n (gI n) (V9 n):=(JF hn (show gI n _ from acU _) n).bind λr hr=>by
 split
 ·exact IQ hn _ _ hr
 ·exact .ret hr
end DL
namespace DL
open PySem PySem.Spec PyProof.Rows L2
open PySem.W (KasT kas_sort kas_ask kas_item kat_run kat_snds KatLex kat_cons kat_yes kat_no kat_lt kat_one KatTups kat_kind Looks)
section
variable {prog:Sy}{w:S9}{A:Td}{E:Sa->Sd->Prop}{s:Sd}
def qw (q:Nat->Nat->Bool) (vs:List Sa):List Sa:=(bh q (V9 vs.length)).toList.map λi=>vs.getD i TU
theorem HA (q:Nat->Nat->Bool){vs:List Sa}(h:0 < vs.length):(qw q vs).length=vs.length:=by
 unfold qw
 rw [Sh,Ss]
 have:=((kc h).run q:gI _ _).size_eq
 simpa using this
theorem Dc {a:Sq}{vs:List Sa}{n:Nat}{κ:acF}{q:Nat->Nat->Bool}{P:acV->Sd->Prop}(ho:s.heap.get? a=some (VP "list" vs.toArray n)) (h2:2<=vs.length) (h64:vs.length < 64)
  (hk:∀h' C,(∀b o,b≠a->s.heap.get? b=some o->h'.get? b=some o)->C κ {s with heap:=h'}->SH (SM prog w) A (acG vs.toArray) C (λ_ _=>False) {s with heap:=h'})
  (hc:∀h',(∀b o,b≠a->s.heap.get? b=some o->h'.get? b=some o)->∀i j C,i < vs.length->j < vs.length->C (q i j) {s with heap:=h'}->kas_ask prog w A κ vs i j C {s with heap:=h'})
  (h:P (.done (.ret .none)) {s with heap:=abu s.heap a vs (qw q vs).toArray}):SH (SM prog w) A (WX.«list.sort» ⟨[.ref a],[]⟩) P E s:=by
 have la:a < s.heap.objs.size:=SA ho
 have sl:vs.length<=sizeLine:=by rw [Uc];omega
 obtain ⟨e1,g1⟩:∃e1,(s.heap.update a (UU λ_=>(#[]:Array Sa))).get? a=some (VP "list" #[] e1):=⟨_,(aaH ho λ_=>#[])⟩
 have z1:(s.heap.update a (UU λ_=>(#[]:Array Sa))).objs.size=s.heap.objs.size:=(aaq _ _ _)
 have g3:(((s.heap.update a (UU λ_=>(#[]:Array Sa))).push (VP "tuple" vs.toArray 0)).push (VP "list" #[] 0)).get? a=some (VP "list" #[] e1):=(Sm _ ((Sm _ g1)))
 have kp:∀b o,b≠a->s.heap.get? b=some o->(((s.heap.update a (UU λ_=>(#[]:Array Sa))).push (VP "tuple" vs.toArray 0)).push (VP "list" #[] 0)).get? b=some o:=λb o nb q=>
  Sm _ (Sm _ (by rw [Zm _ _ _ _ nb];exact q))
 rw [aaI]
 refine R9 ((listItems_at ho rfl ?_))
 refine R9 (Yi ho rfl ?_ (by rw [Su];exact sl) (SQ _))
 refine R9 ((Zn g1 rfl ?_))
 refine R9 (aa6 ?_ (show vs.length<=_ from sl))
 refine R9 ((ZJ ?_ (SQ _)))
 refine (Te ?_)
 dsimp only
 have n2:¬vs.toArray.size < 2:=by (rw [Su]);omega
 rw [if_neg n2,if_neg n2]
 refine R9 (Tr (hk _ (λk s'=>k=κ/\s'=_) kp ⟨rfl,rfl⟩) ?_ λ_ _ x=>x.elim)
 rintro _ _ ⟨rfl,rfl⟩
 refine R9 (Tr (kat_run (E:=E) (Q:=λst' s'=>∃p:Array Nat,p.size=vs.length/\arrOf st'=p.map (kas_item (vs.toArray.zip vs.toArray))/\failedOf st'=none/\p=bh q (V9 vs.length)/\s'=_)
  rfl h2 h64 (λp' st' s' a1 a2 a3 a4=>⟨p',a1,a2,a3,a4⟩) ((kc (by omega)).wp (q:=q) (hc _ kp) ⟨rfl,rfl⟩)) ?_ λ_ _ e=>e)
 rintro ⟨⟨⟩,st'⟩ s' ⟨p,hp,har,hf,rfl,rfl⟩
 dsimp only
 have ou:(arrOf st').map (·.2)=(qw q vs).toArray:=kat_snds rfl har
 rw [ou]
 refine R9 ((Zn g3 rfl ?_))
 refine R9 (Yi g3 rfl ?_ (SQ _) (S5 (abX (Su.trans (HA q (SI Nat.zero_lt_two h2)))) (Nat.le_succ_of_le sl)))
 rw [hf]
 simp only [bne_self_eq_false,SE,if_false]
 exact Sb h
end
end DL
namespace DL
open PySem PySem.Spec PyProof.Rows L2
open PySem.W (KasT kas_sort kas_ask KatLex kat_nil kat_cons kat_yes kat_no kat_lt kat_one KatTups kat_kind Looks)
section
variable {prog:Sy}{w:S9}{A:Td}{E:Sa->Sd->Prop}{s:Sd}{K:R_}{J:Hp}
theorem wI {fin ans:Bool}{Q:Bool->Sd->Prop}{zs:List (Sa×Sa)}{b:Bool}(h:gR A s fin zs ans) (hq:Q ans s):∀{i:Nat},(b && i == 0)=false->KatLex prog w A b fin Q zs i s:=by
 induction h with
 | nil=>intro i _;exact kat_nil hq
 | yes he _ ih=>intro i _;exact abJ (he prog w _ _ (kat_yes (ih hq (by cases b <;> rfl))))
 | no he hl=>
  intro i hb
  refine abJ (he prog w _ _ (kat_no ?_))
  rw [hb]
  exact kat_one _ _ (hl prog w _ _ hq)
theorem Kl {fin ans e:Bool}{Q:Bool->Sd->Prop}{u u':Sa}{zs:List (Sa×Sa)}(he:UT A s u u' e) (h1:e=true->gR A s fin zs ans)
  (h2:e=false->SH (SM prog w) A (oneLt' true u u') Q (λ_ _=>False) s) (hq:Q ans s):KatLex prog w A true fin Q ((u,u')::zs) 0 s:=by
 cases e with
 | true=>exact abJ (he prog w _ _ (kat_yes (wI (h1 rfl) hq rfl)))
 | false=>exact abJ (he prog w _ _ (kat_no (h2 rfl)))
inductive Hd where
 | t | i | x
noncomputable def ia:D->Option Hd
 | .tup (.tup _::_)=>some .t
 | .tup (.int _::_)=>some .i
 | .tup (.str _::_)=>some .x
 | _=>none
noncomputable def Hd.flag:Hd->Bool
 | .t=>false
 | _=>true
noncomputable def Hd.ty:Hd->Sa
 | .t=>.type "tuple"
 | .i=>.type "int"
 | .x=>.type "str"
theorem Hz {x y:D}{v v':V}{u u':Sa}{k:Hd}{b:Bool}{C:Bool->Sd->Prop}{xs ys:List D}(hd:ia (.tup (x::xs))=some k) (he:ia (.tup (y::ys))=some k) (hf:k.flag=true) (h:fF x y=some b) (rd:Rep K J x v) (re:Rep K J y v') (rv:RelV v u) (rv':RelV v' u') (c:C b s):
  SH (SM prog w) A (oneLt' true u u') C E s:=by
 cases x with
 | int x=>
  cases hd
  cases y with
  | int y=>
   cases rd;cases re
   obtain ⟨tk,rfl⟩:=rv
   obtain ⟨tk',rfl⟩:=rv'
   unfold fF at h
   simp only [UM] at h
   refine oneLt_int ?_
   rw [h];exact c
  | _=>cases he
 | str x=>
  cases hd
  cases y with
  | str y=>
   cases rd;cases re
   obtain ⟨tk,rfl⟩:=rv
   obtain ⟨tk',rfl⟩:=rv'
   unfold fF at h
   simp only [UM] at h
   refine oneLt_str ?_
   rw [h];exact c
  | _=>cases he
 | tup _=>cases hd;cases hf
 | _=>cases hd
theorem Km (F:HF K J s){d e:D}{v v':V}{u u':Sa}{k:Hd}{b:Bool}{C:Bool->Sd->Prop}(hd:ia d=some k) (he:ia e=some k) (h:fF d e=some b) (rd:Rep K J d v) (re:Rep K J e v') (rv:RelV v u) (rv':RelV v' u')
  (hu:A.units + dep d < Us) (k1:dep d<=1000) (k2:dep e<=1000) (c:C b s):SH (SM prog w) A (keyLt' (tuples' k.flag) u u') C E s:=by
 cases d with
 | tup ds=>
  cases e with
  | tup es=>
   unfold fF at h
   simp only at h
   cases rd with
   | tup h1 hs=>
    cases re with
    | tup h2 hs'=>
     cases rv;cases rv'
     obtain ⟨R1,r,p⟩:=F.t _ _ h1
     obtain ⟨its',r',p'⟩:=F.t _ _ h2
     obtain ⟨o,ho,hc,m,dm⟩:=id p
     obtain ⟨o',ho',hc',m',dm'⟩:=id p'
     refine kat_lt ho dm ho' dm' ?_
     simp only [Su]
     cases hf:k.flag with
     | false=>
      exact wI (yf F ds A (n1:=R1.length) (n2:=its'.length) h hs hs' r r' (by unfold dep at hu;omega) (by unfold dep at k1;omega) (by unfold dep at k2;omega) (by omega)) c rfl
     | true=>
      cases hs with
      | nil=>cases hd
      | cons q1 t1=>
       cases hs' with
       | nil=>cases he
       | cons q2 t2=>
        cases r with
        | cons a1 b1=>
         cases r' with
         | cons a2 b2=>
          unfold dep deps at hu k1 k2
          rw [Xs]
          unfold kG at h
          simp only at h
          refine Kl (ans:=b) (nL F A q1 q2 a1 a2 (by omega) (by omega) (by omega)) (λz=>?_) (λz=>?_) c
          ·rw [z,if_pos rfl] at h
           exact yf F _ A h t1 t2 b1 b2 (by omega) (by omega) (by omega) (by simp;omega)
          ·rw [z,if_neg S_] at h
           exact Hz hd he hf h q1 q2 a1 a2 c
  | _=>cases he
 | _=>cases hd
noncomputable def iy (k:Hd):List D->Bool
 | []=>true
 | d::r=>(match ia d,k with
  | some .t,.t=>true
  | some .i,.i=>true
  | some .x,.x=>true
  | _,_=>false) && iy k r
theorem mE {k:Hd}:∀{ds:List D},iy k ds=true->∀d∈ds,ia d=some k
 | [],_,_,hm=>nomatch hm
 | x::r,h,d,hm=>by
  unfold iy at h
  rw [Sk] at h
  rcases SD.mp hm with rfl | hm
  ·cases q:ia d with
   | none=>rw [q] at h;cases h.1
   | some k'=>rw [q] at h;cases k' <;> cases k <;> first | rfl | cases h.1
  ·exact mE h.2 d hm
theorem EL (F:HF K J s){d:D}{v:V}{u:Sa}{k:Hd}(hd:ia d=some k) (rd:Rep K J d v) (rv:RelV v u):∃a o xs n f,u=.ref a/\s.heap.get? a=some o/\o.cls=.type "tuple"/\o.data=.seq xs n/\xs[0]?=some f/\Looks (SM prog w) s.heap (typeOf f) k.ty:=by
 cases d with
 | tup ds=>
  cases rd with
  | tup h1 hs=>
   cases rv
   obtain ⟨R1,r,p⟩:=F.t _ _ h1
   obtain ⟨o,ho,hc,m,dm⟩:=id p
   cases hs with
   | nil=>cases hd
   | cons q1 t1=>
    cases r with
    | cons a1 b1=>
     refine ⟨_,o,_,m,_,rfl,ho,hc,dm,rfl,?_⟩
     rename_i x v' ds' vs' u us
     cases x with
     | tup _=>
      cases hd
      cases q1 with
      | tup h2 _=>
       cases a1
       obtain ⟨its2,_,p2⟩:=F.t _ _ h2
       obtain ⟨o2,ho2,hc2,_,_⟩:=id p2
       have:=(Looks.ld (M:=SM prog w) (part:=none) ho2).andThen (f:=λo=>pure o.cls) (b:=o2.cls) .now
       rw [hc2] at this
       exact this
     | int _=>
      cases hd
      cases q1
      obtain ⟨tk,rfl⟩:=a1
      exact .now
     | str _=>
      cases hd
      cases q1
      obtain ⟨tk,rfl⟩:=a1
      exact .now
     | _=>cases hd
 | _=>cases hd
theorem ug (F:HF K J s){k:Hd}:∀{ds:List D}{vs:List V}{us:List Sa},iy k ds=true->aK K J ds vs->Vals vs us->∃fs,KatTups s.heap us fs/\fs.length=us.length/\∀v∈fs,Looks (SM prog w) s.heap (typeOf v) k.ty
 | _,_,_,_,.nil,.nil=>⟨[],trivial,rfl,λ_ h=>nomatch h⟩
 | d::ds,_,_,h,.cons q rs,.cons a b=>by
  have hd:=mE h d (Si ..)
  unfold iy at h
  rw [Sk] at h
  obtain ⟨fs,h1,h2,h3⟩:=ug F h.2 rs b
  obtain ⟨p,o,xs,n,f,rfl,e1,e2,e3,e4,e5⟩:=EL (prog:=prog) (w:=w) F hd q a
  refine ⟨f::fs,⟨⟨p,o,xs,n,rfl,e1,e2,e3,e4⟩,h1⟩,by simp [h2],λv hv=>?_⟩
  rcases SD.mp hv with rfl | hv
  ·exact e5
  ·exact h3 v hv
theorem JV (k:Hd):(k.ty != WG "tuple")=k.flag:=by cases k <;> decide
theorem EW (F:HF K J s){k:Hd}{ds:List D}{vs:List V}{us:List Sa}(h:iy k ds=true) (rs:aK K J ds vs) (rv:Vals vs us) (hl:0 < us.length){C:acF->Sd->Prop}(c:C (tuples' k.flag) s):SH (SM prog w) A (acG us.toArray) C E s:=by
 obtain ⟨fs,h1,h2,h3⟩:=ug (prog:=prog) (w:=w) F h rs rv
 refine kat_kind h1 (by omega) h3 (by cases k <;> decide) ?_
 rw [JV]
 exact c
end
end DL
namespace DL
open PySem PySem.Spec PyProof.Rows L2
open PySem.W (KasT kas_sort kas_ask)
section
variable {prog:Sy}{w:S9}{A:Td}{E:Sa->Sd->Prop}{s:Sd}
theorem C_ {a:Sq}{vs:List Sa}{n:Nat}{P:acV->Sd->Prop}(ho:s.heap.get? a=some (VP "list" vs.toArray n)) (h2:vs.length < 2)
  (h:P (.done (.ret .none)) {s with heap:=abu s.heap a vs vs.toArray}):SH (SM prog w) A (WX.«list.sort» ⟨[.ref a],[]⟩) P E s:=by
 have sl:vs.length<=sizeLine:=by rw [Uc];omega
 obtain ⟨e1,g1⟩:∃e1,(s.heap.update a (UU λ_=>(#[]:Array Sa))).get? a=some (VP "list" #[] e1):=⟨_,(aaH ho λ_=>#[])⟩
 have g3:(((s.heap.update a (UU λ_=>(#[]:Array Sa))).push (VP "tuple" vs.toArray 0)).push (VP "list" #[] 0)).get? a=some (VP "list" #[] e1):=(Sm _ ((Sm _ g1)))
 rw [aaI]
 refine R9 ((listItems_at ho rfl ?_))
 refine R9 (Yi ho rfl ?_ (by rw [Su];exact sl) (SQ _))
 refine R9 ((Zn g1 rfl ?_))
 refine R9 (aa6 ?_ (show vs.length<=_ from sl))
 refine R9 ((ZJ ?_ (SQ _)))
 refine (Te ?_)
 dsimp only
 have n2:vs.toArray.size < 2:=by (rw [Su]);omega
 rw [if_pos n2,if_pos n2]
 refine (R9 (Sb ?_))
 rw [StateT.run_pure]
 refine (R9 (Sb ?_))
 dsimp only
 have ou:(arrOf (SortSt.mk' general' (vs.toArray.zip vs.toArray) #[] 7 none)).map (·.2)=vs.toArray:=by
  show (vs.toArray.zip vs.toArray).map (·.2)=vs.toArray
  match vs,h2 with
  | [],_=>simp
  | [_],_=>simp
 rw [ou]
 refine R9 ((Zn g3 rfl ?_))
 refine R9 (Yi g3 rfl ?_ (SQ _) (by rw [Su];omega))
 simp only [bne_self_eq_false,SE,if_false]
 exact Sb h
abbrev Kp (h h':Ui):Prop:=∀b o,h.get? b=some o->h'.get? b=some o
noncomputable def yo (prog:Sy) (w:S9) (A:Td) (s:Sd) (vs:List Sa) (q:Nat->Nat->Bool):Prop:=2<=vs.length->∃κ,∀h' tk,Kp s.heap h'->
 (∀C:acF->Sd->Prop,C κ {s with heap:=h',toks:=tk}->SH (SM prog w) A (acG vs.toArray) C (λ_ _=>False) {s with heap:=h',toks:=tk})/\
 ∀i j (C:Bool->Sd->Prop),i < vs.length->j < vs.length->C (q i j) {s with heap:=h',toks:=tk}->kas_ask prog w A κ vs i j C {s with heap:=h',toks:=tk}
noncomputable def Coll (prog:Sy) (w:S9) (A:Td) (s:Sd) (x:Sa) (vs:List Sa):Prop:=∀(E:Sa->Sd->Prop) (C:List Sa->Sd->Prop),(∀h1 tk,Kp s.heap h1->s.heap.objs.size<=h1.objs.size->C vs {s with heap:=h1,toks:=tk})->SH (SM prog w) A (collect x) C E s
theorem Br {a:Sq}{T:String}{o:Obj}{vs:List Sa}{n:Nat}(hT:T="list"\/T="tuple") (ho:s.heap.get? a=some o) (hc:o.cls=.type T) (hd:o.data=.seq vs.toArray n) (sl:vs.length<=sizeLine):Coll prog w A s (.ref a) vs:=by
 intro E C h
 generalize hh:(s.heap.push (VP "list" #[] 0)).update s.heap.objs.size (UU (·++vs.toArray))=h1
 have hS:(s.heap.push (VP "list" #[] 0)).get? s.heap.objs.size=some (VP "list" #[] 0):=Sw _ rfl
 have Q5:=Ue (UU (·++vs.toArray)) hS rfl
 rw [hh] at Q5
 have k1:Kp s.heap h1:=λb o e=>by
  rw [<-hh,Zm _ _ _ _ (S4 (SA e))]
  exact Sm _ e
 have z1:s.heap.objs.size<=h1.objs.size:=by rw [<-hh,aaq,size_push'];exact VF _
 have fin:=h h1 s.toks k1 z1
 unfold collect
 refine R9 (Ze (UE YM ?_))
 rw [T7 YN _]
 show SH _ A.in1 (acw [] >>= λl=>again (.builtin "list.__iadd__" ⟨[l,.ref a],[]⟩)) _ _ s
 refine R9 (Tg ?_)
 refine Sb ⟨VG WJ _,UE Z6 ?_⟩
 rw [T7 WJ _]
 have fin':SH (SM prog w) A (load s.heap.objs.size >>= λo=>match o.data with
   | .seq xs _=>pure xs.toList
   | _=>unsupported "internal:collect") C E {s with heap:=h1}:=by
  refine R9 (abk Q5 (Sb ?_))
  have e:((#[]:Array Sa)++vs.toArray).toList=vs:=by simp
  show C ((#[]:Array Sa)++vs.toArray).toList _
  rw [e]
  exact fin
 refine Tr (wpAny_extend_seq (hsz:=by rw [Su];exact sl) (A:=A) (R:=λr s'=>r=.ok (.ret (.ref s.heap.objs.size))/\s'={s with heap:=h1})
  (s:={s with heap:=s.heap.push (VP "list" #[] 0)}) _ a _ 0 hT hS (Sm _ ho) hc hd ⟨rfl,by rw [<-hh]⟩) (λf s' q=>?_) (λe s' q=>absurd q.1 (by simp))
 cases f with
 | done f=>
  obtain ⟨e,rfl⟩:=q
  cases e
  exact fin'
 | again c'=>exact ⟨q.1,VA q.2 λr s'' hr=>by obtain ⟨rfl,rfl⟩:=hr;exact fin'⟩
theorem Li {x:Sa}{q:Nat->Nat->Bool}{Q:Sa->Sd->Prop}{vs:List Sa}(Q3:Coll prog w A.in1 s x vs) (h64:vs.length < 64) (ha:yo prog w A.in1.in1 s vs q)
  (h:∀h' tk l n,Kp s.heap h'->s.heap.objs.size<=l->h'.get? l=some (VP "list" (if vs.length < 2 then vs else qw q vs).toArray n)->Q (.ref l) {s with heap:=h',toks:=tk}):SH (SM prog w) A (call (.builtin "sorted") [x]) Q E s:=by
 have sl:vs.length<=sizeLine:=by rw [Uc];omega
 refine (Calls.call_function_entry kind_sorted plain_sorted entry_sorted (args_sorted1 _) ?_)
 unfold WX.«sorted»
 refine R9 (m:=checkCount "sorted" 1 1 _) ((Sb ?_))
 refine R9 (Q3 _ _ λh1 tk1 k1 le1=>?_)
 refine R9 (ZJ ?_ sl)
 have gL:(h1.push (VP "list" vs.toArray 0)).get? h1.objs.size=some (VP "list" vs.toArray 0):=Sw _ rfl
 have kp:∀b o,s.heap.get? b=some o->b≠h1.objs.size/\(h1.push (VP "list" vs.toArray 0)).get? b=some o:=λb o e=>by
  have e1:=k1 b o e
  exact ⟨S4 (SA e1),Sm _ e1⟩
 have kend:∀out,Kp s.heap (abu (h1.push (VP "list" vs.toArray 0)) h1.objs.size vs out):=λout b o e=>by
  obtain ⟨g1,g2'⟩:=kp b o e
  rw [sortedHeap_old g1 (SA g2')]
  exact g2'
 dsimp only
 by_cases h2:vs.length < 2
 ·refine R9 (Te (Tz aa7 ⟨_,gL,rfl⟩ aaJ (C_ gL h2 ⟨_,rfl,?_⟩) (aa8 _)))
  obtain ⟨n,hn'⟩:=abK (out:=vs.toArray) gL
  rw [if_pos h2] at h
  exact Sb ⟨_,rfl,h _ tk1 _ n (kend _) le1 hn'⟩
 ·obtain ⟨κ,ask⟩:=ha (by omega)
  refine R9 (Te (Tz aa7 ⟨_,gL,rfl⟩ aaJ (Dc (κ:=κ) (q:=q) gL (by omega) h64 (λh' C k c=>?_) (λh' k i j C hi hj c=>?_) ⟨_,rfl,?_⟩) (aa8 _)))
  ·exact (ask h' tk1 λb o e=>k b o (kp b o e).1 (kp b o e).2).1 C c
  ·exact (ask h' tk1 λb o e=>k b o (kp b o e).1 (kp b o e).2).2 i j C hi hj c
  ·obtain ⟨n,hn'⟩:=abK (out:=(qw q vs).toArray) gL
   rw [if_neg h2] at h
   exact Sb ⟨_,rfl,h _ tk1 _ n (kend _) le1 hn'⟩
end
def dZ (ds:List D) (i:Nat):D:=ds.getD i .non
def ltB (ds:List D) (i j:Nat):Bool:=(fF (dZ ds i) (dZ ds j)).getD false
def cY (ds:List D):List D:=if ds.length < 2 then ds else (bh (ltB ds) (V9 ds.length)).toList.map (dZ ds)
def L4 (ds:List D):Bool:=ds.all λx=>ds.all λy=>(fF x y).isSome
noncomputable def ML (ds:List D):Bool:=match ds with
 | []=>false
 | d::_=>match ia d with
  | some k=>iy k ds
  | none=>false
def E5 (ds:List D):Bool:=decide (ds.length < 2) || (decide (ds.length < 64) && (decide (deps ds<=60) && (ML ds && L4 ds)))
section
variable {K:R_}{J:Hp}
theorem iX {ds:List D}{vs:List V}(h:aK K J ds vs):∀{i:Nat},i < ds.length->Rep K J (dZ ds i) (vs.getD i V.non):=by
 induction ds generalizing vs with
 | nil=>intro i hi;exact absurd hi (TL _)
 | cons x r ih=>
  intro i hi
  cases h with
  | cons q rs=>
   cases i with
   | zero=>simpa [dZ] using q
   | succ i=>simpa [dZ] using ih rs (i:=i) (by simpa using hi)
theorem i7 {vs:List V}{us:List Sa}(h:Vals vs us):∀{i:Nat},i < vs.length->RelV (vs.getD i V.non) (us.getD i TU):=by
 induction vs generalizing us with
 | nil=>intro i hi;exact absurd hi (TL _)
 | cons x r ih=>
  intro i hi
  cases h with
  | cons q rs=>
   cases i with
   | zero=>simpa using q
   | succ i=>simpa using ih rs (i:=i) (by simpa using hi)
theorem BX {ds:List D}{vs:List V}(h:aK K J ds vs):∀ix:List Nat,(∀i∈ix,i < ds.length)->aK K J (ix.map (dZ ds)) (ix.map λi=>vs.getD i V.non)
 | [],_=>.nil
 | i::r,hi=>.cons (iX h (hi i (Si ..))) (BX h r λj hj=>hi j (Sg _ hj))
theorem B8 {vs:List V}{us:List Sa}(h:Vals vs us):∀ix:List Nat,(∀i∈ix,i < vs.length)->Vals (ix.map λi=>vs.getD i V.non) (ix.map λi=>us.getD i TU)
 | [],_=>.nil
 | i::r,hi=>.cons (i7 h (hi i (Si ..))) (B8 h r λj hj=>hi j (Sg _ hj))
theorem JS {ds:List D}:∀{i:Nat},i < ds.length->dep (dZ ds i)<=deps ds:=by
 induction ds with
 | nil=>intro i hi;exact absurd hi (TL _)
 | cons x r ih=>
  intro i hi
  unfold deps
  cases i with
  | zero=>show dep x<=_;omega
  | succ i=>
   have:=ih (i:=i) (by simpa using hi)
   have e:dZ (x::r) (i + 1)=dZ r i:=rfl
   rw [e];omega
theorem i9 {ds:List D}{i:Nat}(hi:i < ds.length):dZ ds i∈ds:=by
 have e:dZ ds i=ds[i]:=by simp [dZ,hi]
 rw [e];exact Tt hi
theorem HF.keep {s s':Sd}(F:HF K J s) (k:∀b o,s.heap.get? b=some o->s'.heap.get? b=some o):HF K J s':=
 ⟨λa xs h=>let ⟨R1,r,o,ho,p⟩:=F.t a xs h;⟨R1,r,o,k _ _ ho,p⟩,λa xs h=>let ⟨R1,r,o,ho,p⟩:=F.l a xs h;⟨R1,r,o,k _ _ ho,p⟩,λa h=>let ⟨o,ho,p⟩:=F.e a h;⟨o,k _ _ ho,p⟩,λa ep R7 h=>let ⟨o,es,ho,p⟩:=F.d a ep R7 h;⟨o,es,k _ _ ho,p⟩⟩
theorem D8 {prog:Sy}{w:S9}{A:Td}{s:Sd}{k:Hd}{ds:List D}{vs:List V}{R1:List Sa}(F:HF K J s) (rs:aK K J ds vs) (rv:Vals vs R1) (hk:∀d∈ds,ia d=some k/\dep d<=60) (hk':iy k ds=true) (hc:∀x∈ds,∀y∈ds,(fF x y).isSome=true) (hu:A.units + 62 < Us):yo prog w A s R1 (ltB ds):=by
 intro h2
 have l1:vs.length=R1.length:=rv.length
 have l2:ds.length=vs.length:=rs.length
 refine ⟨tuples' k.flag,λh' tk kp=>⟨λC cc=>EW (F.keep kp) hk' rs rv (by omega) cc,λi j C hi hj cc=>?_⟩⟩
 have hi':i < ds.length:=by omega
 have hj':j < ds.length:=by omega
 obtain ⟨a1,d1⟩:=hk _ (i9 hi')
 obtain ⟨a2,d2⟩:=hk _ (i9 hj')
 have hb:fF (dZ ds i) (dZ ds j)=some (ltB ds i j):=by
  have:=hc _ (i9 hi') _ (i9 hj')
  unfold ltB
  cases z:fF (dZ ds i) (dZ ds j) with
  | none=>rw [z] at this;cases this
  | some b=>rfl
 exact Km (F.keep kp) a1 a2 hb (iX rs hi') (iX rs hj') (i7 rv (by omega)) (i7 rv (by omega)) (by omega) (by omega) (by omega) cc
end
noncomputable def isInt:D->Bool
 | .int _=>true
 | _=>false
def wL (ds:List D):Bool:=decide (ds.length < 64) && ds.all isInt
theorem BC {K:R_}{J:Hp}:∀{ds:List D}{vs:List V}{us:List Sa},ds.all isInt=true->aK K J ds vs->Vals vs us->∃ns,Wc us ns
 | _,_,_,_,.nil,.nil=>⟨[],.nil⟩
 | d::ds,_,_,h,.cons r rs,.cons v vs=>by
  (rw [VE,Sk] at h)
  obtain ⟨ns,hn⟩:=BC h.2 rs vs
  cases d with
  | int i=>
   cases r
   obtain ⟨t,rfl⟩:=v
   exact ⟨i::ns,.cons i t hn⟩
  | _=>cases h.1
theorem D7 {K:R_}{J:Hp}{prog:Sy}{w:S9}{A:Td}{s:Sd}{ds:List D}{vs:List V}{R1:List Sa}(rs:aK K J ds vs) (rv:Vals vs R1) (hi:ds.all isInt=true):yo prog w A s R1 (ltB ds):=by
 intro h2
 have l1:vs.length=R1.length:=rv.length
 have l2:ds.length=vs.length:=rs.length
 obtain ⟨ns,hI⟩:=BC hi rs rv
 refine ⟨oneType',λh' tk kp=>⟨λC cc=>?_,λi j C hi' hj' cc=>?_⟩⟩
 ·clear l1 rv
  match R1,hI,h2 with
  | v1::v2::r,hI,_=>rw [keyKind_ints hI];exact Sb cc
 ·have ai:=SK.mp hi _ (i9 (i:=i) (by omega))
  have aj:=SK.mp hi _ (i9 (i:=j) (by omega))
  have r1:=iX rs (i:=i) (by omega)
  have r2:=iX rs (i:=j) (by omega)
  have v1:=i7 rv (i:=i) (by omega)
  have v2:=i7 rv (i:=j) (by omega)
  show SH _ _ (keyLt' oneType' (R1.getD i TU) (R1.getD j TU)) _ _ _
  rw [keyLt'_oneType]
  have e:ltB ds i j=(fF (dZ ds i) (dZ ds j)).getD false:=rfl
  rw [e] at cc
  generalize dZ ds i=di at ai r1 cc
  generalize dZ ds j=dj at aj r2 cc
  generalize vs.getD i V.non=wi at r1 v1
  generalize vs.getD j V.non=wj at r2 v2
  cases di with
  | int a=>
   cases dj with
   | int b=>
    cases r1;cases r2
    obtain ⟨t1,q1⟩:=v1
    obtain ⟨t2,q2⟩:=v2
    rw [q1,q2]
    refine oneLt_int ?_
    unfold fF at cc
    exact cc
   | _=>cases aj
  | _=>cases ai
section
variable {X:Cx}{c:C}{e:Tc}{es:List Tc}{pos:Pos}
theorem mV {R0:List (Sq×Obj)}{s:Sd}{σ:L2.St}{H:Hp}{Q:VK}{E:Sa->Sd->Prop}{x:Sa}{R1:List Sa}{vs:List V}{ds:List D}(I:Inv X R0 σ H s) (Q3:Coll X.prog X.w X.A.in1 s x R1) (rv:Vals vs R1) (l2:ds.length=vs.length) (l64:ds.length < 64)
  (ha:yo X.prog X.w X.A.in1.in1 s R1 (ltB ds)) (q:∀l vs',H l=none->(∀J,aK X.K J ds vs->aK X.K J (cY ds) vs')->Q (.ref l) (upd H l (.lst vs'))):SH (SM X.prog X.w) X.A (call (.builtin "sorted") [x]) (EP X R0 σ Q) E s:=by
 have l1:vs.length=R1.length:=rv.length
 refine Li Q3 (by omega) ha λh' tk l n kp hl hg=>?_
 have fin:∀(ot:List Sa) (vs':List V),vs'.length=vs.length->Vals vs' ot->(∀J,aK X.K J ds vs->aK X.K J (cY ds) vs')->h'.get? l=some (VP "list" ot.toArray n)->EP X R0 σ Q (.ref l) {s with heap:=h',toks:=tk}:=λot vs' lv rv' rr hg=>
  ⟨.ref l,_,I.laid (t':=tk) kp hl (show dw X.prog X.w _ _ _ (.lst vs') from ⟨by rw [lv,Uc];omega,ot,n,rv',by simpa [VP] using hg⟩),rfl,q l vs' (I.hok.fresh hl) rr⟩
 by_cases h2:R1.length < 2
 ·rw [if_pos h2] at hg
  refine fin R1 vs rfl rv (λJ rj=>?_) hg
  unfold cY
  rw [if_pos (by omega)]
  exact rj
 ·rw [if_neg h2] at hg
  have ib:∀i∈(bh (ltB ds) (V9 ds.length)).toList,i < ds.length:=λi hi=>by
   have:=((kc (n:=ds.length) (by omega)).run (ltB ds):gI _ _)
   have:=(ZI this).mp (Array.mem_toList_iff.mp hi)
   simpa using this
  have e1:qw (ltB ds) R1=(bh (ltB ds) (V9 ds.length)).toList.map λi=>R1.getD i TU:=by unfold qw;rw [l2,l1]
  rw [e1] at hg
  refine fin _ _ ?_ (B8 rv _ λi hi=>l2▸ib i hi) (λJ rj=>?_) hg
  ·rw [Sh,<-l2]
   have:=((kc (n:=ds.length) (by omega)).run (ltB ds):gI _ _).size_eq
   simpa using this
  ·unfold cY
   rw [if_neg (by omega)]
   exact BX rj _ ib
theorem G3 {R0:List (Sq×Obj)}{s:Sd}{σ:L2.St}{H:Hp}{A:Td}{p:Sq}{vs:List V}(I:Inv X R0 σ H s) (h:dD X.K H p vs\/dQ X.K H p vs):∃R1,Vals vs R1/\Coll X.prog X.w A s (.ref p) R1:=by
 rcases h with h | h
 ·obtain ⟨R1,r,⟨o,n,ho,hc,_,hd⟩,hz⟩:=I.list h
  exact ⟨R1,r,Br (.inl rfl) ho hc hd (r.length▸hz)⟩
 ·obtain ⟨R1,r,pt,hz⟩:=I.tuple h
  obtain ⟨o,ho,hc,n,hd⟩:=pt
  exact ⟨R1,r,Br (.inr rfl) ho hc hd (r.length▸hz)⟩
theorem Hy {R0:List (Sq×Obj)}{s:Sd}{σ:L2.St}{H:Hp}{vs:List V}{R1:List Sa}{ds:List D}(hu:X.A.units + 64 < Us) (I:Inv X R0 σ H s) (rs:aK X.K H ds vs) (rv:Vals vs R1) (ok:E5 ds=true):ds.length < 64/\yo X.prog X.w X.A.in1.in1 s R1 (ltB ds):=by
 have l1:vs.length=R1.length:=rv.length
 have l2:ds.length=vs.length:=rs.length
 by_cases h2:ds.length < 2
 ·exact ⟨by omega,λh=>absurd h (by omega)⟩
 ·unfold E5 at ok
  rw [decide_eq_false h2,abL,Sk,Sk,Sk] at ok
  obtain ⟨o1,o2,o3,o4⟩:=ok
  have o2:=of_decide_eq_true o2
  obtain ⟨k,hk⟩:∃k,iy k ds=true:=by
   unfold ML at o3
   cases ds with
   | nil=>cases o3
   | cons d r=>
    simp only at o3
    cases z:ia d with
    | none=>rw [z] at o3;cases o3
    | some k=>rw [z] at o3;exact ⟨k,o3⟩
  refine ⟨of_decide_eq_true o1,D8 (iz I) rs rv (k:=k) (λd hd=>⟨mE hk d hd,?_⟩) hk (λx hx y hy=>SK.mp (SK.mp o4 _ hx) _ hy) hu⟩
  obtain ⟨i,hi,rfl⟩:=T8.mp hd
  have:=JS hi
  have e:dZ ds i=ds[i]:=by simp [dZ,hi]
  rw [e] at this
  omega
theorem yT (hu:X.A.units + 64 < Us):cP X (.builtin "sorted") (λxs H Q=>∃p vs ds,xs=[.ref p]/\(dD X.K H p vs\/dQ X.K H p vs)/\aK X.K H ds vs/\(E5 ds=true\/wL ds=true)/\∀l vs',H l=none->(∀J,aK X.K J ds vs->aK X.K J (cY ds) vs')->Q (.ref l) (upd H l (.lst vs'))):=by
 intro R0 s σ H xs us Q I r h
 obtain ⟨p,vs,ds,rfl,hq,rs,ok,q⟩:=h
 obtain ⟨u,rfl,rx⟩:=vals1 r
 cases rx
 obtain ⟨R1,rv,col⟩:=G3 I hq
 rcases ok with ok | ok
 ·obtain ⟨l64,ha⟩:=Hy hu I rs rv ok
  exact mV I col rv rs.length l64 ha q
 ·unfold wL at ok
  rw [Sk] at ok
  exact mV I col rv rs.length (of_decide_eq_true ok.1) (D7 rs rv ok.2) q
end
end DL
namespace DL
open PySem PySem.Spec PyProof.Rows L2
section
variable {X:Cx}{c:C}{e:Tc}{g:G R}{pos:Pos}
noncomputable def vj (i:Nat) (f:R->R->M R) (g:G R):G O:=λenv=>match env[i]? with
 | some (some (.d d))=>g env >>= λy=>f (.d d) y >>= λz=>toS z >>= λx=>.ok (.nx (env.set i (some x)))
 | _=>.bad
theorem KI (i:Nat){x:Str}{pos':Pos}{op:Zt}{r:R2}{f:R->R->M R}(hN:X.N.Nodup) (ho:dY X (YE op) r) (hb:BD c r f) (h:PD X c e g) (hi:X.N[i]?=some x:=by rfl) (hx:Loc X.env.scope x:=by first | exact Xr rfl | exact Wv rfl)
  (hf:X.fn x=true\/X.env.scope.names.lookup x=some .local:=by first | exact .inl rfl | exact .inr rfl):Bf X c (.AugAssign (.Name x pos') op e pos) (vj i f g):=
 jy (Na hN hi hx h (λR0 s σ H x y v u Q I rx ry q=>Pf ho I rx ry q) hf) λE σ H ⟨J,env,sr,w⟩=>by
 unfold vj at w
 split at w
 ·rename_i d hd
  obtain ⟨v,h1,h2⟩:=sr.at_ i _ hd
  refine ⟨v,h1,J,env,sr,aG (aL w) λy wr v' J1 H1 e1 r1=>?_⟩
  have sr1:=sr.ext e1
  refine hb H H J1 H1 (.d d) y v v' _ sr1.hp (Rep.mono e1.j h2) r1 (aG (aL wr) λz wz w' J2 H2 e2 r2=>?_)
  obtain ⟨x,q,wz⟩:=oh wz
  exact wz (σ.set i (some w')) J2 H2 (e1.j.trans e2.j) (sr1.set e2 r2 q)
 ·exact w.elim
end
end DL
namespace DL
open PySem PySem.Spec PyProof.Rows L2 DX
section
variable {M:ab_}{A:Td}{E:Sa->Sd->Prop}{s:Sd}
theorem Di {RZ:Vc}{globals:Sq}{closure:List (Str×Sq)}{R5:Str}{func:Option Sq}{code:Sa}{outer:Env}{builtins:Sq}{Q:Env->Sd->Prop}
  (hQ:Q (newEnv RZ s.heap.objs.size globals (Tu (s.heap.objs.size + 1) RZ.names closure) R5 func code (some outer) builtins) {s with heap:=aaK (s.heap.push {cls:=.type "dict",data:=.dict #[]}) RZ.names}):
  SH M A (aa9 RZ globals closure [] R5 func code (some outer) builtins) Q E s:=by
 simp only [aa9,Option.isSome_some,if_true]
 refine R9 (wpAny_alloc ?_)
 refine R9 (wpAny_layCells _ (λname kind cells=>by cases hkc:kind == Wu <;> simp [hkc]) _ _ _ _ ?_)
 rw [show ({s with heap:=s.heap.push {cls:=.type "dict",data:=.dict #[]}}:Sd).heap.objs.size=s.heap.objs.size + 1 from V6 ..]
 simp only [List.forIn_nil]
 exact R9 (Sb (Sb hQ))
theorem jL:∀(names:List (Str×UP)) (n:Nat) (acc:List (Str×Sq)) (x:Str),(∀y∈names,y.2=.cell->y.1≠x)->(Tu n names acc).lookup x=acc.lookup x
 | [],_,_,_,_=>by unfold Tu;rfl
 | (y,k)::r,n,acc,x,h=>by
  have hr:∀z∈r,z.2=.cell->z.1≠x:=λz hz=>h z (Sg _ hz)
  unfold Tu
  split
  ·rename_i hk
   rw [jL r _ _ x hr]
   have hy:y≠x:=h (y,k) (Si ..) (by simpa using hk)
   have:(x == y)=false:=by
    cases q:x == y with
    | false=>rfl
    | true=>exact absurd (eq_of_beq q).symm hy
   rw [Uq,this]
  ·exact jL r _ _ x hr
end
theorem xK:∀(names:List (Str×UP)) (n:Nat) (acc:List (Str×Sq)),Tu n names acc=Tu n names []++acc:=by
 intro names
 suffices ∀(n:Nat) (a b:List (Str×Sq)),Tu n names (a++b)=Tu n names a++b by
  intro n acc
  exact this n [] acc
 induction names with
 | nil=>intro n a b;unfold Tu;rfl
 | cons p r ih=>
  obtain ⟨y,k⟩:=p
  intro n a b
  unfold Tu
  split
  ·exact ih _ (_::a) b
  ·exact ih _ a b
def dS (names:List (Str×UP)) (x:Str):Bool:=names.any λy=>y.1 == x && y.2 == .cell
theorem gJ:∀(names:List (Str×UP)) (n:Nat) (acc:List (Str×Sq)) (x:Str),((acc.lookup x).isSome=true\/dS names x=true)->((Tu n names acc).lookup x).isSome=true
 | [],_,_,_,h=>by
  unfold Tu
  rcases h with h | h
  ·exact h
  ·cases h
 | (y,k)::r,n,acc,x,h=>by
  unfold Tu
  have e:dS ((y,k)::r) x=((y == x && k == .cell) || dS r x):=rfl
  rw [e] at h
  split
  ·rename_i hk
   refine gJ r _ _ x ?_
   by_cases hx:x=y
   ·left;subst hx;rw [Uq];simp
   ·rcases h with h | h
    ·left
     rw [Uq]
     cases q:x == y with
     | true=>exact absurd (eq_of_beq q) hx
     | false=>exact h
    ·rw [U6,Sk] at h
     rcases h with h | h
     ·exact absurd (eq_of_beq h.1).symm hx
     ·exact .inr h
  ·rename_i hk
   refine gJ r _ _ x ?_
   rcases h with h | h
   ·exact .inl h
   ·rw [U6,Sk] at h
    rcases h with h | h
    ·exact absurd h.2 hk
    ·exact .inr h
theorem gy {names:List (Str×UP)}{n:Nat}{cl:List (Str×Sq)}{x:Str}{d:Sq}(h:(Tu n names cl).lookup x=some d):
  (Tu n names []).lookup x=some d\/(dS names x=false/\cl.lookup x=some d):=by
 rw [xK,List.lookup_append] at h
 cases q:(Tu n names []).lookup x with
 | some e=>rw [q] at h;left;simpa using h
 | none=>
  rw [q] at h
  right
  refine ⟨?_,by simpa using h⟩
  cases z:dS names x with
  | false=>rfl
  | true=>
   have:=gJ names n [] x (.inr z)
   rw [q] at this
   cases this
theorem pQ {RZ:Vc}{env:Env}{x:Str}(h:(relabel RZ env).names.lookup x=some .cell\/(relabel RZ env).names.lookup x=some .free):(x,Ua)∈RZ.names\/dS RZ.names x=true:=by
 unfold relabel at h
 revert h
 generalize RZ.names=names
 induction names with
 | nil=>intro h;simp at h
 | cons p r ih=>
  obtain ⟨n,k⟩:=p
  intro h
  rw [Sx] at h
  simp only at h
  by_cases hx:x=n
  ·subst hx
   cases k with
   | free=>exact .inl (Si ..)
   | cell=>right;unfold dS;simp
   | _=>simp [Uq] at h
  ·have e:(x == n)=false:=by simpa using hx
   have h':(r.map λ(n,k)=>if (k == Ua && env.scope.kind == .function && env.kindOf n == some .cell) then (n,Wu) else (n,k)).lookup x=some .cell\/(r.map λ(n,k)=>if (k == Ua && env.scope.kind == .function && env.kindOf n == some .cell) then (n,Wu) else (n,k)).lookup x=some .free:=by
    split at h <;> simpa [Uq,e] using h
   rcases ih h' with z | z
   ·exact .inl (Sg _ z)
   ·right
    unfold dS at z ⊢
    rw [W6,z,Bool.or_true]
section
variable {X:Cx}
noncomputable def aZ (X:Cx) (own:List Str) (cap:List Nat) (RZ:Vc) (cl:List (Str×Sq)) (C:Sq) (s:Sd) (H:Hp) (fp:List Sq):Cx:=
 {L6 X own cap RZ (Tu (C + 1) RZ.names cl) C s H fp with fn:=dS RZ.names}
theorem JP {R0:List (Sq×Obj)}{σ:L2.St}{H:Hp}{s:Sd}{own:List Str}{cap:List Nat}{RZ:Vc}{cl:List (Str×Sq)}{fp:List Sq}{h1:Ui}(I:Inv X R0 σ H s) (hk:RZ.kind=.function)
  (hcl:bJ X.env.cells RZ.names []=some cl) (ck:acy h1 (s.heap.objs.size + 1) (Tu (s.heap.objs.size + 1) RZ.names [])) (hfp:∀b∈fp,kB X R0 H b) (hin:∀b∈fp,b < s.heap.objs.size):(aZ X own cap RZ cl s.heap.objs.size s H fp).Ok:=by
 obtain ⟨m1,m2⟩:=h_ RZ.names [] cl hcl (λx c h=>by simp at h)
 have lo:∀{x:Str}{d:Sq},(Tu (s.heap.objs.size + 1) RZ.names []).lookup x=some d->s.heap.objs.size + 1<=d:=fun {x d} h=>(ck.empty _ _ (Wx h)).2
 have old:∀{x:Str}{d:Sq},cl.lookup x=some d->d < s.heap.objs.size:=fun {x d} h=>by
  obtain ⟨v,z⟩:=I.cell x d (m1 x d h)
  exact z.lt
 refine ⟨I.ok.mod,hk,I.ok.glob,I.ok.blt,Sl _,λx y d h1 h2=>?_,λx hx=>?_,λx d hf h=>?_,λhc=>I.ok.hd hc,I.ok.frames,.inl rfl,λb hb=>⟨S4 (hin b hb),λx d h=>?_⟩,
  I.bs,S5 I.ok.bsz I.sz,λb o h hb=>?_,λb hb hf=>?_,I.stack,I.stkFree⟩
 ·rcases gy h1 with h1 | ⟨_,h1⟩
  ·rcases gy h2 with h2 | ⟨_,h2⟩
   ·exact name_of_addr ck.apart (Wx h1) (Wx h2)
   ·exact absurd (SI (old h2) (Vy (lo h1))) (UO _)
  ·rcases gy h2 with h2 | ⟨_,h2⟩
   ·exact absurd (SI (old h1) (Vy (lo h2))) (UO _)
   ·exact I.ok.inj x y d (m1 x d h1) (m1 y d h2)
 ·refine Ub.mp (gJ _ _ _ x ?_)
  rcases pQ hx with z | z
  ·exact .inl (m2 x (.inr z))
  ·exact .inr z
 ·rcases gy h with h | ⟨z,h⟩
  ·exact Vy (lo h)
  ·have hf':dS RZ.names x=true:=hf
   rw [z] at hf'
   cases hf'
 ·rcases gy h with h | ⟨_,h⟩
  ·exact Wg (SI (hin b hb) (Vy (lo h)))
  ·exact (hfp b hb).2.2.2.2.1 x d (m1 x d h)
 ·rcases (hfp b hb).2.2.2.1 with z | z
  ·exact I.ok.noex b o h z
  ·exact absurd (SI (SA (I.ok.bs b o h).1) z) (UO _)
 ·rcases SD.mp (I.stkSub b hf) with e | e
  ·exact (hfp b hb).2.1 e
  ·exact (hfp b hb).2.2.1 e
end
theorem zE {names:List (Str×UP)}{n:Nat}{cl:List (Str×Sq)}{x:Str}(h:dS names x=false):(Tu n names cl).lookup x=cl.lookup x:=
 jL names n cl x λy hy hk e=>by
  unfold dS at h
  have:=Z7.mp h y hy
  simp [hk,e] at this
section
variable {X:Cx}
theorem GN {R0:List (Sq×Obj)}{σ:L2.St}{H:Hp}{s:Sd}{own:List Str}{cap:List Nat}{RZ:Vc}{cl:List (Str×Sq)}{fp:List Sq}{h1:Ui}{m:Str->Option Sa}{tk:Nat}(I:Inv X R0 σ H s) (ok:(aZ X own cap RZ cl s.heap.objs.size s H fp).Ok)
  (hcl:bJ X.env.cells RZ.names []=some cl) (ck:acy h1 (s.heap.objs.size + 1) (Tu (s.heap.objs.size + 1) RZ.names [])) (hcap:eW X cap=true) (QG:∀j∈cap,∀x,X.N[j]?=some x->(relabel RZ X.env).names.lookup x≠some .local)
  (hno:∀j∈cap,∀x,X.N[j]?=some x->dS RZ.names x=false) (hns:h1.Ns s.heap.objs.size m) (old:∀b o,s.heap.get? b=some o->h1.get? b=some o):
  Inv (aZ X own cap RZ cl s.heap.objs.size s H fp) [] (Th own.length none++cap.map λ(j:Nat)=>(σ[j]?).getD none) H {s with heap:=h1,toks:=tk}:=by
 obtain ⟨m1,m2⟩:=h_ RZ.names [] cl hcl (λx c h=>by simp at h)
 refine ⟨ok,rfl,I.bare,Un.kept old,⟨m,hns,λi x v q1 q2 q3=>?_⟩,λx d h=>?_,I.hok.fresh (Sl _),λx d h=>?_,λp hp=>absurd (show p∈([]:List (Sq×Obj)) from hp) (by simp),I.hok.kept old,?_⟩
 ·obtain ⟨j,h2,h3,h4⟩:=kJ q2
  have q1':(own++cap.map λ(j:Nat)=>(X.N[j]?).getD ("":Str))[i]?=some x:=q1
  rw [Uk (by exact h2),SJ,h3] at q1'
  have hj:j∈cap:=T6 h3
  have hc:(match X.N[j]? with
   | some x=>(match X.env.scope.names.lookup x with
    | some .cell=>true
    | some .free=>true
    | _=>false)
   | none=>false)=true:=by
   unfold eW at hcap
   exact SK.mp hcap j hj
  cases hx:X.N[j]? with
  | none=>rw [hx] at hc;cases hc
  | some y=>
   rw [aaE,hx] at q1'
   rw [hx] at hc
   have e:y=x:=by simpa using q1'
   subst e
   have kd:X.env.kindOf y=some .cell\/X.env.kindOf y=some .free:=by
    unfold acL
    simp only at hc
    split at hc
    ·rename_i z;exact .inl z
    ·rename_i z;exact .inr z
    ·cases hc
   obtain ⟨mX,nX,lX⟩:=I.loc
   obtain ⟨u,ru,lu⟩:=lX j y v hx h4 (kd.elim (λz=>.inr (.inl z)) λz=>.inr (.inr z))
   refine ⟨u,ru,.inr ?_⟩
   have kd':(relabel RZ X.env).names.lookup y=some .cell\/(relabel RZ X.env).names.lookup y=some .free:=by
    rcases q3 with z | z | z
    ·exact absurd z (QG j hj y hx)
    ·exact .inl z
    ·exact .inr z
   refine ⟨kd',?_⟩
   have no:=hno j hj y hx
   have fr:(y,Ua)∈RZ.names:=by
    rcases pQ kd' with z | z
    ·exact z
    ·rw [no] at z;cases z
   obtain ⟨d,hd⟩:=Ub.mp (m2 y (.inr fr))
   refine ⟨d,(zE no).trans hd,?_⟩
   rcases lu with ⟨z,_⟩ | ⟨_,d',hd',z⟩
   ·rcases kd with k | k <;> (rw [k] at z;cases z)
   ·have:=m1 y d hd
    rw [hd'] at this
    cases this
    obtain ⟨o,ho,hod⟩:=z
    exact ⟨o,old _ _ ho,hod⟩
 ·rcases gy h with h | ⟨_,h⟩
  ·exact ⟨none,(ck.empty _ _ (Wx h)).1⟩
  ·obtain ⟨v,o,ho,hod⟩:=I.cell x d (m1 x d h)
   exact ⟨v,o,old _ _ ho,hod⟩
 ·rcases gy h with h | ⟨_,h⟩
  ·exact I.hok.fresh (Vy (ck.empty _ _ (Wx h)).2)
  ·exact I.freeC x d (m1 x d h)
 ·show _=(own++cap.map λ(j:Nat)=>(X.N[j]?).getD ("":Str)).length
  simp
end
theorem MK (h:Ui) (names:List (Str×UP)):(aaK (h.push {cls:=.type "dict",data:=.dict #[]}) names).Ns h.objs.size (λ_=>none):=
 (Heap.Ns.new h (.type "dict")).keeps λb o e=>aaL _ _ _ _ e
theorem En (h:Ui) (names:List (Str×UP)):acy (aaK (h.push {cls:=.type "dict",data:=.dict #[]}) names) (h.objs.size + 1) (Tu (h.objs.size + 1) names []):=by
 have:=cellsFrom_ok names (h.push {cls:=.type "dict",data:=.dict #[]}) (h.objs.size + 1) [] ⟨λ_ _ hm=>(nomatch hm),VU⟩ (by rw [V6];exact Sl _)
 rw [V6] at this
 exact this
noncomputable def fR (X:Cx) (cap:List Nat) (RZ:Vc):Bool:=cap.all λj=>match X.N[j]? with
 | some x=>!dS RZ.names x
 | none=>true
section
variable {X:Cx}{c:C}
theorem nJ {cells:List (Str×Sq)}{names names2:List (Str×UP)}{cl:List (Str×Sq)}{n:Nat}(h:bJ cells names []=some cl)
  (hn:(names2.all λy=>!(y.2 == .free) || ((names.any λz=>z.1 == y.1 && z.2 == .free) || dS names y.1))=true):(bJ (Tu n names cl) names2 []).isSome=true:=by
 obtain ⟨_,m2⟩:=h_ names [] cl h (λx c h=>by simp at h)
 have go:∀(l:List (Str×UP)) (cs:List (Str×Sq)),(l.all λy=>!(y.2 == .free) || ((names.any λz=>z.1 == y.1 && z.2 == .free) || dS names y.1))=true->(bJ (Tu n names cl) l cs).isSome=true:=by
  intro l
  induction l with
  | nil=>intro cs _;rfl
  | cons y r ih=>
   obtain ⟨y,k⟩:=y
   intro cs hl
   rw [VE,Sk] at hl
   unfold bJ
   split
   ·rename_i hk
    have h1:=hl.1
    simp only [hk,U1,abL,U6] at h1
    have:((Tu n names cl).lookup y).isSome=true:=by
     refine gJ names n cl y ?_
     rcases h1 with z | z
     ·obtain ⟨q,hq,e⟩:=UK.mp z
      rw [Sk] at e
      have e1:q=(y,Ua):=by
       obtain ⟨q1,q2⟩:=q
       have a1:q1=y:=eq_of_beq e.1
       have a2:q2=Ua:=by simpa using e.2
       rw [a1,a2]
      exact .inl (m2 y (.inr (e1▸hq)))
     ·exact .inr z
    obtain ⟨a,ha⟩:=Ub.mp this
    rw [ha]
    exact ih _ hl.2
   ·exact ih _ hl.2
 exact go names2 [] hn
end
section
variable {X:Cx}{c:C}{e:Tc}{es:List Tc}{g:G R}{pos:Pos}
theorem FG (i:Nat){x:Str}{pos':Pos}(hN:X.N.Nodup) (h:QD X c e g) (hi:X.N[i]?=some x:=by rfl) (hx:Loc X.env.scope x:=by first | exact Xr rfl | exact Wv rfl) (hf:X.fn x=true\/X.env.scope.names.lookup x=some .local:=by first | exact .inl rfl | exact .inr rfl):
  jm X c (.AugAssign (.Name x pos') .Add e pos) (vj i zc g):=have h:=h.h;⟨KI i hN J_ (iQ λ_ _ _=>.int _) h hi hx hf⟩
theorem JZ {K:R_}{x R5:Str}{st:Vu}{f T:Sq}{oc oT:Sa}{od an dT:Option Sq}{osl sT:Array (Option Sa)}{kV doc pm cdv ct:Sa}{n:Nat}(l:K.lookup f=some ⟨oc,od,.func (Tw x R5 (dR st) (cL st) (aI st) (.ref T) kV doc pm an cdv ct),osl⟩)
  (cd:Vn K cdv R5=true) (k:Ug K (.ref f)=true) (lT:K.lookup T=some ⟨oT,dT,.seq #[.none] n,sT⟩):om K x R5 st f (Tw x R5 (dR st) (cL st) (aI st) (.ref T) kV doc pm an cdv ct):=
 ⟨⟨oc,od,T,_,n,kV,doc,pm,an,cdv,ct,osl,rfl,l,cd,lT,rfl⟩,k⟩
end
end DL
namespace K51
open PySem DL
end K51
namespace WP
open PySem DL K01
def Wp {α:Type}(m:M α) (P:α->Prop):Prop:=∃a,m=.ok a/\P a
section
variable {α β:Type}{m:M α}{P P':α->Prop}{a:α}{env:Ev}{Q:O->Prop}{t u:G O}{g:G R}{r r':R}{i:Nat}{b:G Bool}
theorem Wp.mono (h:Wp m P) (k:∀a,P a->P' a):Wp m P':=let ⟨a,h1,h2⟩:=h;⟨a,h1,k a h2⟩
theorem Wp.eq (h:Wp m (·=a)):m=.ok a:=let ⟨_,h1,h2⟩:=h;h2▸h1
theorem DT {P:R->Prop}(h:Wp (t env) λo=>∃r,o=.rt r/\P r):Wp (fin (t env)) P:=by
 obtain ⟨_,h1,r,rfl,h2⟩:=h
 exact ⟨r,by rw [h1];rfl,h2⟩
theorem qQ (h:Wp (t env) λo=>∃e,o=.nx e):fin (t env)=.ok (.d .non):=by
 obtain ⟨_,h1,r,rfl⟩:=h
 rw [h1];rfl
theorem cS (h:Wp (t env) (·=.rt r)):fin (t env)=.ok r:=by
 rw [h.eq];rfl
theorem fV (h:Wp (t env) λo=>match o with
 | .nx e=>Wp (u e) Q
 | o=>Q o):Wp (aD t u env) Q:=by
 obtain ⟨o,h1,h2⟩:=h
 show Wp (t env >>= _) Q
 rw [h1]
 cases o with
 | nx e=>exact h2
 | rt r=>exact ⟨_,rfl,h2⟩
 | bk e=>exact ⟨_,rfl,h2⟩
 | ct e=>exact ⟨_,rfl,h2⟩
theorem mP {x:S}(h:g env=.ok r) (h2:toS r=.ok x) (k:Q (.nx (env.set i (some x)))):Wp (aN i g env) Q:=⟨_,by show (g env >>= _)=_;rw [h,aM,h2];rfl,k⟩
theorem cG {x:S}(h:g env=.ok r) (h2:toS r=.ok x) (k:Wp (u (env.set i (some x))) Q):Wp (aD (aN i g) u env) Q:=fV (mP h h2 k)
theorem cK (h:g env=.ok r) (h2:rF r=.ok r') (k:Q (.rt r')):Wp (aP g env) Q:=⟨_,uA h h2,k⟩
theorem jS (k:Q (.nx env)):Wp (bF env) Q:=⟨_,rfl,k⟩
theorem PL (k:Wp (u env) Q):Wp (aD bF u env) Q:=fV (jS k)
theorem ye (h:b env=.ok true) (k:Wp (t env) Q):Wp (aX b t u env) Q:=by rw [nP h];exact k
theorem sQ (h:b env=.ok false) (k:Wp (u env) Q):Wp (aX b t u env) Q:=by rw [ki h];exact k
theorem vt {c:Bool}(h:b env=.ok c) (k1:c=true->Wp (t env) Q) (k2:c=false->Wp (u env) Q):Wp (aX b t u env) Q:=by
 cases c with
 | true=>exact ye h (k1 rfl)
 | false=>exact sQ h (k2 rfl)
theorem PK {v:G O}(h:b env=.ok false) (k:Wp (aD u v env) Q):Wp (aD (aX b t u) v env) Q:=by
 have:aD (aX b t u) v env=aD u v env:=by unfold aD;rw [ki h]
 rw [this];exact k
theorem gK {v:G O}(h:b env=.ok false) (k:Wp (v env) Q):Wp (aD (aX b t bF) v env) Q:=PK h (PL k)
theorem CY {xs:List D}{d:D}(h0:env[i]?=some (some (.own xs))) (h:g env=.ok r) (h2:toD r=.ok d) (hl:xs.length<=1000) (k:Q (.nx (env.set i (some (.own (xs++[d])))))):Wp (e_ i g env) Q:=by
 refine ⟨_,?_,k⟩
 unfold e_
 rw [h0]
 show (g env >>= _)=_
 rw [h,aM,h2,aM,if_pos (ZK hl (by decide))]
theorem oV {gi:G (List D)}{tg:GT}{ds:List D}(h:gi env=.ok ds) (k:Wp (eY tg u ds env) Q):Wp (c_ gi tg u env) Q:=by rw [lJ h];exact k
theorem kQ {gi:G (List D)}{tg:GT}{ds:List D}{v:G O}(h:gi env=.ok ds) (k:Wp (eY tg t ds env) λo=>match o with
 | .nx e=>Wp (v e) Q
 | o=>Q o):Wp (aD (c_ gi tg t) v env) Q:=fV (oV h k)
theorem qR {tg:GT}(I:Nat->Ev->Prop) (ds:List D) (h0:I 0 env) (step:∀(k:Nat) (hk:k < ds.length) (env:Ev),I k env->∃e,tg ds[k] env=.ok e/\Wp (u e) λo=>∃e,o=.nx e/\I (k + 1) e)
  (k:∀e,I ds.length e->Q (.nx e)):Wp (eY tg u ds env) Q:=by
 have key:∀(es:List D) (i:Nat) (env:Ev),ds.drop i=es->i<=ds.length->I i env->Wp (eY tg u es env) Q:=by
  intro es
  induction es with
  | nil=>
   intro i env hd hi hI
   have:i=ds.length:=by
    have:=congrArg Yc hd
    rw [VI] at this
    simp at this;omega
   subst this
   exact ⟨_,rfl,k _ hI⟩
  | cons d es ih=>
   intro i env hd hi hI
   have hlt:i < ds.length:=by
    have:=congrArg Yc hd
    rw [VI] at this
    simp at this;omega
   have e1:=V5 hlt
   rw [hd] at e1
   obtain ⟨q1,q2⟩:=ac1 e1
   obtain ⟨e,h1,_,h2,e2,rfl,h3⟩:=step i hlt env hI
   unfold eY
   rw [q1,h1,aM,h2,aM]
   exact ih (i + 1) e2 q2.symm (by omega) h3
 exact key ds 0 env rfl (SQ _) h0
theorem uM {tg:GT}{n:Nat}(I:Nat->Ev->Prop) (h0:I 0 env) (step:∀(k:Nat),k < n->∀env,I k env->∃e,tg (.int k) env=.ok e/\Wp (u e) λo=>∃e,o=.nx e/\I (k + 1) e)
  (k:∀e,I n e->Q (.nx e)):Wp (eY tg u (eB 0 n) env) Q:=by
 have hl:(eB 0 n).length=n:=by simp [eB]
 refine qR I (eB 0 n) h0 (λj hj env hI=>?_) (by rw [hl];exact k)
 obtain ⟨e,h1,h2⟩:=step j (by rw [hl] at hj;exact hj) env hI
 refine ⟨e,?_,h2⟩
 rw [<-h1]
 simp [eB]
theorem n1 {f:List R->M R}{x z:R}(hx:g env=.ok x) (hf:f [x]=.ok z):gN f (ao g ay) env=.ok z:=Dh hx hf
theorem two {f:R->R->M R}{h:G R}{x y z:R}(hx:g env=.ok x) (hy:h env=.ok y) (hf:f x y=.ok z):g2 f g h env=.ok z:=by
 show (g env >>= _)=_
 rw [hx,aM,hy,aM,hf]
theorem c1 {F:List S->M R}{x z:R}(hx:g env=.ok x) (hF:F [bH x]=.ok z):gN (aF 1 F) (ao g ay) env=.ok (cu z):=by
 show (ao g ay env >>= _)=_
 unfold ao ay
 rw [hx]
 show (match F [bH x] with | .ok r=>M.ok (cu r) | _=>M.bad)=_
 rw [hF]
theorem c2 {F:List S->M R}{h:G R}{x y z:R}(hx:g env=.ok x) (hy:h env=.ok y) (hF:F [bH x,bH y]=.ok z):gN (aF 2 F) (ao g (ao h ay)) env=.ok (cu z):=by
 show (ao g (ao h ay) env >>= _)=_
 unfold ao ay
 rw [hx,hy]
 show (match F [bH x,bH y] with | .ok r=>M.ok (cu r) | _=>M.bad)=_
 rw [hF]
theorem c3 {F:List S->M R}{h k:G R}{x y w z:R}(hx:g env=.ok x) (hy:h env=.ok y) (hw:k env=.ok w) (hF:F [bH x,bH y,bH w]=.ok z):gN (aF 3 F) (ao g (ao h (ao k ay))) env=.ok (cu z):=by
 show (ao g (ao h (ao k ay)) env >>= _)=_
 unfold ao ay
 rw [hx,hy,hw]
 show (match F [bH x,bH y,bH w] with | .ok r=>M.ok (cu r) | _=>M.bad)=_
 rw [hF]
theorem c4 {F:List S->M R}{h k l:G R}{x y w v z:R}(hx:g env=.ok x) (hy:h env=.ok y) (hw:k env=.ok w) (hv:l env=.ok v) (hF:F [bH x,bH y,bH w,bH v]=.ok z):gN (aF 4 F) (ao g (ao h (ao k (ao l ay)))) env=.ok (cu z):=by
 show (ao g (ao h (ao k (ao l ay))) env >>= _)=_
 unfold ao ay
 rw [hx,hy,hw,hv]
 show (match F [bH x,bH y,bH w,bH v] with | .ok r=>M.ok (cu r) | _=>M.bad)=_
 rw [hF]
theorem jO (h:g env=.ok r) (k:Wp (u env) Q):Wp (aD (jv g) u env) Q:=fV ⟨.nx env,by show (g env >>= _)=_;rw [h];rfl,k⟩
theorem oB {cap:List Nat}{gi:G (List D)}{ge:G R}{α:Type}{xs:List α}(a b:α->D) (f:α->D) (hi:gi env=.ok (xs.map λx=>.tup [a x,b x])) (hl:xs.length<=1000)
  (h:∀x∈xs,∃r,ge (some (.d (a x))::some (.d (b x))::cE 0 cap env)=.ok r/\toD r=.ok (f x)):bA 2 cap gi (gm 2 (b_ (az 0) (b_ (az 1) gF))) cI ge env=.ok (.l .fresh (xs.map f)):=by
 have key:∀(es:List α) (x y:Option S),(∀d∈es,d∈xs)->dB (gm 2 (b_ (az 0) (b_ (az 1) gF))) cI ge (es.map λx=>.tup [a x,b x]) (x::y::cE 0 cap env)=.ok (es.map f):=by
  intro es
  induction es with
  | nil=>exact λ_ _ _=>rfl
  | cons d es ih=>
   intro x y hm
   obtain ⟨r,h1,h2⟩:=h d (hm d Si)
   rw [Sx]
   unfold dB
   show (ge (some (.d (a d))::some (.d (b d))::cE 0 cap env) >>= _)=_
   rw [h1,aM,h2,aM]
   show (dB _ cI ge _ (some (.d (a d))::some (.d (b d))::cE 0 cap env) >>= _)=_
   rw [ih _ _ λe he=>hm e (Sg _ he)]
   rfl
 unfold bA
 rw [hi,aM,if_pos (ic (by rw [Sh];exact hl))]
 show (dB _ cI ge _ (none::none::cE 0 cap env) >>= _)=_
 rw [key xs none none λ_ h=>h]
 rfl
theorem Nt (n:Nat):eB 0 n=(Se n).map dN:=by simp [eB]
theorem iK {gs:G (List R)}{n:Nat}(hg:gs env=.ok [.d (.int (n:Int))]) (h:n<=1000):bR gs env=.ok ((Se n).map dN):=by rw [sW hg h,Nt]
theorem kD {cap:List Nat}{gi:G (List D)}{ge:G R}{α:Type}{xs:List α}{h:α->D}(f:α->D) (hi:gi env=.ok (xs.map h)) (hl:xs.length<=1000000)
  (hb:∀x∈xs,∃r,ge (some (.d (h x))::cE 0 cap env)=.ok r/\toD r=.ok (f x)):bA 1 cap gi (az 0) cI ge env=.ok (.l .fresh (xs.map f)):=by
 have key:∀(es:List α) (x:Option S),(∀d∈es,d∈xs)->dB (az 0) cI ge (es.map h) (x::cE 0 cap env)=.ok (es.map f):=by
  intro es
  induction es with
  | nil=>exact λ_ _=>rfl
  | cons d es ih=>
   intro x hm
   obtain ⟨r,h1,h2⟩:=hb d (hm d Si)
   rw [Sx]
   unfold dB
   show (ge (some (.d (h d))::cE 0 cap env) >>= _)=_
   rw [h1,aM,h2,aM]
   show (dB (az 0) cI ge _ (some (.d (h d))::cE 0 cap env) >>= _)=_
   rw [ih _ λe he=>hm e (Sg _ he)]
   rfl
 unfold bA
 rw [hi,aM,if_pos (by rw [Uc,Sh];omega)]
 show (dB (az 0) cI ge _ (none::cE 0 cap env) >>= _)=_
 rw [key xs none λ_ h=>h]
 rfl
theorem jr {cap:List Nat}{gi:G (List D)}{ge:G R}{gts:G Bool}{α:Type}{xs:List α}{h:α->D}(p:α->Bool) (f:α->D) (hi:gi env=.ok (xs.map h)) (hl:xs.length<=1000000)
  (hb:∀x∈xs,gts (some (.d (h x))::cE 0 cap env)=.ok (p x)/\(p x=true->∃r,ge (some (.d (h x))::cE 0 cap env)=.ok r/\toD r=.ok (f x))):bA 1 cap gi (az 0) gts ge env=.ok (.l .fresh ((xs.filter p).map f)):=by
 have key:∀(es:List α) (x:Option S),(∀d∈es,d∈xs)->dB (az 0) gts ge (es.map h) (x::cE 0 cap env)=.ok ((es.filter p).map f):=by
  intro es
  induction es with
  | nil=>exact λ_ _=>rfl
  | cons d es ih=>
   intro x hm
   obtain ⟨h0,h1⟩:=hb d (hm d Si)
   rw [Sx]
   unfold dB
   show (gts (some (.d (h d))::cE 0 cap env) >>= _)=_
   rw [h0,aM]
   cases q:p d with
   | true=>
    obtain ⟨r,h1,h2⟩:=h1 q
    rw [if_pos rfl]
    show (ge (some (.d (h d))::cE 0 cap env) >>= _)=_
    rw [h1,aM,h2,aM]
    show (dB (az 0) gts ge _ (some (.d (h d))::cE 0 cap env) >>= _)=_
    rw [ih _ λe he=>hm e (Sg _ he),Yj q]
    rfl
   | false=>
    rw [if_neg (by decide),Yk (by simp [q])]
    exact ih _ λe he=>hm e (Sg _ he)
 unfold bA
 rw [hi,aM,if_pos (by rw [Uc,Sh];omega)]
 show (dB (az 0) gts ge _ (none::cE 0 cap env) >>= _)=_
 rw [key xs none λ_ h=>h]
 rfl
theorem bZ {x:R}(h:g env=.ok x):ao g ay env=.ok [x]:=by
 show (g env >>= _)=_
 rw [h]
 rfl
theorem bO:aJ env=.ok []:=rfl
theorem aU {gs:G (List D)}{d:D}{ds:List D}(h:g env=.ok r) (h2:toD r=.ok d) (k:gs env=.ok ds):au g gs env=.ok (d::ds):=by
 show (g env >>= _)=_
 rw [h,aM,h2,aM,k]
 rfl
theorem bW {gs:G (List D)}{ds:List D}(h:gs env=.ok ds) (hl:ds.length<=1000):bL gs env=.ok (.d (.tup ds)):=by
 show (gs env >>= _)=_
 rw [h,aM,if_pos (ic hl)]
theorem nS {gs:G (List D)}{ds:List D}(h:gs env=.ok ds) (hl:ds.length<=1000):f_ gs env=.ok (.l .fresh ds):=by
 show (gs env >>= _)=_
 rw [h,aM,if_pos (ic hl)]
theorem yk {xs:List D}(h:env[i]?=some (some (.own xs))) (k:Wp (t (env.set i (some (.d (.lst xs))))) Q):Wp (gY i t env) Q:=by
 have:gY i t env=t (env.set i (some (.d (.lst xs)))):=by unfold gY;rw [h]
 rw [this];exact k
theorem Of {tg:GT}{d:D}{e:Ev}(h:g env=.ok r) (h2:toD r=.ok d) (h3:tg d env=.ok e) (k:Q (.nx e)):Wp (vh tg g env) Q:=⟨_,by show (g env >>= _)=_;rw [h,aM,h2,aM,h3];rfl,k⟩
theorem Jm {tg:GT}{d:D}{e:Ev}(h:g env=.ok r) (h2:toD r=.ok d) (h3:tg d env=.ok e) (k:Wp (u e) Q):Wp (aD (vh tg g) u env) Q:=fV (Of h h2 h3 k)
theorem GA {α:Type}(xs:List α) (z:α):L2.mF (xs++[z]) (-1)=some z:=by
 unfold L2.mF L2.zu
 rw [if_neg (by decide),if_pos (by simp;omega)]
 rw [show ((-1:Int) + ((xs++[z]).length:Nat)).toNat=xs.length by simp;omega]
 simp
theorem Ke (xs:List D) (z:D):br (.d (.tup (xs++[z]))) (.d (.int (-1)))=.ok (.d z):=by
 unfold br
 simp only [jH,aM,GA]
theorem CQ (neg:Bool) (x:D) (ys:List D) (h:deps ys<=60) (hx:dep x<=60):fu neg (.d x) (.d (.tup ys))=.ok (.d (.bl (if neg then !inD x ys else inD x ys))):=by
 show (if deps ys<=60/\dep x<=60 then M.ok (R.d (.bl (if neg then !inD x ys else inD x ys))) else M.bad)=_
 rw [if_pos ⟨h,hx⟩]
theorem qZ (neg:Bool) (x y:R) (h:dep x.dat<=60) (hx:dep y.dat<=60):dO neg x y=.ok (.d (.bl (if neg then !bx x.dat y.dat else bx x.dat y.dat))):=by
 unfold dO
 rw [if_pos ⟨h,hx⟩]
theorem fN {n:Nat}:∀{xs:List D},(∀x∈xs,dep x<=n)->deps xs<=n
 | [],_=>SQ _
 | x::xs,h=>by
  have h1:=h x Si
  have h2:=fN (xs:=xs) λy hy=>h y (Sg _ hy)
  simp only [deps]
  omega
theorem yY (xs:List Nat):deps (xs.map dN)<=60:=fN λx hx=>by
 obtain ⟨k,_,rfl⟩:=Sf.mp hx
 exact SQ _
theorem L8 (xs:List (Nat×Nat)):deps (xs.map dP)<=60:=fN λx hx=>by
 obtain ⟨k,_,rfl⟩:=Sf.mp hx
 exact (by decide:(1:Nat)<=60)
theorem B9 {tb:G Bool}(I:Nat->Ev->Prop) (step:∀d env,I d env->(tb env=.ok false/\Q (.nx env))\/(tb env=.ok true/\Wp (t env) λo=>match o with
  | .nx e=>∃d',d' < d/\I d' e
  | .rt r=>Q (.rt r)
  | _=>False)):∀(n d:Nat) (env:Ev),I d env->d < n->Wp (mj tb t n env) Q
 | 0,d,env,_,h=>absurd h (TL _)
 | n + 1,d,env,hI,h=>by
  unfold mj
  rcases step d env hI with ⟨h1,h2⟩ | ⟨h1,o,h2,h3⟩
  ·rw [h1]
   exact ⟨_,rfl,h2⟩
  ·rw [h1,aM,if_pos rfl,h2,aM]
   cases o with
   | nx e=>
    obtain ⟨d',hd,hI'⟩:=h3
    exact B9 I step n d' e hI' (by omega)
   | rt r=>exact ⟨_,rfl,h3⟩
   | bk e=>exact h3.elim
   | ct e=>exact h3.elim
theorem Lc {tb:G Bool}{n:Nat}(I:Nat->Ev->Prop) (d:Nat) (hd:d < n) (h0:I d env) (step:∀d env,I d env->(tb env=.ok false/\Wp (u env) Q)\/(tb env=.ok true/\Wp (t env) λo=>match o with
  | .nx e=>∃d',d' < d/\I d' e
  | .rt r=>Q (.rt r)
  | _=>False)):Wp (aD (zh n tb t) u env) Q:=fV (B9 I (λd env h=>by
  rcases step d env h with h | ⟨h1,h2⟩
  ·exact .inl h
  ·refine .inr ⟨h1,h2.mono λo ho=>?_⟩
   cases o <;> exact ho) n d env h0 hd)
theorem Og {d:D}{f:R->R->M R}{y z:R}{x:S}(h0:env[i]?=some (some (.d d))) (h:g env=.ok y) (hf:f (.d d) y=.ok z) (h2:toS z=.ok x) (k:Q (.nx (env.set i (some x)))):Wp (vj i f g env) Q:=by
 refine ⟨_,?_,k⟩
 unfold vj
 rw [h0]
 show (g env >>= _)=_
 rw [h,aM,hf,aM,h2]
 rfl
end
end WP
namespace K51
open PySem DL K01 WP
structure D6 (w:Wd):Prop where
 lo:1<=w.m
 hi:w.m<=8
 ml:w.ms.length<=3
 al:w.ar.length<=3
theorem DM (xs ys:List D) (h:xs.length + ys.length<=1000):mH (.d (.tup xs)) (.d (.tup ys))=.ok (.d (.tup (xs++ys))):=by
 show (if xs.length + ys.length<=sizeLine then M.ok (R.d (.tup (xs++ys))) else M.bad)=_
 rw [if_pos (ic h)]
theorem zl (l:Nat) (xs:List Nat):fu false (.d (dN l)) (.d (.tup (xs.map dN)))=.ok (.d (.bl (inD (dN l) (xs.map dN)))):=CQ false _ _ (yY xs) (SQ _)
theorem zm (l:Nat×Nat) (xs:List (Nat×Nat)):fu false (.d (dP l)) (.d (.tup (xs.map dP)))=.ok (.d (.bl (inD (dP l) (xs.map dP)))):=CQ false _ _ (L8 xs) (by show (1:Nat)<=60;decide)
theorem t2:(2:Nat)<=1000:=by decide
end K51
namespace K51
open PySem DL K01 WP
open PySem.W (kas_sort)
theorem FZ (ds:List D):(cY ds).length=ds.length:=by
 unfold cY
 by_cases h:ds.length < 2
 ·rw [if_pos h]
 ·rw [if_neg h,Sh]
  have:=(kc (n:=ds.length) (by omega)).run (ltB ds)
  have:=this.size_eq
  simpa using this
end K51
namespace K51
open PySem DL K01 WP
end K51
namespace DL
open PySem PySem.Spec PyProof.Rows L2
open PySem.W (KasT kas_sort kas_asc kas_desc kas_rev kas_tail3 kas_descPart kas_count kas_place kas_bin)
theorem run_bind {α β:Type}(q:Nat->Nat->Bool) (f:α->KasT β):∀t:KasT α,bh q (t.bind f)=bh q (f (bh q t))
 | .ret _=>rfl
 | .ask i j k=>run_bind q f (k (q i j))
theorem Ii {n:Nat}{α:Type}{P:α->Prop}{t:KasT α}{q q':Nat->Nat->Bool}(h:gn n P t) (e:∀i j,i < n->j < n->q i j=q' i j):bh q t=bh q' t:=by
 induction h with
 | ret _=>rfl
 | @ask i j k h1 h2 _ ih=>
  show bh q (k (q i j))=bh q' (k (q' i j))
  rw [e _ _ h1 h2]
  exact ih _
structure Ord (q:Nat->Nat->Bool):Prop where
 asy:∀a b,q a b=true->q b a=false
 tra:∀a b c,q b a=false->q c b=false->q c a=false
section
variable {q:Nat->Nat->Bool}{n:Nat}
abbrev bM (p:Array Nat) (k:Nat):Nat:=p.getD k 0
def Up (q:Nat->Nat->Bool) (p:Array Nat) (k:Nat):Prop:=∀i j,i<=j->j < k->q (bM p j) (bM p i)=false
def Down (q:Nat->Nat->Bool) (p:Array Nat) (k:Nat):Prop:=∀i j,i<=j->j < k->q (bM p i) (bM p j)=false
theorem Ord.irr (O:Ord q) (a:Nat):q a a=false:=by
 cases h:q a a with
 | false=>rfl
 | true=>rw [<-h];exact (O.asy a a h)
theorem getD_eq {p p':Array Nat}{i j:Nat}(h:p[i]?=p'[j]?):bM p i=bM p' j:=by
 show p.getD i 0=p'.getD j 0
 rw [Xf,Xf,h]
theorem jq {p:Array Nat}{i j:Nat}(hj:j<=p.size) (k:Nat):bM (WZ p i j) k=if i<=k/\k < j then bM p (i + j - 1 - k) else bM p k:=by
 have e:=getElem?_mirror_all (xs:=p) (i:=i) hj k
 by_cases c:i<=k/\k < j
 ·rw [if_pos c] at e ⊢;exact getD_eq e
 ·rw [if_neg c] at e ⊢;exact getD_eq e
theorem D9 {p:Array Nat}{src d:Nat}(hs:src < p.size) (hd:d<=src) (k:Nat):bM (bubble p src d) k=if k=src - d then bM p src else if src - d < k/\k<=src then bM p (k - 1) else bM p k:=by
 have e:=getElem?_bubble hs d hd k
 by_cases c:k=src - d
 ·rw [if_pos c] at e ⊢;exact getD_eq e
 ·rw [if_neg c] at e ⊢
  by_cases c':src - d < k/\k<=src
  ·rw [if_pos c'] at e ⊢;exact getD_eq e
  ·rw [if_neg c'] at e ⊢;exact getD_eq e
theorem iY (p:Array Nat) (i j:Nat):(WZ p i j).size=p.size:=mirror_size _ _ _ _
theorem Up.one (O:Ord q) (p:Array Nat):Up q p 1:=λi j h1 h2=>by
 have:i=j:=by omega
 rw [this];exact O.irr _
theorem Up.more (O:Ord q){p:Array Nat}{k:Nat}(h:Up q p k) (h1:1<=k) (e:q (bM p k) (bM p (k - 1))=false):Up q p (k + 1):=λi j hi hj=>by
 by_cases c:j < k
 ·exact h i j hi c
 ·have:j=k:=by omega
  subst this
  by_cases c':i=j
  ·rw [c'];exact O.irr _
  ·exact O.tra _ _ _ (h i (j - 1) (by omega) (by omega)) e
theorem Down.more (O:Ord q){p:Array Nat}{k:Nat}(h:Down q p k) (h1:1<=k) (e:q (bM p (k - 1)) (bM p k)=false):Down q p (k + 1):=λi j hi hj=>by
 by_cases c:j < k
 ·exact h i j hi c
 ·have:j=k:=by omega
  subst this
  by_cases c':i=j
  ·rw [c'];exact O.irr _
  ·exact O.tra _ _ _ e (h i (j - 1) (by omega) (by omega))
theorem yI (O:Ord q) (p:Array Nat):∀(f m:Nat),1<=m->Up q p m->m<=bh q (W0 p f m)/\bh q (W0 p f m)<=m + f/\Up q p (bh q (W0 p f m))/\(bh q (W0 p f m)=m + f\/q (bM p (bh q (W0 p f m))) (bM p (bh q (W0 p f m) - 1))=true)
 | 0,m,h1,h=>⟨Sl _,Sl _,h,.inl rfl⟩
 | f + 1,m,h1,h=>by
  have e:bh q (W0 p (f + 1) m)=if q (bM p m) (bM p (m - 1))=true then m else bh q (W0 p f (m + 1)):=by
   show bh q (if q (bM p m) (bM p (m - 1))=true then KasT.ret m else W0 p f (m + 1))=_
   by_cases c:q (bM p m) (bM p (m - 1))=true
   ·rw [if_pos c,if_pos c];rfl
   ·rw [if_neg c,if_neg c]
  rw [e]
  by_cases c:q (bM p m) (bM p (m - 1))=true
  ·rw [if_pos c]
   exact ⟨Sl _,by omega,h,.inr c⟩
  ·rw [if_neg c]
   obtain ⟨a1,a2,a3,a4⟩:=yI O p f (m + 1) (by omega) (h.more O h1 (by simpa using c))
   refine ⟨by omega,by omega,a3,?_⟩
   rcases a4 with a4 | a4
   ·exact .inl (by omega)
   ·exact .inr a4
def Alike (q:Nat->Nat->Bool) (p:Array Nat) (i j:Nat):Prop:=∀a b,i<=a->a < j->i<=b->b < j->q (bM p a) (bM p b)=false
theorem wY {p:Array Nat}{i j k:Nat}(hj:j<=p.size) (ha:Alike q p i j) (hd:Down q p j) (O:Ord q):Down q (WZ p i j) j:=λa b h1 h2=>by
 rw [jq hj,jq hj]
 by_cases c:i<=a/\a < j
 ·rw [if_pos c]
  by_cases c':i<=b/\b < j
  ·rw [if_pos c'];exact ha _ _ (by omega) (by omega) (by omega) (by omega)
  ·omega
 ·rw [if_neg c]
  by_cases c':i<=b/\b < j
  ·rw [if_pos c']
   exact hd _ _ (by omega) (by omega)
  ·rw [if_neg c'];exact hd _ _ h1 h2
theorem Nr {p:Array Nat}{j:Nat}(hj:j<=p.size) (hd:Down q p j):Up q (WZ p 0 j) j:=λa b h1 h2=>by
 rw [jq hj,jq hj,if_pos (by omega),if_pos (by omega)]
 exact hd _ _ (by omega) (by omega)
theorem uB {p:Array Nat}{i j k:Nat}(hj:j<=p.size) (h:j<=k):bM (WZ p i j) k=bM p k:=by
 rw [jq hj,if_neg (by omega)]
theorem mG (O:Ord q):∀(f:Nat) (p:Array Nat) (m e:Nat),1<=m->e + 1<=m->m + f<=p.size->Down q p m->Alike q p (m - (e + 1)) m->
  (bh q (U3 f p m e)).1.size=p.size/\m<=(bh q (U3 f p m e)).2.1/\(bh q (U3 f p m e)).2.1<=m + f/\(bh q (U3 f p m e)).2.2 + 1<=(bh q (U3 f p m e)).2.1/\
  Down q (bh q (U3 f p m e)).1 (bh q (U3 f p m e)).2.1/\Alike q (bh q (U3 f p m e)).1 ((bh q (U3 f p m e)).2.1 - ((bh q (U3 f p m e)).2.2 + 1)) (bh q (U3 f p m e)).2.1
 | 0,p,m,e,h1,h2,h3,h4,h5=>⟨rfl,Sl _,Sl _,h2,h4,h5⟩
 | f + 1,p,m,e,h1,h2,h3,h4,h5=>by
  have solo:∀(p:Array Nat) (m:Nat),Alike q p (m + 1 - (0 + 1)) (m + 1):=λp m a b c1 c2 c3 c4=>by
   have:a=b:=by omega
   rw [this];exact O.irr _
  cases c:q (bM p m) (bM p (m - 1)) with
  | true=>
   have c2:=O.asy _ _ c
   by_cases he:e > 0
   ·have er:bh q (U3 (f + 1) p m e)=bh q (U3 f (WZ p (m - (e + 1)) m) (m + 1) 0):=by
     show bh q (if q (bM p m) (bM p (m - 1))=true then _ else _)=_
     rw [if_pos c,if_pos he]
    rw [er]
    have hr:=wY (k:=0) (i:=m - (e + 1)) (by omega:m<=p.size) h5 h4 O
    have hl:bM (WZ p (m - (e + 1)) m) (m - 1)=bM p (m - (e + 1)):=by
     rw [jq (by omega),if_pos (by omega)]
     congr 1;omega
    obtain ⟨a0,a1,a2,a3,a4,a5⟩:=mG O f (WZ p (m - (e + 1)) m) (m + 1) 0 (by omega) (by omega) (by rw [iY];omega)
     (hr.more O h1 (by
      rw [hl,uB (by omega) (Sl _)]
      exact O.tra _ _ _ c2 (h5 _ _ (by omega) (by omega) (by omega) (by omega)))) (solo _ _)
    rw [iY] at a0
    exact ⟨a0,by omega,by omega,a3,a4,a5⟩
   ·have er:bh q (U3 (f + 1) p m e)=bh q (U3 f p (m + 1) 0):=by
     show bh q (if q (bM p m) (bM p (m - 1))=true then _ else _)=_
     rw [if_pos c,if_neg he]
    rw [er]
    obtain ⟨a0,a1,a2,a3,a4,a5⟩:=mG O f p (m + 1) 0 (by omega) (by omega) (by omega) (h4.more O h1 c2) (solo _ _)
    exact ⟨a0,by omega,by omega,a3,a4,a5⟩
  | false=>
   cases c2:q (bM p (m - 1)) (bM p m) with
   | true=>
    have er:bh q (U3 (f + 1) p m e)=(p,m,e):=by
     show bh q (if q (bM p m) (bM p (m - 1))=true then _ else _)=_
     rw [if_neg (by rw [c];decide)]
     show bh q (if q (bM p (m - 1)) (bM p m)=true then _ else _)=_
     rw [if_pos c2]
     rfl
    rw [er]
    exact ⟨rfl,Sl _,V_ _ _,h2,h4,h5⟩
   | false=>
    have er:bh q (U3 (f + 1) p m e)=bh q (U3 f p (m + 1) (e + 1)):=by
     show bh q (if q (bM p m) (bM p (m - 1))=true then _ else _)=_
     rw [if_neg (by rw [c];decide)]
     show bh q (if q (bM p (m - 1)) (bM p m)=true then _ else _)=_
     rw [if_neg (by rw [c2];decide)]
    rw [er]
    have hal:Alike q p (m + 1 - (e + 1 + 1)) (m + 1):=λa b d1 d2 d3 d4=>by
     by_cases ea:a=m
     ·subst ea
      by_cases eb:b=a
      ·rw [eb];exact O.irr _
      ·exact O.tra _ _ _ (h5 (a - 1) b (by omega) (by omega) (by omega) (by omega)) c
     ·by_cases eb:b=m
      ·subst eb
       exact O.tra _ _ _ c2 (h5 a (b - 1) (by omega) (by omega) (by omega) (by omega))
      ·exact h5 a b (by omega) (by omega) (by omega) (by omega)
    obtain ⟨a0,a1,a2,a3,a4,a5⟩:=mG O f p (m + 1) (e + 1) (by omega) (by omega) (by omega) (h4.more O h1 c2) hal
    exact ⟨a0,by omega,by omega,a3,a4,a5⟩
def Got (q:Nat->Nat->Bool) (N s:Nat) (r:Nat×Array Nat):Prop:=r.2.size=s/\1<=r.1/\r.1<=N/\Up q r.2 r.1
theorem BZ (O:Ord q){p:Array Nat}{m N:Nat}(h1:1<=m) (hm:m<=N) (hN:N<=p.size) (hd:Down q p m):Got q N p.size (bh q (ab1 m N p)):=by
 unfold ab1
 rw [run_bind]
 obtain ⟨a1,a2,a3,_⟩:=yI O (WZ p 0 m) (N - m) m h1 (Nr (by omega) hd)
 exact ⟨iY _ _ _,by show 1<=bh q (W0 _ _ _);omega,by show bh q (W0 _ _ _)<=N;omega,a3⟩
theorem BP (O:Ord q){p:Array Nat}{m N:Nat}(h1:1<=m) (hm:m + 1<=N) (hN:N<=p.size) (hd:Down q p (m + 1)):Got q N p.size (bh q (aah m N p)):=by
 unfold aah
 rw [run_bind]
 obtain ⟨a0,a1,a2,a3,a4,a5⟩:=mG O (N - (m + 1)) p (m + 1) 0 (by omega) (by omega) (by omega) hd (λa b c1 c2 c3 c4=>by
  have:a=b:=by omega
  rw [this];exact O.irr _)
 generalize bh q (U3 (N - (m + 1)) p (m + 1) 0)=r at *
 obtain ⟨p',m',e'⟩:=r
 simp only at *
 by_cases c:e' > 0
 ·rw [if_pos c]
  have:=BZ (N:=N) O (p:=WZ p' (m' - (e' + 1)) m') (m:=m') (by omega) (by omega) (by rw [iY];omega) (wY (k:=0) (by omega) a5 a4 O)
  rw [iY,a0] at this
  exact this
 ·rw [if_neg c]
  have:=BZ (N:=N) O (p:=p') (m:=m') (by omega) (by omega) (by omega) a4
  rw [a0] at this
  exact this
theorem GL (O:Ord q){p:Array Nat}{N:Nat}(h1:1<=N) (hN:N<=p.size):Got q N p.size (bh q (aaG N p)):=by
 unfold aaG
 rw [run_bind]
 obtain ⟨a1,a2,a3,a4⟩:=yI O p (N - 1) 1 (Sl _) (Up.one O p)
 generalize bh q (W0 p (N - 1) 1)=m at *
 by_cases c:(m == N)=true
 ·rw [if_pos c]
  exact ⟨rfl,a1,by show m<=N;omega,a3⟩
 ·rw [if_neg c]
  have hm:m + 1<=N:=by
   have:m≠N:=by simpa using c
   omega
  have a4:q (bM p m) (bM p (m - 1))=true:=by
   rcases a4 with h | h
   ·omega
   ·exact h
  have a5:=O.asy _ _ a4
  by_cases c':m > 1
  ·rw [if_pos c']
   show Got q N p.size (bh q (if q (bM p 0) (bM p (m - 1))=true then _ else _))
   by_cases d:q (bM p 0) (bM p (m - 1))=true
   ·rw [if_pos d]
    exact ⟨rfl,a1,by show m<=N;omega,a3⟩
   ·rw [if_neg d]
    have d:q (bM p 0) (bM p (m - 1))=false:=by simpa using d
    have all:∀a b,a < m->b < m->q (bM p a) (bM p b)=false:=λa b ha hb=>O.tra _ _ _ (O.tra _ _ _ (a3 b (m - 1) (by omega) (by omega)) d) (a3 0 a (by omega) (by omega))
    have hd:Down q (WZ p 0 m) m:=λa b h1 h2=>by
     rw [jq (by omega),jq (by omega),if_pos (by omega),if_pos (by omega)]
     exact all _ _ (by omega) (by omega)
    have:=BP O (p:=WZ p 0 m) (m:=m) (N:=N) (by omega) hm (by rw [iY];exact hN) (hd.more O (by omega) (by
     rw [uB (by omega) (Sl _),jq (by omega),if_pos (by omega),show 0 + m - 1 - (m - 1)=0 by omega]
     exact O.tra _ _ _ a5 d))
    rw [iY] at this
    exact this
  ·rw [if_neg c']
   have:m=1:=by omega
   subst this
   refine BP O (Sl _) hm hN ?_
   exact Down.more O (λi j h1 h2=>by
    have:i=j:=by omega
    rw [this];exact O.irr _) (Sl _) a5
theorem sU (O:Ord q){p:Array Nat}{k:Nat}(hs:Up q p k):∀(f l r:Nat),l<=r->r<=k->r - l<=f->(∀i,i < l->q (bM p k) (bM p i)=false)->(∀i,r<=i->i < k->q (bM p k) (bM p i)=true)->
  bh q (Vk p k f l r)<=k/\(∀i,i < bh q (Vk p k f l r)->q (bM p k) (bM p i)=false)/\∀i,bh q (Vk p k f l r)<=i->i < k->q (bM p k) (bM p i)=true
 | 0,l,r,h1,h2,h3,h4,h5=>⟨by show l<=k;omega,h4,λi hi=>h5 i (by show r<=i;have:l<=i:=hi;omega)⟩
 | f + 1,l,r,h1,h2,h3,h4,h5=>by
  by_cases c:l ≥ r
  ·have e:bh q (Vk p k (f + 1) l r)=l:=by
    unfold Vk
    rw [if_pos c]
    rfl
   rw [e]
   exact ⟨by omega,h4,λi hi=>h5 i (by omega)⟩
  ·cases d:q (bM p k) (bM p ((l + r) / 2)) with
   | true=>
    have e:bh q (Vk p k (f + 1) l r)=bh q (Vk p k f l ((l + r) / 2)):=by
     rw [Vk,if_neg c]
     show bh q (if q (bM p k) (bM p ((l + r) / 2))=true then _ else _)=_
     rw [if_pos d]
    rw [e]
    refine sU O hs f l ((l + r) / 2) (by omega) (by omega) (by omega) h4 λi i1 i2=>?_
    by_cases ci:r<=i
    ·exact h5 i ci i2
    ·cases dd:q (bM p k) (bM p i) with
     | true=>rfl
     | false=>
      have:=O.tra _ _ _ (hs ((l + r) / 2) i i1 i2) dd
      rw [d] at this
      cases this
   | false=>
    have e:bh q (Vk p k (f + 1) l r)=bh q (Vk p k f ((l + r) / 2 + 1) r):=by
     rw [Vk,if_neg c]
     show bh q (if q (bM p k) (bM p ((l + r) / 2))=true then _ else _)=_
     rw [if_neg (by rw [d];decide)]
    rw [e]
    refine sU O hs f ((l + r) / 2 + 1) r (by omega) (by omega) (by omega) (λi hi=>?_) h5
    exact O.tra _ _ _ (hs i ((l + r) / 2) (by omega) (by omega)) d
theorem LW (O:Ord q){p:Array Nat}{k l:Nat}(hk:k < p.size) (hl:l<=k) (hs:Up q p k) (h1:∀i,i < l->q (bM p k) (bM p i)=false) (h2:∀i,l<=i->i < k->q (bM p k) (bM p i)=true):Up q (bubble p k (k - l)) (k + 1):=λi j hi hj=>by
 rw [D9 hk (by omega),D9 hk (by omega),show k - (k - l)=l by omega]
 by_cases a:i=l
 ·rw [if_pos a]
  by_cases b:j=l
  ·rw [if_pos b];exact O.irr _
  ·rw [if_neg b,if_pos (by omega)]
   exact O.asy _ _ (h2 (j - 1) (by omega) (by omega))
 ·rw [if_neg a]
  by_cases b:j=l
  ·rw [if_pos b,if_neg (by omega)]
   exact h1 i (by omega)
  ·rw [if_neg b]
   by_cases a':l < i/\i<=k
   ·rw [if_pos a',if_pos (by omega)]
    exact hs _ _ (by omega) (by omega)
   ·rw [if_neg a']
    by_cases b':l < j/\j<=k
    ·rw [if_pos b']
     exact hs _ _ (by omega) (by omega)
    ·rw [if_neg b']
     exact hs _ _ hi (by omega)
theorem Eb (O:Ord q):∀(f:Nat) (p:Array Nat) (k:Nat),k + f<=p.size->Up q p k->Up q (bh q (abI f p k)) (k + f)
 | 0,p,k,_,h=>h
 | f + 1,p,k,hs,h=>by
  have e:bh q (abI (f + 1) p k)=bh q (abI f (bubble p k (k - bh q (Vk p k k 0 k))) (k + 1)):=by
   rw [abI,run_bind]
  rw [e]
  obtain ⟨a1,a2,a3⟩:=sU O h k 0 k (SQ _) (Sl _) (by omega) (λi hi=>by omega) (λi h1 h2=>by omega)
  have:=Eb O f (bubble p k (k - bh q (Vk p k k 0 k))) (k + 1) (by rw [bubble_size];omega) (LW O (by omega) a1 h a2 a3)
  rw [show k + (f + 1)=k + 1 + f by omega]
  exact this
theorem Lh (O:Ord q) (n:Nat) (hn:1<=n):Up q (bh q (V9 n)) n:=by
 unfold V9
 rw [run_bind]
 obtain ⟨a0,a1,a2,a3⟩:=GL O (p:=(Se n).toArray) (N:=n) hn (by simp)
 generalize bh q (aaG n (Se n).toArray)=r at *
 have a0:r.2.size=n:=by simpa using a0
 by_cases c:r.1 < n
 ·rw [if_pos c]
  have:=Eb O (n - max r.1 1) r.2 (max r.1 1) (by omega) (by rw [show max r.1 1=r.1 by omega];exact a3)
  rwa [show max r.1 1 + (n - max r.1 1)=n by omega] at this
 ·rw [if_neg c]
  have:r.1=n:=by omega
  rw [this] at a3
  exact a3
end
end DL
namespace DL
open PySem PySem.Spec PyProof.Rows L2
open PySem.W (kas_sort)
def fG (x y:D):Bool:=(fF x y).getD false
structure gD (P:D->Prop):Prop where
 eq:∀x y,P x->P y->(bx x y=true↔x=y)
 lt:∀x y,P x->P y->(fF x y).isSome=true
 asy:∀x y,P x->P y->fG x y=true->fG y x=false
 tri:∀x y,P x->P y->fG x y=false->fG y x=false->x=y
 tra:∀x y z,P x->P y->P z->fG x y=true->fG y z=true->fG x z=true
def iI (xs ys:List D):Bool:=fG (.tup xs) (.tup ys)
theorem jU (x y:D) (xs ys:List D):iI (x::xs) (y::ys)=if bx x y=true then iI xs ys else fG x y:=by
 show (if bx x y=true then kG xs ys else fF x y).getD false=_
 by_cases h:bx x y=true
 ·rw [if_pos h,if_pos h];rfl
 ·rw [if_neg h,if_neg h];rfl
variable {P R:D->Prop}
theorem kU (xs ys:List D):bx (.tup xs) (.tup ys)=cQ xs ys:=by rw [bx]
theorem gS (x y:D) (xs ys:List D):cQ (x::xs) (y::ys)=(bx x y && cQ xs ys):=by rw [cQ]
structure lG (Q:List D->Prop):Prop where
 eq:∀x y,Q x->Q y->(cQ x y=true↔x=y)
 lt:∀x y,Q x->Q y->(kG x y).isSome=true
 asy:∀x y,Q x->Q y->iI x y=true->iI y x=false
 tri:∀x y,Q x->Q y->iI x y=false->iI y x=false->x=y
 tra:∀x y z,Q x->Q y->Q z->iI x y=true->iI y z=true->iI x z=true
theorem lG.tot {Q:List D->Prop}(h:lG Q):gD λd=>∃xs,d=.tup xs/\Q xs where
 eq:=by
  rintro _ _ ⟨x,rfl,hx⟩ ⟨y,rfl,hy⟩
  rw [kU,h.eq x y hx hy]
  exact ⟨λe=>e▸rfl,λe=>by cases e;rfl⟩
 lt:=by
  rintro _ _ ⟨x,rfl,hx⟩ ⟨y,rfl,hy⟩
  exact h.lt x y hx hy
 asy:=by
  rintro _ _ ⟨x,rfl,hx⟩ ⟨y,rfl,hy⟩
  exact h.asy x y hx hy
 tri:=by
  rintro _ _ ⟨x,rfl,hx⟩ ⟨y,rfl,hy⟩ h1 h2
  rw [h.tri x y hx hy h1 h2]
 tra:=by
  rintro _ _ _ ⟨x,rfl,hx⟩ ⟨y,rfl,hy⟩ ⟨z,rfl,hz⟩
  exact h.tra x y z hx hy hz
theorem BG (p:gD P){x y z:D}{r s t:List D}(px:P x) (py:P y) (pz:P z) (h:iI r s=true->iI s t=true->iI r t=true) (h1:iI (x::r) (y::s)=true) (h2:iI (y::s) (z::t)=true):iI (x::r) (z::t)=true:=by
 rw [jU] at h1 h2 ⊢
 by_cases e:x=y
 ·subst e
  rw [if_pos ((p.eq x x px px).mpr rfl)] at h1
  by_cases f:x=z
  ·subst f
   rw [if_pos ((p.eq x x px px).mpr rfl)] at h2 ⊢
   exact h h1 h2
  ·rw [if_neg λq=>f ((p.eq x z px pz).mp q)] at h2 ⊢
   exact h2
 ·rw [if_neg λq=>e ((p.eq x y px py).mp q)] at h1
  by_cases f:y=z
  ·subst f
   rw [if_neg λq=>e ((p.eq x y px py).mp q)]
   exact h1
  ·rw [if_neg λq=>f ((p.eq y z py pz).mp q)] at h2
   have h3:=p.tra x y z px py pz h1 h2
   by_cases g:x=z
   ·subst g
    have:=p.asy x x px px h3
    rw [h3] at this
    cases this
   ·rw [if_neg λq=>g ((p.eq x z px pz).mp q)]
    exact h3
theorem lG.cons {Q:List D->Prop}(p:gD P) (h:lG Q):lG λxs=>∃x r,xs=x::r/\P x/\Q r where
 eq:=by
  rintro _ _ ⟨x,r,rfl,px,qr⟩ ⟨y,s,rfl,py,qs⟩
  rw [gS,Sk,p.eq x y px py,h.eq r s qr qs]
  exact ⟨λe=>by rw [e.1,e.2],λe=>by cases e;exact ⟨rfl,rfl⟩⟩
 lt:=by
  rintro _ _ ⟨x,r,rfl,px,qr⟩ ⟨y,s,rfl,py,qs⟩
  show (if bx x y=true then kG r s else fF x y).isSome=true
  split
  ·exact h.lt r s qr qs
  ·exact p.lt x y px py
 asy:=by
  rintro _ _ ⟨x,r,rfl,px,qr⟩ ⟨y,s,rfl,py,qs⟩ hl
  rw [jU] at hl ⊢
  by_cases e:x=y
  ·subst e
   rw [if_pos ((p.eq x x px px).mpr rfl)] at hl ⊢
   exact h.asy r s qr qs hl
  ·rw [if_neg λz=>e ((p.eq x y px py).mp z)] at hl
   rw [if_neg λz=>e ((p.eq y x py px).mp z).symm]
   exact p.asy x y px py hl
 tri:=by
  rintro _ _ ⟨x,r,rfl,px,qr⟩ ⟨y,s,rfl,py,qs⟩ h1 h2
  rw [jU] at h1 h2
  by_cases e:x=y
  ·subst e
   rw [if_pos ((p.eq x x px px).mpr rfl)] at h1 h2
   rw [h.tri r s qr qs h1 h2]
  ·rw [if_neg λz=>e ((p.eq x y px py).mp z)] at h1
   rw [if_neg λz=>e ((p.eq y x py px).mp z).symm] at h2
   exact absurd (p.tri x y px py h1 h2) e
 tra:=by
  rintro _ _ _ ⟨x,r,rfl,px,qr⟩ ⟨y,s,rfl,py,qs⟩ ⟨z,t,rfl,pz,qt⟩ h1 h2
  exact BG p px py pz (h.tra r s t qr qs qt) h1 h2
theorem lG.nil:lG λxs=>xs=[] where
 eq:=by rintro _ _ rfl rfl;simp [cQ]
 lt:=by rintro _ _ rfl rfl;rfl
 asy:=by rintro _ _ rfl rfl h;cases h
 tri:=by rintro _ _ rfl rfl _ _;rfl
 tra:=by rintro _ _ _ rfl rfl rfl h;cases h
theorem gD.list (p:gD P):lG λxs=>∀x∈xs,P x where
 eq:=by
  intro xs
  induction xs with
  | nil=>intro ys _ _;cases ys <;> simp [cQ]
  | cons x xs ih=>
   intro ys hx hy
   cases ys with
   | nil=>simp [cQ]
   | cons y ys=>
    rw [gS,Sk,p.eq x y (hx x Si) (hy y Si),ih ys (λz hz=>hx z (Sg _ hz)) λz hz=>hy z (Sg _ hz)]
    exact ⟨λe=>by rw [e.1,e.2],λe=>by cases e;exact ⟨rfl,rfl⟩⟩
 lt:=by
  intro xs
  induction xs with
  | nil=>intro ys _ _;rfl
  | cons x xs ih=>
   intro ys hx hy
   cases ys with
   | nil=>rfl
   | cons y ys=>
    show (if bx x y=true then kG xs ys else fF x y).isSome=true
    split
    ·exact ih ys (λz hz=>hx z (Sg _ hz)) λz hz=>hy z (Sg _ hz)
    ·exact p.lt x y (hx x Si) (hy y Si)
 asy:=by
  intro xs
  induction xs with
  | nil=>
   intro ys _ _ h
   cases ys with
   | nil=>cases h
   | cons y ys=>rfl
  | cons x xs ih=>
   intro ys hx hy hl
   cases ys with
   | nil=>cases hl
   | cons y ys=>
    have px:=hx x Si
    have py:=hy y Si
    rw [jU] at hl ⊢
    by_cases e:x=y
    ·subst e
     rw [if_pos ((p.eq x x px px).mpr rfl)] at hl ⊢
     exact ih ys (λz hz=>hx z (Sg _ hz)) (λz hz=>hy z (Sg _ hz)) hl
    ·rw [if_neg λz=>e ((p.eq x y px py).mp z)] at hl
     rw [if_neg λz=>e ((p.eq y x py px).mp z).symm]
     exact p.asy x y px py hl
 tri:=by
  intro xs
  induction xs with
  | nil=>
   intro ys _ _ h1 h2
   cases ys with
   | nil=>rfl
   | cons y ys=>cases h1
  | cons x xs ih=>
   intro ys hx hy h1 h2
   cases ys with
   | nil=>cases h2
   | cons y ys=>
    have px:=hx x Si
    have py:=hy y Si
    rw [jU] at h1 h2
    by_cases e:x=y
    ·subst e
     rw [if_pos ((p.eq x x px px).mpr rfl)] at h1 h2
     rw [ih ys (λz hz=>hx z (Sg _ hz)) (λz hz=>hy z (Sg _ hz)) h1 h2]
    ·rw [if_neg λz=>e ((p.eq x y px py).mp z)] at h1
     rw [if_neg λz=>e ((p.eq y x py px).mp z).symm] at h2
     exact absurd (p.tri x y px py h1 h2) e
 tra:=by
  intro xs
  induction xs with
  | nil=>
   intro ys zs _ _ _ h1 h2
   cases ys with
   | nil=>cases h1
   | cons y ys=>
    cases zs with
    | nil=>cases h2
    | cons z zs=>rfl
  | cons x xs ih=>
   intro ys zs hx hy hz h1 h2
   cases ys with
   | nil=>cases h1
   | cons y ys=>
    cases zs with
    | nil=>cases h2
    | cons z zs=>
     have px:=hx x Si
     have py:=hy y Si
     have pz:=hz z Si
     exact BG p px py pz (ih ys zs (λz hz=>hx z (Sg _ hz)) (λz hz=>hy z (Sg _ hz)) λw hw=>hz w (Sg _ hw)) h1 h2
theorem OO:gD λd=>∃k,d=.bl k where
 eq:=by rintro _ _ ⟨x,rfl⟩ ⟨y,rfl⟩;simp [bx]
 lt:=by rintro _ _ ⟨x,rfl⟩ ⟨y,rfl⟩;rfl
 asy:=by rintro _ _ ⟨x,rfl⟩ ⟨y,rfl⟩;revert x y;decide
 tri:=by
  rintro _ _ ⟨x,rfl⟩ ⟨y,rfl⟩ h1 h2
  revert h1 h2
  cases x <;> cases y <;> intro h1 h2
  ·rfl
  ·exact absurd h1 (by decide)
  ·exact absurd h2 (by decide)
  ·rfl
 tra:=by rintro _ _ _ ⟨x,rfl⟩ ⟨y,rfl⟩ ⟨z,rfl⟩;revert x y z;decide
theorem nT (x y:Int):fG (.int x) (.int y)=decide (x < y):=rfl
theorem OP:gD λd=>∃k,d=.int k where
 eq:=by rintro _ _ ⟨x,rfl⟩ ⟨y,rfl⟩;simp [bx]
 lt:=by rintro _ _ ⟨x,rfl⟩ ⟨y,rfl⟩;rfl
 asy:=by
  rintro _ _ ⟨x,rfl⟩ ⟨y,rfl⟩ h
  rw [nT,decide_eq_true_eq] at h
  rw [nT,decide_eq_false_iff_not]
  omega
 tri:=by
  rintro _ _ ⟨x,rfl⟩ ⟨y,rfl⟩ h1 h2
  rw [nT,decide_eq_false_iff_not] at h1 h2
  rw [show x=y by omega]
 tra:=by
  rintro _ _ _ ⟨x,rfl⟩ ⟨y,rfl⟩ ⟨z,rfl⟩ h1 h2
  rw [nT,decide_eq_true_eq] at h1 h2 ⊢
  omega
theorem rq (x y:Str):fG (.str x) (.str y)=decide (x.cps.toList < y.cps.toList):=rfl
theorem vP {x y:Str}(h:x.cps.toList=y.cps.toList):x=y:=by
 obtain ⟨⟨cx⟩⟩:=x
 obtain ⟨⟨cy⟩⟩:=y
 simp only at h
 rw [h]
theorem OQ:gD λd=>∃k,d=.str k where
 eq:=by rintro _ _ ⟨x,rfl⟩ ⟨y,rfl⟩;simp [bx]
 lt:=by rintro _ _ ⟨x,rfl⟩ ⟨y,rfl⟩;rfl
 asy:=by
  rintro _ _ ⟨x,rfl⟩ ⟨y,rfl⟩ h
  rw [rq,decide_eq_true_eq] at h
  rw [rq,decide_eq_false_iff_not]
  exact List.lt_asymm h
 tri:=by
  rintro _ _ ⟨x,rfl⟩ ⟨y,rfl⟩ h1 h2
  rw [rq,decide_eq_false_iff_not] at h1 h2
  rw [vP (aan h2 h1)]
 tra:=by
  rintro _ _ _ ⟨x,rfl⟩ ⟨y,rfl⟩ ⟨z,rfl⟩ h1 h2
  rw [rq,decide_eq_true_eq] at h1 h2 ⊢
  exact List.lt_trans h1 h2
inductive Fm where
 | b | i | s | hom (t:Fm) | tn | tc (x r:Fm)
noncomputable def jJ:Fm->D->Prop
 | .b,d=>∃k,d=.bl k
 | .i,d=>∃k,d=.int k
 | .s,d=>∃k,d=.str k
 | .hom t,d=>∃xs,d=.tup xs/\∀x∈xs,jJ t x
 | .tn,d=>∃xs,d=.tup xs/\xs=[]
 | .tc x r,d=>∃xs,d=.tup xs/\∃y ys,xs=y::ys/\jJ x y/\jJ r (.tup ys)
theorem gD.tail {Q:List D->Prop}(h:gD R) (k:∀xs,Q xs->R (.tup xs)):lG Q where
 eq:=λx y hx hy=>by
  have:=h.eq _ _ (k x hx) (k y hy)
  rw [kU] at this
  rw [this]
  exact ⟨λe=>by cases e;rfl,λe=>e▸rfl⟩
 lt:=λx y hx hy=>h.lt _ _ (k x hx) (k y hy)
 asy:=λx y hx hy=>h.asy _ _ (k x hx) (k y hy)
 tri:=λx y hx hy h1 h2=>by
  have:=h.tri _ _ (k x hx) (k y hy) h1 h2
  cases this;rfl
 tra:=λx y z hx hy hz=>h.tra _ _ _ (k x hx) (k y hy) (k z hz)
theorem g7:∀t:Fm,gD (jJ t)
 | .b=>OO
 | .i=>OP
 | .s=>OQ
 | .hom t=>(g7 t).list.tot
 | .tn=>lG.nil.tot
 | .tc x r=>(lG.cons (g7 x) (gD.tail (Q:=λys=>jJ r (.tup ys)) (g7 r) λ_ h=>h)).tot
theorem OF (ds:List D):(cY ds).length=ds.length:=by
 unfold cY
 by_cases h:ds.length < 2
 ·rw [if_pos h]
 ·rw [if_neg h,Sh]
  have:=((kc (n:=ds.length) (by omega)).run (ltB ds)).size_eq
  simpa using this
theorem Kv (ds:List D):(Se ds.length).map (dZ ds)=ds:=by
 refine Vg (by simp) λi h1 h2=>?_
 rw [Wa,ZL]
 unfold dZ
 rw [SS,Sn h2]
 rfl
theorem gE (ds:List D):(cY ds).Perm ds:=by
 unfold cY
 by_cases h:ds.length < 2
 ·rw [if_pos h]
 ·rw [if_neg h]
  have hp:=(kc (n:=ds.length) (by omega)).run (ltB ds)
  have hq:(bh (ltB ds) (V9 ds.length)).toList.Perm (Se ds.length):=by
   have:=Array.perm_iff_toList_perm.mp hp
   simpa using this
  have:=hq.map (dZ ds)
  rwa [Kv] at this
theorem Ip (p:gD P) (ds:List D) (h:∀x∈ds,P x):(cY ds).Pairwise λx y=>fG y x=false:=by
 unfold cY
 by_cases h2:ds.length < 2
 ·rw [if_pos h2]
  match ds,h2 with
  | [],_=>exact .nil
  | [x],_=>exact Ti _ _
 ·rw [if_neg h2]
  have hn:0 < ds.length:=by omega
  have hb:=kc (n:=ds.length) hn
  have at_P:∀i,i < ds.length->P (dZ ds i):=λi hi=>h _ (i9 hi)
  let q':Nat->Nat->Bool:=λi j=>if i < ds.length then (if j < ds.length then ltB ds i j else true) else false
  have hq:bh (ltB ds) (V9 ds.length)=bh q' (V9 ds.length):=Ii hb λi j hi hj=>by simp [q',hi,hj]
  have O:Ord q':=by
   constructor
   ·intro a b hab
    by_cases ha:a < ds.length <;> by_cases hb:b < ds.length <;> simp [q',ha,hb] at hab ⊢
    exact p.asy _ _ (at_P a ha) (at_P b hb) hab
   ·intro a b c hab hbc
    by_cases ha:a < ds.length <;> by_cases hb:b < ds.length <;> by_cases hc:c < ds.length <;> simp [q',ha,hb,hc] at hab hbc ⊢
    have h1:fG (dZ ds b) (dZ ds a)=false:=hab
    have h2:fG (dZ ds c) (dZ ds b)=false:=hbc
    show fG (dZ ds c) (dZ ds a)=false
    cases g:fG (dZ ds c) (dZ ds a) with
    | false=>rfl
    | true=>
     have pa:=at_P a ha
     have pb:=at_P b hb
     have pc:=at_P c hc
     cases g2:fG (dZ ds a) (dZ ds b) with
     | true=>
      have:=p.tra _ _ _ pc pa pb g g2
      rw [this] at h2;cases h2
     | false=>
      rw [<-p.tri _ _ pb pa h1 g2] at g
      rw [g] at h2;cases h2
  have up:=Lh O ds.length (by omega)
  have hs:=(hb.run (ltB ds))
  rw [hq] at hs ⊢
  have hsz:(bh q' (V9 ds.length)).size=ds.length:=by simpa using hs.size_eq
  generalize bh q' (V9 ds.length)=A at *
  rw [S0,TZ]
  intro i j hi hj hij
  rw [Ss] at hi hj
  have:=up i j (by omega) (by omega)
  have e:∀k (hk:k < A.size),bM A k=A.toList[k]'(by rw [Ss];exact hk):=λk hk=>by
   show A.getD k 0=_
   simp [UN,hk]
  rw [e i hi,e j hj] at this
  have l:∀k (hk:k < A.size),A.toList[k]'(by rw [Ss];exact hk) < ds.length:=λk hk=>by
   rw [<-e k hk];exact hs.lt hn k
  have li:=l i hi
  have lj:=l j hj
  simp only [q',li,lj,if_true] at this
  exact this
end DL
namespace K52
open PySem DL
end K52
namespace K52
open PySem DL K01 WP K51
variable {P:D->Prop}
end K52
namespace DL
open PySem PySem.Spec PyProof.Rows L2
section
variable {X:Cx}{c:C}{e a b:Tc}{es elts:List Tc}{pos tp:Pos}{kk:Nat}
noncomputable def LS:R->M (List D)
 | .d (.tup xs)=>.ok xs
 | .d (.lst xs)=>.ok xs
 | _=>.bad
noncomputable def Qs (gs:G (List R)):G (List D):=λenv=>gs env >>= λrs=>match rs with
 | [x,y]=>LS x >>= λxs=>LS y >>= λys=>.ok (List.zipWith (λa b=>.tup [a,b]) xs ys)
 | _=>.bad
theorem GG:cP X (.type "range") (λxs H Q=>∃j:Int,xs=[.int j]/\∀p,H p=none->Q (.ref p) (upd H p (.rng 0 j))):=by
 intro R0 s σ H xs us Q I r h
 obtain ⟨j,rfl,q⟩:=h
 obtain ⟨u,rfl,t,rfl⟩:=vals1 r
 refine call_range_1 ⟨.ref s.heap.objs.size,_,I.laid (λb o e=>Sm _ e) (Sl _) (show dw X.prog X.w _ _ _ (.rng 0 j) from ⟨_,_,_,Sw _ rfl⟩),rfl,q _ (I.hok.fresh (Sl _))⟩
def mO (n:Nat):List V:=(Se n).map λ(k:Nat)=>V.int k
theorem IB {n:Nat}{acc:Array Sa}(h:ItemsOf (λi v=>∃t,v=.int (0 + (i:Int) * 1) t) acc n):Vals (mO n) acc.toList:=by
 have key:∀(us:List Sa) (i:Nat),(∀j v,us[j]?=some v->∃t:Tok,v=aav ((i + j:Nat):Int) t)->Vals ((acs i us.length).map λ(k:Nat)=>V.int k) us:=by
  intro us
  induction us with
  | nil=>exact λi _=>.nil
  | cons u us ih=>
   intro i hj
   obtain ⟨t,e⟩:=hj 0 u rfl
   rw [Uh,aap,Sx]
   refine .cons ⟨t,by rw [e];rfl⟩ (ih (i + 1) λj v hv=>?_)
   obtain ⟨t,e⟩:=hj (j + 1) v (by simpa using hv)
   exact ⟨t,by rw [e];congr 2;omega⟩
 have e:acc.toList.length=n:=by rw [Ss];exact h.1
 unfold mO
 rw [Y8,<-e]
 refine key acc.toList 0 λj v hv=>?_
 obtain ⟨t,q⟩:=h.2 j v (by simpa using hv)
 exact ⟨t,by rw [q];congr 1;omega⟩
theorem xE (hc:X.calm=true):cP X (.type "list") (λxs H Q=>∃(p:Sq) (j:Int),xs=[.ref p]/\H p=some (.rng 0 j)/\-(2 ^ 24)<=j/\j<=2 ^ 24/\∀l,H l=none->Q (.ref l) (upd H l (.lst (mO j.toNat)))):=by
 intro R0 s σ H xs us Q I r h
 obtain ⟨p,j,rfl,hp,h0,h1,q⟩:=h
 obtain ⟨u,rfl,rx⟩:=vals1 r
 cases rx
 obtain ⟨t,u,v,ho⟩:=I.hok p _ hp
 have hn:Yb 0 j 1=(j.toNat:Int):=by rw [abz];split <;> omega
 refine call_list_range (I.ok.hd hc) ho (small_one (by decide) (by decide) (by omega) (by omega)) hn (by omega) λh' tk acc' c' kp e hi=>?_
 have hv:=IB hi
 refine ⟨.ref s.heap.objs.size,_,I.laid kp (Sl _) (show dw X.prog X.w _ h' _ (.lst (mO j.toNat)) from ⟨?_,acc'.toList,c',hv,e⟩),rfl,q _ (I.hok.fresh (Sl _))⟩
 unfold mO
 rw [Sh,Uj]
 show j.toNat<=2 ^ 24
 omega
noncomputable def q9 (gs:G (List R)):G R:=λenv=>gs env >>= λrs=>match rs with
 | [.d (.int j)]=>if below 16777216 j then .ok (.l .fresh (eB 0 j.toNat)) else .bad
 | _=>.bad
theorem Ih {K:R_}{J:Hp}(n:Nat):aK K J (eB 0 n) (mO n):=by
 unfold eB mO
 generalize Se n=ks
 induction ks with
 | nil=>exact .nil
 | cons k ks ih=>
  rw [Sx,Sx,YK]
  exact .cons (.int _) ih
end
end DL
namespace DL
open PySem PySem.Spec PyProof.Rows L2 DX
section
variable {X:Cx}{c:C}{e a:Tc}{es:List Tc}{ga g:G R}{pos:Pos}{L:List Str}{T:Str->Bool}
theorem o9 {p p2 pos2:Pos}{gs:G (List R)}(ha:lE X c [a] gs) (hm:X.mg "range"=none) (hm2:X.mg "list"=none) (hc:X.calm=true:=by rfl) (hK:X.K=c.K:=by rfl) (hg:Gl X "range":=by rfl) (Q_:Gl X "list":=by rfl)
  (hs:Sv [a] X.env=(false,eval a X.env)::Sv [] X.env:=by rfl) (hs0:(Vd pos (Sv [] X.env)).any (·.1)=false:=by rfl) (hs2:Sv [acW (.Name "range" p) [a] [] pos] X.env=(false,eval (acW (.Name "range" p) [a] [] pos) X.env)::Sv [] X.env:=by rfl) (RT:(Vd pos2 (Sv [] X.env)).any (·.1)=false:=by rfl):
  QD X c (.Call (.Name "list" p2) [.Call (.Name "range" p) [a] [] pos] [] pos2) (q9 gs):=by
 have ha:=ha.h
 refine ⟨?_⟩
 have h1:=mQ (p:=p) (pos:=pos) GG hg hm boot_range ha (by decide) (by decide) hs hs0
 have h2:=mQ (p:=p2) (pos:=pos2) (xE hc) Q_ hm2 CC (gT h1 kq hs2) (by decide) (by decide) hs2 RT
 refine gg h2 λσ H Q ⟨J,env,sr,w⟩=>?_
 refine ⟨J,env,sr,aG (aL w) λrs wr vs J1 H1 e1 r1=>?_⟩
 split at wr
 ·rename_i j
  obtain ⟨v,rfl,r⟩:=r1.one
  cases r
  split at wr
  ·rename_i hb
   obtain ⟨b1,b2⟩:=eE.mp hb
   refine ⟨j,rfl,λq hq=>?_⟩
   refine ⟨q,j,rfl,cO,by omega,by omega,λl hl=>?_⟩
   have hp1:=sr.hp.ext e1
   have e2:=Ext.new hp1.sub hq (.rng 0 j)
   have hp2:=hp1.ext e2
   have hr:RR c H1 J1 (upd (upd H1 q (.rng 0 j)) l (.lst (mO j.toNat))) (.l .fresh (eB 0 j.toNat)) (.ref l):=by
    obtain ⟨a,us,x1,x2,x3,x4,x5⟩:=jA (c:=c) hp2 hl (Ih j.toNat)
    exact ⟨a,us,x1,x2,x3,e2.h.free x4,x5⟩
   exact wr _ _ _ ((e1.trans e2).trans (Ext.new hp2.sub hl _)) (by
    obtain ⟨a,us,x1,x2,x3,x4,x5⟩:=hr
    exact ⟨a,us,x1,x2,x3,e1.h.free x4,x5⟩)
  ·exact wr.elim
 ·exact wr.elim
end
end DL
namespace DL
open PySem PySem.Spec PyProof.Rows L2
end DL
namespace DL
open PySem PySem.Spec PyProof.Rows L2 DX
open PySem.W (KasT kas_sort kas_ask)
section
variable {X:Cx}{c:C}{e:Tc}{es:List Tc}{pos:Pos}
noncomputable def qd:List R->M R
 | [r]=>jH r >>= λxs=>if E5 xs=true then .ok (.l .fresh (cY xs)) else if wL xs=true then .ok (.l .fresh (cY xs)) else .bad
 | _=>.bad
theorem cP.or {f:Sa}{r1 r2:List V->Hp->VK->Prop}(h1:cP X f r1) (h2:cP X f r2):cP X f (λxs H Q=>r1 xs H Q\/r2 xs H Q):=λR0 s σ H xs us Q I rv h=>h.elim (h1 R0 s σ H xs us Q I rv) (h2 R0 s σ H xs us Q I rv)
theorem FH {p:Pos}{gs:G (List R)}(hu:X.A.units + 64 < Us) (ha:lE X c (e::es) gs) (hm:X.mg "sorted"=none) (hK:X.K=c.K:=by rfl) (hg:Gl X "sorted":=by rfl)
  (he:Sv (e::es) X.env=(false,eval e X.env)::Sv es X.env:=by rfl) (hpl:(Vd pos (Sv es X.env)).any (·.1)=false:=by rfl):QD X c (.Call (.Name "sorted" p) (e::es) [] pos) (gN qd gs):=have ha:=ha.h;⟨
 lQ (yT hu) (by
  intro He J H xs vs Q hp rs w
  unfold qd at w
  split at w
  ·obtain ⟨v,rfl,r⟩:=rs.one
   obtain ⟨xs,q,w⟩:=lA w
   obtain ⟨p,vs,rfl,h1,h2⟩:=nI hp r q
   rw [hK]
   split at w
   ·rename_i ok
    exact ⟨p,vs,xs,rfl,h1,h2.mono hp.sub,.inl ok,λl vs' hl rr=>w _ _ _ (Ext.new hp.sub hl _) (jA hp hl (rr _ h2))⟩
   ·split at w
    ·rename_i ok
     exact ⟨p,vs,xs,rfl,h1,h2.mono hp.sub,.inr ok,λl vs' hl rr=>w _ _ _ (Ext.new hp.sub hl _) (jA hp hl (rr _ h2))⟩
    ·exact w.elim
  ·exact w.elim) lH hm ha hg (by decide) (by decide) he hpl⟩
end
end DL
namespace DL
open PySem PySem.Spec PyProof.Rows L2 DX
section
variable {X:Cx}{c:C}{e:Tc}{es:List Tc}{pos:Pos}
theorem any_range (ks:List Bool):(Se ks.length).any (λi=>ks.getD i false)=ks.any id:=by
 induction ks with
 | nil=>rfl
 | cons k r ih=>
  rw [Uh,WE,W6,Wj,W6]
  simp only [Zl]
  rw [<-ih]
  rfl
theorem Eh (hc:X.calm=true):cP X (.builtin "any") (λxs H Q=>∃(p:Sq) (ks:List Bool),xs=[.ref p]/\dD X.K H p (ks.map V.bl)/\Q (.bl (ks.any id)) H):=by
 intro R0 s σ H xs us Q I r h
 obtain ⟨p,ks,rfl,hq,q⟩:=h
 obtain ⟨u,rfl,rx⟩:=vals1 r
 cases rx
 obtain ⟨R1,r',pl,hz⟩:=I.list hq
 have hi:=tE r'
 subst hi
 have Rq:p≠s.heap.objs.size:=by
  obtain ⟨o,h1,_⟩:=pl.isList
  exact S4 (SA h1)
 refine call_any_walk (XN pl.isList ⟨s.heap.objs.size,_,_,_,_,_,(λi=>ks.getD i false),rfl,acM (A:=X.A.in1) (show X.A.in1.handled=none from I.ok.hd hc) s.heap.objs.size p Rq (ks.map Ve).toArray,⟨⟨_,Sw _ rfl,rfl,rfl⟩,aao pl.isList _⟩,?_,λh' tk k=>?_⟩)
 ·intro i v s' Q' E' hP hQ
  have e:∃k,ks[i]?=some k/\v=.bool k:=by
   have hP':(ks.map Ve)[i]?=some v:=by simpa using hP
   rw [SJ] at hP'
   cases z:ks[i]? with
   | none=>rw [z] at hP';cases hP'
   | some k=>rw [z] at hP';cases hP';exact ⟨k,rfl,rfl⟩
  obtain ⟨k,e1,rfl⟩:=e
  simp only at hQ
  rw [SS,e1] at hQ
  exact TX hQ
 ·have sz:(ks.map Ve).toArray.size=ks.length:=by simp
  rw [sz,any_range]
  refine ⟨.bl (ks.any id),H,?_,rfl,q⟩
  refine I.kept λb o e=>k b o (λz=>?_) (Sm _ e)
  have:b=s.heap.objs.size:=by simpa using z
  exact absurd (this▸SA e) (UO _)
noncomputable def qc:List R->M R
 | [r]=>kI r >>= λxs=>match iR xs with
  | some ks=>.ok (.d (.bl (ks.any id)))
  | none=>.bad
 | _=>.bad
theorem Ed:Tv "any"=some (.builtin "any"):=by decide +kernel
theorem BV {p:Pos}{gs:G (List R)}(ha:lE X c (e::es) gs) (hm:X.mg "any"=none) (hK:X.K=c.K:=by rfl) (hc:X.calm=true:=by rfl) (hg:Gl X "any":=by rfl)
  (he:Sv (e::es) X.env=(false,eval e X.env)::Sv es X.env:=by rfl) (hpl:(Vd pos (Sv es X.env)).any (·.1)=false:=by rfl):QD X c (.Call (.Name "any" p) (e::es) [] pos) (gN qc gs):=have ha:=ha.h;⟨
 lQ (Eh hc) (by
  intro He J H xs vs Q hp rs w
  unfold qc at w
  split at w
  ·obtain ⟨v,rfl,r⟩:=rs.one
   obtain ⟨xs,q,w⟩:=rC w
   obtain ⟨p,vs,rfl,h1,h2⟩:=RR.list hp r q
   split at w
   ·rename_i ks z
    have:=p7 z h2
    subst this
    exact ⟨p,ks,rfl,by rw [hK];exact h1,w _ J H (Ext.refl hp.sub) (.bl _)⟩
   ·exact w.elim
  ·exact w.elim) Ed hm ha hg (by decide) (by decide) he hpl⟩
end
end DL
namespace ST
open PySem PySem.SetTable
theorem vm (xs:Array Nat) (j:Nat) (hs:xs.toList.Pairwise (· < ·)):∀(f lo hi:Nat),hi<=xs.size->lo<=hi->hi - lo<=f->(∀i,i < lo->xs.getD i 0 < j)->(∀i,hi<=i->i < xs.size->j<=xs.getD i 0)->
  below.go xs j f lo hi<=xs.size/\(∀i,i < below.go xs j f lo hi->xs.getD i 0 < j)/\∀i,below.go xs j f lo hi<=i->i < xs.size->j<=xs.getD i 0
 | 0,lo,hi,h1,h2,h3,h4,h5=>by
  have:lo=hi:=by omega
  subst this
  exact ⟨h1,h4,h5⟩
 | f + 1,lo,hi,h1,h2,h3,h4,h5=>by
  have mono:∀a b,a<=b->b < xs.size->xs.getD a 0<=xs.getD b 0:=λa b hab hb=>by
   rcases ZM hab with h | h
   ·have:=TZ.mp hs a b (by simpa using VQ h hb) (by simpa using hb) h
    simp [UN,VQ h hb,hb] at this ⊢
    omega
   ·rw [h];exact Sl _
  unfold below.go
  by_cases c:lo < hi
  ·rw [if_pos c]
   have hm:(lo + hi) / 2 < xs.size:=by omega
   have e:xs.getD ((lo + hi) / 2) j=xs.getD ((lo + hi) / 2) 0:=by simp [UN,hm]
   by_cases d:xs.getD ((lo + hi) / 2) j < j
   ·simp only [d,if_true]
    rw [e] at d
    exact vm xs j hs f _ hi h1 (by omega) (by omega) (λi hi'=>ZK (mono i ((lo + hi) / 2) (by omega) hm) d) h5
   ·simp only [d,if_false]
    rw [e] at d
    exact vm xs j hs f lo _ (by omega) (by omega) (by omega) h4 (λi hi' hs'=>S5 (by omega) (mono ((lo + hi) / 2) i hi' hs'))
  ·rw [if_neg c]
   have:lo=hi:=by omega
   subst this
   exact ⟨h1,h4,h5⟩
theorem oA (xs:Array Nat) (j:Nat) (hs:xs.toList.Pairwise (· < ·)):below xs j<=xs.size/\(∀i,i < below xs j->xs.getD i 0 < j)/\∀i,below xs j<=i->i < xs.size->j<=xs.getD i 0:=
 vm xs j hs xs.size 0 xs.size (Sl _) (SQ _) (by omega) (λi h=>absurd h (TL _)) (λi h1 h2=>by omega)
theorem below_at {xs:Array Nat}{i j:Nat}(hs:xs.toList.Pairwise (· < ·)) (h:xs[i]?=some j):below xs j=i:=by
 obtain ⟨hi,e⟩:=TV.mp h
 obtain ⟨b1,b2,b3⟩:=oA xs j hs
 have g:xs.getD i 0=j:=by simp [UN,hi,e]
 rcases Vz (below xs j) i with c | c | c
 ·have h1:=b3 (below xs j) (Sl _) (by omega)
  have:=TZ.mp hs (below xs j) i (by simpa using VQ c hi) (by simpa using hi) c
  simp [UN,VQ c hi] at h1
  simp at this
  omega
 ·exact c
 ·have:=b2 i c
  omega
theorem qI {t:TN}{i j:Nat}(hs:t.place.toList.Pairwise (· < ·)) (h:t.place[i]?=some j):t.slot j=.live i:=by
 unfold slot
 rw [below_at hs h]
 show (if (t.place[i]? == some j)=true then Slot.live i else _)=_
 rw [h]
 simp
theorem uG {t:TN}{j:Nat}(hd:t.dummies=#[]) (h:j∉t.place.toList):t.slot j=.empty:=by
 unfold slot
 have h1:(t.place[below t.place j]? == some j)=false:=by
  rw [beq_eq_false_iff_ne]
  intro z
  exact h (by
   obtain ⟨hi,e⟩:=TV.mp z
   rw [<-e]
   simp)
 have h2:has t.dummies j=false:=by rw [hd];rfl
 simp only [h1,h2,SE,if_false]
noncomputable def st (mask:Nat) (h:Int):Nat->Probe
 | 0=>({mask:=mask,place:=#[],dummies:=#[],finger:=0,led:=true,moves:=0,plain:=true}:TN).probeStart h
 | n + 1=>({mask:=mask,place:=#[],dummies:=#[],finger:=0,led:=true,moves:=0,plain:=true}:TN).advance (st mask h n)
abbrev pos (mask:Nat) (h:Int) (n:Nat):Nat:=(st mask h n).j
theorem pJ (mask:Nat) (h:Int):∀n,(st mask h n).dummy=none
 | 0=>rfl
 | n + 1=>by
  unfold st advance
  split
  ·exact pJ mask h n
  ·exact pJ mask h n
noncomputable def tn (mask:Nat) (h:Int):Nat->Nat×Nat
 | 0=>(bits h % (mask + 1),bits h)
 | k + 1=>leap mask (tn mask h k).1 (tn mask h k).2
theorem wZ (mask:Nat) (h:Int):∀(m n:Nat) (i p j:Nat),st mask h n={j:=j,more:=m,i:=i,perturb:=p,dummy:=none}->st mask h (n + m)={j:=j + m,more:=0,i:=i,perturb:=p,dummy:=none}
 | 0,n,i,p,j,e=>e
 | m + 1,n,i,p,j,e=>by
  have e1:st mask h (n + 1)={j:=j + 1,more:=m,i:=i,perturb:=p,dummy:=none}:=by
   show advance _ (st mask h n)=_
   rw [e]
   unfold advance
   simp
  have:=wZ mask h m (n + 1) i p (j + 1) e1
  rw [show n + (m + 1)=n + 1 + m by omega,this]
  congr 1;omega
theorem B6 (mask:Nat) (h:Int):∀k,∃n,n<=10 * k/\st mask h n={j:=(tn mask h k).1,more:=runEnd mask (tn mask h k).1 - (tn mask h k).1,i:=(tn mask h k).1,perturb:=(tn mask h k).2,dummy:=none}
 | 0=>⟨0,Sl _,rfl⟩
 | k + 1=>by
  obtain ⟨n,hn,e⟩:=B6 mask h k
  have hm:runEnd mask (tn mask h k).1 - (tn mask h k).1<=9:=by unfold runEnd;split <;> omega
  have:=wZ mask h _ n _ _ _ e
  refine ⟨n + (runEnd mask (tn mask h k).1 - (tn mask h k).1) + 1,by omega,?_⟩
  show advance _ (st mask h (n + (runEnd mask (tn mask h k).1 - (tn mask h k).1)))=_
  rw [this]
  unfold advance
  simp
  exact ⟨rfl,rfl,rfl,rfl⟩
theorem uJ (mask:Nat) (h:Int):∀k,(tn mask h k).2=bits h / 32 ^ k
 | 0=>by simp [tn]
 | k + 1=>by
  show (tn mask h k).2 / 32=_
  rw [uJ mask h k,Yz,YO]
theorem JI (h:Int):bits h < 2 ^ 64:=by
 unfold bits
 have:=Vj h (b:=2 ^ 64) (by decide)
 omega
def EY (mask i:Nat):Nat:=(i * 5 + 1) % (mask + 1)
noncomputable def iH (mask:Nat):Nat->Nat->Nat
 | 0,i=>i
 | r + 1,i=>EY mask (iH mask r i)
theorem Ay (mask:Nat) (h:Int):∀r,(tn mask h (12 + r)).1=iH mask r (tn mask h 12).1
 | 0=>rfl
 | r + 1=>by
  show (leap mask (tn mask h (12 + r)).1 (tn mask h (12 + r)).2).1=EY mask (iH mask r (tn mask h 12).1)
  rw [<-Ay mask h r,uJ]
  unfold leap EY
  have:bits h / 32 ^ (12 + r) / 32=0:=by
   rw [Yz,<-YO]
   refine Nat.div_eq_of_lt (SI (JI h) ?_)
   refine S5 (show 2 ^ 64<=32 ^ 13 by decide) (Ul (by decide) (by omega))
  rw [this]
theorem Pg:∀i:Fin 8,∀j:Fin 8,(Se 8).any (λr=>iH 7 r i.val == j.val)=true:=by decide +kernel
theorem N9:∀i:Fin 32,∀j:Fin 32,(Se 32).any (λr=>iH 31 r i.val == j.val)=true:=by decide +kernel
def L7:List Nat:=(Se 128).map λr=>iH 127 r 0
theorem Bs:∀j:Fin 128,L7.contains j.val=true:=by decide +kernel
theorem JO:iH 127 128 0=0:=by decide +kernel
theorem oW (mask:Nat):∀a b i,iH mask (a + b) i=iH mask a (iH mask b i)
 | 0,b,i=>by rw [aai];rfl
 | a + 1,b,i=>by
  rw [show a + 1 + b=(a + b) + 1 by omega]
  show EY mask (iH mask (a + b) i)=EY mask (iH mask a (iH mask b i))
  rw [oW mask a b i]
def mC (mask:Nat):Prop:=mask=7\/mask=31\/mask=127
theorem Ey {mask:Nat}(hm:mC mask) (i j:Nat) (hi:i<=mask) (hj:j<=mask):∃r,r<=mask/\iH mask r i=j:=by
 rcases hm with rfl | rfl | rfl
 ·have:=Pg ⟨i,by omega⟩ ⟨j,by omega⟩
  rw [UK] at this
  obtain ⟨r,h1,h2⟩:=this
  exact ⟨r,by have:=Sj.mp h1;omega,by simpa using h2⟩
 ·have:=N9 ⟨i,by omega⟩ ⟨j,by omega⟩
  rw [UK] at this
  obtain ⟨r,h1,h2⟩:=this
  exact ⟨r,by have:=Sj.mp h1;omega,by simpa using h2⟩
 ·have hi':=Bs ⟨i,by omega⟩
  have hj':=Bs ⟨j,by omega⟩
  rw [List.contains_iff_mem] at hi' hj'
  obtain ⟨a,ha,ea⟩:=Sf.mp hi'
  obtain ⟨b,hb,eb⟩:=Sf.mp hj'
  have ha:=Sj.mp ha
  have hb:=Sj.mp hb
  have ea:iH 127 a 0=i:=ea
  have eb:iH 127 b 0=j:=eb
  by_cases c:a<=b
  ·refine ⟨b - a,by omega,?_⟩
   rw [<-ea,<-oW,show b - a + a=b by omega]
   exact eb
  ·refine ⟨128 + b - a,by omega,?_⟩
   rw [<-ea,<-oW,show 128 + b - a + a=b + 128 by omega,oW,JO]
   exact eb
theorem DP (mask:Nat) (h:Int) (k:Nat):(tn mask h k).1<=mask:=by
 cases k with
 | zero=>exact WK (Y3 _ (by omega))
 | succ k=>exact WK (Y3 _ (by omega))
theorem visits {mask:Nat}(hm:mC mask) (h:Int) (j:Nat) (hj:j<=mask):∃n,n<=10 * (mask + 12)/\pos mask h n=j:=by
 obtain ⟨r,hr,e⟩:=Ey hm (tn mask h 12).1 j (DP mask h 12) hj
 obtain ⟨n,hn,q⟩:=B6 mask h (12 + r)
 refine ⟨n,by omega,?_⟩
 show (st mask h n).j=j
 rw [q]
 show (tn mask h (12 + r)).1=j
 rw [Ay,e]
theorem t8 {mask:Nat}(hm:mC mask) (h:Int) (P:List Nat) (hP:P.length<=mask):∃n,n<=10 * (mask + 12)/\pos mask h n∉P/\∀m,m < n->pos mask h m∈P:=by
 have ex:∃j,j<=mask/\j∉P:=by
  by_cases c:∀j,j<=mask->j∈P
  ·exfalso
   have:(Se (mask + 1)).length<=P.length:=SX Ur λj hj=>c j (by have:=Sj.mp hj;omega)
   rw [Uj] at this
   omega
  ·exact T3 λz=>c λj hj=>T3 λy=>z ⟨j,hj,y⟩
 obtain ⟨j,hj,hn⟩:=ex
 obtain ⟨n,hn1,hn2⟩:=visits hm h j hj
 have key:∀k,k<=n->(∃m,m<=k/\pos mask h m∉P/\∀m',m' < m->pos mask h m'∈P)\/∀m,m<=k->pos mask h m∈P:=by
  intro k
  induction k with
  | zero=>
   intro _
   by_cases c:pos mask h 0∈P
   ·exact .inr λm hm=>by rw [show m=0 by omega];exact c
   ·exact .inl ⟨0,Sl _,c,λm' h'=>absurd h' (TL _)⟩
  | succ k ih=>
   intro hk
   rcases ih (by omega) with ⟨m,h1,h2⟩ | h1
   ·exact .inl ⟨m,by omega,h2⟩
   ·by_cases c:pos mask h (k + 1)∈P
    ·exact .inr λm hm=>by
      by_cases d:m<=k
      ·exact h1 m d
      ·rw [show m=k + 1 by omega];exact c
    ·exact .inl ⟨k + 1,Sl _,c,λm' h'=>h1 m' (by omega)⟩
 rcases key n (Sl _) with ⟨m,h1,h2,h3⟩ | h1
 ·exact ⟨m,by omega,h2,h3⟩
 ·exact absurd (h1 n (Sl _)) (by rw [hn2];exact hn)
def Reach (mask:Nat) (P:List Nat) (h:Int) (j:Nat):Prop:=∃n,pos mask h n=j/\∀m,m < n->pos mask h m∈P
theorem Reach.mono {mask:Nat}{P P':List Nat}{h:Int}{j:Nat}(r:Reach mask P h j) (s:∀x∈P,x∈P'):Reach mask P' h j:=
 let ⟨n,h1,h2⟩:=r;⟨n,h1,λm hm=>s _ (h2 m hm)⟩
structure Tab (t:TN) (es:Array (Int×Sa)) (L:List (Nat×Int×Sa)):Prop where
 dm:t.dummies=#[]
 pl:t.place.toList=L.map (·.1)
 en:es.toList=L.map (·.2)
 so:(L.map (·.1)).Pairwise (· < ·)
 bd:∀e∈L,e.1<=t.mask
 mo:mC t.mask
 fl:L.length<=t.mask
 pr:∀e∈L,Reach t.mask (L.map (·.1)) e.2.1 e.1
section
variable {t:TN}{es:Array (Int×Sa)}{L:List (Nat×Int×Sa)}
theorem Tab.at_ (T:Tab t es L){i:Nat}{e:Nat×Int×Sa}(h:L[i]?=some e):t.place[i]?=some e.1/\es[i]?=some e.2:=by
 constructor
 ·rw [<-Uy,T.pl,SJ,h];rfl
 ·rw [<-Uy,T.en,SJ,h];rfl
theorem Tab.sop (T:Tab t es L):t.place.toList.Pairwise (· < ·):=by rw [T.pl];exact T.so
theorem zQ (T:Tab t es L) (hashAt:Nat->Int) (hA:∀i e,es[i]?=some e->hashAt i=e.1) (h:Int) (n0:Nat) (hf:pos t.mask h n0∉L.map (·.1)) (hb:∀m,m < n0->pos t.mask h m∈L.map (·.1)):
  ∀(d n F:Nat),n0 - n=d->n<=n0->d < F->∃m,n<=m/\m<=n0/\(∀k,n<=k->k < m->∀e∈L,e.1=pos t.mask h k->e.2.1≠h)/\
   ((m=n0/\probe.go t hashAt h F (st t.mask h n)=some (.empty (pos t.mask h n0) none))\/(m < n0/\∃i e,L[i]?=some e/\e.1=pos t.mask h m/\e.2.1=h/\probe.go t hashAt h F (st t.mask h n)=some (.candidate (pos t.mask h m) i (st t.mask h (m + 1)))))
 | d,n,0,_,_,h=>absurd h (TL _)
 | d,n,F + 1,hd,hn,hF=>by
  by_cases c:n=n0
  ·subst c
   refine ⟨n,Sl _,Sl _,λk h1 h2=>by omega,.inl ⟨rfl,?_⟩⟩
   unfold probe.go
   rw [uG T.dm (by rw [T.pl];exact hf)]
   show some (Met.empty _ (st t.mask h n).dummy)=_
   rw [pJ]
  ·obtain ⟨e,he,ej⟩:=Sf.mp (hb n (by omega))
   obtain ⟨i,hi,rfl⟩:=T8.mp he
   have hL:L[i]?=some L[i]:=Sn hi
   obtain ⟨p1,p2⟩:=T.at_ hL
   have hs:t.slot (pos t.mask h n)=.live i:=qI T.sop (by rw [p1,ej])
   have hh:=hA i _ p2
   have uniq:∀e∈L,e.1=pos t.mask h n->e=L[i]:=λe he q=>by
    obtain ⟨k,hk,rfl⟩:=T8.mp he
    have:k=i:=by
     have sw:=TZ.mp T.so
     rcases Vz k i with c | c | c
     ·have:=sw k i (by simpa using hk) (by simpa using hi) c
      simp at this
      omega
     ·exact c
     ·have:=sw i k (by simpa using hi) (by simpa using hk) c
      simp at this
      omega
    subst this;rfl
   by_cases q:L[i].2.1=h
   ·refine ⟨n,Sl _,by omega,λk h1 h2=>by omega,.inr ⟨by omega,i,L[i],hL,ej,q,?_⟩⟩
    unfold probe.go
    rw [hs]
    show (if (hashAt i == h)=true then _ else _)=_
    rw [hh,q,if_pos (by simp)]
    rfl
   ·obtain ⟨m,m1,m2,m3,m4⟩:=zQ T hashAt hA h n0 hf hb (n0 - (n + 1)) (n + 1) F rfl (by omega) (by omega)
    have eg:probe.go t hashAt h (F + 1) (st t.mask h n)=probe.go t hashAt h F (st t.mask h (n + 1)):=by
     rw [probe.go,hs]
     show (if (hashAt i == h)=true then _ else _)=_
     rw [hh,if_neg (by simpa using q)]
     rfl
    rw [eg]
    refine ⟨m,by omega,m2,λk h1 h2 e he' ek=>?_,m4⟩
    by_cases z:k=n
    ·subst z
     rw [uniq e he' ek];exact q
    ·exact m3 k (by omega) h2 e he' ek
theorem pN {α:Type}(xs:Array α) (p:Nat) (x:α) (hp:p<=xs.size):(insertAt xs p x).toList=xs.toList.take p++x::xs.toList.drop p:=by
 unfold insertAt
 simp
 (exact List.take_of_length_le (by simp))
theorem Tab.put (T:Tab t es L) (h:Int) (x:Sa) (n0:Nat) (hf:pos t.mask h n0∉L.map (·.1)) (hb:∀m,m < n0->pos t.mask h m∈L.map (·.1)) (hj:pos t.mask h n0<=t.mask) (hl:L.length + 1<=t.mask):
  ∃L',Tab (t.put (pos t.mask h n0)).1 (insertAt es (t.put (pos t.mask h n0)).2 (h,x)) L'/\L'.Perm ((pos t.mask h n0,h,x)::L):=by
 obtain ⟨b1,b2,b3⟩:=oA t.place (pos t.mask h n0) T.sop
 generalize hp:below t.place (pos t.mask h n0)=p at b1 b2 b3
 have hsz:t.place.size=L.length:=by rw [<-Ss,T.pl,Sh]
 have hes:es.size=L.length:=by rw [<-Ss,T.en,Sh]
 have perm:(L.take p++(pos t.mask h n0,h,x)::L.drop p).Perm ((pos t.mask h n0,h,x)::L):=by
  have:=aar (a:=(pos t.mask h n0,h,x)) (l₁:=L.take p) (l₂:=L.drop p)
  rwa [YQ] at this
 have e1:(t.put (pos t.mask h n0))=({t with place:=insertAt t.place p (pos t.mask h n0),dummies:=#[]},p):=by
  unfold SetTable.put
  rw [hp,T.dm]
  rfl
 rw [e1]
 have getP:∀i (hi:i < L.length),t.place.getD i 0=L[i].1:=λi hi=>by
  have:=(T.at_ (Sn hi)).1
  have hi':i < t.place.size:=by omega
  simp [UN,hi']
  rw [Vq hi'] at this
  exact TF this
 refine ⟨L.take p++(pos t.mask h n0,h,x)::L.drop p,⟨rfl,?_,?_,?_,λe he=>?_,T.mo,?_,λe he=>?_⟩,perm⟩
 ·show (insertAt t.place p (pos t.mask h n0)).toList=_
  rw [pN _ _ _ b1,T.pl]
  simp [Yg,Yh]
 ·show (insertAt es p (h,x)).toList=_
  rw [pN _ _ _ (by omega),T.en]
  simp [Yg,Yh]
 ·rw [SV,Sx,UH]
  refine ⟨?_,?_,?_⟩
  ·rw [Yg]
   exact T.so.sublist (XJ _ _)
  ·rw [VM]
   refine ⟨λa ha=>?_,?_⟩
   ·obtain ⟨e,he,rfl⟩:=Sf.mp ha
    obtain ⟨i,hi,rfl⟩:=T8.mp he
    rw [Z8]
    rw [VI] at hi
    have:=b3 (p + i) (by omega) (by omega)
    rw [getP _ (by omega)] at this
    rcases ZM this with c | c
    ·exact c
    ·exact absurd (Sf.mpr ⟨L[p + i],Tt _,c.symm⟩) hf
   ·rw [Yh]
    exact T.so.sublist (Z5 _ _)
  ·intro a ha b hb
   obtain ⟨e,he,rfl⟩:=Sf.mp ha
   obtain ⟨i,hi,rfl⟩:=T8.mp he
   rw [List.getElem_take]
   rw [UI] at hi
   have h1:=b2 i (by omega)
   rw [getP _ (by omega)] at h1
   (rcases SD.mp hb with rfl | hb)
   ·exact h1
   ·obtain ⟨e,he,rfl⟩:=Sf.mp hb
    obtain ⟨k,hk,rfl⟩:=T8.mp he
    rw [Z8]
    rw [VI] at hk
    have:=b3 (p + k) (by omega) (by omega)
    rw [getP _ (by omega)] at this
    omega
 ·rcases SD.mp (perm.mem_iff.mp he) with rfl | he
  ·exact hj
  ·exact T.bd e he
 ·rw [perm.length_eq];exact hl
 ·have sub:∀y∈L.map (·.1),y∈(L.take p++(pos t.mask h n0,h,x)::L.drop p).map (·.1):=λy hy=>by
   obtain ⟨e,he,rfl⟩:=Sf.mp hy
   exact Sf.mpr ⟨e,perm.mem_iff.mpr (Sg _ he),rfl⟩
  rcases SD.mp (perm.mem_iff.mp he) with rfl | he
  ·exact ⟨n0,rfl,λm hm=>sub _ (hb m hm)⟩
  ·exact (T.pr e he).mono sub
end
theorem n6 (mask:Nat) (h:Int) (n i p m:Nat) (e:st mask h n={j:=i,more:=m,i:=i,perturb:=p,dummy:=none}):∀r,r<=m->st mask h (n + r)={j:=i + r,more:=m - r,i:=i,perturb:=p,dummy:=none}
 | 0,_=>e
 | r + 1,hr=>by
  show advance _ (st mask h (n + r))=_
  rw [n6 mask h n i p m e r (by omega)]
  unfold advance
  rw [if_pos (by show m - r > 0;omega)]
  show Probe.mk _ _ _ _ _=_
  congr 1
theorem Gi (mask:Nat) (h:Int) (k n:Nat) (e:st mask h n={j:=(tn mask h k).1,more:=runEnd mask (tn mask h k).1 - (tn mask h k).1,i:=(tn mask h k).1,perturb:=(tn mask h k).2,dummy:=none}):
  st mask h (n + (runEnd mask (tn mask h k).1 - (tn mask h k).1) + 1)={j:=(tn mask h (k + 1)).1,more:=runEnd mask (tn mask h (k + 1)).1 - (tn mask h (k + 1)).1,i:=(tn mask h (k + 1)).1,perturb:=(tn mask h (k + 1)).2,dummy:=none}:=by
 show advance _ (st mask h (n + (runEnd mask (tn mask h k).1 - (tn mask h k).1)))=_
 rw [n6 mask h n _ _ _ e _ (Sl _)]
 unfold advance
 simp
 exact ⟨rfl,rfl,rfl,rfl⟩
theorem wg (mask:Nat) (h:Int) (owner:Array (Option Nat)) (G:List Nat) (ho:∀j,j<=mask->((owner.getD j (some 0)).isNone=true↔j∉G)):
  ∀(f k n:Nat),st mask h n={j:=(tn mask h k).1,more:=runEnd mask (tn mask h k).1 - (tn mask h k).1,i:=(tn mask h k).1,perturb:=(tn mask h k).2,dummy:=none}->(∀m,m < n->pos mask h m∈G)->
   (∃n',layClean.free mask owner f (tn mask h k).1 (tn mask h k).2=some (pos mask h n')/\pos mask h n'<=mask/\pos mask h n'∉G/\∀m,m < n'->pos mask h m∈G)\/(layClean.free mask owner f (tn mask h k).1 (tn mask h k).2=none/\∀r,r < f->(tn mask h (k + r)).1∈G)
 | 0,k,n,e,hb=>.inr ⟨rfl,λr hr=>absurd hr (TL _)⟩
 | f + 1,k,n,e,hb=>by
  have hi:=DP mask h k
  have re:runEnd mask (tn mask h k).1<=mask/\(tn mask h k).1<=runEnd mask (tn mask h k).1:=by unfold runEnd;split <;> omega
  unfold layClean.free
  cases q:(Se (runEnd mask (tn mask h k).1 + 1 - (tn mask h k).1)).find? λr=>(owner.getD ((tn mask h k).1 + r) (some 0)).isNone with
  | some r=>
   have h1:=aaM q
   have h2:=Sj.mp (Xx q)
   have h3:pos mask h (n + r)=(tn mask h k).1 + r:=by
    show (st mask h (n + r)).j=_
    rw [n6 mask h n _ _ _ e r (by omega)]
   refine .inl ⟨n + r,?_,?_,?_,?_⟩
   ·show some _=_
    rw [h3]
   ·rw [h3];omega
   ·rw [h3];exact (ho _ (by omega)).mp h1
   ·intro m hm
    by_cases c:m < n
    ·exact hb m c
    ·obtain ⟨s,rfl⟩:∃s,m=n + s:=⟨m - n,by omega⟩
     have h4:pos mask h (n + s)=(tn mask h k).1 + s:=by
      show (st mask h (n + s)).j=_
      rw [n6 mask h n _ _ _ e s (by omega)]
     rw [h4]
     refine T3 λz=>?_
     have z':=(ho ((tn mask h k).1 + s) (by omega)).mpr z
     rw [List.find?_eq_some_iff_append] at q
     obtain ⟨_,as,bs,eq,hall⟩:=q
     have hs:s∈as:=by
      have hlen:as.length=r:=by
       have hl:as.length < (Se (runEnd mask (tn mask h k).1 + 1 - (tn mask h k).1)).length:=by rw [eq];simp
       have e3:(Se (runEnd mask (tn mask h k).1 + 1 - (tn mask h k).1))[as.length]?=some r:=by rw [eq];simp
       rw [Uj] at hl
       rw [We hl] at e3
       exact TF e3
      have e4:(Se (runEnd mask (tn mask h k).1 + 1 - (tn mask h k).1))[s]?=some s:=We (by omega)
      rw [eq,UQ (by omega)] at e4
      exact T6 e4
     have:=hall s hs
     rw [z'] at this
     exact absurd this (by decide)
  | none=>
   have hall:=Xu.mp q
   have occ:∀s,s<=runEnd mask (tn mask h k).1 - (tn mask h k).1->(tn mask h k).1 + s∈G:=λs hs=>T3 λz=>by
    have z':=(ho ((tn mask h k).1 + s) (by omega)).mpr z
    exact hall s (Sj.mpr (by omega)) z'
   have nb:∀m,m < n + (runEnd mask (tn mask h k).1 - (tn mask h k).1) + 1->pos mask h m∈G:=λm hm=>by
    by_cases c:m < n
    ·exact hb m c
    ·obtain ⟨s,rfl⟩:∃s,m=n + s:=⟨m - n,by omega⟩
     have h4:pos mask h (n + s)=(tn mask h k).1 + s:=by
      show (st mask h (n + s)).j=_
      rw [n6 mask h n _ _ _ e s (by omega)]
     rw [h4]
     exact occ s (by omega)
   rcases wg mask h owner G ho f (k + 1) _ (Gi mask h k n e) nb with ⟨n',g1,g2',g3⟩ | ⟨g1,g2'⟩
   ·exact .inl ⟨n',g1,g2',g3⟩
   ·refine .inr ⟨g1,λr hr=>?_⟩
    cases r with
    | zero=>have:=occ 0 (SQ _);exact this
    | succ r=>have:=g2' r (by omega);rwa [show k + (r + 1)=k + 1 + r by omega]
theorem JY {mask:Nat}(hm:mC mask) (h:Int) (owner:Array (Option Nat)) (G:List Nat) (hG:G.length<=mask) (ho:∀j,j<=mask->((owner.getD j (some 0)).isNone=true↔j∉G)):
  ∃n',layClean.free mask owner (turns mask) (bits h % (mask + 1)) (bits h)=some (pos mask h n')/\pos mask h n'<=mask/\pos mask h n'∉G/\∀m,m < n'->pos mask h m∈G:=by
 rcases wg mask h owner G ho (turns mask) 0 0 rfl (λm hm=>absurd hm (TL _)) with a | ⟨_,b⟩
 ·exact a
 ·exfalso
  have all:∀j,j<=mask->j∈G:=λj hj=>by
   obtain ⟨r,hr,e⟩:=Ey hm (tn mask h 12).1 j (DP mask h 12) hj
   have:=b (12 + r) (by unfold turns;omega)
   rw [aai,Ay,e] at this
   exact this
  have:(Se (mask + 1)).length<=G.length:=SX Ur λj hj=>all j (by have:=Sj.mp hj;omega)
  rw [Uj] at this
  omega
structure Own (mask:Nat) (owner:Array (Option Nat)) (G:List Nat) (hs:List Int):Prop where
 sz:owner.size=mask + 1
 ln:G.length=hs.length
 nd:G.Nodup
 bd:∀j∈G,j<=mask
 at_:∀j,j<=mask->owner.getD j none=if j∈G then some (G.idxOf j) else none
 pr:∀k (h1:k < G.length) (h2:k < hs.length),Reach mask G hs[k] G[k]
theorem Own.occ {mask:Nat}{owner:Array (Option Nat)}{G:List Nat}{hs:List Int}(O:Own mask owner G hs):∀j,j<=mask->((owner.getD j (some 0)).isNone=true↔j∉G):=λj hj=>by
 have e:owner.getD j (some 0)=owner.getD j none:=by
  have:j < owner.size:=by rw [O.sz];omega
  simp [UN,this]
 rw [e,O.at_ j hj]
 split <;> simp_all
theorem Own.step {mask:Nat}{owner:Array (Option Nat)}{G:List Nat}{hs:List Int}(O:Own mask owner G hs) (hm:mC mask) (hl:hs.length<=mask) (h:Int):
  ∃j,layClean.free mask owner (turns mask) (bits h % (mask + 1)) (bits h)=some j/\Own mask (owner.setIfInBounds j (some hs.length)) (G++[j]) (hs++[h]):=by
 obtain ⟨n',e,b,f,r⟩:=JY hm h owner G (by rw [O.ln];exact hl) O.occ
 refine ⟨_,e,⟨by rw [Array.size_setIfInBounds,O.sz],by simp [O.ln],?_,λj hj=>?_,λj hj=>?_,λk h1 h2=>?_⟩⟩
 ·rw [VY]
  refine ⟨O.nd,by simp,λa ha b hb=>?_⟩
  rw [So] at hb
  subst hb
  intro z;subst z;exact f ha
 ·rcases SN.mp hj with h1 | h1
  ·exact O.bd j h1
  ·rw [So.mp h1];exact b
 ·have hsz:j < owner.size:=by rw [O.sz];omega
  by_cases c:j=pos mask h n'
  ·subst c
   rw [if_pos (by simp)]
   simp [UN,hsz]
   rw [Z9,if_neg f]
   simp [O.ln]
  ·have e1:(owner.setIfInBounds (pos mask h n') (some hs.length)).getD j none=owner.getD j none:=by
    simp [UN,hsz]
    rw [Array.getElem_setIfInBounds_ne]
    exact λz=>c z.symm
   rw [e1,O.at_ j hj]
   by_cases d:j∈G
   ·rw [if_pos d,if_pos (U0 _ d),Z9,if_pos d]
   ·rw [if_neg d,if_neg (by simp [d,c])]
 ·have sub:∀x∈G,x∈G++[pos mask h n']:=λx hx=>U0 _ hx
  by_cases c:k < G.length
  ·have:=(O.pr k c (by rw [<-O.ln];exact c)).mono sub
   rw [XS c,XS (by rw [<-O.ln];exact c)]
   exact this
  ·have hk:k=G.length:=by simp at h1;omega
   subst hk
   have e1:(G++[pos mask h n'])[G.length]=pos mask h n':=by simp
   have e2:(hs++[h])[G.length]=h:=by simp [O.ln]
   rw [e1,e2]
   exact ⟨n',rfl,λm hm=>sub _ (r m hm)⟩
theorem zD {mask:Nat}(hm:mC mask):∀(rest hs:List Int) (owner:Array (Option Nat)) (G:List Nat),Own mask owner G hs->(hs++rest).length<=mask->∃owner' G',rest.foldl (λacc h=>do
  let (owner,k) <-acc
  let j <-layClean.free mask owner (turns mask) (bits h % (mask + 1)) (bits h)
  pure (owner.setIfInBounds j (some k),k + 1)) (some (owner,hs.length))=some (owner',(hs++rest).length)/\Own mask owner' G' (hs++rest)
 | [],hs,owner,G,O,_=>⟨owner,G,by simp,by simpa using O⟩
 | h::rest,hs,owner,G,O,hl=>by
  obtain ⟨j,e,O'⟩:=O.step hm (by simp at hl;omega) h
  obtain ⟨owner',G',e2,O2⟩:=zD hm rest (hs++[h]) _ _ O' (by simpa using hl)
  refine ⟨owner',G',?_,by simpa using O2⟩
  rw [Xd]
  have e3:(do
   let (owner,k) <-some (owner,hs.length)
   let j <-layClean.free mask owner (turns mask) (bits h % (mask + 1)) (bits h)
   pure (owner.setIfInBounds j (some k),k + 1):Option (Array (Option Nat)×Nat))=some (owner.setIfInBounds j (some hs.length),(hs++[h]).length):=by
   show Option.bind (layClean.free mask owner (turns mask) (bits h % (mask + 1)) (bits h)) _=_
   rw [e]
   simp
  rw [e3]
  simpa using e2
theorem KG (mask:Nat):Own mask (Array.replicate (mask + 1) none) [] []:=
 ⟨by simp,rfl,U4,λj h=>absurd h (by simp),λj hj=>by simp [UN],λk h1=>absurd h1 (by simp)⟩
theorem EX {mask:Nat}(hm:mC mask) (hs:Array Int) (hl:hs.size<=mask):∃owner G,layClean mask hs=some owner/\Own mask owner G hs.toList:=by
 obtain ⟨owner,G,e,O⟩:=zD hm hs.toList [] _ [] (KG mask) (by simpa using hl)
 refine ⟨owner,G,?_,by simpa using O⟩
 unfold layClean
 rw [<-Array.foldl_toList]
 have e':=congrArg (Option.map (·.1)) e
 exact e'
theorem Kn {t:TN}{es:Array (Int×Sa)}{mask:Nat}(hm:mC mask) (finger moves:Nat) (led plain:Bool) (hl:es.size<=mask):
  ∃t' R8 L',laid mask finger moves led plain (es.map (·.1))=some (t',R8)/\t'.mask=mask/\t'.led=led/\t'.plain=plain/\Tab t' (R8.filterMap (es[·]?)) L'/\(R8.filterMap (es[·]?)).toList.Perm es.toList:=by
 obtain ⟨owner,G,e,O⟩:=EX hm (es.map (·.1)) (by simpa using hl)
 have hlen:G.length=es.size:=by rw [O.ln];simp
 (let live:=(Se (mask + 1)).filterMap λj=>(owner.getD j none).map (j,·))
 have lv:∀p,p∈live↔p.1∈G/\p.2=G.idxOf p.1:=λp=>by
  show p∈(Se (mask + 1)).filterMap _↔_
  rw [Wn]
  constructor
  ·rintro ⟨j,hj,q⟩
   have hj':j<=mask:=by have:=Sj.mp hj;omega
   rw [O.at_ j hj'] at q
   by_cases c:j∈G
   ·rw [if_pos c] at q
    have q:(j,G.idxOf j)=p:=by simpa using q
    subst q
    exact ⟨c,rfl⟩
   ·rw [if_neg c] at q;exact absurd q (by simp)
  ·rintro ⟨h1,h2⟩
   refine ⟨p.1,Sj.mpr (by have:=O.bd _ h1;omega),?_⟩
   rw [O.at_ _ (O.bd _ h1),if_pos h1]
   show some (p.1,G.idxOf p.1)=some p
   rw [<-h2]
 have so1:live.Pairwise λa b=>a.1 < b.1:=by
  show ((Se (mask + 1)).filterMap _).Pairwise _
  rw [Yl]
  refine T9.imp ?_
  intro a b hab x hx y hy
  cases q1:owner.getD a none with
  | none=>rw [q1] at hx;exact absurd hx (by simp)
  | some k1=>cases q2:owner.getD b none with
   | none=>rw [q2] at hy;exact absurd hy (by simp)
   | some k2=>
    rw [q1] at hx;rw [q2] at hy
    have hx:(a,k1)=x:=by simpa using hx
    have hy:(b,k2)=y:=by simpa using hy
    subst hx;subst hy;exact hab
 have ord:(live.map (·.2)).Perm (Se es.size):=by
  rw [V1 _ Ur]
  ·intro k
   rw [Sf,Sj]
   constructor
   ·rintro ⟨p,hp,rfl⟩
    obtain ⟨h1,h2⟩:=(lv p).mp hp
    rw [h2,<-hlen]
    exact TM h1
   ·intro hk
    rw [<-hlen] at hk
    exact ⟨(G[k],k),(lv _).mpr ⟨Tt _,(O.nd.idxOf_getElem k hk).symm⟩,rfl⟩
  ·show (live.map (·.2)).Pairwise _
   rw [S0]
   refine (VR.mp so1).imp ?_
   rintro a b ⟨ha,hb,hab⟩ z
   obtain ⟨a1,a2⟩:=(lv a).mp ha
   obtain ⟨b1,b2⟩:=(lv b).mp hb
   rw [a2,b2] at z
   have ga:=VN (TM a1)
   have gb:=VN (TM b1)
   have:a.1=b.1:=by
    rw [<-ga,<-gb]
    congr 1
   omega
 have inR:∀p∈live,∃h:p.2 < es.size,True:=λp hp=>by
  have:p.2∈live.map (·.2):=Sf.mpr ⟨p,hp,rfl⟩
  exact ⟨Sj.mp (ord.mem_iff.mp this),trivial⟩
 let L':=live.map λp=>(p.1,es.getD p.2 default)
 have eL:(live.map (·.2)).toArray.filterMap (es[·]?)=(L'.map (·.2)).toArray:=by
  rw [List.filterMap_toArray]
  congr 1
  show aa_ _ (live.map _)=(live.map _).map _
  rw [ZA,S6]
  have:∀(l:List (Nat×Nat)),(∀p∈l,p∈live)->aa_ ((λx=>es[x]?) ∘ λx=>x.snd) l=acH ((λx=>x.snd) ∘ λp=>(p.fst,es.getD p.snd default)) l:=by
   intro l
   induction l with
   | nil=>intro _;rfl
   | cons p l ih=>
    intro hl
    obtain ⟨hp,_⟩:=inR p (hl p (by simp))
    rw [List.filterMap_cons_some (b:=es.getD p.2 default)]
    ·rw [Sx,ih λq hq=>hl q (by simp [hq])]
     rfl
    ·show es[p.2]?=_
     simp [UN,hp]
  exact this live λp hp=>hp
 have eP:L'.map (·.1)=live.map (·.1):=by
  show (live.map _).map _=_
  rw [S6];rfl
 have memP:∀j,j∈live.map (·.1)↔j∈G:=λj=>by
  rw [Sf]
  constructor
  ·rintro ⟨p,hp,rfl⟩;exact ((lv p).mp hp).1
  ·intro h;exact ⟨(j,G.idxOf j),(lv _).mpr ⟨h,rfl⟩,rfl⟩
 have lenL:L'.length=es.size:=by
  have:=ord.length_eq
  rw [Sh,Uj] at this
  show (live.map _).length=_
  rw [Sh,this]
 refine ⟨{mask,place:=(live.map (·.1)).toArray,dummies:=#[],finger,led,moves,plain},(live.map (·.2)).toArray,L',?_,rfl,rfl,rfl,⟨rfl,?_,?_,?_,λx hx=>?_,hm,?_,λx hx=>?_⟩,?_⟩
 ·unfold laid
  rw [e]
  rfl
 ·show (live.map (·.1)).toArray.toList=_
  rw [eP]
 ·rw [eL]
 ·rw [eP,S0];exact so1
 ·obtain ⟨p,hp,rfl⟩:=Sf.mp hx
  exact O.bd _ ((lv p).mp hp).1
 ·show L'.length<=mask
  rw [lenL];exact hl
 ·obtain ⟨p,hp,rfl⟩:=Sf.mp hx
  obtain ⟨h1,h2⟩:=(lv p).mp hp
  obtain ⟨hs,_⟩:=inR p hp
  have r:=O.pr p.2 (by omega) (by simpa using hs)
  have e1:G[p.2]'(by omega)=p.1:=by
   have:=VN (TM h1)
   rw [<-this]
   congr 1
  have e2:((es.map (·.1)).toList[p.2]'(by simpa using hs))=(es.getD p.2 default).1:=by
   simp [UN,hs]
  rw [e1,e2] at r
  show Reach mask (L'.map (·.1)) (es.getD p.2 default).1 p.1
  refine r.mono λy hy=>?_
  rw [eP]
  exact (memP y).mpr hy
 ·rw [eL]
  show (L'.map (·.2)).Perm es.toList
  have e1:(live.map (·.2)).map (λk=>es.getD k default)=L'.map (·.2):=by
   show _=(live.map _).map _
   rw [S6,S6];rfl
  rw [<-e1]
  refine (ord.map _).trans ?_
  have:(Se es.size).map (λk=>es.getD k default)=es.toList:=by
   refine Vg (by simp) λi h1 h2=>?_
   simp at h1
   simp [UN,h1]
  rw [this]
theorem wU {t:TN}{es:Array (Int×Sa)}{w:Nat}(hm:mC (sizeAbove w - 1)) (hl:es.size<=sizeAbove w - 1):
  ∃t' R8 L',t.relaid (es.map (·.1)) w=some (t',R8)/\t'.mask=sizeAbove w - 1/\t'.led=t.led/\t'.plain=t.plain/\Tab t' (R8.filterMap (es[·]?)) L'/\(R8.filterMap (es[·]?)).toList.Perm es.toList:=
 Kn (t:=t) hm t.finger (t.movedTo (sizeAbove w - 1)) t.led t.plain hl
end ST
namespace DL
open PySem PySem.Spec PyProof.Rows L2
mutual
noncomputable def kK:D->Nat
 | .int _=>1
 | .tup xs=>fS xs + 1
 | _=>0
noncomputable def fS:List D->Nat
 | []=>0
 | x::xs=>kK x + fS xs
end
theorem rM:∀{ds:List D},areKeys ds=true->∀d∈ds,isKey d=true
 | [],_,_,h=>nomatch h
 | x::xs,h,d,hm=>by
  unfold areKeys at h
  rw [Sk] at h
  (rcases SD.mp hm with rfl | hm)
  ·exact h.1
  ·exact rM h.2 d hm
mutual
theorem zB:∀{d e:D},isKey d=true->isKey e=true->bx d e=true->d=e
 | .int i,.int j,_,_,h=>by simp [bx] at h;rw [h]
 | .tup xs,.tup ys,hd,he,h=>by
  unfold isKey at hd he
  simp only [bx] at h
  rw [keys_eq hd he h]
 | .int _,.tup _,_,_,h=>by simp [bx] at h
 | .tup _,.int _,_,_,h=>by simp [bx] at h
theorem keys_eq:∀{ds es:List D},areKeys ds=true->areKeys es=true->cQ ds es=true->ds=es
 | [],[],_,_,_=>rfl
 | x::xs,y::ys,hd,he,h=>by
  unfold areKeys at hd he
  rw [Sk] at hd he
  simp only [cQ,Sk] at h
  rw [zB hd.1 he.1 h.1,keys_eq hd.2 he.2 h.2]
 | [],_::_,_,_,h=>by simp [cQ] at h
 | _::_,[],_,_,h=>by simp [cQ] at h
end
theorem vq {d e:D}(hd:isKey d=true) (he:isKey e=true):bx d e=true↔d=e:=⟨zB hd he,λh=>by rw [h];exact fZ _⟩
section
variable {prog:Sy}{w:S9}{E:Sa->Sd->Prop}{K:R_}{J:Hp}
noncomputable def DW (prog:Sy) (w:S9) (A:Td) (K:R_) (J:Hp) (d:D) (u:Sa):Prop:=
 ∀(E:Sa->Sd->Prop) (s:Sd) (Q:Int->Sd->Prop),HF K J s->Q (cB d) {s with toks:=s.toks + kK d}->SH (SM prog w) A (pyHash u) Q E s
inductive kT (prog:Sy) (w:S9) (A:Td) (K:R_) (J:Hp):List D->List Sa->Prop
 | nil:kT prog w A K J [] []
 | cons {d:D}{u:Sa}{ds:List D}{us:List Sa}:DW prog w A K J d u->kT prog w A K J ds us->kT prog w A K J (d::ds) (u::us)
theorem uf:∀(a b:List D),cX (a++b)=cX a++cX b
 | [],b=>rfl
 | x::a,b=>by show cB x::cX (a++b)=_;rw [uf a b];rfl
theorem tY:∀(a b:List D),fS (a++b)=fS a + fS b
 | [],b=>by show fS b=0 + _;omega
 | x::a,b=>by show kK x + fS (a++b)=kK x + fS a + fS b;rw [tY a b];omega
theorem GY {A:Td}{s:Sd}{a:Sq}{o:Obj}{R1:List Sa}{n:Nat}{ds:List D}{Q:Int->Sd->Prop}(N:HF K J s) (ho:s.heap.get? a=some o) (hc:o.cls=.type "tuple") (hd:o.data=.seq R1.toArray n) (hu:A.units < Us)
  (hl:kT prog w A.in1 K J ds R1) (h:Q (abr (TY (cX ds))) {s with toks:=s.toks + (fS ds + 1)}):SH (SM prog w) A (pyHash (.ref a)) Q E s:=by
 have hT:s.TypeIs (.ref a) "tuple":=⟨o,ho,hc⟩
 unfold pyHash
 (first | unfold pyHashByItsType | skip)
 (first | refine R9 (wpAny_cRoomFor_or (.inr hu) ?_) | skip)
 (refine R9 (Wy hT VZ.lookup ?_))
 (show SH _ _ (if (some (Yd "tuple.__hash__") == some TU)=true then _ else _) Q E s)
 (rw [if_neg (by rw [beq_builtin_none];exact S_)])
 (refine R9 (Wy hT VZ.lookup ?_))
 (show SH _ _ (callSpecialIfBoundUnlessNone? (.ref a) "__hash__" _ >>= _) Q E s)
 (refine R9 (wpAny_callSpecialIfBoundUnlessNone?_slot hT VZ (Tz VZ hT F.entry_tuple_hash ?_ (F.args_tuple_hash_1 _))))
 (show SH _ _ (V0 (.ref a) >>= _) _ _ s)
 (refine R9 (wpAny_tupleItemsOf ho hd ?_))
 refine R9 ?_
 rw [<-Wz]
 refine Vf _
  (λrest (b:Array Int) s'=>∃done left,ds=done++left/\kT prog w A.in1 K J left rest/\b.toList=cX done/\s'={s with toks:=s.toks + fS done})
  _ ?_ ?_ _ _ ⟨[],ds,rfl,hl,rfl,rfl⟩
 ·(rintro x rest b s' ⟨done,left,rfl,hl,hb,rfl⟩)
  cases hl with
  | @cons k _ ks' _ h1 hl'=>
   refine R9 (h1 _ _ _ ⟨N.t,N.l,N.e,N.d⟩ ?_)
   have e1:(b.push (cB k)).toList=cX (done++[k]):=by rw [Z_,uf,hb];rfl
   have e2:s.toks + fS done + kK k=s.toks + fS (done++[k]):=by rw [tY];show _=s.toks + (fS done + (kK k + 0));omega
   first
    | exact Sb ⟨done++[k],ks',by simp,hl',e1,by rw [e2]⟩
    | exact R9 (Sb (Sb ⟨done++[k],ks',by simp,hl',e1,by rw [e2]⟩))
 ·(rintro b s' ⟨done,left,rfl,hl,hb,rfl⟩)
  cases hl
  rw [UR] at h
  (show SH _ _ (retInt (TY b.toList)) _ _ _)
  rw [hb]
  refine wpAny_ret_mkInt ?_
  show SH _ _ (if (decide (-(2:Int) ^ 63<=TY (cX done)) && decide (TY (cX done) < 2 ^ 63))=true then _ else _) Q E _
  unfold abr at h
  by_cases hr:(decide (-(2:Int) ^ 63<=TY (cX done)) && decide (TY (cX done) < 2 ^ 63))=true
  ·rw [if_pos hr]
   rw [if_pos hr] at h
   (exact Sb (by simpa [abM] using h))
  ·rw [if_neg hr]
   rw [if_neg hr] at h
   (exact R9 (XQ (Sb (by simpa [abM] using h))))
mutual
theorem vQ:∀(d:D) (v:V) (u:Sa) (A:Td) (s:Sd),HF K J s->isKey d=true->Rep K J d v->RelV v u->A.units + dep d < Us->DW prog w A K J d u
 | .int i,v,u,A,s,N,hk,hr,rv,hu=>λE s' Q N' h=>by
  cases hr
  obtain ⟨t,rfl⟩:=rv
  exact Yp h
 | .tup ds,v,u,A,s,N,hk,hr,rv,hu=>λE s' Q N' h=>by
  cases hr with
  | tup h1 hs=>
   cases rv
   obtain ⟨R1,r,o,ho,hc,n,hd⟩:=N'.t _ _ h1
   exact GY N' ho hc hd (by unfold dep at hu;omega) (AF ds _ _ A.in1 s N hk hs r (by rw [in1_units];unfold dep at hu;omega)) h
 | .non,v,u,A,s,N,hk,hr,rv,hu=>nomatch hk
 | .bl _,v,u,A,s,N,hk,hr,rv,hu=>nomatch hk
 | .str _,v,u,A,s,N,hk,hr,rv,hu=>nomatch hk
 | .lst _,v,u,A,s,N,hk,hr,rv,hu=>nomatch hk
 | .emp,v,u,A,s,N,hk,hr,rv,hu=>nomatch hk
 | .exn _ _ _,v,u,A,s,N,hk,hr,rv,hu=>nomatch hk
 | .dct _ _,v,u,A,s,N,hk,hr,rv,hu=>nomatch hk
theorem AF:∀(ds:List D) (vs:List V) (us:List Sa) (A:Td) (s:Sd),HF K J s->areKeys ds=true->aK K J ds vs->Vals vs us->A.units + deps ds < Us->kT prog w A K J ds us
 | [],vs,us,A,s,N,hk,hr,rv,hu=>by
  cases hr;cases rv;exact .nil
 | d::ds,vs,us,A,s,N,hk,hr,rv,hu=>by
  unfold areKeys at hk
  rw [Sk] at hk
  unfold deps at hu
  cases hr with
  | cons a b=>
   cases rv with
   | cons c e=>exact .cons (vQ d _ _ A s N hk.1 a c (by omega)) (AF ds _ _ A s N hk.2 b e (by omega))
end
end
def iT (K:R_) (J:Hp) (n:Nat) (u:Sa):Prop:=∃d v,isKey d=true/\dep d<=n/\Rep K J d v/\RelV v u
section
variable {prog:Sy}{w:S9}{E:Sa->Sd->Prop}{K:R_}{J:Hp}{A:Td}{s:Sd}
theorem zz {n:Nat}:∀{ds:List D}{vs:List V}{us:List Sa},areKeys ds=true->deps ds<=n->aK K J ds vs->Vals vs us->∀u∈us,iT K J n u
 | _,_,_,_,_,.nil,.nil=>λu h=>nomatch h
 | d::ds,_,_,hk,hn,.cons a b,.cons c e=>λu h=>by
  unfold areKeys at hk
  rw [Sk] at hk
  unfold deps at hn
  (rcases SD.mp h with rfl | h)
  ·exact ⟨d,_,hk.1,by omega,a,c⟩
  ·exact zz hk.2 (by omega) b e u h
theorem iT.cases' {n:Nat}{u:Sa}(N:HF K J s) (h:iT K J n u):(∃i t,u=.int i t)\/∃a o R1 m k,u=.ref a/\s.heap.get? a=some o/\o.cls=.type "tuple"/\o.data=.seq R1 m/\n=k + 1/\∀y∈R1.toList,iT K J k y:=by
 obtain ⟨d,v,hk,hn,hr,rv⟩:=h
 cases d with
 | int i=>
  cases hr
  obtain ⟨t,rfl⟩:=rv
  exact .inl ⟨_,_,rfl⟩
 | tup ds=>
  cases hr with
  | tup h1 hs=>
   cases rv
   obtain ⟨R1,r,o,ho,hc,m,hd⟩:=N.t _ _ h1
   unfold dep at hn
   obtain ⟨k,rfl⟩:∃k,n=k + 1:=⟨n - 1,by omega⟩
   exact .inr ⟨_,o,_,m,k,rfl,ho,hc,hd,rfl,zz hk (by omega) hs r⟩
 | _=>cases hk
theorem n5:∀(n:Nat){u:Sa}{Q:Bool->Sd->Prop},HF K J s->iT K J n u->Q true s->SH (SM prog w) A (eqIsQuiet n u) Q E s
 | n,u,Q,N,hk,h=>by
  rcases hk.cases' N with ⟨i,t,rfl⟩ | ⟨a,o,R1,m,k,rfl,ho,hc,hd,rfl,hi⟩
  ·rw [eqIsQuiet_byValue _ rfl]
   exact Sb h
  ·have hT:s.TypeIs (.ref a) "tuple":=⟨o,ho,hc⟩
   unfold eqIsQuiet
   (refine R9 (Wy hT F.slot_tuple_eq.lookup ?_))
   (show SH _ _ (abq (.ref a) (.type "tuple") >>= _) _ _ s)
   (refine R9 (W2 hT isSubtype_tuple_tuple ?_))
   (simp only [U1,SE,if_false])
   (refine R9 (Zf ho hd ?_))
   refine R9 ?_
   show SH _ _ (forIn R1 _ _) _ _ s
   rw [<-Wz]
   refine Vf _ (λrest r s'=>r.1=none/\s=s'/\∀v∈rest,iT K J k v) _ ?_ ?_ _ _ ⟨rfl,rfl,hi⟩
   ·(rintro v rest r s' ⟨hr,rfl,hall⟩)
    refine R9 (n5 k N (hall v Si) ?_)
    (simp only [U1,SE,if_false])
    (exact Sb ⟨rfl,rfl,λu hu'=>hall u (Sg _ hu')⟩)
   ·(rintro ⟨r1,r2⟩ s' ⟨hr,rfl,_⟩)
    simp only at hr
    subst hr
    exact Sb h
theorem Fw:∀(n:Nat){u:Sa}{Q:Bool->Sd->Prop},HF K J s->iT K J n u->Q true s->SH (SM prog w) A (hashByValue n u) Q E s
 | n,u,Q,N,hk,h=>by
  rcases hk.cases' N with ⟨i,t,rfl⟩ | ⟨a,o,R1,m,k,rfl,ho,hc,hd,rfl,hi⟩
  ·cases n <;> exact Sb h
  ·have hT:s.TypeIs (.ref a) "tuple":=⟨o,ho,hc⟩
   unfold hashByValue
   (refine R9 (Wy hT VZ.lookup ?_))
   show SH _ _ (ab0 (.ref a) >>= _) _ _ s
   (refine R9 (Zf ho hd ?_))
   refine R9 ?_
   show SH _ _ (forIn R1 _ _) _ _ s
   rw [<-Wz]
   refine Vf _ (λrest r s'=>r.1=none/\s=s'/\∀v∈rest,iT K J k v) _ ?_ ?_ _ _ ⟨rfl,rfl,hi⟩
   ·(rintro v rest r s' ⟨hr,rfl,hall⟩)
    refine R9 (Fw k N (hall v Si) ?_)
    (simp only [U1,SE,if_false])
    (exact Sb ⟨rfl,rfl,λu hu'=>hall u (Sg _ hu')⟩)
   ·(rintro ⟨r1,r2⟩ s' ⟨hr,rfl,_⟩)
    simp only at hr
    subst hr
    exact Sb h
theorem nY:∀(n:Nat){u:Sa}{Q:Bool->Sd->Prop},HF K J s->iT K J n u->Q false s->SH (SM prog w) A (aaa n u) Q E s
 | n,u,Q,N,hk,h=>by
  rcases hk.cases' N with ⟨i,t,rfl⟩ | ⟨a,o,R1,m,k,rfl,ho,hc,hd,rfl,hi⟩
  ·cases n <;> exact Sb h
  ·have hT:s.TypeIs (.ref a) "tuple":=⟨o,ho,hc⟩
   unfold aaa
   (refine R9 (WT hT ?_))
   dsimp only
   (refine R9 (Sb ?_))
   (simp only [U1,SE,if_false])
   (refine R9 (Zf ho hd ?_))
   dsimp only
   refine R9 ?_
   show SH _ _ (forIn R1 _ _) _ _ s
   rw [<-Wz]
   refine Vf _ (λrest r s'=>r.1=none/\s=s'/\∀v∈rest,iT K J k v) _ ?_ ?_ _ _ ⟨rfl,rfl,hi⟩
   ·(rintro v rest r s' ⟨hr,rfl,hall⟩)
    refine R9 (nY k N (hall v Si) ?_)
    (simp only [SE,if_false])
    (exact Sb ⟨rfl,rfl,λu hu'=>hall u (Sg _ hu')⟩)
   ·(rintro ⟨r1,r2⟩ s' ⟨hr,rfl,_⟩)
    simp only at hr
    subst hr
    exact Sb h
theorem NV {x:Sa}{ys:List Sa}{Q:Bool->Sd->Prop}(N:HF K J s) (hx:iT K J 8 x) (hy:∀y∈ys,iT K J 8 y) (h:Q false s):SH (SM prog w) A (XU x ys) Q E s:=by
 unfold XU
 refine R9 ?_
 refine Vf _ (λrest r s'=>r.1=none/\s=s'/\∀v∈rest,iT K J 8 v) _ ?_ ?_ _ _ ⟨rfl,rfl,hy⟩
 ·(rintro v rest r s' ⟨hr,rfl,hall⟩)
  have nx:∀u∈rest,iT K J 8 u:=λu hu'=>hall u (Sg _ hu')
  dsimp only
  have hv:=hall v Si
  split
  ·split
   ·exact Sb ⟨rfl,rfl,nx⟩
   ·refine R9 (n5 8 N hx ?_)
    (simp only [U1,SE,if_false])
    refine R9 (n5 8 N hv ?_)
    (simp only [U1,SE,if_false])
    refine R9 (nY 8 N hx ?_)
    (simp only [SE,if_false])
    refine R9 (nY 8 N hv ?_)
    (simp only [SE,if_false])
    exact Sb ⟨rfl,rfl,nx⟩
  ·split
   ·exact Sb ⟨rfl,rfl,nx⟩
   ·refine R9 (n5 8 N hx ?_)
    (simp only [U1,SE,if_false])
    refine R9 (n5 8 N hv ?_)
    (simp only [U1,SE,if_false])
    refine R9 (nY 8 N hx ?_)
    (simp only [SE,if_false])
    refine R9 (nY 8 N hv ?_)
    (simp only [SE,if_false])
    exact Sb ⟨rfl,rfl,nx⟩
 ·(rintro ⟨r1,r2⟩ s' ⟨hr,rfl,_⟩)
  simp only at hr
  subst hr
  exact Sb h
end
end DL
namespace DL
open PySem PySem.Spec PyProof.Rows L2 ST
def KV (K:R_) (J:Hp) (u:Sa) (d:D):Prop:=(∃a,u=.ref a)/\isKey d=true/\dep d<=8/\∃v,Rep K J d v/\RelV v u
theorem KV.key {K:R_}{J:Hp}{u:Sa}{d:D}(h:KV K J u d):iT K J 8 u:=let ⟨_,a,b,v,c,e⟩:=h;⟨d,v,a,b,c,e⟩
inductive fW (K:R_) (J:Hp):List (Int×Sa)->List D->Prop
 | nil:fW K J [] []
 | cons {h:Int}{x:Sa}{d:D}{es:List (Int×Sa)}{ks:List D}:h=cB d->KV K J x d->fW K J es ks->fW K J ((h,x)::es) (d::ks)
section
variable {K:R_}{J:Hp}
theorem fW.length {es:List (Int×Sa)}{ks:List D}(h:fW K J es ks):es.length=ks.length:=by
 induction h with
 | nil=>rfl
 | cons _ _ _ ih=>simp [ih]
theorem fW.at_ {es:List (Int×Sa)}{ks:List D}(h:fW K J es ks):∀{i:Nat}{e:Int×Sa},es[i]?=some e->∃d,ks[i]?=some d/\KV K J e.2 d/\e.1=cB d:=by
 induction h with
 | nil=>intro i e q;simp at q
 | @cons hh x d es ks h1 h2 _ ih=>
  intro i e q
  cases i with
  | zero=>simp at q;subst q;exact ⟨d,rfl,h2,h1⟩
  | succ i=>simp at q;obtain ⟨d',a,b⟩:=ih q;exact ⟨d',by simpa using a,b⟩
theorem fW.mem {es:List (Int×Sa)}{ks:List D}(h:fW K J es ks):∀e∈es,∃d∈ks,KV K J e.2 d/\e.1=cB d:=λe he=>by
 obtain ⟨i,hi⟩:=WU.mp he
 obtain ⟨d,h1,h2⟩:=h.at_ hi
 exact ⟨d,T6 h1,h2⟩
theorem fW.back {es:List (Int×Sa)}{ks:List D}(h:fW K J es ks){i:Nat}{d:D}(q:ks[i]?=some d):∃e,es[i]?=some e/\KV K J e.2 d/\e.1=cB d:=by
 have hi:i < es.length:=by rw [h.length];exact (SW.mp q).1
 obtain ⟨d',h1,h2⟩:=h.at_ (Sn hi)
 rw [q] at h1;cases h1
 exact ⟨_,Sn hi,h2⟩
theorem fW.perm {es es':List (Int×Sa)}(p:es.Perm es'):∀{ks:List D},fW K J es ks->∃ks',ks.Perm ks'/\fW K J es' ks':=by
 induction p with
 | nil=>intro ks h;exact ⟨ks,.refl _,h⟩
 | cons x _ ih=>
  intro ks h
  cases h with
  | cons h1 h2 h3=>obtain ⟨ks',a,b⟩:=ih h3;exact ⟨_,a.cons _,.cons h1 h2 b⟩
 | swap x y l=>
  intro ks h
  cases h with
  | cons h1 h2 h3=>cases h3 with
   | cons h4 h5 h6=>exact ⟨_,.swap _ _ _,.cons h4 h5 (.cons h1 h2 h6)⟩
 | trans _ _ ih1 ih2=>
  intro ks h
  obtain ⟨k1,a,b⟩:=ih1 h
  obtain ⟨k2,c,d⟩:=ih2 b
  exact ⟨k2,a.trans c,d⟩
end
theorem dI {t:TN}{es:Array (Int×Sa)}{L:List (Nat×Int×Sa)}(T:Tab t es L):t.fits es.size=true:=by
 have h1:t.place.size=L.length:=by rw [<-Ss,T.pl,Sh]
 have h2:es.size=L.length:=by rw [<-Ss,T.en,Sh]
 have h3:t.fill=L.length:=by unfold ZN;rw [T.dm,h1];rfl
 unfold SetTable.fits
 rw [h1,h2,h3]
 simp [T.fl]
theorem Lm {t:TN}{es:Array (Int×Sa)}{L:List (Nat×Int×Sa)}(T:Tab t es L):t.gaveWay=false:=by
 unfold SetTable.gaveWay
 rcases T.mo with h | h | h <;> rw [h] <;> rfl
section
variable {prog:Sy}{w:S9}{E:Sa->Sd->Prop}{K:R_}{J:Hp}{A:Td}{s:Sd}
theorem search {a:Sq}{o:Obj}{es:Array (Int×Sa)}{ep:Nat}{t:TN}{L:List (Nat×Int×Sa)}{ks:List D}{x:Sa}{d:D}{Q:SetFound->Sd->Prop}(N:HF K J s) (ho:s.heap.get? a=some o) (hd:o.data=.set es ep t) (T:Tab t es L) (en:fW K J es.toList ks)
  (hx:KV K J x d) (hu:A.units + 8 < Us) (n0:Nat) (hf:pos t.mask (cB d) n0∉L.map (·.1)) (hb:∀m,m < n0->pos t.mask (cB d) m∈L.map (·.1)) (hn0:n0<=10 * (t.mask + 12))
  (q1:d∈ks->Q (.there none) s) (q2:d∉ks->Q (.free (pos t.mask (cB d) n0) false) s):
  ∀(fuel n:Nat) (stand:Option SetTable.Probe),n<=n0->n0 - n < fuel->stand.getD (t.probeStart (cB d))=st t.mask (cB d) n->(∀k,k < n->∀(i:Nat) (e:Nat×Int×Sa),L[i]?=some e->e.1=pos t.mask (cB d) k->ks[i]?≠some d)->
   SH (SM prog w) A (abN a x (cB d) true fuel stand) Q E s
 | 0,n,stand,h1,h2,h3,h4=>absurd h2 (TL _)
 | fuel + 1,n,stand,h1,h2,h3,h4=>by
  have esL:∀i,es[i]?=(L[i]?).map (λe:Nat×Int×Sa=>e.2):=λi=>by rw [<-Uy,T.en,SJ]
  unfold abN
  refine R9 (Uz ho hd (dI T) ?_)
  dsimp only
  rw [Lm T]
  (simp only [SE,if_false])
  rw [h3]
  obtain ⟨m,m1,m2,m3,m4⟩:=zQ T (λi=>(es[i]?.map (·.1)).getD 0) (λi e q=>by rw [q];rfl) (cB d) n0 hf hb (n0 - n) n (10 * aba t.mask) rfl h1 (by unfold aba;omega)
  generalize hP:SetTable.probe t _ (cB d) (st t.mask (cB d) n)=r
  rcases m4 with ⟨rfl,m4⟩ | ⟨m5,i,e,m6,m7,m8,m4⟩
  ·have:r=_:=hP.symm.trans m4
   subst this
   dsimp only
   refine Sb (q2 λhm=>?_)
   obtain ⟨i,hi⟩:=WU.mp hm
   obtain ⟨e,e1,e2,e3⟩:=en.back hi
   rw [Uy,esL] at e1
   obtain ⟨e',e4,rfl⟩:=Option.map_eq_some_iff.mp e1
   have hm':=T6 e4
   obtain ⟨k,k1,k2⟩:=T.pr _ hm'
   rw [e3] at k1 k2
   have kl:k < m:=by
    rcases Vz k m with c | c | c
    ·exact c
    ·subst c;rw [k1] at hf;exact absurd (Sf.mpr ⟨_,hm',rfl⟩) hf
    ·exact absurd (k2 m c) hf
   by_cases c:k < n
   ·exact h4 k c i e' e4 k1.symm hi
   ·exact m3 k (by omega) kl e' hm' k1.symm e3
  ·have:r=_:=hP.symm.trans m4
   subst this
   dsimp only
   have hei:es[i]?=some e.2:=by rw [esL,m6];rfl
   obtain ⟨d',f1,f2,f3⟩:=en.at_ (by rw [Uy];exact hei)
   obtain ⟨⟨ya,g0⟩,g1,g2',v',g3,g4⟩:=id f2
   obtain ⟨_,x1,x2,v,x3,x4⟩:=id hx
   obtain ⟨j,hh,y⟩:=e
   dsimp only at g0 g4 m7 m8 hei
   subst g0
   have cmp:=nL N A g3 x3 g4 x4 (by omega) (by omega) (by omega)
   have pass:∀(k:Sem SetFound),SH (SM prog w) A k Q E s->SH (SM prog w) A (if (!t.led)=true then do
     let c <-XU x (acH (λx=>x.snd) (Array.filter (λx=>x.fst == cB d) es).toList)
     if c=true then do unsupported "set:the-search-would-show-the-table";k else k
     else k) Q E s:=λk hk=>by
    split
    ·refine R9 (NV N hx.key (λy hy=>?_) ?_)
     ·obtain ⟨e',he',rfl⟩:=Sf.mp hy
      have:e'∈es.toList:=by
       rw [Array.toList_filter] at he'
       exact (S7.mp he').1
      obtain ⟨d2,_,h2,_⟩:=en.mem e' this
      exact h2.key
     ·(simp only [SE,if_false])
      exact hk
    ·exact hk
   refine pass _ ?_
   rw [hei]
   dsimp only
   refine R9 (Te (cmp _ _ _ _ ?_))
   refine R9 (Uz ho hd (dI T) ?_)
   dsimp only
   by_cases c:bx d' d=true
   ·rw [c]
    (simp only [abG,if_true])
    refine Sb (q1 ?_)
    rw [<-zB g1 x1 c]
    exact T6 f1
   ·rw [Bool.not_eq_true] at c
    rw [c]
    have sm:t.sameMemory t.moves t.mask=some true:=by unfold SetTable.sameMemory;simp
    have sl:t.slot (pos t.mask (cB d) m)=.live i:=qI T.sop (by rw [<-m7];exact (T.at_ m6).1)
    rw [sm]
    simp only [VL,SE,if_false,if_true]
    rw [sl]
    dsimp only
    rw [hei]
    dsimp only
    refine R9 (wpAny_isSame_ref_self ?_)
    simp only [if_true]
    (refine R9 (Sb ?_))
    dsimp only
    refine search N ho hd T en hx hu n0 hf hb hn0 q1 q2 fuel (m + 1) _ (by omega) (by omega) rfl λk hk i2 e2 z1 z2 z3=>?_
    by_cases c1:k < n
    ·exact h4 k c1 i2 e2 z1 z2 z3
    ·by_cases c2:k < m
     ·obtain ⟨dd,w1,_,w3⟩:=en.at_ (i:=i2) (e:=e2.2) (by rw [Uy,esL,z1];rfl)
      rw [z3] at w1;cases w1
      exact m3 k (by omega) c2 e2 (T6 z1) z2 w3
     ·obtain rfl:k=m:=by omega
      have hi2:i2=i:=by
       obtain ⟨p1,p2⟩:=SW.mp z1
       obtain ⟨p3,p4⟩:=SW.mp m6
       have sw:=TZ.mp T.so
       rcases Vz i2 i with c | c | c
       ·have:=sw i2 i (by simpa using p1) (by simpa using p3) c
        simp [p2,p4] at this
        omega
       ·exact c
       ·have:=sw i i2 (by simpa using p3) (by simpa using p1) c
        simp [p2,p4] at this
        omega
      subst hi2
      rw [f1] at z3
      cases z3
      rw [fZ] at c
      exact absurd c (by decide)
end
structure iU (K:R_) (J:Hp) (h:Ui) (a:Sq) (led:Bool) (ks:List D) (es:Array (Int×Sa)) (ep:Nat) (t:TN):Prop where
 at_:h.get? a=some {cls:=.type "set",dict:=none,data:=.set es ep t}
 tab:∃L,Tab t es L
 pl:t.plain=true
 ld:t.led=led
 rm:ks.length * 5 < t.mask * 3
 en:fW K J es.toList ks
 nd:ks.Nodup
theorem Ez (mask i:Nat) (h:i<=mask):i + (aaN mask i - i)<=mask:=by unfold aaN;split <;> omega
theorem Jp (mask:Nat) (h:Int):∀n,(ST.st mask h n).j + (ST.st mask h n).more<=mask
 | 0=>Ez mask _ (WK (Y3 _ (by omega)))
 | n + 1=>by
  have ih:=Jp mask h n
  show (Yu _ (ST.st mask h n)).j + (Yu _ (ST.st mask h n)).more<=mask
  unfold Yu
  split
  ·dsimp only;omega
  ·exact Ez mask _ (WK (Y3 _ (by omega)))
theorem zP (mask:Nat) (h:Int) (n:Nat):ST.pos mask h n<=mask:=by have:=Jp mask h n;show (ST.st mask h n).j<=mask;omega
theorem Bg:UG 20=32:=by decide +kernel
theorem Bh:UG 76=128:=by decide +kernel
theorem n_ {t:TN}{es:Array (Int×Sa)}{L:List (Nat×Int×Sa)}(T:Tab t es L):L.length=es.size:=by rw [<-Ss,T.en,Sh]
section
variable {prog:Sy}{w:S9}{E:Sa->Sd->Prop}{K:R_}{J:Hp}{A:Td}{s:Sd}
theorem OB {a:Sq}{es:Array (Int×Sa)}{ep:Nat}{t:TN}{led:Bool}{L:List (Nat×Int×Sa)}{ks:List D}{Q:Unit->Sd->Prop}(ho:s.heap.get? a=some {cls:=.type "set",dict:=none,data:=.set es ep t}) (T:Tab t es L) (hp:t.plain=true) (hl:t.led=led)
  (en:fW K J es.toList ks) (nd:ks.Nodup) (W:Nat) (hW:(UG W=32/\ks.length=5)\/(UG W=128/\ks.length=19))
  (h:∀(h':Ui) ks' es' ep' t',T5 a s.heap h'->ks.Perm ks'->iU K J h' a led ks' es' ep' t'->Q () {s with heap:=h'}):SH (SM prog w) A (setRelay a W) Q E s:=by
 have hsz:es.size=ks.length:=by rw [<-Ss,en.length]
 have hm:mC (UG W - 1):=by rcases hW with ⟨h,_⟩ | ⟨h,_⟩ <;> rw [h];exact .inr (.inl rfl);exact .inr (.inr rfl)
 obtain ⟨t',R8,L',e1,e2,e3,e4,e5,e6⟩:=wU (t:=t) (es:=es) hm (by rcases hW with ⟨h,_⟩ | ⟨h,_⟩ <;> rw [h] <;> omega)
 unfold setRelay
 refine R9 (Uz ho rfl (dI T) ?_)
 dsimp only
 rw [if_neg (by rw [Uc];rcases hW with ⟨h,_⟩ | ⟨h,_⟩ <;> rw [h] <;> omega)]
 have sz':(R8.filterMap (es[·]?)).size=es.size:=by
  rw [<-Ss,e6.length_eq,Ss]
 rw [e1]
 have cnd:((R8.filterMap (es[·]?)).size != es.size)=false:=by rw [sz'];simp
 refine R9 (Wf (a:=(R8.filterMap (es[·]?),t')) ?_ ?_)
 ·show (if ((R8.filterMap (es[·]?)).size != es.size)=true then _ else pure (R8.filterMap (es[·]?),t'))=_
  rw [cnd]
  rfl
 ·dsimp only
  obtain ⟨ks',p1,p2⟩:=en.perm e6.symm
  refine WL ho rfl ?_ (by rw [sz',Uc];rcases hW with ⟨_,h⟩ | ⟨_,h⟩ <;> omega)
  have hg:=Ue (XX (R8.filterMap (es[·]?)) t') ho rfl
  refine h _ ks' _ _ _ (Uv _ _ _) p1 ⟨hg,⟨L',e5⟩,e4.trans hp,e3.trans hl,?_,p2,p1.nodup_iff.mp nd⟩
  rw [<-p1.length_eq,e2]
  rcases hW with ⟨h,h'⟩ | ⟨h,h'⟩ <;> rw [h,h'] <;> omega
theorem JC {a:Sq}{es:Array (Int×Sa)}{ep:Nat}{t:TN}{led:Bool}{ks:List D}{x:Sa}{d:D}{Q:Bool->Sd->Prop}(N:HF K J s) (S:iU K J s.heap a led ks es ep t) (hx:KV K J x d) (hu:A.units + 8 < Us) (hl:ks.length < 76)
  (q1:d∈ks->Q false s) (q2:d∉ks->∀(h':Ui) ks' es' ep' t',T5 a s.heap h'->(d::ks).Perm ks'->iU K J h' a led ks' es' ep' t'->Q true {s with heap:=h'}):
  SH (SM prog w) A (YR a x (cB d)) Q E s:=by
 obtain ⟨L,T⟩:=S.tab
 have lenL:L.length=ks.length:=by rw [n_ T,<-Ss,S.en.length]
 obtain ⟨n0,b1,b2,b3⟩:=t8 T.mo (cB d) (L.map (·.1)) (by rw [Sh];exact T.fl)
 have hj:pos t.mask (cB d) n0<=t.mask:=zP _ _ _
 (unfold YR abb)
 refine Te (R9 (Uz S.at_ rfl (dI T) ?_))
 dsimp only
 have ns:byScan x es=false:=by
  obtain ⟨⟨xa,rfl⟩,_⟩:=hx
  rfl
 rw [ns]
 (simp only [SE,if_false])
 unfold setSearch
 refine R9 (search N S.at_ rfl T S.en hx hu n0 b2 b3 b1 (λhm=>?_) (λhm=>?_) 100000 0 none (SQ _) (by rcases T.mo with h | h | h <;> rw [h] at b1 <;> omega) rfl (λk hk=>absurd hk (TL _)))
 ·exact Sb (q1 hm)
 ·dsimp only
  refine R9 (Uz S.at_ rfl (dI T) ?_)
  dsimp only
  obtain ⟨L',T',pm⟩:=T.put (cB d) x n0 b2 b3 hj (by have:=S.rm;rcases T.mo with h | h | h <;> rw [h] at this <;> omega)
  have fl:(t.put (pos t.mask (cB d) n0)).1.mask=t.mask/\(t.put (pos t.mask (cB d) n0)).1.plain=t.plain/\(t.put (pos t.mask (cB d) n0)).1.led=t.led:=⟨rfl,rfl,rfl⟩
  generalize t.put (pos t.mask (cB d) n0)=tp at T' fl ⊢
  obtain ⟨t',p⟩:=tp
  dsimp only at T' fl ⊢
  obtain ⟨f1,f2,f3⟩:=fl
  have en':∃ks',(d::ks).Perm ks'/\fW K J (UA es p (cB d,x)).toList ks':=by
   refine fW.perm (es:=(cB d,x)::es.toList) ?_ (.cons rfl hx S.en)
   rw [T'.en,T.en]
   have:=pm.map (·.2)
   exact this.symm
  obtain ⟨ks',p1,p2⟩:=en'
  have nd':ks'.Nodup:=p1.nodup_iff.mp (Ud.mpr ⟨hm,S.nd⟩)
  have lk:ks'.length=ks.length + 1:=by rw [<-p1.length_eq];rfl
  rw [f2,S.pl]
  simp only [if_true]
  refine R9 (Fw 8 N hx.key ?_)
  simp only [if_true]
  have esz:(UA es p (cB d,x)).size=ks'.length:=by rw [<-Ss,p2.length]
  refine R9 (WL S.at_ rfl ?_ (by rw [esz,Uc];omega))
  have hg:=Ue (XX (UA es p (cB d,x)) t') S.at_ rfl
  have hfill:t'.fill=ks'.length:=by
   unfold ZN
   rw [T'.dm,<-Ss,T'.pl,Sh,n_ T',esz]
   rfl
  have hes:es.size=ks.length:=by rw [<-Ss,S.en.length]
  split
  ·rename_i c
   simp only [WN,Vi] at c
   unfold W3 at c
   rw [hfill,f1,decide_eq_true_eq] at c
   have rm:=S.rm
   refine R9 (OB (s:={s with heap:=s.heap.update a (XX (UA es p (cB d,x)) t')}) hg T' (f2.trans S.pl) (f3.trans S.ld) p2 nd' _ ?_ λh' ks2 es2 ep2 t2 g1 g2' g3=>?_)
   ·rw [hes]
    unfold WO
    rw [if_neg (by omega)]
    rcases T.mo with h | h | h
    ·rw [h] at c rm
     have:ks.length + 1=5:=by omega
     rw [this]
     exact .inl ⟨Bg,by omega⟩
    ·rw [h] at c rm
     have:ks.length + 1=19:=by omega
     rw [this]
     exact .inr ⟨Bh,by omega⟩
    ·rw [h] at c;omega
   ·exact Sb (q2 hm h' ks2 es2 ep2 t2 ((Uv _ _ _).trans g1) (p1.trans g2') g3)
  ·rename_i c
   simp only [WN,Vi] at c
   unfold W3 at c
   rw [hfill,f1,decide_eq_true_eq] at c
   exact Sb (q2 hm _ ks' _ _ _ (Uv _ _ _) p1 ⟨hg,⟨L',T'⟩,f2.trans S.pl,f3.trans S.ld,by rw [f1];omega,p2,nd'⟩)
end
theorem iU.keep {K:R_}{J:Hp}{h h':Ui}{a:Sq}{led:Bool}{ks:List D}{es:Array (Int×Sa)}{ep:Nat}{t:TN}(S:iU K J h a led ks es ep t) (e:∀o,h.get? a=some o->h'.get? a=some o):iU K J h' a led ks es ep t:=
 ⟨e _ S.at_,S.tab,S.pl,S.ld,S.rm,S.en,S.nd⟩
section
variable {prog:Sy}{w:S9}{A:Td}{R:aax->Sd->Prop}{I:Sq}{fp wr:List Sq}{G:Array Zs->Array Zs->Prop}{n:Nat}{P:Nat->Sa->Prop}{St:Nat->Sd->Prop}{K:R_}{J:Hp}
theorem IA (W:ab2 prog w A.in1 I fp wr G n P St) (S:Sq) (hSf:S∉fp) (val:Nat->D) (hval:∀i v,P i v->KV K J v (val i)){s0:Sd}(N0:HF K J s0) (hnew:∀b∈S::wr,s0.heap.get? b=none) (hu:A.in1.units + 8 < Us) (hn:n<=76){led:Bool}:
  ∀(k i:Nat) (s:Sd) (ks:List D) (es:Array (Int×Sa)) (ep:Nat) (t:TN),n - i=k->i<=n->St i s->(∀b o,s0.heap.get? b=some o->s.heap.get? b=some o)->iU K J s.heap S led ks es ep t->(∀d,d∈ks↔d∈(Se i).map val)->
   (∀s' ks' es' ep' t',Moved (S::wr) G s s'->iU K J s'.heap S led ks' es' ep' t'->(∀d,d∈ks'↔d∈(Se n).map val)->R (.ok (.ret .none)) s')->
   (UX (SM prog w) A (.builtin "set.update.loop" ⟨[.ref S,.ref I],[]⟩) R s):=by
 (have Q8:S∉wr:=λh=>hSf (W.sub _ h))
 (have hsub:∀b∈wr,b∈S::wr:=λb hb=>Sg _ hb)
 have old:∀b o,s0.heap.get? b=some o->b∉S::wr:=λb o e hm=>by rw [hnew b hm] at e;cases e
 intro k
 induction k with
 | zero=>
  intro i s ks es ep t hk hi hst hb hS hm hR
  have hin:i=n:=by omega
  subst hin
  refine UE Uo ?_
  rw [T7 S8 _]
  (show SH _ A.in1 (WA (.ref I) >>= _) _ _ s)
  refine R9 (W.done s _ _ hst λs' QH=>?_)
  (show SH _ A.in1 (ret TU) _ _ s')
  exact Sb (hR s' ks es ep t (QH.mono hsub) (hS.keep λo e=>QH.heap S o Q8 e) hm)
 | succ k ih=>
  intro i s ks es ep t hk hi hst hb hS hm hR
  have hlt:i < n:=by omega
  have hlen:ks.length<=i:=by
   have:=SX hS.nd (λd hd=>(hm d).mp hd)
   simpa using this
  refine UE Uo ?_
  rw [T7 S8 _]
  (show SH _ A.in1 (WA (.ref I) >>= _) _ _ s)
  refine R9 (W.item i s _ _ hlt hst λv s' hP QN QH=>?_)
  have hx:=hval i v hP
  obtain ⟨_,x1,x2,vv,x3,x4⟩:=id hx
  have hS':=hS.keep (h':=s'.heap) λo e=>QH.heap S o Q8 e
  have hb':∀b o,s0.heap.get? b=some o->s'.heap.get? b=some o:=λb o e=>QH.heap b o (λhm=>old b o e (hsub b hm)) (hb b o e)
  have N':HF K J s':=N0.keep hb'
  have mem':∀(ks':List D),(∀d,d∈ks'↔d=val i\/d∈ks)->∀d,d∈ks'↔d∈(Se (i + 1)).map val:=λks' h d=>by
   rw [h d,hm d,U_,SV,SN]
   simp only [Sx,Xq,So]
   exact Or.comm
  show SH _ A.in1 (holding [v] (setAdd S v) >>= _) _ _ s'
  (refine R9 (Te ?_))
  unfold setAdd
  refine Te ?_
  refine R9 (vQ (val i) vv v A.in1 s' N' x1 x3 x4 (by omega) _ _ _ N' ?_)
  refine JC (s:={s' with toks:=s'.toks + kK (val i)}) (⟨N'.t,N'.l,N'.e,N'.d⟩:HF K J {s' with toks:=s'.toks + kK (val i)}) hS' hx hu (by omega) (λhin=>?_) (λhin h' ks' es' ep' t' Q7 Rp Q5=>?_)
  ·refine Sb ⟨VG S8 _,ih (i + 1) _ ks es ep t (by omega) hlt (W.frame _ s' _ _ QN (V_ _ _) λb hb o e=>e) hb' hS' (mem' ks λd=>⟨.inr,λh=>h.elim (λh=>h▸hin) id⟩) λs'' ks'' es'' ep'' t'' hm'' hS'' Q4=>?_⟩
   exact hR s'' ks'' es'' ep'' t'' (Zo W.gtrans ((QH.mono hsub).then_heap (V_ _ _) λb o hb e=>e) hm'') hS'' Q4
  ·refine Sb ⟨VG S8 _,ih (i + 1) _ ks' es' ep' t' (by omega) hlt (W.frame _ s' _ _ QN (V_ _ _) λb hb o e=>?_) (λb o e=>?_) Q5 (mem' ks' λd=>?_) λs'' ks'' es'' ep'' t'' hm'' hS'' Q4=>?_⟩
   ·(rw [Q7.2 b (λh:b=S=>hSf (by rw [<-h];exact hb))];exact e)
   ·show h'.get? b=some o
    rw [Q7.2 b (λh:b=S=>old b o e (by rw [h];exact Si))]
    exact hb' b o e
   ·rw [<-Rp.mem_iff,SD]
   ·refine hR s'' ks'' es'' ep'' t'' (Zo W.gtrans ((QH.mono hsub).then_heap (V_ _ _) λb o hb e=>?_) hm'') hS'' Q4
    (rw [Q7.2 b (λh:b=S=>hb (by rw [h];exact Si))];exact e)
end
theorem DE {K:R_}{J:Hp}{h:Ui}{a:Sq}{led:Bool}(e:h.get? a=some {cls:=.type "set",dict:=none,data:=.set #[] 0 (.fresh 0 0 led)}):iU K J h a led [] #[] 0 (.fresh 0 0 led):=
 ⟨e,⟨[],⟨rfl,rfl,rfl,VU,(λ_ h=>nomatch h),.inl rfl,SQ _,(λ_ h=>nomatch h)⟩⟩,rfl,rfl,(show 0 * 5 < 7 * 3 by decide),.nil,U4⟩
end DL
namespace ST
open PySem PySem.SetTable
theorem yK {xs:Array Nat}{i j:Nat}(hs:xs.toList.Pairwise (· < ·)) (hi:i<=xs.size) (h1:∀k,k < i->xs.getD k 0 < j) (h2:∀k,i<=k->k < xs.size->j<=xs.getD k 0):below xs j=i:=by
 obtain ⟨b1,b2,b3⟩:=oA xs j hs
 rcases Vz (below xs j) i with c | c | c
 ·have:=h1 _ c
  have:=b3 _ (Sl _) (by omega)
  omega
 ·exact c
 ·have:=b2 _ c
  have:=h2 i (Sl _) (by omega)
  omega
theorem CB {xs:Array Nat}(hs:xs.toList.Pairwise (· < ·)):below xs 0=0:=yK hs (SQ _) (λk h=>absurd h (TL _)) λk _ _=>SQ _
theorem CA {xs:Array Nat}{i j:Nat}(hs:xs.toList.Pairwise (· < ·)) (h:xs[i]?=some j):below xs (j + 1)=i + 1:=by
 obtain ⟨hi,e⟩:=TV.mp h
 have sw:=TZ.mp hs
 have gd:∀k (hk:k < xs.size),xs.getD k 0=xs[k]:=λk hk=>by simp [UN,hk]
 refine yK hs (by omega) (λk hk=>?_) (λk h1 h2=>?_)
 ·rw [gd k (by omega)]
  by_cases c:k=i
  ·subst c;omega
  ·have:=sw k i (by simp;omega) (by simpa using hi) (by omega)
   simp at this
   omega
 ·rw [gd k h2]
  have:=sw i k (by simpa using hi) (by simpa using h2) (by omega)
  simp at this
  omega
theorem wN {α:Type}(next:Nat->Nat):∀(f k:Nat) (left:List α) (out:Array α),f=left.length->(aaj next f k left out).toList.Perm (out.toList++left)
 | 0,k,left,out,h=>by
  have:left=[]:=VH.mp h.symm
  subst this
  unfold aaj
  simp
 | f + 1,k,left,out,h=>by
  have hl:next k % left.length < left.length:=Y3 _ (by omega)
  unfold aaj
  rw [Sn hl]
  dsimp only
  refine (wN next f (k + 1) _ _ (by rw [List.length_eraseIdx];simp [hl];omega)).trans ?_
  rw [Z_,XY]
  (refine ab3 _ ?_)
  have e1:left.eraseIdx (next k % left.length)=left.take (next k % left.length)++left.drop (next k % left.length + 1):=List.eraseIdx_eq_take_drop_succ _ _
  have e2:left=left.take (next k % left.length)++left[next k % left.length]::left.drop (next k % left.length + 1):=by
   rw [List.getElem_cons_drop,YQ]
  rw [e1,List.singleton_append]
  exact (aar.symm).trans (acX e2.symm)
theorem Dm {α:Type}(next:Nat->Nat) (xs:Array α):(aaO next xs).toList.Perm xs.toList:=by
 have h:=wN next xs.size 0 xs.toList #[] (by simp)
 rw [show (#[]:Array α).toList++xs.toList=xs.toList from rfl] at h
 exact h
end ST
namespace DL
open PySem PySem.Spec PyProof.Rows L2 ST
structure jK (h:Ui) (a:Sq) (led:Bool) (es:Array (Int×Sa)) (ep:Nat) (t:TN):Prop where
 at_:h.get? a=some {cls:=.type "set",dict:=none,data:=.set es ep t}
 tab:∃L,Tab t es L
 pl:t.plain=true
 ld:t.led=led
theorem jK.keep {h h':Ui}{a:Sq}{led:Bool}{es:Array (Int×Sa)}{ep:Nat}{t:TN}(S:jK h a led es ep t) (e:∀o,h.get? a=some o->h'.get? a=some o):jK h' a led es ep t:=⟨e _ S.at_,S.tab,S.pl,S.ld⟩
theorem iU.wk {K:R_}{J:Hp}{h:Ui}{a:Sq}{led:Bool}{ks:List D}{es:Array (Int×Sa)}{ep:Nat}{t:TN}(S:iU K J h a led ks es ep t):jK h a led es ep t:=⟨S.at_,S.tab,S.pl,S.ld⟩
abbrev oX (w:S9):Bool:=!w.params.followText "set-order"
noncomputable def gw (w:S9) (a ep:Nat) (es:Array (Int×Sa)):Array (Int×Sa):=if w.params.followText "set-order"=true then aaO (w.params.setOrder a ep) es else es
theorem nC (w:S9) (a ep:Nat) (es:Array (Int×Sa)):(gw w a ep es).toList.Perm es.toList:=by
 unfold gw
 split
 ·exact Dm _ _
 ·exact .refl _
theorem nD (w:S9) (a ep:Nat) (es:Array (Int×Sa)):(gw w a ep es).size=es.size:=by
 rw [<-Ss,(nC w a ep es).length_eq,Ss]
abbrev pO (a:Sq) (slot i n ep:Nat):Obj:={cls:=.type "set_iterator",data:=.fields #[.int slot 0,.int i 0,.ref a,.int n 0,.int ep 0]}
theorem tZ:acI table "set.__iter__"=some WX.«frozenset.__iter__»:=
 (abd (id':="frozenset.__iter__") (by kernel_rfl) rfl (by decide +kernel) (by kernel_rfl))
theorem gu:Slot "set_iterator" "__next__" "set_iterator.__next__":=
 (.of (owner:="set_iterator") (n:="__next__") (by rw [YS,WV];kernel_rfl) (by decide +kernel) (by decide +kernel) (by decide +kernel)
  (by first | exact .inl (by decide +kernel) | exact .inr (by decide +kernel)) (by rw [Xy];kernel_rfl))
theorem pM:acI table "set_iterator.__next__"=some WX.«set_iterator.__next__»:=(entryFor_of_tree (by kernel_rfl))
theorem p6 (a:Sa):argsOk "set_iterator.__next__" ⟨[a],[]⟩:=by unfold argsOk;kernel_rfl
section
variable {prog:Sy}{w:S9}{A:Td}{E:Sa->Sd->Prop}{s:Sd}
theorem G5 {a:Sq}{led:Bool}{es:Array (Int×Sa)}{ep:Nat}{t:TN}{Q:Sa->Sd->Prop}(S:jK s.heap a led es ep t)
  (hQ:Q (.ref s.heap.objs.size) {s with heap:=s.heap.push (pO a 0 0 es.size ep)}):SH (SM prog w) A (XH (.ref a)) Q E s:=by
 obtain ⟨L,T⟩:=S.tab
 have hT:s.TypeIs (.ref a) "set":=⟨_,S.at_,rfl⟩
 refine XZ hT aaP (Tz aaP hT tZ ?_ (F.args_set_iter_1 _))
 show SH _ _ (X0 a >>= _) _ _ s
 unfold X0
 refine R9 (R9 (Xg S.at_ rfl (dI T) (Sb ?_)))
 unfold setDrawn abv
 refine R9 (R9 (Uz S.at_ rfl (dI T) (R9 (R9 (Vh (Sb (Sb ?_)))))))
 dsimp only
 split
 ·rename_i c
  have c:(!w.params.followText "set-order" && (!t.plain && decide (es.size > 1)))=true:=c
  rw [S.pl] at c
  simp at c
 ·(refine R9 (Sb ?_))
  refine R9 (wpAny_setEpoch_of S.at_ rfl (dI T) ?_)
  (refine R9 (Tg ?_))
  exact Sb ⟨_,rfl,"set_iterator",_,⟨_,Sw _ rfl,rfl⟩,gu.lookup,hQ⟩
theorem Am {a:Sq}{es:Array (Int×Sa)}{ep:Nat}{t:TN}{slot i:Nat}{Q:Option (Sa×Nat)->Sd->Prop}(S:jK s.heap a (oX w) es ep t) (hb:w.params.followText "set-order"=false->V7 t.place slot=i)
  (q1:∀e slot',(gw w a ep es)[i]?=some e->(w.params.followText "set-order"=false->V7 t.place slot'=i + 1)->Q (some (e.2,slot')) s) (q2:(gw w a ep es)[i]?=none->Q none s):
  SH (SM prog w) A (setNext a slot i ep) Q E s:=by
 obtain ⟨L,T⟩:=S.tab
 unfold setNext abv
 refine R9 (Uz S.at_ rfl (dI T) ?_)
 dsimp only
 (refine R9 (R9 (Vh (Sb ?_))))
 dsimp only
 cases bt:w.params.followText "set-order" with
 | true=>
  rw [show (SM prog w).w.params.followText "set-order"=true from bt]
  simp only [if_true,bne_self_eq_false,SE,if_false]
  unfold setWalk abv
  refine R9 (R9 (Uz S.at_ rfl (dI T) ?_))
  dsimp only
  (refine R9 (R9 (Vh (Sb ?_))))
  dsimp only
  rw [show (SM prog w).w.params.followText "set-order"=true from bt]
  simp only [if_true]
  refine R9 (Vh (Sb ?_))
  dsimp only
  have ew:gw w a ep es=aaO ((SM prog w).w.params.setOrder a ep) es:=by unfold gw;rw [if_pos bt];rfl
  rw [ew] at q1 q2
  cases q:(aaO ((SM prog w).w.params.setOrder a ep) es)[i]? with
  | none=>exact Sb (q2 q)
  | some e=>exact Sb (q1 e slot q λz=>absurd (bt.symm.trans z) (by decide))
 | false=>
  rw [show (SM prog w).w.params.followText "set-order"=false from bt]
  (simp only [SE,if_false])
  have ew:gw w a ep es=es:=by unfold gw;rw [if_neg (by rw [bt];decide)]
  rw [ew] at q1 q2
  have Ri:t.led=true:=by rw [S.ld];show (!w.params.followText "set-order")=true;rw [bt];rfl
  split
  ·rename_i c
   have c:(!t.plain && decide (es.size > 1))=true:=c
   rw [S.pl] at c
   simp at c
  ·refine R9 (Wf (a:=()) ?_ ?_)
   ·show (if (!t.led && !es.isEmpty)=true then _ else pure ())=pure ()
    rw [Ri]
    rfl
   ·rw [hb bt]
    cases q:es[i]? with
    | none=>exact Sb (q2 q)
    | some e=>
     have hlen:i < t.place.size:=by
      have h1:=(TV.mp q).1
      have h2:t.place.size=es.size:=by rw [<-Ss,T.pl,Sh,n_ T]
      omega
     have ep':t.place[i]?=some t.place[i]:=Vq hlen
     rw [ep']
     exact Sb (q1 e _ q λ_=>CA T.sop ep')
theorem Ht {I a:Sq}{es:Array (Int×Sa)}{ep:Nat}{t:TN}{slot i:Nat}{Q:Option Sa->Sd->Prop}(hne:a≠I) (S:jK s.heap a (oX w) es ep t) (hI:s.heap.get? I=some (pO a slot i es.size ep)) (hb:w.params.followText "set-order"=false->V7 t.place slot=i) (hi:i < es.size)
  (hQ:∀h' slot' e,(gw w a ep es)[i]?=some e->h'.get? I=some (pO a slot' (i + 1) es.size ep)->(w.params.followText "set-order"=false->V7 t.place slot'=i + 1)->T5 I s.heap h'->Q (some e.2) {s with heap:=h'}):
  SH (SM prog w) A (WA (.ref I)) Q E s:=by
 obtain ⟨L,T⟩:=S.tab
 have hT:s.TypeIs (.ref I) "set_iterator":=⟨_,hI,rfl⟩
 unfold WA
 refine R9 (Ws (UD (name:=WS "__next__") hT gu (Tz gu hT pM ?_ (p6 _))))
 show SH _ _ (fieldsOf (.ref I) >>= _) _ _ s
 refine R9 (Xz hI rfl ?_)
 dsimp only
 refine R9 (Xg S.at_ rfl (dI T) ?_)
 simp only [bne_self_eq_false,SE,if_false,UL]
 refine R9 (Am S hb (λe slot' q1 q2=>?_) λq=>?_)
 ·dsimp only
  refine R9 (Xv hI (by simp) λh1 g1 b1=>?_)
  refine R9 (Xv (s:={s with heap:=h1}) g1 (by simp) λh2 g2' b2=>?_)
  exact Sb ⟨_,rfl,Sb (hQ h2 slot' e q1 (g2'.trans (by simp [abl])) q2 (b1.trans b2))⟩
 ·exfalso
  have:=(Array.getElem?_eq_none_iff.mp q)
  rw [nD] at this
  omega
theorem JU {I a:Sq}{es:Array (Int×Sa)}{ep:Nat}{t:TN}{slot:Nat}{Q:Option Sa->Sd->Prop}(hh:A.handled=none) (S:jK s.heap a (oX w) es ep t) (hI:s.heap.get? I=some (pO a slot es.size es.size ep)) (hb:w.params.followText "set-order"=false->V7 t.place slot=es.size)
  (hQ:∀h',acz I s.heap h'->Q none {s with heap:=h'}):SH (SM prog w) A (WA (.ref I)) Q E s:=by
 obtain ⟨L,T⟩:=S.tab
 have hT:s.TypeIs (.ref I) "set_iterator":=⟨_,hI,rfl⟩
 unfold WA
 refine R9 (Ws (UD (name:=WS "__next__") hT gu (Tz gu hT pM ?_ (p6 _))))
 show SH _ _ (fieldsOf (.ref I) >>= _) _ _ s
 refine R9 (Xz hI rfl ?_)
 dsimp only
 refine R9 (Xg S.at_ rfl (dI T) ?_)
 simp only [bne_self_eq_false,SE,if_false,UL]
 refine R9 (Am S hb (λe slot' q1 q2=>?_) λq=>?_)
 ·exfalso
  have:=(TV.mp q1).1
  rw [nD] at this
  omega
 ·dsimp only
  refine R9 (Xv hI (by simp) λh1 g1 b1=>?_)
  refine R9 ?_
  simp only [newExc,newTuple]
  (refine R9 (Tg ?_ (by size_fits)))
  (refine R9 (m:=XA _ _) (Wf (a:=TU) (by first | rfl | (simp only [XA];rfl)) ?_))
  (refine Tg ?_ (by size_fits))
  simp only [raiseNew]
  (refine R9 (abO ?_))
  (first | rw [show A.in1.handled=none from hh] | rw [hh])
  (refine R9 (Sb (wpAny_throw ?_)))
  (refine R9 (W2 (T:="StopIteration") (b:=true) ⟨_,Sw _ rfl,rfl⟩ abe ?_))
  exact Sb (hQ _ ((b1.extBut.push _).push _))
end
theorem xV:typeLookup (.type "set") "__len__"=pure (some (.builtin "set.__len__")):=by rw [YS,WV];kernel_rfl
theorem Gp {M:ab_}{A:Td}{E:Sa->Sd->Prop}{s:Sd}{α:Type}{c:Prop} [Decidable c] {m1 m2:Sem α}{Q:α->Sd->Prop}(hc:c) (h:SH M A m1 Q E s):SH M A (if c then m1 else m2) Q E s:=by rw [if_pos hc];exact h
theorem G2 {prog:Sy}{w:S9}{A:Td}{E:Sa->Sd->Prop}{s:Sd}{a:Sq}{Q:Bool->Sd->Prop}(hT:s.TypeIs (.ref a) "set") (hQ:Q false s):SH (SM prog w) A (Xh (.ref a)) Q E s:=by
 have sp:splitId "set.__len__"=some ("set","__len__"):=by decide +kernel
 (unfold Xh)
 refine R9 (Wy hT xV ?_)
 dsimp -zeta only
 rw [sp]
 dsimp -zeta only
 refine R9 (m:=abq (.ref a) (.type "set")) (W2 hT sub_set_self ?_)
 (show SH _ _ (if (!true)=true then _ else _) _ _ _)
 rw [if_neg (by decide)]
 refine Gp (by decide +kernel) ?_
 (refine R9 (WT hT ?_))
 exact Sb hQ
theorem qJ:Slot "set_iterator" "__iter__" "set_iterator.__iter__":=
 ((.of (owner:="set_iterator") (n:="__iter__") (by rw [YS,WV];kernel_rfl) (by decide +kernel) (by decide +kernel) (by decide +kernel)
  ((by first | exact .inl (by decide +kernel) | exact .inr (by decide +kernel))) (by rw [Xy];kernel_rfl)))
theorem xN:acI table "set_iterator.__iter__"=some WX.«dict_keyiterator.__iter__»:=
 (abd (id':="dict_keyiterator.__iter__") (by kernel_rfl) rfl (by decide +kernel) (by kernel_rfl))
theorem yH (a:Sa):argsOk "set_iterator.__iter__" ⟨[a],[]⟩:=by unfold argsOk;kernel_rfl
section
variable {prog:Sy}{w:S9}{A:Td}{E:Sa->Sd->Prop}{s:Sd}
def jE (w:S9) (a ep:Nat) (es:Array (Int×Sa)):List Sa:=(gw w a ep es).toList.map (·.2)
theorem Gn (hh:A.handled=none) (I a:Sq) (hne:a≠I){es:Array (Int×Sa)}{ep:Nat}{t:TN}:
  Walks prog w A I [I,a] [I] es.size (λi v=>(jE w a ep es)[i]?=some v) (λi h=>∃slot,h.get? I=some (pO a slot i es.size ep)/\jK h a (oX w) es ep t/\(w.params.followText "set-order"=false->V7 t.place slot=i)) where
 sub:=λ_ hb=>by simp at hb;simp [hb]
 frame:=λ_ _ _ ⟨slot,h1,h2,h3⟩ hk=>⟨slot,hk I (by simp) _ h1,h2.keep λo e=>hk a (by simp) o e,h3⟩
 item:=λi s Q E hi ⟨slot,h1,h2,h3⟩ hQ=>by
  refine Ht hne h2 h1 h3 hi λh' slot' e q1 q2 q3 q4=>?_
  refine hQ e.2 h' s.toks ?_ ⟨slot',q2,h2.keep λo e=>?_,q3⟩ λb o hb e=>?_
  ·unfold jE;rw [SJ,Uy,q1];rfl
  ·rw [q4.2 a hne];exact e
  ·exact q4.extBut b o (λh=>hb (by simp [h])) e
 done:=λs Q E ⟨slot,h1,h2,h3⟩ hQ=>JU hh h2 h1 h3 λh' he=>hQ h' s.toks λb o hb e=>he b o (λh=>hb (by simp [h])) e
 self:=λi s Q E ⟨slot,h1,h2,h3⟩ hQ=>by
  have hT:s.TypeIs (.ref I) "set_iterator":=⟨_,h1,rfl⟩
  refine XZ hT qJ (Tz qJ hT xN ?_ (yH _))
  show SH _ _ (ret (.ref I)) _ _ s
  exact Sb ⟨_,rfl,"set_iterator",_,hT,gu.lookup,hQ⟩
theorem rO {a:Sq}{es:Array (Int×Sa)}{ep:Nat}{t:TN}{Q:List Sa->Sd->Prop}(hh:A.handled=none) (S:jK s.heap a (oX w) es ep t) (hn:es.size<=76)
  (hQ:∀(h':Ui) (tk:Nat),(∀b o,s.heap.get? b=some o->h'.get? b=some o)->s.heap.objs.size < h'.objs.size->Q (jE w a ep es) {s with heap:=h',toks:=tk}):SH (SM prog w) A (collect (.ref a)) Q E s:=by
 have ha:a < s.heap.objs.size:=SA S.at_
 have hT:s.TypeIs (.ref a) "set":=⟨_,S.at_,rfl⟩
 unfold collect
 (refine R9 (Ze (UE YM ?_)))
 (rw [T7 YN _])
 show SH _ A.in1 (acw [] >>= λl=>again (.builtin "list.__iadd__" ⟨[l,.ref a],[]⟩)) _ _ s
 (refine R9 (Tg ?_))
 (refine Sb ⟨VG WJ _,UE Z6 ?_⟩)
 (rw [T7 WJ _])
 generalize RN:({cls:=.type "list",data:=.seq ([]:List Sa).toArray}:Obj)=l0
 have S1:jK (s.heap.push l0) a (oX w) es ep t:=S.keep λo e=>Sm _ e
 have hT1:Ym {s with heap:=s.heap.push l0} (.ref a) "set":=⟨_,S1.at_,rfl⟩
 show SH _ A.in1 (Xi (.ref s.heap.objs.size) (.ref a) (.ref s.heap.objs.size)) _ _ _
 (unfold Xi)
 refine R9 (WT hT1 ?_)
 have h1:abw (.ref s.heap.objs.size) (.ref a)=false:=by
  show (s.heap.objs.size == a)=false
  exact beq_eq_false_iff_ne.mpr (Wg ha)
 have h2:(WG "set" == WG "list")=false:=by decide
 have h3:(WG "set" == WG "tuple")=false:=by decide
 (simp only [h1,h2,h3,abE,SE,if_false])
 refine R9 (G5 S1 ?_)
 (refine R9 (Te ?_))
 have z1:(s.heap.push l0).objs.size=s.heap.objs.size + 1:=V6 _ _
 rw [z1]
 have S2:jK ((s.heap.push l0).push (pO a 0 0 es.size ep)) a (oX w) es ep t:=S1.keep λo e=>Sm _ e
 have hT2:Ym {s with heap:=(s.heap.push l0).push (pO a 0 0 es.size ep)} (.ref a) "set":=⟨_,S2.at_,rfl⟩
 refine G2 hT2 ?_
 refine Gp (by decide +kernel) ?_
 (refine R9 (XQ ?_))
 subst RN
 have hI:((s.heap.push {cls:=.type "list",data:=.seq ([]:List Sa).toArray}).push (pO a 0 0 es.size ep)).get? (s.heap.objs.size + 1)=some (pO a 0 0 es.size ep):=by rw [<-z1];exact Sw _ rfl
 have hS₁:((s.heap.push {cls:=.type "list",data:=.seq ([]:List Sa).toArray}).push (pO a 0 0 es.size ep)).get? s.heap.objs.size=some {cls:=.type "list",data:=.seq ([]:List Sa).toArray}:=Sm _ (Sw _ rfl)
 refine R9 ?_
 (show SH _ A.in1 (updateSeq s.heap.objs.size (·.push .none) >>= λ_=>updateSeq s.heap.objs.size (·.pop)) _ _ _)
 (refine R9 (Xe hS₁ rfl ?_))
 (have hS₂:=Ue (UU (·.push TU)) hS₁ rfl)
 (refine Xe hS₂ rfl ?_)
 (have hS₃:=Ue (UU (·.pop)) hS₂ rfl)
 have oth:∀b o,b≠s.heap.objs.size->((s.heap.push {cls:=.type "list",data:=.seq ([]:List Sa).toArray}).push (pO a 0 0 es.size ep)).get? b=some o->
   ((((s.heap.push {cls:=.type "list",data:=.seq ([]:List Sa).toArray}).push (pO a 0 0 es.size ep)).update s.heap.objs.size (UU (·.push TU))).update s.heap.objs.size (UU (·.pop))).get? b=some o:=
  (λb o hb e=>(WD _ _ (Vt hb)).trans ((WD _ _ (Vt hb)).trans e))
 have hne:a≠s.heap.objs.size + 1:=S4 (VX ha)
 have hSf:s.heap.objs.size∉[s.heap.objs.size + 1,a]:=by
  simp only [SD,UY,or_false,not_or]
  exact ⟨S4 (UJ _),Wg ha⟩
 obtain ⟨L,T⟩:=S.tab
 refine Sb ⟨VG F.plain_extend_loop _,codeAny_extend_loopS ((Gn (A:=A.in1) (prog:=prog) (w:=w) (es:=es) (ep:=ep) (t:=t) hh (s.heap.objs.size + 1) a hne).toS) (by rw [Uc];omega) _ hSf _ es.size 0 _ _ _ rfl (SQ _)
  ⟨0,oth _ _ (Wg (UJ _)) hI,S2.keep λo e=>oth _ _ (S4 ha) e,λ_=>CB T.sop⟩ hS₃ (ItemsOf.nil _) λs' acc' c' hm hS' hacc=>?_⟩
 (show SH _ A (load s.heap.objs.size >>= _) _ _ s')
 (refine R9 (abk hS' ?_))
 have eacc:acc'.toList=jE w a ep es:=by
  obtain ⟨z,q⟩:=hacc
  have lw:(jE w a ep es).length=es.size:=by unfold jE;rw [Sh,Ss,nD]
  refine Vg (by rw [Ss,z,lw]) λi x1 x2=>?_
  have this:(jE w a ep es)[i]?=some (acc'[i]'(by simpa using x1)):=q i _ (Vq (by simpa using x1))
  rw [Sn x2] at this
  (exact (TF this).symm)
 refine Sb ?_
 rw [eacc]
 (obtain ⟨h',g',d',tk',os'⟩:=s')
 (have eg:g'=s.gens:=hm.gens)
 (have ed:d'=s.drawn:=hm.drawn)
 have eo:os'=s.os:=hm.os
 subst eg;subst ed;subst eo
 refine hQ h' tk' (λb o e=>?_) (SA hS')
 have lb:=SA e
 refine hm.heap b o ?_ (oth b o (S4 lb) (Sm _ (Sm _ e)))
 simp only [SD,UY,or_false,not_or]
 exact ⟨S4 lb,S4 (VX lb)⟩
end
theorem xj:aaQ (.type "tuple") (.type "set")=pure false:=by rw [Xy];kernel_rfl
theorem xh:aaQ (.type "tuple") (.type "frozenset")=pure false:=by rw [Xy];kernel_rfl
abbrev iJ (led:Bool):Obj:={cls:=.type "set",dict:=none,data:=.set #[] 0 (.fresh 0 0 led)}
abbrev eG (w:S9):Bool:=!w.params.followText "set-order"
section
variable {prog:Sy}{w:S9}{A:Td}{E:Sa->Sd->Prop}{s:Sd}{K:R_}{J:Hp}
theorem Io (a:Sa){Q₁:Sa->Sd->Prop}(h:Q₁ (.ref s.heap.objs.size) {s with heap:=s.heap.push (iJ (eG w))}):
  (UX (SM prog w) A (.call (.builtin "set.__new__") ⟨[.type "set",a],[]⟩) (wants Q₁ E) s):=by
 refine (Xj ?_)
 (show SH _ A.in1 (do Ys "set.__new__" ⟨[.type "set",a],[]⟩;again (.builtin "set.__new__" ⟨[.type "set",a],[]⟩)) _ _ s)
 refine R9 (Wf (PySem.F.newCall_set_1 a) (Sb ⟨VG aaR _,UE F.entry_set_new ?_⟩))
 (rw [T7 aaR _])
 (unfold WX.«set.__new__» aa0)
 have hsub:=sub_set_self
 (obtain ⟨hp,g,d,tk,os⟩:=s)
 dsimp only
 wp_walk
 (refine Vh (Sb ?_))
 dsimp only
 simp only [newObj]
 (refine R9 (wpAny_alloc (Sb ?_)))
 exact Sb h
noncomputable def LA (prog:Sy) (w:S9) (A:Td) (E:Sa->Sd->Prop) (s:Sd) (l:Sq) (items:Array Sa):Prop:=
 ∃(I:Sq) (fp:List Sq) (St:Nat->Sd->Prop) (h2:Ui),ab2 prog w A.in1.in1.in1 I fp [I] (λa b=>b=a) items.size (λi v=>items[i]?=some v) St/\s.heap.objs.size∉fp/\s.heap.objs.size < I/\St 0 {s with heap:=h2}/\(∀b o,(s.heap.push (iJ (eG w))).get? b=some o->h2.get? b=some o)/\
  ∀R:Sa->Sd->Prop,R (.ref I) {s with heap:=h2}->SH (SM prog w) A.in1.in1 (XH (.ref l)) R E {s with heap:=s.heap.push (iJ (eG w))}
theorem Ak {l:Sq}{T:String}{ol:Obj}{Q:Sa->Sd->Prop}{items:Array Sa}(P:Ui->Prop) (QY:s.heap.get? l=some ol) (hcl:ol.cls=.type T) (RV:aaQ (.type T) (.type "set")=pure false) (RU:aaQ (.type T) (.type "frozenset")=pure false) (hne:(WG T == WG "dict")=false)
  (it:LA prog w A E s l items)
  (loop:∀{I:Sq}{fp:List Sq}{St:Nat->Sd->Prop}{h2:Ui}{R:_->Sd->Prop},ab2 prog w A.in1.in1.in1 I fp [I] (λa b=>b=a) items.size (λi v=>items[i]?=some v) St->s.heap.objs.size∉fp->s.heap.objs.size < I->St 0 {s with heap:=h2}->(∀b o,(s.heap.push (iJ (eG w))).get? b=some o->h2.get? b=some o)->
   (∀s',Moved [s.heap.objs.size,I] (λa b=>b=a) {s with heap:=h2} s'->P s'.heap->R (.ok (.ret .none)) s')->UX (SM prog w) A.in1.in1 (.builtin "set.update.loop" ⟨[.ref s.heap.objs.size,.ref I],[]⟩) R {s with heap:=h2})
  (h:∀(h':Ui) (tk:Nat),P h'->(∀b o,b < s.heap.objs.size->s.heap.get? b=some o->h'.get? b=some o)->Q (.ref s.heap.objs.size) {s with heap:=h',toks:=tk}):
  (SH (SM prog w) A (call (.type "set") [.ref l]) Q E s):=by
 (obtain ⟨c,tl,RO⟩:=VS.mro)
 (have hmade:=VS.made)
 have hsub:=VS.sub
 (refine ZU (Xj ?_))
 (show SH _ _ (callAny (.type "set") _) _ _ _)
 (refine Sb ⟨Code.quiet_builtin _ (by decide +kernel),UE F.entry_type_call ?_⟩)
 (rw [Around.under_plain (weight_type_call_type "set" [.ref l] []) rfl])
 (have h1:=VS.notType)
 (have h2:=VS.canCreate)
 have hct:=PySem.F.typeCall_set_1 (.ref l)
 (repeat (any_goals (first | assumption | wp_step)))
 refine VA (Io (.ref l) (E:=E) (Q₁:=λobj s₁=>obj=.ref s.heap.objs.size/\s₁={s with heap:=s.heap.push (iJ (eG w))}) ⟨rfl,rfl⟩) λr s₁ hr=>?_
 cases r with
 | error e=>exact hr
 | ok fl=>
  cases fl with
  | ret obj=>
   obtain ⟨rfl,rfl⟩:=hr
   have hS:(s.heap.push (iJ (eG w))).get? s.heap.objs.size=some (iJ (eG w)):=Sw _ rfl
   have hT:Ym {s with heap:=s.heap.push (iJ (eG w))} (.ref s.heap.objs.size) "set":=⟨_,hS,rfl⟩
   (have hli:=VS.init.lookup)
   (have hbi:=VS.init.bind (.ref s.heap.objs.size))
   (repeat (any_goals (first | assumption | wp_step)))
   refine VA (Y7 (R:=wants (λr s₂=>r=.none/\∃h' tk,s₂={s with heap:=h',toks:=tk}/\P h'/\
     (∀b o,b < s.heap.objs.size->s.heap.get? b=some o->h'.get? b=some o)) E) VS.init.plain F.entry_set_init ((check_set_init_1 hT ?_))) λr₂ s₂ hr₂=>?_
   ·have Rn:(s.heap.push (iJ (eG w))).get? l=some ol:=Sm _ QY
    have RY:Ym {s with heap:=s.heap.push (iJ (eG w))} (.ref l) T:=⟨_,Rn,hcl⟩
    (unfold WX.«set.__init__» noKeywords aau)
    generalize RD:XH=PI
    wp_walk
    subst RD
    obtain ⟨I,fp,St,h2,W,hSf,hSI,st,hk,hit⟩:=it
    refine hit _ (R9 (Ze (loop W hSf hSI st hk λs' hm hp=>?_)))
    (obtain ⟨h',g',d',tk',os'⟩:=s')
    (have eg:g'=s.gens:=hm.gens)
    (have ed:d'=s.drawn:=hm.drawn)
    have eo:os'=s.os:=hm.os
    subst eg;subst ed;subst eo
    show SH _ _ _ _ _ _
    refine Sb ?_
    (show SH _ _ (ret TU) _ _ _)
    refine Sb ⟨rfl,h',tk',rfl,hp,λb o hb e=>hm.heap b o ?_ (hk b o (Sm _ e))⟩
    simp only [SD,UY,or_false,not_or]
    exact ⟨S4 hb,S4 (VQ hb hSI)⟩
   ·cases r₂ with
    | error e=>exact hr₂
    | ok fl₂=>
     cases fl₂ with
     | ret r=>
      obtain ⟨rfl,h',tk,rfl,hp,hk'⟩:=hr₂
      (repeat (any_goals (first | assumption | wp_step)))
      exact h _ _ hp hk'
     | _=>exact hr₂.elim
  | _=>exact hr.elim
theorem zq {l:Sq}{items:Array Sa}(hh:A.handled=none) (hl:s.heap.IsTuple l items):LA prog w A E s l items:=by
 obtain ⟨ol,QY,hcl,nl,hdl⟩:=id hl
 have hl1:(s.heap.push (iJ (eG w))).IsTuple l items:=⟨_,Sm _ QY,hcl,nl,hdl⟩
 have hlS:l < s.heap.objs.size:=SA QY
 have z1:(s.heap.push (iJ (eG w))).objs.size=s.heap.objs.size + 1:=V6 _ _
 have Rj:l≠(s.heap.push (iJ (eG w))).objs.size:=by rw [z1];exact S4 (VX hlS)
 refine ⟨_,_,_,_,(Walks.tuple (A:=A.in1.in1.in1) (by simp [hh]) (s.heap.push (iJ (eG w))).objs.size l Rj items).toS,?_,?_,⟨⟨_,Sw _ rfl,rfl,rfl⟩,hl1.push _⟩,λb o e=>Sm _ e,λR q=>ZH hl1 q⟩
 ·rw [z1]
  simp only [SD,UY,or_false,not_or]
  exact ⟨S4 (UJ _),Wg hlS⟩
 ·rw [z1];exact UJ _
theorem MF {items:Array Sa}{ds:List D}(N:HF K J s) (hz:items.size=ds.length) (hi:∀i v,items[i]?=some v->KV K J v (ds.getD i .non)) (hn:ds.length<=76) (hu:A.units + 16 < Us){I:Sq}{fp:List Sq}{St:Nat->Sd->Prop}{h2:Ui}{R:_->Sd->Prop}(W:ab2 prog w A.in1.in1.in1 I fp [I] (λa b=>b=a) items.size (λi v=>items[i]?=some v) St) (hSf:s.heap.objs.size∉fp) (hSI:s.heap.objs.size < I) (st:St 0 {s with heap:=h2})
  (hk:∀b o,(s.heap.push (iJ (eG w))).get? b=some o->h2.get? b=some o) (hR:∀s',Moved [s.heap.objs.size,I] (λa b=>b=a) {s with heap:=h2} s'->(∃ks es ep t,iU K J s'.heap s.heap.objs.size (eG w) ks es ep t/\∀d,d∈ks↔d∈ds)->R (.ok (.ret .none)) s'):UX (SM prog w) A.in1.in1 (.builtin "set.update.loop" ⟨[.ref s.heap.objs.size,.ref I],[]⟩) R {s with heap:=h2}:=by
 have all:(Se items.size).map (λi=>ds.getD i .non)=ds:=by
  refine Vg (by simp [hz]) λi a b=>?_
  simp [b]
 have hno:∀b,s.heap.objs.size<=b->s.heap.get? b=none:=λb hb=>by
  cases q:s.heap.get? b with
  | none=>rfl
  | some o=>exact absurd (SA q) (Nat.not_lt.mpr hb)
 refine IA (A:=A.in1.in1) (K:=K) (J:=J) (s0:=s) (led:=eG w) W s.heap.objs.size hSf (λi=>ds.getD i .non) hi N (λb hb=>hno b ?_) (by simp only [in1_units];omega) (by omega) items.size 0 _ [] #[] 0 (.fresh 0 0 (eG w)) (by omega) (SQ _) st (λb o e=>hk b o (Sm _ e)) (DE (hk _ _ (Sw _ rfl))) (λd=>by simp) λs' ks es ep t hm hS' hmem=>hR s' hm ⟨ks,es,ep,t,hS',by rw [all] at hmem;exact hmem⟩
 rcases SD.mp hb with rfl | hb
 ·exact Sl _
 ·rw [So.mp hb];exact WR hSI
theorem An {l:Sq}{items:Array Sa}{ds:List D}{Q:Sa->Sd->Prop}(N:HF K J s) (hh:A.handled=none) (hl:s.heap.IsTuple l items) (hz:items.size=ds.length) (hi:∀i v,items[i]?=some v->KV K J v (ds.getD i .non)) (hn:ds.length<=76) (hu:A.units + 16 < Us)
  (h:∀(h':Ui) (tk:Nat) ks es ep t,iU K J h' s.heap.objs.size (eG w) ks es ep t->(∀d,d∈ks↔d∈ds)->(∀b o,b < s.heap.objs.size->s.heap.get? b=some o->h'.get? b=some o)->Q (.ref s.heap.objs.size) {s with heap:=h',toks:=tk}):
  (SH (SM prog w) A (call (.type "set") [.ref l]) Q E s):=by
 obtain ⟨ol,QY,hcl,_⟩:=id hl
 exact Ak (λh'=>∃ks es ep t,iU K J h' s.heap.objs.size (eG w) ks es ep t/\∀d,d∈ks↔d∈ds) QY hcl xj xh (by decide) (zq hh hl) (λW a b c d e=>MF N hz hi hn hu W a b c d e) λh' tk ⟨ks,es,ep,t,a,b⟩=>h h' tk ks es ep t a b
end
end DL
namespace DL
open PySem PySem.Spec PyProof.Rows L2 ST
open PySem.W (KasT kas_sort kas_ask)
mutual
noncomputable def formOf:D->Fm
 | .int _=>.i
 | .tup xs=>Bw xs
 | _=>.b
noncomputable def Bw:List D->Fm
 | []=>.tn
 | x::xs=>.tc (formOf x) (Bw xs)
end
noncomputable def q_:Fm->D->Bool
 | .i,.int _=>true
 | .tn,.tup xs=>xs.isEmpty
 | .tc x r,.tup (y::ys)=>q_ x y && q_ r (.tup ys)
 | _,_=>false
theorem sN:∀(f:Fm) (d:D),q_ f d=true->jJ f d
 | .i,.int k,_=>⟨k,rfl⟩
 | .tn,.tup [],_=>⟨[],rfl,rfl⟩
 | .tc x r,.tup (y::ys),h=>by
  unfold q_ at h
  rw [Sk] at h
  exact ⟨_,rfl,y,ys,rfl,sN x y h.1,sN r (.tup ys) h.2⟩
noncomputable def Jc:List D->Bool
 | []=>true
 | d::r=>(match ia d with
  | some k=>iy k (d::r)
  | none=>false) && (d::r).all (q_ (formOf d))
def rZ (ds:List D):Bool:=decide (ds.length < 64) && (areKeys ds && (decide (deps ds<=8) && Jc ds))
theorem Hx {ds:List D}(h:Jc ds=true):∃k f,∀d∈ds,ia d=some k/\jJ f d:=by
 cases ds with
 | nil=>exact ⟨.i,.i,λ_ h=>nomatch h⟩
 | cons d r=>
  unfold Jc at h
  rw [Sk] at h
  cases q:ia d with
  | none=>rw [q] at h;cases h.1
  | some k=>
   rw [q] at h
   exact ⟨k,formOf d,λx hx=>⟨mE h.1 x hx,sN _ _ (SK.mp h.2 x hx)⟩⟩
theorem sH {n:Nat}:∀{ds:List D},deps ds<=n->∀d∈ds,dep d<=n
 | [],_,_,h=>nomatch h
 | x::r,hn,d,h=>by
  unfold deps at hn
  (rcases SD.mp h with rfl | h)
  ·omega
  ·exact sH (ds:=r) (by omega) d h
theorem sC {k:Hd}:∀{ds:List D},(∀d∈ds,ia d=some k)->iy k ds=true
 | [],_=>rfl
 | x::r,h=>by
  unfold iy
  rw [h x (Si ..),sC λd hd=>h d (Sg _ hd)]
  cases k <;> rfl
structure OV (ds:List D) (k:Hd) (f:Fm):Prop where
 ln:ds.length < 64
 ky:areKeys ds=true
 dp:deps ds<=8
 al:∀d∈ds,ia d=some k/\jJ f d
theorem zM {ds:List D}(h:rZ ds=true):∃k f,OV ds k f:=by
 unfold rZ at h
 rw [Sk,Sk,Sk] at h
 obtain ⟨h1,h2,h3,h4⟩:=h
 obtain ⟨k,f,h5⟩:=Hx h4
 exact ⟨k,f,of_decide_eq_true h1,h2,of_decide_eq_true h3,h5⟩
abbrev pG (X:Cx) (H0:Hp) (a:Sq) (ds:List D):HO:=.ext λh=>∃ks es ep t,iU X.K H0 h a (eG X.w) ks es ep t/\∀d,d∈ks↔d∈ds
section
variable {X:Cx}
theorem Oe {K:R_}{J:Hp}{k:Hd}{f:Fm}{ds:List D}{vs:List V}{us:List Sa}(o:OV ds k f) (rs:aK K J ds vs) (rv:Vals vs us):∀i v,us.toArray[i]?=some v->KV K J v (ds.getD i .non):=λi v q=>by
 have l1:vs.length=us.length:=rv.length
 have l2:ds.length=vs.length:=rs.length
 have hi:i < us.length:=by
  have:=(TV.mp q).1
  simpa using this
 have e:us.getD i TU=v:=by
  simp at q
  simp [aaS,q]
 have r1:=iX rs (i:=i) (by omega)
 have r2:=i7 rv (i:=i) (by omega)
 rw [e] at r2
 have m:=i9 (ds:=ds) (i:=i) (by omega)
 refine ⟨?_,rM o.ky _ m,sH o.dp _ m,_,r1,r2⟩
 have hh:=(o.al _ m).1
 generalize dZ ds i=d at r1 hh
 generalize vs.getD i V.non=vv at r1 r2
 cases d with
 | tup xs=>cases r1 with
  | tup _ _=>cases r2;exact ⟨_,rfl⟩
 | _=>cases hh
theorem Ej (hu:X.A.units + 64 < Us) (hc:X.calm=true):cP X (.type "set") (λxs H Q=>∃p vs ds J0,xs=[.ref p]/\dQ X.K H p vs/\aW J0 H/\aK X.K J0 ds vs/\rZ ds=true/\∀l,H l=none->Q (.ref l) (upd H l (pG X J0 l ds))):=by
 intro R0 s σ H xs us Q I r h
 obtain ⟨p,vs,ds,J0,rfl,hq,sm,rs,oks,q⟩:=h
 obtain ⟨u,rfl,rx⟩:=vals1 r
 cases rx
 obtain ⟨k,f,o⟩:=zM oks
 have N:HF X.K J0 s:=HF.of (c:=⟨X.K,H,H,λ_=>True⟩) I sm
 obtain ⟨R1,r',pt,hz⟩:=I.tuple hq
 refine An N (I.ok.hd hc) pt (by simp [<-r'.length,rs.length]) (Oe o rs r') (by have:=o.ln;omega) (by omega) λh' tk ks es ep t S hm kp=>?_
 exact ⟨.ref s.heap.objs.size,_,I.laid (t':=tk) (λb o e=>kp b o (SA e) e) (Sl _) (show dw X.prog X.w _ _ _ (pG X J0 s.heap.objs.size ds) from ⟨⟨ks,es,ep,t,S,hm⟩,⟨_,S.at_⟩,λh1 h2 ⟨ks,es,ep,t,S,hm⟩ e=>⟨ks,es,ep,t,S.keep e,hm⟩⟩),rfl,q _ (I.hok.fresh (Sl _))⟩
end
noncomputable def dd:List D->List D
 | []=>[]
 | x::xs=>if (dd xs).any (bx x)=true then dd xs else x::dd xs
def dW (ds:List D):List D:=cY (dd ds)
section
variable {P:D->Prop}
theorem yb (p:gD P):∀(ds:List D),(∀x∈ds,P x)->(dd ds).Nodup/\∀y,y∈dd ds↔y∈ds
 | [],_=>⟨U4,λ_=>.rfl⟩
 | x::xs,h=>by
  obtain ⟨h1,h2⟩:=yb p xs λy hy=>h y (Sg _ hy)
  have px:=h x (Si ..)
  have eqv:(dd xs).any (bx x)=true↔x∈xs:=by
   rw [UK]
   constructor
   ·rintro ⟨z,hz,e⟩
    have hz':=(h2 z).mp hz
    rw [(p.eq x z px (h z (Sg _ hz'))).mp e]
    exact hz'
   ·intro hx
    exact ⟨x,(h2 x).mpr hx,(p.eq x x px px).mpr rfl⟩
  unfold dd
  by_cases c:(dd xs).any (bx x)=true
  ·rw [if_pos c]
   refine ⟨h1,λy=>?_⟩
   rw [h2 y,SD]
   exact ⟨.inr,λz=>z.elim (λe=>e▸eqv.mp c) id⟩
  ·rw [if_neg c]
   refine ⟨Ud.mpr ⟨λz=>c (eqv.mpr ((h2 x).mp z)),h1⟩,λy=>?_⟩
   rw [SD,SD,h2 y]
theorem uL (p:gD P):∀{A B:List D},(∀x∈A,P x)->A.Pairwise (λa b=>fG a b=true)->B.Pairwise (λa b=>fG a b=true)->(∀y,y∈A↔y∈B)->A=B
 | [],[],_,_,_,_=>rfl
 | [],b::B,_,_,_,h=>by cases (h b).mpr Si
 | a::A,[],_,_,_,h=>by cases (h a).mp Si
 | a::A,b::B,hp,hA,hB,h=>by
  obtain ⟨a1,a2⟩:=VM.mp hA
  obtain ⟨b1,b2⟩:=VM.mp hB
  have pa:=hp a Si
  have pb:=hp b ((h b).mpr Si)
  have no:∀z,P z->fG z z=true->False:=λz pz q=>by
   have:=p.asy z z pz pz q
   rw [q] at this;cases this
  have e:a=b:=by
   rcases SD.mp ((h a).mp Si) with e | e
   ·exact e
   ·rcases SD.mp ((h b).mpr Si) with f | f
    ·exact f.symm
    ·exact (no a pa (p.tra _ _ _ pa pb pa (a1 b f) (b1 a e))).elim
  subst e
  have:A=B:=by
   refine uL p (λx hx=>hp x (Sg _ hx)) a2 b2 λy=>⟨λhy=>?_,λhy=>?_⟩
   ·rcases SD.mp ((h y).mp (Sg _ hy)) with e | e
    ·subst e;exact (no y pa (a1 y hy)).elim
    ·exact e
   ·rcases SD.mp ((h y).mpr (Sg _ hy)) with e | e
    ·subst e;exact (no y pa (b1 y hy)).elim
    ·exact e
  rw [this]
theorem rB (p:gD P){ds:List D}(h:∀x∈ds,P x) (nd:ds.Nodup):(cY ds).Pairwise λa b=>fG a b=true:=by
 have up:=Ip p ds h
 have pm:=gE ds
 have nd':(cY ds).Nodup:=pm.nodup_iff.mpr nd
 have both:=acN up nd'
 refine (VR.mp both).imp ?_
 rintro a b ⟨ha,hb,h1,h2⟩
 cases q:fG a b with
 | true=>rfl
 | false=>exact absurd (p.tri a b (h a (pm.mem_iff.mp ha)) (h b (pm.mem_iff.mp hb)) q h1) h2
theorem Ar (p:gD P){ds ks:List D}(h:∀x∈ds,P x) (nd:ks.Nodup) (hm:∀d,d∈ks↔d∈ds):cY ks=dW ds:=by
 obtain ⟨h1,h2⟩:=yb p ds h
 have hk:∀x∈ks,P x:=λx hx=>h x ((hm x).mp hx)
 have hd:∀x∈dd ds,P x:=λx hx=>h x ((h2 x).mp hx)
 exact uL p (λx hx=>hk x ((gE ks).mem_iff.mp hx)) (rB p hk nd) (rB p hd h1) λy=>by
  rw [(gE ks).mem_iff,hm y]
  show _↔y∈cY (dd ds)
  rw [(gE (dd ds)).mem_iff,h2 y]
theorem pI (p:gD P){ds:List D}(h:∀x∈ds,P x):(dW ds).Pairwise (λa b=>fG a b=true)/\∀d,d∈dW ds↔d∈ds:=by
 obtain ⟨h1,h2⟩:=yb p ds h
 exact ⟨rB p (λx hx=>h x ((h2 x).mp hx)) h1,λd=>by show d∈cY (dd ds)↔_;rw [(gE (dd ds)).mem_iff,h2 d]⟩
end
theorem fW.reps {K:R_}{J:Hp}{es:List (Int×Sa)}{ks:List D}(h:fW K J es ks):∃vs,aK K J ks vs/\Vals vs (es.map (·.2)):=by
 induction h with
 | nil=>exact ⟨_,.nil,.nil⟩
 | cons _ hk _ ih=>
  obtain ⟨vs,h1,h2⟩:=ih
  obtain ⟨_,_,_,v,r,rv⟩:=hk
  exact ⟨v::vs,.cons r h1,.cons rv h2⟩
section
variable {X:Cx}
theorem CH (hu:X.A.units + 64 < Us) (hc:X.calm=true):cP X (.builtin "sorted") (λxs H Q=>∃p ds J0,xs=[.ref p]/\H p=some (pG X J0 p ds)/\aW J0 H/\rZ ds=true/\∀l vs',H l=none->aK X.K J0 (dW ds) vs'->Q (.ref l) (upd H l (.lst vs'))):=by
 intro R0 s σ H xs us Q I r h
 obtain ⟨p,ds,J0,rfl,hp,sm,oks,q⟩:=h
 obtain ⟨u,rfl,rx⟩:=vals1 r
 cases rx
 obtain ⟨k,f,o⟩:=zM oks
 have hh:X.A.handled=none:=I.ok.hd hc
 have N:HF X.K J0 s:=HF.of (c:=⟨X.K,H,H,λ_=>True⟩) I sm
 obtain ⟨⟨ks,es,ep,t,S,hm⟩,_⟩:=(show dw X.prog X.w H s.heap p (pG X J0 p ds) from I.hok p _ hp)
 obtain ⟨ks',pm,en'⟩:=S.en.perm (nC X.w p ep es).symm
 have nd':ks'.Nodup:=pm.nodup_iff.mp S.nd
 have hm':∀d,d∈ks'↔d∈ds:=λd=>by rw [<-pm.mem_iff,hm d]
 obtain ⟨vs,rs,rv⟩:=en'.reps
 have hv:jE X.w p ep es=(gw X.w p ep es).toList.map (·.2):=rfl
 rw [<-hv] at rv
 generalize hits:jE X.w p ep es=R1 at rv
 have l1:vs.length=R1.length:=rv.length
 have l2:ks'.length=vs.length:=rs.length
 have len:ks'.length<=ds.length:=SX nd' λd hd=>(hm' d).mp hd
 have l64:=o.ln
 have les:es.size=ks'.length:=by rw [<-Ss,S.en.length,pm.length_eq]
 have out:=Ar (g7 f) (λx hx=>(o.al x hx).2) nd' hm'
 refine mV I (λE C h=>rO hh S.wk (by omega) λh1 tk k1 le=>hits▸h h1 tk k1 (WR le)) rv l2 (by omega) (D8 (N.keep λ_ _ e=>e) rs rv (k:=k) (λd hd=>⟨(o.al d ((hm' d).mp hd)).1,S5 (sH o.dp d ((hm' d).mp hd)) (by decide)⟩) (sC λd hd=>(o.al d ((hm' d).mp hd)).1) (λx hx y hy=>(g7 f).lt _ _ (o.al _ ((hm' x).mp hx)).2 (o.al _ ((hm' y).mp hy)).2) hu) λl vs' hl rr=>q l vs' hl (out▸rr _ rs)
end
end DL
namespace DL
open PySem PySem.Spec PyProof.Rows L2 ST
end DL
namespace DL
open PySem PySem.Spec PyProof.Rows L2 DX
end DL
namespace DL
open PySem PySem.Spec PyProof.Rows L2 ST PySem.SetTable
section
variable {t:TN}{es:Array (Int×Sa)}{L:List (Nat×Int×Sa)}
theorem uw (T:Tab t es L) (h:Int) (n0:Nat) (hf:pos t.mask h n0∉L.map (·.1)) (hb:∀m,m < n0->pos t.mask h m∈L.map (·.1)):
  ∀(d n F:Nat),n0 - n=d->n<=n0->d < F->probe.go t (λ_=>h + 1) h F (st t.mask h n)=some (.empty (pos t.mask h n0) none)
 | d,n,0,_,_,h=>absurd h (TL _)
 | d,n,F + 1,hd,hn,hF=>by
  by_cases c:n=n0
  ·subst c
   unfold probe.go
   rw [uG T.dm (by rw [T.pl];exact hf)]
   show some (Met.empty _ (st t.mask h n).dummy)=_
   rw [pJ]
  ·obtain ⟨e,he,ej⟩:=Sf.mp (hb n (by omega))
   obtain ⟨i,hi,rfl⟩:=T8.mp he
   have hs:t.slot (pos t.mask h n)=.live i:=qI T.sop (by rw [(T.at_ (Sn hi)).1,ej])
   have eg:probe.go t (λ_=>h + 1) h (F + 1) (st t.mask h n)=probe.go t (λ_=>h + 1) h F (st t.mask h (n + 1)):=by
    rw [probe.go,hs]
    show (if (h + 1 == h)=true then _ else _)=_
    rw [if_neg (by rw [beq_iff_eq];omega)]
    rfl
   rw [eg]
   exact uw T h n0 hf hb (n0 - (n + 1)) (n + 1) F rfl (by omega) (by omega)
theorem EC (T:Tab t es L) (h:Int) (n0:Nat) (hf:pos t.mask h n0∉L.map (·.1)) (hb:∀m,m < n0->pos t.mask h m∈L.map (·.1)) (hn0:n0<=10 * (t.mask + 12)):t.freeSlot h=some (pos t.mask h n0,false):=by
 have e:t.probe (λ_=>h + 1) h (t.probeStart h)=some (.empty (pos t.mask h n0) none):=uw T h n0 hf hb n0 0 (10 * turns t.mask) rfl (SQ _) (by unfold turns;omega)
 unfold SetTable.freeSlot
 rw [e]
 rfl
theorem Ko (T:Tab t es L) (h:Int) (x:Sa) (n0:Nat) (hf:pos t.mask h n0∉L.map (·.1)) (hb:∀m,m < n0->pos t.mask h m∈L.map (·.1)) (hn0:n0<=10 * (t.mask + 12)) (hl:L.length + 1<=t.mask):
  layNew t es h x=(insertAt es (t.put (pos t.mask h n0)).2 (h,x),(t.put (pos t.mask h n0)).1,false,false):=by
 obtain ⟨L',T',_⟩:=T.put h x n0 hf hb (zP _ _ _) hl
 have fit:=dI T'
 unfold layNew
 rw [EC T h n0 hf hb hn0]
 dsimp only
 unfold SetTable.orStandIn
 rw [fit]
 rfl
theorem G9 {mask finger moves:Nat}{led plain:Bool}{t':TN}{R8:Array Nat}(hm:mC mask) (hl:es.size<=mask) (e:laid mask finger moves led plain (es.map (·.1))=some (t',R8)):R8.toList.Perm (Se es.size):=by
 obtain ⟨owner,G,e0,O⟩:=EX hm (es.map (·.1)) (by simpa using hl)
 have hlen:G.length=es.size:=by rw [O.ln];simp
 (let live:=(Se (mask + 1)).filterMap λj=>(owner.getD j none).map (j,·))
 have lv:∀p,p∈live↔p.1∈G/\p.2=G.idxOf p.1:=λp=>by
  show p∈(Se (mask + 1)).filterMap _↔_
  rw [Wn]
  constructor
  ·rintro ⟨j,hj,q⟩
   have hj':j<=mask:=by have:=Sj.mp hj;omega
   rw [O.at_ j hj'] at q
   by_cases c:j∈G
   ·rw [if_pos c] at q
    have q:(j,G.idxOf j)=p:=by simpa using q
    subst q
    exact ⟨c,rfl⟩
   ·rw [if_neg c] at q;exact absurd q (by simp)
  ·rintro ⟨h1,h2⟩
   refine ⟨p.1,Sj.mpr (by have:=O.bd _ h1;omega),?_⟩
   rw [O.at_ _ (O.bd _ h1),if_pos h1]
   show some (p.1,G.idxOf p.1)=some p
   rw [<-h2]
 have so1:live.Pairwise λa b=>a.1 < b.1:=by
  show ((Se (mask + 1)).filterMap _).Pairwise _
  rw [Yl]
  refine T9.imp ?_
  intro a b hab x hx y hy
  cases q1:owner.getD a none with
  | none=>rw [q1] at hx;exact absurd hx (by simp)
  | some k1=>cases q2:owner.getD b none with
   | none=>rw [q2] at hy;exact absurd hy (by simp)
   | some k2=>
    rw [q1] at hx;rw [q2] at hy
    have hx:(a,k1)=x:=by simpa using hx
    have hy:(b,k2)=y:=by simpa using hy
    subst hx;subst hy;exact hab
 have ord:(live.map (·.2)).Perm (Se es.size):=by
  rw [V1 _ Ur]
  ·intro k
   rw [Sf,Sj]
   constructor
   ·rintro ⟨p,hp,rfl⟩
    obtain ⟨h1,h2⟩:=(lv p).mp hp
    rw [h2,<-hlen]
    exact TM h1
   ·intro hk
    rw [<-hlen] at hk
    exact ⟨(G[k],k),(lv _).mpr ⟨Tt _,(O.nd.idxOf_getElem k hk).symm⟩,rfl⟩
  ·show (live.map (·.2)).Pairwise _
   rw [S0]
   refine (VR.mp so1).imp ?_
   rintro a b ⟨ha,hb,hab⟩ z
   obtain ⟨a1,a2⟩:=(lv a).mp ha
   obtain ⟨b1,b2⟩:=(lv b).mp hb
   rw [a2,b2] at z
   have ga:=VN (TM a1)
   have gb:=VN (TM b1)
   have:a.1=b.1:=by
    rw [<-ga,<-gb]
    congr 1
   omega
 unfold laid at e
 rw [e0] at e
 have e1:(live.map (·.2)).toArray=R8:=by
  have:=TF e
  exact congrArg W7 this
 rw [<-e1]
 exact ord
theorem FN {w:Nat}(hm:mC (sizeAbove w - 1)) (hl:es.size<=sizeAbove w - 1):∃t' es' L',relayAll t es w=(es',t',false)/\t'.mask=sizeAbove w - 1/\t'.led=t.led/\t'.plain=t.plain/\Tab t' es' L'/\es'.toList.Perm es.toList:=by
 obtain ⟨t',R8,L',e1,e2,e3,e4,e5,e6⟩:=wU (t:=t) (es:=es) hm hl
 have od:R8.toList.Perm (Se es.size):=G9 hm hl e1
 refine ⟨t',R8.filterMap (es[·]?),L',?_,e2,e3,e4,e5,e6⟩
 unfold relayAll
 rw [e1]
 dsimp only
 have c1:coversAll R8 es.size=true:=by unfold coversAll;exact List.isPerm_iff.mpr od
 rw [c1,dI e5]
 rfl
end
end DL
namespace DL
open PySem PySem.Spec PyProof.Rows L2 ST
inductive fO:List (Int×Sa)->List Int->Prop
 | nil:fO [] []
 | cons {i:Int}{k:Tok}{es:List (Int×Sa)}{ns:List Int}:fO es ns->fO ((V2 i,.int i k)::es) (i::ns)
theorem fO.perm {es es':List (Int×Sa)}(p:es.Perm es'):∀{ns:List Int},fO es ns->∃ns',ns.Perm ns'/\fO es' ns':=by
 induction p with
 | nil=>intro ns h;exact ⟨ns,.refl _,h⟩
 | cons x _ ih=>
  intro ns h
  cases h with
  | cons h3=>obtain ⟨ns',a,b⟩:=ih h3;exact ⟨_,a.cons _,.cons b⟩
 | swap x y l=>
  intro ns h
  cases h with
  | cons h3=>cases h3 with
   | cons h6=>exact ⟨_,.swap _ _ _,.cons (.cons h6)⟩
 | trans _ _ ih1 ih2=>
  intro ns h
  obtain ⟨k1,a,b⟩:=ih1 h
  obtain ⟨k2,c,d⟩:=ih2 b
  exact ⟨k2,a.trans c,d⟩
theorem fO.length {es:List (Int×Sa)}{ns:List Int}(h:fO es ns):es.length=ns.length:=by
 induction h with
 | nil=>rfl
 | cons _ ih=>simp [ih]
structure jn (h:Ui) (a:Sq) (led:Bool) (ns:List Int) (es:Array (Int×Sa)) (ep:Nat) (t:TN):Prop where
 at_:h.get? a=some {cls:=.type "set",dict:=none,data:=.set es ep t}
 tab:∃L,Tab t es L
 pl:t.plain=true
 ld:t.led=led
 rm:ns.length * 5 < t.mask * 3
 en:fO es.toList ns
 nd:ns.Nodup
section
variable {w:S9}{prog:Sy}{E:Sa->Sd->Prop}{A:Td}{s:Sd}
theorem fO.elems {es:List (Int×Sa)}{ns:List Int}(h:fO es ns):ElemsOf (ZT prog w) es:=by
 induction h with
 | nil=>exact λe he=>nomatch he
 | @cons i k es ns _ ih=>
  intro e he
  (rcases SD.mp he with rfl | he)
  ·exact ⟨⟨i,abx _ _ _ _,rfl⟩,rfl⟩
  ·exact ih e he
theorem fO.find {es:List (Int×Sa)}{ns:List Int}(h:fO es ns) (i:Int):(es.findIdx? λe=>(ZT prog w).is i e.2)=none↔i∉ns:=by
 rw [List.findIdx?_eq_none_iff]
 induction h with
 | nil=>simp
 | @cons j k es ns _ ih=>
  rw [SD,not_or,<-ih]
  have e:(ZT prog w).is i (.int j k)=decide (i=j):=KeyKind.is_eq_decide (abx prog w j k) i
  constructor
  ·intro h
   refine ⟨λz=>?_,λx hx=>h x (Sg _ hx)⟩
   have:=h _ Si
   rw [e,z] at this
   simp at this
  ·rintro ⟨h1,h2⟩ x hx
   (rcases SD.mp hx with rfl | hx)
   ·rw [e];simpa using h1
   ·exact h2 x hx
theorem add_int {a:Sq}{es:Array (Int×Sa)}{ep:Nat}{t:TN}{led:Bool}{ns:List Int}{i:Int}{k:Tok}{Q:Bool->Sd->Prop}(S:jn s.heap a led ns es ep t) (hl:ns.length < 76)
  (q1:i∈ns->Q false s) (q2:i∉ns->∀(h':Ui) ns' es' ep' t',T5 a s.heap h'->(i::ns).Perm ns'->jn h' a led ns' es' ep' t'->Q true {s with heap:=h'}):
  SH (SM prog w) A (YR a (.int i k) (V2 i)) Q E s:=by
 obtain ⟨L,T⟩:=S.tab
 have lenL:L.length=ns.length:=by rw [n_ T,<-Ss,S.en.length]
 have hes:es.size=ns.length:=by rw [<-Ss,S.en.length]
 obtain ⟨n0,b1,b2,b3⟩:=t8 T.mo (V2 i) (L.map (·.1)) (by rw [Sh];exact T.fl)
 (unfold YR abb)
 refine Te (R9 (Uz S.at_ rfl (dI T) ?_))
 dsimp only
 have sc:byScan (.int i k) es=true:=byScan_of (prog:=prog) (w:=w) (knd:=ZT prog w) rfl (by unfold scanBound;omega) S.en.elems
 rw [sc]
 simp only [if_true]
 unfold setAddByScan
 refine R9 ?_
 (refine R9 (XQ ?_))
 refine R9 (wpAny_setScan_of (knd:=ZT prog w) (k:=i) (abx _ _ _ _) S.at_ rfl (dI T) S.en.elems ?_)
 cases hr:List.findIdx? (λe=>(ZT prog w).is i e.2) es.toList with
 | some j=>
  dsimp only
  have hin:i∈ns:=T3 λz=>by
   have:=(S.en.find (prog:=prog) (w:=w) i).mpr z
   rw [hr] at this;cases this
  exact Sb (Sb (q1 hin))
 | none=>
  dsimp only
  have hm:i∉ns:=(S.en.find i).mp hr
  have rm:=S.rm
  have ln:=Ko T (V2 i) (.int i k) n0 b2 b3 b1 (by rcases T.mo with h | h | h <;> rw [h] at rm ⊢ <;> omega)
  rw [ln]
  dsimp only
  (refine R9 (Wf (a:=()) rfl ?_))
  obtain ⟨L',T',pm⟩:=T.put (V2 i) (.int i k) n0 b2 b3 (zP _ _ _) (by rcases T.mo with h | h | h <;> rw [h] at rm ⊢ <;> omega)
  have fl:(t.put (pos t.mask (V2 i) n0)).1.mask=t.mask/\(t.put (pos t.mask (V2 i) n0)).1.plain=t.plain/\(t.put (pos t.mask (V2 i) n0)).1.led=t.led:=⟨rfl,rfl,rfl⟩
  generalize t.put (pos t.mask (V2 i) n0)=tp at T' fl ⊢
  obtain ⟨t',p⟩:=tp
  dsimp only at T' fl ⊢
  obtain ⟨f1,f2,f3⟩:=fl
  obtain ⟨ns',p1,p2⟩:∃ns',(i::ns).Perm ns'/\fO (UA es p (V2 i,.int i k)).toList ns':=by
   refine fO.perm (es:=(V2 i,.int i k)::es.toList) ?_ (.cons S.en)
   rw [T'.en,T.en]
   exact (pm.map (·.2)).symm
  have nd':ns'.Nodup:=p1.nodup_iff.mp (Ud.mpr ⟨hm,S.nd⟩)
  have lk:ns'.length=ns.length + 1:=by rw [<-p1.length_eq];rfl
  rw [f2,S.pl]
  simp only [if_true]
  (refine R9 (Wf (a:=true) rfl ?_))
  simp only [if_true]
  have esz:(UA es p (V2 i,aav i k)).size=ns'.length:=by rw [<-Ss,p2.length]
  refine R9 (WL S.at_ rfl ?_ (by rw [esz,Uc];omega))
  have hg:=Ue (XX (UA es p (V2 i,.int i k)) t') S.at_ rfl
  have hfill:t'.fill=ns'.length:=by
   unfold ZN
   rw [T'.dm,<-Ss,T'.pl,Sh,n_ T',esz]
   rfl
  split
  ·rename_i c
   simp only [WN,Vi] at c
   unfold W3 at c
   rw [hfill,f1,decide_eq_true_eq] at c
   have hW:(UG (WO ns'.length)=32/\ns'.length=5)\/(UG (WO ns'.length)=128/\ns'.length=19):=by
    unfold WO
    rw [if_neg (by omega)]
    rcases T.mo with h | h | h
    ·rw [h] at c rm
     have:ns'.length=5:=by omega
     rw [this]
     exact .inl ⟨Bg,rfl⟩
    ·rw [h] at c rm
     have:ns'.length=19:=by omega
     rw [this]
     exact .inr ⟨Bh,rfl⟩
    ·rw [h] at c;omega
   have hmo:mC (UG (WO ns'.length) - 1):=by rcases hW with ⟨h,_⟩ | ⟨h,_⟩ <;> rw [h];exact .inr (.inl rfl);exact .inr (.inr rfl)
   rw [esz]
   obtain ⟨t2,es2,L2,g1,g2',g3,g4,g5,g6⟩:=FN (t:=t') (es:=UA es p (V2 i,.int i k)) hmo (by rw [esz];rcases hW with ⟨h,h'⟩ | ⟨h,h'⟩ <;> rw [h] <;> omega)
   rw [g1]
   dsimp only
   (refine R9 (Wf (a:=()) rfl ?_))
   obtain ⟨ns2,r1,r2⟩:=p2.perm g6.symm
   have es2z:es2.size=ns'.length:=by rw [<-Ss,r2.length,r1.length_eq]
   refine R9 (WL (s:={s with heap:=s.heap.update a (XX (UA es p (V2 i,.int i k)) t')}) hg rfl ?_ (by rw [es2z,Uc];omega))
   have Q_:=Ue (XX es2 t2) hg rfl
   refine Sb (Sb (q2 hm _ ns2 _ _ _ ((Uv _ _ _).trans (Uv _ _ _)) (p1.trans r1) ⟨Q_,⟨L2,g5⟩,g4.trans (f2.trans S.pl),g3.trans (f3.trans S.ld),?_,r2,r1.nodup_iff.mp nd'⟩))
   rw [<-r1.length_eq,g2']
   rcases hW with ⟨h,h'⟩ | ⟨h,h'⟩ <;> rw [h,h'] <;> omega
  ·rename_i c
   simp only [WN,Vi] at c
   unfold W3 at c
   rw [hfill,f1,decide_eq_true_eq] at c
   exact Sb (Sb (q2 hm _ ns' _ _ _ (Uv _ _ _) p1 ⟨hg,⟨L',T'⟩,f2.trans S.pl,f3.trans S.ld,by rw [f1];omega,p2,nd'⟩))
end
theorem jn.keep {h h':Ui}{a:Sq}{led:Bool}{ns:List Int}{es:Array (Int×Sa)}{ep:Nat}{t:TN}(S:jn h a led ns es ep t) (e:∀o,h.get? a=some o->h'.get? a=some o):jn h' a led ns es ep t:=
 ⟨e _ S.at_,S.tab,S.pl,S.ld,S.rm,S.en,S.nd⟩
section
variable {w:S9}{prog:Sy}{R:aax->Sd->Prop}{A:Td}{I:Sq}{fp wr:List Sq}{G:Array Zs->Array Zs->Prop}{n:Nat}{P:Nat->Sa->Prop}{St:Nat->Sd->Prop}
theorem Gj (W:ab2 prog w A.in1 I fp wr G n P St) (S:Sq) (hSf:S∉fp) (val:Nat->Int) (hval:∀i v,P i v->∃t,v=.int (val i) t) (hn:n<=76){led:Bool}:
  ∀(k i:Nat) (s:Sd) (ns:List Int) (es:Array (Int×Sa)) (ep:Nat) (t:TN),n - i=k->i<=n->St i s->jn s.heap S led ns es ep t->(∀d,d∈ns↔d∈(Se i).map val)->
   (∀s' ns' es' ep' t',Moved (S::wr) G s s'->jn s'.heap S led ns' es' ep' t'->(∀d,d∈ns'↔d∈(Se n).map val)->R (.ok (.ret .none)) s')->
   (UX (SM prog w) A (.builtin "set.update.loop" ⟨[.ref S,.ref I],[]⟩) R s):=by
 (have Q8:S∉wr:=λh=>hSf (W.sub _ h))
 (have hsub:∀b∈wr,b∈S::wr:=λb hb=>Sg _ hb)
 intro k
 induction k with
 | zero=>
  intro i s ns es ep t hk hi hst hS hm hR
  have hin:i=n:=by omega
  subst hin
  refine UE Uo ?_
  rw [T7 S8 _]
  (show SH _ A.in1 (WA (.ref I) >>= _) _ _ s)
  refine R9 (W.done s _ _ hst λs' QH=>?_)
  (show SH _ A.in1 (ret TU) _ _ s')
  exact Sb (hR s' ns es ep t (QH.mono hsub) (hS.keep λo e=>QH.heap S o Q8 e) hm)
 | succ k ih=>
  intro i s ns es ep t hk hi hst hS hm hR
  have hlt:i < n:=by omega
  have hlen:ns.length<=i:=by
   have:=SX hS.nd (λd hd=>(hm d).mp hd)
   simpa using this
  refine UE Uo ?_
  rw [T7 S8 _]
  (show SH _ A.in1 (WA (.ref I) >>= _) _ _ s)
  refine R9 (W.item i s _ _ hlt hst λv s' hP QN QH=>?_)
  obtain ⟨tk,rfl⟩:=hval i v hP
  have hS':=hS.keep (h':=s'.heap) λo e=>QH.heap S o Q8 e
  have mem':∀(ns':List Int),(∀d,d∈ns'↔d=val i\/d∈ns)->∀d,d∈ns'↔d∈(Se (i + 1)).map val:=λns' h d=>by
   rw [h d,hm d,U_,SV,SN]
   simp only [Sx,Xq,So]
   exact Or.comm
  show SH _ A.in1 (holding [.int (val i) tk] (setAdd S (.int (val i) tk)) >>= _) _ _ s'
  (refine R9 (Te ?_))
  unfold setAdd
  refine Te ?_
  (refine R9 (Yp ?_))
  refine add_int (s:={s' with toks:=s'.toks + 1}) hS' (by omega) (λhin=>?_) (λhin h' ns' es' ep' t' Q7 Rp Q5=>?_)
  ·refine Sb ⟨VG S8 _,ih (i + 1) _ ns es ep t (by omega) hlt (W.frame _ s' _ _ QN (VF _) λb hb o e=>e) hS' (mem' ns λd=>⟨.inr,λh=>h.elim (λh=>h▸hin) id⟩) λs'' ns'' es'' ep'' t'' hm'' hS'' Q4=>?_⟩
   exact hR s'' ns'' es'' ep'' t'' (Zo W.gtrans ((QH.mono hsub).then_heap (VF _) λb o hb e=>e) hm'') hS'' Q4
  ·refine Sb ⟨VG S8 _,ih (i + 1) _ ns' es' ep' t' (by omega) hlt (W.frame _ s' _ _ QN (VF _) λb hb o e=>?_) Q5 (mem' ns' λd=>?_) λs'' ns'' es'' ep'' t'' hm'' hS'' Q4=>?_⟩
   ·(rw [Q7.2 b (λh:b=S=>hSf (by rw [<-h];exact hb))];exact e)
   ·rw [<-Rp.mem_iff,SD]
   ·refine hR s'' ns'' es'' ep'' t'' (Zo W.gtrans ((QH.mono hsub).then_heap (VF _) λb o hb e=>?_) hm'') hS'' Q4
    (rw [Q7.2 b (λh:b=S=>hb (by rw [h];exact Si))];exact e)
end
theorem DF {h:Ui}{a:Sq}{led:Bool}(e:h.get? a=some {cls:=.type "set",dict:=none,data:=.set #[] 0 (.fresh 0 0 led)}):jn h a led [] #[] 0 (.fresh 0 0 led):=
 ⟨e,⟨[],⟨rfl,rfl,rfl,VU,(λ_ h=>nomatch h),.inl rfl,SQ _,(λ_ h=>nomatch h)⟩⟩,rfl,rfl,(show 0 * 5 < 7 * 3 by decide),.nil,U4⟩
section
variable {w:S9}{prog:Sy}{A:Td}{s:Sd}{E:Sa->Sd->Prop}{l:Sq}{items:Array Sa}{ds:List Int}
theorem MG (hz:items.size=ds.length) (hi:∀(i:Nat) (v:Sa),items[i]?=some v->∃t,v=.int (ds.getD i 0) t) (hn:ds.length<=76){I:Sq}{fp:List Sq}{St:Nat->Sd->Prop}{h2:Ui}{R:_->Sd->Prop}(W:ab2 prog w A.in1.in1.in1 I fp [I] (λa b=>b=a) items.size (λi v=>items[i]?=some v) St) (hSf:s.heap.objs.size∉fp) (st:St 0 {s with heap:=h2})
  (hk:∀b o,(s.heap.push (iJ (eG w))).get? b=some o->h2.get? b=some o) (hR:∀s',Moved [s.heap.objs.size,I] (λa b=>b=a) {s with heap:=h2} s'->(∃ks es ep t,jn s'.heap s.heap.objs.size (eG w) ks es ep t/\∀d,d∈ks↔d∈ds)->R (.ok (.ret .none)) s'):UX (SM prog w) A.in1.in1 (.builtin "set.update.loop" ⟨[.ref s.heap.objs.size,.ref I],[]⟩) R {s with heap:=h2}:=by
 have all:(Se items.size).map (λi=>ds.getD i 0)=ds:=by
  refine Vg (by simp [hz]) λi a b=>?_
  simp [b]
 exact Gj (A:=A.in1.in1) (led:=eG w) W s.heap.objs.size hSf (λi=>ds.getD i 0) hi (by omega) items.size 0 _ [] #[] 0 (.fresh 0 0 (eG w)) (by omega) (SQ _) st (DF (hk _ _ (Sw _ rfl))) (λd=>by simp) λs' ks es ep t hm hS' hmem=>hR s' hm ⟨ks,es,ep,t,hS',by rw [all] at hmem;exact hmem⟩
abbrev P7 (Q:Sa->Sd->Prop) (w:S9) (s:Sd) (ds:List Int):Prop:=∀(h':Ui) (tk:Nat) ks es ep t,jn h' s.heap.objs.size (eG w) ks es ep t->(∀d,d∈ks↔d∈ds)->(∀b o,b < s.heap.objs.size->s.heap.get? b=some o->h'.get? b=some o)->Q (.ref s.heap.objs.size) {s with heap:=h',toks:=tk}
theorem xT {Q:Sa->Sd->Prop}(hh:A.handled=none) (hl:s.heap.IsTuple l items) (hz:items.size=ds.length) (hi:∀(i:Nat) (v:Sa),items[i]?=some v->∃t,v=.int (ds.getD i 0) t) (hn:ds.length<=76) (h:P7 Q w s ds):(SH (SM prog w) A (call (.type "set") [.ref l]) Q E s):=by
 obtain ⟨ol,QY,hcl,_⟩:=id hl
 exact Ak (λh'=>∃ks es ep t,jn h' s.heap.objs.size (eG w) ks es ep t/\∀d,d∈ks↔d∈ds) QY hcl xj xh (by decide) (zq hh hl) (λW a _ c d e=>MG hz hi hn W a c d e) λh' tk ⟨ks,es,ep,t,a,b⟩=>h h' tk ks es ep t a b
end
end DL
namespace DL
open PySem PySem.Spec PyProof.Rows L2 ST DX
open PySem.W (KasT kas_sort kas_ask)
theorem jn.wk {h:Ui}{a:Sq}{led:Bool}{ns:List Int}{es:Array (Int×Sa)}{ep:Nat}{t:TN}(S:jn h a led ns es ep t):jK h a led es ep t:=⟨S.at_,S.tab,S.pl,S.ld⟩
noncomputable def B7:D->Int
 | .int i=>i
 | _=>0
theorem NS {ds:List D}(h:ds.all isInt=true):ds=(ds.map B7).map .int:=by
 induction ds with
 | nil=>rfl
 | cons d r ih=>
  rw [VE,Sk] at h
  cases d with
  | int i=>rw [Sx,Sx,<-ih h.2];rfl
  | _=>cases h.1
abbrev pD (X:Cx) (a:Sq) (ms:List Int):HO:=.ext λh=>∃ns es ep t,jn h a (eG X.w) ns es ep t/\∀d,d∈ns↔d∈ms
theorem int_at {K:R_}{J:Hp}{ms:List Int}{vs:List V}{us:List Sa}(rs:aK K J (ms.map .int) vs) (rv:Vals vs us):∀(i:Nat) (v:Sa),us.toArray[i]?=some v->∃t,v=.int (ms.getD i 0) t:=λi v q=>by
 have l1:vs.length=us.length:=rv.length
 have l2:(ms.map D.int).length=vs.length:=rs.length
 have hi:i < us.length:=by
  have:=(TV.mp q).1
  simpa using this
 have e:us.getD i TU=v:=by
  simp at q
  simp [aaS,q]
 have r1:=iX rs (i:=i) (by omega)
 have r2:=i7 rv (i:=i) (by omega)
 rw [e] at r2
 have lm:i < ms.length:=by rw [Sh] at l2;omega
 have e2:dZ (ms.map D.int) i=.int (ms.getD i 0):=by
  unfold dZ
  simp [aaS,lm]
 rw [e2] at r1
 generalize vs.getD i V.non=vv at r1 r2
 cases r1
 exact r2
section
variable {X:Cx}
theorem Ei (hc:X.calm=true):cP X (.type "set") (λxs H Q=>∃p vs ms J0,xs=[.ref p]/\dQ X.K H p vs/\aK X.K J0 (ms.map .int) vs/\ms.length < 64/\∀l,H l=none->Q (.ref l) (upd H l (pD X l ms))):=by
 intro R0 s σ H xs us Q I r h
 obtain ⟨p,vs,ms,J0,rfl,hq,rs,l64,q⟩:=h
 obtain ⟨u,rfl,rx⟩:=vals1 r
 cases rx
 have hh:X.A.handled=none:=I.ok.hd hc
 have fr:H s.heap.objs.size=none:=I.hok.fresh (Sl _)
 obtain ⟨R1,r',pt,hz⟩:=I.tuple hq
 have lm:(ms.map D.int).length=vs.length:=rs.length
 rw [Sh] at lm
 refine xT hh pt (by simp [<-r'.length,lm]) (int_at rs r') (by omega) λh' tk ks es ep t S hm kp=>?_
 exact ⟨.ref s.heap.objs.size,_,I.laid (t':=tk) (λb o e=>kp b o (SA e) e) (Sl _) (show dw X.prog X.w _ _ _ (pD X s.heap.objs.size ms) from ⟨⟨ks,es,ep,t,S,hm⟩,⟨_,S.at_⟩,λh1 h2 ⟨ks,es,ep,t,S,hm⟩ e=>⟨ks,es,ep,t,S.keep e,hm⟩⟩),rfl,q _ fr⟩
theorem fO.reps {es:List (Int×Sa)}{ns:List Int}(h:fO es ns):∃vs,(∀(K:R_) (J:Hp),aK K J (ns.map .int) vs)/\Vals vs (es.map (·.2))/\Wc (es.map (·.2)) ns:=by
 induction h with
 | nil=>exact ⟨[],λK J=>.nil,.nil,.nil⟩
 | @cons i k es ns _ ih=>
  obtain ⟨vs,h1,h2,h3⟩:=ih
  exact ⟨.int i::vs,λK J=>.cons (.int _) (h1 K J),.cons ⟨k,rfl⟩ h2,.cons i k h3⟩
theorem AX (hc:X.calm=true):cP X (.builtin "sorted") (λxs H Q=>∃p ms,xs=[.ref p]/\H p=some (pD X p ms)/\ms.length < 64/\∀l vs',H l=none->(∀J0,aK X.K J0 (dW (ms.map .int)) vs')->Q (.ref l) (upd H l (.lst vs'))):=by
 intro R0 s σ H xs us Q I r h
 obtain ⟨p,ms,rfl,hp,l64,q⟩:=h
 obtain ⟨u,rfl,rx⟩:=vals1 r
 cases rx
 have hh:X.A.handled=none:=I.ok.hd hc
 obtain ⟨⟨ns,es,ep,t,S,hm⟩,_⟩:=(show dw X.prog X.w H s.heap p (pD X p ms) from I.hok p _ hp)
 obtain ⟨ns',pm,en'⟩:=S.en.perm (nC X.w p ep es).symm
 have nd':ns'.Nodup:=pm.nodup_iff.mp S.nd
 have hm':∀d,d∈ns'↔d∈ms:=λd=>by rw [<-pm.mem_iff,hm d]
 obtain ⟨vs,rs,rv,hI⟩:=en'.reps
 have hv:jE X.w p ep es=(gw X.w p ep es).toList.map (·.2):=rfl
 rw [<-hv] at rv hI
 generalize hits:jE X.w p ep es=R1 at rv hI
 have l1:vs.length=R1.length:=rv.length
 have l2:(ns'.map D.int).length=vs.length:=(rs X.K H).length
 have len:ns'.length<=ms.length:=SX nd' λd hd=>(hm' d).mp hd
 have les:es.size=ns'.length:=by rw [<-Ss,S.en.length,pm.length_eq]
 have ndD:(ns'.map D.int).Nodup:=S0.mpr (X3 (λh e=>h (by cases e;rfl)) nd')
 have RA:∀d,d∈ns'.map D.int↔d∈ms.map D.int:=λd=>by simp only [Sf,hm']
 have allI:∀d∈ms.map D.int,jJ .i d:=λd hd=>by obtain ⟨i,_,rfl⟩:=Sf.mp hd;exact ⟨i,rfl⟩
 have out:=Ar (g7 .i) allI ndD RA
 have lm:(ns'.map D.int).length=ns'.length:=Sh _
 generalize hk:ns'.map D.int=ks' at *
 have ai:ks'.all isInt=true:=SK.mpr λd hd=>by
  obtain ⟨i,e⟩:=allI d ((RA d).mp hd)
  rw [e];rfl
 exact mV I (λE C h=>rO hh S.wk (by omega) λh1 tk k1 le=>hits▸h h1 tk k1 (WR le)) rv l2 (by omega) (D7 (rs X.K H) rv ai) λl vs' hl rr=>q l vs' hl λJ0=>out▸rr _ (rs _ J0)
end
end DL
namespace DL
open PySem PySem.Spec PyProof.Rows L2 ST DX
theorem Ef:Tv "set"=some (.type "set"):=by decide +kernel
section
variable {X:Cx}{c:C}{e:Tc}{pos pos2:Pos}
noncomputable def qe:List R->M R
 | [.d (.tup ys)]=>if rZ ys=true then .ok (.l .fresh (dW ys)) else if wL ys=true then .ok (.l .fresh (dW ys)) else .bad
 | _=>.bad
noncomputable def Np (X:Cx):List V->Hp->VK->Prop:=λxs H Q=>∃p vs ms J0,xs=[.ref p]/\dQ X.K H p vs/\aK X.K J0 (ms.map .int) vs/\ms.length < 64/\∀l,H l=none->Q (.ref l) (upd H l (pD X l ms))
noncomputable def Nq (X:Cx):List V->Hp->VK->Prop:=λxs H Q=>∃p vs ds J0,xs=[.ref p]/\dQ X.K H p vs/\aW J0 H/\aK X.K J0 ds vs/\rZ ds=true/\∀l,H l=none->Q (.ref l) (upd H l (pG X J0 l ds))
noncomputable def Ia (X:Cx):List V->Hp->VK->Prop:=λxs H Q=>∃p ms,xs=[.ref p]/\H p=some (pD X p ms)/\ms.length < 64/\∀l vs',H l=none->(∀J0,aK X.K J0 (dW (ms.map .int)) vs')->Q (.ref l) (upd H l (.lst vs'))
noncomputable def Ib (X:Cx):List V->Hp->VK->Prop:=λxs H Q=>∃p ds J0,xs=[.ref p]/\H p=some (pG X J0 p ds)/\aW J0 H/\rZ ds=true/\∀l vs',H l=none->aK X.K J0 (dW ds) vs'->Q (.ref l) (upd H l (.lst vs'))
theorem FI {p p2:Pos}{gs:G (List R)}(hu:X.A.units + 64 < Us) (ha:lE X c [e] gs) (hm:X.mg "sorted"=none) (hm2:X.mg "set"=none) (hK:X.K=c.K:=by rfl) (hc:X.calm=true:=by rfl) (hg:Gl X "sorted":=by rfl) (Q_:Gl X "set":=by rfl)
  (he:Sv [.Call (.Name "set" p2) [e] [] pos2] X.env=(false,eval (.Call (.Name "set" p2) [e] [] pos2) X.env)::Sv [] X.env:=by rfl) (hpl:(Vd pos (Sv [] X.env)).any (·.1)=false:=by rfl)
  (Q9:Sv [e] X.env=(false,eval e X.env)::Sv [] X.env:=by rfl) (Ro:(Vd pos2 (Sv [] X.env)).any (·.1)=false:=by rfl):
  QD X c (.Call (.Name "sorted" p) [.Call (.Name "set" p2) [e] [] pos2] [] pos) (gN qe gs):=by
 have ha:=ha.h
 refine ⟨?_⟩
 have h1:=mQ (p:=p2) (pos:=pos2) (cP.or (show cP X (.type "set") (Nq X) from Ej hu hc) (show cP X (.type "set") (Np X) from Ei hc)) Q_ hm2 Ef ha (by decide) (by decide) Q9 Ro
 have h2:=sS (p:=p) (pos:=pos) (cP.or (show cP X (.builtin "sorted") (Ib X) from CH hu hc) (show cP X (.builtin "sorted") (Ia X) from AX hc)) hg hm lH (gT h1 kq he) (by decide) (by decide) he hpl
 refine HG (ta:=DK) (f:=qe) (r:=λvs H1 Q=>(Nq X vs H1 λv H2=>Ib X [v] H2 Q\/Ia X [v] H2 Q)\/(Np X vs H1 λv H2=>Ib X [v] H2 Q\/Ia X [v] H2 Q)) h2 rfl ?_
 intro He J H xs vs Q hp rs w
 unfold qe at w
 split at w
 ·rename_i ys
  obtain ⟨v,rfl,r⟩:=rs.one
  cases r with
  | tup h hs=>
   have hT:∀{p:Sq}{us:List V},dQ c.K J p us->dQ X.K H p us:=λh=>by rw [hK];exact gj hp.sub h
   have fin:∀(o:Sq->HO) (w:∀w J' H',Ext J H J' H'->RR c H J' H' (.l .fresh (dW ys)) w->Q w H') (l l2:Sq) (vs':List V),H l=none->upd H l (o l) l2=none->aK X.K J (dW ys) vs'->Q (.ref l2) (upd (upd H l (o l)) l2 (.lst vs')):=λo w l l2 vs' hl h2 rr=>by
    rw [hK] at rr
    have e1:=Ext.new hp.sub hl (o l)
    have e2:=Ext.new e1.sub h2 (.lst vs')
    exact w _ _ _ (e1.trans e2) (RR.from e1.h (jA (hp.ext e1) h2 rr))
   split at w
   ·rename_i ok
    exact .inl ⟨_,_,ys,J,rfl,hT h,hp.sub,by rw [hK];exact hs,ok,λl hl=>.inl ⟨l,ys,J,rfl,cO,(Ext.new hp.sub hl _).sub,ok,λl2 vs' h2 rr=>fin (λl=>pG X J l ys) w l l2 vs' hl h2 rr⟩⟩
   ·split at w
    ·rename_i ok
     unfold wL at ok
     rw [Sk] at ok
     have o1:=of_decide_eq_true ok.1
     have ey:=NS ok.2
     refine .inr ⟨_,_,ys.map B7,J,rfl,hT h,by rw [hK,<-ey];exact hs,by rw [Sh];exact o1,λl hl=>.inr ⟨l,ys.map B7,rfl,cO,by rw [Sh];exact o1,λl2 vs' h2 rr=>?_⟩⟩
     rw [<-ey] at rr
     exact fin (λl=>pD X l (ys.map B7)) w l l2 vs' hl h2 (rr _)
    ·exact w.elim
 ·exact w.elim
end
end DL
namespace DL
open PySem PySem.Spec PyProof.Rows L2 DX
end DL
namespace K55
open PySem DL
def AL:List Str:=["told","least","most"]
noncomputable def rT:G O:=(aX (bV (bD (aV (gN (aF 1 K01.pU) (ao (af 0) ay)))) (bV (aV (g2 (cC λi j=>.bl (decide (i < j))) (af 0) (af 1))) (aV (g2 (cC λi j=>.bl (decide (j < i))) (af 0) (af 2))))) yc bF)
def fY (as:List S):M R:=fin (rT (aH AL as))
end K55
namespace K55
open PySem DL K01 WP K51 K52
theorem rQ (a b:Nat):bx (dN a) (dN b)=(a == b):=by
 show ((a:Int) == (b:Int))=_
 by_cases h:a=b
 ·subst h;simp
 ·rw [beq_eq_false_iff_ne.mpr h,beq_eq_false_iff_ne.mpr (by omega)]
theorem inN (l:Nat) (xs:List Nat):inD (dN l) (xs.map dN)=decide (l∈xs):=by
 unfold inD
 rw [Wj,Tp,UK,decide_eq_true_eq]
 constructor
 ·rintro ⟨x,hx,e⟩
  have e:bx (dN x) (dN l)=true:=e
  rw [rQ] at e
  rw [<-eq_of_beq e];exact hx
 ·intro h
  exact ⟨l,h,by show bx (dN l) (dN l)=true;rw [rQ];simp⟩
theorem we (a b:Nat×Nat):bx (dP a) (dP b)=decide (a=b):=by
 have:bx (dP a) (dP b)=(bx (dN a.1) (dN b.1) && (bx (dN a.2) (dN b.2) && true)):=by
  show bx (.tup [dN a.1,dN a.2]) (.tup [dN b.1,dN b.2])=_
  rw [kU,gS,gS,cQ]
 rw [this,rQ,rQ,Tp]
 obtain ⟨a1,a2⟩:=a
 obtain ⟨b1,b2⟩:=b
 simp
theorem wH (l:Nat×Nat) (xs:List (Nat×Nat)):inD (dP l) (xs.map dP)=decide (l∈xs):=by
 unfold inD
 rw [Wj,Tp,UK,decide_eq_true_eq]
 constructor
 ·rintro ⟨x,hx,e⟩
  have e:bx (dP x) (dP l)=true:=e
  rw [we,decide_eq_true_eq] at e
  rw [<-e];exact hx
 ·intro h
  exact ⟨l,h,by show bx (dP l) (dP l)=true;rw [we];simp⟩
noncomputable def NT:D->Nat
 | .int i=>i.toNat
 | _=>0
noncomputable def xm:D->Nat×Nat
 | .tup [x,y]=>(NT x,NT y)
 | _=>(0,0)
theorem uK (n:Nat×Nat):xm (dP n)=n:=rfl
theorem back {α:Type}(h:α->D) (u:D->α) (hu:∀x,u (h x)=x){l:List D}(hl:∀d∈l,∃x,d=h x):(l.map u).map h=l:=by
 rw [S6]
 refine (Va (g:=id) λd hd=>?_).trans (List.map_id _)
 obtain ⟨x,rfl⟩:=hl d hd
 show h (u (h x))=h x
 rw [hu]
def pF:Fm:=.tc .i (.tc .i .tn)
theorem EK (p:Nat×Nat):jJ pF (dP p):=⟨_,rfl,_,_,rfl,⟨_,rfl⟩,_,rfl,_,_,rfl,⟨_,rfl⟩,[],rfl,rfl⟩
theorem Oi (xs:List Nat) (hl:xs.length < 64):wL (xs.map dN)=true:=by
 unfold wL
 rw [Sh,decide_eq_true hl,Vi,SK]
 intro d hd
 obtain ⟨x,_,rfl⟩:=Sf.mp hd
 rfl
theorem Pn (xs:List (Nat×Nat)):∀d∈xs.map dP,ia d=some .i:=λd hd=>by
 obtain ⟨x,_,rfl⟩:=Sf.mp hd
 rfl
theorem PJ (xs:List Nat) (hl:xs.length < 64):qd [.l .fresh (xs.map dN)]=.ok (.l .fresh (cY (xs.map dN))):=by
 show (if E5 (xs.map dN)=true then M.ok (R.l .fresh (cY (xs.map dN))) else if wL (xs.map dN)=true then M.ok (R.l .fresh (cY (xs.map dN))) else .bad)=_
 rw [if_pos (Oi xs hl)]
 split <;> rfl
theorem zw {ps:List Nat}{p:Nat}(hp:p < ps.length):br (.d (.tup (ps.map dN))) (.d (dN p))=.ok (.d (dN (ps.getD p 0))):=by
 have h1:(ps.map dN)[p]?=some (dN (ps.getD p 0)):=by rw [SJ,Sn hp];simp [aaS,hp]
 exact jP h1
theorem Oj (xs:List (Nat×Nat)) (hl:xs.length < 64):rZ (xs.map dP)=true:=by
 have h1:areKeys (xs.map dP)=true:=by
  induction xs with
  | nil=>rfl
  | cons x xs ih=>
   rw [Sx]
   show (isKey (dP x) && areKeys (xs.map dP))=true
   rw [ih (by simp at hl;omega)]
   rfl
 have h2:deps (xs.map dP)<=8:=fN λd hd=>by
  obtain ⟨x,_,rfl⟩:=Sf.mp hd
  exact (by decide:(1:Nat)<=8)
 have h3:Jc (xs.map dP)=true:=by
  cases xs with
  | nil=>rfl
  | cons x xs=>
   show (iy .i ((x::xs).map dP) && ((x::xs).map dP).all (q_ pF))=true
   rw [sC (Pn (x::xs)),Vi,SK]
   intro d hd
   obtain ⟨y,_,rfl⟩:=Sf.mp hd
   rfl
 unfold rZ
 rw [h1,h3,decide_eq_true h2,Sh,decide_eq_true hl]
 rfl
theorem Ny (xs:List (Nat×Nat)) (hl:xs.length < 64):qe [.d (.tup (xs.map dP))]=.ok (.l .fresh (dW (xs.map dP))):=by
 show (if rZ (xs.map dP)=true then M.ok (R.l .fresh (dW (xs.map dP))) else _)=_
 rw [if_pos (Oj xs hl)]
theorem w_ {P:D->Prop}(p:gD P){ds:List D}(h:∀x∈ds,P x):(dW ds).length<=ds.length/\∀d∈dW ds,d∈ds:=by
 obtain ⟨h1,h2⟩:=yb p ds h
 refine ⟨?_,λd hd=>((pI p h).2 d).mp hd⟩
 show (cY (dd ds)).length<=_
 rw [FZ]
 exact SX h1 λd hd=>(h2 d).mp hd
theorem MJ {i:Int}(h:0<=i):∃k:Nat,i=k:=⟨i.toNat,by omega⟩
end K55
namespace DL
open PySem PySem.Spec PyProof.Rows L2 DX
noncomputable def cD (gt:GT) (gts:G Bool) (act:Ev->M (List D×Ev)):List D->Ev->M (List D×Ev)
 | [],env=>.ok ([],env)
 | d::ds,env=>gt d env >>= λe=>gts e >>= λk=>if k=true then act e >>= λr=>cD gt gts act ds r.2 >>= λz=>.ok (r.1++z.1,z.2) else cD gt gts act ds e
def yz (env:Ev) (σ:L2.St) (p:Sq):Prop:=∀(j:Nat) (xs:Mn),env[j]?=some (some (mS xs))->σ[j]?≠some (some (.ref p))
structure yl (Acc:Hp->Hp->List D->Prop):Prop where
 ext:∀{J H J' H':Hp}{ys:List D},Acc J H ys->Ext J H J' H'->Acc J' H' ys
noncomputable def uV (X:Cx) (c:C) (p:Sq) (Acc:Hp->Hp->List D->Prop) (J2 H2:Hp) (N:Nat) (m:Sem Unit) (act:Ev->M (List D×Ev)):Prop:=
 ∀(R0:List (Sq×Obj)) (s:Sd) (σ:L2.St) (H J:Hp) (env:Ev) (ys:List D) (Qf:List D×Ev->Prop),Inv X R0 σ H s->Ext J2 H2 J H->SR c J H σ env->yz env σ p->Acc J H ys->ys.length + N<=sizeLine->dg (act env) Qf c.T->
  SH (SM X.prog X.w) X.A m (λ_ s'=>∃σ' H' J' r,Inv X R0 σ' H' s'/\Ext J2 H2 J' H'/\aW J J'/\SR c J' H' σ' r.2/\yz r.2 σ' p/\Acc J' H' (ys++r.1)/\r.1.length<=N/\Qf r) (λ_ _=>False) s
abbrev Gb (ifs:List Tc) (env:Env):Sem Bool:=forIn ifs true λc r=>if r=true then do let ok <-Zb c env (eval c env);pure (U7 ok) else pure (U7 r)
abbrev mY (R3 R4:Tc) (ifs:List Tc) (it:Sa) (env:Env) (act:Sem Unit) (again':Sem Fin):Sem Fin:=do
 VB R4.pos
 match <-WA it with
 | none=>pure (.done .next)
 | some v=>
  U5 R3 it v
  assign R3 env v
  let mut ok:=true
  for c in ifs do
   if ok then ok <-Zb c env (eval c env)
  if ok then
   act
  again'
noncomputable def tK (prog:Sy) (w:S9) (A:Td) (e:Tc) (depth:Nat) (it acc:Sa) (env:Env) (R3:Tc) (ifs:List Tc) (m:Sem Unit):Prop:=
 ∀(R:aax->Sd->Prop) (I:Nat->Sd->Prop),(∀n s,I n s->SH (SM prog w) A (WA it) (λr s₁=>match r with
   | none=>R (.ok .next) s₁
   | some v=>SH (SM prog w) A (U5 R3 it v) (λ_ s₁=>SH (SM prog w) A (assign R3 env v) (λ_ s₂=>
     SH (SM prog w) A (Gb ifs env) (λok s₃=>if ok=true then SH (SM prog w) A m (λ_ s₅=>∃m,m < n/\I m s₅) (λ_ _=>False) s₃ else ∃m,m < n/\I m s₃) (λ_ _=>False) s₂) (λ_ _=>False) s₁) (λ_ _=>False) s₁) (λ_ _=>False) s)->
  ∀(n:Nat) (s:Sd),I n s->UX (SM prog w) A (.compLoop e depth it acc env) R s
section
variable {prog:Sy}{w:S9}{A:Td}{R3 R4:Tc}{ifs:List Tc}{RZ:Vc}{pos:Pos}{it acc:Sa}{env:Env}{depth:Nat}{gens:List Yn}{act:Sem Unit}
theorem AB {R:aax->Sd->Prop}{I:Nat->Sd->Prop}{E:Sa->Sd->Prop}{code:Code}{n:Nat}{s:Sd}{Q:Fin->Sd->Prop}
  (RE:∀s,R (.ok .next) s->Q (.done .next) s) (Rx:∀s,(∃m,m < n/\I m s)->SH (SM prog w) A (again code) Q E s)
  (t:SH (SM prog w) A (WA it) (λr s₁=>match r with
   | none=>R (.ok .next) s₁
   | some v=>SH (SM prog w) A (U5 R3 it v) (λ_ s₁=>SH (SM prog w) A (assign R3 env v) (λ_ s₂=>
     SH (SM prog w) A (Gb ifs env) (λok s₃=>if ok=true then SH (SM prog w) A act (λ_ s₅=>∃m,m < n/\I m s₅) (λ_ _=>False) s₃ else ∃m,m < n/\I m s₃) (λ_ _=>False) s₂) (λ_ _=>False) s₁) (λ_ _=>False) s₁) (λ_ _=>False) s):
  SH (SM prog w) A (mY R3 R4 ifs it env act (again code)) Q E s:=by
 refine R9 (UC (R9 (Tr t (λr s₁ h₁=>?_) λ_ _ f=>f.elim)))
 cases r with
 | none=>exact Sb (RE _ h₁)
 | some v=>
  refine R9 (Tr h₁ (λ_ s₁' h₁'=>?_) λ_ _ f=>f.elim)
  refine R9 (Tr h₁' (λ_ s₂ h₂=>R9 (Tr h₂ (λok s₃ h₃=>?_) λ_ _ f=>f.elim)) λ_ _ f=>f.elim)
  cases ok with
  | false=>exact Rx _ h₃
  | true=>exact R9 (Tr h₃ (λ_ s₅ h₅=>Rx _ h₅) λ_ _ f=>f.elim)
theorem De {elt:Tc}(ht:WQ (.ListComp elt gens RZ pos) depth it acc env=mY R3 R4 ifs it env act (again (.compLoop (.ListComp elt gens RZ pos) depth it acc env))):tK prog w A (.ListComp elt gens RZ pos) depth it acc env R3 ifs act:=by
 intro R I turn n s h
 refine codeAny_loop rfl I (λn s hI=>?_) n h
 show SH _ A ((WQ (.ListComp elt gens RZ pos) depth it acc env).onRaise (λx=>do aaT x env;aaU x)) _ _ s
 refine wpAny_noted ?_
 rw [ht]
 exact AB (λ_ h=>h) (λ_ h=>Sb ⟨rfl,h⟩) (turn n s hI)
theorem Dd {kx vx:Tc}(ht:WQ (.DictComp kx vx gens RZ pos) depth it acc env=mY R3 R4 ifs it env act (again (.compLoop (.DictComp kx vx gens RZ pos) depth it acc env))):tK prog w A (.DictComp kx vx gens RZ pos) depth it acc env R3 ifs act:=by
 intro R I turn n s h
 refine codeAny_loop rfl I (λn s hI=>?_) n h
 show SH _ A ((WQ (.DictComp kx vx gens RZ pos) depth it acc env).onRaise (λx=>do aaT x env;aaU x)) _ _ s
 refine wpAny_noted ?_
 rw [ht]
 exact AB (λ_ h=>h) (λ_ h=>Sb ⟨rfl,h⟩) (turn n s hI)
end
section
variable {X:Cx}{c:C}{p:Sq}{Acc:Hp->Hp->List D->Prop}{J2 H2:Hp}{N:Nat}{m:Sem Unit}{act:Ev->M (List D×Ev)}{R3:Tc}{ifs:List Tc}{gt:GT}{gts:G Bool}{e:Tc}{depth:Nat}{acc:Sa}{it:Sq}{fp:List Sq}{tn:Nat->Ui->Prop}{It:It}{ds:List D}{J1:Hp}
theorem zF (aR:yl Acc) (hc:X.calm=true) (hx:∀v s,X.xe v s->False) (LP:tK X.prog X.w X.A e depth (.ref it) acc X.env R3 ifs m) (hT:jl X c R3 gt) (hIf:gX X c ifs gts) (hA:uV X c p Acc J2 H2 N m act) (T:Turn X.prog X.w X.K R3 It fp it tn)
  (U:Hp->Hp->Prop) (wk:Walk c It ds J1 U){R0:List (Sq×Obj)}{s:Sd}{σ:L2.St}{H J:Hp}{env:Ev}{ys:List D}{Qf:List D×Ev->Prop}(hU:∀J' H',Ext J2 H2 J' H'->aW J J'->U J' H') (I:Inv X R0 σ H s) (st:tn 0 s.heap) (fr:∀b∈fp,kB X R0 H b) (e2:Ext J2 H2 J H) (sr:SR c J H σ env) (no:yz env σ p) (ac:Acc J H ys)
  (hl:ys.length + ds.length * N<=sizeLine) (w:dg (cD gt gts act ds env) Qf c.T):
  UX (SM X.prog X.w) X.A (.compLoop e depth (.ref it) acc X.env) (λr s'=>r=.ok .next/\∃σ' H' J' r',Inv X R0 σ' H' s'/\Ext J2 H2 J' H'/\aW J J'/\SR c J' H' σ' r'.2/\yz r'.2 σ' p/\Acc J' H' (ys++r'.1)/\r'.1.length<=ds.length * N/\Qf r') s:=by
 refine LP _ (λn s'=>∃(i:Nat) (σ':L2.St) (H' J':Hp) (env':Ev) (zs:List D),n=ds.length - i/\i<=ds.length/\Inv X R0 σ' H' s'/\tn i s'.heap/\(∀b∈fp,H' b=none)/\Ext J2 H2 J' H'/\aW J J'/\SR c J' H' σ' env'/\yz env' σ' p/\Acc J' H' (ys++zs)/\zs.length<=i * N/\
  dg (cD gt gts act (ds.drop i) env') (λr=>Qf (zs++r.1,r.2)) c.T) ?_ ds.length s ⟨0,σ,H,J,env,[],rfl,SQ _,I,st,λb hb=>(fr b hb).1,e2,aW.refl J,sr,no,by rw [UR];exact ac,by simp,by rw [aa5];exact w⟩
 rintro n s' ⟨i,σ',H',J',env',zs,rfl,hi,I',st',fr',e',sj,sr',no',ac',hz,w'⟩
 have stat:∀{H':Hp},(∀b∈fp,H' b=none)->∀b∈fp,kB X R0 H' b:=λhn b hb=>⟨hn b hb,(fr b hb).2⟩
 obtain ⟨wk1,wk2⟩:=wk i J' H' sr'.hp (hU J' H' e' sj)
 by_cases hlt:i < ds.length
 ·obtain ⟨g1,y1⟩:=wk2 ds[i] (by simp [hlt])
  rw [V5 hlt] at w'
  refine Tr (T.item X rfl rfl rfl hc i R0 s' σ' H' (λ_ _=>False) I' (stat fr') st' g1) (λr s4 ⟨u,hr,h4⟩=>?_) λ_ _ f=>f.elim
  subst hr
  refine Tr h4 (λ_ s5 ⟨x,H5,I5,r5,y5,st5,fr5⟩=>?_) λ_ _ f=>f.elim
  obtain ⟨J5,e5,rx⟩:=y1 x H5 y5
  have I5':=I5.pinned (stat fr5) (T.obj _ _ st5)
  have again:∀{σ7:L2.St}{H7:Hp}{s7:Sd},Inv X (R0++qA fp s5.heap) σ7 H7 s7->Inv X R0 σ7 H7 s7/\tn (i + 1) s7.heap/\(∀b∈fp,H7 b=none):=fun {σ7 H7 s7} I7=>by
   refine ⟨I7.unpinned,T.keep _ _ _ st5 λb hb o e=>(I7.pin (b,o) (Tj _ (Tj _ (kN hb e)))).1,λb hb=>?_⟩
   obtain ⟨o,e,d⟩:=T.obj _ _ st5 b hb
   exact (I7.pin (b,o) (Tj _ (Tj _ (kN hb e)))).2.1
  refine Tr (hT _ s5 σ' H5 x u (λσ6 H6=>∃e6,H6=H5/\SR c J5 H5 σ6 e6/\KO env' σ' e6 σ6/\dg (gts e6 >>= λk=>if k=true then act e6 >>= λr=>cD gt gts act (ds.drop (i + 1)) r.2 >>= λz=>.ok (r.1++z.1,z.2) else cD gt gts act (ds.drop (i + 1)) e6)
   (λr=>Qf (zs++r.1,r.2)) c.T) I5' r5 ⟨J5,env',ds[i],sr'.ext e5,rx,aG (aL w') λe6 w6 σ6 sr6 ko=>⟨e6,rfl,sr6,ko,w6⟩⟩) (λ_ s6 ⟨σ6,H6,I6,e6,RC,sr6,ko,w6⟩=>?_) λ_ _ f=>(hx _ _ f).elim
  subst RC
  have no6:yz e6 σ6 p:=λj xs q z=>by
   obtain ⟨k1,k2⟩:=ko j xs q
   exact no' j xs k1 (k2▸z)
  refine Tr (hIf _ s6 σ6 H6 (λk H7=>∃J7,Ext J5 H6 J7 H7/\dg (if k=true then act e6 >>= λr=>cD gt gts act (ds.drop (i + 1)) r.2 >>= λz=>.ok (r.1++z.1,z.2) else cD gt gts act (ds.drop (i + 1)) e6)
   (λr=>Qf (zs++r.1,r.2)) c.T) I6 ⟨J5,e6,sr6,aG (aL w6) λk wk J7 H7 e7=>⟨J7,e7,wk⟩⟩) (λk s7 ⟨H7,I7,J7,e7,w7⟩=>?_) λ_ _ f=>(hx _ _ f).elim
  have sr7:=sr6.ext e7
  have ac7:=aR.ext (aR.ext ac' e5) e7
  have x7:=(e'.trans e5).trans e7
  have j7:=(sj.trans e5.j).trans e7.j
  have hm:(i + 1) * N=i * N + N:=by rw [aaV,Nat.one_mul]
  cases k with
  | false=>
   rw [if_neg (by decide)] at w7 ⊢
   obtain ⟨a1,a2,a3⟩:=again I7
   exact ⟨ds.length - (i + 1),by omega,i + 1,σ6,H7,J7,e6,zs,rfl,hlt,a1,a2,a3,x7,j7,sr7,no6,ac7,by omega,w7⟩
  | true=>
   rw [if_pos rfl] at w7 ⊢
   have hN:(i + 1) * N<=ds.length * N:=Vs N hlt
   refine Tr (hA _ s7 σ6 H7 J7 e6 (ys++zs) _ I7 x7 sr7 no6 ac7 (by rw [SO];omega) (aL w7)) (λ_ s8 ⟨σ8,H8,J8,r,I8,x8,j8,sr8,no8,ac8,l8,w8⟩=>?_) λ_ _ f=>f.elim
   obtain ⟨a1,a2,a3⟩:=again I8
   refine ⟨ds.length - (i + 1),by omega,i + 1,σ8,H8,J8,r.2,zs++r.1,rfl,hlt,a1,a2,a3,x8,j7.trans j8,sr8,no8,by rw [<-XY];exact ac8,by rw [SO];omega,?_⟩
   refine aG (aL w8) λz q=>?_
   rw [XY]
   exact q
 ·have RM:i=ds.length:=by omega
  subst RM
  rw [Yx (Sl _)] at w'
  refine Tr (T.done X rfl rfl rfl hc _ R0 s' σ' H' (λ_ _=>False) I' (stat fr') st' (wk1 (Sl _))) (λr s4 ⟨hr,I9⟩=>?_) λ_ _ f=>f.elim
  subst hr
  have w9:Qf (zs++[],env'):=w'
  rw [UR] at w9
  exact ⟨rfl,σ',H',J',(zs,env'),I9,e',sj,sr',no',ac',hz,w9⟩
end
section
variable {prog:Sy}{w:S9}{A:Td}{R:aax->Sd->Prop}{s:Sd}{it acc:Sa}{env:Env}{RZ:Vc}{pos:Pos}{g0:Yn}{R3 R4:Tc}{ifs:List Tc}{rest:List Yn}
theorem NH {elt:Tc}(h0:UX (SM prog w) A (.compLoop (.ListComp elt (g0::⟨R3,R4,ifs,0⟩::rest) RZ pos) 1 it acc env) R s)
  (h:SH (SM prog w) A (XH it) (λit' s'=>UX (SM prog w) A (.compLoop (.ListComp elt (g0::⟨R3,R4,ifs,0⟩::rest) RZ pos) 1 it' acc env) R s') (λ_ _=>False) s):
  UX (SM prog w) A (.compStart (.ListComp elt (g0::⟨R3,R4,ifs,0⟩::rest) RZ pos) 1 it acc env) R s:=by
 refine Xj ?_
 show SH _ _ ((aaW (.ListComp elt (g0::⟨R3,R4,ifs,0⟩::rest) RZ pos) 1 it acc env).onRaise (λx=>do aaT x env;VB aaX)) _ _ s
 refine abP ?_
 unfold aaW
 show SH _ _ (ask >>= _) _ _ s
 refine R9 (Vh (wpAny_ite ?_))
 split
 ·first
   | exact R9 (Sb (Sb (YT rfl h0)))
   | exact Sb (YT rfl h0)
 ·refine R9 (XQ ?_)
  show SH _ _ (VB R4.pos >>= _) _ _ s
  exact R9 (UC (R9 (Tr h (λit' s' h'=>Sb (YT rfl h')) λ_ _ x=>x.elim)))
theorem NG {kx vx:Tc}(h0:UX (SM prog w) A (.compLoop (.DictComp kx vx (g0::⟨R3,R4,ifs,0⟩::rest) RZ pos) 1 it acc env) R s)
  (h:SH (SM prog w) A (XH it) (λit' s'=>UX (SM prog w) A (.compLoop (.DictComp kx vx (g0::⟨R3,R4,ifs,0⟩::rest) RZ pos) 1 it' acc env) R s') (λ_ _=>False) s):
  UX (SM prog w) A (.compStart (.DictComp kx vx (g0::⟨R3,R4,ifs,0⟩::rest) RZ pos) 1 it acc env) R s:=by
 refine Xj ?_
 show SH _ _ ((aaW (.DictComp kx vx (g0::⟨R3,R4,ifs,0⟩::rest) RZ pos) 1 it acc env).onRaise (λx=>do aaT x env;VB aaX)) _ _ s
 refine abP ?_
 unfold aaW
 show SH _ _ (ask >>= _) _ _ s
 refine R9 (Vh (wpAny_ite ?_))
 split
 ·first
   | exact R9 (Sb (Sb (YT rfl h0)))
   | exact Sb (YT rfl h0)
 ·refine R9 (XQ ?_)
  show SH _ _ (VB R4.pos >>= _) _ _ s
  exact R9 (UC (R9 (Tr h (λit' s' h'=>Sb (YT rfl h')) λ_ _ x=>x.elim)))
end
noncomputable def jo (gi:G (List D)) (gt:GT) (gts:G Bool) (act:Ev->M (List D×Ev)):Ev->M (List D×Ev):=λenv=>gi env >>= λds=>if ds.length<=1000 then cD gt gts act ds env else .bad
abbrev sJ (e R4:Tc) (acc:Sa) (env:Env):Sem Unit:=do
 let x <-eval R4 env
 VB R4.pos
 let x <-Sz R4 env x
 let _ <-runOwn (.compStart e 1 (<-holding [x] (XH x)) acc env) env
section
variable {X:Cx}{c:C}{p:Sq}{Acc:Hp->Hp->List D->Prop}{J2 H2:Hp}{N:Nat}{m:Sem Unit}{act:Ev->M (List D×Ev)}{R3 R4:Tc}{ifs:List Tc}{gi:G (List D)}{gt:GT}{gts:G Bool}{e:Tc}{acc:Sa}
theorem Bl (aR:yl Acc) (hc:X.calm=true) (hx:∀v s,X.xe v s->False) (hs:∀x,Sz R4 X.env x=pure x)
  (start:∀(it:Sq) (R:aax->Sd->Prop) (s:Sd),UX (SM X.prog X.w) X.A (.compLoop e 1 (.ref it) acc X.env) R s->SH (SM X.prog X.w) X.A (XH (.ref it)) (λit' s'=>UX (SM X.prog X.w) X.A (.compLoop e 1 it' acc X.env) R s') (λ_ _=>False) s->UX (SM X.prog X.w) X.A (.compStart e 1 (.ref it) acc X.env) R s)
  (LP:∀it:Sq,tK X.prog X.w X.A e 1 (.ref it) acc X.env R3 ifs m) (hi:yD X c R3 R4 gi) (hT:jl X c R3 gt) (hIf:gX X c ifs gts) (hA:uV X c p Acc J2 H2 N m act):
  uV X c p Acc J2 H2 (1000 * N) (sJ e R4 acc X.env) (jo gi gt gts act):=by
 intro R0 s σ H J env ys Qf I x2 sr no ac hl w
 refine R9 (Tr (hi R0 s σ H (λIt H1=>∃ds J1,Ext J H J1 H1/\Walk c It ds J1 (λJ' _=>aW J1 J')/\dg (if ds.length<=1000 then cD gt gts act ds env else .bad) Qf c.T) I ⟨J,env,sr,aG (aL w) λds wd It J1 H1 e1 wk=>⟨ds,J1,e1,wk,wd⟩⟩) (λxv s1 h1=>?_) λv s f=>(hx v s f).elim)
 refine R9 (UC ?_)
 rw [hs xv]
 refine R9 (Sb (R9 (Te (Tr h1 (λitv s2 h2=>?_) λv s f=>(hx v s f).elim))))
 obtain ⟨it,fp,tn,It,H1,rfl,I1,T,st1,f1,ds,J1,e1,wk,w1⟩:=h2
 have hsz:ds.length<=1000:=by
  by_cases z:ds.length<=1000
  ·exact z
  ·rw [if_neg z] at w1;exact w1.elim
 rw [if_pos hsz] at w1
 have hm:ds.length * N<=1000 * N:=Vs N hsz
 have hb:ys.length + ds.length * N<=sizeLine:=S5 (Nat.add_le_add_left hm _) hl
 have run:=zF aR hc hx (LP it) hT hIf hA T (λJ' _=>aW J1 J') wk (λ_ _ _ h=>h) I1 st1 f1 (x2.trans e1) (sr.ext e1) no (aR.ext ac e1) hb w1
 have run':UX (SM X.prog X.w) X.A (.compLoop e 1 (.ref it) acc X.env) (λr s'=>match r with | .ok f=>SH (SM X.prog X.w) X.A (pure ()) (λ_ s'=>∃σ' H' J' r,Inv X R0 σ' H' s'/\Ext J2 H2 J' H'/\aW J J'/\SR c J' H' σ' r.2/\yz r.2 σ' p/\Acc J' H' (ys++r.1)/\r.1.length<=1000 * N/\Qf r) (λ_ _=>False) s' | .error e=>cameBackBy (SM X.prog X.w) X.A X.env (λ_ _=>False) e s') s2:=VA run λr s' ⟨hr,σ',H',J',r',q1,q2,q3,q4,q5,q6,q7,q8⟩=>by
  subst hr
  exact Sb ⟨σ',H',J',r',q1,q2,e1.j.trans q3,q4,q5,q6,S5 q7 hm,q8⟩
 exact R9 (wpAny_runOwn (h:=none) (start it _ _ run' (T.self _ 0 _ _ _ st1 run')))
end
def g_ (ge:G R):Ev->M (List D×Ev):=λe=>ge e >>= λr=>toD r >>= λy=>.ok ([y],e)
def Ct (c:C) (p:Sq):Hp->Hp->List D->Prop:=λJ H ys=>∃us,H p=some (.lst us)/\J p=none/\aK c.K J ys us
theorem su {c:C}{p:Sq}:yl (Ct c p):=⟨fun {J H J' H' ys} ⟨us,h1,h2,h3⟩ e=>⟨us,e.h _ _ h1,e.frz _ (by rw [h1];intro z;cases z) h2,h3.mono e.j⟩⟩
section
variable {X:Cx}{c:C}{p:Sq}{J2 H2:Hp}{elt:Tc}{ge:G R}
theorem Bk (hx:∀v s,X.xe v s->False) (hp2:H2 p=none) (hp0:c.H0 p=none) (hE:PD X c elt ge):uV X c p (Ct c p) J2 H2 1 (do let _ <-call (.builtin "list.append") [.ref p,<-eval elt X.env]) (g_ ge):=by
 intro R0 s σ H J env ys Qf I x2 sr no ⟨us,h1,h2,h3⟩ hl w
 have hlen:ys.length=us.length:=h3.length
 refine R9 (Tr (hE _ s σ H (λv H8=>∃J8 y,Ext J H J8 H8/\Rep c.K J8 y v/\Qf ([y],env)) I ⟨J,env,sr,aG (aL w) λr wr v J8 H8 e8 r8=>?_⟩) (λu8 s8 ⟨v8,H8,I8,r8,J8,y,e8,ry,w8⟩=>?_) λv s f=>(hx v s f).elim)
 ·obtain ⟨y,q,wr⟩:=jf wr
  obtain ⟨J9,e9,_,ry⟩:=freeze e8 r8 q
  exact ⟨J9,y,e9,ry,wr⟩
 have p8:H8 p=some (.lst us):=e8.h _ _ h1
 have J8p:J8 p=none:=e8.frz _ (by rw [h1];intro z;cases z) h2
 refine R9 (Tr (wK (X:=X) _ s8 σ H8 (.ref p) [v8] (.ref p) [u8] (λ_ H9=>H9=L2.upd H8 p (.lst (us++[v8]))) I8 rfl (.cons r8 .nil) ⟨_,us,v8,rfl,rfl,p8,by omega,rfl⟩) (λ_ s9 ⟨_,H9,I9,_,h9⟩=>?_) λv s f=>(hx v s f).elim)
 subst h9
 exact Sb ⟨σ,_,J8,([y],env),I9,(x2.trans e8).other hp2 J8p,e8.j,(sr.ext e8).other J8p hp0 no,no,⟨us++[v8],cO,J8p,(h3.mono e8.j).append (.cons ry .nil)⟩,Sl _,w8⟩
end
noncomputable def ju (lim n:Nat) (cap:List Nat) (gi:G (List D)) (gt:GT) (gts:G Bool) (act:Ev->M (List D×Ev)) (fin:List D->M R):G R:=λenv=>gi env >>= λds=>if ds.length<=lim then cD gt gts act ds (cE n cap env) >>= λr=>fin r.1 else .bad
section
variable {X:Cx}{c:C}
theorem oE (own:List Str) (cap:List Nat){e R3 R4:Tc}{ifs:List Tc}{gs:List Yn}{RZ:Vc}{gi:G (List D)}{gt:GT}{gts:G Bool}{act:Ev->M (List D×Ev)}{fin:List D->M R}{newAcc:Sem Sa}{ob:Obj}{o0:Sq->HO}{Acc:Sq->Hp->Hp->List D->Prop}{N lim:Nat}{m:Sq->Env->Sem Unit}
  (hcls:clausesOf e=⟨R3,R4,ifs,0⟩::gs) (hi:pZ X c R3 R4 gi)
  (hnew:∀(s:Sd) (Q:Sa->Sd->Prop) (E:Sa->Sd->Prop),Q (.ref s.heap.objs.size) {s with heap:=s.heap.push ob}->SH (SM X.prog X.w) X.A newAcc Q E s)
  (hob:∀(h:Ui) (H:Hp),dw X.prog X.w H (h.push ob) h.objs.size (o0 h.objs.size))
  (aR:∀p,yl (Acc p)) (a0:∀(p:Sq) (J H:Hp),VJ < p->H p=some (o0 p)->J p=none->Acc p J H [])
  (hN:lim * N<=sizeLine) (LP:∀(it p:Sq) (env:Env),tK X.prog X.w X.A e 0 (.ref it) (.ref p) env R3 ifs (m p env))
  (start:∀(it:Sq) (acc:Sa) (env:Env) (R:aax->Sd->Prop) (s:Sd),UX (SM X.prog X.w) X.A (.compLoop e 0 (.ref it) acc env) R s->SH (SM X.prog X.w) X.A (XH (.ref it)) (λit' s'=>UX (SM X.prog X.w) X.A (.compLoop e 0 it' acc env) R s') (notedBy (SM X.prog X.w) X.A env λx s'=>R (.error x) s') s->UX (SM X.prog X.w) X.A (.compStart e 0 (.ref it) acc env) R s)
  (nofin:∀ys z,fin ys≠.exc z) (hend:∀{p:Sq}{J H J' H':Hp}{ys:List D}{r:R},H p=none->Ext J H J' H'->Acc p J' H' ys->fin ys=.ok r->∃J'',Ext J H J'' H'/\RR c H J'' H' r (.ref p))
  (hbody:∀(cl:List (Str×Sq)) (C:Sq) (s:Sd) (H:Hp) (fp:List Sq),bJ X.env.cells RZ.names []=some cl->jl (aZ X own cap RZ cl C s H fp) c R3 gt/\gX (aZ X own cap RZ cl C s H fp) c ifs gts/\∀(p:Sq) (J2 H2:Hp),H2 p=none->c.H0 p=none->uV (aZ X own cap RZ cl C s H fp) c p (Acc p) J2 H2 N (m p (aZ X own cap RZ cl C s H fp).env) act)
  (hk:RZ.kind=.function) (hno:fR X cap RZ=true) (hnames:(RZ.names.all λx=>!(x.2 == .local) || (RZ.names.lookup x.1 == some .local))=true)
  (hcl:(bJ X.env.cells RZ.names []).isSome=true) (hcap:eW X cap=true) (hloc:eZ X cap RZ=true) (hnd:gq cap=true) (Qw:X.calm=true)
  (hs:∀x,Sz R4 X.env x=pure x)
  {R0:List (Sq×Obj)}{s:Sd}{σ:L2.St}{H:Hp}{Q:VK}{use:Option (Sa->Sem Unit)}{Q0:Sa->Sd->Prop}{pos':Pos}(I:Inv X R0 σ H s) (h:tD c (ju lim own.length cap gi gt gts act fin) σ H Q)
  (QC:∀(acc C:Sq) (m:Str->Option Sa) (s':Sd) (H':Hp) (fl:Flow),s'.heap.Ns C m->((C∈X.ex\/X.s₀.heap.objs.size<=C)/\C≠X.env.locals/\(∀x c,X.env.cells.lookup x=some c->c≠C)/\∀p∈X.pn++R0,p.1≠C)->H' C=none->(∀h'',T5 C s'.heap h''->Inv X R0 σ H' {s' with heap:=h''})->Q (.ref acc) H'->ZO (SM X.prog X.w) X.A X.xe use Q0 (.ref acc) C (.ok fl) s'):
  SH (SM X.prog X.w) X.A (comprehension e RZ X.env pos' newAcc false (eval R4 X.env) use) Q0 X.xe s:=by
 obtain ⟨J,env,sr,w⟩:=h
 obtain ⟨cl,hcl⟩:=Ub.mp hcl
 have Rk:∀j∈cap,∀x,X.N[j]?=some x->dS RZ.names x=false:=λj hj x hx=>by
  have:=SK.mp hno j hj
  rw [hx] at this
  simpa using this
 have QV:∀x∈RZ.names,x.2=.local->RZ.names.lookup x.1=some .local:=λy hy z=>by
  have:=SK.mp hnames y hy
  rw [z] at this
  simpa using this
 have Rb:∀j∈cap,∀x,X.N[j]?=some x->(relabel RZ X.env).names.lookup x≠some .local:=λj hj x hx z=>by
  have:=SK.mp hloc j hj
  rw [hx] at this
  simp only at this
  rw [z] at this
  cases this
 refine wpAny_comprehension_free (use:=use) hcls hs (xM hcl) hk QV ?_
 refine cg (hi R0 s σ H (λIt H1=>∃ds J1,Ext J H J1 H1/\Walk c It ds J1 (λJ' H'=>aW J1 J'/\aW H1 H')/\
  dg (if ds.length<=lim then cD gt gts act ds (cE own.length cap env) >>= λr=>fin r.1 else .bad) (λr=>∀v J' H',Ext J H J' H'->RR c H J' H' r v->Q v H') c.T) I ⟨J,env,sr,aG (aL w) λds wd It J1 H1 e1 wk=>⟨ds,J1,e1,wk,wd⟩⟩) λxv s1 h1=>cg h1 λitv s2 h2=>?_
 obtain ⟨it,fp,tn,It,H2,rfl,I2,T,st2,f2,ds,J2,e2,wk,w2⟩:=h2
 have hsz:ds.length<=lim:=by
  by_cases z:ds.length<=lim
  ·exact z
  ·rw [if_neg z] at w2;exact w2.elim
 rw [if_pos hsz] at w2
 have w3:=aL w2
 refine hnew s2 _ _ (Di ?_)
 dsimp only
 generalize Rg:s2.heap.push ob=Hs
 have hC:Hs.objs.size=s2.heap.objs.size + 1:=by rw [<-Rg,V6]
 have hp2:H2 s2.heap.objs.size=none:=I2.hok.fresh (Sl _)
 have kHs:∀b o,s2.heap.get? b=some o->Hs.get? b=some o:=λb o e=>by rw [<-Rg];exact Sm _ e
 have I3:Inv X R0 σ (L2.upd H2 s2.heap.objs.size (o0 s2.heap.objs.size)) {s2 with heap:=Hs,toks:=s2.toks}:=I2.laid (t':=s2.toks) kHs (Sl _) (by rw [<-Rg];exact hob _ _)
 have f3:∀b∈fp,kB X R0 (L2.upd H2 s2.heap.objs.size (o0 s2.heap.objs.size)) b:=λb hb=>by
  obtain ⟨o,ho,_⟩:=T.obj _ _ st2 b hb
  exact ⟨by rw [bI (S4 (SA ho))];exact (f2 b hb).1,(f2 b hb).2⟩
 have hin:∀b∈fp,b < Hs.objs.size:=λb hb=>by
  obtain ⟨o,ho,_⟩:=T.obj _ _ st2 b hb
  exact VQ (SA ho) (by rw [hC];exact UJ _)
 obtain ⟨h₁,eh₁⟩:∃h₁,h₁=aaK (Hs.push {cls:=.type "dict",data:=.dict #[]}) RZ.names:=⟨_,rfl⟩
 rw [<-eh₁]
 have hns₁:h₁.Ns Hs.objs.size (λ_=>none):=by rw [eh₁];exact MK Hs RZ.names
 have ck:acy h₁ (Hs.objs.size + 1) (Tu (Hs.objs.size + 1) RZ.names []):=by rw [eh₁];exact En Hs RZ.names
 have okC:=JP (own:=own) (cap:=cap) I3 hk hcl ck f3 hin
 have old1:∀b o,Hs.get? b=some o->h₁.get? b=some o:=λb o e=>by rw [eh₁];exact aaL _ _ _ _ (Sm _ e)
 have I4:=GN (tk:=s2.toks) I3 okC hcl ck hcap Rb Rk hns₁ old1
 have sr2:=sr.ext e2
 have srA:SR c J2 (L2.upd H2 s2.heap.objs.size (o0 s2.heap.objs.size)) σ env:=sr2.ext (Ext.new e2.sub hp2 _)
 have J2p:J2 s2.heap.objs.size=none:=e2.sub.free hp2
 have H0p:c.H0 s2.heap.objs.size=none:=sr2.hp.ent.free hp2
 have nown:∀(j:Nat) (xs:Mn),(cE own.length cap env)[j]?=some (some (mS xs))->(Th own.length none++cap.map λ(j:Nat)=>(σ[j]?).getD none)[j]?≠some (some (.ref s2.heap.objs.size)):=λj xs q z=>by
  obtain ⟨a,h1,h2,h3⟩:=kJ q
  obtain ⟨a',h4,h5,h6⟩:=kJ z
  rw [h2] at h5;cases h5
  obtain ⟨p,k1,k2,_⟩:=sr2.mine h3
  rw [h6] at k1
  cases k1
  exact k2 hp2
 obtain ⟨hT,hIf,hE⟩:=hbody cl Hs.objs.size {s2 with heap:=Hs,toks:=s2.toks} (L2.upd H2 s2.heap.objs.size (o0 s2.heap.objs.size)) fp hcl
 have fpC:∀{H':Hp},(∀b∈fp,H' b=none)->∀b∈fp,kB (aZ X own cap RZ cl Hs.objs.size {s2 with heap:=Hs,toks:=s2.toks} (L2.upd H2 s2.heap.objs.size (o0 s2.heap.objs.size)) fp) [] H' b:=fun {H'} hn b hb=>by
  obtain ⟨m1,_⟩:=h_ RZ.names [] cl hcl (λx c h=>by simp at h)
  refine ⟨hn b hb,S4 (hin b hb),λz=>?_,.inl hb,λx d h=>(gy h).elim (λh=>Wg (SI (hin b hb) (Vy (ck.empty _ _ (Wx h)).2))) (λh=>(f2 b hb).2.2.2.2.1 x d (m1 x d h.2)),λp hp=>absurd (show p∈([]:List (Sq×Obj)) from hp) (by simp)⟩
  rcases SD.mp (I2.stkSub b z) with e | e
  ·exact (f2 b hb).2.1 e
  ·exact (f2 b hb).2.2.1 e
 have back:∀{pi:List (Sq×Obj)}{σ':L2.St}{H':Hp}{s':Sd}{h'':Ui},Inv (aZ X own cap RZ cl Hs.objs.size {s2 with heap:=Hs,toks:=s2.toks} (L2.upd H2 s2.heap.objs.size (o0 s2.heap.objs.size)) fp) pi σ' H' s'->T5 Hs.objs.size s'.heap h''->Inv X R0 σ H' {s' with heap:=h''}:=fun {pi σ' H' s' h''} I' sb=>by
  have B:Un (frs X.stack) fp (L2.upd H2 s2.heap.objs.size (o0 s2.heap.objs.size)) H' Hs s'.heap:=I'.base
  have ne2:∀{b:Sq}{o:Obj},s2.heap.get? b=some o->b≠s2.heap.objs.size/\b≠Hs.objs.size:=fun {b o} e=>
   ⟨S4 (SA e),S4 (VQ (SA e) (by rw [hC];exact UJ _))⟩
  have nH:∀{b:Sq}{o:HO},H2 b=some o->L2.upd H2 s2.heap.objs.size (o0 s2.heap.objs.size) b=some o:=fun {b o} e=>by rw [bI (fT e hp2)];exact e
  refine Inv.call' (ch:=fp) (s':={s' with heap:=h''}) I2 I'.os ⟨λb o e n hf hx=>?_,λb o e n hf hx=>?_,λb o e n hx=>?_,λb o e hx=>?_,λb xs e=>B.tups b xs (nH e),λb o u e=>B.frzs b o u (nH e),λb ps e=>B.tbls b ps (nH e)⟩ (A2 I'.hok I'.free sb) I'.bare λb hb=>⟨(f2 b hb).2.2.2.1,(f2 b hb).2.1,(f2 b hb).2.2.2.2.1,(f2 b hb).2.2.2.2.2⟩
  ·exact (sb.2 b (ne2 e).2).trans (B.keep b o (kHs b o e) (by rw [bI (ne2 e).1];exact n) hf hx)
  ·obtain ⟨sl,z⟩:=B.slot b o (kHs b o e) (by rw [bI (ne2 e).1];exact n) hf hx
   exact ⟨sl,(sb.2 b (ne2 e).2).trans z⟩
  ·exact B.free b o (kHs b o e) (by rw [bI (ne2 e).1];exact n) hx
  ·obtain ⟨o',z⟩:=B.there b o (kHs b o e) hx
   exact ⟨o',(sb.2 b (ne2 e).2).trans z⟩
 have run:=λ(s4:Sd) (I4:Inv (aZ X own cap RZ cl Hs.objs.size {s2 with heap:=Hs,toks:=s2.toks} (L2.upd H2 s2.heap.objs.size (o0 s2.heap.objs.size)) fp) [] _ _ s4) (st4:tn 0 s4.heap)=>zF (X:=aZ X own cap RZ cl Hs.objs.size {s2 with heap:=Hs,toks:=s2.toks} (L2.upd H2 s2.heap.objs.size (o0 s2.heap.objs.size)) fp) (e:=e) (depth:=0) (acc:=.ref s2.heap.objs.size) (aR _) Qw (λ_ _ f=>f) (LP it _ _) hT hIf (hE s2.heap.objs.size J2 H2 hp2 H0p) T (λJ' H'=>aW J2 J'/\aW H2 H') wk (λJ' H' x _=>⟨x.j,x.h⟩) I4 st4 (fpC λb hb=>(f3 b hb).1) (Ext.new e2.sub hp2 _) (srA.cap own.length cap (BL hnd)) nown (a0 _ _ _ (LU I2) cO J2p) (S5 (by rw [Xk,aai];exact Vs N hsz) hN) w3
 have st4:=T.keep _ _ _ st2 (λb hb o e=>old1 b o (kHs b o e))
 have go:=VA (run _ I4 st4) (R':=ZO (SM X.prog X.w) X.A X.xe use Q0 (.ref s2.heap.objs.size) Hs.objs.size) λr s' ⟨hr,σ',H',J',r',I9,x9,j9,sr9,no9,ac9,l9,w9⟩=>by
  subst hr
  obtain ⟨mm,hm,_⟩:=I9.loc
  refine QC s2.heap.objs.size Hs.objs.size mm _ H' _ hm (LR I2 (by rw [hC];exact VF _)) I9.free (λh'' sb=>back I9 sb) ?_
  cases q:fin r'.1 with
  | bad=>rw [q] at w9;exact w9.elim
  | exc z=>rw [q] at w9;exact (nofin _ z q).elim
  | ok z=>
   rw [q] at w9
   obtain ⟨J9,x10,rr⟩:=hend (e2.h.free hp2) (e2.trans x9) ac9 q
   exact w9 _ J9 H' x10 rr
 exact start it _ _ _ _ go (T.self _ 0 _ _ _ st4 go)
end
noncomputable def kg (n:Nat) (cap:List Nat) (gi0:G (List D)) (gt0:GT) (gts0:G Bool) (gi1:G (List D)) (gt1:GT) (gts1:G Bool) (ge:G R):G R:=ju 10000 n cap gi0 gt0 gts0 (jo gi1 gt1 gts1 (g_ ge)) (λys=>.ok (.l .fresh ys))
theorem Lq (elt t0 i0 t1 i1:Tc) (f0 f1:List Tc) (RZ:Vc) (pos:Pos) (it acc:Sa) (env:Env):
  WQ (.ListComp elt [⟨t0,i0,f0,0⟩,⟨t1,i1,f1,0⟩] RZ pos) 0 it acc env=(do
   VB i0.pos
   match <-WA it with
   | none=>pure (.done .next)
   | some v=>
    U5 t0 it v
    assign t0 env v
    let mut ok:=true
    for c in f0 do
     if ok then ok <-Zb c env (eval c env)
    if ok then
     let x <-eval i1 env
     VB i1.pos
     let x <-Sz i1 env x
     let _ <-runOwn (.compStart (.ListComp elt [⟨t0,i0,f0,0⟩,⟨t1,i1,f1,0⟩] RZ pos) 1 (<-holding [x] (XH x)) acc env) env
    again (.compLoop (.ListComp elt [⟨t0,i0,f0,0⟩,⟨t1,i1,f1,0⟩] RZ pos) 0 it acc env)):=by rfl
theorem NP (elt t0 i0 t1 i1:Tc) (f0 f1:List Tc) (RZ:Vc) (pos:Pos) (it acc:Sa) (env:Env):
  WQ (.ListComp elt [⟨t0,i0,f0,0⟩,⟨t1,i1,f1,0⟩] RZ pos) 0 it acc env=mY t0 i0 f0 it env (sJ (.ListComp elt [⟨t0,i0,f0,0⟩,⟨t1,i1,f1,0⟩] RZ pos) i1 acc env) (again (.compLoop (.ListComp elt [⟨t0,i0,f0,0⟩,⟨t1,i1,f1,0⟩] RZ pos) 0 it acc env)):=by
 rw [Lq]
 refine bind_congr λ_=>bind_congr λr=>?_
 cases r with
 | none=>rfl
 | some v=>
  refine bind_congr λ_=>bind_congr λ_=>bind_congr λok=>?_
  cases ok with
  | false=>rfl
  | true=>simp only [sJ,bind_assoc,pure_bind,if_true]
theorem NQ (elt t0 i0 t1 i1:Tc) (f0 f1:List Tc) (RZ:Vc) (pos:Pos) (it acc:Sa) (env:Env):
  WQ (.ListComp elt [⟨t0,i0,f0,0⟩,⟨t1,i1,f1,0⟩] RZ pos) 1 it acc env=mY t1 i1 f1 it env (do let _ <-call (.builtin "list.append") [acc,<-eval elt env]) (again (.compLoop (.ListComp elt [⟨t0,i0,f0,0⟩,⟨t1,i1,f1,0⟩] RZ pos) 1 it acc env)):=by rfl
section
variable {X:Cx}{c:C}
theorem Ew (own:List Str) (cap:List Nat){elt t0 i0 t1 i1:Tc}{f0 f1:List Tc}{RZ:Vc}{pos:Pos}{gi0 gi1:G (List D)}{gt0 gt1:GT}{gts0 gts1:G Bool}{ge:G R}(hi:pZ X c t0 i0 gi0)
  (hbody:∀(cl:List (Str×Sq)) (C:Sq) (s:Sd) (H:Hp) (fp:List Sq),bJ X.env.cells RZ.names []=some cl->jl (aZ X own cap RZ cl C s H fp) c t0 gt0/\gX (aZ X own cap RZ cl C s H fp) c f0 gts0/\yD (aZ X own cap RZ cl C s H fp) c t1 i1 gi1/\jl (aZ X own cap RZ cl C s H fp) c t1 gt1/\gX (aZ X own cap RZ cl C s H fp) c f1 gts1/\PD (aZ X own cap RZ cl C s H fp) c elt ge)
  (hk:RZ.kind=.function:=by rfl) (hno:fR X cap RZ=true:=by rfl) (hnames:(RZ.names.all λx=>!(x.2 == .local) || (RZ.names.lookup x.1 == some .local))=true:=by rfl)
  (hcl:(bJ X.env.cells RZ.names []).isSome=true:=by rfl) (hcap:eW X cap=true:=by rfl) (hloc:eZ X cap RZ=true:=by rfl) (hnd:gq cap=true:=by rfl) (Qw:X.calm=true:=by rfl)
  (hs:∀x,Sz i0 X.env x=pure x:=by intro _;rfl) (hs1:∀(en:Env) x,Sz i1 en x=pure x:=by intro _ _;rfl)
  {R0:List (Sq×Obj)}{s:Sd}{σ:L2.St}{H:Hp}{Q:VK}{use:Option (Sa->Sem Unit)}{Q0:Sa->Sd->Prop}{pos':Pos}(I:Inv X R0 σ H s) (h:tD c (kg own.length cap gi0 gt0 gts0 gi1 gt1 gts1 ge) σ H Q)
  (QC:∀(acc C:Sq) (m:Str->Option Sa) (s':Sd) (H':Hp) (fl:Flow),s'.heap.Ns C m->((C∈X.ex\/X.s₀.heap.objs.size<=C)/\C≠X.env.locals/\(∀x c,X.env.cells.lookup x=some c->c≠C)/\∀p∈X.pn++R0,p.1≠C)->H' C=none->(∀h'',T5 C s'.heap h''->Inv X R0 σ H' {s' with heap:=h''})->Q (.ref acc) H'->ZO (SM X.prog X.w) X.A X.xe use Q0 (.ref acc) C (.ok fl) s'):
  SH (SM X.prog X.w) X.A (comprehension (.ListComp elt [⟨t0,i0,f0,0⟩,⟨t1,i1,f1,0⟩] RZ pos) RZ X.env pos' (acw []) false (eval i0 X.env) use) Q0 X.xe s:=by
 refine oE (e:=.ListComp elt [⟨t0,i0,f0,0⟩,⟨t1,i1,f1,0⟩] RZ pos) (ob:={cls:=.type "list",dict:=none,data:=.seq ([]:List Sa).toArray}) (o0:=λ_=>.lst []) (Acc:=Ct c) (N:=1000 * 1) (lim:=10000) (m:=λp env=>sJ (.ListComp elt [⟨t0,i0,f0,0⟩,⟨t1,i1,f1,0⟩] RZ pos) i1 (.ref p) env) own cap rfl hi
  (λs Q E q=>Tg q) (λh H=>⟨SQ _,[],0,.nil,Sw _ rfl⟩) (λp=>su) (λp J H _ h1 h2=>⟨[],h1,h2,.nil⟩) (by decide) (λit p env=>De (NP ..)) (λit acc env R s h0 h=>YA h0 h) (λys z q=>by cases q)
  (fun {p J H J' H' ys r} hp e ⟨us,h1,h2,h3⟩ q=>by cases q;exact ⟨J',e,⟨p,us,rfl,h1,h2,hp,h3⟩⟩) (λcl C s H fp hcc=>?_) hk hno hnames hcl hcap hloc hnd Qw hs I h QC
 obtain ⟨b1,b2,b3,b4,b5,b6⟩:=hbody cl C s H fp hcc
 refine ⟨b1,b2,λp J2 H2 hp2 hp0=>?_⟩
 exact Bl su Qw (λ_ _ f=>f) (λx=>hs1 _ x) (λit R s h0 h=>NH h0 h) (λit=>De (NQ ..)) b3 b4 b5 (Bk (λ_ _ f=>f) hp2 hp0 b6)
theorem Fp (own:List Str) (cap:List Nat){elt t0 i0 t1 i1:Tc}{f0 f1:List Tc}{RZ:Vc}{pos:Pos}{gi0 gi1:G (List D)}{gt0 gt1:GT}{gts0 gts1:G Bool}{ge:G R}(hi:pZ X c t0 i0 gi0)
  (hbody:∀(cl:List (Str×Sq)) (C:Sq) (s:Sd) (H:Hp) (fp:List Sq),bJ X.env.cells RZ.names []=some cl->jl (aZ X own cap RZ cl C s H fp) c t0 gt0/\gX (aZ X own cap RZ cl C s H fp) c f0 gts0/\yD (aZ X own cap RZ cl C s H fp) c t1 i1 gi1/\jl (aZ X own cap RZ cl C s H fp) c t1 gt1/\gX (aZ X own cap RZ cl C s H fp) c f1 gts1/\PD (aZ X own cap RZ cl C s H fp) c elt ge)
  (hk:RZ.kind=.function:=by rfl) (hno:fR X cap RZ=true:=by rfl) (hnames:(RZ.names.all λx=>!(x.2 == .local) || (RZ.names.lookup x.1 == some .local))=true:=by rfl)
  (hcl:(bJ X.env.cells RZ.names []).isSome=true:=by rfl) (hcap:eW X cap=true:=by rfl) (hloc:eZ X cap RZ=true:=by rfl) (hnd:gq cap=true:=by rfl) (Qw:X.calm=true:=by rfl)
  (hs:∀x,Sz i0 X.env x=pure x:=by intro _;rfl) (hs1:∀(en:Env) x,Sz i1 en x=pure x:=by intro _ _;rfl):PD X c (.ListComp elt [⟨t0,i0,f0,0⟩,⟨t1,i1,f1,0⟩] RZ pos) (kg own.length cap gi0 gt0 gts0 gi1 gt1 gts1 ge):=by
 intro R0 s σ H Q I h
 rw [abQ]
 exact Ew own cap hi hbody hk hno hnames hcl hcap hloc hnd Qw hs hs1 I h λacc C m s' H' fl hm hz hf hb q=>⟨m,hm,λh'' sb=>⟨.ref acc,H',hb h'' sb,rfl,q⟩⟩
theorem Fi (i:Nat) (own:List Str) (cap:List Nat){elt t0 i0 t1 i1:Tc}{f0 f1:List Tc}{RZ:Vc}{pos:Pos}{gi0 gi1:G (List D)}{gt0 gt1:GT}{gts0 gts1:G Bool}{ge:G R}{pos' pos2:Pos}{x:Str}(hN:X.N.Nodup) (hi:pZ X c t0 i0 gi0)
  (hbody:∀(cl:List (Str×Sq)) (C:Sq) (s:Sd) (H:Hp) (fp:List Sq),bJ X.env.cells RZ.names []=some cl->jl (aZ X own cap RZ cl C s H fp) c t0 gt0/\gX (aZ X own cap RZ cl C s H fp) c f0 gts0/\yD (aZ X own cap RZ cl C s H fp) c t1 i1 gi1/\jl (aZ X own cap RZ cl C s H fp) c t1 gt1/\gX (aZ X own cap RZ cl C s H fp) c f1 gts1/\PD (aZ X own cap RZ cl C s H fp) c elt ge)
  (hk:RZ.kind=.function:=by rfl) (hno:fR X cap RZ=true:=by rfl) (hnames:(RZ.names.all λx=>!(x.2 == .local) || (RZ.names.lookup x.1 == some .local))=true:=by rfl)
  (hcl:(bJ X.env.cells RZ.names []).isSome=true:=by rfl) (hcap:eW X cap=true:=by rfl) (hloc:eZ X cap RZ=true:=by rfl) (hnd:gq cap=true:=by rfl) (Qw:X.calm=true:=by rfl)
  (hs:∀x,Sz i0 X.env x=pure x:=by intro _;rfl) (hs1:∀(en:Env) x,Sz i1 en x=pure x:=by intro _ _;rfl) (hx:X.N[i]?=some x:=by rfl) (QJ:X.env.scope.names.lookup x=some .local:=by rfl)
  (hsw:VO (.ListComp elt [⟨t0,i0,f0,0⟩,⟨t1,i1,f1,0⟩] RZ pos) (some (.Name x pos')) pos2.line X.env=pure true:=by rfl):Bf X c (.Assign [.Name x pos'] (.ListComp elt [⟨t0,i0,f0,0⟩,⟨t1,i1,f1,0⟩] RZ pos) pos2) (aN i (kg own.length cap gi0 gt0 gts0 gi1 gt1 gts1 ge)):=by
 intro R0 s σ H D I ⟨J,env,sr,w⟩
 rw [YU]
 refine R9 (UC ?_)
 rw [show Wm [.Name x pos'] (.ListComp elt [⟨t0,i0,f0,0⟩,⟨t1,i1,f1,0⟩] RZ pos) pos2.line X.env=pure true from hsw]
 refine R9 (Sb ?_)
 rw [if_pos rfl,X4]
 refine R9 (R9 (Ew own cap hi hbody hk hno hnames hcl hcap hloc hnd Qw hs hs1 (Q:=λv H1=>∃J1 r xx,Ext J H J1 H1/\RR c H J1 H1 r v/\toS r=.ok xx/\oP c J D (.nx (env.set i (some xx)))) I ⟨J,env,sr,aG (aL w) λr wr v J1 H1 e1 r1=>?_⟩ λacc C m s' H' fl hm ap hf hb ⟨J1,r,xx,e1,r1,q1,w1⟩=>?_))
 ·obtain ⟨xx,q,wr⟩:=oh wr
  exact ⟨J1,r,xx,e1,r1,q,wr⟩
 ·have I1:L2.Inv X R0 σ H' s':=hb s'.heap (X5 ..)
  show SH _ _ (do VB pos';acJ X.env x (.ref acc)) _ _ _
  refine R9 (UC (Zg ?_))
  refine mW I1 hN hx (.inl QJ) (v:=.ref acc) (u:=.ref acc) rfl (λs2 I2 ⟨a,sb,ha⟩=>?_) (.inr QJ)
  have hac:C≠a:=λz=>by
   rcases ha with e | e
   ·exact ap.2.1 (z.trans e)
   ·exact ap.2.2.1 _ _ e z.symm
  refine ⟨m,hm.sameBut sb hac,λh2 sb2=>?_⟩
  refine Sb (Sb ⟨σ.set i (some (.ref acc)),H',qv I2 ap hf sb2 (o0:=default),?_⟩)
  exact w1 _ J1 H' e1.j (sr.set e1 r1 q1)
theorem Du (own:List Str) (cap:List Nat){elt t0 i0 t1 i1:Tc}{f0 f1:List Tc}{RZ:Vc}{pos:Pos}{gi0 gi1:G (List D)}{gt0 gt1:GT}{gts0 gts1:G Bool}{ge:G R}(hi:rK X c t0 i0 gi0)
  (hbody:∀(cl:List (Str×Sq)) (C:Sq) (s:Sd) (H:Hp) (fp:List Sq),bJ X.env.cells RZ.names []=some cl->lF (aZ X own cap RZ cl C s H fp) c t0 gt0/\kC (aZ X own cap RZ cl C s H fp) c f0 gts0/\yF (aZ X own cap RZ cl C s H fp) c t1 i1 gi1/\lF (aZ X own cap RZ cl C s H fp) c t1 gt1/\kC (aZ X own cap RZ cl C s H fp) c f1 gts1/\QD (aZ X own cap RZ cl C s H fp) c elt ge)
  (hk:RZ.kind=.function:=by rfl) (hno:fR X cap RZ=true:=by rfl) (hnames:(RZ.names.all λx=>!(x.2 == .local) || (RZ.names.lookup x.1 == some .local))=true:=by rfl)
  (hcl:(bJ X.env.cells RZ.names []).isSome=true:=by rfl) (hcap:eW X cap=true:=by rfl) (hloc:eZ X cap RZ=true:=by rfl) (hnd:gq cap=true:=by rfl) (Qw:X.calm=true:=by rfl)
  (hs:∀x,Sz i0 X.env x=pure x:=by intro _;rfl) (hs1:∀(en:Env) x,Sz i1 en x=pure x:=by intro _ _;rfl):QD X c (.ListComp elt [⟨t0,i0,f0,0⟩,⟨t1,i1,f1,0⟩] RZ pos) (kg own.length cap gi0 gt0 gts0 gi1 gt1 gts1 ge):=
 ⟨Fp own cap hi.h (λcl C s H fp hc=>let ⟨a,b,d,e,f,g⟩:=hbody cl C s H fp hc;⟨a.h,b.h,d.h,e.h,f.h,g.h⟩) hk hno hnames hcl hcap hloc hnd Qw hs hs1⟩
theorem Ds (i:Nat) (own:List Str) (cap:List Nat){elt t0 i0 t1 i1:Tc}{f0 f1:List Tc}{RZ:Vc}{pos:Pos}{gi0 gi1:G (List D)}{gt0 gt1:GT}{gts0 gts1:G Bool}{ge:G R}{pos' pos2:Pos}{x:Str}(hN:X.N.Nodup) (hi:rK X c t0 i0 gi0)
  (hbody:∀(cl:List (Str×Sq)) (C:Sq) (s:Sd) (H:Hp) (fp:List Sq),bJ X.env.cells RZ.names []=some cl->lF (aZ X own cap RZ cl C s H fp) c t0 gt0/\kC (aZ X own cap RZ cl C s H fp) c f0 gts0/\yF (aZ X own cap RZ cl C s H fp) c t1 i1 gi1/\lF (aZ X own cap RZ cl C s H fp) c t1 gt1/\kC (aZ X own cap RZ cl C s H fp) c f1 gts1/\QD (aZ X own cap RZ cl C s H fp) c elt ge)
  (hk:RZ.kind=.function:=by rfl) (hno:fR X cap RZ=true:=by rfl) (hnames:(RZ.names.all λx=>!(x.2 == .local) || (RZ.names.lookup x.1 == some .local))=true:=by rfl)
  (hcl:(bJ X.env.cells RZ.names []).isSome=true:=by rfl) (hcap:eW X cap=true:=by rfl) (hloc:eZ X cap RZ=true:=by rfl) (hnd:gq cap=true:=by rfl) (Qw:X.calm=true:=by rfl)
  (hs:∀x,Sz i0 X.env x=pure x:=by intro _;rfl) (hs1:∀(en:Env) x,Sz i1 en x=pure x:=by intro _ _;rfl) (hx:X.N[i]?=some x:=by rfl) (QJ:X.env.scope.names.lookup x=some .local:=by rfl)
  (hsw:VO (.ListComp elt [⟨t0,i0,f0,0⟩,⟨t1,i1,f1,0⟩] RZ pos) (some (.Name x pos')) pos2.line X.env=pure true:=by rfl):jm X c (.Assign [.Name x pos'] (.ListComp elt [⟨t0,i0,f0,0⟩,⟨t1,i1,f1,0⟩] RZ pos) pos2) (aN i (kg own.length cap gi0 gt0 gts0 gi1 gt1 gts1 ge)):=
 ⟨Fi i own cap hN hi.h (λcl C s H fp hc=>let ⟨a,b,d,e,f,g⟩:=hbody cl C s H fp hc;⟨a.h,b.h,d.h,e.h,f.h,g.h⟩) hk hno hnames hcl hcap hloc hnd Qw hs hs1 hx QJ hsw⟩
end
noncomputable def Dv:Sa->Option V
 | .int i _=>some (.int i)
 | .ref a=>some (.ref a)
 | _=>none
noncomputable def kP:List Sa->Option (List V)
 | []=>some []
 | u::us=>match Dv u,kP us with
  | some v,some vs=>some (v::vs)
  | _,_=>none
open Classical in
noncomputable def lS (h:Ui):Hp:=λa=>match h.get? a with
 | some o=>if o.cls=.type "tuple" then (match o.data with
  | .seq R1 _=>(kP R1.toList).map .tup
  | _=>none) else none
 | none=>none
theorem Ie {u:Sa}{v:V}(h:Dv u=some v):RelV v u:=by
 cases u with
 | int i t=>cases h;exact ⟨t,rfl⟩
 | ref a=>cases h;exact rfl
 | _=>cases h
theorem wR:∀{us:List Sa}{vs:List V},kP us=some vs->Vals vs us
 | [],vs,h=>by cases h;exact .nil
 | u::us,vs,h=>by
  unfold kP at h
  cases q:Dv u with
  | none=>rw [q] at h;cases h
  | some v=>
   cases q2:kP us with
   | none=>rw [q,q2] at h;cases h
   | some ws=>rw [q,q2] at h;cases h;exact .cons (Ie q) (wR q2)
theorem iW {h:Ui}{a:Sq}{o:HO}(q:lS h a=some o):∃vs ob R1 n,o=.tup vs/\h.get? a=some ob/\ob.cls=.type "tuple"/\ob.data=.seq R1 n/\Vals vs R1.toList:=by
 unfold lS at q
 split at q
 ·rename_i ob hob
  split at q
  ·rename_i hc
   split at q
   ·rename_i R1 n hd
    cases z:kP R1.toList with
    | none=>rw [z] at q;cases q
    | some vs=>rw [z] at q;cases q;exact ⟨vs,ob,R1,n,rfl,hob,hc,hd,wR z⟩
   ·cases q
  ·cases q
 ·cases q
theorem K_ {h:Ui}{a:Sq}{R1:List Sa}{vs:List V}(p:h.IsTuple a R1.toArray) (q:kP R1=some vs):lS h a=some (.tup vs):=by
 obtain ⟨o,ho,hc,n,hd⟩:=p
 unfold lS
 rw [ho]
 simp only [hc,if_true,hd]
 rw [q];rfl
theorem qp {s:Sd}:HF [] (lS s.heap) s:=by
 refine ⟨λa xs h=>?_,λa xs h=>?_,λa h=>?_,λa ep R7 h=>?_⟩
 ·rcases h with (h | ⟨o,h⟩) | ⟨o,R1,n,h,_⟩
  ·obtain ⟨vs,ob,R1,n,e,h1,h2,h3,h4⟩:=iW h
   cases e
   exact ⟨R1.toList,h4,ob,h1,h2,n,by rw [h3]⟩
  ·obtain ⟨vs,ob,R1,n,e,_⟩:=iW h;cases e
  ·cases h
 ·rcases h with (h | ⟨o,h⟩) | ⟨o,R1,n,h,_⟩
  ·obtain ⟨vs,ob,R1,n,e,_⟩:=iW h;cases e
  ·obtain ⟨vs,ob,R1,n,e,_⟩:=iW h;cases e
  ·cases h
 ·obtain ⟨vs,ob,R1,n,e,_⟩:=iW h;cases e
 ·obtain ⟨vs,ob,R1,n,e,_⟩:=iW h;cases e
theorem zW {K:R_}{J:Hp}:∀{ds:List D}{vs:List V}{us:List Sa},areKeys ds=true->aK K J ds vs->Vals vs us->kP us=some vs
 | _,_,_,_,.nil,.nil=>rfl
 | d::ds,v::vs,u::us,h,.cons r rs,.cons q qs=>by
  unfold areKeys at h
  rw [Sk] at h
  have ih:=zW h.2 rs qs
  have e:Dv u=some v:=by
   cases d with
   | int i=>cases r;obtain ⟨t,rfl⟩:=q;rfl
   | tup xs=>cases r;cases q;rfl
   | _=>cases h.1
  unfold kP
  rw [e,ih]
mutual
theorem lq {K:R_}{J:Hp}{s:Sd}(F:HF K J s):∀{d:D}{v:V},isKey d=true->Rep K J d v->Rep [] (lS s.heap) d v
 | .int i,_,_,.int _=>.int i
 | .tup ds,_,hk,.tup (a:=a) (vs:=vs) h hs=>by
  obtain ⟨R1,r,p⟩:=F.t _ _ h
  exact .tup (.inl (.inl (K_ p (zW hk hs r)))) (zX F hk hs)
 | .non,_,hk,_=>nomatch hk
 | .bl _,_,hk,_=>nomatch hk
 | .str _,_,hk,_=>nomatch hk
 | .lst _,_,hk,_=>nomatch hk
 | .emp,_,hk,_=>nomatch hk
 | .exn _ _ _,_,hk,_=>nomatch hk
 | .dct _ _,_,hk,_=>nomatch hk
theorem zX {K:R_}{J:Hp}{s:Sd}(F:HF K J s):∀{ds:List D}{vs:List V},areKeys ds=true->aK K J ds vs->aK [] (lS s.heap) ds vs
 | [],_,_,.nil=>.nil
 | d::ds,_,h,.cons r rs=>by
  unfold areKeys at h
  rw [Sk] at h
  exact .cons (lq F h.1 r) (zX F h.2 rs)
end
theorem FJ {h h':Ui}{d:Sq}{o:Obj} {es ep}(ho:h.get? d=some o) (hd:o.data=.dict es ep) (sb:T5 d h h'):aW (lS h) (lS h'):=λa x q=>by
 obtain ⟨vs,ob,R1,n,rfl,h1,h2,h3,h4⟩:=iW q
 have hne:a≠d:=by
  rintro rfl
  rw [ho] at h1;cases h1
  rw [hd] at h3;cases h3
 unfold lS at q ⊢
 rw [sb.2 a hne]
 exact q
def KD:Type:={d:D // isKey d=true/\dep d<=8}
noncomputable instance:DecidableEq KD:=λa b=>abR (a=b)
def Dw (A:Td):Prop:=A.units + 16 < Us
noncomputable def oU (prog:Sy) (w:S9):HeapKind prog w KD where
 is:=λh k a=>Rep [] (lS h) k.1 (.ref a)
 hash:=λk=>cB k.1
 draws:=λk=>kK k.1
 room:=Dw
 inj:=fun {h a x y} hx hy=>Yo (Rep.inj (s:=({heap:=h}:Sd)) qp hx hy (by have:=x.2.2;omega) (by have:=y.2.2;omega))
 keeps:=λhx ho hd sb=>Rep.mono (FJ ho hd sb) hx
 pyHash:=fun {A E s k a Q} hu hx q=>vQ k.1 (.ref a) (.ref a) A s qp k.2.1 hx rfl (by have:=k.2.2;unfold Dw at hu;omega) E s Q qp q
 eqBool:=fun {A E s x y a b Q} hu hx hy q=>by
  have h:=nL (s:=s) qp A hx hy rfl rfl (u:=.ref a) (u':=.ref b) (by have:=x.2.2;unfold Dw at hu;omega) (by have:=x.2.2;omega) (by have:=y.2.2;omega)
  refine h _ _ _ _ ?_
  have e:bx x.1 y.1=decide (x=y):=by
   rw [Tp,vq x.2.1 y.2.1,decide_eq_true_eq]
   exact ⟨λz=>Yo z,λz=>congrArg Subtype.val z⟩
  rw [e];exact q
 quiet:=fun {A E s k a Q} hx q=>n5 8 qp ⟨k.1,.ref a,k.2.1,k.2.2,hx,rfl⟩ q
noncomputable def iD:List D->List D->D->Option D
 | k::ks,v::vs,x=>if bx k x=true then some v else iD ks vs x
 | _,_,_=>none
section
variable {K:R_}{J:Hp}{s:Sd}{P:Sy}{w:S9}
theorem Bu (F:HF K J s):∀{ks:List D}{us ws:List V}{es:List YH},areKeys ks=true->(∀k∈ks,∃xs,k=.tup xs)->deps ks<=8->aK K J ks us->ws.length=us.length->XD yt ((cX ks).zip (us.zip ws)) es->
  ∃xs:List (KD×Sq×Sa),es=xs.map (abh (oU P w))/\xs.map (λx=>x.1.1)=ks/\(∀x∈xs,(oU P w).is s.heap x.1 x.2.1)/\Vals ws (xs.map λx=>x.2.2)/\Vals us (xs.map λx=>Wl x.2.1)
 | _,_,[],_,_,_,_,.nil,_,h=>by
  cases h
  exact ⟨[],rfl,rfl,λ_ h=>(nomatch h),.nil,.nil⟩
 | k::ks,u::us,v::ws,es,hk,ht,hd,.cons r rs,hl,h=>by
  unfold areKeys at hk
  rw [Sk] at hk
  unfold deps at hd
  have h:XD yt ((cB k,u,v)::(cX ks).zip (us.zip ws)) es:=h
  cases h with
  | @cons _ e _ es' h1 h2=>
   obtain ⟨xs,e1,e2,e3,e4,e5⟩:=Bu F hk.2 (λk hk=>ht k (Sg _ hk)) (by omega) rs (by simpa using hl) h2
   obtain ⟨xs',rfl⟩:=ht k Si
   obtain ⟨q1,q2,q3⟩:=h1
   obtain ⟨eh,ek,ev⟩:=e
   cases r with
   | tup t1 t2=>
    rename_i a vs
    have q2:ek=.ref a:=q2
    have q1:eh=cB (.tup xs'):=q1
    subst q2;subst q1
    refine ⟨(⟨.tup xs',hk.1,by omega⟩,a,ev)::xs,by rw [e1];rfl,by rw [Sx,e2],λx hx=>?_,.cons q3 e4,.cons rfl e5⟩
    (rcases SD.mp hx with rfl | hx)
    ·exact lq F hk.1 (.tup t1 t2)
    ·exact e3 x hx
 | [],us,v::ws,_,_,_,_,rs,hl,_=>by cases rs;cases hl
 | k::ks,us,[],_,_,_,_,rs,hl,_=>by cases rs;cases hl
theorem Hw {xs:List (KD×Sq×Sa)}{ks:List D}(e:xs.map (λx=>x.1.1)=ks) (nd:ks.Nodup):(xs.map (·.1)).Nodup:=by
 rw [<-e] at nd
 have this:((xs.map (·.1)).map (λk:KD=>k.1)).Nodup:=by rw [S6];exact nd
 exact ab8 (λk:KD=>k.1) (λa b h e=>h (congrArg (λk:KD=>k.1) e)) this
theorem xZ:∀{xs:List (KD×Sq×Sa)}{ks vs:List D}{ws:List V}(k:KD),xs.map (λx=>x.1.1)=ks->aK K J vs ws->Vals ws (xs.map λx=>x.2.2)->
  (∀d,iD ks vs k.1=some d->∃p v,abS xs k=some p/\RelV v p.2/\Rep K J d v)/\(iD ks vs k.1=none->abS xs k=none)
 | [],_,vs,ws,k,e,rs,rv=>by
  subst e
  exact ⟨λd h=>(nomatch h),λ_=>rfl⟩
 | x::xs,_,_,_,k,e,.cons r rs,.cons q rv=>by
  subst e
  obtain ⟨i1,i2⟩:=xZ (xs:=xs) k rfl rs rv
  rw [Sx]
  unfold iD
  by_cases c:x.1=k
  ·have:bx x.1.1 k.1=true:=by rw [c];exact fZ _
   rw [if_pos this]
   have ek:abS (x::xs) k=some x.2:=by unfold abS;rw [List.find?_cons_of_pos (by simpa using c)];rfl
   exact ⟨λd h=>by cases h;exact ⟨x.2,_,ek,q,r⟩,λh=>nomatch h⟩
  ·have:¬bx x.1.1 k.1=true:=λh=>c (Yo ((vq x.1.2.1 k.2.1).mp h))
   rw [if_neg this]
   have ek:abS (x::xs) k=abS xs k:=by unfold abS;rw [List.find?_cons_of_neg (by simpa using c)]
   rw [ek]
   exact ⟨i1,i2⟩
theorem sG {H:Hp}(F:HF K J s) (F':HF K H s){ks vs:List D}{a:Sq}(h:fm K J H a ks vs):∃(xs:List (KD×Sq×Sa)) (us ws:List V),s.heap.DictOfH (oU P w) a xs/\xs.map (λx=>x.1.1)=ks/\aK K J ks us/\aK K J vs ws/\Vals ws (xs.map λx=>x.2.2)/\Vals us (xs.map λx=>Wl x.2.1)/\(a == VJ)=false:=by
 obtain ⟨us,ws,ep,h,hk,hv,ok,hs⟩:=h
 obtain ⟨o,es,h1,h2,h3,h4⟩:=F'.d _ _ _ h
 obtain ⟨xs,e1,e2,e3,e4,e5⟩:=Bu (P:=P) (w:=w) F ok.key ok.tp ok.dp hk (by rw [<-hv.length,<-hk.length,hs.2]) h4
 exact ⟨xs,us,ws,⟨o,es,ep,h1,h2,h3,e1,e3,Hw e2 ok.nd⟩,e2,hk,hv,e4,e5,hs.1⟩
end
noncomputable def fj:D->Bool
 | .tup xs=>areKeys xs && decide (deps xs + 1<=8)
 | _=>false
theorem jw {k:D}(h:fj k=true):∃xs,k=.tup xs/\isKey k=true/\dep k<=8:=by
 cases k with
 | tup xs=>
  unfold fj at h
  rw [Sk] at h
  exact ⟨xs,rfl,h.1,of_decide_eq_true h.2⟩
 | _=>cases h
noncomputable def vX:R->Option (List D×List D)
 | .d (.dct ks vs)=>some (ks,vs)
 | .mo ks vs=>some (ks,vs)
 | .mb ks vs=>some (ks,vs)
 | .mf ks vs=>some (ks,vs)
 | _=>none
noncomputable def iG (x y:R):M R:=match vX x,y with
 | some z,.d k=>if fj k=true then (match iD z.1 z.2 k with
  | some d=>.ok (.d d)
  | none=>.bad) else .bad
 | _,_=>.bad
section
variable {X:Cx}{c:C}{a b:Tc}{ga gb:G R}{pos:Pos}
theorem RR.dk {He J H:Hp}(hp:HI c J H):∀{r:R}{v:V}{z:List D×List D},RR c He J H r v->vX r=some z->∃a,v=.ref a/\fm c.K J H a z.1 z.2
 | .d (.dct ks vs),v,z,h,e=>by
  cases e
  cases h with
  | dct h1 h2 h3 h4 h5=>exact ⟨_,rfl,_,_,_,hp.sub _ _ h1,h2,h3,h4,h5⟩
 | .mo ks vs,v,z,⟨a,h1,h2,_⟩,e=>by cases e;exact ⟨a,h1,h2⟩
 | .mf ks vs,v,z,⟨a,h1,h2,_⟩,e=>by cases e;exact ⟨a,h1,h2⟩
 | .mb ks vs,v,z,⟨a,h1,h2⟩,e=>by cases e;exact ⟨a,h1,h2.mono (aW.refl _) hp.ent⟩
 | .d .non,_,_,_,e=>nomatch e
 | .d (.bl _),_,_,_,e=>nomatch e
 | .d (.int _),_,_,_,e=>nomatch e
 | .d (.str _),_,_,_,e=>nomatch e
 | .d (.tup _),_,_,_,e=>nomatch e
 | .d (.lst _),_,_,_,e=>nomatch e
 | .d .emp,_,_,_,e=>nomatch e
 | .d (.exn _ _ _),_,_,_,e=>nomatch e
 | .l _ _,_,_,_,e=>nomatch e
theorem Mq (hu:X.A.units + 64 < Us):pX X (λx y H Q=>∃J p ks vs k d,aW J H/\x=.ref p/\fm X.K J H p ks vs/\Rep X.K J k y/\fj k=true/\iD ks vs k=some d/\∀v,Rep X.K J d v->Q v H):=by
 intro value slice R0 s σ H x y v u Q I rx ry h hs
 obtain ⟨J,p,ks,vs,k,d,sm,rfl,hd,hk,ok,lk,q⟩:=h
 have F:HF X.K J s:=HF.of (c:=⟨X.K,H,H,λ_=>True⟩) I sm
 obtain ⟨kx,rfl,k1,k2⟩:=jw ok
 obtain ⟨r,rfl⟩:∃r,y=.ref r:=by cases hk;exact ⟨_,rfl⟩
 cases rx
 cases ry
 obtain ⟨xs,us,ws,hm,e2,_,hv,e4,_,hsm⟩:=sG (P:=X.prog) (w:=X.w) F (iz I) hd
 obtain ⟨pp,v,ea,rv,rd⟩:=(xZ ⟨.tup kx,k1,k2⟩ e2 hv e4).1 d lk
 have room:(oU X.prog X.w).room X.A.in1:=by show X.A.units + 1 + 16 < Us;omega
 exact WC (x:=pp.2) hm.typeIs slot_dict_getitem.lookup (wpAny_getItem_heap (Q:=λr s'=>r=pp.2/\EP X R0 σ Q r s') room (lq F k1 hk) hm ea ⟨rfl,v,H,I.tok _,rv,q v rd⟩) hs
theorem gW (hu:X.A.units + 64 < Us) (ha:QD X c a ga) (hb:QD X c b gb) (hK:X.K=c.K:=by rfl) (hs:qV b:=by exact λ_ _=>rfl):QD X c (.Subscript a b pos) (g2 iG ga gb):=have ha:=ha.h;have hb:=hb.h;⟨Jf (Mq hu) (by
 intro He He' J H x y u v Q hp rx ry w
 unfold iG at w
 split at w
 ·rename_i hz
  obtain ⟨p,rfl,hd⟩:=rx.dk hp hz
  split at w
  ·rename_i ok
   split at w
   ·rename_i d hl
    exact ⟨J,p,_,_,_,d,hp.sub,rfl,by rw [hK];exact hd,by rw [hK];exact ry,ok,hl,λv rd=>w v J H (Ext.refl hp.sub) (by rw [hK] at rd;exact rd)⟩
   ·exact w.elim
  ·exact w.elim
 ·exact w.elim) ha hb hs⟩
end
noncomputable def vG:List D->List D->D->D->List D
 | k::ks,v::vs,x,d=>(if bx k x=true then d else v)::vG ks vs x d
 | _,vs,_,_=>vs
def dput (z:List D×List D) (k d:D):List D×List D:=if (iD z.1 z.2 k).isSome=true then (z.1,vG z.1 z.2 k d) else (z.1++[k],z.2++[d])
noncomputable def i_ (ys:List D):List D×List D:=ys.foldl (λz y=>match y with
 | .tup [k,d]=>dput z k d
 | _=>z) ([],[])
theorem oF (ys:List D) (k d:D):i_ (ys++[.tup [k,d]])=dput (i_ ys) k d:=by unfold i_;rw [X6];rfl
inductive dz (K:R_) (J:Hp):List (KD×Sq×Sa)->List D->List V->List D->List V->Prop
 | nil:dz K J [] [] [] [] []
 | cons {x:KD×Sq×Sa}{xs:List (KD×Sq×Sa)}{ks vs:List D}{us ws:List V}{d:D}{v:V}:RelV v x.2.2->Rep K J d v->dz K J xs ks us vs ws->dz K J (x::xs) (x.1.1::ks) (.ref x.2.1::us) (d::vs) (v::ws)
section
variable {K:R_}{J:Hp}{P:Sy}{w:S9}
theorem dz.of:∀{xs:List (KD×Sq×Sa)}{us:List V}{vs:List D}{ws:List V},aK K J vs ws->Vals ws (xs.map λx=>x.2.2)->Vals us (xs.map λx=>Wl x.2.1)->dz K J xs (xs.map λx=>x.1.1) us vs ws
 | [],_,_,_,.nil,.nil,.nil=>.nil
 | x::xs,u::us,_,_,.cons r rs,.cons q qs,.cons p ps=>by
  have:u=.ref x.2.1:=by
   cases u with
   | ref a=>cases p;rfl
   | int i=>obtain ⟨t,h⟩:=p;cases h
   | str i=>obtain ⟨t,h⟩:=p;cases h
   | byt i=>obtain ⟨t,h⟩:=p;cases h
   | flt i=>obtain ⟨t,h⟩:=p;cases h
   | non=>cases p
   | bl b=>cases p
   | ty n=>cases p
  subst this
  exact .cons q r (dz.of rs qs ps)
theorem dz.put {k:KD}{u:Sa}{d:D}{v:V}(rv:RelV v u) (rd:Rep K J d v):∀{xs:List (KD×Sq×Sa)}{ks vs:List D}{us ws:List V},dz K J xs ks us vs ws->∃ws',dz K J (xs.map (putAt k u)) ks us (vG ks vs k.1 d) ws'
 | _,_,_,_,_,.nil=>⟨[],.nil⟩
 | x::xs,_,_,_,_,.cons q r t=>by
  obtain ⟨ws',ih⟩:=dz.put rv rd t
  rw [Sx]
  unfold vG
  by_cases c:x.1=k
  ·have:bx x.1.1 k.1=true:=by rw [c];exact fZ _
   rw [if_pos this]
   have e:putAt k u x=(x.1,x.2.1,u):=by unfold putAt;rw [if_pos c]
   rw [e]
   exact ⟨v::ws',.cons (x:=(x.1,x.2.1,u)) rv rd ih⟩
  ·have:¬bx x.1.1 k.1=true:=λh=>c (Yo ((vq x.1.2.1 k.2.1).mp h))
   rw [if_neg this]
   have e:putAt k u x=x:=by unfold putAt;rw [if_neg c]
   rw [e]
   exact ⟨_,.cons q r ih⟩
theorem dz.snoc {k:KD}{a:Sq}{u:Sa}{d:D}{v:V}(rv:RelV v u) (rd:Rep K J d v):∀{xs:List (KD×Sq×Sa)}{ks vs:List D}{us ws:List V},dz K J xs ks us vs ws->dz K J (xs++[(k,a,u)]) (ks++[k.1]) (us++[.ref a]) (vs++[d]) (ws++[v])
 | _,_,_,_,_,.nil=>.cons (x:=(k,a,u)) rv rd .nil
 | _,_,_,_,_,.cons q r t=>.cons q r (dz.snoc rv rd t)
theorem dz.ents:∀{xs:List (KD×Sq×Sa)}{ks vs:List D}{us ws:List V},dz K J xs ks us vs ws->XD yt ((cX ks).zip (us.zip ws)) (xs.map (abh (oU P w)))
 | _,_,_,_,_,.nil=>.nil
 | _,_,_,_,_,.cons q r t=>.cons ⟨rfl,rfl,q⟩ t.ents
theorem dz.reps:∀{xs:List (KD×Sq×Sa)}{ks vs:List D}{us ws:List V},dz K J xs ks us vs ws->aK K J vs ws
 | _,_,_,_,_,.nil=>.nil
 | _,_,_,_,_,.cons q r t=>.cons r t.reps
theorem dz.keys:∀{xs:List (KD×Sq×Sa)}{ks vs:List D}{us ws:List V},dz K J xs ks us vs ws->xs.map (λx=>x.1.1)=ks
 | _,_,_,_,_,.nil=>rfl
 | _,_,_,_,_,.cons q r t=>by rw [Sx,t.keys]
theorem dz.len:∀{xs:List (KD×Sq×Sa)}{ks vs:List D}{us ws:List V},dz K J xs ks us vs ws->ks.length=vs.length
 | _,_,_,_,_,.nil=>rfl
 | _,_,_,_,_,.cons q r t=>by rw [Uh,Uh,t.len]
theorem rL:∀{xs ys:List D},areKeys (xs++ys)=(areKeys xs && areKeys ys)
 | [],_=>rfl
 | x::xs,ys=>by
  show (isKey x && areKeys (xs++ys))=((isKey x && areKeys xs) && areKeys ys)
  rw [rL,Bool.and_assoc]
theorem yZ:∀{xs ys:List D}{n:Nat},deps xs<=n->deps ys<=n->deps (xs++ys)<=n
 | [],_,_,_,h=>h
 | x::xs,ys,n,h1,h2=>by
  unfold deps at h1
  have:=yZ (xs:=xs) (ys:=ys) (n:=n) (by omega) h2
  show max (dep x) (deps (xs++ys))<=n
  omega
theorem aK.snoc {ds:List D}{vs:List V}{d:D}{v:V}(h:aK K J ds vs) (r:Rep K J d v):aK K J (ds++[d]) (vs++[v]):=h.append (.cons r .nil)
end
section
variable {X:Cx}
theorem BS {R0:List (Sq×Obj)}{s:Sd}{σ:L2.St}{H J:Hp}(I:Inv X R0 σ H s) (sub:aW J H){p:Sq}{ks vs:List D}(h:fm X.K J H p ks vs):
  ∃xs:List (KD×Sq×Sa),s.heap.DictOfH (oU X.prog X.w) p xs/\xs.length=ks.length/\∀{kxs:List D}{a:Sq}{d:D}{v:V}{u:Sa}(k1:isKey (.tup kxs)=true) (k2:dep (.tup kxs)<=8),Rep X.K J (.tup kxs) (.ref a)->Rep X.K J d v->RelV v u->
   ∀(h':Ui) (tk:Nat),h'.DictOfH (oU X.prog X.w) p (storedH xs ⟨.tup kxs,k1,k2⟩ a u)->T5 p s.heap h'->
    ∃o,Inv X R0 σ (upd H p o) {s with heap:=h',toks:=tk}/\fm X.K J (upd H p o) p (dput (ks,vs) (.tup kxs) d).1 (dput (ks,vs) (.tup kxs) d).2/\(dput (ks,vs) (.tup kxs) d).1.length<=ks.length + 1:=by
 have F:HF X.K J s:=HF.of (c:=⟨X.K,H,H,λ_=>True⟩) I sub
 obtain ⟨xs,us,ws,hm,q2,h3,h4,q4,q5,h7⟩:=sG (P:=X.prog) (w:=X.w) F (iz I) h
 obtain ⟨_,_,_,p9,_,_,h5,_⟩:=h
 have rows:dz X.K J xs ks us vs ws:=by
  have:=dz.of h4 q4 q5
  rw [q2] at this
  exact this
 refine ⟨xs,hm,by rw [<-q2,Sh],fun {kxs a d v u} k1 k2 rk rd r9 h' tk hm' sb=>?_⟩
 obtain ⟨o',es',ep',g1',g2'',g3',g4',g5',g6'⟩:=hm'
 obtain ⟨l1,l2⟩:=xZ (K:=X.K) (J:=J) ⟨.tup kxs,k1,k2⟩ q2 h4 q4
 have key:∃us' ws',dz X.K J (storedH xs ⟨.tup kxs,k1,k2⟩ a u) (dput (ks,vs) (.tup kxs) d).1 us' (dput (ks,vs) (.tup kxs) d).2 ws'/\aK X.K J (dput (ks,vs) (.tup kxs) d).1 us'/\areKeys (dput (ks,vs) (.tup kxs) d).1=true/\deps (dput (ks,vs) (.tup kxs) d).1<=8/\(∀k∈(dput (ks,vs) (.tup kxs) d).1,∃xs,k=.tup xs)/\(dput (ks,vs) (.tup kxs) d).1.length<=ks.length + 1:=by
  unfold dput
  cases lk:iD ks vs (.tup kxs) with
  | some z=>
   obtain ⟨pp,v,ea,_,_⟩:=l1 z lk
   rw [storedH_old ea]
   obtain ⟨ws',t⟩:=dz.put (k:=⟨.tup kxs,k1,k2⟩) r9 rd rows
   exact ⟨us,ws',t,h3,h5.key,h5.dp,h5.tp,VF _⟩
  | none=>
   rw [storedH_new (l2 lk)]
   refine ⟨us++[.ref a],ws++[v],dz.snoc (k:=⟨.tup kxs,k1,k2⟩) r9 rd rows,h3.snoc rk,?_,yZ h5.dp (by show max (dep (.tup kxs)) 0<=8;omega),λk hk=>?_,by simp⟩
   ·show areKeys (ks++[.tup kxs])=true
    rw [rL,h5.key]
    show (true && (isKey (.tup kxs) && true))=true
    rw [k1];rfl
   ·rcases SN.mp hk with h | h
    ·exact h5.tp k h
    ·exact ⟨kxs,So.mp h⟩
 obtain ⟨us',ws',t,tk',kk,kd,kt,kl⟩:=key
 have nd':(dput (ks,vs) (.tup kxs) d).1.Nodup:=by
  rw [<-t.keys]
  have:((storedH xs ⟨.tup kxs,k1,k2⟩ a u).map (·.1)).Nodup:=g6'
  have h:=acO (S:=(·≠·)) (λk:KD=>k.1) (λa b (h:a≠b) e=>h (Yo e)) this
  rw [S6] at h
  exact h
 refine ⟨lI p ep' ((cX (dput (ks,vs) (.tup kxs) d).1).zip (us'.zip ws')),I.write (e:=p) (by rw [p9];trivial) (.inl rfl) (λb u hb q=>by rw [sb.2 b hb];exact q) ⟨_,g1'⟩ ⟨⟨o',es',g1',g2'',g3',by rw [g4'];exact t.ents⟩,⟨_,g1'⟩,?_⟩,⟨us',ws',ep',cO,tk',t.reps,⟨kk,nd',kd,kt⟩,h7,t.len⟩,kl⟩
 rintro h1 h2 ⟨o,es,a1,a2⟩ e
 exact ⟨o,es,e o a1,a2⟩
end
def Cs (c:C) (p:Sq):Hp->Hp->List D->Prop:=λJ H ys=>fm c.K J H p (i_ ys).1 (i_ ys).2/\J p=none/\(i_ ys).1.length<=ys.length
theorem sq {c:C}{p:Sq}:yl (Cs c p):=⟨fun {J H J' H' ys} ⟨h1,h2,h3⟩ e=>⟨h1.mono e.j e.h,e.frz _ h1.ne h2,h3⟩⟩
noncomputable def sy (gk gv:G R):Ev->M (List D×Ev):=λe=>gk e >>= λr=>toD r >>= λk=>gv e >>= λr2=>toD r2 >>= λd=>if fj k=true then .ok ([.tup [k,d]],e) else .bad
abbrev Dq (kx vx:Tc) (p:Sq) (env:Env):Sem Unit:=do
 let kv <-eval kx env
 let vv <-holding [kv] (eval vx env)
 VB {kx.pos with endLine:=vx.pos.endLine,endCol:=vx.pos.endCol}
 holding [kv,vv] (dictSet p kv vv)
section
variable {X:Cx}{c:C}{p:Sq}{J2 H2:Hp}{kx vx:Tc}{gk gv:G R}
theorem Bm (hu:X.A.units + 64 < Us) (hK:X.K=c.K) (hx:∀v s,X.xe v s->False) (hp2:H2 p=none) (hp0:c.H0 p=none) (hk:PD X c kx gk) (hv:PD X c vx gv):uV X c p (Cs c p) J2 H2 1 (Dq kx vx p X.env) (sy gk gv):=by
 intro R0 s σ H J env ys Qf I x2 sr no ⟨h1,h2,h8⟩ hl w
 refine R9 (Tr (hk _ s σ H (λv H8=>∃J8 k,Ext J H J8 H8/\Rep c.K J8 k v/\dg (gv env >>= λr2=>toD r2 >>= λd=>if fj k=true then M.ok ([.tup [k,d]],env) else .bad) Qf c.T) I ⟨J,env,sr,aG (aL w) λr wr v J8 H8 e8 r8=>?_⟩) (λu8 s8 ⟨v8,H8,I8,r8,J8,k,e8,rk,w8⟩=>?_) λv s f=>(hx v s f).elim)
 ·obtain ⟨y,q,wr⟩:=jf wr
  obtain ⟨J9,e9,_,ry⟩:=freeze e8 r8 q
  exact ⟨J9,y,e9,ry,wr⟩
 refine R9 (Te (Tr (hv _ s8 σ H8 (λv H9=>∃J9 d,Ext J8 H8 J9 H9/\Rep c.K J9 d v/\dg (if fj k=true then M.ok ([.tup [k,d]],env) else .bad) Qf c.T) I8 ⟨J8,env,sr.ext e8,aG (aL w8) λr wr v J9 H9 e9 r9=>?_⟩) (λu9 s9 ⟨v9,H9,I9,r9,J9,d,e9,rd,w9⟩=>?_) λv s f=>(hx v s f).elim))
 ·obtain ⟨y,q,wr⟩:=jf wr
  obtain ⟨J9',e9',_,ry⟩:=freeze e9 r9 q
  exact ⟨J9',y,e9',ry,wr⟩
 refine R9 (UC (Te ?_))
 by_cases ok:fj k=true
 case neg=>rw [if_neg ok] at w9;exact w9.elim
 rw [if_pos ok] at w9
 have w9:Qf ([.tup [k,d]],env):=w9
 obtain ⟨kxs,rfl,k1,k2⟩:=jw ok
 have ee:=e8.trans e9
 have rk9:=rk.mono e9.j
 obtain ⟨a,rfl⟩:∃a,v8=.ref a:=by cases rk;exact ⟨_,rfl⟩
 cases r8
 have J9p:J9 p=none:=ee.frz _ h1.ne h2
 rw [<-hK] at rk9 rd
 have h9:=h1.mono ee.j ee.h
 rw [<-hK] at h9
 obtain ⟨xs,hm,lx,put⟩:=BS I9 ee.sub h9
 refine wpAny_dictSet_heap (knd:=oU X.prog X.w) (k:=⟨.tup kxs,k1,k2⟩) (show X.A.units + 16 < Us by omega) (lq (HF.of (c:=⟨X.K,H9,H9,λ_=>True⟩) I9 ee.sub) k1 rk9) hm (λh' hm' sb=>?_) (by rw [lx];omega)
 obtain ⟨o,W,hd,kl⟩:=put k1 k2 rk9 rd r9 h' _ hm' sb
 refine ⟨σ,_,J9,([.tup [.tup kxs,d]],env),W,(x2.trans ee).other hp2 J9p,ee.j,(sr.ext ee).other J9p hp0 no,no,⟨by rw [oF,<-hK];exact hd,J9p,?_⟩,Sl _,w9⟩
 rw [oF,SO];exact S5 kl (Nat.add_le_add_right h8 1)
end
noncomputable def kX (n:Nat) (cap:List Nat) (gi0:G (List D)) (gt0:GT) (gts0:G Bool) (gi1:G (List D)) (gt1:GT) (gts1:G Bool) (gk gv:G R):G R:=ju 10000 n cap gi0 gt0 gts0 (jo gi1 gt1 gts1 (sy gk gv)) (λys=>.ok (.d (.dct (i_ ys).1 (i_ ys).2)))
theorem Lp (kx vx t0 i0 t1 i1:Tc) (f0 f1:List Tc) (RZ:Vc) (pos:Pos) (it acc:Sa) (env:Env):
  WQ (.DictComp kx vx [⟨t0,i0,f0,0⟩,⟨t1,i1,f1,0⟩] RZ pos) 0 it acc env=(do
   VB i0.pos
   match <-WA it with
   | none=>pure (.done .next)
   | some v=>
    U5 t0 it v
    assign t0 env v
    let mut ok:=true
    for c in f0 do
     if ok then ok <-Zb c env (eval c env)
    if ok then
     let x <-eval i1 env
     VB i1.pos
     let x <-Sz i1 env x
     let _ <-runOwn (.compStart (.DictComp kx vx [⟨t0,i0,f0,0⟩,⟨t1,i1,f1,0⟩] RZ pos) 1 (<-holding [x] (XH x)) acc env) env
    again (.compLoop (.DictComp kx vx [⟨t0,i0,f0,0⟩,⟨t1,i1,f1,0⟩] RZ pos) 0 it acc env)):=by rfl
theorem NN (kx vx t0 i0 t1 i1:Tc) (f0 f1:List Tc) (RZ:Vc) (pos:Pos) (it acc:Sa) (env:Env):
  WQ (.DictComp kx vx [⟨t0,i0,f0,0⟩,⟨t1,i1,f1,0⟩] RZ pos) 0 it acc env=mY t0 i0 f0 it env (sJ (.DictComp kx vx [⟨t0,i0,f0,0⟩,⟨t1,i1,f1,0⟩] RZ pos) i1 acc env) (again (.compLoop (.DictComp kx vx [⟨t0,i0,f0,0⟩,⟨t1,i1,f1,0⟩] RZ pos) 0 it acc env)):=by
 rw [Lp]
 refine bind_congr λ_=>bind_congr λr=>?_
 cases r with
 | none=>rfl
 | some v=>
  refine bind_congr λ_=>bind_congr λ_=>bind_congr λok=>?_
  cases ok with
  | false=>rfl
  | true=>simp only [sJ,bind_assoc,pure_bind,if_true]
theorem NO (kx vx t0 i0 t1 i1:Tc) (f0 f1:List Tc) (RZ:Vc) (pos:Pos) (it:Sa) (p:Sq) (env:Env):
  WQ (.DictComp kx vx [⟨t0,i0,f0,0⟩,⟨t1,i1,f1,0⟩] RZ pos) 1 it (.ref p) env=mY t1 i1 f1 it env (Dq kx vx p env) (again (.compLoop (.DictComp kx vx [⟨t0,i0,f0,0⟩,⟨t1,i1,f1,0⟩] RZ pos) 1 it (.ref p) env)):=by rfl
section
variable {X:Cx}{c:C}
theorem L5 (hu:X.A.units + 64 < Us) (hK:X.K=c.K) (own:List Str) (cap:List Nat){kx vx t0 i0 t1 i1:Tc}{f0 f1:List Tc}{RZ:Vc}{pos:Pos}{gi0 gi1:G (List D)}{gt0 gt1:GT}{gts0 gts1:G Bool}{gk gv:G R}(hi:pZ X c t0 i0 gi0)
  (hbody:∀(cl:List (Str×Sq)) (C:Sq) (s:Sd) (H:Hp) (fp:List Sq),bJ X.env.cells RZ.names []=some cl->jl (aZ X own cap RZ cl C s H fp) c t0 gt0/\gX (aZ X own cap RZ cl C s H fp) c f0 gts0/\yD (aZ X own cap RZ cl C s H fp) c t1 i1 gi1/\jl (aZ X own cap RZ cl C s H fp) c t1 gt1/\gX (aZ X own cap RZ cl C s H fp) c f1 gts1/\PD (aZ X own cap RZ cl C s H fp) c kx gk/\PD (aZ X own cap RZ cl C s H fp) c vx gv)
  (hk:RZ.kind=.function:=by rfl) (hno:fR X cap RZ=true:=by rfl) (hnames:(RZ.names.all λx=>!(x.2 == .local) || (RZ.names.lookup x.1 == some .local))=true:=by rfl)
  (hcl:(bJ X.env.cells RZ.names []).isSome=true:=by rfl) (hcap:eW X cap=true:=by rfl) (hloc:eZ X cap RZ=true:=by rfl) (hnd:gq cap=true:=by rfl) (Qw:X.calm=true:=by rfl)
  (hs:∀x,Sz i0 X.env x=pure x:=by intro _;rfl) (hs1:∀(en:Env) x,Sz i1 en x=pure x:=by intro _ _;rfl)
  {R0:List (Sq×Obj)}{s:Sd}{σ:L2.St}{H:Hp}{Q:VK}{use:Option (Sa->Sem Unit)}{Q0:Sa->Sd->Prop}{pos':Pos}(I:Inv X R0 σ H s) (h:tD c (kX own.length cap gi0 gt0 gts0 gi1 gt1 gts1 gk gv) σ H Q)
  (QC:∀(acc C:Sq) (m:Str->Option Sa) (s':Sd) (H':Hp) (fl:Flow),s'.heap.Ns C m->((C∈X.ex\/X.s₀.heap.objs.size<=C)/\C≠X.env.locals/\(∀x c,X.env.cells.lookup x=some c->c≠C)/\∀p∈X.pn++R0,p.1≠C)->H' C=none->(∀h'',T5 C s'.heap h''->Inv X R0 σ H' {s' with heap:=h''})->Q (.ref acc) H'->ZO (SM X.prog X.w) X.A X.xe use Q0 (.ref acc) C (.ok fl) s'):
  SH (SM X.prog X.w) X.A (comprehension (.DictComp kx vx [⟨t0,i0,f0,0⟩,⟨t1,i1,f1,0⟩] RZ pos) RZ X.env pos' newDict false (eval i0 X.env) use) Q0 X.xe s:=by
 refine oE (e:=.DictComp kx vx [⟨t0,i0,f0,0⟩,⟨t1,i1,f1,0⟩] RZ pos) (ob:={cls:=.type "dict",data:=.dict #[]}) (o0:=λa=>lI a 0 []) (Acc:=Cs c) (N:=1000 * 1) (lim:=10000) (m:=λp env=>sJ (.DictComp kx vx [⟨t0,i0,f0,0⟩,⟨t1,i1,f1,0⟩] RZ pos) i1 (.ref p) env) own cap rfl hi
  (λs Q E q=>Tg q) (λh H=>⟨⟨_,#[],Sw _ rfl,⟨rfl,rfl,rfl⟩,rfl,.nil⟩,⟨_,Sw _ rfl⟩,λh1 h2 ⟨o,es,a1,a2⟩ e=>⟨o,es,e o a1,a2⟩⟩) (λp=>sq) (λp J H hsm h1 h2=>⟨⟨[],[],0,h1,.nil,.nil,⟨rfl,U4,SQ _,λ_ h=>(nomatch h)⟩,beq_eq_false_iff_ne.mpr (Vt (S4 hsm)),rfl⟩,h2,Sl _⟩) (by decide) (λit p env=>Dd (NN ..)) (λit acc env R s h0 h=>YB h0 h) (λys z q=>by cases q)
  (fun {p J H J' H' ys r} hp e ⟨⟨us,ws,ep,h1,h3,h4,h5,h7⟩,h2,h8⟩ q=>by
   cases q
   have s1:aW J' (upd J' p (lI p ep ((cX (i_ ys).1).zip (us.zip ws)))):=dH h2 _
   refine ⟨upd J' p (lI p ep ((cX (i_ ys).1).zip (us.zip ws))),⟨e.h,e.j.trans s1,λa o q=>?_,λa ha ja=>?_⟩,.dct cO (h3.mono s1) (h4.mono s1) h5 h7⟩
   ·by_cases z:a=p
    ·subst z;rw [cO] at q;cases q;exact h1
    ·rw [bI z] at q;exact e.sub _ _ q
   ·have:a≠p:=λz=>ha (z▸hp)
    rw [bI this];exact e.frz a ha ja) (λcl C s H fp hcc=>?_) hk hno hnames hcl hcap hloc hnd Qw hs I h QC
 obtain ⟨b1,b2,b3,b4,b5,b6,b7⟩:=hbody cl C s H fp hcc
 refine ⟨b1,b2,λp J2 H2 hp2 hp0=>?_⟩
 exact Bl sq Qw (λ_ _ f=>f) (λx=>hs1 _ x) (λit R s h0 h=>NG h0 h) (λit=>Dd (NO ..)) b3 b4 b5 (Bm hu hK (λ_ _ f=>f) hp2 hp0 b6 b7)
theorem Fo (hu:X.A.units + 64 < Us) (own:List Str) (cap:List Nat){kx vx t0 i0 t1 i1:Tc}{f0 f1:List Tc}{RZ:Vc}{pos:Pos}{gi0 gi1:G (List D)}{gt0 gt1:GT}{gts0 gts1:G Bool}{gk gv:G R}(hi:pZ X c t0 i0 gi0)
  (hbody:∀(cl:List (Str×Sq)) (C:Sq) (s:Sd) (H:Hp) (fp:List Sq),bJ X.env.cells RZ.names []=some cl->jl (aZ X own cap RZ cl C s H fp) c t0 gt0/\gX (aZ X own cap RZ cl C s H fp) c f0 gts0/\yD (aZ X own cap RZ cl C s H fp) c t1 i1 gi1/\jl (aZ X own cap RZ cl C s H fp) c t1 gt1/\gX (aZ X own cap RZ cl C s H fp) c f1 gts1/\PD (aZ X own cap RZ cl C s H fp) c kx gk/\PD (aZ X own cap RZ cl C s H fp) c vx gv)
  (hk:RZ.kind=.function:=by rfl) (hno:fR X cap RZ=true:=by rfl) (hnames:(RZ.names.all λx=>!(x.2 == .local) || (RZ.names.lookup x.1 == some .local))=true:=by rfl)
  (hcl:(bJ X.env.cells RZ.names []).isSome=true:=by rfl) (hcap:eW X cap=true:=by rfl) (hloc:eZ X cap RZ=true:=by rfl) (hnd:gq cap=true:=by rfl) (Qw:X.calm=true:=by rfl)
  (hs:∀x,Sz i0 X.env x=pure x:=by intro _;rfl) (hs1:∀(en:Env) x,Sz i1 en x=pure x:=by intro _ _;rfl) (hK:X.K=c.K:=by rfl):PD X c (.DictComp kx vx [⟨t0,i0,f0,0⟩,⟨t1,i1,f1,0⟩] RZ pos) (kX own.length cap gi0 gt0 gts0 gi1 gt1 gts1 gk gv):=by
 intro R0 s σ H Q I h
 rw [arm_eval_DictComp]
 exact L5 hu hK own cap hi hbody hk hno hnames hcl hcap hloc hnd Qw hs hs1 I h λacc C m s' H' fl hm hz hf hb q=>⟨m,hm,λh'' sb=>⟨.ref acc,H',hb h'' sb,rfl,q⟩⟩
theorem uy (hu:X.A.units + 64 < Us) (own:List Str) (cap:List Nat){kx vx t0 i0 t1 i1:Tc}{f0 f1:List Tc}{RZ:Vc}{pos:Pos}{gi0 gi1:G (List D)}{gt0 gt1:GT}{gts0 gts1:G Bool}{gk gv:G R}(hi:rK X c t0 i0 gi0)
  (hbody:∀(cl:List (Str×Sq)) (C:Sq) (s:Sd) (H:Hp) (fp:List Sq),bJ X.env.cells RZ.names []=some cl->lF (aZ X own cap RZ cl C s H fp) c t0 gt0/\kC (aZ X own cap RZ cl C s H fp) c f0 gts0/\yF (aZ X own cap RZ cl C s H fp) c t1 i1 gi1/\lF (aZ X own cap RZ cl C s H fp) c t1 gt1/\kC (aZ X own cap RZ cl C s H fp) c f1 gts1/\QD (aZ X own cap RZ cl C s H fp) c kx gk/\QD (aZ X own cap RZ cl C s H fp) c vx gv)
  (hk:RZ.kind=.function:=by rfl) (hno:fR X cap RZ=true:=by rfl) (hnames:(RZ.names.all λx=>!(x.2 == .local) || (RZ.names.lookup x.1 == some .local))=true:=by rfl)
  (hcl:(bJ X.env.cells RZ.names []).isSome=true:=by rfl) (hcap:eW X cap=true:=by rfl) (hloc:eZ X cap RZ=true:=by rfl) (hnd:gq cap=true:=by rfl) (Qw:X.calm=true:=by rfl)
  (hs:∀x,Sz i0 X.env x=pure x:=by intro _;rfl) (hs1:∀(en:Env) x,Sz i1 en x=pure x:=by intro _ _;rfl) (hK:X.K=c.K:=by rfl):QD X c (.DictComp kx vx [⟨t0,i0,f0,0⟩,⟨t1,i1,f1,0⟩] RZ pos) (kX own.length cap gi0 gt0 gts0 gi1 gt1 gts1 gk gv):=
 ⟨Fo hu own cap hi.h (λcl C s H fp hc=>let ⟨a,b,d,e,f,g,h⟩:=hbody cl C s H fp hc;⟨a.h,b.h,d.h,e.h,f.h,g.h,h.h⟩) hk hno hnames hcl hcap hloc hnd Qw hs hs1 hK⟩
end
noncomputable def lexLe:List Int->List Int->Bool
 | [],_=>true
 | _::_,[]=>false
 | x::xs,y::ys=>if x=y then lexLe xs ys else decide (x<=y)
theorem kL (x y:Int) (xs ys:List Int):lexLe (x::xs) (y::ys)=if x=y then lexLe xs ys else decide (x<=y):=rfl
theorem pP:lexLe [] []=true:=rfl
theorem vB (y:Int) (ys:List Int):lexLe [] (y::ys)=true:=rfl
theorem vA (x:Int) (xs:List Int):lexLe (x::xs) []=false:=rfl
theorem Ig (A:Td) (s:Sd) (a:Int) (t:Tok) (c:Int) (u:Tok) (prog:Sy) (w:S9) (E:Sa->Sd->Prop) (Q:Sa->Sd->Prop) (h:Q (.bool (decide (a<=c))) s):
  SH (SM prog w) A (richCompare .LtE (.int a t) (.int c u)) Q E s:=
 (acA h:SH (SM prog w) A (Uw .LtE (.int a t) (.int c u)) Q E s)
section
open PySem.SeqAt
open PySem.AutoSeq1 (wpAny_loadPart')
open PySem.MeetsSeq PySem.MeetsSeq2 PySem.MeetsSeq3
theorem xW (l b:Sq) (items R6:Array Sa) (n n2:Nat) (dd dd2:Option Sq) (sl sl2:Array (Option Sa)) (ns ms:List Int) (hi:Wc items.toList ns) (hj:Wc R6.toList ms):
  Meets (WX.«tuple.__le__» ⟨[.ref l,.ref b],[]⟩)
   (λ_ R s=>s.heap.get? l=some {cls:=.type "tuple",dict:=dd,data:=.seq items n,slots:=sl}/\s.heap.get? b=some {cls:=.type "tuple",dict:=dd2,data:=.seq R6 n2,slots:=sl2}/\
    R (.ok (.ret (.bool (lexLe ns ms)))) s):=
 .of_wp λprog w A R s h=>by
  obtain ⟨hp,g,d,tk,os⟩:=s;obtain ⟨hl,hb,h⟩:=h
  have f2:=Wi
  have z1:items.size=ns.length:=by rw [<-hi.length];simp
  have z2:R6.size=ms.length:=by rw [<-hj.length];simp
  wp_walk using U8 hl,U8 hb,Vf _ (λrest b s'=>b.1=none/\s'=⟨hp,g,d,tk,os⟩/\∃(vs ws:List Sa) (ns' ms':List Int),rest=vs.zip ws/\
   Wc vs ns'/\Wc ws ms'/\ns'.length + R6.size=ms'.length + items.size/\R (.ok (.ret (.bool (lexLe ns' ms')))) ⟨hp,g,d,tk,os⟩) _
  case turn=>
   rintro ⟨y,x⟩ rest b s' ⟨hb',rfl,vs,ws,ns',ms',hz,Rt,hwi,hlen,hR⟩
   cases Rt with
   | nil=>rw [List.zip_nil_left] at hz;cases hz
   | cons a t Ru=>
    cases hwi with
    | nil=>rw [List.zip_nil_right] at hz;cases hz
    | cons c u Rv=>
     rw [Xs] at hz
     injection hz with hyx hrest
     injection hyx with hy hx
     subst hy hx
     rw [kL] at hR
     simp only [Uh] at hlen
     obtain ⟨e,he,hiff⟩:=HT.GQ A.in1 ⟨hp,g,d,tk,os⟩ a t c u
     refine R9 (he prog w _ _ ?_)
     cases e with
     | true=>
      rw [if_pos (hiff.mp rfl)] at hR
      wp_walk
      exact ⟨rfl,rfl,_,_,_,_,hrest,Ru,Rv,by omega,hR⟩
     | false=>
      rw [if_neg (λq=>absurd (hiff.mpr q) S_)] at hR
      have Rr:=Ig A.in1 ⟨hp,g,d,tk,os⟩ a t c u prog w
      wp_walk using Rr
      exact ⟨_,rfl,by simpa using hR⟩
  case fin=>
   rintro ⟨b1,b2⟩ s' ⟨hb',rfl,vs,ws,ns',ms',hz,Rt,hwi,hlen,hR⟩
   simp only at hb'
   subst hb'
   have hv:lexLe ns' ms'=decide (items.size<=R6.size):=by
    cases Rt with
    | nil=>
     cases hwi with
     | nil=>
      simp only [Xk] at hlen
      rw [pP]
      exact (decide_eq_true (by omega)).symm
     | cons c u hw=>
      simp only [Xk,Uh] at hlen
      rw [vB]
      exact (decide_eq_true (by omega)).symm
    | cons a t hv=>
     cases hwi with
     | nil=>
      simp only [Xk,Uh] at hlen
      rw [vA]
      exact (decide_eq_false (by omega)).symm
     | cons c u hw=>
      rw [Xs] at hz
      cases hz
   rw [hv] at hR
   wp_walk
   exact ⟨_,rfl,by simpa [WI] using hR⟩
  case h=>
   exact ⟨rfl,rfl,items.toList,R6.toList,ns,ms,rfl,hi,hj,by omega,h⟩
end
section
variable {prog:Sy}{w:S9}{A:Td}{E:Sa->Sd->Prop}{s:Sd}
theorem CZ {l b:Sq}{items R6:Array Sa}{ns ms:List Int}{Q:Sa->Sd->Prop}(hl:ab9 s.heap l items) (hb:ab9 s.heap b R6) (hi:Wc items.toList ns) (hj:Wc R6.toList ms)
  (hu:A.units < Us) (h:Q (.bool (lexLe ns ms)) s):SH (SM prog w) A (Uw .LtE (.ref l) (.ref b)) Q E s:=by
 obtain ⟨⟨cls,dd,data,sl⟩,ho,hc,n,hd⟩:=id hl
 obtain ⟨⟨cls2,dd2,data2,sl2⟩,ho2,hc2,n2,hd2⟩:=id hb
 simp only at hc hd hc2 hd2
 subst hc hd hc2 hd2
 exact Yy (op:=.LtE) ⟨_,ho,rfl⟩ ⟨_,ho2,rfl⟩ PySem.F.slot_tuple_le PySem.F.entry_tuple_le (PySem.F.args_tuple_le_2 _ _) (xW l b items R6 n n2 dd dd2 sl sl2 ns ms hi hj)
  ⟨ho,ho2,show Ve (lexLe ns ms)≠Y9/\Q (.bool (lexLe ns ms)) s from ⟨(λx=>nomatch x),h⟩⟩ hu
end
section
variable {X:Cx}{c:C}{a b e:Tc}{ga gb:G R}{pos pos2:Pos}
theorem MP (hu:X.A.units < Us):dY X (Uw .LtE) (λx y H Q=>∃a b ns ms,x=.ref a/\y=.ref b/\dQ X.K H a (ns.map V.int)/\dQ X.K H b (ms.map V.int)/\Q (.bl (lexLe ns ms)) H):=by
 intro R0 s σ H x y v u Q I rx ry h
 obtain ⟨a,b,ns,ms,rfl,rfl,ha,hb,q⟩:=h
 cases rx
 cases ry
 obtain ⟨R1,r1,p1,_⟩:=I.tuple ha
 obtain ⟨its2,r2,p2,_⟩:=I.tuple hb
 exact CZ p1 p2 (L2.intsAre_of r1:Wc R1.toArray.toList ns) (L2.intsAre_of r2:Wc its2.toArray.toList ms) hu ⟨.bl (lexLe ns ms),H,I,rfl,q⟩
noncomputable def zd:R->R->M R
 | .d (.tup xs),.d (.tup ys)=>match intsOf xs,intsOf ys with
  | some ns,some ms=>.ok (.d (.bl (lexLe ns ms)))
  | _,_=>.bad
 | _,_=>.bad
theorem K4 (hu:X.A.units + 64 < Us) (ha:QD X c a ga) (hb:QD X c b gb) (hK:X.K=c.K:=by rfl):QB X c (.Compare a [.LtE] [b] pos) (aV (g2 zd ga gb)):=have ha:=ha.h;have hb:=hb.h;⟨jx (MP (by omega)) (by
 intro He He' J H x y u v Q hp rx ry w
 unfold zd at w
 split at w
 ·cases rx with
  | tup h1 s1=>
   cases ry with
   | tup h2 s2=>
    split at w
    ·rename_i ns ms z1 z2
     have e1:=oS z1 s1
     have e2:=oS z2 s2
     subst e1 e2
     exact ⟨_,_,ns,ms,rfl,rfl,by rw [hK];exact gj hp.sub h1,by rw [hK];exact gj hp.sub h2,w _ J H (Ext.refl hp.sub) (.bl _)⟩
    ·exact w.elim
 ·exact w.elim) ha hb⟩
end
theorem ve (gt:GT) (gts:G Bool) (ge:G R):∀(ds:List D) (env:Ev) (k:List D->M R),(cD gt gts (g_ ge) ds env >>= λr=>k r.1)=(dB gt gts ge ds env >>= k)
 | [],env,k=>rfl
 | d::ds,env,k=>by
  unfold cD dB
  cases gt d env with
  | bad=>rfl
  | exc z=>rfl
  | ok e=>
   show ((gts e >>= λk=>if k=true then g_ ge e >>= λr=>cD gt gts (g_ ge) ds r.2 >>= λz=>.ok (r.1++z.1,z.2) else cD gt gts (g_ ge) ds e) >>= _)=((gts e >>= λk=>if k=true then ge e >>= λr=>toD r >>= λy=>dB gt gts ge ds e >>= λys=>.ok (y::ys) else dB gt gts ge ds e) >>= _)
   cases gts e with
   | bad=>rfl
   | exc z=>rfl
   | ok b=>
    cases b with
    | false=>exact ve gt gts ge ds e k
    | true=>
     show ((g_ ge e >>= λr=>cD gt gts (g_ ge) ds r.2 >>= λz=>.ok (r.1++z.1,z.2)) >>= _)=((ge e >>= λr=>toD r >>= λy=>dB gt gts ge ds e >>= λys=>.ok (y::ys)) >>= _)
     unfold g_
     cases ge e with
     | bad=>rfl
     | exc z=>rfl
     | ok r=>
      show (((toD r >>= λy=>M.ok ([y],e)) >>= λr=>cD gt gts (g_ ge) ds r.2 >>= λz=>.ok (r.1++z.1,z.2)) >>= _)=((toD r >>= λy=>dB gt gts ge ds e >>= λys=>.ok (y::ys)) >>= _)
      cases toD r with
      | bad=>rfl
      | exc z=>rfl
      | ok y=>
       have ih:=ve gt gts ge ds e λys=>k (y::ys)
       show ((cD gt gts (g_ ge) ds e >>= λz=>.ok ([y]++z.1,z.2)) >>= λr=>k r.1)=((dB gt gts ge ds e >>= λys=>M.ok (y::ys)) >>= k)
       have e1:((cD gt gts (g_ ge) ds e >>= λz=>M.ok ([y]++z.1,z.2)) >>= λr=>k r.1)=(cD gt gts (g_ ge) ds e >>= λr=>k (y::r.1)):=by cases cD gt gts (g_ ge) ds e <;> rfl
       have e2:((dB gt gts ge ds e >>= λys=>M.ok (y::ys)) >>= k)=(dB gt gts ge ds e >>= λys=>k (y::ys)):=by cases dB gt gts ge ds e <;> rfl
       rw [e1,e2,ih]
theorem J6 (n:Nat) (cap:List Nat) (gi:G (List D)) (gt:GT) (gts:G Bool) (ge:G R):bA n cap gi gt gts ge=ju sizeLine n cap gi gt gts (g_ ge) (λys=>.ok (.l .fresh ys)):=by
 funext env
 unfold bA ju
 cases gi env with
 | bad=>rfl
 | exc z=>rfl
 | ok ds=>
  show (if ds.length<=sizeLine then _ else _)=(if ds.length<=sizeLine then _ else _)
  by_cases c:ds.length<=sizeLine
  ·rw [if_pos c,if_pos c]
   exact (ve gt gts ge ds _ λys=>.ok (.l .fresh ys)).symm
  ·rw [if_neg c,if_neg c]
section
variable {X:Cx}{c:C}
theorem Eu (own:List Str) (cap:List Nat){elt R3 R4:Tc}{ifs:List Tc}{RZ:Vc}{pos:Pos}{gi:G (List D)}{gt:GT}{gts:G Bool}{ge:G R}(hi:pZ X c R3 R4 gi)
  (hbody:∀(cl:List (Str×Sq)) (C:Sq) (s:Sd) (H:Hp) (fp:List Sq),bJ X.env.cells RZ.names []=some cl->jl (aZ X own cap RZ cl C s H fp) c R3 gt/\gX (aZ X own cap RZ cl C s H fp) c ifs gts/\PD (aZ X own cap RZ cl C s H fp) c elt ge)
  (hk:RZ.kind=.function:=by rfl) (hno:fR X cap RZ=true:=by rfl) (hnames:(RZ.names.all λx=>!(x.2 == .local) || (RZ.names.lookup x.1 == some .local))=true:=by rfl)
  (hcl:(bJ X.env.cells RZ.names []).isSome=true:=by rfl) (hcap:eW X cap=true:=by rfl) (hloc:eZ X cap RZ=true:=by rfl) (hnd:gq cap=true:=by rfl) (Qw:X.calm=true:=by rfl)
  (hs:∀x,Sz R4 X.env x=pure x:=by intro _;rfl)
  {R0:List (Sq×Obj)}{s:Sd}{σ:L2.St}{H:Hp}{Q:VK}{use:Option (Sa->Sem Unit)}{Q0:Sa->Sd->Prop}{pos':Pos}(I:Inv X R0 σ H s) (h:tD c (bA own.length cap gi gt gts ge) σ H Q)
  (QC:∀(acc C:Sq) (m:Str->Option Sa) (s':Sd) (H':Hp) (fl:Flow),s'.heap.Ns C m->((C∈X.ex\/X.s₀.heap.objs.size<=C)/\C≠X.env.locals/\(∀x c,X.env.cells.lookup x=some c->c≠C)/\∀p∈X.pn++R0,p.1≠C)->H' C=none->(∀h'',T5 C s'.heap h''->Inv X R0 σ H' {s' with heap:=h''})->Q (.ref acc) H'->ZO (SM X.prog X.w) X.A X.xe use Q0 (.ref acc) C (.ok fl) s'):
  SH (SM X.prog X.w) X.A (comprehension (.ListComp elt [⟨R3,R4,ifs,0⟩] RZ pos) RZ X.env pos' (acw []) false (eval R4 X.env) use) Q0 X.xe s:=by
 rw [J6] at h
 refine oE (e:=.ListComp elt [⟨R3,R4,ifs,0⟩] RZ pos) (ob:={cls:=.type "list",dict:=none,data:=.seq ([]:List Sa).toArray}) (o0:=λ_=>.lst []) (Acc:=Ct c) (N:=1) (lim:=sizeLine) (m:=λp env=>do let _ <-call (.builtin "list.append") [.ref p,<-eval elt env]) own cap rfl hi
  (λs Q E q=>Tg q) (λh H=>⟨SQ _,[],0,.nil,Sw _ rfl⟩) (λp=>su) (λp J H _ h1 h2=>⟨[],h1,h2,.nil⟩) (by rw [Nat.mul_one];exact Sl _) (λit p env=>De (compTurn_list ..)) (λit acc env R s h0 h=>YA h0 h) (λys z q=>by cases q)
  (fun {p J H J' H' ys r} hp e ⟨us,h1,h2,h3⟩ q=>by cases q;exact ⟨J',e,⟨p,us,rfl,h1,h2,hp,h3⟩⟩) (λcl C s H fp hcc=>?_) hk hno hnames hcl hcap hloc hnd Qw hs I h QC
 obtain ⟨b1,b2,b3⟩:=hbody cl C s H fp hcc
 exact ⟨b1,b2,λp J2 H2 hp2 hp0=>Bk (λ_ _ f=>f) hp2 hp0 b3⟩
theorem HJ (own:List Str) (cap:List Nat){elt R3 R4:Tc}{ifs:List Tc}{RZ:Vc}{pos:Pos}{gi:G (List D)}{gt:GT}{gts:G Bool}{ge:G R}(hi:pZ X c R3 R4 gi)
  (hbody:∀(cl:List (Str×Sq)) (C:Sq) (s:Sd) (H:Hp) (fp:List Sq),bJ X.env.cells RZ.names []=some cl->jl (aZ X own cap RZ cl C s H fp) c R3 gt/\gX (aZ X own cap RZ cl C s H fp) c ifs gts/\PD (aZ X own cap RZ cl C s H fp) c elt ge)
  (hk:RZ.kind=.function:=by rfl) (hno:fR X cap RZ=true:=by rfl) (hnames:(RZ.names.all λx=>!(x.2 == .local) || (RZ.names.lookup x.1 == some .local))=true:=by rfl)
  (hcl:(bJ X.env.cells RZ.names []).isSome=true:=by rfl) (hcap:eW X cap=true:=by rfl) (hloc:eZ X cap RZ=true:=by rfl) (hnd:gq cap=true:=by rfl) (Qw:X.calm=true:=by rfl)
  (hs:∀x,Sz R4 X.env x=pure x:=by intro _;rfl):PD X c (.ListComp elt [⟨R3,R4,ifs,0⟩] RZ pos) (bA own.length cap gi gt gts ge):=by
 intro R0 s σ H Q I h
 rw [abQ]
 exact Eu own cap hi hbody hk hno hnames hcl hcap hloc hnd Qw hs I h λacc C m s' H' fl hm hz hf hb q=>⟨m,hm,λh'' sb=>⟨.ref acc,H',hb h'' sb,rfl,q⟩⟩
theorem HB (i:Nat) (own:List Str) (cap:List Nat){elt R3 R4:Tc}{ifs:List Tc}{RZ:Vc}{pos pos' pos2:Pos}{x:Str}{gi:G (List D)}{gt:GT}{gts:G Bool}{ge:G R}(hN:X.N.Nodup) (hi:pZ X c R3 R4 gi)
  (hbody:∀(cl:List (Str×Sq)) (C:Sq) (s:Sd) (H:Hp) (fp:List Sq),bJ X.env.cells RZ.names []=some cl->jl (aZ X own cap RZ cl C s H fp) c R3 gt/\gX (aZ X own cap RZ cl C s H fp) c ifs gts/\PD (aZ X own cap RZ cl C s H fp) c elt ge)
  (hk:RZ.kind=.function:=by rfl) (hno:fR X cap RZ=true:=by rfl) (hnames:(RZ.names.all λx=>!(x.2 == .local) || (RZ.names.lookup x.1 == some .local))=true:=by rfl)
  (hcl:(bJ X.env.cells RZ.names []).isSome=true:=by rfl) (hcap:eW X cap=true:=by rfl) (hloc:eZ X cap RZ=true:=by rfl) (hnd:gq cap=true:=by rfl) (Qw:X.calm=true:=by rfl)
  (hs:∀x,Sz R4 X.env x=pure x:=by intro _;rfl) (hx:X.N[i]?=some x:=by rfl) (QJ:X.env.scope.names.lookup x=some .local:=by rfl)
  (hsw:VO (.ListComp elt [⟨R3,R4,ifs,0⟩] RZ pos) (some (.Name x pos')) pos2.line X.env=pure true:=by rfl):Bf X c (.Assign [.Name x pos'] (.ListComp elt [⟨R3,R4,ifs,0⟩] RZ pos) pos2) (aN i (bA own.length cap gi gt gts ge)):=by
 intro R0 s σ H D I ⟨J,env,sr,w⟩
 rw [YU]
 refine R9 (UC ?_)
 rw [show Wm [.Name x pos'] (.ListComp elt [⟨R3,R4,ifs,0⟩] RZ pos) pos2.line X.env=pure true from hsw]
 refine R9 (Sb ?_)
 rw [if_pos rfl,X4]
 refine R9 (R9 (Eu own cap hi hbody hk hno hnames hcl hcap hloc hnd Qw hs (Q:=λv H1=>∃J1 r xx,Ext J H J1 H1/\RR c H J1 H1 r v/\toS r=.ok xx/\oP c J D (.nx (env.set i (some xx)))) I ⟨J,env,sr,aG (aL w) λr wr v J1 H1 e1 r1=>?_⟩ λacc C m s' H' fl hm ap hf hb ⟨J1,r,xx,e1,r1,q1,w1⟩=>?_))
 ·obtain ⟨xx,q,wr⟩:=oh wr
  exact ⟨J1,r,xx,e1,r1,q,wr⟩
 ·have I1:L2.Inv X R0 σ H' s':=hb s'.heap (X5 ..)
  show SH _ _ (do VB pos';acJ X.env x (.ref acc)) _ _ _
  refine R9 (UC (Zg ?_))
  refine mW I1 hN hx (.inl QJ) (v:=.ref acc) (u:=.ref acc) rfl (λs2 I2 ⟨a,sb,ha⟩=>?_) (.inr QJ)
  have hac:C≠a:=λz=>by
   rcases ha with e | e
   ·exact ap.2.1 (z.trans e)
   ·exact ap.2.2.1 _ _ e z.symm
  refine ⟨m,hm.sameBut sb hac,λh2 sb2=>?_⟩
  refine Sb (Sb ⟨σ.set i (some (.ref acc)),H',qv I2 ap hf sb2 (o0:=default),?_⟩)
  exact w1 _ J1 H' e1.j (sr.set e1 r1 q1)
theorem bN (own:List Str) (cap:List Nat){elt R3 R4:Tc}{ifs:List Tc}{RZ:Vc}{pos:Pos}{gi:G (List D)}{gt:GT}{gts:G Bool}{ge:G R}(hi:rK X c R3 R4 gi)
  (hbody:∀(cl:List (Str×Sq)) (C:Sq) (s:Sd) (H:Hp) (fp:List Sq),bJ X.env.cells RZ.names []=some cl->lF (aZ X own cap RZ cl C s H fp) c R3 gt/\kC (aZ X own cap RZ cl C s H fp) c ifs gts/\QD (aZ X own cap RZ cl C s H fp) c elt ge)
  (hk:RZ.kind=.function:=by rfl) (hno:fR X cap RZ=true:=by rfl) (hnames:(RZ.names.all λx=>!(x.2 == .local) || (RZ.names.lookup x.1 == some .local))=true:=by rfl)
  (hcl:(bJ X.env.cells RZ.names []).isSome=true:=by rfl) (hcap:eW X cap=true:=by rfl) (hloc:eZ X cap RZ=true:=by rfl) (hnd:gq cap=true:=by rfl) (Qw:X.calm=true:=by rfl)
  (hs:∀x,Sz R4 X.env x=pure x:=by intro _;rfl):QD X c (.ListComp elt [⟨R3,R4,ifs,0⟩] RZ pos) (bA own.length cap gi gt gts ge):=
 ⟨HJ own cap hi.h (λcl C s H fp hc=>let ⟨a,b,d⟩:=hbody cl C s H fp hc;⟨a.h,b.h,d.h⟩) hk hno hnames hcl hcap hloc hnd Qw hs⟩
theorem jd (i:Nat) (own:List Str) (cap:List Nat){elt R3 R4:Tc}{ifs:List Tc}{RZ:Vc}{pos pos' pos2:Pos}{x:Str}{gi:G (List D)}{gt:GT}{gts:G Bool}{ge:G R}(hN:X.N.Nodup) (hi:rK X c R3 R4 gi)
  (hbody:∀(cl:List (Str×Sq)) (C:Sq) (s:Sd) (H:Hp) (fp:List Sq),bJ X.env.cells RZ.names []=some cl->lF (aZ X own cap RZ cl C s H fp) c R3 gt/\kC (aZ X own cap RZ cl C s H fp) c ifs gts/\QD (aZ X own cap RZ cl C s H fp) c elt ge)
  (hk:RZ.kind=.function:=by rfl) (hno:fR X cap RZ=true:=by rfl) (hnames:(RZ.names.all λx=>!(x.2 == .local) || (RZ.names.lookup x.1 == some .local))=true:=by rfl)
  (hcl:(bJ X.env.cells RZ.names []).isSome=true:=by rfl) (hcap:eW X cap=true:=by rfl) (hloc:eZ X cap RZ=true:=by rfl) (hnd:gq cap=true:=by rfl) (Qw:X.calm=true:=by rfl)
  (hs:∀x,Sz R4 X.env x=pure x:=by intro _;rfl) (hx:X.N[i]?=some x:=by rfl) (QJ:X.env.scope.names.lookup x=some .local:=by rfl)
  (hsw:VO (.ListComp elt [⟨R3,R4,ifs,0⟩] RZ pos) (some (.Name x pos')) pos2.line X.env=pure true:=by rfl):jm X c (.Assign [.Name x pos'] (.ListComp elt [⟨R3,R4,ifs,0⟩] RZ pos) pos2) (aN i (bA own.length cap gi gt gts ge)):=
 ⟨HB i own cap hN hi.h (λcl C s H fp hc=>let ⟨a,b,d⟩:=hbody cl C s H fp hc;⟨a.h,b.h,d.h⟩) hk hno hnames hcl hcap hloc hnd Qw hs hx QJ hsw⟩
end
end DL
namespace K23
open PySem DL
def Ck:List Str:=["world","many","marks","arrows"]
noncomputable def ue:G O:=(aD (vh (gm 3 (b_ (az 1) (b_ (az 2) (b_ (az 3) gF)))) (af 0))
 (aP (bL (au (gN dG (ao (bA 2 [] (dX (af 2)) (gm 2 (b_ (az 0) (b_ (az 1) gF))) cI (af 0)) ay)) (au (gN dG (ao (bA 2 [] (dX (af 3)) (gm 2 (b_ (az 0) (b_ (az 1) gF))) cI (af 0)) ay)) aJ)))))
def jk (as:List S):M R:=fin (ue (aH Ck as))
def yy:List Str:=["one","other"]
def qo:G O:=(aX (aV (g2 (dO true) (gN (aF 1 K23.jk) (ao (af 0) ay)) (gN (aF 1 K23.jk) (ao (af 1) ay)))) yc bF)
def jj (as:List S):M R:=fin (qo (aH yy as))
def se:List Str:=["worlds","world"]
def lM:G O:=(c_ (iV (af 0)) (az 1) (aX (aV (g2 (cC λi j=>.bl (decide (j < i))) (g2 br (af 1) (gC (.int 0))) (gC (.int 4)))) yc bF))
def gA (as:List S):M R:=fin (lM (aH se as))
def AM:List Str:=["one","other"]
noncomputable def rV:G O:=(aD (jv (gN (aF 2 K23.jj) (ao (af 0) (ao (af 1) ay))))
 (jv (gN (aF 1 K23.gA) (ao (bL (au (af 0) (au (af 1) aJ))) ay))))
def d_ (as:List S):M R:=fin (rV (aH AM as))
def JA:List Str:=["pairs"]
noncomputable def BA:G O:=(aD (aX (aV (g2 (mJ false) (af 0) (gC .non))) (aP (bL aJ)) bF)
 (aP (gN dG (ao (gN qe (ao (af 0) ay)) ay))))
def iw (as:List S):M R:=fin (BA (aH JA as))
def N5:List Str:=["world","one","other","many","marks","arrows","bearing","leading"]
noncomputable def IZ:G O:=(aD (vh (gm 3 (b_ (az 3) (b_ (az 4) (b_ (az 5) gF)))) (af 0))
 (aD (aN 6 (gN dG (ao (bA 2 [1] (dX (af 4)) (gm 2 (b_ (az 0) (b_ (az 1) gF))) cI (g2 (fu false) (af 2) (af 1))) ay)))
 (aD (aN 7 (gN dG (ao (bA 2 [1,2] (dX (af 5)) (gm 2 (b_ (az 0) (b_ (az 1) gF))) cI (g2 (fu false) (bL (au (af 2) (au (af 3) aJ))) (af 1))) ay)))
 (aP (bL (au (g2 (dO false) (af 1) (af 2)) (au (af 6) (au (af 7) aJ))))))))
def xX (as:List S):M R:=fin (IZ (aH N5 as))
def LH:List Str:=["world"]
noncomputable def EJ:G O:=(aP (kX 2 [0] (bR (ao (g2 br (af 0) (gC (.int 0))) ay)) (az 0) cI (bR (ao (g2 br (af 2) (gC (.int 0))) ay)) (az 1) cI (bL (au (af 0) (au (af 1) aJ))) (gN (aF 3 K23.xX) (ao (af 2) (ao (af 0) (ao (af 1) ay))))))
def pV (as:List S):M R:=fin (EJ (aH LH as))
def LF:List Str:=["first","second","pair","again"]
noncomputable def EH:G O:=(aP (g2 (dO false) (g2 iG (af 0) (bL (au (g2 br (af 2) (gC (.int 0))) (au (g2 br (af 3) (gC (.int 0))) aJ)))) (g2 iG (af 1) (bL (au (g2 br (af 2) (gC (.int 1))) (au (g2 br (af 3) (gC (.int 1))) aJ))))))
def fP (as:List S):M R:=fin (EH (aH LF as))
def yx:List Str:=["first","second","pairing","pair","again"]
noncomputable def qm:G O:=(aD (aX (bK (zg (af 2)) (aV (g2 zd (af 3) (g2 br (af 2) (GW (gC (.int 1))))))) (aP (gC (.bl false))) bF)
 (aD (c_ (iV (af 2)) (az 4) (aX (bV (bD (aV (gN (aF 4 K23.fP) (ao (af 0) (ao (af 1) (ao (af 3) (ao (af 4) ay))))))) (bD (aV (gN (aF 4 K23.fP) (ao (af 0) (ao (af 1) (ao (af 4) (ao (af 3) ay)))))))) (aP (gC (.bl false))) bF))
 (aP (gC (.bl true)))))
def ji (as:List S):M R:=fin (qm (aH yx as))
def D0:List Str:=["one","other","most","first","second","pairs","longest","told","step"]
noncomputable def wF:G O:=(aD (jv (gN (aF 2 K23.d_) (ao (af 0) (ao (af 1) ay))))
 (aD (jv (gN (aF 3 K55.fY) (ao (af 2) (ao (gC (.int 0)) (ao (gC (.int 4)) ay)))))
 (aD (aN 3 (gN (aF 1 K23.pV) (ao (af 0) ay)))
 (aD (aN 4 (gN (aF 1 K23.pV) (ao (af 1) ay)))
 (aD (aN 5 (kg 2 [1,3,4] (bR (ao (g2 br (af 0) (gC (.int 0))) ay)) (az 0) cI (bR (ao (g2 br (af 2) (gC (.int 0))) ay)) (az 1) (aV (gN (aF 4 K23.fP) (ao (af 3) (ao (af 4) (ao (bL (au (af 0) (au (af 1) aJ))) (ao (bL (au (af 0) (au (af 1) aJ))) ay)))))) (bL (au (af 0) (au (af 1) aJ)))))
 (aD (gY 5 (aN 6 (f_ (au (bL aJ) aJ))))
 (aD (aN 7 (f_ (au (bL aJ) aJ)))
 (aD (c_ (bR (ao (af 2) ay)) (az 8) (aD (gY 5 (aN 6 (kg 2 [5,3,4] (dX (af 6)) (az 0) cI (iV (af 2)) (az 1) (aV (gN (aF 4 K23.ji) (ao (af 3) (ao (af 4) (ao (af 0) (ao (af 1) ay)))))) (g2 mH (af 0) (bL (au (af 1) aJ))))))
 (qh 7 (af 6))))
 (aP (af 7))))))))))
def i8 (as:List S):M R:=fin (wF (aH D0 as))
def Gy:List Str:=["one","other","pairs","many","wanted","pairing"]
noncomputable def zk:G O:=(aD (jv (gN (aF 2 K23.d_) (ao (af 0) (ao (af 1) ay))))
 (aD (aN 3 (g2 br (af 0) (gC (.int 0))))
 (aD (aX (aV (g2 (dO true) (g2 br (af 1) (gC (.int 0))) (af 3))) (aP (gC .non)) bF)
 (aD (aN 4 (gN (aF 1 K23.iw) (ao (af 2) ay)))
 (aD (c_ (iV (gN (aF 3 K23.i8) (ao (af 0) (ao (af 1) (ao (af 3) ay))))) (az 5) (aX (bK (aV (g2 (dO false) (gN jt (ao (af 5) ay)) (af 3))) (aV (gN kF (ao (bA 1 [5] (dX (af 4)) (az 0) cI (g2 (fu false) (af 0) (af 1))) ay)))) (aP (gN dG (ao (bA 2 [] (dX (af 5)) (gm 2 (b_ (az 0) (b_ (az 1) gF))) cI (af 1)) ay))) bF))
 (aP (gC .non)))))))
def eU (as:List S):M R:=fin (zk (aH Gy as))
def yu:List Str:=["_law_many","_law_found","_law_k","_law_more","_law_order_here"]
noncomputable def qi:G O:=(aD (gY 3 (aN 1 (f_ (au (bL aJ) aJ))))
 (aD (c_ (bR (ao (af 0) ay)) (az 2) (aD (aN 3 (f_ aJ))
 (aD (gY 1 (c_ (iV (af 1)) (az 4) (qh 3 (bA 1 [4] (bR (ao (af 0) ay)) (az 0) (aV (g2 (fu true) (af 0) (af 1))) (g2 mH (af 1) (bL (au (af 0) aJ)))))))
 (gY 3 (aN 1 (af 3))))))
 (aP (af 1))))
def jh (as:List S):M R:=fin (qi (aH yu as))
end K23
namespace K23
open PySem DL K01 WP K51 K52 K55
section
variable {α β:Type}
theorem IS {gts:G Bool}{act:Ev->M (List D×Ev)}{h':β->D}{a0:Option S}{rest:Ev}(p:β->Bool) (f:β->D):∀(ys:List β),(∀y∈ys,gts (a0::some (.d (h' y))::rest)=.ok (p y)/\(p y=true->act (a0::some (.d (h' y))::rest)=.ok ([f y],a0::some (.d (h' y))::rest)))->
  ∀z:Option S,∃z',cD (az 1) gts act (ys.map h') (a0::z::rest)=.ok ((ys.filter p).map f,a0::z'::rest)
 | [],_,z=>⟨z,rfl⟩
 | y::ys,H,z=>by
  obtain ⟨h1,h2⟩:=H y Si
  obtain ⟨z',ih⟩:=IS p f ys (λy hy=>H y (Sg _ hy)) (some (.d (h' y)))
  refine ⟨z',?_⟩
  rw [Sx]
  unfold cD
  show (gts (a0::some (.d (h' y))::rest) >>= λk=>if k=true then act (a0::some (.d (h' y))::rest) >>= λr=>cD (az 1) gts act (ys.map h') r.2 >>= λz=>.ok (r.1++z.1,z.2) else cD (az 1) gts act (ys.map h') (a0::some (.d (h' y))::rest))=_
  rw [h1,aM]
  cases q:p y with
  | true=>
   rw [if_pos rfl,h2 q,aM]
   show (cD (az 1) gts act (ys.map h') (a0::some (.d (h' y))::rest) >>= _)=_
   rw [ih,aM,Yj q]
   rfl
  | false=>
   rw [if_neg (by decide),ih,Yk (by simp [q])]
theorem Eo {gi1:G (List D)}{gts:G Bool}{act:Ev->M (List D×Ev)}{h:α->D}{h':β->D}{rest:Ev}(ys:α->List β) (p:α->β->Bool) (f:α->β->D):∀(xs:List α),(∀x∈xs,(ys x).length<=1000/\(∀z:Option S,gi1 (some (.d (h x))::z::rest)=.ok ((ys x).map h'))/\∀y∈ys x,gts (some (.d (h x))::some (.d (h' y))::rest)=.ok (p x y)/\(p x y=true->act (some (.d (h x))::some (.d (h' y))::rest)=.ok ([f x y],some (.d (h x))::some (.d (h' y))::rest)))->
  ∀z0 z:Option S,∃z0' z',cD (az 0) cI (jo gi1 (az 1) gts act) (xs.map h) (z0::z::rest)=.ok (xs.flatMap λx=>((ys x).filter (p x)).map (f x),z0'::z'::rest)
 | [],_,z0,z=>⟨z0,z,rfl⟩
 | x::xs,H,z0,z=>by
  obtain ⟨h1,h2,h3⟩:=H x Si
  obtain ⟨z1,e1⟩:=IS (a0:=some (.d (h x))) (p x) (f x) (ys x) h3 z
  obtain ⟨z0',z',ih⟩:=Eo ys p f xs (λy hy=>H y (Sg _ hy)) (some (.d (h x))) z1
  refine ⟨z0',z',?_⟩
  rw [Sx]
  unfold cD
  show (jo gi1 (az 1) gts act (some (.d (h x))::z::rest) >>= _)=_
  unfold jo
  rw [h2 z,aM,if_pos (by rw [Sh];exact h1),e1,aM]
  show (cD (az 0) cI (jo gi1 (az 1) gts act) (xs.map h) (some (.d (h x))::z1::rest) >>= _)=_
  rw [ih]
  rfl
theorem x_ {env:Ev}{cap:List Nat}{gi0 gi1:G (List D)}{gts:G Bool}{act:Ev->M (List D×Ev)}{fin:List D->M R}{h:α->D}{h':β->D}{xs:List α}(ys:α->List β) (p:α->β->Bool) (f:α->β->D) (hi:gi0 env=.ok (xs.map h)) (hl:xs.length<=10000)
  (H:∀x∈xs,(ys x).length<=1000/\(∀z:Option S,gi1 (some (.d (h x))::z::cE 0 cap env)=.ok ((ys x).map h'))/\∀y∈ys x,gts (some (.d (h x))::some (.d (h' y))::cE 0 cap env)=.ok (p x y)/\(p x y=true->act (some (.d (h x))::some (.d (h' y))::cE 0 cap env)=.ok ([f x y],some (.d (h x))::some (.d (h' y))::cE 0 cap env))):
  ju 10000 2 cap gi0 (az 0) cI (jo gi1 (az 1) gts act) fin env=fin (xs.flatMap λx=>((ys x).filter (p x)).map (f x)):=by
 unfold ju
 rw [hi,aM,if_pos (by rw [Sh];exact hl)]
 obtain ⟨z0',z',e⟩:=Eo ys p f xs H none none
 show (cD (az 0) cI (jo gi1 (az 1) gts act) (xs.map h) (none::none::cE 0 cap env) >>= _)=_
 rw [e]
 rfl
theorem Bj {ge:G R}{env:Ev}{r:R}{d:D}(h:ge env=.ok r) (h2:toD r=.ok d):g_ ge env=.ok ([d],env):=by
 unfold g_
 rw [h,aM,h2]
 rfl
theorem uW {gk gv:G R}{env:Ev}{r r2:R}{k d:D}(h:gk env=.ok r) (h2:toD r=.ok k) (h3:gv env=.ok r2) (h4:toD r2=.ok d) (ok:fj k=true):sy gk gv env=.ok ([.tup [k,d]],env):=by
 unfold sy
 rw [h,aM,h2,aM,h3,aM,h4,aM,if_pos ok]
end
noncomputable def fL (u:Wd) (a c:Nat):D:=.tup [.bl (bx (dN a) (dN c)),.tup (u.ms.map λr=>.bl (inD (dN a) (r.2.map dN))),.tup (u.ar.map λr=>.bl (inD (dP (a,c)) (r.2.map dP)))]
theorem Lz (u:Wd) (hu:D6 u) (a c:Nat):xX [.d u.d,.d (dN a),.d (dN c)]=.ok (.d (fL u a c)):=by
 have ml:=hu.ml
 have al:=hu.al
 refine cS (Jm rfl rfl rfl ?_)
 refine cG (n1 (oB (xs:=u.ms) (λr=>.str r.1) (λr=>.tup (r.2.map dN)) (λr=>.bl (inD (dN a) (r.2.map dN))) rfl (by omega) λr _=>⟨_,two rfl rfl (zl a r.2),rfl⟩) rfl) rfl ?_
 refine cG (n1 (oB (xs:=u.ar) (λr=>.str r.1) (λr=>.tup (r.2.map dP)) (λr=>.bl (inD (dP (a,c)) (r.2.map dP))) rfl (by omega) λr _=>⟨_,two (bW (aU rfl rfl (aU rfl rfl bO)) t2) rfl (zm (a,c) r.2),rfl⟩) rfl) rfl ?_
 exact cK (bW (aU rfl rfl (aU rfl rfl (aU rfl rfl bO))) (by show 3<=1000;decide)) rfl rfl
def fq (m n:Nat):List (Nat×Nat):=(Se m).flatMap λa=>(Se n).map λb=>(a,b)
theorem oY {m n:Nat}{p:Nat×Nat}:p∈fq m n↔p.1 < m/\p.2 < n:=by
 unfold fq
 simp only [Wb,Sj,Sf]
 constructor
 ·rintro ⟨a,ha,b,hb,rfl⟩;exact ⟨ha,hb⟩
 ·rintro ⟨h1,h2⟩;exact ⟨p.1,h1,p.2,h2,rfl⟩
theorem o5 (m n:Nat):(fq m n).Nodup:=by
 unfold fq
 refine YV.mpr ⟨λa _=>S0.mpr (X3 (λh e=>h (by cases e;rfl)) (Ur (n:=n))),?_⟩
 refine X3 ?_ (Ur (n:=m))
 intro a b hab p h1 q h2 e
 subst e
 obtain ⟨x,_,rfl⟩:=Sf.mp h1
 obtain ⟨y,_,e⟩:=Sf.mp h2
 cases e
 exact hab rfl
theorem Hh (m n:Nat):(fq m n).length=m * n:=by
 induction m with
 | zero=>simp [fq]
 | succ m ih=>
  unfold fq at ih ⊢
  rw [U_,Zp,SO,ih,aaV]
  simp
theorem Kq {ks vs:List D}{k:D}(h:∀x∈ks,bx x k=false):iD ks vs k=none:=by
 induction ks generalizing vs with
 | nil=>cases vs <;> rfl
 | cons x ks ih=>
  cases vs with
  | nil=>rfl
  | cons v vs=>
   unfold iD
   rw [h x Si,if_neg (by decide)]
   exact ih λy hy=>h y (Sg _ hy)
theorem wc (f:Nat×Nat->D):∀(n:Nat) (ps:List (Nat×Nat)),ps.length=n->ps.Nodup->i_ (ps.map λp=>D.tup [dP p,f p])=(ps.map dP,ps.map f)
 | 0,ps,h,_=>by
  have:=VH.mp h
  subst this
  rfl
 | n + 1,ps,h,nd=>by
  rcases Vl ps with rfl | ⟨qs,p,rfl⟩
  ·cases h
  ·rw [Vm] at h nd ⊢
   have nd':=VY.mp nd
   have ih:=wc f n qs (by simpa using h) nd'.1
   have hn:iD (qs.map dP) (qs.map f) (dP p)=none:=Kq λx hx=>by
    obtain ⟨q,hq,rfl⟩:=Sf.mp hx
    rw [we,decide_eq_false_iff_not]
    rintro rfl
    exact nd'.2.2 q hq q Si rfl
   rw [SV,List.map_singleton,oF,ih]
   unfold dput
   rw [hn]
   simp
abbrev iE (u:Wd):List D:=(fq u.m u.m).map dP
abbrev iF (u:Wd):List D:=(fq u.m u.m).map λp=>fL u p.1 p.2
theorem Bc (u:Wd) (hu:D6 u):pV [.d u.d]=.ok (.d (.dct (iE u) (iF u))):=by
 have hi:=hu.hi
 refine cS (cK (r:=.d (.dct (iE u) (iF u))) ?_ rfl rfl)
 refine (x_ (xs:=Se u.m) (h:=dN) (h':=dN) (λ_=>Se u.m) (λ_ _=>true) (λa b=>.tup [dP (a,b),fL u a b]) ?_ (by simp;omega) λa _=>⟨by simp;omega,λz=>?_,λb _=>⟨rfl,λ_=>uW (bW (aU rfl rfl (aU rfl rfl bO)) t2) rfl (c3 rfl rfl rfl (Lz u hu a b)) rfl rfl⟩⟩).trans ?_
 ·exact iK (bZ (two rfl rfl (bU _ _))) (by omega)
 ·exact iK (bZ (two rfl rfl (bU _ _))) (by omega)
 ·have ef:(Se u.m).filter (λ_=>true)=Se u.m:=Xl.mpr λ_ _=>rfl
  have e:((Se u.m).flatMap λa=>((Se u.m).filter λ_=>true).map λb=>D.tup [dP (a,b),fL u a b])=(fq u.m u.m).map λp=>D.tup [dP p,fL u p.1 p.2]:=by
   rw [ef]
   unfold fq
   rw [W4]
   simp [S6,X7]
  rw [e]
  have h:=wc (λp=>fL u p.1 p.2) _ (fq u.m u.m) rfl (o5 _ _)
  show M.ok (R.d (.dct (i_ ((fq u.m u.m).map λp=>D.tup [dP p,fL u p.1 p.2])).1 (i_ ((fq u.m u.m).map λp=>D.tup [dP p,fL u p.1 p.2])).2))=_
  rw [h]
theorem BH (u:Wd):∀(ps:List (Nat×Nat)) (p:Nat×Nat),p∈ps->iD (ps.map dP) (ps.map λp=>fL u p.1 p.2) (dP p)=some (fL u p.1 p.2)
 | q::ps,p,h=>by
  rw [Sx,Sx]
  unfold iD
  by_cases c:q=p
  ·subst c
   rw [if_pos (by rw [we];simp)]
  ·rw [if_neg (by rw [we];simpa using c)]
   rcases SD.mp h with e | e
   ·exact absurd e.symm c
   ·exact BH u ps p e
theorem y9 (u:Wd) (a c:Nat) (ha:a < u.m) (hc:c < u.m):iG (.d (.dct (iE u) (iF u))) (.d (dP (a,c)))=.ok (.d (fL u a c)):=by
 show (if fj (dP (a,c))=true then (match iD (iE u) (iF u) (dP (a,c)) with
  | some d=>M.ok (R.d d)
  | none=>.bad) else .bad)=_
 rw [if_pos (show fj (dP (a,c))=true from rfl),BH u (fq u.m u.m) (a,c) (oY.mpr ⟨ha,hc⟩)]
theorem AE (u:Wd) (a c:Nat):dep (fL u a c)<=60:=by
 have h1:deps (u.ms.map λr=>D.bl (inD (dN a) (r.2.map dN)))<=0:=fN λx hx=>by obtain ⟨r,_,rfl⟩:=Sf.mp hx;exact SQ _
 have h2:deps (u.ar.map λr=>D.bl (inD (dP (a,c)) (r.2.map dP)))<=0:=fN λx hx=>by obtain ⟨r,_,rfl⟩:=Sf.mp hx;exact SQ _
 unfold fL
 simp only [dep,deps]
 omega
def jG (v w:Wd) (p q:Nat×Nat):Bool:=bx (fL v p.1 q.1) (fL w p.2 q.2)
def rJ (v w:Wd) (p:Nat×Nat):Prop:=p.1 < v.m/\p.2 < w.m
theorem uN (v w:Wd) (p q:Nat×Nat) (hp:rJ v w p) (hq:rJ v w q):fP [.d (.dct (iE v) (iF v)),.d (.dct (iE w) (iF w)),.d (dP p),.d (dP q)]=.ok (.d (.bl (jG v w p q))):=by
 refine cS (cK (two (x:=.d (fL v p.1 q.1)) (y:=.d (fL w p.2 q.2)) (two rfl (bW (aU (two rfl rfl (bU _ _)) rfl (aU (two rfl rfl (bU _ _)) rfl bO)) t2) (y9 v p.1 q.1 hp.1 hq.1)) (two rfl (bW (aU (two rfl rfl (cU _ _ _)) rfl (aU (two rfl rfl (cU _ _ _)) rfl bO)) t2) (y9 w p.2 q.2 hp.2 hq.2)) (qZ _ _ _ (AE v p.1 q.1) (AE w p.2 q.2))) rfl rfl)
def rY (p q:Nat×Nat):Bool:=lexLe [p.1,p.2] [q.1,q.2]
theorem Qg (p q:Nat×Nat):zd (.d (dP p)) (.d (dP q))=.ok (.d (.bl (rY p q))):=rfl
noncomputable def gb (v w:Wd) (ps:List (Nat×Nat)) (q:Nat×Nat):Bool:=(match ps.getLast? with
 | some l=>!rY q l
 | none=>true) && ps.all λr=>jG v w q r && jG v w r q
theorem Az {env:Ev}{g:G R}{b:Bool}(h:g env=.ok (.d (.bl b))):aV g env=.ok b:=by
 show (g env >>= _)=_
 rw [h]
 rfl
theorem i6 {env:Ev}{g:G R}{b:Bool}(h:g env=.ok (cu (.d (.bl b)))):aV g env=.ok b:=Az h
theorem cj {env:Ev}{f:R->R->M R}{g h:G R}{x y:R}{b:Bool}(hx:g env=.ok x) (hy:h env=.ok y) (hf:f x y=.ok (.d (.bl b))):aV (g2 f g h) env=.ok b:=Az (two hx hy hf)
theorem iS {env:Ev}{g:G Bool}{b:Bool}(h:g env=.ok b):bD g env=.ok (!b):=by
 show (g env >>= _)=_
 rw [h]
 rfl
theorem tU {env:Ev}{a b:G Bool}(h:a env=.ok false):bK a b env=.ok false:=by
 unfold bK
 rw [h]
 rfl
theorem qW {env:Ev}{a b:G Bool}{k:Bool}(h:a env=.ok true) (h2:b env=.ok k):bK a b env=.ok k:=by
 unfold bK
 rw [h]
 exact h2
theorem MY {env:Ev}{a b:G Bool}{x y:Bool}(h:a env=.ok (!x)) (h2:b env=.ok (!y)):bV a b env=.ok (!(x && y)):=by
 unfold bV
 rw [h]
 cases x with
 | true=>exact h2
 | false=>rfl
theorem O7 (v w:Wd) (ps:List (Nat×Nat)) (q:Nat×Nat) (hp:∀p∈ps,rJ v w p) (hq:rJ v w q):ji [.d (.dct (iE v) (iF v)),.d (.dct (iE w) (iF w)),.d (.tup (ps.map dP)),.d (dP q)]=.ok (.d (.bl (gb v w ps q))):=by
 have loop:(match ps.getLast? with
   | some l=>!rY q l
   | none=>true)=true->Wp (aD (c_ (iV (af 2)) (az 4) (aX (bV (bD (aV (gN (aF 4 K23.fP) (ao (af 0) (ao (af 1) (ao (af 3) (ao (af 4) ay))))))) (bD (aV (gN (aF 4 K23.fP) (ao (af 0) (ao (af 1) (ao (af 4) (ao (af 3) ay)))))))) (aP (gC (.bl false))) bF))
 (aP (gC (.bl true))) [some (.d (.dct (iE v) (iF v))),some (.d (.dct (iE w) (iF w))),some (.d (.tup (ps.map dP))),some (.d (dP q)),none]) (·=.rt (.d (.bl (gb v w ps q)))):=by
  intro hl
  refine kQ (ds:=ps.map dP) rfl ?_
  have key:∀(rs:List (Nat×Nat)),(∀p∈rs,rJ v w p)->∀x:Option S,Wp (eY (az 4) (aX (bV (bD (aV (gN (aF 4 K23.fP) (ao (af 0) (ao (af 1) (ao (af 3) (ao (af 4) ay))))))) (bD (aV (gN (aF 4 K23.fP) (ao (af 0) (ao (af 1) (ao (af 4) (ao (af 3) ay)))))))) (aP (gC (.bl false))) bF) (rs.map dP) [some (.d (.dct (iE v) (iF v))),some (.d (.dct (iE w) (iF w))),some (.d (.tup (ps.map dP))),some (.d (dP q)),x])
    (λo=>((∃e,o=.nx e)/\(rs.all λr=>jG v w q r && jG v w r q)=true)\/(o=.rt (.d (.bl false))/\(rs.all λr=>jG v w q r && jG v w r q)=false)):=by
   intro rs
   induction rs with
   | nil=>intro _ x;exact ⟨_,rfl,.inl ⟨⟨_,rfl⟩,rfl⟩⟩
   | cons r rs ih=>
    intro hr x
    have h1:=uN v w q r hq (hr r Si)
    have h2:=uN v w r q (hr r Si) hq
    have ht:(bV (bD (aV (gN (aF 4 K23.fP) (ao (af 0) (ao (af 1) (ao (af 3) (ao (af 4) ay))))))) (bD (aV (gN (aF 4 K23.fP) (ao (af 0) (ao (af 1) (ao (af 4) (ao (af 3) ay)))))))) [some (.d (.dct (iE v) (iF v))),some (.d (.dct (iE w) (iF w))),some (.d (.tup (ps.map dP))),some (.d (dP q)),some (.d (dP r))]=.ok (!(jG v w q r && jG v w r q)):=MY (iS (i6 (c4 rfl rfl rfl rfl h1))) (iS (i6 (c4 rfl rfl rfl rfl h2)))
    rw [Sx,VE]
    unfold eY
    show Wp ((aX _ _ _ [some (.d (.dct (iE v) (iF v))),some (.d (.dct (iE w) (iF w))),some (.d (.tup (ps.map dP))),some (.d (dP q)),some (.d (dP r))]) >>= _) _
    cases hc:(jG v w q r && jG v w r q) with
    | true=>
     rw [hc] at ht
     rw [ki ht]
     exact ih (λp hp=>hr p (Sg _ hp)) _
    | false=>
     rw [hc] at ht
     rw [nP ht]
     exact ⟨_,rfl,.inr ⟨rfl,rfl⟩⟩
  refine (key ps hp none).mono ?_
  rintro o (⟨⟨e,rfl⟩,h⟩ | ⟨rfl,h⟩)
  ·refine cK rfl rfl ?_
   unfold gb
   rw [hl,h]
   rfl
  ·show O.rt _=_
   unfold gb
   rw [h,VL]
 refine cS ?_
 cases q':ps.getLast? with
 | none=>
  have:ps=[]:=XC.mp q'
  subst this
  exact gK (tU rfl) (loop rfl)
 | some l=>
  obtain ⟨rs,rfl⟩:∃rs,ps=rs++[l]:=by
   rcases Vl ps with rfl | ⟨ys,y,rfl⟩
   ·cases q'
   ·rw [Vm] at q' ⊢
    rw [Y_] at q'
    cases q'
    exact ⟨ys,rfl⟩
  have hix:br (.d (.tup ((rs++[l]).map dP))) (.d (.int (-1)))=.ok (.d (dP l)):=by rw [SV];exact Ke _ _
  have ht:bK (zg (af 2)) (aV (g2 zd (af 3) (g2 br (af 2) (GW (gC (.int 1)))))) [some (.d (.dct (iE v) (iF v))),some (.d (.dct (iE w) (iF w))),some (.d (.tup ((rs++[l]).map dP))),some (.d (dP q)),none]=.ok (rY q l):=by
   refine qW ?_ (Az (two rfl (two rfl rfl hix) (Qg q l)))
   show M.ok (!((rs++[l]).map dP).isEmpty)=_
   simp
  cases hc:rY q l with
  | true=>
   rw [hc] at ht
   refine fV (ye ht (cK rfl rfl ?_))
   show O.rt _=_
   unfold gb
   rw [q']
   simp [hc]
  | false=>
   rw [hc] at ht
   exact gK ht (loop (by rw [q'];simp [hc]))
section
variable {env:Ev}{Q:O->Prop}{g:G R}{t:G O}{r:R}{i:Nat}
theorem I_ {xs ys:List D}(h0:env[i]?=some (some (.own xs))) (h:g env=.ok r) (h2:jH r=.ok ys) (hl:xs.length + ys.length<=16777216) (k:Q (.nx (env.set i (some (.own (xs++ys)))))):Wp (qh i g env) Q:=by
 refine ⟨_,?_,k⟩
 unfold qh
 rw [h0]
 show (g env >>= _)=_
 rw [h,aM,h2,aM,if_pos (by rw [Uc];exact hl)]
theorem MB (h:g env=.ok r) (k:Q (.nx env)):Wp (jv g env) Q:=⟨.nx env,by show (g env >>= _)=_;rw [h];rfl,k⟩
theorem Gm {d:D}(h:env[i]?=some (some (.d d))) (k:Wp (t env) Q):Wp (gY i t env) Q:=by
 have:gY i t env=t env:=by unfold gY;rw [h]
 rw [this];exact k
theorem NX (h:env[i]?=some none) (k:Wp (t env) Q):Wp (gY i t env) Q:=by
 have:gY i t env=t env:=by unfold gY;rw [h]
 rw [this];exact k
end
structure Pr (v w:Wd):Prop where
 vo:D6 v
 wo:D6 w
 v4:v.m<=4
 w4:w.m<=4
 mn:v.ms.map Vb=w.ms.map Vb
 an:v.ar.map Vb=w.ar.map Vb
def j4 (u:Wd):D:=.tup [.tup ((u.ms.map Vb).map .str),.tup ((u.ar.map Vb).map .str)]
theorem oj (u:Wd) (hu:D6 u):jk [.d u.d]=.ok (.d (j4 u)):=by
 have ml:=hu.ml
 have al:=hu.al
 refine cS (Jm rfl rfl rfl (cK (bW (aU (n1 (oB (xs:=u.ms) (λr=>.str r.1) (λr=>.tup (r.2.map dN)) (λr=>.str r.1) rfl (by omega) λr _=>⟨_,rfl,rfl⟩) rfl) rfl (aU (n1 (oB (xs:=u.ar) (λr=>.str r.1) (λr=>.tup (r.2.map dP)) (λr=>.str r.1) rfl (by omega) λr _=>⟨_,rfl,rfl⟩) rfl) rfl bO)) t2) rfl ?_))
 unfold j4
 rw [S6,S6]
 rfl
theorem B0 (u:Wd):dep (j4 u)<=60:=by
 have h:∀ss:List Str,deps (ss.map D.str)<=0:=λss=>fN λx hx=>by obtain ⟨r,_,rfl⟩:=Sf.mp hx;exact SQ _
 have h1:=h (u.ms.map Vb)
 have h2:=h (u.ar.map Vb)
 unfold j4
 simp only [dep,deps]
 omega
theorem nE {v w:Wd}(t:Pr v w):d_ [.d v.d,.d w.d]=.ok (.d .non):=by
 have ht:jj [.d v.d,.d w.d]=.ok (.d .non):=by
  refine qQ (sQ (cj (b:=false) (c1 rfl (oj v t.vo)) (c1 rfl (oj w t.wo)) ?_) (jS ⟨_,rfl⟩))
  show dO true (.d (j4 v)) (.d (j4 w))=_
  rw [qZ true (.d (j4 v)) (.d (j4 w)) (B0 v) (B0 w)]
  have e:j4 v=j4 w:=by unfold j4;rw [t.mn,t.an]
  show M.ok (R.d (.bl (!bx (j4 v) (j4 w))))=_
  rw [e,fZ]
  rfl
 have hf:gA [.d (.tup [v.d,w.d])]=.ok (.d .non):=by
  have v4:=t.v4
  have w4:=t.w4
  have one:∀(u:Wd),u.m<=4->aV (g2 (cC λi j=>.bl (decide (j < i))) (g2 br (af 1) (gC (.int 0))) (gC (.int 4))) [some (.d (.tup [v.d,w.d])),some (.d u.d)]=.ok false:=λu hu=>by
   refine cj (two rfl rfl (bU _ _)) rfl ?_
   show M.ok (R.d (.bl (decide ((4:Int) < (u.m:Int)))))=_
   rw [decide_eq_false (by omega)]
  refine qQ (oV (ds:=[v.d,w.d]) rfl (qR (λk env=>∃x,env=[some (.d (.tup [v.d,w.d])),x]) [v.d,w.d] ⟨none,rfl⟩ ?_ λe _=>⟨e,rfl⟩))
  rintro k hk _ ⟨x,rfl⟩
  match k,hk with
  | 0,_=>exact ⟨_,rfl,sQ (one v v4) (jS ⟨_,rfl,_,rfl⟩)⟩
  | 1,_=>exact ⟨_,rfl,sQ (one w w4) (jS ⟨_,rfl,_,rfl⟩)⟩
 refine qQ (jO (c2 rfl rfl ht) ?_)
 exact MB (c1 (bW (aU rfl rfl (aU rfl rfl bO)) t2) hf) ⟨_,rfl⟩
theorem NZ (d:Nat) (hd:d<=4):K55.fY [.d (.int d),.d (.int 0),.d (.int 4)]=.ok (.d .non):=by
 refine qQ (sQ ?_ (jS ⟨_,rfl⟩))
 show (if decide ((d:Int) < 0)=true then M.ok true else M.ok (decide ((4:Int) < d)))=M.ok false
 rw [decide_eq_false (show ¬(d:Int) < 0 by omega),decide_eq_false (show ¬(4:Int) < d by omega)]
 rfl
def prs (v w:Wd):List (Nat×Nat):=(fq v.m w.m).filter λp=>jG v w p p
noncomputable def LG (v w:Wd):Nat->List (List (Nat×Nat))
 | 0=>[[]]
 | j + 1=>(LG v w j).flatMap λah=>((prs v w).filter (gb v w ah)).map λq=>ah++[q]
noncomputable def told (v w:Wd):Nat->List (List (Nat×Nat))
 | 0=>[[]]
 | j + 1=>told v w j++LG v w (j + 1)
abbrev bq (ps:List (Nat×Nat)):D:=.tup (ps.map dP)
theorem Fy {v w:Wd}{p:Nat×Nat}(h:p∈prs v w):rJ v w p:=oY.mp (S7.mp h).1
theorem BR {v w:Wd}(t:Pr v w):(prs v w).length<=16:=by
 have h1:=Tf (λp=>jG v w p p) (fq v.m w.m)
 rw [Hh] at h1
 have h2:=Zd t.v4 t.w4
 unfold prs
 omega
theorem qU {v w:Wd}:∀(j:Nat){ps:List (Nat×Nat)},ps∈LG v w j->ps.length=j/\∀p∈ps,rJ v w p
 | 0,ps,h=>by
  rw [show ps=[] from So.mp h]
  exact ⟨rfl,λ_ h=>by cases h⟩
 | j + 1,ps,h=>by
  obtain ⟨ah,h1,h2⟩:=Wb.mp h
  obtain ⟨q,h3,rfl⟩:=Sf.mp h2
  obtain ⟨l,k⟩:=qU j h1
  refine ⟨by rw [SO,l];rfl,λp hp=>?_⟩
  rcases SN.mp hp with h | h
  ·exact k p h
  ·rw [So.mp h];exact Fy (S7.mp h3).1
theorem oM {α β:Type}(f:α->List β) (n:Nat):∀(xs:List α),(∀x∈xs,(f x).length<=n)->(xs.flatMap f).length<=xs.length * n
 | [],_=>by simp
 | x::xs,h=>by
  have h1:=h x Si
  have h2:=oM f n xs λy hy=>h y (Sg _ hy)
  rw [List.flatMap_cons,SO,Uh,aaV]
  omega
theorem tH {v w:Wd}(t:Pr v w):∀j,(LG v w j).length<=16 ^ j
 | 0=>Sl _
 | j + 1=>by
  have h:=oM (λah=>((prs v w).filter (gb v w ah)).map λq=>ah++[q]) 16 (LG v w j) λah _=>by
   rw [Sh]
   exact S5 (Tf _ _) (BR t)
  have h2:=Vs 16 (tH t j)
  rw [YO]
  exact S5 h h2
theorem tw {v w:Wd}(t:Pr v w):∀j,j<=4->(told v w j).length<=(j + 1) * 65536
 | 0,_=>by show 1<=_;omega
 | j + 1,h=>by
  have h1:=tw t j (by omega)
  have h2:=tH t (j + 1)
  have h3:(16:Nat) ^ (j + 1)<=16 ^ 4:=Ul (by decide) h
  have h4:(16:Nat) ^ 4=65536:=by decide
  show (told v w j++LG v w (j + 1)).length<=_
  rw [SO]
  omega
theorem j5 {v w:Wd}:∀(n:Nat){ps:List (Nat×Nat)},ps∈told v w n↔∃j,j<=n/\ps∈LG v w j
 | 0,ps=>by
  constructor
  ·exact λh=>⟨0,Sl _,h⟩
  ·rintro ⟨j,hj,h⟩
   have:j=0:=by omega
   subst this
   exact h
 | n + 1,ps=>by
  show ps∈told v w n++LG v w (n + 1)↔_
  rw [SN,j5 n]
  constructor
  ·rintro (⟨j,hj,h⟩ | h)
   ·exact ⟨j,by omega,h⟩
   ·exact ⟨n + 1,Sl _,h⟩
  ·rintro ⟨j,hj,h⟩
   by_cases c:j=n + 1
   ·subst c;exact .inr h
   ·exact .inl ⟨j,by omega,h⟩
theorem tF {v w:Wd}(t:Pr v w) (n:Nat) (hn:n<=4):i8 [.d v.d,.d w.d,.d (.int n)]=.ok (.l .fresh ((told v w n).map bq)):=by
 have v4:=t.v4
 have w4:=t.w4
 refine cS (jO (c2 rfl rfl (nE t)) (jO (c3 rfl rfl rfl (NZ n hn)) (cG (c1 rfl (Bc v t.vo)) rfl (cG (c1 rfl (Bc w t.wo)) rfl ?_))))
 have hp:kg 2 [1,3,4] (bR (ao (g2 br (af 0) (gC (.int 0))) ay)) (az 0) cI (bR (ao (g2 br (af 2) (gC (.int 0))) ay)) (az 1) (aV (gN (aF 4 K23.fP) (ao (af 3) (ao (af 4) (ao (bL (au (af 0) (au (af 1) aJ))) (ao (bL (au (af 0) (au (af 1) aJ))) ay)))))) (bL (au (af 0) (au (af 1) aJ)))
   [some (.d v.d),some (.d w.d),some (.d (.int n)),some (.d (.dct (iE v) (iF v))),some (.d (.dct (iE w) (iF w))),none,none,none,none]=.ok (.l .fresh ((prs v w).map dP)):=by
  refine (x_ (xs:=Se v.m) (h:=dN) (h':=dN) (λ_=>Se w.m) (λa b=>jG v w (a,b) (a,b)) (λa b=>dP (a,b)) (iK (bZ (two rfl rfl (bU _ _))) (by omega)) (by simp;omega) λa ha=>⟨by simp;omega,λz=>iK (bZ (two rfl rfl (bU _ _))) (by omega),λb hb=>⟨?_,λ_=>Bj (bW (aU rfl rfl (aU rfl rfl bO)) t2) rfl⟩⟩).trans ?_
  ·have ha:a < v.m:=by simpa using ha
   have hb:b < w.m:=by simpa using hb
   exact i6 (c4 rfl rfl (bW (aU rfl rfl (aU rfl rfl bO)) t2) (bW (aU rfl rfl (aU rfl rfl bO)) t2) (uN v w (a,b) (a,b) ⟨ha,hb⟩ ⟨ha,hb⟩))
  ·have e:((Se v.m).flatMap λa=>((Se w.m).filter λb=>jG v w (a,b) (a,b)).map λb=>dP (a,b))=(prs v w).map dP:=by
    unfold prs fq
    rw [List.filter_flatMap,W4]
    congr 1
    funext a
    rw [YW,S6]
    rfl
   rw [e]
 refine cG hp rfl ?_
 refine fV (yk rfl (mP (nS (aU (bW bO (by decide)) rfl bO) (by show 1<=1000;decide)) rfl ?_))
 refine cG (nS (aU (bW bO (by decide)) rfl bO) (by show 1<=1000;decide)) rfl ?_
 refine kQ (sW (n:=n) rfl (by omega)) ?_
 refine uM (λk env=>∃x:Option S,env=[some (.d v.d),some (.d w.d),some (.d (.int n)),some (.d (.dct (iE v) (iF v))),some (.d (.dct (iE w) (iF w))),some (.d (.lst ((prs v w).map dP))),some (.own ((LG v w k).map bq)),some (.own ((told v w k).map bq)),x]) ⟨none,rfl⟩ ?_ ?_
 ·rintro k hk _ ⟨x,rfl⟩
  have l1:=tH t k
  have l2:=tH t (k + 1)
  have l3:=tw t k (by omega)
  have p1:(16:Nat) ^ k<=16 ^ 3:=Ul (by decide) (by omega)
  have p2:(16:Nat) ^ (k + 1)<=16 ^ 4:=Ul (by decide) (by omega)
  have p3:(16:Nat) ^ 3=4096:=by decide
  have p4:(16:Nat) ^ 4=65536:=by decide
  refine ⟨_,rfl,fV (Gm rfl (mP (r:=.l .fresh ((LG v w (k + 1)).map bq)) ?_ rfl (I_ rfl rfl rfl (by simp only [Sh];omega) ⟨_,rfl,some (.d (.int k)),?_⟩)))⟩
  ·refine (x_ (xs:=LG v w k) (h:=bq) (h':=dP) (λ_=>prs v w) (λah q=>gb v w ah q) (λah q=>bq (ah++[q])) rfl (by omega) λah Ry=>⟨by have:=BR t;omega,λz=>rfl,λq hq=>⟨?_,λ_=>Bj (two rfl (bW (aU rfl rfl bO) (by show 1<=1000;decide)) (DM _ _ ?_)) ?_⟩⟩).trans ?_
   ·exact i6 (c4 rfl rfl rfl rfl (O7 v w ah q (qU k Ry).2 (Fy hq)))
   ·have:=(qU k Ry).1
    simp;omega
   ·show M.ok (D.tup (ah.map dP++[dP q]))=M.ok (D.tup ((ah++[q]).map dP))
    rw [SV]
    rfl
   ·show M.ok (R.l .fresh _)=_
    show _=M.ok (R.l .fresh (((LG v w k).flatMap λah=>((prs v w).filter (gb v w ah)).map λq=>ah++[q]).map bq))
    rw [W4]
    simp only [S6]
    rfl
  ·show _=[_,_,_,_,_,_,_,some (S.own ((told v w k++LG v w (k + 1)).map bq)),_]
   rw [SV]
   rfl
 ·rintro _ ⟨x,rfl⟩
  exact cK rfl rfl rfl
theorem allM {α:Type}(f:α->Bool) (xs:List α):kF [.l .fresh (xs.map λx=>.bl (f x))]=.ok (.d (.bl (xs.all f))):=by
 have:=all_map (λd=>match d with
  | .bl b=>b
  | _=>false) (xs.map λx=>.bl (f x))
 rw [S6,YJ] at this
 exact this
theorem yr (ps:List (Nat×Nat)) (hl:ps.length < 64):∃qs:List (Nat×Nat),iw [.d (bq ps)]=.ok (.d (bq qs))/\(∀q,q∈qs↔q∈ps)/\qs.length<=ps.length:=by
 have tot:∀d∈ps.map dP,jJ pF d:=λd hd=>by obtain ⟨x,_,rfl⟩:=Sf.mp hd;exact EK x
 obtain ⟨h1,h2⟩:=w_ (g7 pF) tot
 have h3:=(pI (g7 pF) tot).2
 have e:((dW (ps.map dP)).map xm).map dP=dW (ps.map dP):=back dP xm uK λd hd=>by obtain ⟨x,_,rfl⟩:=Sf.mp (h2 d hd);exact ⟨x,rfl⟩
 refine ⟨(dW (ps.map dP)).map xm,?_,λq=>?_,by simpa using h1⟩
 ·refine cS (gK (cj (b:=false) rfl rfl rfl) (cK (n1 (n1 (x:=.d (bq ps)) (z:=.l .fresh (dW (ps.map dP))) rfl ?_) rfl) rfl ?_))
  ·exact Ny ps hl
  ·show O.rt (.d (.tup (dW (ps.map dP))))=O.rt (.d (.tup (((dW (ps.map dP)).map xm).map dP)))
   rw [e]
 ·constructor
  ·intro h
   obtain ⟨d,hd,rfl⟩:=Sf.mp h
   obtain ⟨x,hx,rfl⟩:=Sf.mp (h2 d hd)
   exact hx
  ·intro h
   exact Sf.mpr ⟨dP q,(h3 _).mpr (Sf.mpr ⟨q,h,rfl⟩),rfl⟩
def rN (m:Nat) (qs ps:List (Nat×Nat)):Bool:=(ps.length == m) && qs.all λq=>inD (dP q) (ps.map dP)
def zO (ps:List (Nat×Nat)):D:=.tup (ps.map λp=>dN p.2)
theorem vU {v w:Wd}(t:Pr v w) (hm:w.m=v.m) (d:D) (qs:List (Nat×Nat)) (hq:qs.length<=100) (hr:iw [.d d]=.ok (.d (bq qs))):eU [.d v.d,.d w.d,.d d]=.ok (.d (match (told v w v.m).find? (rN v.m qs) with
  | some ps=>zO ps
  | none=>.non)):=by
 have v4:=t.v4
 refine cS (jO (c2 rfl rfl (nE t)) (cG (two rfl rfl (bU _ _)) rfl (gK (cj (two rfl rfl (bU _ _)) rfl ?_) (cG (c1 rfl hr) rfl ?_))))
 ·show M.ok (R.d (.bl (!((w.m:Int) == (v.m:Int)))))=_
  rw [hm]
  simp
 refine kQ (ds:=(told v w v.m).map bq) ?_ ?_
 ·show (gN _ _ _ >>= _)=_
  rw [c3 rfl rfl rfl (tF t v.m v4)]
  rfl
 have small:∀ps∈told v w v.m,ps.length<=4:=λps hp=>by
  obtain ⟨j,hj,h⟩:=(j5 v.m).mp hp
  rw [(qU j h).1];omega
 generalize told v w v.m=L at small
 have key:∀(L:List (List (Nat×Nat))),(∀ps∈L,ps.length<=4)->∀x:Option S,Wp (eY (az 5) (aX (bK (aV (g2 (dO false) (gN jt (ao (af 5) ay)) (af 3))) (aV (gN kF (ao (bA 1 [5] (dX (af 4)) (az 0) cI (g2 (fu false) (af 0) (af 1))) ay)))) (aP (gN dG (ao (bA 2 [] (dX (af 5)) (gm 2 (b_ (az 0) (b_ (az 1) gF))) cI (af 1)) ay))) bF) (L.map bq) [some (.d v.d),some (.d w.d),some (.d d),some (.d (.int v.m)),some (.d (bq qs)),x])
   (λo=>(match L.find? (rN v.m qs) with
    | some ps=>o=.rt (.d (zO ps))
    | none=>∃e,o=.nx e)):=by
  intro L
  induction L with
  | nil=>intro _ x;exact ⟨_,rfl,_,rfl⟩
  | cons ps L ih=>
   intro hs x
   have hps:=hs ps Si
   have ht:(bK (aV (g2 (dO false) (gN jt (ao (af 5) ay)) (af 3))) (aV (gN kF (ao (bA 1 [5] (dX (af 4)) (az 0) cI (g2 (fu false) (af 0) (af 1))) ay)))) [some (.d v.d),some (.d w.d),some (.d d),some (.d (.int v.m)),some (.d (bq qs)),some (.d (bq ps))]=.ok (rN v.m qs ps):=by
    have h1:aV (g2 (dO false) (gN jt (ao (af 5) ay)) (af 3)) [some (.d v.d),some (.d w.d),some (.d d),some (.d (.int v.m)),some (.d (bq qs)),some (.d (bq ps))]=.ok (ps.length == v.m):=by
     refine cj (n1 rfl rfl) rfl ?_
     show M.ok (R.d (.bl ((((ps.map dP).length:Nat):Int) == (v.m:Int))))=_
     rw [Sh,show ((ps.length:Int) == (v.m:Int))=(ps.length == v.m) by rw [Tp,beq_iff_eq,beq_iff_eq];omega]
    have h2:aV (gN kF (ao (bA 1 [5] (dX (af 4)) (az 0) cI (g2 (fu false) (af 0) (af 1))) ay)) [some (.d v.d),some (.d w.d),some (.d d),some (.d (.int v.m)),some (.d (bq qs)),some (.d (bq ps))]=.ok (qs.all λq=>inD (dP q) (ps.map dP)):=
     Az (n1 (kD (xs:=qs) (h:=dP) (λq=>.bl (inD (dP q) (ps.map dP))) rfl (by omega) λq _=>⟨_,two rfl rfl (zm q ps),rfl⟩) (allM _ qs))
    unfold rN
    cases hc:(ps.length == v.m) with
    | true=>rw [hc] at h1;exact qW h1 h2
    | false=>rw [hc] at h1;exact tU h1
   rw [Sx,List.find?_cons]
   unfold eY
   show Wp ((aX _ _ _ [some (.d v.d),some (.d w.d),some (.d d),some (.d (.int v.m)),some (.d (bq qs)),some (.d (bq ps))]) >>= _) _
   cases hc:rN v.m qs ps with
   | true=>
    rw [hc] at ht
    rw [nP ht,uA (n1 (oB (xs:=ps) (λp=>dN p.1) (λp=>dN p.2) (λp=>dN p.2) rfl (by omega) λp _=>⟨_,rfl,rfl⟩) rfl) rfl]
    exact ⟨_,rfl,rfl⟩
   | false=>
    rw [hc] at ht
    rw [ki ht]
    exact ih (λp hp=>hs p (Sg _ hp)) _
 obtain ⟨o,h1,h2⟩:=key L small none
 refine ⟨o,h1,?_⟩
 cases q:L.find? (rN v.m qs) with
 | some ps=>
  rw [q] at h2
  subst h2
  rfl
 | none=>
  rw [q] at h2
  obtain ⟨e,rfl⟩:=h2
  exact cK rfl rfl rfl
theorem za:∀{xs ys:List Bool},cQ (xs.map D.bl) (ys.map D.bl)=true↔xs=ys
 | [],[]=>by simp [cQ]
 | [],_::_=>by simp [cQ]
 | _::_,[]=>by simp [cQ]
 | x::xs,y::ys=>by
  rw [Sx,Sx,gS,Sk,za]
  simp [bx]
structure A_ (v w:Wd) (p q:Nat×Nat):Prop where
 eq:p.1=q.1↔p.2=q.2
 ms:v.ms.map (λr=>decide (p.1∈r.2))=w.ms.map λr=>decide (p.2∈r.2)
 ar:v.ar.map (λr=>decide ((p.1,q.1)∈r.2))=w.ar.map λr=>decide ((p.2,q.2)∈r.2)
theorem nG (v w:Wd) (p q:Nat×Nat):jG v w p q=true↔A_ v w p q:=by
 have e:jG v w p q=((p.1 == q.1) == (p.2 == q.2) && (cQ ((v.ms.map λr=>decide (p.1∈r.2)).map D.bl) ((w.ms.map λr=>decide (p.2∈r.2)).map D.bl) && (cQ ((v.ar.map λr=>decide ((p.1,q.1)∈r.2)).map D.bl) ((w.ar.map λr=>decide ((p.2,q.2)∈r.2)).map D.bl) && true))):=by
  unfold jG fL
  rw [kU,gS,gS,gS,kU,kU,cQ]
  simp only [K55.inN,K55.wH,S6,K55.rQ]
  rfl
 rw [e,Sk,Sk,Sk,za,za]
 have e1:((p.1 == q.1) == (p.2 == q.2))=true↔(p.1=q.1↔p.2=q.2):=by
  rw [beq_iff_eq,Tp,beq_iff_eq,beq_iff_eq]
 rw [e1]
 exact ⟨λ⟨a,b,c,_⟩=>⟨a,b,c⟩,λ⟨a,b,c⟩=>⟨a,b,c,rfl⟩⟩
theorem MD {p q:Nat×Nat}(h:rY p q=false):q.1 < p.1\/(q.1=p.1/\q.2 < p.2):=by
 unfold rY at h
 rw [kL] at h
 by_cases c:(p.1:Int)=q.1
 ·rw [if_pos c,kL] at h
  by_cases c2:(p.2:Int)=q.2
  ·rw [if_pos c2,pP] at h;cases h
  ·rw [if_neg c2,decide_eq_false_iff_not] at h
   exact .inr ⟨by omega,by omega⟩
 ·rw [if_neg c,decide_eq_false_iff_not] at h
  exact .inl (by omega)
theorem MC {p q:Nat×Nat}(h:q.1 < p.1):rY p q=false:=by
 unfold rY
 rw [kL,if_neg (by omega),decide_eq_false_iff_not]
 omega
structure Good (v w:Wd) (ps:List (Nat×Nat)):Prop where
 up:ps.Pairwise λp q=>p.1 < q.1
 ag:∀p∈ps,∀q∈ps,A_ v w p q
 rg:∀p∈ps,rJ v w p
theorem vz {α:Type}{ps:List α}{l:α}(h:ps.getLast?=some l):∃rs,ps=rs++[l]:=by
 rcases Vl ps with rfl | ⟨ys,y,rfl⟩
 ·cases h
 ·rw [Vm] at h ⊢
  rw [Y_] at h
  cases h
  exact ⟨ys,rfl⟩
theorem BI {v w:Wd}{p:Nat×Nat}:p∈prs v w↔rJ v w p/\A_ v w p p:=by
 unfold prs
 rw [S7,oY,nG]
 exact aab
theorem EI {v w:Wd}{ps:List (Nat×Nat)}(g:Good v w ps){q:Nat×Nat}(hq:q∈prs v w):gb v w ps q=true↔Good v w (ps++[q]):=by
 obtain ⟨h1,h2⟩:=BI.mp hq
 unfold gb
 rw [Sk,SK]
 constructor
 ·rintro ⟨a,b⟩
  have ag:∀r∈ps,A_ v w q r/\A_ v w r q:=λr hr=>by
   have:=b r hr
   rw [Sk,nG,nG] at this
   exact this
  have lt:∀r∈ps,r.1 < q.1:=by
   cases e:ps.getLast? with
   | none=>rw [XC.mp e];exact λ_ h=>by cases h
   | some l=>
    rw [e] at a
    have hl:l.1 < q.1:=by
     obtain ⟨rs,rfl⟩:=vz e
     rcases MD (by simpa using a) with h | ⟨h,h'⟩
     ·exact h
     ·have:=(ag l (by simp)).1.eq
      omega
    obtain ⟨rs,rfl⟩:=vz e
    intro r hr
    rcases SN.mp hr with h | h
    ·have:=(UH.mp g.up).2.2 r h l (by simp)
     omega
    ·rw [So.mp h];exact hl
  refine ⟨UH.mpr ⟨g.up,Ti _ _,λr hr x hx=>by rw [So.mp hx];exact lt r hr⟩,λr hr x hx=>?_,λr hr=>?_⟩
  ·rcases SN.mp hr with hr | hr <;> rcases SN.mp hx with hx | hx
   ·exact g.ag r hr x hx
   ·rw [So.mp hx];exact (ag r hr).2
   ·rw [So.mp hr];exact (ag x hx).1
   ·rw [So.mp hr,So.mp hx];exact h2
  ·rcases SN.mp hr with hr | hr
   ·exact g.rg r hr
   ·rw [So.mp hr];exact h1
 ·intro h
  refine ⟨?_,λr hr=>?_⟩
  ·cases e:ps.getLast? with
   | none=>rfl
   | some l=>
    have hl:l∈ps:=by obtain ⟨rs,rfl⟩:=vz e;simp
    have:=(UH.mp h.up).2.2 l hl q (by simp)
    show (!rY q l)=true
    rw [MC this]
    rfl
  ·rw [Sk,nG,nG]
   exact ⟨h.ag q (by simp) r (by simp [hr]),h.ag r (by simp [hr]) q (by simp)⟩
theorem lO {v w:Wd}:∀(j:Nat){ps:List (Nat×Nat)},ps∈LG v w j↔ps.length=j/\Good v w ps
 | 0,ps=>by
  constructor
  ·intro h
   rw [show ps=[] from So.mp h]
   exact ⟨rfl,.nil,(λ_ h=>nomatch h),(λ_ h=>nomatch h)⟩
  ·rintro ⟨h,_⟩
   rw [VH.mp h]
   exact So.mpr rfl
 | j + 1,ps=>by
  constructor
  ·intro h
   obtain ⟨ah,h1,h2⟩:=Wb.mp h
   obtain ⟨q,h3,rfl⟩:=Sf.mp h2
   obtain ⟨l,g⟩:=(lO j).mp h1
   obtain ⟨h4,h5⟩:=S7.mp h3
   exact ⟨by rw [SO,l];rfl,(EI g h4).mp h5⟩
  ·rintro ⟨h,g⟩
   rcases Vl ps with rfl | ⟨ah,q,rfl⟩
   ·cases h
   ·rw [Vm] at h g ⊢
    have ga:Good v w ah:=⟨(UH.mp g.up).1,λp hp x hx=>g.ag p (by simp [hp]) x (by simp [hx]),λp hp=>g.rg p (by simp [hp])⟩
    have hq:q∈prs v w:=BI.mpr ⟨g.rg q (by simp),g.ag q (by simp) q (by simp)⟩
    exact Wb.mpr ⟨ah,(lO j).mpr ⟨by simpa using h,ga⟩,Sf.mpr ⟨q,S7.mpr ⟨hq,(EI ga hq).mpr g⟩,rfl⟩⟩
theorem Iz {l:List Nat}{m:Nat}(hu:l.Pairwise (· < ·)) (hl:l.length=m) (hm:∀x∈l,x < m):l=Se m:=by
 have st:=TZ.mp hu
 have lo:∀k (hk:k < l.length),k<=l[k]:=by
  intro k
  induction k with
  | zero=>intro _;exact SQ _
  | succ k ih=>
   intro hk
   have:=st k (k + 1) (by omega) hk (by omega)
   have:=ih (by omega)
   omega
 have hi:∀d k (hk:k < l.length),l.length - 1 - k=d->l[k]<=k:=by
  intro d
  induction d with
  | zero=>
   intro k hk e
   have:=hm l[k] (Tt hk)
   omega
  | succ d ih=>
   intro k hk e
   have h1:=ih (k + 1) (by omega) (by omega)
   have h2:=st k (k + 1) hk (by omega) (by omega)
   omega
 refine Vg (by simp [hl]) λk h1 h2=>?_
 rw [ZL]
 exact Nat.le_antisymm (hi _ k h1 rfl) (lo k h1)
structure pW (v w:Wd) (σ:List Nat):Prop where
 len:σ.length=v.m
 rg:∀y∈σ,y < v.m
 nd:σ.Nodup
 ms:∀k (hk:k < σ.length),v.ms.map (λr=>decide (k∈r.2))=w.ms.map λr=>decide (σ[k]∈r.2)
 ar:∀j k (hj:j < σ.length) (hk:k < σ.length),v.ar.map (λr=>decide ((j,k)∈r.2))=w.ar.map λr=>decide ((σ[j],σ[k])∈r.2)
def gG (σ:List Nat):List (Nat×Nat):=(Se σ.length).zip σ
theorem B_ {σ:List Nat}{k:Nat}(hk:k < σ.length):(gG σ)[k]?=some (k,σ[k]):=by
 unfold gG
 rw [Vr]
 exact ⟨by simp [hk],by simp [hk]⟩
theorem gH {σ:List Nat}{p:Nat×Nat}:p∈gG σ↔∃hk:p.1 < σ.length,σ[p.1]=p.2:=by
 constructor
 ·intro h
  obtain ⟨k,hk,e⟩:=T8.mp h
  have hk':k < σ.length:=by simpa [gG] using hk
  have:=B_ hk'
  rw [Sn hk,e] at this
  cases this
  exact ⟨hk',rfl⟩
 ·rintro ⟨hk,e⟩
  have:=B_ hk
  rw [e] at this
  exact T6 this
theorem sO {v w:Wd}(hm:w.m=v.m){σ:List Nat}(i:pW v w σ):Good v w (gG σ):=by
 refine ⟨?_,λp hp q hq=>?_,λp hp=>?_⟩
 ·have h:((gG σ).map Vb).Pairwise (· < ·):=by
   unfold gG
   rw [List.map_fst_zip (by simp)]
   exact T9
  exact S0.mp h
 ·obtain ⟨h1,e1⟩:=gH.mp hp
  obtain ⟨h2,e2⟩:=gH.mp hq
  refine ⟨⟨λe=>?_,λe=>?_⟩,?_,?_⟩
  ·rw [<-e1,<-e2];simp only [e]
  ·rw [<-e1,<-e2] at e
   exact (Yq i.nd).mp e
  ·rw [<-e1];exact i.ms p.1 h1
  ·rw [<-e1,<-e2];exact i.ar p.1 q.1 h1 h2
 ·obtain ⟨h1,e1⟩:=gH.mp hp
  refine ⟨by rw [<-i.len];exact h1,?_⟩
  rw [hm,<-e1]
  exact i.rg _ (Tt h1)
theorem sM {v w:Wd}(hm:w.m=v.m){ps:List (Nat×Nat)}(g:Good v w ps) (hl:ps.length=v.m):ps=gG (ps.map W7)/\pW v w (ps.map W7):=by
 have f:ps.map Vb=Se v.m:=Iz (S0.mpr g.up) (by rw [Sh,hl]) λx hx=>by
  obtain ⟨p,hp,rfl⟩:=Sf.mp hx
  exact (g.rg p hp).1
 have at_:∀k (hk:k < ps.length),ps[k]=(k,(ps.map W7)[k]'(by rw [Sh];exact hk)):=λk hk=>by
  have h1:(ps.map Vb)[k]?=some ps[k].1:=by rw [SJ,Sn hk];rfl
  rw [f,We (by omega)] at h1
  rw [Wa]
  exact acZ (TF h1).symm rfl
 refine ⟨?_,⟨by rw [Sh,hl],λy hy=>?_,?_,λk hk=>?_,λj k hj hk=>?_⟩⟩
 ·unfold gG
  rw [Sh,hl,<-f]
  refine Vg (by simp) λk h1 h2=>?_
  simp
 ·obtain ⟨p,hp,rfl⟩:=Sf.mp hy
  rw [<-hm]
  exact (g.rg p hp).2
 ·refine S0.mpr ((VR.mp g.up).imp ?_)
  rintro p q ⟨hp,hq,h⟩ e
  have:=(g.ag p hp q hq).eq
  omega
 ·have hk':k < ps.length:=by rw [Sh] at hk;exact hk
  have h:=(g.ag ps[k] (Tt hk') ps[k] (Tt hk')).ms
  have e1:=congrArg Vb (at_ k hk')
  have e2:=congrArg W7 (at_ k hk')
  rw [e1,e2] at h
  exact h
 ·have hk':k < ps.length:=by rw [Sh] at hk;exact hk
  have hj':j < ps.length:=by rw [Sh] at hj;exact hj
  have h:=(g.ag ps[j] (Tt hj') ps[k] (Tt hk')).ar
  have e1:=congrArg Vb (at_ k hk')
  have e2:=congrArg W7 (at_ k hk')
  have e3:=congrArg Vb (at_ j hj')
  have e4:=congrArg W7 (at_ j hj')
  rw [e1,e2,e3,e4] at h
  exact h
theorem Dg (a b:Nat):fG (dN a) (dN b)=true↔a < b:=by
 rw [nT,decide_eq_true_eq]
 omega
theorem Jb (a b:Nat×Nat):fG (dP a) (dP b)=true↔qx a b:=by
 have e:fG (dP a) (dP b)=iI [dN a.1,dN a.2] [dN b.1,dN b.2]:=rfl
 rw [e,jU,K55.rQ]
 unfold qx
 by_cases c:a.1=b.1
 ·rw [if_pos (by simpa using c),jU,K55.rQ]
  by_cases c2:a.2=b.2
  ·rw [if_pos (by simpa using c2)]
   constructor
   ·intro h;cases h
   ·intro h;omega
  ·rw [if_neg (by simpa using c2)]
   rw [show fG (D.int a.2) (D.int b.2)=fG (dN a.2) (dN b.2) from rfl,Dg]
   omega
 ·rw [if_neg (by simpa using c)]
  rw [show fG (D.int a.1) (D.int b.1)=fG (dN a.1) (dN b.1) from rfl,Dg]
  omega
end K23
namespace DL
open PySem PySem.Spec PyProof.Rows L2 DX
section
variable {X:Cx}{c:C}{e ke a b:Tc}{g gk ga gb:G R}{pos:Pos}
noncomputable def OA (K:R_):Cr:=λo i v H Q=>∃J p ks vs kxs d,aW J H/\o=.ref p/\fm K J H p ks vs/\fj (.tup kxs)=true/\Rep K J (.tup kxs) i/\Rep K J d v/\ks.length<=sizeLine/\∀o,fm K J (upd H p o) p (dput (ks,vs) (.tup kxs) d).1 (dput (ks,vs) (.tup kxs) d).2->Q (upd H p o)
theorem set_dict (hu:X.A.units + 64 < Us):LJ X (OA X.K):=by
 intro R0 s σ H o i v ov iv u Q I ro ri rv h
 obtain ⟨J,p,ks,vs,kxs,d,sm,rfl,hd,ok,rk,rd,hl,q⟩:=h
 obtain ⟨_,_,k1,k2⟩:=jw ok
 obtain ⟨r,rfl⟩:∃r,i=.ref r:=by cases rk;exact ⟨_,rfl⟩
 cases ro
 cases ri
 obtain ⟨xs,hm,lx,put⟩:=BS I sm hd
 refine wpAny_setItem_heap (knd:=oU X.prog X.w) (k:=⟨.tup kxs,k1,k2⟩) (show X.A.units + 1 + 16 < Us by omega) (lq (HF.of (c:=⟨X.K,H,H,λ_=>True⟩) I sm) k1 rk) hm (λh' hm' sb=>?_) (by rw [lx];exact hl)
 obtain ⟨o,W,hd,_⟩:=put k1 k2 rk rd rv h' _ hm' sb
 exact ⟨_,W,q o hd⟩
noncomputable def zf (i:Nat) (gk g:G R):G O:=λenv=>match env[i]? with
 | some (some (.dk ks vs))=>g env >>= λr=>toD r >>= λd=>gk env >>= λr2=>toD r2 >>= λk=>if fj k=true/\ks.length<=1000000 then .ok (.nx (env.set i (some (.dk (dput (ks,vs) k d).1 (dput (ks,vs) k d).2)))) else .bad
 | _=>.bad
theorem Ex {prog:Sy}{w:S9}{K:Type} [DecidableEq K] {knd:HeapKind prog w K}{A:Td}{E:Sa->Sd->Prop}{s:Sd}{d a:Sq}{k:K}{xs:List (K×Sq×Sa)}{Q:Bool->Sd->Prop}(hu:knd.room A.in1) (hkey:knd.is s.heap k a) (hd:(d == VJ)=false)
  (hm:s.heap.DictOfH knd d xs) (h:Q (abS xs k).isSome {s with toks:=s.toks + knd.draws k}):SH (SM prog w) A (contains (.ref d) (.ref a)) Q E s:=by
 refine wpAny_contains_slot hm.typeIs ZP (Tz ZP hm.typeIs entry_dict_contains ?_ (args_dict_contains _ _))
 show SH _ _ (dictGet d (.ref a) >>= λ_=>_) _ _ s
 refine R9 (wpAny_dictGet_heap hu hkey hm ?_)
 cases q:abS xs k with
 | some p=>rw [q] at h;exact Sb ⟨_,rfl,TX h⟩
 | none=>rw [q] at h;exact R9 (wpAny_pendingKey_other hd (Sb ⟨_,rfl,TX h⟩))
noncomputable def H_ (K:R_) (neg:Bool):R2:=λx y H Q=>∃J p ks vs k,aW J H/\y=.ref p/\fm K J H p ks vs/\Rep K J k x/\fj k=true/\Q (.bl (if neg then !(iD ks vs k).isSome else (iD ks vs k).isSome)) H
theorem GK (hu:X.A.units + 64 < Us){R0:List (Sq×Obj)}{s:Sd}{σ:L2.St}{H:Hp}{x y:V}{v u:Sa}{Q:VK}{neg:Bool}(I:Inv X R0 σ H s) (rx:RelV x v) (ry:RelV y u) (h:H_ X.K neg x y H Q):SH (SM X.prog X.w) X.A (contains u v) (λr s'=>EP X R0 σ Q (.bool (if neg then !r else r)) s') X.xe s:=by
 obtain ⟨J,p,ks,vs,k,sm,rfl,hd,hk,ok,q⟩:=h
 have F:HF X.K J s:=HF.of (c:=⟨X.K,H,H,λ_=>True⟩) I sm
 obtain ⟨kx,rfl,k1,k2⟩:=jw ok
 obtain ⟨r,rfl⟩:∃r,x=.ref r:=by cases hk;exact ⟨_,rfl⟩
 cases rx
 cases ry
 obtain ⟨xs,us,ws,hm,e2,_,hv,e4,_,hsm⟩:=sG (P:=X.prog) (w:=X.w) F (iz I) hd
 have e:(abS xs ⟨.tup kx,k1,k2⟩).isSome=(iD ks vs (.tup kx)).isSome:=by
  obtain ⟨l1,l2⟩:=xZ (K:=X.K) (J:=J) ⟨.tup kx,k1,k2⟩ e2 hv e4
  cases z:iD ks vs (.tup kx) with
  | some d=>obtain ⟨p,_,e,_⟩:=l1 d z;rw [e];rfl
  | none=>rw [l2 z];rfl
 exact Ex (k:=⟨.tup kx,k1,k2⟩) (show X.A.units + 1 + 16 < Us by omega) (lq F k1 hk) hsm hm ⟨.bl _,H,I.tok _,by rw [e];rfl,q⟩
theorem Fd (hu:X.A.units + 64 < Us):dY X (Uw .In) (H_ X.K false):=λR0 s σ H x y v u Q I rx ry h=>R9 (Tr (GK hu I rx ry h) (λ_ _ h=>Sb h) λ_ _ f=>f)
noncomputable def oK (neg:Bool) (x y:R):M R:=match vX y,x with
 | some z,.d k=>if fj k=true then .ok (.d (.bl (if neg then !(iD z.1 z.2 k).isSome else (iD z.1 z.2 k).isSome))) else .bad
 | _,_=>.bad
theorem Ea (neg:Bool) (hK:X.K=c.K):BD c (H_ X.K neg) (oK neg):=by
 intro He He' J H x y u v Q hp rx ry w
 unfold oK at w
 split at w
 ·rename_i hz
  obtain ⟨p,rfl,hd⟩:=ry.dk hp hz
  split at w
  ·rename_i ok
   exact ⟨J,p,_,_,_,hp.sub,rfl,by rw [hK];exact hd,by rw [hK];exact rx,ok,w _ J H (Ext.refl hp.sub) (.bl _)⟩
  ·exact w.elim
 ·exact w.elim
theorem HV (i:Nat){x:Str}{p1 p2:Pos}(hu:X.A.units + 64 < Us) (h:QD X c e g) (hk:QD X c ke gk) (hN:X.N[i]?=some x:=by rfl) (hv:vW X.env.scope x:=by first | exact Xr rfl | exact Wv (Xr rfl) | exact Wv (Wv rfl)) (hd:(x == ("__debug__":Str))=false:=by decide)
  (hcd:(x == ("__classdict__":Str))=false:=by decide)
  (ha:∀v,assign (.Subscript (.Name x p1) ke p2) X.env v=(do
   let ov <-holding [v] (eval (.Name x p1) X.env)
   let iv <-holding [v,ov] (eval ke X.env)
   VB p2
   (holding [v,ov,iv] (setItem ov iv v))
   release [v,ov,iv] []):=by intro _;rfl)
  (hs:Wm [.Subscript (.Name x p1) ke p2] e pos.line X.env=pure false:=by rfl) (hw:Zu [.Subscript (.Name x p1) ke p2] e X.env=pure none:=by rfl)
  (h1:(Vv [.Subscript (.Name x p1) ke p2] X.env).map (·.2)=[assign (.Subscript (.Name x p1) ke p2) X.env]:=by rfl) (hK:X.K=c.K:=by rfl):
  jm X c (.Assign [.Subscript (.Name x p1) ke p2] e pos) (zf i gk g):=have h:=h.h;have hk:=hk.h;⟨
 jy (Fz h (M8 (qz hN hv hd hcd) hk (set_dict hu) ha) hs hw h1) λE σ H ⟨J,env,sr,w⟩=>by
  unfold zf at w
  split at w
  ·rename_i ks vs hi
   obtain ⟨v,q1,p,rfl,h2,h3,h4⟩:=sr.at_ i _ hi
   refine ⟨J,env,sr,aG (aL w) λr wr y J1 H1 e1 r1=>?_⟩
   obtain ⟨d,q,wr⟩:=jf wr
   obtain ⟨J2,e2,s2,rd⟩:=freeze e1 r1 q
   refine ⟨.ref p,q1,?_⟩
   refine ⟨J2,env,sr.ext e2,aG (aL wr) λrk wk vk J3 H3 e3 r3=>?_⟩
   obtain ⟨k,qk,wk⟩:=jf wk
   obtain ⟨J4,e4,s4,rk⟩:=freeze e3 r3 qk
   have e5:=e2.trans e4
   split at wk
   ·rename_i ok
    obtain ⟨kxs,rfl,_⟩:=jw ok.1
    have h2':=h2.mono e5.j e5.h
    have h3':=e5.frz p h2.ne h3
    refine ⟨J4,p,ks,vs,kxs,d,e5.sub,rfl,by rw [hK];exact h2',ok.1,by rw [hK];exact rk,by rw [hK];exact rd.mono e4.j,S5 ok.2 (by decide),λo ho=>?_⟩
    rw [hK] at ho
    exact wk σ J4 _ e5.j ((sr.ext e5).updM (x:=.inr (ks,vs)) (y:=.inr (dput (ks,vs) (.tup kxs) d)) hi q1 h3' h4 ⟨p,rfl,ho,h3',h4⟩)
   ·exact wk.elim
  ·exact w.elim⟩
theorem K5 (hu:X.A.units + 64 < Us) (ha:QD X c a ga) (hb:QD X c b gb) (hK:X.K=c.K:=by rfl) (hm:T_ .In b=false:=by rfl):QD X c (.Compare a [.In] [b] pos) (g2 (oK false) ga gb):=⟨qy (Fd hu) (Ea false hK) ha.h hb.h hm⟩
theorem K3 (hu:X.A.units + 64 < Us) (ha:QD X c a ga) (hb:QD X c b gb) (hK:X.K=c.K:=by rfl) (hm:T_ .In b=false:=by rfl):QB X c (.Compare a [.In] [b] pos) (aV (g2 (oK false) ga gb)):=⟨jx (Fd hu) (Ea false hK) ha.h hb.h hm⟩
end
end DL
namespace K22
open PySem DL
end K22
namespace K22
open PySem DL K01 WP K51 K52 K55 K23
section
variable {env:Ev}{tg:GT}{u t:G O}{α:Type}{h:α->D}{Q:O->Prop}{gi:G (List D)}
theorem w_all (I:Ev->Prop) (f:α->Bool):∀(xs:List α) (env:Ev),I env->(∀x∈xs,∀env,I env->∃e,tg (h x) env=.ok e/\Wp (u e) λo=>(f x=true/\∃e',o=.nx e'/\I e')\/(f x=false/\o=.rt (.d (.bl false))))->
  Wp (eY tg u (xs.map h) env) λo=>(xs.all f=true/\∃e',o=.nx e'/\I e')\/(xs.all f=false/\o=.rt (.d (.bl false)))
 | [],env,hI,_=>⟨.nx env,rfl,.inl ⟨rfl,env,rfl,hI⟩⟩
 | x::xs,env,hI,step=>by
  obtain ⟨e,h1,o,ho,hP⟩:=step x Si env hI
  rw [Sx,VE]
  show Wp (tg (h x) env >>= _) _
  rw [h1,aM,ho,aM]
  rcases hP with ⟨hf,e',rfl,hI'⟩ | ⟨hf,rfl⟩
  ·rw [hf,Vi]
   exact w_all I f xs e' hI' λx hx=>step x (Sg _ hx)
  ·rw [hf]
   exact ⟨_,rfl,.inr ⟨rfl,rfl⟩⟩
theorem Gk (I:Ev->Prop) (xs:List α) (h0:I env) (step:∀x∈xs,∀e,I e->∃e',tg (h x) e=.ok e'/\Wp (u e') λo=>∃e,o=.nx e/\I e) (k:∀e,I e->Q (.nx e)):Wp (eY tg u (xs.map h) env) Q:=by
 refine (w_all I (λ_=>true) xs env h0 λx hx e he=>?_).mono ?_
 ·obtain ⟨e',a,b⟩:=step x hx e he
  exact ⟨e',a,b.mono λo ⟨e,h1,h2⟩=>.inl ⟨rfl,e,h1,h2⟩⟩
 ·rintro o (⟨_,e,rfl,hI⟩ | ⟨z,_⟩)
  ·exact k e hI
  ·simp at z
theorem Jl (I:Ev->Prop) (f:α->Bool) (xs:List α) (hg:gi env=.ok (xs.map h)) (h0:I env) (step:∀x∈xs,∀env,I env->∃e,tg (h x) env=.ok e/\Wp (u e) λo=>(f x=true/\∃e',o=.nx e'/\I e')\/(f x=false/\o=.rt (.d (.bl false))))
  (k1:xs.all f=true->∀e,I e->Wp (t e) Q) (k2:xs.all f=false->Q (.rt (.d (.bl false)))):Wp (aD (c_ gi tg u) t env) Q:=by
 refine kQ hg ((w_all I f xs env h0 step).mono ?_)
 rintro o (⟨z,e,rfl,hI⟩ | ⟨z,rfl⟩)
 ·exact k1 z e hI
 ·exact k2 z
theorem CW (I:Ev->Prop) (f:α->Bool) (xs:List α) (hg:gi env=.ok (xs.map h)) (h0:I env) (step:∀x∈xs,∀env,I env->∃e,tg (h x) env=.ok e/\Wp (u e) λo=>(f x=true/\∃e',o=.nx e'/\I e')\/(f x=false/\o=.rt (.d (.bl false)))):
  Wp (c_ gi tg u env) λo=>(xs.all f=true/\∃e',o=.nx e'/\I e')\/(xs.all f=false/\o=.rt (.d (.bl false))):=oV hg (w_all I f xs env h0 step)
end
theorem IV (neg a b:Bool):dO neg (.d (.bl a)) (.d (.bl b))=.ok (.d (.bl (if neg then !(a == b) else a == b))):=by
 cases neg <;> cases a <;> cases b <;> rfl
theorem iN (ps:List (Nat×Nat)):fj (bq ps)=true:=by
 have h1:∀qs:List (Nat×Nat),areKeys (qs.map dP)=true:=λqs=>by
  induction qs with
  | nil=>rfl
  | cons q qs ih=>rw [Sx];unfold areKeys;rw [ih];rfl
 have h2:deps (ps.map dP)<=1:=fN λx hx=>by obtain ⟨q,_,rfl⟩:=Sf.mp hx;exact Sl _
 show (areKeys (ps.map dP) && decide (deps (ps.map dP) + 1<=8))=true
 rw [h1,decide_eq_true (by omega)]
 rfl
section
variable {env:Ev}{g gk:G R}{r r2:R}{u:G O}{Q:O->Prop}{i:Nat}
theorem Oh {ks vs:List D}{k d:D}(h0:env[i]?=some (some (.dk ks vs))) (h:g env=.ok r) (h2:toD r=.ok d) (h3:gk env=.ok r2) (h4:toD r2=.ok k) (ok:fj k=true) (hl:ks.length<=1000000) (q:Q (.nx (env.set i (some (.dk (dput (ks,vs) k d).1 (dput (ks,vs) k d).2))))):Wp (zf i gk g env) Q:=by
 refine ⟨_,?_,q⟩
 unfold zf
 rw [h0]
 simp only
 rw [h,aM,h2,aM,h3,aM,h4,aM,if_pos ⟨ok,hl⟩]
theorem KC {a b:G R}(h:a env=.ok (.d (.bl true))):sL a b env=.ok (.d (.bl true)):=by
 unfold sL;rw [h];rfl
theorem MW {a b:G R}(h:a env=.ok (.d (.bl false))) (h2:b env=.ok r):sL a b env=.ok r:=by
 unfold sL;rw [h];exact h2
theorem zN {a b:G Bool}{k:Bool}(h1:a env=.ok false) (h2:b env=.ok k):bV a b env=.ok k:=by
 unfold bV;rw [h1];exact h2
end
end K22
namespace DL
open PySem PySem.Spec PyProof.Rows L2 DX
section
variable {X:Cx}{c:C}
noncomputable def yp (X:Cx) (c:C) (cm:Option (Sa->Sem Unit)->Sem Sa) (g:G R):Prop:=
 ∀{R0:List (Sq×Obj)}{s:Sd}{σ:L2.St}{H:Hp}{Q:VK}{use:Option (Sa->Sem Unit)}{Q0:Sa->Sd->Prop},Inv X R0 σ H s->tD c g σ H Q->
  (∀(acc C:Sq) (m:Str->Option Sa) (s':Sd) (H':Hp) (fl:Flow),s'.heap.Ns C m->((C∈X.ex\/X.s₀.heap.objs.size<=C)/\C≠X.env.locals/\(∀x c,X.env.cells.lookup x=some c->c≠C)/\∀p∈X.pn++R0,p.1≠C)->H' C=none->(∀h'',T5 C s'.heap h''->Inv X R0 σ H' {s' with heap:=h''})->Q (.ref acc) H'->ZO (SM X.prog X.w) X.A X.xe use Q0 (.ref acc) C (.ok fl) s')->
  SH (SM X.prog X.w) X.A (cm use) Q0 X.xe s
theorem Pu {e:Tc}{cm:Option (Sa->Sem Unit)->Sem Sa}{g:G R}(core:yp X c cm g) (hev:eval e X.env=cm none):PD X c e g:=by
 intro R0 s σ H Q I h
 rw [hev]
 exact core I h λacc C m s' H' fl hm hz hf hb q=>⟨m,hm,λh'' sb=>⟨.ref acc,H',hb h'' sb,rfl,q⟩⟩
theorem HD (i:Nat){e:Tc}{cm:Option (Sa->Sem Unit)->Sem Sa}{g:G R}{x:Str}{pos' pos2:Pos}(hN:X.N.Nodup) (core:yp X c cm g) (hev:∀use,evalThenUse e X.env use=(do let _ <-cm (some use))) (hx:X.N[i]?=some x) (QJ:X.env.scope.names.lookup x=some .local)
  (hsw:VO e (some (.Name x pos')) pos2.line X.env=pure true):Bf X c (.Assign [.Name x pos'] e pos2) (aN i g):=by
 intro R0 s σ H D I ⟨J,env,sr,w⟩
 rw [YU]
 refine R9 (UC ?_)
 rw [show Wm [.Name x pos'] e pos2.line X.env=pure true from hsw]
 refine R9 (Sb ?_)
 rw [if_pos rfl,hev]
 refine R9 (R9 (core (Q:=λv H1=>∃J1 r xx,Ext J H J1 H1/\RR c H J1 H1 r v/\toS r=.ok xx/\oP c J D (.nx (env.set i (some xx)))) I ⟨J,env,sr,aG (aL w) λr wr v J1 H1 e1 r1=>?_⟩ λacc C m s' H' fl hm ap hf hb ⟨J1,r,xx,e1,r1,q1,w1⟩=>?_))
 ·obtain ⟨xx,q,wr⟩:=oh wr
  exact ⟨J1,r,xx,e1,r1,q,wr⟩
 ·have I1:L2.Inv X R0 σ H' s':=hb s'.heap (X5 ..)
  show SH _ _ (do VB pos';acJ X.env x (.ref acc)) _ _ _
  refine R9 (UC (Zg ?_))
  refine mW I1 hN hx (.inl QJ) (v:=.ref acc) (u:=.ref acc) rfl (λs2 I2 ⟨a,sb,ha⟩=>?_) (.inr QJ)
  have hac:C≠a:=λz=>by
   rcases ha with e | e
   ·exact ap.2.1 (z.trans e)
   ·exact ap.2.2.1 _ _ e z.symm
  refine ⟨m,hm.sameBut sb hac,λh2 sb2=>?_⟩
  refine Sb (Sb ⟨σ.set i (some (.ref acc)),H',qv I2 ap hf sb2 (o0:=default),?_⟩)
  exact w1 _ J1 H' e1.j (sr.set e1 r1 q1)
noncomputable def jb (n:Nat) (cap:List Nat) (gi:G (List D)) (gt:GT) (gts:G Bool) (gk gv:G R):G R:=ju 1000000 n cap gi gt gts (sy gk gv) (λys=>.ok (.mf (i_ ys).1 (i_ ys).2))
theorem OS (kx vx t0 i0:Tc) (f0:List Tc) (RZ:Vc) (pos:Pos) (it:Sa) (p:Sq) (env:Env):
  WQ (.DictComp kx vx [⟨t0,i0,f0,0⟩] RZ pos) 0 it (.ref p) env=mY t0 i0 f0 it env (Dq kx vx p env) (again (.compLoop (.DictComp kx vx [⟨t0,i0,f0,0⟩] RZ pos) 0 it (.ref p) env)):=by rfl
theorem Es (hu:X.A.units + 64 < Us) (hK:X.K=c.K) (own:List Str) (cap:List Nat){kx vx t0 i0:Tc}{f0:List Tc}{RZ:Vc}{pos pos':Pos}{gi0:G (List D)}{gt0:GT}{gts0:G Bool}{gk gv:G R}(hi:pZ X c t0 i0 gi0)
  (hbody:∀(cl:List (Str×Sq)) (C:Sq) (s:Sd) (H:Hp) (fp:List Sq),bJ X.env.cells RZ.names []=some cl->jl (aZ X own cap RZ cl C s H fp) c t0 gt0/\gX (aZ X own cap RZ cl C s H fp) c f0 gts0/\PD (aZ X own cap RZ cl C s H fp) c kx gk/\PD (aZ X own cap RZ cl C s H fp) c vx gv)
  (hk:RZ.kind=.function) (hno:fR X cap RZ=true) (hnames:(RZ.names.all λx=>!(x.2 == .local) || (RZ.names.lookup x.1 == some .local))=true)
  (hcl:(bJ X.env.cells RZ.names []).isSome=true) (hcap:eW X cap=true) (hloc:eZ X cap RZ=true) (hnd:gq cap=true) (Qw:X.calm=true) (hs:∀x,Sz i0 X.env x=pure x):
  yp X c (λuse=>comprehension (.DictComp kx vx [⟨t0,i0,f0,0⟩] RZ pos) RZ X.env pos' newDict false (eval i0 X.env) use) (jb own.length cap gi0 gt0 gts0 gk gv):=by
 intro R0 s σ H Q use Q0 I h QC
 refine oE (e:=.DictComp kx vx [⟨t0,i0,f0,0⟩] RZ pos) (ob:={cls:=.type "dict",data:=.dict #[]}) (o0:=λa=>lI a 0 []) (Acc:=Cs c) (N:=1) (lim:=1000000) (m:=λp env=>Dq kx vx p env) own cap rfl hi
  (λs Q E q=>Tg q) (λh H=>⟨⟨_,#[],Sw _ rfl,⟨rfl,rfl,rfl⟩,rfl,.nil⟩,⟨_,Sw _ rfl⟩,λh1 h2 ⟨o,es,a1,a2⟩ e=>⟨o,es,e o a1,a2⟩⟩) (λp=>sq) (λp J H hsm h1 h2=>⟨⟨[],[],0,h1,.nil,.nil,⟨rfl,U4,SQ _,λ_ h=>(nomatch h)⟩,beq_eq_false_iff_ne.mpr (Vt (S4 hsm)),rfl⟩,h2,Sl _⟩) (by decide) (λit p env=>Dd (OS ..)) (λit acc env R s h0 h=>YB h0 h) (λys z q=>by cases q)
  (fun {p J H J' H' ys r} hp e ⟨h1,h2,h8⟩ q=>by cases q;exact ⟨J',e,⟨p,rfl,h1,h2,hp⟩⟩) (λcl C s H fp hcc=>?_) hk hno hnames hcl hcap hloc hnd Qw hs I h QC
 obtain ⟨b1,b2,b3,b4⟩:=hbody cl C s H fp hcc
 exact ⟨b1,b2,λp J2 H2 hp2 hp0=>Bm hu hK (λ_ _ f=>f) hp2 hp0 b3 b4⟩
theorem ux (hu:X.A.units + 64 < Us) (own:List Str) (cap:List Nat){kx vx t0 i0:Tc}{f0:List Tc}{RZ:Vc}{pos:Pos}{gi0:G (List D)}{gt0:GT}{gts0:G Bool}{gk gv:G R}(hi:rK X c t0 i0 gi0)
  (hbody:∀(cl:List (Str×Sq)) (C:Sq) (s:Sd) (H:Hp) (fp:List Sq),bJ X.env.cells RZ.names []=some cl->lF (aZ X own cap RZ cl C s H fp) c t0 gt0/\kC (aZ X own cap RZ cl C s H fp) c f0 gts0/\QD (aZ X own cap RZ cl C s H fp) c kx gk/\QD (aZ X own cap RZ cl C s H fp) c vx gv)
  (hk:RZ.kind=.function:=by rfl) (hno:fR X cap RZ=true:=by rfl) (hnames:(RZ.names.all λx=>!(x.2 == .local) || (RZ.names.lookup x.1 == some .local))=true:=by rfl)
  (hcl:(bJ X.env.cells RZ.names []).isSome=true:=by rfl) (hcap:eW X cap=true:=by rfl) (hloc:eZ X cap RZ=true:=by rfl) (hnd:gq cap=true:=by rfl) (Qw:X.calm=true:=by rfl)
  (hs:∀x,Sz i0 X.env x=pure x:=by intro _;rfl) (hK:X.K=c.K:=by rfl):QD X c (.DictComp kx vx [⟨t0,i0,f0,0⟩] RZ pos) (jb own.length cap gi0 gt0 gts0 gk gv):=
 ⟨Pu (Es hu hK own cap hi.h (λcl C s H fp hc=>let ⟨a,b,d,e⟩:=hbody cl C s H fp hc;⟨a.h,b.h,d.h,e.h⟩) hk hno hnames hcl hcap hloc hnd Qw hs) rfl⟩
theorem Dr (i:Nat) (hu:X.A.units + 64 < Us) (own:List Str) (cap:List Nat){kx vx t0 i0:Tc}{f0:List Tc}{RZ:Vc}{pos pos' pos2:Pos}{x:Str}{gi0:G (List D)}{gt0:GT}{gts0:G Bool}{gk gv:G R}(hN:X.N.Nodup) (hi:rK X c t0 i0 gi0)
  (hbody:∀(cl:List (Str×Sq)) (C:Sq) (s:Sd) (H:Hp) (fp:List Sq),bJ X.env.cells RZ.names []=some cl->lF (aZ X own cap RZ cl C s H fp) c t0 gt0/\kC (aZ X own cap RZ cl C s H fp) c f0 gts0/\QD (aZ X own cap RZ cl C s H fp) c kx gk/\QD (aZ X own cap RZ cl C s H fp) c vx gv)
  (hk:RZ.kind=.function:=by rfl) (hno:fR X cap RZ=true:=by rfl) (hnames:(RZ.names.all λx=>!(x.2 == .local) || (RZ.names.lookup x.1 == some .local))=true:=by rfl)
  (hcl:(bJ X.env.cells RZ.names []).isSome=true:=by rfl) (hcap:eW X cap=true:=by rfl) (hloc:eZ X cap RZ=true:=by rfl) (hnd:gq cap=true:=by rfl) (Qw:X.calm=true:=by rfl)
  (hs:∀x,Sz i0 X.env x=pure x:=by intro _;rfl) (hx:X.N[i]?=some x:=by rfl) (QJ:X.env.scope.names.lookup x=some .local:=by rfl)
  (hsw:VO (.DictComp kx vx [⟨t0,i0,f0,0⟩] RZ pos) (some (.Name x pos')) pos2.line X.env=pure true:=by rfl) (hK:X.K=c.K:=by rfl):jm X c (.Assign [.Name x pos'] (.DictComp kx vx [⟨t0,i0,f0,0⟩] RZ pos) pos2) (aN i (jb own.length cap gi0 gt0 gts0 gk gv)):=
 ⟨HD i hN (Es hu hK own cap hi.h (λcl C s H fp hc=>let ⟨a,b,d,e⟩:=hbody cl C s H fp hc;⟨a.h,b.h,d.h,e.h⟩) hk hno hnames hcl hcap hloc hnd Qw hs) (λ_=>rfl) hx QJ hsw⟩
end
end DL
namespace DL
open PySem PySem.Spec PyProof.Rows L2 DX
open Sem (wp)
section
variable {prog:Sy}{w:S9}{A:Td}{E:Sa->Sd->Prop}{s:Sd}{d it:Sq}{o:Obj}{es:Array YH}{ep i:Nat}
theorem G4 {Q:Sa->Sd->Prop}(hd:(d == VJ)=false) (ho:s.heap.get? d=some o) (hc:o.ExactDict) (hdat:o.data=.dict es ep)
  (hQ:Q (.ref s.heap.objs.size) {s with heap:=s.heap.push {cls:=.type "dict_keyiterator",data:=.fields #[.ref d,.int 0 0,.int es.size 0,.int ep 0]}}):SH (SM prog w) A (XH (.ref d)) Q E s:=by
 have hT:s.TypeIs (.ref d) "dict":=⟨o,ho,hc.1⟩
 refine XZ hT aas (Tz aas hT F.entry_dict_iter ?_ (F.args_dict_iter_1 _));unfold WX.«dict.__iter__»;refine R9 ?_
 unfold abf;refine R9 (wpAny_notOrdered_dict hT (Sb ?_))
 show SH _ _ (Bind.bind (YX d) _) _ _ s
 unfold YX;rw [if_neg (by rw [hd];decide)]
 refine R9 (Sb (R9 (X8 ho hdat (R9 (YY ho hdat ?_)))))
 exact R9 (Tg (Sb ⟨_,rfl,"dict_keyiterator",_,⟨_,Sw _ rfl,rfl⟩,UB.lookup,by simpa [abl] using hQ⟩))
theorem Hr {Q:Option Sa->Sd->Prop}(hit:s.heap.IsKeyIter it d i es.size ep) (hod:s.heap.get? d=some o) (QL:o.data=.dict es ep) (hi:i < es.size)
  (hQ:∀h',h'.IsKeyIter it d (i + 1) es.size ep->T5 it s.heap h'->Q (some es[i].key) {s with heap:=h'}):SH (SM prog w) A (WA (.ref it)) Q E s:=by
 obtain ⟨oi,ho,hc,hd⟩:=id hit
 unfold WA
 refine R9 (Ws (UD (name:=WS "__next__") hit.typeIs UB (Tz UB hit.typeIs W5 ?_ (WW _))))
 refine R9 (Sb (R9 (R9 ?_)))
 refine R9 (UZ hit.typeIs (Sb (R9 (Xz ho hd ?_))))
 have hown:W8 "dict_keyiterator"=false:=by decide
 simp only [hown,SE,if_false]
 show SH _ _ (ite ((Wl d == TU)=true) _ _) _ _ s
 rw [if_neg (show ¬((Wl d == TU)=true) from S_)];refine R9 (Sb (R9 (X8 hod QL ?_)))
 rw [if_neg (by simp)];refine R9 (Sb (R9 (YY hod QL ?_)))
 rw [if_neg (by simp)];refine Sb ?_
 simp only [show ¬((i:Int) < 0) from by omega,if_false,UL,Vq hi]
 refine R9 (R9 (UZ hit.typeIs (Sb ?_)))
 refine R9 (YZ hit.typeIs ?_)
 refine R9 (m:=setField (.ref it) 1 (abl ((i:Int) + 1))) (abg ho hd (by simp) ?_)
 have Ra:(s.heap.update it (abT (·.setIfInBounds 1 (abl ((i:Int) + 1))))).IsKeyIter it d (i + 1) es.size ep:=⟨_,Ue _ ho (Obj.isFreed_of_fields (ZQ hd _)),(Obj.cls_mapFields ..).trans hc,by rw [ZQ hd];simp [abl]⟩
 refine R9 (Te (R9 (YZ (s:={s with heap:=s.heap.update it (abT (·.setIfInBounds 1 (abl ((i:Int) + 1))))}) Ra.typeIs ?_)))
 exact Sb (Sb ⟨_,rfl,Sb (hQ _ Ra (Uv ..))⟩)
theorem JT {Q:Option Sa->Sd->Prop}(hh:A.handled=none) (hit:s.heap.IsKeyIter it d i es.size ep) (hod:s.heap.get? d=some o) (QL:o.data=.dict es ep) (hi:es.size<=i)
  (hQ:∀h',acz it s.heap h'->Q none {s with heap:=h'}):SH (SM prog w) A (WA (.ref it)) Q E s:=by
 obtain ⟨oi,ho,hc,hd⟩:=id hit
 unfold WA
 refine R9 (Ws (UD (name:=WS "__next__") hit.typeIs UB (Tz UB hit.typeIs W5 ?_ (WW _))))
 refine R9 (Sb (R9 (R9 ?_)))
 refine R9 (UZ hit.typeIs (Sb (R9 (Xz ho hd ?_))))
 have hown:W8 "dict_keyiterator"=false:=by decide
 simp only [hown,SE,if_false]
 show SH _ _ (ite ((Wl d == TU)=true) _ _) _ _ s
 rw [if_neg (show ¬((Wl d == TU)=true) from S_)];refine R9 (Sb (R9 (X8 hod QL ?_)))
 rw [if_neg (by simp)];refine R9 (Sb (R9 (YY hod QL ?_)))
 rw [if_neg (by simp)];refine Sb ?_
 simp only [show ¬((i:Int) < 0) from by omega,if_false,UL,Array.getElem?_eq_none hi]
 refine R9 (R9 (UZ hit.typeIs (Sb ?_)))
 refine R9 (m:=setField (.ref it) 0 .none) (abg ho hd (by simp) ?_)
 refine R9 (m:=newExc (.type "StopIteration") []) ?_
 simp only [newExc,newTuple];refine R9 (Tg ?_ (by size_fits))
 refine R9 (m:=XA _ _) (Wf (a:=TU) (by first | rfl | (simp only [XA];rfl)) (Tg ?_ (by size_fits)))
 simp only [raiseNew];refine R9 (abO ?_)
 rw [show A.in1.handled=none from hh];refine R9 (Sb (wpAny_throw ?_))
 exact R9 (W2 (T:="StopIteration") (b:=true) ⟨_,Sw _ rfl,rfl⟩ abe (Sb (hQ _ (((Uv ..).extBut.push _).push _))))
end
end DL
namespace DL
open PySem PySem.Spec PyProof.Rows L2 DX
noncomputable def OU (a:Sq) (ep:Nat) (R7:List (Int×V×V)):It:=⟨λi H=>H a=some (lI a ep R7)/\i < R7.length,λi H x H'=>H'=H/\∃p,R7[i]?=some p/\x=p.2.1,λi H=>H a=some (lI a ep R7)/\R7.length<=i⟩
theorem wM {α β:Type}{F:α->β->Prop}:∀{xs:List α}{ys:List β}{i:Nat}(hi:i < ys.length),XD F xs ys->∃p,xs[i]?=some p/\F p ys[i]
 | _,_,0,_,.cons h _=>⟨_,rfl,h⟩
 | _,_,i + 1,hi,.cons _ t=>wM (i:=i) (by simpa using hi) t
theorem Iw {P:Sy}{w:S9}{K:R_}{tg:Tc}(a it:Sq) (ep:Nat) (R7:List (Int×V×V)):Turn P w K tg (OU a ep R7) [it] it (λi h=>h.IsKeyIter it a i R7.length ep) where
 mem:=by simp
 obj:=λi h st b hb=>by
  cases So.mp hb
  obtain ⟨o,e,c,d⟩:=st
  exact ⟨o,e,λv z=>by rw [d] at z;cases z⟩
 keep:=λi h h' st k=>st.at λo e=>k it (by simp) o e
 item:=by
  rintro X rfl rfl rfl hc i R0 s σ H E I hf st ⟨hq,hi⟩
  obtain ⟨o,es,h1,h2,h3,h4⟩:=(show dw X.prog X.w H s.heap a (lI a ep R7) from I.hok a _ hq).1
  have hl:R7.length=es.size:=by have:=h4.length;simpa using this
  obtain ⟨p,hp,er⟩:=wM (i:=i) (by simp;omega) h4
  obtain ⟨f0,f1,f2,f3,f4,f5⟩:=hf it (by simp)
  refine Hr (es:=es) (ep:=ep) (hl▸st) h1 h3 (by omega) λh' st' sb=>?_
  have I1:Inv X R0 σ H {s with heap:=h'}:=I.turned (t':=s.toks) (λb o hb e=>(sb.2 b hb).trans e) f0 f1 f3 f4 f5
  obtain ⟨oi,e,c,d⟩:=id st'
  exact ⟨_,rfl,yd (s:={s with heap:=h'}) e c d (by decide) ⟨p.2.1,H,I1,by simpa using er.2.1,⟨rfl,p,hp,rfl⟩,by rw [hl];exact st',λb hb=>(hf b hb).1⟩⟩
 done:=by
  rintro X rfl rfl rfl hc i R0 s σ H E I hf st ⟨hq,hi⟩
  obtain ⟨o,es,h1,h2,h3,h4⟩:=(show dw X.prog X.w H s.heap a (lI a ep R7) from I.hok a _ hq).1
  have hl:R7.length=es.size:=by have:=h4.length;simpa using this
  obtain ⟨f0,f1,f2,f3,f4,f5⟩:=hf it (by simp)
  exact JT (es:=es) (ep:=ep) (I.ok.hd hc) (hl▸st) h1 h3 (by omega) λh' eb=>⟨rfl,I.turned (t':=s.toks) (λb o hb e=>eb b o hb e) f0 f1 f3 f4 f5⟩
 self:=λ_ _ _ _ _ st h=>wpAny_pyIter_keyiter st h
section
variable {X:Cx}{c:C}{e tg:Tc}{g:G R}
noncomputable def ze (g:G R):G (List D):=λenv=>g env >>= λr=>match vX r with
 | some z=>.ok z.1
 | none=>.bad
theorem M_ {tl:TE}(hl:PE X e tl):PI X tg e (λσ H Q=>tl σ H λx H1=>∃a ep R7,x=.ref a/\(a == VJ)=false/\H1 a=some (lI a ep R7)/\Q (OU a ep R7) H1):=λR0 s σ H R I h=>cg (hl R0 s σ H _ I h) λv s1 ⟨x,H1,I1,r1,a,ep,R7,ex,hsm,hq,q⟩=>by
 subst ex
 cases r1
 obtain ⟨o,es,h1,h2,h3,h4⟩:=(show dw X.prog X.w H1 s1.heap a (lI a ep R7) from I1.hok a _ hq).1
 have hl:R7.length=es.size:=by have:=h4.length;simpa using this
 refine G4 hsm h1 h2 h3 ⟨s1.heap.objs.size,[s1.heap.objs.size],_,_,H1,rfl,I1.kept (t':=s1.toks) (λb o e=>Sm _ e),Iw a _ ep R7,⟨_,Sw _ rfl,rfl,by rw [hl];rfl⟩,λb hb=>?_,q⟩
 cases So.mp hb
 exact I1.fpOk (Sl _) (I1.hok.fresh (Sl _))
theorem o_ (h:QD X c e g) (hK:X.K=c.K:=by rfl):rK X c tg e (ze g):=have h:=h.h;⟨uv (M_ h) λσ H Q ⟨J,env,sr,w⟩=>by
 refine ⟨J,env,sr,aG (aL w) λr wr v J1 H1 e1 r1=>?_⟩
 cases hz:vX r with
 | none=>rw [hz] at wr;exact wr.elim
 | some z=>
  rw [hz] at wr
  obtain ⟨a,rfl,us,ws,ep,h1,h2,h3,h4,h5,h6⟩:=r1.dk (sr.hp.ext e1) hz
  have hh:∀ds:List D,(cX ds).length=ds.length:=λds=>by induction ds with
   | nil=>rfl
   | cons d ds ih=>show (cX ds).length + 1=_;rw [ih];rfl
  have lk:((cX z.1).zip (us.zip ws)).length=z.1.length:=by
   rw [aaY,aaY,hh,<-h2.length,<-h3.length,<-h6];omega
  refine ⟨a,ep,_,rfl,h5,h1,wr _ J1 H1 e1 λi J' H' hp u=>⟨λhl=>⟨u.2 _ _ h1,by omega⟩,λd hd=>?_⟩⟩
  have hi:i < z.1.length:=(SW.mp hd).1
  obtain ⟨x,k1,k2⟩:=h2.get hd
  refine ⟨⟨u.2 _ _ h1,by omega⟩,λy H2 ⟨e,p,hp',hy⟩=>⟨J',by subst e;exact Ext.refl hp.sub,?_⟩⟩
  have:p.2.1=x:=by
   rw [Vr,] at hp'
   have:=(Vr.mp hp'.2).1
   rw [k1] at this
   cases this;rfl
  rw [hy,this]
  exact k2.mono u.1⟩
end
end DL
namespace DL
open PySem PySem.Spec PyProof.Rows L2
section
variable {X:Cx}{c:C}{e:Tc}{es:List Tc}{g:G R}{pos p:Pos}{x y:Str}
def Gv (K:R_) (mg:Str->Option Sa) (x:Str):Prop:=∃f,Tn K S3 x=some (some (.ref f))/\mg x=some (.ref f)
noncomputable def EE (y:Str) (F:List S->M R) (g:G R):G R:=λenv=>g env >>= λr=>match F [bH r,.fn y] with
 | .ok r=>.ok (cu r)
 | _=>.bad
theorem HX {k k':Nat}{F:List S->M R}{q:Pos}(G:bB X.prog X.w X.K X.mg X.base k 2 x F) (hv:Gv X.K X.mg y) (hr:eF k' X.A) (ha:QD X c e g) (hk:k<=k':=by decide) (hT:c.K=X.K:=by rfl) (hg:Gl X x:=by rfl) (RL:Gl X y:=by rfl)
  (hdb:(x == ("__debug__":Str))=false:=by decide) (RI:(y == ("__debug__":Str))=false:=by decide) (he:Sv [e,.Name y q] X.env=(false,eval e X.env)::Sv [.Name y q] X.env:=by rfl) (Q9:Sv [.Name y q] X.env=(false,eval (.Name y q) X.env)::Sv [] X.env:=by rfl)
  (hpl:(Vd pos (Sv [.Name y q] X.env)).any (·.1)=false:=by rfl):QD X c (.Call (.Name x p) [e,.Name y q] [] pos) (EE y F g):=by
 obtain ⟨f,fd,ps,h1,h2,h3,h4⟩:=G
 obtain ⟨f',h5,h6⟩:=hv
 refine ⟨gg (vE (E:=E0) h1 (hr.mono hk) hg h2 h3 h4 .nil Dn (gT ha.h (gT (BQ (v:=.ref f') RL h6 rfl RI) kq Q9) he) hdb he hpl) λσ H Q ⟨J,env,sr,w⟩=>?_⟩
 refine ⟨J,env,sr,aG (aL w) λr wr v J1 H1 e1 r1=>Jo hT e1 ?_ rfl wr⟩
 obtain ⟨_,_,e,a1,_⟩:=mD.args (rs:=[r]) (vs:=[v]) (sr.hp.ext e1) ⟨v,[],rfl,r1,rfl⟩
 cases e
 exact ⟨v,_,rfl,a1,_,_,rfl,⟨f',rfl,hT▸h5⟩,rfl⟩
noncomputable def CP (i:Nat) (x:Str) (g g':G R):G R:=λenv=>match env[i]? with
 | some (some (.fn z))=>if z=x then g env else g' env
 | _=>.bad
def CO:G R:=λ_=>.bad
theorem BW:QD X c e CO:=⟨λ_ _ _ _ _ _ ⟨_,_,_,w⟩=>w.elim⟩
theorem zU (i:Nat){k k' n:Nat}{F:List S->M R}{gs:G (List R)}(G:bB X.prog X.w X.K X.mg X.base k n x F) (hv:Gv X.K X.mg x) (hr:eF k' X.A) (ha:lE X c (e::es) gs) (rest:QD X c (.Call (.Name y p) (e::es) [] pos) g) (hk:k<=k':=by decide) (hT:c.K=X.K:=by rfl)
  (hN:X.N[i]?=some y:=by rfl) (hvs:vW X.env.scope y:=by first | exact Xr rfl | exact Wv (Xr rfl) | exact Wv (Wv rfl)) (hd:(y == ("__debug__":Str))=false:=by decide) (hcd:(y == ("__classdict__":Str))=false:=by decide)
  (he:Sv (e::es) X.env=(false,eval e X.env)::Sv es X.env:=by rfl) (hpl:(Vd pos (Sv es X.env)).any (·.1)=false:=by rfl):QD X c (.Call (.Name y p) (e::es) [] pos) (CP i x (gN (aF n F) gs) g):=by
 refine ⟨λR0 s σ H Q I ⟨J,env,sr,w⟩=>?_⟩
 obtain ⟨f,fd,ps,h1,h2,h3,h4⟩:=G
 obtain ⟨f',h5,h6⟩:=hv
 have ef:f'=f:=by rw [h2] at h6;cases h6;rfl
 subst ef
 unfold CP at w
 split at w
 ·rename_i z hz
  split at w
  ·rename_i ez
   subst ez
   obtain ⟨_,hv,_,rfl,q⟩:=sr.at_ i _ hz
   rw [hT,h5] at q
   cases q
   refine Wo (cg (qz hN hvs hd hcd R0 s σ H (λv H1=>v=.ref f'/\H1=H) I ⟨_,hv,rfl,rfl⟩) λu s1 ⟨x',H1,I1,rx,ev,eh⟩=>?_)
   subst ev eh
   cases rx
   refine Zw (h₀:=X.base) I1.ok.mod.kin h3 (cg (ha.h pos R0 s1 σ H1 _ I1 (yP hT σ H1 Q ⟨J,env,sr,w⟩)) λus s2 ⟨vs,H2,I2,r,q⟩=>⟨I2.kIn,?_⟩) he hpl
   exact FP h1 (hr.mono hk) h4 .nil Dn I2 r q
  ·exact rest.h R0 s σ H Q I ⟨J,env,sr,w⟩
 ·exact w.elim
end
end DL
namespace K33
open PySem DL
def LD:List Str:=["pairing","pair"]
def EG:G O:=(aP (gN (aF 1 K23.iw) (ao (g2 mH (af 0) (bL (au (af 1) aJ))) ay)))
def pT (as:List S):M R:=fin (EG (aH LD as))
def AN:List Str:=["one","other","side","point"]
noncomputable def rX:G O:=(aD (aX (aV (g2 (dO false) (af 2) (gC (.int 0)))) (aP (bA 1 [3] (bR (ao (g2 br (af 1) (gC (.int 0))) ay)) (az 0) cI (bL (au (af 1) (au (af 0) aJ))))) bF)
 (aP (bA 1 [3] (bR (ao (g2 br (af 0) (gC (.int 0))) ay)) (az 0) cI (bL (au (af 0) (au (af 1) aJ))))))
def gQ (as:List S):M R:=fin (rX (aH AN as))
def D3:List Str:=["one","other"]
noncomputable def wG:G O:=(aP (g2 cF (bA 1 [] (bR (ao (g2 br (af 0) (gC (.int 0))) ay)) (az 0) cI (bL (au (gC (.int 0)) (au (af 0) aJ)))) (bA 1 [] (bR (ao (g2 br (af 1) (gC (.int 0))) ay)) (az 0) cI (bL (au (gC (.int 1)) (au (af 0) aJ))))))
def mz (as:List S):M R:=fin (wG (aH D3 as))
def DZ:List Str:=["one","other","pairing","known","grown"]
noncomputable def wD:G O:=(aD (aN 4 (kX 2 [0,1,2] (bR (ao (g2 br (af 0) (gC (.int 0))) ay)) (az 0) cI (iV (gN (aF 4 K33.gQ) (ao (af 2) (ao (af 3) (ao (gC (.int 0)) (ao (af 0) ay)))))) (az 1) cI (af 1) (gN (aF 2 K33.pT) (ao (af 4) (ao (af 1) ay)))))
 (aP (bA 2 [0,1,4,3] (dX (gN (aF 2 K33.mz) (ao (af 0) (ao (af 1) ay)))) (gm 2 (b_ (az 0) (b_ (az 1) gF))) cI (bA 1 [4,5] (dX (gN (aF 4 K33.gQ) (ao (af 2) (ao (af 3) (ao (af 0) (ao (af 1) ay)))))) (az 0) (aV (g2 (oK false) (g2 iG (af 1) (af 0)) (af 2))) (g2 iG (af 1) (af 0))))))
def mw (as:List S):M R:=fin (wD (aH DZ as))
def tM:List Str:=["rows","depths"]
noncomputable def mK:G O:=(aP (gN kF (ao (bA 1 [1] (dX (af 0)) (az 0) cI (gN qc (ao (bA 1 [1] (dX (af 0)) (az 0) cI (g2 (mJ false) (g2 iG (af 1) (af 0)) (gC .non))) ay))) ay)))
def fh (as:List S):M R:=fin (mK (aH tM as))
def Be:List Str:=["rows","stays","depths","depth","gone","pairing"]
noncomputable def vn:G O:=(aD (aN 2 (jb 1 [] (ze (af 0)) (az 0) cI (af 0) (gC .non)))
 (aD (aN 3 (gC (.int 1)))
 (aD (aN 4 (bA 1 [1,0,2] (ze (af 0)) (az 0) (bD (aV (CP 1 "answered_still" (gN (aF 2 K33.fh) (ao (g2 iG (af 2) (af 0)) (ao (af 3) ay))) CO))) (af 0)))
 (aD (zh 400000 (zg (af 4)) (aD (gY 4 (c_ (iV (af 4)) (az 5) (zf 2 (af 5) (af 3))))
 (aD (vj 3 zc (gC (.int 1)))
 (aN 4 (bA 1 [2,1,0] (ze (af 0)) (az 0) (bK (aV (g2 (mJ false) (g2 iG (af 1) (af 0)) (gC .non))) (bD (aV (CP 2 "answered_still" (gN (aF 2 K33.fh) (ao (g2 iG (af 3) (af 0)) (ao (af 1) ay))) CO)))) (af 0))))))
 (aP (af 2))))))
def nF (as:List S):M R:=fin (vn (aH Be as))
def uU:List Str:=["one","other","base"]
noncomputable def nO:G O:=(aP (bA 1 [2] (dX (gN (aF 3 K23.i8) (ao (af 0) (ao (af 1) (ao (gC (.int 4)) ay))))) (az 0) (aV (gN kF (ao (bA 1 [0] (dX (af 1)) (az 0) cI (g2 (fu false) (af 0) (af 1))) ay))) (af 0)))
def iu (as:List S):M R:=fin (nO (aH uU as))
def tP:List Str:=["one","other","base","known","rows"]
noncomputable def mL:G O:=(aD (aN 3 (jb 1 [] (dX (gN (aF 3 K33.iu) (ao (af 0) (ao (af 1) (ao (af 2) ay))))) (az 0) cI (af 0) (gC (.bl true))))
 (aD (aN 4 (jb 1 [0,1,3] (ze (af 3)) (az 0) cI (af 0) (gN (aF 4 K33.mw) (ao (af 1) (ao (af 2) (ao (af 0) (ao (af 3) ay)))))))
 (aP (EE "answered_still" K33.nF (af 4)))))
def gZ (as:List S):M R:=fin (mL (aH tP as))
def vV:List Str:=["depths","pairing","depth"]
noncomputable def wB:G O:=(aP (bu (g2 (oK false) (af 1) (af 0)) (sL (g2 (mJ false) (g2 iG (af 0) (af 1)) (gC .non)) (g2 (cC λi j=>.bl (decide (j < i))) (g2 iG (af 0) (af 1)) (af 2)))))
def mq (as:List S):M R:=fin (wB (aH vV as))
end K33
namespace K33
open PySem DL K01 WP K51 K52 K55 K23
abbrev Ps:=List (Nat×Nat)
section
variable {κ:Type}{rows:κ->List (List κ)}{i j d e:Nat}{k:κ}{ks:List κ}
noncomputable def LY (rows:κ->List (List κ)):Nat->κ->Bool
 | 0,_=>true
 | j + 1,k=>LY rows j k && (rows k).all λr=>r.any (LY rows j)
theorem uQ:LY rows (j + 1) k=true↔LY rows j k=true/\∀r∈rows k,∃x∈r,LY rows j x=true:=by
 show (LY rows j k && _)=true↔_
 simp only [Sk,SK,UK]
theorem uP (h:i<=j) (q:LY rows j k=true):LY rows i k=true:=by
 induction h with
 | refl=>exact q
 | step _ ih=>exact ih (uQ.mp q).1
def dA (rows:κ->List (List κ)) (d:Nat) (k:κ):Option Nat:=(Se (d + 1)).find? λj=>!LY rows j k
theorem jN:dA rows d k=none↔LY rows d k=true:=by
 unfold dA
 rw [Xu]
 constructor
 ·intro h;simpa using h d (by simp)
 ·intro h j hj
  rw [uP (by have:=Sj.mp hj;omega) h]
  decide
theorem JQ (h:dA rows d k=some e):LY rows e k=false/\∀i,i < e->LY rows i k=true:=by
 obtain ⟨h1,_,h2⟩:=List.find?_range_eq_some.mp h
 exact ⟨by simpa using h1,λi hi=>by simpa using h2 i hi⟩
theorem JR:dA rows (d + 1) k=if (LY rows d k && !LY rows (d + 1) k)=true then some (d + 1) else dA rows d k:=by
 have e:dA rows (d + 1) k=(dA rows d k).or ([d + 1].find? λj=>!LY rows j k):=by
  show (Se (d + 1 + 1)).find? _=_
  rw [U_,List.find?_append];rfl
 rw [e]
 cases q:dA rows d k with
 | none=>
  rw [jN.mp q]
  cases z:LY rows (d + 1) k <;> simp [List.find?,z]
 | some e=>
  have:LY rows d k=false:=by
   cases z:LY rows d k with
   | false=>rfl
   | true=>rw [jN.mpr z] at q;cases q
  rw [this];rfl
theorem Iq (hc:∀k∈ks,∀r∈rows k,∀x∈r,x∈ks) (h:∀k∈ks,LY rows d k=true->LY rows (d + 1) k=true):∀j,∀k∈ks,LY rows d k=true->LY rows j k=true
 | 0,_,_,_=>rfl
 | j + 1,k,hk,q=>uQ.mpr ⟨Iq hc h j k hk q,λr hr=>by
  obtain ⟨x,h1,h2⟩:=(uQ.mp (h k hk q)).2 r hr
  exact ⟨x,h1,Iq hc h j x (hc k hk r hr x h1) h2⟩⟩
noncomputable def EN (o:Option Nat) (j:Nat):Bool:=match o with
 | none=>true
 | some e=>decide (j < e)
theorem Mh (hs:∀j,LY rows d k=true->LY rows j k=true):EN (dA rows d k) j=LY rows j k:=by
 cases q:dA rows d k with
 | none=>exact (hs j (jN.mp q)).symm
 | some e=>
  obtain ⟨h1,h2⟩:=JQ q
  show decide (j < e)=_
  by_cases c:j < e
  ·rw [h2 j c,decide_eq_true c]
  ·cases z:LY rows j k with
   | false=>exact decide_eq_false c
   | true=>rw [uP (by omega) z] at h1;cases h1
theorem xY {rows':κ->List (List κ)}(hc:∀k∈ks,∀r∈rows k,∀x∈r,x∈ks) (he:∀k∈ks,rows k=rows' k):∀j,∀k∈ks,LY rows j k=LY rows' j k
 | 0,_,_=>rfl
 | j + 1,k,hk=>by
  rw [Tp,uQ,uQ,xY hc he j k hk,<-he k hk]
  refine and_congr aab ⟨λh r hr=>?_,λh r hr=>?_⟩ <;> obtain ⟨x,h1,h2⟩:=h r hr <;> refine ⟨x,h1,?_⟩
  ·rw [<-xY hc he j x (hc k hk r hr x h1)];exact h2
  ·rw [xY hc he j x (hc k hk r hr x h1)];exact h2
end
def mh (ps:Ps):Ps:=(dW (ps.map dP)).map xm
theorem yj (ps:Ps):∀d∈ps.map dP,jJ pF d:=λd hd=>by obtain ⟨x,_,rfl⟩:=Sf.mp hd;exact EK x
theorem Av (ps:Ps):(mh ps).map dP=dW (ps.map dP):=back dP xm uK λd hd=>by
 obtain ⟨x,_,rfl⟩:=Sf.mp ((w_ (g7 pF) (yj ps)).2 d hd);exact ⟨x,rfl⟩
theorem IU {p:Nat×Nat}{ps:Ps}:dP p∈ps.map dP↔p∈ps:=by
 rw [Sf]
 exact ⟨λ⟨q,h,e⟩=>by rw [<-uK p,<-e,uK];exact h,λh=>⟨p,h,rfl⟩⟩
theorem jc {ps:Ps}{q:Nat×Nat}:q∈mh ps↔q∈ps:=by
 rw [<-IU,Av,(pI (g7 pF) (yj ps)).2,IU]
theorem qP (ps:Ps):(mh ps).Pairwise qx:=by
 have:=(pI (g7 pF) (yj ps)).1
 rw [<-Av,S0] at this
 exact this.imp fun {a b} h=>(Jb a b).mp h
theorem IL {A B:Ps}(hA:A.Pairwise qx) (hB:B.Pairwise qx) (h:∀y,y∈A↔y∈B):A=B:=by
 have up:∀{C:Ps},C.Pairwise qx->(C.map dP).Pairwise λa b=>fG a b=true:=fun {C} hC=>S0.mpr (hC.imp fun {a b} h=>(Jb a b).mpr h)
 have e:=uL (g7 pF) (yj A) (up hA) (up hB) λy=>by
  rw [Sf,Sf]
  exact ⟨λ⟨q,a,b⟩=>⟨q,(h q).mp a,b⟩,λ⟨q,a,b⟩=>⟨q,(h q).mpr a,b⟩⟩
 have:=congrArg (acH xm) e
 simpa only [S6,X7,uK,List.map_id'] using this
section
variable {v w:Wd}{ps qs S:Ps}{p:Nat×Nat}{n j:Nat}
structure jF (v w:Wd) (S:Ps):Prop where
 ag:∀p∈S,∀q∈S,A_ v w p q
 rg:∀p∈S,rJ v w p
theorem jF.sub (h:jF v w S) (hs:∀p∈ps,p∈S):jF v w ps:=⟨λp hp q hq=>h.ag p (hs p hp) q (hs q hq),λp hp=>h.rg p (hs p hp)⟩
theorem jQ (hu:ps.Pairwise qx):Good v w ps↔jF v w ps:=⟨λg=>⟨g.ag,g.rg⟩,λf=>⟨hu.imp_of_mem fun {a b} ha hb h=>by
 have:=(f.ag a ha b hb).eq
 unfold qx at h
 omega,f.ag,f.rg⟩⟩
theorem lN (g:Good v w ps):ps.length<=v.m:=by
 have h:=SX (l₁:=ps.map Vb) (l₂:=Se v.m) (S0.mpr (g.up.imp λh=>by omega)) λx hx=>by
  obtain ⟨p,hp,rfl⟩:=Sf.mp hx
  exact Sj.mpr (g.rg p hp).1
 simpa using h
abbrev T4 (v w:Wd):List Ps:=told v w 4
theorem kM (t:Pr v w):ps∈T4 v w↔Good v w ps:=by
 rw [j5]
 constructor
 ·rintro ⟨j,_,h⟩;exact ((lO j).mp h).2
 ·intro g;exact ⟨ps.length,S5 (lN g) t.v4,(lO _).mpr ⟨rfl,g⟩⟩
theorem IF (v w:Wd):∀j,(LG v w j).Nodup
 | 0=>Ti _ _
 | j + 1=>by
  refine YV.mpr ⟨λah _=>S0.mpr ?_,(IF v w j).imp_of_mem fun {a b} _ _ hab x hx y hy e=>?_⟩
  ·exact (((o5 v.m w.m).filter _).filter _).imp λh e=>h (by simpa using e)
  ·obtain ⟨p,_,rfl⟩:=Sf.mp hx
   obtain ⟨q,_,rfl⟩:=Sf.mp hy
   exact hab (List.append_inj' e rfl).1
theorem B3 (v w:Wd):∀j,(told v w j).Nodup
 | 0=>Ti _ _
 | j + 1=>VY.mpr ⟨B3 v w j,IF v w (j + 1),λa ha b hb e=>by
  obtain ⟨i,hi,h⟩:=(j5 j).mp ha
  have h1:=(qU i h).1
  have h2:=(qU (j + 1) hb).1
  rw [e] at h1
  omega⟩
def dM (ps:Ps) (p:Nat×Nat):Ps:=mh (ps++[p])
theorem nU {q:Nat×Nat}:q∈dM ps p↔q∈ps\/q=p:=by unfold dM;rw [jc];simp
theorem N7 (t:Pr v w):dM ps p∈T4 v w↔jF v w (ps++[p]):=by
 rw [kM t,dM,jQ (qP _)]
 exact ⟨λh=>h.sub λq hq=>jc.mpr hq,λh=>h.sub λq hq=>jc.mp hq⟩
def kn (v w:Wd) (B:Ps):List Ps:=(T4 v w).filter λps=>B.all λq=>decide (q∈ps)
theorem nW {B:Ps}:ps∈kn v w B↔ps∈T4 v w/\∀q∈B,q∈ps:=by
 unfold kn
 rw [S7,SK]
 simp
def picks (v w:Wd):Ps:=(Se v.m).map (λa=>(0,a))++(Se w.m).map λb=>(1,b)
def kr (v w:Wd) (k:Nat×Nat):Ps:=if k.1=0 then (Se w.m).map λb=>(k.2,b) else (Se v.m).map λa=>(a,k.2)
def RW (v w:Wd) (B ps:Ps):List (List Ps):=(picks v w).map λk=>((kr v w k).map (dM ps)).filter λx=>decide (x∈kn v w B)
theorem Cq {B:Ps}:∀k∈kn v w B,∀r∈RW v w B k,∀x∈r,x∈kn v w B:=λk _ r hr x hx=>by
 obtain ⟨_,_,rfl⟩:=Sf.mp hr
 simpa using (S7.mp hx).2
theorem N6 {B:Ps}:∀k∈kn v w B,RW v w B k=RW v w [] k:=λk hk=>Va λa _=>aac λx hx=>by
 obtain ⟨p,_,rfl⟩:=Sf.mp hx
 rw [Tp,decide_eq_true_eq,decide_eq_true_eq,nW,nW]
 exact ⟨λh=>⟨h.1,λ_ h=>nomatch h⟩,λh=>⟨h.1,λq hq=>nU.mpr (.inl ((nW.mp hk).2 q hq))⟩⟩
def La (v w:Wd) (j:Nat) (ps:Ps):Bool:=LY (RW v w []) j ps
theorem O_ {B:Ps}(h:ps∈kn v w B):LY (RW v w B) j ps=La v w j ps:=xY Cq N6 j ps h
theorem uR:La v w (j + 1) ps=true↔La v w j ps=true/\∀k∈picks v w,∃p∈kr v w k,dM ps p∈T4 v w/\La v w j (dM ps p)=true:=by
 show LY _ (j + 1) ps=true↔_
 rw [uQ]
 refine and_congr aab ⟨λh k hk=>?_,λh r hr=>?_⟩
 ·obtain ⟨x,h1,h2⟩:=h _ (Sf.mpr ⟨k,hk,rfl⟩)
  obtain ⟨h3,h4⟩:=S7.mp h1
  obtain ⟨p,h5,rfl⟩:=Sf.mp h3
  exact ⟨p,h5,(nW.mp (of_decide_eq_true h4)).1,h2⟩
 ·obtain ⟨k,hk,rfl⟩:=Sf.mp hr
  obtain ⟨p,h1,h2,h3⟩:=h k hk
  exact ⟨_,S7.mpr ⟨Sf.mpr ⟨p,h1,rfl⟩,decide_eq_true (nW.mpr ⟨h2,λ_ h=>nomatch h⟩)⟩,h3⟩
end
end K33
namespace K33
open PySem DL K01 WP K51 K52 K55 K23 K22
section
variable {α:Type} [DecidableEq α] {e:α->D}{f:α->D}{ks:List α}{k:α}{d:D}
theorem qu (he:∀a b,bx (e a) (e b)=decide (a=b)) (f:α->D):∀(ks:List α) (k:α),iD (ks.map e) (ks.map f) (e k)=if k∈ks then some (f k) else none
 | [],_=>rfl
 | a::ks,k=>by
  rw [Sx,Sx,iD,he,qu he f ks k]
  by_cases h:a=k
  ·subst h;simp
  ·rw [if_neg (by simpa using h)]
   simp [Vt h]
theorem BU (he:∀a b,bx (e a) (e b)=decide (a=b)) (f:α->D) (k:α) (d:D):∀ks:List α,vG (ks.map e) (ks.map f) (e k) d=ks.map λx=>if x=k then d else f x
 | []=>rfl
 | a::ks=>by
  rw [Sx,Sx,vG,he,BU he f k d ks,Sx]
  simp only [decide_eq_true_eq]
theorem GP (he:∀a b,bx (e a) (e b)=decide (a=b)) (hk:k∈ks):dput (ks.map e,ks.map f) (e k) d=(ks.map e,ks.map λx=>if x=k then d else f x):=by
 unfold dput
 simp only
 rw [qu he,if_pos hk,BU he]
 rfl
theorem vf (he:∀a b,bx (e a) (e b)=decide (a=b)) (f:α->D):∀(n:Nat) (ks:List α),ks.length=n->ks.Nodup->i_ (ks.map λk=>D.tup [e k,f k])=(ks.map e,ks.map f)
 | 0,ks,h,_=>by rw [VH.mp h];rfl
 | n + 1,ks,h,nd=>by
  rcases Vl ks with rfl | ⟨qs,p,rfl⟩
  ·cases h
  ·rw [Vm] at h nd ⊢
   have nd':=VY.mp nd
   have hp:p∉qs:=λhq=>nd'.2.2 p hq p (by simp) rfl
   rw [SV,SV,SV,Sx,Xq,oF,vf he f n qs (by simpa using h) nd'.1]
   unfold dput
   simp only
   rw [qu he,if_neg hp]
   rfl
end
theorem j_ (a b:Ps):bx (bq a) (bq b)=decide (a=b):=by
 show cQ (a.map dP) (b.map dP)=_
 induction a generalizing b with
 | nil=>cases b <;> simp [cQ]
 | cons x a ih=>
  cases b with
  | nil=>simp [cQ]
  | cons y b=>rw [Sx,Sx,gS,ih,K55.we,Tp];simp
theorem N3 (ps:Ps) (hl:ps.length < 64):iw [.d (bq ps)]=.ok (.d (bq (mh ps))):=by
 refine cS (gK (cj (b:=false) rfl rfl rfl) (cK (n1 (n1 (x:=.d (bq ps)) (z:=.l .fresh (dW (ps.map dP))) rfl (Ny ps hl)) rfl) rfl ?_))
 rw [<-Av]
theorem LZ (ps:Ps) (p:Nat×Nat) (hl:ps.length < 63):mH (.d (bq ps)) (.d (.tup [dP p]))=.ok (.d (bq (ps++[p]))):=by
 rw [bq,DM _ _ (by simp;omega),bq,SV];rfl
theorem Js (ps:Ps) (p:Nat×Nat) (hl:ps.length < 63):pT [.d (bq ps),.d (dP p)]=.ok (.d (bq (dM ps p))):=
 cS (cK (c1 (two rfl (bW (aU rfl rfl bO) (by show 1<=1000;decide)) (LZ ps p hl)) (N3 _ (by simp;omega))) rfl rfl)
section
variable {v w:Wd}
theorem Lx (hv:v.m<=1000) (hw:w.m<=1000) (s x:Nat):gQ [.d v.d,.d w.d,.d (.int s),.d (.int x)]=.ok (.l .fresh ((kr v w (s,x)).map dP)):=by
 have hb:dO false (.d (.int (s:Int))) (.d (.int 0))=.ok (.d (.bl (decide (s=0)))):=by
  rw [K01.eq_int]
  congr 3
  rw [Tp];simp
 unfold kr
 by_cases h:s=0
 ·rw [if_pos h,S6]
  exact cS (fV (ye (cj rfl rfl (hb.trans (by rw [decide_eq_true h]))) (cK (kD (λb=>dP (x,b)) (iK (bZ (two rfl rfl (bU _ _))) hw) (by simp;omega) λb _=>⟨_,bW (aU rfl rfl (aU rfl rfl bO)) t2,rfl⟩) rfl rfl)))
 ·rw [if_neg h,S6]
  exact cS (gK (cj rfl rfl (hb.trans (by rw [decide_eq_false h]))) (cK (kD (λa=>dP (a,x)) (iK (bZ (two rfl rfl (bU _ _))) hv) (by simp;omega) λb _=>⟨_,bW (aU rfl rfl (aU rfl rfl bO)) t2,rfl⟩) rfl rfl))
theorem Ju (hv:v.m<=1000) (hw:w.m<=1000):mz [.d v.d,.d w.d]=.ok (.l .fresh ((picks v w).map dP)):=by
 refine cS (cK (two (kD (λa=>dP (0,a)) (iK (bZ (two rfl rfl (bU _ _))) hv) (by simp;omega) λb _=>⟨_,bW (aU rfl rfl (aU rfl rfl bO)) t2,rfl⟩) (kD (λa=>dP (1,a)) (iK (bZ (two rfl rfl (bU _ _))) hw) (by simp;omega) λb _=>⟨_,bW (aU rfl rfl (aU rfl rfl bO)) t2,rfl⟩) (z:=.l .fresh ((picks v w).map dP)) ?_) rfl rfl)
 unfold picks
 rw [SV,S6,S6]
 show (if _<=sizeLine then _ else M.bad)=_
 rw [if_pos (by rw [Uc];simp;omega)]
 rfl
end
section
variable {α:Type} [DecidableEq α] {e f:α->D}{ks:List α}{k:α}{env:Ev}
theorem OX {act:Ev->M (List D×Ev)}{h f:α->D}{rest:Ev}:∀(ys:List α),(∀y∈ys,act (some (.d (h y))::rest)=.ok ([f y],some (.d (h y))::rest))->∀z:Option S,∃z',cD (az 0) cI act (ys.map h) (z::rest)=.ok (ys.map f,z'::rest)
 | [],_,z=>⟨z,rfl⟩
 | y::ys,H,z=>by
  obtain ⟨z',ih⟩:=OX ys (λy hy=>H y (Sg _ hy)) (some (.d (h y)))
  refine ⟨z',?_⟩
  rw [Sx]
  unfold cD
  show (act (some (.d (h y))::rest) >>= _)=_
  rw [H y Si,aM]
  show (cD (az 0) cI act (ys.map h) (some (.d (h y))::rest) >>= _)=_
  rw [ih]
  rfl
theorem yX {cap:List Nat}{gi:G (List D)}{gk gv:G R}(he:∀a b,bx (e a) (e b)=decide (a=b)) (nd:ks.Nodup) (hi:gi env=.ok (ks.map e)) (hl:ks.length<=1000000)
  (hb:∀k∈ks,fj (e k)=true/\gk (some (.d (e k))::cE 0 cap env)=.ok (.d (e k))/\∃r,gv (some (.d (e k))::cE 0 cap env)=.ok r/\toD r=.ok (f k)):jb 1 cap gi (az 0) cI gk gv env=.ok (.mf (ks.map e) (ks.map f)):=by
 obtain ⟨z,h⟩:=OX (act:=sy gk gv) (h:=e) (f:=λk=>.tup [e k,f k]) (rest:=cE 0 cap env) ks (λk hk=>by
  obtain ⟨h1,h2,r,h3,h4⟩:=hb k hk
  exact uW h2 rfl h3 h4 h1) none
 unfold jb ju
 rw [hi,aM,if_pos (by rw [Sh];exact hl)]
 show (cD (az 0) cI (sy gk gv) (ks.map e) (none::cE 0 cap env) >>= _)=_
 rw [h]
 show M.ok (R.mf (i_ _).1 (i_ _).2)=_
 rw [vf he f _ ks rfl nd]
theorem nK (he:∀a b,bx (e a) (e b)=decide (a=b)){x:R}(hx:vX x=some (ks.map e,ks.map f)) (ok:fj (e k)=true) (hk:k∈ks):iG x (.d (e k))=.ok (.d (f k)):=by
 unfold iG
 rw [hx]
 simp only
 rw [if_pos ok,qu he,if_pos hk]
theorem BB (he:∀a b,bx (e a) (e b)=decide (a=b)){x:R}(hx:vX x=some (ks.map e,ks.map f)) (ok:fj (e k)=true){q:Decidable (k∈ks)}:oK false (.d (e k)) x=.ok (.d (.bl (@decide (k∈ks) q))):=by
 unfold oK
 rw [hx]
 simp only
 rw [if_pos ok,qu he]
 by_cases h:k∈ks <;> simp [h]
end
theorem anyM {α:Type}(f:α->Bool) (xs:List α):qc [.l .fresh (xs.map λx=>.bl (f x))]=.ok (.d (.bl (xs.any f))):=by
 have:=u5 (λd=>match d with
  | .bl b=>b
  | _=>false) (xs.map λx=>.bl (f x))
 rw [S6,S6] at this
 unfold qc
 show (match iR (xs.map λx=>.bl (f x)) with
  | some ks=>M.ok (R.d (.bl (ks.any id)))
  | none=>.bad)=_
 rw [show iR (xs.map λx=>.bl (f x))=some (xs.map f) from this]
 simp [Wj]
section
variable {v w:Wd}
abbrev zZ (r:List Ps):D:=.lst (r.map bq)
theorem N2 (t:Pr v w) (ks:List Ps) (ps:Ps) (hl:ps.length < 63):mw [.d v.d,.d w.d,.d (bq ps),.db (ks.map bq) (ks.map λ_=>.bl true)]=.ok (.l .fresh (((picks v w).map λk=>((kr v w k).map (dM ps)).filter λx=>decide (x∈ks)).map zZ)):=by
 have v4:=t.v4
 have w4:=t.w4
 have hg:kX 2 [0,1,2] (bR (ao (g2 br (af 0) (gC (.int 0))) ay)) (az 0) cI (iV (gN (aF 4 K33.gQ) (ao (af 2) (ao (af 3) (ao (gC (.int 0)) (ao (af 0) ay)))))) (az 1) cI (af 1) (gN (aF 2 K33.pT) (ao (af 4) (ao (af 1) ay)))
   [some (.d v.d),some (.d w.d),some (.d (bq ps)),some (.db (ks.map bq) (ks.map λ_=>.bl true)),none]=.ok (.d (.dct ((fq v.m w.m).map dP) ((fq v.m w.m).map λq=>bq (dM ps q)))):=by
  refine (x_ (xs:=Se v.m) (h:=dN) (h':=dP) (λa=>(Se w.m).map λb=>(a,b)) (λ_ _=>true) (λ_ q=>.tup [dP q,bq (dM ps q)]) (iK (bZ (two rfl rfl (bU _ _))) (by omega)) (by simp;omega) λa ha=>⟨by simp;omega,λz=>?_,λq hq=>⟨rfl,λ_=>uW rfl rfl (c2 rfl rfl (Js ps q hl)) rfl rfl⟩⟩).trans ?_
  ·show (gN _ _ _ >>= _)=_
   rw [c4 rfl rfl rfl rfl (Lx (v:=v) (w:=w) (by omega) (by omega) 0 a)]
   rfl
  ·have e:((Se v.m).flatMap λa=>(((Se w.m).map λb=>(a,b)).filter λ_=>true).map λq=>D.tup [dP q,bq (dM ps q)])=(fq v.m w.m).map λq=>D.tup [dP q,bq (dM ps q)]:=by
    unfold fq
    rw [W4]
    congr 1
    funext a
    rw [Xl.mpr λ_ _=>rfl]
   rw [e]
   show M.ok (R.d (.dct (i_ _).1 (i_ _).2))=_
   rw [vf K55.we _ _ _ rfl (o5 v.m w.m)]
 refine cS (cG hg rfl (cK (oB (xs:=picks v w) (λk=>dN k.1) (λk=>dN k.2) (λk=>zZ (((kr v w k).map (dM ps)).filter λx=>decide (x∈ks))) ?_ (by unfold picks;simp;omega) λk hk=>?_) rfl (by rw [S6];rfl)))
 ·show (gN _ _ _ >>= _)=_
  rw [c2 rfl rfl (Ju (v:=v) (w:=w) (by omega) (by omega))]
  rfl
 ·have hin:∀q∈kr v w k,q∈fq v.m w.m:=λq hq=>by
   rw [oY]
   have hk:(k.1=0/\k.2 < v.m)\/(k.1≠0/\k.2 < w.m):=by
    unfold picks at hk
    simp only [SN,Sf,Sj] at hk
    rcases hk with ⟨a,h,rfl⟩ | ⟨a,h,rfl⟩
    ·exact .inl ⟨rfl,h⟩
    ·exact .inr ⟨Nat.one_ne_zero,h⟩
   unfold kr at hq
   rcases hk with ⟨h1,h2⟩ | ⟨h1,h2⟩
   ·rw [if_pos h1] at hq
    obtain ⟨b,hb,rfl⟩:=Sf.mp hq
    exact ⟨h2,Sj.mp hb⟩
   ·rw [if_neg h1] at hq
    obtain ⟨b,hb,rfl⟩:=Sf.mp hq
    exact ⟨Sj.mp hb,h2⟩
  refine ⟨.l .fresh (((((kr v w k).map (dM ps)).filter λx=>decide (x∈ks))).map bq),?_,rfl⟩
  rw [YW,S6]
  refine jr (xs:=kr v w k) (h:=dP) (λq=>decide (dM ps q∈ks)) (λq=>bq (dM ps q)) ?_ (by unfold kr;split <;> simp <;> omega) λq hq=>?_
  ·show (gN _ _ _ >>= _)=_
   rw [c4 rfl rfl rfl rfl (Lx (v:=v) (w:=w) (by omega) (by omega) k.1 k.2)]
   rfl
  ·have hd:=nK (e:=dP) (f:=λq=>bq (dM ps q)) K55.we (x:=.d (.dct ((fq v.m w.m).map dP) ((fq v.m w.m).map λq=>bq (dM ps q)))) rfl (k:=q) rfl (hin q hq)
   exact ⟨cj (two rfl rfl hd) rfl (BB (ks:=ks) (f:=λ_=>.bl true) j_ (x:=.mb (ks.map bq) (ks.map λ_=>.bl true)) rfl (iN (dM ps q))),λ_=>⟨_,two rfl rfl hd,rfl⟩⟩
end
noncomputable def dV:Option Nat->D
 | none=>.non
 | some e=>.int e
theorem CU (o:Option Nat):mJ false (.d (dV o)) (.d .non)=.ok (.d (.bl o.isNone)):=by cases o <;> rfl
theorem Jx (rs:List (List Ps)) (ks:List Ps) (f:Ps->Option Nat) (h:∀r∈rs,∀x∈r,x∈ks) (h1:rs.length<=1000) (h2:∀r∈rs,r.length<=1000):fh [.d (.lst (rs.map zZ)),.db (ks.map bq) (ks.map λk=>dV (f k))]=.ok (.d (.bl (rs.all λr=>r.any λx=>(f x).isNone))):=by
 refine cS (cK (n1 (kD (xs:=rs) (h:=zZ) (λr=>.bl (r.any λx=>(f x).isNone)) rfl (by omega) λr hr=>⟨_,n1 (kD (xs:=r) (h:=bq) (λx=>.bl (f x).isNone) rfl (by have:=h2 r hr;omega) λx hx=>⟨_,two (two rfl rfl (nK (f:=λk=>dV (f k)) j_ rfl (iN x) (h r hr x hx))) rfl (CU (f x)),rfl⟩) (anyM _ r),rfl⟩) (allM _ rs)) rfl rfl)
theorem part {κ:Type}{p q:κ->Bool}(h:∀k,q k=true->p k=true):∀l:List κ,(l.filter p).length=(l.filter q).length + (l.filter λk=>p k && !q k).length
 | []=>rfl
 | a::l=>by
  have ih:=part h l
  cases hq:q a with
  | true=>simp [h a hq,hq];omega
  | false=>cases hp:p a <;> simp [hp,hq] <;> omega
abbrev w5 (rows:Ps->List (List Ps)) (k:Ps):D:=.lst ((rows k).map zZ)
abbrev eP (ks:List Ps) (rows:Ps->List (List Ps)) (f:Ps->Option Nat) (d:Nat) (g z:Option S):Ev:=[some (.db (ks.map bq) (ks.map (w5 rows))),some (.fn "answered_still"),some (.dk (ks.map bq) (ks.map λk=>dV (f k))),some (.d (.int d)),g,z]
section
variable {ks:List Ps}{rows:Ps->List (List Ps)}
theorem Gs (nd:ks.Nodup) (hl:ks.length<=390000) (hc:∀k∈ks,∀r∈rows k,∀x∈r,x∈ks) (h1:∀k∈ks,(rows k).length<=1000) (h2:∀k∈ks,∀r∈rows k,r.length<=1000):
  ∃d,nF [.db (ks.map bq) (ks.map (w5 rows)),.fn "answered_still"]=.ok (.mf (ks.map bq) (ks.map λk=>dV (dA rows d k)))/\∀k∈ks,LY rows d k=true->LY rows (d + 1) k=true:=by
 have st:∀d k,k∈ks->fh [.d (w5 rows k),.db (ks.map bq) (ks.map λk=>dV (dA rows d k))]=.ok (.d (.bl ((rows k).all λr=>r.any (LY rows d)))):=λd k hk=>by
  rw [Jx (rows k) ks (dA rows d) (hc k hk) (h1 k hk) (h2 k hk)]
  congr 4
  funext r
  congr 1
  funext x
  rw [Tp,Option.isNone_iff_eq_none,jN]
 have dx:∀k∈ks,∀x:R,vX x=some (ks.map bq,ks.map (w5 rows))->iG x (.d (bq k))=.ok (.d (w5 rows k)):=λk hk x hx=>nK j_ hx (iN k) hk
 have key:Wp (vn (aH Be [.db (ks.map bq) (ks.map (w5 rows)),.fn "answered_still"])) λo=>∃r,o=.rt r/\∃d,r=.mf (ks.map bq) (ks.map λk=>dV (dA rows d k))/\∀k∈ks,LY rows d k=true->LY rows (d + 1) k=true:=by
  refine cG (yX (e:=bq) (f:=λk=>dV (dA rows 0 k)) (ks:=ks) j_ nd rfl (by omega) λk hk=>⟨iN k,rfl,_,rfl,by rw [jN.mpr rfl];rfl⟩) rfl (cG rfl rfl (cG (jr (xs:=ks) (h:=bq) (λk=>LY rows 0 k && !LY rows 1 k) bq rfl (by omega) λk hk=>⟨?_,λ_=>⟨_,rfl,rfl⟩⟩) rfl ?_))
  ·refine iS (b:=LY rows 1 k) (i6 ?_)
   exact (c2 (two rfl rfl (dx k hk _ rfl)) rfl (st 0 k hk)).trans rfl
  ·refine Lc (λn env=>∃d z,env=eP ks rows (dA rows d) (d + 1) (some (.own ((ks.filter λk=>LY rows d k && !LY rows (d + 1) k).map bq))) z/\n=(ks.filter (LY rows d)).length) (ks.filter (LY rows 0)).length (by have:=Tf (LY rows 0) ks;omega) ⟨0,none,rfl,rfl⟩ ?_
   rintro n _ ⟨d,z,rfl,rfl⟩
   obtain ⟨g,hg⟩:∃g,g=ks.filter λk=>LY rows d k && !LY rows (d + 1) k:=⟨_,rfl⟩
   rw [<-hg]
   have hm:∀k,k∈g↔k∈ks/\LY rows d k=true/\LY rows (d + 1) k=false:=λk=>by rw [hg,S7];simp
   by_cases h0:g=[]
   ·refine .inl ⟨by rw [h0];rfl,cK rfl rfl ⟨_,rfl,d,rfl,λk hk q=>?_⟩⟩
    cases z:LY rows (d + 1) k with
    | true=>rfl
    | false=>have:=(hm k).mpr ⟨hk,q,z⟩;rw [h0] at this;cases this
   ·refine .inr ⟨?_,?_⟩
    ·show M.ok (!(g.map bq).isEmpty)=_
     cases g with
     | nil=>exact absurd rfl h0
     | cons _ _=>rfl
    have RS:=part (p:=LY rows d) (q:=LY rows (d + 1)) (λk h=>uP (VF d) h) ks
    rw [<-hg] at RS
    have g0:0 < g.length:=List.length_pos_iff.mpr h0
    refine fV (yk rfl (oV (ds:=g.map bq) rfl (qR (λi env=>∃z,env=eP ks rows (λk=>if k∈g.take i then some (d + 1) else dA rows d k) (d + 1) (some (.d (.lst (g.map bq)))) z) (g.map bq) ⟨z,by simp⟩ ?_ ?_)))
    ·rintro i hi _ ⟨z,rfl⟩
     have hi':i < g.length:=by simpa using hi
     have e:(g.map bq)[i]=bq g[i]:=Wa ..
     have hk:g[i]∈ks:=((hm _).mp (Tt hi')).1
     rw [e]
     have ev:dput (ks.map bq,ks.map λk=>dV (if k∈g.take i then some (d + 1) else dA rows d k)) (bq g[i]) (.int ((d + 1:Nat):Int))=(ks.map bq,ks.map λk=>dV (if k∈g.take (i + 1) then some (d + 1) else dA rows d k)):=by
      rw [GP j_ hk,WM,Sn hi']
      congr 1
      refine Va λk _=>?_
      simp only [SN,Option.toList_some,So]
      by_cases c:k=g[i]
      ·rw [if_pos c,if_pos (.inr c)];rfl
      ·simp only [c,if_false,or_false]
     exact ⟨_,rfl,Oh (ks:=ks.map bq) (vs:=ks.map λk=>dV (if k∈g.take i then some (d + 1) else dA rows d k)) rfl rfl rfl rfl rfl (iN g[i]) (by rw [Sh];omega) ⟨_,rfl,some (.d (bq g[i])),by rw [ev];rfl⟩⟩
    ·rintro _ ⟨z,rfl⟩
     have ev:(ks.map λk=>dV (if k∈g.take (g.map bq).length then some (d + 1) else dA rows d k))=ks.map λk=>dV (dA rows (d + 1) k):=Va λk hk=>by
      rw [Sh,V8,JR]
      congr 1
      by_cases c:k∈g
      ·rw [if_pos c,if_pos (by obtain ⟨_,a,b⟩:=(hm k).mp c;rw [a,b];rfl)]
      ·rw [if_neg c,if_neg λz=>c ((hm k).mpr ⟨hk,by simpa using z⟩)]
     show Wp _ _
     unfold eP
     rw [ev]
     refine fV (Og rfl rfl rfl rfl (mP (jr (xs:=ks) (h:=bq) (λk=>LY rows (d + 1) k && !LY rows (d + 1 + 1) k) bq rfl (by omega) λk hk=>⟨?_,λ_=>⟨_,rfl,rfl⟩⟩) rfl ⟨(ks.filter (LY rows (d + 1))).length,by omega,d + 1,z,rfl,rfl⟩))
     have q1:=nK (f:=λk=>dV (dA rows (d + 1) k)) (ks:=ks) (k:=k) (e:=bq) j_ (x:=.mo (ks.map bq) (ks.map λk=>dV (dA rows (d + 1) k))) rfl (iN k) hk
     cases c:LY rows (d + 1) k with
     | false=>
      refine tU (cj (two rfl rfl q1) rfl ((CU _).trans ?_))
      cases z:dA rows (d + 1) k with
      | none=>rw [jN.mp z] at c;cases c
      | some _=>rfl
     | true=>
      rw [jN.mpr c] at q1
      refine qW (cj (two rfl rfl q1) rfl (CU none)) (iS (b:=LY rows (d + 1 + 1) k) (i6 ((c2 (two rfl rfl (dx k hk _ rfl)) rfl (st (d + 1) k hk)).trans ?_)))
      show M.ok (R.d (.bl _))=M.ok (R.d (.bl (LY rows (d + 1) k && _)))
      rw [c];rfl
 obtain ⟨r,h,d,rfl,hs⟩:=DT key
 exact ⟨d,h,hs⟩
end
section
variable {v w:Wd}{B:Ps}
theorem IP (t:Pr v w):(T4 v w).length<=327680:=tw t 4 (Sl _)
theorem Qc (t:Pr v w){ps:Ps}(h:ps∈T4 v w):ps.length<=4:=S5 (lN ((kM t).mp h)) t.v4
theorem Jv (t:Pr v w) (hB:B.length<=100):iu [.d v.d,.d w.d,.d (bq B)]=.ok (.l .fresh ((kn v w B).map bq)):=by
 have tl:=IP t
 refine cS (cK (jr (xs:=T4 v w) (h:=bq) (λps=>B.all λq=>decide (q∈ps)) bq ?_ (by omega) λps _=>⟨?_,λ_=>⟨_,rfl,rfl⟩⟩) rfl rfl)
 ·show (gN _ _ _ >>= _)=_
  rw [c3 rfl rfl rfl (tF t 4 (Sl _))]
  rfl
 ·refine Az (n1 (kD (xs:=B) (h:=dP) (λq=>.bl (decide (q∈ps))) rfl (by omega) λq _=>⟨_,two rfl rfl (zm q ps),by rw [K55.wH];rfl⟩) (allM _ B))
theorem O8 (t:Pr v w) (hB:B.length<=100):∃f:Ps->Option Nat,gZ [.d v.d,.d w.d,.d (bq B)]=.ok (.mf ((kn v w B).map bq) ((kn v w B).map λk=>dV (f k)))/\∀j,∀k∈kn v w B,EN (f k) j=La v w j k:=by
 have v4:=t.v4
 have w4:=t.w4
 have tl:=IP t
 have kl:(kn v w B).length<=(T4 v w).length:=Tf _ _
 have nd:(kn v w B).Nodup:=(B3 v w 4).filter _
 have pl:(picks v w).length<=8:=by unfold picks;simp;omega
 obtain ⟨d,h1,h2⟩:=Gs (ks:=kn v w B) (rows:=RW v w B) nd (by omega) Cq (λk _=>by unfold RW;rw [Sh];omega) (λk _ r hr=>by
  obtain ⟨q,_,rfl⟩:=Sf.mp hr
  refine S5 (Tf _ _) ?_
  rw [Sh]
  unfold kr
  split <;> simp <;> omega)
 refine ⟨dA (RW v w B) d,?_,λj k hk=>(Mh λj q=>Iq Cq h2 j k hk q).trans (O_ hk)⟩
 refine cS (cG (yX (e:=bq) (f:=λ_=>.bl true) (ks:=kn v w B) j_ nd ?_ (by omega) λk hk=>⟨iN k,rfl,_,rfl,rfl⟩) rfl (cG (yX (e:=bq) (f:=w5 (RW v w B)) (ks:=kn v w B) j_ nd rfl (by omega) λk hk=>⟨iN k,rfl,_,c4 rfl rfl rfl rfl (N2 t (kn v w B) k (by have:=Qc t (nW.mp hk).1;omega)),rfl⟩) rfl (cK (r:=.mf ((kn v w B).map bq) ((kn v w B).map λk=>dV (dA (RW v w B) d k))) ?_ rfl rfl)))
 ·show (gN _ _ _ >>= _)=_
  rw [c3 rfl rfl rfl (Jv t hB)]
  rfl
 ·show (match nF [.db ((kn v w B).map bq) ((kn v w B).map (w5 (RW v w B))),.fn "answered_still"] with
   | .ok r=>M.ok (cu r)
   | _=>.bad)=_
  rw [h1]
  rfl
theorem N1 (ks:List Ps) (f:Ps->Option Nat) (p:Ps) (j:Nat):mq [.db (ks.map bq) (ks.map λk=>dV (f k)),.d (bq p),.d (.int j)]=.ok (.d (.bl (decide (p∈ks) && EN (f p) j))):=by
 have hi:=BB (ks:=ks) (f:=λk=>dV (f k)) j_ (x:=.mb (ks.map bq) (ks.map λk=>dV (f k))) rfl (iN p) (q:=inferInstance)
 refine cS (cK (r:=.d (.bl (decide (p∈ks) && EN (f p) j))) ?_ rfl rfl)
 unfold bu
 rw [show g2 (oK false) (af 1) (af 0) (aH vV [.db (ks.map bq) (ks.map λk=>dV (f k)),.d (bq p),.d (.int j)])=_ from two rfl rfl hi,aM]
 by_cases h:p∈ks
 ·rw [decide_eq_true h]
  have hd:=nK (ks:=ks) (f:=λk=>dV (f k)) j_ (x:=.mb (ks.map bq) (ks.map λk=>dV (f k))) rfl (iN p) h
  show sL _ _ _=M.ok (R.d (.bl (EN (f p) j)))
  cases q:f p with
  | none=>rw [q] at hd;exact KC (two (two rfl rfl hd) rfl rfl)
  | some e=>
   rw [q] at hd
   refine MW (two (two rfl rfl hd) rfl rfl) (two (two rfl rfl hd) rfl ?_)
   show M.ok (R.d (.bl (decide ((j:Int) < (e:Int)))))=M.ok (R.d (.bl (decide (j < e))))
   rw [show decide ((j:Int) < (e:Int))=decide (j < e) by rw [Tp];simp]
 ·rw [decide_eq_false h];rfl
theorem O6 (d m:Nat) (hd:d<=m):K55.fY [.d (.int d),.d (.int 0),.d (.int m)]=.ok (.d .non):=by
 refine qQ (sQ ?_ (jS ⟨_,rfl⟩))
 show (if decide ((d:Int) < 0)=true then M.ok true else M.ok (decide ((m:Int) < d)))=M.ok false
 rw [decide_eq_false (show ¬(d:Int) < 0 by omega),decide_eq_false (show ¬(m:Int) < d by omega)]
 rfl
theorem MA:kn v w []=T4 v w:=Xl.mpr λ_ _=>rfl
end
end K33
namespace K33
open PySem DL K01 WP K51 K52 K55 K23
section
variable {v w:Wd}{ps qs:Ps}{n j:Nat}
def sd (s:Nat) (p:Nat×Nat):Nat:=if s=0 then p.1 else p.2
theorem OD {k p:Nat×Nat}(h:p∈kr v w k):sd k.1 p=k.2:=by
 unfold kr at h
 unfold sd
 split at h <;> rename_i c <;> obtain ⟨b,_,rfl⟩:=Sf.mp h
 ·rw [if_pos c]
 ·rw [if_neg c]
theorem chain (t:Pr v w) (s:Nat):∀(xs:List Nat) (n:Nat) (ps:Ps),(∀x∈xs,(s,x)∈picks v w)->Good v w ps->xs.length<=n->La v w n ps=true->∃qs,Good v w qs/\(∀p∈ps,p∈qs)/\∀x∈xs,∃p∈qs,sd s p=x
 | [],_,ps,_,g,_,_=>⟨ps,g,λ_ h=>h,λ_ h=>nomatch h⟩
 | x::xs,0,_,_,_,h,_=>nomatch h
 | x::xs,n + 1,ps,hx,g,hl,h=>by
  obtain ⟨p,h1,h2,h3⟩:=(uR.mp h).2 _ (hx x Si)
  obtain ⟨qs,a,b,c⟩:=chain t s xs n (dM ps p) (λy hy=>hx y (Sg _ hy)) ((kM t).mp h2) (by simpa using hl) h3
  refine ⟨qs,a,λq hq=>b q (nU.mpr (.inl hq)),λy hy=>?_⟩
  rcases SD.mp hy with rfl | hy
  ·exact ⟨p,b p (nU.mpr (.inr rfl)),OD h1⟩
  ·exact c y hy
theorem cover {l:List Nat}{m:Nat}(nd:l.Nodup) (h:∀x∈l,x < m) (hm:m<=l.length):∀b,b < m->b∈l:=λb hb=>T3 λz=>by
 have:=SX (l₁:=b::l) (l₂:=Se m) (Ud.mpr ⟨z,nd⟩) λx hx=>by
  rcases SD.mp hx with rfl | hx
  ·exact Sj.mpr hb
  ·exact Sj.mpr (h x hx)
 simp at this
 omega
theorem many {s m:Nat}(h:∀x,x < m->∃p∈qs,sd s p=x):m<=qs.length:=by
 have:=SX (l₁:=Se m) (l₂:=qs.map (sd s)) Ur λx hx=>by
  obtain ⟨p,hp,e⟩:=h x (Sj.mp hx)
  exact Sf.mpr ⟨p,hp,e⟩
 simpa using this
structure pW (v w:Wd) (qs:Ps):Prop where
 g:Good v w qs
 a:∀x,x < v.m->∃p∈qs,p.1=x
 b:∀x,x < w.m->∃p∈qs,p.2=x
theorem EU (t:Pr v w) (g:Good v w ps) (hv:v.m<=n) (hw:w.m<=n) (h:La v w n ps=true):∃qs,pW v w qs/\∀p∈ps,p∈qs:=by
 by_cases c:w.m<=v.m
 ·obtain ⟨qs,a,b,d⟩:=chain t 0 (Se v.m) n ps (λx hx=>U0 _ (Sf.mpr ⟨x,hx,rfl⟩)) g (by simpa using hv) h
  have d':∀x,x < v.m->∃p∈qs,p.1=x:=λx hx=>d x (Sj.mpr hx)
  have hl:=many (s:=0) d'
  have nd:(qs.map W7).Nodup:=S0.mpr (a.up.imp_of_mem fun {p q} hp hq hlt e=>by have:=(a.ag p hp q hq).eq;omega)
  refine ⟨qs,⟨a,d',λx hx=>?_⟩,b⟩
  obtain ⟨p,hp,e⟩:=Sf.mp (cover nd (λy hy=>by obtain ⟨p,hp,rfl⟩:=Sf.mp hy;exact (a.rg p hp).2) (by rw [Sh];omega) x hx)
  exact ⟨p,hp,e⟩
 ·obtain ⟨qs,a,b,d⟩:=chain t 1 (Se w.m) n ps (λx hx=>Tj _ (Sf.mpr ⟨x,hx,rfl⟩)) g (by simpa using hw) h
  have hl:=many (s:=1) λx hx=>d x (Sj.mpr hx)
  have:=lN a
  omega
theorem pY (t:Pr v w) (i:pW v w qs):∀(j:Nat) (ps:Ps),(∀p∈ps,p∈qs)->La v w j ps=true
 | 0,_,_=>rfl
 | j + 1,ps,h=>by
  have add:∀p∈qs,dM ps p∈T4 v w/\La v w j (dM ps p)=true:=λp hp=>
   ⟨(N7 t).mpr (jF.sub ⟨i.g.ag,i.g.rg⟩ λq hq=>by rcases SN.mp hq with hq | hq;exact h q hq;rw [So.mp hq];exact hp),pY t i j _ λq hq=>by rcases nU.mp hq with hq | rfl;exact h q hq;exact hp⟩
  refine uR.mpr ⟨pY t i j ps h,λk hk=>?_⟩
  rcases SN.mp hk with hk | hk <;> obtain ⟨x,hx,rfl⟩:=Sf.mp hk
  ·obtain ⟨p,hp,rfl⟩:=i.a x (Sj.mp hx)
   exact ⟨p,Sf.mpr ⟨p.2,Sj.mpr (i.g.rg p hp).2,rfl⟩,add p hp⟩
  ·obtain ⟨p,hp,rfl⟩:=i.b x (Sj.mp hx)
   exact ⟨p,Sf.mpr ⟨p.1,Sj.mpr (i.g.rg p hp).1,rfl⟩,add p hp⟩
end
end K33
namespace K33
open PySem DL K01 WP K51 K52 K55 K23 K22
theorem BJ (i:Int) (m:Nat) (h:0 < m):∃k:Nat,i % (m:Int)=k/\k < m:=by
 obtain ⟨k,hk⟩:=MJ (U9 i (b:=m) (by omega))
 have:=Vj i (b:=m) (by omega)
 exact ⟨k,hk,by omega⟩
end K33
namespace DL
open PySem PySem.Spec PyProof.Rows L2
def FA (K:R_) (x:Str) (st:Vu):Prop:=∃f fd,Tn K S3 x=some (some (.ref f))/\cZ K x x st f fd
theorem cA {K:R_}{x:Str}{st:Vu}{f:Sq}{u v d p q r:Sa}{o n:Option Sq}{s:Array (Option Sa)}(a:Tn K S3 x=some (some (.ref f)))
  (l:K.lookup f=some ⟨u,o,.func (Tw x x (dR st) (cL st) (aI st) .none v d p n q r),s⟩) (c:Vn K q x=true) (k:Ug K (.ref f)=true):FA K x st:=⟨f,_,a,ED l c k⟩
section
variable {X:Cx}{c:C}{a b:Tc}{ga gb:G R}{pos:Pos}
def Mc:R->R->M R:=fI (λ_ j=>decide (0<=j)) λi j=>.int (i / 2 ^ j.toNat)
def IW:R->R->M R:=cC λi j=>.int (Xw i j)
theorem K7 (ha:QD X c a ga) (hb:QD X c b gb):QD X c (.BinOp a .RShift b pos) (g2 Mc ga gb):=⟨kO MU (yJ (λ_ _ h=>of_decide_eq_true h) λ_ _ _=>.int _) ha.h hb.h⟩
theorem HW (ha:QD X c a ga) (hb:QD X c b gb):QD X c (.BinOp a .BitAnd b pos) (g2 IW ga gb):=⟨kO MO (iQ λ_ _ _=>.int _) ha.h hb.h⟩
end
end DL
namespace K81
open PySem DL
def Cj:List Str:=["things","told","thing"]
noncomputable def ud:G O:=(aD (aN 1 (f_ aJ))
 (aD (c_ (iV (af 0)) (az 2) (aX (aV (g2 (fu true) (af 2) (af 1))) (e_ 1 (af 2)) bF))
 (aP (af 1))))
def fQ (as:List S):M R:=fin (ud (aH Cj as))
def Gx:List Str:=["world","depth","depths","points"]
noncomputable def zj:G O:=(aD (jv (gN (aF 2 K23.d_) (ao (af 0) (ao (af 0) ay))))
 (aD (jv (gN (aF 3 K55.fY) (ao (af 1) (ao (gC (.int 0)) (ao (gC (.int 6)) ay)))))
 (aD (aN 2 (gN (aF 3 K33.gZ) (ao (af 0) (ao (af 0) (ao (bL aJ) ay)))))
 (aD (aN 3 (q9 (ao (g2 br (af 0) (gC (.int 0))) ay)))
 (aP (gN (aF 1 K81.fQ) (ao (bA 1 [3,2,1] (dX (af 3)) (az 0) cI (gN dG (ao (bA 1 [2,0,3] (dX (af 1)) (az 0) (aV (gN (aF 3 K33.mq) (ao (af 1) (ao (bL (au (bL (au (af 2) (au (af 0) aJ))) aJ)) (ao (af 3) ay))))) (af 0)) ay))) ay)))))))
def lC (as:List S):M R:=fin (zj (aH Gx as))
def Cg:List Str:=["_law_number","_law_many","_law_steps","_law_both","_law_found","_law_one","_law_other","_law_far"]
noncomputable def uc:G O:=(aD (aN 2 (bA 1 [0] (bR (ao (af 1) ay)) (az 0) (aV (g2 (dO false) (g2 IW (g2 Mc (af 1) (af 0)) (gC (.int 1))) (gC (.int 1)))) (af 0)))
 (aD (aN 3 (g2 cR (g2 fM (af 0) (gC (.int 16))) (gC (.int 2))))
 (aD (aN 4 (f_ aJ))
 (aD (c_ (bR (ao (af 1) ay)) (az 5) (c_ (bR (ao (af 1) ay)) (az 6) (aD (aN 7 (g2 cR (g2 nc (af 6) (af 5)) (af 1)))
 (aX (bV (aV (g2 (fu false) (af 7) (af 2))) (bK (aV (g2 (dO false) (af 3) (gC (.int 1)))) (aV (g2 (fu false) (g2 cR (g2 nc (af 5) (af 6)) (af 1)) (af 2))))) (e_ 4 (bL (au (af 5) (au (af 6) aJ)))) bF))))
 (aP (gN dG (ao (af 4) ay)))))))
def jg (as:List S):M R:=fin (uc (aH Cg as))
noncomputable def yv:List Str:=["_law_script","_law_at","_law_many","_law_tongue_here","_law_world_here","_law_number","_law_arrows","_law_k","_law_pairs_here","_law_marks"]
noncomputable def ql:G O:=(aD (aN 4 (gN (aF 4 K01.iL) (ao (af 0) (ao (af 1) (ao (af 2) (ao (af 3) ay))))))
 (aD (aN 5 (g2 cR (g2 dF (gN (aF 2 K01.dh) (ao (af 0) (ao (g2 cF (af 1) (gC (.int 6))) ay))) (gC (.int 1283))) (gC (.int 100003))))
 (aD (aN 6 (f_ aJ))
 (aD (c_ (bR (ao (gN jt (ao (g2 br (af 4) (gC (.int 2))) ay)) ay)) (az 7) (aD (aN 8 (g2 br (g2 br (g2 br (af 4) (gC (.int 2))) (af 7)) (gC (.int 1))))
 (aD (aX (aV (g2 (dO false) (g2 cR (af 5) (gC (.int 3))) (gC (.int 1)))) (aN 8 (gN (aF 2 K81.jg) (ao (g2 cF (g2 fM (af 5) (gC (.int 3))) (g2 dF (gC (.int 5)) (af 7))) (ao (af 2) ay)))) bF)
 (aD (aX (aV (g2 (dO false) (g2 cR (af 5) (gC (.int 3))) (gC (.int 2)))) (aN 8 (gN dG (ao (bA 1 [] (dX (af 8)) (az 0) (bV (aV (g2 (cC λi j=>.bl (decide (i < j))) (g2 br (af 0) (gC (.int 0))) (gC (.int 2)))) (aV (g2 (cC λi j=>.bl (decide (j < i))) (g2 br (af 0) (gC (.int 1))) (gC (.int 1))))) (af 0)) ay))) bF)
 (e_ 6 (bL (au (g2 br (g2 br (g2 br (af 4) (gC (.int 2))) (af 7)) (gC (.int 0))) (au (af 8) aJ))))))))
 (aD (aN 9 (bA 2 [5] (dX (g2 br (af 4) (gC (.int 1)))) (gm 2 (b_ (az 0) (b_ (az 1) gF))) cI (bL (au (af 0) (au (wA sI (af 1) EF (wm (g2 cR (g2 fM (af 2) (gC (.int 81))) (gC (.int 5))))) aJ)))))
 (aP (bL (au (af 2) (au (gN dG (ao (af 9) ay)) (au (gN dG (ao (af 6) ay)) aJ))))))))))
def g8 (as:List S):M R:=fin (ql (aH yv as))
end K81
namespace K81
open PySem DL K01 WP K51 K52 K55 K23 K33
section
variable {v w:Wd}{ra rb rc:List Nat}{a b c d p q:Nat}
theorem II {ps:Ps}:∀{j:Nat},(∀k∈picks v w,∃p∈kr v w k,dM ps p∈T4 v w/\La v w j (dM ps p)=true)->La v w j ps=true
 | 0,_=>rfl
 | j + 1,h=>by
  have h':∀k∈picks v w,∃p∈kr v w k,dM ps p∈T4 v w/\La v w j (dM ps p)=true:=λk hk=>let ⟨p,a,b,c⟩:=h k hk;⟨p,a,b,(uR.mp c).1⟩
  exact uR.mpr ⟨II h',h'⟩
theorem Lk (Z:Ps) (x:Nat×Nat):mh (Z++[x])=dM (mh Z) x:=IL (qP _) (qP _) λy=>by rw [jc,nU,jc];simp
noncomputable def Al (u:Wd):Nat->List Nat->List Nat->Prop
 | 0,_,_=>True
 | d + 1,ra,rb=>(∀p,p < u.m->∃q,q < u.m/\jF u u ((ra++[p]).zip (rb++[q]))/\Al u d (ra++[p]) (rb++[q]))/\∀q,q < u.m->∃p,p < u.m/\jF u u ((ra++[p]).zip (rb++[q]))/\Al u d (ra++[p]) (rb++[q])
theorem IG {u:Wd}(t:Pr u u):∀(d:Nat) (ra rb:List Nat),ra.length=rb.length->(La u u d (mh (ra.zip rb))=true↔Al u d ra rb)
 | 0,_,_,_=>⟨λ_=>trivial,λ_=>rfl⟩
 | d + 1,ra,rb,hl=>by
  have step:∀p q,(dM (mh (ra.zip rb)) (p,q)∈T4 u u/\La u u d (dM (mh (ra.zip rb)) (p,q))=true↔jF u u ((ra++[p]).zip (rb++[q]))/\Al u d (ra++[p]) (rb++[q])):=λp q=>by
   have z:(ra++[p]).zip (rb++[q])=ra.zip rb++[(p,q)]:=List.zip_append hl
   rw [<-IG t d _ _ (by simp [hl]),z,<-Lk,kM t,jQ (qP _)]
   exact ⟨λ⟨a,b⟩=>⟨a.sub λy hy=>jc.mpr hy,b⟩,λ⟨a,b⟩=>⟨a.sub λy hy=>jc.mp hy,b⟩⟩
  constructor
  ·intro h
   have h:=(uR.mp h).2
   constructor
   ·intro p hp
    obtain ⟨x,h1,h2⟩:=h (0,p) (U0 _ (Sf.mpr ⟨p,Sj.mpr hp,rfl⟩))
    obtain ⟨q,hq,rfl⟩:=Sf.mp (show x∈(Se u.m).map λb=>(p,b) from h1)
    exact ⟨q,Sj.mp hq,(step p q).mp h2⟩
   ·intro q hq
    obtain ⟨x,h1,h2⟩:=h (1,q) (Tj _ (Sf.mpr ⟨q,Sj.mpr hq,rfl⟩))
    obtain ⟨p,hp,rfl⟩:=Sf.mp (show x∈(Se u.m).map λb=>(b,q) from h1)
    exact ⟨p,Sj.mp hp,(step p q).mp h2⟩
  ·rintro ⟨h1,h2⟩
   have h:∀k∈picks u u,∃p∈kr u u k,dM (mh (ra.zip rb)) p∈T4 u u/\La u u d (dM (mh (ra.zip rb)) p)=true:=λk hk=>by
    rcases SN.mp hk with hk | hk <;> obtain ⟨x,hx,rfl⟩:=Sf.mp hk
    ·obtain ⟨q,hq,e⟩:=h1 x (Sj.mp hx)
     exact ⟨(x,q),Sf.mpr ⟨q,Sj.mpr hq,rfl⟩,(step x q).mpr e⟩
    ·obtain ⟨q,hq,e⟩:=h2 x (Sj.mp hx)
     exact ⟨(q,x),Sf.mpr ⟨q,Sj.mpr hq,rfl⟩,(step q x).mpr e⟩
   exact uR.mpr ⟨II h,h⟩
theorem lP {z:Nat×Nat}:z∈ra.zip rb↔∃(i:Nat),ra[i]?=some z.1/\rb[i]?=some z.2:=by
 rw [WU]
 simp only [Vr]
theorem vg {u:Wd}(h:jF u u (ra.zip rb)):jF u u (rb.zip ra):=by
 have sw:∀z∈rb.zip ra,(z.2,z.1)∈ra.zip rb:=λz hz=>by
  obtain ⟨i,h1,h2⟩:=lP.mp hz
  exact lP.mpr ⟨i,h2,h1⟩
 exact ⟨λx hx y hy=>let g:=h.ag _ (sw x hx) _ (sw y hy);⟨g.eq.symm,g.ms.symm,g.ar.symm⟩,λx hx=>(h.rg _ (sw x hx)).symm⟩
theorem qf {u:Wd}(hl:ra.length=rb.length) (h:jF u u (ra.zip rb)) (h':jF u u (rb.zip rc)):jF u u (ra.zip rc):=by
 have mid:∀z∈ra.zip rc,∃y,(z.1,y)∈ra.zip rb/\(y,z.2)∈rb.zip rc:=λz hz=>by
  obtain ⟨i,h1,h2⟩:=lP.mp hz
  have hi:=(SW.mp h1).1
  exact ⟨rb[i]'(hl▸hi),lP.mpr ⟨i,h1,Sn _⟩,lP.mpr ⟨i,Sn _,h2⟩⟩
 refine ⟨λx hx y hy=>?_,λx hx=>?_⟩
 ·obtain ⟨x',a1,a2⟩:=mid x hx
  obtain ⟨y',b1,b2⟩:=mid y hy
  have g:=h.ag _ a1 _ b1
  have g':=h'.ag _ a2 _ b2
  exact ⟨g.eq.trans g'.eq,g.ms.trans g'.ms,g.ar.trans g'.ar⟩
 ·obtain ⟨x',a1,a2⟩:=mid x hx
  exact ⟨(h.rg _ a1).1,(h'.rg _ a2).2⟩
theorem ym {u:Wd}:∀(d:Nat) (ra rb:List Nat),Al u d ra rb->Al u d rb ra
 | 0,_,_,_=>trivial
 | d + 1,ra,rb,⟨h1,h2⟩=>⟨λq hq=>let ⟨p,a,b,c⟩:=h2 q hq;⟨p,a,vg b,ym d _ _ c⟩,λp hp=>let ⟨q,a,b,c⟩:=h1 p hp;⟨q,a,vg b,ym d _ _ c⟩⟩
theorem r_ {u:Wd}:∀(d:Nat) (ra rb rc:List Nat),ra.length=rb.length->rb.length=rc.length->Al u d ra rb->Al u d rb rc->Al u d ra rc
 | 0,_,_,_,_,_,_,_=>trivial
 | d + 1,ra,rb,rc,l1,l2,⟨h1,h2⟩,⟨k1,k2⟩=>⟨λp hp=>by
   obtain ⟨q,a1,a2,a3⟩:=h1 p hp
   obtain ⟨r,b1,b2,b3⟩:=k1 q a1
   exact ⟨r,b1,qf (by simp [l1]) a2 b2,r_ d _ _ _ (by simp [l1]) (by simp [l2]) a3 b3⟩,λr hr=>by
   obtain ⟨q,b1,b2,b3⟩:=k2 r hr
   obtain ⟨p,a1,a2,a3⟩:=h2 q b1
   exact ⟨p,a1,qf (by simp [l1]) a2 b2,r_ d _ _ _ (by simp [l1]) (by simp [l2]) a3 b3⟩⟩
def sim (u:Wd) (d a b:Nat):Bool:=decide ([(a,b)]∈T4 u u) && La u u d [(a,b)]
theorem ly {u:Wd}(t:Pr u u):sim u d a b=true↔jF u u (([a]:List Nat).zip [b])/\Al u d [a] [b]:=by
 unfold sim
 rw [Sk,decide_eq_true_eq,kM t,jQ (Ti _ _),<-IG t d [a] [b] rfl]
 rw [show mh (([a]:List Nat).zip [b])=[(a,b)] from IL (qP _) (Ti _ _) λ_=>jc]
 exact aab
theorem jZ {u:Wd}(t:Pr u u) (h:sim u d a b=true):sim u d b a=true:=by
 obtain ⟨h1,h2⟩:=(ly t).mp h
 exact (ly t).mpr ⟨vg h1,ym d _ _ h2⟩
theorem je {u:Wd}(t:Pr u u) (h:sim u d a b=true) (h':sim u d b c=true):sim u d a c=true:=by
 obtain ⟨h1,h2⟩:=(ly t).mp h
 obtain ⟨k1,k2⟩:=(ly t).mp h'
 exact (ly t).mpr ⟨qf (rb:=[b]) rfl h1 k1,r_ d [a] [b] [c] rfl rfl h2 k2⟩
theorem Ao {u:Wd}(t:Pr u u) (ha:a < u.m):sim u d a a=true:=by
 have i:pW u u ((Se u.m).map λx=>(x,x)):=⟨⟨S0.mpr (T9.imp λh=>h),λp hp q hq=>by
   obtain ⟨x,_,rfl⟩:=Sf.mp hp
   obtain ⟨y,_,rfl⟩:=Sf.mp hq
   exact ⟨aab,rfl,rfl⟩,λp hp=>by
   obtain ⟨x,hx,rfl⟩:=Sf.mp hp
   exact ⟨Sj.mp hx,Sj.mp hx⟩⟩,λx hx=>⟨(x,x),Sf.mpr ⟨x,Sj.mpr hx,rfl⟩,rfl⟩,λx hx=>⟨(x,x),Sf.mpr ⟨x,Sj.mpr hx,rfl⟩,rfl⟩⟩
 have hs:∀p∈[(a,a)],p∈(Se u.m).map λx=>(x,x):=λp hp=>by rw [So.mp hp];exact Sf.mpr ⟨a,Sj.mpr ha,rfl⟩
 unfold sim
 rw [pY t i d _ hs,decide_eq_true ((kM t).mpr ((jQ (Ti _ _)).mpr (jF.sub ⟨i.g.ag,i.g.rg⟩ hs)))]
 rfl
theorem NB {u:Wd}(t:Pr u u) (h:sim u d a b=true):a < u.m/\b < u.m:=((ly t).mp h).1.rg (a,b) (by simp)
end
end K81
namespace K81
open PySem DL K01 WP K51 K52 K55 K23 K22 K33
abbrev tN (xs:List Nat):D:=.tup (xs.map dN)
theorem N_ (a b:List Nat):bx (tN a) (tN b)=decide (a=b):=by
 show cQ (a.map dN) (b.map dN)=_
 induction a generalizing b with
 | nil=>cases b <;> simp [cQ]
 | cons x a ih=>
  cases b with
  | nil=>simp [cQ]
  | cons y b=>rw [Sx,Sx,gS,ih,K55.rQ,Tp];simp
theorem uI (xs:List Nat):dep (tN xs)<=60:=by
 have:deps (xs.map dN)<=0:=fN λx hx=>by obtain ⟨q,_,rfl⟩:=Sf.mp hx;exact Sl _
 show deps (xs.map dN) + 1<=60
 omega
theorem Od (neg:Bool) (p:List Nat) (L:List (List Nat)) (x:R) (hx:jH x=.ok (L.map tN)):fu neg (.d (tN p)) x=.ok (.d (.bl (if neg then !decide (p∈L) else decide (p∈L)))):=by
 unfold fu
 rw [hx,aM,if_pos ⟨fN λd hd=>by obtain ⟨q,_,rfl⟩:=Sf.mp hd;exact uI q,uI p⟩]
 have:inD (tN p) (L.map tN)=decide (p∈L):=by
  unfold inD
  rw [Wj,Tp,UK,decide_eq_true_eq]
  simp only [X7,N_,decide_eq_true_eq]
  exact ⟨λ⟨x,h,e⟩=>e▸h,λh=>⟨p,h,rfl⟩⟩
 show M.ok (R.d (.bl (if neg then !inD (tN p) (L.map tN) else inD (tN p) (L.map tN))))=_
 rw [this]
theorem Hj {gs:G (List R)}{env:Ev}{n:Nat}(hg:gs env=.ok [.d (.int (n:Int))]) (h:n<=1000):q9 gs env=.ok (.l .fresh ((Se n).map dN)):=by
 unfold q9
 rw [hg,aM]
 simp only
 rw [if_pos (eE.mpr ⟨by omega,by omega⟩),UL,Nt]
def once (L:List (List Nat)):List (List Nat):=L.foldl (λacc x=>if x∈acc then acc else acc++[x]) []
theorem DV (L:List (List Nat)) (hl:L.length<=1000):fQ [.bor (L.map tN)]=.ok (.l .fresh ((once L).map tN)):=by
 refine cS (cG (nS bO (by decide)) rfl (kQ (ds:=L.map tN) rfl (qR (λk env=>∃z,env=[some (.bor (L.map tN)),some (.own ((once (L.take k)).map tN)),z]/\(once (L.take k)).length<=k) (L.map tN) ⟨none,rfl,Sl _⟩ ?_ ?_)))
 ·rintro k hk _ ⟨z,rfl,hk1⟩
  have hk':k < L.length:=by simpa using hk
  have e:(L.map tN)[k]=tN L[k]:=Wa ..
  rw [e]
  have es:once (L.take (k + 1))=if L[k]∈once (L.take k) then once (L.take k) else once (L.take k)++[L[k]]:=by
   rw [WM,Sn hk']
   unfold once
   rw [X6]
   rfl
  refine ⟨_,rfl,vt (c:=!decide (L[k]∈once (L.take k))) (K23.cj rfl rfl ((Od true L[k] (once (L.take k)) (.l .own ((once (L.take k)).map tN)) rfl).trans rfl)) (λq=>?_) λq=>?_⟩
  ·have q:L[k]∉once (L.take k):=by simpa using q
   refine CY rfl rfl rfl (by rw [Sh];omega) ⟨_,rfl,some (.d (tN L[k])),?_,?_⟩
   ·rw [es,if_neg q,SV];rfl
   ·rw [es,if_neg q,SO];simp;omega
  ·have q:L[k]∈once (L.take k):=by simpa using q
   refine jS ⟨_,rfl,some (.d (tN L[k])),?_,?_⟩
   ·rw [es,if_pos q];rfl
   ·rw [es,if_pos q];omega
 ·rintro _ ⟨z,rfl,_⟩
  rw [Sh,V8]
  exact cK rfl rfl rfl
section
variable {u:Wd}{d:Nat}
def cls (u:Wd) (d a:Nat):List Nat:=(Se u.m).filter (sim u d a)
def least (u:Wd) (d a:Nat):Bool:=(Se a).all λb=>!sim u d a b
def cl (u:Wd) (d:Nat):List (List Nat):=((Se u.m).filter (least u d)).map (cls u d)
theorem nV (t:Pr u u){a b:Nat}:b∈cls u d a↔sim u d a b=true:=by
 unfold cls
 rw [S7,Sj]
 exact ⟨λh=>h.2,λh=>⟨(NB t h).2,h⟩⟩
theorem Ep (t:Pr u u){a b:Nat}(hb:b < u.m):cls u d a=cls u d b↔sim u d a b=true:=by
 constructor
 ·intro h
  exact (nV t).mp (by rw [h];exact (nV t).mpr (Ao t hb))
 ·intro h
  refine aac λx _=>?_
  rw [Tp]
  exact ⟨λk=>je t (jZ t h) k,λk=>je t h k⟩
theorem BO (t:Pr u u):once ((Se u.m).map (cls u d))=cl u d:=by
 have key:∀k,k<=u.m->once ((Se k).map (cls u d))=((Se k).filter (least u d)).map (cls u d)/\∀x,x∈once ((Se k).map (cls u d))↔x∈(Se k).map (cls u d):=by
  intro k
  induction k with
  | zero=>exact λ_=>⟨rfl,λ_=>aab⟩
  | succ k ih=>
   intro hk
   obtain ⟨i1,i2⟩:=ih (by omega)
   have e:once ((Se (k + 1)).map (cls u d))=if cls u d k∈once ((Se k).map (cls u d)) then once ((Se k).map (cls u d)) else once ((Se k).map (cls u d))++[cls u d k]:=by
    rw [U_,SV]
    unfold once
    rw [X6]
    rfl
   have hm:cls u d k∈once ((Se k).map (cls u d))↔least u d k=false:=by
    rw [i2,Sf]
    unfold least
    rw [aad]
    constructor
    ·rintro ⟨b,hb,h⟩
     exact ⟨b,hb,by rw [jZ t ((Ep t (by omega)).mp h)];decide⟩
    ·rintro ⟨b,hb,h⟩
     exact ⟨b,hb,(Ep t (by omega)).mpr (jZ t (by simpa using h))⟩
   rw [e]
   cases q:least u d k with
   | true=>
    have c:cls u d k∉once ((Se k).map (cls u d)):=λz=>by rw [hm,q] at z;cases z
    rw [if_neg c,i1,U_,Ww,SV]
    refine ⟨by simp [q],λx=>?_⟩
    rw [<-i1,SN,i2,SV,SN]
    exact aab
   | false=>
    have c:=hm.mpr q
    rw [if_pos c,U_,Ww,SV]
    refine ⟨by simp [q,i1],λx=>?_⟩
    rw [i2,SV,SN]
    refine ⟨.inl,λh=>h.elim id λh=>?_⟩
    rw [So.mp (show x∈[cls u d k] from h)]
    exact (i2 _).mp c
 exact (key u.m (Sl _)).1
theorem vS (t:Pr u u) (hd:d<=6):lC [.d u.d,.d (.int d)]=.ok (.l .fresh ((cl u d).map tN)):=by
 have u4:=t.v4
 obtain ⟨f,h1,h2⟩:=O8 (B:=[]) t (SQ _)
 rw [MA] at h1 h2
 refine cS (jO (c2 rfl rfl (nE t)) (jO (c3 rfl rfl rfl (O6 d 6 hd)) (cG (c3 rfl rfl (bW bO (by decide)) h1) rfl (cG (r:=.l .fresh ((Se u.m).map dN)) ?_ rfl (cK (c1 (kD (xs:=Se u.m) (h:=dN) (λa=>tN (cls u d a)) rfl (by simp;omega) λa ha=>⟨_,n1 (jr (xs:=Se u.m) (h:=dN) (sim u d a) dN rfl (by simp;omega) λb hb=>⟨K23.i6 ((c3 rfl (bW (aU (bW (aU rfl rfl (aU rfl rfl bO)) t2) rfl bO) (by show 1<=1000;decide)) rfl (N1 (T4 u u) f [(a,b)] d)).trans ?_),λ_=>⟨_,rfl,rfl⟩⟩) rfl,rfl⟩) (show fQ [.bor ((Se u.m).map λa=>tN (cls u d a))]=.ok (.l .fresh ((cl u d).map tN)) from ?_)) rfl rfl)))))
 ·exact Hj (bZ (two rfl rfl (bU _ _))) (by omega)
 ·unfold sim
  by_cases h:[(a,b)]∈T4 u u
  ·rw [decide_eq_true h,h2 d _ h]
  ·rw [decide_eq_false h];rfl
 ·have:=DV ((Se u.m).map (cls u d)) (by simp;omega)
  rw [S6,BO t] at this
  exact this
end
theorem NF {ps qs:List Nat}(nd:ps.Nodup) (up:qs.Pairwise (· < ·)) (h:∀x,x∈ps↔x∈qs):cY (ps.map dN)=qs.map dN:=by
 have tp:∀d∈ps.map dN,jJ .i d:=λd hd=>by obtain ⟨x,_,rfl⟩:=Sf.mp hd;exact ⟨_,rfl⟩
 have inj:∀a b:Nat,dN a=dN b->a=b:=λa b e=>by have:=congrArg NT e;exact this
 refine uL (g7 .i) (λx hx=>tp x ((gE _).mem_iff.mp hx)) (rB (g7 .i) tp (S0.mpr (nd.imp λh e=>h (inj _ _ e)))) (S0.mpr (up.imp fun {a b} h=>(Dg a b).mpr h)) λy=>?_
 rw [(gE _).mem_iff,Sf,Sf]
 exact ⟨λ⟨q,a,b⟩=>⟨q,(h q).mp a,b⟩,λ⟨q,a,b⟩=>⟨q,(h q).mpr a,b⟩⟩
def hm (C:List (List Nat)) (p:Nat):Option Nat:=(Se C.length).find? λk=>decide (p∈C.getD k [])
section
variable {u:Wd}{d:Nat}
theorem MH (t:Pr u u){c:List Nat}:c∈cl u d↔∃a,a < u.m/\least u d a=true/\c=cls u d a:=by
 unfold cl
 rw [Sf]
 simp only [S7,Sj]
 exact ⟨λ⟨a,h,e⟩=>⟨a,h.1,h.2,e.symm⟩,λ⟨a,h1,h2,e⟩=>⟨a,⟨h1,h2⟩,e.symm⟩⟩
theorem zb (t:Pr u u):∀(n a:Nat),a < n->a < u.m->∃b,b < u.m/\least u d b=true/\sim u d b a=true
 | 0,_,h,_=>absurd h (TL _)
 | n + 1,a,hn,ha=>by
  cases q:least u d a with
  | true=>exact ⟨a,ha,q,Ao t ha⟩
  | false=>
   obtain ⟨b,hb,h⟩:=aad.mp q
   have hb:=Sj.mp hb
   have h:sim u d a b=true:=by simpa using h
   obtain ⟨c,h1,h2,h3⟩:=zb t n b (by omega) (by omega)
   exact ⟨c,h1,h2,je t h3 (jZ t h)⟩
theorem Hg (t:Pr u u){a b:Nat}(ha:least u d a=true) (hb:least u d b=true) (h:sim u d a b=true):a=b:=by
 have no:∀{x y:Nat},least u d y=true->x < y->sim u d y x=true->False:=λhy hlt hs=>by
  have:=SK.mp hy _ (Sj.mpr hlt)
  rw [hs] at this
  cases this
 rcases Vz a b with c | c | c
 ·exact (no hb c (jZ t h)).elim
 ·exact c
 ·exact (no ha c h).elim
theorem L3 (t:Pr u u):(cl u d).length<=4/\∀c∈cl u d,c.length<=4:=by
 have u4:=t.v4
 constructor
 ·unfold cl
  rw [Sh]
  exact S5 (Tf _ _) (by simpa using u4)
 ·intro c hc
  obtain ⟨a,_,_,rfl⟩:=(MH t).mp hc
  exact S5 (Tf _ _) (by simpa using u4)
end
theorem MX {env:Ev}{a b:G Bool}{x:Bool}(h:a env=.ok x) (h2:∃y,b env=.ok y):∃y,bV a b env=.ok y:=by
 obtain ⟨y,h2⟩:=h2
 cases x with
 | true=>exact ⟨true,by unfold bV;rw [h];rfl⟩
 | false=>exact ⟨y,zN h h2⟩
theorem JE {env:Ev}{a b:G Bool}{x:Bool}(h:a env=.ok x) (h2:∃y,b env=.ok y):∃y,bK a b env=.ok y:=by
 obtain ⟨y,h2⟩:=h2
 cases x with
 | true=>exact ⟨y,qW h h2⟩
 | false=>exact ⟨false,tU h⟩
theorem Mi (i:Int) (xs:List Nat) (m:Md):∃b,fu false (.d (.int i)) (.l m (xs.map dN))=.ok (.d (.bl b)):=by
 refine ⟨inD (.int i) (xs.map dN),?_⟩
 unfold fu
 rw [show jH (.l m (xs.map dN))=.ok (xs.map dN) from rfl,aM,if_pos ⟨yY xs,SQ _⟩]
 rfl
theorem Lw (n:Int) (m:Nat) (h1:1<=m) (hm:m<=8):∃ps:List (Nat×Nat),jg [.d (.int n),.d (.int m)]=.ok (.d (.tup (ps.map dP)))/\ps.length<=64:=by
 have key:Wp (jg [.d (.int n),.d (.int m)]) λr=>∃ps:List (Nat×Nat),r=.d (.tup (ps.map dP))/\ps.length<=64:=by
  refine DT (cG (jr (xs:=Se m) (h:=dN) (λk:Nat=>Xw (n / 2 ^ ((k:Int)).toNat) 1 == 1) dN (iK (bZ rfl) (by omega)) (by simp;omega) λk _=>⟨K23.cj (two (two rfl rfl (oJ (decide_eq_true (by omega)))) rfl rfl) rfl ((K01.eq_int ..).trans rfl),λ_=>⟨_,rfl,rfl⟩⟩) rfl ?_)
  generalize (Se m).filter (λk:Nat=>Xw (n / 2 ^ ((k:Int)).toNat) 1 == 1)=st
  refine cG (two (two rfl rfl (fK _ 16 (by decide) (by decide))) rfl (cV _ 2 (by decide))) rfl (cG (nS bO (by decide)) rfl ?_)
  refine kQ (sW (n:=m) (bZ rfl) (by omega)) (uM (λk env=>∃(ps:List (Nat×Nat)) (a b c:Option S),env=[some (.d (.int n)),some (.d (.int m)),some (.own (st.map dN)),some (.d (.int (n / 16 % 2))),some (.own (ps.map dP)),a,b,c]/\ps.length<=8 * k) ⟨[],none,none,none,rfl,SQ _⟩ ?_ ?_)
  ·rintro k hk _ ⟨ps,a,b,c,rfl,hl⟩
   refine ⟨_,rfl,oV (sW (n:=m) (bZ rfl) (by omega)) (uM (λj env=>∃(ps:List (Nat×Nat)) (b c:Option S),env=[some (.d (.int n)),some (.d (.int m)),some (.own (st.map dN)),some (.d (.int (n / 16 % 2))),some (.own (ps.map dP)),some (.d (.int k)),b,c]/\ps.length<=8 * k + j) ⟨ps,b,c,rfl,by omega⟩ ?_ ?_)⟩
   ·rintro j hj _ ⟨ps,b,c,rfl,hl⟩
    refine ⟨_,rfl,cG (two (two rfl rfl rfl) rfl (cV _ _ (by omega))) rfl ?_⟩
    obtain ⟨y,hy⟩:=Mi (((j:Int) - k) % m) st .own
    obtain ⟨y',hy'⟩:=Mi (((k:Int) - j) % m) st .own
    obtain ⟨bb,hb⟩:=MX (env:=[some (.d (.int n)),some (.d (.int m)),some (.own (st.map dN)),some (.d (.int (n / 16 % 2))),some (.own (ps.map dP)),some (.d (.int k)),some (.d (.int j)),some (.d (.int (((j:Int) - k) % m)))]) (a:=aV (g2 (fu false) (af 7) (af 2))) (b:=bK (aV (g2 (dO false) (af 3) (gC (.int 1)))) (aV (g2 (fu false) (g2 cR (g2 nc (af 5) (af 6)) (af 1)) (af 2)))) (K23.cj rfl rfl hy) (JE (K23.cj rfl rfl (K01.eq_int ..)) ⟨_,K23.cj (two (two rfl rfl rfl) rfl (cV _ _ (by omega))) rfl hy'⟩)
    refine vt hb (λ_=>CY rfl (bW (aU rfl rfl (aU rfl rfl bO)) t2) rfl (by rw [Sh];omega) ⟨_,rfl,ps++[(k,j)],_,_,by rw [SV];rfl,by simp;omega⟩) λ_=>jS ⟨_,rfl,ps,_,_,rfl,by omega⟩
   ·rintro _ ⟨ps,b,c,rfl,hl⟩
    exact ⟨_,rfl,ps,_,_,_,rfl,by omega⟩
  ·rintro _ ⟨ps,a,b,c,rfl,hl⟩
   exact cK (n1 rfl rfl) rfl ⟨_,rfl,ps,rfl,by omega⟩
 obtain ⟨_,h,ps,rfl,hl⟩:=key
 exact ⟨ps,h,hl⟩
abbrev eS (ns:List Int) (m:Nat) (A B:List Str) (ms:List (Str×List Nat)) (rs:List (Str×List (Nat×Nat))) (q:Int) (as:List (Str×List (Nat×Nat))) (a b:Option S):Ev:=[some (.bor (ns.map D.int)),some (.d (.int 2)),some (.d (.int m)),some (.d (.tup [.tup (A.map .str),.tup (B.map .str)])),some (.d (Wd.d ⟨m,ms,rs⟩)),some (.d (.int q)),some (.own (as.map qE)),a,b,none]
theorem OE {env:Ev}{g h:G R}{xs ys:List D}{j:Int}(hg:g env=.ok (.d (.tup xs))) (hh:h env=.ok (.d (.int j))) (e:cutD xs none (some j)=ys):wA sI g EF (wm h) env=.ok (.d (.tup ys)):=by
 unfold wA wm
 rw [hg,aM,hh]
 show M.ok (R.d (.tup (cutD xs none (some j))))=_
 rw [e]
theorem or_val {env:Ev}{a b:G Bool}{x y:Bool}(h:a env=.ok x) (h2:b env=.ok y):bV a b env=.ok (x || y):=by
 cases x with
 | true=>unfold bV;rw [h];rfl
 | false=>exact zN h h2
theorem Gu (ns:List Int) (m:Nat) (h1:1<=m) (hm:m<=4) (A B:List Str) (hA:A.length<=3) (hB:B.length<=3):∃u:Wd,g8 [.bor (ns.map D.int),.d (.int 2),.d (.int m),.d (.tup [.tup (A.map .str),.tup (B.map .str)])]=.ok (.d u.d)/\u.m=m/\u.ms.length<=3/\u.ar.length<=3:=by
 obtain ⟨ms,rs,hw,e1,e2,p1,p2⟩:=Jy ns 2 m (by omega) A B hA hB
 have lm:ms.length<=3:=by rw [<-e1] at hA;simpa using hA
 have lr:rs.length<=3:=by rw [<-e2] at hB;simpa using hB
 have c8:=K01.GI ns 8
 have c8':=K01.JM ns 8
 have key:Wp (g8 [.bor (ns.map D.int),.d (.int 2),.d (.int m),.d (.tup [.tup (A.map .str),.tup (B.map .str)])]) λr=>∃u:Wd,r=.d u.d/\u.m=m/\u.ms.length<=3/\u.ar.length<=3:=by
  refine DT (cG (c4 rfl rfl rfl rfl hw) rfl (cG (two (two (c2 rfl rfl (K01.pS ns 8)) rfl (n9 _ 1283 (by decide) (by decide))) rfl (cV _ 100003 (by decide))) rfl (cG (nS bO (by decide)) rfl ?_)))
  generalize K01.fB ns 8 * 1283 % 100003=q
  refine kQ (sW (n:=rs.length) (bZ (n1 (two rfl rfl (cW _ _ _ _)) ((a_ _).trans (by rw [Sh])))) (by omega)) (uM (λk env=>∃(as:List (Str×List (Nat×Nat))) (a b:Option S),env=eS ns m A B ms rs q as a b/\as.length=k) ⟨[],none,none,rfl,rfl⟩ ?_ ?_)
  ·rintro k hk _ ⟨as,a,b,rfl,hl⟩
   have ixr:br (.d (.tup (rs.map qE))) (.d (.int k))=.ok (.d (qE rs[k])):=jP (by rw [SJ,Sn hk];rfl)
   refine ⟨_,rfl,cG (two (two (two rfl rfl (cW _ _ _ _)) rfl ixr) rfl (cU _ _ _)) rfl ?_⟩
   have app:∀ps:List (Nat×Nat),Wp (e_ 6 (bL (au (g2 br (g2 br (g2 br (af 4) (gC (.int 2))) (af 7)) (gC (.int 0))) (au (af 8) aJ))) (eS ns m A B ms rs q as (some (.d (.int k))) (some (.d (.tup (ps.map dP))))))
     λo=>∃e,o=.nx e/\∃(as:List (Str×List (Nat×Nat))) (a b:Option S),e=eS ns m A B ms rs q as a b/\as.length=k + 1:=λps=>
    CY rfl (bW (aU (two (two (two rfl rfl (cW _ _ _ _)) rfl ixr) rfl (bU _ _)) rfl (aU rfl rfl bO)) t2) rfl (by rw [Sh];omega) ⟨_,rfl,as++[(rs[k].1,ps)],some (.d (.int k)),some (.d (.tup (ps.map dP))),by unfold eS;rw [SV];rfl,by rw [SO,hl];rfl⟩
   have ev:=Lw (q / 3 + 5 * k) m h1 (by omega)
   obtain ⟨pe,RQ,lpe⟩:=ev
   refine fV (Wp.mono (P:=λo=>∃ps:List (Nat×Nat),ps.length<=64/\o=.nx (eS ns m A B ms rs q as (some (.d (.int k))) (some (.d (.tup (ps.map dP)))))) ?_ ?_)
   ·refine vt (K23.cj (two rfl rfl (cV _ 3 (by decide))) rfl (K01.eq_int ..)) (λ_=>mP (c2 (two (two rfl rfl (fK _ 3 (by decide) (by decide))) (two rfl rfl (Ax _ _ (by decide) (by decide))) (iP _ _)) rfl RQ) rfl ⟨pe,lpe,rfl⟩) λ_=>jS ⟨rs[k].2,(p2 _ (Tt hk)).1,rfl⟩
   rintro _ ⟨ps,lps,rfl⟩
   refine fV (Wp.mono (P:=λo=>∃ps:List (Nat×Nat),ps.length<=64/\o=.nx (eS ns m A B ms rs q as (some (.d (.int k))) (some (.d (.tup (ps.map dP)))))) ?_ ?_)
   ·refine vt (K23.cj (two rfl rfl (cV _ 3 (by decide))) rfl (K01.eq_int ..)) (λ_=>mP (n1 (jr (xs:=ps) (h:=dP) (λp=>decide ((p.1:Int) < 2) || decide ((1:Int) < p.2)) dP rfl (by omega) λp _=>⟨or_val (K23.cj (two rfl rfl (bU _ _)) rfl rfl) (K23.cj (two rfl rfl (cU _ _ _)) rfl rfl),λ_=>⟨_,rfl,rfl⟩⟩) rfl) rfl ⟨_,S5 (Tf _ _) lps,rfl⟩) λ_=>jS ⟨ps,lps,rfl⟩
   ·rintro _ ⟨ps,_,rfl⟩
    exact app ps
  ·rintro _ ⟨as,a,b,rfl,hl⟩
   have hq:=cV (q / 81) 5 (by decide)
   let cn:List Nat->List Nat:=λxs=>(qY dN xs none (some (q / 81 % 5))).choose
   have hcn:∀xs,cutD (xs.map dN) none (some (q / 81 % 5))=(cn xs).map dN:=λxs=>(qY dN xs none (some (q / 81 % 5))).choose_spec.1
   refine cG (oB (xs:=ms) (λr=>.str r.1) (λr=>.tup (r.2.map dN)) (λr=>pg (r.1,cn r.2)) ?_ (by omega) λr _=>⟨_,bW (aU rfl rfl (aU (r:=.d (.tup ((cn r.2).map dN))) ?_ rfl bO)) t2,rfl⟩) rfl (cK (bW (aU rfl rfl (aU (n1 rfl rfl) rfl (aU (n1 rfl rfl) rfl bO))) (by show 3<=1000;decide)) rfl ⟨_,rfl,⟨m,ms.map λr=>(r.1,cn r.2),as⟩,?_,rfl,by simpa using lm,by show as.length<=3;omega⟩)
   ·show (g2 _ _ _ _ >>= _)=_
    rw [two rfl rfl (cU _ _ _)]
    rfl
   ·exact OE rfl (two (two rfl rfl (fK _ 81 (by decide) (by decide))) rfl hq) (hcn r.2)
   ·unfold Wd.d
    rw [S6]
    rfl
 obtain ⟨_,h,u,rfl,hk⟩:=key
 exact ⟨u,h,hk⟩
end K81
namespace K23
open PySem DL K01 WP K51 K52 K55
theorem LV {α:Type}(f:α->Bool):∀xs:List α,iR (xs.map λx=>D.bl (f x))=some (xs.map f)
 | []=>rfl
 | x::xs=>by
  rw [Sx]
  simp only [iR,LV f xs]
  rfl
theorem anyM {α:Type}(f:α->Bool) (xs:List α):qc [.l .fresh (xs.map λx=>.bl (f x))]=.ok (.d (.bl (xs.any f))):=by
 unfold qc
 simp only [kI,aM,LV]
 congr 3
 simp [Wj]
theorem oz {env:Ev}{a b:G R}{r:R}(h:a env=.ok (.d (.bl true))) (h2:b env=.ok r):bu a b env=.ok r:=by
 unfold bu
 rw [h]
 exact h2
theorem BN {env:Ev}{a:G R}{k:Bool}(h:a env=.ok (.d (.bl k))):bC a env=.ok (.d (.bl (!k))):=by
 unfold bC
 rw [h]
 rfl
abbrev oD (o:List Nat):D:=.tup (o.map dN)
def kE (m:Nat) (o:List Nat):List (List Nat):=((Se m).filter λp=>!inD (dN p) (o.map dN)).map λp=>o++[p]
noncomputable def OR (m:Nat):Nat->List (List Nat)
 | 0=>[[]]
 | k + 1=>(OR m k).flatMap (kE m)
theorem ow {m:Nat}:∀(k:Nat){o:List Nat},o∈OR m k->o.length=k/\o.Nodup/\∀p∈o,p < m
 | 0,o,h=>by
  rw [show o=[] from So.mp h]
  exact ⟨rfl,U4,λ_ h=>nomatch h⟩
 | k + 1,o,h=>by
  obtain ⟨a,h1,h2⟩:=Wb.mp h
  obtain ⟨p,h3,rfl⟩:=Sf.mp h2
  obtain ⟨l,nd,rg⟩:=ow k h1
  obtain ⟨h4,h5⟩:=S7.mp h3
  rw [K55.inN] at h5
  have hp:p∉a:=by simpa using h5
  refine ⟨by rw [SO,l];rfl,VY.mpr ⟨nd,Ti _ _,λx hx y hy e=>?_⟩,λx hx=>?_⟩
  ·rw [So.mp hy] at e
   exact hp (e▸hx)
  ·rcases SN.mp hx with h | h
   ·exact rg x h
   ·rw [So.mp h];simpa using h4
theorem lD {m:Nat}(hm:m<=4):∀k,(OR m k).length<=4 ^ k
 | 0=>Sl _
 | k + 1=>by
  have h:=oM (kE m) 4 (OR m k) λo _=>by
   unfold kE
   rw [Sh]
   have:=Tf (λp=>!inD (dN p) (o.map dN)) (Se m)
   rw [Uj] at this
   omega
  have h2:=Vs 4 (lD hm k)
  rw [YO]
  exact S5 h h2
noncomputable def fs (k:Nat) (L:List D):S:=match k with
 | 0=>.own L
 | _ + 1=>.d (.lst L)
theorem yq (m:Nat) (h1:1<=m) (hm:m<=4):jh [.d (.int m)]=.ok (.d (.lst ((OR m m).map oD))):=by
 refine cS (fV (NX rfl (mP (nS (aU (bW bO (by decide)) rfl bO) (by show 1<=1000;decide)) rfl ?_)))
 refine kQ (sW (n:=m) rfl (by omega)) ?_
 refine uM (λk env=>∃x y z:Option S,env=[some (.d (.int m)),some (fs k ((OR m k).map oD)),x,y,z]) ⟨none,none,none,rfl⟩ ?_ ?_
 ·rintro k hk _ ⟨x,y,z,rfl⟩
  refine ⟨_,rfl,cG rfl rfl ?_⟩
  have l0:=lD hm k
  have l1:=lD hm (k + 1)
  have p0:(4:Nat) ^ k<=4 ^ 4:=Ul (by decide) (by omega)
  have p1:(4:Nat) ^ (k + 1)<=4 ^ 4:=Ul (by decide) (by omega)
  have p2:(4:Nat) ^ 4=256:=by decide
  have loop:Wp (c_ (iV (af 1)) (az 4) (qh 3 (bA 1 [4] (bR (ao (af 0) ay)) (az 0) (aV (g2 (fu true) (af 0) (af 1))) (g2 mH (af 1) (bL (au (af 0) aJ))))) [some (.d (.int m)),some (.d (.lst ((OR m k).map oD))),some (.d (.int k)),some (.own []),z])
    (λo=>∃e,o=.nx e/\∃z,e=[some (.d (.int m)),some (.d (.lst ((OR m k).map oD))),some (.d (.int k)),some (.own ((OR m (k + 1)).map oD)),z]):=by
   refine oV (ds:=(OR m k).map oD) rfl ?_
   refine qR (λj env=>∃z,env=[some (.d (.int m)),some (.d (.lst ((OR m k).map oD))),some (.d (.int k)),some (.own ((((OR m k).take j).flatMap (kE m)).map oD)),z]) _ ⟨z,rfl⟩ ?_ ?_
   ·rintro j hj _ ⟨z,rfl⟩
    rw [Sh] at hj
    rw [Wa]
    obtain ⟨lo,_,ro⟩:=ow k (Tt hj)
    generalize ho:(OR m k)[j]=o at lo ro
    have lt:(((OR m k).take j).flatMap (kE m)).length<=1024:=by
     have:=oM (kE m) 4 ((OR m k).take j) λo _=>by
      unfold kE
      rw [Sh]
      have:=Tf (λp=>!inD (dN p) (o.map dN)) (Se m)
      rw [Uj] at this
      omega
     have h2:((OR m k).take j).length<=256:=by rw [UI];omega
     omega
    have le:(kE m o).length<=4:=by
     unfold kE
     rw [Sh]
     have:=Tf (λp=>!inD (dN p) (o.map dN)) (Se m)
     rw [Uj] at this
     omega
    refine ⟨_,rfl,I_ (ys:=(kE m o).map oD) rfl (jr (xs:=Se m) (h:=dN) (λp=>!inD (dN p) (o.map dN)) (λp=>oD (o++[p])) (iK rfl (by omega)) (by simp;omega) λp hp=>⟨cj rfl rfl (CQ true (dN p) (o.map dN) (yY o) (SQ _)),λ_=>⟨_,two rfl (bW (aU rfl rfl bO) (by show 1<=1000;decide)) (DM _ _ (by simp;omega)),?_⟩⟩) ?_ (by simp only [Sh];omega) ⟨_,rfl,some (.d (oD o)),?_⟩⟩
    ·show M.ok (D.tup (o.map dN++[dN p]))=M.ok (D.tup ((o++[p]).map dN))
     rw [SV]
     rfl
    ·show M.ok _=M.ok _
     unfold kE
     rw [S6]
     rfl
    ·rw [WM,Sn hj,ho,Zp,SV]
     show _=[_,_,_,some (S.own (_++((([o]:List (List Nat)).flatMap (kE m)).map oD))),_]
     rw [List.flatMap_singleton]
     rfl
   ·rintro _ ⟨z,rfl⟩
    rw [Sh,V8]
    exact ⟨_,rfl,z,rfl⟩
  have fz:Wp (gY 1 (c_ (iV (af 1)) (az 4) (qh 3 (bA 1 [4] (bR (ao (af 0) ay)) (az 0) (aV (g2 (fu true) (af 0) (af 1))) (g2 mH (af 1) (bL (au (af 0) aJ)))))) [some (.d (.int m)),some (fs k ((OR m k).map oD)),some (.d (.int k)),some (.own []),z])
    (λo=>∃e,o=.nx e/\∃z,e=[some (.d (.int m)),some (.d (.lst ((OR m k).map oD))),some (.d (.int k)),some (.own ((OR m (k + 1)).map oD)),z]):=by
   cases k with
   | zero=>exact yk rfl loop
   | succ k=>exact Gm rfl loop
  refine fV (fz.mono ?_)
  rintro o ⟨e,rfl,z',rfl⟩
  exact yk rfl (mP rfl rfl ⟨_,rfl,_,_,z',rfl⟩)
 ·rintro _ ⟨x,y,z,rfl⟩
  obtain ⟨n,rfl⟩:∃n,m=n + 1:=⟨m - 1,by omega⟩
  exact cK rfl rfl rfl
theorem Jd {env:Ev}{a b:G Bool}{k:Bool}(h1:a env=.ok false) (h2:b env=.ok k):bV a b env=.ok k:=by
 unfold bV
 rw [h1]
 exact h2
theorem BK {σ:List Nat}{m:Nat}(nd:σ.Nodup) (l:σ.length=m) (rg:∀p∈σ,p < m):σ.Perm (Se m):=
 (V1 nd Ur).mpr λy=>⟨λh=>Sj.mpr (rg y h),λhy=>T3 λhn=>by
  have:=SX (Ud.mpr ⟨hn,nd⟩) (l₂:=Se m) λz hz=>by
   rcases SD.mp hz with rfl | hz
   ·exact hy
   ·exact Sj.mpr (rg z hz)
  rw [Uh,Uj] at this
  omega⟩
theorem zp {v w:Wd}{σ:List Nat}(i:pW v w σ):σ.Perm (Se v.m):=BK i.nd i.len i.rg
end K23
namespace K83
open PySem DL
def Jz:List Str:=["world","points"]
noncomputable def By:G O:=(aD (jv (gN (aF 2 K23.d_) (ao (af 0) (ao (af 0) ay))))
 (aD (aN 1 (q9 (ao (g2 br (af 0) (gC (.int 0))) ay)))
 (aP (gN (aF 1 K81.fQ) (ao (bA 1 [1,0] (dX (af 1)) (az 0) cI (gN dG (ao (bA 1 [2,0] (dX (af 1)) (az 0) (aV (g2 (mJ true) (gN (aF 3 K23.eU) (ao (af 1) (ao (af 1) (ao (bL (au (bL (au (af 2) (au (af 0) aJ))) aJ)) ay)))) (gC .non))) (af 0)) ay))) ay)))))
def qT (as:List S):M R:=fin (By (aH Jz as))
def AJ:List Str:=["_law_world_here","_law_order","_law_name","_law_points","_law_point","_law_pairs_here","_law_one","_law_other"]
noncomputable def rS:G O:=(aD (c_ (iV (g2 br (af 0) (gC (.int 1)))) (gm 2 (b_ (az 2) (b_ (az 3) gF))) (c_ (bR (ao (g2 br (af 0) (gC (.int 0))) ay)) (az 4) (aX (aV (g2 (dO true) (g2 (fu false) (af 4) (af 3)) (g2 (fu false) (g2 br (af 1) (af 4)) (af 3)))) (aP (gC (.bl false))) bF)))
 (aD (c_ (iV (g2 br (af 0) (gC (.int 2)))) (gm 2 (b_ (az 2) (b_ (az 5) gF))) (c_ (bR (ao (g2 br (af 0) (gC (.int 0))) ay)) (az 6) (c_ (bR (ao (g2 br (af 0) (gC (.int 0))) ay)) (az 7) (aX (aV (g2 (dO true) (g2 (fu false) (bL (au (af 6) (au (af 7) aJ))) (af 5)) (g2 (fu false) (bL (au (g2 br (af 1) (af 6)) (au (g2 br (af 1) (af 7)) aJ))) (af 5)))) (aP (gC (.bl false))) bF))))
 (aP (gC (.bl true)))))
def gP (as:List S):M R:=fin (rS (aH AJ as))
def uT:List Str:=["_law_found","_law_many"]
noncomputable def nN:G O:=(aD (aX (bV (bD (aV (cT "tuple" (af 0)))) (aV (g2 (dO true) (gN jt (ao (af 0) ay)) (af 1)))) (aP (gC (.bl false))) bF)
 (aD (aX (bD (aV (gN kF (ao (bA 1 [] (dX (af 0)) (az 0) cI (bu (cT "int" (af 0)) (bC (cT "bool" (af 0))))) ay)))) (aP (gC (.bl false))) bF)
 (aP (g2 (dO false) (gN qd (ao (af 0) ay)) (q9 (ao (af 1) ay))))))
def ig (as:List S):M R:=fin (nN (aH uT as))
def AI:List Str:=["_law_world_here","_law_one","_law_other","_law_alike","_law_turns_here","_law_found"]
noncomputable def rR:G O:=(aD (aN 5 (gN (aF 3 K23.eU) (ao (af 0) (ao (af 0) (ao (bL (au (bL (au (af 1) (au (af 2) aJ))) aJ)) ay)))))
 (aD (aX (bD (zg (af 3))) (aP (bu (g2 (mJ false) (af 5) (gC .non)) (bC (gN qc (ao (bA 1 [1,2] (dX (af 4)) (az 0) cI (g2 (dO false) (g2 br (af 0) (af 1)) (af 2))) ay))))) bF)
 (aP (bu (gN (aF 2 K83.ig) (ao (af 5) (ao (g2 br (af 0) (gC (.int 0))) ay))) (bu (g2 (dO false) (g2 br (af 5) (af 1)) (af 2)) (gN (aF 2 K83.gP) (ao (af 0) (ao (af 5) ay))))))))
def j6 (as:List S):M R:=fin (rR (aH AI as))
def Pa:List Str:=["_law_script","_law_many","_law_world_here","_law_found","_law_deeper","_law_turns_here","_law_one","_law_other","_law_home"]
noncomputable def Mf:G O:=(aD (aN 1 (g2 cF (gC (.int 1)) (g2 cR (gN (aF 2 K01.dh) (ao (af 0) (ao (gC (.int 0)) ay))) (gC (.int 4)))))
 (aD (aN 2 (gN (aF 4 K81.g8) (ao (af 0) (ao (gC (.int 2)) (ao (af 1) (ao (gN (aF 1 K01.g9) (ao (gN (aF 2 K01.dh) (ao (af 0) (ao (gC (.int 1)) ay))) ay)) ay))))))
 (aD (aN 3 (gN (aF 1 K83.qT) (ao (af 2) ay)))
 (aD (aX (bD (aV (cT "list" (af 3)))) (aP (gC (.bl false))) bF)
 (aD (aN 4 (g2 cF (af 1) (g2 cR (gN (aF 2 K01.dh) (ao (af 0) (ao (gC (.int 9)) ay))) (g2 nc (gC (.int 7)) (af 1)))))
 (aD (aX (bV (aV (g2 (dO true) (gN (aF 2 K81.lC) (ao (af 2) (ao (af 1) ay))) (af 3))) (aV (g2 (dO true) (gN (aF 2 K81.lC) (ao (af 2) (ao (af 4) ay))) (af 3)))) (aP (gC (.bl false))) bF)
 (aD (aN 5 (bA 1 [2] (dX (gN (aF 1 K23.jh) (ao (af 1) ay))) (az 0) (aV (gN (aF 2 K83.gP) (ao (af 1) (ao (af 0) ay)))) (af 0)))
 (aD (c_ (bR (ao (af 1) ay)) (az 6) (c_ (bR (ao (af 1) ay)) (az 7) (aD (aN 8 (bA 1 [6] (dX (af 3)) (az 0) (aV (g2 (fu false) (af 1) (af 0))) (af 0)))
 (aD (aX (aV (g2 (dO true) (gN jt (ao (af 8) ay)) (gC (.int 1)))) (aP (gC (.bl false))) bF)
 (aX (bD (aV (gN (aF 5 K83.j6) (ao (af 2) (ao (af 6) (ao (af 7) (ao (g2 (fu false) (af 7) (g2 br (af 8) (gC (.int 0)))) (ao (af 5) ay)))))))) (aP (gC (.bl false))) bF)))))
 (aP (gC (.bl true)))))))))))
def uO (as:List S):M R:=fin (Mf (aH Pa as))
end K83
namespace K83
open PySem PySem.Spec PyProof.Rows L2 DL DX
structure eu (w:S9) (K:R_) (mg:Str->Option Sa):Prop where
 all:mg "all"=none
 any:mg "any"=none
 bool:mg "bool"=none
 int:mg "int"=none
 isinstance:mg "isinstance"=none
 len:mg "len"=none
 list:mg "list"=none
 range:mg "range"=none
 set:mg "set"=none
 sorted:mg "sorted"=none
 tuple:mg "tuple"=none
 MOST_DEPTH:Cf K mg "MOST_DEPTH" (.int 6)
 MOST_SMALL:Cf K mg "MOST_SMALL" (.int 4)
 fv_answered_still:Gv K mg "answered_still"
section
variable {P:Sy}{w:S9}{K:R_}{mg:Str->Option Sa}{base:Ui}{f:Sq}{fd:SY}
abbrev qH:Vu:=top 6
theorem Dz:bg ["thing"] ["thing"] (aI qH):=⟨rfl,rfl,rfl,by decide +kernel,rfl,by decide +kernel,by decide +kernel⟩
theorem AV (m:eu w K mg) (F:cZ K "is_whole" "is_whole" qH f fd) (hm:mg "is_whole"=some (.ref f)):bB P w K mg base 1 1 "is_whole" K01.pU:=
 have sc:=Dz
 bE (k:=0) (gB:=K01.wC) F hm sc (λ_ _ _ _ _ _ us hl=>match us,hl with | [_],_=>rfl) (λcdv A outer s H E J T hr=>
 (aC (aT (lg (iA BE v_ m.int (aa 0) m.isinstance) (jW (vI (iA zC tX m.bool (aa 0) m.isinstance))))))) (λas r _ h=>h)
abbrev pK:Vu:=top 7
theorem A7:bg ["world","many","marks","arrows"] ["world"] (aI pK):=⟨rfl,rfl,rfl,by decide +kernel,rfl,by decide +kernel,by decide +kernel⟩
theorem yU (m:eu w K mg) (F:cZ K "tongue_of" "tongue_of" pK f fd) (hm:mg "tongue_of"=some (.ref f)):bB P w K mg base 1 1 "tongue_of" K23.jk:=
 have sc:=A7
 bE (k:=0) (gB:=K23.ue) F hm sc (λ_ _ _ _ _ _ us hl=>match us,hl with | [_],_=>rfl) (λcdv A outer s H E J T hr=>
 (av (zS (aa 0) (fJ (bG (aB 1 sc.nd) (bG (aB 2 sc.nd) (bG (aB 3 sc.nd) fc)))))
 (aC (aT (bw (aE (cJ (ak (bN ["name","points"] [] (bY (aa 2)) (λ_ _ _ _ _ hc=>⟨(fJ (bG (aB 0 (bS rfl)) (bG (aB 1 (bS rfl)) fc))),bz,(aa 0)⟩)) aq) m.tuple) (aE (cJ (ak (bN ["name","pairs"] [] (bY (aa 3)) (λ_ _ _ _ _ hc=>⟨(fJ (bG (aB 0 (bS rfl)) (bG (aB 1 (bS rfl)) fc))),bz,(aa 0)⟩)) aq) m.tuple) aS))))))) (λas r _ h=>h)
abbrev l_:Vu:=top 8
theorem xS:bg ["one","other"] ["one","other"] (aI l_):=⟨rfl,rfl,rfl,by decide +kernel,rfl,by decide +kernel,by decide +kernel⟩
theorem vd (m:eu w K mg) (htongue_of:bB P w K mg base 1 1 "tongue_of" K23.jk) (F:cZ K "need_tongue" "need_tongue" l_ f fd) (hm:mg "need_tongue"=some (.ref f)):bB P w K mg base 2 2 "need_tongue" K23.jj:=
 have sc:=xS
 bE (k:=1) (gB:=K23.qo) F hm sc (λ_ _ _ _ _ _ us hl=>match us,hl with | [_,_],_=>rfl) (λcdv A outer s H E J T hr=>
 (aC (b8 (ku hr.units (aY htongue_of hr (ak (aa 0) aq)) (aY htongue_of hr (ak (aa 1) aq))) (aC o8) bQ))) (λas r _ h=>h)
abbrev iZ:Vu:=top 11
theorem rH:bg ["worlds","world"] ["worlds"] (aI iZ):=⟨rfl,rfl,rfl,by decide +kernel,rfl,by decide +kernel,by decide +kernel⟩
theorem p_ (m:eu w K mg) (F:cZ K "need_few_points" "need_few_points" iZ f fd) (hm:mg "need_few_points"=some (.ref f)):bB P w K mg base 1 1 "need_few_points" K23.gA:=
 have sc:=rH
 bE (k:=0) (gB:=K23.lM) F hm sc (λ_ _ _ _ _ _ us hl=>match us,hl with | [_],_=>rfl) (λcdv A outer s H E J T hr=>
 (aC (bX (gc (aa 0)) (aB 1 sc.nd) (aC (b8 (kZ yg (iQ λ_ _ _=>.bl _) (aO (aa 1) aA) (mR m.MOST_SMALL)) (aC o8) bQ))))) (λas r _ h=>h)
abbrev nA:Vu:=top 12
theorem Ai:bg ["one","other"] ["one","other"] (aI nA):=⟨rfl,rfl,rfl,by decide +kernel,rfl,by decide +kernel,by decide +kernel⟩
theorem xH (m:eu w K mg) (hneed_tongue:bB P w K mg base 2 2 "need_tongue" K23.jj) (hneed_few_points:bB P w K mg base 1 1 "need_few_points" K23.gA) (F:cZ K "need_small" "need_small" nA f fd) (hm:mg "need_small"=some (.ref f)):bB P w K mg base 3 2 "need_small" K23.d_:=
 have sc:=Ai
 bE (k:=2) (gB:=K23.rV) F hm sc (λ_ _ _ _ _ _ us hl=>match us,hl with | [_,_],_=>rfl) (λcdv A outer s H E J T hr=>
 (av (gz (aY hneed_tongue hr (ak (aa 0) (ak (aa 1) aq))))
 (aC (gz (aY hneed_few_points hr (ak (bw (aE (aa 0) (aE (aa 1) aS))) aq)))))) (λas r _ h=>h)
abbrev ny:Vu:=top 13
theorem Ah:bg ["told","least","most"] ["told","least","most"] (aI ny):=⟨rfl,rfl,rfl,by decide +kernel,rfl,by decide +kernel,by decide +kernel⟩
theorem xG (m:eu w K mg) (his_whole:bB P w K mg base 1 1 "is_whole" K01.pU) (F:cZ K "need_count" "need_count" ny f fd) (hm:mg "need_count"=some (.ref f)):bB P w K mg base 2 3 "need_count" K55.fY:=
 have sc:=Ah
 bE (k:=1) (gB:=K55.rT) F hm sc (λ_ _ _ _ _ _ us hl=>match us,hl with | [_,_,_],_=>rfl) (λcdv A outer s H E J T hr=>
 (aC (b8 (gU (lR (gV (eV (aY his_whole hr (ak (aa 0) aq)))) (lR (kZ Dl (iQ λ_ _ _=>.bl _) (aa 0) (aa 1)) (k_ (kZ yg (iQ λ_ _ _=>.bl _) (aa 0) (aa 2)))))) (aC o8) bQ))) (λas r _ h=>h)
abbrev vO:Vu:=top 15
theorem Im:bg ["pairs"] ["pairs"] (aI vO):=⟨rfl,rfl,rfl,by decide +kernel,rfl,by decide +kernel,by decide +kernel⟩
theorem Em (m:eu w K mg) (F:cZ K "rising" "rising" vO f fd) (hm:mg "rising"=some (.ref f)):bB P w K mg base 1 1 "rising" K23.iw:=
 have sc:=Im
 bE (k:=0) (gB:=K23.BA) F hm sc (λ_ _ _ _ _ _ us hl=>match us,hl with | [_],_=>rfl) (λcdv A outer s H E J T hr=>
 (av (b8 (FE (aa 0) iB) (aC (aT (bw aS))) bQ)
 (aC (aT (cJ (ak (FI hr.units (ak (aa 0) aq) m.sorted m.set) aq) m.tuple))))) (λas r _ h=>h)
abbrev DJ:Vu:=top 16
theorem Nz:bg ["world","one","other","many","marks","arrows","bearing","leading"] ["world","one","other"] (aI DJ):=⟨rfl,rfl,rfl,by decide +kernel,rfl,by decide +kernel,by decide +kernel⟩
theorem JJ (m:eu w K mg) (F:cZ K "view" "view" DJ f fd) (hm:mg "view"=some (.ref f)):bB P w K mg base 1 3 "view" K23.xX:=
 have sc:=Nz
 bE (k:=0) (gB:=K23.IZ) F hm sc (λ_ _ _ _ _ _ us hl=>match us,hl with | [_,_,_],_=>rfl) (λcdv A outer s H E J T hr=>
 (av (zS (aa 0) (fJ (bG (aB 3 sc.nd) (bG (aB 4 sc.nd) (bG (aB 5 sc.nd) fc)))))
 (av (aQ 6 sc.nd (cJ (ak (bN ["name","points"] [1] (bY (aa 4)) (λ_ _ _ _ _ hc=>⟨(fJ (bG (aB 0 (bS rfl)) (bG (aB 1 (bS rfl)) fc))),bz,(jz hr.units (aa 2) (aa 1))⟩)) aq) m.tuple))
 (av (aQ 7 sc.nd (cJ (ak (bN ["name","pairs"] [1,2] (bY (aa 5)) (λ_ _ _ _ _ hc=>⟨(fJ (bG (aB 0 (bS rfl)) (bG (aB 1 (bS rfl)) fc))),bz,(jz hr.units (bw (aE (aa 2) (aE (aa 3) aS))) (aa 1))⟩)) aq) m.tuple))
 (aC (aT (bw (aE (qB hr.units (aa 1) (aa 2)) (aE (aa 6) (aE (aa 7) aS)))))))))) (λas r _ h=>h)
abbrev Aw:Vu:=top 17
theorem Lf:bg ["world"] ["world"] (aI Aw):=⟨rfl,rfl,rfl,by decide +kernel,rfl,by decide +kernel,by decide +kernel⟩
theorem GH (m:eu w K mg) (Rc:bB P w K mg base 1 3 "view" K23.xX) (F:cZ K "views" "views" Aw f fd) (hm:mg "views"=some (.ref f)):bB P w K mg base 2 1 "views" K23.pV:=
 have sc:=Lf
 bE (k:=1) (gB:=K23.EJ) F hm sc (λ_ _ _ _ _ _ us hl=>match us,hl with | [_],_=>rfl) (λcdv A outer s H E J T hr=>
 (aC (aT (uy hr.units ["one","other"] [0] (fH (bf (ak (aO (aa 0) aA) aq) m.range)) (λ_ _ _ _ _ hc=>⟨(aB 0 (bS rfl)),bz,(bf (ak (aO (aa 2) aA) aq) m.range),(aB 1 (bS rfl)),bz,(bw (aE (aa 0) (aE (aa 1) aS))),(aY Rc hr (ak (aa 2) (ak (aa 0) (ak (aa 1) aq))))⟩))))) (λas r _ h=>h)
abbrev Aa:Vu:=top 18
theorem Le:bg ["first","second","pair","again"] ["first","second","pair","again"] (aI Aa):=⟨rfl,rfl,rfl,by decide +kernel,rfl,by decide +kernel,by decide +kernel⟩
theorem GF (m:eu w K mg) (F:cZ K "agree" "agree" Aa f fd) (hm:mg "agree"=some (.ref f)):bB P w K mg base 1 4 "agree" K23.fP:=
 have sc:=Le
 bE (k:=0) (gB:=K23.EH) F hm sc (λ_ _ _ _ _ _ us hl=>match us,hl with | [_,_,_,_],_=>rfl) (λcdv A outer s H E J T hr=>
 (aC (aT (qB hr.units (gW hr.units (aa 0) (bw (aE (aO (aa 2) aA) (aE (aO (aa 3) aA) aS)))) (gW hr.units (aa 1) (bw (aE (aO (aa 2) aA) (aE (aO (aa 3) aA) aS)))))))) (λas r _ h=>h)
abbrev lY:Vu:=top 19
theorem xR:bg ["first","second","pairing","pair","again"] ["first","second","pairing","pair"] (aI lY):=⟨rfl,rfl,rfl,by decide +kernel,rfl,by decide +kernel,by decide +kernel⟩
theorem vc (m:eu w K mg) (QA:bB P w K mg base 1 4 "agree" K23.fP) (F:cZ K "goes_behind" "goes_behind" lY f fd) (hm:mg "goes_behind"=some (.ref f)):bB P w K mg base 2 4 "goes_behind" K23.ji:=
 have sc:=xR
 bE (k:=1) (gB:=K23.qm) F hm sc (λ_ _ _ _ _ _ us hl=>match us,hl with | [_,_,_,_],_=>rfl) (λcdv A outer s H E J T hr=>
 (av (b8 (gU (rz (vH (aa 2)) (o7 (K4 hr.units (aa 3) (aO (aa 2) (K6 aA)))))) (aC (aT fU)) bQ)
 (av (bX (gc (aa 2)) (aB 4 sc.nd) (aC (b8 (gU (lR (gV (eV (aY QA hr (ak (aa 0) (ak (aa 1) (ak (aa 3) (ak (aa 4) aq))))))) (k_ (gV (eV (aY QA hr (ak (aa 0) (ak (aa 1) (ak (aa 4) (ak (aa 3) aq)))))))))) (aC (aT fU)) bQ)))
 (aC (aT fU))))) (λas r _ h=>h)
abbrev qN:Vu:=top 20
theorem DB:bg ["one","other","most","first","second","pairs","longest","told","step"] ["one","other","most"] (aI qN):=⟨rfl,rfl,rfl,by decide +kernel,rfl,by decide +kernel,by decide +kernel⟩
theorem AZ (m:eu w K mg) (hneed_small:bB P w K mg base 3 2 "need_small" K23.d_) (hneed_count:bB P w K mg base 2 3 "need_count" K55.fY) (QO:bB P w K mg base 2 1 "views" K23.pV) (QA:bB P w K mg base 1 4 "agree" K23.fP) (hgoes_behind:bB P w K mg base 2 4 "goes_behind" K23.ji) (F:cZ K "pairings" "pairings" qN f fd) (hm:mg "pairings"=some (.ref f)):bB P w K mg base 4 3 "pairings" K23.i8:=
 have sc:=DB
 bE (k:=3) (gB:=K23.wF) F hm sc (λ_ _ _ _ _ _ us hl=>match us,hl with | [_,_,_],_=>rfl) (λcdv A outer s H E J T hr=>
 (av (gz (aY hneed_small hr (ak (aa 0) (ak (aa 1) aq))))
 (av (gz (aY hneed_count hr (ak (aa 2) (ak aA (ak (mR m.MOST_SMALL) aq)))))
 (av (aQ 3 sc.nd (aY QO hr (ak (aa 0) aq)))
 (av (aQ 4 sc.nd (aY QO hr (ak (aa 1) aq)))
 (av (aQ 5 sc.nd (Du ["a","b"] [1,3,4] (fH (bf (ak (aO (aa 0) aA) aq) m.range)) (λ_ _ _ _ _ hc=>⟨(aB 0 (bS rfl)),bz,(bf (ak (aO (aa 2) aA) aq) m.range),(aB 1 (bS rfl)),(dU (eV (aY QA hr (ak (aa 3) (ak (aa 4) (ak (bw (aE (aa 0) (aE (aa 1) aS))) (ak (bw (aE (aa 0) (aE (aa 1) aS))) aq))))))),(bw (aE (aa 0) (aE (aa 1) aS)))⟩)))
 (av (jV 5 (aQ 6 sc.nd (fE (aE (bw aS) aS))))
 (av (aQ 7 sc.nd (fE (aE (bw aS) aS)))
 (av (bX (bf (ak (aa 2) aq) m.range) (aB 8 sc.nd) (av (jV 5 (Ds 6 ["ahead","pair"] [5,3,4] sc.nd (bY (aa 6)) (λ_ _ _ _ _ hc=>⟨(aB 0 (bS rfl)),bz,(gc (aa 2)),(aB 1 (bS rfl)),(dU (eV (aY hgoes_behind hr (ak (aa 3) (ak (aa 4) (ak (aa 0) (ak (aa 1) aq))))))),(sV (aa 0) (bw (aE (aa 1) aS)))⟩)))
 (aC (r6 7 (aa 6)))))
 (aC (aT (aa 7)))))))))))) (λas r _ h=>h)
abbrev z_:Vu:=top 23
theorem Ld:bg ["pairing","pair"] ["pairing","pair"] (aI z_):=⟨rfl,rfl,rfl,by decide +kernel,rfl,by decide +kernel,by decide +kernel⟩
theorem GD (m:eu w K mg) (QE:bB P w K mg base 1 1 "rising" K23.iw) (F:cZ K "added" "added" z_ f fd) (hm:mg "added"=some (.ref f)):bB P w K mg base 2 2 "added" K33.pT:=
 have sc:=Ld
 bE (k:=1) (gB:=K33.EG) F hm sc (λ_ _ _ _ _ _ us hl=>match us,hl with | [_,_],_=>rfl) (λcdv A outer s H E J T hr=>
 (aC (aT (aY QE hr (ak (sV (aa 0) (bw (aE (aa 1) aS))) aq))))) (λas r _ h=>h)
abbrev nB:Vu:=top 24
theorem Aj:bg ["one","other","side","point"] ["one","other","side","point"] (aI nB):=⟨rfl,rfl,rfl,by decide +kernel,rfl,by decide +kernel,by decide +kernel⟩
theorem xJ (m:eu w K mg) (F:cZ K "pairs_with" "pairs_with" nB f fd) (hm:mg "pairs_with"=some (.ref f)):bB P w K mg base 1 4 "pairs_with" K33.gQ:=
 have sc:=Aj
 bE (k:=0) (gB:=K33.rX) F hm sc (λ_ _ _ _ _ _ us hl=>match us,hl with | [_,_,_,_],_=>rfl) (λcdv A outer s H E J T hr=>
 (av (b8 (iO hr.units (aa 2) aA) (aC (aT (bN ["answer"] [3] (fH (bf (ak (aO (aa 1) aA) aq) m.range)) (λ_ _ _ _ _ hc=>⟨(aB 0 (bS rfl)),bz,(bw (aE (aa 1) (aE (aa 0) aS)))⟩)))) bQ)
 (aC (aT (bN ["answer"] [3] (fH (bf (ak (aO (aa 0) aA) aq) m.range)) (λ_ _ _ _ _ hc=>⟨(aB 0 (bS rfl)),bz,(bw (aE (aa 0) (aE (aa 1) aS)))⟩)))))) (λas r _ h=>h)
abbrev qO:Vu:=top 25
theorem DC:bg ["one","other"] ["one","other"] (aI qO):=⟨rfl,rfl,rfl,by decide +kernel,rfl,by decide +kernel,by decide +kernel⟩
theorem A0 (m:eu w K mg) (F:cZ K "picks_of" "picks_of" qO f fd) (hm:mg "picks_of"=some (.ref f)):bB P w K mg base 1 2 "picks_of" K33.mz:=
 have sc:=DC
 bE (k:=0) (gB:=K33.wG) F hm sc (λ_ _ _ _ _ _ us hl=>match us,hl with | [_,_],_=>rfl) (λcdv A outer s H E J T hr=>
 (aC (aT (dc (bN ["point"] [] (fH (bf (ak (aO (aa 0) aA) aq) m.range)) (λ_ _ _ _ _ hc=>⟨(aB 0 (bS rfl)),bz,(bw (aE aA (aE (aa 0) aS)))⟩)) (bN ["point"] [] (fH (bf (ak (aO (aa 1) aA) aq) m.range)) (λ_ _ _ _ _ hc=>⟨(aB 0 (bS rfl)),bz,(bw (aE aA (aE (aa 0) aS)))⟩)))))) (λas r _ h=>h)
abbrev qL:Vu:=top 26
theorem DA:bg ["one","other","pairing","known","grown"] ["one","other","pairing","known"] (aI qL):=⟨rfl,rfl,rfl,by decide +kernel,rfl,by decide +kernel,by decide +kernel⟩
theorem AY (m:eu w K mg) (hpairs_with:bB P w K mg base 1 4 "pairs_with" K33.gQ) (QZ:bB P w K mg base 2 2 "added" K33.pT) (hpicks_of:bB P w K mg base 1 2 "picks_of" K33.mz) (F:cZ K "outcomes" "outcomes" qL f fd) (hm:mg "outcomes"=some (.ref f)):bB P w K mg base 3 4 "outcomes" K33.mw:=
 have sc:=DA
 bE (k:=2) (gB:=K33.wD) F hm sc (λ_ _ _ _ _ _ us hl=>match us,hl with | [_,_,_,_],_=>rfl) (λcdv A outer s H E J T hr=>
 (av (aQ 4 sc.nd (uy hr.units ["a","pair"] [0,1,2] (fH (bf (ak (aO (aa 0) aA) aq) m.range)) (λ_ _ _ _ _ hc=>⟨(aB 0 (bS rfl)),bz,(gc (aY hpairs_with hr (ak (aa 2) (ak (aa 3) (ak aA (ak (aa 0) aq)))))),(aB 1 (bS rfl)),bz,(aa 1),(aY QZ hr (ak (aa 4) (ak (aa 1) aq)))⟩)))
 (aC (aT (bN ["side","point"] [0,1,4,3] (bY (aY hpicks_of hr (ak (aa 0) (ak (aa 1) aq)))) (λ_ _ _ _ _ hc=>⟨(fJ (bG (aB 0 (bS rfl)) (bG (aB 1 (bS rfl)) fc))),bz,(bN ["pair"] [4,5] (bY (aY hpairs_with hr (ak (aa 2) (ak (aa 3) (ak (aa 0) (ak (aa 1) aq)))))) (λ_ _ _ _ _ hc=>⟨(aB 0 (bS rfl)),(dU (K3 hr.units (gW hr.units (aa 1) (aa 0)) (aa 2))),(gW hr.units (aa 1) (aa 0))⟩) (hcl:=nJ hc rfl))⟩)))))) (λas r _ h=>h)
abbrev jB:Vu:=top 27
theorem sX:bg ["rows","depths"] ["rows","depths"] (aI jB):=⟨rfl,rfl,rfl,by decide +kernel,rfl,by decide +kernel,by decide +kernel⟩
theorem rD (m:eu w K mg) (F:cZ K "answered_still" "answered_still" jB f fd) (hm:mg "answered_still"=some (.ref f)):bB P w K mg base 1 2 "answered_still" K33.fh:=
 have sc:=sX
 bE (k:=0) (gB:=K33.mK) F hm sc (λ_ _ _ _ _ _ us hl=>match us,hl with | [_,_],_=>rfl) (λcdv A outer s H E J T hr=>
 (aC (aT (rA (ak (bN ["row"] [1] (bY (aa 0)) (λ_ _ _ _ _ hc=>⟨(aB 0 (bS rfl)),bz,(BV (ak (bN ["pairing"] [1] (bY (aa 0)) (λ_ _ _ _ _ hc=>⟨(aB 0 (bS rfl)),bz,(zV (gW hr.units (aa 1) (aa 0)) iB)⟩) (hcl:=nJ hc rfl)) aq) m.any)⟩)) aq) m.all)))) (λas r _ h=>h)
abbrev vN:Vu:=top 28
theorem Il:bg ["rows","stays","depths","depth","gone","pairing"] ["rows","stays"] (aI vN):=⟨rfl,rfl,rfl,by decide +kernel,rfl,by decide +kernel,by decide +kernel⟩
theorem El (m:eu w K mg) (hanswered_still:bB P w K mg base 1 2 "answered_still" K33.fh) (F:cZ K "peeled" "peeled" vN f fd) (hm:mg "peeled"=some (.ref f)):bB P w K mg base 2 2 "peeled" K33.nF:=
 have sc:=Il
 bE (k:=1) (gB:=K33.vn) F hm sc (λ_ _ _ _ _ _ us hl=>match us,hl with | [_,_],_=>rfl) (λcdv A outer s H E J T hr=>
 (av (aQ 2 sc.nd (ux hr.units ["pairing"] [] (o_ (aa 0)) (λ_ _ _ _ _ hc=>⟨(aB 0 (bS rfl)),bz,(aa 0),iB⟩)))
 (av (aQ 3 sc.nd aA)
 (av (jd 4 ["pairing"] [1,0,2] sc.nd (o_ (aa 0)) (λ_ _ _ _ _ hc=>⟨(aB 0 (bS rfl)),(dU (gV (eV (zU 1 hanswered_still m.fv_answered_still hr (ak (gW hr.units (aa 2) (aa 0)) (ak (aa 3) aq)) BW)))),(aa 0)⟩))
 (av (Dt 400000 (vH (aa 4)) (av (jV 4 (bX (gc (aa 4)) (aB 5 sc.nd) (aC (HV 2 hr.units (aa 3) (aa 5)))))
 (av (FG 3 sc.nd aA)
 (aC (jd 4 ["pairing"] [2,1,0] sc.nd (o_ (aa 0)) (λ_ _ _ _ _ hc=>⟨(aB 0 (bS rfl)),(dU (gU (rz (FE (gW hr.units (aa 1) (aa 0)) iB) (o7 (gV (eV (zU 2 hanswered_still m.fv_answered_still hr (ak (gW hr.units (aa 3) (aa 0)) (ak (aa 1) aq)) BW))))))),(aa 0)⟩))))))
 (aC (aT (aa 2)))))))) (λas r _ h=>h)
abbrev j3:Vu:=top 29
theorem uE:bg ["one","other","base"] ["one","other","base"] (aI j3):=⟨rfl,rfl,rfl,by decide +kernel,rfl,by decide +kernel,by decide +kernel⟩
theorem sF (m:eu w K mg) (Qy:bB P w K mg base 4 3 "pairings" K23.i8) (F:cZ K "pairings_with" "pairings_with" j3 f fd) (hm:mg "pairings_with"=some (.ref f)):bB P w K mg base 5 3 "pairings_with" K33.iu:=
 have sc:=uE
 bE (k:=4) (gB:=K33.nO) F hm sc (λ_ _ _ _ _ _ us hl=>match us,hl with | [_,_,_],_=>rfl) (λcdv A outer s H E J T hr=>
 (aC (aT (bN ["pairing"] [2] (bY (aY Qy hr (ak (aa 0) (ak (aa 1) (ak (mR m.MOST_SMALL) aq))))) (λ_ _ _ _ _ hc=>⟨(aB 0 (bS rfl)),(dU (eV (rA (ak (bN ["pair"] [0] (bY (aa 1)) (λ_ _ _ _ _ hc=>⟨(aB 0 (bS rfl)),bz,(jz hr.units (aa 0) (aa 1))⟩) (hcl:=nJ hc rfl)) aq) m.all))),(aa 0)⟩))))) (λas r _ h=>h)
abbrev jC:Vu:=top 30
theorem sZ:bg ["one","other","base","known","rows"] ["one","other","base"] (aI jC):=⟨rfl,rfl,rfl,by decide +kernel,rfl,by decide +kernel,by decide +kernel⟩
theorem rE (m:eu w K mg) (hpairings_with:bB P w K mg base 5 3 "pairings_with" K33.iu) (QK:bB P w K mg base 3 4 "outcomes" K33.mw) (QX:bB P w K mg base 2 2 "peeled" K33.nF) (F:cZ K "parting_depths" "parting_depths" jC f fd) (hm:mg "parting_depths"=some (.ref f)):bB P w K mg base 6 3 "parting_depths" K33.gZ:=
 have sc:=sZ
 bE (k:=5) (gB:=K33.mL) F hm sc (λ_ _ _ _ _ _ us hl=>match us,hl with | [_,_,_],_=>rfl) (λcdv A outer s H E J T hr=>
 (av (aQ 3 sc.nd (ux hr.units ["pairing"] [] (bY (aY hpairings_with hr (ak (aa 0) (ak (aa 1) (ak (aa 2) aq))))) (λ_ _ _ _ _ hc=>⟨(aB 0 (bS rfl)),bz,(aa 0),fU⟩)))
 (av (Dr 4 hr.units ["pairing"] [0,1,3] sc.nd (o_ (aa 3)) (λ_ _ _ _ _ hc=>⟨(aB 0 (bS rfl)),bz,(aa 0),(aY QK hr (ak (aa 1) (ak (aa 2) (ak (aa 0) (ak (aa 3) aq)))))⟩))
 (aC (aT (HX QX m.fv_answered_still hr (aa 4))))))) (λas r _ h=>h)
abbrev qG:Vu:=top 31
theorem Dy:bg ["depths","pairing","depth"] ["depths","pairing","depth"] (aI qG):=⟨rfl,rfl,rfl,by decide +kernel,rfl,by decide +kernel,by decide +kernel⟩
theorem AU (m:eu w K mg) (F:cZ K "in_layer" "in_layer" qG f fd) (hm:mg "in_layer"=some (.ref f)):bB P w K mg base 1 3 "in_layer" K33.mq:=
 have sc:=Dy
 bE (k:=0) (gB:=K33.wB) F hm sc (λ_ _ _ _ _ _ us hl=>match us,hl with | [_,_,_],_=>rfl) (λcdv A outer s H E J T hr=>
 (aC (aT (lg (K5 hr.units (aa 1) (aa 0)) (jW (Nk (zV (gW hr.units (aa 0) (aa 1)) iB) (jW (Nj (gW hr.units (aa 0) (aa 1)) (aa 2))))))))) (λas r _ h=>h)
abbrev pC:Vu:=top 33
theorem A6:bg ["things","told","thing"] ["things"] (aI pC):=⟨rfl,rfl,rfl,by decide +kernel,rfl,by decide +kernel,by decide +kernel⟩
theorem yO (m:eu w K mg) (F:cZ K "each_once" "each_once" pC f fd) (hm:mg "each_once"=some (.ref f)):bB P w K mg base 1 1 "each_once" K81.fQ:=
 have sc:=A6
 bE (k:=0) (gB:=K81.ud) F hm sc (λ_ _ _ _ _ _ us hl=>match us,hl with | [_],_=>rfl) (λcdv A outer s H E J T hr=>
 (av (aQ 1 sc.nd (fE aS))
 (av (bX (gc (aa 0)) (aB 2 sc.nd) (aC (b8 (wO hr.units (aa 2) (aa 1)) (aC (fC 1 (aa 2))) bQ)))
 (aC (aT (aa 1)))))) (λas r _ h=>h)
abbrev ie:Vu:=top 35
theorem FU:bg ["one","other","pairs","many","wanted","pairing"] ["one","other","pairs"] (aI ie):=⟨rfl,rfl,rfl,by decide +kernel,rfl,by decide +kernel,by decide +kernel⟩
theorem CN (m:eu w K mg) (hneed_small:bB P w K mg base 3 2 "need_small" K23.d_) (QE:bB P w K mg base 1 1 "rising" K23.iw) (Qy:bB P w K mg base 4 3 "pairings" K23.i8) (F:om K "turning" "turning" ie f fd):gp P w K mg base (vR P w) 5 f fd ["one","other","pairs"] (As K 3 K23.eU):=
 have sc:=FU
 JW (k:=4) (gB:=K23.zk) F sc (λcdv A outer s H E J hr=>p5.h (
 (av (gz (aY hneed_small hr (ak (aa 0) (ak (aa 1) aq))))
 (av (aQ 3 sc.nd (aO (aa 0) aA))
 (av (b8 (ku hr.units (aO (aa 1) aA) (aa 3)) (aC (aT iB)) bQ)
 (av (aQ 4 sc.nd (aY QE hr (ak (aa 2) aq)))
 (av (bX (gc (aY Qy hr (ak (aa 0) (ak (aa 1) (ak (aa 3) aq))))) (aB 5 sc.nd) (aC (b8 (gU (rz (iO hr.units (jX (ak (aa 5) aq) m.len) (aa 3)) (o7 (eV (rA (ak (bN ["pair"] [5] (bY (aa 4)) (λ_ _ _ _ _ hc=>⟨(aB 0 (bS rfl)),bz,(jz hr.units (aa 0) (aa 1))⟩)) aq) m.all))))) (aC (aT (cJ (ak (bN ["a","b"] [] (bY (aa 5)) (λ_ _ _ _ _ hc=>⟨(fJ (bG (aB 0 (bS rfl)) (bG (aB 1 (bS rfl)) fc))),bz,(aa 1)⟩)) aq) m.tuple))) bQ)))
 (aC (aT iB))))))))) (λ_ _ _=>rfl)
theorem CI (G:gp P w K mg base (vR P w) 5 f fd ["one","other","pairs"] (As K 3 K23.eU)) (F:om K "turning" "turning" ie f fd) (hm:mg "turning"=some (.ref f)):Cc P w K mg base 5 3 "turning" K23.eU:=⟨f,fd,["one","other","pairs"],G,hm,F.kp,F.bindsAll (λT kV doc pm an cdv ct us hl=>match us,hl with | [_,_,_],_=>⟨_,rfl,rfl⟩)⟩
theorem AS (G:gp P w K mg base (vR P w) 5 f fd ["one","other","pairs"] (As K 3 K23.eU)) (F:om K "turning" "turning" ie f fd) (hm:mg "turning"=some (.ref f)):O5 P w K mg base 5 2 "turning" K23.eU:=⟨f,fd,["one","other","pairs"],G,hm,F.kp,F.bindsOne (λT kV doc pm an cdv ct us hl=>match us,hl with | [_,_],_=>⟨_,rfl,rfl⟩)⟩
abbrev sY:Vu:=top 37
theorem FQ:bg ["world","depth","depths","points"] ["world","depth"] (aI sY):=⟨rfl,rfl,rfl,by decide +kernel,rfl,by decide +kernel,by decide +kernel⟩
theorem CG (m:eu w K mg) (hneed_small:bB P w K mg base 3 2 "need_small" K23.d_) (hneed_count:bB P w K mg base 2 3 "need_count" K55.fY) (hparting_depths:bB P w K mg base 6 3 "parting_depths" K33.gZ) (hin_layer:bB P w K mg base 1 3 "in_layer" K33.mq) (heach_once:bB P w K mg base 1 1 "each_once" K81.fQ) (F:cZ K "classes" "classes" sY f fd) (hm:mg "classes"=some (.ref f)):bB P w K mg base 7 2 "classes" K81.lC:=
 have sc:=FQ
 bE (k:=6) (gB:=K81.zj) F hm sc (λ_ _ _ _ _ _ us hl=>match us,hl with | [_,_],_=>rfl) (λcdv A outer s H E J T hr=>
 (av (gz (aY hneed_small hr (ak (aa 0) (ak (aa 0) aq))))
 (av (gz (aY hneed_count hr (ak (aa 1) (ak aA (ak (mR m.MOST_DEPTH) aq)))))
 (av (aQ 2 sc.nd (aY hparting_depths hr (ak (aa 0) (ak (aa 0) (ak (bw aS) aq)))))
 (av (aQ 3 sc.nd (o9 (ak (aO (aa 0) aA) aq) m.range m.list))
 (aC (aT (aY heach_once hr (ak (bN ["a"] [3,2,1] (bY (aa 3)) (λ_ _ _ _ _ hc=>⟨(aB 0 (bS rfl)),bz,(cJ (ak (bN ["b"] [2,0,3] (bY (aa 1)) (λ_ _ _ _ _ hc=>⟨(aB 0 (bS rfl)),(dU (eV (aY hin_layer hr (ak (aa 1) (ak (bw (aE (bw (aE (aa 2) (aE (aa 0) aS))) aS)) (ak (aa 3) aq)))))),(aa 0)⟩) (hcl:=nJ hc rfl)) aq) m.tuple)⟩)) aq))))))))) (λas r _ h=>h)
abbrev vM:Vu:=top 38
theorem Ik:bg ["world","points"] ["world"] (aI vM):=⟨rfl,rfl,rfl,by decide +kernel,rfl,by decide +kernel,by decide +kernel⟩
theorem Ek (m:eu w K mg) (hneed_small:bB P w K mg base 3 2 "need_small" K23.d_) (Qz:Cc P w K mg base 5 3 "turning" K23.eU) (heach_once:bB P w K mg base 1 1 "each_once" K81.fQ) (F:cZ K "orbits" "orbits" vM f fd) (hm:mg "orbits"=some (.ref f)):bB P w K mg base 6 1 "orbits" K83.qT:=
 have sc:=Ik
 bE (k:=5) (gB:=K83.By) F hm sc (λ_ _ _ _ _ _ us hl=>match us,hl with | [_],_=>rfl) (λcdv A outer s H E J T hr=>
 (av (gz (aY hneed_small hr (ak (aa 0) (ak (aa 0) aq))))
 (av (aQ 1 sc.nd (o9 (ak (aO (aa 0) aA) aq) m.range m.list))
 (aC (aT (aY heach_once hr (ak (bN ["a"] [1,0] (bY (aa 1)) (λ_ _ _ _ _ hc=>⟨(aB 0 (bS rfl)),bz,(cJ (ak (bN ["b"] [2,0] (bY (aa 1)) (λ_ _ _ _ _ hc=>⟨(aB 0 (bS rfl)),(dU (FF (zT Qz hr (ak (aa 1) (ak (aa 1) (ak (bw (aE (bw (aE (aa 2) (aE (aa 0) aS))) aS)) aq)))) iB)),(aa 0)⟩) (hcl:=nJ hc rfl)) aq) m.tuple)⟩)) aq))))))) (λas r _ h=>h)
abbrev pq:Vu:=top 40
theorem A3:bg ["_law_script","_law_k"] ["_law_script","_law_k"] (aI pq):=⟨rfl,rfl,rfl,by decide +kernel,rfl,by decide +kernel,by decide +kernel⟩
theorem yL (m:eu w K mg) (F:cZ K "_law_cell" "_law_cell" pq f fd) (hm:mg "_law_cell"=some (.ref f)):bB P w K mg base 1 2 "_law_cell" K01.dh:=
 have sc:=A3
 bE (k:=0) (gB:=K01.oN) F hm sc (λ_ _ _ _ _ _ us hl=>match us,hl with | [_,_],_=>rfl) (λcdv A outer s H E J T hr=>
 (av (b8 (kZ Dl (iQ λ_ _ _=>.bl _) (aa 1) (jX (ak (aa 0) aq) m.len)) (aC (aT (b9 (aO (aa 0) (aa 1)) (vJ aA aA)))) bQ)
 (aC (aT aA)))) (λas r _ h=>h)
abbrev nk:Vu:=top 41
theorem Ac:bg ["_law_cell_here","_law_many","_law_number","_law_base","_law_size","_law_words","_law_first","_law_signs","_law_at","_law_found","_law_k","_law_sign"] ["_law_cell_here","_law_many"] (aI nk):=⟨rfl,rfl,rfl,by decide +kernel,rfl,by decide +kernel,by decide +kernel⟩
theorem xy (m:eu w K mg) (F:cZ K "_law_names" "_law_names" nk f fd) (hm:mg "_law_names"=some (.ref f)):bB P w K mg base 1 2 "_law_names" K01.fX:=
 have sc:=Ac
 bE (k:=0) (gB:=K01.ng) F hm sc (λ_ _ _ _ _ _ us hl=>match us,hl with | [_,_],_=>rfl) (λcdv A outer s H E J T hr=>
 (av (aQ 2 sc.nd (b9 (fD (aa 0) aA) aA))
 (av (aQ 3 sc.nd (aO gr (b9 (aa 2) aA)))
 (av (aQ 4 sc.nd (dc aA (b9 (fk (aa 2) aA) aA)))
 (av (b8 (iO hr.units (b9 (fk (aa 2) aA) aA) aA) (aC (aT (bN ["_law_k"] [3] (fH (bf (ak (aa 1) aq) m.range)) (λ_ _ _ _ _ hc=>⟨(aB 0 (bS rfl)),bz,(fD (aa 1) (dc aA (aa 0)))⟩)))) bQ)
 (av (b8 (iO hr.units (b9 (fk (aa 2) aA) aA) aA) (av (aQ 5 sc.nd (fE (aE gr (aE gr (aE gr (aE gr (aE gr (aE gr (aE gr (aE gr aS))))))))))
 (av (aQ 6 sc.nd (b9 (fk (aa 2) aA) aA))
 (av (aQ 7 sc.nd gr)
 (aC (aT (uz (ak (bN ["_law_k"] [5,6,7,2] (fH (bf (ak (aa 1) aq) m.range)) (λ_ _ _ _ _ hc=>⟨(aB 0 (bS rfl)),bz,(dc (aO (dc (aa 1) (aa 1)) (dc (aa 2) (aa 0))) (aO (aa 3) (b9 (fk (aa 4) aA) aA)))⟩)) aq) m.sorted)))))) bQ)
 (av (aQ 8 sc.nd (b9 (fk (aa 2) aA) (aa 4)))
 (av (aQ 9 sc.nd (fE aS))
 (av (bX (bf (ak (aa 1) aq) m.range) (aB 10 sc.nd) (av (aQ 11 sc.nd (aO gr (b9 (dc (fk (aa 2) aA) (fD aA (aa 10))) aA)))
 (aC (fC 9 (dc (dc (fD (aa 3) (aa 8)) (aa 11)) (fD (aa 3) (nZ (nZ (aa 4) aA) (aa 8))))))))
 (aC (aT (uz (ak (aa 9) aq) m.sorted)))))))))))) (λas r _ h=>h)
abbrev pB:Vu:=top 42
theorem A5:bg ["_law_bits","_law_many","_law_found","_law_point"] ["_law_bits","_law_many"] (aI pB):=⟨rfl,rfl,rfl,by decide +kernel,rfl,by decide +kernel,by decide +kernel⟩
theorem yN (m:eu w K mg) (F:cZ K "_law_some" "_law_some" pB f fd) (hm:mg "_law_some"=some (.ref f)):bB P w K mg base 1 2 "_law_some" K01.ir:=
 have sc:=A5
 bE (k:=0) (gB:=K01.oO) F hm sc (λ_ _ _ _ _ _ us hl=>match us,hl with | [_,_],_=>rfl) (λcdv A outer s H E J T hr=>
 (av (aQ 2 sc.nd (fE aS))
 (av (bX (bf (ak (aa 1) aq) m.range) (aB 3 sc.nd) (av (b8 (iO hr.units (b9 (aa 0) aA) aA) (aC (fC 2 (aa 3))) bQ)
 (aC (aQ 0 sc.nd (fk (aa 0) aA)))))
 (aC (aT (cJ (ak (aa 2) aq) m.tuple)))))) (λas r _ h=>h)
abbrev nq:Vu:=top 43
theorem Ad:bg ["_law_bits","_law_many","_law_found","_law_one","_law_other"] ["_law_bits","_law_many"] (aI nq):=⟨rfl,rfl,rfl,by decide +kernel,rfl,by decide +kernel,by decide +kernel⟩
theorem xA (m:eu w K mg) (F:cZ K "_law_pairs" "_law_pairs" nq f fd) (hm:mg "_law_pairs"=some (.ref f)):bB P w K mg base 1 2 "_law_pairs" K01.gO:=
 have sc:=Ad
 bE (k:=0) (gB:=K01.nh) F hm sc (λ_ _ _ _ _ _ us hl=>match us,hl with | [_,_],_=>rfl) (λcdv A outer s H E J T hr=>
 (av (aQ 2 sc.nd (fE aS))
 (av (bX (bf (ak (aa 1) aq) m.range) (aB 3 sc.nd) (aC (bX (bf (ak (aa 1) aq) m.range) (aB 4 sc.nd) (av (b8 (iO hr.units (b9 (aa 0) aA) aA) (aC (fC 2 (bw (aE (aa 3) (aE (aa 4) aS))))) bQ)
 (aC (aQ 0 sc.nd (fk (aa 0) aA)))))))
 (aC (aT (cJ (ak (aa 2) aq) m.tuple)))))) (λas r _ h=>h)
abbrev lW:Vu:=top 44
theorem xQ:bg ["_law_cell_here","_law_names_here","_law_number","_law_first"] ["_law_cell_here"] (aI lW):=⟨rfl,rfl,rfl,by decide +kernel,rfl,by decide +kernel,by decide +kernel⟩
theorem u_ (m:eu w K mg) (h_law_names:bB P w K mg base 1 2 "_law_names" K01.fX) (F:cZ K "_law_tongue" "_law_tongue" lW f fd) (hm:mg "_law_tongue"=some (.ref f)):bB P w K mg base 2 1 "_law_tongue" K01.g9:=
 have sc:=xQ
 bE (k:=1) (gB:=K01.lK) F hm sc (λ_ _ _ _ _ _ us hl=>match us,hl with | [_],_=>rfl) (λcdv A outer s H E J T hr=>
 (av (aQ 1 sc.nd (aY h_law_names hr (ak (aa 0) (ak aA aq))))
 (av (aQ 2 sc.nd (b9 (fD (aa 0) aA) aA))
 (av (aQ 3 sc.nd (b9 (fk (aa 2) aA) aA))
 (aC (aT (bw (aE (cJ (ak (vK (aa 1) wQ (mU (b9 (aa 2) aA))) aq) m.tuple) (aE (cJ (ak (vK (aa 1) (mU (aa 3)) (mU (dc (aa 3) (b9 (fk (aa 2) aA) aA)))) aq) m.tuple) aS))))))))) (λas r _ h=>h)
abbrev nv:Vu:=top 45
theorem Ag:bg ["_law_script","_law_at","_law_many","_law_tongue_here","_law_marks","_law_k","_law_arrows","_law_bits"] ["_law_script","_law_at","_law_many","_law_tongue_here"] (aI nv):=⟨rfl,rfl,rfl,by decide +kernel,rfl,by decide +kernel,by decide +kernel⟩
theorem xD (m:eu w K mg) (h_law_cell:bB P w K mg base 1 2 "_law_cell" K01.dh) (h_law_some:bB P w K mg base 1 2 "_law_some" K01.ir) (h_law_pairs:bB P w K mg base 1 2 "_law_pairs" K01.gO) (F:cZ K "_law_world" "_law_world" nv f fd) (hm:mg "_law_world"=some (.ref f)):bB P w K mg base 2 4 "_law_world" K01.iL:=
 have sc:=Ag
 bE (k:=1) (gB:=K01.ni) F hm sc (λ_ _ _ _ _ _ us hl=>match us,hl with | [_,_,_,_],_=>rfl) (λcdv A outer s H E J T hr=>
 (av (aQ 4 sc.nd (fE aS))
 (av (bX (bf (ak (jX (ak (aO (aa 3) aA) aq) m.len) aq) m.range) (aB 5 sc.nd) (aC (fC 4 (bw (aE (aO (aO (aa 3) aA) (aa 5)) (aE (aY h_law_some hr (ak (b9 (fD (aY h_law_cell hr (ak (aa 0) (ak (dc (aa 1) (aa 5)) aq))) aA) (vJ aA aA)) (ak (aa 2) aq))) aS))))))
 (av (aQ 6 sc.nd (fE aS))
 (av (bX (bf (ak (jX (ak (aO (aa 3) aA) aq) m.len) aq) m.range) (aB 5 sc.nd) (av (aQ 7 sc.nd (b9 (fD (aY h_law_cell hr (ak (aa 0) (ak (dc (dc (aa 1) aA) (aa 5)) aq))) aA) (vJ aA aA)))
 (aC (fC 6 (bw (aE (aO (aO (aa 3) aA) (aa 5)) (aE (aY h_law_pairs hr (ak (aa 7) (ak (aa 2) aq))) aS)))))))
 (aC (aT (bw (aE (aa 2) (aE (cJ (ak (aa 4) aq) m.tuple) (aE (cJ (ak (aa 6) aq) m.tuple) aS))))))))))) (λas r _ h=>h)
abbrev pA:Vu:=top 46
theorem A4:bg ["_law_number","_law_many","_law_steps","_law_both","_law_found","_law_one","_law_other","_law_far"] ["_law_number","_law_many"] (aI pA):=⟨rfl,rfl,rfl,by decide +kernel,rfl,by decide +kernel,by decide +kernel⟩
theorem yM (m:eu w K mg) (F:cZ K "_law_even" "_law_even" pA f fd) (hm:mg "_law_even"=some (.ref f)):bB P w K mg base 1 2 "_law_even" K81.jg:=
 have sc:=A4
 bE (k:=0) (gB:=K81.uc) F hm sc (λ_ _ _ _ _ _ us hl=>match us,hl with | [_,_],_=>rfl) (λcdv A outer s H E J T hr=>
 (av (jd 2 ["_law_k"] [0] sc.nd (fH (bf (ak (aa 1) aq) m.range)) (λ_ _ _ _ _ hc=>⟨(aB 0 (bS rfl)),(dU (iO hr.units (HW (K7 (aa 1) (aa 0)) aA) aA)),(aa 0)⟩))
 (av (aQ 3 sc.nd (b9 (fk (aa 0) aA) aA))
 (av (aQ 4 sc.nd (fE aS))
 (av (bX (bf (ak (aa 1) aq) m.range) (aB 5 sc.nd) (aC (bX (bf (ak (aa 1) aq) m.range) (aB 6 sc.nd) (av (aQ 7 sc.nd (b9 (nZ (aa 6) (aa 5)) (aa 1)))
 (aC (b8 (gU (lR (zR hr.units (aa 7) (aa 2)) (k_ (gU (rz (iO hr.units (aa 3) aA) (o7 (zR hr.units (b9 (nZ (aa 5) (aa 6)) (aa 1)) (aa 2)))))))) (aC (fC 4 (bw (aE (aa 5) (aE (aa 6) aS))))) bQ))))))
 (aC (aT (cJ (ak (aa 4) aq) m.tuple)))))))) (λas r _ h=>h)
abbrev lV:Vu:=top 47
theorem xP:bg ["_law_script","_law_at","_law_many","_law_tongue_here","_law_world_here","_law_number","_law_arrows","_law_k","_law_pairs_here","_law_marks"] ["_law_script","_law_at","_law_many","_law_tongue_here"] (aI lV):=⟨rfl,rfl,rfl,by decide +kernel,rfl,by decide +kernel,by decide +kernel⟩
theorem u7 (m:eu w K mg) (h_law_world:bB P w K mg base 2 4 "_law_world" K01.iL) (h_law_cell:bB P w K mg base 1 2 "_law_cell" K01.dh) (h_law_even:bB P w K mg base 1 2 "_law_even" K81.jg) (F:cZ K "_law_shaped" "_law_shaped" lV f fd) (hm:mg "_law_shaped"=some (.ref f)):bB P w K mg base 3 4 "_law_shaped" K81.g8:=
 have sc:=xP
 bE (k:=2) (gB:=K81.ql) F hm sc (λ_ _ _ _ _ _ us hl=>match us,hl with | [_,_,_,_],_=>rfl) (λcdv A outer s H E J T hr=>
 (av (aQ 4 sc.nd (aY h_law_world hr (ak (aa 0) (ak (aa 1) (ak (aa 2) (ak (aa 3) aq))))))
 (av (aQ 5 sc.nd (b9 (fD (aY h_law_cell hr (ak (aa 0) (ak (dc (aa 1) aA) aq))) aA) aA))
 (av (aQ 6 sc.nd (fE aS))
 (av (bX (bf (ak (jX (ak (aO (aa 4) aA) aq) m.len) aq) m.range) (aB 7 sc.nd) (av (aQ 8 sc.nd (aO (aO (aO (aa 4) aA) (aa 7)) aA))
 (av (b8 (iO hr.units (b9 (aa 5) aA) aA) (aC (aQ 8 sc.nd (aY h_law_even hr (ak (dc (fk (aa 5) aA) (fD aA (aa 7))) (ak (aa 2) aq))))) bQ)
 (av (b8 (iO hr.units (b9 (aa 5) aA) aA) (aC (aQ 8 sc.nd (cJ (ak (bN ["_law_pair"] [] (bY (aa 8)) (λ_ _ _ _ _ hc=>⟨(aB 0 (bS rfl)),(dU (gU (lR (kZ Dl (iQ λ_ _ _=>.bl _) (aO (aa 0) aA) aA) (k_ (kZ yg (iQ λ_ _ _=>.bl _) (aO (aa 0) aA) aA))))),(aa 0)⟩)) aq) m.tuple))) bQ)
 (aC (fC 6 (bw (aE (aO (aO (aO (aa 4) aA) (aa 7)) aA) (aE (aa 8) aS)))))))))
 (av (jd 9 ["_law_name","_law_points"] [5] sc.nd (bY (aO (aa 4) aA)) (λ_ _ _ _ _ hc=>⟨(fJ (bG (aB 0 (bS rfl)) (bG (aB 1 (bS rfl)) fc))),bz,(bw (aE (aa 0) (aE (vK (aa 1) wQ (mU (b9 (fk (aa 2) aA) aA))) aS)))⟩))
 (aC (aT (bw (aE (aa 2) (aE (cJ (ak (aa 9) aq) m.tuple) (aE (cJ (ak (aa 6) aq) m.tuple) aS)))))))))))) (λas r _ h=>h)
abbrev lU:Vu:=top 48
theorem xO:bg ["_law_many","_law_found","_law_k","_law_more","_law_order"] ["_law_many"] (aI lU):=⟨rfl,rfl,rfl,by decide +kernel,rfl,by decide +kernel,by decide +kernel⟩
theorem u6 (m:eu w K mg) (F:cZ K "_law_orders" "_law_orders" lU f fd) (hm:mg "_law_orders"=some (.ref f)):bB P w K mg base 1 1 "_law_orders" K23.jh:=
 have sc:=xO
 bE (k:=0) (gB:=K23.qi) F hm sc (λ_ _ _ _ _ _ us hl=>match us,hl with | [_],_=>rfl) (λcdv A outer s H E J T hr=>
 (av (jV 3 (aQ 1 sc.nd (fE (aE (bw aS) aS))))
 (av (bX (bf (ak (aa 0) aq) m.range) (aB 2 sc.nd) (av (aQ 3 sc.nd (fE aS))
 (av (jV 1 (bX (gc (aa 1)) (aB 4 sc.nd) (aC (r6 3 (bN ["_law_point"] [4] (fH (bf (ak (aa 0) aq) m.range)) (λ_ _ _ _ _ hc=>⟨(aB 0 (bS rfl)),(dU (wO hr.units (aa 0) (aa 1))),(sV (aa 1) (bw (aE (aa 0) aS)))⟩))))))
 (aC (jV 3 (aQ 1 sc.nd (aa 3)))))))
 (aC (aT (aa 1)))))) (λas r _ h=>h)
abbrev nu:Vu:=top 49
theorem Af:bg ["_law_world_here","_law_order","_law_name","_law_points","_law_point","_law_pairs_here","_law_one","_law_other"] ["_law_world_here","_law_order"] (aI nu):=⟨rfl,rfl,rfl,by decide +kernel,rfl,by decide +kernel,by decide +kernel⟩
theorem xC (m:eu w K mg) (F:cZ K "_law_turns" "_law_turns" nu f fd) (hm:mg "_law_turns"=some (.ref f)):bB P w K mg base 1 2 "_law_turns" K83.gP:=
 have sc:=Af
 bE (k:=0) (gB:=K83.rS) F hm sc (λ_ _ _ _ _ _ us hl=>match us,hl with | [_,_],_=>rfl) (λcdv A outer s H E J T hr=>
 (av (bX (gc (aO (aa 0) aA)) (fJ (bG (aB 2 sc.nd) (bG (aB 3 sc.nd) fc))) (aC (bX (bf (ak (aO (aa 0) aA) aq) m.range) (aB 4 sc.nd) (aC (b8 (ku hr.units (jz hr.units (aa 4) (aa 3)) (jz hr.units (aO (aa 1) (aa 4)) (aa 3))) (aC (aT fU)) bQ)))))
 (av (bX (gc (aO (aa 0) aA)) (fJ (bG (aB 2 sc.nd) (bG (aB 5 sc.nd) fc))) (aC (bX (bf (ak (aO (aa 0) aA) aq) m.range) (aB 6 sc.nd) (aC (bX (bf (ak (aO (aa 0) aA) aq) m.range) (aB 7 sc.nd) (aC (b8 (ku hr.units (jz hr.units (bw (aE (aa 6) (aE (aa 7) aS))) (aa 5)) (jz hr.units (bw (aE (aO (aa 1) (aa 6)) (aE (aO (aa 1) (aa 7)) aS))) (aa 5))) (aC (aT fU)) bQ)))))))
 (aC (aT fU))))) (λas r _ h=>h)
abbrev jY:Vu:=top 50
theorem uD:bg ["_law_found","_law_many"] ["_law_found","_law_many"] (aI jY):=⟨rfl,rfl,rfl,by decide +kernel,rfl,by decide +kernel,by decide +kernel⟩
theorem sE (m:eu w K mg) (F:cZ K "_law_is_order" "_law_is_order" jY f fd) (hm:mg "_law_is_order"=some (.ref f)):bB P w K mg base 1 2 "_law_is_order" K83.ig:=
 have sc:=uD
 bE (k:=0) (gB:=K83.nN) F hm sc (λ_ _ _ _ _ _ us hl=>match us,hl with | [_,_],_=>rfl) (λcdv A outer s H E J T hr=>
 (av (b8 (gU (lR (gV (eV (iA kit_tuple AR m.tuple (aa 0) m.isinstance))) (k_ (ku hr.units (jX (ak (aa 0) aq) m.len) (aa 1))))) (aC (aT fU)) bQ)
 (av (b8 (gV (eV (rA (ak (bN ["_law_point"] [] (bY (aa 0)) (λ_ _ _ _ _ hc=>⟨(aB 0 (bS rfl)),bz,(lg (iA BE v_ m.int (aa 0) m.isinstance) (jW (vI (iA zC tX m.bool (aa 0) m.isinstance))))⟩)) aq) m.all))) (aC (aT fU)) bQ)
 (aC (aT (qB hr.units (FH hr.units (ak (aa 0) aq) m.sorted) (o9 (ak (aa 1) aq) m.range m.list))))))) (λas r _ h=>h)
abbrev nt:Vu:=top 51
theorem Ae:bg ["_law_world_here","_law_one","_law_other","_law_alike","_law_turns_here","_law_found"] ["_law_world_here","_law_one","_law_other","_law_alike","_law_turns_here"] (aI nt):=⟨rfl,rfl,rfl,by decide +kernel,rfl,by decide +kernel,by decide +kernel⟩
theorem xB (m:eu w K mg) (Qz:Cc P w K mg base 5 3 "turning" K23.eU) (h_law_is_order:bB P w K mg base 1 2 "_law_is_order" K83.ig) (h_law_turns:bB P w K mg base 1 2 "_law_turns" K83.gP) (F:cZ K "_law_right" "_law_right" nt f fd) (hm:mg "_law_right"=some (.ref f)):bB P w K mg base 6 5 "_law_right" K83.j6:=
 have sc:=Ae
 bE (k:=5) (gB:=K83.rR) F hm sc (λ_ _ _ _ _ _ us hl=>match us,hl with | [_,_,_,_,_],_=>rfl) (λcdv A outer s H E J T hr=>
 (av (aQ 5 sc.nd (zT Qz hr (ak (aa 0) (ak (aa 0) (ak (bw (aE (bw (aE (aa 1) (aE (aa 2) aS))) aS)) aq)))))
 (av (b8 (gV (vH (aa 3))) (aC (aT (lg (zV (aa 5) iB) (jW (vI (BV (ak (bN ["_law_order"] [1,2] (bY (aa 4)) (λ_ _ _ _ _ hc=>⟨(aB 0 (bS rfl)),bz,(qB hr.units (aO (aa 0) (aa 1)) (aa 2))⟩)) aq) m.any)))))) bQ)
 (aC (aT (lg (aY h_law_is_order hr (ak (aa 5) (ak (aO (aa 0) aA) aq))) (lg (qB hr.units (aO (aa 5) (aa 1)) (aa 2)) (jW (aY h_law_turns hr (ak (aa 0) (ak (aa 5) aq))))))))))) (λas r _ h=>h)
abbrev pH:Vu:=top 52
theorem OC:bg ["_law_script","_law_many","_law_world_here","_law_found","_law_deeper","_law_turns_here","_law_one","_law_other","_law_home"] ["_law_script"] (aI pH):=⟨rfl,rfl,rfl,by decide +kernel,rfl,by decide +kernel,by decide +kernel⟩
theorem Ol (m:eu w K mg) (h_law_cell:bB P w K mg base 1 2 "_law_cell" K01.dh) (h_law_tongue:bB P w K mg base 2 1 "_law_tongue" K01.g9) (h_law_shaped:bB P w K mg base 3 4 "_law_shaped" K81.g8) (QW:bB P w K mg base 6 1 "orbits" K83.qT) (QF:bB P w K mg base 7 2 "classes" K81.lC) (h_law_orders:bB P w K mg base 1 1 "_law_orders" K23.jh) (h_law_turns:bB P w K mg base 1 2 "_law_turns" K83.gP) (h_law_right:bB P w K mg base 6 5 "_law_right" K83.j6) (F:cZ K "law" "law" pH f fd):gp P w K mg base pL 8 f fd ["_law_script"] (qM K 1 K83.uO):=
 have sc:=OC
 K2 (k:=7) (gB:=K83.Mf) F sc (λcdv A outer s H E J T hr=>
 (av (aQ 1 sc.nd (dc aA (b9 (aY h_law_cell hr (ak (aa 0) (ak aA aq))) aA)))
 (av (aQ 2 sc.nd (aY h_law_shaped hr (ak (aa 0) (ak aA (ak (aa 1) (ak (aY h_law_tongue hr (ak (aY h_law_cell hr (ak (aa 0) (ak aA aq))) aq)) aq))))))
 (av (aQ 3 sc.nd (aY QW hr (ak (aa 2) aq)))
 (av (b8 (gV (eV (iA G7 CF m.list (aa 3) m.isinstance))) (aC (aT fU)) bQ)
 (av (aQ 4 sc.nd (dc (aa 1) (b9 (aY h_law_cell hr (ak (aa 0) (ak aA aq))) (nZ aA (aa 1)))))
 (av (b8 (gU (lR (ku hr.units (aY QF hr (ak (aa 2) (ak (aa 1) aq))) (aa 3)) (k_ (ku hr.units (aY QF hr (ak (aa 2) (ak (aa 4) aq))) (aa 3))))) (aC (aT fU)) bQ)
 (av (jd 5 ["_law_order"] [2] sc.nd (bY (aY h_law_orders hr (ak (aa 1) aq))) (λ_ _ _ _ _ hc=>⟨(aB 0 (bS rfl)),(dU (eV (aY h_law_turns hr (ak (aa 1) (ak (aa 0) aq))))),(aa 0)⟩))
 (av (bX (bf (ak (aa 1) aq) m.range) (aB 6 sc.nd) (aC (bX (bf (ak (aa 1) aq) m.range) (aB 7 sc.nd) (av (jd 8 ["_law_part"] [6] sc.nd (bY (aa 3)) (λ_ _ _ _ _ hc=>⟨(aB 0 (bS rfl)),(dU (zR hr.units (aa 1) (aa 0))),(aa 0)⟩))
 (av (b8 (ku hr.units (jX (ak (aa 8) aq) m.len) aA) (aC (aT fU)) bQ)
 (aC (b8 (gV (eV (aY h_law_right hr (ak (aa 2) (ak (aa 6) (ak (aa 7) (ak (jz hr.units (aa 7) (aO (aa 8) aA)) (ak (aa 5) aq)))))))) (aC (aT fU)) bQ)))))))
 (aC (aT fU))))))))))) (λas r _ h=>h)
end
end K83
namespace K83
open PySem DL K01 WP K51 K52 K55 K22 K81
open K23 (Pr gG gH told j5 lO rN bq oD zO eU iw vU yr sM sO nE i6)
open K33 (La pY EU kM jQ jF many cover lN T4)
section
variable {u:Wd}{a b n:Nat}
theorem n8 (t:Pr u u) (hn:u.m<=n):sim u n a b=true↔∃σ,K23.pW u u σ/\(a,b)∈gG σ:=by
 constructor
 ·intro h
  unfold sim at h
  rw [Sk,decide_eq_true_eq] at h
  obtain ⟨qs,i,hs⟩:=EU t ((kM t).mp h.1) hn hn h.2
  have l1:u.m<=qs.length:=many (s:=0) i.a
  have l2:qs.length<=u.m:=lN i.g
  obtain ⟨z,j⟩:=sM rfl i.g (by omega)
  exact ⟨_,j,z▸hs _ (by simp)⟩
 ·rintro ⟨σ,i,hz⟩
  have g:=sO rfl i
  have il:=i.len
  have i':K33.pW u u (gG σ):=⟨g,λx hx=>⟨(x,σ[x]'(by omega)),gH.mpr ⟨by show x < σ.length;omega,rfl⟩,rfl⟩,λx hx=>by
   have:=cover i.nd i.rg (by omega) x hx
   obtain ⟨k,hk,e⟩:=T8.mp this
   exact ⟨(k,x),gH.mpr ⟨hk,e⟩,rfl⟩⟩
  have hs:∀p∈[(a,b)],p∈gG σ:=λp hp=>by rw [So.mp hp];exact hz
  unfold sim
  rw [pY t i' n _ hs,decide_eq_true ((kM t).mpr ((jQ (Ti _ _)).mpr (jF.sub ⟨g.ag,g.rg⟩ hs)))]
  rfl
theorem Ba (t:Pr u u):∃x,eU [.d u.d,.d u.d,.d (bq [(a,b)])]=.ok (.d x)/\((x=.non/\sim u u.m a b=false)\/∃σ,x=oD σ/\sim u u.m a b=true/\K23.pW u u σ/\(a,b)∈gG σ):=by
 obtain ⟨qs,hr,hq,hl⟩:=yr [(a,b)] (by show 1 < 64;decide)
 have e:=vU t rfl (bq [(a,b)]) qs (by simp at hl;omega) hr
 cases f:(told u u u.m).find? (rN u.m qs) with
 | some rs=>
  rw [f] at e
  have h1:=Xx f
  have h2:=aaM f
  unfold rN at h2
  rw [Sk,beq_iff_eq,SK] at h2
  obtain ⟨j,hj,hL⟩:=(j5 u.m).mp h1
  obtain ⟨lj,g⟩:=(lO j).mp hL
  obtain ⟨z,i⟩:=sM rfl g h2.1
  have hz:(a,b)∈gG (rs.map W7):=by
   have:=h2.2 (a,b) ((hq _).mpr (by simp))
   rw [K55.wH,decide_eq_true_eq] at this
   rw [<-z];exact this
  refine ⟨_,e,.inr ⟨rs.map W7,?_,(n8 t (Sl _)).mpr ⟨_,i,hz⟩,i,hz⟩⟩
  show zO rs=oD _
  unfold zO oD
  rw [S6]
  rfl
 | none=>
  rw [f] at e
  refine ⟨_,e,.inl ⟨rfl,?_⟩⟩
  rw [Xu] at f
  refine XM.mpr λh=>?_
  obtain ⟨σ,i,hz⟩:=(n8 t (Sl _)).mp h
  have lz:(gG σ).length=u.m:=by unfold gG;simp [i.len]
  refine f (gG σ) ((j5 u.m).mpr ⟨u.m,Sl _,(lO u.m).mpr ⟨lz,sO rfl i⟩⟩) ?_
  unfold rN
  rw [Sk,beq_iff_eq,SK]
  refine ⟨lz,λq hq'=>?_⟩
  rw [K55.wH,decide_eq_true_eq,So.mp ((hq q).mp hq')]
  exact hz
theorem Lr (t:Pr u u) (neg:Bool):∃x,eU [.d u.d,.d u.d,.d (bq [(a,b)])]=.ok (.d x)/\mJ neg (.d x) (.d .non)=.ok (.d (.bl (if neg then sim u u.m a b else !sim u u.m a b))):=by
 obtain ⟨x,e,h⟩:=Ba (a:=a) (b:=b) t
 refine ⟨x,e,?_⟩
 rcases h with ⟨rfl,h⟩ | ⟨σ,rfl,h,_⟩ <;> rw [h] <;> cases neg <;> rfl
theorem Gq (t:Pr u u):qT [.d u.d]=.ok (.l .fresh ((cl u u.m).map tN)):=by
 have u4:=t.v4
 refine cS (jO (c2 rfl rfl (nE t)) (cG (r:=.l .fresh ((Se u.m).map dN)) ?_ rfl (cK (c1 (kD (xs:=Se u.m) (h:=dN) (λa=>tN (cls u u.m a)) rfl (by simp;omega) λa ha=>⟨_,n1 (jr (xs:=Se u.m) (h:=dN) (sim u u.m a) dN rfl (by simp;omega) λb hb=>⟨?_,λ_=>⟨_,rfl,rfl⟩⟩) rfl,rfl⟩) (show K81.fQ [.bor ((Se u.m).map λa=>tN (cls u u.m a))]=.ok (.l .fresh ((cl u u.m).map tN)) from ?_)) rfl rfl)))
 ·exact Hj (bZ (two rfl rfl (bU _ _))) (by omega)
 ·obtain ⟨x,e,h⟩:=Lr (a:=a) (b:=b) t true
  exact i6 (two (c3 rfl rfl (bW (aU (bW (aU rfl rfl (aU rfl rfl bO)) t2) rfl bO) (by show 1<=1000;decide)) e) rfl h)
 ·have:=DV ((Se u.m).map (cls u u.m)) (by simp;omega)
  rw [S6,BO t] at this
  exact this
end
end K83
namespace K83
open PySem DL K01 WP K51 K52 K55 K22 K81
open K23 (Pr oD i6 cj)
section
variable {u:Wd}{σ:List Nat}
abbrev eT (u:Wd) (σ:List Nat) (a b c d e f:Option S):Ev:=[some (.d u.d),some (.d (oD σ)),a,b,c,d,e,f]
def B4 (σ:List Nat) (r:Str×List Nat) (k:Nat):Bool:=decide (k∈r.2) == decide (σ.getD k 0∈r.2)
def AA (σ:List Nat) (r:Str×List (Nat×Nat)) (j k:Nat):Bool:=decide ((j,k)∈r.2) == decide ((σ.getD j 0,σ.getD k 0)∈r.2)
def tu (u:Wd) (σ:List Nat):Bool:=(u.ms.all λr=>(Se u.m).all (B4 σ r)) && u.ar.all λr=>(Se u.m).all λj=>(Se u.m).all (AA σ r j)
theorem Bb (t:Pr u u) (hσ:σ.length=u.m):gP [.d u.d,.d (oD σ)]=.ok (.d (.bl (tu u σ))):=by
 have u4:=t.v4
 refine cS (Jl (h:=pg) (λenv=>∃a b c d e f:Option S,env=eT u σ a b c d e f) (λr=>(Se u.m).all (B4 σ r)) u.ms ?_ ⟨none,none,none,none,none,none,rfl⟩ ?_ (λz e he=>?_) (λz=>by unfold tu;rw [z];rfl))
 ·show (g2 br _ _ _ >>= _)=_
  rw [two rfl rfl (cU _ _ _)]
  rfl
 ·rintro r _ _ ⟨_,_,c0,d0,e0,f0,rfl⟩
  refine ⟨eT u σ (some (.d (.str r.1))) (some (.d (.tup (r.2.map dN)))) c0 d0 e0 f0,rfl,?_⟩
  refine (CW (h:=dN) (λenv=>∃c d e f:Option S,env=eT u σ (some (.d (.str r.1))) (some (.d (.tup (r.2.map dN)))) c d e f) (B4 σ r) (Se u.m) (iK (bZ (two rfl rfl (bU _ _))) (by omega)) ⟨c0,d0,e0,f0,rfl⟩ ?_).mono ?_
  ·rintro k hk _ ⟨_,d0,e0,f0,rfl⟩
   have hk:=Sj.mp hk
   refine ⟨eT u σ (some (.d (.str r.1))) (some (.d (.tup (r.2.map dN)))) (some (.d (dN k))) d0 e0 f0,rfl,?_⟩
   refine vt (c:=!B4 σ r k) (cj (two rfl rfl (zl k r.2)) (two (two rfl rfl (zw (by omega))) rfl (zl (σ.getD k 0) r.2)) ?_) (λz=>cK rfl rfl (.inr ⟨by simpa using z,rfl⟩)) (λz=>jS (.inl ⟨by simpa using z,_,rfl,_,_,_,_,rfl⟩))
   rw [K55.inN,K55.inN,K22.IV]
   rfl
  ·rintro o (⟨z,e,rfl,c,d,e',f,rfl⟩ | ⟨z,rfl⟩)
   ·exact .inl ⟨z,_,rfl,_,_,_,_,_,_,rfl⟩
   ·exact .inr ⟨z,rfl⟩
 obtain ⟨a0,b0,c0,d0,e0,f0,rfl⟩:=he
 refine Jl (h:=qE) (λenv=>∃a b c d e f:Option S,env=eT u σ a b c d e f) (λr=>(Se u.m).all λj=>(Se u.m).all (AA σ r j)) u.ar ?_ ⟨a0,b0,c0,d0,e0,f0,rfl⟩ ?_ (λz2 e _=>cK rfl rfl (by unfold tu;rw [z,z2];rfl)) (λz2=>by unfold tu;rw [z,z2];rfl)
 ·show (g2 br _ _ _ >>= _)=_
  rw [two rfl rfl (cW _ _ _ _)]
  rfl
 ·rintro r _ _ ⟨_,b0,c0,_,e0,f0,rfl⟩
  refine ⟨eT u σ (some (.d (.str r.1))) b0 c0 (some (.d (.tup (r.2.map dP)))) e0 f0,rfl,?_⟩
  refine (CW (h:=dN) (λenv=>∃e f:Option S,env=eT u σ (some (.d (.str r.1))) b0 c0 (some (.d (.tup (r.2.map dP)))) e f) (λj=>(Se u.m).all (AA σ r j)) (Se u.m) (iK (bZ (two rfl rfl (bU _ _))) (by omega)) ⟨e0,f0,rfl⟩ ?_).mono ?_
  ·rintro j hj _ ⟨_,f0,rfl⟩
   have hj:=Sj.mp hj
   refine ⟨eT u σ (some (.d (.str r.1))) b0 c0 (some (.d (.tup (r.2.map dP)))) (some (.d (dN j))) f0,rfl,?_⟩
   refine (CW (h:=dN) (λenv=>∃f:Option S,env=eT u σ (some (.d (.str r.1))) b0 c0 (some (.d (.tup (r.2.map dP)))) (some (.d (dN j))) f) (AA σ r j) (Se u.m) (iK (bZ (two rfl rfl (bU _ _))) (by omega)) ⟨f0,rfl⟩ ?_).mono ?_
   ·rintro k hk _ ⟨_,rfl⟩
    have hk:=Sj.mp hk
    refine ⟨eT u σ (some (.d (.str r.1))) b0 c0 (some (.d (.tup (r.2.map dP)))) (some (.d (dN j))) (some (.d (dN k))),rfl,?_⟩
    refine vt (c:=!AA σ r j k) (cj (two (bW (aU rfl rfl (aU rfl rfl bO)) t2) rfl (zm (j,k) r.2)) (two (bW (aU (two rfl rfl (zw (by omega))) rfl (aU (two rfl rfl (zw (by omega))) rfl bO)) t2) rfl (zm (σ.getD j 0,σ.getD k 0) r.2)) ?_) (λz=>cK rfl rfl (.inr ⟨by simpa using z,rfl⟩)) (λz=>jS (.inl ⟨by simpa using z,_,rfl,_,rfl⟩))
    rw [K55.wH,K55.wH,K22.IV]
    rfl
   ·rintro o (⟨z,e,rfl,f,rfl⟩ | ⟨z,rfl⟩)
    ·exact .inl ⟨z,_,rfl,_,_,rfl⟩
    ·exact .inr ⟨z,rfl⟩
  ·rintro o (⟨z,e,rfl,e',f,rfl⟩ | ⟨z,rfl⟩)
   ·exact .inl ⟨z,_,rfl,_,_,_,_,_,_,rfl⟩
   ·exact .inr ⟨z,rfl⟩
theorem Gf (nd:σ.Nodup) (hl:σ.length=u.m) (rg:∀y∈σ,y < u.m):tu u σ=true↔K23.pW u u σ:=by
 have gt:∀{k:Nat}(hk:k < σ.length),σ.getD k 0=σ[k]:=λhk=>by rw [SS,Sn hk];rfl
 unfold tu
 rw [Sk,SK,SK]
 constructor
 ·rintro ⟨h1,h2⟩
  refine ⟨hl,rg,nd,λk hk=>?_,λj k hj hk=>?_⟩
  ·refine Va λr hr=>?_
   have:=SK.mp (h1 r hr) k (Sj.mpr (by omega))
   unfold B4 at this
   rw [gt hk] at this
   exact eq_of_beq this
  ·refine Va λr hr=>?_
   have:=SK.mp (SK.mp (h2 r hr) j (Sj.mpr (by omega))) k (Sj.mpr (by omega))
   unfold AA at this
   rw [gt hj,gt hk] at this
   exact eq_of_beq this
 ·intro i
  refine ⟨λr hr=>SK.mpr λk hk=>?_,λr hr=>SK.mpr λj hj=>SK.mpr λk hk=>?_⟩
  ·have hk:k < σ.length:=by rw [hl];exact Sj.mp hk
   unfold B4
   rw [gt hk]
   exact beq_iff_eq.mpr (aae.mp (i.ms k hk) r hr)
  ·have hj:j < σ.length:=by rw [hl];exact Sj.mp hj
   have hk:k < σ.length:=by rw [hl];exact Sj.mp hk
   unfold AA
   rw [gt hj,gt hk]
   exact beq_iff_eq.mpr (aae.mp (i.ar j k hj hk) r hr)
end
end K83
namespace K83
open PySem DL K01 WP K51 K52 K55 K22 K81
open K23 (Pr gG gH oD OR ow lD i6 cj allM anyM oz BN BK zp iS bq Jd)
section
variable {u:Wd}{σ:List Nat}{a b:Nat}
theorem Cd {m:Nat}(hm:m<=4) (hp:σ.Perm (Se m)):ig [.d (oD σ),.d (.int m)]=.ok (.d (.bl true)):=by
 have hl:σ.length=m:=by simpa using hp.length_eq
 have mh:cY (σ.map dN)=(Se m).map dN:=NF (hp.nodup_iff.mpr Ur) T9 λx=>hp.mem_iff
 have sA:qd [.d (oD σ)]=.ok (.l .fresh (cY (σ.map dN))):=PJ σ (by omega)
 refine cS (gK (Jd (iS (b:=true) rfl) (cj (n1 rfl (a_ _)) rfl ?_)) (gK (iS (b:=true) (i6 ((n1 (kD (xs:=σ) (h:=dN) (λ_=>.bl true) rfl (by omega) λk _=>⟨_,rfl,rfl⟩) (allM (λ_=>true) σ)).trans ?_))) (cK (r:=.d (.bl true)) (two (n1 rfl sA) (Hj (bZ rfl) (by omega)) ?_) rfl rfl)))
 ·rw [eq_int,Sh,hl]
  simp
 ·rw [show (σ.all λ_=>true)=true by simp]
  rfl
 ·rw [mh,qZ false (.l .fresh ((Se m).map dN)) (.l .fresh ((Se m).map dN)) (uI _) (uI _),show bx (R.dat (.l .fresh ((Se m).map dN))) (R.dat (.l .fresh ((Se m).map dN)))=true from fZ _]
  rfl
def Ge (u:Wd):List (List Nat):=(OR u.m u.m).filter (tu u)
theorem Ln (t:Pr u u):(Ge u).length<=256:=by
 have lo:=lD t.v4 u.m
 have p1:(4:Nat) ^ u.m<=4 ^ 4:=Ul (by decide) t.v4
 have p2:(4:Nat) ^ 4=256:=by decide
 exact S5 (Tf _ _) (by omega)
theorem Jw (t:Pr u u) (ha:a < u.m) (hb:b < u.m):j6 [.d u.d,.d (dN a),.d (dN b),.d (.bl (sim u u.m a b)),.bor ((Ge u).map oD)]=.ok (.d (.bl true)):=by
 have tl:=Ln t
 obtain ⟨x,e,h⟩:=Ba (a:=a) (b:=b) t
 refine cS (cG (c3 rfl rfl (bW (aU (bW (aU rfl rfl (aU rfl rfl bO)) t2) rfl bO) (by show 1<=1000;decide)) e) rfl ?_)
 rcases h with ⟨rfl,h⟩ | ⟨σ,rfl,h,i,hz⟩
 ·rw [h]
  refine fV (ye (iS (b:=false) rfl) (cK (r:=.d (.bl true)) (oz rfl (BN (k:=false) ((n1 (kD (xs:=Ge u) (h:=oD) (λo=>.bl (bx (dN (o.getD a 0)) (dN b))) rfl (by omega) λo ho=>⟨_,two (two rfl rfl (zw ?_)) rfl (qZ false _ _ (SQ _) (SQ _)),rfl⟩) (anyM _ _)).trans ?_))) rfl rfl))
  ·rw [(ow u.m (S7.mp ho).1).1];exact ha
  ·have:(Ge u).any (λo=>bx (dN (o.getD a 0)) (dN b))=false:=Z7.mpr λo ho q=>by
    obtain ⟨h1,h2⟩:=S7.mp ho
    obtain ⟨l,nd,rg⟩:=ow u.m h1
    have i:=(Gf nd l rg).mp h2
    have hk:a < o.length:=by omega
    rw [K55.rQ,beq_iff_eq,SS,Sn hk] at q
    have:=(n8 t (Sl _)).mpr ⟨o,i,gH.mpr ⟨hk,q⟩⟩
    rw [h] at this
    cases this
   rw [this]
 ·rw [h]
  obtain ⟨hk,q⟩:=gH.mp hz
  have hk:a < σ.length:=hk
  have q:σ[a]=b:=q
  refine gK (iS (b:=true) rfl) (cK (r:=.d (.bl true)) (oz ((c2 rfl (two rfl rfl (bU _ _)) (Cd t.v4 (zp i))).trans rfl) (oz (two (two rfl rfl (zw hk)) rfl ((qZ false _ _ (SQ _) (SQ _)).trans ?_)) ((c2 rfl rfl (Bb t i.len)).trans ?_))) rfl rfl)
  ·show M.ok (R.d (.bl (bx (dN (σ.getD a 0)) (dN b))))=_
   rw [K55.rQ,SS,Sn hk]
   show M.ok (R.d (.bl (decide (σ[a]=b))))=_
   rw [q];simp
  ·rw [(Gf i.nd i.len i.rg).mpr i]
   rfl
end
end K83
namespace K83
open PySem DL K01 WP K51 K52 K55 K22 K81
open K23 (Pr oD OR ow lD yq i6 cj iS)
theorem c5 {F:List S->M R}{env:Ev}{g h k l m:G R}{x y w v q z:R}(hx:g env=.ok x) (hy:h env=.ok y) (hw:k env=.ok w) (hv:l env=.ok v) (hq:m env=.ok q) (hF:F [bH x,bH y,bH w,bH v,bH q]=.ok z):gN (aF 5 F) (ao g (ao h (ao k (ao l (ao m ay))))) env=.ok (cu z):=by
 show (ao g (ao h (ao k (ao l (ao m ay)))) env >>= _)=_
 unfold ao ay
 rw [hx,hy,hw,hv,hq]
 show (match F [bH x,bH y,bH w,bH v,bH q] with | .ok r=>M.ok (cu r) | _=>M.bad)=_
 rw [hF]
section
variable {u:Wd}{a b d:Nat}
theorem JN (t:Pr u u) (hd:u.m<=d):cl u d=cl u u.m:=by
 have e:∀a b,sim u d a b=sim u u.m a b:=λa b=>Tp.mpr ((n8 t hd).trans (n8 t (Sl _)).symm)
 unfold cl least
 have e2:cls u d=cls u u.m:=funext λa=>by unfold cls;rw [show sim u d a=sim u u.m a from funext (e a)]
 simp only [e,e2]
theorem MM {α:Type}{L:List α}(nd:L.Nodup){x:α}(hx:x∈L) (h:∀y∈L,y=x):L=[x]:=by
 cases L with
 | nil=>cases hx
 | cons y r=>
  have ey:=h y Si
  subst ey
  cases r with
  | nil=>rfl
  | cons z r=>
   have ez:=h z (Sg _ Si)
   exact absurd (ez▸Si) (Ud.mp nd).1
theorem Ob (t:Pr u u) (ha:a < u.m):∃c,(cl u d).filter (λc=>decide (a∈c))=[c]/\∀b,b∈c↔sim u d a b=true:=by
 obtain ⟨r,h1,h2,h3⟩:=zb (d:=d) t (a + 1) a (UJ _) ha
 refine ⟨cls u d r,?_,λb=>(nV t).trans ⟨λh=>je t (jZ t h3) h,λh=>je t h3 h⟩⟩
 unfold cl
 rw [YW,MM (x:=r) ((Ur.filter _).filter _) ?_ ?_]
 ·rfl
 ·exact S7.mpr ⟨S7.mpr ⟨Sj.mpr h1,h2⟩,decide_eq_true ((nV t).mpr h3)⟩
 ·intro y hy
  obtain ⟨hy,q⟩:=S7.mp hy
  have q:=(nV t).mp (of_decide_eq_true q)
  exact Hg t (S7.mp hy).2 h2 (je t q (jZ t h3))
end
abbrev eO (ns:List Int) (u:Wd) (d:Nat) (a b c:Option S):Ev:=[some (.bor (ns.map D.int)),some (.d (.int u.m)),some (.d u.d),some (.own ((cl u u.m).map tN)),some (.d (.int d)),some (.own ((Ge u).map oD)),a,b,c]
theorem Ku (ns:List Int) (h:ns.length<=63):uO [.bor (ns.map .int)]=.ok (.d (.bl true)):=by
 obtain ⟨m0,hm0,m4⟩:=K33.BJ (K01.fB ns 0) 4 (by decide)
 obtain ⟨A,B,hT,tA,tB⟩:=oj (K01.fB ns 1)
 obtain ⟨u,hu,um,lm,lr⟩:=Gu ns (1 + m0) (by omega) (by omega) A B tA.1 tB.1
 have t:Pr u u:=⟨⟨by omega,by omega,lm,lr⟩,⟨by omega,by omega,lm,lr⟩,by omega,by omega,rfl,rfl⟩
 rw [<-um] at hu
 have u4:=t.v4
 obtain ⟨d0,hd,d7⟩:=K33.BJ (K01.fB ns 9) (7 - u.m) (by omega)
 obtain ⟨cl4,_⟩:=L3 (d:=u.m) t
 have lo:=lD u4 u.m
 have p1:(4:Nat) ^ u.m<=4 ^ 4:=Ul (by decide) u4
 have p2:(4:Nat) ^ 4=256:=by decide
 have dpc:∀L:List (List Nat),dep (.lst (L.map tN))<=60:=λL=>by
  have:deps (L.map tN)<=1:=fN λx hx=>by
   obtain ⟨q,_,rfl⟩:=Sf.mp hx
   have:deps (q.map dN)<=0:=fN λx hx=>by obtain ⟨q,_,rfl⟩:=Sf.mp hx;exact Sl _
   show deps (q.map dN) + 1<=1
   omega
  show deps (L.map tN) + 1<=60
  omega
 have eqx:∀(m m':Md) (L:List (List Nat)),dO true (.l m (L.map tN)) (.l m' (L.map tN))=.ok (.d (.bl false)):=λm m' L=>by
  rw [qZ true (.l m (L.map tN)) (.l m' (L.map tN)) (dpc L) (dpc L),show bx (R.dat (.l m (L.map tN))) (R.dat (.l m' (L.map tN)))=true from fZ _]
  rfl
 have dp:=vS (d:=u.m + d0) t (by omega)
 rw [JN t (by omega)] at dp
 refine cS (cG (r:=.d (.int (u.m:Int))) ((two rfl (two (c2 rfl rfl (K01.pS ns 0)) rfl (cV _ 4 (by decide))) (iP _ _)).trans ?_) rfl (cG (c4 rfl rfl rfl (c1 (c2 rfl rfl (K01.pS ns 1)) hT) hu) rfl (cG (c1 rfl (Gq t)) rfl (gK (iS (b:=true) rfl) (cG (r:=.d (.int ((u.m + d0:Nat):Int))) ((two rfl (two (c2 rfl rfl (K01.pS ns 9)) (two rfl rfl (Jr _ _)) (cV _ _ ?_)) (iP _ _)).trans ?_) rfl (gK (zN (cj (c2 rfl rfl (vS t (by omega))) rfl (eqx .fresh .own _)) (cj (c2 rfl rfl dp) rfl (eqx .fresh .own _))) (cG (jr (xs:=OR u.m u.m) (h:=oD) (tu u) oD ?_ (by omega) λo ho=>⟨i6 (c2 rfl rfl (Bb t (ow u.m ho).1)),λ_=>⟨_,rfl,rfl⟩⟩) rfl ?_)))))))
 ·rw [um]
  show M.ok (R.d (.int (1 + K01.fB ns 0 % 4)))=_
  rw [show K01.fB ns 0 % 4=(m0:Int) from hm0]
  rfl
 ·omega
 ·rw [show (7:Int) - (u.m:Int)=((7 - u.m:Nat):Int) by omega,hd]
  rfl
 ·show (gN _ _ _ >>= _)=_
  rw [c1 rfl (yq u.m t.vo.lo t.v4)]
  rfl
 refine kQ (iK (bZ rfl) (by omega)) (Gk (h:=dN) (λenv=>∃a b c,env=eO ns u (u.m + d0) a b c) (Se u.m) ⟨none,none,none,rfl⟩ ?_ λ_ ⟨_,_,_,e⟩=>by subst e;exact cK rfl rfl rfl)
 rintro a ha _ ⟨_,b0,c0,rfl⟩
 have ha:=Sj.mp ha
 obtain ⟨c,hc,hin⟩:=Ob (d:=u.m) t ha
 refine ⟨_,rfl,oV (iK (bZ rfl) (by omega)) (Gk (h:=dN) (λenv=>∃b c,env=eO ns u (u.m + d0) (some (.d (dN a))) b c) (Se u.m) ⟨b0,c0,rfl⟩ ?_ λ_ ⟨b,c,e⟩=>⟨_,rfl,_,b,c,e⟩)⟩
 rintro b hb _ ⟨_,c0,rfl⟩
 have hb:=Sj.mp hb
 have Rz:=jr (env:=eO ns u (u.m + d0) (some (.d (dN a))) (some (.d (dN b))) c0) (cap:=[6]) (gi:=dX (af 3)) (gts:=aV (g2 (fu false) (af 1) (af 0))) (ge:=af 0) (xs:=cl u u.m) (h:=tN) (λc=>decide (a∈c)) tN rfl (by omega) λc _=>⟨cj rfl rfl ((zl a c).trans (by rw [K55.inN])),λ_=>⟨_,rfl,rfl⟩⟩
 rw [hc] at Rz
 refine ⟨_,rfl,cG Rz rfl (gK (cj (n1 rfl rfl) rfl rfl) (sQ (iS (b:=true) (i6 (c5 (v:=.d (.bl (sim u u.m a b))) rfl rfl rfl (two rfl (two rfl rfl (CL (m:=.own) (k:=0) rfl)) ((zl b c).trans ?_)) rfl (Jw t ha hb)))) (jS ⟨_,rfl,_,_,rfl⟩)))⟩
 rw [K55.inN,show decide (b∈c)=sim u u.m a b by rw [Tp,decide_eq_true_eq,hin]]
end K83
namespace K83
open PySem PySem.Spec PyProof.Rows L2 DL DX
theorem all_mk {l:YI}{w:S9}{K:R_}{h:Ui}{mg:Str->Option Sa}{fa:Sq}(X:K.In h) (G:h.Ns S3 mg) (RJ:mg "law"=some (.ref fa))
  {f22 f37:Sq}{o22 n22 o37 n37:Option Sq}{s22 s37:Array (Option Sa)}{u22 v22 d22 p22 q22 r22 u37 v37 d37 p37 q37 r37:Sa}
  {T22:Sq}{oT22:Sa}{dT22:Option Sq}{nT22:Nat}{sT22:Array (Option Sa)}
  {t1:Tok}
  {t2:Tok}
  (e0:FA K "is_whole" qH)
  (e1:FA K "tongue_of" pK)
  (e2:FA K "need_tongue" l_)
  (e3:FA K "need_few_points" iZ)
  (e4:FA K "need_small" nA)
  (e5:FA K "need_count" ny)
  (e6:FA K "rising" vO)
  (e7:FA K "view" DJ)
  (e8:FA K "views" Aw)
  (e9:FA K "agree" Aa)
  (e10:FA K "goes_behind" lY)
  (e11:FA K "pairings" qN)
  (e12:FA K "added" z_)
  (e13:FA K "pairs_with" nB)
  (e14:FA K "picks_of" qO)
  (e15:FA K "outcomes" qL)
  (e16:FA K "answered_still" jB)
  (e17:FA K "peeled" vN)
  (e18:FA K "pairings_with" j3)
  (e19:FA K "parting_depths" jC)
  (e20:FA K "in_layer" qG)
  (e21:FA K "each_once" pC)
  (a22:Tn K S3 "turning"=some (some (.ref f22)))
  (l22:K.lookup f22=some ⟨u22,o22,.func (Tw "turning" "turning" (dR ie) (cL ie) (aI ie) (.ref T22) v22 d22 p22 n22 q22 r22),s22⟩)
  (c22:Vn K q22 "turning"=true)
  (k22:Ug K (.ref f22)=true)
  (lT22:K.lookup T22=some ⟨oT22,dT22,.seq #[.none] nT22,sT22⟩)
  (e23:FA K "classes" sY)
  (e24:FA K "orbits" vM)
  (e25:FA K "_law_cell" pq)
  (e26:FA K "_law_names" nk)
  (e27:FA K "_law_some" pB)
  (e28:FA K "_law_pairs" nq)
  (e29:FA K "_law_tongue" lW)
  (e30:FA K "_law_world" nv)
  (e31:FA K "_law_even" pA)
  (e32:FA K "_law_shaped" lV)
  (e33:FA K "_law_orders" lU)
  (e34:FA K "_law_turns" nu)
  (e35:FA K "_law_is_order" jY)
  (e36:FA K "_law_right" nt)
  (a37:Tn K S3 "law"=some (some (.ref f37)))
  (l37:K.lookup f37=some ⟨u37,o37,.func (Tw "law" "law" (dR pH) (cL pH) (aI pH) .none v37 d37 p37 n37 q37 r37),s37⟩)
  (c37:Vn K q37 "law"=true)
  (k37:Ug K (.ref f37)=true)
  (z0:Tn K S3 "all"=some none)
  (z1:Tn K S3 "any"=some none)
  (z2:Tn K S3 "bool"=some none)
  (z3:Tn K S3 "int"=some none)
  (z4:Tn K S3 "isinstance"=some none)
  (z5:Tn K S3 "len"=some none)
  (z6:Tn K S3 "list"=some none)
  (z7:Tn K S3 "range"=some none)
  (z8:Tn K S3 "set"=some none)
  (z9:Tn K S3 "sorted"=some none)
  (z10:Tn K S3 "tuple"=some none)
  (gMOST_DEPTH:Tn K S3 "MOST_DEPTH"=some (some (.int 6 t1)))
  (gMOST_SMALL:Tn K S3 "MOST_SMALL"=some (some (.int 4 t2))):
  ∃fd:SY,(∀(s:Sd) (v:Sa),aay s fd ⟨[v],[]⟩ [("_law_script",v)])/\∀base:Ui,K.In base->base.Ns S3 mg->gp l.prog w K mg base pL 8 fa fd ["_law_script"] (qM K 1 K83.uO):=by
 have e:=RJ.symm.trans (SG X G a37)
 cases e
 obtain ⟨f0,d0,a0,F0⟩:=e0
 obtain ⟨f1,d1,a1,F1⟩:=e1
 obtain ⟨f2,d2,a2,F2⟩:=e2
 obtain ⟨f3,d3,a3,F3⟩:=e3
 obtain ⟨f4,d4,a4,F4⟩:=e4
 obtain ⟨f5,d5,a5,F5⟩:=e5
 obtain ⟨f6,d6,a6,F6⟩:=e6
 obtain ⟨f7,d7,a7,F7⟩:=e7
 obtain ⟨f8,d8,a8,F8⟩:=e8
 obtain ⟨f9,d9,a9,F9⟩:=e9
 obtain ⟨f10,d10,a10,F10⟩:=e10
 obtain ⟨f11,d11,a11,F11⟩:=e11
 obtain ⟨f12,d12,a12,F12⟩:=e12
 obtain ⟨f13,d13,a13,F13⟩:=e13
 obtain ⟨f14,d14,a14,F14⟩:=e14
 obtain ⟨f15,d15,a15,F15⟩:=e15
 obtain ⟨f16,d16,a16,F16⟩:=e16
 obtain ⟨f17,d17,a17,F17⟩:=e17
 obtain ⟨f18,d18,a18,F18⟩:=e18
 obtain ⟨f19,d19,a19,F19⟩:=e19
 obtain ⟨f20,d20,a20,F20⟩:=e20
 obtain ⟨f21,d21,a21,F21⟩:=e21
 have F22:=JZ (st:=ie) l22 c22 k22 lT22
 obtain ⟨f23,d23,a23,F23⟩:=e23
 obtain ⟨f24,d24,a24,F24⟩:=e24
 obtain ⟨f25,d25,a25,F25⟩:=e25
 obtain ⟨f26,d26,a26,F26⟩:=e26
 obtain ⟨f27,d27,a27,F27⟩:=e27
 obtain ⟨f28,d28,a28,F28⟩:=e28
 obtain ⟨f29,d29,a29,F29⟩:=e29
 obtain ⟨f30,d30,a30,F30⟩:=e30
 obtain ⟨f31,d31,a31,F31⟩:=e31
 obtain ⟨f32,d32,a32,F32⟩:=e32
 obtain ⟨f33,d33,a33,F33⟩:=e33
 obtain ⟨f34,d34,a34,F34⟩:=e34
 obtain ⟨f35,d35,a35,F35⟩:=e35
 obtain ⟨f36,d36,a36,F36⟩:=e36
 have F37:=ED (st:=pH) l37 c37 k37
 have m:eu w K mg:=⟨TQ X G z0,
   TQ X G z1,
   TQ X G z2,
   TQ X G z3,
   TQ X G z4,
   TQ X G z5,
   TQ X G z6,
   TQ X G z7,
   TQ X G z8,
   TQ X G z9,
   TQ X G z10,
   ⟨_,(.int 6),SG X G gMOST_DEPTH,⟨_,rfl⟩,λ_=>(.int _)⟩,
   ⟨_,(.int 4),SG X G gMOST_SMALL,⟨_,rfl⟩,λ_=>(.int _)⟩,
   ⟨_,a16,SG X G a16⟩⟩
 refine ⟨Tw "law" "law" (dR pH) (cL pH) (aI pH) .none v37 d37 p37 n37 q37 r37,λs v=>.of_eq rfl,λbase _ _=>?_⟩
 have C0:=AV (P:=l.prog) (base:=base) m F0 (SG X G a0)
 have C1:=yU (P:=l.prog) (base:=base) m F1 (SG X G a1)
 have C2:=vd (P:=l.prog) (base:=base) m C1 F2 (SG X G a2)
 have C3:=p_ (P:=l.prog) (base:=base) m F3 (SG X G a3)
 have C4:=xH (P:=l.prog) (base:=base) m C2 C3 F4 (SG X G a4)
 have C5:=xG (P:=l.prog) (base:=base) m C0 F5 (SG X G a5)
 have C6:=Em (P:=l.prog) (base:=base) m F6 (SG X G a6)
 have C7:=JJ (P:=l.prog) (base:=base) m F7 (SG X G a7)
 have C8:=GH (P:=l.prog) (base:=base) m C7 F8 (SG X G a8)
 have C9:=GF (P:=l.prog) (base:=base) m F9 (SG X G a9)
 have C10:=vc (P:=l.prog) (base:=base) m C9 F10 (SG X G a10)
 have C11:=AZ (P:=l.prog) (base:=base) m C4 C5 C8 C9 C10 F11 (SG X G a11)
 have C12:=GD (P:=l.prog) (base:=base) m C6 F12 (SG X G a12)
 have C13:=xJ (P:=l.prog) (base:=base) m F13 (SG X G a13)
 have C14:=A0 (P:=l.prog) (base:=base) m F14 (SG X G a14)
 have C15:=AY (P:=l.prog) (base:=base) m C13 C12 C14 F15 (SG X G a15)
 have C16:=rD (P:=l.prog) (base:=base) m F16 (SG X G a16)
 have C17:=El (P:=l.prog) (base:=base) m C16 F17 (SG X G a17)
 have C18:=sF (P:=l.prog) (base:=base) m C11 F18 (SG X G a18)
 have C19:=rE (P:=l.prog) (base:=base) m C18 C15 C17 F19 (SG X G a19)
 have C20:=AU (P:=l.prog) (base:=base) m F20 (SG X G a20)
 have C21:=yO (P:=l.prog) (base:=base) m F21 (SG X G a21)
 have O_turning:=CN (P:=l.prog) (w:=w) (base:=base) m C4 C6 C11 F22
 have C22:=CI O_turning F22 (SG X G a22)
 have D_turning:=AS O_turning F22 (SG X G a22)
 have C23:=CG (P:=l.prog) (base:=base) m C4 C5 C19 C20 C21 F23 (SG X G a23)
 have C24:=Ek (P:=l.prog) (base:=base) m C4 C22 C21 F24 (SG X G a24)
 have C25:=yL (P:=l.prog) (base:=base) m F25 (SG X G a25)
 have C26:=xy (P:=l.prog) (base:=base) m F26 (SG X G a26)
 have C27:=yN (P:=l.prog) (base:=base) m F27 (SG X G a27)
 have C28:=xA (P:=l.prog) (base:=base) m F28 (SG X G a28)
 have C29:=u_ (P:=l.prog) (base:=base) m C26 F29 (SG X G a29)
 have C30:=xD (P:=l.prog) (base:=base) m C25 C27 C28 F30 (SG X G a30)
 have C31:=yM (P:=l.prog) (base:=base) m F31 (SG X G a31)
 have C32:=u7 (P:=l.prog) (base:=base) m C30 C25 C31 F32 (SG X G a32)
 have C33:=u6 (P:=l.prog) (base:=base) m F33 (SG X G a33)
 have C34:=xC (P:=l.prog) (base:=base) m F34 (SG X G a34)
 have C35:=sE (P:=l.prog) (base:=base) m F35 (SG X G a35)
 have C36:=xB (P:=l.prog) (base:=base) m C22 C35 C34 F36 (SG X G a36)
 exact Ol m C25 C29 C32 C24 C23 C33 C34 C36 F37
theorem Lj (K:R_) (H:Hp) (a:Sq) (ns:List Int) (hl:ns.length<=63) (hO:Cm H) (hS:dD K H a (ns.map V.int)):qM K 1 K83.uO [.ref a] H (λv _=>v=.bl true) λ_ _ _=>False:=by
 refine ⟨λ_=>none,[.bor (ns.map D.int)],λ_ _ z=>(by cases z),rfl,⟨_,[],rfl,⟨a,_,rfl,hS,?_⟩,rfl⟩,?_⟩
 ·exact K01.wW ns
 ·rw [Ku ns hl]
  intro v J H2 _ r
  cases r
  rfl
theorem walk {l:YI}{q:Sy}{loose:List Str}{XP:(Str->Option Sa)->Ui->Prop}{YP:S9->Ui->Prop}{d:DefRec}{K:abn->R_}(hn:l.most=some 63) (hdf:d.params.defaults=[])
  (hY:∀(w:S9) (h:Ui),YP w h->(K w.params).In h)
  (F:∀(w:S9) (mg:Str->Option Sa) (fa:Sq) (h:Ui),(K w.params).In h->h.Ns S3 mg->mg d.name=some (.ref fa)->
   ∃fd:SY,(∀(s:Sd) (u:Sa),aay s fd ⟨[u],[]⟩ [("_law_script",u)])/\∀base:Ui,(K w.params).In base->base.Ns S3 mg->gp l.prog w (K w.params) mg base pL 8 fa fd ["_law_script"] (qM (K w.params) 1 K83.uO)):
  abF q loose XP YP l.row.toRowW d [] (λf vs=>abo f vs):=
 L2.Lu (n:=63) (k:=8) (x:="_law_script") (CX:=λ_=>pL) (sp:=λw=>qM (K w.params) 1 K83.uO) hn (by decide) hdf ⟨rfl,by decide,by decide⟩ hY F (λw H a ns hl hO hS=>Lj _ H a ns hl hO hS) λ_ _ _ _ _ z=>z
end K83
open PySem PySem.W PyProof.Rows
set_option maxRecDepth 100000 in
set_option maxHeartbeats 0 in
theorem PySem.Challenge.cw_pickalike_k83_whole_orbits_holds : PySem.Challenge.rw_pickalike_k83_whole_orbits.Holds := by
 refine holds_law K83.look λsaid=>?_
 refine holds_open (q:=K83.VW) (XP:=XL K83.VW []) (YP:=Hook.says K83.HK) K83.left (Hook.of K83.HK) (Hook.keeps K83.HK) (λs e=>xl_of s (Za.mp e).1) XL.keeps (by rfl) (by rfl) (by rfl) (λs e=>recFacts_of (Za.mp e).2) (by rfl) said (by decide +kernel) ⟨rfl,rfl,rfl,rfl,rfl,by decide +kernel⟩ ?hw ?hc
 (case hw=>w_witness2)
 delta K83.HK
 k_fill
 refine K83.walk (l:=TJ) rfl rfl (K:=K83.KF) (λw h Y=>PySem.W.kIn_of Y) ?F
 case F=>
  intro w mg fa h KX G hmg
  refine' K83.all_mk KX G hmg (DL.cA ?a0 ?l0 ?c0 ?k0) (DL.cA ?a1 ?l1 ?c1 ?k1) (DL.cA ?a2 ?l2 ?c2 ?k2) (DL.cA ?a3 ?l3 ?c3 ?k3) (DL.cA ?a4 ?l4 ?c4 ?k4) (DL.cA ?a5 ?l5 ?c5 ?k5) (DL.cA ?a6 ?l6 ?c6 ?k6) (DL.cA ?a7 ?l7 ?c7 ?k7) (DL.cA ?a8 ?l8 ?c8 ?k8) (DL.cA ?a9 ?l9 ?c9 ?k9) (DL.cA ?a10 ?l10 ?c10 ?k10) (DL.cA ?a11 ?l11 ?c11 ?k11) (DL.cA ?a12 ?l12 ?c12 ?k12) (DL.cA ?a13 ?l13 ?c13 ?k13) (DL.cA ?a14 ?l14 ?c14 ?k14) (DL.cA ?a15 ?l15 ?c15 ?k15) (DL.cA ?a16 ?l16 ?c16 ?k16) (DL.cA ?a17 ?l17 ?c17 ?k17) (DL.cA ?a18 ?l18 ?c18 ?k18) (DL.cA ?a19 ?l19 ?c19 ?k19) (DL.cA ?a20 ?l20 ?c20 ?k20) (DL.cA ?a21 ?l21 ?c21 ?k21) ?a22 ?l22 ?c22 ?k22 ?lT22 (DL.cA ?a23 ?l23 ?c23 ?k23) (DL.cA ?a24 ?l24 ?c24 ?k24) (DL.cA ?a25 ?l25 ?c25 ?k25) (DL.cA ?a26 ?l26 ?c26 ?k26) (DL.cA ?a27 ?l27 ?c27 ?k27) (DL.cA ?a28 ?l28 ?c28 ?k28) (DL.cA ?a29 ?l29 ?c29 ?k29) (DL.cA ?a30 ?l30 ?c30 ?k30) (DL.cA ?a31 ?l31 ?c31 ?k31) (DL.cA ?a32 ?l32 ?c32 ?k32) (DL.cA ?a33 ?l33 ?c33 ?k33) (DL.cA ?a34 ?l34 ?c34 ?k34) (DL.cA ?a35 ?l35 ?c35 ?k35) (DL.cA ?a36 ?l36 ?c36 ?k36) ?a37 ?l37 ?c37 ?k37 ?z0 ?z1 ?z2 ?z3 ?z4 ?z5 ?z6 ?z7 ?z8 ?z9 ?z10 ?gMOST_DEPTH ?gMOST_SMALL
  case a0 | l0 | c0 | k0 | a1 | l1 | c1 | k1 | a2 | l2 | c2 | k2 | a3 | l3 | c3 | k3 | a4 | l4 | c4 | k4 | a5 | l5 | c5 | k5 | a6 | l6 | c6 | k6 | a7 | l7 | c7 | k7 | a8 | l8 | c8 | k8 | a9 | l9 | c9 | k9 | a10 | l10 | c10 | k10 | a11 | l11 | c11 | k11 | a12 | l12 | c12 | k12 | a13 | l13 | c13 | k13 | a14 | l14 | c14 | k14 | a15 | l15 | c15 | k15 | a16 | l16 | c16 | k16 | a17 | l17 | c17 | k17 | a18 | l18 | c18 | k18 | a19 | l19 | c19 | k19 | a20 | l20 | c20 | k20 | a21 | l21 | c21 | k21 | a22 | l22 | c22 | k22 | lT22 | a23 | l23 | c23 | k23 | a24 | l24 | c24 | k24 | a25 | l25 | c25 | k25 | a26 | l26 | c26 | k26 | a27 | l27 | c27 | k27 | a28 | l28 | c28 | k28 | a29 | l29 | c29 | k29 | a30 | l30 | c30 | k30 | a31 | l31 | c31 | k31 | a32 | l32 | c32 | k32 | a33 | l33 | c33 | k33 | a34 | l34 | c34 | k34 | a35 | l35 | c35 | k35 | a36 | l36 | c36 | k36 | a37 | l37 | c37 | k37 | z0 | z1 | z2 | z3 | z4 | z5 | z6 | z7 | z8 | z9 | z10 | gMOST_DEPTH | gMOST_SMALL=>k_is
