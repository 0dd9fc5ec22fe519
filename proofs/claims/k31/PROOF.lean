import PyProof.Rows.All
import Wide.All
import OpenK.AllK
import Wide.FinOn
import Lean
import PyProof.EqAt
import PyProof.EqKinds
import PyProof.TupleCall
import KE.KIsAll
import PyProof.ExcAttrAll.ValueError
import PyProof.NeKinds
import PyProof.InstStoreFacts
import KE.KUnpackStar
import KE.KSortTup
import PyProof.TupleOfSeq
import PyProof.Rows.SortWalk
import PyProof.EnumFor
import PyProof.EnumStmt
import PyProof.ListRange
import PyProof.TupleKey
import PyProof.SetKind
import PyProof.Rows.SetFrom
import PyProof.SetRoads
import PyProof.CollectWalk
import PyProof.WalksMore
import PyProof.DictKinds
import PyProof.DictCompW
import PyProof.DictRoadsH
import PyProof.DictWalks
import PyProof.StrBlock
import PyProof.StrBlockI
import KE.KSortKey
import PySem.Challenge.RW_pickalike_k31_layers_walked
noncomputable section
open And renaming intro->Xm
open Array renaming length_toList->Q3,getElem?_eq_some_iff->RV,getElem?_toList->R_,getD->SO,getElem?_eq_getElem->TH,forIn_toList->Vf,getD_eq_getD_getElem?->Wa,toList->W9,size_append->YB,toList_push->YI
open Array.Perm renaming mem_iff->Wk,refl->abh
open Bool renaming and_eq_true->QX,false_eq_true->Q8,false_ne_true->Ru,eq_iff_iff->R1,and_eq_true_iff->S8,not_true->Td,or_eq_true->TX,true_and->Ub,and_false->Uh,not_false->VA,eq_false_iff->Wx,false_and->Zy,or_false->aab,and_self->aae,false_or->aai
open Classical renaming byContradiction->SW,propDecidable->aan
open False renaming elim->Ux
open ForInStep renaming yield->Ti
open Iff renaming rfl->abk
open Int renaming toNat_natCast->SM,emod_lt_of_pos->S5,emod_nonneg->TZ
open List renaming length_map->QN,mem_map->QO,range->QS,mem_cons_of_mem->QT,mem_cons_self->QV,size_toArray->QY,getElem?_eq_getElem->Q4,map_cons->Q6,mem_singleton->Q7,mem_cons->Q9,getElem?_map->Rc,map_append->Rg,getElem?_eq_some_iff->Ri,length_append->Rj,all_eq_true->Rk,mem_append->Rn,mem_range->Ro,map_map->Rt,getElem?_set_ne->RB,mem_filter->RD,mem_of_getElem?->RH,getD_eq_getElem?_getD->RI,mem_append_right->RK,length_filter_le->RL,idxOf_lt_length_of_mem->RQ,replicate->RS,any_eq_true->R0,pairwise_map->R5,getElem?_set_self->R7,length_cons->Sb,getElem?_append_right->Sh,pairwise_iff_getElem->Si,lookup_cons->Sk,not_mem_nil->Sl,length_replicate->Sq,mem_iff_getElem->SD,getElem_mem->SI,length_range->SQ,getElem?_append_left->SV,nodup_cons->SX,all_cons->S_,length_eq_zero_iff->Tf,nodup_nil->Tg,nodup_range->To,eq_nil_or_concat->Tu,concat_eq_append->Tv,pairwise_append->TL,append_nil->TU,eraseIdx_eq_take_drop_succ->T3,replicate_succ->T8,filter_eq_self->T_,pairwise_singleton->Ua,map_congr_left->Uc,length_take->Ud,length_drop->Ue,pairwise_lt_range->Uj,pairwise_cons->Uk,getElem_idxOf->Ul,take_append_drop->Uu,range_succ->Uv,append_assoc->UE,mem_append_left->UI,drop_eq_getElem_cons->UN,getElem_inj->UQ,ext_getElem->US,getElem?_range->UU,mem_filterMap->U5,getElem?_replicate->U7,length_nil->Vd,range_succ_eq_map->Vk,getElem_cons_drop->Vl,length->Vo,nodup_append->Vv,map_nil->VG,singleton_append->VH,eq_nil_of_length_eq_zero->VM,take_length->VP,getElem_map->VQ,mem_flatMap->VT,map_flatMap->VU,any_cons->VX,map_take->VY,map_drop->VZ,filterMap_cons->V2,foldl_cons->V9,perm_ext_iff_of_nodup->Wi,all_map->Wj,zip_cons_cons->Wl,take_succ->Wn,getLast?_eq_none_iff->Wr,getElem?_zip_eq_some->Ws,getElem_append_left->WA,filter_congr->WH,filter_cons_of_pos->WM,filter_cons_of_neg->WN,pairwise_filterMap->WO,perm_middle->WX,drop_eq_nil_of_le->W2,take_of_length_le->W5,of_mem_zip->Xa,any_map->Xg,mem_iff_getElem?->Xh,getD->Xl,pairwise_flatMap->Xn,length_eraseIdx->Xz,getLast?_concat->XA,mem_of_mem_take->XC,mem_of_mem_drop->XD,getD_cons_zero->XS,filterMap_map->X7,contains_cons->Yd,map_singleton->Yj,find?_eq_none->Yl,take_sublist->Yt,eraseIdx_nil->YD,getElem_drop->YG,idxOf_append->YH,le_antisymm->YU,filter_map->Zu,length_zip->Zv,drop_zero->ZE,filterMap->ZJ,lookup->aaR,map->abp
open List.Nodup renaming length_le_of_subset->Rv
open List.Pairwise renaming and_mem->Tt,nil->Uz,imp->Vt,filter->Xy,of_map->aaD,and->aa9,map->aba
open List.Perm renaming of_eq->Zk,append_left->aay
open List.cons renaming inj->abo
open Nat renaming le_refl->QW,lt_of_lt_of_le->Rh,ne_of_lt->Rl,zero_le->Rm,le_trans->Rr,not_lt_zero->RZ,lt_succ_self->SH,lt_irrefl->SS,le_succ->Tz,le_of_succ_le->TY,ne_of_gt->Uq,lt_trans->Us,lt_trichotomy->UC,pow_le_pow_right->UJ,mul_le_mul_right->UK,le_add_right->UR,le_of_lt_succ->Vu,lt_succ_of_lt->Vx,mul_le_mul->Vz,le_of_lt->VD,mod_lt->Wz,div_div_eq_div_mul->W4,lt_of_le_of_lt->Yi,lt_or_eq_of_le->Yk,pow_succ->YN,zero_add->YO,div_add_mod->Zi,min_eq_left->Zo,add_mul->Zr,add_assoc->aaj,le_of_eq->aat,mul_one->aaY
open Ne renaming symm->SK
open Option renaming isSome_iff_exists->R9,bind_some->WW,getD_none->YS,map_some->Za,none->aaQ
open Option.some renaming inj->RY,injEq->SN
open Or renaming inr->Tq,inl->UZ
open Prod renaming fst->Sf,ext->abm,snd->abq
open PyProof.Rows renaming slot_tuple_getitem->RP,seqObj->Ur,IntsAre->UT,subscriptTail_builtinR->Vi,callWith_type1->V4,envOfC->Ww,listUpdate_at->WL,AllBare->W7,entry_tuple_getitem->XN,seqEpoch_at->XW,args_tuple_getitem->X8,callWith_builtin1->YK,get?_update_seq->Zd,list_sort_plain->Ze,entry_list_sort->Zf,slicePart_none->ZA,slot_list_sort->ZG,args_list_sort->ZH,sortedHeap->Z2,tupleItemsOf_->Z9,subscriptTail->aaa,sortedHeap_at->aah,IsTup->aaE,lt_int->aaT,lt_str->aaU,le_int->aaX,keyKind'->aa4
open PyProof.Rows.F renaming plain_set_update_loop->Rq,entry_set_update_loop->Sj
open PyProof.Rows.IsTup renaming new->aas
open PySem renaming wpAny_bind->QI,wpAny_pure->QK,Value->QL,Shared->QM,starEach->QZ,wpAny->Q_,Program->Ra,Addr->Rb,model->Rf,mainGlobals->Rp,wpAny_holding->Rw,wpAny_newObj_type->Rx,FuncData->Ry,World->Rz,Expr->RA,Around->RC,wpAny_mono->RE,bootBuiltins->RJ,cellsFrom->RM,wpAny_call_entry->RO,sizeLine_eq->RX,wpAny_truthy_bool->R3,behindInMarks->Sd,foldedSetIterable->Se,SetTable->Sg,Heap->Sn,wpAny_setState_of->Ss,cLine->Sw,compareOp->Sx,wpAny_callSpecial?_slot->Sy,codeAny_builtin->Sz,backTo->SJ,codeAny->S6,wpAny_typeNameOfWhole_keyiter->S7,NameKind->S9,letOwnedTupleGo->Th,wpAny_loadPart'->Tj,wpAny_forIn_list->Tn,wpAny_askSetting->Tp,Stmt->TJ,sysModules->TN,assignEach->TQ,wpAny_passesOwn->TR,codeAny_mono->T5,wpAny_standAt->T6,mem_of_lookup->T7,plainId_quiet->T9,Scope->Um,standAt->Uo,binaryOp->Uy,hashInt->UH,isSubtype_type->UO,wpAny_of_eq->UW,swapsWith->U4,wpAny_Call_Name_kw->U6,attributeBase->U9,wpAny_attempt->U_,mem_of_lookup->Vc,wpAny_specialOf->Ve,pyNext->Vg,codeAny_compStart_list->Vm,sliceBounds->Vp,wpAny_pyIter_list->Vq,wpAny_storeSet_of->Vw,compTurn->VC,wpAny_typeOf->VF,builtinLookup_eq_fast->VI,Builtin->VL,wpAny_isInstance->VR,wpAny_execs_nil->V3,keywordEach->V5,Keyword->V6,wpAny_updateSeq->V_,wpAny_setEntries_of->Wb,codeAny_of_tree->Wf,wpAny_setField_rec->Wm,wpAny_fieldsOf->Wo,firstArgMember->Wq,Paired->Wt,pyIter->Wv,wpAny_rule->Wy,searchCouldBeSeen->WB,wpAny_pyIter_slot->WD,wpAny_dictEntries->WG,swapsWithSole->WI,Comprehension->WR,wpAny_pyHash_int->WT,noFill_tuple_add->WU,checkBuiltinCall->WV,richCompare_meets_room->W3,codeAny_compStart_dict->W6,wpAny_isTrue_Compare1->W8,inplaceOp->W_,DictEntry->Xc,setAddHashed->Xi,typeLookup_type->Xj,isSubtype->Xk,wpAny_dictEpoch->Xp,wpAny_isOneOf_keyiter->Xq,wpAny_loadName_local->Xs,codeAny_call_builtin->Xw,isTrue->XG,wpAny_runValue->XI,wpAny_seqItems->XJ,wpAny_loadName_cell->XM,swappedStores->X0,seq_tuple_add->X5,IsPart->X6,seqIndex?->X_,backToKw->Yb,wpAny_pyIter_tuple->Yg,wpAny_newList->Yh,slot_dict_contains->Yn,intKind->Yr,wpAny_call->Ys,getItem->Yu,wpAny_sequenceKey->Yv,slot_list_getitem->Yw,call_meets->Yx,callerA->Yy,ofAClassStatement->YJ,concat_meets->YL,wpAny_execs_cons->YR,GenState->YY,bindArgs->YZ,PassesOwn->Y5,Result->Y6,BindsTo->Y7,wpAny_field->Y8,pushCells->Zg,pushCells_keeps->Zh,pickOrder->Zl,noteFrame->Zp,theTreesLotGoes->Zq,compStart->Zs,theWindowsPlace->Zt,recursionLimit->Zz,wpAny_newTuple->ZF,newFunctionEnv->ZI,setAddHashedIn->ZL,entryFor_alias->ZM,isSubtype_stop->ZN,wpAny_setField->ZP,entryOfKey->ZQ,builtinsNs->ZR,wpAny_Name->ZS,wpAny_load->ZT,rawInt->ZU,call->ZW,isInstance->ZY,reduceHash->ZZ,setsByText->Z3,intKind_is->Z5,rangeSize_one->Z7,intBits_le_64->Z8,evalPart_none->Z_,call_list_seq->aac,setSearchFrom->aak,wpAny_handled->aal,wpAny_notedAt->aam,atKey->aao,compTurn_list->aap,storeName->aar,WalksS->aax,bindL->aaG,bindC->aaH,CellsOk->aaV,Operator->aaZ,Params->aa2,entryFor->aa5,Model->aa6,Fin->abi
open PySem.Around renaming under_plainId->R6
open PySem.AutoSeq1 renaming sub_tuple_tuple->UY
open PySem.Builtin.Dict renaming showsAll->Xo,dictSlotNone->ZO
open PySem.Builtin.Dict_items renaming ownsTuple->V0
open PySem.Builtin.Frozenset renaming sizeOf->WE,updateFrom->Y3,newClass->Zx
open PySem.Builtin.List renaming listTooLong->S4,listLengthHint->Wc,listExtendWith->We,listSameRef->Z4
open PySem.Builtin.Range renaming rangeSize->WJ
open PySem.Builtin.Slice renaming slicePlaces->Tw,sliceAdjust->UL,sliceApplied->Wh,slicePartIndex->Y0,sliceFields->ZC
open PySem.Builtin.Str renaming tooLong->XR
open PySem.Builtin.Tuple renaming tupleHashOf->R4,tupleExact->TV,tupleItemsOf->UG,tupleCompareSizes->Vr,tupleIsExact->Zw
open PySem.Calls renaming Name_function_global->Wg
open PySem.Challenge renaming rw_pickalike_k31_layers_walked->RN,pw_pickalike_k31_layers_walked->Sm
open PySem.CmpOp renaming NotIn->aaF,In->abl
open PySem.Env renaming kindOf->aa8
open PySem.Expr renaming Call->abj
open PySem.F renaming slot_dict_keyiterator_next->Sv,plainAttrs_list->Tc,called_set->Uw,slot_tuple_hash->UD,args_tuple_add_2->UX,slot_list_append->U0,type_list_append->U1,entry_tuple_add->U8,slot_tuple_add->Vh,plain_list_iadd->Vs,args_dict_keyiterator_next_1->VJ,entry_dict_keyiterator_next->VV,attrBase_ValueError->V8,entry_proto_collect->Xe,plain_proto_collect->Xf,args_list_extend_2->Xu,entry_list_extend->XQ,slot_list_extend->Yc,entry_list_iadd->YF,slot_dict_iter->YX,slot_set_iter->Zm,plain_set_new->Zn
open PySem.Heap renaming get?_push_of_some->QU,get?_push_size->Q2,lt_size->Q5,get?_update_self->Sa,SameBut->SE,size_push->Ui,get?_update_other->Vj,get?_update_ne->XU,size_update->YW,ExtBut->aaW
open PySem.Heap.IsList renaming push->YV
open PySem.Heap.IsSliceOf renaming new->aa0
open PySem.Heap.SameBut renaming update->So,refl->aa_
open PySem.IsL renaming update->abb
open PySem.Moved renaming trans->XX
open PySem.NameKind renaming free->R8,cell->Vb
open PySem.Obj renaming mapSeq->S3,putSet->WC,data_mapFields->Yo,mapFields->aaq
open PySem.Paired renaming length->Z6
open PySem.PassesOwn renaming leaving->YE,never->Zb
open PySem.SeqAt renaming EqAt->S0,ne_of_list_tuple->W0
open PySem.SeqAt.EqAt renaming same->Xb,int_str->XY,str_int->XZ,int_int->X4,of_refs->Ye,tuple_list->aau,list_tuple->aav,none_bool->aaz,bool_none->aaA,bool_bool->aaB,none_int->aaI,none_str->aaJ,bool_int->aaK,bool_str->aaL,int_none->aaM,int_bool->aaN,str_none->aaO,str_bool->aaP,str_str->aa1
open PySem.SeqAt.RcAt renaming tuples->YA,lists->YT,lists_lengths->Z0
open PySem.SeqAt.RcNeAt renaming tuples->aaS,lists->aa3
open PySem.SetTable renaming insertAt->Su,sizeAbove->SA,below->UP,grown->VB,tooFull->VS,advance->WY,fill->Ym,runEnd->Zj,turns->ZK
open PySem.Shared renaming TypeIs->WQ
open PySem.Str renaming ofString->VE,length->ZV
open PySem.Value renaming none->RU,bool->TM,ref->U3,type->Vn,builtin->WK,notImplemented->Xx,int->Y4,str->abf
open PySem.Value.ref renaming inj->abn
open PySem.W renaming Frag->QJ,nsIn->RG,mg_none_of->RT,fnOf->SG,kia_one->SY,kas_desc->Te,kas_place->Tr,findIn->TF,keepIn->Ug,mroIn->UA,kas_sort->UB,InstAt->UM,clsIn->Va,codeIn->Vy,kas_rev->VN,kas_asc->VO,mg_of->V1,findObj->V7,methodObj->Wu,cellsFrom_some->WZ,OpenLaw->Xd,looks_findIn->Xv,kitOne->XH,callWith_K->X3,specialIn->Yz,kitx_dict->YC,kas_descPart->YM,takesIn->Y9,kitMeta->Y_,kas_count->Zc,notCls->ZD,WalkO->aad,kas_bin->aaf,kat_cons->aag,kas_tail3->aaw
open PySem.W.Hook renaming obs->abd,val->abe
open PySem.W.OpenLaw renaming wellSaid->ZX
open PySem.W.RowW renaming records->aaC
open PySem.W.WData renaming int->abg
open PySem.W.WShape renaming has->aa7
open PySem.Walks renaming list->Z1
open PySem.pickOrder renaming go->YQ
open Subtype renaming ext->WS
open Sum renaming inl->Yp,inr->Yq
open True renaming intro->Xr
set_option Elab.async false
set_option linter.all false
set_option autoImplicit true
set_option relaxedAutoImplicit true
set_option maxRecDepth 100000
namespace L2
open PySem PySem.Spec PyProof.Rows
abbrev Key:=Sum Int Str
noncomputable def Gj:Key->QL->Bool
 | .inl k,v=>Value.isInt k v
 | .inr x,v=>Value.isStrOf x v
noncomputable def M7 (w:Rz):Key->Int
 | .inl k=>UH k
 | .inr x=>hashStr w x
theorem dc:∀{k:Key}{v:QL},Gj k v=true->(∃i t,k=Yp i/\v=Y4 i t)\/(∃x t,k=Yq x/\v=abf x t)
 | .inl i,v,h=>by obtain ⟨t,e⟩:=Value.isInt_shape (k:=i) (v:=v) h;exact .inl ⟨i,t,rfl,e⟩
 | .inr x,v,h=>by obtain ⟨t,e⟩:=Value.isStrOf_shape (x:=x) (v:=v) h;exact .inr ⟨x,t,rfl,e⟩
theorem JY (a b:Int):decide ((Yp a:Key)=Yp b)=(a == b):=by
 by_cases e:a=b
 ·subst e;simp
 ·have h:¬(Yp a:Key)=Yp b:=λq=>e (Sum.inl.inj q);rw [decide_eq_false h];exact (beq_eq_false_iff_ne.mpr e).symm
theorem J_ (a b:Str):decide ((Yq a:Key)=Yq b)=decide (a=b):=by
 by_cases e:a=b
 ·subst e;simp
 ·have h:¬(Yq a:Key)=Yq b:=λq=>e (Sum.inr.inj q);rw [decide_eq_false h,decide_eq_false e]
theorem JZ (a:Int) (b:Str):decide ((Yp a:Key)=Yq b)=false:=decide_eq_false (λq=>nomatch q)
theorem J6 (a:Str) (b:Int):decide ((Yq a:Key)=Yp b)=false:=decide_eq_false (λq=>nomatch q)
noncomputable def uB (prog:Ra) (w:Rz):PySem.KeyKind prog w Key where
 is:=Gj
 hash:=M7 w
 inj:=λv a b ha hb=>by
  rcases dc ha with ⟨i,t,rfl,rfl⟩ | ⟨x,t,rfl,rfl⟩
  ·rcases dc hb with ⟨j,u,rfl,e⟩ | ⟨y,u,rfl,e⟩
   ·injection e with e1 _;rw [e1]
   ·exact nomatch e
  ·rcases dc hb with ⟨j,u,rfl,e⟩ | ⟨y,u,rfl,e⟩
   ·exact nomatch e
   ·injection e with e1 _;rw [e1]
 byValue:=λk v h=>by rcases dc h with ⟨i,t,rfl,rfl⟩ | ⟨x,t,rfl,rfl⟩ <;> rfl
 pyHash:=λhv h=>by
  rcases dc hv with ⟨i,t,rfl,rfl⟩ | ⟨x,t,rfl,rfl⟩
  ·exact WT h
  ·exact wpAny_pyHash_str h
 eqBool:=λhu hv h=>by
  rcases dc hu with ⟨i,t,rfl,rfl⟩ | ⟨x,t,rfl,rfl⟩
  ·rcases dc hv with ⟨j,u,rfl,rfl⟩ | ⟨y,u,rfl,rfl⟩
   ·rw [JY] at h;exact wpAny_eqBool_int h
   ·rw [JZ] at h;exact XY i t y u _ _ _ _ h
  ·rcases dc hv with ⟨j,u,rfl,rfl⟩ | ⟨y,u,rfl,rfl⟩
   ·rw [J6] at h;exact XZ x t j u _ _ _ _ h
   ·rw [J_] at h;exact wpAny_eqBool_str h
 «strs»:=λk x t v h=>by
  rcases dc h with ⟨i,u,rfl,e⟩ | ⟨y,u,rfl,e⟩
  ·exact nomatch e
  ·injection e with e1 _
   subst e1;cases v <;> rfl
inductive V where
 | non | bl (b:Bool) | int (i:Int) | str (x:Str) | byt (b:Array UInt8) | flt (b:UInt64) | ref (a:Rb) | ty (n:String)
 deriving DecidableEq
noncomputable def RelV:V->QL->Prop
 | .non,u=>u=RU
 | .bl b,u=>u=TM b
 | .int i,u=>∃t,u=Y4 i t
 | .str x,u=>∃t,u=abf x t
 | .byt b,u=>∃t,u=Value.bytes b t
 | .flt b,u=>∃t,u=Value.float b t
 | .ref a,u=>u=U3 a
 | .ty n,u=>u=Vn n
abbrev Vals:List V->List QL->Prop:=Wt RelV
theorem Vals.length {xs:List V}{us:List QL}(r:Vals xs us):xs.length=us.length:=Z6 r
theorem Vals.get:∀{xs:List V}{us:List QL}{i:Nat}{x:V},Vals xs us->xs[i]?=some x->∃u,us[i]?=some u/\RelV x u
 | _,_,_,_,.nil,e=>by simp at e
 | _,_,0,_,.cons r _,e=>by simp at e;subst e;exact ⟨_,rfl,r⟩
 | _,_,i + 1,x,.cons _ t,e=>by obtain ⟨u,h1,h2⟩:=Vals.get (i:=i) (x:=x) t (by simpa using e);exact ⟨u,by simpa using h1,h2⟩
theorem Vals.set {x:V}{u:QL}(r:RelV x u):∀{xs:List V}{us:List QL}(i:Nat),Vals xs us->Vals (xs.set i x) (us.set i u)
 | _,_,_,.nil=>.nil
 | _,_,0,.cons _ t=>.cons r t
 | _,_,i + 1,.cons q t=>.cons q (Vals.set r i t)
theorem Vals.append:∀{xs ys:List V}{us ws:List QL},Vals xs us->Vals ys ws->Vals (xs++ys) (us++ws)
 | _,_,_,_,.nil,s=>s
 | _,_,_,_,.cons r t,s=>.cons r (Vals.append t s)
theorem Vals.take:∀{xs:List V}{us:List QL}(n:Nat),Vals xs us->Vals (xs.take n) (us.take n)
 | _,_,0,_=>.nil
 | _,_,_ + 1,.nil=>.nil
 | _,_,n + 1,.cons r t=>.cons r (Vals.take n t)
theorem Vals.drop:∀{xs:List V}{us:List QL}(n:Nat),Vals xs us->Vals (xs.drop n) (us.drop n)
 | _,_,0,r=>r
 | _,_,_ + 1,.nil=>.nil
 | _,_,n + 1,.cons _ t=>Vals.drop n t
noncomputable def Ji:Option V->Option QL->Prop
 | some v,some u=>RelV v u
 | none,none=>True
 | _,_=>False
def KV {κ:Type}:List (κ×V)->List (κ×QL)->Prop:=Wt λ(p:κ×V) (q:κ×QL)=>p.1=q.1/\RelV p.2 q.2
noncomputable def kV:Key->V
 | .inl i=>.int i
 | .inr x=>.str x
inductive HO where
  | lst (xs:List V)
  | tup (xs:List V)
  | dK (QG:List (Key×V)) | dT (QG:List (List Key×V))
  | set (S:Int->Bool) (n:Nat)
  | ins (C dx:Rb) (fs:List (Str×V))
  | own (x:Rb)
  | xd (fs:List (Str×V))
  | met (f x:Rb)
  | rng (lo hi:Int)
  | frz (o:Obj) (u:HO)
  | tbl (ps:Array QL)
  | ext (φ:Sn->Prop)
abbrev Hp:=Rb->Option HO
def upd (H:Hp) (a:Rb) (o:HO):Hp:=λb=>if b=a then some o else H b
theorem bB {H:Hp}:upd H a o a=some o:=by unfold upd;rw [if_pos rfl]
theorem aQ {H:Hp}(h:b≠a):upd H a o b=H b:=by unfold upd;rw [if_neg h]
theorem eu {H:Hp}(h:H a=some o) (h':H b=none):a≠b:=by intro e;subst e;rw [h] at h';cases h'
section
variable (P:Ra) (w:Rz)
noncomputable def cg (H:Hp) (h:Sn) (a:Rb):HO->Prop
 | .lst xs=>xs.length<=sizeLine/\∃(Qz:List QL) (n:Nat),Vals xs Qz/\h.get? a=some {cls:=.type "list",data:=.seq Qz.toArray n}
 | .tup xs=>xs.length<=sizeLine/\∃Qz:List QL,Vals xs Qz/\aaE h a Qz.toArray
 | .dK QG=>QG.length<=sizeLine/\(a == TN)=false/\∃vs,KV QG vs/\h.DictOf (uB P w) a vs
 | .dT QG=>QG.length<=sizeLine/\(a == TN)=false/\∃xs:List (List Key×Rb×QL),
   Wt (λ(p:List Key×V) (q:List Key×Rb×QL)=>p.1=q.1/\H q.2.1=some (.tup (p.1.map kV))/\RelV p.2 q.2.2) QG xs/\
   ∃o es ep,h.get? a=some o/\o.ExactDict/\o.data=.dict es ep/\es.toList=xs.map (ZQ (tupleKind (uB P w)))/\(xs.map (·.1)).Nodup
 | .set S n=>h.SetOf (Yr P w) a S n
 | .ins C dx fs=>H dx=some (.own a)/\fs.length<=1000/\dx≠a/\h.get? a=some (W.instObj C dx)/\
   ∃mA,h.Ns1 dx mA/\(∀f,Ji (fs.lookup f) (mA f))/\PySem.Within mA (fs.map (·.1))
 | .own _=>∃o,h.get? a=some o
 | .xd fs=>∃mA,h.Ns1 a mA/\∀f,Ji (fs.lookup f) (mA f)
 | .rng lo hi=>∃t u v,h.get? a=some {cls:=.type "range",data:=.fields #[.int lo t,.int hi u,.int 1 v]}
 | .frz o u=>h.get? a=some o/\cg H h a u
 | .tbl ps=>h.get? a=some {cls:=.none,data:=.fields ps}
 | .met f x=>h.get? a=some (Wu (.ref f) (.ref x))
 | .ext φ=>φ h/\(∃o,h.get? a=some o)/\∀h1 h2:Sn,φ h1->(∀o,h1.get? a=some o->h2.get? a=some o)->φ h2
def fE (H:Hp) (h:Sn):Prop:=∀a o,H a=some o->cg P w H h a o
end
section
variable {P:Ra}{w:Rz}{H H':Hp}{h h':Sn}{a:Rb}{o:HO}
theorem cg.lt (x:cg P w H h a o):a < h.objs.size:=by
 cases o with
 | lst xs=>obtain ⟨_,_,_,_,e⟩:=x;exact Q5 e
 | tup xs=>obtain ⟨_,_,_,p⟩:=x;exact p.lt
 | dK QG=>obtain ⟨_,_,_,_,o,_,_,e,_⟩:=x;exact Q5 e
 | dT QG=>obtain ⟨_,_,_,_,o,_,_,e,_⟩:=x;exact Q5 e
 | set S n=>obtain ⟨o,_,_,_,e,_⟩:=x;exact Q5 e
 | ins C dx fs=>obtain ⟨_,_,_,e,_⟩:=x;exact Q5 e
 | own y=>obtain ⟨_,e⟩:=x;exact Q5 e
 | xd fs=>obtain ⟨_,⟨_,_,_,e,_⟩,_⟩:=x;exact Q5 e
 | rng lo hi=>obtain ⟨_,_,_,e⟩:=x;exact Q5 e
 | frz ob u=>obtain ⟨e,_⟩:=x;exact Q5 e
 | tbl ps=>exact Q5 (show h.get? a=some _ from x)
 | met f y=>exact Q5 (show h.get? a=some _ from x)
 | ext φ=>obtain ⟨_,⟨_,e⟩,_⟩:=x;exact Q5 e
theorem Wt.mapP {α β:Type}{F G:α->β->Prop}:∀{l₁:List α}{l₂:List β},Wt F l₁ l₂->(∀a b,F a b->G a b)->Wt G l₁ l₂
 | _,_,.nil,_=>.nil
 | _,_,.cons r t,f=>.cons (f _ _ r) (Wt.mapP t f)
theorem cg.stay (x:cg P w H h a o) (k:∀b u,(b=a\/H b=some (.own a))->h.get? b=some u->h'.get? b=some u)
  (ho:∀b,H b=some (.own a)->H' b=some (.own a)) (ht:∀b xs,H b=some (.tup xs)->H' b=some (.tup xs)):cg P w H' h' a o:=by
 induction o with
 | lst xs=>obtain ⟨z,Qz,n,r,e⟩:=x;exact ⟨z,Qz,n,r,k _ _ (.inl rfl) e⟩
 | tup xs=>obtain ⟨z,Qz,r,ob,e,c⟩:=x;exact ⟨z,Qz,r,ob,k _ _ (.inl rfl) e,c⟩
 | dK QG=>obtain ⟨z,y,vs,r,ob,es,ep,e,c⟩:=x;exact ⟨z,y,vs,r,ob,es,ep,k _ _ (.inl rfl) e,c⟩
 | dT QG=>
  obtain ⟨z,y,xs,r,ob,es,ep,e,c⟩:=x;exact ⟨z,y,xs,Wt.mapP r λp q z=>⟨z.1,ht _ _ z.2.1,z.2.2⟩,ob,es,ep,k _ _ (.inl rfl) e,c⟩
 | set S n=>obtain ⟨ob,es,ep,t,e,c⟩:=x;exact ⟨ob,es,ep,t,k _ _ (.inl rfl) e,c⟩
 | ins C dx fs=>
  obtain ⟨d,z,ne,e,mA,⟨od,es,ep,e2,c⟩,r⟩:=x;exact ⟨ho _ d,z,ne,k _ _ (.inl rfl) e,mA,⟨od,es,ep,k _ _ (.inr d) e2,c⟩,r⟩
 | own y=>obtain ⟨ob,e⟩:=x;exact ⟨ob,k _ _ (.inl rfl) e⟩
 | xd fs=>obtain ⟨mA,⟨od,es,ep,e,c⟩,r⟩:=x;exact ⟨mA,⟨od,es,ep,k _ _ (.inl rfl) e,c⟩,r⟩
 | rng lo hi=>obtain ⟨t,u,v,e⟩:=x;exact ⟨t,u,v,k _ _ (.inl rfl) e⟩
 | frz ob u ih=>obtain ⟨e,q⟩:=x;exact ⟨k _ _ (.inl rfl) e,ih q⟩
 | tbl ps=>
  have e:h.get? a=some {cls:=.none,data:=.fields ps}:=x;show h'.get? a=some {cls:=.none,data:=.fields ps};exact k a _ (.inl rfl) e
 | met f y=>
  have e:h.get? a=some (Wu (.ref f) (.ref y)):=x;show h'.get? a=some (Wu (.ref f) (.ref y));exact k a _ (.inl rfl) e
 | ext φ=>obtain ⟨p,⟨o,e⟩,st⟩:=x;exact ⟨st _ _ p λo q=>k _ _ (.inl rfl) q,⟨o,k _ _ (.inl rfl) e⟩,st⟩
theorem fE.lt (x:fE P w H h) (e:H a=some o):a < h.objs.size:=(x a o e).lt
theorem fE.fresh (x:fE P w H h) (e:h.objs.size<=a):H a=none:=by
 cases q:H a with
 | none=>rfl
 | some u=>exact absurd (Rh (x.lt q) e) (SS _)
theorem fE.kept (x:fE P w H h) (k:∀b u,h.get? b=some u->h'.get? b=some u):fE P w H h':=λa o e=>
 (x a o e).stay (λb u _ q=>k b u q) (λ_ q=>q) λ_ _ q=>q
theorem fE.laid (x:fE P w H h) (k:∀b u,h.get? b=some u->h'.get? b=some u) (hp:h.objs.size<=a) (new:cg P w (upd H a o) h' a o):fE P w (upd H a o) h':=λb u e=>by
 have hn:=x.fresh hp;by_cases hb:b=a
 ·subst hb;rw [bB] at e;cases e;exact new
 ·rw [aQ hb] at e;exact (x b u e).stay (λc v _ q=>k c v q) (λc q=>by rw [aQ (eu q hn)];exact q) λc xs q=>by rw [aQ (eu q hn)];exact q
end
def Rd (H:Hp) (a:Rb) (u:HO):Prop:=H a=some u\/∃o,H a=some (.frz o u)
theorem Rd.ok {H:Hp}(r:Rd H a u) (x:fE P w H h):cg P w H h a u:=by
 rcases r with r | ⟨o,r⟩
 ·exact x a u r
 ·obtain ⟨_,q⟩:=x a _ r;exact q
noncomputable def F1:Option HO->Prop
 | some (.lst _)=>True
 | some (.dK _)=>True
 | some (.dT _)=>True
 | some (.set _ _)=>True
 | some (.ins _ _ _)=>True
 | some (.ext _)=>True
 | _=>False
section
variable {P:Ra}{w:Rz}{H:Hp}{h h':Sn}{x e:Rb}{o':HO}
theorem fE.write (ok:fE P w H h) (mu:F1 (H x)) (he:e=x\/H e=some (.own x)) (k:∀b u,b≠e->h.get? b=some u->h'.get? b=some u) (O5:∃u,h'.get? e=some u)
  (new:cg P w (upd H x o') h' x o'):fE P w (upd H x o') h':=λb u q=>by
 have nown:∀c y,H c=some (.own y)->c≠x:=λc y r z=>by subst z;rw [r] at mu;exact mu
 have ntup:∀c xs,H c=some (.tup xs)->c≠x:=λc xs r z=>by subst z;rw [r] at mu;exact mu
 by_cases hb:b=x
 ·subst hb;rw [bB] at q;cases q;exact new
 ·rw [aQ hb] at q;by_cases OW:b=e
  ·have q':H b=some (.own x):=by
    rcases he with z | z
    ·exact absurd (OW.trans z) hb
    ·rw [OW];exact z
   rw [q] at q';cases q';obtain ⟨v,hv⟩:=O5;exact ⟨v,by rw [OW];exact hv⟩
  ·refine (ok b u q).stay (λc v hc r=>k c v ?_ r) (λc r=>by rw [aQ (nown c b r)];exact r) λc xs r=>by rw [aQ (ntup c xs r)];exact r
   rcases hc with rfl | hc
   ·exact OW
   ·rintro rfl;rcases he with z | z
    ·exact nown c b hc z
    ·rw [hc] at z;cases z;exact hb rfl
end
structure Un (fs ex:List Rb) (H H':Hp) (h h':Sn):Prop where
 keep:∀b o,h.get? b=some o->H b=none->b∉fs->b∉ex->h'.get? b=some o
 slot:∀b o,h.get? b=some o->H b=none->b∈fs->b∉ex->∃sl,h'.get? b=some {o with slots:=sl}
 free:∀b o,h.get? b=some o->H b=none->b∉ex->H' b=none
 there:∀b o,h.get? b=some o->b∉ex->∃o',h'.get? b=some o'
 tups:∀b xs,H b=some (.tup xs)->H' b=some (.tup xs)
 frzs:∀b o u,H b=some (.frz o u)->H' b=some (.frz o u)
 tbls:∀b ps,H b=some (.tbl ps)->∃more,H' b=some (.tbl (ps++more))
section
variable {fs fs' ex ex':List Rb}{H H1 H2:Hp}{h h1 h2 h':Sn}{a x e:Rb}{o:HO}
theorem Un.any (u:Un fs ex H H1 h h1) (q:h.get? b=some ob) (n:H b=none) (hx:b∉ex):∃sl,h1.get? b=some {ob with slots:=sl}:=by
 by_cases hb:b∈fs
 ·exact u.slot b ob q n hb hx
 ·exact ⟨ob.slots,u.keep b ob q n hb hx⟩
theorem Un.kept (k:∀b u,h.get? b=some u->h'.get? b=some u):Un fs ex H H h h':=
 ⟨λb ob q _ _ _=>k b ob q,λb ob q _ _ _=>⟨ob.slots,k b ob q⟩,λ_ _ _ n _=>n,λb ob q _=>⟨ob,k b ob q⟩,λ_ _ q=>q,λ_ _ _ q=>q,λ_ ps q=>⟨#[],by rw [q];simp⟩⟩
theorem Un.refl:Un fs ex H H h h:=Un.kept λ_ _ q=>q
theorem Un.laid (k:∀b u,h.get? b=some u->h'.get? b=some u) (hp:h.objs.size<=a) (hn:H a=none):Un fs ex H (upd H a o) h h' where
 keep:=λb u q _ _ _=>k b u q
 slot:=λb u q _ _ _=>⟨u.slots,k b u q⟩
 free:=λb u q n _=>by rw [aQ (Rl (Rh (Q5 q) hp))];exact n
 there:=λb u q _=>⟨u,k b u q⟩
 tups:=λb xs q=>by rw [aQ (eu q hn)];exact q
 frzs:=λb u xs q=>by rw [aQ (eu q hn)];exact q
 tbls:=λb ps q=>⟨#[],by rw [aQ (eu q hn),q];simp⟩
theorem Un.write (mu:F1 (H x)) (he:e=x\/H e=some (.own x)) (k:∀b u,b≠e->h.get? b=some u->h'.get? b=some u) (O5:∃u,h'.get? e=some u):Un fs ex H (upd H x o) h h':=by
 have hx:∀b,H b=none->b≠x:=λb n z=>by subst z;rw [n] at mu;exact mu
 have hb:∀b,H b=none->b≠e:=λb n z=>by
  subst z;rcases he with r | r
  ·exact hx b n r
  ·rw [n] at r;cases r
 have hm:∀b u,H b=some u->¬F1 (some u)->b≠x:=λb u q nm z=>by subst z;rw [q] at mu;exact nm mu
 refine ⟨λb u q n _ _=>k b u (hb b n) q,λb u q n _ _=>⟨u.slots,k b u (hb b n) q⟩,λb u q n _=>by rw [aQ (hx b n)];exact n,λb u q _=>?_,
  λb xs q=>by rw [aQ (hm b _ q λz=>z)];exact q,λb u xs q=>by rw [aQ (hm b _ q λz=>z)];exact q,λb ps q=>⟨#[],by rw [aQ (hm b _ q λz=>z),q];simp⟩⟩
 by_cases OW:b=e
 ·subst OW;exact O5
 ·exact ⟨u,k b u OW q⟩
end
def GQ (h:Sn) (H:Hp):List Rb:=(QS h.objs.size).filter λa=>(H a).isSome
def mP (h:Sn) (H:Hp):Sn:=W.hideAll h (GQ h H)
theorem CT (h:Sn) (H:Hp):(mP h H).objs.size=h.objs.size:=W.hideAll_size _ _
theorem EB {h:Sn}{H:Hp}(e:h.get? b=some o) (n:H b=none):(mP h H).get? b=some o:=
 W.hideAll_get _ e λhm=>by have q:(H b).isSome=true:=(RD.mp hm).2;rw [n] at q;simp at q
theorem HR {h:Sn}{H:Hp}(e:(mP h H).get? b=some o):h.get? b=some o/\H b=none:=by
 have e':h.get? b=some o:=W.of_hideAll (GQ h H) e;refine ⟨e',?_⟩;cases q:H b with
 | none=>rfl
 | some x=>
  have hm:b∈GQ h H:=RD.mpr ⟨Ro.mpr (Q5 e'),by simp [q]⟩;have z:(mP h H).get? b=none:=W.hideAll_none (GQ h H) hm;rw [z] at e;cases e
def GZ (g h:Sn) (L:Rb):List (Rb×Obj):=(QS h.objs.size).filterMap λa=>if a=L\/(g.get? a).isSome=true then none else (h.get? a).map λo=>(a,o)
def rest (g h:Sn) (L d:Rb):List (Rb×Obj):=(GZ g h L).filter λp=>decide (p.1≠d)
structure Mod (K:QJ) (mg:Str->Option QL) (base:Sn):Prop where
 kin:K.In base
 glob:base.Ns Rp mg
 blt:∃mb,base.Ns ZR mb/\∀x:Str,x≠"__name__"->mb x=RJ x
 nolimit:base.NoLimit
structure Cx where
 prog:Ra
 w:Rz
 K:QJ
 mg:Str->Option QL
 base:Sn
 A:RC
 N:List Str
 s₀:QM
 H₀:Hp
 env:Env
 outer:List Env
 stack:List Env
 ex:List Rb
 fn:Str->Bool
 calm:Bool
 pn:List (Rb×Obj)
 xe:QL->QM->Prop
def frs (l:List Env):List Rb:=l.filterMap (·.frame)
abbrev Cx.fs (X:Cx):List Rb:=frs X.outer
def nW (sc:Um) (x:Str):Prop:=sc.names.lookup x=some .local\/sc.names.lookup x=some .cell\/sc.names.lookup x=some .free
def Loc (sc:Um) (x:Str):Prop:=sc.names.lookup x=some .local\/sc.names.lookup x=some .cell
noncomputable def Look (env:Env) (h:Sn) (m:Str->Option QL) (x:Str) (u:QL):Prop:=
 (env.kindOf x=some .local/\m x=some u)\/((env.kindOf x=some .cell\/env.kindOf x=some .free)/\∃c,env.cells.lookup x=some c/\h.IsCell c (some u))
structure Cx.Ok (X:Cx):Prop where
 mod:Mod X.K X.mg X.base
 kind:X.env.scope.kind=.function
 glob:X.env.globals=Rp
 blt:X.env.builtins=ZR
 above:X.s₀.heap.objs.size<=X.env.locals
 inj:∀x y c,X.env.cells.lookup x=some c->X.env.cells.lookup y=some c->x=y
 has:∀x,(X.env.kindOf x=some .cell\/X.env.kindOf x=some .free)->∃c,X.env.cells.lookup x=some c
 cab:∀x c,X.fn x=true->X.env.cells.lookup x=some c->X.s₀.heap.objs.size<=c
 hd:X.calm=true->X.A.handled=none
 frames:X.A.frames=some X.stack
 stk:X.stack=X.outer\/(X.stack=X.env::X.outer/\X.env.frame=some X.env.locals)
 exf:∀b∈X.ex,b≠X.env.locals/\∀x c,X.env.cells.lookup x=some c->c≠b
 bs:∀b o,X.base.get? b=some o->X.s₀.heap.get? b=some o/\X.H₀ b=none
 bsz:X.base.objs.size<=X.s₀.heap.objs.size
 noex:∀b o,X.base.get? b=some o->b∉X.ex
 exfs:∀b∈X.ex,b∉X.fs
 funs:X.s₀.heap.FunFrames X.base X.outer
 frf:∀b∈X.fs,X.H₀ b=none
structure Inv (X:Cx) (Qx:List (Rb×Obj)) (σ:List (Option V)) (H:Hp) (s:QM):Prop where
 ok:X.Ok
 os:s.os=X.s₀.os
 bare:W7 s.gens
 base:Un X.fs X.ex X.H₀ H X.s₀.heap s.heap
 loc:∃m,s.heap.Ns X.env.locals m/\∀(i:Nat) (x:Str) (v:V),X.N[i]?=some x->σ[i]?=some (some v)->nW X.env.scope x->∃u,RelV v u/\Look X.env s.heap m x u
 cell:∀x c,X.env.cells.lookup x=some c->∃v,s.heap.IsCell c v
 free:H X.env.locals=none
 freeC:∀x c,X.env.cells.lookup x=some c->H c=none
 pin:∀p∈X.pn++Qx,s.heap.get? p.1=some p.2/\H p.1=none/\p.1≠X.env.locals/\p.1∉X.fs/\∀v,p.2.data≠.cell v
 hok:fE X.prog X.w H s.heap
 len:σ.length=X.N.length
section
variable {X:Cx}{Qx:List (Rb×Obj)}{σ:List (Option V)}{H H':Hp}{s:QM}{h':Sn}
theorem Cx.Ok.nofr (ok:X.Ok) (e:X.base.get? b=some o):b∉X.fs:=λhb=>by have:=(ok.funs.mem hb).1;rw [e] at this;cases this
theorem Inv.bs (I:Inv X Qx σ H s):∀b o,X.base.get? b=some o->s.heap.get? b=some o/\H b=none:=λb o e=>
 ⟨I.base.keep b o (I.ok.bs b o e).1 (I.ok.bs b o e).2 (I.ok.nofr e) (I.ok.noex b o e),I.base.free b o (I.ok.bs b o e).1 (I.ok.bs b o e).2 (I.ok.noex b o e)⟩
theorem Inv.bk (I:Inv X Qx σ H s):∀b o,X.base.get? b=some o->s.heap.get? b=some o:=λb o e=>(I.bs b o e).1
theorem Inv.mod (I:Inv X Qx σ H s):Mod X.K X.mg X.base:=I.ok.mod
theorem Inv.kIn (I:Inv X Qx σ H s):X.K.In s.heap:=I.ok.mod.kin.keeps I.bk
theorem Inv.lt (I:Inv X Qx σ H s):X.env.locals < s.heap.objs.size:=let ⟨_,hn,_⟩:=I.loc;hn.lt
theorem Inv.sz (I:Inv X Qx σ H s):X.s₀.heap.objs.size<=s.heap.objs.size:=Rr I.ok.above (VD I.lt)
theorem Inv.nofs (I:Inv X Qx σ H s) (h:s.heap.objs.size<=a):a∉X.fs:=λhb=>by obtain ⟨_,o,ho,_⟩:=I.ok.funs.mem hb;exact absurd (Rh (Q5 ho) (Rr I.sz h)) (SS _)
theorem Inv.cne (I:Inv X Qx σ H s):∀x c,X.env.cells.lookup x=some c->c≠X.env.locals:=λx c e z=>by obtain ⟨v,o,ho,hd⟩:=I.cell x c e;obtain ⟨m,⟨o',es,ep,ho',hd',_⟩,_⟩:=I.loc;rw [z,ho'] at ho;cases ho;rw [hd'] at hd;cases hd
theorem Inv.funs (I:Inv X Qx σ H s):s.heap.FunFrames X.base X.outer:=by
 have all:∀(l:List Env),(∀b∈frs l,b∈X.fs)->X.s₀.heap.FunFrames X.base l->s.heap.FunFrames X.base l:=by
  intro l
  induction l with
  | nil=>intro _ _;trivial
  | cons env r ih=>
   intro hs hl;obtain ⟨hk,⟨L,o,hf,hn,ho,hd⟩,hr⟩:=hl;have hL:L∈X.fs:=hs L (by unfold frs;rw [V2,hf];exact QV);obtain ⟨sl,e⟩:=I.base.slot L o ho (I.ok.frf L hL) hL λz=>I.ok.exfs L z hL;exact ⟨hk,⟨L,_,hf,hn,e,hd⟩,ih (λb hb=>hs b (by unfold frs;rw [V2,hf];exact QT _ hb)) hr⟩
 exact all X.outer (λ_ hb=>hb) I.ok.funs
theorem Inv.stack (I:Inv X Qx σ H s):s.heap.FunFrames X.base X.stack:=by
 rcases I.ok.stk with e | ⟨e,hf⟩
 ·rw [e];exact I.funs
 ·rw [e];obtain ⟨m,hn,_⟩:=I.loc;refine .cons (by rw [I.ok.kind];decide) hf hn ?_ I.funs;exact Heap.get?_none_of_le (Rr I.ok.bsz I.ok.above)
theorem Inv.stkSub (I:Inv X Qx σ H s):∀b∈frs X.stack,b∈X.env.locals::X.fs:=λb hb=>by
 rcases I.ok.stk with e | ⟨e,hf⟩
 ·rw [e] at hb;exact QT _ hb
 ·rw [e] at hb;unfold frs at hb;rw [V2,hf] at hb;exact hb
theorem Inv.stkFree (I:Inv X Qx σ H s):∀b∈frs X.stack,H b=none:=λb hb=>by
 rcases Q9.mp (I.stkSub b hb) with e | hb
 ·rw [e];exact I.free
 ·obtain ⟨_,o,ho,_⟩:=I.ok.funs.mem hb;exact I.base.free b o ho (I.ok.frf b hb) λz=>I.ok.exfs b z hb
theorem Inv.step {g':Array YY}{t':Nat}{d':Drawn}{ch:List Rb}(I:Inv X Qx σ H s)
  (hch:∀b∈ch,(b∈X.ex\/X.s₀.heap.objs.size<=b)/\b≠X.env.locals/\(∀x c,X.env.cells.lookup x=some c->c≠b)/\∀p∈X.pn++Qx,p.1≠b)
  (keep:∀b o,b≠X.env.locals->b∉X.fs->b∉ch->s.heap.get? b=some o->H b=none->h'.get? b=some o)
  (slot:∀b o,b≠X.env.locals->b∈X.fs->b∉ch->s.heap.get? b=some o->H b=none->∃sl,h'.get? b=some {o with slots:=sl}) (free:∀b o,b∉ch->s.heap.get? b=some o->H b=none->H' b=none)
  (there:∀b o,b∉ch->s.heap.get? b=some o->∃o',h'.get? b=some o')
  (tups:∀b xs,H b=some (.tup xs)->H' b=some (.tup xs)) (frzs:∀b o u,H b=some (.frz o u)->H' b=some (.frz o u)) (tbls:∀b ps,H b=some (.tbl ps)->∃more,H' b=some (.tbl (ps++more)))
  (ns:∀m,s.heap.Ns X.env.locals m->h'.Ns X.env.locals m) (hok:fE X.prog X.w H' h') (hg:W7 g'):
  Inv X Qx σ H' {s with heap:=h',gens:=g',drawn:=d',toks:=t'}:=by
 have neL:∀b o,X.s₀.heap.get? b=some o->b≠X.env.locals:=λb o e=>Rl (Rh (Q5 e) I.ok.above);have neC:∀b o,X.s₀.heap.get? b=some o->b∉X.ex->b∉ch:=λb o e hx hb=>by
  rcases (hch b hb).1 with z | z
  ·exact hx z
  ·exact absurd (Rh (Q5 e) z) (SS _)
 have cellK:∀x c,X.env.cells.lookup x=some c->∀v,s.heap.IsCell c v->h'.IsCell c v:=λx c e v ⟨o,ho,hd⟩=>by
  have nch:c∉ch:=λz=>(hch c z).2.2.1 x c e rfl;by_cases hc:c∈X.fs
  ·obtain ⟨sl,q⟩:=slot c o (I.cne x c e) hc nch ho (I.freeC x c e);exact ⟨_,q,hd⟩
  ·exact ⟨o,keep c o (I.cne x c e) hc nch ho (I.freeC x c e),hd⟩
 refine ⟨I.ok,I.os,hg,⟨λb o e n hb hx=>?_,λb o e n hb hx=>?_,λb o e n hx=>?_,λb o e hx=>?_,λb xs e=>tups b xs (I.base.tups b xs e),λb o xs e=>frzs b o xs (I.base.frzs b o xs e),λb ps e=>?_⟩,?_,λx c e=>?_,?_,λx c e=>?_,λp hp=>?_,hok,I.len⟩
 ·exact keep b o (neL b o e) hb (neC b o e hx) (I.base.keep b o e n hb hx) (I.base.free b o e n hx)
 ·obtain ⟨sl,e1⟩:=I.base.slot b o e n hb hx;obtain ⟨sl',e2⟩:=slot b _ (neL b o e) hb (neC b o e hx) e1 (I.base.free b o e n hx);exact ⟨sl',e2⟩
 ·obtain ⟨o',e1⟩:=I.base.there b o e hx;exact free b o' (neC b o e hx) e1 (I.base.free b o e n hx)
 ·obtain ⟨o',e1⟩:=I.base.there b o e hx;exact there b o' (neC b o e hx) e1
 ·obtain ⟨m1,e1⟩:=I.base.tbls b ps e;obtain ⟨m2,e2⟩:=tbls b _ e1;exact ⟨m1++m2,by rw [e2,Array.append_assoc]⟩
 ·obtain ⟨m,hn,hl⟩:=I.loc;refine ⟨m,ns m hn,λi x v e1 e2 e3=>?_⟩;obtain ⟨u,r,l⟩:=hl i x v e1 e2 e3;refine ⟨u,r,?_⟩;rcases l with l | ⟨k,c,e,z⟩
  ·exact .inl l
  ·exact .inr ⟨k,c,e,cellK x c e _ z⟩
 ·obtain ⟨v,z⟩:=I.cell x c e;exact ⟨v,cellK x c e v z⟩
 ·obtain ⟨m,⟨o,_,_,ho,_⟩,_⟩:=I.loc;exact free _ o (λz=>(hch _ z).2.1 rfl) ho I.free
 ·obtain ⟨v,o,ho,hd⟩:=I.cell x c e;exact free c o (λz=>(hch c z).2.2.1 x c e rfl) ho (I.freeC x c e)
 ·obtain ⟨e,n,ne,nf,d⟩:=I.pin p hp;have nch:p.1∉ch:=λz=>(hch p.1 z).2.2.2 p hp rfl;exact ⟨keep p.1 p.2 ne nf nch e n,free p.1 p.2 nch e n,ne,nf,d⟩
theorem Inv.un (I:Inv X Qx σ H s) (u:Un X.fs [] H H' s.heap h') (hok:fE X.prog X.w H' h'):Inv X Qx σ H' {s with heap:=h',toks:=t'}:=by
 obtain ⟨m,⟨o,es,ep,ho,r⟩,_⟩:=id I.loc;obtain ⟨sl,hL⟩:=u.any ho I.free (by simp);exact I.step (g':=s.gens) (d':=s.drawn) (ch:=[]) (λ_ z=>nomatch z) (λb o _ hb _ e n=>u.keep b o e n hb (by simp)) (λb o _ hb _ e n=>u.slot b o e n hb (by simp)) (λb o _ e n=>u.free b o e n (by simp)) (λb o _ e=>u.there b o e (by simp)) u.tups u.frzs u.tbls (λm' hm=>by
  obtain ⟨o',es',ep',ho',r'⟩:=hm;rw [ho] at ho';cases ho';exact ⟨_,es',ep',hL,r'⟩) hok I.bare
theorem Inv.call (I:Inv X Qx σ H s) (u:Un (frs X.stack) ch H H' s.heap h') (hok:fE X.prog X.w H' h') (hg:W7 g')
 (hch:∀b∈ch,(b∈X.ex\/X.s₀.heap.objs.size<=b)/\b≠X.env.locals/\(∀x c,X.env.cells.lookup x=some c->c≠b)/\∀p∈X.pn++Qx,p.1≠b):
  Inv X Qx σ H' {s with heap:=h',gens:=g',drawn:=d',toks:=t'}:=by
 obtain ⟨m,⟨o,es,ep,ho,r⟩,_⟩:=id I.loc;obtain ⟨sl,hL⟩:=u.any ho I.free λz=>(hch _ z).2.1 rfl;exact I.step (ch:=ch) hch (λb o hL hb hc e n=>u.keep b o e n (λz=>(Q9.mp (I.stkSub b z)).elim hL hb) hc) (λb o _ _ hc e n=>u.any e n hc) (λb o hc e n=>u.free b o e n hc) (λb o hc e=>u.there b o e hc) u.tups u.frzs u.tbls (λm' hm=>by
  obtain ⟨o',es',ep',ho',r'⟩:=hm;rw [ho] at ho';cases ho';exact ⟨_,es',ep',hL,r'⟩) hok hg
theorem Inv.turned {t':Nat}{it:Rb}(I:Inv X Qx σ H s) (k:∀b o,b≠it->s.heap.get? b=some o->h'.get? b=some o) (hn:H it=none) (hL:it≠X.env.locals)
  (h1:it∈X.ex\/X.s₀.heap.objs.size<=it) (h2:∀x c,X.env.cells.lookup x=some c->c≠it) (h3:∀p∈X.pn++Qx,p.1≠it):Inv X Qx σ H {s with heap:=h',toks:=t'}:=by
 have nit:∀b u,H b=some u->b≠it:=λb u e z=>by rw [z,hn] at e;cases e
 refine I.step (g':=s.gens) (d':=s.drawn) (ch:=[it]) (λb hb=>?_) (λb o _ _ hc e _=>k b o (λz=>hc (by simp [z])) e) (λb o _ _ hc e _=>⟨o.slots,k b o (λz=>hc (by simp [z])) e⟩) (λ_ _ _ _ n=>n)
  (λb o hc e=>⟨o,k b o (λz=>hc (by simp [z])) e⟩) (λ_ _ e=>e) (λ_ _ _ e=>e) (λb ps e=>⟨#[],by rw [e];simp⟩) (λm hm=>?_) (λb u e=>?_) I.bare
 ·have e:b=it:=by simpa using hb
  subst e;exact ⟨h1,hL,h2,h3⟩
 ·obtain ⟨o,es,ep,ho,r⟩:=hm;exact ⟨o,es,ep,k _ o (SK hL) ho,r⟩
 ·refine (I.hok b u e).stay (λc v hc q=>k c v ?_ q) (λ_ q=>q) λ_ _ q=>q;rcases hc with z | z
  ·rw [z];exact nit b u e
  ·exact nit c _ z
theorem Inv.tok (I:Inv X Qx σ H s) (t:Nat):Inv X Qx σ H {s with toks:=t}:=I.un (h':=s.heap) (t':=t) Un.refl I.hok
theorem Inv.kept (I:Inv X Qx σ H s) (k:∀b u,s.heap.get? b=some u->h'.get? b=some u):Inv X Qx σ H {s with heap:=h',toks:=t'}:=I.un (Un.kept k) (I.hok.kept k)
theorem Inv.laid (I:Inv X Qx σ H s) (k:∀b u,s.heap.get? b=some u->h'.get? b=some u) (hp:s.heap.objs.size<=a) (new:cg X.prog X.w (upd H a o) h' a o):
  Inv X Qx σ (upd H a o) {s with heap:=h',toks:=t'}:=I.un (Un.laid k hp (I.hok.fresh hp)) (I.hok.laid k hp new)
theorem Inv.write (I:Inv X Qx σ H s) (mu:F1 (H x)) (he:e=x\/H e=some (.own x)) (k:∀b u,b≠e->s.heap.get? b=some u->h'.get? b=some u) (O5:∃u,h'.get? e=some u)
 (new:cg X.prog X.w (upd H x o) h' x o):Inv X Qx σ (upd H x o) {s with heap:=h',toks:=t'}:=I.un (Un.write mu he k O5) (I.hok.write mu he k O5 new)
theorem Inv.pins_of (I:Inv X Qx σ H s) (h:∀p∈pins',s.heap.get? p.1=some p.2/\H p.1=none/\p.1≠X.env.locals/\p.1∉X.fs/\∀v,p.2.data≠.cell v):Inv X pins' σ H s:=
 ⟨I.ok,I.os,I.bare,I.base,I.loc,I.cell,I.free,I.freeC,λp hp=>(Rn.mp hp).elim (λz=>I.pin p (UI _ z)) (h p),I.hok,I.len⟩
theorem yE {N:List Str}(hN:N.Nodup){i j:Nat}{x:Str}(a:N[i]?=some x) (b:N[j]?=some x):i=j:=by obtain ⟨h1,e1⟩:=Ri.mp a;obtain ⟨h2,e2⟩:=Ri.mp b;exact (UQ hN).mp (e1.trans e2.symm)
theorem vX {M:aa6}{E:QL->QM->Prop}{Q:Unit->QM->Prop}(I:Inv X Qx σ H s) (hN:X.N.Nodup) (hi:X.N[i]?=some x) (hx:Loc X.env.scope x) (r:RelV v u)
 (h:∀s',Inv X Qx (σ.set i (some v)) H s'->(∃a,SE a s.heap s'.heap/\(a=X.env.locals\/X.env.cells.lookup x=some a))->Q () s') (hf:X.fn x=true\/X.env.scope.names.lookup x=some .local:=by first | exact .inl rfl | exact .inr rfl | assumption):Q_ M A (aar X.env x u) Q E s:=by
 obtain ⟨m,hn,hl⟩:=id I.loc;have hcls:(X.env.scope.kind == .class || (X.env.scope.kind == .module && X.env.locals != X.env.globals))=false:=by rw [I.ok.kind];rfl
 have hiσ:i < σ.length:=by rw [I.len];exact (Ri.mp hi).1
 have cne:=I.cne;have tracked:∀{a:Rb}{h':Sn},(∃o,s.heap.get? a=some o/\H a=none)->SE a s.heap h'->fE X.prog X.w H h':=fun {a h'} ha hs b ob e=>by
  obtain ⟨_,_,hfree⟩:=ha;refine (I.hok b ob e).stay (λc w' hc q=>(hs.2 c ?_).trans q) (λ_ q=>q) λ_ _ q=>q;rintro rfl;rcases hc with rfl | hc
  ·rw [hfree] at e;cases e
  ·rw [hfree] at hc;cases hc
 rcases hx with hk | hk
 ·refine wpAny_storeName_local hk hn (λh' hn' hs=>?_) hcls;obtain ⟨oL,_,_,Qi,_⟩:=id hn;refine h _ ⟨I.ok,I.os,I.bare,⟨λb o e n hb hx=>?_,λb o e n hb hx=>?_,I.base.free,λb o e hx=>?_,I.base.tups,I.base.frzs,I.base.tbls⟩,⟨_,hn',λj y v' e1 e2 e3=>?_⟩,λy c e=>?_,I.free,I.freeC,λp hp=>?_,tracked ⟨oL,Qi,I.free⟩ hs,by simpa using I.len⟩ ⟨_,hs,.inl rfl⟩
  ·exact (hs.2 b (Rl (Rh (Q5 e) I.ok.above))).trans (I.base.keep b o e n hb hx)
  ·obtain ⟨sl,e1⟩:=I.base.slot b o e n hb hx;exact ⟨sl,(hs.2 b (Rl (Rh (Q5 e) I.ok.above))).trans e1⟩
  ·obtain ⟨o',e1⟩:=I.base.there b o e hx;exact ⟨o',(hs.2 b (Rl (Rh (Q5 e) I.ok.above))).trans e1⟩
  ·by_cases hj:j=i
   ·subst hj;rw [hi] at e1;cases e1;rw [R7 hiσ] at e2;cases e2;exact ⟨u,r,.inl ⟨hk,by simp⟩⟩
   ·rw [RB (SK hj)] at e2;obtain ⟨u',r',q⟩:=hl j y v' e1 e2 e3;refine ⟨u',r',?_⟩;rcases q with ⟨k,e⟩ | ⟨k,c,e,z⟩
    ·refine .inl ⟨k,?_⟩;have:y≠x:=λe=>hj (yE hN e1 (e▸hi));simp [this,e]
    ·exact .inr ⟨k,c,e,z.sameBut hs (cne y c e)⟩
  ·obtain ⟨w',z⟩:=I.cell y c e;exact ⟨w',z.sameBut hs (cne y c e)⟩
  ·obtain ⟨e,n,ne,nf,d⟩:=I.pin p hp;exact ⟨(hs.2 p.1 ne).trans e,n,ne,nf,d⟩
 ·have hfn:X.fn x=true:=by
   rcases hf with z | z
   ·exact z
   ·rw [z] at hk;cases hk
  obtain ⟨c,hc⟩:=I.ok.has x (.inl hk);obtain ⟨w',z⟩:=I.cell x c hc;refine wpAny_storeName_cell I.ok.kind hk hc z (λh' hc' hs=>?_);obtain ⟨oc,hoc,Pw⟩:=id z;refine h {s with heap:=h'} ⟨I.ok,I.os,I.bare,⟨λb o e n hb hx=>?_,λb o e n hb hx=>?_,I.base.free,λb o e hx=>?_,I.base.tups,I.base.frzs,I.base.tbls⟩,⟨m,hn.sameBut hs (SK (cne x c hc)),λj y v' e1 e2 e3=>?_⟩,λy c' e=>?_,I.free,I.freeC,λp hp=>?_,tracked ⟨oc,hoc,I.freeC x c hc⟩ hs,by simpa using I.len⟩ ⟨c,hs,.inr hc⟩
  ·exact (hs.2 b (Rl (Rh (Q5 e) (I.ok.cab x c hfn hc)))).trans (I.base.keep b o e n hb hx)
  ·obtain ⟨sl,e1⟩:=I.base.slot b o e n hb hx;exact ⟨sl,(hs.2 b (Rl (Rh (Q5 e) (I.ok.cab x c hfn hc)))).trans e1⟩
  ·obtain ⟨o',e1⟩:=I.base.there b o e hx;exact ⟨o',(hs.2 b (Rl (Rh (Q5 e) (I.ok.cab x c hfn hc)))).trans e1⟩
  ·by_cases hj:j=i
   ·subst hj;rw [hi] at e1;cases e1;rw [R7 hiσ] at e2;cases e2;exact ⟨u,r,.inr ⟨.inl hk,c,hc,hc'⟩⟩
   ·rw [RB (SK hj)] at e2;obtain ⟨u',r',q⟩:=hl j y v' e1 e2 e3;refine ⟨u',r',?_⟩;rcases q with q | ⟨k,c',e,z'⟩
    ·exact .inl q
    ·refine .inr ⟨k,c',e,z'.sameBut hs ?_⟩;rintro rfl;exact hj (yE hN e1 (I.ok.inj _ _ _ e hc▸hi))
  ·by_cases hcc:c'=c
   ·subst hcc;exact ⟨_,hc'⟩
   ·obtain ⟨w2,z2⟩:=I.cell y c' e;exact ⟨w2,z2.sameBut hs hcc⟩
  ·obtain ⟨e,n,ne,nf,d⟩:=I.pin p hp;refine ⟨(hs.2 p.1 ?_).trans e,n,ne,nf,d⟩;intro q;rw [q,hoc] at e;have q':oc=p.2:=RY e;exact d w' (by rw [<-q'];exact Pw)
theorem qZ {M:aa6}{E:QL->QM->Prop}{Q:Unit->QM->Prop}(I:Inv X Qx σ H s) (hN:X.N.Nodup) (hi:X.N[i]?=some x) (hx:Loc X.env.scope x) (r:RelV v u)
 (h:∀s',Inv X Qx (σ.set i (some v)) H s'->Q () s') (hf:X.fn x=true\/X.env.scope.names.lookup x=some .local:=by first | exact .inl rfl | exact .inr rfl | assumption):Q_ M A (aar X.env x u) Q E s:=
 vX I hN hi hx r (λs' I' _=>h s' I') hf
theorem Inv.call' {s':QM}(I:Inv X Qx σ H s) (ho:s'.os=s.os) (u:Un (frs X.stack) ch H H' s.heap s'.heap) (hok:fE X.prog X.w H' s'.heap) (hg:W7 s'.gens)
 (hch:∀b∈ch,(b∈X.ex\/X.s₀.heap.objs.size<=b)/\b≠X.env.locals/\(∀x c,X.env.cells.lookup x=some c->c≠b)/\∀p∈X.pn++Qx,p.1≠b):Inv X Qx σ H' s':=by obtain ⟨h',g',d',t',o'⟩:=s';have e:o'=s.os:=ho;subst e;exact I.call (g':=g') (t':=t') (d':=d') u hok hg hch
end
abbrev XK:=QL->Option Rb->Hp->Prop
abbrev St:=List (Option V)
abbrev VK:=V->Hp->Prop
abbrev TE:=St->Hp->VK->Prop
abbrev TT:=St->Hp->(Bool->Hp->Prop)->Prop
abbrev TA:=St->Hp->(List V->Hp->Prop)->Prop
structure Ends where
 nx:St->Hp->Prop
 rt:VK
 bk:St->Hp->Prop:=λ_ _=>False
 ct:St->Hp->Prop:=λ_ _=>False
abbrev TS:=Ends->St->Hp->Prop
def EP (X:Cx) (Qx:List (Rb×Obj)) (σ:St) (Q:VK) (u:QL) (s':QM):Prop:=∃v H',Inv X Qx σ H' s'/\RelV v u/\Q v H'
def TP (X:Cx) (Qx:List (Rb×Obj)) (σ:St) (Q:Bool->Hp->Prop) (b:Bool) (s':QM):Prop:=∃H',Inv X Qx σ H' s'/\Q b H'
def AP (X:Cx) (Qx:List (Rb×Obj)) (σ:St) (Q:List V->Hp->Prop) (us:List QL) (s':QM):Prop:=∃vs H',Inv X Qx σ H' s'/\Vals vs us/\Q vs H'
noncomputable def SP (X:Cx) (Qx:List (Rb×Obj)) (D:Ends) (f:Flow) (s':QM):Prop:=
 match f with
 | .next=>∃σ' H',Inv X Qx σ' H' s'/\D.nx σ' H'
 | .brk=>∃σ' H',Inv X Qx σ' H' s'/\D.bk σ' H'
 | .cont=>∃σ' H',Inv X Qx σ' H' s'/\D.ct σ' H'
 | .ret u=>∃v σ' H',Inv X Qx σ' H' s'/\RelV v u/\D.rt v H'
noncomputable def PE (X:Cx) (e:RA) (t:TE):Prop:=
 ∀(Qx:List (Rb×Obj)) (s:QM) (σ:St) (H:Hp) (Q:VK),Inv X Qx σ H s->t σ H Q->Q_ (Rf X.prog X.w) X.A (eval e X.env) (EP X Qx σ Q) X.xe s
noncomputable def PT (X:Cx) (e:RA) (t:TT):Prop:=
 ∀(Qx:List (Rb×Obj)) (s:QM) (σ:St) (H:Hp) (Q:Bool->Hp->Prop),Inv X Qx σ H s->t σ H Q->Q_ (Rf X.prog X.w) X.A (XG e X.env (eval e X.env)) (TP X Qx σ Q) X.xe s
noncomputable def PW (X:Cx) (e:RA) (t:TT):Prop:=
 ∀(whole:Sem QL) (Qx:List (Rb×Obj)) (s:QM) (σ:St) (H:Hp) (Q:Bool->Hp->Prop),Inv X Qx σ H s->t σ H Q->Q_ (Rf X.prog X.w) X.A (XG e X.env whole) (TP X Qx σ Q) X.xe s
theorem PW.pt (h:PW X e t):PT X e t:=h _
noncomputable def PA (X:Cx) (es:List RA) (t:TA):Prop:=
 ∀(pos:Pos) (Qx:List (Rb×Obj)) (s:QM) (σ:St) (H:Hp) (Q:List V->Hp->Prop),Inv X Qx σ H s->t σ H Q->Q_ (Rf X.prog X.w) X.A (spliced (SJ pos (QZ es X.env))) (AP X Qx σ Q) X.xe s
noncomputable def PS (X:Cx) (st:TJ) (t:TS):Prop:=
 ∀(Qx:List (Rb×Obj)) (s:QM) (σ:St) (H:Hp) (D:Ends),Inv X Qx σ H s->t D σ H->Q_ (Rf X.prog X.w) X.A (exec st X.env) (SP X Qx D) X.xe s
noncomputable def iN (X:Cx) (st:List TJ) (t:TS):Prop:=
 ∀(Qx:List (Rb×Obj)) (s:QM) (σ:St) (H:Hp) (D:Ends),Inv X Qx σ H s->t D σ H->Q_ (Rf X.prog X.w) X.A (execs st X.env) (SP X Qx D) X.xe s
theorem bM {α:Type}{t:Sem α}{Q Q':α->QM->Prop}{M:aa6}{A:RC}{E:QL->QM->Prop}{s:QM}(h:Q_ M A t Q E s) (hQ:∀a s,Q a s->Q' a s):Q_ M A t Q' E s:=RE h hQ λ_ _ x=>x
section
variable {X:Cx}
theorem bin {a b:RA}{ta tb:TE}(ha:PE X a ta) (hb:PE X b tb){Qx:List (Rb×Obj)}{s:QM}{σ:St}{H:Hp}{R:V->V->Hp->Prop}(I:Inv X Qx σ H s) (h:ta σ H λx H1=>tb σ H1 λy H2=>R x y H2)
  {α:Type}{Q:α->QM->Prop}{f:QL->QL->Sem α}
  (hf:∀v u s2 x y H2,Inv X Qx σ H2 s2->RelV x v->RelV y u->R x y H2->Q_ (Rf X.prog X.w) X.A (f v u) Q X.xe s2):
  Q_ (Rf X.prog X.w) X.A (eval a X.env) (λv s₁=>Q_ (Rf X.prog X.w) X.A (eval b X.env) (λu s₂=>Q_ (Rf X.prog X.w) X.A (f v u) Q X.xe s₂) X.xe s₁) X.xe s:=by refine bM (ha Qx s σ H _ I h) λv s1 ⟨x,H1,I1,r1,q1⟩=>?_;refine bM (hb Qx s1 σ H1 _ I1 q1) λu s2 ⟨y,H2,I2,r2,q2⟩=>?_;exact hf v u s2 x y H2 I2 r1 r2 q2
def FL (i:Nat):TE:=λσ H Q=>∃v,σ[i]?=some (some v)/\Q v H
def tC (v:V):TE:=λ_ H Q=>Q v H
theorem jj {pos:Pos}(hN:X.N[i]?=some x) (hv:nW X.env.scope x) (hd:(x == ("__debug__":Str))=false:=by decide) (hcd:(x == ("__classdict__":Str))=false:=by decide):PE X (.Name x pos) (FL i):=by
 intro Qx s σ H Q I h;obtain ⟨v,e,h⟩:=h;obtain ⟨m,hn,hl⟩:=I.loc;obtain ⟨u,r,l⟩:=hl i x v hN e hv;have fin:EP X Qx σ Q u s:=⟨v,H,I,r,h⟩;rcases l with ⟨hk,hm⟩ | ⟨hk,c,hc,hcell⟩
 ·exact ZS (Xs I.ok.kind hk hn hm fin) hd
 ·rcases hk with hk | hk
  ·exact ZS (XM I.ok.kind hk hc hcell fin) hd
  ·exact ZS (wpAny_loadName_free I.ok.kind hk hc hcell fin hcd) hd
theorem KA {i j pos}:PE X (.Constant (.int i) j pos) (tC (.int i)):=λ_ _ _ H _ I h=>wpAny_Constant_int ⟨.int i,H,I.tok _,⟨_,rfl⟩,h⟩
theorem L4 {b j pos}:PE X (.Constant (.bool b) j pos) (tC (.bl b)):=λ_ _ _ H _ I h=>Constant_bool ⟨.bl b,H,I,rfl,h⟩
theorem KG {j pos}:PE X (.Constant .none j pos) (tC .non):=λ_ _ _ H _ I h=>Constant_none ⟨.non,H,I,rfl,h⟩
theorem KJ {x j pos}:PE X (.Constant (.str x) j pos) (tC (.str x)):=λ_ _ _ H _ I h=>Calls.Constant_str ⟨.str x,H,I.tok _,⟨_,rfl⟩,h⟩
def Gl (X:Cx) (x:Str):Prop:=X.env.kindOf x=some .globalImplicit
theorem Ag {E:QL->QM->Prop}{H:Hp}{pos:Pos}{Q:QL->QM->Prop}(I:Inv X Qx σ H s) (hg:Gl X x) (hm:X.mg x=some u) (h:Q u s)
 (hd:(x == ("__debug__":Str))=false:=by decide):Q_ (Rf X.prog X.w) X.A (eval (.Name x pos) X.env) Q E s:=
 Wg I.ok.kind hg (Calls.loadGlobal_global (by rw [I.ok.glob];exact I.mod.glob.keeps I.bk) hm h) hd
theorem sR {E:QL->QM->Prop}{H:Hp}{pos:Pos}{Q:QL->QM->Prop}(I:Inv X Qx σ H s) (hg:Gl X x) (hm:X.mg x=none) (hv:RJ x=some u) (h:Q u s)
 (hn:x≠"__name__":=by decide) (hd:(x == ("__debug__":Str))=false:=by decide):Q_ (Rf X.prog X.w) X.A (eval (.Name x pos) X.env) Q E s:=by obtain ⟨mb,h1,h2⟩:=I.mod.blt;exact Wg I.ok.kind hg (Calls.loadGlobal_builtin (by rw [I.ok.glob];exact I.mod.glob.keeps I.bk) hm (by rw [I.ok.blt];exact h1.keeps I.bk) ((h2 x hn).trans hv) h) hd
theorem Aq {pos:Pos}(hg:Gl X x) (hm:X.mg x=some u) (r:RelV v u) (hd:(x == ("__debug__":Str))=false:=by decide):PE X (.Name x pos) (tC v):=
 λ_ _ _ H _ I h=>Ag I hg hm ⟨v,H,I,r,h⟩ hd
theorem Ic {pos:Pos}(hg:Gl X x) (hm:X.mg x=none) (hv:RJ x=some u) (r:RelV v u) (hn:x≠"__name__":=by decide) (hd:(x == ("__debug__":Str))=false:=by decide):PE X (.Name x pos) (tC v):=
 λ_ _ _ H _ I h=>sR I hg hm hv ⟨v,H,I,r,h⟩ hn hd
variable {a b:RA}{ta tb:TE}{pos:Pos}
noncomputable def PC (X:Cx) (op:CmpOp) (a b:RA) (t:TE):Prop:=
 ∀(Qx:List (Rb×Obj)) (s:QM) (σ:St) (H:Hp) (Q:VK),Inv X Qx σ H s->t σ H Q->
  Q_ (Rf X.prog X.w) X.A (eval a X.env) (λv s₁=>Q_ (Rf X.prog X.w) X.A (eval b X.env) (λu s₂=>Q_ (Rf X.prog X.w) X.A (Sx op v u) (EP X Qx σ Q) X.xe s₂) X.xe s₁) X.xe s
theorem EY (b:RA) (h:op≠.In) (h2:op≠.NotIn):Sd op b=false:=by
 have e1:(op == abl)=false:=by cases op <;> first | rfl | exact absurd rfl h
 have e2:(op == aaF)=false:=by cases op <;> first | rfl | exact absurd rfl h2
 cases b <;> simp [Sd,e1,e2]
def tB (t:TE):TT:=λσ H Q=>t σ H λx H1=>∃c,x=.bl c/\Q c H1
theorem NQ {op:CmpOp}{t:TE}(h:PC X op a b t) (h1:Sd op b=false:=by first | exact EY _ (by decide) (by decide) | rfl):PT X (.Compare a [op] [b] pos) (tB t):=by intro Qx s σ H Q I hw;refine W8 (bM (h Qx s σ H _ I hw) λv s1 h1=>bM h1 λu s2 h2=>bM h2 λc s3 ⟨x,H1,I1,r1,q1⟩=>?_) h1;obtain ⟨d,rfl,q⟩:=q1;cases r1;exact R3 ⟨H1,I1,q⟩
theorem KZ {e:RA}{t:TE}(h:PE X e t) (he:∀whole,XG e X.env whole=(do let v <-whole;Uo e.pos;holding [v] (truthy v)):=by intro _;rfl):PT X e (tB t):=by intro Qx s σ H Q I hw;refine isTrue_plain (bM (h Qx s σ H _ I hw) λv s1 ⟨x,H1,I1,r1,q1⟩=>?_) (he _);obtain ⟨d,rfl,q⟩:=q1;cases r1;exact R3 ⟨H1,I1,q⟩
variable {tA tB':TT}{rest:List RA}
def Nr (t u:TT):TT:=λσ H Q=>t σ H λc H1=>if c=true then u σ H1 Q else Q false H1
def NW (t u:TT):TT:=λσ H Q=>t σ H λc H1=>if c=true then Q true H1 else u σ H1 Q
def Ny (t:TT):TT:=λσ H Q=>t σ H λc H1=>Q (!c) H1
theorem Io (ha:PT X a tA):PW X (.BoolOp .And [a] pos) tA:=by
 intro wh Qx s σ H Q I h;refine isTrue_and (bM (ha Qx s σ H Q I h) λc s1 e=>?_);cases c with
 | true=>exact isTrue_and_nil e
 | false=>exact e
theorem K2 (ha:PT X a tA):PW X (.BoolOp .Or [a] pos) tA:=by
 intro wh Qx s σ H Q I h;refine isTrue_or (bM (ha Qx s σ H Q I h) λc s1 e=>?_);cases c with
 | false=>exact isTrue_or_nil e
 | true=>exact e
theorem K1 (ha:PT X a tA) (hb:PW X (.BoolOp .And (b::rest) pos) tB'):PW X (.BoolOp .And (a::b::rest) pos) (Nr tA tB'):=by
 intro wh Qx s σ H Q I h;refine isTrue_and (bM (ha Qx s σ H _ I h) λc s1 ⟨H1,I1,q1⟩=>?_);cases c with
 | true=>exact hb wh Qx s1 σ H1 Q I1 q1
 | false=>exact ⟨H1,I1,q1⟩
theorem L_ (ha:PT X a tA) (hb:PW X (.BoolOp .Or (b::rest) pos) tB'):PW X (.BoolOp .Or (a::b::rest) pos) (NW tA tB'):=by
 intro wh Qx s σ H Q I h;refine isTrue_or (bM (ha Qx s σ H _ I h) λc s1 ⟨H1,I1,q1⟩=>?_);cases c with
 | true=>exact ⟨H1,I1,q1⟩
 | false=>exact hb wh Qx s1 σ H1 Q I1 q1
theorem KY (ha:PT X a tA):PT X (.UnaryOp .Not a pos) (Ny tA):=by intro Qx s σ H Q I h;exact isTrue_not (ha Qx s σ H (λc H1=>Q (!c) H1) I h)
def Mk (ta tb:TE):TE:=λσ H Q=>ta σ H λx H1=>∃c,x=.bl c/\if c=true then tb σ H1 Q else Q (.bl false) H1
def Nz (ta tb:TE):TE:=λσ H Q=>ta σ H λx H1=>∃c,x=.bl c/\if c=true then Q (.bl true) H1 else tb σ H1 Q
def Mq (ta:TE):TE:=λσ H Q=>ta σ H λx H1=>∃c,x=.bl c/\Q (.bl (!c)) H1
theorem KI {op}{t:TE}(h:PE X a t):PE X (.BoolOp op [a] pos) t:=λQx s σ H Q I hw=>BoolOp_one (h Qx s σ H Q I hw)
theorem Kz (ha:PE X a ta) (hb:PE X (.BoolOp .And (b::rest) pos) tb):PE X (.BoolOp .And (a::b::rest) pos) (Mk ta tb):=by
 intro Qx s σ H Q I h;refine BoolOp_and (bM (ha Qx s σ H _ I h) λv s1 ⟨x,H1,I1,r1,q1⟩=>?_);obtain ⟨c,rfl,q1⟩:=q1;cases r1;refine R3 ?_;cases c with
 | true=>exact hb Qx s1 σ H1 Q I1 q1
 | false=>exact ⟨.bl false,H1,I1,rfl,q1⟩
theorem L6 (ha:PE X a ta) (hb:PE X (.BoolOp .Or (b::rest) pos) tb):PE X (.BoolOp .Or (a::b::rest) pos) (Nz ta tb):=by
 intro Qx s σ H Q I h;refine BoolOp_or (bM (ha Qx s σ H _ I h) λv s1 ⟨x,H1,I1,r1,q1⟩=>?_);obtain ⟨c,rfl,q1⟩:=q1;cases r1;refine R3 ?_;cases c with
 | false=>exact hb Qx s1 σ H1 Q I1 q1
 | true=>exact ⟨.bl true,H1,I1,rfl,q1⟩
theorem KH (ha:PE X a ta):PE X (.UnaryOp .Not a pos) (Mq ta):=by intro Qx s σ H Q I h;refine UnaryOp_ (bM (ha Qx s σ H _ I h) λv s1 ⟨x,H1,I1,r1,q1⟩=>?_);obtain ⟨c,rfl,q1⟩:=q1;cases r1;exact not_of (R3 ⟨.bl (!c),H1,I1,rfl,q1⟩)
end
noncomputable def bV (K:QJ) (H:Hp) (a:Rb) (xs:List V):Prop:=
 Rd H a (.lst xs)\/
  ∃(o:Obj) (Qz:Array QL) (n:Nat),K.lookup a=some o/\o.cls=.type "list"/\o.dict=none/\o.data=.seq Qz n/\Qz.size<=sizeLine/\Vals xs Qz.toList
noncomputable def cC (K:QJ) (H:Hp) (a:Rb) (xs:List V):Prop:=
 Rd H a (.tup xs)\/
  ∃(o:Obj) (Qz:Array QL) (n:Nat),K.lookup a=some o/\o.cls=.type "tuple"/\o.data=.seq Qz n/\Qz.size<=sizeLine/\Vals xs Qz.toList
noncomputable def MZ:QL->Option V
 | .none=>some .non
 | .bool b=>some (.bl b)
 | .int i _=>some (.int i)
 | .str x _=>some (.str x)
 | .bytes b _=>some (.byt b)
 | .float b _=>some (.flt b)
 | .ref a=>some (.ref a)
 | .type n=>some (.ty n)
 | _=>none
theorem RelV.abs (r:RelV x u):MZ u=some x:=by
 cases x with
 | non=>cases r;rfl
 | bl _=>cases r;rfl
 | int _=>obtain ⟨t,rfl⟩:=r;rfl
 | str _=>obtain ⟨t,rfl⟩:=r;rfl
 | byt _=>obtain ⟨t,rfl⟩:=r;rfl
 | flt _=>obtain ⟨t,rfl⟩:=r;rfl
 | ref _=>cases r;rfl
 | ty _=>cases r;rfl
theorem RelV.inj (r:RelV x u) (q:RelV y u):x=y:=RY (r.abs.symm.trans q.abs)
theorem Vals.inj:∀{xs ys:List V}{us:List QL},Vals xs us->Vals ys us->xs=ys
 | _,_,_,.nil,.nil=>rfl
 | _,_,_,.cons r t,.cons r' t'=>by rw [r.inj r',Vals.inj t t']
section
variable {X:Cx}{Qx:List (Rb×Obj)}{σ:St}{H:Hp}{s:QM}{a:Rb}{xs ys:List V}
theorem bV.of {K:QJ}(h:H a=some (.lst xs)):bV K H a xs:=.inl (.inl h)
theorem Inv.list (I:Inv X Qx σ H s) (h:bV X.K H a xs):∃Qz:List QL,Vals xs Qz/\PlainL s.heap a Qz.toArray/\xs.length<=sizeLine:=by
 rcases h with h | ⟨o,Qz,n,hk,hc,hd,hs,hz,r⟩
 ·obtain ⟨z,Qz,n,r,e⟩:=h.ok I.hok;exact ⟨Qz,r,⟨_,n,e,rfl,rfl,rfl⟩,z⟩
 ·refine ⟨Qz.toList,r,⟨o,n,I.kIn a o hk,hc,hd,by simpa using hs⟩,?_⟩;have e:=r.length;simp only [Q3] at e;omega
theorem Inv.tuple (I:Inv X Qx σ H s) (h:cC X.K H a xs):∃Qz:List QL,Vals xs Qz/\aaE s.heap a Qz.toArray/\xs.length<=sizeLine:=by
 rcases h with h | ⟨o,Qz,n,hk,hc,hs,hz,r⟩
 ·obtain ⟨z,Qz,r,p⟩:=h.ok I.hok;exact ⟨Qz,r,p,z⟩
 ·refine ⟨Qz.toList,r,⟨o,I.kIn a o hk,hc,n,by simpa using hs⟩,?_⟩;have e:=r.length;simp only [Q3] at e;omega
theorem Inv.list_inj (I:Inv X Qx σ H s) (h:bV X.K H a xs) (h':bV X.K H a ys):xs=ys:=by
 obtain ⟨Qz,r,⟨o,n,e,_,_,d⟩,_⟩:=I.list h;obtain ⟨its',r',⟨o',n',e',_,_,d'⟩,_⟩:=I.list h';rw [e] at e';cases e';rw [d] at d';injection d' with d1 _
 have:Qz=its':=by simpa using congrArg W9 d1
 subst this;exact r.inj r'
theorem Inv.tuple_inj (I:Inv X Qx σ H s) (h:cC X.K H a xs) (h':cC X.K H a ys):xs=ys:=by
 obtain ⟨Qz,r,⟨o,e,_,n,d⟩,_⟩:=I.tuple h;obtain ⟨its',r',⟨o',e',_,n',d'⟩,_⟩:=I.tuple h';rw [e] at e';cases e';rw [d] at d';injection d' with d1 _
 have:Qz=its':=by simpa using congrArg W9 d1
 subst this;exact r.inj r'
end
abbrev Cx.wish (X:Cx) (E:QL->QM->Prop):Cx:={X with xe:=E}
abbrev Cx.nox (X:Cx):Cx:=X.wish λ_ _=>False
theorem Cx.Ok.wish {X:Cx}(ok:X.Ok) (E:QL->QM->Prop):(X.wish E).Ok:=
 ⟨ok.mod,ok.kind,ok.glob,ok.blt,ok.above,ok.inj,ok.has,ok.cab,ok.hd,ok.frames,ok.stk,ok.exf,ok.bs,ok.bsz,ok.noex,ok.exfs,ok.funs,ok.frf⟩
theorem Cx.Ok.unwish {X:Cx}{E:QL->QM->Prop}(ok:(X.wish E).Ok):X.Ok:=
 ⟨ok.mod,ok.kind,ok.glob,ok.blt,ok.above,ok.inj,ok.has,ok.cab,ok.hd,ok.frames,ok.stk,ok.exf,ok.bs,ok.bsz,ok.noex,ok.exfs,ok.funs,ok.frf⟩
section
variable {X:Cx}{Qx:List (Rb×Obj)}{σ:St}{H:Hp}{s:QM}{E:QL->QM->Prop}
theorem Inv.wish (I:Inv X Qx σ H s) (E:QL->QM->Prop):Inv (X.wish E) Qx σ H s:=⟨I.ok.wish E,I.os,I.bare,I.base,I.loc,I.cell,I.free,I.freeC,I.pin,I.hok,I.len⟩
theorem Inv.unwish (I:Inv (X.wish E) Qx σ H s):Inv X Qx σ H s:=⟨I.ok.unwish,I.os,I.bare,I.base,I.loc,I.cell,I.free,I.freeC,I.pin,I.hok,I.len⟩
theorem SP.unwish {D:Ends}(h:SP (X.wish E) Qx D f s'):SP X Qx D f s':=by
 cases f with
 | next=>obtain ⟨σ',H',I,q⟩:=h;exact ⟨σ',H',I.unwish,q⟩
 | brk=>obtain ⟨σ',H',I,q⟩:=h;exact ⟨σ',H',I.unwish,q⟩
 | cont=>obtain ⟨σ',H',I,q⟩:=h;exact ⟨σ',H',I.unwish,q⟩
 | ret u=>obtain ⟨v,σ',H',I,r,q⟩:=h;exact ⟨v,σ',H',I.unwish,r,q⟩
theorem iN.nox {st:List TJ}{t:TS}(h:iN X.nox st t):iN X st t:=λQx s σ H D I hw=>
 RE (h Qx s σ H D (I.wish _) hw) (λ_ _ q=>q.unwish) λ_ _ z=>Ux z
end
section
variable {X:Cx}{st:TJ}{rest:List TJ}{t u:TS}{e:RA}{te:TE}{pos:Pos}
def Mp:TS:=λD σ H=>D.nx σ H
def NC (t u:TS):TS:=λD σ H=>t {D with nx:=u D} σ H
theorem Ik:iN X [] Mp:=λ_ _ σ H _ I h=>V3 ⟨σ,H,I,h⟩
theorem yL (h1:PS X st t) (h2:iN X rest u):iN X (st::rest) (NC t u):=by
 intro Qx s σ H D I h;refine YR (bM (h1 Qx s σ H {D with nx:=u D} I h) λf s1 q=>?_);cases f with
 | next=>
  obtain ⟨σ',H',I',q⟩:=q;exact h2 Qx s1 σ' H' D I' q
 | ret v=>exact q
 | brk=>exact q
 | cont=>exact q
theorem Il (h1:PS X st t):iN X [st] t:=by
 intro Qx s σ H D I h;refine YR (bM (h1 Qx s σ H D I h) λf s1 q=>?_);cases f with
 | next=>exact V3 q
 | ret v=>exact q
 | brk=>exact q
 | cont=>exact q
theorem Inv.quiet {H:Hp}(I:Inv X Qx σ H s):interactive X.env=false:=by simp [interactive,I.ok.kind]
def Mm (te:TE):TS:=λD σ H=>te σ H λ_ H1=>D.nx σ H1
theorem lY (he:PE X e te) (hs:U4 e none pos.line X.env=pure false:=by rfl):PS X (.Expr e pos) (Mm te):=by intro Qx s σ H D I h;exact wpAny_Expr_any (bM (he Qx s σ H _ I h) λv s1 ⟨x,H1,I1,r1,q1⟩=>⟨σ,H1,I1,q1⟩) I.quiet hs
def NB (te:TE):TS:=λD σ H=>te σ H D.rt
theorem KW (he:PE X e te):PS X (.Return (some e) pos) (NB te):=by intro Qx s σ H D I h;exact wpAny_Return_some (bM (he Qx s σ H _ I h) λv s1 ⟨x,H1,I1,r1,q1⟩=>⟨x,σ,H1,I1,r1,q1⟩)
def Nv (c:TT) (t u:TS):TS:=λD σ H=>c σ H λb H1=>if b=true then t D σ H1 else u D σ H1
theorem L8 {c:RA}{a b:List TJ}{tc:TT}(hc:PT X c tc) (ha:iN X a t) (hb:iN X b u):PS X (.If c a b pos) (Nv tc t u):=by
 intro Qx s σ H D I h;refine wpAny_If (bM (hc Qx s σ H _ I h) λd s1 ⟨H1,I1,q1⟩=>?_);cases d with
 | true=>exact ha Qx s1 σ H1 D I1 q1
 | false=>exact hb Qx s1 σ H1 D I1 q1
end
abbrev TG:=V->St->Hp->(St->Hp->Prop)->Prop
abbrev uW:=List V->St->Hp->(St->Hp->Prop)->Prop
noncomputable def PG (X:Cx) (QA:RA) (t:TG):Prop:=
 ∀(Qx:List (Rb×Obj)) (s:QM) (σ:St) (H:Hp) (v:V) (u:QL) (Q:St->Hp->Prop),Inv X Qx σ H s->RelV v u->t v σ H Q->
  Q_ (Rf X.prog X.w) X.A (assign QA X.env u) (λ_ s'=>∃σ' H',Inv X Qx σ' H' s'/\Q σ' H') X.xe s
noncomputable def xA (X:Cx) (ts:List RA) (t:uW):Prop:=
 ∀(Qx:List (Rb×Obj)) (s:QM) (σ:St) (H:Hp) (vs:List V) (us:List QL) (Q:St->Hp->Prop),Inv X Qx σ H s->Vals vs us->t vs σ H Q->
  Q_ (Rf X.prog X.w) X.A (assignInOrder ((TQ ts X.env).map (·.2)) us) (λ_ s'=>∃σ' H',Inv X Qx σ' H' s'/\Q σ' H') X.xe s
abbrev AV:=V->V->V->Hp->(Hp->Prop)->Prop
noncomputable def Jg (X:Cx) (t:AV):Prop:=
 ∀(Qx:List (Rb×Obj)) (s:QM) (σ:St) (H:Hp) (o i v:V) (ov iv u:QL) (Q:Hp->Prop),Inv X Qx σ H s->RelV o ov->RelV i iv->RelV v u->t o i v H Q->
  Q_ (Rf X.prog X.w) X.A (setItem ov iv u) (λ_ s'=>∃H',Inv X Qx σ H' s'/\Q H') X.xe s
abbrev Jj:=V->V->Hp->VK->Prop
noncomputable def NL (X:Cx) (op:aaZ) (t:Jj):Prop:=
 ∀(Qx:List (Rb×Obj)) (s:QM) (σ:St) (H:Hp) (x y:V) (v u:QL) (Q:VK),Inv X Qx σ H s->RelV x v->RelV y u->t x y H Q->
  Q_ (Rf X.prog X.w) X.A (W_ op v u) (EP X Qx σ Q) X.xe s
section
variable {X:Cx}{pos:Pos}
def Ge (i:Nat):TG:=λv σ H Q=>Q (σ.set i (some v)) H
theorem Ig (hN:X.N.Nodup) (hi:X.N[i]?=some x) (hx:Loc X.env.scope x) (hf:X.fn x=true\/X.env.scope.names.lookup x=some .local:=by first | exact .inl rfl | exact .inr rfl | assumption):PG X (.Name x pos) (Ge i):=by intro Qx s σ H v u Q I r h;exact wpAny_assign_Name (qZ I hN hi hx r (λs' I'=>⟨_,H,I',h⟩) hf)
def aE:uW:=λvs σ H Q=>vs=[]/\Q σ H
def ao (t:TG) (u:uW):uW:=λvs σ H Q=>∃v r,vs=v::r/\t v σ H λσ' H'=>u r σ' H' Q
theorem Ih:xA X [] aE:=by intro Qx s σ H vs us Q I r h;obtain ⟨e,h⟩:=h;subst e;cases r;exact assignInOrder_nil ⟨σ,H,I,h⟩
theorem Fc {e:RA}{es:List RA}{t:TG}{u:uW}(h1:PG X e t) (h2:xA X es u)
  (hs:(TQ (e::es) X.env).map (·.2)=assign e X.env::(TQ es X.env).map (·.2):=by rfl):xA X (e::es) (ao t u):=by
 intro Qx s σ H vs us Q I r h;obtain ⟨v,vr,e1,h⟩:=h;subst e1;cases r with
 | cons r rr=>
  rw [hs];refine assignInOrder_cons (bM (h1 Qx s σ H _ _ _ I r h) λ_ s1 ⟨σ1,H1,I1,q1⟩=>?_);exact h2 Qx s1 σ1 H1 _ _ Q I1 rr q1
def bA (K:QJ) (n:Nat) (t:uW):TG:=λv σ H Q=>∃a xs,v=.ref a/\cC K H a xs/\xs.length=n/\t xs σ H Q
theorem KP (hc:X.calm=true) (h:xA X es t)
 (hn:(TQ es X.env).length=n:=by rfl) (hst:(TQ es X.env).findIdx? (·.1)=none:=by rfl):PG X (.Tuple es k pos) (bA X.K n t):=by intro Qx s σ H v u Q I r hw;obtain ⟨a,xs,e1,hq,hl,hw⟩:=hw;subst e1;cases r;obtain ⟨Qz,rv,ht,hz⟩:=I.tuple hq;refine assign_Tuple_tuple (I.ok.hd hc) ht (by simp [hn,<-hl,rv.length]) hst λh' hx=>?_;have I1:Inv X Qx σ H {s with heap:=h'}:=I.kept (t':=s.toks) λb o e=>hx b o (Rl (Q5 e)) e;exact h Qx _ σ H xs _ Q I1 (by simpa using rv) hw
def M4 (to ti:TE) (t:AV):TG:=λv σ H Q=>to σ H λo H1=>ti σ H1 λi H2=>t o i v H2 λH3=>Q σ H3
theorem KN {o i:RA}{to ti:TE}{t:AV}(ho:PE X o to) (hi:PE X i ti) (hs:Jg X t)
  (ha:∀v,assign (.Subscript o i pos) X.env v=(do
   let ov <-holding [v] (eval o X.env)
   let iv <-holding [v,ov] (eval i X.env)
   Uo pos
   holding [v,ov,iv] (setItem ov iv v)
   release [v,ov,iv] []):=by intro _;rfl):PG X (.Subscript o i pos) (M4 to ti t):=by intro Qx s σ H v u Q I r h;rw [ha];refine QI (Rw (bM (ho Qx s σ H _ I h) λov s1 ⟨x,H1,I1,r1,q1⟩=>?_));refine QI (Rw (bM (hi Qx s1 σ H1 _ I1 q1) λiv s2 ⟨y,H2,I2,r2,q2⟩=>?_));refine QI (T6 (QI (Rw (bM (hs Qx s2 σ H2 x y v ov iv u _ I2 r1 r2 r q2) λ_ s3 ⟨H3,I3,q3⟩=>?_))));exact wpAny_release ⟨σ,H3,I3,q3⟩
def FJ (te:TE) (g:TG):TS:=λD σ H=>te σ H λx H1=>g x σ H1 D.nx
theorem DA {tg e:RA}{te:TE}{g:TG}(he:PE X e te) (hg:PG X tg g) (hs:WI [tg] e pos.line X.env=pure false:=by rfl) (hw:X0 [tg] e X.env=pure none:=by rfl)
  (h1:(TQ [tg] X.env).map (·.2)=[assign tg X.env]:=by rfl):PS X (.Assign [tg] e pos) (FJ te g):=by intro Qx s σ H D I h;refine wpAny_Assign_stores (bM (he Qx s σ H _ I h) λv s1 ⟨x,H1,I1,r1,q1⟩=>?_) hs hw;rw [h1];exact bM (hg Qx s1 σ H1 x v _ I1 r1 q1) λ_ s2 q=>q
theorem DB {i:Nat}{x:Str}{e:RA}{te:TE}{pos':Pos}(hN:X.N.Nodup) (hi:X.N[i]?=some x) (hx:Loc X.env.scope x) (he:PE X e te) (hs:U4 e (some (.Name x pos')) pos.line X.env=pure false:=by rfl) (hf:X.fn x=true\/X.env.scope.names.lookup x=some .local:=by first | exact .inl rfl | exact .inr rfl | assumption):
  PS X (.Assign [.Name x pos'] e pos) (FJ te (Ge i)):=by intro Qx s σ H D I h;refine wpAny_Assign_Name (bM (he Qx s σ H _ I h) λv s1 ⟨y,H1,I1,r1,q1⟩=>?_) hs;exact qZ I1 hN hi hx r1 (λs2 I2=>⟨_,H1,I2,q1⟩) hf
def Nt (i:Nat) (te:TE) (ti:Jj):TS:=λD σ H=>∃x,σ[i]?=some (some x)/\te σ H λy H1=>ti x y H1 λz H2=>D.nx (σ.set i (some z)) H2
theorem KS {i:Nat}{x:Str}{e:RA}{te:TE}{op:aaZ}{ti:Jj}{pos':Pos}(hN:X.N.Nodup) (hi:X.N[i]?=some x) (hx:Loc X.env.scope x) (he:PE X e te) (ho:NL X op ti) (hf:X.fn x=true\/X.env.scope.names.lookup x=some .local:=by first | exact .inl rfl | exact .inr rfl | assumption):
  PS X (.AugAssign (.Name x pos') op e pos) (Nt i te ti):=by
 intro Qx s σ H D I h;obtain ⟨v,e1,h⟩:=h;obtain ⟨m,hn,hl⟩:=I.loc;have vis:nW X.env.scope x:=by rcases hx with k | k;exact .inl k;exact .inr (.inl k)
 obtain ⟨u,r,l⟩:=hl i x v hi e1 vis;refine wpAny_AugAssign_Name ?_;have go:Q_ (Rf X.prog X.w) X.A (eval e X.env) (λw s₂=>Q_ (Rf X.prog X.w) X.A (W_ op u w) (λr s₃=>Q_ (Rf X.prog X.w) X.A (aar X.env x r) (λ_=>SP X Qx D .next) X.xe s₃) X.xe s₂) X.xe s:=by refine bM (he Qx s σ H _ I h) λw s1 ⟨y,H1,I1,r1,q1⟩=>?_;refine bM (ho Qx s1 σ H1 v y u w _ I1 r r1 q1) λz s2 ⟨zv,H2,I2,r2,q2⟩=>?_;exact qZ I2 hN hi hx r2 (λs3 I3=>⟨_,H2,I3,q2⟩) hf
 rcases l with ⟨hk,hm⟩ | ⟨hk,c,hc,hcell⟩
 ·exact Xs I.ok.kind hk hn hm go
 ·rcases hk with hk | hk
  ·exact XM I.ok.kind hk hc hcell go
  ·rcases hx with k | k
   ·have:X.env.scope.names.lookup x=some .free:=hk;rw [k] at this;cases this
   ·have:X.env.scope.names.lookup x=some .free:=hk;rw [k] at this;cases this
noncomputable def Lm (c:TT) (tb:TS):TS:=λD σ H=>∃W:Nat->St->Hp->Prop,(∃m,W m σ H)/\∀m σ H,W m σ H->
 c σ H λb H1=>if b=true then ∃N:St->Hp->Prop,(∀σ' H',N σ' H'->∃m',m' < m/\W m' σ' H')/\tb {D with nx:=N,ct:=N,bk:=D.nx} σ H1 else D.nx σ H1
theorem Fe {c:RA}{body:List TJ}{tc:TT}{tb:TS}(hp:Y5 (Rf X.prog X.w) X.A X.env X.xe) (hc:PT X c tc) (hb:iN X body tb):PS X (.While c body [] pos) (Lm tc tb):=by
 intro Qx s σ H D I h;obtain ⟨W,⟨m0,w0⟩,turn⟩:=h;refine wpAny_While (codeAny_whileLoop (λn s'=>∃σ' H',Inv X Qx σ' H' s'/\W n σ' H') ?_ m0 ⟨σ,H,I,w0⟩);rintro n s1 ⟨σ1,H1,I1,w1⟩;refine TR hp (bM (hc Qx s1 σ1 H1 _ I1 (turn n σ1 H1 w1)) λb s2 ⟨H2,I2,q2⟩=>?_);cases b with
 | true=>
  obtain ⟨N,hN,q2⟩:=q2;rw [if_pos rfl];refine TR hp (bM (hb Qx s2 σ1 H2 _ I2 q2) λf s3 q3=>?_);cases f with
  | next=>
   obtain ⟨σ3,H3,I3,n3⟩:=q3;obtain ⟨m',hm,w3⟩:=hN σ3 H3 n3;exact ⟨m',hm,σ3,H3,I3,w3⟩
  | cont=>
   obtain ⟨σ3,H3,I3,n3⟩:=q3;obtain ⟨m',hm,w3⟩:=hN σ3 H3 n3;exact ⟨m',hm,σ3,H3,I3,w3⟩
  | brk=>exact q3
  | ret v=>exact q3
 | false=>
  rw [if_neg Ru];exact V3 ⟨σ1,H2,I2,q2⟩
end
structure It where
 go:Nat->Hp->Prop
 yld:Nat->Hp->V->Hp->Prop
 stop:Nat->Hp->Prop
noncomputable def jm (X:Cx) (Qx:List (Rb×Obj)) (H:Hp) (b:Rb):Prop:=
 H b=none/\b≠X.env.locals/\b∉X.fs/\(b∈X.ex\/X.s₀.heap.objs.size<=b)/\(∀x c,X.env.cells.lookup x=some c->c≠b)/\∀p∈X.pn++Qx,p.1≠b
theorem Inv.fpOk {H H':Hp}{s:QM}(I:Inv X Qx σ H s) (hb:s.heap.objs.size<=b) (hn:H' b=none):jm X Qx H' b:=by
 refine ⟨hn,Uq (Rh I.lt hb),I.nofs hb,.inr (Rr I.sz hb),λx c e z=>?_,λp hp z=>?_⟩
 ·obtain ⟨v,q⟩:=I.cell x c e;exact absurd (Rh q.lt (by rw [z];exact hb)) (SS _)
 ·exact absurd (Rh (Q5 (I.pin p hp).1) (by rw [z];exact hb)) (SS _)
structure Turn (P:Ra) (w:Rz) (K:QJ) (tg:RA) (J:It) (fp:List Rb) (it:Rb) (tn:Nat->Sn->Prop):Prop where
 mem:it∈fp
 obj:∀i h,tn i h->∀b∈fp,∃o,h.get? b=some o/\∀v,o.data≠.cell v
 keep:∀i h h',tn i h->(∀b∈fp,∀o,h.get? b=some o->h'.get? b=some o)->tn i h'
 item:∀(X:Cx),X.prog=P->X.w=w->X.K=K->X.calm=true->∀(i:Nat) (Qx:List (Rb×Obj)) (s:QM) (σ:St) (H:Hp) (E:QL->QM->Prop),Inv X Qx σ H s->(∀b∈fp,jm X Qx H b)->tn i s.heap->J.go i H->
  Q_ (Rf P w) X.A (Vg (.ref it)) (λr s1=>∃u,r=some u/\
   Q_ (Rf P w) X.A (Th tg (.ref it) u) (λ_ s2=>∃x H',Inv X Qx σ H' s2/\RelV x u/\J.yld i H x H'/\tn (i + 1) s2.heap/\∀b∈fp,H' b=none) E s1) E s
 done:∀(X:Cx),X.prog=P->X.w=w->X.K=K->X.calm=true->∀(i:Nat) (Qx:List (Rb×Obj)) (s:QM) (σ:St) (H:Hp) (E:QL->QM->Prop),Inv X Qx σ H s->(∀b∈fp,jm X Qx H b)->tn i s.heap->J.stop i H->
  Q_ (Rf P w) X.A (Vg (.ref it)) (λr s1=>r=none/\Inv X Qx σ H s1) E s
 self:∀(A:RC) (i:Nat) (s:QM) (Q:QL->QM->Prop) (E:QL->QM->Prop),tn i s.heap->Q (.ref it) s->Q_ (Rf P w) A (Wv (.ref it)) Q E s
abbrev TI:=St->Hp->(It->Hp->Prop)->Prop
noncomputable def MD (X:Cx) (Qx:List (Rb×Obj)) (σ:St) (tg:RA) (R:It->Hp->Prop) (itv:QL) (s2:QM):Prop:=
 ∃(it:Rb) (fp:List Rb) (tn:Nat->Sn->Prop) (J:It) (H':Hp),itv=.ref it/\Inv X Qx σ H' s2/\Turn X.prog X.w X.K tg J fp it tn/\tn 0 s2.heap/\(∀b∈fp,jm X Qx H' b)/\R J H'
noncomputable def PI (X:Cx) (tg QC:RA) (wi:TI):Prop:=
 ∀(Qx:List (Rb×Obj)) (s:QM) (σ:St) (H:Hp) (R:It->Hp->Prop),Inv X Qx σ H s->wi σ H R->
  Q_ (Rf X.prog X.w) X.A (eval QC X.env) (λv s1=>Q_ (Rf X.prog X.w) X.A (Wv v) (MD X Qx σ tg R) X.xe s1) X.xe s
theorem w5 {M:aa6}{E:QL->QM->Prop}{s:QM}{o:Obj}{Q:Unit->QM->Prop}(ho:s.heap.get? it=some o) (hc:o.cls=.type n) (hd:o.data=.fields vs)
 (hn:["enumerate","zip","dict_itemiterator","dict_reverseitemiterator","odict_iterator","itertools.zip_longest","itertools.pairwise"].contains n=false) (hQ:Q () s):Q_ M A (Th tg (.ref it) u) Q E s:=by
 unfold Th;cases tg <;> first
  | exact QK hQ
  | (cases u <;> first
    | exact QK hQ
    | (refine QI (ZT ho ?_);rw [hc,hd];show Q_ M A (if (["enumerate","zip","dict_itemiterator","dict_reverseitemiterator","odict_iterator","itertools.zip_longest","itertools.pairwise"].contains n && vs[0]? == some (ZU _))=true then _ else _) Q E s;rw [if_neg (by intro h;rw [hn,Zy] at h;cases h)];exact QK hQ))
noncomputable def FT (K:QJ) (a:Rb):It:=
 ⟨λi H=>∃xs x,bV K H a xs/\xs[i]?=some x,λi H x H'=>H'=H/\∀xs,bV K H a xs->xs[i]?=some x,λi H=>∃xs,bV K H a xs/\xs.length<=i⟩
noncomputable def FW (K:QJ) (a:Rb):It:=
 ⟨λi H=>∃xs x,cC K H a xs/\xs[i]?=some x,λi H x H'=>H'=H/\∀xs,cC K H a xs->xs[i]?=some x,λi H=>∃xs,cC K H a xs/\xs.length<=i⟩
def FU (lo:Int) (n:Nat):It:=⟨λi _=>i < n,λi H x H'=>H'=H/\x=.int (lo + i),λi _=>n<=i⟩
theorem DU {P:Ra}{w:Rz}{K:QJ}{tg:RA}(a it:Rb):Turn P w K tg (FT K a) [it] it (λi h=>h.IsListIter it a i) where
 mem:=by simp
 obj:=λi h st b hb=>by
  have e:b=it:=by simpa using hb
  subst e;obtain ⟨o,e,c,d⟩:=st;exact ⟨o,e,λv z=>by rw [d] at z;cases z⟩
 keep:=λi h h' st k=>st.at λo e=>k it (by simp) o e
 item:=by intro X hP hw hK hc i Qx s σ H E I hf st hg;subst hP hw hK;obtain ⟨xs,x,hq,hx⟩:=hg;obtain ⟨Qz,rv,p,hz⟩:=I.list hq;obtain ⟨u,hu,ru⟩:=rv.get hx;obtain ⟨f0,f1,f2,f3,f4,f5⟩:=hf it (by simp);refine wpAny_pyNext_list_item st p.isList (x:=u) (by simpa using hu) λh' st' sb=>?_;have I1:Inv X Qx σ H {s with heap:=h'}:=I.turned (t':=s.toks) (λb o hb e=>(sb.2 b hb).trans e) f0 f1 f3 f4 f5;obtain ⟨o,e,c,d⟩:=id st';exact ⟨u,rfl,w5 (s:={s with heap:=h'}) e c d (by decide) ⟨x,H,I1,ru,⟨rfl,λys hy=>by rw [I.list_inj hy hq];exact hx⟩,st',λb hb=>(hf b hb).1⟩⟩
 done:=by intro X hP hw hK hc i Qx s σ H E I hf st hg;subst hP hw hK;obtain ⟨xs,hq,hx⟩:=hg;obtain ⟨Qz,rv,p,hz⟩:=I.list hq;obtain ⟨f0,f1,f2,f3,f4,f5⟩:=hf it (by simp);have hl:=rv.length;exact wpAny_pyNext_list_end (I.ok.hd hc) st p.isList (by simp;omega) λh' eb=>⟨rfl,I.turned (t':=s.toks) (λb o hb e=>eb b o hb e) f0 f1 f3 f4 f5⟩
 self:=λ_ _ _ _ _ st h=>wpAny_pyIter_listiter st h
theorem BQ {P:Ra}{w:Rz}{K:QJ}{tg:RA}(a it:Rb):Turn P w K tg (FW K a) [it] it (λi h=>h.IsTupleIter it a i) where
 mem:=by simp
 obj:=λi h st b hb=>by
  have e:b=it:=by simpa using hb
  subst e;obtain ⟨o,e,c,d⟩:=st;exact ⟨o,e,λv z=>by rw [d] at z;cases z⟩
 keep:=λi h h' st k=>st.at λo e=>k it (by simp) o e
 item:=by intro X hP hw hK hc i Qx s σ H E I hf st hg;subst hP hw hK;obtain ⟨xs,x,hq,hx⟩:=hg;obtain ⟨Qz,rv,p,hz⟩:=I.tuple hq;obtain ⟨u,hu,ru⟩:=rv.get hx;obtain ⟨f0,f1,f2,f3,f4,f5⟩:=hf it (by simp);refine wpAny_pyNext_tuple_item st (show s.heap.IsTuple a Qz.toArray from p) (x:=u) (by simpa using hu) λh' st' sb=>?_;have I1:Inv X Qx σ H {s with heap:=h'}:=I.turned (t':=s.toks) (λb o hb e=>(sb.2 b hb).trans e) f0 f1 f3 f4 f5;obtain ⟨o,e,c,d⟩:=id st';exact ⟨u,rfl,w5 (s:={s with heap:=h'}) e c d (by decide) ⟨x,H,I1,ru,⟨rfl,λys hy=>by rw [I.tuple_inj hy hq];exact hx⟩,st',λb hb=>(hf b hb).1⟩⟩
 done:=by intro X hP hw hK hc i Qx s σ H E I hf st hg;subst hP hw hK;obtain ⟨xs,hq,hx⟩:=hg;obtain ⟨Qz,rv,p,hz⟩:=I.tuple hq;obtain ⟨f0,f1,f2,f3,f4,f5⟩:=hf it (by simp);have hl:=rv.length;exact wpAny_pyNext_tuple_end (I.ok.hd hc) st (show s.heap.IsTuple a Qz.toArray from p) (by simp;omega) λh' eb=>⟨rfl,I.turned (t':=s.toks) (λb o hb e=>eb b o hb e) f0 f1 f3 f4 f5⟩
 self:=λ_ _ _ _ _ st h=>wpAny_pyIter_tupleiter st h
theorem BP {P:Ra}{w:Rz}{K:QJ}{tg:RA}(it:Rb) (lo:Int) (n:Nat):Turn P w K tg (FU lo n) [it] it (λi h=>IsRangeIter h it (lo + (i:Nat) * 1) ((n:Int) - (i:Nat)) 1) where
 mem:=by simp
 obj:=λi h st b hb=>by
  have e:b=it:=by simpa using hb
  subst e;exact ⟨_,st,λv z=>by
   have z':Data.fields _=Data.cell v:=z;cases z'⟩
 keep:=λi h h' st k=>k it (by simp) _ st
 item:=by intro X hP hw hK hc i Qx s σ H E I hf st hg;subst hP hw hK;obtain ⟨f0,f1,f2,f3,f4,f5⟩:=hf it (by simp);have W:=Walks.range (prog:=X.prog) (w:=X.w) (I.ok.hd hc) it lo 1 n;refine W.item i s _ _ hg st λv h' tk hv st' kk=>?_;obtain ⟨t,rfl⟩:=hv;have I1:Inv X Qx σ H {s with heap:=h',toks:=tk}:=I.turned (λb o hb e=>kk b o (by simpa using hb) e) f0 f1 f3 f4 f5;refine ⟨_,rfl,w5 (s:={s with heap:=h',toks:=tk}) (n:="range_iterator") st' rfl rfl (by decide) ⟨.int (lo + i),H,I1,⟨t,?_⟩,⟨rfl,rfl⟩,st',λb hb=>(hf b hb).1⟩⟩;rw [Int.mul_one]
 done:=by intro X hP hw hK hc i Qx s σ H E I hf st hg;subst hP hw hK;obtain ⟨f0,f1,f2,f3,f4,f5⟩:=hf it (by simp);exact wpAny_pyNext_range_end (I.ok.hd hc) st (by have:n<=i:=hg;omega) λh' eb=>⟨rfl,I.turned (t':=s.toks) (λb o hb e=>eb b o hb e) f0 f1 f3 f4 f5⟩
 self:=λ_ _ _ _ _ st h=>wpAny_pyIter_rangeiter st h
section
variable {X:Cx}{tg:RA}
theorem Fw {Qx:List (Rb×Obj)}{σ:St}{H:Hp}{s:QM}{R:It->Hp->Prop}{E:QL->QM->Prop}{lo hi:Int}{t u v:Tok}{tk:Nat}(I:Inv X Qx σ H s) (h1:-(2 ^ 62)<=lo) (h2:lo < 2 ^ 62) (h3:-(2 ^ 62)<=hi) (h4:hi < 2 ^ 62)
  (q:R (FU lo (hi - lo).toNat) H):Q_ (Rf X.prog X.w) X.A (Wv (.ref s.heap.objs.size)) (MD X Qx σ tg R) E {s with heap:=s.heap.push {cls:=.type "range",data:=.fields #[.int lo t,.int hi u,.int 1 v]},toks:=tk}:=by
 refine wpAny_pyIter_range (IsRange.new ..) (small_one h1 h2 h3 h4) ?_;have I1:Inv X Qx σ H {s with heap:=s.heap.push {cls:=.type "range",data:=.fields #[.int lo t,.int hi u,.int 1 v]},toks:=tk}:=I.kept λb o e=>QU _ e;refine ⟨(s.heap.push {cls:=.type "range",data:=.fields #[.int lo t,.int hi u,.int 1 v]}).objs.size,[(s.heap.push {cls:=.type "range",data:=.fields #[.int lo t,.int hi u,.int 1 v]}).objs.size],_,_,H,rfl,
  I1.kept (t':=tk) λb o e=>QU _ e,BP _ lo (hi - lo).toNat,?_,λb hb=>?_,q⟩
 ·have e1:lo + ((0:Nat):Int) * 1=lo:=by simp
  have e2:(((hi - lo).toNat:Nat):Int) - ((0:Nat):Int)=WJ lo hi 1:=by rw [Z7];split <;> omega
  show IsRangeIter _ _ (lo + ((0:Nat):Int) * 1) ((((hi - lo).toNat:Nat):Int) - ((0:Nat):Int)) 1;rw [e1,e2];exact Q2 _ rfl
 ·have e:b=(s.heap.push {cls:=.type "range",data:=.fields #[.int lo t,.int hi u,.int 1 v]}).objs.size:=by simpa using hb
  subst e;exact I1.fpOk (QW _) (I1.hok.fresh (QW _))
def LM (ta:TA):TI:=λσ H R=>ta σ H λvs H1=>∃j:Int,vs=[.int j]/\-(2 ^ 62)<=j/\j < 2 ^ 62/\R (FU 0 j.toNat) H1
theorem Dv {a:RA}{ta:TA}{p pos:Pos}(hg:Gl X "range") (hm:X.mg "range"=none) (ha:PA X [a] ta) (hs:QZ [a] X.env=[(false,eval a X.env)]:=by rfl):PI X tg (.Call (.Name "range" p) [a] [] pos) (LM ta):=by
 intro Qx s σ H R I h;refine Call_ (sR I hg hm boot_range (V4 (bM (ha pos Qx s σ H _ I h) λus s1 ⟨vs,H1,I1,r1,q1⟩=>?_) hs rfl));obtain ⟨j,e,q1,q2,q⟩:=q1;subst e;cases r1 with
 | cons r rr=>
  cases rr;obtain ⟨t,rfl⟩:=r;exact call_range_1 (Fw I1 (by omega) (by omega) q1 q2 (by simpa using q))
noncomputable def Nu (wi:TI) (g:TG) (tb:TS):TS:=λD σ H=>wi σ H λJ H1=>∃W:Nat->Nat->St->Hp->Prop,(∃m,W 0 m σ H1)/\∀i m σ H,W i m σ H->
 (J.stop i H/\D.nx σ H)\/(J.go i H/\∃N:St->Hp->Prop,(∀σ' H',N σ' H'->∃m',m' < m/\W (i + 1) m' σ' H')/\∀x H',J.yld i H x H'->g x σ H' λσ2 H2=>tb {D with nx:=N,ct:=N,bk:=D.nx} σ2 H2)
def oK (fp:List Rb) (h:Sn):List (Rb×Obj):=fp.filterMap λb=>(h.get? b).map λo=>(b,o)
theorem jz {fp:List Rb}{h:Sn}(hb:b∈fp) (e:h.get? b=some o):(b,o)∈oK fp h:=U5.mpr ⟨b,hb,by rw [e];rfl⟩
theorem Di {fp:List Rb}{h:Sn}{p:Rb×Obj}(hp:p∈oK fp h):p.1∈fp/\h.get? p.1=some p.2:=by
 obtain ⟨b,hb,e⟩:=U5.mp hp;cases q:h.get? b with
 | none=>rw [q] at e;cases e
 | some o=>
  rw [q] at e;have e':(b,o)=p:=RY e;subst e';exact ⟨hb,q⟩
theorem Inv.pinned {H:Hp}{s:QM}{fp:List Rb}(I:Inv X Qx σ H s) (hf:∀b∈fp,jm X Qx H b) (ho:∀b∈fp,∃o,s.heap.get? b=some o/\∀v,o.data≠.cell v):Inv X (Qx++oK fp s.heap) σ H s:=
 I.pins_of λp hp=>(Rn.mp hp).elim (λz=>I.pin p (RK _ z)) λz=>by obtain ⟨hb,e⟩:=Di z;obtain ⟨f0,f1,f2,_⟩:=hf p.1 hb;obtain ⟨o,e',d⟩:=ho p.1 hb;rw [e] at e';cases e';exact ⟨e,f0,f1,f2,d⟩
theorem Inv.unpinned {H:Hp}(I:Inv X (Qx++pl) σ H s):Inv X Qx σ H s:=I.pins_of λp hp=>I.pin p (RK _ (UI _ hp))
theorem KU {QC:RA}{body:List TJ}{wi:TI}{g:TG}{tb:TS}{pos:Pos}(hp:Y5 (Rf X.prog X.w) X.A X.env X.xe) (hc:X.calm=true) (hi:PI X tg QC wi) (hg:PG X tg g) (hb:iN X body tb)
  (hs:∀x,Se QC X.env x=pure x:=by intro _;rfl):PS X (.For tg QC body [] pos) (Nu wi g tb):=by
 intro Qx s σ H D I h;refine wpAny_For (bM (hi Qx s σ H _ I h) λv s1 h1=>bM h1 λitv s2 h2=>?_) hs;obtain ⟨it,fp,tn,J,H2,e,I2,T,st2,f2,W,⟨m0,w0⟩,turn⟩:=h2;subst e;have stat:∀{H':Hp},(∀b∈fp,H' b=none)->∀b∈fp,jm X Qx H' b:=λhn b hb=>⟨hn b hb,(f2 b hb).2⟩;refine codeAny_forLoop_any (λn s'=>∃i σ' H',Inv X Qx σ' H' s'/\tn i s'.heap/\(∀b∈fp,H' b=none)/\W i n σ' H') ?_ m0 ⟨0,σ,H2,I2,st2,λb hb=>(f2 b hb).1,w0⟩;rintro n s3 ⟨i,σ3,H3,I3,st3,fr3,w3⟩;rcases turn i n σ3 H3 w3 with ⟨stop,qn⟩ | ⟨go,N,hN,step⟩
 ·refine TR hp (bM (T.done X rfl rfl rfl hc i Qx s3 σ3 H3 X.xe I3 (stat fr3) st3 stop) λr s4 ⟨hr,I4⟩=>?_);subst hr;exact V3 ⟨σ3,H3,I4,qn⟩
 ·refine TR hp (bM (T.item X rfl rfl rfl hc i Qx s3 σ3 H3 X.xe I3 (stat fr3) st3 go) λr s4 ⟨u,hr,h4⟩=>?_);subst hr;refine TR hp (bM h4 λ_ s5 ⟨x,H5,I5,r5,y5,st5,fr5⟩=>?_);have I5':=I5.pinned (stat fr5) (T.obj _ _ st5);refine TR hp (bM (hg _ s5 σ3 H5 x u _ I5' r5 (step x H5 y5)) λ_ s6 ⟨σ6,H6,I6,q6⟩=>?_);refine TR hp (bM (hb _ s6 σ6 H6 _ I6 q6) λf s7 q7=>?_);have again:∀{σ7:St}{H7:Hp},Inv X (Qx++oK fp s5.heap) σ7 H7 s7->N σ7 H7->∃m,m < n/\∃i σ' H',Inv X Qx σ' H' s7/\tn i s7.heap/\(∀b∈fp,H' b=none)/\W i m σ' H':=fun {σ7 H7} I7 n7=>by obtain ⟨m',hm,w7⟩:=hN σ7 H7 n7;refine ⟨m',hm,i + 1,σ7,H7,I7.unpinned,T.keep _ _ _ st5 λb hb o e=>(I7.pin (b,o) (RK _ (RK _ (jz hb e)))).1,λb hb=>?_,w7⟩;obtain ⟨o,e,d⟩:=T.obj _ _ st5 b hb;exact (I7.pin (b,o) (RK _ (RK _ (jz hb e)))).2.1
  cases f with
  | next=>obtain ⟨σ7,H7,I7,n7⟩:=q7;exact again I7 n7
  | cont=>obtain ⟨σ7,H7,I7,n7⟩:=q7;exact again I7 n7
  | brk=>obtain ⟨σ7,H7,I7,q7⟩:=q7;exact ⟨σ7,H7,I7.unpinned,q7⟩
  | ret v=>obtain ⟨x7,σ7,H7,I7,r7,q7⟩:=q7;exact ⟨x7,σ7,H7,I7.unpinned,r7,q7⟩
end
abbrev R2:=V->V->Hp->VK->Prop
noncomputable def c5 (X:Cx) (f:QL->QL->Sem QL) (r:R2):Prop:=
 ∀(Qx:List (Rb×Obj)) (s:QM) (σ:St) (H:Hp) (x y:V) (v u:QL) (Q:VK),Inv X Qx σ H s->RelV x v->RelV y u->r x y H Q->
  Q_ (Rf X.prog X.w) X.A (f v u) (EP X Qx σ Q) X.xe s
noncomputable def Jk (X:Cx) (f:QL->Sem QL) (r:V->Hp->VK->Prop):Prop:=
 ∀(Qx:List (Rb×Obj)) (s:QM) (σ:St) (H:Hp) (x:V) (v:QL) (Q:VK),Inv X Qx σ H s->RelV x v->r x H Q->
  Q_ (Rf X.prog X.w) X.A (f v) (EP X Qx σ Q) X.xe s
noncomputable def bN (X:Cx) (f:QL) (r:List V->Hp->VK->Prop):Prop:=
 ∀(Qx:List (Rb×Obj)) (s:QM) (σ:St) (H:Hp) (xs:List V) (us:List QL) (Q:VK),Inv X Qx σ H s->Vals xs us->r xs H Q->
  Q_ (Rf X.prog X.w) X.A (call f us) (EP X Qx σ Q) X.xe s
noncomputable def MY (X:Cx) (r:V->Hp->(Bool->Hp->Prop)->Prop):Prop:=
 ∀(Qx:List (Rb×Obj)) (s:QM) (σ:St) (H:Hp) (x:V) (v:QL) (Q:Bool->Hp->Prop),Inv X Qx σ H s->RelV x v->r x H Q->
  Q_ (Rf X.prog X.w) X.A (truthy v) (TP X Qx σ Q) X.xe s
def AE (r:R2) (ta tb:TE):TE:=λσ H Q=>ta σ H λx H1=>tb σ H1 λy H2=>r x y H2 Q
def NZ (r:V->Hp->VK->Prop) (ta:TE):TE:=λσ H Q=>ta σ H λx H1=>r x H1 Q
def rI (C:Int->Int->Prop) (g:Int->Int->V):R2:=λx y H Q=>∃i j,x=.int i/\y=.int j/\C i j/\Q (g i j) H
def oR (g:Int->Int->V):R2:=λx y H Q=>∃i j,x=.int i/\y=.int j/\Q (g i j) H
def rU (g:Int->V):V->Hp->VK->Prop:=λx H Q=>∃i,x=.int i/\Q (g i) H
section
variable {X:Cx}{a b c:RA}{ta tb tc:TE}{pos:Pos}
theorem Eg (ha:PE X a ta) (hb:PE X b tb){Qx:List (Rb×Obj)}{s:QM}{σ:St}{H:Hp}{R:V->V->Hp->Prop}(I:Inv X Qx σ H s)
  (h:ta σ H λx H1=>tb σ H1 λy H2=>R x y H2){Q:QL->QM->Prop}{f:QL->QL->Sem QL}
  (hf:∀v u s2 x y H2,Inv X Qx σ H2 s2->RelV x v->RelV y u->R x y H2->Q_ (Rf X.prog X.w) X.A (f v u) Q X.xe s2):
  Q_ (Rf X.prog X.w) X.A (eval a X.env) (λv s₁=>Q_ (Rf X.prog X.w) X.A (eval b X.env) (λu s₂=>Q_ (Rf X.prog X.w) X.A (f v u) Q X.xe s₂) X.xe s₁) X.xe s:=by refine bM (ha Qx s σ H _ I h) λv s1 ⟨x,H1,I1,r1,q1⟩=>?_;refine bM (hb Qx s1 σ H1 _ I1 q1) λu s2 ⟨y,H2,I2,r2,q2⟩=>?_;exact hf v u s2 x y H2 I2 r1 r2 q2
theorem L5 (ho:c5 X (Uy op) r) (ha:PE X a ta) (hb:PE X b tb):PE X (.BinOp a op b pos) (AE r ta tb):=by intro Qx s σ H Q I h;exact wpAny_BinOp (Eg ha hb I h λv u s2 x y H2 I2 rx ry q=>ho Qx s2 σ H2 x y v u Q I2 rx ry q)
theorem L7 {r:V->Hp->VK->Prop}(ho:Jk X (unaryOp op) r) (ha:PE X a ta):PE X (.UnaryOp op a pos) (NZ r ta):=by intro Qx s σ H Q I h;exact UnaryOp_ (bM (ha Qx s σ H _ I h) λv s1 ⟨x,H1,I1,r1,q1⟩=>ho Qx s1 σ H1 x v Q I1 r1 q1)
theorem M0 (ho:c5 X (W_ op) r){H:Hp}{Q:VK}(I:Inv X Qx σ H s)
 (rx:RelV x v) (ry:RelV y u) (q:r x y H Q):Q_ (Rf X.prog X.w) X.A (W_ op v u) (EP X Qx σ Q) X.xe s:=ho Qx s σ H x y v u Q I rx ry q
theorem Gw {f:QL->QL->Sem QL}{C:Int->Int->Prop}{g:Int->Int->Int}
  (rule:∀(i j:Int) (t u:Tok) (s:QM) (Q:QL->QM->Prop) (E:QL->QM->Prop),C i j->Q (.int (g i j) s.toks) {s with toks:=s.toks + 1}->Q_ (Rf X.prog X.w) X.A (f (.int i t) (.int j u)) Q E s):
  c5 X f (rI C λi j=>.int (g i j)):=by intro Qx s σ H x y v u Q I rx ry h;obtain ⟨i,j,rfl,rfl,hc,q⟩:=h;obtain ⟨t,rfl⟩:=rx;obtain ⟨t',rfl⟩:=ry;exact rule i j t t' s _ _ hc ⟨.int (g i j),H,I.tok _,⟨_,rfl⟩,q⟩
theorem E7 {f:QL->QL->Sem QL}{g:Int->Int->Int}
  (rule:∀(i j:Int) (t u:Tok) (s:QM) (Q:QL->QM->Prop) (E:QL->QM->Prop),Q (.int (g i j) s.toks) {s with toks:=s.toks + 1}->Q_ (Rf X.prog X.w) X.A (f (.int i t) (.int j u)) Q E s):
  c5 X f (oR λi j=>.int (g i j)):=by intro Qx s σ H x y v u Q I rx ry h;obtain ⟨i,j,rfl,rfl,q⟩:=h;obtain ⟨t,rfl⟩:=rx;obtain ⟨t',rfl⟩:=ry;exact rule i j t t' s _ _ ⟨.int (g i j),H,I.tok _,⟨_,rfl⟩,q⟩
theorem E6 {f:QL->QL->Sem QL}{g:Int->Int->Bool}
  (rule:∀(i j:Int) (t u:Tok) (s:QM) (Q:QL->QM->Prop) (E:QL->QM->Prop),Q (.bool (g i j)) s->Q_ (Rf X.prog X.w) X.A (f (.int i t) (.int j u)) Q E s):
  c5 X f (oR λi j=>.bl (g i j)):=by intro Qx s σ H x y v u Q I rx ry h;obtain ⟨i,j,rfl,rfl,q⟩:=h;obtain ⟨t,rfl⟩:=rx;obtain ⟨t',rfl⟩:=ry;exact rule i j t t' s _ _ ⟨.bl (g i j),H,I,rfl,q⟩
def MO (i j:Int):Prop:=0 < j/\j < 1073741824
def MP (i j:Int):Prop:=0<=j/\j<=1000000/\i.natAbs < 2 ^ 64
def AL (i j:Int):Prop:=(-(2 ^ 64) < i/\i < 2 ^ 64)\/(-(2 ^ 64) < j/\j < 2 ^ 64)
theorem AL.ok (h:AL i j):IntMulOk i j:=by
 rcases h with ⟨h1,h2⟩ | ⟨h1,h2⟩
 ·exact .of_left (Z8 h1 h2)
 ·exact .of_right (Z8 h1 h2)
theorem Dj:c5 X (Uy .Add) (oR λi j=>.int (i + j)):=E7 λ_ _ _ _ _ _ _ q=>add_int q
theorem Ks:c5 X (Uy .Sub) (oR λi j=>.int (i - j)):=E7 λ_ _ _ _ _ _ _ q=>sub_int q
theorem Ko:c5 X (Uy .Mult) (rI AL λi j=>.int (i * j)):=Gw λ_ _ _ _ _ _ _ hc q=>mul_int q hc.ok
theorem HU:c5 X (Uy .FloorDiv) (rI MO λi j=>.int (i / j)):=Gw λi j _ _ _ _ _ hc q=>by have h1:(0:Int) < j:=hc.1;have h2:j < 1073741824:=hc.2;exact floordiv_int (by omega) (by rw [Int.fdiv_eq_ediv_of_nonneg i (by omega)];exact q) (.inl (PyProof.noPylong_small (by omega)))
theorem Kn:c5 X (Uy .Mod) (rI (λ_ j=>0 < j) λi j=>.int (i % j)):=Gw λi j _ _ _ _ _ hc q=>by have h1:(0:Int) < j:=hc;exact mod_int' (by omega) (by rw [Int.fmod_eq_emod_of_nonneg i (by omega)];exact q)
theorem Kr:c5 X (Uy .Pow) (rI MP λi j=>.int (i ^ j.toNat)):=Gw λ_ _ _ _ _ _ _ hc q=>pow_int_small hc.1 hc.2.1 hc.2.2 q
theorem Hr:c5 X (W_ .Add) (oR λi j=>.int (i + j)):=E7 λ_ _ _ _ _ _ _ q=>iadd_int q
theorem AI {f:QL->Sem QL}{g:Int->Int}
  (rule:∀(i:Int) (t:Tok) (s:QM) (Q:QL->QM->Prop) (E:QL->QM->Prop),Q (.int (g i) s.toks) {s with toks:=s.toks + 1}->Q_ (Rf X.prog X.w) X.A (f (.int i t)) Q E s):
  Jk X f (rU λi=>.int (g i)):=by intro Qx s σ H x v Q I rx h;obtain ⟨i,rfl,q⟩:=h;obtain ⟨t,rfl⟩:=rx;exact rule i t s _ _ ⟨.int (g i),H,I.tok _,⟨_,rfl⟩,q⟩
theorem Lw:Jk X (unaryOp .USub) (rU λi=>.int (-i)):=AI λ_ _ _ _ _ q=>neg_int q
theorem Gx:c5 X (Sx .Lt) (oR λi j=>.bl (decide (i < j))):=E6 λ_ _ _ _ _ _ _ q=>lt_int q
theorem pK:c5 X (Sx .Gt) (oR λi j=>.bl (decide (j < i))):=E6 λ_ _ _ _ _ _ _ q=>gt_int q
theorem LX:c5 X (Sx .GtE) (oR λi j=>.bl (decide (j<=i))):=E6 λ_ _ _ _ _ _ _ q=>ge_int q
theorem c5.or {f:QL->QL->Sem QL}{r r':R2}(h:c5 X f r) (h':c5 X f r'):c5 X f (λx y H Q=>r x y H Q\/r' x y H Q):=by
 intro Qx s σ H x y v u Q I rx ry q;rcases q with q | q
 ·exact h Qx s σ H x y v u Q I rx ry q
 ·exact h' Qx s σ H x y v u Q I rx ry q
theorem yF (b:RA) (h:op≠.In:=by decide) (h2:op≠.NotIn:=by decide):Sd op b=false:=by
 have e1:(op == abl)=false:=by cases op <;> first | rfl | exact absurd rfl h
 have e2:(op == aaF)=false:=by cases op <;> first | rfl | exact absurd rfl h2
 cases b <;> simp [Sd,e1,e2]
theorem Ie (ho:c5 X (Sx op) r) (ha:PE X a ta) (hb:PE X b tb) (hm:Sd op b=false):PE X (.Compare a [op] [b] pos) (AE r ta tb):=by intro Qx s σ H Q I h;exact wpAny_Compare1 (Eg ha hb I h λv u s2 x y H2 I2 rx ry q=>ho Qx s2 σ H2 x y v u Q I2 rx ry q) hm
def Ms (t:TE):TT:=λσ H Q=>t σ H λx H'=>∃k,x=.bl k/\Q k H'
theorem Im {op:CmpOp}{r:R2}(ho:c5 X (Sx op) r) (ha:PE X a ta) (hb:PE X b tb) (hm:Sd op b=false):PT X (.Compare a [op] [b] pos) (Ms (AE r ta tb)):=by
 intro Qx s σ H Q I h;refine W8 (bM (ha Qx s σ H _ I h) λv s1 ⟨x,H1,I1,r1,q1⟩=>bM (hb Qx s1 σ H1 _ I1 q1) λu s2 ⟨y,H2,I2,r2,q2⟩=>
  bM (ho Qx s2 σ H2 x y v u _ I2 r1 r2 q2) λc s3 ⟨z,H3,I3,r3,k,e,q3⟩=>?_) hm
 subst e;cases r3;exact R3 ⟨H3,I3,q3⟩
noncomputable def Ea (K:QJ) (x:V) (H:Hp) (k:Bool):Prop:=
 match x with
 | .non=>k=false
 | .bl b=>k=b
 | .int i=>k=(i != 0)
 | .str y=>y.length<=sizeLine/\k=((y.length:Int) != 0)
 | .byt y=>y.size<=sizeLine/\k=((y.size:Int) != 0)
 | .ref p=>(∃xs,bV K H p xs/\k=!xs.isEmpty)\/(∃xs,cC K H p xs/\k=!xs.isEmpty)\/∃QG,H p=some (.dK QG)/\k=!QG.isEmpty
 | _=>False
theorem Bd {κ:Type}{QG:List (κ×V)}{vs:List (κ×QL)}(r:KV QG vs):(!vs.isEmpty)=!QG.isEmpty:=by cases r <;> rfl
theorem sP {xs:List V}{Qz:List QL}(r:Vals xs Qz):(!Qz.toArray.isEmpty)=!xs.isEmpty:=by cases r <;> simp
theorem lS:(sizeLine:Nat) < 2 ^ 63:=by rw [RX];decide
theorem Ln:MY X (λx H Q=>∃k,Ea X.K x H k/\Q k H):=by
 intro Qx s σ H x v Q I rx h;obtain ⟨k,e,q⟩:=h;have hl:=lS;have hs:sizeLine=16777216:=RX;cases x with
 | non=>
  cases rx;have e':k=false:=e;subst e';exact truthy_none ⟨H,I,q⟩
 | bl b=>
  cases rx;have e':k=b:=e;subst e';exact R3 ⟨H,I,q⟩
 | int i=>
  obtain ⟨t,rfl⟩:=rx;have e':k=(i != 0):=e;subst e';exact PySem.P.truthy_int ⟨H,I,q⟩
 | str y=>
  obtain ⟨t,rfl⟩:=rx;obtain ⟨hy,e'⟩:y.length<=sizeLine/\k=((y.length:Int) != 0):=e;subst e';exact PySem.P.truthy_str (by omega) ⟨H,I.tok _,q⟩
 | byt y=>
  obtain ⟨t,rfl⟩:=rx;obtain ⟨hy,e'⟩:y.size<=sizeLine/\k=((y.size:Int) != 0):=e;subst e';exact W.truthy_bytes (by omega) ⟨H,I.tok _,q⟩
 | ref p=>
  cases rx;have e':(∃xs,bV X.K H p xs/\k=!xs.isEmpty)\/(∃xs,cC X.K H p xs/\k=!xs.isEmpty)\/∃QG,H p=some (.dK QG)/\k=!QG.isEmpty:=e;rcases e' with ⟨xs,hx,e'⟩ | ⟨xs,hx,e'⟩ | ⟨QG,hx,e'⟩
  ·subst e';obtain ⟨Qz,r,pl,hz⟩:=I.list hx;have hlen:=r.length;exact wpAny_truthy_list pl.isList (by simp only [QY];omega) ⟨H,I.tok _,by rw [sP r];exact q⟩
  ·subst e';obtain ⟨Qz,r,pl,hz⟩:=I.tuple hx;have hlen:=r.length;exact truthy_tuple pl (by simp only [QY];omega) ⟨H,I.tok _,by rw [sP r];exact q⟩
  ·subst e';obtain ⟨hz,hS,vs,r,m⟩:QG.length<=sizeLine/\(p == TN)=false/\∃vs,KV QG vs/\s.heap.DictOf (uB X.prog X.w) p vs:=I.hok p _ hx;have hlen:QG.length=vs.length:=Z6 r;exact wpAny_truthy_dict hS m (by omega) ⟨H,I.tok _,by rw [Bd r];exact q⟩
 | _=>exact (show False from e).elim
theorem Ff (ha:PE X a ta) (he:∀whole,XG a X.env whole=(do let v <-whole;Uo a.pos;holding [v] (truthy v))):
  PT X a (λσ H Q=>ta σ H λx H'=>∃k,Ea X.K x H' k/\Q k H'):=by intro Qx s σ H Q I h;exact isTrue_plain (bM (ha Qx s σ H _ I h) λv s1 ⟨x,H1,I1,r1,q1⟩=>Ln Qx s1 σ H1 x v Q I1 r1 q1) (he _)
theorem sW:c5 X (Uy .Add) (λx y H Q=>∃i j,x=.str i/\y=.str j/\i.length + j.length<=sizeLine/\Q (.str (i++j)) H):=by intro Qx s σ H x y v u Q I rx ry h;obtain ⟨i,j,rfl,rfl,hz,q⟩:=h;obtain ⟨t,rfl⟩:=rx;obtain ⟨t',rfl⟩:=ry;exact add_str (λt' tk=>⟨.str (i++j),H,I.tok _,⟨_,rfl⟩,q⟩) hz
theorem vals1 (r:Vals [x] us):∃u,us=[u]/\RelV x u:=by
 cases r with
 | cons r1 r2=>cases r2;exact ⟨_,rfl,r1⟩
theorem vals2 (r:Vals [x,y] us):∃u w',us=[u,w']/\RelV x u/\RelV y w':=by
 cases r with
 | cons r1 r2=>
  cases r2 with
  | cons r3 r4=>cases r4;exact ⟨_,_,rfl,r1,r3⟩
end
structure dg (k:Nat) (A:RC):Prop where
 hd:A.handled=none
 dp:A.depth + 3 * k + 5 < Zz
 un:A.units + 16 * k + 200 < Sw
theorem dg.mono (r:dg k A) (h:j<=k):dg j A:=⟨r.hd,by have:=r.dp;omega,by have:=r.un;omega⟩
theorem dg.deeper {A:RC}(r:dg (k + 1) A) (env:Env):dg k (A.deeper env):=
 ⟨r.hd,by have:=r.dp;show A.depth + 1 + 3 * k + 5 < _;omega,by have:=r.un;show A.units + 3 + 16 * k + 200 < _;omega⟩
theorem dg.depth {A:RC}(r:dg k A):A.depth < Zz:=by have:=r.dp;omega
theorem dg.units {A:RC}(r:dg k A):A.units + 64 < Sw:=by have:=r.un;omega
def y_:TA:=λ_ H Q=>Q [] H
def Ml (ta:TE) (tr:TA):TA:=λσ H Q=>ta σ H λx H1=>tr σ H1 λxs H2=>Q (x::xs) H2
section
variable {X:Cx}{e:RA}{es:List RA}{te:TE}{t:TA}{pos:Pos}
theorem fJ:PA X [] y_:=λ_ _ _ _ H Q I h=>Calls.spliced_nil ⟨[],H,I,.nil,h⟩
theorem dF (ha:PE X e te) (hr:PA X es t) (hs:QZ (e::es) X.env=(false,eval e X.env)::QZ es X.env:=by rfl):PA X (e::es) (Ml te t):=by intro pos Qx s σ H Q I h;rw [hs];show Q_ _ _ (spliced ((false,eval e X.env)::SJ pos (QZ es X.env))) _ _ s;refine Calls.spliced_cons (bM (ha Qx s σ H _ I h) λu s1 ⟨x,H1,I1,r1,q1⟩=>?_);exact bM (hr pos Qx s1 σ H1 _ I1 q1) λus s2 ⟨xs,H2,I2,r2,q2⟩=>⟨x::xs,H2,I2,.cons r1 r2,q2⟩
def ND (t:TA):TE:=λσ H Q=>t σ H λxs H1=>xs.length<=sizeLine/\∀p,H1 p=none->Q (.ref p) (upd H1 p (.tup xs))
def Nx (t:TA):TE:=λσ H Q=>t σ H λxs H1=>xs.length<=sizeLine/\∀p,H1 p=none->Q (.ref p) (upd H1 p (.lst xs))
theorem KL {x1}(h:PA X es t):PE X (.Tuple es x1 pos) (ND t):=by intro Qx s σ H Q I hq;refine wpAny_Tuple_spliced (bM (h pos Qx s σ H _ I hq) λus s1 ⟨xs,H1,I1,r,z,q⟩=>⟨by rw [<-r.length];exact z,?_⟩);have hf:H1 s1.heap.objs.size=none:=I1.hok.fresh (QW _);refine ⟨.ref s1.heap.objs.size,upd H1 s1.heap.objs.size (.tup xs),I1.laid (t':=s1.toks) (λb u e=>QU _ e) (QW _) ?_,rfl,q _ hf⟩;exact ⟨z,us,r,⟨_,Q2 _ rfl,rfl,_,rfl⟩⟩
theorem KC (h:PA X es t):PE X (.List es pos) (Nx t):=by intro Qx s σ H Q I hq;refine wpAny_List_spliced (bM (h pos Qx s σ H _ I hq) λus s1 ⟨xs,H1,I1,r,z,q⟩=>⟨by rw [<-r.length];exact z,?_⟩);have hf:H1 s1.heap.objs.size=none:=I1.hok.fresh (QW _);refine ⟨.ref s1.heap.objs.size,upd H1 s1.heap.objs.size (.lst xs),I1.laid (t':=s1.toks) (λb u e=>QU _ e) (QW _) ?_,rfl,q _ hf⟩;exact ⟨z,us,0,r,Q2 _ rfl⟩
end
abbrev Sp:=List V->Hp->VK->XK->Prop
abbrev uP:=List Env->Hp->QM->XK->QL->QM->Prop
structure AM (P:Ra) (w:Rz) (K:QJ) (mg:Str->Option QL) (base:Sn) (A:RC) (outer:List Env) (s:QM) (H:Hp):Prop where
 frames:A.frames=some outer
 mod:Mod K mg base
 bs:∀b o,base.get? b=some o->s.heap.get? b=some o/\H b=none
 bsz:base.objs.size<=s.heap.objs.size
 funs:s.heap.FunFrames base outer
 frf:∀b∈frs outer,H b=none
 hok:fE P w H s.heap
 bare:W7 s.gens
noncomputable def CE (outer:List Env) (P:Ra) (w:Rz) (H:Hp) (s:QM) (Q:VK) (u:QL) (s':QM):Prop:=
 ∃v H',s'.os=s.os/\W7 s'.gens/\Un (frs outer) [] H H' s.heap s'.heap/\fE P w H' s'.heap/\RelV v u/\Q v H'
noncomputable def CR (CX:uP) (outer:List Env) (P:Ra) (w:Rz) (H:Hp) (s:QM) (Q:VK) (E:XK) (r:Y6) (s':QM):Prop:=
 match r with
 | .ok (.ret u)=>CE outer P w H s Q u s'
 | .ok _=>False
 | .error e=>CX outer H s E e s'
structure iQ (P:Ra) (w:Rz) (K:QJ) (mg:Str->Option QL) (base:Sn) (CX:uP) (k:Nat) (f:Rb) (fd:Ry) (ps:List Str) (sp:Sp):Prop where
 len:∀vs H Q E,sp vs H Q E->vs.length=ps.length
 run:∀(A:RC) (outer:List Env) (s:QM) (H:Hp) (args:Args) (us:List QL) (vs:List V) (Q:VK) (E:XK),dg k A->AM P w K mg base A outer s H->Y7 s fd args (ps.zip us)->Vals vs us->sp vs H Q E->
  S6 (Rf P w) A (.call (.ref f) args) (CR CX outer P w H s Q E) s
section
variable {X:Cx}{Qx:List (Rb×Obj)}{σ:St}{H:Hp}{s s':QM}
theorem Inv.env0 (I:Inv X Qx σ H s):AM X.prog X.w X.K X.mg X.base X.A X.stack s H:=
 ⟨I.ok.frames,I.ok.mod,I.bs,Rr I.ok.bsz I.sz,I.stack,I.stkFree,I.hok,I.bare⟩
theorem Inv.after {Q:VK}(I:Inv X Qx σ H s) (h:CE X.stack X.prog X.w H s Q u s'):EP X Qx σ Q u s':=by obtain ⟨v,H',os,bare,un,hok,r,q⟩:=h;obtain ⟨hh,g,d,t,os'⟩:=s';obtain rfl:os'=s.os:=os;exact ⟨v,H',I.call (h':=hh) (g':=g) (d':=d) (t':=t) (ch:=[]) un hok bare (λb z=>absurd z (by simp)),r,q⟩
end
def GK (sp:Sp) (dvs:List V) (E:XK) (t:TA):TE:=λσ H Q=>t σ H λvs H1=>sp (vs++dvs) H1 Q E
noncomputable def Binds (K:QJ) (fd:Ry) (ps:List Str) (ds:List QL):Prop:=
 ∀(s:QM) (us:List QL),K.In s.heap->(us++ds).length=ps.length->Y7 s fd ⟨us,[]⟩ (ps.zip (us++ds))
theorem Binds.all {K:QJ}{fd:Ry}{ps:List Str}(h:∀us:List QL,us.length=ps.length->YZ fd ⟨us,[]⟩=pure (ps.zip us)):Binds K fd ps []:=λs us _ hl=>by rw [TU] at hl ⊢;exact .of_eq (h us hl)
def Passes (CX:uP) (X:Cx) (E:XK):Prop:=∀(Qx:List (Rb×Obj)) (σ:St) (H:Hp) (s:QM) (e:QL) (s':QM),Inv X Qx σ H s->CX X.stack H s E e s'->X.xe e s'
section
variable {X:Cx}{CX:uP}{k:Nat}{f C:Rb}{fd:Ry}{ps:List Str}{sp:Sp}{dvs:List V}{ds:List QL}{E:XK}{x m:Str}{p pos apos:Pos}{e o:RA}{es:List RA}{ta:TE}{t:TA}
theorem DM {H:Hp}{Q:VK}(F:iQ X.prog X.w X.K X.mg X.base CX k f fd ps sp) (hr:dg k X.A) (hb:Binds X.K fd ps ds) (hd:Vals dvs ds) (hx:Passes CX X E)
 (I:Inv X Qx σ H s) (r:Vals vs us) (h:sp (vs++dvs) H Q E):Q_ (Rf X.prog X.w) X.A (call (.ref f) us) (EP X Qx σ Q) X.xe s:=by
 have r2:Vals (vs++dvs) (us++ds):=r.append hd;have hl:(us++ds).length=ps.length:=by rw [<-r2.length];exact F.len _ _ _ _ h
 refine Ys (T5 (F.run X.A X.stack s H ⟨us,[]⟩ (us++ds) (vs++dvs) Q E hr I.env0 (hb s us I.kIn hl) r2 h) λr s' hq=>?_);cases r with
 | error e=>exact hx Qx σ H s e s' I hq
 | ok fl=>
  cases fl with
  | ret u=>exact I.after hq
  | next=>exact Ux hq
  | brk=>exact Ux hq
  | cont=>exact Ux hq
theorem Ao (F:iQ X.prog X.w X.K X.mg X.base CX k f fd ps sp) (hr:dg k X.A) (hg:Gl X x) (hm:X.mg x=some (.ref f)) (hk:Ug X.K (.ref f)=true) (hb:Binds X.K fd ps ds) (hd:Vals dvs ds) (hx:Passes CX X E)
  (ha:PA X (e::es) t) (hdb:(x == ("__debug__":Str))=false:=by decide) (he:QZ (e::es) X.env=(false,eval e X.env)::QZ es X.env:=by rfl) (hpl:(SJ pos (QZ es X.env)).any (·.1)=false:=by rfl):
  PE X (.Call (.Name x p) (e::es) [] pos) (GK sp dvs E t):=by intro Qx s σ H Q I h;refine U6 (Ag I hg hm ?_ hdb);refine X3 (h₀:=X.base) I.ok.mod.kin hk (bM (ha pos Qx s σ H _ I h) λus s1 ⟨vs,H1,I1,r,q⟩=>⟨I1.kIn,?_⟩) he hpl;exact DM F hr hb hd hx I1 r q
end
structure gm (N P:List Str) (sc:Um):Prop where
 kind:sc.kind=.function
 co:sc.isCoroutine=false
 gen:sc.isGenerator=false
 nd:N.Nodup
 pre:N.take P.length=P
 par:∀x∈P,sc.names.lookup x=some .local\/sc.names.lookup x=some .cell
 nofree:∀y∈sc.names,y.2≠.free
theorem u6 {kindOf:Str->Option S9}:∀{binds:List (Str×QL)}{m:Str->Option QL},(∀v,(x,v)∉binds)->aaG kindOf binds m x=m x
 | [],_,_=>rfl
 | (n,v)::r,m,h=>by
  unfold aaG;rw [u6 λw hw=>h w (QT _ hw)];split
  ·have:x≠n:=by rintro rfl;exact h v QV
   simp [this]
  ·rfl
theorem uZ {kindOf:Str->Option S9}:∀{binds:List (Str×QL)}{m:Str->Option QL},(∀v,(x,v)∉binds)->aaH kindOf binds m x=m x
 | [],_,_=>rfl
 | (n,v)::r,m,h=>by
  unfold aaH;rw [uZ λw hw=>h w (QT _ hw)];split
  ·rfl
  ·have:x≠n:=by rintro rfl;exact h v QV
   simp [this]
theorem u5 {kindOf:Str->Option S9}{x:Str}{v:QL}:∀{P:List Str}{vs:List QL}{i:Nat}{m:Str->Option QL},P.Nodup->P[i]?=some x->vs[i]?=some v->kindOf x=some .local->
  aaG kindOf (P.zip vs) m x=some v
 | [],_,_,_,_,h,_,_=>by simp at h
 | _::_,[],_,_,_,_,h,_=>by simp at h
 | p::P,w::vs,0,m,nd,h1,h2,hk=>by simp at h1 h2;subst h1;subst h2;show aaG kindOf ((p,w)::P.zip vs) m p=_;unfold aaG;rw [u6 λv hv=>(SX.mp nd).1 (Xa hv).1,if_pos hk];simp
 | p::P,w::vs,i + 1,m,nd,h1,h2,hk=>by show aaG kindOf ((p,w)::P.zip vs) m x=_;unfold aaG;exact u5 (i:=i) (SX.mp nd).2 (by simpa using h1) (by simpa using h2) hk
theorem uY {kindOf:Str->Option S9}{x:Str}{v:QL}:∀{P:List Str}{vs:List QL}{i:Nat}{m:Str->Option QL},P.Nodup->P[i]?=some x->vs[i]?=some v->kindOf x≠some .local->
  aaH kindOf (P.zip vs) m x=some v
 | [],_,_,_,_,h,_,_=>by simp at h
 | _::_,[],_,_,_,_,h,_=>by simp at h
 | p::P,w::vs,0,m,nd,h1,h2,hk=>by simp at h1 h2;subst h1;subst h2;show aaH kindOf ((p,w)::P.zip vs) m p=_;unfold aaH;rw [uZ λv hv=>(SX.mp nd).1 (Xa hv).1,if_neg hk];simp
 | p::P,w::vs,i + 1,m,nd,h1,h2,hk=>by show aaH kindOf ((p,w)::P.zip vs) m x=_;unfold aaH;exact uY (i:=i) (SX.mp nd).2 (by simpa using h1) (by simpa using h2) hk
def start (N:List Str) (vs:List V):St:=vs.map some++RS (N.length - vs.length) none
noncomputable def qJ (CX:uP) (P:Ra) (w:Rz) (K:QJ) (mg:Str->Option QL) (base:Sn) (N:List Str) (QE:Str) (Qw:Um) (f:Rb) (cd:QL) (A:RC) (outer:List Env) (s:QM) (H:Hp) (E:XK):Cx where
 prog:=P
 w:=w
 K:=K
 mg:=mg
 base:=base
 A:=A.deeper (Ww QE Qw s.heap.objs.size f cd)
 N:=N
 s₀:=s
 H₀:=H
 env:=Ww QE Qw s.heap.objs.size f cd
 outer:=outer
 stack:=Ww QE Qw s.heap.objs.size f cd::outer
 ex:=[]
 calm:=true
 fn:=λ_=>true
 pn:=[]
 xe:=λe s'=>Q_ (Rf P w) (A.deeper (Ww QE Qw s.heap.objs.size f cd)) (leaving (Ww QE Qw s.heap.objs.size f cd) e) (λ_ s''=>CX outer H s E e s'') (λe' s''=>CX outer H s E e' s'') s'
theorem xX {sc:Um}(h:sc.names.lookup x=some .cell):∃c,(RM n sc.names []).lookup x=some c:=by have q:=WZ sc.names n [] (.inl h);exact R9.mp q
theorem CU {CX:uP}{P:Ra}{w:Rz}{K:QJ}{mg:Str->Option QL}{base:Sn}{N ps:List Str}{QE:Str}{Qw:Um}{f:Rb}{cd:QL}{A:RC}{outer:List Env}{s s1:QM}{H:Hp}{E:XK}{us:List QL}{vs:List V}
  (S:gm N ps Qw) (hd:A.handled=none) (e0:AM P w K mg base A outer s H) (hl:vs.length=ps.length) (r:Vals vs us)
  (x:InCallC s s.heap.objs.size (aaG (Ww QE Qw s.heap.objs.size f cd).kindOf (ps.zip us) λ_=>none) (RM (s.heap.objs.size + 1) Qw.names []) (aaH (Ww QE Qw s.heap.objs.size f cd).kindOf (ps.zip us) λ_=>none) s1):
  Inv (qJ CX P w K mg base N QE Qw f cd A outer s H E) [] (start N vs) H s1:=by
 have hpl:ps.length<=N.length:=by have:=congrArg Vo S.pre;rw [Ud] at this;omega
 obtain ⟨h1,tk,rfl,hk⟩:=x.done;have noA:∀b:Rb,b∉(qJ CX P w K mg base N QE Qw f cd A outer s H E).ex:=λb z=>absurd (show b∈([]:List Rb) from z) (by simp);refine ⟨⟨e0.mod,S.kind,rfl,rfl,QW _,λy z c h1 h2=>?_,λy hy=>?_,λy c _ h=>?_,λ_=>hd,Around.frames_deeper e0.frames,.inr ⟨rfl,rfl⟩,λb z=>absurd z (noA b),e0.bs,e0.bsz,λb _ _=>noA b,λb z=>absurd z (noA b),e0.funs,e0.frf⟩,
  rfl,e0.bare,Un.kept hk,⟨_,x.toInCall.ns,λi y v h1 h2 h3=>?_⟩,λy c h=>⟨_,x.cell y c h⟩,e0.hok.fresh (QW _),λy c h=>?_,λp hp=>absurd (show p∈([]:List (Rb×Obj)) from hp) (by simp),e0.hok.kept hk,?_⟩
 ·exact name_of_addr x.apart (T7 h1) (T7 h2)
 ·have hy:Qw.names.lookup y=some .cell\/Qw.names.lookup y=some .free:=hy;rcases hy with hy | hy
  ·exact xX hy
  ·exact absurd rfl (S.nofree _ (T7 hy))
 ·exact VD (x.above y c (T7 h))
 ·have hi:i < vs.length:=by
   unfold start at h2;by_cases hi:i < vs.length
   ·exact hi
   ·rw [Sh (by simpa using hi)] at h2;rw [U7] at h2;split at h2 <;> cases h2
  have ha:vs[i]?=some v:=by
   unfold start at h2;rw [SV (by simpa using hi),Rc] at h2;cases e:vs[i]? with
   | none=>rw [e] at h2;cases h2
   | some a=>rw [e] at h2;cases h2;rfl
  obtain ⟨u,hu,rv⟩:=r.get ha;have hp:ps[i]?=some y:=by rw [<-S.pre,List.getElem?_take_of_lt (by omega)];exact h1
  have ndP:ps.Nodup:=by rw [<-S.pre];exact S.nd.sublist (Yt _ _)
  refine ⟨u,rv,?_⟩;rcases S.par y (RH hp) with k | k
  ·exact .inl ⟨k,u5 ndP hp hu k⟩
  ·obtain ⟨c,e⟩:=xX (n:=s.heap.objs.size + 1) k;refine .inr ⟨.inl k,c,e,?_⟩;have q:=x.cell y c e;rw [uY ndP hp hu (by show Qw.names.lookup y≠_;rw [k];decide)] at q;exact q
 ·exact e0.hok.fresh (VD (x.above y c (T7 h)))
 ·unfold start;show _=N.length;rw [Rj,QN,Sq];omega
theorem LL {K:QJ}{mg:Str->Option QL}{dV kV doc pm cdv ct oc:QL}
 {N ps:List Str}{sp:Sp}(lk:K.lookup f=some ⟨oc,od,.func (SG name QE params body Qw dV kV doc pm an cdv ct),osl⟩) (hcd:Vy K cdv QE=true) (S:gm N ps Qw)
 (len:∀vs H Q E,sp vs H Q E->vs.length=ps.length)
 (hbody:∀(A:RC) (outer:List Env) (s:QM) (H:Hp) (vs:List V) (Q:VK) (E:XK),dg k (A.deeper (Ww QE Qw s.heap.objs.size f cdv))->sp vs H Q E->
 ∃t,iN (qJ CX P w K mg base N QE Qw f cdv A outer s H E) body t/\t {nx:=λ_ H'=>Q .non H',rt:=Q} (start N vs) H):
  iQ P w K mg base CX (k + 1) f (SG name QE params body Qw dV kV doc pm an cdv ct) ps sp:=by
 refine ⟨len,λA outer s H args us vs Q E hr e0 hb r OO=>?_⟩;have hl:=len _ _ _ _ OO;have KX:K.In s.heap:=e0.mod.kin.keeps λb o e=>(e0.bs b o e).1;have lim:s.heap.NoLimit:=e0.mod.nolimit.keeps λb o e=>(e0.bs b o e).1;have hkind:∀y∈ps.zip us,Qw.names.lookup y.1=some .local\/(Qw.names.lookup y.1=some .cell/\((RM (s.heap.objs.size + 1) Qw.names []).lookup y.1).isSome=true):=λ⟨n,v⟩ hy=>by
  rcases S.par n (Xa hy).1 with q | q
  ·exact .inl q
  ·exact .inr ⟨q,WZ _ _ _ (.inl q)⟩
 refine codeAny_call_function hr.depth (KX _ _ lk) rfl S.co S.gen rfl (W.codeRec_of KX hcd) (hb _ _ _ _ ?_);refine wpAny_newFunctionEnv_cells S.kind hkind λenv he s1 x=>?_;subst he;refine ⟨lim.keeps x.toInCall.keep,codeAny_func ?_⟩;obtain ⟨t,ht,hq⟩:=hbody A outer s H vs Q E (hr.deeper _) OO;have I:Inv (qJ CX P w K mg base N QE Qw f cdv A outer s H E) [] (start N vs) H s1:=CU S hr.hd e0 hl r x;refine RE (ht [] s1 (start N vs) H _ I hq) (λfl s' hs=>?_) λe s' hs=>hs;have fin:∀{σ':St}{H':Hp}{v:V}{u:QL},Inv (qJ CX P w K mg base N QE Qw f cdv A outer s H E) [] σ' H' s'->RelV v u->Q v H'->CE outer P w H s Q u s':=
  fun {σ' H' v u} J rv q=>⟨v,H',J.os,J.bare,J.base,J.hok,rv,q⟩
 cases fl with
 | ret u=>
  obtain ⟨v,σ',H',J,rv,q⟩:=hs;exact fin J rv q
 | next=>
  obtain ⟨σ',H',J,q⟩:=hs;exact fin (v:=V.non) (u:=RU) J rfl q
 | brk=>
  obtain ⟨_,_,_,q⟩:=hs;exact Ux q
 | cont=>
  obtain ⟨_,_,_,q⟩:=hs;exact Ux q
section
variable {X:Cx}{x:Str}{p pos:Pos}{e:RA}{es:List RA}{t:TA}{id T:String}{r:List V->Hp->VK->Prop}
def MM (r:List V->Hp->VK->Prop) (t:TA):TE:=λσ H Q=>t σ H λvs H1=>r vs H1 Q
theorem m_ (hc:bN X (.builtin id) r) (hg:Gl X x) (hm:X.mg x=none) (hv:RJ x=some (.builtin id)) (ha:PA X (e::es) t) (hn:x≠"__name__":=by decide) (hdb:(x == ("__debug__":Str))=false:=by decide)
  (he:QZ (e::es) X.env=(false,eval e X.env)::QZ es X.env:=by rfl) (hpl:(SJ pos (QZ es X.env)).any (·.1)=false:=by rfl):PE X (.Call (.Name x p) (e::es) [] pos) (MM r t):=by intro Qx s σ H Q I h;refine U6 (sR I hg hm hv ?_ hn hdb);exact YK (bM (ha pos Qx s σ H _ I h) λus s1 ⟨vs,H1,I1,r1,q1⟩=>hc Qx s1 σ H1 vs us Q I1 r1 q1) he hpl
theorem ji (hc:bN X (.type T) r) (hg:Gl X x) (hm:X.mg x=none) (hv:RJ x=some (.type T)) (ha:PA X (e::es) t) (hn:x≠"__name__":=by decide) (hdb:(x == ("__debug__":Str))=false:=by decide)
  (he:QZ (e::es) X.env=(false,eval e X.env)::QZ es X.env:=by rfl) (hpl:(SJ pos (QZ es X.env)).any (·.1)=false:=by rfl):PE X (.Call (.Name x p) (e::es) [] pos) (MM r t):=by intro Qx s σ H Q I h;refine U6 (sR I hg hm hv ?_ hn hdb);exact V4 (bM (ha pos Qx s σ H _ I h) λus s1 ⟨vs,H1,I1,r1,q1⟩=>hc Qx s1 σ H1 vs us Q I1 r1 q1) he hpl
end
end L2
namespace HT
open PySem PyProof.Rows
theorem Et (A:RC) (s:QM) (a:Int) (t:Tok) (c:Int) (u:Tok):∃e,S0 A s (.int a t) (.int c u) e/\(e=true↔a=c):=
 ⟨(a == c),X4 a t c u,by simp⟩
section
open PySem.SeqAt
open PySem.AutoSeq1 (wpAny_loadPart')
open PySem.MeetsSeq PySem.MeetsSeq2 PySem.MeetsSeq3
end
section
variable {prog:Ra}{w:Rz}{A:RC}{E:QL->QM->Prop}{s:QM}
theorem G4 {vs ws:List QL}{Q:QL->QM->Prop}(ht:aaE s.heap t vs.toArray) (hb:aaE s.heap b ws.toArray) (hv:vs≠[])
 (h1:ws=[]->Q (.ref t) s) (h2:ws≠[]->Q (.ref s.heap.objs.size) {s with heap:=s.heap.push {cls:=.type "tuple",data:=.seq (vs++ws).toArray}})
 (hsz:vs.length + ws.length<=sizeLine):Q_ (Rf prog w) A (Uy .Add (.ref t) (.ref b)) Q E s:=by
 obtain ⟨⟨cls,dd,data,sl⟩,ho,hc,n,hd⟩:=id ht;obtain ⟨⟨cls2,dd2,data2,sl2⟩,ho2,hc2,n2,hd2⟩:=id hb;simp only at hc hd hc2 hd2;subst hc hd hc2 hd2;have e:vs.toArray++ws.toArray=(vs++ws).toArray:=by simp
 by_cases hw:ws=[]
 ·exact YL ⟨_,ho,rfl⟩ ⟨_,ho2,rfl⟩ WU X5 Vh U8 (UX _ _)
   (tuple_addW1 t b vs.toArray ws.toArray n n2 dd dd2 sl sl2 (by simpa using hv) (by simp [hw])) ⟨ho,ho2,h1 hw⟩
 ·refine YL ⟨_,ho,rfl⟩ ⟨_,ho2,rfl⟩ WU X5 Vh U8 (UX _ _)
   (tuple_addW2 t b vs.toArray ws.toArray n n2 dd dd2 sl sl2 (by simpa using hv) (by simpa using hw) (by rw [QY,QY];exact hsz)) ⟨ho,ho2,?_⟩
  rw [e];exact h2 hw
noncomputable def bC (n d:Nat):Option Int->Nat
 | none=>d
 | some v=>if v < 0 then (v + (n:Int)).toNat else min v.toNat n
theorem yU (n d:Nat):bC n d none=d:=rfl
theorem Ay (n d k:Nat):bC n d (some (k:Int))=min k n:=by show (if (k:Int) < 0 then ((k:Int) + (n:Int)).toNat else min (k:Int).toNat n)=min k n;rw [if_neg (by omega),SM]
theorem Lh (n d:Nat) (hd:d<=n) (o:Option Int):bC n d o<=n:=by
 cases o with
 | none=>exact hd
 | some v=>
  show (if v < 0 then (v + (n:Int)).toNat else min v.toNat n)<=n;by_cases hv:v < 0
  ·rw [if_pos hv];omega
  ·rw [if_neg hv];exact Nat.min_le_right _ _
theorem zV (v:Int) (n d:Nat):(if v < 0 then max (v + (n:Int)) 0 else min v (n:Int))=((bC n d (some v):Nat):Int):=by
 show (if v < 0 then max (v + (n:Int)) 0 else min v (n:Int))=(((if v < 0 then (v + (n:Int)).toNat else min v.toNat n):Nat):Int);by_cases hv:v < 0
 ·simp only [if_pos hv];omega
 ·simp only [if_neg hv];omega
theorem AY (lo hi:Option Int) (n:Nat):UL lo hi 1 (n:Int)=(((bC n 0 lo:Nat):Int),((bC n n hi:Nat):Int)):=by
 have h1:¬((1:Int) < 0):=by omega
 unfold UL;simp only [h1,if_false];refine abm ?_ ?_
 ·cases lo with
  | none=>rfl
  | some v=>exact zV v n 0
 ·cases hi with
  | none=>rfl
  | some v=>exact zV v n n
theorem Bx (i j:Nat):Tw (i:Int) (j:Int) 1=j - i:=by
 unfold Tw;have h1:(1:Int) > 0:=by omega
 simp only [h1,if_true,Int.ediv_one];split <;> omega
theorem tM {Q:Option Int->QM->Prop}(p:X6 v o) (h:Q o s):Q_ (Rf prog w) A (Y0 v) Q E s:=by
 cases p with
 | none=>exact ZA h
 | int i t=>exact slicePart_int h
theorem jY {sl:Rb}{vl vu:QL}{lo hi:Option Int}{n:Nat}{Q:Int×Int×Nat->QM->Prop}(hs:s.heap.IsSliceOf sl vl vu .none) (pl:X6 vl lo) (pu:X6 vu hi)
  (h:Q (((bC n 0 lo:Nat):Int),1,bC n n hi - bC n 0 lo) s):Q_ (Rf prog w) A (Wh (.ref sl) (pure (n:Int))) Q E s:=by obtain ⟨os,hos,hcs,hds⟩:=id hs;unfold Wh ZC;refine QI (QI (Y8 hos hds (x:=vl) rfl (QI (Y8 hos hds (x:=vu) rfl (QI (Y8 hos hds (x:=.none) rfl (QK ?_)))))));refine QI (ZA ?_);show Q_ _ _ (if ((1:Int) == 0)=true then _ else _) _ _ s;rw [if_neg (by decide)];refine QI (tM pl (QI (tM pu (QI (QK ?_)))));show Q_ _ _ (match UL lo hi 1 (n:Int) with | (lo,hi)=>pure (lo,(1:Int),Tw lo hi 1)) _ _ s;rw [AY lo hi n];show Q_ _ _ (pure (((bC n 0 lo:Nat):Int),(1:Int),Tw ((bC n 0 lo:Nat):Int) ((bC n n hi:Nat):Int) 1)) _ _ s;rw [Bx];exact QK h
theorem Fd (xs:Array QL) (i k:Nat):((QS k).filterMap λ(m:Nat)=>xs[((i:Int) + (m:Int) * 1).toNat]?).toArray=((xs.toList.drop i).take k).toArray:=by
 have e:(λ(m:Nat)=>xs[((i:Int) + (m:Int) * 1).toNat]?)=λm=>xs[i + m]?:=by
  funext m;have:((i:Int) + (m:Int) * 1).toNat=i + m:=by omega
  rw [this]
 rw [e];have:=pick_run xs i k;rw [X7] at this;have e2:((λx=>xs[x]?) ∘ λx=>i + x)=λm=>xs[i + m]?:=rfl;rw [e2] at this;rw [this]
theorem pV {t sl:Rb}{Qy:Array QL}{vl vu:QL}{lo hi:Option Int}{Q:QL->QM->Prop}(ht:aaE s.heap t Qy) (hs:s.heap.IsSliceOf sl vl vu .none) (pl:X6 vl lo) (pu:X6 vu hi)
  (hw:¬(bC Qy.size 0 lo=0/\bC Qy.size Qy.size hi=Qy.size))
  (h:Q (.ref s.heap.objs.size) {s with heap:=s.heap.push {cls:=.type "tuple",data:=.seq ((Qy.toList.drop (bC Qy.size 0 lo)).take (bC Qy.size Qy.size hi - bC Qy.size 0 lo)).toArray}})
  (hsz:Qy.size<=sizeLine):Q_ (Rf prog w) A (Yu (.ref t) (.ref sl)) Q E s:=by
 have OC:sizeOk (.seq ((Qy.toList.drop (bC Qy.size 0 lo)).take (bC Qy.size Qy.size hi - bC Qy.size 0 lo)).toArray):=by show ((Qy.toList.drop (bC Qy.size 0 lo)).take (bC Qy.size Qy.size hi - bC Qy.size 0 lo)).toArray.size<=sizeLine;rw [QY,Ud,Ue,Q3];omega
 have hj:bC Qy.size Qy.size hi<=Qy.size:=Lh _ _ (QW _) hi;obtain ⟨os,hos,hcs,hds⟩:=id hs;have Pf:s.TypeIs (.ref sl) "slice":=⟨os,hos,hcs⟩;unfold Yu
 try with_reducible refine Rw ?_
 first | refine QI (QK ?_) | skip
 refine QI (Yv ht.typeIs (by decide) ?_);refine QI (Sy (name:=VE "__getitem__") ht.typeIs RP
  (RO RP ht.typeIs XN ?_ (X8 _ _)))
 show Q_ _ _ (UG (.ref t) >>= _) _ _ s;refine QI (Z9 ht ?_);refine QI (VF Pf ?_);rw [if_pos (by decide)];refine QI (jY hs pl pu ?_);have hno:¬((((bC Qy.size 0 lo:Nat):Int) == 0 && (1:Int) == 1 && (bC Qy.size Qy.size hi - bC Qy.size 0 lo) == Qy.size)=true):=by intro q;rw [QX,QX] at q;have q1:((bC Qy.size 0 lo:Nat):Int)=0:=eq_of_beq q.1.1;have q2:bC Qy.size Qy.size hi - bC Qy.size 0 lo=Qy.size:=eq_of_beq q.2;exact hw ⟨by omega,by omega⟩
 show Q_ _ _ (if (((bC Qy.size 0 lo:Nat):Int) == 0 && (1:Int) == 1 && (bC Qy.size Qy.size hi - bC Qy.size 0 lo) == Qy.size)=true then _ else _) _ _ s;rw [if_neg hno,Fd]
 first
  | exact QI (m:=TV _) (Rx (QK ⟨_,rfl,QK h⟩) OC)
  | exact QI (m:=TV _) (Rx (QI (QK (QK ⟨_,rfl,QK h⟩))) OC)
  | exact QI (QI (m:=TV _) (Rx (QK (QK ⟨_,rfl,QK h⟩)) OC))
  | exact QI (QI (m:=TV _) (Rx (QK ⟨_,rfl,QK h⟩) OC))
end
end HT
namespace L2
open PySem PySem.Spec PyProof.Rows
abbrev TO:=St->Hp->(Option Int->Hp->Prop)->Prop
noncomputable def PO (X:Cx) (e:Option RA) (t:TO):Prop:=
 ∀(Qx:List (Rb×Obj)) (s:QM) (σ:St) (H:Hp) (Q:Option Int->Hp->Prop),Inv X Qx σ H s->t σ H Q->
  Q_ (Rf X.prog X.w) X.A (evalPart e X.env) (λu s'=>∃o H',Inv X Qx σ H' s'/\X6 u o/\Q o H') X.xe s
def IL:TO:=λ_ H Q=>Q none H
def Mr (t:TE):TO:=λσ H Q=>t σ H λx H1=>∃i,x=.int i/\Q (some i) H1
theorem intsAre_of {ns:List Int}:∀{us:List QL},Vals (ns.map V.int) us->UT us ns:=by
 induction ns with
 | nil=>intro us r;rw [VG] at r;cases r;exact .nil
 | cons n ns ih=>
  intro us r;rw [Q6] at r;cases r with
  | cons r1 r2=>
   obtain ⟨t,e⟩:=r1;subst e;exact .cons n t (ih r2)
section
variable {X:Cx}{e:RA}{te:TE}{lo hi:Option RA}{tl th:TO}{pos p2:Pos}
theorem Ii:PO X none IL:=by intro Qx s σ H Q I h;rw [Z_];exact QK ⟨none,H,I,.none,h⟩
theorem Ij (h:PE X e te):PO X (some e) (Mr te):=by intro Qx s σ H Q I hw;rw [evalPart_some];refine bM (h Qx s σ H _ I hw) λu s1 ⟨x,H1,I1,r1,q1⟩=>?_;obtain ⟨i,rfl,q⟩:=q1;obtain ⟨t,rfl⟩:=r1;exact ⟨some i,H1,I1,.int i t,q⟩
noncomputable def rQ (X:Cx) (r:V->Option Int->Option Int->Hp->VK->Prop):Prop:=
 ∀(Qx:List (Rb×Obj)) (s:QM) (σ:St) (H:Hp) (x:V) (v vl vu:QL) (lo hi:Option Int) (sl:Rb) (Q:VK),Inv X Qx σ H s->RelV x v->s.heap.IsSliceOf sl vl vu .none->X6 vl lo->X6 vu hi->r x lo hi H Q->
  ∃T id,typeLookup (.type T) "__getitem__"=pure (some (.builtin id))/\s.TypeIs v T/\Q_ (Rf X.prog X.w) X.A (Yu v (.ref sl)) (EP X Qx σ Q) X.xe s
theorem rQ.or {r r':V->Option Int->Option Int->Hp->VK->Prop}(h:rQ X r) (h':rQ X r'):rQ X (λx lo hi H Q=>r x lo hi H Q\/r' x lo hi H Q):=by
 intro Qx s σ H x v vl vu lo hi sl Q I rx hs pl pu q;rcases q with q | q
 ·exact h Qx s σ H x v vl vu lo hi sl Q I rx hs pl pu q
 ·exact h' Qx s σ H x v vl vu lo hi sl Q I rx hs pl pu q
def NX (r:V->Option Int->Option Int->Hp->VK->Prop) (te:TE) (tl th:TO):TE:=λσ H Q=>te σ H λx H1=>tl σ H1 λl H2=>th σ H2 λu H3=>r x l u H3 Q
theorem Fb {r:V->Option Int->Option Int->Hp->VK->Prop}(hr:rQ X r) (he:PE X e te) (hl:PO X lo tl) (hu:PO X hi th):PE X (.Subscript e (.Slice lo hi none p2) pos) (NX r te tl th):=by intro Qx s σ H Q I h;refine Subscript_ (bM (he Qx s σ H _ I h) λv s1 ⟨x,H1,I1,r1,q1⟩=>?_);refine wpAny_Slice (bM (hl Qx s1 σ H1 _ I1 q1) λvl s2 ⟨l,H2,I2,pl,q2⟩=>bM (hu Qx s2 σ H2 _ I2 q2) λvu s3 ⟨u,H3,I3,pu,q3⟩=>?_);rw [Z_];refine QK ?_;have I4:Inv X Qx σ H3 {s3 with heap:=s3.heap.push {cls:=.type "slice",data:=.fields #[vl,vu,.none]}}:=I3.kept (t':=s3.toks) λb ob q=>QU _ q;obtain ⟨T,id,hT,ht,hg⟩:=hr Qx {s3 with heap:=s3.heap.push {cls:=.type "slice",data:=.fields #[vl,vu,.none]}} σ H3 x v vl vu l u s3.heap.objs.size Q I4 r1 (aa0 ..) pl pu q3;show Q_ (Rf X.prog X.w) X.A (aaa e (.Slice lo hi none p2) v (.ref s3.heap.objs.size)) (EP X Qx σ Q) X.xe {s3 with heap:=s3.heap.push {cls:=.type "slice",data:=.fields #[vl,vu,.none]}};exact tail_any (ops:=[.ref s3.heap.objs.size,v]) ht hT hg (by with_unfolding_all rfl)
def kU (xs:List V) (lo hi:Option Int):List V:=(xs.drop (HT.bC xs.length 0 lo)).take (HT.bC xs.length xs.length hi - HT.bC xs.length 0 lo)
theorem qb (xs:List V) (lo hi:Option Int):(kU xs lo hi).length<=xs.length:=by unfold kU;rw [Ud,Ue];omega
noncomputable def Nb (K:QJ):V->Option Int->Option Int->Hp->VK->Prop:=λx lo hi H Q=>∃a xs,x=.ref a/\cC K H a xs/\
 ¬(HT.bC xs.length 0 lo=0/\HT.bC xs.length xs.length hi=xs.length)/\∀p,H p=none->Q (.ref p) (upd H p (.tup (kU xs lo hi)))
theorem Lj:rQ X (Nb X.K):=by
 intro Qx s σ H x v vl vu lo hi sl Q I rx hs pl pu h;obtain ⟨a,xs,rfl,hx,hw,q⟩:=h;cases rx;obtain ⟨Qz,r,ht,hz⟩:=I.tuple hx;have hlen:Qz.toArray.size=xs.length:=by rw [QY];exact r.length.symm
 refine ⟨"tuple",_,RP.lookup,ht.typeIs,?_⟩;refine HT.pV ht hs pl pu (by rw [hlen];exact hw) ?_ (by rw [hlen];exact hz);rw [hlen];refine ⟨.ref s.heap.objs.size,_,I.laid (t':=s.toks) (o:=.tup (kU xs lo hi)) (λb ob q=>QU _ q) (QW _) ?_,rfl,q _ (I.hok.fresh (QW _))⟩;exact ⟨Rr (qb xs lo hi) hz,_,(r.drop (HT.bC xs.length 0 lo)).take (HT.bC xs.length xs.length hi - HT.bC xs.length 0 lo),aas _ _⟩
noncomputable def Mb (K:QJ):R2:=λx y H Q=>∃a b xs ys,x=.ref a/\y=.ref b/\cC K H a xs/\cC K H b ys/\xs≠[]/\xs.length + ys.length<=sizeLine/\
 (ys=[]->Q (.ref a) H)/\(ys≠[]->∀p,H p=none->Q (.ref p) (upd H p (.tup (xs++ys))))
theorem Vals.nil_iff (r:Vals xs us):us=[]↔xs=[]:=by
 cases r with
 | nil=>simp
 | cons _ _=>simp
theorem HS:c5 X (Uy .Add) (Mb X.K):=by intro Qx s σ H x y v u Q I rx ry h;obtain ⟨a,b,xs,ys,rfl,rfl,ha,hb,hx,hz,q1,q2⟩:=h;cases rx;cases ry;obtain ⟨Qz,r1,p1,_⟩:=I.tuple ha;obtain ⟨its2,r2,p2,_⟩:=I.tuple hb;refine HT.G4 p1 p2 (λz=>hx (r1.nil_iff.mp z)) (λz=>⟨.ref a,H,I,rfl,q1 (r2.nil_iff.mp z)⟩) (λz=>?_) (by rw [<-r1.length,<-r2.length];exact hz);refine ⟨.ref s.heap.objs.size,_,I.laid (t':=s.toks) (o:=.tup (xs++ys)) (λb ob q=>QU _ q) (QW _) ?_,rfl,q2 (λw=>z (r2.nil_iff.mpr w)) _ (I.hok.fresh (QW _))⟩;exact ⟨by rw [Rj];exact hz,_,r1.append r2,aas _ _⟩
end
def oE (n:Nat) (i:Int):Option Nat:=if 0<=i then (if i < n then some i.toNat else none) else if -(n:Int)<=i then some (i + n).toNat else none
def jL {α:Type}(xs:List α) (i:Int):Option α:=(oE xs.length i).bind λj=>xs[j]?
theorem Hu (h:oE n i=some j):X_ i n=some j/\j < n/\-(n:Int)<=i/\i < n:=by
 unfold oE at h;by_cases h0:0<=i
 ·rw [if_pos h0] at h;by_cases h1:i < n
  ·rw [if_pos h1] at h;have e:i.toNat=j:=RY h;exact ⟨by rw [seqIndex_of h0 h1,e],by omega,by omega,h1⟩
  ·rw [if_neg h1] at h;cases h
 ·rw [if_neg h0] at h;by_cases h1:-(n:Int)<=i
  ·rw [if_pos h1] at h;have e:(i + n).toNat=j:=RY h;exact ⟨by rw [seqIndex_neg (by omega) h1,e],by omega,h1,by omega⟩
  ·rw [if_neg h1] at h;cases h
theorem uc {α:Type}{xs:List α}{i:Int}{v:α}(h:jL xs i=some v):∃j,X_ i xs.length=some j/\xs[j]?=some v/\j < xs.length/\-(xs.length:Int)<=i/\i < xs.length:=by
 unfold jL at h;cases e:oE xs.length i with
 | none=>rw [e] at h;cases h
 | some j=>
  rw [e] at h;obtain ⟨h1,h2,h3,h4⟩:=Hu e;exact ⟨j,h1,h,h2,h3,h4⟩
def ly (b:RA):Prop:=∀o i,subscripted b false o i=operate [o,i] (Yu o i)
noncomputable def nP (X:Cx) (r:R2):Prop:=
 ∀(value slice:RA) (Qx:List (Rb×Obj)) (s:QM) (σ:St) (H:Hp) (x y:V) (v u:QL) (Q:VK),Inv X Qx σ H s->RelV x v->RelV y u->r x y H Q->
  subscripted slice false v u=operate [v,u] (Yu v u)->Q_ (Rf X.prog X.w) X.A (aaa value slice v u) (EP X Qx σ Q) X.xe s
noncomputable def NI (X:Cx) (id:String) (r:V->List V->Hp->VK->Prop):Prop:=
 ∀(Qx:List (Rb×Obj)) (s:QM) (σ:St) (H:Hp) (x:V) (xs:List V) (v:QL) (us:List QL) (Q:VK),Inv X Qx σ H s->RelV x v->Vals xs us->r x xs H Q->
  Q_ (Rf X.prog X.w) X.A (call (.builtin id) (v::us)) (EP X Qx σ Q) X.xe s
section
variable {X:Cx}{a b:RA}{ta tb:TE}{pos:Pos}
theorem nP.or {r r':R2}(h:nP X r) (h':nP X r'):nP X (λx y H Q=>r x y H Q\/r' x y H Q):=by
 intro value slice Qx s σ H x y v u Q I rx ry q hs;rcases q with q | q
 ·exact h value slice Qx s σ H x y v u Q I rx ry q hs
 ·exact h' value slice Qx s σ H x y v u Q I rx ry q hs
theorem Gz (hr:nP X r) (ha:PE X a ta) (hb:PE X b tb) (hs:ly b):PE X (.Subscript a b pos) (AE r ta tb):=by intro Qx s σ H Q I h;exact Subscript_ (Eg ha hb I h λv u s2 x y H2 I2 rx ry q=>hr a b Qx s2 σ H2 x y v u Q I2 rx ry q (hs _ _))
def Fo (K:QJ):R2:=λx y H Q=>∃p xs i v,x=.ref p/\y=.int i/\bV K H p xs/\jL xs i=some v/\Q v H
def K8 (K:QJ):R2:=λx y H Q=>∃p xs i v,x=.ref p/\y=.int i/\cC K H p xs/\jL xs i=some v/\Q v H
def K7:R2:=λx y H Q=>∃z i c,x=.str z/\y=.int i/\z.length<=sizeLine/\jL z.cps.toList i=some c/\Q (.str ⟨#[c]⟩) H
theorem Af:nP X (Fo X.K):=by
 intro value slice Qx s σ H x y v u Q I rx ry h hs;obtain ⟨p,xs,i,z,rfl,rfl,hq,he,q⟩:=h;cases rx;obtain ⟨t,rfl⟩:=ry;obtain ⟨Qz,r,pl,hz⟩:=I.list hq;obtain ⟨j,h1,h2,h3,h4,h5⟩:=uc he;obtain ⟨w,ew,rw'⟩:=r.get h2;have hl:=r.length;have hn:=lS;have fin:EP X Qx σ Q w s:=⟨z,H,I,rw',q⟩;by_cases h0:0<=i
 ·have hj:i.toNat=j:=by rw [seqIndex_of h0 h5] at h1;exact RY h1
  exact item_listR pl.isList h0 (by omega) (by rw [hj];simpa using ew) fin hs
 ·have hj:(i + (Qz.toArray.size:Int)).toNat=j:=by rw [seqIndex_neg (by omega) h4] at h1;rw [QY,<-hl];exact RY h1
  exact Vi (x:=w) pl.isList.typeIs Yw.lookup
   (wpAny_getItem_list_neg (Q:=λr s'=>r=w/\EP X Qx σ Q r s') pl.isList (by omega) (by rw [QY] <;> omega) (by omega) (by rw [hj];simpa using ew) ⟨rfl,fin⟩) hs
theorem JW:nP X (K8 X.K):=by
 intro value slice Qx s σ H x y v u Q I rx ry h hs;obtain ⟨p,xs,i,z,rfl,rfl,hq,he,q⟩:=h;cases rx;obtain ⟨t,rfl⟩:=ry;obtain ⟨Qz,r,pl,hz⟩:=I.tuple hq;obtain ⟨j,h1,h2,h3,h4,h5⟩:=uc he;obtain ⟨w,ew,rw'⟩:=r.get h2;have hl:=r.length;have hn:=lS;have fin:EP X Qx σ Q w s:=⟨z,H,I,rw',q⟩;exact Vi (x:=w) pl.typeIs slot_tuple_getitem.lookup
  (getItem_tuple (j:=j) (Q:=λr s'=>r=w/\EP X Qx σ Q r s') pl (by omega) (by omega) (by rw [QY,<-hl];exact h1) (by simpa using ew) ⟨rfl,fin⟩) hs
theorem JV:nP X K7:=by
 intro value slice Qx s σ H x y v u Q I rx ry h hs;obtain ⟨z,i,c,rfl,rfl,hz,he,q⟩:=h;obtain ⟨t,rfl⟩:=rx;obtain ⟨t',rfl⟩:=ry;obtain ⟨j,h1,h2,h3,h4,h5⟩:=uc he;have hl:z.cps.toList.length=z.length:=by simp [ZV]
 rw [hl] at h1 h4 h5;have hn:=lS;exact tail_any (typeIs_str s z t) slot_str_getitem.lookup (getItem_str (c:=c) (by
  have e1:decide (i < -(2 ^ 63:Int))=false:=decide_eq_false (by omega);have e2:decide (i ≥ 2 ^ 63)=false:=decide_eq_false (by omega);rw [e1,e2,aab]) (by rw [h1];simpa using h2) ⟨.str ⟨#[c]⟩,H,I.tok _,⟨_,rfl⟩,q⟩) hs
def NS (K:QJ):R2:=λx y H Q=>Fo K x y H Q\/K8 K x y H Q\/K7 x y H Q
theorem JU:nP X (NS X.K):=Af.or (JW.or JV)
theorem Inv.lst {H:Hp}{s:QM}{xs:List V}(I:Inv X Qx σ H s) (h:H p=some (.lst xs)):
  ∃(Qz:List QL) (n:Nat),Vals xs Qz/\s.heap.get? p=some {cls:=.type "list",data:=.seq Qz.toArray n}/\xs.length<=sizeLine:=by obtain ⟨z,Qz,n,r,e⟩:=I.hok p _ h;exact ⟨Qz,n,r,e,z⟩
theorem yX (lo hi:Option Int) (n:Nat):(Vp lo hi none n).1=((HT.bC n 0 lo:Nat):Int)/\(Vp lo hi none n).2.1=((HT.bC n n hi:Nat):Int)/\(Vp lo hi none n).2.2=1:=by
 refine ⟨?_,?_,rfl⟩
 ·cases lo with
  | none=>simp [Vp,HT.bC]
  | some i=>
   simp only [Vp,HT.bC,YS,show (1:Int) > 0 by decide,if_true];by_cases h:i < 0
   ·simp only [h,if_true] <;> omega
   ·simp only [h,if_false] <;> omega
 ·cases hi with
  | none=>simp [Vp,HT.bC]
  | some i=>
   simp only [Vp,HT.bC,YS,show (1:Int) > 0 by decide,if_true];by_cases h:i < 0
   ·simp only [h,if_true] <;> omega
   ·simp only [h,if_false] <;> omega
theorem wK (Qz:List QL) (lo hi:Option Int):slicePick Qz.toArray lo hi none=((Qz.drop (HT.bC Qz.length 0 lo)).take (HT.bC Qz.length Qz.length hi - HT.bC Qz.length 0 lo)).toArray:=by obtain ⟨h1,h2,h3⟩:=yX lo hi Qz.toArray.size;unfold slicePick;rw [h1,h2,h3];simp only [sliceRange_one,pick_run,QY] <;> rfl
noncomputable def Na (K:QJ):V->Option Int->Option Int->Hp->VK->Prop:=λx lo hi H Q=>∃a xs,x=.ref a/\bV K H a xs/\∀p,H p=none->Q (.ref p) (upd H p (.lst (kU xs lo hi)))
theorem IF:rQ X (Na X.K):=by intro Qx s σ H x v vl vu lo hi sl Q I rx hs pl pu h;obtain ⟨a,xs,rfl,hx,q⟩:=h;cases rx;obtain ⟨Qz,r,ht,hz⟩:=I.list hx;have hlen:=r.length;refine ⟨"list",_,Yw.lookup,ht.isList.typeIs,?_⟩;refine wpAny_getItem_list_slice ht.isList hs pl pu .none (by simp) ?_ (by rw [QY] <;> omega);rw [wK,<-hlen];refine ⟨.ref s.heap.objs.size,_,I.laid (t':=s.toks) (o:=.lst (kU xs lo hi)) (λb ob q=>QU _ q) (QW _) ?_,rfl,q _ (I.hok.fresh (QW _))⟩;exact ⟨Rr (qb xs lo hi) hz,_,0,(r.drop (HT.bC xs.length 0 lo)).take (HT.bC xs.length xs.length hi - HT.bC xs.length 0 lo),Q2 _ rfl⟩
noncomputable def su:V->Bool
 | .non=>true
 | .bl _=>true
 | .int _=>true
 | .str _=>true
 | _=>false
noncomputable def JD:V->V->Bool
 | .non,.non=>true
 | .bl a,.bl b=>a == b
 | .bl a,.int b=>(if a then 1 else 0) == b
 | .int a,.bl b=>a == (if b then 1 else 0)
 | .int a,.int b=>a == b
 | .str a,.str b=>a == b
 | _,_=>false
theorem JC (ry:RelV y u) (rx:RelV x v) (fy:su y=true) (fx:su x=true):S0 A s u v (JD y x):=by
 cases y with
 | non=>
  cases ry;cases x with
  | non=>cases rx;exact Xb _
  | bl b=>cases rx;exact aaz b
  | int b=>obtain ⟨t,rfl⟩:=rx;exact aaI b t
  | str b=>obtain ⟨t,rfl⟩:=rx;exact aaJ b t
  | _=>exact absurd (show false=true from fx) Ru
 | bl a=>
  cases ry;cases x with
  | non=>cases rx;exact aaA a
  | bl b=>cases rx;exact aaB a b
  | int b=>obtain ⟨t,rfl⟩:=rx;exact aaK a b t
  | str b=>obtain ⟨t,rfl⟩:=rx;exact aaL a b t
  | _=>exact absurd (show false=true from fx) Ru
 | int a=>
  obtain ⟨t',rfl⟩:=ry;cases x with
  | non=>cases rx;exact aaM a t'
  | bl b=>cases rx;exact aaN a t' b
  | int b=>obtain ⟨t,rfl⟩:=rx;exact X4 a t' b t
  | str b=>obtain ⟨t,rfl⟩:=rx;exact XY a t' b t
  | _=>exact absurd (show false=true from fx) Ru
 | str a=>
  obtain ⟨t',rfl⟩:=ry;cases x with
  | non=>cases rx;exact aaO a t'
  | bl b=>cases rx;exact aaP a t' b
  | int b=>obtain ⟨t,rfl⟩:=rx;exact XZ a t' b t
  | str b=>obtain ⟨t,rfl⟩:=rx;exact aa1 a t' b t
  | _=>exact absurd (show false=true from fx) Ru
 | _=>exact absurd (show false=true from fy) Ru
theorem xQ:bN X (.builtin "len") (λxs H Q=>∃p ys,xs=[.ref p]/\(bV X.K H p ys\/cC X.K H p ys)/\Q (.int ys.length) H):=by
 intro Qx s σ H xs us Q I r h;obtain ⟨p,ys,rfl,hq,q⟩:=h;obtain ⟨u,rfl,rx⟩:=vals1 r;cases rx;have hn:=lS;rcases hq with hq | hq
 ·obtain ⟨Qz,r',pl,hz⟩:=I.list hq;have hlen:=r'.length;exact Calls.call_len_list pl.isList (by simp only [QY] <;> omega) ⟨.int ys.length,H,I.tok _,⟨s.toks + 1,by rw [QY,hlen]⟩,q⟩
 ·obtain ⟨Qz,r',pl,hz⟩:=I.tuple hq;have hlen:=r'.length;exact len_tuple pl (by simp only [QY] <;> omega) ⟨.int ys.length,H,I.tok _,⟨s.toks + 1,by rw [QY,hlen]⟩,q⟩
theorem xR:bN X (.builtin "len") (λxs H Q=>∃z,xs=[.str z]/\z.length<=sizeLine/\Q (.int z.length) H):=by intro Qx s σ H xs us Q I r h;obtain ⟨z,rfl,hz,q⟩:=h;obtain ⟨u,rfl,t,rfl⟩:=vals1 r;have hn:=lS;exact len_str (by omega) ⟨.int z.length,H,I.tok _,⟨_,rfl⟩,q⟩
theorem bN.or {r r':List V->Hp->VK->Prop}(h:bN X f r) (h':bN X f r'):bN X f (λxs H Q=>r xs H Q\/r' xs H Q):=by
 intro Qx s σ H xs us Q I rs q;rcases q with q | q
 ·exact h Qx s σ H xs us Q I rs q
 ·exact h' Qx s σ H xs us Q I rs q
theorem xS:bN X (.type "list") (λxs H Q=>∃p ys,xs=[.ref p]/\(bV X.K H p ys\/cC X.K H p ys)/\∀l,H l=none->Q (.ref l) (upd H l (.lst ys))):=by
 intro Qx s σ H xs us Q I r h;obtain ⟨p,ys,rfl,hq,q⟩:=h;obtain ⟨u,rfl,rx⟩:=vals1 r;cases rx;have fin:∀(Qz:List QL),Vals ys Qz->ys.length<=sizeLine->∀(h':Sn) (c':Nat),(∀b o',s.heap.get? b=some o'->h'.get? b=some o')->
   h'.get? s.heap.objs.size=some {cls:=.type "list",dict:=none,data:=.seq Qz.toArray c',slots:=#[]}->EP X Qx σ Q (.ref s.heap.objs.size) {s with heap:=h'}:=λQz r' hz h' c' kp e=>
  ⟨.ref s.heap.objs.size,_,I.laid (t':=s.toks) kp (QW _) (show cg X.prog X.w _ h' _ (.lst ys) from ⟨hz,Qz,c',r',e⟩),rfl,q _ (I.hok.fresh (QW _))⟩
 rcases hq with hq | hq
 ·obtain ⟨Qz,r',pl,hz⟩:=I.list hq;have hlen:=r'.length;obtain ⟨o,ho,hc,n,hd⟩:=pl.isList;exact aac p (.inl rfl) ho hc hd (λh' c' kp e=>fin Qz r' hz h' c' kp e) (by simp only [QY] <;> omega)
 ·obtain ⟨Qz,r',pl,hz⟩:=I.tuple hq;have hlen:=r'.length;obtain ⟨o,ho,hc,n,hd⟩:=pl;exact aac p (.inr rfl) ho hc hd (λh' c' kp e=>fin Qz r' hz h' c' kp e) (by simp only [QY] <;> omega)
theorem wB:bN X (.type "tuple") (λxs H Q=>∃p ys,xs=[.ref p]/\((bV X.K H p ys/\∀l,H l=none->Q (.ref l) (upd H l (.tup ys)))\/(cC X.K H p ys/\Q (.ref p) H))):=by
 intro Qx s σ H xs us Q I r h;obtain ⟨p,ys,rfl,h⟩:=h;obtain ⟨u,rfl,rx⟩:=vals1 r;cases rx;rcases h with ⟨hq,q⟩ | ⟨hq,q⟩
 ·obtain ⟨Qz,r',pl,hz⟩:=I.list hq;have hlen:=r'.length;refine call_tuple_list pl.isList (λh' kp=>?_) (by simp only [QY] <;> omega);have I1:Inv X Qx σ H {s with heap:=h'}:=I.kept (t':=s.toks) kp;have I2:Inv X Qx σ (upd H h'.objs.size (.tup ys)) {s with heap:=h'.push {cls:=.type "tuple",data:=.seq Qz.toArray}}:=
   I1.laid (t':=s.toks) (λb o e=>QU _ e) (QW _) (show cg X.prog X.w _ _ _ (.tup ys) from ⟨hz,Qz,r',aas _ _⟩)
  exact ⟨.ref h'.objs.size,_,I2,rfl,q _ (I1.hok.fresh (QW _))⟩
 ·obtain ⟨Qz,r',pl,hz⟩:=I.tuple hq;exact call_tuple_same pl ⟨.ref p,H,I,rfl,q⟩
noncomputable def MN (K:QJ) (T:String) (x:V) (H:Hp):Prop:=match x with
 | .str _=>T="str"
 | .int _=>T="int"
 | .ref p=>(T="list"/\∃xs,bV K H p xs)\/(T="tuple"/\∃o,K.lookup p=some o/\o.cls=.type "tuple"/\o.dict=none)\/
   (T="dict"/\((∃QG,H p=some (.dK QG))\/∃QG,H p=some (.dT QG)))\/(T="set"/\∃S n,H p=some (.set S n))
 | _=>False
theorem Lu {H:Hp}{s:QM}(I:Inv X Qx σ H s) (r:RelV x v) (ty:MN X.K T x H):
  s.TypeIs v T/\∀a,v=.ref a->∃ob,s.heap.get? a=some ob/\ob.dict=none:=by
 cases x with
 | str z=>
  obtain ⟨t,rfl⟩:=r;cases (show T="str" from ty);exact ⟨typeIs_str s z t,λ_ e=>nomatch e⟩
 | int i=>
  obtain ⟨t,rfl⟩:=r;cases (show T="int" from ty);exact ⟨typeIs_int s i t,λ_ e=>nomatch e⟩
 | ref p=>
  cases r;rcases ty with ⟨rfl,xs,hq⟩ | ⟨rfl,o,hk,hc,hd⟩ | ⟨rfl,hk⟩ | ⟨rfl,S,n,hk⟩
  ·obtain ⟨Qz,_,pl,_⟩:=I.list hq;refine ⟨pl.isList.typeIs,λa e=>?_⟩;cases e;obtain ⟨o,n,e,c,hd,_⟩:=pl;exact ⟨o,e,hd⟩
  ·refine ⟨⟨o,I.kIn p o hk,hc⟩,λa e=>?_⟩;cases e;exact ⟨o,I.kIn _ o hk,hd⟩
  ·have z:∃o,s.heap.get? p=some o/\o.ExactDict:=by
    rcases hk with ⟨QG,hk⟩ | ⟨QG,hk⟩
    ·obtain ⟨_,_,_,_,o,_,_,e,ex,_⟩:=I.hok p _ hk;exact ⟨o,e,ex⟩
    ·obtain ⟨_,_,_,_,o,_,_,e,ex,_⟩:=I.hok p _ hk;exact ⟨o,e,ex⟩
   obtain ⟨o,e,ex⟩:=z;refine ⟨⟨o,e,ex.1⟩,λa e2=>?_⟩;cases e2;exact ⟨o,e,ex.2.1⟩
  ·obtain ⟨o,_,_,_,e,ex,_⟩:=I.hok p _ hk;refine ⟨⟨o,e,ex.1⟩,λa e2=>?_⟩;cases e2;exact ⟨o,e,ex.2.1⟩
 | _=>exact Ux ty
def NU (K:QJ) (T:String) (r:V->List V->Hp->VK->Prop) (to:TE) (t:TA):TE:=λσ H Q=>to σ H λx H1=>MN K T x H1/\t σ H1 λxs H2=>r x xs H2 Q
variable {o e:RA}{es:List RA}{to:TE}{t:TA}{name:Str}{apos cpos:Pos}{T id:String}{r:V->List V->Hp->VK->Prop}
theorem sY (pa:PlainAttrs T) (slot:Slot T name id) (hty:typeOf (.builtin id)=pure (.type "method_descriptor")) (hm:NI X id r) (ho:PE X o to) (ha:PA X (e::es) t)
  (hbase:U9 o name X.env (eval o X.env)=eval o X.env:=by rfl)
  (hfew:((SJ cpos (QZ (e::es) X.env)).all (λx=>!x.1) && (Yb cpos (V5 [] X.env)).all (λx=>x.1.isSome)
   && decide ((e::es).length + ([]:List V6).length + (if ([]:List V6).isEmpty then 0 else 1) < 30))=true:=by rfl)
  (hline:(apos.endLine == cpos.line)=true:=by rfl) (hs:QZ (e::es) X.env=(false,eval e X.env)::QZ es X.env:=by rfl) (hplain:(SJ cpos (QZ es X.env)).any (·.1)=false:=by rfl):
  PE X (.Call (.Attribute o name apos) (e::es) [] cpos) (NU X.K T r to t):=by intro Qx s σ H Q I h;refine wpAny_Call_method_late hbase hfew hline rfl (bM (ho Qx s σ H _ I h) λv s1 ⟨x,H1,I1,r1,ty,q1⟩=>?_);obtain ⟨h1,h2⟩:=Lu I1 r1 ty;refine ⟨T,id,pa,slot,hty,h1,h2,?_⟩;have hA:=ha cpos Qx s1 σ H1 _ I1 q1;rw [hs] at hA ⊢;refine Calls.callWith_builtin (by show (false || (SJ cpos (QZ es X.env)).any (·.1))=false;rw [hplain] <;> rfl) (Calls.evalArgs_plain ?_);exact bM hA λus s2 ⟨vs,H2,I2,r2,q2⟩=>hm Qx s2 σ H2 x vs v us Q I2 r1 r2 q2
end
noncomputable def F0 (X:Cx) (id:String) (r:V->List V->Hp->VK->Prop):Prop:=
 ∀(Qx:List (Rb×Obj)) (s:QM) (σ:St) (H:Hp) (x:V) (xs:List V) (v:QL) (us:List QL) (Q:VK),Inv X Qx σ H s->RelV x v->Vals xs us->r x xs H Q->
  Q_ (Rf X.prog X.w) X.A (call (.builtin id) (v::us)) (EP X Qx σ Q) X.xe s
theorem Vals.one:∀{x:V}{us:List QL},Vals [x] us->∃u,us=[u]/\RelV x u
 | _,_,.cons r .nil=>⟨_,rfl,r⟩
theorem Vals.eraseIdx:∀{xs:List V}{us:List QL}(i:Nat),Vals xs us->Vals (xs.eraseIdx i) (us.eraseIdx i)
 | _,_,_,.nil=>.nil
 | _,_,0,.cons _ t=>t
 | _,_,i + 1,.cons r t=>.cons r (Vals.eraseIdx i t)
theorem vz {α:Type}:∀(l:List α) (i:Nat),(l.eraseIdx i).length<=l.length
 | [],_=>QW _
 | _::_,0=>Tz _
 | _::r,i + 1=>Nat.succ_le_succ (vz r i)
section
variable {X:Cx}{Qx:List (Rb×Obj)}{σ:St}{H:Hp}{s:QM}{l b:Rb}{xs ys zs:List V}
theorem Inv.lset {Qz its':List QL}{f:Array QL->Array QL}(I:Inv X Qx σ H s) (hH:H l=some (.lst xs))
 (e:s.heap.get? l=some {cls:=.type "list",data:=.seq Qz.toArray n}) (hf:f Qz.toArray=its'.toArray) (hv:Vals ys its') (hz:ys.length<=sizeLine):
  Inv X Qx σ (upd H l (.lst ys)) {s with heap:=s.heap.update l (S3 f),toks:=t'}:=by have q:=abb e f;rw [hf] at q;refine I.write (x:=l) (e:=l) (by rw [hH];exact trivial) (.inl rfl) (λb' u hb hu=>(Vj s.heap (S3 f) (SK hb)).trans hu) ⟨_,q⟩ ?_;exact ⟨hz,its',_,hv,q⟩
theorem Inv.lnew {Qz:List QL}(I:Inv X Qx σ H s) (hv:Vals ys Qz) (hz:ys.length<=sizeLine):
  Inv X Qx σ (upd H s.heap.objs.size (.lst ys)) {s with heap:=s.heap.push {cls:=.type "list",data:=.seq Qz.toArray},toks:=t'}:=
 I.laid (λ_ _ q=>QU _ q) (QW _) ⟨hz,Qz,0,hv,Q2 _ rfl⟩
theorem Inv.fresh (I:Inv X Qx σ H s):H s.heap.objs.size=none:=I.hok.fresh (QW _)
theorem Inv.lstM (I:Inv X Qx σ H s) (hH:H l=some (.lst xs)):xs.length<=sizeLine/\∃(Qz:List QL) (n:Nat),Vals xs Qz/\xs.length=Qz.length/\s.heap.get? l=some {cls:=.type "list",data:=.seq Qz.toArray n}:=by obtain ⟨z,Qz,n,r,e⟩:=I.hok l _ hH;exact ⟨z,Qz,n,r,r.length,e⟩
theorem yG (h:n<=sizeLine):S4 n=false:=by unfold S4;exact decide_eq_false (by omega)
end
section
variable {X:Cx}
noncomputable def Iz:V->List V->Hp->VK->Prop:=λx vs H Q=>∃l xs y,x=.ref l/\vs=[y]/\H l=some (.lst xs)/\xs.length < sizeLine/\Q .non (upd H l (.lst (xs++[y])))
theorem jg:F0 X "list.append" Iz:=by intro Qx s σ H x vs v us Q I rx rv h;obtain ⟨l,xs,y,rfl,rfl,hH,hz,q⟩:=h;cases rx;obtain ⟨u,rfl,ru⟩:=rv.one;obtain ⟨z,Qz,n,r,hl,e⟩:=I.lstM hH;refine Yx F.slot_list_append ⟨_,e,rfl⟩ F.entry_list_append (F.args_list_append_2 _ _) (PySem.list_append l Qz.toArray n u (by rw [QY];omega)) ⟨e,?_⟩;refine ⟨.non,_,I.lset (its':=Qz++[u]) hH e (by simp) (r.append (.cons ru .nil)) ?_,rfl,q⟩;rw [Rj,List.length_singleton];omega
noncomputable def IA:V->List V->Hp->VK->Prop:=λx vs H Q=>∃l b xs zs,x=.ref l/\vs=[.ref b]/\H l=some (.lst xs)/\H b=some (.lst zs)/\xs.length + zs.length<=sizeLine/\Q .non (upd H l (.lst (xs++zs)))
theorem MK:F0 X "list.extend" IA:=by
 intro Qx s σ H x vs v us Q I rx rv h;obtain ⟨l,b,xs,zs,rfl,rfl,hH,hB,hz,q⟩:=h;cases rx;obtain ⟨u,rfl,ru⟩:=rv.one;cases ru;obtain ⟨z,Qz,n,r,hl,e⟩:=I.lstM hH;obtain ⟨z2,its2,n2,r2,hl2,e2⟩:=I.lstM hB;have hsz:Qz.toArray.size + its2.toArray.size<=sizeLine:=by rw [QY,QY];omega
 have OJ:¬(!Qz.toArray.isEmpty && S4 (Qz.toArray.size + its2.toArray.size))=true:=by rw [yG hsz,Uh];exact Ru
 refine Yx Yc ⟨_,e,rfl⟩ XQ (Xu _ _)
  (AutoSeq1.list_extend_list_list_0 l Qz.toArray n b its2.toArray n2 OJ (by rw [QY];omega) (by omega)) ⟨e,e2,?_⟩
 refine ⟨.non,_,I.lset (its':=Qz++its2) hH e (by simp) (r.append r2) ?_,rfl,q⟩;rw [Rj];omega
noncomputable def K9:V->List V->Hp->VK->Prop:=λx vs H Q=>∃l xs i k y,x=.ref l/\vs=[.int i]/\H l=some (.lst xs)/\-(2 ^ 63)<=i/\i < 2 ^ 63/\X_ i xs.length=some k/\xs[k]?=some y/\Q y (upd H l (.lst (xs.eraseIdx k)))
theorem EV:F0 X "list.pop" K9:=by
 intro Qx s σ H x vs v us Q I rx rv h;obtain ⟨l,xs,i,k,y,rfl,rfl,hH,h1,h2,hk,hy,q⟩:=h;cases rx;obtain ⟨u,rfl,ru⟩:=rv.one;obtain ⟨t,rfl⟩:=ru;obtain ⟨z,Qz,n,r,hl,e⟩:=I.lstM hH;obtain ⟨w,hw,rw'⟩:=r.get hy;refine Yx F.slot_list_pop ⟨_,e,rfl⟩ F.entry_list_pop (F.args_list_pop_2 _ _)
  (MeetsSeq.list_pop_at l Qz.toArray n i t k w (fitsIndex_both h1 h2) (by rw [QY,<-hl];exact hk) (by rw [<-R_];exact hw) (by rw [QY];omega)) ⟨e,?_⟩
 refine ⟨y,_,I.lset (its':=Qz.eraseIdx k) hH e ?_ (r.eraseIdx k) ?_,rw',q⟩
 ·show Qz.toArray.eraseIdxIfInBounds k=(Qz.eraseIdx k).toArray;rw [List.eraseIdxIfInBounds_toArray]
 ·have:=vz xs k;omega
noncomputable def M9:R2:=λx y H Q=>∃l b xs zs,x=.ref l/\y=.ref b/\H l=some (.lst xs)/\H b=some (.lst zs)/\xs.length + zs.length<=sizeLine/\∀p,H p=none->Q (.ref p) (upd H p (.lst (xs++zs)))
theorem Dk:c5 X (Uy .Add) M9:=by
 intro Qx s σ H x y v u Q I rx ry h;obtain ⟨l,b,xs,zs,rfl,rfl,hH,hB,hz,q⟩:=h;cases rx;cases ry;obtain ⟨z,Qz,n,r,hl,e⟩:=I.lstM hH;obtain ⟨z2,its2,n2,r2,hl2,e2⟩:=I.lstM hB;refine PySem.P.add_list e e2 ?_ (by rw [QY,QY];omega);have ea:Qz.toArray++its2.toArray=(Qz++its2).toArray:=by simp
 rw [ea];exact ⟨.ref _,_,I.lnew (t':=s.toks) (r.append r2) (by rw [Rj];omega),rfl,q _ I.fresh⟩
end
end L2
namespace Att
open PySem PySem.W PySem.Calls PyProof.Rows
theorem sO:∀(ns:List Int) (vs:List QL),WellAll P h vs (ns.map abg)->UT vs ns:=by
 intro ns
 induction ns with
 | nil=>
  intro vs w;rw [VG] at w;cases w;exact .nil
 | cons n ns ih=>
  intro vs w;rw [Q6] at w;cases w with
  | cons a b=>
   cases a;exact .cons _ _ (ih _ b)
theorem DP {l:OpenLaw}(hn:l.most=some n){h:Sn}
 (hpre:l.row.toRowW.claim.pre args=true) (hwl:WellAll P h vals args):
  ∃a vs ns,vals=[U3 a]/\args=[WData.list (ns.map abg)]/\h.get? a=some {cls:=.type "list",data:=.seq vs.toArray}/\UT vs ns/\ns.length<=n:=by
 have hsh:WShape.hasAll [] args [.list .int]=true:=(pre_splitW hpre).1;have hc:l.pre.holds [] {args:=args}=true:=(pre_splitW hpre).2;obtain ⟨d,r,rfl,h1,h2⟩:=hasAllW_cons hsh;obtain rfl:=hasAllW_nil h2;obtain ⟨xs,rfl,h3⟩:=hasW_list h1;obtain ⟨ns,rfl⟩:=items_int h3;have hlen:ns.length<=n:=by
  unfold OpenLaw.pre at hc;have h4:(WTm.not (.lt (.lit (.int (n:Int))) (.len (.arg 0)))).holds [] {args:=[.list (ns.map .int)]}=true:=by have h4:=(holds_andW hc).1;rw [hn] at h4;exact h4
  have h5:=condW_of h4 (w_not (w_lt w_lit (w_len_list (w_arg rfl))));rw [QN] at h5;refine Nat.le_of_not_lt λq=>?_;have q':(n:Int) < ((ns.length:Nat):Int):=by omega
  first
   | (rw [decide_eq_true q'] at h5;exact absurd h5 (by decide))
   | (simp at h5;omega)
 cases hwl with
 | cons w1 w2=>
  cases w2;cases w1 with
  | list ho hall=>exact ⟨_,_,ns,rfl,rfl,ho,sO ns _ hall,hlen⟩
theorem Dy (l:OpenLaw) (args:List WData):l.row.toRowW.claim.post args (.bool true) args=true:=
 postW_of (r:=l.row.toRowW) (X:=(true == true))
  (show aa7 [] (.bool true) .bool=true by first | rfl | decide | simp [aa7,WShape.arms,WShape.armsAll])
  (show (WTm.eq .res (.lit (.bool true))).value [] {args:=args,res:=some (.bool true),after:=args}=some (.bool (true == true)) from w_eq_bool (w_res rfl) w_lit) rfl
theorem zh {l:OpenLaw}{XP:(Str->Option QL)->Sn->Prop}{YP:Rz->Sn->Prop}{d:DefRec}
 (hn:l.most=some n) (hdf:d.params.defaults=[])
 (call:∀(w:Rz) (s₀ s₁:QM) (mg mb:Str->Option QL) (fa:Rb) (o:Obj) (pm cd doc:QL) (a:Rb) (vs:List QL) (ns:List Int),
 Ground q loose [] XP w s₀ mg mb s₁.heap->YP w s₁.heap->
 s₁.heap.get? fa=some o->o.data=.func (docDef d.name d.params d.body d.scope pm cd doc)->s₁.heap.CodeRec cd d.name->mg d.name=some (.ref fa)->
 s₁.heap.get? a=some {cls:=.type "list",data:=.seq vs.toArray}->UT vs ns->ns.length<=n->s₁.gens=#[]->
 S6 (Rf l.prog w) Yy (.call (.ref fa) ⟨[.ref a],[]⟩) (λr s'=>r=.ok (.ret (.bool true))/\OldK s₁.heap s'.heap/\s'.os=s₁.os/\W7 s'.gens) s₁):
  WalkO q loose XP YP l.row.toRowW d [] (λf vs=>ZW f vs):=by intro w s₀ s₁ mg mb G Y fa o pm cd doc dV kV ho hd hcd hD hmg hg args vals as hpre hlay hrd hwl hlo;obtain rfl:dV=.none:=Dflts.none hD hdf;obtain rfl:kV=.none:=Dflts.noKw hD;obtain ⟨a,vs,ns,rfl,rfl,hobj,hints,hlen⟩:=DP hn hpre hwl;refine enter_call (T5 (call w s₀ s₁ mg mb fa o pm cd doc a vs ns G Y ho (fd_plain hd) hcd hmg hobj hints hlen hg) λr s' hq=>?_);obtain ⟨rfl,h2,h3,h4⟩:=hq;exact ⟨.inl ⟨.bool true,.bool true,[],rfl,λ_=>rfl,.bool true,Dy l _,λ_=>⟨Uz,λ_ hm=>(nomatch hm)⟩⟩,h2,h3,h4⟩
end Att
namespace L2
open PySem PySem.Spec PyProof.Rows
theorem v5:∀{vs:List QL}{ns:List Int},UT vs ns->Vals (ns.map V.int) vs
 | _,_,.nil=>.nil
 | _,_,.cons n t h=>.cons ⟨t,rfl⟩ (v5 h)
def AQ (H:Hp):Prop:=∀b,H b=none\/∃o xs,H b=some (.frz o (.lst xs))
theorem EM {K:QJ}{mg mb:Str->Option QL}{sp:Sp}{s₁:QM}{vs:List QL}{ns:List Int}
 (KX:K.In s₁.heap) (hns:s₁.heap.Ns Rp mg) (hb:s₁.heap.Ns ZR mb) (P4:∀x:Str,x≠"__name__"->mb x=RJ x) (hlim:s₁.heap.NoLimit) (hg:s₁.gens=#[])
 (ha:s₁.heap.get? a=some {cls:=.type "list",data:=.seq vs.toArray}) (hi:UT vs ns) (hl:ns.length<=sizeLine) (hr:dg k Yy)
 (F:∀base:Sn,K.In base->base.Ns Rp mg->iQ P w K mg base CX k fa fd [x] sp) (hbind:∀(s:QM) (u:QL),Y7 s fd ⟨[u],[]⟩ [(x,u)])
 (OO:∀H:Hp,AQ H->bV K H a (ns.map V.int)->sp [.ref a] H (λv _=>v=.bl true) λ_ _ _=>False)
 (Pd:∀H e s',CX [] H s₁ (λ_ _ _=>False) e s'->False):
  S6 (Rf P w) Yy (.call (.ref fa) ⟨[.ref a],[]⟩) (λr s'=>r=.ok (.ret (.bool true))/\OldK s₁.heap s'.heap/\s'.os=s₁.os/\W7 s'.gens) s₁:=by
 have rv:=v5 hi;have lenV:=hi.length;have core:∀H:Hp,AQ H->bV K H a (ns.map V.int)->fE P w H s₁.heap->(∀b,H b≠none->b=a)->(H a≠none->K.lookup a=none)->
   S6 (Rf P w) Yy (.call (.ref fa) ⟨[.ref a],[]⟩) (λr s'=>r=.ok (.ret (.bool true))/\OldK s₁.heap s'.heap/\s'.os=s₁.os/\W7 s'.gens) s₁:=by
  intro H hO hS hok hA hK;have base_of:∀{b:Rb}{o:Obj},s₁.heap.get? b=some o->H b=none->(mP s₁.heap H).get? b=some o:=λe n=>EB e n;have noA:∀{b:Rb}{o:Obj}{es:Array Xc}{ep:Nat},s₁.heap.get? b=some o->o.data=.dict es ep->H b=none:=fun {b o es ep} e d=>by
   cases q:H b with
   | none=>rfl
   | some u=>
    have e':b=a:=hA b (by rw [q];simp);subst e';rw [ha] at e;cases e;have d':Data.seq vs.toArray _=Data.dict es ep:=d;cases d'
  have nsK:∀{b:Rb}{m:Str->Option QL},s₁.heap.Ns b m->(mP s₁.heap H).Ns b m:=fun {b m} ⟨o,es,ep,e,d,r⟩=>⟨o,es,ep,base_of e (noA e d),d,r⟩;have PN:K.In (mP s₁.heap H):=λb o e=>base_of (KX b o e) (by
   cases q:H b with
   | none=>rfl
   | some u=>
    have e':b=a:=hA b (by rw [q];simp);subst e';rw [hK (by rw [q];simp)] at e;cases e)
  have hM:Mod K mg (mP s₁.heap H):=⟨PN,nsK hns,⟨mb,nsK hb,P4⟩,let ⟨mc,h1,h2⟩:=hlim;⟨mc,nsK h1,h2⟩⟩;have e0:AM P w K mg (mP s₁.heap H) Yy [] s₁ H:=⟨rfl,hM,λb o e=>HR e,aat (CT _ _),trivial,λb hb=>absurd (show b∈([]:List Rb) from hb) (by simp),hok,.of_eq hg⟩;refine T5 ((F _ PN (nsK hns)).run Yy [] s₁ H ⟨[.ref a],[]⟩ [.ref a] [.ref a] _ _ hr e0 (hbind s₁ (.ref a)) (.cons rfl .nil) (OO H hO hS)) λr s' h=>?_;cases r with
  | error e=>exact (Pd H e s' h).elim
  | ok fl=>
   cases fl with
   | next=>exact Ux h
   | brk=>exact Ux h
   | cont=>exact Ux h
   | ret u=>
    obtain ⟨v,H',os,bare,un,Px,r',q⟩:=h;have q':v=.bl true:=q;subst q';obtain rfl:u=TM true:=r';refine ⟨rfl,OldK.of_keep λb o e=>?_,os,bare⟩;cases q:H b with
    | none=>exact un.keep b o e q (by intro z;exact absurd (show b∈([]:List Rb) from z) (by simp)) (by simp)
    | some u=>
     rcases hO b with z | ⟨ob,xs,z⟩
     ·rw [q] at z;cases z
     ·have z2:=un.frzs b ob _ z;obtain ⟨e1,_⟩:=hok b _ z;obtain ⟨e2,_⟩:=Px b _ z2;rw [e] at e1;cases e1;exact e2
 cases hk:K.lookup a with
 | some o=>
  have e:=KX a o hk;rw [ha] at e;cases e;refine core (λ_=>none) (λ_=>.inl rfl) (.inr ⟨_,vs.toArray,_,hk,rfl,rfl,rfl,by rw [QY,lenV];exact hl,by simpa using rv⟩) (λb u z=>by have z':(none:Option HO)=some u:=z;cases z') (λb z=>absurd rfl z) λz=>absurd rfl z
 | none=>
  refine core (λb=>if b=a then some (.frz {cls:=.type "list",data:=.seq vs.toArray} (.lst (ns.map V.int))) else none) (λb=>?_) (.inl (.inr ⟨{cls:=.type "list",data:=.seq vs.toArray},if_pos rfl⟩)) (λb u z=>?_) (λb z=>?_) λ_=>hk
  ·by_cases hb:b=a
   ·exact .inr ⟨_,_,if_pos hb⟩
   ·exact .inl (if_neg hb)
  ·by_cases hb:b=a
   ·have z':=(if_pos hb).symm.trans z;cases z';subst hb;exact ⟨ha,by rw [QN];exact hl,vs,_,rv,ha⟩
   ·have z':=(if_neg hb).symm.trans z;cases z'
  ·by_cases hb:b=a
   ·exact hb
   ·exact absurd (if_neg hb) z
abbrev N5 {K:QJ}{h:Sn}(_:K.In h):QJ:=K
theorem IU {l:Xd}{XP:(Str->Option QL)->Sn->Prop}{YP:Rz->Sn->Prop}{d:DefRec}{K:aa2->QJ}{CX:Rz->uP}{sp:Rz->Sp}
 (hn:l.most=some n) (hn2:n<=sizeLine) (hdf:d.params.defaults=[]) (hr:dg k Yy)
 (hY:∀(w:Rz) (h:Sn),YP w h->(K w.params).In h)
 (F:∀(w:Rz) (mg:Str->Option QL) (fa:Rb) (h:Sn),(K w.params).In h->h.Ns Rp mg->mg d.name=some (.ref fa)->
 ∃fd:Ry,(∀(s:QM) (u:QL),Y7 s fd ⟨[u],[]⟩ [(x,u)])/\
 ∀base:Sn,(K w.params).In base->base.Ns Rp mg->iQ l.prog w (K w.params) mg base (CX w) k fa fd [x] (sp w))
 (OO:∀(w:Rz) (H:Hp) (a:Rb) (ns:List Int),ns.length<=n->AQ H->bV (K w.params) H a (ns.map V.int)->sp w [.ref a] H (λv _=>v=.bl true) λ_ _ _=>False)
 (Pd:∀(w:Rz) (H:Hp) (s:QM) (e:QL) (s':QM),CX w [] H s (λ_ _ _=>False) e s'->False):
  aad q loose XP YP l.row.toRowW d [] (λf vs=>ZW f vs):=by refine Att.zh hn hdf λw s₀ s₁ mg mb fa o pm cd doc a vs ns G Y ho hd hcd hmg hobj hints hlen hg=>?_;have KX:=hY w _ Y;obtain ⟨fd,hb,hF⟩:=F w mg fa _ KX G.T.g hmg;exact EM KX G.T.g G.T.b G.T.builtins G.T.nolimit hg hobj hints (Rr hlen hn2) hr hF hb (λH hO hS=>OO w H a ns hlen hO hS) λH e s'=>Pd w H s₁ e s'
noncomputable def eV (s:TJ):Arguments:=match s with
 | .FunctionDef _ a _ _ _ _ _ _ _ _=>a
 | _=>{posonlyargs:=[],args:=[],vararg:=none,kwonlyargs:=[],kw_defaults:=[],kwarg:=none,defaults:=[]}
noncomputable def cP (s:TJ):List TJ:=match s with
 | .FunctionDef _ _ b _ _ _ _ _ _ _=>b
 | _=>[]
noncomputable def bu (s:TJ):Um:=match s with
 | .FunctionDef _ _ _ _ _ _ sc _ _ _=>sc
 | _=>{kind:=.function,names:=[],isGenerator:=false,isCoroutine:=false}
abbrev ny:uP:=λ_ _ _ _ _ _=>False
abbrev E0:XK:=λ_ _ _=>False
theorem Bv:Passes ny X E0:=λ_ _ _ _ _ _ _ h=>h.elim
structure nA (K:QJ) (x QE:Str) (st:TJ) (f:Rb) (fd:Ry):Prop where
 ex:∃(oc:QL) (od:Option Rb) (kV doc pm:QL) (an:Option Rb) (cdv ct:QL) (osl:Array (Option QL)),
  fd=SG x QE (eV st) (cP st) (bu st) .none kV doc pm an cdv ct/\K.lookup f=some ⟨oc,od,.func fd,osl⟩/\Vy K cdv QE=true
 kp:Ug K (.ref f)=true
section
variable {P:Ra}{w:Rz}{K:QJ}{mg:Str->Option QL}{base:Sn}
theorem nA.ok {st:TJ}{N ps:List Str}{sp:Sp}(F:nA K x QE st f fd) (S:gm N ps (bu st)) (len:∀vs H Q E,sp vs H Q E->vs.length=ps.length)
 (hbody:∀(cdv:QL) (A:RC) (outer:List Env) (s:QM) (H:Hp) (vs:List V) (Q:VK) (E:XK),dg k (A.deeper (Ww QE (bu st) s.heap.objs.size f cdv))->sp vs H Q E->
 ∃t,iN (qJ ny P w K mg base N QE (bu st) f cdv A outer s H E).nox (cP st) t/\t {nx:=λ_ H'=>Q .non H',rt:=Q} (start N vs) H):iQ P w K mg base ny (k + 1) f fd ps sp:=by obtain ⟨oc,od,kV,doc,pm,an,cdv,ct,osl,rfl,lk,hcd⟩:=F.ex;refine LL lk hcd S len λA outer s H vs Q E hr OO=>?_;obtain ⟨t,h,q⟩:=hbody cdv A outer s H vs Q E hr OO;exact ⟨t,h.nox,q⟩
theorem nA.binds {st:TJ}{ps:List Str}(F:nA K x QE st f fd)
 (h:∀(kV doc pm:QL) (an:Option Rb) (cdv ct:QL) (us:List QL),us.length=ps.length->YZ (SG x QE (eV st) (cP st) (bu st) .none kV doc pm an cdv ct) ⟨us,[]⟩=pure (ps.zip us)):Binds K fd ps []:=by obtain ⟨oc,od,kV,doc,pm,an,cdv,ct,osl,rfl,lk,hcd⟩:=F.ex;exact .all (h kV doc pm an cdv ct)
theorem CL {st:TJ}{kV doc pm cdv ct:QL}(l:K.lookup f=some ⟨oc,od,.func (SG x QE (eV st) (cP st) (bu st) .none kV doc pm an cdv ct),osl⟩)
 (c:Vy K cdv QE=true) (k:Ug K (.ref f)=true):nA K x QE st f (SG x QE (eV st) (cP st) (bu st) .none kV doc pm an cdv ct):=⟨⟨oc,od,kV,doc,pm,an,cdv,ct,osl,rfl,l,c⟩,k⟩
end
theorem JR {A B:Prop}(h:B):if false=true then A else B:=by rw [if_neg Ru];exact h
theorem JS {A B:Prop}(h:A):if true=true then A else B:=by rw [if_pos rfl];exact h
def aL (H H':Hp):Prop:=∀b o,H b=some o->H' b=some o
theorem aL.refl (H:Hp):aL H H:=λ_ _ h=>h
theorem aL.trans {H H1 H2:Hp}(a:aL H H1) (b:aL H1 H2):aL H H2:=λc o h=>b c o (a c o h)
theorem aL.free {H H':Hp}(e:aL H H') (h:H' l=aaQ):H l=aaQ:=by
 cases q:H l with
 | none=>rfl
 | some o=>
  rw [e l o q] at h;cases h
theorem aL.seq {K:QJ}{H H':Hp}{a:Rb}{xs:List V}(e:aL H H') (h:bV K H a xs):bV K H' a xs:=by
 rcases h with (h | ⟨o,h⟩) | h
 ·exact .inl (.inl (e _ _ h))
 ·exact .inl (.inr ⟨o,e _ _ h⟩)
 ·exact .inr h
end L2
set_option maxHeartbeats 4000000
namespace K31
open PySem
def top (i:Nat):TJ:=Sm.main.body.getD i (.Pass ⟨0,0,0,0⟩)
end K31
namespace K31
open PySem PySem.Spec PyProof.Rows L2
abbrev E (P:aa2) (k:Str) (t:Nat) (v:QL):Xc:=⟨PyData.keyHash P k,.str k t,v⟩
abbrev cQ (P:aa2) (k:Str) (t r:Nat):Xc:=E P k t (.ref r)
noncomputable def MI (n:Str) (t l k a:Nat) (v w:QL) (r u:Nat):Obj:=⟨.type "code",none,.fields #[.str n t,.str n (t + 1),.str "/claim/cut.py" (t + 2),.int l 0,.int k 0,.int 0 0,.int 0 0,.int 3 0,.ref a,.bool true,.int 181 0,.ref (a + 1),.none,v,w,.ref r,.int u 0,.int l 0,.str "/claim/cut.py" (u + 1)],#[]⟩
def jt (n:Str) (t l k a u:Nat):Obj:=MI n t l k a (.ref (a + 2)) (.ref (a + 3)) (a + 4) u
def iD (n:Str) (t l k a u:Nat):Obj:=MI n t l k a .none .none (a + 2) u
noncomputable def dh (n:Str) (k:Nat) (m:QL) (c:Nat):Obj:=⟨.type "function",none,.func (SG n n (eV (top k)) (cP (top k)) (bu (top k)) .none .none .none m none (.ref c) .none),#[]⟩
def Ez:QL:=.str "pickalike.worlds" 273
def EA:QL:=.str "pickalike.checks" 296
def uu:QL:=.str "pickalike.pairings" 325
def jQ:QL:=.str "pickalike.layers" 373
def jo:QL:=.str "law_pickalike_k31_layers_walked" 451
def KF (P:aa2):QJ:=
(nat_lit 2,⟨.none,none,(.dict #[] 0),#[]⟩)::
(nat_lit 3,⟨(.type "dict"),none,(.dict #[E P "__name__" 165 (.str "law_pickalike_k31_layers_walked" 451),E P "__doc__" 166 .none,E P "__package__" 167 .none,E P "__loader__" 168 (.builtin "__main__.__loader__#opaque"),E P "__spec__" 169 .none,cQ P "__annotations__" 170 6,cQ P "__builtins__" 171 4,E P "__file__" 173 (.str "/claim/cut.py" 172),E P "__cached__" 174 .none,cQ P "PickError" 206 24,cQ P "NoTongue" 222 37,cQ P "TooMany" 247 56,cQ P "NoCount" 272 75,cQ P "is_whole" 281 84,cQ P "tongue_of" 287 89,cQ P "need_tongue" 295 96,E P "MOST_SMALL" 299 (.int 4 298),cQ P "need_few_points" 307 103,cQ P "need_small" 315 110,cQ P "need_count" 324 117,cQ P "rising" 333 124,cQ P "view" 339 129,cQ P "views" 345 134,cQ P "agree" 355 141,cQ P "goes_behind" 366 148,cQ P "pairings" 372 153,E P "MOST_DEPTH" 376 (.int 6 375),cQ P "added" 384 160,cQ P "pairs_with" 390 165,cQ P "picks_of" 396 170,cQ P "outcomes" 402 175,cQ P "answered_still" 408 180,cQ P "peeled" 414 185,cQ P "pairings_with" 420 190,cQ P "parting_depths" 426 195,cQ P "in_layer" 435 202,cQ P "layers_of" 441 207,cQ P "layers" 450 214,cQ P "_law_cell" 460 221,cQ P "_law_names" 475 228,cQ P "_law_bits" 485 235,cQ P "_law_world" 491 240,cQ P "_law_order" 502 247,cQ P "_law_turned" 508 252,cQ P "_law_flipped" 514 257,cQ P "_law_two" 520 262,cQ P "_law_with" 528 269,cQ P "_law_answered" 534 274,cQ P "_law_next" 540 279,cQ P "law" 546 284] 50),#[]⟩)::
(nat_lit 83,jt "is_whole" 275 17 1 78 279)::
(nat_lit 84,dh "is_whole" 6 Ez 83)::
(nat_lit 88,iD "tongue_of" 282 19 1 85 285)::
(nat_lit 89,dh "tongue_of" 7 Ez 88)::
(nat_lit 95,jt "need_tongue" 288 22 2 90 293)::
(nat_lit 96,dh "need_tongue" 8 Ez 95)::
(nat_lit 102,jt "need_few_points" 300 27 1 97 305)::
(nat_lit 103,dh "need_few_points" 11 EA 102)::
(nat_lit 109,jt "need_small" 308 31 2 104 313)::
(nat_lit 110,dh "need_small" 12 EA 109)::
(nat_lit 116,jt "need_count" 316 34 3 111 322)::
(nat_lit 117,dh "need_count" 13 EA 116)::
(nat_lit 123,jt "rising" 327 38 1 118 331)::
(nat_lit 124,dh "rising" 15 uu 123)::
(nat_lit 128,iD "view" 334 42 3 125 337)::
(nat_lit 129,dh "view" 16 uu 128)::
(nat_lit 133,iD "views" 340 47 1 130 343)::
(nat_lit 134,dh "views" 17 uu 133)::
(nat_lit 140,jt "agree" 346 49 4 135 353)::
(nat_lit 141,dh "agree" 18 uu 140)::
(nat_lit 147,jt "goes_behind" 356 51 4 142 364)::
(nat_lit 148,dh "goes_behind" 19 uu 147)::
(nat_lit 152,iD "pairings" 367 58 3 149 370)::
(nat_lit 153,dh "pairings" 20 uu 152)::
(nat_lit 159,jt "added" 377 72 2 154 382)::
(nat_lit 160,dh "added" 23 jQ 159)::
(nat_lit 164,iD "pairs_with" 385 74 4 161 388)::
(nat_lit 165,dh "pairs_with" 24 jQ 164)::
(nat_lit 169,iD "picks_of" 391 78 2 166 394)::
(nat_lit 170,dh "picks_of" 25 jQ 169)::
(nat_lit 174,iD "outcomes" 397 80 4 171 400)::
(nat_lit 175,dh "outcomes" 26 jQ 174)::
(nat_lit 179,iD "answered_still" 403 83 2 176 406)::
(nat_lit 180,dh "answered_still" 27 jQ 179)::
(nat_lit 184,iD "peeled" 409 85 2 181 412)::
(nat_lit 185,dh "peeled" 28 jQ 184)::
(nat_lit 189,iD "pairings_with" 415 95 3 186 418)::
(nat_lit 190,dh "pairings_with" 29 jQ 189)::
(nat_lit 194,iD "parting_depths" 421 97 3 191 424)::
(nat_lit 195,dh "parting_depths" 30 jQ 194)::
(nat_lit 201,jt "in_layer" 427 101 3 196 433)::
(nat_lit 202,dh "in_layer" 31 jQ 201)::
(nat_lit 206,iD "layers_of" 436 103 2 203 439)::
(nat_lit 207,dh "layers_of" 32 jQ 206)::
(nat_lit 213,jt "layers" 442 105 3 208 448)::
(nat_lit 214,dh "layers" 33 jQ 213)::
(nat_lit 220,jt "_law_cell" 453 110 2 215 458)::
(nat_lit 221,dh "_law_cell" 35 jo 220)::
(nat_lit 227,jt "_law_names" 461 114 2 222 473)::
(nat_lit 228,dh "_law_names" 36 jo 227)::
(nat_lit 234,jt "_law_bits" 476 126 2 229 483)::
(nat_lit 235,dh "_law_bits" 37 jo 234)::
(nat_lit 239,iD "_law_world" 486 132 3 236 489)::
(nat_lit 240,dh "_law_world" 38 jo 239)::
(nat_lit 246,jt "_law_order" 492 142 2 241 500)::
(nat_lit 247,dh "_law_order" 39 jo 246)::
(nat_lit 251,iD "_law_turned" 503 149 2 248 506)::
(nat_lit 252,dh "_law_turned" 40 jo 251)::
(nat_lit 256,iD "_law_flipped" 509 153 2 253 512)::
(nat_lit 257,dh "_law_flipped" 41 jo 256)::
(nat_lit 261,iD "_law_two" 515 172 2 258 518)::
(nat_lit 262,dh "_law_two" 42 jo 261)::
(nat_lit 268,jt "_law_with" 521 187 2 263 526)::
(nat_lit 269,dh "_law_with" 43 jo 268)::
(nat_lit 273,iD "_law_answered" 529 189 4 270 532)::
(nat_lit 274,dh "_law_answered" 44 jo 273)::
(nat_lit 278,iD "_law_next" 535 197 3 275 538)::
(nat_lit 279,dh "_law_next" 45 jo 278)::
(nat_lit 283,iD "law" 541 202 1 280 544)::
(nat_lit 284,dh "law" 46 jo 283)::[]
noncomputable def VW:Ra:={Sm with main:={Sm.main with body:=[top 1,top 2,top 3,top 4,top 6,top 7,top 8,top 10,top 11,top 12,top 13,top 15,top 16,top 17,top 18,top 19,top 20,top 22,top 23,top 24,top 25,top 26,top 27,top 28,top 29,top 30,top 31,top 32,top 33,top 35,top 36,top 37,top 38,top 39,top 40,top 41,top 42,top 43,top 44,top 45,top 46]}}
noncomputable def HK:W.Hook:=W.kHook KF [2,3,83,84,88,89,95,96,102,103,109,110,116,117,123,124,128,129,133,134,140,141,147,148,152,153,159,160,164,165,169,170,174,175,179,180,184,185,189,190,194,195,201,202,206,207,213,214,220,221,227,228,234,235,239,240,246,247,251,252,256,257,261,262,268,269,273,274,278,279,283,284] (λ_=>by kernel_rfl)
def XT:QM->Bool:=λs=>W.xlAt VW [] s && W.recOk (aaC RN.row.toRowW) s
theorem look:ZX RN=true:=by decide +kernel
theorem left:W.LeftO RN.row.prog VW [] XT (abd HK) (abe HK) 4032:=λw=>by kernel_rfl
end K31
namespace DX
open PySem PySem.Spec
open Sem (wp)
end DX
namespace DX
open PySem PySem.Spec
end DX
namespace DX
open PySem PySem.Spec PyProof.Rows L2
def LH (a C:Rb) (dx:Option Rb):Sn->Prop:=λh=>∃oe vs,h.get? a=some oe/\oe.cls=.ref C/\oe.dict=dx/\oe.data=.fields vs
abbrev XO (a C:Rb) (dx:Option Rb):HO:=.ext (LH a C dx)
end DX
namespace DX
open PySem PySem.Spec PyProof.Rows
open Sem (wp)
section
variable {prog:Ra}{w:Rz}{A:RC}{E:QL->QM->Prop}{s:QM}{K:QJ}{x C:Rb}{ox:Obj}{od:Option Obj}{name:Str}
theorem El {M:aa6}{Q:Unit->QM->Prop}(X:K.In s.heap) (I:UM s.heap x ox C od) (hm:UA K C (.type "BaseException")=some true) (hq:Q () s):Q_ M A (WV "BaseException.__getattribute__" ⟨[.ref x,nameV],[]⟩) Q E s:=by
 have hk:builtinKind "BaseException.__getattribute__"=some .slot:=by decide +kernel
 have OO:splitId "BaseException.__getattribute__"=some ("BaseException","__getattribute__"):=by decide +kernel
 have ha:=F.args_bexc_ga (.ref x) nameV;have L1:=I.type (M:=M);have L2:=W.looks_mroIn (M:=M) X hm;simp only [WV,hk,OO];have L:W.Looks M s.heap (ZY (.ref x) (.type "BaseException")) true:=L1.andThen L2;refine QI (L.here ?_);obtain ⟨h,g,d,t,os⟩:=s
 repeat (any_goals (first | assumption | wp_step))
theorem entry_class {Q:Fin->QM->Prop}(X:K.In s.heap) (I:UM s.heap x ox C od) (hf:V7 K C od "__class__"=some (.bind (.builtin "getset_descriptor.__get__") (.builtin "object.__class__"))) (hm:UA K C (.type "object")=some true) (h:Q (.done (.ret (.ref C))) s):
  Q_ (Rf prog w) A (VL.«object.__getattribute__» ⟨[.ref x,.str "__class__" tk],[]⟩) Q E s:=by obtain ⟨hh,g,d,t,os⟩:=s;have L0:=I.type (M:=Rf prog w);have L1:=W.looks_find (M:=Rf prog w) X I hf;refine QI (QK (QI (QK (QI (L0.at (QI (L1.at ?_)))))));show Q_ _ _ (holding [_] (call _ [_,.ref x,.ref C]) >>= ret) _ _ _;exact QI (Rw (Ys (W.class_get (ox:=ox) (od:=od) X I hm (QK h))))
theorem JJ {tk:Tok}{fill expr:Bool}{Q:QL->QM->Prop}(X:K.In s.heap) (I:UM s.heap x ox C od) (hga:TF K (.ref C) "__getattribute__"=some (some (.builtin "BaseException.__getattribute__"))) (hgt:TF K (.ref C) "__getattr__"=some none)
  (h:S6 (Rf prog w) A (.call (.builtin "BaseException.__getattribute__") ⟨[.ref x,.str name tk],[]⟩) (λr s'=>match r with | .ok (.ret v)=>Q_ (Rf prog w) A (handedOut v) Q E s' | _=>False) s):Q_ (Rf prog w) A (getAttrBy (.ref x) (.str name tk) fill expr) Q E s:=by
 obtain ⟨hh,g,d,t,os⟩:=s;have L0:=I.type (M:=Rf prog w);have L1:=Xv (M:=Rf prog w) X hga;have L2:=Xv (M:=Rf prog w) X hgt;have Qt:(WK "BaseException.__getattribute__" == WK "object.__getattribute__")=false:=by decide +kernel
 unfold getAttrBy;refine Rw (QI (L0.at (QI (L1.at ?_))));dsimp only;rw [Qt,Uh,if_neg (by decide)];unfold getAttrByItsOwn;refine QI (L2.at ?_);have h0:(expr && onTheHeap (WK "BaseException.__getattribute__"))=false:=by cases expr <;> rfl
 refine QI (U_ (Rw ?_));unfold callGetattribute;rw [h0,if_neg (by decide)];unfold boundAndCalled;rw [V8.ga.bind (.ref x)];refine QI (QK (Ys (T5 h λr s' q=>?_)))
 match r,q with
 | .ok (.ret v),q=>exact q
theorem get_class {Q:Option QL->QM->Prop}(X:K.In s.heap) (I:UM s.heap x ox C od) (hga:TF K (.ref C) "__getattribute__"=some (some (.builtin "BaseException.__getattribute__"))) (hgt:TF K (.ref C) "__getattr__"=some none)
  (hm:UA K C (.type "BaseException")=some true) (hf:V7 K C od "__class__"=some (.bind (.builtin "getset_descriptor.__get__") (.builtin "object.__class__"))) (ho:UA K C (.type "object")=some true) (h:Q (some (.ref C)) {s with toks:=s.toks + 1}):
  Q_ (Rf prog w) A (getAttr? (.ref x) "__class__") Q E s:=by obtain ⟨hp,g,d,t,os⟩:=s;unfold getAttr? getAttrBy?;refine QI (wpAny_mkText (QI (U_ (JJ (s:=⟨hp,g,d,t + 1,os⟩) X I hga hgt ?_))));refine Xw V8.ga.plain F.entry_bexc_ga (El (s:=⟨hp,g,d,t + 1,os⟩) X I hm (entry_class (s:=⟨hp,g,d,t + 1,os⟩) X I hf ho ?_));exact QK (QK h)
end
end DX
namespace DX
open PySem PySem.Spec PyProof.Rows L2
abbrev ze:List QL:=[.type "ValueError",.type "Exception",.type "BaseException",.type "object"]
def quiet:List Str:=["__init__","__setattr__","name","letter","many","told","point","row"]
structure GX (K:QJ) (P:Rb):Prop where
 gt:Yz K (.builtin "object.__class__") "__get__"=some (some (.builtin "getset_descriptor.__get__"))
 tk:Y9 K (.builtin "object.__class__")=some true
 lk:∃nm q N bs sn sub ab col dd k0 k1 k2 k3 k5,K.lookup P=some (excClassObj nm q P N bs ze true sn sub ab col dd k0 k1 k2 k3 k5 "ValueError.__new__")/\∀h,K.In h->∃m,h.Ns N m/\∀n∈quiet,m n=none
structure XE (K:QJ) (P C:Rb):Prop where
 lk:∃nm q N bs sn sub ab col dd k0 k1 k2 k3 k5,K.lookup C=some (excClassObj nm q C N bs (.ref P::ze) true sn sub ab col dd k0 k1 k2 k3 k5 "ValueError.__new__")
 ga:TF K (.ref C) "__getattribute__"=some (some (.builtin "BaseException.__getattribute__"))
 gt:TF K (.ref C) "__getattr__"=some none
 cl:TF K (.ref C) "__class__"=some (some (.builtin "object.__class__"))
section
variable {K:QJ}{P C:Rb}
theorem CA (X:XE K P C):∃cd,Va K C=some cd/\cd.mro=.ref C::.ref P::ze/\cd.hasDict=true/\W.typeIn K (.ref C)=some (.type "type"):=by
 obtain ⟨nm,q,N,bs,sn,sub,ab,col,dd,k0,k1,k2,k3,k5,l⟩:=X.lk;have h1:Va K C=some {name:=nm,bases:=bs,mro:=.ref C::.ref P::ze,ns:=N,qualname:=q,hasDict:=true,slotNames:=sn,subclasses:=sub,abstract:=ab,collection:=col,hasDel:=false}:=by unfold Va;rw [l]
 refine ⟨_,h1,rfl,rfl,?_⟩;show (K.lookup C).map (·.cls)=_;rw [l];rfl
theorem yC (X:XE K P C) (b:QL):UA K C b=some ((U3 C::.ref P::ze).contains b):=by obtain ⟨cd,h1,h2,_⟩:=CA X;unfold UA;rw [h1,WW,h2];rfl
end
theorem Ka {K:QJ}{P C:Rb}(X:XE K P C){T:String}(h1:Y_ T=true) (h2:ze.contains (.type T)=false):XH K (.ref C) (.type T)=some false:=by unfold XH W.kitCls;rw [if_neg (by simp)];simp only [h1,if_true];show UA K C _=_;rw [yC X,Yd,Yd,h2];rfl
theorem Hl {K:QJ}{C:Rb}{od:Option Obj}{name:Str}{a g:QL}(hc:(Va K C).isSome=true) (ha:TF K (.ref C) name=some (some a)) (hg:Yz K a "__get__"=some (some g)) (ht:Y9 K a=some true):V7 K C od name=some (.bind g a):=by obtain ⟨cd,hc⟩:=R9.mp hc;unfold V7;rw [hc,WW,ha,WW];simp [hg,ht]
theorem EJ {K:QJ}{e P C:Rb}(G:GX K P) (E:XE K P C):W.KitX K (.ref e) (.ref C) (λh=>∃ox od,UM h e ox C od):=by
 obtain ⟨cd,hc,hm,hd,ht⟩:=CA E;refine ⟨λM h _ ⟨ox,od,I⟩=>I.type,λM h X _=>?_,λh tp dd Qz n sl X htp=>?_,λX ⟨ox,od,I⟩ k=>?_⟩
 ·unfold Va at hc;split at hc
  ·rename_i ho;intro A' Q' E' s' k q;unfold isType loadHead;exact QI (wpAny_loadPart (k _ _ (X _ _ ho)) (QK q))
  ·cases hc
 ·refine Wx.mpr λq=>?_;obtain rfl:C=tp:=abn (beq_iff_eq.mp q);unfold Va at hc;split at hc
  ·rename_i ho;have z:=(X _ _ ho).symm.trans htp;cases z
  ·cases hc
 ·exact get_class X I E.ga E.gt (by rw [yC E];simp) (Hl (by rw [hc];rfl) E.cl G.gt G.tk) (by rw [yC E];simp) k
end DX
namespace DL
open PySem PySem.Spec PyProof.Rows L2
inductive D where
 | non | bl (b:Bool) | int (i:Int) | str (x:Str) | tup (xs:List D) | lst (xs:List D) | emp
 | exn (cls:Str) (ns:List Str) (ds:List D)
  | dct (ks vs:List D)
mutual
noncomputable def isKey:D->Bool
 | .int _=>true
 | .tup xs=>areKeys xs
 | _=>false
noncomputable def areKeys:List D->Bool
 | []=>true
 | x::xs=>isKey x && areKeys xs
end
mutual
noncomputable def bP:D->Int
 | .int i=>UH i
 | .tup xs=>ZZ (R4 (cu xs))
 | _=>0
noncomputable def cu:List D->List Int
 | []=>[]
 | x::xs=>bP x::cu xs
end
mutual
noncomputable def dep:D->Nat
 | .tup xs=>deps xs + 1
 | .lst xs=>deps xs + 1
 | .emp=>5000
 | .exn _ _ _=>5000
 | .dct _ _=>5000
 | _=>0
noncomputable def deps:List D->Nat
 | []=>0
 | x::xs=>max (dep x) (deps xs)
end
structure Jb (ks:List D):Prop where
 key:areKeys ks=true
 nd:ks.Nodup
 dp:deps ks<=8
 tp:∀k∈ks,∃xs,k=.tup xs
def xw (p:Int×V×V) (e:Xc):Prop:=e.hash=p.1/\RelV p.2.1 e.key/\RelV p.2.2 e.val
abbrev jd (a:Rb) (ep:Nat) (QG:List (Int×V×V)):HO:=.ext λh=>∃o es,h.get? a=some o/\o.ExactDict/\o.data=.dict es ep/\Wt xw QG es.toList
noncomputable def XF (J:Hp) (dx:Option Rb) (ns:List Str) (vs:List V):Prop:=(dx=none/\ns=[]/\vs=[])\/∃d,dx=some d/\ns.length=vs.length/\J d=some (.xd (ns.zip vs))
theorem XF.mono {J J':Hp}(e:aL J J') (h:XF J dx ns vs):XF J' dx ns vs:=by
 rcases h with h | ⟨d,h1,h2,h3⟩
 ·exact .inl h
 ·exact .inr ⟨d,h1,h2,e _ _ h3⟩
mutual
inductive Rep (K:QJ) (J:Hp):D->V->Prop
 | non:Rep K J .non .non
 | bl (b:Bool):Rep K J (.bl b) (.bl b)
 | int (i:Int):Rep K J (.int i) (.int i)
 | str (x:Str):Rep K J (.str x) (.str x)
 | emp {a:Rb}:J a=some (.dK [])->Rep K J .emp (.ref a)
 | tup {a:Rb}{vs:List V}{ds:List D}:cC K J a vs->aD K J ds vs->Rep K J (.tup ds) (.ref a)
 | lst {a:Rb}{vs:List V}{ds:List D}:bV K J a vs->aD K J ds vs->Rep K J (.lst ds) (.ref a)
 | exn {a C:Rb}{dx:Option Rb}{cls:Str}{ns:List Str}{vs:List V}{ds:List D}:J a=some (DX.XO a C dx)->RG K Rp cls=some (some (.ref C))->XF J dx ns vs->aD K J ds vs->(∃P,DX.GX K P/\DX.XE K P C)->Rep K J (.exn cls ns ds) (.ref a)
 | dct {a:Rb}{ep:Nat}{ks vs:List D}{us ws:List V}:J a=some (jd a ep ((cu ks).zip (us.zip ws)))->aD K J ks us->aD K J vs ws->Jb ks->(a == TN)=false/\ks.length=vs.length->Rep K J (.dct ks vs) (.ref a)
inductive aD (K:QJ) (J:Hp):List D->List V->Prop
 | nil:aD K J [] []
 | cons {d:D}{v:V}{ds:List D}{vs:List V}:Rep K J d v->aD K J ds vs->aD K J (d::ds) (v::vs)
end
theorem eE {K:QJ}{H H':Hp}{a:Rb}{xs:List V}(e:aL H H') (h:cC K H a xs):cC K H' a xs:=by
 rcases h with (h | ⟨o,h⟩) | h
 ·exact .inl (.inl (e _ _ h))
 ·exact .inl (.inr ⟨o,e _ _ h⟩)
 ·exact .inr h
mutual
theorem Rep.mono {K:QJ}{J J':Hp}(e:aL J J'):∀{d:D}{v:V},Rep K J d v->Rep K J' d v
 | _,_,.non=>.non
 | _,_,.bl b=>.bl b
 | _,_,.int i=>.int i
 | _,_,.str x=>.str x
 | _,_,.emp h=>.emp (e _ _ h)
 | _,_,.tup h hs=>.tup (eE e h) (aD.mono e hs)
 | _,_,.lst h hs=>.lst (e.seq h) (aD.mono e hs)
 | _,_,.exn h1 h2 h3 hs hx=>.exn (e _ _ h1) h2 (h3.mono e) (aD.mono e hs) hx
 | _,_,.dct h h1 h2 h3 h4=>.dct (e _ _ h) (aD.mono e h1) (aD.mono e h2) h3 h4
theorem aD.mono {K:QJ}{J J':Hp}(e:aL J J'):∀{ds:List D}{vs:List V},aD K J ds vs->aD K J' ds vs
 | _,_,.nil=>.nil
 | _,_,.cons h hs=>.cons (Rep.mono e h) (aD.mono e hs)
end
section
variable {K:QJ}{J:Hp}
theorem aD.length:∀{ds:List D}{vs:List V},aD K J ds vs->ds.length=vs.length
 | _,_,.nil=>rfl
 | _,_,.cons _ hs=>congrArg (· + 1) (aD.length hs)
theorem aD.get:∀{ds:List D}{vs:List V}{i:Nat}{d:D},aD K J ds vs->ds[i]?=some d->∃v,vs[i]?=some v/\Rep K J d v
 | _,_,_,_,.nil,e=>by simp at e
 | _,_,0,_,.cons r _,e=>by simp at e;subst e;exact ⟨_,rfl,r⟩
 | _,_,i + 1,d,.cons _ t,e=>by obtain ⟨v,h1,h2⟩:=aD.get (i:=i) (d:=d) t (by simpa using e);exact ⟨v,by simpa using h1,h2⟩
theorem aD.append:∀{ds es:List D}{vs us:List V},aD K J ds vs->aD K J es us->aD K J (ds++es) (vs++us)
 | _,_,_,_,.nil,s=>s
 | _,_,_,_,.cons r t,s=>.cons r (aD.append t s)
theorem aD.take:∀{ds:List D}{vs:List V}(n:Nat),aD K J ds vs->aD K J (ds.take n) (vs.take n)
 | _,_,0,_=>.nil
 | _,_,_ + 1,.nil=>.nil
 | _,_,n + 1,.cons r t=>.cons r (aD.take n t)
theorem aD.drop:∀{ds:List D}{vs:List V}(n:Nat),aD K J ds vs->aD K J (ds.drop n) (vs.drop n)
 | _,_,0,r=>r
 | _,_,_ + 1,.nil=>.nil
 | _,_,n + 1,.cons _ t=>aD.drop n t
end
noncomputable def dG (K:QJ) (J H:Hp) (a:Rb) (ks vs:List D):Prop:=∃us ws ep,H a=some (jd a ep ((cu ks).zip (us.zip ws)))/\aD K J ks us/\aD K J vs ws/\Jb ks/\(a == TN)=false/\ks.length=vs.length
theorem dG.mono {K:QJ}{J J' H H':Hp}{a:Rb}{ks vs:List D}(e:aL J J') (e':aL H H'):dG K J H a ks vs->dG K J' H' a ks vs
 | ⟨us,ws,ep,h1,h2,h3,h4⟩=>⟨us,ws,ep,e' _ _ h1,h2.mono e,h3.mono e,h4⟩
theorem dG.ne {K:QJ}{J H:Hp}{a:Rb}{ks vs:List D}:dG K J H a ks vs->H a≠none
 | ⟨us,ws,ep,h1,_⟩=>by rw [h1];intro z;cases z
theorem dG.rep {K:QJ}{J H:Hp}{a:Rb}{ks vs:List D}(e:aL J H):dG K J H a ks vs->Rep K H (.dct ks vs) (.ref a)
 | ⟨us,ws,ep,h1,h2,h3,h4,h5⟩=>.dct h1 (h2.mono e) (h3.mono e) h4 h5
noncomputable def NR (K:QJ) (J:Hp) (P:Rb->Prop):List D->List V->Prop
 | [],vs=>vs=[]
 | x::xs,vs=>∃ds b ws us,x=.lst ds/\vs=.ref b::us/\J b=some (.lst ws)/\aD K J ds ws/\P b/\V.ref b∉us/\NR K J P xs us
theorem NR.mono {K:QJ}{J J':Hp}{P P':Rb->Prop}(e:aL J J') (k:∀b,P b->P' b):∀{xs:List D}{vs:List V},NR K J P xs vs->NR K J' P' xs vs
 | [],_,h=>h
 | _::_,_,⟨ds,b,ws,us,h1,h2,h3,h4,h5,h6,h7⟩=>⟨ds,b,ws,us,h1,h2,e _ _ h3,h4.mono e,k b h5,h6,h7.mono e k⟩
theorem NR.reps {K:QJ}{J:Hp}{P:Rb->Prop}:∀{xs:List D}{vs:List V},NR K J P xs vs->aD K J xs vs
 | [],_,h=>by cases h;exact .nil
 | _::_,_,⟨ds,b,ws,us,h1,h2,h3,h4,h5,h6,h7⟩=>by subst h1;subst h2;exact .cons (.lst (.inl (.inl h3)) h4) h7.reps
theorem NR.mem {K:QJ}{J:Hp}{P:Rb->Prop}:∀{xs:List D}{vs:List V}{u:V},NR K J P xs vs->u∈vs->∃b ws,u=.ref b/\J b=some (.lst ws)/\P b
 | [],_,_,h,m=>by cases h;cases m
 | _::_,_,_,⟨ds,b,ws,us,h1,h2,h3,h4,h5,h6,h7⟩,m=>by
  subst h2;rcases Q9.mp m with e | e
  ·exact ⟨b,ws,e,h3,h5⟩
  ·exact h7.mem e
structure Exc where
 cls:Str
 ns:List Str
 ds:List D
inductive M (α:Type) where
 | bad | ok (a:α) | exc (x:Exc)
noncomputable def M.bind {α β:Type}:M α->(α->M β)->M β
 | .bad,_=>.bad
 | .ok a,f=>f a
 | .exc x,_=>.exc x
instance:Monad M where
 pure:=M.ok
 bind:=M.bind
@[simp] theorem aK {α β:Type}(a:α) (f:α->M β):(M.ok a >>= f)=f a:=rfl
noncomputable def cA {α:Type}(m:M α) (Q:α->Prop) (T:Exc->Prop):Prop:=match m with
 | .bad=>False
 | .ok a=>Q a
 | .exc x=>T x
theorem aH {α β:Type}{m:M α}{f:α->M β}{Q:β->Prop}{T:Exc->Prop}(h:cA (m >>= f) Q T):cA m (λa=>cA (f a) Q T) T:=by
 cases m with
 | bad=>exact h
 | ok a=>exact h
 | exc x=>exact h
theorem aC {α:Type}{m:M α}{Q Q':α->Prop}{T:Exc->Prop}(h:cA m Q T) (k:∀a,Q a->Q' a):cA m Q' T:=by
 cases m with
 | bad=>exact h
 | ok a=>exact k a h
 | exc x=>exact h
inductive Md where
 | fresh | own | bor
inductive R where
 | d (x:D) | l (m:Md) (xs:List D)
  | mo (ks vs:List D) | mb (ks vs:List D) | mf (ks vs:List D)
  | ln (xs:List D)
inductive S where
 | d (x:D) | own (xs:List D) | bor (xs:List D) | dk (ks vs:List D) | db (ks vs:List D)
  | fn (x:Str)
  | ow2 (xs:List D)
abbrev Ev:=List (Option S)
inductive Mn where
 | inl (xs:List D) | inr (p:List D×List D) | nst (xs:List D)
noncomputable def mS:Mn->S
 | .inl xs=>.own xs
 | .inr p=>.dk p.1 p.2
 | .nst xs=>.ow2 xs
structure C where
 K:QJ
 H0:Hp
 J0:Hp
 T:Exc->Prop
structure HI (c:C) (J H:Hp):Prop where
 sub:aL J H
 ent:aL c.H0 H
 entJ:aL c.J0 J
 frz:∀a,c.H0 a≠none->c.J0 a=none->J a=none
structure Ext (J H J' H':Hp):Prop where
 h:aL H H'
 j:aL J J'
 sub:aL J' H'
 frz:∀a,H a≠none->J a=none->J' a=none
theorem aL.ne {H H':Hp}(e:aL H H') (h:H a≠none):H' a≠none:=by
 cases q:H a with
 | none=>exact absurd q h
 | some o=>rw [e a o q];intro z;cases z
theorem Ext.refl {J H:Hp}(h:aL J H):Ext J H J H:=⟨aL.refl H,aL.refl J,h,λ_ _ q=>q⟩
theorem Ext.trans {J H J1 H1 J2 H2:Hp}(a:Ext J H J1 H1) (b:Ext J1 H1 J2 H2):Ext J H J2 H2:=
 ⟨a.h.trans b.h,a.j.trans b.j,b.sub,λp h q=>b.frz p (aL.ne a.h h) (a.frz p h q)⟩
theorem HI.ext {J H J' H':Hp}(h:HI c J H) (e:Ext J H J' H'):HI c J' H':=
 ⟨e.sub,h.ent.trans e.h,h.entJ.trans e.j,λa h0 j0=>e.frz a (aL.ne h.ent h0) (h.frz a h0 j0)⟩
theorem bY {H:Hp}(h:H p=none) (o:HO):aL H (upd H p o):=λb u q=>by rw [aQ (eu q h)];exact q
theorem Ext.new {J H:Hp}(h:aL J H) (e:H p=none) (o:HO):Ext J H J (upd H p o):=
 ⟨bY e o,aL.refl J,λb u q=>bY e o b u (h b u q),λ_ _ q=>q⟩
theorem Ext.newJ {J H:Hp}(h:aL J H) (e:H p=none) (o:HO):Ext J H (upd J p o) (upd H p o):=
 ⟨bY e o,bY (h.free e) o,λb u q=>by
  by_cases hb:b=p
  ·subst hb;rw [bB] at q ⊢;exact q
  ·rw [aQ hb] at q ⊢;exact h b u q,λa ha q=>by
  have:a≠p:=λz=>ha (z▸e);rw [aQ this];exact q⟩
noncomputable def qD (c:C) (J H:Hp):S->V->Prop
 | .d x,v=>Rep c.K J x v
 | .own xs,v=>∃a vs,v=.ref a/\H a=some (.lst vs)/\J a=none/\c.H0 a=none/\aD c.K J xs vs
 | .bor xs,v=>∃a vs,v=.ref a/\bV c.K c.H0 a vs/\aD c.K J xs vs
 | .dk ks vs,v=>∃a,v=.ref a/\dG c.K J H a ks vs/\J a=none/\c.H0 a=none
 | .db ks vs,v=>∃a,v=.ref a/\dG c.K J c.H0 a ks vs
 | .fn x,v=>∃f,v=.ref f/\RG c.K Rp x=some (some (.ref f))
 | .ow2 xs,v=>∃a vs,v=.ref a/\H a=some (.lst vs)/\J a=none/\c.H0 a=none/\NR c.K J (λb=>c.H0 b=none/\c.J0 b=none) xs vs
theorem qD.ext {c:C}{J H J' H':Hp}(e:Ext J H J' H'):∀{x:S}{v:V},qD c J H x v->qD c J' H' x v
 | .d x,v,h=>Rep.mono e.j h
 | .own xs,v,⟨a,vs,h1,h2,h3,h4,h5⟩=>⟨a,vs,h1,e.h _ _ h2,e.frz a (by rw [h2];intro z;cases z) h3,h4,aD.mono e.j h5⟩
 | .bor xs,v,⟨a,vs,h1,h2,h3⟩=>⟨a,vs,h1,h2,aD.mono e.j h3⟩
 | .dk _ _,v,⟨a,h1,h2,h3,h4⟩=>⟨a,h1,h2.mono e.j e.h,e.frz a h2.ne h3,h4⟩
 | .db _ _,v,⟨a,h1,h2⟩=>⟨a,h1,h2.mono e.j (aL.refl _)⟩
 | .fn _,v,h=>h
 | .ow2 _,v,⟨a,vs,h1,h2,h3,h4,h5⟩=>⟨a,vs,h1,e.h _ _ h2,e.frz a (by rw [h2];intro z;cases z) h3,h4,h5.mono e.j λ_ h=>h⟩
noncomputable def gK (H:Hp) (σ:L2.St) (i:Nat):List V:=match σ[i]? with
 | some (some (.ref p))=>(match H p with
  | some (.lst vs)=>vs
  | _=>[])
 | _=>[]
theorem gM {H:Hp}{σ:L2.St}{i:Nat}{p:Rb}{vs:List V}(h:σ[i]?=some (some (.ref p))) (h2:H p=some (.lst vs)):gK H σ i=vs:=by
 unfold gK;rw [h];show (match H p with
  | some (.lst vs)=>vs
  | _=>[])=vs
 rw [h2]
noncomputable def xC (H:Hp) (σ:L2.St) (env:Ev):Prop:=∀(i j:Nat) (xs ys:List D),i≠j->env[i]?=some (some (.ow2 xs))->env[j]?=some (some (.ow2 ys))->∀u∈gK H σ i,u∉gK H σ j
theorem pH {H:Hp}{σ:L2.St}{i k:Nat}{v:Option V}(h:k≠i):gK H (σ.set i v) k=gK H σ k:=by unfold gK;rw [RB (SK h)]
theorem xC.by {H H':Hp}{σ σ':L2.St}{env env':Ev}(h:xC H σ env) (f:Nat->Nat) (hf:∀i j xs ys,i≠j->env'[i]?=some (some (.ow2 xs))->env'[j]?=some (some (.ow2 ys))->f i≠f j) (k:∀i xs,env'[i]?=some (some (.ow2 xs))->(∃xs',env[f i]?=some (some (.ow2 xs')))/\gK H' σ' i=gK H σ (f i)):xC H' σ' env':=by intro i j xs ys hij h1 h2 u hu;obtain ⟨⟨xs',k1⟩,k2⟩:=k i xs h1;obtain ⟨⟨ys',k3⟩,k4⟩:=k j ys h2;rw [k4];rw [k2] at hu;exact h (f i) (f j) xs' ys' (hf i j xs ys hij h1 h2) k1 k3 u hu
theorem xC.keep {H H':Hp}{σ σ':L2.St}{env env':Ev}(h:xC H σ env) (k:∀i xs,env'[i]?=some (some (.ow2 xs))->(∃xs',env[i]?=some (some (.ow2 xs')))/\gK H' σ' i=gK H σ i):xC H' σ' env':=h.by id (λ_ _ _ _ h _ _=>h) k
structure SR (c:C) (J H:Hp) (σ:L2.St) (env:Ev):Prop where
 hp:HI c J H
 len:env.length=σ.length
 at_:∀(i:Nat) (x:S),env[i]?=some (some x)->∃v,σ[i]?=some (some v)/\qD c J H x v
 sep:∀(i j:Nat) (xs ys:Mn) (v:V),i≠j->env[i]?=some (some (mS xs))->env[j]?=some (some (mS ys))->σ[i]?=some (some v)->σ[j]?≠some (some v)
 sp2:xC H σ env
theorem SR.nst {c:C}{J H:Hp}{σ:L2.St}{env:Ev}(h:SR c J H σ env){i:Nat}{xs:List D}(q:env[i]?=some (some (.ow2 xs))):∃p vs,σ[i]?=some (some (.ref p))/\H p=some (.lst vs)/\J p=none/\c.H0 p=none/\NR c.K J (λb=>c.H0 b=none/\c.J0 b=none) xs vs/\gK H σ i=vs:=by obtain ⟨_,h1,p,vs,rfl,h2,h3⟩:=h.at_ i _ q;exact ⟨p,vs,h1,h2,h3.1,h3.2.1,h3.2.2,gM h1 h2⟩
theorem SR.ext {J H J' H':Hp}(h:SR c J H σ env) (e:Ext J H J' H'):SR c J' H' σ env:=
 ⟨h.hp.ext e,h.len,λi x q=>let ⟨v,q1,q2⟩:=h.at_ i x q;⟨v,q1,q2.ext e⟩,h.sep,h.sp2.keep λi xs q=>⟨⟨xs,q⟩,let ⟨_,_,h1,h2,_,_,_,h3⟩:=h.nst q;h3▸gM h1 (e.h _ _ h2)⟩⟩
theorem SR.mine {c:C}{J H:Hp}{σ:L2.St}{env:Ev}(sr:SR c J H σ env){i:Nat}:∀{x:Mn},env[i]?=some (some (mS x))->∃p,σ[i]?=some (some (.ref p))/\H p≠none/\J p=none/\c.H0 p=none
 | .inl xs,h=>let ⟨_,k1,p,vs,e,k2,k3,k4,_⟩:=sr.at_ i (.own xs) h;⟨p,e▸k1,by rw [k2];exact λz=>(by cases z),k3,k4⟩
 | .inr q,h=>let ⟨_,k1,p,e,k2,k3,k4⟩:=sr.at_ i (.dk q.1 q.2) h;⟨p,e▸k1,k2.ne,k3,k4⟩
 | .nst xs,h=>let ⟨p,vs,k1,k2,k3,k4,_⟩:=sr.nst h;⟨p,k1,by rw [k2];exact λz=>(by cases z),k3,k4⟩
noncomputable def RR (c:C) (He J H:Hp):R->V->Prop
 | .d x,v=>Rep c.K J x v
 | .l .fresh xs,v=>∃a vs,v=.ref a/\H a=some (.lst vs)/\J a=none/\He a=none/\aD c.K J xs vs
 | .l .own xs,v=>∃a vs,v=.ref a/\H a=some (.lst vs)/\J a=none/\c.H0 a=none/\aD c.K J xs vs
 | .l .bor xs,v=>∃a vs,v=.ref a/\bV c.K c.H0 a vs/\aD c.K J xs vs
 | .mo ks vs,v=>∃a,v=.ref a/\dG c.K J H a ks vs/\J a=none/\c.H0 a=none
 | .mb ks vs,v=>∃a,v=.ref a/\dG c.K J c.H0 a ks vs
 | .mf ks vs,v=>∃a,v=.ref a/\dG c.K J H a ks vs/\J a=none/\He a=none
 | .ln xs,v=>∃a vs,v=.ref a/\H a=some (.lst vs)/\J a=none/\He a=none/\NR c.K J (λb=>He b=none) xs vs
theorem RR.ext {c:C}{He J H J' H':Hp}(e:Ext J H J' H'):∀{x:R}{v:V},RR c He J H x v->RR c He J' H' x v
 | .d x,v,h=>Rep.mono e.j h
 | .l .fresh xs,v,⟨a,vs,h1,h2,h3,h4,h5⟩=>⟨a,vs,h1,e.h _ _ h2,e.frz a (by rw [h2];intro z;cases z) h3,h4,aD.mono e.j h5⟩
 | .l .own xs,v,⟨a,vs,h1,h2,h3,h4,h5⟩=>⟨a,vs,h1,e.h _ _ h2,e.frz a (by rw [h2];intro z;cases z) h3,h4,aD.mono e.j h5⟩
 | .l .bor xs,v,⟨a,vs,h1,h2,h3⟩=>⟨a,vs,h1,h2,aD.mono e.j h3⟩
 | .mo _ _,v,⟨a,h1,h2,h3,h4⟩=>⟨a,h1,h2.mono e.j e.h,e.frz a h2.ne h3,h4⟩
 | .mb _ _,v,⟨a,h1,h2⟩=>⟨a,h1,h2.mono e.j (aL.refl _)⟩
 | .mf _ _,v,⟨a,h1,h2,h3,h4⟩=>⟨a,h1,h2.mono e.j e.h,e.frz a h2.ne h3,h4⟩
 | .ln _,v,⟨a,vs,h1,h2,h3,h4,h5⟩=>⟨a,vs,h1,e.h _ _ h2,e.frz a (by rw [h2];intro z;cases z) h3,h4,h5.mono e.j λ_ h=>h⟩
theorem RR.from {c:C}{He He' J H:Hp}(e:aL He He'):∀{x:R}{v:V},RR c He' J H x v->RR c He J H x v
 | .d x,v,h=>h
 | .l .fresh xs,v,⟨a,vs,h1,h2,h3,h4,h5⟩=>⟨a,vs,h1,h2,h3,e.free h4,h5⟩
 | .l .own xs,v,h=>h
 | .l .bor xs,v,h=>h
 | .mo _ _,v,h=>h
 | .mb _ _,v,h=>h
 | .mf _ _,v,⟨a,h1,h2,h3,h4⟩=>⟨a,h1,h2,h3,e.free h4⟩
 | .ln _,v,⟨a,vs,h1,h2,h3,h4,h5⟩=>⟨a,vs,h1,h2,h3,e.free h4,h5.mono (aL.refl _) λ_ h=>e.free h⟩
noncomputable def jK:R->M (List D)
 | .d (.lst xs)=>.ok xs
 | .l _ xs=>.ok xs
 | _=>.bad
noncomputable def toD:R->M D
 | .d x=>.ok x
 | .l .fresh xs=>.ok (.lst xs)
 | .mf ks vs=>.ok (.dct ks vs)
 | .ln xs=>.ok (.lst xs)
 | _=>.bad
theorem RR.list {c:C}{He J H:Hp}(hp:HI c J H):∀{r:R}{v:V}{xs:List D},RR c He J H r v->jK r=.ok xs->∃a vs,v=.ref a/\bV c.K H a vs/\aD c.K J xs vs
 | .d (.lst ys),v,xs,h,e=>by
  cases e;cases h with
  | lst h hs=>exact ⟨_,_,rfl,hp.sub.seq h,hs⟩
 | .l .fresh ys,v,xs,⟨a,vs,h1,h2,h3,h4,h5⟩,e=>by cases e;exact ⟨a,vs,h1,bV.of h2,h5⟩
 | .l .own ys,v,xs,⟨a,vs,h1,h2,h3,h4,h5⟩,e=>by cases e;exact ⟨a,vs,h1,bV.of h2,h5⟩
 | .l .bor ys,v,xs,⟨a,vs,h1,h2,h3⟩,e=>by cases e;exact ⟨a,vs,h1,hp.ent.seq h2,h3⟩
 | .d .non,_,_,_,e=>nomatch e
 | .d (.bl _),_,_,_,e=>nomatch e
 | .d (.int _),_,_,_,e=>nomatch e
 | .d (.str _),_,_,_,e=>nomatch e
 | .d (.tup _),_,_,_,e=>nomatch e
 | .d .emp,_,_,_,e=>nomatch e
 | .d (.dct _ _),_,_,_,e=>nomatch e
 | .mo _ _,_,_,_,e=>nomatch e
 | .mb _ _,_,_,_,e=>nomatch e
 | .mf _ _,_,_,_,e=>nomatch e
 | .ln _,_,_,_,e=>nomatch e
theorem pC {Je He J H:Hp}(x:Ext Je He J H) (h2:H a=some o) (h3:J a=none) (h4:He a=none):Ext Je He (upd J a o) H:=by
 refine ⟨x.h,x.j.trans (bY h3 _),λb u q=>?_,λb hb q=>?_⟩
 ·by_cases hb:b=a
  ·subst hb;rw [bB] at q;cases q;exact h2
  ·rw [aQ hb] at q;exact x.sub b u q
 ·have:b≠a:=λz=>hb (z▸h4);rw [aQ this];exact x.frz b hb q
theorem freeze {c:C}{Je He J H:Hp}(x:Ext Je He J H):∀{r:R}{v:V}{d:D},RR c He J H r v->toD r=.ok d->∃J',Ext Je He J' H/\aL J J'/\Rep c.K J' d v
 | .d y,v,d,h,e=>by cases e;exact ⟨J,x,aL.refl J,h⟩
 | .l .fresh ys,v,d,⟨a,vs,h1,h2,h3,h4,h5⟩,e=>by cases e;subst h1;exact ⟨_,pC x h2 h3 h4,bY h3 _,.lst (.inl (.inl bB)) (aD.mono (bY h3 _) h5)⟩
 | .mf ks vs,v,d,⟨a,h1,⟨us,ws,ep,h2,m1,m2,m3⟩,h3,h4⟩,e=>by cases e;subst h1;exact ⟨_,pC x h2 h3 h4,bY h3 _,.dct bB (m1.mono (bY h3 _)) (m2.mono (bY h3 _)) m3.1 m3.2⟩
 | .ln ys,v,d,⟨a,vs,h1,h2,h3,h4,h5⟩,e=>by cases e;subst h1;exact ⟨_,pC x h2 h3 h4,bY h3 _,.lst (.inl (.inl bB)) (h5.reps.mono (bY h3 _))⟩
 | .l .own _,_,_,_,e=>nomatch e
 | .l .bor _,_,_,_,e=>nomatch e
 | .mo _ _,_,_,_,e=>nomatch e
 | .mb _ _,_,_,_,e=>nomatch e
abbrev G (α:Type):=Ev->M α
def tD (c:C) (g:G R):TE:=λσ H Q=>∃J env,SR c J H σ env/\cA (g env) (λr=>∀v J' H',Ext J H J' H'->RR c H J' H' r v->Q v H') c.T
def PD (X:Cx) (c:C) (e:RA) (g:G R):Prop:=PE X e (tD c g)
def tB (c:C) (g:G Bool):TT:=λσ H Q=>∃J env,SR c J H σ env/\cA (g env) (λb=>∀J' H',Ext J H J' H'->Q b H') c.T
def PB (X:Cx) (c:C) (e:RA) (g:G Bool):Prop:=PT X e (tB c g)
noncomputable def kq (c:C) (He J H:Hp):List R->List V->Prop
 | [],vs=>vs=[]
 | r::rs,vs=>∃v us,vs=v::us/\RR c He J H r v/\kq c He J H rs us
def tA (c:C) (g:G (List R)):TA:=λσ H Q=>∃J env,SR c J H σ env/\cA (g env) (λrs=>∀vs J' H',Ext J H J' H'->kq c H J' H' rs vs->Q vs H') c.T
def F3 (X:Cx) (c:C) (es:List RA) (g:G (List R)):Prop:=PA X es (tA c g)
def NT (c:C) (g:G (List D)):TA:=λσ H Q=>∃J env,SR c J H σ env/\cA (g env) (λds=>∀vs J' H',Ext J H J' H'->aD c.K J' ds vs->Q vs H') c.T
def NJ (X:Cx) (c:C) (es:List RA) (g:G (List D)):Prop:=PA X es (NT c g)
inductive O where
 | nx (e:Ev) | rt (r:R) | bk (e:Ev) | ct (e:Ev)
noncomputable def RF (c:C) (J H:Hp):R->V->Prop
 | .d x,v=>Rep c.K J x v
 | .l _ xs,v=>∃a vs,v=.ref a/\H a=some (.lst vs)/\J a=none/\c.H0 a=none/\aD c.K J xs vs
 | .mf ks vs,v=>∃a,v=.ref a/\dG c.K J H a ks vs/\J a=none/\c.H0 a=none
 | .ln xs,v=>∃a vs,v=.ref a/\H a=some (.lst vs)/\J a=none/\c.H0 a=none/\NR c.K J (λb=>c.H0 b=none) xs vs
 | _,_=>False
noncomputable def oP (c:C) (J:Hp) (E:Ends):O->Prop
 | .nx e=>∀σ' J' H',aL J J'->SR c J' H' σ' e->E.nx σ' H'
 | .rt r=>∀v J' H',aL J J'->HI c J' H'->RF c J' H' r v->E.rt v H'
 | .bk e=>∀σ' J' H',aL J J'->SR c J' H' σ' e->E.bk σ' H'
 | .ct e=>∀σ' J' H',aL J J'->SR c J' H' σ' e->E.ct σ' H'
def tS (c:C) (g:G O):TS:=λE σ H=>∃J env,SR c J H σ env/\cA (g env) (oP c J E) c.T
def Jc (X:Cx) (c:C) (st:TJ) (g:G O):Prop:=PS X st (tS c g)
def Jd (X:Cx) (c:C) (st:List TJ) (g:G O):Prop:=iN X st (tS c g)
theorem oP.mono {c:C}{J J1:Hp}{E:Ends}(e:aL J J1):∀{o:O},oP c J E o->oP c J1 E o
 | .nx _,h=>λσ' J' H' q r=>h σ' J' H' (e.trans q) r
 | .rt _,h=>λσ' J' H' q r=>h σ' J' H' (e.trans q) r
 | .bk _,h=>λσ' J' H' q r=>h σ' J' H' (e.trans q) r
 | .ct _,h=>λσ' J' H' q r=>h σ' J' H' (e.trans q) r
def tW (c:C) (g:G O):TS:=λE σ H=>∃J env,SR c J H σ env/\cA (g env) (oP c c.J0 E) c.T
theorem BN {c:C}{g:G O}{E:Ends}{σ:L2.St}{H:Hp}(h:tW c g E σ H):tS c g E σ H:=by obtain ⟨J,env,sr,w⟩:=h;exact ⟨J,env,sr,aC w λo q=>q.mono sr.hp.entJ⟩
theorem fz {t t':TE}(h:PE X e t) (k:∀σ H Q,t' σ H Q->t σ H Q):PE X e t':=λQx s σ H Q I q=>h Qx s σ H Q I (k σ H Q q)
theorem xo (h:PT X e t) (k:∀σ H Q,t' σ H Q->t σ H Q):PT X e t':=λQx s σ H Q I q=>h Qx s σ H Q I (k σ H Q q)
theorem xm (h:PA X es t) (k:∀σ H Q,t' σ H Q->t σ H Q):PA X es t':=λpos Qx s σ H Q I q=>h pos Qx s σ H Q I (k σ H Q q)
theorem fB {st:TJ}{t t':TS}(h:PS X st t) (k:∀D σ H,t' D σ H->t D σ H):PS X st t':=λQx s σ H D I q=>h Qx s σ H D I (k D σ H q)
theorem oM {st:List TJ}{t t':TS}(h:iN X st t) (k:∀D σ H,t' D σ H->t D σ H):iN X st t':=λQx s σ H D I q=>h Qx s σ H D I (k D σ H q)
section
variable {X:Cx}{c:C}{e a b:RA}{ga gb:G R}{pos:Pos}
noncomputable def S.rd:S->M R
 | .d x=>.ok (.d x)
 | .own xs=>.ok (.l .own xs)
 | .bor xs=>.ok (.l .bor xs)
 | .dk ks vs=>.ok (.mo ks vs)
 | .db ks vs=>.ok (.mb ks vs)
 | .fn _=>.bad
 | .ow2 xs=>.ok (.l .own xs)
noncomputable def af (i:Nat):G R:=λenv=>match env[i]? with
 | some (some x)=>x.rd
 | _=>.bad
theorem Ib (h:PE X (.Name x pos) (FL i)):PD X c (.Name x pos) (af i):=fz h λσ H Q ⟨J,env,sr,w⟩=>by
 unfold af at w;cases q:env[i]? with
 | none=>rw [q] at w;exact w.elim
 | some o=>
  cases o with
  | none=>rw [q] at w;exact w.elim
  | some x=>
   rw [q] at w;obtain ⟨v,h1,h2⟩:=sr.at_ i x q;refine ⟨v,h1,?_⟩;cases x with
   | fn _=>exact w.elim
   | ow2 _=>obtain ⟨a,vs,k1,k2,k3,k4,k5⟩:=h2;exact w v J H (Ext.refl sr.hp.sub) ⟨a,vs,k1,k2,k3,k4,k5.reps⟩
   | _=>exact w v J H (Ext.refl sr.hp.sub) h2
def gC (d:D):G R:=λ_=>.ok (.d d)
theorem sX (hr:∀J,Rep c.K J d v) (h:PE X e (tC v)):PD X c e (gC d):=fz h λσ H Q ⟨J,env,sr,w⟩=>w v J H (Ext.refl sr.hp.sub) (hr J)
noncomputable def BD (c:C) (r:R2) (f:R->R->M R):Prop:=∀(He He' J H:Hp) (x y:R) (u v:V) (Q:VK),HI c J H->RR c He J H x u->RR c He' J H y v->
 cA (f x y) (λz=>∀w J' H',Ext J H J' H'->RR c H J' H' z w->Q w H') c.T->r u v H Q
def g2 (f:R->R->M R) (ga gb:G R):G R:=λenv=>ga env >>= λx=>gb env >>= λy=>f x y
theorem two {P:R->R->M R}{σ:L2.St}{H:Hp}{k:V->V->Hp->Prop}{Q:VK}{J:Hp}{env:Ev}(sr:SR c J H σ env)
  (w:cA (g2 P ga gb env) (λr=>∀v J' H',Ext J H J' H'->RR c H J' H' r v->Q v H') c.T)
  (hk:∀x y u v J2 H2,SR c J2 H2 σ env->Ext J H J2 H2->RR c H J2 H2 x u->RR c H J2 H2 y v->cA (P x y) (λz=>∀w J' H',Ext J2 H2 J' H'->RR c H2 J' H' z w->Q w H') c.T->k u v H2):
  tD c ga σ H λu H1=>tD c gb σ H1 λv H2=>k u v H2:=by refine ⟨J,env,sr,aC (aH w) λx wx u J1 H1 e1 r1=>?_⟩;have sr1:=sr.ext e1;refine ⟨J1,env,sr1,aC (aH wx) λy wy v J2 H2 e2 r2=>?_⟩;exact hk x y u v J2 H2 (sr1.ext e2) (e1.trans e2) (r1.ext e2) (RR.from e1.h r2) (aC wy λz q w J' H' e3 r3=>q w J' H' ((e1.trans e2).trans e3) (RR.from (e1.h.trans e2.h) r3))
theorem E9 {t:TE}{f:R->R->M R}(ht:PE X e t) (heq:t=AE r (tD c ga) (tD c gb)) (hf:BD c r f):PD X c e (g2 f ga gb):=by subst heq;exact fz ht λσ H Q ⟨J,env,sr,w⟩=>two (k:=λu v H2=>r u v H2 Q) sr w λx y u v J2 H2 sr2 e2 r1 r2 q=>hf H H J2 H2 x y u v Q sr2.hp r1 r2 q
theorem m9 {f:R->R->M R}(ho:c5 X (Uy op) r) (hf:BD c r f) (ha:PD X c a ga) (hb:PD X c b gb):PD X c (.BinOp a op b pos) (g2 f ga gb):=E9 (L5 ho ha hb) rfl hf
theorem oJ {f:R->R->M R}(ho:c5 X (Sx op) r) (hf:BD c r f) (ha:PD X c a ga) (hb:PD X c b gb) (hm:Sd op b=false:=by first | exact yF _ | rfl):PD X c (.Compare a [op] [b] pos) (g2 f ga gb):=E9 (Ie ho ha hb hm) rfl hf
theorem Gy {f:R->R->M R}(ho:nP X r) (hf:BD c r f) (ha:PD X c a ga) (hb:PD X c b gb) (hs:ly b:=by exact λ_ _=>rfl):PD X c (.Subscript a b pos) (g2 f ga gb):=E9 (Gz ho ha hb hs) rfl hf
theorem BD.or {r r':R2}{f f':R->R->M R}(p:R->R->Bool) (h:BD c r f) (h':BD c r' f'):BD c (λx y H Q=>r x y H Q\/r' x y H Q) (λx y=>if p x y then f x y else f' x y):=by
 intro He He' J H x y u v Q hp rx ry w;simp only at w;cases q:p x y with
 | true=>rw [q] at w;exact .inl (h He He' J H x y u v Q hp rx ry w)
 | false=>rw [q] at w;exact .inr (h' He He' J H x y u v Q hp rx ry w)
noncomputable def fI (C:Int->Int->Bool) (f:Int->Int->D):R->R->M R
 | .d (.int i),.d (.int j)=>if C i j then .ok (.d (f i j)) else .bad
 | _,_=>.bad
noncomputable def jO (f:Int->Int->D):R->R->M R
 | .d (.int i),.d (.int j)=>.ok (.d (f i j))
 | _,_=>.bad
theorem A1 {P:Int->Int->Prop}{Cb:Int->Int->Bool}{g:Int->Int->V}{f:Int->Int->D}(hC:∀i j,Cb i j=true->P i j) (hr:∀i j J,Rep c.K J (f i j) (g i j)):BD c (rI P g) (fI Cb f):=by
 intro He He' J H x y u v Q hp rx ry w;unfold fI at w;split at w
 ·cases rx;cases ry;rename_i i j;cases q:Cb i j with
  | true=>rw [q] at w;exact ⟨i,j,rfl,rfl,hC i j q,w _ J H (Ext.refl hp.sub) (hr i j J)⟩
  | false=>rw [q] at w;exact w.elim
 ·exact w.elim
theorem gq {g:Int->Int->V}{f:Int->Int->D}(hr:∀i j J,Rep c.K J (f i j) (g i j)):BD c (oR g) (jO f):=by
 intro He He' J H x y u v Q hp rx ry w;unfold jO at w;split at w
 ·cases rx;cases ry;rename_i i j;exact ⟨i,j,rfl,rfl,w _ J H (Ext.refl hp.sub) (hr i j J)⟩
 ·exact w.elim
def below (n:Nat) (j:Int):Bool:=Nat.blt j.natAbs n
theorem dJ:below n j=true↔-(n:Int) < j/\j < n:=by unfold below;rw [Nat.blt_eq];omega
def Bj (_ j:Int):Bool:=decide (0 < j) && below 1073741824 j
def JX (_ j:Int):Bool:=decide (0 < j)
def yt (i j:Int):Bool:=below 18446744073709551616 i || below 18446744073709551616 j
theorem Hx (h:yt i j=true):(-(2 ^ 64) < i/\i < 2 ^ 64)\/(-(2 ^ 64) < j/\j < 2 ^ 64):=by unfold yt at h;rw [TX] at h;exact h.imp dJ.mp dJ.mp
theorem Hw (h:Bj i j=true):0 < j/\j < 1073741824:=by unfold Bj at h;rw [QX] at h;exact ⟨of_decide_eq_true h.1,(dJ.mp h.2).2⟩
def EH (i j:Int):Bool:=decide (0<=j) && below 1000001 j && below 18446744073709551616 i
theorem Hy {i j:Int}(h:EH i j=true):0<=j/\j<=1000000/\i.natAbs < 2 ^ 64:=by unfold EH at h;rw [QX,QX] at h;have h2:=dJ.mp h.1.2;have h3:=dJ.mp h.2;exact ⟨of_decide_eq_true h.1.1,by omega,by omega⟩
abbrev uq:R->R->M R:=jO λi j=>.int (i + j)
abbrev Bb:R->R->M R:=jO λi j=>.int (i - j)
abbrev JF:R->R->M R:=fI yt λi j=>.int (i * j)
abbrev iB:R->R->M R:=fI Bj λi j=>.int (i / j)
abbrev eO:R->R->M R:=fI JX λi j=>.int (i % j)
abbrev JG:R->R->M R:=fI EH λi j=>.int (i ^ j.toNat)
noncomputable def r6:R->R->M R
 | .d (.str i),.d (.str j)=>if i.length + j.length<=sizeLine then .ok (.d (.str (i++j))) else .bad
 | _,_=>.bad
theorem ID {K:QJ}{J:Hp}{ds:List D}{vs:List V}{i:Int}{d:D}(h:aD K J ds vs) (e:jL ds i=some d):∃v,jL vs i=some v/\Rep K J d v:=by
 unfold jL at e ⊢;rw [h.length] at e;cases q:oE vs.length i with
 | none=>rw [q] at e;cases e
 | some j=>rw [q] at e;exact h.get e
theorem pS {f:List D->M R}{Q:R->Prop}{T:Exc->Prop}(w:cA (jK x >>= f) Q T):∃xs,jK x=.ok xs/\cA (f xs) Q T:=by
 cases q:jK x with
 | bad=>rw [q] at w;exact w.elim
 | ok xs=>rw [q] at w;exact ⟨xs,rfl,w⟩
 | exc z=>unfold jK at q;split at q <;> cases q
noncomputable def yq:R->Bool
 | .l .fresh _=>true
 | .l .own _=>true
 | _=>false
noncomputable def r_ (x y:R):M R:=if yq x && yq y then jK x >>= λxs=>jK y >>= λys=>if xs.length + ys.length<=sizeLine then .ok (.l .fresh (xs++ys)) else .bad else .bad
theorem RR.made {He J H:Hp}:∀{r:R}{v:V},yq r=true->RR c He J H r v->∃a vs xs,jK r=.ok xs/\v=.ref a/\H a=some (.lst vs)/\aD c.K J xs vs
 | .l .fresh xs,v,_,⟨a,vs,h1,h2,h3,h4,h5⟩=>⟨a,vs,xs,rfl,h1,h2,h5⟩
 | .l .own xs,v,_,⟨a,vs,h1,h2,h3,h4,h5⟩=>⟨a,vs,xs,rfl,h1,h2,h5⟩
 | .l .bor _,_,e,_=>nomatch e
 | .mo _ _,_,e,_=>nomatch e
 | .mb _ _,_,e,_=>nomatch e
 | .mf _ _,_,e,_=>nomatch e
 | .ln _,_,e,_=>nomatch e
 | .d _,_,e,_=>nomatch e
theorem f_ {J H:Hp}(hp:HI c J H) (e:H p=none) (h:aD c.K J xs vs):RR c H J (upd H p (.lst vs)) (.l .fresh xs) (.ref p):=
 ⟨p,vs,rfl,bB,hp.sub.free e,e,h⟩
noncomputable def CD (c:C) (r:List V->Hp->VK->Prop) (f:List R->M R):Prop:=∀(He J H:Hp) (xs:List R) (vs:List V) (Q:VK),HI c J H->kq c He J H xs vs->
 cA (f xs) (λz=>∀w J' H',Ext J H J' H'->RR c H J' H' z w->Q w H') c.T->r vs H Q
def gN (f:List R->M R) (gs:G (List R)):G R:=λenv=>gs env >>= f
theorem Bw {t:TE}{ta:TA}{r:List V->Hp->VK->Prop}{f:List R->M R}{gs:G (List R)}(ht:PE X e t) (heq:t=λσ H Q=>tA c gs σ H λvs H1=>r vs H1 Q) (hf:CD c r f):PD X c e (gN f gs):=by subst heq;refine fz ht λσ H Q ⟨J,env,sr,w⟩=>⟨J,env,sr,aC (aH w) λrs w vs J1 H1 e1 r1=>?_⟩;exact hf H J1 H1 rs vs Q (sr.hp.ext e1) r1 (aC w λz q v J' H' e2 r2=>q v J' H' (e1.trans e2) (RR.from e1.h r2))
def aE:G (List R):=λ_=>.ok []
def ao (g:G R) (gs:G (List R)):G (List R):=λenv=>g env >>= λx=>gs env >>= λxs=>.ok (x::xs)
theorem kq.from {He He' J H:Hp}(e:aL He He'):∀{xs:List R}{vs:List V},kq c He' J H xs vs->kq c He J H xs vs
 | [],_,h=>h
 | _::_,_,⟨v,us,h1,h2,h3⟩=>⟨v,us,h1,RR.from e h2,kq.from e h3⟩
theorem jT {id:String}{x:Str}{p:Pos}{es:List RA}{r:List V->Hp->VK->Prop}{f:List R->M R}{gs:G (List R)}(hc:bN X (.builtin id) r) (hf:CD c r f) (hv:RJ x=some (.builtin id)) (hm:X.mg x=none) (ha:F3 X c (e::es) gs)
  (hg:Gl X x:=by rfl) (hn:x≠"__name__":=by decide) (hdb:(x == ("__debug__":Str))=false:=by decide)
  (he:QZ (e::es) X.env=(false,eval e X.env)::QZ es X.env:=by rfl) (hpl:(SJ pos (QZ es X.env)).any (·.1)=false:=by rfl):PD X c (.Call (.Name x p) (e::es) [] pos) (gN f gs):=
 Bw (ta:=y_) (m_ hc hg hm hv ha hn hdb he hpl) rfl hf
theorem vC {r:List V->Hp->VK->Prop}{f:List R->M R}{gs:G (List R)}(hc:bN X (.type T) r) (hf:CD c r f) (hv:RJ x=some (.type T)) (hm:X.mg x=none) (ha:F3 X c (e::es) gs)
 (hg:Gl X x:=by rfl) (hn:x≠"__name__":=by decide) (hdb:(x == ("__debug__":Str))=false:=by decide)
 (he:QZ (e::es) X.env=(false,eval e X.env)::QZ es X.env:=by rfl) (hpl:(SJ pos (QZ es X.env)).any (·.1)=false:=by rfl):PD X c (.Call (.Name x p) (e::es) [] pos) (gN f gs):=
 Bw (ta:=y_) (ji hc hg hm hv ha hn hdb he hpl) rfl hf
end
section
variable {X:Cx}{c:C}{e a b:RA}{es:List RA}{ga gb g:G R}{pos:Pos}
def aU:G (List D):=λ_=>.ok []
def az (g:G R) (gs:G (List D)):G (List D):=λenv=>g env >>= λx=>toD x >>= λd=>gs env >>= λds=>.ok (d::ds)
theorem gy {α:Type}{f:D->M α}{Q:α->Prop}{T:Exc->Prop}(w:cA (toD x >>= f) Q T):∃d,toD x=.ok d/\cA (f d) Q T:=by
 cases q:toD x with
 | bad=>rw [q] at w;exact w.elim
 | ok xs=>rw [q] at w;exact ⟨xs,rfl,w⟩
 | exc z=>unfold toD at q;split at q <;> cases q
def bA (gs:G (List D)):G R:=λenv=>gs env >>= λds=>if ds.length<=sizeLine then .ok (.d (.tup ds)) else .bad
def gF (gs:G (List D)):G R:=λenv=>gs env >>= λds=>if ds.length<=sizeLine then .ok (.l .fresh ds) else .bad
theorem oV {J H:Hp}(hp:HI c J H) (e:H p=none) (h:aD c.K J xs vs):Rep c.K (upd J p (.tup vs)) (.tup xs) (.ref p):=
 .tup (.inl (.inl bB)) (h.mono (bY (hp.sub.free e) _))
noncomputable def gz:R->M (List D)
 | .d (.tup xs)=>.ok xs
 | .d (.lst xs)=>.ok xs
 | .l _ xs=>.ok xs
 | _=>.bad
theorem jC {He J H:Hp}(hp:HI c J H):∀{r:R}{v:V}{xs:List D},RR c He J H r v->gz r=.ok xs->∃a vs,v=.ref a/\(bV c.K H a vs\/cC c.K H a vs)/\aD c.K J xs vs
 | .d (.tup ys),v,xs,h,e=>by
  cases e;cases h with
  | tup h hs=>exact ⟨_,_,rfl,.inr (eE hp.sub h),hs⟩
 | .d (.lst ys),v,xs,h,e=>let ⟨a,vs,h1,h2,h3⟩:=RR.list hp h e;⟨a,vs,h1,.inl h2,h3⟩
 | .l m ys,v,xs,h,e=>let ⟨a,vs,h1,h2,h3⟩:=RR.list hp h e;⟨a,vs,h1,.inl h2,h3⟩
 | .d .non,_,_,_,e=>nomatch e
 | .d (.bl _),_,_,_,e=>nomatch e
 | .d (.int _),_,_,_,e=>nomatch e
 | .d (.str _),_,_,_,e=>nomatch e
 | .d .emp,_,_,_,e=>nomatch e
 | .d (.dct _ _),_,_,_,e=>nomatch e
theorem h_ {α:Type}{f:List D->M α}{Q:α->Prop}{T:Exc->Prop}(w:cA (gz x >>= f) Q T):∃xs,gz x=.ok xs/\cA (f xs) Q T:=by
 cases q:gz x with
 | bad=>rw [q] at w;exact w.elim
 | ok xs=>rw [q] at w;exact ⟨xs,rfl,w⟩
 | exc z=>unfold gz at q;split at q <;> cases q
noncomputable def iC:List R->M R
 | [.d (.str z)]=>if z.length<=sizeLine then .ok (.d (.int z.length)) else .bad
 | [r]=>gz r >>= λxs=>.ok (.d (.int xs.length))
 | _=>.bad
theorem kq.one {He J H:Hp}(h:kq c He J H [r] vs):∃v,vs=[v]/\RR c He J H r v:=by obtain ⟨v,us,rfl,h1,h2⟩:=h;cases h2;exact ⟨v,rfl,h1⟩
noncomputable def cH:List R->M R
 | [r]=>gz r >>= λxs=>.ok (.d (.tup xs))
 | _=>.bad
theorem zj:RJ "tuple"=some (.type "tuple"):=by decide +kernel
theorem rT:RJ "list"=some (.type "list"):=by decide +kernel
noncomputable def A_:List R->M R
 | [r]=>gz r >>= λxs=>.ok (.l .fresh xs)
 | _=>.bad
noncomputable def bH (g:G R):G Bool:=λenv=>g env >>= λr=>match r with
 | .d (.bl k)=>.ok k
 | _=>.bad
theorem jS {f:R->R->M R}(ho:c5 X (Sx op) r) (hf:BD c r f) (ha:PD X c a ga) (hb:PD X c b gb) (hm:Sd op b=false:=by first | exact yF _ | rfl):PB X c (.Compare a [op] [b] pos) (bH (g2 f ga gb)):=
 xo (Im ho ha hb hm) λσ H Q ⟨J,env,sr,w⟩=>by
  have w2:=aH w;refine two (k:=λu v H2=>r u v H2 λz H3=>∃k,z=.bl k/\Q k H3) (Q:=λz H3=>∃k,z=.bl k/\Q k H3) sr (aC w2 λr0 wr v J1 H1 e1 r1=>?_)
   λx y u v J2 H2 sr2 e2 r1 r2 q=>hf H H J2 H2 x y u v _ sr2.hp r1 r2 q
  split at wr
  ·cases r1;exact ⟨_,rfl,wr J1 H1 e1⟩
  ·exact wr.elim
def kW (g h:G Bool):G Bool:=λenv=>g env >>= λk=>if k=true then h env else .ok false
def lO (g h:G Bool):G Bool:=λenv=>g env >>= λk=>if k=true then .ok true else h env
def eX (g:G Bool):G Bool:=λenv=>g env >>= λk=>.ok (!k)
def NK (X:Cx) (c:C) (e:RA) (g:G Bool):Prop:=PW X e (tB c g)
variable {t u:G Bool}{rest:List RA}
theorem GC {X:Cx}{e:RA}{t t':TT}(h:PW X e t) (k:∀σ H Q,t' σ H Q->t σ H Q):PW X e t':=λwh Qx s σ H Q I q=>h wh Qx s σ H Q I (k σ H Q q)
noncomputable def mK (g h:G R):G R:=λenv=>g env >>= λr=>match r with
 | .d (.bl true)=>h env
 | .d (.bl false)=>.ok (.d (.bl false))
 | _=>.bad
noncomputable def qQ (g h:G R):G R:=λenv=>g env >>= λr=>match r with
 | .d (.bl false)=>h env
 | .d (.bl true)=>.ok (.d (.bl true))
 | _=>.bad
noncomputable def Gg (g:G R):G R:=λenv=>g env >>= λr=>match r with
 | .d (.bl k)=>.ok (.d (.bl (!k)))
 | _=>.bad
end
section
variable {X:Cx}{c:C}{e a b tg:RA}{es:List RA}{ga gb g:G R}{pos:Pos}{st:TJ}{rest:List TJ}{t u:G O}{tb:G Bool}
def dI:G O:=λenv=>.ok (.nx env)
noncomputable def aJ (t u:G O):G O:=λenv=>t env >>= λo=>match o with
 | .nx e=>u e
 | o=>.ok o
def jx (g:G R):G O:=λenv=>g env >>= λ_=>.ok (.nx env)
noncomputable def rF:R->M R
 | .d x=>.ok (.d x)
 | .l .fresh xs=>.ok (.l .fresh xs)
 | .l .own xs=>.ok (.l .fresh xs)
 | .l .bor _=>.bad
 | .mo ks vs=>.ok (.mf ks vs)
 | .mf ks vs=>.ok (.mf ks vs)
 | .mb _ _=>.bad
 | .ln xs=>.ok (.ln xs)
def bz (g:G R):G O:=λenv=>g env >>= λr=>rF r >>= λr=>.ok (.rt r)
theorem RR.rf {J H J1 H1:Hp}(hp:HI c J H):∀{r r':R}{v:V},RR c H J1 H1 r v->rF r=.ok r'->RF c J1 H1 r' v
 | .d x,r',v,h,e=>by cases e;exact h
 | .l .fresh xs,r',v,⟨a,vs,h1,h2,h3,h4,h5⟩,e=>by cases e;exact ⟨a,vs,h1,h2,h3,hp.ent.free h4,h5⟩
 | .l .own xs,r',v,⟨a,vs,h1,h2,h3,h4,h5⟩,e=>by cases e;exact ⟨a,vs,h1,h2,h3,h4,h5⟩
 | .l .bor _,_,_,_,e=>nomatch e
 | .mo _ _,_,v,⟨a,h1,h2,h3,h4⟩,e=>by cases e;exact ⟨a,h1,h2,h3,h4⟩
 | .mb _ _,_,_,_,e=>nomatch e
 | .mf _ _,_,v,⟨a,h1,h2,h3,h4⟩,e=>by cases e;exact ⟨a,h1,h2,h3,hp.ent.free h4⟩
 | .ln _,_,v,⟨a,vs,h1,h2,h3,h4,h5⟩,e=>by cases e;exact ⟨a,vs,h1,h2,h3,hp.ent.free h4,h5.mono (aL.refl _) λ_ h=>hp.ent.free h⟩
def bS (b:G Bool) (t u:G O):G O:=λenv=>b env >>= λk=>if k=true then t env else u env
noncomputable def toS:R->M S
 | .d x=>.ok (.d x)
 | .l .fresh xs=>.ok (.own xs)
 | .l .bor xs=>.ok (.bor xs)
 | .l .own _=>.bad
 | .mb ks vs=>.ok (.db ks vs)
 | .mf ks vs=>.ok (.dk ks vs)
 | .mo _ _=>.bad
 | .ln xs=>.ok (.ow2 xs)
theorem cM {α:Type}{l:List (Option α)}{i j:Nat}{x y:α}(h:(l.set i (some x))[j]?=some (some y)):(j=i/\i < l.length/\y=x)\/(j≠i/\l[j]?=some (some y)):=by
 by_cases e:j=i
 ·subst e;have hj:j < l.length:=by have:=(Ri.mp h).1;simpa using this
  rw [R7 hj] at h;cases h;exact .inl ⟨rfl,hj,rfl⟩
 ·rw [RB (SK e)] at h;exact .inr ⟨e,h⟩
theorem SR.setD {J H:Hp}{σ:L2.St}{env:Ev}(sr:SR c J H σ env){i:Nat}{x:S}{v:V}(h:qD c J H x v) (hx:∀xs,x≠mS xs):SR c J H (σ.set i (some v)) (env.set i (some x)):=by
 refine ⟨sr.hp,by simpa using sr.len,λj y q=>?_,λj k xs ys w hjk q1 q2 q3 q4=>?_,sr.sp2.keep λk xs q=>?_⟩
 ·rcases cM q with ⟨rfl,hl,rfl⟩ | ⟨hj,q⟩
  ·exact ⟨v,by rw [R7 (by rw [<-sr.len];exact hl)],h⟩
  ·obtain ⟨w,h1,h2⟩:=sr.at_ j y q;exact ⟨w,by rw [RB (SK hj)];exact h1,h2⟩
 ·rcases cM q1 with ⟨rfl,hl,e⟩ | ⟨hj,q1⟩
  ·exact hx xs e.symm
  ·rcases cM q2 with ⟨rfl,hl,e⟩ | ⟨hk,q2⟩
   ·exact hx ys e.symm
   ·rw [RB (SK hj)] at q3;rw [RB (SK hk)] at q4;exact sr.sep j k xs ys w hjk q1 q2 q3 q4
 ·rcases cM q with ⟨_,_,e⟩ | ⟨hk,q⟩
  ·exact (hx (.nst xs) e.symm).elim
  ·exact ⟨⟨xs,q⟩,pH hk⟩
theorem SR.setM {J He:Hp}{σ:L2.St}{env:Ev}(sr:SR c J He σ env){J1 H1:Hp}(e1:Ext J He J1 H1){i:Nat}{y:Mn}{p:Rb}(h3:He p=none) (h:qD c J1 H1 (mS y) (.ref p)) (hn:∀xs,y=.nst xs->∀vs,H1 p=some (.lst vs)->∀u∈vs,∃b,u=.ref b/\He b=none:=by exact λ_ z=>nomatch z):SR c J1 H1 (σ.set i (some (.ref p))) (env.set i (some (mS y))):=by
 have sr1:=sr.ext e1;have old:∀(j:Nat) (ys:Mn),env[j]?=some (some (mS ys))->σ[j]?≠some (some (.ref p)):=λj ys qj z=>by obtain ⟨a,k1,k2,_⟩:=sr.mine qj;rw [z] at k1;cases k1;exact k2 h3
 have new:∀(j:Nat) (xs ys:List D),i < env.length->j≠i->mS y=.ow2 xs->env[j]?=some (some (.ow2 ys))->∀u∈gK H1 (σ.set i (some (.ref p))) i,u∉gK H1 (σ.set i (some (.ref p))) j:=λj xs ys hl hj e q u hu hv=>by
  have hy:y=.nst xs:=by cases y <;> cases e;rfl
  subst hy;obtain ⟨_,vs,rfl',k2,_⟩:=h;cases rfl';rw [gM (R7 (by rw [<-sr.len];exact hl)) k2] at hu;obtain ⟨b,rfl,hb⟩:=hn xs rfl vs k2 u hu;obtain ⟨p',ws,m1,m2,_,_,m3,m4⟩:=sr.nst q;rw [pH hj,gM m1 (e1.h _ _ m2)] at hv;obtain ⟨b',_,e',m5,_⟩:=m3.mem hv;cases e';rw [sr.hp.sub _ _ m5] at hb;cases hb
 refine ⟨sr1.hp,by simpa using sr.len,λj y q=>?_,λj k ys zs w hjk q1 q2 q3 q4=>?_,λj k ys zs hjk q1 q2 u hu=>?_⟩
 ·rcases cM q with ⟨rfl,hl,rfl⟩ | ⟨hj,q⟩
  ·exact ⟨.ref p,by rw [R7 (by rw [<-sr.len];exact hl)],h⟩
  ·obtain ⟨w,k1,k2⟩:=sr1.at_ j y q;exact ⟨w,by rw [RB (SK hj)];exact k1,k2⟩
 ·rcases cM q1 with ⟨rfl,hl,e⟩ | ⟨hj,q1'⟩
  ·rcases cM q2 with ⟨rfl,_,_⟩ | ⟨hk,q2⟩
   ·exact hjk rfl
   ·rw [R7 (by rw [<-sr.len];exact hl)] at q3;cases q3;rw [RB (SK hk)] at q4;exact old k zs q2 q4
  ·rw [RB (SK hj)] at q3;rcases cM q2 with ⟨rfl,hl,e⟩ | ⟨hk,q2⟩
   ·rw [R7 (by rw [<-sr.len];exact hl)] at q4;cases q4;exact old j ys q1' q3
   ·rw [RB (SK hk)] at q4;exact sr.sep j k ys zs w hjk q1' q2 q3 q4
 ·rcases cM q1 with ⟨rfl,hl,e⟩ | ⟨hj,q1'⟩
  ·rcases cM q2 with ⟨rfl,_,_⟩ | ⟨hk,q2⟩
   ·exact (hjk rfl).elim
   ·exact new k ys zs hl hk e.symm q2 u hu
  ·rcases cM q2 with ⟨rfl,hl,e⟩ | ⟨hk,q2⟩
   ·exact λhv=>new j zs ys hl hj e.symm q1' u hv hu
   ·rw [pH hj] at hu;rw [pH hk];exact sr1.sp2 j k ys zs hjk q1' q2 u hu
theorem SR.set {J He:Hp}{σ:L2.St}{env:Ev}(sr:SR c J He σ env){J1 H1:Hp}(e1:Ext J He J1 H1) (h:RR c He J1 H1 r v) (q:toS r=.ok x):SR c J1 H1 (σ.set i (some v)) (env.set i (some x)):=by
 have sr1:=sr.ext e1;cases r with
 | d y=>cases q;exact sr1.setD h (λx z=>by cases x <;> cases z)
 | mb _ _=>cases q;exact sr1.setD h (λx z=>by cases x <;> cases z)
 | mf ks vs=>cases q;obtain ⟨p,rfl,h1,h2,h3⟩:=h;exact sr.setM (y:=.inr (ks,vs)) e1 h3 ⟨p,rfl,h1,h2,sr.hp.ent.free h3⟩
 | mo _ _=>cases q
 | ln xs=>
  cases q;obtain ⟨p,vs,rfl,h1,h2,h3,h4⟩:=h;refine sr.setM (y:=.nst xs) e1 h3 ⟨p,vs,rfl,h1,h2,sr.hp.ent.free h3,h4.mono (aL.refl _) λb hb=>⟨sr.hp.ent.free hb,sr.hp.entJ.free (sr.hp.sub.free hb)⟩⟩ λ_ _ ws q u hu=>?_;rw [h1] at q;cases q;obtain ⟨b,_,e,_,hb⟩:=h4.mem hu;exact ⟨b,e,hb⟩
 | l m xs=>
  cases m with
  | own=>cases q
  | bor=>cases q;exact sr1.setD h (λx z=>by cases x <;> cases z)
  | fresh=>
   cases q;obtain ⟨p,vs,rfl,h1,h2,h3,h4⟩:=h;exact sr.setM (y:=.inl xs) e1 h3 ⟨p,vs,rfl,h1,h2,sr.hp.ent.free h3,h4⟩
theorem uN {α:Type}{f:S->M α}{Q:α->Prop}{T:Exc->Prop}(w:cA (toS x >>= f) Q T):∃d,toS x=.ok d/\cA (f d) Q T:=by
 cases q:toS x with
 | bad=>rw [q] at w;exact w.elim
 | ok xs=>rw [q] at w;exact ⟨xs,rfl,w⟩
 | exc z=>unfold toS at q;split at q <;> cases q
def bh (i:Nat) (g:G R):G O:=λenv=>g env >>= λr=>toS r >>= λx=>.ok (.nx (env.set i (some x)))
abbrev GT:=D->Ev->M Ev
def KO (env:Ev) (σ:L2.St) (e:Ev) (σ':L2.St):Prop:=∀(j:Nat) (xs:Mn),e[j]?=some (some (mS xs))->env[j]?=some (some (mS xs))/\σ'[j]?=σ[j]?
theorem KO.refl:KO env σ env σ:=λ_ _ h=>⟨h,rfl⟩
theorem KO.trans (a:KO env σ e1 s1) (b:KO e1 s1 e2 s2):KO env σ e2 s2:=λj xs h=>by obtain ⟨h1,h2⟩:=b j xs h;obtain ⟨h3,h4⟩:=a j xs h1;exact ⟨h3,h2.trans h4⟩
def tT (c:C) (g:GT):TG:=λv σ H Q=>∃J env d,SR c J H σ env/\Rep c.K J d v/\cA (g d env) (λe=>∀σ',SR c J H σ' e->KO env σ e σ'->Q σ' H) c.T
def B5 (X:Cx) (c:C) (tg:RA) (g:GT):Prop:=PG X tg (tT c g)
abbrev rB:=List D->Ev->M Ev
def NY (c:C) (g:rB):uW:=λvs σ H Q=>∃J env ds,SR c J H σ env/\aD c.K J ds vs/\cA (g ds env) (λe=>∀σ',SR c J H σ' e->KO env σ e σ'->Q σ' H) c.T
def MX (X:Cx) (c:C) (tgs:List RA) (g:rB):Prop:=xA X tgs (NY c g)
theorem GA {t t':TG}(h:PG X e t) (k:∀v σ H Q,t' v σ H Q->t v σ H Q):PG X e t':=λQx s σ H v u Q I r q=>h Qx s σ H v u Q I r (k v σ H Q q)
theorem Dt {X:Cx}{e:List RA}{t t':uW}(h:xA X e t) (k:∀v σ H Q,t' v σ H Q->t v σ H Q):xA X e t':=λQx s σ H vs us Q I r q=>h Qx s σ H vs us Q I r (k vs σ H Q q)
def aA (i:Nat):GT:=λd env=>.ok (env.set i (some (.d d)))
noncomputable def eF:rB:=λds env=>match ds with
 | []=>.ok env
 | _=>.bad
noncomputable def bD (t:GT) (u:rB):rB:=λds env=>match ds with
 | d::r=>t d env >>= λe=>u r e
 | []=>.bad
noncomputable def dU (n:Nat) (u:rB):GT:=λd env=>match d with
 | .tup ds=>if ds.length=n then u ds env else .bad
 | _=>.bad
def kX (t:GT) (g:G R):G O:=λenv=>g env >>= λr=>toD r >>= λd=>t d env >>= λe=>.ok (.nx e)
theorem HY {t:GT}(h:PD X c e g) (ht:B5 X c tg t)
  (hq:PS X (.Assign [tg] e pos) (FJ (tD c g) (tT c t))):Jc X c (.Assign [tg] e pos) (kX t g):=fB hq λE σ H ⟨J,env,sr,w⟩=>by refine ⟨J,env,sr,aC (aH w) λr wr v J1 H1 e1 r1=>?_⟩;obtain ⟨d,q,wr⟩:=gy wr;obtain ⟨J1',e1',s1,rd⟩:=freeze e1 r1 q;refine ⟨J1',env,d,sr.ext e1',rd,aC (aH wr) λe2 w2 σ' sr' _=>?_⟩;exact w2 σ' J1' H1 e1'.j sr'
noncomputable def Walk (c:C) (It:It) (ds:List D) (J1:Hp) (U:Hp->Hp->Prop):Prop:=∀(i:Nat) (J H:Hp),HI c J H->U J H->
 (ds.length<=i->It.stop i H)/\∀d,ds[i]?=some d->It.go i H/\∀x H2,It.yld i H x H2->∃J2,Ext J H J2 H2/\Rep c.K J2 d x
noncomputable def tI (c:C) (g:G (List D)):TI:=λσ H Q=>∃J env,SR c J H σ env/\cA (g env) (λds=>∀It J1 H1,Ext J H J1 H1->Walk c It ds J1 (λJ' _=>aL J1 J')->Q It H1) c.T
def MF (X:Cx) (c:C) (tg QC:RA) (g:G (List D)):Prop:=PI X tg QC (tI c g)
theorem sZ {X:Cx}{tg it:RA}{t t':TI}(h:PI X tg it t) (k:∀σ H Q,t' σ H Q->t σ H Q):PI X tg it t':=λQx s σ H Q I q=>h Qx s σ H Q I (k σ H Q q)
noncomputable def fq (t:GT) (u:G O):List D->Ev->M O
 | [],env=>.ok (.nx env)
 | d::ds,env=>t d env >>= λe=>u e >>= λo=>match o with
  | .nx e=>fq t u ds e
  | .ct e=>fq t u ds e
  | .bk e=>.ok (.nx e)
  | .rt r=>.ok (.rt r)
def eW (g:G (List D)) (t:GT) (u:G O):G O:=λenv=>g env >>= λds=>fq t u ds env
noncomputable def N3 (g:G R):G (List D):=λenv=>g env >>= λr=>match r with
 | .d (.tup xs)=>.ok xs
 | _=>.bad
theorem pe {J1:Hp}{a:Rb}{vs:List V}{ds:List D}(h:bV c.K J1 a vs\/bV c.K c.H0 a vs) (hs:aD c.K J1 ds vs):Walk c (FT c.K a) ds J1 (λJ' _=>aL J1 J'):=by intro i J H hp u;have h':bV c.K H a vs:=h.elim (λh=>hp.sub.seq (u.seq h)) λh=>hp.ent.seq h;refine ⟨λhl=>⟨vs,h',by rw [<-hs.length];exact hl⟩,λd hd=>?_⟩;obtain ⟨v,h1,h2⟩:=hs.get hd;refine ⟨⟨vs,v,h',h1⟩,λx H2 ⟨e,hy⟩=>?_⟩;subst e;have:=hy vs h';rw [h1] at this;cases this;exact ⟨J,Ext.refl hp.sub,h2.mono u⟩
def eS (lo:Int) (n:Nat):List D:=(QS n).map λ(k:Nat)=>.int (lo + (k:Int))
theorem BS {J1:Hp}{lo:Int}{n:Nat}{Ut:Hp->Hp->Prop}:Walk c (FU lo n) (eS lo n) J1 Ut:=by
 intro i J H hp u;refine ⟨λhl=>(show n<=i by simpa [eS] using hl),λd hd=>?_⟩;have hi:i < n:=by have:=(Ri.mp hd).1;simpa [eS] using this
 have hd':d=.int (lo + i):=by unfold eS at hd;rw [Rc,UU hi] at hd;exact (RY hd).symm
 subst hd';exact ⟨hi,λx H2 ⟨e,hx⟩=>by subst e hx;exact ⟨J,Ext.refl hp.sub,.int _⟩⟩
noncomputable def bT (gs:G (List R)):G (List D):=λenv=>gs env >>= λrs=>match rs with
 | [.d (.int j)]=>if below 4611686018427387904 j then .ok (eS 0 j.toNat) else .bad
 | _=>.bad
noncomputable def NV (c:C) (g:G (List D)):TI:=λσ H Q=>∃J env,SR c J H σ env/\cA (g env) (λds=>∀It J1 H1,Ext J H J1 H1->Walk c It ds J1 (λJ' H'=>aL J1 J'/\aL H1 H')->Q It H1) c.T
def ME (X:Cx) (c:C) (tg QC:RA) (g:G (List D)):Prop:=PI X tg QC (NV c g)
end
section
variable {X:Cx}{c:C}{e a b tg:RA}{es:List RA}{ga gb g:G R}{pos:Pos}
theorem SR.updM {J H:Hp}{σ:L2.St}{env:Ev}(sr:SR c J H σ env){i:Nat}{x y:Mn}{p:Rb}{o:HO}(hi:env[i]?=some (some (mS x))) (hs:σ[i]?=some (some (.ref p))) (hJ:J p=none) (h0:c.H0 p=none)
  (h:qD c J (L2.upd H p o) (mS y) (.ref p)) (hy:∀xs,y≠.nst xs:=by exact λ_ z=>nomatch z):SR c J (L2.upd H p o) σ (env.set i (some (mS y))):=by
 refine ⟨⟨λb o q=>?_,λb o q=>?_,sr.hp.entJ,sr.hp.frz⟩,by simpa using sr.len,λj y q=>?_,λj k ys zs w hjk q1 q2 q3 q4=>?_,sr.sp2.keep λk xs q=>?_⟩
 ·have:b≠p:=λz=>by rw [z,hJ] at q;cases q
  rw [aQ this];exact sr.hp.sub b o q
 ·have:b≠p:=λz=>by rw [z,h0] at q;cases q
  rw [aQ this];exact sr.hp.ent b o q
 ·rcases cM q with ⟨rfl,hl,rfl⟩ | ⟨hj,q⟩
  ·exact ⟨.ref p,hs,h⟩
  ·obtain ⟨w,k1,k2⟩:=sr.at_ j y q;refine ⟨w,k1,?_⟩;have hne:∀(z:Mn) p',y=mS z->w=.ref p'->p'≠p:=λz p' e ew ep=>sr.sep i j x z (.ref p) (SK hj) hi (e▸q) hs (ep▸ew▸k1);cases y with
   | d x=>exact k2
   | bor zs=>exact k2
   | db _ _=>exact k2
   | fn _=>exact k2
   | dk ks zs=>
    obtain ⟨p',rfl,⟨us,ws,ep,m1,mr⟩,m2⟩:=k2;exact ⟨p',rfl,⟨us,ws,ep,by rw [aQ (hne (.inr (ks,zs)) p' rfl rfl)];exact m1,mr⟩,m2⟩
   | own zs=>
    obtain ⟨p',us,rfl,m1,m2,m3,m4⟩:=k2;exact ⟨p',us,rfl,by rw [aQ (hne (.inl zs) p' rfl rfl)];exact m1,m2,m3,m4⟩
   | ow2 zs=>
    obtain ⟨p',us,rfl,m1,m2,m3,m4⟩:=k2;exact ⟨p',us,rfl,by rw [aQ (hne (.nst zs) p' rfl rfl)];exact m1,m2,m3,m4⟩
 ·have f:∀(k:Nat) (ys:Mn),(env.set i (some (mS y)))[k]?=some (some (mS ys))->∃ys',env[k]?=some (some (mS ys')):=λk ys q=>by
   rcases cM q with ⟨rfl,_,_⟩ | ⟨_,q⟩
   ·exact ⟨x,hi⟩
   ·exact ⟨ys,q⟩
  obtain ⟨ys',r1⟩:=f j ys q1;obtain ⟨zs',r2⟩:=f k zs q2;exact sr.sep j k ys' zs' w hjk r1 r2 q3 q4
 ·rcases cM q with ⟨rfl,_,e⟩ | ⟨hk,q⟩
  ·exact (hy xs (by cases y <;> cases e;rfl)).elim
  ·obtain ⟨p',vs,m1,m2,_,_,_,m3⟩:=sr.nst q;have hne:p'≠p:=λe=>sr.sep i k x (.nst xs) (.ref p) (SK hk) hi q hs (e▸m1);exact ⟨⟨xs,q⟩,(gM m1 (by rw [aQ hne];exact m2)).trans m3.symm⟩
theorem SR.upd {J H:Hp}{env:Ev}(sr:SR c J H σ env) (hi:env[i]?=some (some (.own xs))) (hs:σ[i]?=some (some (.ref p))) (hH:H p=some (.lst vs)) (hJ:J p=none) (h0:c.H0 p=none)
 (h:aD c.K J xs' vs'):SR c J (L2.upd H p (.lst vs')) σ (env.set i (some (.own xs'))):=sr.updM (x:=.inl xs) (y:=.inl xs') hi hs hJ h0 ⟨p,vs',rfl,bB,hJ,h0,h⟩
noncomputable def mL (i:Nat) (g:G R):G O:=λenv=>match env[i]? with
 | some (some (.own xs))=>g env >>= λr=>toD r >>= λd=>if xs.length < sizeLine then .ok (.nx (env.set i (some (.own (xs++[d]))))) else .bad
 | _=>.bad
noncomputable def gc:R->S
 | .d x=>.d x
 | .l _ xs=>.bor xs
 | .mo ks vs=>.db ks vs
 | .mb ks vs=>.db ks vs
 | .mf ks vs=>.db ks vs
 | .ln xs=>.bor xs
noncomputable def kR (K:QJ) (J H:Hp):List S->List V->Prop
 | [],vs=>vs=[]
 | s::ss,vs=>∃v us,vs=v::us/\(match s with
  | .d x=>Rep K J x v
  | .bor xs=>∃a ws,v=.ref a/\bV K H a ws/\aD K J xs ws
  | .db ks ws=>∃a,v=.ref a/\dG K J H a ks ws
  | .fn x=>∃f,v=.ref f/\RG K Rp x=some (some (.ref f))
  | _=>False)/\kR K J H ss us
theorem kR.length {K:QJ}{J H:Hp}:∀{ss:List S}{vs:List V},kR K J H ss vs->vs.length=ss.length
 | [],_,h=>by cases h;rfl
 | _::_,_,⟨_,_,h,_,h2⟩=>by subst h;exact congrArg (· + 1) h2.length
theorem kR.get {K:QJ}{J H:Hp}:∀{ss:List S}{vs:List V}{i:Nat}{s:S},kR K J H ss vs->ss[i]?=some s->∃v,vs[i]?=some v/\(match s with
  | .d x=>Rep K J x v
  | .bor xs=>∃a ws,v=.ref a/\bV K H a ws/\aD K J xs ws
  | .db ks ws=>∃a,v=.ref a/\dG K J H a ks ws
  | .fn x=>∃f,v=.ref f/\RG K Rp x=some (some (.ref f))
  | _=>False)
 | [],_,_,_,_,e=>by simp at e
 | _::_,_,0,_,⟨v,us,h,h1,h2⟩,e=>by simp at e;subst e;subst h;exact ⟨v,rfl,h1⟩
 | _::_,_,i + 1,s,⟨v,us,h,h1,h2⟩,e=>by subst h;obtain ⟨v,k1,k2⟩:=kR.get (i:=i) (s:=s) h2 (by simpa using e);exact ⟨v,by simpa using k1,k2⟩
noncomputable def FR (K:QJ) (H J' H':Hp):R->V->Prop
 | .d x,v=>Rep K J' x v
 | .l _ xs,v=>∃a vs,v=.ref a/\H' a=some (.lst vs)/\J' a=none/\H a=none/\aD K J' xs vs
 | .mf ks vs,v=>∃a,v=.ref a/\dG K J' H' a ks vs/\J' a=none/\H a=none
 | .ln xs,v=>∃a vs,v=.ref a/\H' a=some (.lst vs)/\J' a=none/\H a=none/\NR K J' (λb=>H b=none) xs vs
 | _,_=>False
noncomputable def o8 (K:QJ) (n:Nat) (F:List S->M R):Sp:=λvs H Q _=>∃J as,aL J H/\as.length=n/\kR K J H as vs/\cA (F as) (λr=>∀v J' H',Ext J H J' H'->FR K H J' H' r v->Q v H') (λ_=>False)
noncomputable def fin:M O->M R
 | .ok (.rt r)=>.ok r
 | .ok (.nx _)=>.ok (.d .non)
 | .exc x=>.exc x
 | _=>.bad
def aW (N:List Str) (as:List S):Ev:=as.map some++RS (N.length - as.length) none
theorem vW {N:List Str}{as:List S}{i:Nat}{x:S}(h:(aW N as)[i]?=some (some x)):as[i]?=some x:=by
 unfold aW at h;by_cases hi:i < as.length
 ·rw [SV (by simpa using hi),Rc] at h;cases q:as[i]? with
  | none=>rw [q] at h;cases h
  | some y=>rw [q] at h;cases h;rfl
 ·rw [Sh (by simpa using hi),U7] at h;split at h <;> cases h
theorem FI {N:List Str}{vs:List V}{i:Nat}{v:V}(h:vs[i]?=some v):(L2.start N vs)[i]?=some (some v):=by unfold L2.start;have hi:i < vs.length:=(Ri.mp h).1;rw [SV (by simpa using hi),Rc,h];rfl
theorem FH {K:QJ}{J H:Hp}{T:Exc->Prop}{N:List Str}{as:List S}{vs:List V}(hs:aL J H) (h:kR K J H as vs):SR ⟨K,H,J,T⟩ J H (L2.start N vs) (aW N as):=by
 have own:∀(i:Nat) (xs:Mn),(aW N as)[i]?≠some (some (mS xs)):=λi xs q=>by obtain ⟨v,_,k⟩:=h.get (vW q);cases xs <;> exact k
 refine ⟨⟨hs,aL.refl H,aL.refl J,λ_ _ q=>q⟩,?_,λi x q=>?_,λi j xs ys v _ q=>absurd q (own i xs),λi j xs ys _ q=>absurd q (own i (.nst xs))⟩
 ·unfold aW L2.start;rw [Rj,Rj,QN,QN,Sq,Sq,h.length]
 ·obtain ⟨v,k1,k2⟩:=h.get (vW q);refine ⟨v,FI k1,?_⟩;cases x with
  | d y=>exact k2
  | own y=>exact k2.elim
  | bor y=>exact k2
  | dk _ _=>exact k2.elim
  | db _ _=>exact k2
  | fn _=>exact k2
  | ow2 _=>exact k2.elim
abbrev CF (P:Ra) (w:Rz) (K:QJ) (mg:Str->Option QL) (base:Sn) (N:List Str) (QE:Str) (sc:Um) (f:Rb) (cd:QL) (A:RC) (outer:List Env) (s:QM) (H:Hp) (E:XK):Cx:=(qJ ny P w K mg base N QE sc f cd A outer s H E).nox
theorem CJ {P:Ra}{w:Rz}{K:QJ}{mg:Str->Option QL}{base:Sn}{x QE:Str}{st:TJ}{f:Rb}{fd:Ry}{N ps:List Str}{k:Nat}{Fm:List S->M R}(F:nA K x QE st f fd) (Sc:gm N ps (bu st)){gB:G O}
  (hb:∀(cdv:QL) (A:RC) (outer:List Env) (s:QM) (H:Hp) (E:XK) (J:Hp) (T:Exc->Prop),dg k (A.deeper (Ww QE (bu st) s.heap.objs.size f cdv))->
   iN (CF P w K mg base N QE (bu st) f cdv A outer s H E) (cP st) (tW ⟨K,H,J,T⟩ gB))
  (hF:∀as r,as.length=ps.length->Fm as=.ok r->fin (gB (aW N as))=.ok r):iQ P w K mg base ny (k + 1) f fd ps (o8 K ps.length Fm):=by
 refine F.ok Sc (λvs H Q E h=>?_) (λcdv A outer s H vs Q E hr h=>?_)
 ·obtain ⟨J,as,h1,h2,h3,h4⟩:=h;rw [h3.length,h2]
 ·obtain ⟨J,as,h1,h2,h3,h4⟩:=h;refine ⟨_,hb cdv A outer s H E J (λ_=>False) hr,J,aW N as,FH h1 h3,?_⟩;cases q:Fm as with
  | bad=>rw [q] at h4;exact h4.elim
  | exc x=>rw [q] at h4;exact h4.elim
  | ok r=>
   rw [q] at h4;have z:=hF as r h2 q;have ext:∀{J' H':Hp},HI ⟨K,H,J,λ_=>False⟩ J' H'->Ext J H J' H':=λhp=>⟨hp.ent,hp.entJ,hp.sub,hp.frz⟩;cases qg:gB (aW N as) with
   | bad=>rw [qg] at z;cases z
   | exc x=>rw [qg] at z;cases z
   | ok o=>
    rw [qg] at z;cases o with
    | bk _=>cases z
    | ct _=>cases z
    | nx env=>cases z;exact λσ' J' H' _ sr=>h4 .non J' H' (ext sr.hp) .non
    | rt r'=>
     cases z;exact λv J' H' _ hp rf=>h4 v J' H' (ext hp) (by
      cases r with
      | d x=>exact rf
      | l m xs=>exact rf
      | mo _ _=>exact rf
      | mf _ _=>exact rf
      | ln _=>exact rf
      | mb _ _=>exact rf)
theorem JH {P:Ra}{w:Rz}{K:QJ}{mg:Str->Option QL}{base:Sn}{x QE:Str}{st:TJ}{f:Rb}{fd:Ry}{N ps:List Str}{k:Nat}{Fm:List S->M R}(F:nA K x QE st f fd) (Sc:gm N ps (bu st)){gB:G O}
  (hb:∀(cdv:QL) (A:RC) (outer:List Env) (s:QM) (H:Hp) (E:XK) (J:Hp) (T:Exc->Prop),dg k (A.deeper (Ww QE (bu st) s.heap.objs.size f cdv))->
   Jd (CF P w K mg base N QE (bu st) f cdv A outer s H E) ⟨K,H,J,T⟩ (cP st) gB)
  (hF:∀as r,as.length=ps.length->Fm as=.ok r->fin (gB (aW N as))=.ok r):iQ P w K mg base ny (k + 1) f fd ps (o8 K ps.length Fm):=CJ F Sc (λcdv A outer s H E J T hr=>oM (hb cdv A outer s H E J T hr) λ_ _ _ q=>BN q) hF
noncomputable def lM:R->R
 | .d x=>.d x
 | .l _ xs=>.l .fresh xs
 | .mo ks vs=>.mo ks vs
 | .mb ks vs=>.mb ks vs
 | .mf ks vs=>.mf ks vs
 | .ln xs=>.ln xs
noncomputable def aS (n:Nat) (F:List S->M R):List R->M R:=λrs=>if rs.length=n then (match F (rs.map gc) with
 | .ok r=>.ok (lM r)
 | _=>.bad) else .bad
theorem kq.args {He J H:Hp}(hp:HI c J H):∀{rs:List R}{vs:List V},kq c He J H rs vs->kR c.K J H (rs.map gc) vs
 | [],_,h=>h
 | r::rs,_,⟨v,us,h,h1,h2⟩=>by
  refine ⟨v,us,h,?_,kq.args hp h2⟩;cases r with
  | d x=>exact h1
  | l m xs=>exact RR.list hp h1 rfl
  | mo _ _=>obtain ⟨a,h1,h2,_⟩:=h1;exact ⟨a,h1,h2⟩
  | mb _ _=>obtain ⟨a,h1,h2⟩:=h1;exact ⟨a,h1,h2.mono (aL.refl _) hp.ent⟩
  | mf _ _=>obtain ⟨a,h1,h2,_⟩:=h1;exact ⟨a,h1,h2⟩
  | ln _=>obtain ⟨a,vs,h1,h2,_,_,h5⟩:=h1;exact ⟨a,vs,h1,.inl (.inl h2),h5.reps⟩
theorem GH {F:List S->M R}{J H J1 H1:Hp}{Q:VK}{as:List S}{T:Exc->Prop}(hT:c.K=X.K) (e1:Ext J H J1 H1) (ar:kR c.K J1 H1 as vs) (hl:as.length=n)
 (wr:cA (match F as with
 | .ok r=>.ok (lM r)
 | _=>.bad) (λr=>∀v J' H',Ext J H J' H'->RR c H J' H' r v->Q v H') T):o8 X.K n F (vs++[]) H1 Q E0:=by
 rw [hT] at ar;refine ⟨J1,as,e1.sub,hl,by rw [TU];exact ar,?_⟩;cases q:F as with
 | bad=>rw [q] at wr;exact wr
 | exc x=>rw [q] at wr;exact wr
 | ok r=>
  rw [q] at wr;intro v J' H' e2 fr;refine wr v J' H' (e1.trans e2) ?_;cases r with
  | d y=>exact (show Rep c.K J' y v from hT▸fr)
  | mo _ _=>exact fr.elim
  | mb _ _=>exact fr.elim
  | mf _ _=>obtain ⟨a,h1,h2,h3,h4⟩:=fr;exact ⟨a,h1,hT▸h2,h3,e1.h.free h4⟩
  | ln _=>obtain ⟨a,us,h1,h2,h3,h4,h5⟩:=fr;exact ⟨a,us,h1,h2,h3,e1.h.free h4,hT▸h5.mono (aL.refl _) λ_ h=>e1.h.free h⟩
  | l m ys=>
   obtain ⟨a,us,h1,h2,h3,h4,h5⟩:=fr;exact ⟨a,us,h1,h2,h3,e1.h.free h4,hT▸h5⟩
theorem xP {n:Nat}{F:List S->M R}{gs:G (List R)}(hT:c.K=X.K):∀σ H Q,tD c (gN (aS n F) gs) σ H Q->GK (o8 X.K n F) [] E0 (tA c gs) σ H Q:=λσ H Q ⟨J,env,sr,w⟩=>by
 refine ⟨J,env,sr,aC (aH w) λrs wr vs J1 H1 e1 r1=>?_⟩;unfold aS at wr;split at wr
 ·rename_i hl;exact GH hT e1 (r1.args (sr.hp.ext e1)) (by simpa using hl) wr
 ·exact wr.elim
theorem H_ {F:List S->M R}{gs:G (List R)}(G:iQ X.prog X.w X.K X.mg X.base ny k f fd ps (o8 X.K n F)) (hr:dg k X.A) (hm:X.mg x=some (.ref f)) (hk:Ug X.K (.ref f)=true)
 (hb:Binds X.K fd ps []) (ha:F3 X c (e::es) gs) (hT:c.K=X.K:=by rfl) (hg:Gl X x:=by rfl) (hdb:(x == ("__debug__":Str))=false:=by decide) (he:QZ (e::es) X.env=(false,eval e X.env)::QZ es X.env:=by rfl)
 (hpl:(SJ pos (QZ es X.env)).any (·.1)=false:=by rfl):PD X c (.Call (.Name x p) (e::es) [] pos) (gN (aS n F) gs):=
 fz (Ao (E:=E0) G hr hg hm hk hb .nil Bv ha hdb he hpl) (xP hT)
end
noncomputable def cZ (cells:List (Str×Rb)):List (Str×S9)->List (Str×Rb)->Option (List (Str×Rb))
 | [],cs=>some cs
 | (n,k)::r,cs=>if k == .free then (match cells.lookup n with
  | some a=>cZ cells r ((n,a)::cs)
  | none=>none) else cZ cells r cs
theorem kT {env:Env}:∀(names:List (Str×S9)) (cs cl:List (Str×Rb)),cZ env.cells names cs=some cl->
  (forIn names cs λ(x:Str×S9) (r:List (Str×Rb))=>(if (x.2 == .free)=true then do let a <-cellOf env x.1;pure (Ti ((x.1,a)::r)) else pure (Ti r):Sem (ForInStep (List (Str×Rb)))))=(pure cl:Sem (List (Str×Rb)))
 | [],cs,cl,h=>by cases h;rfl
 | (n,k)::r,cs,cl,h=>by
  unfold cZ at h;rw [List.forIn_cons];cases hk:(k == R8) with
  | true=>
   rw [hk,if_pos rfl] at h;cases hc:env.cells.lookup n with
   | none=>rw [hc] at h;cases h
   | some a=>
    rw [hc] at h;have e:cellOf env n=pure a:=by unfold cellOf;rw [hc]
    simp only [hk,if_true,e];exact kT r ((n,a)::cs) cl h
  | false=>
   rw [hk,if_neg (by decide)] at h;simp only [hk];exact kT r cs cl h
theorem wH {Qw:Um}{env:Env}{cl:List (Str×Rb)}(h:cZ env.cells Qw.names []=some cl):closureFor Qw env=pure cl:=by have q:=kT (env:=env) Qw.names [] cl h;unfold closureFor;show ((forIn Qw.names [] λ(x:Str×S9) (r:List (Str×Rb))=>(if (x.2 == .free)=true then do let a <-cellOf env x.1;pure (Ti ((x.1,a)::r)) else pure (Ti r):Sem (ForInStep (List (Str×Rb))))) >>= λz=>pure z)=pure cl;rw [q];rfl
theorem fZ {cells:List (Str×Rb)}:∀(names:List (Str×S9)) (cs cl:List (Str×Rb)),cZ cells names cs=some cl->(∀x c,cs.lookup x=some c->cells.lookup x=some c)->
  (∀x c,cl.lookup x=some c->cells.lookup x=some c)/\(∀x,((cs.lookup x).isSome=true\/(x,R8)∈names)->(cl.lookup x).isSome=true)
 | [],cs,cl,h,k=>by cases h;exact ⟨k,λx hx=>hx.elim id λz=>by cases z⟩
 | (n,kd)::r,cs,cl,h,k=>by
  unfold cZ at h;cases hk:(kd == R8) with
  | true=>
   rw [hk,if_pos rfl] at h;cases hc:cells.lookup n with
   | none=>rw [hc] at h;cases h
   | some a=>
    rw [hc] at h;obtain ⟨h1,h2⟩:=fZ r ((n,a)::cs) cl h (λx c q=>by
     rw [Sk] at q;cases e:x == n with
     | true=>
      rw [e] at q;cases q;have:x=n:=by simpa using e
      rw [this];exact hc
     | false=>rw [e] at q;exact k x c q)
    refine ⟨h1,λx hx=>h2 x ?_⟩;by_cases e:x=n
    ·left;subst e;rw [Sk];simp
    ·have e':(x == n)=false:=by simpa using e
     rcases hx with hx | hx
     ·left;rw [Sk,e'];exact hx
     ·right;rcases Q9.mp hx with z | z
      ·cases z;exact absurd rfl e
      ·exact z
  | false=>
   rw [hk,if_neg (by decide)] at h;obtain ⟨h1,h2⟩:=fZ r cs cl h k;refine ⟨h1,λx hx=>h2 x ?_⟩;rcases hx with hx | hx
   ·exact .inl hx
   ·rcases Q9.mp hx with z | z
    ·cases z;simp at hk
    ·exact .inr z
section
variable {X:Cx}
def cN (X:Cx) (own:List Str) (cap:List Nat):List Str:=own++cap.map λ(j:Nat)=>(X.N[j]?).getD ("":Str)
noncomputable def Jz (X:Cx) (own:List Str) (cap:List Nat) (Qw:Um) (cl:List (Str×Rb)) (C:Rb) (s:QM) (H:Hp) (fp:List Rb):Cx where
 prog:=X.prog
 w:=X.w
 K:=X.K
 mg:=X.mg
 base:=X.base
 A:=X.A
 N:=cN X own cap
 s₀:=s
 H₀:=H
 env:=compEnvC Qw cl C X.env
 outer:=X.stack
 stack:=X.stack
 ex:=fp
 fn:=λ_=>false
 calm:=X.calm
 pn:=[]
 xe:=λ_ _=>False
noncomputable def pA (X:Cx) (cap:List Nat):Bool:=cap.all λj=>match X.N[j]? with
 | some x=>(match X.env.scope.names.lookup x with
  | some .cell=>true
  | some .free=>true
  | _=>false)
 | none=>false
theorem yR {Qw:Um}(hc:∀y∈Qw.names,y.2≠.cell):∀{x:Str},((relabel Qw env).names.lookup x=some .cell\/(relabel Qw env).names.lookup x=some .free)->(x,R8)∈Qw.names:=by
 unfold relabel;have main:∀(names:List (Str×S9)),(∀y∈names,y.2≠.cell)->∀x,((names.map λ(n,k)=>if (k == R8 && env.scope.kind == .function && env.kindOf n == some .cell) then (n,Vb) else (n,k)).lookup x=some .cell\/
   (names.map λ(n,k)=>if (k == R8 && env.scope.kind == .function && env.kindOf n == some .cell) then (n,Vb) else (n,k)).lookup x=some .free)->(x,R8)∈names:=by
  intro names
  induction names with
  | nil=>intro _ x h;simp at h
  | cons p r ih=>
   obtain ⟨n,k⟩:=p;intro hc x h;rw [Q6] at h;simp only at h;by_cases hx:x=n
   ·subst hx;have hk:k≠.cell:=hc (x,k) QV;have:k=.free:=by
     by_cases q:(k == R8 && env.scope.kind == .function && env.kindOf x == some .cell)=true
     ·rw [QX,QX] at q;simpa using q.1.1
     ·rw [if_neg q,Sk] at h;simp at h;rcases h with h | h
      ·exact absurd h hk
      ·exact h
    subst this;exact QV
   ·have hx':(x == n)=false:=by simpa using hx
    refine QT _ (ih (λy hy=>hc y (QT _ hy)) x ?_);have red:∀(q:Str×S9) (l:List (Str×S9)),q.1=n->aaR x (q::l)=aaR x l:=λq l hq=>by obtain ⟨q1,q2⟩:=q;simp only at hq;subst hq;rw [Sk,hx']
    have hq:(if (k == R8 && env.scope.kind == .function && env.kindOf n == some .cell) then (n,Vb) else (n,k)).1=n:=by split <;> rfl
    rw [red _ _ hq] at h;exact h
 intro x h;exact main Qw.names hc x h
end
section
variable {X:Cx}{c:C}
noncomputable def AR (X:Cx) (c:C) (ifs:List RA) (g:G Bool):Prop:=
 ∀(Qx:List (Rb×Obj)) (s:QM) (σ:L2.St) (H:Hp) (Q:Bool->Hp->Prop),Inv X Qx σ H s->tB c g σ H Q->
  Q_ (Rf X.prog X.w) X.A (forIn ifs true λc r=>if r=true then do let ok <-XG c X.env (eval c X.env);pure (Ti ok) else pure (Ti r)) (TP X Qx σ Q) X.xe s
def b8:G Bool:=λ_=>.ok true
noncomputable def eT (gt:GT) (gts:G Bool) (ge:G R):List D->Ev->M (List D)
 | [],_=>.ok []
 | d::ds,env=>gt d env >>= λe=>gts e >>= λk=>if k=true then ge e >>= λr=>toD r >>= λy=>eT gt gts ge ds e >>= λys=>.ok (y::ys) else eT gt gts ge ds e
def cE (n:Nat) (cap:List Nat) (env:Ev):Ev:=RS n none++cap.map λ(j:Nat)=>(env[j]?).getD none
noncomputable def bE (n:Nat) (cap:List Nat) (gi:G (List D)) (gt:GT) (gts:G Bool) (ge:G R):G R:=λenv=>gi env >>= λds=>if ds.length<=sizeLine then eT gt gts ge ds (cE n cap env) >>= λys=>.ok (.l .fresh ys) else .bad
theorem gO {α:Type}{n:Nat}{cap:List Nat}{env:List (Option α)}{i:Nat}{x:α}(h:(RS n none++cap.map λ(j:Nat)=>(env[j]?).getD none)[i]?=some (some x)):∃j,n<=i/\cap[i - n]?=some j/\env[j]?=some (some x):=by
 by_cases hi:i < n
 ·rw [SV (by simpa using hi),U7] at h;split at h <;> cases h
 ·rw [Sh (by simpa using hi),Sq,Rc] at h;cases q:cap[i - n]? with
  | none=>rw [q] at h;cases h
  | some j=>
   rw [q] at h;refine ⟨j,by omega,rfl,?_⟩;have h':(env[j]?).getD none=some x:=RY h;cases z:env[j]? with
   | none=>rw [z] at h';cases h'
   | some o=>rw [z] at h';exact congrArg some h'
theorem F9 {α:Type}{n:Nat}{cap:List Nat}{env:List (Option α)}{i j:Nat}{x:α}(h1:n<=i) (h2:cap[i - n]?=some j) (h3:env[j]?=some (some x)):(RS n none++cap.map λ(j:Nat)=>(env[j]?).getD none)[i]?=some (some x):=by rw [Sh (by simpa using h1),Sq,Rc,h2];simp [h3]
theorem SR.cap {J H:Hp}{σ:L2.St}{env:Ev}(sr:SR c J H σ env) (n:Nat) (cap:List Nat) (hnd:cap.Nodup):SR c J H (RS n none++cap.map λ(j:Nat)=>(σ[j]?).getD none) (cE n cap env):=by
 refine ⟨sr.hp,by simp [cE],λi x q=>?_,λi j xs ys v hij q1 q2 q3 q4=>?_,sr.sp2.by (λi=>(cap[i - n]?).getD 0) (λi j xs ys hij q1 q2 z=>?_) λi xs q=>?_⟩
 ·obtain ⟨j,h1,h2,h3⟩:=gO q;obtain ⟨v,k1,k2⟩:=sr.at_ j x h3;exact ⟨v,F9 h1 h2 k1,k2⟩
 ·obtain ⟨a,h1,h2,h3⟩:=gO q1;obtain ⟨b,h4,h5,h6⟩:=gO q2;obtain ⟨a',h7,h8,h9⟩:=gO q3;obtain ⟨b',Qu,h11,h12⟩:=gO q4;rw [h2] at h8;cases h8;rw [h5] at h11;cases h11;have hab:a≠b:=λz=>by subst z;have e1:=(Ri.mp h2);have e2:=(Ri.mp h5);have:=(UQ hnd).mp (e1.2.trans e2.2.symm);omega
  exact sr.sep a b xs ys v hab h3 h6 h9 h12
 ·obtain ⟨a,h1,h2,h3⟩:=gO q1;obtain ⟨b,h4,h5,h6⟩:=gO q2;have e1:=(Ri.mp h2);have e2:=(Ri.mp h5);rw [h2,h5] at z;have:=(UQ hnd).mp (e1.2.trans ((show a=b from z).trans e2.2.symm));omega
 ·obtain ⟨a,h1,h2,h3⟩:=gO q;obtain ⟨p,vs,m1,m2,_,_,_,m3⟩:=sr.nst h3;rw [h2];exact ⟨⟨xs,h3⟩,(gM (F9 h1 h2 m1) m2).trans m3.symm⟩
theorem SR.other {J H:Hp}(sr:SR c J H σ env) (hJ:J p=none) (h0:c.H0 p=none) (hn:∀(j:Nat) (xs:Mn),env[j]?=some (some (mS xs))->σ[j]?≠some (some (.ref p))):SR c J (L2.upd H p o) σ env:=by
 refine ⟨⟨λb u q=>?_,λb u q=>?_,sr.hp.entJ,sr.hp.frz⟩,sr.len,λj y q=>?_,sr.sep,sr.sp2.keep λk xs q=>let ⟨p',vs,m1,m2,_,_,_,m3⟩:=sr.nst q;⟨⟨xs,q⟩,(gM m1 (by rw [aQ (show p'≠p from λe=>hn k (.nst xs) q (by rw [<-e];exact m1))];exact m2)).trans m3.symm⟩⟩
 ·have:b≠p:=λz=>by rw [z,hJ] at q;cases q
  rw [aQ this];exact sr.hp.sub b u q
 ·have:b≠p:=λz=>by rw [z,h0] at q;cases q
  rw [aQ this];exact sr.hp.ent b u q
 ·obtain ⟨w,k1,k2⟩:=sr.at_ j y q;refine ⟨w,k1,?_⟩;cases y with
  | d x=>exact k2
  | bor zs=>exact k2
  | db _ _=>exact k2
  | fn _=>exact k2
  | dk ks zs=>
   obtain ⟨p',rfl,⟨us,ws,ep,m1,mr⟩,m2⟩:=k2;have hne:p'≠p:=λz=>hn j (.inr (ks,zs)) q (z▸k1);exact ⟨p',rfl,⟨us,ws,ep,by rw [aQ hne];exact m1,mr⟩,m2⟩
  | own zs=>
   obtain ⟨p',us,rfl,m1,m2,m3,m4⟩:=k2;have hne:p'≠p:=λz=>hn j (.inl zs) q (z▸k1);exact ⟨p',us,rfl,by rw [aQ hne];exact m1,m2,m3,m4⟩
  | ow2 zs=>
   obtain ⟨p',us,rfl,m1,m2,m3,m4⟩:=k2;have hne:p'≠p:=λz=>hn j (.nst zs) q (z▸k1);exact ⟨p',us,rfl,by rw [aQ hne];exact m1,m2,m3,m4⟩
theorem Ext.other {J H J' H':Hp}(e:Ext J H J' H') (h:H p=none) (hJ:J' p=none):Ext J H J' (L2.upd H' p o):=
 ⟨λb u q=>by rw [aQ (eu q h)];exact e.h b u q,e.j,λb u q=>by
  have:b≠p:=λz=>by rw [z,hJ] at q;cases q
  rw [aQ this];exact e.sub b u q,e.frz⟩
theorem zC {H:Hp}(x:fE P w H h) (hn:H a=none) (sb:SE a h h'):fE P w H h':=λb u e=>by
 refine (x b u e).stay (λd v hd q=>(sb.2 d ?_).trans q) (λ_ q=>q) λ_ _ q=>q;rintro rfl;rcases hd with rfl | hd
 ·rw [hn] at e;cases e
 ·rw [hn] at hd;cases hd
theorem NF {Qx:List (Rb×Obj)}{σ:L2.St}{H:Hp}{s:QM}{own:List Str}{cap:List Nat}{Qw:Um}{cl:List (Str×Rb)}{fp:List Rb}{h1:Sn}{m:Str->Option QL}{tk:Nat}(I:Inv X Qx σ H s) (ok:(Jz X own cap Qw cl s.heap.objs.size s H fp).Ok)
  (hcl:cZ X.env.cells Qw.names []=some cl) (hcell:∀y∈Qw.names,y.2≠.cell) (hcap:pA X cap=true) (Oz:∀j∈cap,∀x,X.N[j]?=some x->(relabel Qw X.env).names.lookup x≠some .local)
  (hns:h1.Ns s.heap.objs.size m) (old:∀b o,s.heap.get? b=some o->h1.get? b=some o):
  Inv (Jz X own cap Qw cl s.heap.objs.size s H fp) [] (RS own.length none++cap.map λ(j:Nat)=>(σ[j]?).getD none) H {s with heap:=h1,toks:=tk}:=by
 obtain ⟨m1,m2⟩:=fZ Qw.names [] cl hcl (λx c h=>by simp at h);refine ⟨ok,rfl,I.bare,Un.kept old,⟨m,hns,λi x v q1 q2 q3=>?_⟩,λx d h=>?_,I.hok.fresh (QW _),λx d h=>I.freeC x d (m1 x d h),λp hp=>absurd (show p∈([]:List (Rb×Obj)) from hp) (by simp),I.hok.kept old,?_⟩
 ·obtain ⟨j,h2,h3,h4⟩:=gO q2;have q1':(own++cap.map λ(j:Nat)=>(X.N[j]?).getD ("":Str))[i]?=some x:=q1;rw [Sh (by exact h2),Rc,h3] at q1';have hj:j∈cap:=RH h3;have hc:(match X.N[j]? with
   | some x=>(match X.env.scope.names.lookup x with
    | some .cell=>true
    | some .free=>true
    | _=>false)
   | none=>false)=true:=by unfold pA at hcap;exact Rk.mp hcap j hj
  cases hx:X.N[j]? with
  | none=>rw [hx] at hc;cases hc
  | some y=>
   rw [Za,hx] at q1';rw [hx] at hc;have e:y=x:=by simpa using q1'
   subst e;have kd:X.env.kindOf y=some .cell\/X.env.kindOf y=some .free:=by
    unfold aa8;simp only at hc;split at hc
    ·rename_i z;exact .inl z
    ·rename_i z;exact .inr z
    ·cases hc
   obtain ⟨mX,nX,lX⟩:=I.loc;obtain ⟨u,ru,lu⟩:=lX j y v hx h4 (kd.elim (λz=>.inr (.inl z)) λz=>.inr (.inr z));refine ⟨u,ru,.inr ?_⟩;have kd':(relabel Qw X.env).names.lookup y=some .cell\/(relabel Qw X.env).names.lookup y=some .free:=by
    rcases q3 with z | z | z
    ·exact absurd z (Oz j hj y hx)
    ·exact .inl z
    ·exact .inr z
   refine ⟨kd',?_⟩;obtain ⟨d,hd⟩:=R9.mp (m2 y (.inr (yR hcell kd')));refine ⟨d,hd,?_⟩;rcases lu with ⟨z,_⟩ | ⟨_,d',hd',z⟩
   ·rcases kd with k | k <;> (rw [k] at z;cases z)
   ·have:=m1 y d hd;rw [hd'] at this;cases this;obtain ⟨o,ho,hod⟩:=z;exact ⟨o,old _ _ ho,hod⟩
 ·obtain ⟨v,o,ho,hod⟩:=I.cell x d (m1 x d h);exact ⟨v,o,old _ _ ho,hod⟩
 ·show _=(own++cap.map λ(j:Nat)=>(X.N[j]?).getD ("":Str)).length;simp
noncomputable def Cv (X:Cx) (cap:List Nat) (Qw:Um):Bool:=cap.all λj=>match X.N[j]? with
 | some x=>!((relabel Qw X.env).names.lookup x == some .local)
 | none=>true
noncomputable def yD:List Nat->Bool
 | []=>true
 | x::r=>!(r.contains x) && yD r
theorem Al:∀{l:List Nat},yD l=true->l.Nodup
 | [],_=>Tg
 | x::r,h=>by unfold yD at h;rw [QX] at h;refine SX.mpr ⟨λz=>?_,Al h.2⟩;have:=h.1;simp [z] at this
theorem Jo {X:Cx}{H:Hp}{s:QM}(I:L2.Inv X Qx σ H s) (h:s.heap.objs.size<=T):(T∈X.ex\/X.s₀.heap.objs.size<=T)/\T≠X.env.locals/\(∀x c,X.env.cells.lookup x=some c->c≠T)/\∀p∈X.pn++Qx,p.1≠T:=by have ne:∀b,b < s.heap.objs.size->b≠T:=λb hb z=>absurd (Rh (z▸hb) h) (SS _);refine ⟨.inr (Rr I.sz h),(ne _ I.lt).symm,λx c hc=>?_,λp hp=>ne _ (Q5 (I.pin p hp).1)⟩;obtain ⟨v,o,hv,_⟩:=I.cell x c hc;exact ne _ (Q5 hv)
theorem Ds {X:Cx}{H:Hp}{s:QM}{C:Rb}{o0:Obj}(I:L2.Inv X Qx σ H s) (ap:(C∈X.ex\/X.s₀.heap.objs.size<=C)/\C≠X.env.locals/\(∀x c,X.env.cells.lookup x=some c->c≠C)/\∀p∈X.pn++Qx,p.1≠C) (hf:H C=none) (sb:SE C s.heap h'):L2.Inv X Qx σ H {s with heap:=h'}:=by
 refine I.call' (ch:=[C]) rfl ⟨λb o hb hn _ hx=>?_,λb o hb hn _ hx=>⟨o.slots,?_⟩,λ_ _ _ n _=>n,λb o hb hx=>⟨o,?_⟩,λ_ _ q=>q,λ_ _ _ q=>q,λ_ ps q=>⟨#[],by rw [q];simp⟩⟩ (λa o ha=>?_) I.bare (λb hb=>by rw [Q7.mp hb];exact ap)
 ·exact (sb.2 b λz=>hx (by simp [z])).trans hb
 ·exact (sb.2 b λz=>hx (by simp [z])).trans hb
 ·exact (sb.2 b λz=>hx (by simp [z])).trans hb
 ·refine (I.hok a o ha).stay (λb u hb q=>(sb.2 b λz=>?_).trans q) (λ_ q=>q) λ_ _ q=>q;rcases hb with rfl | hb
  ·rw [z,hf] at ha;cases ha
  ·rw [z,hf] at hb;cases hb
end
mutual
noncomputable def bg:D->D->Bool
 | .non,.non=>true
 | .bl p,.bl q=>p == q
 | .bl p,.int q=>(if p then 1 else 0) == q
 | .int p,.bl q=>p == (if q then 1 else 0)
 | .int p,.int q=>p == q
 | .str p,.str q=>p == q
 | .tup p,.tup q=>bW p q
 | .lst p,.lst q=>bW p q
 | .emp,.emp=>true
 | .exn _ _ _,.exn _ _ _=>true
 | .dct _ _,.dct _ _=>true
 | _,_=>false
noncomputable def bW:List D->List D->Bool
 | [],[]=>true
 | x::xs,y::ys=>bg x y && bW xs ys
 | _,_=>false
end
mutual
theorem eN:∀d:D,bg d d=true
 | .non=>by simp [bg]
 | .bl _=>by simp [bg]
 | .int _=>by simp [bg]
 | .str _=>by simp [bg]
 | .tup xs=>by simp only [bg];exact n9 xs
 | .lst xs=>by simp only [bg];exact n9 xs
 | .emp=>by simp [bg]
 | .exn _ _ _=>by simp [bg]
 | .dct _ _=>by simp [bg]
theorem n9:∀ds:List D,bW ds ds=true
 | []=>by simp [bW]
 | x::xs=>by simp only [bW,eN x,n9 xs,aae]
end
theorem mH:∀{xs ys:List D},xs.length≠ys.length->bW xs ys=false
 | [],[],h=>absurd rfl h
 | [],_::_,_=>by simp [bW]
 | _::_,[],_=>by simp [bW]
 | x::xs,y::ys,h=>by simp only [bW,mH (xs:=xs) (ys:=ys) (λz=>h (congrArg (· + 1) z)),Uh]
noncomputable def mZ (xs ys:List D) (j:Nat):Bool:=match xs[j]?,ys[j]? with
 | some x,some y=>bg x y
 | _,_=>false
theorem mJ:∀{xs ys:List D},xs.length=ys.length->(QS xs.length).all (mZ xs ys)=bW xs ys
 | [],[],_=>by simp [bW]
 | x::xs,y::ys,h=>by have ih:=mJ (xs:=xs) (ys:=ys) (by simpa using h);rw [Sb,Vk,S_,Wj];simp only [bW];rw [<-ih];rfl
theorem yc (xs ys:List D):((QS (min xs.length ys.length)).all (mZ xs ys) && xs.length == ys.length)=bW xs ys:=by
 by_cases h:xs.length=ys.length
 ·rw [<-h,Nat.min_self,mJ h];simp
 ·rw [mH h,beq_eq_false_iff_ne.mpr h,Uh]
section
structure HF (K:QJ) (J:Hp) (s:QM):Prop where
 t:∀a xs,cC K J a xs->∃Qz:List QL,Vals xs Qz/\s.heap.IsTuple a Qz.toArray
 l:∀a xs,bV K J a xs->∃Qz:List QL,Vals xs Qz/\s.heap.IsList a Qz.toArray
 e:∀a,J a=some (.dK [])->∃o,s.heap.get? a=some o/\o.cls=.type "dict"
 d:∀a ep QG,J a=some (jd a ep QG)->∃o es,s.heap.get? a=some o/\o.ExactDict/\o.data=.dict es ep/\Wt xw QG es.toList
variable {K:QJ}{J:Hp}{s:QM}
theorem HF.of {X:Cx}{c:C}{H:Hp}(I:Inv X Qx σ H s) (hs:aL J H):HF X.K J s:=
 ⟨λa xs h=>let ⟨Qz,r,p,_⟩:=I.tuple (eE hs h);⟨Qz,r,p⟩,λa xs h=>let ⟨Qz,r,p,_⟩:=I.list (hs.seq h);⟨Qz,r,p.isList⟩,λa h=>by
  obtain ⟨_,_,vs,_,p⟩:=(show cg X.prog X.w H s.heap a (.dK []) from I.hok a _ (hs _ _ h));obtain ⟨o,es,ep,h1,h2,_⟩:=p;exact ⟨o,h1,h2.1⟩,λa ep QG h=>(show cg X.prog X.w H s.heap a (jd a ep QG) from I.hok a _ (hs _ _ h)).1⟩
theorem CW {xs ys:List QL}(h:s.heap.IsTuple a xs.toArray) (h':s.heap.IsTuple a ys.toArray):xs=ys:=by
 obtain ⟨o,ho,_,n,hd⟩:=h;obtain ⟨o',ho',_,n',hd'⟩:=h';rw [ho] at ho';cases ho';rw [hd] at hd';injection hd' with h1 _
 simpa using congrArg W9 h1
theorem Be {xs ys:List QL}(h:s.heap.IsList a xs.toArray) (h':s.heap.IsList a ys.toArray):xs=ys:=by
 obtain ⟨o,ho,_,n,hd⟩:=h;obtain ⟨o',ho',_,n',hd'⟩:=h';rw [ho] at ho';cases ho';rw [hd] at hd';injection hd' with h1 _
 simpa using congrArg W9 h1
mutual
theorem Rep.inj (F:HF K J s):∀{d e:D}{v:V},Rep K J d v->Rep K J e v->dep d<=1000->dep e<=1000->d=e
 | _,_,_,.emp _,_,h,_=>by unfold dep at h;omega
 | _,_,_,.exn _ _ _ _ _,_,h,_=>by unfold dep at h;omega
 | _,_,_,.dct _ _ _ _ _,_,h,_=>by unfold dep at h;omega
 | _,_,_,.non,.non,_,_=>rfl
 | _,_,_,.bl _,.bl _,_,_=>rfl
 | _,_,_,.int _,.int _,_,_=>rfl
 | _,_,_,.str _,.str _,_,_=>rfl
 | _,_,_,.tup _ _,.emp _,_,h=>by unfold dep at h;omega
 | _,_,_,.lst _ _,.emp _,_,h=>by unfold dep at h;omega
 | _,_,_,.tup _ _,.exn _ _ _ _ _,_,h=>by unfold dep at h;omega
 | _,_,_,.tup _ _,.dct _ _ _ _ _,_,h=>by unfold dep at h;omega
 | _,_,_,.lst _ _,.exn _ _ _ _ _,_,h=>by unfold dep at h;omega
 | _,_,_,.lst _ _,.dct _ _ _ _ _,_,h=>by unfold dep at h;omega
 | _,_,_,.tup h hs,.tup h' hs',k,k'=>by obtain ⟨Qz,r,p⟩:=F.t _ _ h;obtain ⟨its',r',p'⟩:=F.t _ _ h';have:=CW p p';subst this;have:=r.inj r';subst this;rw [aD.inj F hs hs' (by unfold dep at k;omega) (by unfold dep at k';omega)]
 | _,_,_,.lst h hs,.lst h' hs',k,k'=>by obtain ⟨Qz,r,p⟩:=F.l _ _ h;obtain ⟨its',r',p'⟩:=F.l _ _ h';have:=Be p p';subst this;have:=r.inj r';subst this;rw [aD.inj F hs hs' (by unfold dep at k;omega) (by unfold dep at k';omega)]
 | _,_,_,.tup h _,.lst h' _,_,_=>by obtain ⟨Qz,r,p⟩:=F.t _ _ h;obtain ⟨its',r',p'⟩:=F.l _ _ h';exact absurd rfl (W0 p' p)
 | _,_,_,.lst h _,.tup h' _,_,_=>by obtain ⟨Qz,r,p⟩:=F.l _ _ h;obtain ⟨its',r',p'⟩:=F.t _ _ h';exact absurd rfl (W0 p p')
theorem aD.inj (F:HF K J s):∀{ds es:List D}{vs:List V},aD K J ds vs->aD K J es vs->deps ds<=1000->deps es<=1000->ds=es
 | _,_,_,.nil,.nil,_,_=>rfl
 | _,_,_,.cons h hs,.cons h' hs',k,k'=>by rw [Rep.inj F h h' (by unfold deps at k;omega) (by unfold deps at k';omega),aD.inj F hs hs' (by unfold deps at k;omega) (by unfold deps at k';omega)]
end
theorem iL {A:RC}(h:s.heap.IsTuple a Qz) (r:RelV v u) (f:su v=true) (hu:A.units < Sw):S0 A s (.ref a) u false/\S0 A s u (.ref a) false:=by
 cases v with
 | non=>cases r;exact ⟨.tuple_none h hu,.none_tuple h hu⟩
 | bl b=>cases r;exact ⟨.tuple_bool b h hu,.bool_tuple b h hu⟩
 | int i=>obtain ⟨t,rfl⟩:=r;exact ⟨.tuple_int i t h hu,.int_tuple i t h hu⟩
 | str x=>obtain ⟨t,rfl⟩:=r;exact ⟨.tuple_str x t h hu,.str_tuple x t h hu⟩
 | _=>exact absurd (show false=true from f) Ru
theorem jf {A:RC}(h:s.heap.IsList a Qz) (r:RelV v u) (f:su v=true) (hu:A.units < Sw):S0 A s (.ref a) u false/\S0 A s u (.ref a) false:=by
 cases v with
 | non=>cases r;exact ⟨.list_none h hu,.none_list h hu⟩
 | bl b=>cases r;exact ⟨.list_bool b h hu,.bool_list b h hu⟩
 | int i=>obtain ⟨t,rfl⟩:=r;exact ⟨.list_int i t h hu,.int_list i t h hu⟩
 | str x=>obtain ⟨t,rfl⟩:=r;exact ⟨.list_str x t h hu,.str_list x t h hu⟩
 | _=>exact absurd (show false=true from f) Ru
noncomputable def oB:D->Bool
 | .tup _=>false
 | .lst _=>false
 | .emp=>false
 | .exn _ _ _=>false
 | .dct _ _=>false
 | _=>true
theorem Rep.flat (h:Rep K J d v) (f:oB d=true):su v=true:=by cases h <;> first | rfl | cases f
theorem Eu (h:Rep K J d v) (h':Rep K J e w) (f:oB d=true) (f':oB e=true):JD v w=bg d e:=by cases h <;> cases h' <;> first | rfl | cases f | cases f' | simp [JD,bg]
theorem in1_units (A:RC):A.in1.units=A.units + 1:=rfl
theorem sq (F:HF K J s) (A:RC) (hd:Rep K J d v) (he:Rep K J e w) (rv:RelV v u) (rw':RelV w u') (f:oB d=true) (hu:A.units < Sw) (hu':dep e<=1000):S0 A s u u' (bg d e):=by
 cases q:oB e with
 | true=>rw [<-Eu hd he f q];exact JC rv rw' (hd.flat f) (he.flat q)
 | false=>
  cases he with
  | tup h' hs'=>
   cases rw';obtain ⟨its',r',p'⟩:=F.t _ _ h';have:=(iL p' rv (hd.flat f) hu).2;cases hd <;> first | exact this | cases f
  | lst h' hs'=>
   cases rw';obtain ⟨its',r',p'⟩:=F.l _ _ h';have:=(jf p' rv (hd.flat f) hu).2;cases hd <;> first | exact this | cases f
  | emp _=>unfold dep at hu';omega
  | exn _ _ _ _ _=>unfold dep at hu';omega
  | dct _ _ _ _ _=>unfold dep at hu';omega
  | _=>cases q
mutual
theorem lG (F:HF K J s):∀{d e:D}{v w:V}{u u':QL}(A:RC),Rep K J d v->Rep K J e w->RelV v u->RelV w u'->A.units + dep d < Sw->dep d<=1000->dep e<=1000->S0 A s u u' (bg d e)
 | .tup ds,e,_,w,u,u',A,.tup h hs,he,rv,rw',hu,hd1,hu'=>by
  cases rv;obtain ⟨Qz,r,p⟩:=F.t _ _ h;have N7:A.units < Sw:=by unfold dep at hu;omega
  cases he with
  | tup h' hs'=>
   cases rw';obtain ⟨its',r',p'⟩:=F.t _ _ h';rename_i a vs b ws es;by_cases q:a=b
   ·subst q;have:=Rep.inj F (.tup h hs) (.tup h' hs') hd1 hu';rw [<-this,eN];exact Xb _
   ·have l1:Qz.length=ds.length:=by rw [<-r.length,hs.length]
    have l2:its'.length=es.length:=by rw [<-r'.length,hs'.length]
    simp only [bg];rw [<-yc,<-l1,<-l2];refine Ye q ?_;have:=YA (e:=mZ ds es) p p' N7 λj j1 j2=>by
     have k1:j < ds.length:=by rw [<-l1];simpa using j1
     have k2:j < es.length:=by rw [<-l2];simpa using j2
     have:=lH F A.in1 hs hs' r r' (by rw [in1_units];unfold dep at hu;omega) (by unfold dep at hd1;omega) (by unfold dep at hu';omega) j k1 k2;have m1:j < Qz.length:=by simpa using j1
     have m2:j < its'.length:=by simpa using j2
     simpa [m1,m2] using this
    simpa using this
  | lst h' hs'=>
   cases rw';obtain ⟨its',r',p'⟩:=F.l _ _ h';exact aau p p' N7
  | non=>exact (iL p rw' rfl N7).1
  | bl _=>exact (iL p rw' rfl N7).1
  | int _=>exact (iL p rw' rfl N7).1
  | str _=>exact (iL p rw' rfl N7).1
  | emp _=>unfold dep at hu';omega
  | exn _ _ _ _ _=>unfold dep at hu';omega
  | dct _ _ _ _ _=>unfold dep at hu';omega
 | .lst ds,e,_,w,u,u',A,.lst h hs,he,rv,rw',hu,hd1,hu'=>by
  cases rv;obtain ⟨Qz,r,p⟩:=F.l _ _ h;have N7:A.units < Sw:=by unfold dep at hu;omega
  cases he with
  | lst h' hs'=>
   cases rw';obtain ⟨its',r',p'⟩:=F.l _ _ h';rename_i a vs b ws es;by_cases q:a=b
   ·subst q;have:=Rep.inj F (.lst h hs) (.lst h' hs') hd1 hu';rw [<-this,eN];exact Xb _
   ·have l1:Qz.length=ds.length:=by rw [<-r.length,hs.length]
    have l2:its'.length=es.length:=by rw [<-r'.length,hs'.length]
    simp only [bg];refine Ye q ?_;by_cases z:ds.length=es.length
    ·rw [<-mJ z,<-l1];have:=YT (e:=mZ ds es) p p' (by simp;omega) N7 λj j1 j2=>by
      have k1:j < ds.length:=by rw [<-l1];simpa using j1
      have k2:j < es.length:=by rw [<-l2];simpa using j2
      have:=lH F A.in1 hs hs' r r' (by rw [in1_units];unfold dep at hu;omega) (by unfold dep at hd1;omega) (by unfold dep at hu';omega) j k1 k2;have m1:j < Qz.length:=by simpa using j1
      have m2:j < its'.length:=by simpa using j2
      simpa [m1,m2] using this
     simpa using this
    ·rw [mH z];exact Z0 p p' (by simp;omega) N7
  | tup h' hs'=>
   cases rw';obtain ⟨its',r',p'⟩:=F.t _ _ h';exact aav p p' N7
  | non=>exact (jf p rw' rfl N7).1
  | bl _=>exact (jf p rw' rfl N7).1
  | int _=>exact (jf p rw' rfl N7).1
  | str _=>exact (jf p rw' rfl N7).1
  | emp _=>unfold dep at hu';omega
  | exn _ _ _ _ _=>unfold dep at hu';omega
  | dct _ _ _ _ _=>unfold dep at hu';omega
 | .non,e,v,w,u,u',A,hd,he,rv,rw',hu,_,hu'=>sq F A hd he rv rw' rfl (by omega) hu'
 | .bl _,e,v,w,u,u',A,hd,he,rv,rw',hu,_,hu'=>sq F A hd he rv rw' rfl (by omega) hu'
 | .int _,e,v,w,u,u',A,hd,he,rv,rw',hu,_,hu'=>sq F A hd he rv rw' rfl (by omega) hu'
 | .emp,e,v,w,u,u',A,hd,he,rv,rw',hu,hd1,hu'=>by unfold dep at hd1;omega
 | .exn _ _ _,e,v,w,u,u',A,hd,he,rv,rw',hu,hd1,hu'=>by unfold dep at hd1;omega
 | .dct _ _,e,v,w,u,u',A,hd,he,rv,rw',hu,hd1,hu'=>by unfold dep at hd1;omega
 | .str _,e,v,w,u,u',A,hd,he,rv,rw',hu,_,hu'=>sq F A hd he rv rw' rfl (by omega) hu'
theorem lH (F:HF K J s):∀{ds es:List D}{vs ws:List V}{us us':List QL}(A:RC),aD K J ds vs->aD K J es ws->Vals vs us->Vals ws us'->A.units + deps ds < Sw->deps ds<=1000->deps es<=1000->
  ∀(j:Nat) (h1:j < ds.length) (h2:j < es.length),S0 A s (us.getD j .none) (us'.getD j .none) (mZ ds es j)
 | _,_,_,_,_,_,A,.cons h hs,.cons h' hs',.cons r rs,.cons r' rs',hu,k1,k2,0,_,_=>lG F A h h' r r' (by unfold deps at hu;omega) (by unfold deps at k1;omega) (by unfold deps at k2;omega)
 | _,_,_,_,_,_,A,.cons h hs,.cons h' hs',.cons r rs,.cons r' rs',hu,k1,k2,j + 1,h1,h2=>lH F A hs hs' rs rs' (by unfold deps at hu;omega) (by unfold deps at k1;omega) (by unfold deps at k2;omega) j (by simpa using h1) (by simpa using h2)
end
end
section
variable {K:QJ}{J:Hp}{s:QM}
theorem DJ (F:HF K J s) (A:RC) (hd:Rep K J d v) (he:Rep K J e w) (rv:RelV v u) (rw':RelV w u') (hu:A.units + dep d < Sw) (hd1:dep d<=1000) (hu':dep e<=1000):SeqAt.RcAt A s u u' (bg d e)/\SeqAt.RcNeAt A s u u' (!bg d e):=by
 have N7:A.units < Sw:=by omega
 cases hd with
 | non=>
  cases rv;cases he with
  | non=>cases rw';exact ⟨.none_none,.none_none⟩
  | bl b=>cases rw';exact ⟨.none_bool b,.none_bool b⟩
  | int i=>obtain ⟨t,rfl⟩:=rw';exact ⟨.none_int i t,.none_int i t⟩
  | str x=>obtain ⟨t,rfl⟩:=rw';exact ⟨.none_str x t,.none_str x t⟩
  | tup h hs=>cases rw';obtain ⟨Qz,r,p⟩:=F.t _ _ h;exact ⟨.none_tuple p N7,.none_tuple p N7⟩
  | lst h hs=>cases rw';obtain ⟨Qz,r,p⟩:=F.l _ _ h;exact ⟨.none_list p N7,.none_list p N7⟩
  | emp _=>unfold dep at hu';omega
  | exn _ _ _ _ _=>unfold dep at hu';omega
  | dct _ _ _ _ _=>unfold dep at hu';omega
 | bl a=>
  cases rv;cases he with
  | non=>cases rw';exact ⟨.bool_none a,.bool_none a⟩
  | bl b=>cases rw';exact ⟨.bool_bool a b,.bool_bool a b⟩
  | int i=>obtain ⟨t,rfl⟩:=rw';exact ⟨.bool_int a i t,.bool_int a i t⟩
  | str x=>obtain ⟨t,rfl⟩:=rw';exact ⟨.bool_str a x t,.bool_str a x t⟩
  | tup h hs=>cases rw';obtain ⟨Qz,r,p⟩:=F.t _ _ h;exact ⟨.bool_tuple a p N7,.bool_tuple a p N7⟩
  | lst h hs=>cases rw';obtain ⟨Qz,r,p⟩:=F.l _ _ h;exact ⟨.bool_list a p N7,.bool_list a p N7⟩
  | emp _=>unfold dep at hu';omega
  | exn _ _ _ _ _=>unfold dep at hu';omega
  | dct _ _ _ _ _=>unfold dep at hu';omega
 | int a=>
  obtain ⟨t0,rfl⟩:=rv;cases he with
  | non=>cases rw';exact ⟨.int_none a t0,.int_none a t0⟩
  | bl b=>cases rw';exact ⟨.int_bool a t0 b,.int_bool a t0 b⟩
  | int i=>obtain ⟨t,rfl⟩:=rw';exact ⟨.int_int a t0 i t,.int_int a t0 i t⟩
  | str x=>obtain ⟨t,rfl⟩:=rw';exact ⟨.int_str a t0 x t,.int_str a t0 x t⟩
  | tup h hs=>cases rw';obtain ⟨Qz,r,p⟩:=F.t _ _ h;exact ⟨.int_tuple a t0 p N7,.int_tuple a t0 p N7⟩
  | lst h hs=>cases rw';obtain ⟨Qz,r,p⟩:=F.l _ _ h;exact ⟨.int_list a t0 p N7,.int_list a t0 p N7⟩
  | emp _=>unfold dep at hu';omega
  | exn _ _ _ _ _=>unfold dep at hu';omega
  | dct _ _ _ _ _=>unfold dep at hu';omega
 | str a=>
  obtain ⟨t0,rfl⟩:=rv;cases he with
  | non=>cases rw';exact ⟨.str_none a t0,.str_none a t0⟩
  | bl b=>cases rw';exact ⟨.str_bool a t0 b,.str_bool a t0 b⟩
  | int i=>obtain ⟨t,rfl⟩:=rw';exact ⟨.str_int a t0 i t,.str_int a t0 i t⟩
  | str x=>obtain ⟨t,rfl⟩:=rw';exact ⟨.str_str a t0 x t,.str_str a t0 x t⟩
  | tup h hs=>cases rw';obtain ⟨Qz,r,p⟩:=F.t _ _ h;exact ⟨.str_tuple a t0 p N7,.str_tuple a t0 p N7⟩
  | lst h hs=>cases rw';obtain ⟨Qz,r,p⟩:=F.l _ _ h;exact ⟨.str_list a t0 p N7,.str_list a t0 p N7⟩
  | emp _=>unfold dep at hu';omega
  | exn _ _ _ _ _=>unfold dep at hu';omega
  | dct _ _ _ _ _=>unfold dep at hu';omega
 | tup h hs=>
  cases rv;obtain ⟨Qz,r,p⟩:=F.t _ _ h;cases he with
  | non=>cases rw';exact ⟨.tuple_none p N7,.tuple_none p N7⟩
  | bl b=>cases rw';exact ⟨.tuple_bool b p N7,.tuple_bool b p N7⟩
  | int i=>obtain ⟨t,rfl⟩:=rw';exact ⟨.tuple_int i t p N7,.tuple_int i t p N7⟩
  | str x=>obtain ⟨t,rfl⟩:=rw';exact ⟨.tuple_str x t p N7,.tuple_str x t p N7⟩
  | lst h' hs'=>cases rw';obtain ⟨its',r',p'⟩:=F.l _ _ h';exact ⟨.tuple_list p p' N7,.tuple_list p p' N7⟩
  | emp _=>unfold dep at hu';omega
  | exn _ _ _ _ _=>unfold dep at hu';omega
  | dct _ _ _ _ _=>unfold dep at hu';omega
  | tup h' hs'=>
   cases rw';obtain ⟨its',r',p'⟩:=F.t _ _ h';rename_i a vs ds b ws es;have l1:Qz.length=ds.length:=by rw [<-r.length,hs.length]
   have l2:its'.length=es.length:=by rw [<-r'.length,hs'.length]
   have it:∀(j:Nat) (j1:j < Qz.toArray.size) (j2:j < its'.toArray.size),S0 A.in1 s Qz.toArray[j] its'.toArray[j] (mZ ds es j):=λj j1 j2=>by
    have k1:j < ds.length:=by rw [<-l1];simpa using j1
    have k2:j < es.length:=by rw [<-l2];simpa using j2
    have:=lH F A.in1 hs hs' r r' (by rw [in1_units];unfold dep at hu;omega) (by unfold dep at hd1;omega) (by unfold dep at hu';omega) j k1 k2;have m1:j < Qz.length:=by simpa using j1
    have m2:j < its'.length:=by simpa using j2
    simpa [m1,m2] using this
   simp only [bg];rw [<-yc,<-l1,<-l2];have q1:=YA p p' N7 it;have q2:=aaS p p' N7 it;exact ⟨by simpa using q1,by simpa using q2⟩
 | emp _=>unfold dep at hd1;omega
 | exn _ _ _ _ _=>unfold dep at hd1;omega
 | dct _ _ _ _ _=>unfold dep at hd1;omega
 | lst h hs=>
  cases rv;obtain ⟨Qz,r,p⟩:=F.l _ _ h;cases he with
  | non=>cases rw';exact ⟨.list_none p N7,.list_none p N7⟩
  | bl b=>cases rw';exact ⟨.list_bool b p N7,.list_bool b p N7⟩
  | int i=>obtain ⟨t,rfl⟩:=rw';exact ⟨.list_int i t p N7,.list_int i t p N7⟩
  | str x=>obtain ⟨t,rfl⟩:=rw';exact ⟨.list_str x t p N7,.list_str x t p N7⟩
  | tup h' hs'=>cases rw';obtain ⟨its',r',p'⟩:=F.t _ _ h';exact ⟨.list_tuple p p' N7,.list_tuple p p' N7⟩
  | emp _=>unfold dep at hu';omega
  | exn _ _ _ _ _=>unfold dep at hu';omega
  | dct _ _ _ _ _=>unfold dep at hu';omega
  | lst h' hs'=>
   cases rw';obtain ⟨its',r',p'⟩:=F.l _ _ h';rename_i a vs ds b ws es;have l1:Qz.length=ds.length:=by rw [<-r.length,hs.length]
   have l2:its'.length=es.length:=by rw [<-r'.length,hs'.length]
   have it:∀(j:Nat) (j1:j < Qz.toArray.size) (j2:j < its'.toArray.size),S0 A.in1 s Qz.toArray[j] its'.toArray[j] (mZ ds es j):=λj j1 j2=>by
    have k1:j < ds.length:=by rw [<-l1];simpa using j1
    have k2:j < es.length:=by rw [<-l2];simpa using j2
    have:=lH F A.in1 hs hs' r r' (by rw [in1_units];unfold dep at hu;omega) (by unfold dep at hd1;omega) (by unfold dep at hu';omega) j k1 k2;have m1:j < Qz.length:=by simpa using j1
    have m2:j < its'.length:=by simpa using j2
    simpa [m1,m2] using this
   simp only [bg];by_cases z:ds.length=es.length
   ·rw [<-mJ z,<-l1];have q1:=YT p p' (by simp;omega) N7 it;have q2:=aa3 p p' (by simp;omega) N7 it;exact ⟨by simpa using q1,by simpa using q2⟩
   ·rw [mH z];exact ⟨.lists_lengths p p' (by simp;omega) N7,.lists_lengths p p' (by simp;omega) N7⟩
end
section
variable {X:Cx}{c:C}{e a b tg:RA}{es:List RA}{ga gb g:G R}{pos:Pos}
theorem RR.rep {He J H:Hp}(hp:HI c J H):∀{r:R}{v:V}{d:D},RR c He J H r v->(∀xs,r=.l .fresh xs\/r=.l .own xs\/r=.l .bor xs->d=.lst xs)->(∀x,r=.d x->d=x)->(∀ks vs,r≠.mo ks vs/\r≠.mb ks vs/\r≠.mf ks vs/\r≠.ln ks)->Rep c.K H d v
 | .mo _ _,_,_,_,_,_,n=>((n _ _).1 rfl).elim
 | .mb _ _,_,_,_,_,_,n=>((n _ _).2.1 rfl).elim
 | .mf _ _,_,_,_,_,_,n=>((n _ _).2.2.1 rfl).elim
 | .ln _,_,_,_,_,_,n=>((n _ []).2.2.2 rfl).elim
 | .d x,v,d,h,_,k,_=>by rw [k x rfl];exact Rep.mono hp.sub h
 | .l m xs,v,d,h,k,_,_=>by have e:d=.lst xs:=k xs (by cases m;exact .inl rfl;exact .inr (.inl rfl);exact .inr (.inr rfl));obtain ⟨a,vs,rfl,h1,h2⟩:=RR.list hp h rfl;rw [e];exact .lst h1 (h2.mono hp.sub)
noncomputable def R.dat:R->D
 | .d x=>x
 | .l _ xs=>.lst xs
 | .mo ks vs=>.dct ks vs
 | .mb ks vs=>.dct ks vs
 | .mf ks vs=>.dct ks vs
 | .ln xs=>.lst xs
theorem RR.dat {He J H:Hp}(hp:HI c J H){r:R}(h:RR c He J H r v):Rep c.K H r.dat v:=by
 by_cases hm:∃ks vs,r=.mo ks vs
 ·obtain ⟨ks,vs,rfl⟩:=hm;obtain ⟨a,rfl,h,_⟩:=h;exact h.rep hp.sub
 by_cases hb:∃ks vs,r=.mb ks vs
 ·obtain ⟨ks,vs,rfl⟩:=hb;obtain ⟨a,rfl,h⟩:=h;exact (h.mono (aL.refl _) hp.ent).rep hp.sub
 by_cases hf:∃ks vs,r=.mf ks vs
 ·obtain ⟨ks,vs,rfl⟩:=hf;obtain ⟨a,rfl,h,_⟩:=h;exact h.rep hp.sub
 by_cases hl:∃xs,r=.ln xs
 ·obtain ⟨xs,rfl⟩:=hl;obtain ⟨a,vs,rfl,h,_,_,h5⟩:=h;exact .lst (.inl (.inl h)) (h5.reps.mono hp.sub)
 refine h.rep hp (λxs q=>?_) (λx q=>by rw [q];rfl) λks vs=>⟨λz=>hm ⟨_,_,z⟩,λz=>hb ⟨_,_,z⟩,λz=>hf ⟨_,_,z⟩,λz=>hl ⟨_,z⟩⟩;rcases q with q | q | q <;> (rw [q];rfl)
def Fj (K:QJ) (neg:Bool):R2:=λx y H Q=>∃d e,Rep K H d x/\Rep K H e y/\dep d<=60/\dep e<=60/\Q (.bl (if neg then !bg d e else bg d e)) H
theorem g7 {H:Hp}(I:Inv X Qx σ H s):HF X.K H s:=HF.of (c:=⟨X.K,H,H,λ_=>True⟩) I (aL.refl H)
theorem Dm (hu:X.A.units + 64 < Sw):c5 X (Sx .Eq) (Fj X.K false):=by intro Qx s σ H x y v u Q I rx ry h;obtain ⟨d,e,h1,h2,h3,h4,q⟩:=h;exact (DJ (g7 I) X.A h1 h2 rx ry (by omega) (by omega) (by omega)).1 X.prog X.w X.xe _ ⟨.bl _,H,I,rfl,q⟩
theorem Kq (hu:X.A.units + 64 < Sw):c5 X (Sx .NotEq) (Fj X.K true):=by intro Qx s σ H x y v u Q I rx ry h;obtain ⟨d,e,h1,h2,h3,h4,q⟩:=h;exact (DJ (g7 I) X.A h1 h2 rx ry (by omega) (by omega) (by omega)).2 X.prog X.w X.xe _ ⟨.bl _,H,I,rfl,q⟩
def dM (neg:Bool) (x y:R):M R:=if dep x.dat<=60/\dep y.dat<=60 then .ok (.d (.bl (if neg then !bg x.dat y.dat else bg x.dat y.dat))) else .bad
theorem A2 (neg:Bool) (hK:X.K=c.K):BD c (Fj X.K neg) (dM neg):=by
 intro He He' J H x y u v Q hp rx ry w;unfold dM at w;split at w
 ·rename_i hd;exact ⟨x.dat,y.dat,by rw [hK];exact rx.dat hp,by rw [hK];exact ry.dat hp,hd.1,hd.2,w _ J H (Ext.refl hp.sub) (.bl _)⟩
 ·exact w.elim
def inD (d:D) (xs:List D):Bool:=xs.any λx=>bg x d
noncomputable def K6 (K:QJ) (neg:Bool):R2:=λx y H Q=>∃d p vs ds,Rep K H d x/\dep d<=60/\y=.ref p/\(bV K H p vs\/cC K H p vs)/\aD K H ds vs/\deps ds<=60/\Q (.bl (if neg then !inD d ds else inD d ds)) H
theorem vI {K:QJ}{H:Hp}{y:QL}:∀{ds:List D}{vs:List V}{us:List QL},aD K H ds vs->Vals vs us->deps ds<=60->y∈us->∃d' v',Rep K H d' v'/\RelV v' y/\dep d'<=60
 | _,_,_,.nil,.nil,_,hy=>nomatch hy
 | _,_,_,.cons r hs,.cons q rs,hd,hy=>by
  unfold deps at hd;rcases Q9.mp hy with rfl | hy
  ·exact ⟨_,_,r,q,by omega⟩
  ·exact vI hs rs (by omega) hy
open Classical in
noncomputable def AZ (K:QJ) (H:Hp) (d:D) (y:QL):Bool:=decide (∃d' v',Rep K H d' v'/\RelV v' y/\dep d'<=1000/\bg d' d=true)
theorem zS {K:QJ}{H:Hp}{s:QM}(F:HF K H s){d d':D}{v':V}{y:QL}(r':Rep K H d' v') (q':RelV v' y) (hd:dep d'<=1000):AZ K H d y=bg d' d:=by
 classical
 unfold AZ;cases z:bg d' d with
 | true=>exact decide_eq_true ⟨d',v',r',q',hd,z⟩
 | false=>
  refine decide_eq_false ?_;rintro ⟨d2,v2,r2,q2,hd2,z2⟩;have:v2=v':=q2.inj q';subst this;rw [Rep.inj F r2 r' hd2 hd] at z2;rw [z] at z2;cases z2
theorem xF {K:QJ}{H:Hp}{s:QM}(F:HF K H s){d:D}:∀{ds:List D}{vs:List V}{us:List QL},aD K H ds vs->Vals vs us->deps ds<=1000->us.any (AZ K H d)=inD d ds
 | _,_,_,.nil,.nil,_=>rfl
 | _,_,_,.cons r hs,.cons q rs,hd=>by unfold deps at hd;unfold inD;rw [VX,VX,xF F hs rs (by omega),zS F r q (by omega)];rfl
theorem B8 {A:RC}{s:QM}{K:QJ}{H:Hp}(F:HF K H s){d:D}{x:V}{u:QL}(h:Rep K H d x) (rx:RelV x u) (OP:dep d<=60) (hA:A.units + 60 < Sw){ds:List D}{vs:List V}{us:List QL}(hs:aD K H ds vs) (rs:Vals vs us) (hd:deps ds<=60):
  ∃e:QL->Bool,(∀y∈us,S0 A s y u (e y))/\us.any e=inD d ds:=by refine ⟨AZ K H d,λy hy=>?_,xF F hs rs (by omega)⟩;obtain ⟨d',v',r',q',hd'⟩:=vI hs rs hd hy;rw [zS F r' q' (by omega)];exact lG F A r' h q' rx (by omega) (by omega) (by omega)
theorem Dn (hu:X.A.units + 64 < Sw):c5 X (Sx .In) (K6 X.K false):=by
 intro Qx s σ H x y v u Q I rx ry h;obtain ⟨d,p,vs,ds,h1,OP,rfl,h2,h3,h4,q⟩:=h;cases ry;have F:=g7 I;rcases h2 with h2 | h2
 ·obtain ⟨Qz,r,pl⟩:=F.l _ _ h2;obtain ⟨e,he,hany⟩:=B8 (A:=X.A.in1) F h1 rx OP (by rw [in1_units];omega) h3 r h4;exact SeqAt.in_listAt e pl (λz hz=>he z (by simpa using hz)) ⟨.bl _,H,I,rfl,by rw [show Qz.toArray.any e=Qz.any e by simp,hany];exact q⟩
 ·obtain ⟨Qz,r,pl⟩:=F.t _ _ h2;obtain ⟨e,he,hany⟩:=B8 (A:=X.A.in1) F h1 rx OP (by rw [in1_units];omega) h3 r h4;exact SeqAt.in_tupleAt e pl (λz hz=>he z (by simpa using hz)) ⟨.bl _,H,I,rfl,by rw [show Qz.toArray.any e=Qz.any e by simp,hany];exact q⟩
noncomputable def lI (neg:Bool) (x y:R):M R:=gz y >>= λys=>if deps ys<=60/\dep x.dat<=60 then .ok (.d (.bl (if neg then !inD x.dat ys else inD x.dat ys))) else .bad
theorem F8 (neg:Bool) (hK:X.K=c.K):BD c (K6 X.K neg) (lI neg):=by
 intro He He' J H x y u v Q hp rx ry w;obtain ⟨ys,q,w⟩:=h_ w;obtain ⟨p,vs,rfl,h1,h2⟩:=jC hp ry q;split at w
 ·rename_i hd;exact ⟨x.dat,p,vs,ys,by rw [hK];exact rx.dat hp,hd.2,rfl,by rw [hK];exact h1,by rw [hK];exact h2.mono hp.sub,hd.1,w _ J H (Ext.refl hp.sub) (.bl _)⟩
 ·exact w.elim
abbrev GO:=G (Option Int)
def tO (c:C) (g:GO):TO:=λσ H Q=>∃J env,SR c J H σ env/\cA (g env) (λo=>∀J' H',Ext J H J' H'->Q o H') c.T
def Jf (X:Cx) (c:C) (e:Option RA) (g:GO):Prop:=PO X e (tO c g)
theorem GB {X:Cx}{e:Option RA}{t t':TO}(h:PO X e t) (k:∀σ H Q,t' σ H Q->t σ H Q):PO X e t':=λQx s σ H Q I q=>h Qx s σ H Q I (k σ H Q q)
def yl:GO:=λ_=>.ok none
noncomputable def ym (g:G R):GO:=λenv=>g env >>= λr=>match r with
 | .d (.int i)=>.ok (some i)
 | _=>.bad
def cutD (xs:List D) (lo hi:Option Int):List D:=(xs.drop (HT.bC xs.length 0 lo)).take (HT.bC xs.length xs.length hi - HT.bC xs.length 0 lo)
theorem aD.cut {K:QJ}{J:Hp}{xs:List D}{vs:List V}(h:aD K J xs vs) (lo hi:Option Int):aD K J (cutD xs lo hi) (kU vs lo hi):=by unfold cutD kU;rw [h.length];exact (h.drop _).take _
def qe (f:R->Option Int->Option Int->M R) (g:G R) (lo hi:GO):G R:=λenv=>g env >>= λx=>lo env >>= λl=>hi env >>= λu=>f x l u
theorem L3 {r:V->Option Int->Option Int->Hp->VK->Prop}{f:R->Option Int->Option Int->M R}{lo hi:Option RA}{gl gh:GO}{p2:Pos}(hr:rQ X r) (hf:∀(He J H:Hp) (x:R) (v:V) (l u:Option Int) (Q:VK),HI c J H->RR c He J H x v->
   cA (f x l u) (λz=>∀w J' H',Ext J H J' H'->RR c H J' H' z w->Q w H') c.T->r v l u H Q) (h:PD X c e g) (hl:Jf X c lo gl) (hh:Jf X c hi gh):PD X c (.Subscript e (.Slice lo hi none p2) pos) (qe f g gl gh):=
 fz (Fb hr h hl hh) λσ H Q ⟨J,env,sr,w⟩=>by refine ⟨J,env,sr,aC (aH w) λx wx v J1 H1 e1 r1=>?_⟩;refine ⟨J1,env,sr.ext e1,aC (aH wx) λl wl J2 H2 e2=>?_⟩;refine ⟨J2,env,(sr.ext e1).ext e2,aC (aH wl) λu wu J3 H3 e3=>?_⟩;have ee:=(e1.trans e2).trans e3;exact hf H J3 H3 x v l u Q (sr.hp.ext ee) ((r1.ext e2).ext e3) (aC wu λz q w J' H' e4 r4=>q w J' H' (ee.trans e4) (RR.from ee.h r4))
def M3 (x:R) (l u:Option Int):M R:=jK x >>= λxs=>.ok (.l .fresh (cutD xs l u))
theorem BL {ss:List Str}:∀{us:List QL},Vals (ss.map V.str) us->StrsAre us ss:=by
 induction ss with
 | nil=>intro us h;cases h;exact .nil
 | cons x r ih=>
  intro us h;cases h with
  | cons q rs=>
   obtain ⟨t,rfl⟩:=q;exact .cons x t (ih rs)
theorem v7:∀{us:List QL}{ss:List Str},StrsAre us ss->Vals (ss.map V.str) us
 | _,_,.nil=>.nil
 | _,_,.cons y t h=>.cons ⟨t,rfl⟩ (v7 h)
def je (x y:Str):Bool:=decide (x.cps.toList<=y.cps.toList)
def pQ (ss:List Str):List Str:=ss.mergeSort je
theorem vt (x y z:Str) (h1:je x y=true) (h2:je y z=true):je x z=true:=by unfold je at *;exact decide_eq_true (List.le_trans (of_decide_eq_true h1) (of_decide_eq_true h2))
theorem Df (x y:Str):(je x y || je y x)=true:=by
 unfold je;rw [TX];rcases List.le_total x.cps.toList y.cps.toList with h | h
 ·exact .inl (decide_eq_true h)
 ·exact .inr (decide_eq_true h)
theorem EO (h1:je x y=true) (h2:je y x=true):x=y:=by unfold je at *;have:=YU (of_decide_eq_true h1) (of_decide_eq_true h2);obtain ⟨⟨cx⟩⟩:=x;obtain ⟨⟨cy⟩⟩:=y;simp only at this;rw [this]
theorem yY (ss:List Str):(pQ ss).Pairwise λx y=>je x y=true:=List.pairwise_mergeSort vt Df ss
theorem BJ (ss:List Str):(pQ ss).Perm ss:=List.mergeSort_perm ss je
theorem tw:∀(x:Str) (r:List Str),risingS x r=true->(x::r).Pairwise λx y=>je x y=true
 | x,[],_=>by simp
 | x,y::r,h=>by
  unfold risingS at h;rw [QX] at h;have hy:=tw y r h.2;have hxy:je x y=true:=by
   have h1:=h.1;rw [ltCps_eq] at h1;unfold je;refine decide_eq_true ?_;have:¬y.cps.toList < x.cps.toList:=by simpa using h1
   exact this
  refine Uk.mpr ⟨λz hz=>?_,hy⟩;rcases Q9.mp hz with rfl | hz
  ·exact hxy
  ·exact vt x y z hxy ((Uk.mp hy).1 z hz)
theorem BI {ss ss':List Str}(hp:ss'.Perm ss) (hs:sortedS ss'=true):ss'=pQ ss:=by
 have pw:ss'.Pairwise λx y=>je x y=true:=by
  cases ss' with
  | nil=>exact Uz
  | cons x r=>exact tw x r hs
 exact (hp.trans (BJ ss).symm).eq_of_pairwise (λx y _ _ h1 h2=>EO h1 h2) pw (yY ss)
theorem xT:bN X (.builtin "sorted") (λxs H Q=>∃p ss,xs=[.ref p]/\bV X.K H p (ss.map V.str)/\ss.length < 64/\∀ss',ss'.Perm ss->sortedS ss'=true->∀l,H l=none->Q (.ref l) (upd H l (.lst (ss'.map V.str)))):=by
 intro Qx s σ H xs us Q I r h;obtain ⟨p,ss,rfl,hq,hl,q⟩:=h;obtain ⟨u,rfl,rx⟩:=vals1 r;cases rx;obtain ⟨Qz,r',pl,hz⟩:=I.list hq;have hlen:=r'.length;refine sorted_strs pl.isList (BL r') (by rw [<-hlen,QN];exact hl) λout ss' a1 a2 a3=>?_;obtain ⟨n,hn⟩:=sortedAll_at s.heap Qz out;have kp:∀b o,s.heap.get? b=some o->(sortedAll s.heap Qz out).get? b=some o:=λb o e=>sortedAll_old e;have fr:H (s.heap.objs.size + 1)=none:=I.hok.fresh (Tz _);have ll:(ss'.map V.str).length=(ss.map V.str).length:=by rw [QN,QN,a2.length_eq]
 refine ⟨.ref (s.heap.objs.size + 1),_,I.laid (t':=s.toks) kp (Tz _) (show cg X.prog X.w _ _ _ (.lst (ss'.map V.str)) from ⟨by rw [ll];exact hz,out.toList,n,v7 a1,by simpa [Ur] using hn⟩),rfl,q ss' a2 a3 _ fr⟩
noncomputable def strsOf:List D->Option (List Str)
 | []=>some []
 | .str x::r=>(strsOf r).map (x::·)
 | _::_=>none
theorem tQ {K:QJ}{J:Hp}:∀{ds:List D}{vs:List V}{ss:List Str},strsOf ds=some ss->aD K J ds vs->vs=ss.map V.str
 | [],_,_,h,.nil=>by cases h;rfl
 | .str x::r,_,ss,h,.cons q rs=>by
  unfold strsOf at h;cases z:strsOf r with
  | none=>rw [z] at h;cases h
  | some ss'=>
   rw [z] at h;cases h;cases q;rw [tQ z rs];rfl
theorem vK {K:QJ}{J:Hp}:∀(ss:List Str),aD K J (ss.map D.str) (ss.map V.str)
 | []=>.nil
 | x::r=>.cons (.str x) (vK r)
noncomputable def lK:List R->M R
 | [r]=>jK r >>= λxs=>match strsOf xs with
  | some ss=>if ss.length < 64 then .ok (.l .fresh ((pQ ss).map .str)) else .bad
  | none=>.bad
 | _=>.bad
theorem iA:RJ "sorted"=some (.builtin "sorted"):=by decide +kernel
theorem foldl_size (c:Array Nat):∀(k:Nat) (acc:Array Nat),((RS k c).foldl (·++·) acc).size=acc.size + k * c.size
 | 0,acc=>by simp
 | k + 1,acc=>by rw [T8,V9,foldl_size c k,YB,Nat.succ_mul];omega
def gT (x:Str) (n:Nat):Str:=⟨(RS n x.cps).foldl (·++·) #[]⟩
theorem zB (x:Str) (n:Nat):(gT x n).length=n * x.length:=by unfold gT ZV;simp only;rw [foldl_size];simp
theorem HV:c5 X (Uy .Mult) (λx y H Q=>∃z n,x=.str z/\y=.int n/\0<=n/\n<=1000/\z.length<=1000/\Q (.str (gT z n.toNat)) H):=by
 intro Qx s σ H x y v u Q I rx ry h;obtain ⟨z,n,rfl,rfl,h0,h1,h2,q⟩:=h;obtain ⟨t,rfl⟩:=rx;obtain ⟨t',rfl⟩:=ry;have hz:XR (z.length * n.toNat)=false:=by have:z.length * n.toNat<=1000 * 1000:=Vz h2 (by omega);unfold XR;exact decide_eq_false (by have:=RX;omega)
 refine PySem.P.mul_str (by
  rw [decide_eq_false (by omega:¬n < -(2 ^ 63:Int)),decide_eq_false (by omega:¬n ≥ 2 ^ 63)];rfl) (λhn _=>?_) (λ_ _=>hz) ?_
 ·have:(2 ^ 63 - 1:Int) / 1000<=(2 ^ 63 - 1) / n:=by refine (Int.le_ediv_iff_mul_le (by omega)).mpr ?_;have:(2 ^ 63 - 1:Int) / 1000 * n<=(2 ^ 63 - 1:Int) / 1000 * 1000:=Int.mul_le_mul_of_nonneg_left h1 (by decide);exact Int.le_trans this (by decide)
  have e:(2 ^ 63 - 1:Int) / 1000=9223372036854775:=by decide
  omega
 ·split
  ·rename_i hn;have e:n=0:=by omega
   subst e;exact ⟨by decide,.str _,H,I.tok _,⟨_,rfl⟩,q⟩
  ·split
   ·rename_i hn hc;have e:gT z n.toNat=z:=by
     unfold gT;rw [TX] at hc;rcases hc with hc | hc
     ·have e:n=1:=by simpa using hc
      subst e;simp
     ·have e:z.length=0:=by simpa using hc
      have e2:z.cps=#[]:=by unfold ZV at e;exact Array.eq_empty_of_size_eq_zero e
      obtain ⟨cz⟩:=z;simp only at e2;subst e2;congr 1;generalize n.toNat=k
      induction k with
      | zero=>rfl
      | succ k ih=>rw [T8,V9];exact ih
    rw [e] at q;exact ⟨.str z,H,I,⟨_,rfl⟩,q⟩
   ·exact ⟨by
     have:=zB z n.toNat
     unfold gT at this;rw [this,Nat.mul_comm];have:z.length * n.toNat<=1000 * 1000:=Vz h2 (by omega);rw [RX];omega,.str _,H,I.tok _,⟨_,rfl⟩,q⟩
noncomputable def Ba:R->R->M R
 | .d (.str z),.d (.int n)=>if 0<=n/\n<=1000/\z.length<=1000 then .ok (.d (.str (gT z n.toNat))) else .bad
 | _,_=>.bad
noncomputable def j4:D->String
 | .non=>"NoneType"
 | .bl _=>"bool"
 | .int _=>"int"
 | .str _=>"str"
 | .tup _=>"tuple"
 | .lst _=>"list"
 | .emp=>"dict"
 | .exn _ _ _=>"exc"
 | .dct _ _=>"dict"
def o9 (t T:String):Bool:=t == T || (t == "bool" && T == "int")
noncomputable def CV:R->Bool
 | .d (.int _)=>true
 | _=>false
noncomputable def JP:R->Bool
 | .d (.str _)=>true
 | _=>false
def cO (x y:R):M R:=if CV x then uq x y else if JP x then r6 x y else r_ x y
def f6 (x y:R):M R:=if CV x then JF x y else Ba x y
noncomputable def a_ (x y:R):M R:=match x,y with
 | .d (.str z),.d (.int i)=>if z.length<=sizeLine then (match jL z.cps.toList i with
  | some k=>.ok (.d (.str ⟨#[k]⟩))
  | none=>.bad) else .bad
 | x,.d (.int i)=>gz x >>= λxs=>(match jL xs i with
  | some d=>.ok (.d d)
  | none=>.bad)
 | _,_=>.bad
noncomputable def bx (P:Ra) (w:Rz) (K:QJ) (mg:Str->Option QL) (base:Sn) (k n:Nat) (x:Str) (Fm:List S->M R):Prop:=
 ∃f fd ps,iQ P w K mg base ny k f fd ps (o8 K n Fm)/\mg x=some (.ref f)/\Ug K (.ref f)=true/\Binds K fd ps []
theorem Jr {P:Ra}{w:Rz}{K:QJ}{mg:Str->Option QL}{base:Sn}{x QE:Str}{st:TJ}{f:Rb}{fd:Ry}{N ps:List Str}{k:Nat}{Fm:List S->M R}(F:nA K x QE st f fd) (hm:mg x=some (.ref f)) (Sc:gm N ps (bu st))
  (hbi:∀(kV doc pm:QL) (an:Option Rb) (cdv ct:QL) (us:List QL),us.length=ps.length->YZ (SG x QE (eV st) (cP st) (bu st) .none kV doc pm an cdv ct) ⟨us,[]⟩=pure (ps.zip us)){gB:G O}
  (hb:∀(cdv:QL) (A:RC) (outer:List Env) (s:QM) (H:Hp) (E:XK) (J:Hp) (T:Exc->Prop),dg k (A.deeper (Ww QE (bu st) s.heap.objs.size f cdv))->
   Jd (CF P w K mg base N QE (bu st) f cdv A outer s H E) ⟨K,H,J,T⟩ (cP st) gB)
  (hF:∀as r,as.length=ps.length->Fm as=.ok r->fin (gB (aW N as))=.ok r):bx P w K mg base (k + 1) ps.length x Fm:=
 ⟨f,fd,ps,JH F Sc hb hF,hm,F.kp,F.binds hbi⟩
noncomputable def EZ:List Str->Bool
 | []=>true
 | x::r=>!(r.contains x) && EZ r
theorem bI:∀{l:List Str},EZ l=true->l.Nodup
 | [],_=>Tg
 | x::r,h=>by unfold EZ at h;rw [QX] at h;refine SX.mpr ⟨λz=>?_,bI h.2⟩;have:=h.1;simp [z] at this
theorem Ew {H:Hp}{s:QM}{a C:Rb}{dx:Option Rb}(I:L2.Inv X Qx σ H s) (h:H a=some (DX.XO a C dx)) (xf:XF H dx ns vs):∃ox od,UM s.heap a ox C od/\od.isSome=dx.isSome/\(∀d,dx=some d->∃o,od=some o/\s.heap.get? d=some o):=by
 obtain ⟨⟨oe,fs,h1,h2,h3,h4⟩,_⟩:=I.hok a _ h;have hn:ZD oe=true:=by unfold ZD;rw [h4]
 rcases xf with ⟨rfl,_⟩ | ⟨d,rfl,_,hd⟩
 ·exact ⟨oe,none,⟨h1,h2,hn,by rw [h3];exact Xr⟩,rfl,λd z=>by cases z⟩
 ·obtain ⟨m,⟨o,es,ep,k1,_⟩,_⟩:=I.hok d _ hd;exact ⟨oe,some o,⟨h1,h2,hn,by rw [h3];exact k1⟩,rfl,λd' z=>by cases z;exact ⟨o,rfl,k1⟩⟩
noncomputable def zI (T:String):Prop:=(∀(K:QJ) (t:String),t∈["NoneType","bool","int","str","tuple","list","dict"]->XH K (.type t) (.type T)=some (o9 t T))/\Y_ T=true/\DX.ze.contains (.type T)=false/\o9 "exc" T=false
theorem HB:zI "int":=⟨λK t h=>by
 simp only [Q9,Sl,or_false] at h;rcases h with rfl | rfl | rfl | rfl | rfl | rfl | rfl <;> rfl,by decide +kernel,by decide,by decide⟩
theorem EI:zI "bool":=⟨λK t h=>by
 simp only [Q9,Sl,or_false] at h;rcases h with rfl | rfl | rfl | rfl | rfl | rfl | rfl <;> rfl,by decide +kernel,by decide,by decide⟩
theorem kit_tuple:zI "tuple":=⟨λK t h=>by
 simp only [Q9,Sl,or_false] at h;rcases h with rfl | rfl | rfl | rfl | rfl | rfl | rfl <;> rfl,by decide +kernel,by decide,by decide⟩
theorem yw:zI "list":=⟨λK t h=>by
 simp only [Q9,Sl,or_false] at h;rcases h with rfl | rfl | rfl | rfl | rfl | rfl | rfl <;> rfl,by decide +kernel,by decide,by decide⟩
theorem zp {T:String}(kit:zI T):
  bN X (.builtin "isinstance") (λxs H Q=>∃d x,xs=[x,.ty T]/\Rep X.K H d x/\Q (.bl (o9 (j4 d) T)) H):=by
 intro Qx s σ H xs us Q I r h;obtain ⟨d,x,rfl,hd,q⟩:=h;obtain ⟨u,w',rfl,rx,ry⟩:=vals2 r;cases ry;have fin:∀tk,EP X Qx σ Q (.bool (o9 (j4 d) T)) {s with toks:=tk}:=λtk=>⟨.bl _,H,I.tok tk,rfl,q⟩;have F:=g7 I;cases hd with
 | non=>cases rx;exact SY W.kitx_none I.kIn Xr (kit.1 X.K _ (by simp [j4])) (λz=>nomatch z) fin
 | bl y=>cases rx;exact SY W.kitx_bool I.kIn Xr (kit.1 X.K _ (by simp [j4])) (λz=>nomatch z) fin
 | int i=>obtain ⟨t,rfl⟩:=rx;exact SY W.kitx_int I.kIn Xr (kit.1 X.K _ (by simp [j4])) (λz=>nomatch z) fin
 | str y=>obtain ⟨t,rfl⟩:=rx;exact SY W.kitx_str I.kIn Xr (kit.1 X.K _ (by simp [j4])) (λz=>nomatch z) fin
 | tup h hs=>
  cases rx;obtain ⟨Qz,r,o,h1,h2,_⟩:=F.t _ _ h;exact SY W.kitx_tuple I.kIn ⟨o,h1,h2⟩ (kit.1 X.K _ (by simp [j4])) (λz=>nomatch z) fin
 | lst h hs=>
  cases rx;obtain ⟨Qz,r,o,h1,h2,_⟩:=F.l _ _ h;exact SY W.kitx_list I.kIn ⟨o,h1,h2⟩ (kit.1 X.K _ (by simp [j4])) (λz=>nomatch z) fin
 | emp h=>
  cases rx;obtain ⟨o,h1,h2⟩:=F.e _ h;exact SY YC I.kIn ⟨o,h1,h2⟩ (kit.1 X.K _ (by simp [j4])) (λz=>nomatch z) fin
 | dct h _ _ _ _=>
  cases rx;obtain ⟨o,es,h1,h2,_⟩:=F.d _ _ _ h;exact SY YC I.kIn ⟨o,h1,h2.1⟩ (kit.1 X.K _ (by simp [j4])) (λz=>nomatch z) fin
 | exn h1 h2 h3 hs hx=>
  cases rx;obtain ⟨P,G,E⟩:=hx;obtain ⟨ox,od,J,_⟩:=Ew I h1 h3;simp only [j4,kit.2.2.2] at fin;exact SY (DX.EJ G E) I.kIn ⟨ox,od,J⟩ (DX.Ka E kit.2.1 kit.2.2.1) (λz=>nomatch z) fin
def yk (T:String) (g:G R):G R:=λenv=>g env >>= λr=>.ok (.d (.bl (o9 (j4 r.dat) T)))
noncomputable def i9:List D->Option (List Bool)
 | []=>some []
 | .bl k::r=>(i9 r).map (k::·)
 | _::_=>none
theorem nZ {K:QJ}{J:Hp}:∀{ds:List D}{vs:List V}{ks:List Bool},i9 ds=some ks->aD K J ds vs->vs=ks.map V.bl
 | [],_,_,h,.nil=>by cases h;rfl
 | .bl x::r,_,ks,h,.cons q rs=>by
  unfold i9 at h;cases z:i9 r with
  | none=>rw [z] at h;cases h
  | some ks'=>
   rw [z] at h;cases h;cases q;rw [nZ z rs];rfl
theorem q_:∀{ks:List Bool}{us:List QL},Vals (ks.map V.bl) us->us=ks.map TM
 | [],_,.nil=>rfl
 | k::ks,_,.cons r rs=>by cases r;rw [q_ rs];rfl
theorem all_range (ks:List Bool):(QS ks.length).all (λi=>ks.getD i true)=ks.all id:=by
 induction ks with
 | nil=>rfl
 | cons k r ih=>
  rw [Sb,Vk,S_,Wj,S_];simp only [XS];rw [<-ih];rfl
theorem Cn (hc:X.calm=true):bN X (.builtin "all") (λxs H Q=>∃(p:Rb) (ks:List Bool),xs=[.ref p]/\bV X.K H p (ks.map V.bl)/\Q (.bl (ks.all id)) H):=by
 intro Qx s σ H xs us Q I r h;obtain ⟨p,ks,rfl,hq,q⟩:=h;obtain ⟨u,rfl,rx⟩:=vals1 r;cases rx;obtain ⟨Qz,r',pl,hz⟩:=I.list hq;have hi:=q_ r';subst hi;have PF:p≠s.heap.objs.size:=by obtain ⟨o,h1,_⟩:=pl.isList;exact Rl (Q5 h1)
 refine call_all_walk (Vq pl.isList ⟨s.heap.objs.size,_,_,_,_,_,(λi=>ks.getD i true),rfl,Z1 (A:=X.A.in1) (show X.A.in1.handled=none from I.ok.hd hc) s.heap.objs.size p PF (ks.map TM).toArray,⟨⟨_,Q2 _ rfl,rfl,rfl⟩,YV pl.isList _⟩,?_,λh' tk k=>?_⟩)
 ·intro i v s' Q' E' hP hQ;have e:∃k,ks[i]?=some k/\v=.bool k:=by
   have hP':(ks.map TM)[i]?=some v:=by simpa using hP
   rw [Rc] at hP';cases z:ks[i]? with
   | none=>rw [z] at hP';cases hP'
   | some k=>rw [z] at hP';cases hP';exact ⟨k,rfl,rfl⟩
  obtain ⟨k,e1,rfl⟩:=e;simp only at hQ;rw [RI,e1] at hQ;exact R3 hQ
 ·have sz:(ks.map TM).toArray.size=ks.length:=by simp
  rw [sz,all_range];refine ⟨.bl (ks.all id),H,?_,rfl,q⟩;refine I.kept λb o e=>k b o (λz=>?_) (QU _ e);have:b=s.heap.objs.size:=by simpa using z
  exact absurd (this▸Q5 e) (SS _)
noncomputable def n_:List R->M R
 | [r]=>jK r >>= λxs=>match i9 xs with
  | some ks=>.ok (.d (.bl (ks.all id)))
  | none=>.bad
 | _=>.bad
theorem Cg:RJ "all"=some (.builtin "all"):=by decide +kernel
theorem Ia (hm:X.mg x=some u) (r:RelV v u) (hr:∀J,Rep c.K J d v) (hg:Gl X x:=by rfl) (hd:(x == ("__debug__":Str))=false:=by decide):PD X c (.Name x pos) (gC d):=sX hr (Aq hg hm r hd)
theorem Ce {H:Hp}{s:QM}(I:Inv X Qx σ H s):TN < s.heap.objs.size:=by have h:Rp < s.heap.objs.size:=(I.mod.glob.keeps I.bk).lt;exact Us (by decide) h
theorem Dl:c5 X (Uy .Add) (λx y H Q=>∃a b xs ys,x=.ref a/\y=.ref b/\cC X.K H a xs/\cC X.K H b ys/\xs.length + ys.length<=sizeLine/\
  (xs=[]->Q (.ref b) H)/\(ys=[]->Q (.ref a) H)/\∀p,H p=none->Q (.ref p) (upd H p (.tup (xs++ys)))):=by
 intro Qx s σ H x y v u Q I rx ry h;obtain ⟨a,b,xs,ys,rfl,rfl,ha,hb,hz,q0,q1,q2⟩:=h;by_cases hx:xs=[]
 ·cases rx;cases ry;obtain ⟨Qz,r1,p1,_⟩:=I.tuple ha;obtain ⟨its2,r2,p2,_⟩:=I.tuple hb;have he:Qz=[]:=r1.nil_iff.mpr hx;subst he;obtain ⟨⟨cls,dd,data,sl⟩,ho,hc,n,hd⟩:=id p1;obtain ⟨⟨cls2,dd2,data2,sl2⟩,ho2,hc2,n2,hd2⟩:=id p2;simp only at hc hd hc2 hd2;subst hc hd hc2 hd2;exact YL ⟨_,ho,rfl⟩ ⟨_,ho2,rfl⟩ WU X5 Vh U8 (UX _ _) (tuple_addW0 a b _ _ n n2 dd dd2 sl sl2 rfl) ⟨ho,ho2,⟨.ref b,H,I,rfl,q0 hx⟩⟩
 ·exact HS Qx s σ H (.ref a) (.ref b) v u Q I rx ry ⟨a,b,xs,ys,rfl,rfl,ha,hb,hx,hz,q1,λ_=>q2⟩
noncomputable def A8:R->R->M R
 | .d (.tup xs),.d (.tup ys)=>if xs.length + ys.length<=sizeLine then .ok (.d (.tup (xs++ys))) else .bad
 | _,_=>.bad
theorem G1 (hK:X.K=c.K):BD c (λx y H Q=>∃a b xs ys,x=.ref a/\y=.ref b/\cC X.K H a xs/\cC X.K H b ys/\xs.length + ys.length<=sizeLine/\
  (xs=[]->Q (.ref b) H)/\(ys=[]->Q (.ref a) H)/\∀p,H p=none->Q (.ref p) (upd H p (.tup (xs++ys)))) A8:=by
 intro He He' J H x y u v Q hp rx ry w;unfold A8 at w;split at w
 ·rename_i ds es;cases rx with
  | tup h1 s1=>
   cases ry with
   | tup h2 s2=>
    split at w
    ·rename_i hz;rw [s1.length,s2.length] at hz;refine ⟨_,_,_,_,rfl,rfl,by rw [hK];exact eE hp.sub h1,by rw [hK];exact eE hp.sub h2,hz,λe=>?_,λe=>?_,λp hp'=>w _ _ _ (Ext.newJ hp.sub hp' _) (oV hp hp' (s1.append s2))⟩
     ·have e':ds=[]:=VM (by rw [s1.length,e];rfl);subst e';exact w _ J H (Ext.refl hp.sub) (.tup h2 s2)
     ·have e':es=[]:=VM (by rw [s2.length,e];rfl);subst e';rw [TU] at w;exact w _ J H (Ext.refl hp.sub) (.tup h1 s1)
    ·exact w.elim
 ·exact w.elim
noncomputable def JQ:R->Bool
 | .d (.tup _)=>true
 | _=>false
def dB (x y:R):M R:=if JQ x then A8 x y else cO x y
noncomputable def intsOf:List D->Option (List Int)
 | []=>some []
 | .int i::r=>(intsOf r).map (i::·)
 | _::_=>none
theorem mQ {K:QJ}{J:Hp}:∀{ds:List D}{vs:List V}{ns:List Int},intsOf ds=some ns->aD K J ds vs->vs=ns.map V.int
 | [],_,_,h,.nil=>by cases h;rfl
 | .int x::r,_,ks,h,.cons q rs=>by
  unfold intsOf at h;cases z:intsOf r with
  | none=>rw [z] at h;cases h
  | some ks'=>
   rw [z] at h;cases h;cases q;rw [mQ z rs];rfl
def signs (x:Str):List D:=x.cps.toList.map λk=>.str ⟨#[k]⟩
noncomputable def N2 (g:G R):G (List D):=λenv=>g env >>= λr=>match r with
 | .d (.str x)=>.ok (signs x)
 | _=>.bad
theorem zE {prog:Ra}{w:Rz}{A:RC}{E:QL->QM->Prop}{s:QM}{t sl:Rb}{Qy:Array QL}{vl vu:QL}{lo hi:Option Int}{Q:QL->QM->Prop}(ht:aaE s.heap t Qy) (hs:s.heap.IsSliceOf sl vl vu .none) (pl:X6 vl lo) (pu:X6 vu hi)
  (hw:HT.bC Qy.size 0 lo=0/\HT.bC Qy.size Qy.size hi=Qy.size) (h:Q (.ref t) s):Q_ (Rf prog w) A (Yu (.ref t) (.ref sl)) Q E s:=by
 obtain ⟨os,hos,hcs,hds⟩:=id hs;have Pf:s.TypeIs (.ref sl) "slice":=⟨os,hos,hcs⟩;unfold Yu
 try with_reducible refine Rw ?_
 first | refine QI (QK ?_) | skip
 refine QI (Yv ht.typeIs (by decide) ?_);refine QI (Sy (name:=VE "__getitem__") ht.typeIs RP
  (RO RP ht.typeIs XN ?_ (X8 _ _)))
 show Q_ _ _ (UG (.ref t) >>= _) _ _ s;refine QI (Z9 ht ?_);refine QI (VF Pf ?_);rw [if_pos (by decide)];refine QI (HT.jY hs pl pu ?_);have hyes:(((HT.bC Qy.size 0 lo:Nat):Int) == 0 && (1:Int) == 1 && (HT.bC Qy.size Qy.size hi - HT.bC Qy.size 0 lo) == Qy.size)=true:=by rw [hw.1,hw.2];simp
 show Q_ _ _ (if (((HT.bC Qy.size 0 lo:Nat):Int) == 0 && (1:Int) == 1 && (HT.bC Qy.size Qy.size hi - HT.bC Qy.size 0 lo) == Qy.size)=true then _ else _) _ _ s;rw [if_pos hyes];unfold Zw;refine QI (QI (VF ht.typeIs (QK ?_)));rw [if_pos (by decide)];exact QI (Wy (QK ⟨_,rfl,QK h⟩))
theorem DQ:rQ X (λx lo hi H Q=>∃a xs,x=.ref a/\cC X.K H a xs/\((HT.bC xs.length 0 lo=0/\HT.bC xs.length xs.length hi=xs.length)->Q (.ref a) H)/\∀p,H p=none->Q (.ref p) (upd H p (.tup (kU xs lo hi)))):=by
 intro Qx s σ H x v vl vu lo hi sl Q I rx hs pl pu h;obtain ⟨a,xs,rfl,hx,q0,q1⟩:=h;by_cases hw:HT.bC xs.length 0 lo=0/\HT.bC xs.length xs.length hi=xs.length
 ·cases rx;obtain ⟨Qz,r,ht,hz⟩:=I.tuple hx;have hlen:Qz.toArray.size=xs.length:=by rw [QY];exact r.length.symm
  exact ⟨"tuple",_,RP.lookup,ht.typeIs,zE ht hs pl pu (by rw [hlen];exact hw) ⟨.ref a,H,I,rfl,q0 hw⟩⟩
 ·exact Lj Qx s σ H (.ref a) v vl vu lo hi sl Q I rx hs pl pu ⟨a,xs,rfl,hx,hw,q1⟩
theorem A6 {xs:List D}{lo hi:Option Int}(h:HT.bC xs.length 0 lo=0/\HT.bC xs.length xs.length hi=xs.length):cutD xs lo hi=xs:=by unfold cutD;rw [h.1,h.2];simp
noncomputable def Ex:R->Option Int->Option Int->M R
 | .d (.tup xs),l,u=>.ok (.d (.tup (cutD xs l u)))
 | _,_,_=>.bad
theorem Np (hK:X.K=c.K) (He J H:Hp) (x:R) (v:V) (l u:Option Int) (Q:VK) (hp:HI c J H) (rx:RR c He J H x v) (w:cA (Ex x l u) (λz=>∀w J' H',Ext J H J' H'->RR c H J' H' z w->Q w H') c.T):
  ∃a xs,v=.ref a/\cC X.K H a xs/\((HT.bC xs.length 0 l=0/\HT.bC xs.length xs.length u=xs.length)->Q (.ref a) H)/\∀p,H p=none->Q (.ref p) (upd H p (.tup (kU xs l u))):=by
 unfold Ex at w;split at w
 ·rename_i ds;cases rx with
  | tup h1 s1=>
   refine ⟨_,_,rfl,by rw [hK];exact eE hp.sub h1,λhw=>?_,λp hp'=>w _ _ _ (Ext.newJ hp.sub hp' _) (oV hp hp' (s1.cut _ _))⟩;rw [<-s1.length] at hw;rw [A6 hw] at w;exact w _ J H (Ext.refl hp.sub) (.tup h1 s1)
 ·exact w.elim
def oh (x:R) (l u:Option Int):M R:=if JQ x then Ex x l u else M3 x l u
def AN (K:QJ) (mg:Str->Option QL) (x:Str) (d:D):Prop:=∃u v,mg x=some u/\RelV v u/\∀J,Rep K J d v
theorem Cj:RJ "int"=some (.type "int"):=by decide +kernel
theorem A5:RJ "bool"=some (.type "bool"):=by decide +kernel
theorem zk:RJ "tuple"=some (.type "tuple"):=by decide +kernel
theorem rV:RJ "list"=some (.type "list"):=by decide +kernel
end
section
variable {X:Cx}{c:C}{e a b tg:RA}{es:List RA}{ga gb g:G R}{pos:Pos}{st:TJ}{t u:G O}{tb:G Bool}
def wZ:G O:=λ_=>.bad
noncomputable def qP (g:G R):G R:=λenv=>g env >>= λr=>match r with
 | .d (.int i)=>.ok (.d (.int (-i)))
 | _=>.bad
noncomputable def zc:R->M Bool
 | .d .non=>.ok false
 | .d (.bl b)=>.ok b
 | .d (.int i)=>.ok (i != 0)
 | .d (.str y)=>if y.length<=sizeLine then .ok ((y.length:Int) != 0) else .bad
 | .d (.tup xs)=>.ok (!xs.isEmpty)
 | .d (.lst xs)=>.ok (!xs.isEmpty)
 | .d .emp=>.ok false
 | .d (.exn _ _ _)=>.bad
 | .d (.dct _ _)=>.bad
 | .l _ xs=>.ok (!xs.isEmpty)
 | _=>.bad
theorem JO {K:QJ}{J:Hp}{ds:List D}{vs:List V}(h:aD K J ds vs):ds.isEmpty=vs.isEmpty:=by cases h <;> rfl
theorem IQ {He J H:Hp}(hp:HI c J H){Q:Bool->Prop}{T:Exc->Prop}:∀{r:R}{v:V},RR c He J H r v->cA (zc r) Q T->∃k,Ea c.K v H k/\Q k
 | .d .non,_,h,w=>by cases h;exact ⟨_,rfl,w⟩
 | .d (.bl b),_,h,w=>by cases h;exact ⟨_,rfl,w⟩
 | .d (.int i),_,h,w=>by cases h;exact ⟨_,rfl,w⟩
 | .d (.str y),_,h,w=>by
  cases h;unfold zc at w;simp only at w;split at w
  ·rename_i hz;exact ⟨_,⟨hz,rfl⟩,w⟩
  ·exact w.elim
 | .d (.tup xs),_,h,w=>by
  cases h with
  | tup h1 h2=>exact ⟨_,.inr (.inl ⟨_,eE hp.sub h1,rfl⟩),by rw [<-JO h2];exact w⟩
 | .d (.lst xs),_,h,w=>by
  cases h with
  | lst h1 h2=>exact ⟨_,.inl ⟨_,hp.sub.seq h1,rfl⟩,by rw [<-JO h2];exact w⟩
 | .d .emp,_,h,w=>by
  cases h with
  | emp h1=>exact ⟨_,.inr (.inr ⟨_,hp.sub _ _ h1,rfl⟩),w⟩
 | .d (.exn _ _ _),_,_,w=>w.elim
 | .d (.dct _ _),_,_,w=>w.elim
 | .mo _ _,_,_,w=>w.elim
 | .mb _ _,_,_,w=>w.elim
 | .mf _ _,_,_,w=>w.elim
 | .ln _,_,_,w=>w.elim
 | .l m xs,_,h,w=>by obtain ⟨a,vs,rfl,h1,h2⟩:=RR.list hp h rfl;exact ⟨_,.inl ⟨_,h1,rfl⟩,by rw [<-JO h2];exact w⟩
def qS (g:G R):G Bool:=λenv=>g env >>= zc
noncomputable def j5 (tb:G Bool) (u:G O):Nat->Ev->M O
 | 0,_=>.bad
 | n + 1,env=>tb env >>= λk=>if k=true then u env >>= λo=>(match o with
  | .nx e=>j5 tb u n e
  | .ct e=>j5 tb u n e
  | .bk e=>.ok (.nx e)
  | .rt r=>.ok (.rt r)) else .ok (.nx env)
def sD (n:Nat) (tb:G Bool) (u:G O):G O:=λenv=>j5 tb u n env
theorem aD.eraseIdx {K:QJ}{J:Hp}:∀{ds:List D}{vs:List V}(k:Nat),aD K J ds vs->aD K J (ds.eraseIdx k) (vs.eraseIdx k)
 | _,_,_,.nil=>by rw [YD,YD];exact .nil
 | _,_,0,.cons _ t=>t
 | _,_,k + 1,.cons r t=>.cons r (aD.eraseIdx k t)
noncomputable def N4 (i j:Nat):G O:=λenv=>match env[j]? with
 | some (some (.own xs))=>(match xs[xs.length - 1]? with
  | some d=>.ok (.nx ((env.set j (some (.own xs.dropLast))).set i (some (.d d))))
  | none=>.bad)
 | _=>.bad
noncomputable def lN (i j:Nat) (g:G R):G O:=λenv=>match env[i]?,env[j]? with
 | some (some (.own zs)),some (some (.own xs))=>if i=j then .bad else g env >>= λr=>(match r with
  | .d (.int k)=>if 0<=k/\k.toNat < xs.length/\zs.length < sizeLine/\xs.length<=sizeLine then (match xs[k.toNat]? with
   | some d=>.ok (.nx ((env.set j (some (.own (xs.eraseIdx k.toNat)))).set i (some (.own (zs++[d])))))
   | none=>.bad) else .bad
  | _=>.bad)
 | _,_=>.bad
theorem Mi {k:Int}{n:Nat}(h0:0<=k) (h:k.toNat < n):X_ k n=some k.toNat:=by
 unfold X_;have h1:¬k < 0:=by omega
 have h2:k < n:=by omega
 simp [h1,h0,h2]
theorem Kw {J H:Hp}{σ:L2.St}{env:Ev}(sr:SR c J H σ env){i j:Nat}{xs ys:List D}{p q:Rb}(hij:i≠j) (hi:env[i]?=some (some (.own xs))) (hj:env[j]?=some (some (.own ys))) (h1:σ[i]?=some (some (.ref p))) (h2:σ[j]?=some (some (.ref q))):p≠q:=λz=>
 sr.sep i j (.inl xs) (.inl ys) (.ref p) hij hi hj h1 (z▸h2)
end
open PySem.AutoSeq1 in
theorem CI (T:String) (hT:T="tuple"\/T="list") (l b:Rb) (xs ys:Array QL) (n m:Nat) (dd:Option Rb) (sl:Array (Option QL)) (z0:¬(!xs.isEmpty && S4 (xs.size + ys.size))=true) (z1:xs.size<=sizeLine) (z2:xs.size + ys.size<=sizeLine + 1):
  Meets (VL.«list.extend» ⟨[.ref l,.ref b],[]⟩) λ_ R s=>s.heap.get? l=some {cls:=.type "list",dict:=none,data:=.seq xs n,slots:=#[]}/\
   s.heap.get? b=some {cls:=.type T,dict:=dd,data:=.seq ys m,slots:=sl}/\R (.ok (.ret RU)) {s with heap:=s.heap.update l (S3 λx=>x++ys),toks:=s.toks}:=
 .of_wp λprog w A R s h=>by
  obtain ⟨hp,gs,dr,tk,os⟩:=s;obtain ⟨h1,h2,h3⟩:=h;have t1:=AutoSeq1.idx_int;have t2:=UY;have t3:=AutoSeq1.sub_list_list;have t4:=AutoSeq1.sub_tuple_list;have t5:=AutoSeq1.sub_list_tuple;have z3:(xs++ys).size<=sizeLine + 1:=by rw [YB];exact z2
  rcases hT with rfl | rfl
  ·wp_walk using (V_ h1 rfl (hz:=z1) (_hz':=z3)),Tj h1,Tj h2
   exact ⟨_,rfl,h3⟩
  ·wp_walk using (V_ h1 rfl (hz:=z1) (_hz':=z3)),Tj h1,Tj h2
   exact ⟨_,rfl,h3⟩
section
variable {X:Cx}{c:C}{e a b tg:RA}{es:List RA}{ga gb g:G R}{pos:Pos}
noncomputable def M_ (K:QJ):V->List V->Hp->VK->Prop:=λx vs H Q=>∃l b xs zs,x=.ref l/\vs=[.ref b]/\H l=some (.lst xs)/\(bV K H b zs\/cC K H b zs)/\xs.length + zs.length<=sizeLine/\Q .non (upd H l (.lst (xs++zs)))
theorem Kh:F0 X "list.extend" (M_ X.K):=by
 intro Qx s σ H x vs v us Q I rx rv h;obtain ⟨l,b,xs,zs,rfl,rfl,hH,hB,hz,q⟩:=h;cases rx;obtain ⟨u,rfl,ru⟩:=rv.one;cases ru;obtain ⟨z,Qz,n,r,hl,e⟩:=I.lstM hH;have obj:∃T its2,(T="tuple"\/T="list")/\Vals zs its2/\∃dd m sl,s.heap.get? b=some {cls:=.type T,dict:=dd,data:=.seq its2.toArray m,slots:=sl}:=by
  rcases hB with hB | hB
  ·obtain ⟨its2,r2,pl,_⟩:=I.list hB;obtain ⟨⟨cls,dd,data,sl⟩,ho,hc,m,hd⟩:=pl.isList;simp only at hc hd;subst hc hd;exact ⟨"list",its2,.inr rfl,r2,dd,m,sl,ho⟩
  ·obtain ⟨its2,r2,pl,_⟩:=I.tuple hB;obtain ⟨⟨cls,dd,data,sl⟩,ho,hc,m,hd⟩:=pl;simp only at hc hd;subst hc hd;exact ⟨"tuple",its2,.inl rfl,r2,dd,m,sl,ho⟩
 obtain ⟨T,its2,hT,r2,dd,m,sl,e2⟩:=obj;have hl2:=r2.length;have hsz:Qz.toArray.size + its2.toArray.size<=sizeLine:=by rw [QY,QY];omega
 have OJ:¬(!Qz.toArray.isEmpty && S4 (Qz.toArray.size + its2.toArray.size))=true:=by rw [yG hsz,Uh];exact Ru
 refine Yx Yc ⟨_,e,rfl⟩ XQ (Xu _ _) (CI T hT l b Qz.toArray its2.toArray n m dd sl OJ (by rw [QY];omega) (by omega)) ⟨e,e2,?_⟩;refine ⟨.non,_,I.lset (its':=Qz++its2) hH e (by simp) (r.append r2) ?_,rfl,q⟩;rw [Rj];omega
noncomputable def yi (i:Nat) (g:G R):G O:=λenv=>match env[i]? with
 | some (some (.own xs))=>g env >>= λr=>gz r >>= λys=>if xs.length + ys.length<=sizeLine then .ok (.nx (env.set i (some (.own (xs++ys))))) else .bad
 | _=>.bad
noncomputable def yI:V->Option (Option Bool)
 | .non=>some none
 | .bl k=>some (some k)
 | _=>none
theorem FE (rx:RelV x v) (ry:RelV y u) (h:yI y=some o):isSame v u=pure (yI x == some o):=by
 cases y with
 | non=>
  cases h;cases ry;cases x with
  | non=>cases rx;rfl
  | bl k=>cases rx;rfl
  | int i=>obtain ⟨t,rfl⟩:=rx;rfl
  | str z=>obtain ⟨t,rfl⟩:=rx;rfl
  | byt z=>obtain ⟨t,rfl⟩:=rx;rfl
  | flt z=>obtain ⟨t,rfl⟩:=rx;rfl
  | ref p=>cases rx;rfl
  | ty n=>cases rx;rfl
 | bl k'=>
  cases h;cases ry;cases x with
  | non=>cases rx;rfl
  | bl k=>cases rx;cases k <;> cases k' <;> rfl
  | int i=>obtain ⟨t,rfl⟩:=rx;rfl
  | str z=>obtain ⟨t,rfl⟩:=rx;rfl
  | byt z=>obtain ⟨t,rfl⟩:=rx;rfl
  | flt z=>obtain ⟨t,rfl⟩:=rx;rfl
  | ref p=>cases rx;rfl
  | ty n=>cases rx;rfl
 | _=>cases h
theorem Dq:c5 X (Sx .Is) (λx y H Q=>∃o,yI y=some o/\Q (.bl (yI x == some o)) H):=by intro Qx s σ H x y v u Q I rx ry h;obtain ⟨o,ho,q⟩:=h;show Q_ _ _ (do return TM (<-isSame v u)) _ _ s;rw [FE rx ry ho];exact QI (QK (QK ⟨.bl _,H,I,rfl,q⟩))
noncomputable def Bt:R->Option (Option Bool)
 | .d .non=>some none
 | .d (.bl k)=>some (some k)
 | _=>none
noncomputable def qd (neg:Bool) (x y:R):M R:=match Bt y with
 | some o=>.ok (.d (.bl (if neg then !(Bt x == some o) else Bt x == some o)))
 | none=>.bad
theorem pJ {He J H:Hp}:∀{r:R}{v:V},RR c He J H r v->yI v=Bt r
 | .d .non,_,h=>by cases h;rfl
 | .d (.bl _),_,h=>by cases h;rfl
 | .d (.int _),_,h=>by cases h;rfl
 | .d (.str _),_,h=>by cases h;rfl
 | .d (.tup _),_,h=>by cases h;rfl
 | .d (.lst _),_,h=>by cases h;rfl
 | .d .emp,_,h=>by cases h;rfl
 | .d (.exn _ _ _),_,h=>by cases h;rfl
 | .d (.dct _ _),_,h=>by cases h;rfl
 | .l .fresh _,_,h=>by obtain ⟨_,_,rfl,_⟩:=h;rfl
 | .l .own _,_,h=>by obtain ⟨_,_,rfl,_⟩:=h;rfl
 | .l .bor _,_,h=>by obtain ⟨_,_,rfl,_⟩:=h;rfl
 | .mo _ _,_,h=>by obtain ⟨_,rfl,_⟩:=h;rfl
 | .mb _ _,_,h=>by obtain ⟨_,rfl,_⟩:=h;rfl
 | .mf _ _,_,h=>by obtain ⟨_,rfl,_⟩:=h;rfl
 | .ln _,_,h=>by obtain ⟨_,_,rfl,_⟩:=h;rfl
end
section
variable {X:Cx}{c:C}{e a b d tg:RA}{es:List RA}{ga gb g:G R}{pos:Pos}
def M5 (K:QJ) (tl:TE):TI:=λσ H R=>tl σ H λx H1=>∃a,x=.ref a/\(((∃xs,bV K H1 a xs)/\R (FT K a) H1)\/((∃xs,cC K H1 a xs)/\R (FW K a) H1))
theorem Du {tl:TE}(hl:PE X e tl):PI X tg e (M5 X.K tl):=λQx s σ H R I h=>bM (hl Qx s σ H _ I h) λv s1 ⟨x,H1,I1,r1,a,ex,q1⟩=>by
 subst ex;cases r1;have fp:∀b∈[s1.heap.objs.size],jm X Qx H1 b:=λb hb=>by rw [Q7] at hb;subst hb;exact I1.fpOk (QW _) (I1.hok.fresh (QW _))
 rcases q1 with ⟨⟨xs,hq⟩,q⟩ | ⟨⟨xs,hq⟩,q⟩
 ·obtain ⟨Qz,rv,p,hz⟩:=I1.list hq;exact Vq p.isList ⟨s1.heap.objs.size,[s1.heap.objs.size],_,_,H1,rfl,I1.kept (t':=s1.toks) (λb o e=>QU _ e),DU a _,⟨_,Q2 _ rfl,rfl,rfl⟩,fp,q⟩
 ·obtain ⟨Qz,rv,p,hz⟩:=I1.tuple hq;exact Yg (show s1.heap.IsTuple a Qz.toArray from p) ⟨s1.heap.objs.size,[s1.heap.objs.size],_,_,H1,rfl,I1.kept (t':=s1.toks) (λb o e=>QU _ e),BQ a _,⟨_,Q2 _ rfl,rfl,rfl⟩,fp,q⟩
theorem v_ {J1:Hp}{a:Rb}{vs:List V}{ds:List D}{U:Hp->Hp->Prop}(hU:∀J H,U J H->aL J1 J) (h:cC c.K J1 a vs) (hs:aD c.K J1 ds vs):Walk c (FW c.K a) ds J1 U:=by intro i J H hp u;have h':=eE hp.sub (eE (hU J H u) h);refine ⟨λhl=>⟨vs,h',by rw [<-hs.length];exact hl⟩,λd hd=>?_⟩;obtain ⟨v,k1,k2⟩:=hs.get hd;refine ⟨⟨vs,v,h',k1⟩,λx H2 ⟨e,hy⟩=>?_⟩;subst e;have:=hy vs h';rw [k1] at this;cases this;exact ⟨J,Ext.refl hp.sub,k2.mono (hU J _ u)⟩
noncomputable def kY (g:G R):G (List D):=λenv=>g env >>= λr=>match r with
 | .d (.tup xs)=>.ok xs
 | .d (.lst xs)=>.ok xs
 | .l .fresh xs=>.ok xs
 | .l .bor xs=>.ok xs
 | _=>.bad
def dQ (g:G R):G (List D):=λenv=>g env >>= gz
end
section
variable {X:Cx}{c:C}{st:TJ}{g:G O}
theorem SR.frz {J H:Hp}{σ:L2.St}{env:Ev}(sr:SR c J H σ env){i:Nat}{x:Mn}{a:Rb}{o:HO}{d:D}(hi:env[i]?=some (some (mS x))) (h1:σ[i]?=some (some (.ref a))) (h2:H a=some o) (h3:J a=none) (h4:c.H0 a=none) (h5:Rep c.K (L2.upd J a o) d (.ref a)):∃J',aL J J'/\SR c J' H σ (env.set i (some (.d d))):=by
 have s1:aL J (L2.upd J a o):=bY h3 _;refine ⟨L2.upd J a o,s1,⟨⟨λb o q=>?_,sr.hp.ent,sr.hp.entJ.trans s1,λb k1 k2=>?_⟩,by simpa using sr.len,λj y q=>?_,λj k ys zs w hjk q1 q2 q3 q4=>?_,sr.sp2.keep λk xs q=>?_⟩⟩
 ·by_cases hb:b=a
  ·subst hb;rw [bB] at q;cases q;exact h2
  ·rw [aQ hb] at q;exact sr.hp.sub b o q
 ·have:b≠a:=λz=>k1 (z▸h4);rw [aQ this];exact sr.hp.frz b k1 k2
 ·rcases cM q with ⟨rfl,hl,rfl⟩ | ⟨hj,q⟩
  ·exact ⟨.ref a,h1,h5⟩
  ·obtain ⟨w,k1,k2⟩:=sr.at_ j y q;refine ⟨w,k1,?_⟩;have hne:∀(z:Mn) p',y=mS z->w=.ref p'->p'≠a:=λz p' e ew ep=>sr.sep i j x z (.ref a) (SK hj) hi (e▸q) h1 (ep▸ew▸k1);cases y with
   | d x=>exact Rep.mono s1 k2
   | bor zs=>obtain ⟨p,us,m1,m2,m3⟩:=k2;exact ⟨p,us,m1,m2,m3.mono s1⟩
   | db _ _=>obtain ⟨p,m1,m2⟩:=k2;exact ⟨p,m1,m2.mono s1 (aL.refl _)⟩
   | fn _=>exact k2
   | dk ks zs=>
    obtain ⟨p,rfl,m1,m2,m3⟩:=k2;exact ⟨p,rfl,m1.mono s1 (aL.refl _),by rw [aQ (hne (.inr (ks,zs)) p rfl rfl)];exact m2,m3⟩
   | own zs=>
    obtain ⟨p,us,rfl,m1,m2,m3,m4⟩:=k2;exact ⟨p,us,rfl,m1,by rw [aQ (hne (.inl zs) p rfl rfl)];exact m2,m3,m4.mono s1⟩
   | ow2 zs=>
    obtain ⟨p,us,rfl,m1,m2,m3,m4⟩:=k2;exact ⟨p,us,rfl,m1,by rw [aQ (hne (.nst zs) p rfl rfl)];exact m2,m3,m4.mono s1 λ_ h=>h⟩
 ·have f:∀(k:Nat) (ys:Mn),(env.set i (some (.d d)))[k]?=some (some (mS ys))->env[k]?=some (some (mS ys)):=λk ys q=>by
   rcases cM q with ⟨rfl,_,z⟩ | ⟨_,q⟩
   ·cases ys <;> cases z
   ·exact q
  exact sr.sep j k ys zs w hjk (f j ys q1) (f k zs q2) q3 q4
 ·rcases cM q with ⟨_,_,e⟩ | ⟨hk,q⟩
  ·cases e
  ·exact ⟨⟨xs,q⟩,rfl⟩
noncomputable def iX (i:Nat) (g:G O):G O:=λenv=>match env[i]? with
 | some (some (.own xs))=>g (env.set i (some (.d (.lst xs))))
 | some (some (.dk ks vs))=>g (env.set i (some (.d (.dct ks vs))))
 | _=>g env
end
structure QD (X:Cx) (c:C) (x0:RA) (x1:G R):Prop where
 h:PD X c x0 x1
structure QB (X:Cx) (c:C) (x0:RA) (x1:G Bool):Prop where
 h:PB X c x0 x1
structure jr (X:Cx) (c:C) (x0:List RA) (x1:G (List R)):Prop where
 h:F3 X c x0 x1
structure B6 (X:Cx) (c:C) (x0:List RA) (x1:G (List D)):Prop where
 h:NJ X c x0 x1
structure gY (X:Cx) (c:C) (x0:TJ) (x1:G O):Prop where
 h:Jc X c x0 x1
structure nV (X:Cx) (c:C) (x0:List TJ) (x1:G O):Prop where
 h:Jd X c x0 x1
structure xB (X:Cx) (c:C) (x0:RA) (x1:G Bool):Prop where
 h:NK X c x0 x1
structure nC (X:Cx) (c:C) (x0:RA) (x1:GT):Prop where
 h:B5 X c x0 x1
structure AS (X:Cx) (c:C) (x0:List RA) (x1:rB):Prop where
 h:MX X c x0 x1
structure zL (X:Cx) (c:C) (x0:RA) (x1:RA) (x2:G (List D)):Prop where
 h:MF X c x0 x1 x2
structure uV (X:Cx) (c:C) (x0:RA) (x1:RA) (x2:G (List D)):Prop where
 h:ME X c x0 x1 x2
structure mD (X:Cx) (c:C) (x0:List RA) (x1:G Bool):Prop where
 h:AR X c x0 x1
structure F4 (X:Cx) (c:C) (x0:Option RA) (x1:GO):Prop where
 h:Jf X c x0 x1
section
variable {X:Cx}{c:C}{e a b:RA}{ga gb:G R}{pos:Pos}
theorem aa (i:Nat) (hN:X.N[i]?=some x:=by rfl) (hv:nW X.env.scope x:=by first | exact UZ rfl | exact Tq (UZ rfl) | exact Tq (Tq rfl)) (hd:(x == ("__debug__":Str))=false:=by decide)
 (hcd:(x == ("__classdict__":Str))=false:=by decide):QD X c (.Name x pos) (af i):=⟨Ib (jj hN hv hd hcd)⟩
theorem av:QD X c (.Constant (.int i) j pos) (gC (.int i)):=⟨sX (λ_=>.int i) KA⟩
theorem fK:QD X c (.Constant (.bool i) j pos) (gC (.bl i)):=⟨sX (λ_=>.bl i) L4⟩
theorem l7:QD X c (.Constant .none j pos) (gC .non):=⟨sX (λ_=>.non) KG⟩
theorem uI:QD X c (.Constant (.str x) j pos) (gC (.str x)):=⟨sX (λ_=>.str x) KJ⟩
theorem Av (ha:QD X c a ga) (hb:QD X c b gb):QD X c (.BinOp a .Sub b pos) (g2 Bb ga gb):=have ha:=ha.h;have hb:=hb.h;⟨m9 Ks (gq λ_ _ _=>.int _) ha hb⟩
theorem d7 (ha:QD X c a ga) (hb:QD X c b gb):QD X c (.BinOp a .FloorDiv b pos) (g2 iB ga gb):=have ha:=ha.h;have hb:=hb.h;⟨m9 HU (A1 (λi j h=>Hw h) λ_ _ _=>.int _) ha hb⟩
theorem cL (ha:QD X c a ga) (hb:QD X c b gb):QD X c (.BinOp a .Mod b pos) (g2 eO ga gb):=have ha:=ha.h;have hb:=hb.h;⟨m9 Kn (A1 (λi j h=>by unfold JX at h;exact of_decide_eq_true h) λ_ _ _=>.int _) ha hb⟩
theorem Iv (ha:QD X c a ga) (hb:QD X c b gb):QD X c (.BinOp a .Pow b pos) (g2 JG ga gb):=have ha:=ha.h;have hb:=hb.h;⟨m9 Kr (A1 (λi j h=>Hy h) λ_ _ _=>.int _) ha hb⟩
theorem K4 (ha:QD X c a ga) (hb:QD X c b gb):QD X c (.Compare a [.Gt] [b] pos) (g2 (jO λi j=>.bl (decide (j < i))) ga gb):=have ha:=ha.h;have hb:=hb.h;⟨oJ pK (gq λ_ _ _=>.bl _) ha hb⟩
theorem aq:jr X c [] aE:=⟨xm fJ λσ H Q ⟨J,env,sr,w⟩=>w [] J H (Ext.refl sr.hp.sub) rfl⟩
theorem ak {es:List RA}{g:G R}{gs:G (List R)}(h:QD X c e g) (hs:jr X c es gs) (hst:QZ (e::es) X.env=(false,eval e X.env)::QZ es X.env:=by rfl):jr X c (e::es) (ao g gs):=have h:=h.h;have hs:=hs.h;⟨
 xm (dF h hs hst) λσ H Q ⟨J,env,sr,w⟩=>by
  refine ⟨J,env,sr,aC (aH w) λx wx u J1 H1 e1 r1=>?_⟩;refine ⟨J1,env,sr.ext e1,aC (aH wx) λxs wy us J2 H2 e2 r2=>?_⟩;exact wy (u::us) J2 H2 (e1.trans e2) ⟨u,us,rfl,r1.ext e2,kq.from e1.h r2⟩⟩
end
section
variable {X:Cx}{c:C}{e a b:RA}{es:List RA}{ga gb g:G R}{pos:Pos}
theorem aM:B6 X c [] aU:=⟨xm fJ λσ H Q ⟨J,env,sr,w⟩=>w [] J H (Ext.refl sr.hp.sub) .nil⟩
theorem au {gs:G (List D)}(h:QD X c e g) (hs:B6 X c es gs) (hst:QZ (e::es) X.env=(false,eval e X.env)::QZ es X.env:=by rfl):B6 X c (e::es) (az g gs):=have h:=h.h;have hs:=hs.h;⟨
 xm (dF h hs hst) λσ H Q ⟨J,env,sr,w⟩=>by
  refine ⟨J,env,sr,aC (aH w) λx wx u J1 H1 e1 r1=>?_⟩;obtain ⟨d,q,wx⟩:=gy wx;obtain ⟨J1',e1',s1,rd⟩:=freeze e1 r1 q;refine ⟨J1',env,sr.ext e1',aC (aH wx) λxs wy us J2 H2 e2 r2=>?_⟩;exact wy (u::us) J2 H2 (e1'.trans e2) (.cons (rd.mono e2.j) r2)⟩
theorem aZ {k}{gs:G (List D)}(h:B6 X c es gs):QD X c (.Tuple es k pos) (bA gs):=have h:=h.h;⟨fz (KL h) λσ H Q ⟨J,env,sr,w⟩=>by
 refine ⟨J,env,sr,aC (aH w) λds wd vs J1 H1 e1 r1=>?_⟩;split at wd
 ·rename_i hz;rw [r1.length] at hz;exact ⟨hz,λp hp=>wd _ _ _ (e1.trans (Ext.newJ e1.sub hp _)) (oV (sr.hp.ext e1) hp r1)⟩
 ·exact wd.elim⟩
theorem e_ {gs:G (List D)}(h:B6 X c es gs):QD X c (.List es pos) (gF gs):=have h:=h.h;⟨fz (KC h) λσ H Q ⟨J,env,sr,w⟩=>by
 refine ⟨J,env,sr,aC (aH w) λds wd vs J1 H1 e1 r1=>?_⟩;split at wd
 ·rename_i hz;rw [r1.length] at hz;exact ⟨hz,λp hp=>wd _ _ _ (e1.trans (Ext.new e1.sub hp _)) (RR.from e1.h (f_ (sr.hp.ext e1) hp r1))⟩
 ·exact wd.elim⟩
theorem eZ {p:Pos}{gs:G (List R)}(ha:jr X c (e::es) gs) (hm:X.mg "len"=none) (hK:X.K=c.K:=by rfl) (hg:Gl X "len":=by rfl)
  (he:QZ (e::es) X.env=(false,eval e X.env)::QZ es X.env:=by rfl) (hpl:(SJ pos (QZ es X.env)).any (·.1)=false:=by rfl):QD X c (.Call (.Name "len" p) (e::es) [] pos) (gN iC gs):=have ha:=ha.h;⟨
 jT (xR.or xQ) (by
  intro He J H xs vs Q hp rs w;unfold iC at w;split at w
  ·obtain ⟨v,rfl,r⟩:=rs.one;cases r;split at w
   ·rename_i hz;exact .inl ⟨_,rfl,hz,w _ J H (Ext.refl hp.sub) (.int _)⟩
   ·exact w.elim
  ·obtain ⟨v,rfl,r⟩:=rs.one;obtain ⟨xs,q,w⟩:=h_ w;obtain ⟨p,vs,rfl,hq,hs⟩:=jC hp r q;have w':=w (.int vs.length) J H (Ext.refl hp.sub) (by rw [hs.length];exact .int _);exact .inr ⟨p,vs,rfl,by rw [hK];exact hq,w'⟩
  ·exact w.elim) PySem.boot_len hm ha hg (by decide) (by decide) he hpl⟩
theorem bX {gs:G (List R)}(ha:jr X c (e::es) gs) (hm:X.mg "tuple"=none) (hK:X.K=c.K:=by rfl) (hg:Gl X "tuple":=by rfl)
 (he:QZ (e::es) X.env=(false,eval e X.env)::QZ es X.env:=by rfl) (hpl:(SJ pos (QZ es X.env)).any (·.1)=false:=by rfl):QD X c (.Call (.Name "tuple" p) (e::es) [] pos) (gN cH gs):=have ha:=ha.h;⟨
 vC wB (by
  intro He J H xs vs Q hp rs w;unfold cH at w;split at w
  ·obtain ⟨v,rfl,r⟩:=rs.one;rename_i r0;obtain ⟨xs,q,w⟩:=h_ w;cases r0 with
   | d y=>
    cases y with
    | tup ys=>
     cases q;cases r with
     | tup h hs=>exact ⟨_,_,rfl,.inr ⟨by rw [hK];exact eE hp.sub h,w _ J H (Ext.refl hp.sub) (.tup h hs)⟩⟩
    | lst ys=>
     cases q;obtain ⟨p,vs,rfl,hq,hs⟩:=RR.list hp r rfl;exact ⟨p,vs,rfl,.inl ⟨by rw [hK];exact hq,λl hl=>w _ _ _ (Ext.newJ hp.sub hl _) (oV hp hl hs)⟩⟩
    | _=>cases q
   | mo _ _=>cases q
   | mb _ _=>cases q
   | mf _ _=>cases q
   | ln _=>cases q
   | l m ys=>
    cases q;obtain ⟨p,vs,rfl,hq,hs⟩:=RR.list hp r rfl;exact ⟨p,vs,rfl,.inl ⟨by rw [hK];exact hq,λl hl=>w _ _ _ (Ext.newJ hp.sub hl _) (oV hp hl hs)⟩⟩
  ·exact w.elim) zj hm ha hg (by decide) (by decide) he hpl⟩
theorem Fi {p:Pos}{gs:G (List R)}(ha:jr X c (e::es) gs) (hm:X.mg "list"=none) (hK:X.K=c.K:=by rfl) (hg:Gl X "list":=by rfl)
  (he:QZ (e::es) X.env=(false,eval e X.env)::QZ es X.env:=by rfl) (hpl:(SJ pos (QZ es X.env)).any (·.1)=false:=by rfl):QD X c (.Call (.Name "list" p) (e::es) [] pos) (gN A_ gs):=have ha:=ha.h;⟨
 vC xS (by
  intro He J H xs vs Q hp rs w;unfold A_ at w;split at w
  ·obtain ⟨v,rfl,r⟩:=rs.one;obtain ⟨xs,q,w⟩:=h_ w;obtain ⟨p,vs,rfl,hq,hs⟩:=jC hp r q;exact ⟨p,vs,rfl,by rw [hK];exact hq,λl hl=>w _ _ _ (Ext.new hp.sub hl _) (f_ hp hl hs)⟩
  ·exact w.elim) rT hm ha hg (by decide) (by decide) he hpl⟩
theorem c6 (h:QD X c e g) (he:∀whole,XG e X.env whole=(do let v <-whole;Uo e.pos;holding [v] (truthy v)):=by intro _;rfl):QB X c e (bH g):=have h:=h.h;⟨xo (KZ h he) λσ H Q ⟨J,env,sr,w⟩=>by
 refine ⟨J,env,sr,aC (aH w) λr wr v J1 H1 e1 r1=>?_⟩;split at wr
 ·cases r1;exact ⟨_,rfl,wr J1 H1 e1⟩
 ·exact wr.elim⟩
theorem g9 {f:R->R->M R}(ho:c5 X (Sx op) r) (hf:BD c r f) (ha:QD X c a ga) (hb:QD X c b gb) (hm:Sd op b=false:=by first | exact yF _ | rfl):QB X c (.Compare a [op] [b] pos) (bH (g2 f ga gb)):=⟨jS ho hf ha.h hb.h hm⟩
variable {t u:G Bool}{rest:List RA}
theorem iZ (h:xB X c e t):QB X c e t:=have h:=h.h;⟨PW.pt h⟩
theorem qX (h:QB X c a t):xB X c (.BoolOp .And [a] pos) t:=have h:=h.h;⟨Io h⟩
theorem pM (h:QB X c a t):xB X c (.BoolOp .Or [a] pos) t:=have h:=h.h;⟨K2 h⟩
theorem uD (h:QB X c a t) (h':xB X c (.BoolOp .And (b::rest) pos) u):xB X c (.BoolOp .And (a::b::rest) pos) (kW t u):=have h:=h.h;have h':=h'.h;⟨GC (K1 h h') λσ H Q ⟨J,env,sr,w⟩=>by
 refine ⟨J,env,sr,aC (aH w) λk wk J1 H1 e1=>?_⟩;cases k with
 | true=>
  rw [if_pos rfl] at wk ⊢;exact ⟨J1,env,sr.ext e1,aC wk λk q J2 H2 e2=>q J2 H2 (e1.trans e2)⟩
 | false=>
  rw [if_neg (by decide)] at wk ⊢;exact wk J1 H1 e1⟩
theorem oO (h:QB X c a t) (h':xB X c (.BoolOp .Or (b::rest) pos) u):xB X c (.BoolOp .Or (a::b::rest) pos) (lO t u):=have h:=h.h;have h':=h'.h;⟨GC (L_ h h') λσ H Q ⟨J,env,sr,w⟩=>by
 refine ⟨J,env,sr,aC (aH w) λk wk J1 H1 e1=>?_⟩;cases k with
 | true=>
  rw [if_pos rfl] at wk ⊢;exact wk J1 H1 e1
 | false=>
  rw [if_neg (by decide)] at wk ⊢;exact ⟨J1,env,sr.ext e1,aC wk λk q J2 H2 e2=>q J2 H2 (e1.trans e2)⟩⟩
theorem gu (h:QB X c a t):QB X c (.UnaryOp .Not a pos) (eX t):=have h:=h.h;⟨xo (KY h) λσ H Q ⟨J,env,sr,w⟩=>⟨J,env,sr,aC (aH w) λk wk J1 H1 e1=>wk J1 H1 e1⟩⟩
theorem nh {op}(h:QD X c a ga):QD X c (.BoolOp op [a] pos) ga:=have h:=h.h;⟨KI h⟩
theorem uF (h:QD X c a ga) (h':QD X c (.BoolOp .And (b::rest) pos) gb):QD X c (.BoolOp .And (a::b::rest) pos) (mK ga gb):=have h:=h.h;have h':=h'.h;⟨fz (Kz h h') λσ H Q ⟨J,env,sr,w⟩=>by
 refine ⟨J,env,sr,aC (aH w) λr wr v J1 H1 e1 r1=>?_⟩;split at wr
 ·cases r1;exact ⟨true,rfl,JS ⟨J1,env,sr.ext e1,aC wr λz q v J2 H2 e2 r2=>q v J2 H2 (e1.trans e2) (RR.from e1.h r2)⟩⟩
 ·cases r1;exact ⟨false,rfl,JR (wr _ J1 H1 e1 (.bl _))⟩
 ·exact wr.elim⟩
theorem K5 (h:QD X c a ga) (h':QD X c (.BoolOp .Or (b::rest) pos) gb):QD X c (.BoolOp .Or (a::b::rest) pos) (qQ ga gb):=have h:=h.h;have h':=h'.h;⟨fz (L6 h h') λσ H Q ⟨J,env,sr,w⟩=>by
 refine ⟨J,env,sr,aC (aH w) λr wr v J1 H1 e1 r1=>?_⟩;split at wr
 ·cases r1;exact ⟨false,rfl,JR ⟨J1,env,sr.ext e1,aC wr λz q v J2 H2 e2 r2=>q v J2 H2 (e1.trans e2) (RR.from e1.h r2)⟩⟩
 ·cases r1;exact ⟨true,rfl,JS (wr _ J1 H1 e1 (.bl _))⟩
 ·exact wr.elim⟩
theorem Iu (h:QD X c a ga):QD X c (.UnaryOp .Not a pos) (Gg ga):=have h:=h.h;⟨fz (KH h) λσ H Q ⟨J,env,sr,w⟩=>by
 refine ⟨J,env,sr,aC (aH w) λr wr v J1 H1 e1 r1=>?_⟩;split at wr
 ·cases r1;exact ⟨_,rfl,wr _ J1 H1 e1 (.bl _)⟩
 ·exact wr.elim⟩
end
section
variable {X:Cx}{c:C}{e a b tg:RA}{es:List RA}{ga gb g:G R}{pos:Pos}{st:TJ}{rest:List TJ}{t u:G O}{tb:G Bool}
theorem bL:nV X c [] dI:=⟨oM Ik λE σ H ⟨J,env,sr,w⟩=>w σ J H (aL.refl J) sr⟩
theorem ay (h:gY X c st t) (h':nV X c rest u):nV X c (st::rest) (aJ t u):=have h:=h.h;have h':=h'.h;⟨oM (yL h h') λE σ H ⟨J,env,sr,w⟩=>by
 refine ⟨J,env,sr,aC (aH w) λo wo=>?_⟩;cases o with
 | nx e=>exact λσ' J' H' s' sr'=>⟨J',e,sr',aC wo λo q=>q.mono s'⟩
 | rt r=>exact wo
 | bk e=>exact wo
 | ct e=>exact wo⟩
theorem aF (h:gY X c st t):nV X c [st] t:=have h:=h.h;⟨Il h⟩
theorem g_ (h:QD X c e g) (hs:U4 e none pos.line X.env=pure false:=by rfl):gY X c (.Expr e pos) (jx g):=have h:=h.h;⟨fB (lY h hs) λE σ H ⟨J,env,sr,w⟩=>
 ⟨J,env,sr,aC (aH w) λr wr v J1 H1 e1 r1=>wr σ J1 H1 e1.j (sr.ext e1)⟩⟩
theorem aT (h:QD X c e g):gY X c (.Return (some e) pos) (bz g):=have h:=h.h;⟨fB (KW h) λE σ H ⟨J,env,sr,w⟩=>by
 refine ⟨J,env,sr,aC (aH w) λr wr v J1 H1 e1 r1=>?_⟩;cases q:rF r with
 | bad=>rw [q] at wr;exact wr.elim
 | exc x=>cases r with
  | d _=>cases q
  | l m _=>cases m <;> cases q
  | mo _ _=>cases q
  | mb _ _=>cases q
  | mf _ _=>cases q
  | ln _=>cases q
 | ok r'=>rw [q] at wr;exact wr v J1 H1 e1.j (sr.hp.ext e1) (RR.rf sr.hp r1 q)⟩
theorem bR {x:RA}{as bs:List TJ}(hx:QB X c x tb) (h:nV X c as t) (h':nV X c bs u):gY X c (.If x as bs pos) (bS tb t u):=have hx:=hx.h;have h:=h.h;have h':=h'.h;⟨fB (L8 hx h h') λE σ H ⟨J,env,sr,w⟩=>by
 refine ⟨J,env,sr,aC (aH w) λk wk J1 H1 e1=>?_⟩;cases k with
 | true=>
  rw [if_pos rfl] at wk ⊢;exact ⟨J1,env,sr.ext e1,aC wk λo q=>q.mono e1.j⟩
 | false=>
  rw [if_neg (by decide)] at wk ⊢;exact ⟨J1,env,sr.ext e1,aC wk λo q=>q.mono e1.j⟩⟩
theorem aN (i:Nat){x:Str}{pos':Pos}(hN:X.N.Nodup) (h:QD X c e g) (hi:X.N[i]?=some x:=by rfl) (hx:Loc X.env.scope x:=by first | exact UZ rfl | exact Tq rfl) (hs:U4 e (some (.Name x pos')) pos.line X.env=pure false:=by rfl)
  (hf:X.fn x=true\/X.env.scope.names.lookup x=some .local:=by first | exact .inl rfl | exact .inr rfl):gY X c (.Assign [.Name x pos'] e pos) (bh i g):=have h:=h.h;⟨fB (DB hN hi hx h hs hf) λE σ H ⟨J,env,sr,w⟩=>by
 refine ⟨J,env,sr,aC (aH w) λr wr v J1 H1 e1 r1=>?_⟩;obtain ⟨x,q,wr⟩:=uN wr;exact wr (σ.set i (some v)) J1 H1 e1.j (sr.set e1 r1 q)⟩
theorem aB (i:Nat){x:Str}(hN:X.N.Nodup) (hi:X.N[i]?=some x:=by rfl) (hx:Loc X.env.scope x:=by first | exact UZ rfl | exact Tq rfl) (hf:X.fn x=true\/X.env.scope.names.lookup x=some .local:=by first | exact .inl rfl | exact .inr rfl):nC X c (.Name x pos) (aA i):=⟨
 GA (Ig hN hi hx hf) λv σ H Q ⟨J,env,d,sr,rd,w⟩=>w _ (sr.setD (x:=.d d) rd λx z=>by cases x <;> cases z) λj xs q=>by
  rcases cM q with ⟨_,_,e⟩ | ⟨hj,q⟩
  ·cases xs <;> cases e
  ·exact ⟨q,RB (SK hj)⟩⟩
theorem cS:AS X c [] eF:=⟨Dt Ih λvs σ H Q ⟨J,env,ds,sr,rd,w⟩=>by
 cases rd with
 | nil=>exact ⟨rfl,w σ sr KO.refl⟩
 | cons _ _=>exact w.elim⟩
theorem aX {t:GT}{u:rB}(h:nC X c e t) (h':AS X c es u) (hs:(TQ (e::es) X.env).map (·.2)=assign e X.env::(TQ es X.env).map (·.2):=by rfl):AS X c (e::es) (bD t u):=have h:=h.h;have h':=h'.h;⟨
 Dt (Fc h h' hs) λvs σ H Q ⟨J,env,ds,sr,rd,w⟩=>by
  cases rd with
  | nil=>exact w.elim
  | cons r rs=>
   refine ⟨_,_,rfl,J,env,_,sr,r,aC (aH w) λe1 w1 σ' sr' ko=>?_⟩;exact ⟨J,e1,_,sr',rs,aC w1 λe2 q σ2 sr2 ko2=>q σ2 sr2 (ko.trans ko2)⟩⟩
theorem c8 {k:Nat}{u:rB}{n:Nat}(h:AS X c es u) (hc:X.calm=true:=by rfl) (hK:X.K=c.K:=by rfl) (hn:(TQ es X.env).length=n:=by rfl) (hst:(TQ es X.env).findIdx? (·.1)=none:=by rfl):nC X c (.Tuple es k pos) (dU n u):=have h:=h.h;⟨
 GA (KP hc h hn hst) λv σ H Q ⟨J,env,d,sr,rd,w⟩=>by
  cases rd with
  | tup h1 h2=>
   unfold dU at w;simp only at w;split at w
   ·rename_i hl;exact ⟨_,_,rfl,by rw [hK];exact eE sr.hp.sub h1,by rw [<-h2.length];exact hl,J,env,_,sr,h2,w⟩
   ·exact w.elim
  | _=>exact w.elim⟩
theorem c7 {QC:RA}{body:List TJ}{gi:G (List D)}{t:GT}(hi:zL X c tg QC gi) (ht:nC X c tg t) (hb:nV X c body u) (hp:Y5 (Rf X.prog X.w) X.A X.env X.xe:=by first | exact Zb | exact YE) (hc:X.calm=true:=by rfl)
  (hs:∀x,Se QC X.env x=pure x:=by intro _;rfl):gY X c (.For tg QC body [] pos) (eW gi t u):=have hi:=hi.h;have ht:=ht.h;have hb:=hb.h;⟨fB (KU hp hc hi ht hb hs) λE σ H ⟨J,env,sr,w⟩=>by
 refine ⟨J,env,sr,aC (aH w) λds wd It J1 H1 e1 wk=>?_⟩;refine ⟨λi m σ H=>m=ds.length - i/\∃J' env,aL J1 J'/\SR c J' H σ env/\cA (fq t u (ds.drop i) env) (oP c J' E) c.T,
  ⟨ds.length,by simp,J1,env,aL.refl J1,sr.ext e1,by rw [ZE];exact aC wd λo q=>q.mono e1.j⟩,?_⟩
 rintro i m σ H ⟨rfl,J',env,s',sr',w'⟩;obtain ⟨w1,w2⟩:=wk i J' H sr'.hp s';by_cases hlt:i < ds.length
 ·obtain ⟨g1,y1⟩:=w2 ds[i] (by simp [hlt]);rw [UN hlt] at w';refine .inr ⟨g1,λσ2 H2=>∃J2 env2,aL J' J2/\SR c J2 H2 σ2 env2/\cA (fq t u (ds.drop (i + 1)) env2) (oP c J2 E) c.T,?_,?_⟩
  ·rintro σ2 H2 ⟨J2,env2,s2,sr2,w2⟩;exact ⟨ds.length - (i + 1),by omega,rfl,J2,env2,s'.trans s2,sr2,w2⟩
  ·intro x H2 hy;obtain ⟨J2,e2,rx⟩:=y1 x H2 hy;refine ⟨J2,env,ds[i],sr'.ext e2,rx,aC (aH w') λenv3 w3 σ3 sr3 _=>?_⟩;refine ⟨J2,env3,sr3,aC (aH w3) λo wo=>?_⟩;cases o with
   | nx env4=>exact λσ4 J4 H4 s4 sr4=>⟨J4,env4,e2.j.trans s4,sr4,aC wo λo q=>q.mono (e2.j.trans s4)⟩
   | ct env4=>exact λσ4 J4 H4 s4 sr4=>⟨J4,env4,e2.j.trans s4,sr4,aC wo λo q=>q.mono (e2.j.trans s4)⟩
   | bk env4=>exact λσ4 J4 H4 s4 sr4=>wo σ4 J4 H4 (e2.j.trans s4) sr4
   | rt r=>exact λv J4 H4 s4 h4 r4=>wo v J4 H4 (e2.j.trans s4) h4 r4
 ·rw [W2 (by omega)] at w';exact .inl ⟨w1 (by omega),w' σ J' H (aL.refl J') sr'⟩⟩
theorem bf {p:Pos}{gs:G (List R)}(ha:jr X c [a] gs) (hm:X.mg "range"=none) (hg:Gl X "range":=by rfl) (hs:QZ [a] X.env=[(false,eval a X.env)]:=by rfl):zL X c tg (.Call (.Name "range" p) [a] [] pos) (bT gs):=have ha:=ha.h;⟨
 sZ (Dv hg hm ha hs) λσ H Q ⟨J,env,sr,w⟩=>by
  refine ⟨J,env,sr,aC (aH w) λrs wr vs J1 H1 e1 r1=>?_⟩;split at wr
  ·split at wr
   ·rename_i h;obtain ⟨v,rfl,r⟩:=r1.one;cases r;have h:=dJ.mp h;exact ⟨_,rfl,Int.le_of_lt h.1,h.2,wr _ J1 H1 e1 BS⟩
   ·exact wr.elim
  ·exact wr.elim⟩
theorem cW {gi:G (List D)}(h:zL X c tg e gi):uV X c tg e gi:=have h:=h.h;⟨sZ h λσ H Q ⟨J,env,sr,w⟩=>
 ⟨J,env,sr,aC w λds q It J1 H1 e1 wk=>q It J1 H1 e1 λi J' H' hp u=>wk i J' H' hp u.1⟩⟩
end
section
variable {X:Cx}{c:C}{e a b tg:RA}{es:List RA}{ga gb g:G R}{pos:Pos}
theorem jb (i:Nat){x:Str}{p1 p2 pos':Pos}(h:QD X c e g) (hN:X.N[i]?=some x:=by rfl) (hv:nW X.env.scope x:=by first | exact UZ rfl | exact Tq (UZ rfl) | exact Tq (Tq rfl)) (hd:(x == ("__debug__":Str))=false:=by decide)
  (hcd:(x == ("__classdict__":Str))=false:=by decide)
  (hbase:U9 (.Name x p1) "append" X.env (eval (.Name x p1) X.env)=eval (.Name x p1) X.env:=by rfl)
  (hfew:((SJ pos' (QZ [e] X.env)).all (λx=>!x.1) && (Yb pos' (V5 [] X.env)).all (λx=>x.1.isSome)
   && decide (([e]:List RA).length + ([]:List V6).length + (if ([]:List V6).isEmpty then 0 else 1) < 30))=true:=by rfl)
  (hline:(p2.endLine == pos'.line)=true:=by rfl) (hst:QZ [e] X.env=(false,eval e X.env)::QZ [] X.env:=by rfl) (hplain:(SJ pos' (QZ [] X.env)).any (·.1)=false:=by rfl)
  (hs:U4 (.Call (.Attribute (.Name x p1) "append" p2) [e] [] pos') none pos.line X.env=pure false:=by rfl):gY X c (.Expr (.Call (.Attribute (.Name x p1) "append" p2) [e] [] pos') pos) (mL i g):=have h:=h.h;⟨
 fB (lY (sY Tc U0 U1 jg (jj hN hv hd hcd) (dF h fJ hst) hbase hfew hline hst hplain) hs) λE σ H ⟨J,env,sr,w⟩=>by
  unfold mL at w;split at w
  ·rename_i xs hi;obtain ⟨v,h1,a,vs,rfl,h2,h3,h4,h5⟩:=sr.at_ i _ hi;refine ⟨.ref a,h1,.inl ⟨rfl,vs,bV.of h2⟩,?_⟩;refine ⟨J,env,sr,aC (aH w) λr wr y J1 H1 e1 r1=>?_⟩;obtain ⟨d,q,wr⟩:=gy wr;obtain ⟨J2,e2,s2,rd⟩:=freeze e1 r1 q;split at wr
   ·rename_i hz;refine ⟨a,vs,y,rfl,rfl,e2.h _ _ h2,by rw [<-h5.length];exact hz,?_⟩;refine wr σ J2 _ e2.j ?_;exact (sr.ext e2).upd hi h1 (e2.h _ _ h2) (e2.frz a (by rw [h2];intro z;cases z) h3) h4 ((h5.mono e2.j).append (.cons rd .nil))
   ·exact wr.elim
  ·exact w.elim⟩
end
section
variable {X:Cx}{c:C}
theorem aY:mD X c [] b8:=⟨λQx s σ H Q I ⟨J,env,sr,w⟩=>wpAny_tests_nil ⟨H,I,w J H (Ext.refl sr.hp.sub)⟩⟩
theorem dw {g:G Bool}(h:QB X c x g):mD X c [x] g:=have h:=h.h;⟨λQx s σ H Q I q=>wpAny_tests_one (h Qx s σ H Q I q)⟩
end
section
variable {K:QJ}{J:Hp}{s:QM}
variable {X:Cx}{c:C}{e a b tg:RA}{es:List RA}{ga gb g:G R}{pos:Pos}
theorem oQ (hu:X.A.units + 64 < Sw) (ha:QD X c a ga) (hb:QD X c b gb) (hK:X.K=c.K:=by rfl):QD X c (.Compare a [.Eq] [b] pos) (g2 (dM false) ga gb):=have ha:=ha.h;have hb:=hb.h;⟨oJ (Dm hu) (A2 false hK) ha hb⟩
theorem lZ (hu:X.A.units + 64 < Sw) (ha:QD X c a ga) (hb:QD X c b gb) (hK:X.K=c.K:=by rfl):QB X c (.Compare a [.Eq] [b] pos) (bH (g2 (dM false) ga gb)):=have ha:=ha.h;have hb:=hb.h;⟨jS (Dm hu) (A2 false hK) ha hb⟩
theorem l6 (hu:X.A.units + 64 < Sw) (ha:QD X c a ga) (hb:QD X c b gb) (hK:X.K=c.K:=by rfl):QB X c (.Compare a [.NotEq] [b] pos) (bH (g2 (dM true) ga gb)):=have ha:=ha.h;have hb:=hb.h;⟨jS (Kq hu) (A2 true hK) ha hb⟩
theorem yO (hu:X.A.units + 64 < Sw) (ha:QD X c a ga) (hb:QD X c b gb) (hK:X.K=c.K:=by rfl) (hm:Sd .In b=false:=by rfl):QD X c (.Compare a [.In] [b] pos) (g2 (lI false) ga gb):=have ha:=ha.h;have hb:=hb.h;⟨oJ (Dn hu) (F8 false hK) ha hb hm⟩
theorem K3 (hu:X.A.units + 64 < Sw) (ha:QD X c a ga) (hb:QD X c b gb) (hK:X.K=c.K:=by rfl) (hm:Sd .In b=false:=by rfl):QB X c (.Compare a [.In] [b] pos) (bH (g2 (lI false) ga gb)):=have ha:=ha.h;have hb:=hb.h;⟨jS (Dn hu) (F8 false hK) ha hb hm⟩
end
section
variable {X:Cx}{c:C}{e a b tg:RA}{es:List RA}{ga gb g:G R}{pos:Pos}
theorem kH:F4 X c none yl:=⟨GB Ii λσ H Q ⟨J,env,sr,w⟩=>w J H (Ext.refl sr.hp.sub)⟩
theorem kI (h:QD X c e g):F4 X c (some e) (ym g):=have h:=h.h;⟨GB (Ij h) λσ H Q ⟨J,env,sr,w⟩=>by
 refine ⟨J,env,sr,aC (aH w) λr wr v J1 H1 e1 r1=>?_⟩;split at wr
 ·cases r1;exact ⟨_,rfl,wr J1 H1 e1⟩
 ·exact wr.elim⟩
theorem BC {p:Pos}{gs:G (List R)}(ha:jr X c (e::es) gs) (hm:X.mg "sorted"=none) (hK:X.K=c.K:=by rfl) (hg:Gl X "sorted":=by rfl)
  (he:QZ (e::es) X.env=(false,eval e X.env)::QZ es X.env:=by rfl) (hpl:(SJ pos (QZ es X.env)).any (·.1)=false:=by rfl):QD X c (.Call (.Name "sorted" p) (e::es) [] pos) (gN lK gs):=have ha:=ha.h;⟨
 jT xT (by
  intro He J H xs vs Q hp rs w;unfold lK at w;split at w
  ·obtain ⟨v,rfl,r⟩:=rs.one;obtain ⟨xs,q,w⟩:=pS w;obtain ⟨p,vs,rfl,h1,h2⟩:=RR.list hp r q;split at w
   ·rename_i ss z;split at w
    ·rename_i hl;have:=tQ z h2;subst this;refine ⟨p,ss,rfl,by rw [hK];exact h1,hl,λss' hp' hs' l hl'=>?_⟩;rw [BI hp' hs'];exact w _ _ _ (Ext.new hp.sub hl' _) (f_ hp hl' (vK _))
    ·exact w.elim
   ·exact w.elim
  ·exact w.elim) iA hm ha hg (by decide) (by decide) he hpl⟩
theorem cX (ha:QD X c a ga) (hb:QD X c b gb):QD X c (.BinOp a .Add b pos) (g2 cO ga gb):=by
 have ha:=ha.h;have hb:=hb.h;refine ⟨?_⟩;have h1:BD c (oR λi j=>.int (i + j)) uq:=gq λ_ _ _=>.int _;have q:=m9 (pos:=pos) (Dj.or (sW.or Dk)) (BD.or (c:=c) (λx _=>CV x) h1 (BD.or (c:=c) (λx _=>JP x) (f:=r6) (f':=r_) (by
  intro He He' J H x y u v Q hp rx ry w;unfold r6 at w;split at w
  ·cases rx;cases ry;split at w
   ·rename_i h;exact ⟨_,_,rfl,rfl,h,w _ J H (Ext.refl hp.sub) (.str _)⟩
   ·exact w.elim
  ·exact w.elim) (by
  intro He He' J H x y u v Q hp rx ry w;unfold r_ at w;split at w
  ·rename_i hm;rw [QX] at hm;obtain ⟨p,vs,xs,e1,rfl,h1,s1⟩:=rx.made hm.1;obtain ⟨p2,vs2,ys,e2,rfl,h2,s2⟩:=ry.made hm.2;rw [e1,e2] at w;simp only [aK] at w;split at w
   ·rename_i hz;rw [s1.length,s2.length] at hz;exact ⟨p,p2,vs,vs2,rfl,rfl,h1,h2,hz,λq hq=>w _ J _ (Ext.new hp.sub hq _) (f_ hp hq (s1.append s2))⟩
   ·exact w.elim
  ·exact w.elim))) ha hb
 exact q
theorem jk (ha:QD X c a ga) (hb:QD X c b gb):QD X c (.BinOp a .Mult b pos) (g2 f6 ga gb):=by
 have ha:=ha.h;have hb:=hb.h;refine ⟨?_⟩;have h1:BD c (rI AL λi j=>.int (i * j)) JF:=A1 (λi j h=>Hx h) λ_ _ _=>.int _;exact m9 (pos:=pos) (Ko.or HV) (BD.or (c:=c) (λx _=>CV x) h1 (f':=Ba) (by
  intro He He' J H x y u v Q hp rx ry w;unfold Ba at w;split at w
  ·cases rx;cases ry;split at w
   ·rename_i h;exact ⟨_,_,rfl,rfl,h.1,h.2.1,h.2.2,w _ J H (Ext.refl hp.sub) (.str _)⟩
   ·exact w.elim
  ·exact w.elim)) ha hb
theorem aI (ha:QD X c a ga) (hb:QD X c b gb) (hK:X.K=c.K:=by rfl) (hs:ly b:=by exact λ_ _=>rfl):QD X c (.Subscript a b pos) (g2 a_ ga gb):=have ha:=ha.h;have hb:=hb.h;⟨Gy JU (by
 intro He He' J H x y u v Q hp rx ry w;rw [hK];unfold a_ at w;split at w
 ·cases rx;cases ry;split at w
  ·rename_i h;split at w
   ·rename_i k hk;exact .inr (.inr ⟨_,_,k,rfl,rfl,h,hk,w _ J H (Ext.refl hp.sub) (.str _)⟩)
   ·exact w.elim
  ·exact w.elim
 ·cases ry;obtain ⟨xs,q,w⟩:=h_ w;obtain ⟨p,vs,rfl,hl,hs⟩:=jC hp rx q;split at w
  ·rename_i d hd;obtain ⟨z,h1,h2⟩:=ID hs hd;have fin:=w z J H (Ext.refl hp.sub) h2;rcases hl with hl | hl
   ·exact .inl ⟨p,vs,_,z,rfl,rfl,hl,h1,fin⟩
   ·exact .inr (.inl ⟨p,vs,_,z,rfl,rfl,hl,h1,fin⟩)
  ·exact w.elim
 ·exact w.elim) ha hb hs⟩
theorem aP {F:List S->M R}{gs:G (List R)}(G:bx X.prog X.w X.K X.mg X.base k n x F) (hr:dg k' X.A) (ha:jr X c (e::es) gs) (hk:k<=k':=by decide) (hT:c.K=X.K:=by rfl) (hg:Gl X x:=by rfl) (hdb:(x == ("__debug__":Str))=false:=by decide)
 (he:QZ (e::es) X.env=(false,eval e X.env)::QZ es X.env:=by rfl) (hpl:(SJ pos (QZ es X.env)).any (·.1)=false:=by rfl):QD X c (.Call (.Name x p) (e::es) [] pos) (gN (aS n F) gs):=by have ha:=ha.h;refine ⟨?_⟩;obtain ⟨f,fd,ps,h1,h2,h3,h4⟩:=G;exact H_ h1 (hr.mono hk) h2 h3 h4 ha hT hg hdb he hpl
theorem jU (h:QD X c e g) (ht:nC X c tg t) (hs:WI [tg] e pos.line X.env=pure false:=by rfl) (hw:X0 [tg] e X.env=pure none:=by rfl)
 (h1:(TQ [tg] X.env).map (·.2)=[assign tg X.env]:=by rfl):gY X c (.Assign [tg] e pos) (kX t g):=have h:=h.h;have ht:=ht.h;⟨HY h ht (DA h ht hs hw h1)⟩
theorem iH {T:String}{Ts:Str}{p p2:Pos}(kit:zI T) (hT:RJ Ts=some (.type T)) (mT:X.mg Ts=none)
  (h:QD X c a g) (hm:X.mg "isinstance"=none) (hK:X.K=c.K:=by rfl) (hg:Gl X "isinstance":=by rfl) (Qa:Gl X Ts:=by rfl) (hn:Ts≠"__name__":=by decide) (P8:(Ts == ("__debug__":Str))=false:=by decide)
  (he:QZ [a,.Name Ts p2] X.env=(false,eval a X.env)::QZ [.Name Ts p2] X.env:=by rfl) (OY:QZ [.Name Ts p2] X.env=(false,eval (.Name Ts p2) X.env)::QZ [] X.env:=by rfl)
  (hpl:(SJ pos (QZ [.Name Ts p2] X.env)).any (·.1)=false:=by rfl):QD X c (.Call (.Name "isinstance" p) [a,.Name Ts p2] [] pos) (yk T g):=have h:=h.h;⟨
 fz (m_ (zp kit) hg hm (by decide +kernel) (dF h (dF (Ic Qa mT hT (v:=.ty T) rfl hn P8) fJ OY) he) (by decide) (by decide) he hpl) λσ H Q ⟨J,env,sr,w⟩=>by
  refine ⟨J,env,sr,aC (aH w) λr wr v J1 H1 e1 r1=>?_⟩;exact ⟨r.dat,v,rfl,by rw [hK];exact r1.dat (sr.hp.ext e1),wr _ J1 H1 e1 (.bl _)⟩⟩
theorem uE {p:Pos}{gs:G (List R)}(ha:jr X c (e::es) gs) (hm:X.mg "all"=none) (hK:X.K=c.K:=by rfl) (hc:X.calm=true:=by rfl) (hg:Gl X "all":=by rfl)
  (he:QZ (e::es) X.env=(false,eval e X.env)::QZ es X.env:=by rfl) (hpl:(SJ pos (QZ es X.env)).any (·.1)=false:=by rfl):QD X c (.Call (.Name "all" p) (e::es) [] pos) (gN n_ gs):=have ha:=ha.h;⟨
 jT (Cn hc) (by
  intro He J H xs vs Q hp rs w;unfold n_ at w;split at w
  ·obtain ⟨v,rfl,r⟩:=rs.one;obtain ⟨xs,q,w⟩:=pS w;obtain ⟨p,vs,rfl,h1,h2⟩:=RR.list hp r q;split at w
   ·rename_i ks z;have:=nZ z h2;subst this;exact ⟨p,ks,rfl,by rw [hK];exact h1,w _ J H (Ext.refl hp.sub) (.bl _)⟩
   ·exact w.elim
  ·exact w.elim) Cg hm ha hg (by decide) (by decide) he hpl⟩
theorem fC (ha:QD X c a ga) (hb:QD X c b gb) (hK:X.K=c.K:=by rfl):QD X c (.BinOp a .Add b pos) (g2 dB ga gb):=by
 have ha:=ha.h;have hb:=hb.h;refine ⟨?_⟩;have h1:BD c (oR λi j=>.int (i + j)) uq:=gq λ_ _ _=>.int _;exact m9 (pos:=pos) (Dl.or (Dj.or (sW.or Dk))) (BD.or (c:=c) (λx _=>JQ x) (G1 hK) (BD.or (c:=c) (λx _=>CV x) h1 (BD.or (c:=c) (λx _=>JP x) (f:=r6) (f':=r_) (by
  intro He He' J H x y u v Q hp rx ry w;unfold r6 at w;split at w
  ·cases rx;cases ry;split at w
   ·rename_i h;exact ⟨_,_,rfl,rfl,h,w _ J H (Ext.refl hp.sub) (.str _)⟩
   ·exact w.elim
  ·exact w.elim) (by
  intro He He' J H x y u v Q hp rx ry w;unfold r_ at w;split at w
  ·rename_i hm;rw [QX] at hm;obtain ⟨p,vs,xs,e1,rfl,h1,s1⟩:=rx.made hm.1;obtain ⟨p2,vs2,ys,e2,rfl,h2,s2⟩:=ry.made hm.2;rw [e1,e2] at w;simp only [aK] at w;split at w
   ·rename_i hz;rw [s1.length,s2.length] at hz;exact ⟨p,p2,vs,vs2,rfl,rfl,h1,h2,hz,λq hq=>w _ J _ (Ext.new hp.sub hq _) (f_ hp hq (s1.append s2))⟩
   ·exact w.elim
  ·exact w.elim)))) ha hb
theorem pP {lo hi:Option RA}{gl gh:GO}{p2:Pos}(h:QD X c e g) (hl:F4 X c lo gl) (hh:F4 X c hi gh) (hK:X.K=c.K:=by rfl):QD X c (.Subscript e (.Slice lo hi none p2) pos) (qe oh g gl gh):=have h:=h.h;have hl:=hl.h;have hh:=hh.h;⟨L3 (DQ.or IF) (by
 intro He J H x v l u Q hp rx w;unfold oh at w;split at w
 ·exact .inl (Np hK He J H x v l u Q hp rx w)
 ·obtain ⟨xs,q,w⟩:=pS w;obtain ⟨p,vs,rfl,h1,h2⟩:=rx.list hp q;exact .inr ⟨p,vs,rfl,by rw [hK];exact h1,λp' hp'=>w _ _ _ (Ext.new hp.sub hp' _) (f_ hp hp' (h2.cut l u))⟩) h hl hh⟩
theorem kG (h:AN X.K X.mg x d) (hK:X.K=c.K:=by rfl) (hg:Gl X x:=by rfl) (hd:(x == ("__debug__":Str))=false:=by decide):QD X c (.Name x pos) (gC d):=by refine ⟨?_⟩;obtain ⟨u,v,h1,h2,h3⟩:=h;exact Ia h1 h2 (λJ=>hK▸h3 J) hg hd
end
section
variable {X:Cx}{c:C}{e a b tg:RA}{es:List RA}{ga gb g:G R}{pos:Pos}{st:TJ}{t u:G O}{tb:G Bool}
theorem ng:gY X c st wZ:=⟨λQx s σ H D I ⟨J,env,sr,w⟩=>w.elim⟩
theorem pO (h:QD X c a g):QD X c (.UnaryOp .USub a pos) (qP g):=have h:=h.h;⟨fz (L7 Lw h) λσ H Q ⟨J,env,sr,w⟩=>by
 refine ⟨J,env,sr,aC (aH w) λr wr v J1 H1 e1 r1=>?_⟩;split at wr
 ·cases r1;exact ⟨_,rfl,wr _ J1 H1 e1 (.int _)⟩
 ·exact wr.elim⟩
theorem pN (h:QD X c e g) (hK:X.K=c.K:=by rfl) (he:∀whole,XG e X.env whole=(do let v <-whole;Uo e.pos;holding [v] (truthy v)):=by intro _;rfl):QB X c e (qS g):=have h:=h.h;⟨xo (Ff h he) λσ H Q ⟨J,env,sr,w⟩=>by
 refine ⟨J,env,sr,aC (aH w) λr wr v J1 H1 e1 r1=>?_⟩;rw [hK];obtain ⟨k,k1,k2⟩:=IQ (sr.hp.ext e1) r1 wr;exact ⟨k,k1,k2 J1 H1 e1⟩⟩
theorem BA (n:Nat){body:List TJ}(ht:QB X c e tb) (hb:nV X c body u) (hp:Y5 (Rf X.prog X.w) X.A X.env X.xe:=by first | exact Zb | exact YE):gY X c (.While e body [] pos) (sD n tb u):=have ht:=ht.h;have hb:=hb.h;⟨fB (Fe hp ht hb) λE σ H ⟨J,env,sr,w⟩=>by
 refine ⟨λm σ H=>∃J' env,aL J J'/\SR c J' H σ env/\cA (j5 tb u m env) (oP c J' E) c.T,⟨n,J,env,aL.refl J,sr,w⟩,?_⟩;rintro m σ H ⟨J',env,s',sr',w'⟩;cases m with
 | zero=>exact w'.elim
 | succ m=>
  refine ⟨J',env,sr',aC (aH w') λk wk J1 H1 e1=>?_⟩;cases k with
  | false=>
   rw [if_neg (by decide)] at wk ⊢;exact wk σ J1 H1 e1.j (sr'.ext e1)
  | true=>
   rw [if_pos rfl] at wk ⊢;refine ⟨λσ2 H2=>∃J2 env2,aL J1 J2/\SR c J2 H2 σ2 env2/\cA (j5 tb u m env2) (oP c J2 E) c.T,?_,?_⟩
   ·rintro σ2 H2 ⟨J2,env2,s2,sr2,w2⟩;exact ⟨m,SH m,J2,env2,(s'.trans e1.j).trans s2,sr2,w2⟩
   ·refine ⟨J1,env,sr'.ext e1,aC (aH wk) λo wo=>?_⟩;cases o with
    | nx env4=>exact λσ4 J4 H4 s4 sr4=>⟨J4,env4,s4,sr4,aC wo λo q=>q.mono (e1.j.trans s4)⟩
    | ct env4=>exact λσ4 J4 H4 s4 sr4=>⟨J4,env4,s4,sr4,aC wo λo q=>q.mono (e1.j.trans s4)⟩
    | bk env4=>exact λσ4 J4 H4 s4 sr4=>wo σ4 J4 H4 (e1.j.trans s4) sr4
    | rt r=>exact λv J4 H4 s4 h4 r4=>wo v J4 H4 (e1.j.trans s4) h4 r4⟩
theorem zy (i j:Nat){x y:Str}{p1 p2 pos' q1 q2 q3:Pos}(h:QD X c e g) (hi:X.N[i]?=some x:=by rfl) (Qo:nW X.env.scope x:=by first | exact UZ rfl | exact Tq (UZ rfl) | exact Tq (Tq rfl)) (hdx:(x == ("__debug__":Str))=false:=by decide) (P6:(x == ("__classdict__":Str))=false:=by decide)
  (hj:X.N[j]?=some y:=by rfl) (Qp:nW X.env.scope y:=by first | exact UZ rfl | exact Tq (UZ rfl) | exact Tq (Tq rfl)) (Ph:(y == ("__debug__":Str))=false:=by decide) (P7:(y == ("__classdict__":Str))=false:=by decide)
  (hbase:U9 (.Name x p1) "append" X.env (eval (.Name x p1) X.env)=eval (.Name x p1) X.env:=by rfl)
  (hfew:((SJ pos' (QZ [.Call (.Attribute (.Name y q1) "pop" q2) [e] [] q3] X.env)).all (λx=>!x.1) && (Yb pos' (V5 [] X.env)).all (λx=>x.1.isSome)
   && decide (([.Call (.Attribute (.Name y q1) "pop" q2) [e] [] q3]:List RA).length + ([]:List V6).length + (if ([]:List V6).isEmpty then 0 else 1) < 30))=true:=by rfl)
  (hline:(p2.endLine == pos'.line)=true:=by rfl)
  (hst:QZ [.Call (.Attribute (.Name y q1) "pop" q2) [e] [] q3] X.env=(false,eval (.Call (.Attribute (.Name y q1) "pop" q2) [e] [] q3) X.env)::QZ [] X.env:=by rfl) (hplain:(SJ pos' (QZ [] X.env)).any (·.1)=false:=by rfl)
  (OV:U9 (.Name y q1) "pop" X.env (eval (.Name y q1) X.env)=eval (.Name y q1) X.env:=by rfl)
  (O8:((SJ q3 (QZ [e] X.env)).all (λx=>!x.1) && (Yb q3 (V5 [] X.env)).all (λx=>x.1.isSome)
   && decide (([e]:List RA).length + ([]:List V6).length + (if ([]:List V6).isEmpty then 0 else 1) < 30))=true:=by rfl)
  (O0:(q2.endLine == q3.line)=true:=by rfl) (Pb:QZ [e] X.env=(false,eval e X.env)::QZ [] X.env:=by rfl) (OS:(SJ q3 (QZ [] X.env)).any (·.1)=false:=by rfl)
  (hs:U4 (.Call (.Attribute (.Name x p1) "append" p2) [.Call (.Attribute (.Name y q1) "pop" q2) [e] [] q3] [] pos') none pos.line X.env=pure false:=by rfl):gY X c (.Expr (.Call (.Attribute (.Name x p1) "append" p2) [.Call (.Attribute (.Name y q1) "pop" q2) [e] [] q3] [] pos') pos) (lN i j g):=have h:=h.h;⟨
 fB (lY (sY Tc U0 U1 jg (jj hi Qo hdx P6) (dF (sY Tc PySem.F.slot_list_pop PySem.F.type_list_pop EV (jj hj Qp Ph P7) (dF h fJ Pb) OV O8 O0 Pb OS) fJ hst) hbase hfew hline hst hplain) hs) λE σ H ⟨J,env,sr,w⟩=>by
  unfold lN at w;split at w
  ·rename_i zs xs Pn Pp;split at w
   ·exact w.elim
   ·rename_i hij;obtain ⟨_,k1,p,us,rfl,k2,k3,k4,k5⟩:=sr.at_ i _ Pn;obtain ⟨_,l1,q,vs,rfl,l2,l3,l4,l5⟩:=sr.at_ j _ Pp;refine ⟨.ref p,k1,.inl ⟨rfl,us,bV.of k2⟩,?_⟩;refine ⟨.ref q,l1,.inl ⟨rfl,vs,bV.of l2⟩,?_⟩;refine ⟨J,env,sr,aC (aH w) λr wr v J1 H1 e1 r1=>?_⟩;split at wr
    ·rename_i k;cases r1;split at wr
     ·rename_i hk;split at wr
      ·rename_i d hd;obtain ⟨z,hz,rz⟩:=l5.get hd;have m2:=e1.h _ _ l2;have n2:=e1.h _ _ k2;have hpq:q≠p:=λzz=>Kw sr hij Pn Pp k1 l1 zz.symm;refine ⟨q,vs,k,k.toNat,z,rfl,rfl,m2,by omega,?_,Mi hk.1 (by rw [<-l5.length];exact hk.2.1),hz,?_⟩
       ·have z1:=hk.2.1;have z2:=hk.2.2.2;have z3:sizeLine=16777216:=RX;omega
       ·refine ⟨p,us,z,rfl,rfl,by rw [aQ (SK hpq)];exact n2,by rw [<-k5.length];exact hk.2.2.1,?_⟩;have sr1:=sr.ext e1;have J1p:J1 p=none:=e1.frz p (by rw [k2];intro z;cases z) k3;have J1q:J1 q=none:=e1.frz q (by rw [l2];intro z;cases z) l3;have sr2:=sr1.upd (xs':=xs.eraseIdx k.toNat) (vs':=vs.eraseIdx k.toNat) Pp l1 m2 J1q l4 ((l5.mono e1.j).eraseIdx _);have Po:(env.set j (some (.own (xs.eraseIdx k.toNat))))[i]?=some (some (.own zs)):=by rw [RB (SK hij)];exact Pn
        have sr3:=sr2.upd (xs':=zs++[d]) (vs':=us++[z]) Po k1 (by rw [aQ (SK hpq)];exact n2) J1p k4 ((k5.mono e1.j).append (.cons (rz.mono e1.j) .nil));exact wr σ J1 _ e1.j sr3
      ·exact wr.elim
     ·exact wr.elim
    ·exact wr.elim
  ·exact w.elim⟩
end
section
variable {X:Cx}{c:C}{e a b tg:RA}{es:List RA}{ga gb g:G R}{pos:Pos}
theorem zA (i:Nat){x:Str}{p1 p2 pos':Pos}(h:QD X c e g) (hN:X.N[i]?=some x:=by rfl) (hv:nW X.env.scope x:=by first | exact UZ rfl | exact Tq (UZ rfl) | exact Tq (Tq rfl)) (hd:(x == ("__debug__":Str))=false:=by decide)
  (hcd:(x == ("__classdict__":Str))=false:=by decide)
  (hbase:U9 (.Name x p1) "extend" X.env (eval (.Name x p1) X.env)=eval (.Name x p1) X.env:=by rfl)
  (hfew:((SJ pos' (QZ [e] X.env)).all (λx=>!x.1) && (Yb pos' (V5 [] X.env)).all (λx=>x.1.isSome)
   && decide (([e]:List RA).length + ([]:List V6).length + (if ([]:List V6).isEmpty then 0 else 1) < 30))=true:=by rfl)
  (hline:(p2.endLine == pos'.line)=true:=by rfl) (hst:QZ [e] X.env=(false,eval e X.env)::QZ [] X.env:=by rfl) (hplain:(SJ pos' (QZ [] X.env)).any (·.1)=false:=by rfl)
  (hs:U4 (.Call (.Attribute (.Name x p1) "extend" p2) [e] [] pos') none pos.line X.env=pure false:=by rfl) (hK:X.K=c.K:=by rfl):gY X c (.Expr (.Call (.Attribute (.Name x p1) "extend" p2) [e] [] pos') pos) (yi i g):=have h:=h.h;⟨
 fB (lY (sY Tc PySem.F.slot_list_extend PySem.F.type_list_extend Kh (jj hN hv hd hcd) (dF h fJ hst) hbase hfew hline hst hplain) hs) λE σ H ⟨J,env,sr,w⟩=>by
  unfold yi at w;split at w
  ·rename_i xs hi;obtain ⟨v,h1,a,vs,rfl,h2,h3,h4,h5⟩:=sr.at_ i _ hi;refine ⟨.ref a,h1,.inl ⟨rfl,vs,bV.of h2⟩,?_⟩;refine ⟨J,env,sr,aC (aH w) λr wr y J1 H1 e1 r1=>?_⟩;obtain ⟨ys,q,wr⟩:=h_ wr;split at wr
   ·rename_i hz;obtain ⟨p,ws,rfl,hq,hs⟩:=jC (sr.hp.ext e1) r1 q;refine ⟨a,p,vs,ws,rfl,rfl,e1.h _ _ h2,by rw [hK];exact hq,by rw [<-h5.length,<-hs.length];exact hz,?_⟩;refine wr σ J1 _ e1.j ?_;exact (sr.ext e1).upd hi h1 (e1.h _ _ h2) (e1.frz a (by rw [h2];intro z;cases z) h3) h4 ((h5.mono e1.j).append hs)
   ·exact wr.elim
  ·exact w.elim⟩
theorem DG (ha:QD X c a ga) (hb:QD X c b gb):QD X c (.Compare a [.Is] [b] pos) (g2 (qd false) ga gb):=have ha:=ha.h;have hb:=hb.h;⟨oJ Dq (by
 intro He He' J H x y u v Q hp rx ry w;unfold qd at w;split at w
 ·rename_i o ho;refine ⟨o,by rw [pJ ry];exact ho,?_⟩;rw [pJ rx];exact w _ J H (Ext.refl hp.sub) (.bl _)
 ·exact w.elim) ha hb⟩
theorem DC (ha:QD X c a ga) (hb:QD X c b gb):QB X c (.Compare a [.Is] [b] pos) (bH (g2 (qd false) ga gb)):=have ha:=ha.h;have hb:=hb.h;⟨jS Dq (by
 intro He He' J H x y u v Q hp rx ry w;unfold qd at w;split at w
 ·rename_i o ho;refine ⟨o,by rw [pJ ry];exact ho,?_⟩;rw [pJ rx];exact w _ J H (Ext.refl hp.sub) (.bl _)
 ·exact w.elim) ha hb⟩
end
section
variable {X:Cx}{c:C}{e a b d tg:RA}{es:List RA}{ga gb g:G R}{pos:Pos}
theorem i7 (h:QD X c e g) (hK:X.K=c.K:=by rfl):zL X c tg e (kY g):=have h:=h.h;⟨sZ (Du h) λσ H Q ⟨J,env,sr,w⟩=>by
 refine ⟨J,env,sr,aC (aH w) λr wr v J1 H1 e1 r1=>?_⟩;rw [hK];split at wr
 ·cases r1 with
  | tup h1 h2=>exact ⟨_,rfl,.inr ⟨⟨_,eE e1.sub h1⟩,wr _ J1 H1 e1 (v_ (λJ H u=>u) h1 h2)⟩⟩
 ·cases r1 with
  | lst h1 h2=>exact ⟨_,rfl,.inl ⟨⟨_,e1.sub.seq h1⟩,wr _ J1 H1 e1 (pe (.inl h1) h2)⟩⟩
 ·obtain ⟨J2,e2,s2,rd⟩:=freeze e1 r1 rfl;cases rd with
  | lst h1 h2=>exact ⟨_,rfl,.inl ⟨⟨_,e2.sub.seq h1⟩,wr _ J2 H1 e2 (pe (.inl h1) h2)⟩⟩
 ·obtain ⟨a,vs,rfl,h1,h2⟩:=r1;exact ⟨_,rfl,.inl ⟨⟨_,(sr.hp.ext e1).ent.seq h1⟩,wr _ J1 H1 e1 (pe (.inr h1) h2)⟩⟩
 ·exact wr.elim⟩
theorem bU (h:QD X c e g) (hK:X.K=c.K:=by rfl):uV X c tg e (dQ g):=have h:=h.h;⟨sZ (Du h) λσ H Q ⟨J,env,sr,w⟩=>by
 refine ⟨J,env,sr,aC (aH w) λr wr v J1 H1 e1 r1=>?_⟩;rw [hK];have lst:∀{xs:List D},jK r=.ok xs->(∀It J1' H1',Ext J H J1' H1'->Walk c It xs J1' (λJ' H'=>aL J1' J'/\aL H1' H')->Q It H1')->∃a,v=.ref a/\(((∃xs,bV c.K H1 a xs)/\Q (FT c.K a) H1)\/((∃xs,cC c.K H1 a xs)/\Q (FW c.K a) H1)):=fun {xs} q wr=>by obtain ⟨a,vs,rfl,h1,h2⟩:=RR.list (sr.hp.ext e1) r1 q;refine ⟨a,rfl,.inl ⟨⟨_,h1⟩,wr _ J1 H1 e1 λi J' H' hp u=>?_⟩⟩;have h':=u.2.seq h1;refine ⟨λhl=>⟨vs,h',by rw [<-h2.length];exact hl⟩,λd hd=>?_⟩;obtain ⟨v,k1,k2⟩:=h2.get hd;refine ⟨⟨vs,v,h',k1⟩,λx H2 ⟨e,hy⟩=>?_⟩;subst e;have:=hy vs h';rw [k1] at this;cases this;exact ⟨J',Ext.refl hp.sub,k2.mono u.1⟩
 cases r with
 | d y=>
  cases y with
  | tup xs=>
   cases r1 with
   | tup h1 h2=>exact ⟨_,rfl,.inr ⟨⟨_,eE e1.sub h1⟩,wr _ J1 H1 e1 (v_ (λJ H u=>u.1) h1 h2)⟩⟩
  | lst xs=>exact lst rfl wr
  | _=>exact wr.elim
 | l m xs=>exact lst rfl wr
 | mo _ _=>exact wr.elim
 | mb _ _=>exact wr.elim
 | mf _ _=>exact wr.elim
 | ln _=>exact wr.elim⟩
end
section
variable {X:Cx}{c:C}{st:TJ}{g:G O}
theorem nc (i:Nat) (h:gY X c st g):gY X c st (iX i g):=have h:=h.h;⟨λQx s σ H D I ⟨J,env,sr,w⟩=>by
 unfold iX at w;split at w
 ·rename_i xs hi;obtain ⟨v,h1,a,vs,rfl,h2,h3,h4,h5⟩:=sr.at_ i _ hi;obtain ⟨J',s1,sr'⟩:=sr.frz (x:=.inl xs) hi h1 h2 h3 h4 (.lst (.inl (.inl bB)) (h5.mono (bY h3 _)));exact h Qx s σ H D I ⟨J',_,sr',aC w λo q=>q.mono s1⟩
 ·rename_i ks vs hi;obtain ⟨v,h1,a,rfl,⟨us,ws,ep,h2,m1,m2,m3,m4⟩,h3,h4⟩:=sr.at_ i _ hi;obtain ⟨J',s1,sr'⟩:=sr.frz (x:=.inr (ks,vs)) hi h1 h2 h3 h4 (.dct bB (m1.mono (bY h3 _)) (m2.mono (bY h3 _)) m3 m4);exact h Qx s σ H D I ⟨J',_,sr',aC w λo q=>q.mono s1⟩
 ·exact h Qx s σ H D I ⟨J,env,sr,w⟩⟩
end
section
variable {X:Cx}{c:C}
theorem Ip {P:Ra}{w:Rz}{K:QJ}{mg:Str->Option QL}{base:Sn}{x QE:Str}{st:TJ}{f:Rb}{fd:Ry}{N ps:List Str}{k:Nat}{Fm:List S->M R}(F:nA K x QE st f fd) (hm:mg x=some (.ref f)) (Sc:gm N ps (bu st))
  (hbi:∀(kV doc pm:QL) (an:Option Rb) (cdv ct:QL) (us:List QL),us.length=ps.length->YZ (SG x QE (eV st) (cP st) (bu st) .none kV doc pm an cdv ct) ⟨us,[]⟩=pure (ps.zip us)){gB:G O}
  (hb:∀(cdv:QL) (A:RC) (outer:List Env) (s:QM) (H:Hp) (E:XK) (J:Hp) (T:Exc->Prop),dg k (A.deeper (Ww QE (bu st) s.heap.objs.size f cdv))->
   nV (CF P w K mg base N QE (bu st) f cdv A outer s H E) ⟨K,H,J,T⟩ (cP st) gB)
  (hF:∀as r,as.length=ps.length->Fm as=.ok r->fin (gB (aW N as))=.ok r):bx P w K mg base (k + 1) ps.length x Fm:=
 Jr F hm Sc hbi (λcdv A outer s H E J T hr=>(hb cdv A outer s H E J T hr).h) hF
end
end DL
namespace K01
open PySem DL
def uR:List Str:=["thing"]
def vg:G O:=(bz (mK (yk "int" (af 0)) (Gg (yk "bool" (af 0)))))
def nN (as:List S):M R:=fin (vg (aW uR as))
theorem gR (h:n<=1000):n<=sizeLine:=Rr h (by decide)
theorem ue (f:D->Bool):∀(ds:List D),i9 (ds.map λd=>.bl (f d))=some (ds.map f)
 | []=>rfl
 | d::r=>by simp only [Q6,i9,ue f r];rfl
theorem all_map (f:D->Bool) (ds:List D):n_ [.l .fresh (ds.map λd=>.bl (f d))]=.ok (.d (.bl (ds.all f))):=by unfold n_;simp only [jK,aK,ue];congr 3;simp [Wj]
theorem jD {α:Type}{xs:List α}{k:Nat}{x:α}(h:xs[k]?=some x):L2.jL xs (k:Int)=some x:=by have hk:k < xs.length:=(Ri.mp h).1;unfold L2.jL L2.oE;rw [if_pos (by omega),if_pos (by omega)];simpa using h
theorem jG {xs:List D}{k:Nat}{x:D}(h:xs[k]?=some x):a_ (.d (.tup xs)) (.d (.int k))=.ok (.d x):=by unfold a_;simp only [gz,aK,jD h]
theorem sd {m:Md}{xs:List D}{k:Nat}{x:D}(h:xs[k]?=some x):a_ (.l m xs) (.d (.int k))=.ok (.d x):=by unfold a_;simp only [gz,aK,jD h]
theorem Hi {z:Str}{k:Nat}{c:Nat}(hz:z.length<=1000) (h:z.cps.toList[k]?=some c):a_ (.d (.str z)) (.d (.int k))=.ok (.d (.str ⟨#[c]⟩)):=by unfold a_;simp only [gR hz,if_true,jD h]
theorem eq_int (neg:Bool) (i j:Int):dM neg (.d (.int i)) (.d (.int j))=.ok (.d (.bl (if neg then !(i == j) else i == j))):=rfl
theorem g8 (a:D) (r:List D):a_ (.d (.tup (a::r))) (.d (.int 0))=.ok (.d a):=jG (k:=0) rfl
theorem Ae (a b:D) (r:List D):a_ (.d (.tup (a::b::r))) (.d (.int 1))=.ok (.d b):=jG (k:=1) rfl
theorem NO (a b c:D) (r:List D):a_ (.d (.tup (a::b::c::r))) (.d (.int 2))=.ok (.d c):=jG (k:=2) rfl
theorem Nc (n:Nat) (h:n<=1000):below 4611686018427387904 (n:Int)=true:=dJ.mpr ⟨by omega,by omega⟩
def GD (j:Int):M (List D):=if below 4611686018427387904 j then .ok (eS 0 j.toNat) else .bad
theorem Lg (j:Int) (h:below 4611686018427387904 j=true):GD j=.ok (eS 0 j.toNat):=by unfold GD;exact if_pos h
theorem Lf {gs:G (List R)}(hg:gs env=.ok [.d (.int j)]):bT gs env=GD j:=by unfold bT GD;rw [hg];rfl
theorem oU {gs:G (List R)}{env:Ev}{n:Nat}(hg:gs env=.ok [.d (.int (n:Int))]) (h:n<=1000):bT gs env=.ok (eS 0 n):=by rw [Lf hg,Lg _ (Nc n h)];exact congrArg (λk=>M.ok (eS 0 k)) (SM n)
theorem JI {g:G (List D)}{u:G O}(h:g env=.ok ds):eW g t u env=fq t u ds env:=by unfold eW;rw [h];rfl
theorem za (i j:Int):cO (.d (.int i)) (.d (.int j))=.ok (.d (.int (i + j))):=rfl
theorem Mt (i j:Int):Bb (.d (.int i)) (.d (.int j))=.ok (.d (.int (i - j))):=rfl
theorem A9 {C:Int->Int->Bool}{f:Int->Int->D}(h:C i j=true):fI C f (.d (.int i)) (.d (.int j))=.ok (.d (f i j)):=by show (if C i j=true then M.ok (R.d (f i j)) else M.bad)=_;rw [if_pos h]
theorem IM (i j:Int) (h1:-(2 ^ 64) < j) (h2:j < 2 ^ 64):f6 (.d (.int i)) (.d (.int j))=.ok (.d (.int (i * j))):=A9 (C:=yt) (f:=λi j=>.int (i * j)) (by unfold yt;rw [TX];exact Tq (dJ.mpr ⟨h1,h2⟩))
theorem pR (i j:Int) (h1:0 < j) (h2:j < 1073741824):iB (.d (.int i)) (.d (.int j))=.ok (.d (.int (i / j))):=A9 (by
 unfold Bj;rw [QX];exact ⟨decide_eq_true h1,dJ.mpr ⟨by omega,h2⟩⟩)
theorem gx (i j:Int) (h1:0 < j):eO (.d (.int i)) (.d (.int j))=.ok (.d (.int (i % j))):=A9 (decide_eq_true h1)
theorem GN (x y:Str) (h:x.length + y.length<=1000):cO (.d (.str x)) (.d (.str y))=.ok (.d (.str (x++y))):=by show (if x.length + y.length<=sizeLine then M.ok (R.d (D.str (x++y))) else M.bad)=_;rw [if_pos (gR h)]
theorem GL (x:Str) (n:Int) (h0:0<=n) (h:n<=1000) (hx:x.length<=1000):f6 (.d (.str x)) (.d (.int n))=.ok (.d (.str (gT x n.toNat))):=by show (if 0<=n/\n<=1000/\x.length<=1000 then M.ok (R.d (D.str (gT x n.toNat))) else M.bad)=_;rw [if_pos ⟨h0,h,hx⟩]
def Jl:Str:="abcdefghijklmnopqrstuvwxyz"
theorem Jm:∀k:Fin 26,Jl.cps.toList[k.val]?=some (97 + k.val):=by decide +kernel
theorem GW:Jl.length<=1000:=by decide +kernel
theorem CY (i:Int) (h0:0<=i) (h:i < 26):a_ (.d (.str "abcdefghijklmnopqrstuvwxyz")) (.d (.int i))=.ok (.d (.str ⟨#[97 + i.toNat]⟩)):=by
 have e:i=((i.toNat:Nat):Int):=by omega
 have:=Hi (z:=Jl) (k:=i.toNat) GW (Jm ⟨i.toNat,by omega⟩);rw [e];exact this
theorem sA (c:Array Nat):∀(k:Nat) (acc:Array Nat),((RS k c).foldl (·++·) acc).toList=acc.toList++(RS k c.toList).flatten
 | 0,acc=>by simp
 | k + 1,acc=>by rw [T8,V9,sA c k];simp [T8]
theorem G6 (b n:Nat):(gT ⟨#[b]⟩ n).cps.toList=RS n b:=by
 unfold gT;simp only;rw [sA]
 induction n with
 | zero=>rfl
 | succ n ih=>simpa [T8] using ih
theorem HE (x:Str):x.length=x.cps.toList.length:=by show x.cps.size=_;simp
theorem strs_map:∀(ss:List Str),strsOf (ss.map .str)=some ss
 | []=>rfl
 | s::r=>by simp only [Q6,strsOf,strs_map r];rfl
theorem sorted_strs (m:Md) (ss:List Str) (h:ss.length < 64):lK [.l m (ss.map .str)]=.ok (.l .fresh ((pQ ss).map .str)):=by unfold lK;simp only [jK,aK,strs_map,h,if_true]
theorem sN {b:G Bool}{t u:G O}(h:b env=.ok false):bS b t u env=u env:=by unfold bS;rw [h];rfl
theorem uv {b:G Bool}{t u:G O}(h:b env=.ok true):bS b t u env=t env:=by unfold bS;rw [h];rfl
theorem LU {g:G R}{f:List R->M R}(h:g env=.ok r) (hf:f [r]=.ok r'):gN f (ao g aE) env=.ok r':=by unfold gN ao;rw [h];exact hf
theorem Lc {g:G R}(h:g env=.ok r) (h2:rF r=.ok r'):bz g env=.ok (.rt r'):=by unfold bz;rw [h,aK,h2];rfl
abbrev dN (k:Nat):D:=.int k
abbrev dP (p:Nat×Nat):D:=.tup [.int p.1,.int p.2]
def qv (p q:Nat×Nat):Prop:=p.1 < q.1\/(p.1=q.1/\p.2 < q.2)
def wQ (m:Nat) (xs:List Nat):Prop:=xs.length<=8/\xs.Pairwise (· < ·)/\∀x∈xs,x < m
def rP (m:Nat) (ps:List (Nat×Nat)):Prop:=ps.length<=64/\ps.Pairwise qv/\∀p∈ps,p.1 < m/\p.2 < m
structure Wd where
 m:Nat
 ms:List (Str×List Nat)
 ar:List (Str×List (Nat×Nat))
abbrev iI (r:Str×List Nat):D:=.tup [.str r.1,.tup (r.2.map dN)]
abbrev jX (r:Str×List (Nat×Nat)):D:=.tup [.str r.1,.tup (r.2.map dP)]
def Wd.d (w:Wd):D:=.tup [.int w.m,.tup (w.ms.map iI),.tup (w.ar.map jX)]
theorem vJ {K:QJ}{J:L2.Hp}:∀(ns:List Int),aD K J (ns.map D.int) (ns.map L2.V.int)
 | []=>.nil
 | n::r=>.cons (.int n) (vJ r)
end K01
namespace DX
open PySem PySem.Spec
open Builtin Builtin.ObjectAttr
end DX
namespace DX
open PySem PySem.Spec
end DX
namespace DX
open PySem PySem.Spec PyProof.Rows L2
end DX
namespace DL
open PySem PySem.Spec PyProof.Rows L2 DX
end DL
namespace DX
open PySem PySem.Spec PyProof.Rows L2
end DX
namespace DL
open PySem PySem.Spec PyProof.Rows L2 DX
end DL
namespace DX
open PySem PySem.Spec PyProof.Rows L2
end DX
namespace DL
open PySem PySem.Spec PyProof.Rows L2 DX
end DL
namespace DX
open PySem PySem.Spec PyProof.Rows L2
open Sem (wp)
end DX
namespace DL
open PySem PySem.Spec PyProof.Rows L2 DX
end DL
namespace DL
open PySem PySem.Spec PyProof.Rows L2
noncomputable def t9 (A:RC) (s:QM) (y x:QL) (b:Bool):Prop:=
 ∀(prog:Ra) (w:Rz) (E:QL->QM->Prop) (Q:QL->QM->Prop),Q (.bool b) s->Q_ (Rf prog w) A (richCompare .Lt y x) Q E s
inductive fO (A:RC) (s:QM) (fin:Bool):List (QL×QL)->Bool->Prop
 | nil:fO A s fin [] fin
 | yes {x y:QL}{r:List (QL×QL)}{b:Bool}:S0 A s x y true->fO A s fin r b->fO A s fin ((x,y)::r) b
 | no {x y:QL}{r:List (QL×QL)}{b:Bool}:S0 A s x y false->t9 A s x y b->fO A s fin ((x,y)::r) b
section
open PySem.SeqAt
open PySem.AutoSeq1 (wpAny_loadPart')
open PySem.MeetsSeq PySem.MeetsSeq2 PySem.MeetsSeq3
theorem DT (l b:Rb) (Qy QF:Array QL) (n n2:Nat) (dd dd2:Option Rb) (sl sl2:Array (Option QL)) (fY:Bool):
  Meets (VL.«tuple.__lt__» ⟨[.ref l,.ref b],[]⟩)
   (λA R s=>s.heap.get? l=some {cls:=.type "tuple",dict:=dd,data:=.seq Qy n,slots:=sl}/\s.heap.get? b=some {cls:=.type "tuple",dict:=dd2,data:=.seq QF n2,slots:=sl2}/\
    fO A.in1 s (decide (Qy.size < QF.size)) (Qy.toList.zip QF.toList) fY/\R (.ok (.ret (.bool fY))) s):=
 .of_wp λprog w A R s h=>by
  obtain ⟨hp,g,d,tk,os⟩:=s;obtain ⟨hl,hb,hP,h⟩:=h;have f2:=UY
  wp_walk using Tj hl,Tj hb,Tn _ (λrest b s'=>b.1=none/\s'=⟨hp,g,d,tk,os⟩/\fO A.in1 ⟨hp,g,d,tk,os⟩ (decide (Qy.size < QF.size)) rest fY) _
  case turn=>
   rintro ⟨y,x⟩ rest b s' ⟨hb',rfl,hq⟩;cases hq with
   | yes he hr=>
    refine QI (he prog w _ _ ?_)
    wp_walk
    exact ⟨rfl,rfl,hr⟩
   | no he hlt=>
    refine QI (he prog w _ _ ?_);have PJ:=hlt prog w
    wp_walk using PJ
    exact ⟨_,rfl,by simpa using h⟩
  case fin=>
   rintro ⟨b1,b2⟩ s' ⟨hb',rfl,hq⟩;simp only at hb';subst hb';cases hq
   wp_walk
   exact ⟨_,rfl,by simpa [Vr] using h⟩
  case h=>
   exact ⟨rfl,rfl,hP⟩
end
section
variable {K:QJ}{J:Hp}{s:QM}
theorem HJ {A:RC}{Qy QF:Array QL}{fY:Bool}(hl:s.heap.IsTuple l Qy) (hb:s.heap.IsTuple b QF) (hP:fO A.in1 s (decide (Qy.size < QF.size)) (Qy.toList.zip QF.toList) fY)
 (hu:A.units < Sw):t9 A s (.ref l) (.ref b) fY:=λprog w E Q h=>by
 obtain ⟨⟨cls,dd,data,sl⟩,ho,hc,n,hd⟩:=id hl;obtain ⟨⟨cls2,dd2,data2,sl2⟩,ho2,hc2,n2,hd2⟩:=id hb;simp only at hc hd hc2 hd2;subst hc hd hc2 hd2;exact W3 (op:=.Lt) ⟨_,ho,rfl⟩ ⟨_,ho2,rfl⟩ PySem.F.slot_tuple_lt PySem.F.entry_tuple_lt (PySem.F.args_tuple_lt_2 _ _) (DT l b Qy QF n n2 dd dd2 sl sl2 fY)
  ⟨ho,ho2,hP,show TM fY≠Xx/\Q (.bool fY) s from ⟨(λx=>nomatch x),h⟩⟩ hu
mutual
noncomputable def dR:D->D->Option Bool
 | .bl p,y=>match y with
  | .bl q=>some (!p && q)
  | _=>none
 | .int i,y=>match y with
  | .int j=>some (decide (i < j))
  | _=>none
 | .str x,y=>match y with
  | .str z=>some (decide (x.cps.toList < z.cps.toList))
  | _=>none
 | .tup xs,y=>match y with
  | .tup ys=>jq xs ys
  | _=>none
 | _,_=>none
noncomputable def jq:List D->List D->Option Bool
 | [],ys=>some (!ys.isEmpty)
 | x::xs,ys=>match ys with
  | []=>some false
  | y::ys=>if bg x y=true then jq xs ys else dR x y
end
theorem HH (A:RC) (h:dR (.bl p) e=some b) (re:Rep K J e w) (rw':RelV w u'):t9 A s (.bool p) u' b:=by
 unfold dR at h;cases e with
 | bl q=>
  cases re;cases rw';simp only [SN] at h;subst h;intro prog w E Q hq;refine (lt_bool (p:=p) (q:=q) ?_:Q_ (Rf prog w) A (Sx .Lt (.bool p) (.bool q)) Q E s);cases p <;> cases q <;> exact hq
 | _=>cases h
theorem ES (A:RC) (h:dR (.int p) e=some b) (re:Rep K J e w) (rw':RelV w u'):t9 A s (.int p t) u' b:=by
 unfold dR at h;cases e with
 | int q=>
  cases re;obtain ⟨t',rfl⟩:=rw';simp only [SN] at h;subst h;intro prog w E Q hq;exact (aaT hq:Q_ (Rf prog w) A (Sx .Lt (.int p t) (.int q t')) Q E s)
 | _=>cases h
theorem ET (A:RC) (h:dR (.str p) e=some b) (re:Rep K J e w) (rw':RelV w u'):t9 A s (.str p t) u' b:=by
 unfold dR at h;cases e with
 | str q=>
  cases re;obtain ⟨t',rfl⟩:=rw';simp only [SN] at h;subst h;intro prog w E Q hq;exact (aaU hq:Q_ (Rf prog w) A (Sx .Lt (.str p t) (.str q t')) Q E s)
 | _=>cases h
noncomputable def D9 (K:QJ) (J:Hp) (s:QM) (d:D):Prop:=∀{e:D}{v w:V}{u u':QL}{b:Bool}(A:RC),dR d e=some b->Rep K J d v->Rep K J e w->RelV v u->RelV w u'->A.units + dep d < Sw->dep d<=1000->dep e<=1000->t9 A s u u' b
noncomputable def rH (K:QJ) (J:Hp) (s:QM) (ds:List D):Prop:=∀{es:List D}{vs ws:List V}{us us':List QL}{b:Bool}{n1 n2:Nat}(A:RC),jq ds es=some b->aD K J ds vs->aD K J es ws->Vals vs us->Vals ws us'->A.units + deps ds < Sw->deps ds<=1000->deps es<=1000->
  us.length + n2=us'.length + n1->fO A s (decide (n1 < n2)) (us.zip us') b
theorem EU (F:HF K J s) (ih:rH K J s ds):D9 K J s (.tup ds):=by
 intro e v w u u' b A h rd re rv rw' hu k1 k2;unfold dR at h;cases e with
 | tup es=>
  simp only at h;cases rd with
  | tup h1 hs=>
   cases re with
   | tup h2 hs'=>
    cases rv;cases rw';obtain ⟨Qz,r,p⟩:=F.t _ _ h1;obtain ⟨its',r',p'⟩:=F.t _ _ h2;refine HJ p p' ?_ (by unfold dep at hu;omega);have:=ih A.in1 (n1:=Qz.length) (n2:=its'.length) h hs hs' r r' (by rw [in1_units];unfold dep at hu;omega) (by unfold dep at k1;omega) (by unfold dep at k2;omega) (by omega);simpa using this
 | _=>cases h
theorem Dh:rH K J s []:=by
 intro es vs ws us us' b n1 n2 A h rd re rv rw' hu k1 k2 hl;cases rd;cases rv;cases re with
 | nil=>
  cases rw';simp only [jq,List.isEmpty_nil,Td,SN] at h;subst h;have:decide (n1 < n2)=false:=decide_eq_false (by simp at hl;omega);rw [this];exact .nil
 | cons _ _=>
  cases rw';simp only [jq,List.isEmpty_cons,VA,SN] at h;subst h;have:decide (n1 < n2)=true:=decide_eq_true (by simp at hl;omega);rw [this];exact .nil
theorem Br (F:HF K J s) (ix:D9 K J s x) (ih:rH K J s xs):rH K J s (x::xs):=by
 intro es vs ws us us' b n1 n2 A h rd re rv rw' hu k1 k2 hl;cases rd with
 | cons q1 r1=>
  cases rv with
  | cons t1 u1=>
   cases re with
   | nil=>
    cases rw';simp only [jq,SN] at h;subst h;have:decide (n1 < n2)=false:=decide_eq_false (by simp at hl;omega);rw [this];exact .nil
   | cons q2 r2=>
    cases rw' with
    | cons t2 u2=>
     unfold deps at hu k1 k2;rename_i y v' ys ws' u0 us0;have he:=lG F A q1 q2 t1 t2 (by omega) (by omega) (by omega);simp only [jq] at h;cases z:bg x y with
     | true=>
      rw [z,if_pos rfl] at h;rw [z] at he;exact .yes he (ih A h r1 r2 u1 u2 (by omega) (by omega) (by omega) (by simp at hl;omega))
     | false=>
      rw [z,if_neg Ru] at h;rw [z] at he;exact .no he (ix A h q1 q2 t1 t2 (by omega) (by omega) (by omega))
mutual
theorem M8 (F:HF K J s):∀d:D,D9 K J s d
 | .bl p=>λA h rd re rv rw' _ _ _=>by cases rd;cases rv;exact HH A h re rw'
 | .int p=>λA h rd re rv rw' _ _ _=>by cases rd;obtain ⟨t,rfl⟩:=rv;exact ES A h re rw'
 | .str p=>λA h rd re rv rw' _ _ _=>by cases rd;obtain ⟨t,rfl⟩:=rv;exact ET A h re rw'
 | .tup ds=>EU F (xg F ds)
 | .non=>λA h _ _ _ _ _ _ _=>by unfold dR at h;cases h
 | .lst _=>λA h _ _ _ _ _ _ _=>by unfold dR at h;cases h
 | .emp=>λA h _ _ _ _ _ _ _=>by unfold dR at h;cases h
 | .exn _ _ _=>λA h _ _ _ _ _ _ _=>by unfold dR at h;cases h
 | .dct _ _=>λA h _ _ _ _ _ _ _=>by unfold dR at h;cases h
theorem xg (F:HF K J s):∀ds:List D,rH K J s ds
 | []=>Dh
 | x::xs=>Br F (M8 F x) (xg F xs)
end
end
end DL
namespace DL
open PySem PySem.Spec PyProof.Rows L2
open PySem.W (KasT kas_sort kas_asc kas_desc kas_rev kas_tail3 kas_descPart kas_count kas_place kas_bin)
noncomputable def aV {α:Type}(q:Nat->Nat->Bool):KasT α->α
 | .ret a=>a
 | .ask i j k=>aV q (k (q i j))
inductive eU (n:Nat){α:Type}(P:α->Prop):KasT α->Prop
 | ret {a:α}:P a->eU n P (.ret a)
 | ask {i j:Nat}{k:Bool->KasT α}:i < n->j < n->(∀b,eU n P (k b))->eU n P (.ask i j k)
theorem eU.bind {α β:Type}{P:α->Prop}{R:β->Prop}{f:α->KasT β}{t:KasT α}(h:eU n P t) (hf:∀a,P a->eU n R (f a)):eU n R (t.bind f):=by
 induction h with
 | ret p=>exact hf _ p
 | ask h1 h2 _ ih=>exact .ask h1 h2 ih
theorem eU.run {n:Nat}{α:Type}{P:α->Prop}{t:KasT α}(q:Nat->Nat->Bool) (h:eU n P t):P (aV q t):=by
 induction h with
 | ret p=>exact p
 | ask _ _ _ ih=>exact ih _
theorem eU.wp {α:Type}{P:α->Prop}{t:KasT α}{q:Nat->Nat->Bool}{cmp:Nat->Nat->(Bool->QM->Prop)->QM->Prop}{G:α->QM->Prop}(h:eU n P t)
 (hc:∀i j C,i < n->j < n->C (q i j) s->cmp i j C s) (hG:G (aV q t) s):t.kasWp cmp G s:=by
 induction h with
 | ret p=>exact hG
 | ask h1 h2 _ ih=>exact hc _ _ _ h1 h2 (ih _ hG)
def fF (n:Nat) (p:Array Nat):Prop:=p.Perm (QS n).toArray
theorem fF.lt {p:Array Nat}(h:fF n p) (hn:0 < n) (k:Nat):p.getD k 0 < n:=by
 by_cases hk:k < p.size
 ·have e:p.getD k 0=p[k]:=by simp [SO,hk]
  rw [e];have hm:p[k]∈p:=Array.getElem_mem hk;have:=(Wk h).mp hm;simpa using this
 ·have e:p.getD k 0=0:=by simp [SO,hk]
  rw [e];exact hn
theorem fF.rev (h:fF n p) (i j:Nat):fF n (VN p i j):=(mirror_perm _ _ _ _).trans h
theorem fF.bub (h:fF n p) (i j:Nat):fF n (bubble p i j):=(bubble_perm _ _ _).trans h
variable {n:Nat}
theorem A0 {p:Array Nat}(hn:0 < n) (h:fF n p):∀f m,eU n (λ_:Nat=>True) (VO p f m)
 | 0,m=>.ret trivial
 | f + 1,m=>.ask (h.lt hn _) (h.lt hn _) λb=>by cases b with
  | true=>exact .ret trivial
  | false=>exact A0 hn h f (m + 1)
theorem rS (hn:0 < n):∀f {p:Array Nat} m q,fF n p->eU n (λr:Array Nat×Nat×Nat=>fF n r.1) (Te f p m q)
 | 0,p,m,q,h=>.ret h
 | f + 1,p,m,q,h=>.ask (h.lt hn _) (h.lt hn _) λb=>by
  cases b with
  | true=>
   simp only [if_true];by_cases hq:q > 0
   ·rw [if_pos hq];exact rS hn f _ _ (h.rev _ _)
   ·rw [if_neg hq];exact rS hn f _ _ h
  | false=>
   simp only [Q8,if_false];refine .ask (h.lt hn _) (h.lt hn _) λb=>?_;cases b with
   | true=>exact .ret h
   | false=>exact rS hn f _ _ h
theorem Cc (hn:0 < n) (h:fF n p) (m k:Nat):eU n (λr:Nat×Array Nat=>fF n r.2) (aaw m k p):=(A0 hn (h.rev 0 m) _ _).bind λa _=>.ret (h.rev _ _)
theorem zT (hn:0 < n) (h:fF n p) (m k:Nat):eU n (λr:Nat×Array Nat=>fF n r.2) (YM m k p):=(rS hn _ _ _ h).bind λr hr=>by
 split
 ·exact Cc hn (hr.rev _ _) _ _
 ·exact Cc hn hr _ _
theorem G0 (hn:0 < n) (h:fF n p) (k:Nat):eU n (λr:Nat×Array Nat=>fF n r.2) (Zc k p):=(A0 hn h _ _).bind λm _=>by
 split
 ·exact .ret h
 ·split
  ·refine .ask (h.lt hn _) (h.lt hn _) λb=>?_;cases b with
   | true=>exact .ret h
   | false=>exact zT hn (h.rev _ _) _ _
  ·exact zT hn h _ _
theorem ud (hn:0 < n){p:Array Nat}(h:fF n p) (k:Nat):∀f l r,eU n (λ_:Nat=>True) (Tr p k f l r)
 | 0,l,r=>.ret trivial
 | f + 1,l,r=>by
  unfold Tr;split
  ·exact .ret trivial
  ·refine .ask (h.lt hn _) (h.lt hn _) λb=>?_;cases b with
   | true=>exact ud hn h k f _ _
   | false=>exact ud hn h k f _ _
theorem F7 (hn:0 < n):∀f {p:Array Nat} k,fF n p->eU n (fF n) (aaf f p k)
 | 0,p,k,h=>.ret h
 | f + 1,p,k,h=>(ud hn h k _ _ _).bind λl _=>F7 hn f _ (h.bub _ _)
theorem iz (hn:0 < n):eU n (fF n) (UB n):=(G0 hn (show fF n _ from abh _) n).bind λr hr=>by
 split
 ·exact F7 hn _ _ hr
 ·exact .ret hr
end DL
namespace DL
open PySem PySem.Spec PyProof.Rows L2
open PySem.W (KasT kas_sort kas_ask kas_item kat_run kat_snds KatLex kat_cons kat_yes kat_no kat_lt kat_one KatTups kat_kind Looks)
section
variable {prog:Ra}{w:Rz}{A:RC}{E:QL->QM->Prop}{s:QM}
def oH (q:Nat->Nat->Bool) (vs:List QL):List QL:=(aV q (UB vs.length)).toList.map λi=>vs.getD i RU
theorem E8 (q:Nat->Nat->Bool){vs:List QL}(h:0 < vs.length):(oH q vs).length=vs.length:=by unfold oH;rw [QN,Q3];have:=((iz h).run q:fF _ _).size_eq;simpa using this
theorem Bp {vs:List QL}{q:Nat->Nat->Bool}{P:abi->QM->Prop}(ho:s.heap.get? a=some (Ur "list" vs.toArray n)) (h2:2<=vs.length) (h64:vs.length < 64)
 (hk:∀h' C,(∀b o,b≠a->s.heap.get? b=some o->h'.get? b=some o)->C κ {s with heap:=h'}->Q_ (Rf prog w) A (aa4 vs.toArray) C (λ_ _=>False) {s with heap:=h'})
 (hc:∀h',(∀b o,b≠a->s.heap.get? b=some o->h'.get? b=some o)->∀i j C,i < vs.length->j < vs.length->C (q i j) {s with heap:=h'}->kas_ask prog w A κ vs i j C {s with heap:=h'})
 (h:P (.done (.ret .none)) {s with heap:=Z2 s.heap a vs (oH q vs).toArray}):Q_ (Rf prog w) A (VL.«list.sort» ⟨[.ref a],[]⟩) P E s:=by
 have la:a < s.heap.objs.size:=Q5 ho;have sl:vs.length<=sizeLine:=by rw [RX];omega
 obtain ⟨e1,g1⟩:∃e1,(s.heap.update a (S3 λ_=>(#[]:Array QL))).get? a=some (Ur "list" #[] e1):=⟨_,(Zd ho λ_=>#[])⟩;have z1:(s.heap.update a (S3 λ_=>(#[]:Array QL))).objs.size=s.heap.objs.size:=(YW _ _ _);have g3:(((s.heap.update a (S3 λ_=>(#[]:Array QL))).push (Ur "tuple" vs.toArray 0)).push (Ur "list" #[] 0)).get? a=some (Ur "list" #[] e1):=(QU _ ((QU _ g1)));have kp:∀b o,b≠a->s.heap.get? b=some o->(((s.heap.update a (S3 λ_=>(#[]:Array QL))).push (Ur "tuple" vs.toArray 0)).push (Ur "list" #[] 0)).get? b=some o:=λb o nb q=>
  QU _ (QU _ (by rw [XU _ _ _ _ nb];exact q))
 rw [Ze];refine QI ((listItems_at ho rfl ?_));refine QI (WL ho rfl ?_ (by rw [QY];exact sl) (Rm _));refine QI ((XW g1 rfl ?_));refine QI (ZF ?_ (show vs.length<=_ from sl));refine QI ((Yh ?_ (Rm _)));refine (Rw ?_);dsimp only;have n2:¬vs.toArray.size < 2:=by (rw [QY]);omega
 rw [if_neg n2,if_neg n2];refine QI (RE (hk _ (λk s'=>k=κ/\s'=_) kp ⟨rfl,rfl⟩) ?_ λ_ _ x=>x.elim);rintro _ _ ⟨rfl,rfl⟩;refine QI (RE (kat_run (E:=E) (Q:=λst' s'=>∃p:Array Nat,p.size=vs.length/\arrOf st'=p.map (kas_item (vs.toArray.zip vs.toArray))/\failedOf st'=none/\p=aV q (UB vs.length)/\s'=_)
  rfl h2 h64 (λp' st' s' a1 a2 a3 a4=>⟨p',a1,a2,a3,a4⟩) ((iz (by omega)).wp (q:=q) (hc _ kp) ⟨rfl,rfl⟩)) ?_ λ_ _ e=>e)
 rintro ⟨⟨⟩,st'⟩ s' ⟨p,hp,har,hf,rfl,rfl⟩;dsimp only;have ou:(arrOf st').map (·.2)=(oH q vs).toArray:=kat_snds rfl har;rw [ou];refine QI ((XW g3 rfl ?_));refine QI (WL g3 rfl ?_ (Rm _) (Rr (aat (QY.trans (E8 q (Rh Nat.zero_lt_two h2)))) (Nat.le_succ_of_le sl)));rw [hf];simp only [bne_self_eq_false,Q8,if_false];exact QK h
end
end DL
namespace DL
open PySem PySem.Spec PyProof.Rows L2
open PySem.W (KasT kas_sort kas_ask KatLex kat_nil kat_cons kat_yes kat_no kat_lt kat_one KatTups kat_kind Looks)
section
variable {prog:Ra}{w:Rz}{A:RC}{E:QL->QM->Prop}{s:QM}{K:QJ}{J:Hp}
theorem vq {fin fY:Bool}{Q:Bool->QM->Prop}(h:fO A s fin zs fY) (hq:Q fY s):∀{i:Nat},(b && i == 0)=false->KatLex prog w A b fin Q zs i s:=by
 induction h with
 | nil=>intro i _;exact kat_nil hq
 | yes he _ ih=>intro i _;exact aag (he prog w _ _ (kat_yes (ih hq (by cases b <;> rfl))))
 | no he hl=>
  intro i hb;refine aag (he prog w _ _ (kat_no ?_));rw [hb];exact kat_one _ _ (hl prog w _ _ hq)
theorem Hz {fin fY e:Bool}{Q:Bool->QM->Prop}(he:S0 A s u u' e) (h1:e=true->fO A s fin zs fY)
 (h2:e=false->Q_ (Rf prog w) A (oneLt' true u u') Q (λ_ _=>False) s) (hq:Q fY s):KatLex prog w A true fin Q ((u,u')::zs) 0 s:=by
 cases e with
 | true=>exact aag (he prog w _ _ (kat_yes (vq (h1 rfl) hq rfl)))
 | false=>exact aag (he prog w _ _ (kat_no (h2 rfl)))
inductive Hd where
 | t | i | x
noncomputable def f9:D->Option Hd
 | .tup (.tup _::_)=>some .t
 | .tup (.int _::_)=>some .i
 | .tup (.str _::_)=>some .x
 | _=>none
noncomputable def Hd.flag:Hd->Bool
 | .t=>false
 | _=>true
noncomputable def Hd.ty:Hd->QL
 | .t=>.type "tuple"
 | .i=>.type "int"
 | .x=>.type "str"
theorem E5 {k:Hd}{C:Bool->QM->Prop}(hd:f9 (.tup (x::xs))=some k) (he:f9 (.tup (y::ys))=some k) (hf:k.flag=true) (h:dR x y=some b) (rd:Rep K J x v) (re:Rep K J y v') (rv:RelV v u) (rv':RelV v' u') (c:C b s):
  Q_ (Rf prog w) A (oneLt' true u u') C E s:=by
 cases x with
 | int x=>
  cases hd;cases y with
  | int y=>
   cases rd;cases re;obtain ⟨tk,rfl⟩:=rv;obtain ⟨tk',rfl⟩:=rv';unfold dR at h;simp only [SN] at h;refine oneLt_int ?_;rw [h];exact c
  | _=>cases he
 | str x=>
  cases hd;cases y with
  | str y=>
   cases rd;cases re;obtain ⟨tk,rfl⟩:=rv;obtain ⟨tk',rfl⟩:=rv';unfold dR at h;simp only [SN] at h;refine oneLt_str ?_;rw [h];exact c
  | _=>cases he
 | tup _=>cases hd;cases hf
 | _=>cases hd
theorem HA (F:HF K J s){k:Hd}{C:Bool->QM->Prop}(hd:f9 d=some k) (he:f9 e=some k) (h:dR d e=some b) (rd:Rep K J d v) (re:Rep K J e v') (rv:RelV v u) (rv':RelV v' u')
 (hu:A.units + dep d < Sw) (k1:dep d<=1000) (k2:dep e<=1000) (c:C b s):Q_ (Rf prog w) A (keyLt' (tuples' k.flag) u u') C E s:=by
 cases d with
 | tup ds=>
  cases e with
  | tup es=>
   unfold dR at h;simp only at h;cases rd with
   | tup h1 hs=>
    cases re with
    | tup h2 hs'=>
     cases rv;cases rv';obtain ⟨Qz,r,p⟩:=F.t _ _ h1;obtain ⟨its',r',p'⟩:=F.t _ _ h2;obtain ⟨o,ho,hc,m,dm⟩:=id p;obtain ⟨o',ho',hc',m',dm'⟩:=id p';refine kat_lt ho dm ho' dm' ?_;simp only [QY];cases hf:k.flag with
     | false=>
      exact vq (xg F ds A (n1:=Qz.length) (n2:=its'.length) h hs hs' r r' (by unfold dep at hu;omega) (by unfold dep at k1;omega) (by unfold dep at k2;omega) (by omega)) c rfl
     | true=>
      cases hs with
      | nil=>cases hd
      | cons q1 t1=>
       cases hs' with
       | nil=>cases he
       | cons q2 t2=>
        cases r with
        | cons a1 b1=>
         cases r' with
         | cons a2 b2=>
          unfold dep deps at hu k1 k2;rw [Wl];unfold jq at h;simp only at h;refine Hz (fY:=b) (lG F A q1 q2 a1 a2 (by omega) (by omega) (by omega)) (λz=>?_) (λz=>?_) c
          ·rw [z,if_pos rfl] at h;exact xg F _ A h t1 t2 b1 b2 (by omega) (by omega) (by omega) (by simp;omega)
          ·rw [z,if_neg Ru] at h;exact E5 hd he hf h q1 q2 a1 a2 c
  | _=>cases he
 | _=>cases hd
noncomputable def fU (k:Hd):List D->Bool
 | []=>true
 | d::r=>(match f9 d,k with
  | some .t,.t=>true
  | some .i,.i=>true
  | some .x,.x=>true
  | _,_=>false) && fU k r
theorem kr {k:Hd}:∀{ds:List D},fU k ds=true->∀d∈ds,f9 d=some k
 | [],_,_,hm=>nomatch hm
 | x::r,h,d,hm=>by
  unfold fU at h;rw [QX] at h;rcases Q9.mp hm with rfl | hm
  ·cases q:f9 d with
   | none=>rw [q] at h;cases h.1
   | some k'=>rw [q] at h;cases k' <;> cases k <;> first | rfl | cases h.1
  ·exact kr h.2 d hm
theorem CS (F:HF K J s){k:Hd}(hd:f9 d=some k) (rd:Rep K J d v) (rv:RelV v u):∃a o xs n f,u=.ref a/\s.heap.get? a=some o/\o.cls=.type "tuple"/\o.data=.seq xs n/\xs[0]?=some f/\Looks (Rf prog w) s.heap (typeOf f) k.ty:=by
 cases d with
 | tup ds=>
  cases rd with
  | tup h1 hs=>
   cases rv;obtain ⟨Qz,r,p⟩:=F.t _ _ h1;obtain ⟨o,ho,hc,m,dm⟩:=id p;cases hs with
   | nil=>cases hd
   | cons q1 t1=>
    cases r with
    | cons a1 b1=>
     refine ⟨_,o,_,m,_,rfl,ho,hc,dm,rfl,?_⟩;rename_i x v' ds' vs' u us;cases x with
     | tup _=>
      cases hd;cases q1 with
      | tup h2 _=>
       cases a1;obtain ⟨its2,_,p2⟩:=F.t _ _ h2;obtain ⟨o2,ho2,hc2,_,_⟩:=id p2;have:=(Looks.ld (M:=Rf prog w) (part:=none) ho2).andThen (f:=λo=>pure o.cls) (b:=o2.cls) .now;rw [hc2] at this;exact this
     | int _=>
      cases hd;cases q1;obtain ⟨tk,rfl⟩:=a1;exact .now
     | str _=>
      cases hd;cases q1;obtain ⟨tk,rfl⟩:=a1;exact .now
     | _=>cases hd
 | _=>cases hd
theorem sM (F:HF K J s){k:Hd}:∀{ds:List D}{vs:List V}{us:List QL},fU k ds=true->aD K J ds vs->Vals vs us->∃fs,KatTups s.heap us fs/\fs.length=us.length/\∀v∈fs,Looks (Rf prog w) s.heap (typeOf v) k.ty
 | _,_,_,_,.nil,.nil=>⟨[],trivial,rfl,λ_ h=>nomatch h⟩
 | d::ds,_,_,h,.cons q rs,.cons a b=>by
  have hd:=kr h d (QV ..);unfold fU at h;rw [QX] at h;obtain ⟨fs,h1,h2,h3⟩:=sM F h.2 rs b;obtain ⟨p,o,xs,n,f,rfl,e1,e2,e3,e4,e5⟩:=CS (prog:=prog) (w:=w) F hd q a;refine ⟨f::fs,⟨⟨p,o,xs,n,rfl,e1,e2,e3,e4⟩,h1⟩,by simp [h2],λv hv=>?_⟩;rcases Q9.mp hv with rfl | hv
  ·exact e5
  ·exact h3 v hv
theorem Hj (k:Hd):(k.ty != Vn "tuple")=k.flag:=by cases k <;> decide
theorem CZ (F:HF K J s){k:Hd}{us:List QL}(h:fU k ds=true) (rs:aD K J ds vs) (rv:Vals vs us) (hl:0 < us.length){C:SortKind->QM->Prop}(c:C (tuples' k.flag) s):Q_ (Rf prog w) A (aa4 us.toArray) C E s:=by obtain ⟨fs,h1,h2,h3⟩:=sM (prog:=prog) (w:=w) F h rs rv;refine kat_kind h1 (by omega) h3 (by cases k <;> decide) ?_;rw [Hj];exact c
end
end DL
namespace DL
open PySem PySem.Spec PyProof.Rows L2
open PySem.W (KasT kas_sort kas_ask)
section
variable {prog:Ra}{w:Rz}{A:RC}{E:QL->QM->Prop}{s:QM}
theorem Bo {vs:List QL}{P:abi->QM->Prop}(ho:s.heap.get? a=some (Ur "list" vs.toArray n)) (h2:vs.length < 2)
 (h:P (.done (.ret .none)) {s with heap:=Z2 s.heap a vs vs.toArray}):Q_ (Rf prog w) A (VL.«list.sort» ⟨[.ref a],[]⟩) P E s:=by
 have sl:vs.length<=sizeLine:=by rw [RX];omega
 obtain ⟨e1,g1⟩:∃e1,(s.heap.update a (S3 λ_=>(#[]:Array QL))).get? a=some (Ur "list" #[] e1):=⟨_,(Zd ho λ_=>#[])⟩;have g3:(((s.heap.update a (S3 λ_=>(#[]:Array QL))).push (Ur "tuple" vs.toArray 0)).push (Ur "list" #[] 0)).get? a=some (Ur "list" #[] e1):=(QU _ ((QU _ g1)));rw [Ze];refine QI ((listItems_at ho rfl ?_));refine QI (WL ho rfl ?_ (by rw [QY];exact sl) (Rm _));refine QI ((XW g1 rfl ?_));refine QI (ZF ?_ (show vs.length<=_ from sl));refine QI ((Yh ?_ (Rm _)));refine (Rw ?_);dsimp only;have n2:vs.toArray.size < 2:=by (rw [QY]);omega
 rw [if_pos n2,if_pos n2];refine (QI (QK ?_));rw [StateT.run_pure];refine (QI (QK ?_));dsimp only;have ou:(arrOf (SortSt.mk' general' (vs.toArray.zip vs.toArray) #[] 7 none)).map (·.2)=vs.toArray:=by
  show (vs.toArray.zip vs.toArray).map (·.2)=vs.toArray
  match vs,h2 with
  | [],_=>simp
  | [_],_=>simp
 rw [ou];refine QI ((XW g3 rfl ?_));refine QI (WL g3 rfl ?_ (Rm _) (by rw [QY];omega));simp only [bne_self_eq_false,Q8,if_false];exact QK h
abbrev Kp (h h':Sn):Prop:=∀b o,h.get? b=some o->h'.get? b=some o
noncomputable def xq (prog:Ra) (w:Rz) (A:RC) (s:QM) (vs:List QL) (q:Nat->Nat->Bool):Prop:=2<=vs.length->∃κ,∀h' tk,Kp s.heap h'->
 (∀C:SortKind->QM->Prop,C κ {s with heap:=h',toks:=tk}->Q_ (Rf prog w) A (aa4 vs.toArray) C (λ_ _=>False) {s with heap:=h',toks:=tk})/\
 ∀i j (C:Bool->QM->Prop),i < vs.length->j < vs.length->C (q i j) {s with heap:=h',toks:=tk}->kas_ask prog w A κ vs i j C {s with heap:=h',toks:=tk}
noncomputable def Coll (prog:Ra) (w:Rz) (A:RC) (s:QM) (x:QL) (vs:List QL):Prop:=∀(E:QL->QM->Prop) (C:List QL->QM->Prop),(∀h1 tk,Kp s.heap h1->s.heap.objs.size<=h1.objs.size->C vs {s with heap:=h1,toks:=tk})->Q_ (Rf prog w) A (collect x) C E s
theorem zW {o:Obj}{vs:List QL}(hT:T="list"\/T="tuple") (ho:s.heap.get? a=some o) (hc:o.cls=.type T) (hd:o.data=.seq vs.toArray n) (sl:vs.length<=sizeLine):Coll prog w A s (.ref a) vs:=by
 intro E C h;generalize hh:(s.heap.push (Ur "list" #[] 0)).update s.heap.objs.size (S3 (·++vs.toArray))=h1;have hS:(s.heap.push (Ur "list" #[] 0)).get? s.heap.objs.size=some (Ur "list" #[] 0):=Q2 _ rfl;have O4:=Sa (S3 (·++vs.toArray)) hS rfl;rw [hh] at O4;have k1:Kp s.heap h1:=λb o e=>by rw [<-hh,XU _ _ _ _ (Rl (Q5 e))];exact QU _ e
 have z1:s.heap.objs.size<=h1.objs.size:=by rw [<-hh,YW,size_push'];exact Tz _
 have fin:=h h1 s.toks k1 z1;unfold collect;refine QI (XI (Sz Xe ?_));rw [R6 Xf _];show Q_ _ A.in1 (newList [] >>= λl=>again (.builtin "list.__iadd__" ⟨[l,.ref a],[]⟩)) _ _ s;refine QI (Rx ?_);refine QK ⟨T9 Vs _,Sz YF ?_⟩;rw [R6 Vs _];have fin':Q_ (Rf prog w) A (load s.heap.objs.size >>= λo=>match o.data with
   | .seq xs _=>pure xs.toList
   | _=>unsupported "internal:collect") C E {s with heap:=h1}:=by
  refine QI (ZT O4 (QK ?_));have e:((#[]:Array QL)++vs.toArray).toList=vs:=by simp
  show C ((#[]:Array QL)++vs.toArray).toList _;rw [e];exact fin
 refine RE (wpAny_extend_seq (hsz:=by rw [QY];exact sl) (A:=A) (R:=λr s'=>r=.ok (.ret (.ref s.heap.objs.size))/\s'={s with heap:=h1})
  (s:={s with heap:=s.heap.push (Ur "list" #[] 0)}) _ a _ 0 hT hS (QU _ ho) hc hd ⟨rfl,by rw [<-hh]⟩) (λf s' q=>?_) (λe s' q=>absurd q.1 (by simp))
 cases f with
 | done f=>
  obtain ⟨e,rfl⟩:=q;cases e;exact fin'
 | again c'=>exact ⟨q.1,T5 q.2 λr s'' hr=>by obtain ⟨rfl,rfl⟩:=hr;exact fin'⟩
theorem II {q:Nat->Nat->Bool}{Q:QL->QM->Prop}{vs:List QL}(OX:Coll prog w A.in1 s x vs) (h64:vs.length < 64) (ha:xq prog w A.in1.in1 s vs q)
 (h:∀h' tk l n,Kp s.heap h'->s.heap.objs.size<=l->h'.get? l=some (Ur "list" (if vs.length < 2 then vs else oH q vs).toArray n)->Q (.ref l) {s with heap:=h',toks:=tk}):Q_ (Rf prog w) A (call (.builtin "sorted") [x]) Q E s:=by
 have sl:vs.length<=sizeLine:=by rw [RX];omega
 refine (Calls.call_function_entry kind_sorted plain_sorted entry_sorted (args_sorted1 _) ?_);unfold VL.«sorted»;refine QI (m:=checkCount "sorted" 1 1 _) ((QK ?_));refine QI (OX _ _ λh1 tk1 k1 le1=>?_);refine QI (Yh ?_ sl);have gL:(h1.push (Ur "list" vs.toArray 0)).get? h1.objs.size=some (Ur "list" vs.toArray 0):=Q2 _ rfl;have kp:∀b o,s.heap.get? b=some o->b≠h1.objs.size/\(h1.push (Ur "list" vs.toArray 0)).get? b=some o:=λb o e=>by have e1:=k1 b o e;exact ⟨Rl (Q5 e1),QU _ e1⟩
 have kend:∀out,Kp s.heap (Z2 (h1.push (Ur "list" vs.toArray 0)) h1.objs.size vs out):=λout b o e=>by obtain ⟨g1,g2'⟩:=kp b o e;rw [sortedHeap_old g1 (Q5 g2')];exact g2'
 dsimp only;by_cases h2:vs.length < 2
 ·refine QI (Rw (RO ZG ⟨_,gL,rfl⟩ Zf (Bo gL h2 ⟨_,rfl,?_⟩) (ZH _)));obtain ⟨n,hn'⟩:=aah (out:=vs.toArray) gL;rw [if_pos h2] at h;exact QK ⟨_,rfl,h _ tk1 _ n (kend _) le1 hn'⟩
 ·obtain ⟨κ,ask⟩:=ha (by omega);refine QI (Rw (RO ZG ⟨_,gL,rfl⟩ Zf (Bp (κ:=κ) (q:=q) gL (by omega) h64 (λh' C k c=>?_) (λh' k i j C hi hj c=>?_) ⟨_,rfl,?_⟩) (ZH _)))
  ·exact (ask h' tk1 λb o e=>k b o (kp b o e).1 (kp b o e).2).1 C c
  ·exact (ask h' tk1 λb o e=>k b o (kp b o e).1 (kp b o e).2).2 i j C hi hj c
  ·obtain ⟨n,hn'⟩:=aah (out:=(oH q vs).toArray) gL;rw [if_neg h2] at h;exact QK ⟨_,rfl,h _ tk1 _ n (kend _) le1 hn'⟩
end
def cU (ds:List D) (i:Nat):D:=ds.getD i .non
def ltB (ds:List D) (i j:Nat):Bool:=(dR (cU ds i) (cU ds j)).getD false
def bG (ds:List D):List D:=if ds.length < 2 then ds else (aV (ltB ds) (UB ds.length)).toList.map (cU ds)
def xY (ds:List D):Bool:=ds.all λx=>ds.all λy=>(dR x y).isSome
noncomputable def E3 (ds:List D):Bool:=match ds with
 | []=>false
 | d::_=>match f9 d with
  | some k=>fU k ds
  | none=>false
def vA (ds:List D):Bool:=decide (ds.length < 2) || (decide (ds.length < 64) && (decide (deps ds<=60) && (E3 ds && xY ds)))
section
variable {K:QJ}{J:Hp}
theorem gU {ds:List D}{vs:List V}(h:aD K J ds vs):∀{i:Nat},i < ds.length->Rep K J (cU ds i) (vs.getD i V.non):=by
 induction ds generalizing vs with
 | nil=>intro i hi;exact absurd hi (RZ _)
 | cons x r ih=>
  intro i hi;cases h with
  | cons q rs=>
   cases i with
   | zero=>simpa [cU] using q
   | succ i=>simpa [cU] using ih rs (i:=i) (by simpa using hi)
theorem gW {vs:List V}{us:List QL}(h:Vals vs us):∀{i:Nat},i < vs.length->RelV (vs.getD i V.non) (us.getD i RU):=by
 induction vs generalizing us with
 | nil=>intro i hi;exact absurd hi (RZ _)
 | cons x r ih=>
  intro i hi;cases h with
  | cons q rs=>
   cases i with
   | zero=>simpa using q
   | succ i=>simpa using ih rs (i:=i) (by simpa using hi)
theorem Aw {ds:List D}{vs:List V}(h:aD K J ds vs):∀ix:List Nat,(∀i∈ix,i < ds.length)->aD K J (ix.map (cU ds)) (ix.map λi=>vs.getD i V.non)
 | [],_=>.nil
 | i::r,hi=>.cons (gU h (hi i (QV ..))) (Aw h r λj hj=>hi j (QT _ hj))
theorem AJ {vs:List V}{us:List QL}(h:Vals vs us):∀ix:List Nat,(∀i∈ix,i < vs.length)->Vals (ix.map λi=>vs.getD i V.non) (ix.map λi=>us.getD i RU)
 | [],_=>.nil
 | i::r,hi=>.cons (gW h (hi i (QV ..))) (AJ h r λj hj=>hi j (QT _ hj))
theorem G_ {ds:List D}:∀{i:Nat},i < ds.length->dep (cU ds i)<=deps ds:=by
 induction ds with
 | nil=>intro i hi;exact absurd hi (RZ _)
 | cons x r ih=>
  intro i hi;unfold deps;cases i with
  | zero=>show dep x<=_;omega
  | succ i=>
   have:=ih (i:=i) (by simpa using hi);have e:cU (x::r) (i + 1)=cU r i:=rfl;rw [e];omega
theorem gp {ds:List D}(hi:i < ds.length):cU ds i∈ds:=by
 have e:cU ds i=ds[i]:=by simp [cU,hi]
 rw [e];exact SI hi
theorem HF.keep {s s':QM}(F:HF K J s) (k:∀b o,s.heap.get? b=some o->s'.heap.get? b=some o):HF K J s':=
 ⟨λa xs h=>let ⟨Qz,r,o,ho,p⟩:=F.t a xs h;⟨Qz,r,o,k _ _ ho,p⟩,λa xs h=>let ⟨Qz,r,o,ho,p⟩:=F.l a xs h;⟨Qz,r,o,k _ _ ho,p⟩,λa h=>let ⟨o,ho,p⟩:=F.e a h;⟨o,k _ _ ho,p⟩,λa ep QG h=>let ⟨o,es,ho,p⟩:=F.d a ep QG h;⟨o,es,k _ _ ho,p⟩⟩
theorem B_ {A:RC}(F:HF K J s) (rs:aD K J ds vs) (rv:Vals vs Qz) (hk:∀d∈ds,f9 d=some k/\dep d<=60) (hk':fU k ds=true) (hc:∀x∈ds,∀y∈ds,(dR x y).isSome=true) (hu:A.units + 62 < Sw):xq prog w A s Qz (ltB ds):=by
 intro h2;have l1:vs.length=Qz.length:=rv.length;have l2:ds.length=vs.length:=rs.length;refine ⟨tuples' k.flag,λh' tk kp=>⟨λC cc=>CZ (F.keep kp) hk' rs rv (by omega) cc,λi j C hi hj cc=>?_⟩⟩;have hi':i < ds.length:=by omega
 have hj':j < ds.length:=by omega
 obtain ⟨a1,d1⟩:=hk _ (gp hi');obtain ⟨a2,d2⟩:=hk _ (gp hj');have hb:dR (cU ds i) (cU ds j)=some (ltB ds i j):=by
  have:=hc _ (gp hi') _ (gp hj');unfold ltB;cases z:dR (cU ds i) (cU ds j) with
  | none=>rw [z] at this;cases this
  | some b=>rfl
 exact HA (F.keep kp) a1 a2 hb (gU rs hi') (gU rs hj') (gW rv (by omega)) (gW rv (by omega)) (by omega) (by omega) (by omega) cc
end
noncomputable def isInt:D->Bool
 | .int _=>true
 | _=>false
def qu (ds:List D):Bool:=decide (ds.length < 64) && ds.all isInt
theorem Ad {K:QJ}{J:Hp}:∀{ds:List D}{vs:List V}{us:List QL},ds.all isInt=true->aD K J ds vs->Vals vs us->∃ns,UT us ns
 | _,_,_,_,.nil,.nil=>⟨[],.nil⟩
 | d::ds,_,_,h,.cons r rs,.cons v vs=>by
  (rw [S_,QX] at h)
  obtain ⟨ns,hn⟩:=Ad h.2 rs vs;cases d with
  | int i=>
   cases r;obtain ⟨t,rfl⟩:=v;exact ⟨i::ns,.cons i t hn⟩
  | _=>cases h.1
theorem B9 {K:QJ}{J:Hp}{prog:Ra}{w:Rz}{A:RC}{s:QM}{ds:List D}{vs:List V}{Qz:List QL}(rs:aD K J ds vs) (rv:Vals vs Qz) (hi:ds.all isInt=true):xq prog w A s Qz (ltB ds):=by
 intro h2;have l1:vs.length=Qz.length:=rv.length;have l2:ds.length=vs.length:=rs.length;obtain ⟨ns,hI⟩:=Ad hi rs rv;refine ⟨oneType',λh' tk kp=>⟨λC cc=>?_,λi j C hi' hj' cc=>?_⟩⟩
 ·clear l1 rv
  match Qz,hI,h2 with
  | v1::v2::r,hI,_=>rw [keyKind_ints hI];exact QK cc
 ·have ai:=Rk.mp hi _ (gp (i:=i) (by omega));have aj:=Rk.mp hi _ (gp (i:=j) (by omega));have r1:=gU rs (i:=i) (by omega);have r2:=gU rs (i:=j) (by omega);have v1:=gW rv (i:=i) (by omega);have v2:=gW rv (i:=j) (by omega);show Q_ _ _ (keyLt' oneType' (Qz.getD i RU) (Qz.getD j RU)) _ _ _;rw [keyLt'_oneType];have e:ltB ds i j=(dR (cU ds i) (cU ds j)).getD false:=rfl;rw [e] at cc;generalize cU ds i=di at ai r1 cc;generalize cU ds j=dj at aj r2 cc;generalize vs.getD i V.non=wi at r1 v1;generalize vs.getD j V.non=wj at r2 v2;cases di with
  | int a=>
   cases dj with
   | int b=>
    cases r1;cases r2;obtain ⟨t1,q1⟩:=v1;obtain ⟨t2,q2⟩:=v2;rw [q1,q2];refine oneLt_int ?_;unfold dR at cc;exact cc
   | _=>cases aj
  | _=>cases ai
section
variable {X:Cx}{c:C}{e:RA}{es:List RA}{pos:Pos}
theorem kL {H:Hp}{Q:VK}{E:QL->QM->Prop}{vs:List V}{ds:List D}(I:Inv X Qx σ H s) (OX:Coll X.prog X.w X.A.in1 s x Qz) (rv:Vals vs Qz) (l2:ds.length=vs.length) (l64:ds.length < 64)
 (ha:xq X.prog X.w X.A.in1.in1 s Qz (ltB ds)) (q:∀l vs',H l=none->(∀J,aD X.K J ds vs->aD X.K J (bG ds) vs')->Q (.ref l) (upd H l (.lst vs'))):Q_ (Rf X.prog X.w) X.A (call (.builtin "sorted") [x]) (EP X Qx σ Q) E s:=by
 have l1:vs.length=Qz.length:=rv.length;refine II OX (by omega) ha λh' tk l n kp hl hg=>?_;have fin:∀(ot:List QL) (vs':List V),vs'.length=vs.length->Vals vs' ot->(∀J,aD X.K J ds vs->aD X.K J (bG ds) vs')->h'.get? l=some (Ur "list" ot.toArray n)->EP X Qx σ Q (.ref l) {s with heap:=h',toks:=tk}:=λot vs' lv rv' rr hg=>
  ⟨.ref l,_,I.laid (t':=tk) kp hl (show cg X.prog X.w _ _ _ (.lst vs') from ⟨by rw [lv,RX];omega,ot,n,rv',by simpa [Ur] using hg⟩),rfl,q l vs' (I.hok.fresh hl) rr⟩
 by_cases h2:Qz.length < 2
 ·rw [if_pos h2] at hg;refine fin Qz vs rfl rv (λJ rj=>?_) hg;unfold bG;rw [if_pos (by omega)];exact rj
 ·rw [if_neg h2] at hg;have ib:∀i∈(aV (ltB ds) (UB ds.length)).toList,i < ds.length:=λi hi=>by have:=((iz (n:=ds.length) (by omega)).run (ltB ds):fF _ _);have:=(Wk this).mp (Array.mem_toList_iff.mp hi);simpa using this
  have e1:oH (ltB ds) Qz=(aV (ltB ds) (UB ds.length)).toList.map λi=>Qz.getD i RU:=by unfold oH;rw [l2,l1]
  rw [e1] at hg;refine fin _ _ ?_ (AJ rv _ λi hi=>l2▸ib i hi) (λJ rj=>?_) hg
  ·rw [QN,<-l2];have:=((iz (n:=ds.length) (by omega)).run (ltB ds):fF _ _).size_eq;simpa using this
  ·unfold bG;rw [if_neg (by omega)];exact Aw rj _ ib
theorem ED {H:Hp}(I:Inv X Qx σ H s) (h:bV X.K H p vs\/cC X.K H p vs):∃Qz,Vals vs Qz/\Coll X.prog X.w A s (.ref p) Qz:=by
 rcases h with h | h
 ·obtain ⟨Qz,r,⟨o,n,ho,hc,_,hd⟩,hz⟩:=I.list h;exact ⟨Qz,r,zW (.inl rfl) ho hc hd (r.length▸hz)⟩
 ·obtain ⟨Qz,r,pt,hz⟩:=I.tuple h;obtain ⟨o,ho,hc,n,hd⟩:=pt;exact ⟨Qz,r,zW (.inr rfl) ho hc hd (r.length▸hz)⟩
theorem E4 {H:Hp}{ds:List D}(hu:X.A.units + 64 < Sw) (I:Inv X Qx σ H s) (rs:aD X.K H ds vs) (rv:Vals vs Qz) (ok:vA ds=true):ds.length < 64/\xq X.prog X.w X.A.in1.in1 s Qz (ltB ds):=by
 have l1:vs.length=Qz.length:=rv.length;have l2:ds.length=vs.length:=rs.length;by_cases h2:ds.length < 2
 ·exact ⟨by omega,λh=>absurd h (by omega)⟩
 ·unfold vA at ok;rw [decide_eq_false h2,aai,QX,QX,QX] at ok;obtain ⟨o1,o2,o3,o4⟩:=ok;have o2:=of_decide_eq_true o2;obtain ⟨k,hk⟩:∃k,fU k ds=true:=by
   unfold E3 at o3;cases ds with
   | nil=>cases o3
   | cons d r=>
    simp only at o3;cases z:f9 d with
    | none=>rw [z] at o3;cases o3
    | some k=>rw [z] at o3;exact ⟨k,o3⟩
  refine ⟨of_decide_eq_true o1,B_ (g7 I) rs rv (k:=k) (λd hd=>⟨kr hk d hd,?_⟩) hk (λx hx y hy=>Rk.mp (Rk.mp o4 _ hx) _ hy) hu⟩;obtain ⟨i,hi,rfl⟩:=SD.mp hd;have:=G_ hi;have e:cU ds i=ds[i]:=by simp [cU,hi]
  rw [e] at this;omega
theorem xU (hu:X.A.units + 64 < Sw):bN X (.builtin "sorted") (λxs H Q=>∃p vs ds,xs=[.ref p]/\(bV X.K H p vs\/cC X.K H p vs)/\aD X.K H ds vs/\(vA ds=true\/qu ds=true)/\∀l vs',H l=none->(∀J,aD X.K J ds vs->aD X.K J (bG ds) vs')->Q (.ref l) (upd H l (.lst vs'))):=by
 intro Qx s σ H xs us Q I r h;obtain ⟨p,vs,ds,rfl,hq,rs,ok,q⟩:=h;obtain ⟨u,rfl,rx⟩:=vals1 r;cases rx;obtain ⟨Qz,rv,col⟩:=ED I hq;rcases ok with ok | ok
 ·obtain ⟨l64,ha⟩:=E4 hu I rs rv ok;exact kL I col rv rs.length l64 ha q
 ·unfold qu at ok;rw [QX] at ok;exact kL I col rv rs.length (of_decide_eq_true ok.1) (B9 rs rv ok.2) q
end
end DL
namespace DL
open PySem PySem.Spec PyProof.Rows L2
section
variable {X:Cx}{c:C}{e:RA}{g:G R}{pos:Pos}
noncomputable def qO (i:Nat) (f:R->R->M R) (g:G R):G O:=λenv=>match env[i]? with
 | some (some (.d d))=>g env >>= λy=>f (.d d) y >>= λz=>toS z >>= λx=>.ok (.nx (env.set i (some x)))
 | _=>.bad
theorem HZ (i:Nat){x:Str}{pos':Pos}{op:aaZ}{r:R2}{f:R->R->M R}(hN:X.N.Nodup) (ho:c5 X (W_ op) r) (hb:BD c r f) (h:PD X c e g) (hi:X.N[i]?=some x:=by rfl) (hx:Loc X.env.scope x:=by first | exact UZ rfl | exact Tq rfl)
  (hf:X.fn x=true\/X.env.scope.names.lookup x=some .local:=by first | exact .inl rfl | exact .inr rfl):Jc X c (.AugAssign (.Name x pos') op e pos) (qO i f g):=
 fB (KS hN hi hx h (λQx s σ H x y v u Q I rx ry q=>M0 ho I rx ry q) hf) λE σ H ⟨J,env,sr,w⟩=>by
 unfold qO at w;split at w
 ·rename_i d hd;obtain ⟨v,h1,h2⟩:=sr.at_ i _ hd;refine ⟨v,h1,J,env,sr,aC (aH w) λy wr v' J1 H1 e1 r1=>?_⟩;have sr1:=sr.ext e1;refine hb H H J1 H1 (.d d) y v v' _ sr1.hp (Rep.mono e1.j h2) r1 (aC (aH wr) λz wz w' J2 H2 e2 r2=>?_);obtain ⟨x,q,wz⟩:=uN wz;exact wz (σ.set i (some w')) J2 H2 (e1.j.trans e2.j) (sr1.set e2 r2 q)
 ·exact w.elim
end
end DL
namespace DL
open PySem PySem.Spec PyProof.Rows L2 DX
section
variable {M:aa6}{A:RC}{E:QL->QM->Prop}{s:QM}
theorem Bs {Qw:Um}{globals:Rb}{closure:List (Str×Rb)}{QE:Str}{func:Option Rb}{code:QL}{outer:Env}{builtins:Rb}{Q:Env->QM->Prop}
  (hQ:Q (newEnv Qw s.heap.objs.size globals (RM (s.heap.objs.size + 1) Qw.names closure) QE func code (some outer) builtins) {s with heap:=Zg (s.heap.push {cls:=.type "dict",data:=.dict #[]}) Qw.names}):
  Q_ M A (ZI Qw globals closure [] QE func code (some outer) builtins) Q E s:=by simp only [ZI,Option.isSome_some,if_true];refine QI (wpAny_alloc ?_);refine QI (wpAny_layCells _ (λname kind cells=>by cases hkc:kind == Vb <;> simp [hkc]) _ _ _ _ ?_);rw [show ({s with heap:=s.heap.push {cls:=.type "dict",data:=.dict #[]}}:QM).heap.objs.size=s.heap.objs.size + 1 from Ui ..];simp only [List.forIn_nil];exact QI (QK (QK hQ))
theorem iT:∀(names:List (Str×S9)) (n:Nat) (acc:List (Str×Rb)) (x:Str),(∀y∈names,y.2=.cell->y.1≠x)->(RM n names acc).lookup x=acc.lookup x
 | [],_,_,_,_=>by unfold RM;rfl
 | (y,k)::r,n,acc,x,h=>by
  have hr:∀z∈r,z.2=.cell->z.1≠x:=λz hz=>h z (QT _ hz);unfold RM;split
  ·rename_i hk;rw [iT r _ _ x hr];have hy:y≠x:=h (y,k) (QV ..) (by simpa using hk);have:(x == y)=false:=by
    cases q:x == y with
    | false=>rfl
    | true=>exact absurd (eq_of_beq q).symm hy
   rw [Sk,this]
  ·exact iT r _ _ x hr
end
theorem wG:∀(names:List (Str×S9)) (n:Nat) (acc:List (Str×Rb)),RM n names acc=RM n names []++acc:=by
 intro names
 suffices ∀(n:Nat) (a b:List (Str×Rb)),RM n names (a++b)=RM n names a++b by intro n acc;exact this n [] acc
 induction names with
 | nil=>intro n a b;unfold RM;rfl
 | cons p r ih=>
  obtain ⟨y,k⟩:=p;intro n a b;unfold RM;split
  ·exact ih _ (_::a) b
  ·exact ih _ a b
def cR (names:List (Str×S9)) (x:Str):Bool:=names.any λy=>y.1 == x && y.2 == .cell
theorem fG:∀(names:List (Str×S9)) (n:Nat) (acc:List (Str×Rb)) (x:Str),((acc.lookup x).isSome=true\/cR names x=true)->((RM n names acc).lookup x).isSome=true
 | [],_,_,_,h=>by
  unfold RM;rcases h with h | h
  ·exact h
  ·cases h
 | (y,k)::r,n,acc,x,h=>by
  unfold RM;have e:cR ((y,k)::r) x=((y == x && k == .cell) || cR r x):=rfl;rw [e] at h;split
  ·rename_i hk;refine fG r _ _ x ?_;by_cases hx:x=y
   ·left;subst hx;rw [Sk];simp
   ·rcases h with h | h
    ·left;rw [Sk];cases q:x == y with
     | true=>exact absurd (eq_of_beq q) hx
     | false=>exact h
    ·rw [TX,QX] at h;rcases h with h | h
     ·exact absurd (eq_of_beq h.1).symm hx
     ·exact .inr h
  ·rename_i hk;refine fG r _ _ x ?_;rcases h with h | h
   ·exact .inl h
   ·rw [TX,QX] at h;rcases h with h | h
    ·exact absurd h.2 hk
    ·exact .inr h
theorem fh {cl:List (Str×Rb)}(h:(RM n names cl).lookup x=some d):
  (RM n names []).lookup x=some d\/(cR names x=false/\cl.lookup x=some d):=by
 rw [wG,List.lookup_append] at h;cases q:(RM n names []).lookup x with
 | some e=>rw [q] at h;left;simpa using h
 | none=>
  rw [q] at h;right;refine ⟨?_,by simpa using h⟩;cases z:cR names x with
  | false=>rfl
  | true=>
   have:=fG names n [] x (.inr z);rw [q] at this;cases this
theorem nK {Qw:Um}(h:(relabel Qw env).names.lookup x=some .cell\/(relabel Qw env).names.lookup x=some .free):(x,R8)∈Qw.names\/cR Qw.names x=true:=by
 unfold relabel at h;revert h;generalize Qw.names=names
 induction names with
 | nil=>intro h;simp at h
 | cons p r ih=>
  obtain ⟨n,k⟩:=p;intro h;rw [Q6] at h;simp only at h;by_cases hx:x=n
  ·subst hx;cases k with
   | free=>exact .inl (QV ..)
   | cell=>right;unfold cR;simp
   | _=>simp [Sk] at h
  ·have e:(x == n)=false:=by simpa using hx
   have h':(r.map λ(n,k)=>if (k == R8 && env.scope.kind == .function && env.kindOf n == some .cell) then (n,Vb) else (n,k)).lookup x=some .cell\/(r.map λ(n,k)=>if (k == R8 && env.scope.kind == .function && env.kindOf n == some .cell) then (n,Vb) else (n,k)).lookup x=some .free:=by split at h <;> simpa [Sk,e] using h
   rcases ih h' with z | z
   ·exact .inl (QT _ z)
   ·right;unfold cR at z ⊢;rw [VX,z,Bool.or_true]
section
variable {X:Cx}
noncomputable def cF (X:Cx) (own:List Str) (cap:List Nat) (Qw:Um) (cl:List (Str×Rb)) (C:Rb) (s:QM) (H:Hp) (fp:List Rb):Cx:=
 {Jz X own cap Qw (RM (C + 1) Qw.names cl) C s H fp with fn:=cR Qw.names}
theorem G7 {H:Hp}{s:QM}{Qw:Um}{fp:List Rb}(I:Inv X Qx σ H s) (hk:Qw.kind=.function)
 (hcl:cZ X.env.cells Qw.names []=some cl) (ck:aaV h1 (s.heap.objs.size + 1) (RM (s.heap.objs.size + 1) Qw.names [])) (hfp:∀b∈fp,jm X Qx H b) (hin:∀b∈fp,b < s.heap.objs.size):(cF X own cap Qw cl s.heap.objs.size s H fp).Ok:=by
 obtain ⟨m1,m2⟩:=fZ Qw.names [] cl hcl (λx c h=>by simp at h);have lo:∀{x:Str}{d:Rb},(RM (s.heap.objs.size + 1) Qw.names []).lookup x=some d->s.heap.objs.size + 1<=d:=fun {x d} h=>(ck.empty _ _ (Vc h)).2;have old:∀{x:Str}{d:Rb},cl.lookup x=some d->d < s.heap.objs.size:=fun {x d} h=>by obtain ⟨v,z⟩:=I.cell x d (m1 x d h);exact z.lt
 refine ⟨I.ok.mod,hk,I.ok.glob,I.ok.blt,QW _,λx y d h1 h2=>?_,λx hx=>?_,λx d hf h=>?_,λhc=>I.ok.hd hc,I.ok.frames,.inl rfl,λb hb=>⟨Rl (hin b hb),λx d h=>?_⟩,
  I.bs,Rr I.ok.bsz I.sz,λb o h hb=>?_,λb hb hf=>?_,I.stack,I.stkFree⟩
 ·rcases fh h1 with h1 | ⟨_,h1⟩
  ·rcases fh h2 with h2 | ⟨_,h2⟩
   ·exact name_of_addr ck.apart (Vc h1) (Vc h2)
   ·exact absurd (Rh (old h2) (TY (lo h1))) (SS _)
  ·rcases fh h2 with h2 | ⟨_,h2⟩
   ·exact absurd (Rh (old h1) (TY (lo h2))) (SS _)
   ·exact I.ok.inj x y d (m1 x d h1) (m1 y d h2)
 ·refine R9.mp (fG _ _ _ x ?_);rcases nK hx with z | z
  ·exact .inl (m2 x (.inr z))
  ·exact .inr z
 ·rcases fh h with h | ⟨z,h⟩
  ·exact TY (lo h)
  ·have hf':cR Qw.names x=true:=hf;rw [z] at hf';cases hf'
 ·rcases fh h with h | ⟨_,h⟩
  ·exact Uq (Rh (hin b hb) (TY (lo h)))
  ·exact (hfp b hb).2.2.2.2.1 x d (m1 x d h)
 ·rcases (hfp b hb).2.2.2.1 with z | z
  ·exact I.ok.noex b o h z
  ·exact absurd (Rh (Q5 (I.ok.bs b o h).1) z) (SS _)
 ·rcases Q9.mp (I.stkSub b hf) with e | e
  ·exact (hfp b hb).2.1 e
  ·exact (hfp b hb).2.2.1 e
end
theorem yy {cl:List (Str×Rb)}(h:cR names x=false):(RM n names cl).lookup x=cl.lookup x:=
 iT names n cl x λy hy hk e=>by unfold cR at h;have:=List.any_eq_false.mp h y hy;simp [hk,e] at this
section
variable {X:Cx}
theorem Er {Qx:List (Rb×Obj)}{σ:L2.St}{H:Hp}{s:QM}{own:List Str}{cap:List Nat}{Qw:Um}{cl:List (Str×Rb)}{fp:List Rb}{h1:Sn}{m:Str->Option QL}{tk:Nat}(I:Inv X Qx σ H s) (ok:(cF X own cap Qw cl s.heap.objs.size s H fp).Ok)
  (hcl:cZ X.env.cells Qw.names []=some cl) (ck:aaV h1 (s.heap.objs.size + 1) (RM (s.heap.objs.size + 1) Qw.names [])) (hcap:pA X cap=true) (Oz:∀j∈cap,∀x,X.N[j]?=some x->(relabel Qw X.env).names.lookup x≠some .local)
  (hno:∀j∈cap,∀x,X.N[j]?=some x->cR Qw.names x=false) (hns:h1.Ns s.heap.objs.size m) (old:∀b o,s.heap.get? b=some o->h1.get? b=some o):
  Inv (cF X own cap Qw cl s.heap.objs.size s H fp) [] (RS own.length none++cap.map λ(j:Nat)=>(σ[j]?).getD none) H {s with heap:=h1,toks:=tk}:=by
 obtain ⟨m1,m2⟩:=fZ Qw.names [] cl hcl (λx c h=>by simp at h);refine ⟨ok,rfl,I.bare,Un.kept old,⟨m,hns,λi x v q1 q2 q3=>?_⟩,λx d h=>?_,I.hok.fresh (QW _),λx d h=>?_,λp hp=>absurd (show p∈([]:List (Rb×Obj)) from hp) (by simp),I.hok.kept old,?_⟩
 ·obtain ⟨j,h2,h3,h4⟩:=gO q2;have q1':(own++cap.map λ(j:Nat)=>(X.N[j]?).getD ("":Str))[i]?=some x:=q1;rw [Sh (by exact h2),Rc,h3] at q1';have hj:j∈cap:=RH h3;have hc:(match X.N[j]? with
   | some x=>(match X.env.scope.names.lookup x with
    | some .cell=>true
    | some .free=>true
    | _=>false)
   | none=>false)=true:=by unfold pA at hcap;exact Rk.mp hcap j hj
  cases hx:X.N[j]? with
  | none=>rw [hx] at hc;cases hc
  | some y=>
   rw [Za,hx] at q1';rw [hx] at hc;have e:y=x:=by simpa using q1'
   subst e;have kd:X.env.kindOf y=some .cell\/X.env.kindOf y=some .free:=by
    unfold aa8;simp only at hc;split at hc
    ·rename_i z;exact .inl z
    ·rename_i z;exact .inr z
    ·cases hc
   obtain ⟨mX,nX,lX⟩:=I.loc;obtain ⟨u,ru,lu⟩:=lX j y v hx h4 (kd.elim (λz=>.inr (.inl z)) λz=>.inr (.inr z));refine ⟨u,ru,.inr ?_⟩;have kd':(relabel Qw X.env).names.lookup y=some .cell\/(relabel Qw X.env).names.lookup y=some .free:=by
    rcases q3 with z | z | z
    ·exact absurd z (Oz j hj y hx)
    ·exact .inl z
    ·exact .inr z
   refine ⟨kd',?_⟩;have no:=hno j hj y hx;have fr:(y,R8)∈Qw.names:=by
    rcases nK kd' with z | z
    ·exact z
    ·rw [no] at z;cases z
   obtain ⟨d,hd⟩:=R9.mp (m2 y (.inr fr));refine ⟨d,(yy no).trans hd,?_⟩;rcases lu with ⟨z,_⟩ | ⟨_,d',hd',z⟩
   ·rcases kd with k | k <;> (rw [k] at z;cases z)
   ·have:=m1 y d hd;rw [hd'] at this;cases this;obtain ⟨o,ho,hod⟩:=z;exact ⟨o,old _ _ ho,hod⟩
 ·rcases fh h with h | ⟨_,h⟩
  ·exact ⟨none,(ck.empty _ _ (Vc h)).1⟩
  ·obtain ⟨v,o,ho,hod⟩:=I.cell x d (m1 x d h);exact ⟨v,o,old _ _ ho,hod⟩
 ·rcases fh h with h | ⟨_,h⟩
  ·exact I.hok.fresh (TY (ck.empty _ _ (Vc h)).2)
  ·exact I.freeC x d (m1 x d h)
 ·show _=(own++cap.map λ(j:Nat)=>(X.N[j]?).getD ("":Str)).length;simp
end
theorem Kl (h:Sn) (names:List (Str×S9)):(Zg (h.push {cls:=.type "dict",data:=.dict #[]}) names).Ns h.objs.size (λ_=>none):=
 (Heap.Ns.new h (.type "dict")).keeps λb o e=>Zh _ _ _ _ e
theorem Cy (h:Sn) (names:List (Str×S9)):aaV (Zg (h.push {cls:=.type "dict",data:=.dict #[]}) names) (h.objs.size + 1) (RM (h.objs.size + 1) names []):=by have:=cellsFrom_ok names (h.push {cls:=.type "dict",data:=.dict #[]}) (h.objs.size + 1) [] ⟨λ_ _ hm=>(nomatch hm),Uz⟩ (by rw [Ui];exact QW _);rw [Ui] at this;exact this
noncomputable def F_ (X:Cx) (cap:List Nat) (Qw:Um):Bool:=cap.all λj=>match X.N[j]? with
 | some x=>!cR Qw.names x
 | none=>true
section
variable {X:Cx}{c:C}
theorem jE {names names2:List (Str×S9)}(h:cZ cells names []=some cl)
 (hn:(names2.all λy=>!(y.2 == .free) || ((names.any λz=>z.1 == y.1 && z.2 == .free) || cR names y.1))=true):(cZ (RM n names cl) names2 []).isSome=true:=by
 obtain ⟨_,m2⟩:=fZ names [] cl h (λx c h=>by simp at h);have go:∀(l:List (Str×S9)) (cs:List (Str×Rb)),(l.all λy=>!(y.2 == .free) || ((names.any λz=>z.1 == y.1 && z.2 == .free) || cR names y.1))=true->(cZ (RM n names cl) l cs).isSome=true:=by
  intro l
  induction l with
  | nil=>intro cs _;rfl
  | cons y r ih=>
   obtain ⟨y,k⟩:=y;intro cs hl;rw [S_,QX] at hl;unfold cZ;split
   ·rename_i hk;have h1:=hl.1;simp only [hk,Td,aai,TX] at h1;have:((RM n names cl).lookup y).isSome=true:=by
     refine fG names n cl y ?_;rcases h1 with z | z
     ·obtain ⟨q,hq,e⟩:=R0.mp z;rw [QX] at e;have e1:q=(y,R8):=by
       obtain ⟨q1,q2⟩:=q;have a1:q1=y:=eq_of_beq e.1;have a2:q2=R8:=by simpa using e.2
       rw [a1,a2]
      exact .inl (m2 y (.inr (e1▸hq)))
     ·exact .inr z
    obtain ⟨a,ha⟩:=R9.mp this;rw [ha];exact ih _ hl.2
   ·exact ih _ hl.2
 exact go names2 [] hn
end
section
variable {X:Cx}{c:C}{e:RA}{es:List RA}{g:G R}{pos:Pos}
theorem DE (i:Nat) (hN:X.N.Nodup) (h:QD X c e g) (hi:X.N[i]?=some x:=by rfl) (hx:Loc X.env.scope x:=by first | exact UZ rfl | exact Tq rfl) (hf:X.fn x=true\/X.env.scope.names.lookup x=some .local:=by first | exact .inl rfl | exact .inr rfl):
  gY X c (.AugAssign (.Name x pos') .Add e pos) (qO i uq g):=have h:=h.h;⟨HZ i hN Hr (gq λ_ _ _=>.int _) h hi hx hf⟩
end
end DL
namespace K51
open PySem DL
def rK:List Str:=["_law_script","_law_k"]
noncomputable def sF:G O:=(aJ (bS (bH (g2 (jO λi j=>.bl (decide (i < j))) (af 1) (gN iC (ao (af 0) aE)))) (bz (g2 eO (g2 a_ (af 0) (af 1)) (g2 JG (gC (.int 10)) (gC (.int 64))))) dI)
 (bz (gC (.int 0))))
def b_ (as:List S):M R:=fin (sF (aW rK as))
def pW:List Str:=["_law_cell_here","_law_many","_law_letters","_law_sign","_law_stem","_law_found","_law_k","_law_other","_law_name"]
noncomputable def qf:G O:=(aJ (bh 2 (gC (.str "abcdefghijklmnopqrstuvwxyz")))
 (aJ (bh 3 (g2 a_ (af 2) (g2 eO (g2 iB (af 0) (gC (.int 3))) (gC (.int 26)))))
 (aJ (bh 4 (g2 f6 (af 3) (g2 cO (gC (.int 1)) (g2 eO (g2 iB (af 0) (gC (.int 78))) (gC (.int 7))))))
 (aJ (bh 5 (gF aU))
 (aJ (eW (bT (ao (af 1) aE)) (aA 6) (aJ (bh 7 (g2 a_ (af 2) (g2 eO (g2 cO (g2 iB (af 0) (gC (.int 546))) (g2 f6 (gC (.int 9)) (af 6))) (gC (.int 26)))))
 (aJ (bh 8 (g2 a_ (gF (az (g2 cO (af 4) (af 7)) (az (g2 cO (af 7) (af 4)) (az (g2 f6 (af 3) (g2 cO (af 6) (gC (.int 2)))) aU)))) (g2 eO (af 0) (gC (.int 3)))))
 (aJ (bS (bH (g2 (dM false) (af 8) (gC (.str "or")))) (bh 8 (gC (.str "orx"))) dI)
 (mL 5 (af 8))))))
 (bz (gN lK (ao (af 5) aE))))))))
def fL (as:List S):M R:=fin (qf (aW pW as))
def rJ:List Str:=["_law_cell_here","_law_size","_law_found","_law_k"]
noncomputable def sE:G O:=(aJ (bh 2 (gF aU))
 (aJ (eW (bT (ao (af 1) aE)) (aA 3) (aJ (mL 2 (g2 (dM false) (g2 eO (af 0) (gC (.int 2))) (gC (.int 1))))
 (bh 0 (g2 iB (af 0) (gC (.int 2))))))
 (bz (af 2))))
def gj (as:List S):M R:=fin (sE (aW rJ as))
def pY:List Str:=["_law_names_here","_law_many","_law_cells","_law_marks","_law_k","_law_bits_here","_law_arrows"]
noncomputable def qi:G O:=(aJ (bh 3 (gF aU))
 (aJ (eW (bT (ao (gN iC (ao (g2 a_ (af 0) (gC (.int 0))) aE)) aE)) (aA 4) (aJ (bh 5 (gN (aS 2 K51.gj) (ao (g2 a_ (af 2) (af 4)) (ao (af 1) aE))))
 (mL 3 (bA (az (g2 a_ (g2 a_ (af 0) (gC (.int 0))) (af 4)) (az (gN cH (ao (bE 1 [5] (bT (ao (af 1) aE)) (aA 0) (qS (g2 a_ (af 1) (af 0))) (af 0)) aE)) aU))))))
 (aJ (bh 6 (gF aU))
 (aJ (eW (bT (ao (gN iC (ao (g2 a_ (af 0) (gC (.int 1))) aE)) aE)) (aA 4) (aJ (bh 5 (gN (aS 2 K51.gj) (ao (g2 a_ (af 2) (g2 cO (gC (.int 3)) (af 4))) (ao (g2 f6 (af 1) (af 1)) aE))))
 (mL 6 (bA (az (g2 a_ (g2 a_ (af 0) (gC (.int 1))) (af 4)) (az (gN cH (ao (bE 1 [5,1] (bT (ao (g2 f6 (af 1) (af 1)) aE)) (aA 0) (qS (g2 a_ (af 1) (af 0))) (bA (az (g2 iB (af 0) (af 2)) (az (g2 eO (af 0) (af 2)) aU)))) aE)) aU))))))
 (bz (bA (az (af 1) (az (gN cH (ao (af 3) aE)) (az (gN cH (ao (af 6) aE)) aU)))))))))
def eH (as:List S):M R:=fin (qi (aW pY as))
end K51
namespace WP
open PySem DL K01
def Wp {α:Type}(m:M α) (P:α->Prop):Prop:=∃a,m=.ok a/\P a
section
variable {α β:Type}{m:M α}{P P':α->Prop}{a:α}{env:Ev}{Q:O->Prop}{t u:G O}{g:G R}{r r':R}{i:Nat}{b:G Bool}
theorem Wp.of (h:m=.ok a) (p:P a):Wp m P:=⟨a,h,p⟩
theorem Wp.mono (h:Wp m P) (k:∀a,P a->P' a):Wp m P':=let ⟨a,h1,h2⟩:=h;⟨a,h1,k a h2⟩
theorem Wp.eq (h:Wp m (·=a)):m=.ok a:=let ⟨_,h1,h2⟩:=h;h2▸h1
theorem nu {P:R->Prop}(h:Wp (t env) λo=>∃r,o=.rt r/\P r):Wp (fin (t env)) P:=by obtain ⟨_,h1,r,rfl,h2⟩:=h;exact ⟨r,by rw [h1];rfl,h2⟩
theorem o_ (h:Wp (t env) λo=>∃e,o=.nx e):fin (t env)=.ok (.d .non):=by obtain ⟨_,h1,r,rfl⟩:=h;rw [h1];rfl
theorem cj (h:Wp (t env) (·=.rt r)):fin (t env)=.ok r:=by rw [h.eq];rfl
theorem cB (h:Wp (t env) λo=>match o with
 | .nx e=>Wp (u e) Q
 | o=>Q o):Wp (aJ t u env) Q:=by
 obtain ⟨o,h1,h2⟩:=h;show Wp (t env >>= _) Q;rw [h1];cases o with
 | nx e=>exact h2
 | rt r=>exact ⟨_,rfl,h2⟩
 | bk e=>exact ⟨_,rfl,h2⟩
 | ct e=>exact ⟨_,rfl,h2⟩
theorem fV (h:g env=.ok r) (h2:toS r=.ok x) (k:Q (.nx (env.set i (some x)))):Wp (bh i g env) Q:=⟨_,by show (g env >>= _)=_;rw [h,aK,h2];rfl,k⟩
theorem bF (h:g env=.ok r) (h2:toS r=.ok x) (k:Wp (u (env.set i (some x))) Q):Wp (aJ (bh i g) u env) Q:=cB (fV h h2 k)
theorem bK (h:g env=.ok r) (h2:rF r=.ok r') (k:Q (.rt r')):Wp (bz g env) Q:=⟨_,Lc h h2,k⟩
theorem jR (k:Q (.nx env)):Wp (dI env) Q:=⟨_,rfl,k⟩
theorem Nn (k:Wp (u env) Q):Wp (aJ dI u env) Q:=cB (jR k)
theorem iE (h:b env=.ok true) (k:Wp (t env) Q):Wp (bS b t u env) Q:=by rw [uv h];exact k
theorem oF (h:b env=.ok false) (k:Wp (u env) Q):Wp (bS b t u env) Q:=by rw [sN h];exact k
theorem Bl (h:b env=.ok c) (k1:c=true->Wp (t env) Q) (k2:c=false->Wp (u env) Q):Wp (bS b t u env) Q:=by
 cases c with
 | true=>exact iE h (k1 rfl)
 | false=>exact oF h (k2 rfl)
theorem Nm {v:G O}(h:b env=.ok false) (k:Wp (aJ u v env) Q):Wp (aJ (bS b t u) v env) Q:=by
 have:aJ (bS b t u) v env=aJ u v env:=by unfold aJ;rw [sN h]
 rw [this];exact k
theorem eB {v:G O}(h:b env=.ok false) (k:Wp (v env) Q):Wp (aJ (bS b t dI) v env) Q:=Nm h (Nn k)
theorem sQ {xs:List D}(h0:env[i]?=some (some (.own xs))) (h:g env=.ok r) (h2:toD r=.ok d) (hl:xs.length<=1000) (k:Q (.nx (env.set i (some (.own (xs++[d])))))):Wp (mL i g env) Q:=by refine ⟨_,?_,k⟩;unfold mL;rw [h0];show (g env >>= _)=_;rw [h,aK,h2,aK,if_pos (Yi hl (by decide))]
theorem Mg {xs:List D}{d:D}(h0:env[i]?=some (some (.own xs))) (h:g env=.ok r) (h2:toD r=.ok d) (hl:xs.length<=1000) (k:Wp (u (env.set i (some (.own (xs++[d]))))) Q):Wp (aJ (mL i g) u env) Q:=cB (sQ h0 h h2 hl k)
theorem Bk {gi:G (List D)}(h:gi env=.ok ds) (k:Wp (fq tg u ds env) Q):Wp (eW gi tg u env) Q:=by rw [JI h];exact k
theorem iJ {gi:G (List D)}{v:G O}(h:gi env=.ok ds) (k:Wp (fq tg t ds env) λo=>match o with
 | .nx e=>Wp (v e) Q
 | o=>Q o):Wp (aJ (eW gi tg t) v env) Q:=cB (Bk h k)
theorem tY {tg:GT}(I:Nat->Ev->Prop) (ds:List D) (h0:I 0 env) (step:∀(k:Nat) (hk:k < ds.length) (env:Ev),I k env->∃e,tg ds[k] env=.ok e/\Wp (u e) λo=>∃e,o=.nx e/\I (k + 1) e)
  (k:∀e,I ds.length e->Q (.nx e)):Wp (fq tg u ds env) Q:=by
 have key:∀(es:List D) (i:Nat) (env:Ev),ds.drop i=es->i<=ds.length->I i env->Wp (fq tg u es env) Q:=by
  intro es
  induction es with
  | nil=>
   intro i env hd hi hI;have:i=ds.length:=by have:=congrArg Vo hd;rw [Ue] at this;simp at this;omega
   subst this;exact ⟨_,rfl,k _ hI⟩
  | cons d es ih=>
   intro i env hd hi hI;have hlt:i < ds.length:=by have:=congrArg Vo hd;rw [Ue] at this;simp at this;omega
   have e1:=UN hlt;rw [hd] at e1;obtain ⟨q1,q2⟩:=abo e1;obtain ⟨e,h1,_,h2,e2,rfl,h3⟩:=step i hlt env hI;unfold fq;rw [q1,h1,aK,h2,aK];exact ih (i + 1) e2 q2.symm (by omega) h3
 exact key ds 0 env rfl (Rm _) h0
theorem nv {tg:GT}(I:Nat->Ev->Prop) (h0:I 0 env) (step:∀(k:Nat),k < n->∀env,I k env->∃e,tg (.int k) env=.ok e/\Wp (u e) λo=>∃e,o=.nx e/\I (k + 1) e)
 (k:∀e,I n e->Q (.nx e)):Wp (fq tg u (eS 0 n) env) Q:=by
 have hl:(eS 0 n).length=n:=by simp [eS]
 refine tY I (eS 0 n) h0 (λj hj env hI=>?_) (by rw [hl];exact k);obtain ⟨e,h1,h2⟩:=step j (by rw [hl] at hj;exact hj) env hI;refine ⟨e,?_,h2⟩;rw [<-h1];simp [eS]
theorem n1 {f:List R->M R}(hx:g env=.ok x) (hf:f [x]=.ok z):gN f (ao g aE) env=.ok z:=LU hx hf
theorem two {f:R->R->M R}{h:G R}{x y z:R}(hx:g env=.ok x) (hy:h env=.ok y) (hf:f x y=.ok z):g2 f g h env=.ok z:=by show (g env >>= _)=_;rw [hx,aK,hy,aK,hf]
theorem c1 {F:List S->M R}(hx:g env=.ok x) (hF:F [gc x]=.ok z):gN (aS 1 F) (ao g aE) env=.ok (lM z):=by show (ao g aE env >>= _)=_;unfold ao aE;rw [hx];show (match F [gc x] with | .ok r=>M.ok (lM r) | _=>M.bad)=_;rw [hF]
theorem c2 {F:List S->M R}{h:G R}(hx:g env=.ok x) (hy:h env=.ok y) (hF:F [gc x,gc y]=.ok z):gN (aS 2 F) (ao g (ao h aE)) env=.ok (lM z):=by show (ao g (ao h aE) env >>= _)=_;unfold ao aE;rw [hx,hy];show (match F [gc x,gc y] with | .ok r=>M.ok (lM r) | _=>M.bad)=_;rw [hF]
theorem c3 {F:List S->M R}{h k:G R}(hx:g env=.ok x) (hy:h env=.ok y) (hw:k env=.ok w) (hF:F [gc x,gc y,gc w]=.ok z):gN (aS 3 F) (ao g (ao h (ao k aE))) env=.ok (lM z):=by show (ao g (ao h (ao k aE)) env >>= _)=_;unfold ao aE;rw [hx,hy,hw];show (match F [gc x,gc y,gc w] with | .ok r=>M.ok (lM r) | _=>M.bad)=_;rw [hF]
theorem c4 {F:List S->M R}{h k l:G R}(hx:g env=.ok x) (hy:h env=.ok y) (hw:k env=.ok w) (hv:l env=.ok v) (hF:F [gc x,gc y,gc w,gc v]=.ok z):gN (aS 4 F) (ao g (ao h (ao k (ao l aE)))) env=.ok (lM z):=by show (ao g (ao h (ao k (ao l aE))) env >>= _)=_;unfold ao aE;rw [hx,hy,hw,hv];show (match F [gc x,gc y,gc w,gc v] with | .ok r=>M.ok (lM r) | _=>M.bad)=_;rw [hF]
theorem lF (h:g env=.ok r) (k:Wp (u env) Q):Wp (aJ (jx g) u env) Q:=cB ⟨.nx env,by show (g env >>= _)=_;rw [h];rfl,k⟩
theorem Jt {n:Nat}{cap:List Nat}{gi:G (List D)}{tg:GT}{ge:G R}{gts:G Bool}{α:Type}{xs:List α}{h:α->D}(o:α->Ev) (p:α->Bool) (f:α->D) (hi:gi env=.ok (xs.map h)) (hl:xs.length<=1000000)
  (ho:∀x,(o x).length=n) (ht:∀x (e:Ev),e.length=n->tg (h x) (e++cE 0 cap env)=.ok (o x++cE 0 cap env))
  (hb:∀x∈xs,gts (o x++cE 0 cap env)=.ok (p x)/\(p x=true->∃r,ge (o x++cE 0 cap env)=.ok r/\toD r=.ok (f x))):bE n cap gi tg gts ge env=.ok (.l .fresh ((xs.filter p).map f)):=by
 have key:∀(es:List α) (x:Ev),x.length=n->(∀d∈es,d∈xs)->eT tg gts ge (es.map h) (x++cE 0 cap env)=.ok ((es.filter p).map f):=by
  intro es
  induction es with
  | nil=>exact λ_ _ _=>rfl
  | cons d es ih=>
   intro x hx hm;obtain ⟨h0,h1⟩:=hb d (hm d QV);have ih:=ih (o d) (ho d) λe he=>hm e (QT _ he);rw [Q6];unfold eT;rw [ht d x hx,aK,h0,aK];cases q:p d with
   | true=>
    obtain ⟨r,h1,h2⟩:=h1 q;rw [if_pos rfl,h1,aK,h2,aK,ih,WM q];rfl
   | false=>
    rw [if_neg (by decide),WN (by simp [q])];exact ih
 unfold bE;rw [hi,aK,if_pos (by rw [RX,QN];omega)];show (eT tg gts ge _ (RS n none++cE 0 cap env) >>= _)=_;rw [key xs _ Sq λ_ h=>h];rfl
theorem F6 {α:Type}(xs:List α):xs.filter (λ_=>true)=xs:=T_.mpr λ_ _=>rfl
theorem i_ {gi:G (List D)}{ge:G R}{gts:G Bool}{α:Type}{xs:List α}{h:α->D}(p:α->Bool) (f:α->D) (hi:gi env=.ok (xs.map h)) (hl:xs.length<=1000000)
 (hb:∀x∈xs,gts (some (.d (h x))::cE 0 cap env)=.ok (p x)/\(p x=true->∃r,ge (some (.d (h x))::cE 0 cap env)=.ok r/\toD r=.ok (f x))):bE 1 cap gi (aA 0) gts ge env=.ok (.l .fresh ((xs.filter p).map f)):=
 Jt (λx=>[some (.d (h x))]) p f hi hl (λ_=>rfl) (λ_ e he=>match e,he with | [_],_=>rfl) hb
theorem iU {gi:G (List D)}{ge:G R}{α:Type}{xs:List α}{h:α->D}(f:α->D) (hi:gi env=.ok (xs.map h)) (hl:xs.length<=1000000)
 (hb:∀x∈xs,∃r,ge (some (.d (h x))::cE 0 cap env)=.ok r/\toD r=.ok (f x)):bE 1 cap gi (aA 0) b8 ge env=.ok (.l .fresh (xs.map f)):=by
 have:=i_ (gts:=b8) (λ_=>true) f hi hl λx hx=>⟨rfl,λ_=>hb x hx⟩
 rwa [F6] at this
theorem Jv {cap:List Nat}{gi:G (List D)}{ge:G R}{gts:G Bool}{α:Type}{xs:List α}(a b:α->D) (p:α->Bool) (f:α->D) (hi:gi env=.ok (xs.map λx=>.tup [a x,b x])) (hl:xs.length<=1000)
  (h:∀x∈xs,gts (some (.d (a x))::some (.d (b x))::cE 0 cap env)=.ok (p x)/\(p x=true->∃r,ge (some (.d (a x))::some (.d (b x))::cE 0 cap env)=.ok r/\toD r=.ok (f x))):bE 2 cap gi (dU 2 (bD (aA 0) (bD (aA 1) eF))) gts ge env=.ok (.l .fresh ((xs.filter p).map f)):=
 Jt (λx=>[some (.d (a x)),some (.d (b x))]) p f hi (by omega) (λ_=>rfl) (λ_ e he=>match e,he with | [_,_],_=>rfl) h
theorem ku {gi:G (List D)}{ge:G R}{α:Type}{xs:List α}(a b:α->D) (f:α->D) (hi:gi env=.ok (xs.map λx=>.tup [a x,b x])) (hl:xs.length<=1000)
 (h:∀x∈xs,∃r,ge (some (.d (a x))::some (.d (b x))::cE 0 cap env)=.ok r/\toD r=.ok (f x)):bE 2 cap gi (dU 2 (bD (aA 0) (bD (aA 1) eF))) b8 ge env=.ok (.l .fresh (xs.map f)):=by
 have:=Jv (gts:=b8) a b (λ_=>true) f hi hl λx hx=>⟨rfl,λ_=>h x hx⟩
 rwa [F6] at this
theorem Le (n:Nat):eS 0 n=(QS n).map dN:=by simp [eS]
theorem fS {gs:G (List R)}{n:Nat}(hg:gs env=.ok [.d (.int (n:Int))]) (h:n<=1000):bT gs env=.ok ((QS n).map dN):=by rw [oU hg h,Le]
theorem b9 (h:g env=.ok x):ao g aE env=.ok [x]:=by show (g env >>= _)=_;rw [h];rfl
theorem bq:aU env=.ok []:=rfl
theorem aG {gs:G (List D)}(h:g env=.ok r) (h2:toD r=.ok d) (k:gs env=.ok ds):az g gs env=.ok (d::ds):=by show (g env >>= _)=_;rw [h,aK,h2,aK,k];rfl
theorem br {gs:G (List D)}{ds:List D}(h:gs env=.ok ds) (hl:ds.length<=1000):bA gs env=.ok (.d (.tup ds)):=by show (gs env >>= _)=_;rw [h,aK,if_pos (gR hl)]
theorem oG {gs:G (List D)}{ds:List D}(h:gs env=.ok ds) (hl:ds.length<=1000):gF gs env=.ok (.l .fresh ds):=by show (gs env >>= _)=_;rw [h,aK,if_pos (gR hl)]
theorem lR {α:Type}{xs:List α}{h:α->D}(f:R) (hf:gz f=.ok (xs.map h)) (i:Int) (h0:0<=i) (hi:i < xs.length):∃x∈xs,a_ f (.d (.int i))=.ok (.d (h x)):=by
 obtain ⟨k,rfl⟩:=Int.eq_ofNat_of_zero_le h0;have hk:k < xs.length:=by omega
 refine ⟨xs[k],SI hk,?_⟩;have h1:(xs.map h)[k]?=some (h xs[k]):=by rw [Rc,Q4 hk];rfl
 cases f with
 | d x=>
  cases x with
  | tup ys=>cases hf;exact jG h1
  | lst ys=>cases hf;unfold a_;simp only [gz,aK,jD h1]
  | _=>cases hf
 | l m x=>cases hf;exact sd h1
 | mo _ _=>cases hf
 | mb _ _=>cases hf
 | mf _ _=>cases hf
 | ln _=>cases hf
theorem BR (h:env[i]?=some (some (.own xs))) (k:Wp (t (env.set i (some (.d (.lst xs))))) Q):Wp (iX i t env) Q:=by
 have:iX i t env=t (env.set i (some (.d (.lst xs)))):=by unfold iX;rw [h]
 rw [this];exact k
theorem LN (h:g env=.ok r) (h2:toD r=.ok d) (h3:tg d env=.ok e) (k:Q (.nx e)):Wp (kX tg g env) Q:=⟨_,by show (g env >>= _)=_;rw [h,aK,h2,aK,h3];rfl,k⟩
theorem tE (h:g env=.ok r) (h2:toD r=.ok d) (h3:tg d env=.ok e) (k:Wp (u e) Q):Wp (aJ (kX tg g) u env) Q:=cB (LN h h2 h3 k)
theorem Ef {α:Type}(xs:List α) (z:α):L2.jL (xs++[z]) (-1)=some z:=by unfold L2.jL L2.oE;rw [if_neg (by decide),if_pos (by simp;omega)];rw [show ((-1:Int) + ((xs++[z]).length:Nat)).toNat=xs.length by simp;omega];simp
theorem xZ (xs:List D) (z:D):cutD (xs++[z]) none (some (-1))=xs:=by unfold cutD HT.bC;simp;rw [show ((-1:Int) + ((xs.length:Int) + 1)).toNat=xs.length by omega];simp
theorem Hv (xs:List D) (z:D):a_ (.d (.tup (xs++[z]))) (.d (.int (-1)))=.ok (.d z):=by unfold a_;simp only [gz,aK,Ef]
theorem Bc (neg:Bool) (x:D) (ys:List D) (h:deps ys<=60) (hx:dep x<=60):lI neg (.d x) (.d (.tup ys))=.ok (.d (.bl (if neg then !inD x ys else inD x ys))):=by show (if deps ys<=60/\dep x<=60 then M.ok (R.d (.bl (if neg then !inD x ys else inD x ys))) else M.bad)=_;rw [if_pos ⟨h,hx⟩]
theorem pB (neg:Bool) (x y:R) (h:dep x.dat<=60) (hx:dep y.dat<=60):dM neg x y=.ok (.d (.bl (if neg then !bg x.dat y.dat else bg x.dat y.dat))):=by unfold dM;rw [if_pos ⟨h,hx⟩]
theorem dz:∀{xs:List D},(∀x∈xs,dep x<=n)->deps xs<=n
 | [],_=>Rm _
 | x::xs,h=>by have h1:=h x QV;have h2:=dz (xs:=xs) λy hy=>h y (QT _ hy);simp only [deps];omega
theorem JB (xs:List Nat):deps (xs.map dN)<=60:=dz λx hx=>by obtain ⟨k,_,rfl⟩:=QO.mp hx;exact Rm _
theorem CG (xs:List (Nat×Nat)):deps (xs.map dP)<=60:=dz λx hx=>by obtain ⟨k,_,rfl⟩:=QO.mp hx;exact (by decide:(1:Nat)<=60)
theorem AK {tb:G Bool}(I:Nat->Ev->Prop) (step:∀d env,I d env->(tb env=.ok false/\Q (.nx env))\/(tb env=.ok true/\Wp (t env) λo=>match o with
  | .nx e=>∃d',d' < d/\I d' e
  | .rt r=>Q (.rt r)
  | _=>False)):∀(n d:Nat) (env:Ev),I d env->d < n->Wp (j5 tb t n env) Q
 | 0,d,env,_,h=>absurd h (RZ _)
 | n + 1,d,env,hI,h=>by
  unfold j5;rcases step d env hI with ⟨h1,h2⟩ | ⟨h1,o,h2,h3⟩
  ·rw [h1];exact ⟨_,rfl,h2⟩
  ·rw [h1,aK,if_pos rfl,h2,aK];cases o with
   | nx e=>
    obtain ⟨d',hd,hI'⟩:=h3;exact AK I step n d' e hI' (by omega)
   | rt r=>exact ⟨_,rfl,h3⟩
   | bk e=>exact h3.elim
   | ct e=>exact h3.elim
theorem IE {tb:G Bool}(I:Nat->Ev->Prop) (d:Nat) (hd:d < n) (h0:I d env) (step:∀d env,I d env->(tb env=.ok false/\Wp (u env) Q)\/(tb env=.ok true/\Wp (t env) λo=>match o with
 | .nx e=>∃d',d' < d/\I d' e
 | .rt r=>Q (.rt r)
 | _=>False)):Wp (aJ (sD n tb t) u env) Q:=cB (AK I (λd env h=>by
  rcases step d env h with h | ⟨h1,h2⟩
  ·exact .inl h
  ·refine .inr ⟨h1,h2.mono λo ho=>?_⟩;cases o <;> exact ho) n d env h0 hd)
theorem LO {f:R->R->M R}(h0:env[i]?=some (some (.d d))) (h:g env=.ok y) (hf:f (.d d) y=.ok z) (h2:toS z=.ok x) (k:Q (.nx (env.set i (some x)))):Wp (qO i f g env) Q:=by refine ⟨_,?_,k⟩;unfold qO;rw [h0];show (g env >>= _)=_;rw [h,aK,hf,aK,h2];rfl
end
end WP
namespace K51
open PySem DL K01 WP
def cV (ns:List Int) (k:Nat):Int:=(ns.map λx=>x % 10 ^ 64).getD k 0
theorem jM (ns:List Int) (k:Nat):0<=cV ns k:=by
 unfold cV;rw [RI,Rc];cases ns[k]? with
 | none=>exact Int.le_refl _
 | some x=>exact TZ _ (by decide)
theorem BX (ns:List Int) (k:Nat):b_ [.bor (ns.map D.int),.d (.int k)]=.ok (.d (.int (cV ns k))):=by
 refine cj (cB (Bl (c:=decide ((k:Int) < ((ns.map D.int).length:Nat))) rfl (λh=>?_) λh=>?_))
 ·have h:k < ns.length:=by simpa using h
  have e:(ns.map D.int)[k]?=some (.int ns[k]):=by rw [Rc,Q4 h];rfl
  refine bK (two (two rfl rfl (sd e)) rfl (gx _ _ (by decide))) rfl ?_;unfold cV;rw [RI,Rc,Q4 h];rfl
 ·have h:ns.length<=k:=by simpa using h
  refine jR (bK rfl rfl ?_);unfold cV;rw [RI,Rc,List.getElem?_eq_none (by omega)];rfl
theorem IC (b n:Nat):(gT ⟨#[b]⟩ n).length=n:=by rw [HE,G6,Sq]
theorem zF (c:Int) (hc:0<=c) (m:Nat) (hm:m<=3):∃ss:List Str,fL [.d (.int c),.d (.int m)]=.ok (.l .fresh (ss.map .str))/\ss.length=m:=by
 have key:Wp (fL [.d (.int c),.d (.int m)]) λr=>∃ss:List Str,r=.l .fresh (ss.map .str)/\ss.length=m:=by
  refine nu (bF rfl rfl (bF (two rfl rfl (CY (c / 3 % 26) (by omega) (by omega))) rfl ?_));generalize 97 + (c / 3 % 26).toNat=b;refine bF (two rfl rfl (GL _ (1 + c / 78 % 7) (by omega) (by omega) (show 1<=1000 by decide))) rfl ?_;have hst:(gT ⟨#[b]⟩ (1 + c / 78 % 7).toNat).length<=8:=by rw [IC];omega
  generalize gT ⟨#[b]⟩ (1 + c / 78 % 7).toNat=stem at hst;refine bF rfl rfl (iJ (oU (n:=m) rfl (by omega)) ?_);refine nv (n:=m) (λk env=>∃(ss:List Str) (x y z:Option S),env=[some (.d (.int c)),some (.d (.int m)),some (.d (.str "abcdefghijklmnopqrstuvwxyz")),some (.d (.str ⟨#[b]⟩)),some (.d (.str stem)),some (.own (ss.map .str)),x,y,z]/\ss.length=k) ⟨[],none,none,none,rfl,rfl⟩ ?_ ?_
  ·rintro k hk _ ⟨ss,x,y,z,rfl,hl⟩;refine ⟨_,rfl,?_⟩;refine bF (two rfl rfl (CY ((c / 546 + 9 * k) % 26) (by omega) (by omega))) rfl ?_;generalize 97 + ((c / 546 + 9 * k) % 26).toNat=o;obtain ⟨nm,hnm⟩:∃nm:Str,g2 a_ (gF (az (g2 cO (af 4) (af 7)) (az (g2 cO (af 7) (af 4)) (az (g2 f6 (af 3) (g2 cO (af 6) (gC (.int 2)))) aU)))) (g2 eO (af 0) (gC (.int 3))) [some (.d (.int c)),some (.d (.int m)),some (.d (.str "abcdefghijklmnopqrstuvwxyz")),some (.d (.str ⟨#[b]⟩)),some (.d (.str stem)),some (.own (ss.map .str)),some (.d (.int k)),some (.d (.str ⟨#[o]⟩)),z]=.ok (.d (.str nm)):=by
    have h1:=GN stem ⟨#[o]⟩ (by show _ + 1<=1000;omega);have h2:=GN ⟨#[o]⟩ stem (by show 1 + _<=1000;omega);have h3:=GL ⟨#[b]⟩ (k + 2) (by omega) (by omega) (show 1<=1000 by decide);have hg:gF (az (g2 cO (af 4) (af 7)) (az (g2 cO (af 7) (af 4)) (az (g2 f6 (af 3) (g2 cO (af 6) (gC (.int 2)))) aU))) [some (.d (.int c)),some (.d (.int m)),some (.d (.str "abcdefghijklmnopqrstuvwxyz")),some (.d (.str ⟨#[b]⟩)),some (.d (.str stem)),some (.own (ss.map .str)),some (.d (.int k)),some (.d (.str ⟨#[o]⟩)),z]=.ok (.l .fresh [.str (stem++⟨#[o]⟩),.str (⟨#[o]⟩++stem),.str (gT ⟨#[b]⟩ ((k:Int) + 2).toNat)]):=by
     have l3:(3:Nat)<=sizeLine:=by decide
     simp only [gF,az,aU,g2,af,gC,S.rd,List.getElem?_cons_zero,List.getElem?_cons_succ,aK,h1,h2,za,h3,toD,Sb,Vd,l3,if_true]
    have hcs:c % 3=0\/c % 3=1\/c % 3=2:=by omega
    rcases hcs with h | h | h
    ·exact ⟨_,two hg (gx c 3 (by decide)) (by rw [h];rfl)⟩
    ·exact ⟨_,two hg (gx c 3 (by decide)) (by rw [h];rfl)⟩
    ·exact ⟨_,two hg (gx c 3 (by decide)) (by rw [h];rfl)⟩
   refine bF hnm rfl (cB (Bl (c:=bg (.str nm) (.str "or")) rfl (λh=>fV rfl rfl ?_) λh=>jR ?_))
   ·exact sQ rfl rfl rfl (by rw [QN];omega) ⟨_,rfl,ss++[("orx":Str)],_,_,_,by rw [Rg];rfl,by rw [Rj,hl];rfl⟩
   ·exact sQ rfl rfl rfl (by rw [QN];omega) ⟨_,rfl,ss++[nm],_,_,_,by rw [Rg];rfl,by rw [Rj,hl];rfl⟩
  ·rintro _ ⟨ss,x,y,z,rfl,hl⟩;refine bK (n1 rfl (sorted_strs _ _ (by omega))) rfl ⟨_,rfl,_,rfl,?_⟩;unfold pQ;simp [hl]
 obtain ⟨_,h,ss,rfl,hl⟩:=key;exact ⟨ss,h,hl⟩
theorem BW (c:Int) (m:Nat) (hm:m<=64):∃bs:List Bool,gj [.d (.int c),.d (.int m)]=.ok (.l .fresh (bs.map .bl))/\bs.length=m:=by
 have key:Wp (gj [.d (.int c),.d (.int m)]) λr=>∃bs:List Bool,r=.l .fresh (bs.map .bl)/\bs.length=m:=by
  refine nu (bF rfl rfl (iJ (oU (n:=m) rfl (by omega)) ?_));refine nv (n:=m) (λk env=>∃(bs:List Bool) (c:Int) (x:Option S),env=[some (.d (.int c)),some (.d (.int m)),some (.own (bs.map .bl)),x]/\bs.length=k) ⟨[],c,none,rfl,rfl⟩ ?_ ?_
  ·rintro k hk _ ⟨bs,c,x,rfl,hl⟩;refine ⟨_,rfl,Mg rfl rfl rfl (by rw [QN];omega) (fV rfl rfl ⟨_,rfl,bs++[c % 2 == 1],c / 2,_,by rw [Rg];rfl,by rw [Rj,hl];rfl⟩)⟩
  ·rintro _ ⟨ss,x,y,rfl,hl⟩;exact bK rfl rfl ⟨_,rfl,_,rfl,hl⟩
 obtain ⟨_,h,ss,rfl,hl⟩:=key;exact ⟨ss,h,hl⟩
theorem K0 (bs:List Bool) (m:Nat) (hm:m<=8):wQ m ((QS m).filter λp=>bs.getD p false):=by
 refine ⟨?_,Xy _ Uj,λx hx=>?_⟩
 ·exact Rr (RL _ _) (by simpa using hm)
 ·simpa using (RD.mp hx).1
theorem KR (bs:List Bool) (m:Nat) (h1:1<=m) (hm:m<=8):rP m (((QS (m * m)).filter λp=>bs.getD p false).map λp=>(p / m,p % m)):=by
 have ON:m * m<=64:=Vz hm hm;refine ⟨?_,?_,λx hx=>?_⟩
 ·rw [QN];refine Rr (RL _ _) (by simpa using ON)
 ·rw [R5];refine Vt ?_ (Xy _ Uj);intro p q hpq;have e1:=Zi p m;have e2:=Zi q m;have h3:p / m<=q / m:=Nat.div_le_div_right (by omega);by_cases h:p / m < q / m
  ·exact .inl h
  ·have e:p / m=q / m:=by omega
   refine .inr ⟨e,?_⟩;rw [e] at e1;show p % m < q % m;omega
 ·obtain ⟨p,hp,rfl⟩:=QO.mp hx;have:p < m * m:=by simpa using (RD.mp hp).1
  exact ⟨Nat.div_lt_of_lt_mul this,Wz _ (by omega)⟩
theorem NN (bs:List Bool) (m k:Nat) (hl:bs.length=m) (hk:k < m):a_ (.l .bor (bs.map D.bl)) (.d (.int k))=.ok (.d (.bl (bs.getD k false))):=by refine sd ?_;rw [Rc,Q4 (by omega),RI,Q4 (by omega)];rfl
theorem zU (bs:List Bool) (m k:Nat) (hl:bs.length=m) (hk:k < m):a_ (.l .own (bs.map D.bl)) (.d (.int k))=.ok (.d (.bl (bs.getD k false))):=by refine sd ?_;rw [Rc,Q4 (by omega),RI,Q4 (by omega)];rfl
theorem Ja (m:Nat) (h1:1<=m) (hm:m<=8) (A B:List Str) (hA:A.length<=3) (hB:B.length<=3) (cs:List Int) (hc:cs.length=6):
  ∃ms rs,eH [.d (.tup [.lst (A.map .str),.lst (B.map .str)]),.d (.int m),.bor (cs.map .int)]=.ok (.d (Wd.d ⟨m,ms,rs⟩))/\ms.map Sf=A/\rs.map Sf=B/\(∀r∈ms,wQ m r.2)/\∀r∈rs,rP m r.2:=by
 have key:Wp (eH [.d (.tup [.lst (A.map .str),.lst (B.map .str)]),.d (.int m),.bor (cs.map .int)]) λr=>∃ms rs,r=.d (Wd.d ⟨m,ms,rs⟩)/\ms.map Sf=A/\rs.map Sf=B/\(∀r∈ms,wQ m r.2)/\∀r∈rs,rP m r.2:=by
  have ON:m * m<=64:=Vz hm hm;have tm:f6 (.d (.int m)) (.d (.int m))=.ok (.d (.int ((m * m:Nat):Int))):=by rw [IM _ _ (by omega) (by omega)];simp
  refine nu (bF rfl rfl (iJ (oU (n:=(A.map D.str).length) rfl (by rw [QN];omega)) ?_));refine nv (n:=(A.map D.str).length) (λk env=>∃(ms:List (Str×List Nat)) (x y:Option S),env=[some (.d (.tup [.lst (A.map .str),.lst (B.map .str)])),some (.d (.int m)),some (.bor (cs.map .int)),some (.own (ms.map iI)),x,y,none]/\ms.map Sf=A.take k/\∀r∈ms,wQ m r.2) ⟨[],none,none,rfl,rfl,λ_ h=>by cases h⟩ ?_ ?_
  ·rintro k hk _ ⟨ms,x,y,rfl,hf,hp⟩;rw [QN] at hk;refine ⟨_,rfl,?_⟩;obtain ⟨c,_,hcc⟩:=lR (xs:=cs) (h:=D.int) (.l .bor (cs.map .int)) rfl k (by omega) (by omega);obtain ⟨bs,hb,Pg⟩:=BW c m (by omega);have hlen:ms.length<=3:=by have:=congrArg Vo hf;rw [QN,Ud] at this;omega
   refine bF (c2 (two rfl rfl hcc) rfl hb) rfl ?_;refine sQ rfl (br (aG (two rfl rfl (show a_ (.d (.lst (A.map D.str))) _=.ok (.d (.str A[k])) from ?_)) rfl (aG (n1 (i_ (xs:=QS m) (h:=dN) (λp=>bs.getD p false) dN (fS rfl (by omega)) (by simp;omega) ?_) rfl) rfl bq)) (by show 2<=1000;decide)) rfl (by rw [QN];omega) ?_
   ·show a_ (.d (.lst (A.map D.str))) (.d (.int k))=_;unfold a_;have:(A.map D.str)[k]?=some (.str A[k]):=by rw [Rc,Q4 hk];rfl
    simp only [gz,aK,jD this]
   ·intro p hp';have hp':p < m:=by simpa using hp'
    have hb:=zU bs m p Pg hp';refine ⟨?_,λ_=>⟨_,rfl,rfl⟩⟩;show (g2 a_ (af 1) (af 0) [some (.d (dN p)),some (.own (bs.map D.bl))] >>= zc)=_;rw [two (x:=.l .own (bs.map D.bl)) (y:=.d (dN p)) rfl rfl hb];rfl
   ·refine ⟨_,rfl,ms++[(A[k],(QS m).filter λp=>bs.getD p false)],_,_,by rw [Rg];rfl,?_,λr hr=>?_⟩
    ·rw [Rg,hf,Wn,Q4 hk];rfl
    ·rw [Rn,Q7] at hr;rcases hr with h | h
     ·exact hp r h
     ·rw [h];exact K0 bs m hm
  ·rintro _ ⟨ms,x,y,rfl,hf,hp⟩;refine bF rfl rfl (iJ (oU (n:=(B.map D.str).length) rfl (by rw [QN];omega)) ?_);refine nv (n:=(B.map D.str).length) (λk env=>∃(rs:List (Str×List (Nat×Nat))) (x y:Option S),env=[some (.d (.tup [.lst (A.map .str),.lst (B.map .str)])),some (.d (.int m)),some (.bor (cs.map .int)),some (.own (ms.map iI)),x,y,some (.own (rs.map jX))]/\rs.map Sf=B.take k/\∀r∈rs,rP m r.2) ⟨[],_,_,rfl,rfl,λ_ h=>by cases h⟩ ?_ ?_
   ·rintro k hk _ ⟨rs,x,y,rfl,hf,hp⟩;rw [QN] at hk;refine ⟨_,rfl,?_⟩;obtain ⟨c,_,hcc⟩:=lR (xs:=cs) (h:=D.int) (.l .bor (cs.map .int)) rfl (3 + k) (by omega) (by omega);obtain ⟨bs,hb,Pg⟩:=BW c (m * m) (by omega);have hlen:rs.length<=3:=by have:=congrArg Vo hf;rw [QN,Ud] at this;omega
    refine bF (c2 (two rfl rfl hcc) (two rfl rfl tm) hb) rfl ?_;refine sQ rfl (br (aG (two rfl rfl (show a_ (.d (.lst (B.map D.str))) _=.ok (.d (.str B[k])) from ?_)) rfl (aG (n1 (i_ (xs:=QS (m * m)) (h:=dN) (λp=>bs.getD p false) (λp=>dP (p / m,p % m)) (fS (b9 (two rfl rfl tm)) (by omega)) (by simp;omega) ?_) rfl) rfl bq)) (by show 2<=1000;decide)) rfl (by rw [QN];omega) ?_
    ·show a_ (.d (.lst (B.map D.str))) (.d (.int k))=_;unfold a_;have:(B.map D.str)[k]?=some (.str B[k]):=by rw [Rc,Q4 hk];rfl
     simp only [gz,aK,jD this]
    ·intro p hp';have hp':p < m * m:=by simpa using hp'
     have hb:=zU bs (m * m) p Pg hp';refine ⟨?_,λ_=>⟨_,br (aG (two rfl rfl (pR p m (by omega) (by omega))) rfl (aG (two rfl rfl (gx p m (by omega))) rfl bq)) (by show 2<=1000;decide),?_⟩⟩
     ·show (g2 a_ (af 1) (af 0) [some (.d (dN p)),some (.own (bs.map D.bl)),some (.d (.int m))] >>= zc)=_;rw [two (x:=.l .own (bs.map D.bl)) (y:=.d (dN p)) rfl rfl hb];rfl
     ·simp [toD,dP]
    ·refine ⟨_,rfl,rs++[(B[k],((QS (m * m)).filter λp=>bs.getD p false).map λp=>(p / m,p % m))],_,_,by rw [Rg,Yj,jX,Rt];rfl,?_,λr hr=>?_⟩
     ·rw [Rg,hf,Wn,Q4 hk];rfl
     ·rw [Rn,Q7] at hr;rcases hr with h | h
      ·exact hp r h
      ·rw [h];exact KR bs m h1 hm
   ·rintro _ ⟨rs,x,y,rfl,hf2,hp2⟩;rw [QN] at hf hf2;refine bK (br (aG rfl rfl (aG rfl rfl (aG rfl rfl bq))) (by show 3<=1000;decide)) rfl ⟨_,rfl,ms,rs,rfl,by rw [hf,VP],by rw [hf2,VP],hp,hp2⟩
 obtain ⟨_,h,ms,rs,rfl,hk⟩:=key;exact ⟨ms,rs,h,hk⟩
theorem gf (ns:List Int) (i:Int) (k:Nat) (h:i=k):b_ [.bor (ns.map D.int),.d (.int i)]=.ok (.d (.int (cV ns k))):=by rw [h];exact BX ns k
structure lC (w:Wd):Prop where
 lo:1<=w.m
 hi:w.m<=8
 ml:w.ms.length<=3
 al:w.ar.length<=3
theorem tR (xs ys:List D) (h:xs.length + ys.length<=1000):dB (.d (.tup xs)) (.d (.tup ys))=.ok (.d (.tup (xs++ys))):=by show (if xs.length + ys.length<=sizeLine then M.ok (R.d (.tup (xs++ys))) else M.bad)=_;rw [if_pos (gR h)]
theorem M6 (l:Nat) (xs:List Nat):lI false (.d (dN l)) (.d (.tup (xs.map dN)))=.ok (.d (.bl (inD (dN l) (xs.map dN)))):=Bc false _ _ (JB xs) (Rm _)
theorem JN (l:Nat×Nat) (xs:List (Nat×Nat)):lI false (.d (dP l)) (.d (.tup (xs.map dP)))=.ok (.d (.bl (inD (dP l) (xs.map dP)))):=Bc false _ _ (CG xs) (by show (1:Nat)<=60;decide)
theorem t2:(2:Nat)<=1000:=by decide
end K51
namespace K51
open PySem DL K01 WP
open PySem.W (kas_sort)
theorem o6 (ds:List D):(bG ds).length=ds.length:=by
 unfold bG;by_cases h:ds.length < 2
 ·rw [if_pos h]
 ·rw [if_neg h,QN];have:=(iz (n:=ds.length) (by omega)).run (ltB ds);have:=this.size_eq;simpa using this
theorem kK {ds:List D}{x:D}(hx:x∈bG ds):x∈ds:=by
 unfold bG at hx;by_cases h:ds.length < 2
 ·rwa [if_pos h] at hx
 ·rw [if_neg h] at hx;have hp:=(iz (n:=ds.length) (by omega)).run (ltB ds);obtain ⟨i,hi,rfl⟩:=QO.mp hx;have hi:i∈aV (ltB ds) (UB ds.length):=by simpa using hi
  have:=(Wk hp).mp hi;exact gp (by simpa using this)
end K51
namespace K51
open PySem DL K01 WP
end K51
namespace DL
open PySem PySem.Spec PyProof.Rows L2
open PySem.W (KasT kas_sort kas_asc kas_desc kas_rev kas_tail3 kas_descPart kas_count kas_place kas_bin)
theorem run_bind {α β:Type}(q:Nat->Nat->Bool) (f:α->KasT β):∀t:KasT α,aV q (t.bind f)=aV q (f (aV q t))
 | .ret _=>rfl
 | .ask i j k=>run_bind q f (k (q i j))
theorem FD {n:Nat}{α:Type}{P:α->Prop}{t:KasT α}{q q':Nat->Nat->Bool}(h:eU n P t) (e:∀i j,i < n->j < n->q i j=q' i j):aV q t=aV q' t:=by
 induction h with
 | ret _=>rfl
 | @ask i j k h1 h2 _ ih=>
  show aV q (k (q i j))=aV q' (k (q' i j));rw [e _ _ h1 h2];exact ih _
structure Ord (q:Nat->Nat->Bool):Prop where
 asy:∀a b,q a b=true->q b a=false
 tra:∀a b c,q b a=false->q c b=false->q c a=false
section
variable {q:Nat->Nat->Bool}{n:Nat}
abbrev bw (p:Array Nat) (k:Nat):Nat:=p.getD k 0
def Up (q:Nat->Nat->Bool) (p:Array Nat) (k:Nat):Prop:=∀i j,i<=j->j < k->q (bw p j) (bw p i)=false
def Down (q:Nat->Nat->Bool) (p:Array Nat) (k:Nat):Prop:=∀i j,i<=j->j < k->q (bw p i) (bw p j)=false
theorem Ord.irr (O:Ord q) (a:Nat):q a a=false:=by
 cases h:q a a with
 | false=>rfl
 | true=>rw [<-h];exact (O.asy a a h)
theorem getD_eq (h:p[i]?=p'[j]?):bw p i=bw p' j:=by show p.getD i 0=p'.getD j 0;rw [Wa,Wa,h]
theorem iy {p:Array Nat}(hj:j<=p.size) (k:Nat):bw (VN p i j) k=if i<=k/\k < j then bw p (i + j - 1 - k) else bw p k:=by
 have e:=getElem?_mirror_all (xs:=p) (i:=i) hj k;by_cases c:i<=k/\k < j
 ·rw [if_pos c] at e ⊢;exact getD_eq e
 ·rw [if_neg c] at e ⊢;exact getD_eq e
theorem Ca {p:Array Nat}(hs:src < p.size) (hd:d<=src) (k:Nat):bw (bubble p src d) k=if k=src - d then bw p src else if src - d < k/\k<=src then bw p (k - 1) else bw p k:=by
 have e:=getElem?_bubble hs d hd k;by_cases c:k=src - d
 ·rw [if_pos c] at e ⊢;exact getD_eq e
 ·rw [if_neg c] at e ⊢;by_cases c':src - d < k/\k<=src
  ·rw [if_pos c'] at e ⊢;exact getD_eq e
  ·rw [if_neg c'] at e ⊢;exact getD_eq e
theorem gV (p:Array Nat) (i j:Nat):(VN p i j).size=p.size:=mirror_size _ _ _ _
theorem Up.one (O:Ord q) (p:Array Nat):Up q p 1:=λi j h1 h2=>by
 have:i=j:=by omega
 rw [this];exact O.irr _
theorem Up.more (O:Ord q) (h:Up q p k) (h1:1<=k) (e:q (bw p k) (bw p (k - 1))=false):Up q p (k + 1):=λi j hi hj=>by
 by_cases c:j < k
 ·exact h i j hi c
 ·have:j=k:=by omega
  subst this;by_cases c':i=j
  ·rw [c'];exact O.irr _
  ·exact O.tra _ _ _ (h i (j - 1) (by omega) (by omega)) e
theorem Down.more (O:Ord q) (h:Down q p k) (h1:1<=k) (e:q (bw p (k - 1)) (bw p k)=false):Down q p (k + 1):=λi j hi hj=>by
 by_cases c:j < k
 ·exact h i j hi c
 ·have:j=k:=by omega
  subst this;by_cases c':i=j
  ·rw [c'];exact O.irr _
  ·exact O.tra _ _ _ e (h i (j - 1) (by omega) (by omega))
theorem xH (O:Ord q) (p:Array Nat):∀(f m:Nat),1<=m->Up q p m->m<=aV q (VO p f m)/\aV q (VO p f m)<=m + f/\Up q p (aV q (VO p f m))/\(aV q (VO p f m)=m + f\/q (bw p (aV q (VO p f m))) (bw p (aV q (VO p f m) - 1))=true)
 | 0,m,h1,h=>⟨QW _,QW _,h,.inl rfl⟩
 | f + 1,m,h1,h=>by
  have e:aV q (VO p (f + 1) m)=if q (bw p m) (bw p (m - 1))=true then m else aV q (VO p f (m + 1)):=by
   show aV q (if q (bw p m) (bw p (m - 1))=true then KasT.ret m else VO p f (m + 1))=_;by_cases c:q (bw p m) (bw p (m - 1))=true
   ·rw [if_pos c,if_pos c];rfl
   ·rw [if_neg c,if_neg c]
  rw [e];by_cases c:q (bw p m) (bw p (m - 1))=true
  ·rw [if_pos c];exact ⟨QW _,by omega,h,.inr c⟩
  ·rw [if_neg c];obtain ⟨a1,a2,a3,a4⟩:=xH O p f (m + 1) (by omega) (h.more O h1 (by simpa using c));refine ⟨by omega,by omega,a3,?_⟩;rcases a4 with a4 | a4
   ·exact .inl (by omega)
   ·exact .inr a4
def Alike (q:Nat->Nat->Bool) (p:Array Nat) (i j:Nat):Prop:=∀a b,i<=a->a < j->i<=b->b < j->q (bw p a) (bw p b)=false
theorem vL {p:Array Nat}{i j k:Nat}(hj:j<=p.size) (ha:Alike q p i j) (hd:Down q p j) (O:Ord q):Down q (VN p i j) j:=λa b h1 h2=>by
 rw [iy hj,iy hj];by_cases c:i<=a/\a < j
 ·rw [if_pos c];by_cases c':i<=b/\b < j
  ·rw [if_pos c'];exact ha _ _ (by omega) (by omega) (by omega) (by omega)
  ·omega
 ·rw [if_neg c];by_cases c':i<=b/\b < j
  ·rw [if_pos c'];exact hd _ _ (by omega) (by omega)
  ·rw [if_neg c'];exact hd _ _ h1 h2
theorem Ld {p:Array Nat}(hj:j<=p.size) (hd:Down q p j):Up q (VN p 0 j) j:=λa b h1 h2=>by rw [iy hj,iy hj,if_pos (by omega),if_pos (by omega)];exact hd _ _ (by omega) (by omega)
theorem tu {p:Array Nat}(hj:j<=p.size) (h:j<=k):bw (VN p i j) k=bw p k:=by rw [iy hj,if_neg (by omega)]
theorem kB (O:Ord q):∀(f:Nat) (p:Array Nat) (m e:Nat),1<=m->e + 1<=m->m + f<=p.size->Down q p m->Alike q p (m - (e + 1)) m->
  (aV q (Te f p m e)).1.size=p.size/\m<=(aV q (Te f p m e)).2.1/\(aV q (Te f p m e)).2.1<=m + f/\(aV q (Te f p m e)).2.2 + 1<=(aV q (Te f p m e)).2.1/\
  Down q (aV q (Te f p m e)).1 (aV q (Te f p m e)).2.1/\Alike q (aV q (Te f p m e)).1 ((aV q (Te f p m e)).2.1 - ((aV q (Te f p m e)).2.2 + 1)) (aV q (Te f p m e)).2.1
 | 0,p,m,e,h1,h2,h3,h4,h5=>⟨rfl,QW _,QW _,h2,h4,h5⟩
 | f + 1,p,m,e,h1,h2,h3,h4,h5=>by
  have solo:∀(p:Array Nat) (m:Nat),Alike q p (m + 1 - (0 + 1)) (m + 1):=λp m a b c1 c2 c3 c4=>by
   have:a=b:=by omega
   rw [this];exact O.irr _
  cases c:q (bw p m) (bw p (m - 1)) with
  | true=>
   have c2:=O.asy _ _ c;by_cases he:e > 0
   ·have er:aV q (Te (f + 1) p m e)=aV q (Te f (VN p (m - (e + 1)) m) (m + 1) 0):=by show aV q (if q (bw p m) (bw p (m - 1))=true then _ else _)=_;rw [if_pos c,if_pos he]
    rw [er];have hr:=vL (k:=0) (i:=m - (e + 1)) (by omega:m<=p.size) h5 h4 O;have hl:bw (VN p (m - (e + 1)) m) (m - 1)=bw p (m - (e + 1)):=by rw [iy (by omega),if_pos (by omega)];congr 1;omega
    obtain ⟨a0,a1,a2,a3,a4,a5⟩:=kB O f (VN p (m - (e + 1)) m) (m + 1) 0 (by omega) (by omega) (by rw [gV];omega)
     (hr.more O h1 (by
      rw [hl,tu (by omega) (QW _)];exact O.tra _ _ _ c2 (h5 _ _ (by omega) (by omega) (by omega) (by omega)))) (solo _ _)
    rw [gV] at a0;exact ⟨a0,by omega,by omega,a3,a4,a5⟩
   ·have er:aV q (Te (f + 1) p m e)=aV q (Te f p (m + 1) 0):=by show aV q (if q (bw p m) (bw p (m - 1))=true then _ else _)=_;rw [if_pos c,if_neg he]
    rw [er];obtain ⟨a0,a1,a2,a3,a4,a5⟩:=kB O f p (m + 1) 0 (by omega) (by omega) (by omega) (h4.more O h1 c2) (solo _ _);exact ⟨a0,by omega,by omega,a3,a4,a5⟩
  | false=>
   cases c2:q (bw p (m - 1)) (bw p m) with
   | true=>
    have er:aV q (Te (f + 1) p m e)=(p,m,e):=by show aV q (if q (bw p m) (bw p (m - 1))=true then _ else _)=_;rw [if_neg (by rw [c];decide)];show aV q (if q (bw p (m - 1)) (bw p m)=true then _ else _)=_;rw [if_pos c2];rfl
    rw [er];exact ⟨rfl,QW _,UR _ _,h2,h4,h5⟩
   | false=>
    have er:aV q (Te (f + 1) p m e)=aV q (Te f p (m + 1) (e + 1)):=by show aV q (if q (bw p m) (bw p (m - 1))=true then _ else _)=_;rw [if_neg (by rw [c];decide)];show aV q (if q (bw p (m - 1)) (bw p m)=true then _ else _)=_;rw [if_neg (by rw [c2];decide)]
    rw [er];have hal:Alike q p (m + 1 - (e + 1 + 1)) (m + 1):=λa b d1 d2 d3 d4=>by
     by_cases ea:a=m
     ·subst ea;by_cases eb:b=a
      ·rw [eb];exact O.irr _
      ·exact O.tra _ _ _ (h5 (a - 1) b (by omega) (by omega) (by omega) (by omega)) c
     ·by_cases eb:b=m
      ·subst eb;exact O.tra _ _ _ c2 (h5 a (b - 1) (by omega) (by omega) (by omega) (by omega))
      ·exact h5 a b (by omega) (by omega) (by omega) (by omega)
    obtain ⟨a0,a1,a2,a3,a4,a5⟩:=kB O f p (m + 1) (e + 1) (by omega) (by omega) (by omega) (h4.more O h1 c2) hal;exact ⟨a0,by omega,by omega,a3,a4,a5⟩
def Got (q:Nat->Nat->Bool) (N s:Nat) (r:Nat×Array Nat):Prop:=r.2.size=s/\1<=r.1/\r.1<=N/\Up q r.2 r.1
theorem AF (O:Ord q){p:Array Nat}(h1:1<=m) (hm:m<=N) (hN:N<=p.size) (hd:Down q p m):Got q N p.size (aV q (aaw m N p)):=by unfold aaw;rw [run_bind];obtain ⟨a1,a2,a3,_⟩:=xH O (VN p 0 m) (N - m) m h1 (Ld (by omega) hd);exact ⟨gV _ _ _,by show 1<=aV q (VO _ _ _);omega,by show aV q (VO _ _ _)<=N;omega,a3⟩
theorem An (O:Ord q){p:Array Nat}(h1:1<=m) (hm:m + 1<=N) (hN:N<=p.size) (hd:Down q p (m + 1)):Got q N p.size (aV q (YM m N p)):=by
 unfold YM;rw [run_bind];obtain ⟨a0,a1,a2,a3,a4,a5⟩:=kB O (N - (m + 1)) p (m + 1) 0 (by omega) (by omega) (by omega) hd (λa b c1 c2 c3 c4=>by
  have:a=b:=by omega
  rw [this];exact O.irr _)
 generalize aV q (Te (N - (m + 1)) p (m + 1) 0)=r at *;obtain ⟨p',m',e'⟩:=r;simp only at *;by_cases c:e' > 0
 ·rw [if_pos c];have:=AF (N:=N) O (p:=VN p' (m' - (e' + 1)) m') (m:=m') (by omega) (by omega) (by rw [gV];omega) (vL (k:=0) (by omega) a5 a4 O);rw [gV,a0] at this;exact this
 ·rw [if_neg c];have:=AF (N:=N) O (p:=p') (m:=m') (by omega) (by omega) (by omega) a4;rw [a0] at this;exact this
theorem En (O:Ord q){p:Array Nat}(h1:1<=N) (hN:N<=p.size):Got q N p.size (aV q (Zc N p)):=by
 unfold Zc;rw [run_bind];obtain ⟨a1,a2,a3,a4⟩:=xH O p (N - 1) 1 (QW _) (Up.one O p);generalize aV q (VO p (N - 1) 1)=m at *;by_cases c:(m == N)=true
 ·rw [if_pos c];exact ⟨rfl,a1,by show m<=N;omega,a3⟩
 ·rw [if_neg c];have hm:m + 1<=N:=by
   have:m≠N:=by simpa using c
   omega
  have a4:q (bw p m) (bw p (m - 1))=true:=by
   rcases a4 with h | h
   ·omega
   ·exact h
  have a5:=O.asy _ _ a4;by_cases c':m > 1
  ·rw [if_pos c'];show Got q N p.size (aV q (if q (bw p 0) (bw p (m - 1))=true then _ else _));by_cases d:q (bw p 0) (bw p (m - 1))=true
   ·rw [if_pos d];exact ⟨rfl,a1,by show m<=N;omega,a3⟩
   ·rw [if_neg d];have d:q (bw p 0) (bw p (m - 1))=false:=by simpa using d
    have all:∀a b,a < m->b < m->q (bw p a) (bw p b)=false:=λa b ha hb=>O.tra _ _ _ (O.tra _ _ _ (a3 b (m - 1) (by omega) (by omega)) d) (a3 0 a (by omega) (by omega));have hd:Down q (VN p 0 m) m:=λa b h1 h2=>by rw [iy (by omega),iy (by omega),if_pos (by omega),if_pos (by omega)];exact all _ _ (by omega) (by omega)
    have:=An O (p:=VN p 0 m) (m:=m) (N:=N) (by omega) hm (by rw [gV];exact hN) (hd.more O (by omega) (by
     rw [tu (by omega) (QW _),iy (by omega),if_pos (by omega),show 0 + m - 1 - (m - 1)=0 by omega];exact O.tra _ _ _ a5 d))
    rw [gV] at this;exact this
  ·rw [if_neg c'];have:m=1:=by omega
   subst this;refine An O (QW _) hm hN ?_;exact Down.more O (λi j h1 h2=>by
    have:i=j:=by omega
    rw [this];exact O.irr _) (QW _) a5
theorem qW (O:Ord q) (hs:Up q p k):∀(f l r:Nat),l<=r->r<=k->r - l<=f->(∀i,i < l->q (bw p k) (bw p i)=false)->(∀i,r<=i->i < k->q (bw p k) (bw p i)=true)->
  aV q (Tr p k f l r)<=k/\(∀i,i < aV q (Tr p k f l r)->q (bw p k) (bw p i)=false)/\∀i,aV q (Tr p k f l r)<=i->i < k->q (bw p k) (bw p i)=true
 | 0,l,r,h1,h2,h3,h4,h5=>⟨by show l<=k;omega,h4,λi hi=>h5 i (by show r<=i;have:l<=i:=hi;omega)⟩
 | f + 1,l,r,h1,h2,h3,h4,h5=>by
  by_cases c:l ≥ r
  ·have e:aV q (Tr p k (f + 1) l r)=l:=by unfold Tr;rw [if_pos c];rfl
   rw [e];exact ⟨by omega,h4,λi hi=>h5 i (by omega)⟩
  ·cases d:q (bw p k) (bw p ((l + r) / 2)) with
   | true=>
    have e:aV q (Tr p k (f + 1) l r)=aV q (Tr p k f l ((l + r) / 2)):=by rw [Tr,if_neg c];show aV q (if q (bw p k) (bw p ((l + r) / 2))=true then _ else _)=_;rw [if_pos d]
    rw [e];refine qW O hs f l ((l + r) / 2) (by omega) (by omega) (by omega) h4 λi i1 i2=>?_;by_cases ci:r<=i
    ·exact h5 i ci i2
    ·cases dd:q (bw p k) (bw p i) with
     | true=>rfl
     | false=>
      have:=O.tra _ _ _ (hs ((l + r) / 2) i i1 i2) dd;rw [d] at this;cases this
   | false=>
    have e:aV q (Tr p k (f + 1) l r)=aV q (Tr p k f ((l + r) / 2 + 1) r):=by rw [Tr,if_neg c];show aV q (if q (bw p k) (bw p ((l + r) / 2))=true then _ else _)=_;rw [if_neg (by rw [d];decide)]
    rw [e];refine qW O hs f ((l + r) / 2 + 1) r (by omega) (by omega) (by omega) (λi hi=>?_) h5;exact O.tra _ _ _ (hs i ((l + r) / 2) (by omega) (by omega)) d
theorem Jq (O:Ord q){p:Array Nat}(hk:k < p.size) (hl:l<=k) (hs:Up q p k) (h1:∀i,i < l->q (bw p k) (bw p i)=false) (h2:∀i,l<=i->i < k->q (bw p k) (bw p i)=true):Up q (bubble p k (k - l)) (k + 1):=λi j hi hj=>by
 rw [Ca hk (by omega),Ca hk (by omega),show k - (k - l)=l by omega];by_cases a:i=l
 ·rw [if_pos a];by_cases b:j=l
  ·rw [if_pos b];exact O.irr _
  ·rw [if_neg b,if_pos (by omega)];exact O.asy _ _ (h2 (j - 1) (by omega) (by omega))
 ·rw [if_neg a];by_cases b:j=l
  ·rw [if_pos b,if_neg (by omega)];exact h1 i (by omega)
  ·rw [if_neg b];by_cases a':l < i/\i<=k
   ·rw [if_pos a',if_pos (by omega)];exact hs _ _ (by omega) (by omega)
   ·rw [if_neg a'];by_cases b':l < j/\j<=k
    ·rw [if_pos b'];exact hs _ _ (by omega) (by omega)
    ·rw [if_neg b'];exact hs _ _ hi (by omega)
theorem Cf (O:Ord q):∀(f:Nat) (p:Array Nat) (k:Nat),k + f<=p.size->Up q p k->Up q (aV q (aaf f p k)) (k + f)
 | 0,p,k,_,h=>h
 | f + 1,p,k,hs,h=>by
  have e:aV q (aaf (f + 1) p k)=aV q (aaf f (bubble p k (k - aV q (Tr p k k 0 k))) (k + 1)):=by rw [aaf,run_bind]
  rw [e];obtain ⟨a1,a2,a3⟩:=qW O h k 0 k (Rm _) (QW _) (by omega) (λi hi=>by omega) (λi h1 h2=>by omega);have:=Cf O f (bubble p k (k - aV q (Tr p k k 0 k))) (k + 1) (by rw [bubble_size];omega) (Jq O (by omega) a1 h a2 a3);rw [show k + (f + 1)=k + 1 + f by omega];exact this
theorem IG (O:Ord q) (n:Nat) (hn:1<=n):Up q (aV q (UB n)) n:=by
 unfold UB;rw [run_bind];obtain ⟨a0,a1,a2,a3⟩:=En O (p:=(QS n).toArray) (N:=n) hn (by simp);generalize aV q (Zc n (QS n).toArray)=r at *;have a0:r.2.size=n:=by simpa using a0
 by_cases c:r.1 < n
 ·rw [if_pos c];have:=Cf O (n - max r.1 1) r.2 (max r.1 1) (by omega) (by rw [show max r.1 1=r.1 by omega];exact a3)
  rwa [show max r.1 1 + (n - max r.1 1)=n by omega] at this
 ·rw [if_neg c];have:r.1=n:=by omega
  rw [this] at a3;exact a3
end
end DL
namespace DL
open PySem PySem.Spec PyProof.Rows L2
open PySem.W (kas_sort)
def dO (x y:D):Bool:=(dR x y).getD false
structure fk (P:D->Prop):Prop where
 eq:∀x y,P x->P y->(bg x y=true↔x=y)
 lt:∀x y,P x->P y->(dR x y).isSome=true
 asy:∀x y,P x->P y->dO x y=true->dO y x=false
 tri:∀x y,P x->P y->dO x y=false->dO y x=false->x=y
 tra:∀x y z,P x->P y->P z->dO x y=true->dO y z=true->dO x z=true
def gH (xs ys:List D):Bool:=dO (.tup xs) (.tup ys)
theorem iY (x y:D) (xs ys:List D):gH (x::xs) (y::ys)=if bg x y=true then gH xs ys else dO x y:=by
 show (if bg x y=true then jq xs ys else dR x y).getD false=_;by_cases h:bg x y=true
 ·rw [if_pos h,if_pos h];rfl
 ·rw [if_neg h,if_neg h];rfl
variable {P R:D->Prop}
theorem jF (xs ys:List D):bg (.tup xs) (.tup ys)=bW xs ys:=by rw [bg]
theorem fP (x y:D) (xs ys:List D):bW (x::xs) (y::ys)=(bg x y && bW xs ys):=by rw [bW]
structure jJ (Q:List D->Prop):Prop where
 eq:∀x y,Q x->Q y->(bW x y=true↔x=y)
 lt:∀x y,Q x->Q y->(jq x y).isSome=true
 asy:∀x y,Q x->Q y->gH x y=true->gH y x=false
 tri:∀x y,Q x->Q y->gH x y=false->gH y x=false->x=y
 tra:∀x y z,Q x->Q y->Q z->gH x y=true->gH y z=true->gH x z=true
theorem jJ.tot {Q:List D->Prop}(h:jJ Q):fk λd=>∃xs,d=.tup xs/\Q xs where
 eq:=by rintro _ _ ⟨x,rfl,hx⟩ ⟨y,rfl,hy⟩;rw [jF,h.eq x y hx hy];exact ⟨λe=>e▸rfl,λe=>by cases e;rfl⟩
 lt:=by rintro _ _ ⟨x,rfl,hx⟩ ⟨y,rfl,hy⟩;exact h.lt x y hx hy
 asy:=by rintro _ _ ⟨x,rfl,hx⟩ ⟨y,rfl,hy⟩;exact h.asy x y hx hy
 tri:=by rintro _ _ ⟨x,rfl,hx⟩ ⟨y,rfl,hy⟩ h1 h2;rw [h.tri x y hx hy h1 h2]
 tra:=by rintro _ _ _ ⟨x,rfl,hx⟩ ⟨y,rfl,hy⟩ ⟨z,rfl,hz⟩;exact h.tra x y z hx hy hz
theorem Ah (p:fk P) (px:P x) (py:P y) (pz:P z) (h:gH r s=true->gH s t=true->gH r t=true) (h1:gH (x::r) (y::s)=true) (h2:gH (y::s) (z::t)=true):gH (x::r) (z::t)=true:=by
 rw [iY] at h1 h2 ⊢;by_cases e:x=y
 ·subst e;rw [if_pos ((p.eq x x px px).mpr rfl)] at h1;by_cases f:x=z
  ·subst f;rw [if_pos ((p.eq x x px px).mpr rfl)] at h2 ⊢;exact h h1 h2
  ·rw [if_neg λq=>f ((p.eq x z px pz).mp q)] at h2 ⊢;exact h2
 ·rw [if_neg λq=>e ((p.eq x y px py).mp q)] at h1;by_cases f:y=z
  ·subst f;rw [if_neg λq=>e ((p.eq x y px py).mp q)];exact h1
  ·rw [if_neg λq=>f ((p.eq y z py pz).mp q)] at h2;have h3:=p.tra x y z px py pz h1 h2;by_cases g:x=z
   ·subst g;have:=p.asy x x px px h3;rw [h3] at this;cases this
   ·rw [if_neg λq=>g ((p.eq x z px pz).mp q)];exact h3
theorem jJ.cons {Q:List D->Prop}(p:fk P) (h:jJ Q):jJ λxs=>∃x r,xs=x::r/\P x/\Q r where
 eq:=by rintro _ _ ⟨x,r,rfl,px,qr⟩ ⟨y,s,rfl,py,qs⟩;rw [fP,QX,p.eq x y px py,h.eq r s qr qs];exact ⟨λe=>by rw [e.1,e.2],λe=>by cases e;exact ⟨rfl,rfl⟩⟩
 lt:=by
  rintro _ _ ⟨x,r,rfl,px,qr⟩ ⟨y,s,rfl,py,qs⟩;show (if bg x y=true then jq r s else dR x y).isSome=true;split
  ·exact h.lt r s qr qs
  ·exact p.lt x y px py
 asy:=by
  rintro _ _ ⟨x,r,rfl,px,qr⟩ ⟨y,s,rfl,py,qs⟩ hl;rw [iY] at hl ⊢;by_cases e:x=y
  ·subst e;rw [if_pos ((p.eq x x px px).mpr rfl)] at hl ⊢;exact h.asy r s qr qs hl
  ·rw [if_neg λz=>e ((p.eq x y px py).mp z)] at hl;rw [if_neg λz=>e ((p.eq y x py px).mp z).symm];exact p.asy x y px py hl
 tri:=by
  rintro _ _ ⟨x,r,rfl,px,qr⟩ ⟨y,s,rfl,py,qs⟩ h1 h2;rw [iY] at h1 h2;by_cases e:x=y
  ·subst e;rw [if_pos ((p.eq x x px px).mpr rfl)] at h1 h2;rw [h.tri r s qr qs h1 h2]
  ·rw [if_neg λz=>e ((p.eq x y px py).mp z)] at h1;rw [if_neg λz=>e ((p.eq y x py px).mp z).symm] at h2;exact absurd (p.tri x y px py h1 h2) e
 tra:=by rintro _ _ _ ⟨x,r,rfl,px,qr⟩ ⟨y,s,rfl,py,qs⟩ ⟨z,t,rfl,pz,qt⟩ h1 h2;exact Ah p px py pz (h.tra r s t qr qs qt) h1 h2
theorem jJ.nil:jJ λxs=>xs=[] where
 eq:=by rintro _ _ rfl rfl;simp [bW]
 lt:=by rintro _ _ rfl rfl;rfl
 asy:=by rintro _ _ rfl rfl h;cases h
 tri:=by rintro _ _ rfl rfl _ _;rfl
 tra:=by rintro _ _ _ rfl rfl rfl h;cases h
theorem fk.list (p:fk P):jJ λxs=>∀x∈xs,P x where
 eq:=by
  intro xs
  induction xs with
  | nil=>intro ys _ _;cases ys <;> simp [bW]
  | cons x xs ih=>
   intro ys hx hy;cases ys with
   | nil=>simp [bW]
   | cons y ys=>
    rw [fP,QX,p.eq x y (hx x QV) (hy y QV),ih ys (λz hz=>hx z (QT _ hz)) λz hz=>hy z (QT _ hz)];exact ⟨λe=>by rw [e.1,e.2],λe=>by cases e;exact ⟨rfl,rfl⟩⟩
 lt:=by
  intro xs
  induction xs with
  | nil=>intro ys _ _;rfl
  | cons x xs ih=>
   intro ys hx hy;cases ys with
   | nil=>rfl
   | cons y ys=>
    show (if bg x y=true then jq xs ys else dR x y).isSome=true;split
    ·exact ih ys (λz hz=>hx z (QT _ hz)) λz hz=>hy z (QT _ hz)
    ·exact p.lt x y (hx x QV) (hy y QV)
 asy:=by
  intro xs
  induction xs with
  | nil=>
   intro ys _ _ h;cases ys with
   | nil=>cases h
   | cons y ys=>rfl
  | cons x xs ih=>
   intro ys hx hy hl;cases ys with
   | nil=>cases hl
   | cons y ys=>
    have px:=hx x QV;have py:=hy y QV;rw [iY] at hl ⊢;by_cases e:x=y
    ·subst e;rw [if_pos ((p.eq x x px px).mpr rfl)] at hl ⊢;exact ih ys (λz hz=>hx z (QT _ hz)) (λz hz=>hy z (QT _ hz)) hl
    ·rw [if_neg λz=>e ((p.eq x y px py).mp z)] at hl;rw [if_neg λz=>e ((p.eq y x py px).mp z).symm];exact p.asy x y px py hl
 tri:=by
  intro xs
  induction xs with
  | nil=>
   intro ys _ _ h1 h2;cases ys with
   | nil=>rfl
   | cons y ys=>cases h1
  | cons x xs ih=>
   intro ys hx hy h1 h2;cases ys with
   | nil=>cases h2
   | cons y ys=>
    have px:=hx x QV;have py:=hy y QV;rw [iY] at h1 h2;by_cases e:x=y
    ·subst e;rw [if_pos ((p.eq x x px px).mpr rfl)] at h1 h2;rw [ih ys (λz hz=>hx z (QT _ hz)) (λz hz=>hy z (QT _ hz)) h1 h2]
    ·rw [if_neg λz=>e ((p.eq x y px py).mp z)] at h1;rw [if_neg λz=>e ((p.eq y x py px).mp z).symm] at h2;exact absurd (p.tri x y px py h1 h2) e
 tra:=by
  intro xs
  induction xs with
  | nil=>
   intro ys zs _ _ _ h1 h2;cases ys with
   | nil=>cases h1
   | cons y ys=>
    cases zs with
    | nil=>cases h2
    | cons z zs=>rfl
  | cons x xs ih=>
   intro ys zs hx hy hz h1 h2;cases ys with
   | nil=>cases h1
   | cons y ys=>
    cases zs with
    | nil=>cases h2
    | cons z zs=>
     have px:=hx x QV;have py:=hy y QV;have pz:=hz z QV;exact Ah p px py pz (ih ys zs (λz hz=>hx z (QT _ hz)) (λz hz=>hy z (QT _ hz)) λw hw=>hz w (QT _ hw)) h1 h2
theorem Mw:fk λd=>∃k,d=.bl k where
 eq:=by rintro _ _ ⟨x,rfl⟩ ⟨y,rfl⟩;simp [bg]
 lt:=by rintro _ _ ⟨x,rfl⟩ ⟨y,rfl⟩;rfl
 asy:=by rintro _ _ ⟨x,rfl⟩ ⟨y,rfl⟩;revert x y;decide
 tri:=by
  rintro _ _ ⟨x,rfl⟩ ⟨y,rfl⟩ h1 h2;revert h1 h2;cases x <;> cases y <;> intro h1 h2
  ·rfl
  ·exact absurd h1 (by decide)
  ·exact absurd h2 (by decide)
  ·rfl
 tra:=by rintro _ _ _ ⟨x,rfl⟩ ⟨y,rfl⟩ ⟨z,rfl⟩;revert x y z;decide
theorem lU (x y:Int):dO (.int x) (.int y)=decide (x < y):=rfl
theorem Mx:fk λd=>∃k,d=.int k where
 eq:=by rintro _ _ ⟨x,rfl⟩ ⟨y,rfl⟩;simp [bg]
 lt:=by rintro _ _ ⟨x,rfl⟩ ⟨y,rfl⟩;rfl
 asy:=by rintro _ _ ⟨x,rfl⟩ ⟨y,rfl⟩ h;rw [lU,decide_eq_true_eq] at h;rw [lU,decide_eq_false_iff_not];omega
 tri:=by rintro _ _ ⟨x,rfl⟩ ⟨y,rfl⟩ h1 h2;rw [lU,decide_eq_false_iff_not] at h1 h2;rw [show x=y by omega]
 tra:=by rintro _ _ _ ⟨x,rfl⟩ ⟨y,rfl⟩ ⟨z,rfl⟩ h1 h2;rw [lU,decide_eq_true_eq] at h1 h2 ⊢;omega
theorem pI (x y:Str):dO (.str x) (.str y)=decide (x.cps.toList < y.cps.toList):=rfl
theorem IK {x y:Str}(h:x.cps.toList=y.cps.toList):x=y:=by obtain ⟨⟨cx⟩⟩:=x;obtain ⟨⟨cy⟩⟩:=y;simp only at h;rw [h]
theorem My:fk λd=>∃k,d=.str k where
 eq:=by rintro _ _ ⟨x,rfl⟩ ⟨y,rfl⟩;simp [bg]
 lt:=by rintro _ _ ⟨x,rfl⟩ ⟨y,rfl⟩;rfl
 asy:=by rintro _ _ ⟨x,rfl⟩ ⟨y,rfl⟩ h;rw [pI,decide_eq_true_eq] at h;rw [pI,decide_eq_false_iff_not];exact List.lt_asymm h
 tri:=by rintro _ _ ⟨x,rfl⟩ ⟨y,rfl⟩ h1 h2;rw [pI,decide_eq_false_iff_not] at h1 h2;rw [IK (YU h2 h1)]
 tra:=by rintro _ _ _ ⟨x,rfl⟩ ⟨y,rfl⟩ ⟨z,rfl⟩ h1 h2;rw [pI,decide_eq_true_eq] at h1 h2 ⊢;exact List.lt_trans h1 h2
inductive Fm where
 | b | i | s | hom (t:Fm) | tn | tc (x r:Fm)
noncomputable def iR:Fm->D->Prop
 | .b,d=>∃k,d=.bl k
 | .i,d=>∃k,d=.int k
 | .s,d=>∃k,d=.str k
 | .hom t,d=>∃xs,d=.tup xs/\∀x∈xs,iR t x
 | .tn,d=>∃xs,d=.tup xs/\xs=[]
 | .tc x r,d=>∃xs,d=.tup xs/\∃y ys,xs=y::ys/\iR x y/\iR r (.tup ys)
theorem fk.tail {Q:List D->Prop}(h:fk R) (k:∀xs,Q xs->R (.tup xs)):jJ Q where
 eq:=λx y hx hy=>by have:=h.eq _ _ (k x hx) (k y hy);rw [jF] at this;rw [this];exact ⟨λe=>by cases e;rfl,λe=>e▸rfl⟩
 lt:=λx y hx hy=>h.lt _ _ (k x hx) (k y hy)
 asy:=λx y hx hy=>h.asy _ _ (k x hx) (k y hy)
 tri:=λx y hx hy h1 h2=>by have:=h.tri _ _ (k x hx) (k y hy) h1 h2;cases this;rfl
 tra:=λx y z hx hy hz=>h.tra _ _ _ (k x hx) (k y hy) (k z hz)
theorem fD:∀t:Fm,fk (iR t)
 | .b=>Mw
 | .i=>Mx
 | .s=>My
 | .hom t=>(fD t).list.tot
 | .tn=>jJ.nil.tot
 | .tc x r=>(jJ.cons (fD x) (fk.tail (Q:=λys=>iR r (.tup ys)) (fD r) λ_ h=>h)).tot
theorem Mj (ds:List D):(bG ds).length=ds.length:=by
 unfold bG;by_cases h:ds.length < 2
 ·rw [if_pos h]
 ·rw [if_neg h,QN];have:=((iz (n:=ds.length) (by omega)).run (ltB ds)).size_eq;simpa using this
theorem HM (ds:List D):(QS ds.length).map (cU ds)=ds:=by refine US (by simp) λi h1 h2=>?_;rw [VQ,List.getElem_range];unfold cU;rw [RI,Q4 h2];rfl
theorem iK (ds:List D):(bG ds).Perm ds:=by
 unfold bG;by_cases h:ds.length < 2
 ·rw [if_pos h]
 ·rw [if_neg h];have hp:=(iz (n:=ds.length) (by omega)).run (ltB ds);have hq:(aV (ltB ds) (UB ds.length)).toList.Perm (QS ds.length):=by have:=Array.perm_iff_toList_perm.mp hp;simpa using this
  have:=hq.map (cU ds)
  rwa [HM] at this
theorem FG (p:fk P) (ds:List D) (h:∀x∈ds,P x):(bG ds).Pairwise λx y=>dO y x=false:=by
 unfold bG;by_cases h2:ds.length < 2
 ·rw [if_pos h2]
  match ds,h2 with
  | [],_=>exact .nil
  | [x],_=>exact Ua _ _
 ·rw [if_neg h2];have hn:0 < ds.length:=by omega
  have hb:=iz (n:=ds.length) hn;have at_P:∀i,i < ds.length->P (cU ds i):=λi hi=>h _ (gp hi)
  let q':Nat->Nat->Bool:=λi j=>if i < ds.length then (if j < ds.length then ltB ds i j else true) else false
  have hq:aV (ltB ds) (UB ds.length)=aV q' (UB ds.length):=FD hb λi j hi hj=>by simp [q',hi,hj]
  have O:Ord q':=by
   constructor
   ·intro a b hab;by_cases ha:a < ds.length <;> by_cases hb:b < ds.length <;> simp [q',ha,hb] at hab ⊢
    exact p.asy _ _ (at_P a ha) (at_P b hb) hab
   ·intro a b c hab hbc;by_cases ha:a < ds.length <;> by_cases hb:b < ds.length <;> by_cases hc:c < ds.length <;> simp [q',ha,hb,hc] at hab hbc ⊢
    have h1:dO (cU ds b) (cU ds a)=false:=hab;have h2:dO (cU ds c) (cU ds b)=false:=hbc;show dO (cU ds c) (cU ds a)=false;cases g:dO (cU ds c) (cU ds a) with
    | false=>rfl
    | true=>
     have pa:=at_P a ha;have pb:=at_P b hb;have pc:=at_P c hc;cases g2:dO (cU ds a) (cU ds b) with
     | true=>
      have:=p.tra _ _ _ pc pa pb g g2;rw [this] at h2;cases h2
     | false=>
      rw [<-p.tri _ _ pb pa h1 g2] at g;rw [g] at h2;cases h2
  have up:=IG O ds.length (by omega);have hs:=(hb.run (ltB ds));rw [hq] at hs ⊢;have hsz:(aV q' (UB ds.length)).size=ds.length:=by simpa using hs.size_eq
  generalize aV q' (UB ds.length)=A at *;rw [R5,Si];intro i j hi hj hij;rw [Q3] at hi hj;have:=up i j (by omega) (by omega);have e:∀k (hk:k < A.size),bw A k=A.toList[k]'(by rw [Q3];exact hk):=λk hk=>by show A.getD k 0=_;simp [SO,hk]
  rw [e i hi,e j hj] at this;have l:∀k (hk:k < A.size),A.toList[k]'(by rw [Q3];exact hk) < ds.length:=λk hk=>by rw [<-e k hk];exact hs.lt hn k
  have li:=l i hi;have lj:=l j hj;simp only [q',li,lj,if_true] at this;exact this
end DL
namespace K52
open PySem DL
end K52
namespace K52
open PySem DL K01 WP K51
variable {P:D->Prop}
end K52
namespace DL
open PySem PySem.Spec PyProof.Rows L2
section
variable {X:Cx}{c:C}{e a b:RA}{es elts:List RA}{pos tp:Pos}{kk:Nat}
noncomputable def Jp:R->M (List D)
 | .d (.tup xs)=>.ok xs
 | .d (.lst xs)=>.ok xs
 | _=>.bad
noncomputable def N1 (gs:G (List R)):G (List D):=λenv=>gs env >>= λrs=>match rs with
 | [x,y]=>Jp x >>= λxs=>Jp y >>= λys=>.ok (List.zipWith (λa b=>.tup [a,b]) xs ys)
 | _=>.bad
theorem Ej:bN X (.type "range") (λxs H Q=>∃j:Int,xs=[.int j]/\∀p,H p=none->Q (.ref p) (upd H p (.rng 0 j))):=by intro Qx s σ H xs us Q I r h;obtain ⟨j,rfl,q⟩:=h;obtain ⟨u,rfl,t,rfl⟩:=vals1 r;refine call_range_1 ⟨.ref s.heap.objs.size,_,I.laid (λb o e=>QU _ e) (QW _) (show cg X.prog X.w _ _ _ (.rng 0 j) from ⟨_,_,_,Q2 _ rfl⟩),rfl,q _ (I.hok.fresh (QW _))⟩
def kE (n:Nat):List V:=(QS n).map λ(k:Nat)=>V.int k
theorem FQ {acc:Array QL}(h:ItemsOf (λi v=>∃t,v=.int (0 + (i:Int) * 1) t) acc n):Vals (kE n) acc.toList:=by
 have key:∀(us:List QL) (i:Nat),(∀j v,us[j]?=some v->∃t:Tok,v=Y4 ((i + j:Nat):Int) t)->Vals ((List.range' i us.length).map λ(k:Nat)=>V.int k) us:=by
  intro us
  induction us with
  | nil=>exact λi _=>.nil
  | cons u us ih=>
   intro i hj;obtain ⟨t,e⟩:=hj 0 u rfl;rw [Sb,List.range'_succ,Q6];refine .cons ⟨t,by rw [e];rfl⟩ (ih (i + 1) λj v hv=>?_);obtain ⟨t,e⟩:=hj (j + 1) v (by simpa using hv);exact ⟨t,by rw [e];congr 2;omega⟩
 have e:acc.toList.length=n:=by rw [Q3];exact h.1
 unfold kE;rw [List.range_eq_range',<-e];refine key acc.toList 0 λj v hv=>?_;obtain ⟨t,q⟩:=h.2 j v (by simpa using hv);exact ⟨t,by rw [q];congr 1;omega⟩
theorem wA (hc:X.calm=true):bN X (.type "list") (λxs H Q=>∃(p:Rb) (j:Int),xs=[.ref p]/\H p=some (.rng 0 j)/\-(2 ^ 24)<=j/\j<=2 ^ 24/\∀l,H l=none->Q (.ref l) (upd H l (.lst (kE j.toNat)))):=by
 intro Qx s σ H xs us Q I r h;obtain ⟨p,j,rfl,hp,h0,h1,q⟩:=h;obtain ⟨u,rfl,rx⟩:=vals1 r;cases rx;obtain ⟨t,u,v,ho⟩:=I.hok p _ hp;have hn:WJ 0 j 1=(j.toNat:Int):=by rw [Z7];split <;> omega
 refine call_list_range (I.ok.hd hc) ho (small_one (by decide) (by decide) (by omega) (by omega)) hn (by omega) λh' tk acc' c' kp e hi=>?_;have hv:=FQ hi;refine ⟨.ref s.heap.objs.size,_,I.laid kp (QW _) (show cg X.prog X.w _ h' _ (.lst (kE j.toNat)) from ⟨?_,acc'.toList,c',hv,e⟩),rfl,q _ (I.hok.fresh (QW _))⟩;unfold kE;rw [QN,SQ];show j.toNat<=2 ^ 24;omega
noncomputable def Gd (gs:G (List R)):G R:=λenv=>gs env >>= λrs=>match rs with
 | [.d (.int j)]=>if below 16777216 j then .ok (.l .fresh (eS 0 j.toNat)) else .bad
 | _=>.bad
theorem Fz {K:QJ}{J:Hp}(n:Nat):aD K J (eS 0 n) (kE n):=by
 unfold eS kE;generalize QS n=ks
 induction ks with
 | nil=>exact .nil
 | cons k ks ih=>
  rw [Q6,Q6,Int.zero_add];exact .cons (.int _) ih
end
end DL
namespace DL
open PySem PySem.Spec PyProof.Rows L2 DX
section
variable {X:Cx}{c:C}{e a:RA}{es:List RA}{ga g:G R}{pos:Pos}{L:List Str}{T:Str->Bool}
theorem BB {p p2 pos2:Pos}{gs:G (List R)}(ha:jr X c [a] gs) (hm:X.mg "range"=none) (hm2:X.mg "list"=none) (hc:X.calm=true:=by rfl) (hK:X.K=c.K:=by rfl) (hg:Gl X "range":=by rfl) (OZ:Gl X "list":=by rfl)
  (hs:QZ [a] X.env=(false,eval a X.env)::QZ [] X.env:=by rfl) (hs0:(SJ pos (QZ [] X.env)).any (·.1)=false:=by rfl) (hs2:QZ [abj (.Name "range" p) [a] [] pos] X.env=(false,eval (abj (.Name "range" p) [a] [] pos) X.env)::QZ [] X.env:=by rfl) (Ql:(SJ pos2 (QZ [] X.env)).any (·.1)=false:=by rfl):
  QD X c (.Call (.Name "list" p2) [.Call (.Name "range" p) [a] [] pos] [] pos2) (Gd gs):=by
 have ha:=ha.h;refine ⟨?_⟩;have h1:=ji (p:=p) (pos:=pos) Ej hg hm boot_range ha (by decide) (by decide) hs hs0;have h2:=ji (p:=p2) (pos:=pos2) (wA hc) OZ hm2 rT (dF h1 fJ hs2) (by decide) (by decide) hs2 Ql;refine fz h2 λσ H Q ⟨J,env,sr,w⟩=>?_;refine ⟨J,env,sr,aC (aH w) λrs wr vs J1 H1 e1 r1=>?_⟩;split at wr
 ·rename_i j;obtain ⟨v,rfl,r⟩:=r1.one;cases r;split at wr
  ·rename_i hb;obtain ⟨b1,b2⟩:=dJ.mp hb;refine ⟨j,rfl,λq hq=>?_⟩;refine ⟨q,j,rfl,bB,by omega,by omega,λl hl=>?_⟩;have hp1:=sr.hp.ext e1;have e2:=Ext.new hp1.sub hq (.rng 0 j);have hp2:=hp1.ext e2;have hr:RR c H1 J1 (upd (upd H1 q (.rng 0 j)) l (.lst (kE j.toNat))) (.l .fresh (eS 0 j.toNat)) (.ref l):=by obtain ⟨a,us,x1,x2,x3,x4,x5⟩:=f_ (c:=c) hp2 hl (Fz j.toNat);exact ⟨a,us,x1,x2,x3,e2.h.free x4,x5⟩
   exact wr _ _ _ ((e1.trans e2).trans (Ext.new hp2.sub hl _)) (by
    obtain ⟨a,us,x1,x2,x3,x4,x5⟩:=hr;exact ⟨a,us,x1,x2,x3,e1.h.free x4,x5⟩)
  ·exact wr.elim
 ·exact wr.elim
end
end DL
namespace DL
open PySem PySem.Spec PyProof.Rows L2
end DL
namespace DL
open PySem PySem.Spec PyProof.Rows L2 DX
open PySem.W (KasT kas_sort kas_ask)
section
variable {X:Cx}{c:C}{e:RA}{es:List RA}{pos:Pos}
noncomputable def lJ:List R->M R
 | [r]=>gz r >>= λxs=>if vA xs=true then .ok (.l .fresh (bG xs)) else if qu xs=true then .ok (.l .fresh (bG xs)) else .bad
 | _=>.bad
theorem bN.or {r1 r2:List V->Hp->VK->Prop}(h1:bN X f r1) (h2:bN X f r2):bN X f (λxs H Q=>r1 xs H Q\/r2 xs H Q):=λQx s σ H xs us Q I rv h=>h.elim (h1 Qx s σ H xs us Q I rv) (h2 Qx s σ H xs us Q I rv)
theorem vE {p:Pos}{gs:G (List R)}(hu:X.A.units + 64 < Sw) (ha:jr X c (e::es) gs) (hm:X.mg "sorted"=none) (hK:X.K=c.K:=by rfl) (hg:Gl X "sorted":=by rfl)
  (he:QZ (e::es) X.env=(false,eval e X.env)::QZ es X.env:=by rfl) (hpl:(SJ pos (QZ es X.env)).any (·.1)=false:=by rfl):QD X c (.Call (.Name "sorted" p) (e::es) [] pos) (gN lJ gs):=have ha:=ha.h;⟨
 jT (xU hu) (by
  intro He J H xs vs Q hp rs w;unfold lJ at w;split at w
  ·obtain ⟨v,rfl,r⟩:=rs.one;obtain ⟨xs,q,w⟩:=h_ w;obtain ⟨p,vs,rfl,h1,h2⟩:=jC hp r q;rw [hK];split at w
   ·rename_i ok;exact ⟨p,vs,xs,rfl,h1,h2.mono hp.sub,.inl ok,λl vs' hl rr=>w _ _ _ (Ext.new hp.sub hl _) (f_ hp hl (rr _ h2))⟩
   ·split at w
    ·rename_i ok;exact ⟨p,vs,xs,rfl,h1,h2.mono hp.sub,.inr ok,λl vs' hl rr=>w _ _ _ (Ext.new hp.sub hl _) (f_ hp hl (rr _ h2))⟩
    ·exact w.elim
  ·exact w.elim) iA hm ha hg (by decide) (by decide) he hpl⟩
end
end DL
namespace DL
open PySem PySem.Spec PyProof.Rows L2 DX
section
variable {X:Cx}{c:C}{e:RA}{es:List RA}{pos:Pos}
theorem any_range (ks:List Bool):(QS ks.length).any (λi=>ks.getD i false)=ks.any id:=by
 induction ks with
 | nil=>rfl
 | cons k r ih=>
  rw [Sb,Vk,VX,Xg,VX];simp only [XS];rw [<-ih];rfl
theorem Co (hc:X.calm=true):bN X (.builtin "any") (λxs H Q=>∃(p:Rb) (ks:List Bool),xs=[.ref p]/\bV X.K H p (ks.map V.bl)/\Q (.bl (ks.any id)) H):=by
 intro Qx s σ H xs us Q I r h;obtain ⟨p,ks,rfl,hq,q⟩:=h;obtain ⟨u,rfl,rx⟩:=vals1 r;cases rx;obtain ⟨Qz,r',pl,hz⟩:=I.list hq;have hi:=q_ r';subst hi;have PF:p≠s.heap.objs.size:=by obtain ⟨o,h1,_⟩:=pl.isList;exact Rl (Q5 h1)
 refine call_any_walk (Vq pl.isList ⟨s.heap.objs.size,_,_,_,_,_,(λi=>ks.getD i false),rfl,Z1 (A:=X.A.in1) (show X.A.in1.handled=none from I.ok.hd hc) s.heap.objs.size p PF (ks.map TM).toArray,⟨⟨_,Q2 _ rfl,rfl,rfl⟩,YV pl.isList _⟩,?_,λh' tk k=>?_⟩)
 ·intro i v s' Q' E' hP hQ;have e:∃k,ks[i]?=some k/\v=.bool k:=by
   have hP':(ks.map TM)[i]?=some v:=by simpa using hP
   rw [Rc] at hP';cases z:ks[i]? with
   | none=>rw [z] at hP';cases hP'
   | some k=>rw [z] at hP';cases hP';exact ⟨k,rfl,rfl⟩
  obtain ⟨k,e1,rfl⟩:=e;simp only at hQ;rw [RI,e1] at hQ;exact R3 hQ
 ·have sz:(ks.map TM).toArray.size=ks.length:=by simp
  rw [sz,any_range];refine ⟨.bl (ks.any id),H,?_,rfl,q⟩;refine I.kept λb o e=>k b o (λz=>?_) (QU _ e);have:b=s.heap.objs.size:=by simpa using z
  exact absurd (this▸Q5 e) (SS _)
noncomputable def qM:List R->M R
 | [r]=>jK r >>= λxs=>match i9 xs with
  | some ks=>.ok (.d (.bl (ks.any id)))
  | none=>.bad
 | _=>.bad
theorem Ci:RJ "any"=some (.builtin "any"):=by decide +kernel
theorem uG {p:Pos}{gs:G (List R)}(ha:jr X c (e::es) gs) (hm:X.mg "any"=none) (hK:X.K=c.K:=by rfl) (hc:X.calm=true:=by rfl) (hg:Gl X "any":=by rfl)
  (he:QZ (e::es) X.env=(false,eval e X.env)::QZ es X.env:=by rfl) (hpl:(SJ pos (QZ es X.env)).any (·.1)=false:=by rfl):QD X c (.Call (.Name "any" p) (e::es) [] pos) (gN qM gs):=have ha:=ha.h;⟨
 jT (Co hc) (by
  intro He J H xs vs Q hp rs w;unfold qM at w;split at w
  ·obtain ⟨v,rfl,r⟩:=rs.one;obtain ⟨xs,q,w⟩:=pS w;obtain ⟨p,vs,rfl,h1,h2⟩:=RR.list hp r q;split at w
   ·rename_i ks z;have:=nZ z h2;subst this;exact ⟨p,ks,rfl,by rw [hK];exact h1,w _ J H (Ext.refl hp.sub) (.bl _)⟩
   ·exact w.elim
  ·exact w.elim) Ci hm ha hg (by decide) (by decide) he hpl⟩
end
end DL
namespace ST
open PySem PySem.SetTable
theorem ur (xs:Array Nat) (j:Nat) (hs:xs.toList.Pairwise (· < ·)):∀(f lo hi:Nat),hi<=xs.size->lo<=hi->hi - lo<=f->(∀i,i < lo->xs.getD i 0 < j)->(∀i,hi<=i->i < xs.size->j<=xs.getD i 0)->
  below.go xs j f lo hi<=xs.size/\(∀i,i < below.go xs j f lo hi->xs.getD i 0 < j)/\∀i,below.go xs j f lo hi<=i->i < xs.size->j<=xs.getD i 0
 | 0,lo,hi,h1,h2,h3,h4,h5=>by
  have:lo=hi:=by omega
  subst this;exact ⟨h1,h4,h5⟩
 | f + 1,lo,hi,h1,h2,h3,h4,h5=>by
  have mono:∀a b,a<=b->b < xs.size->xs.getD a 0<=xs.getD b 0:=λa b hab hb=>by
   rcases Yk hab with h | h
   ·have:=Si.mp hs a b (by simpa using Us h hb) (by simpa using hb) h;simp [SO,Us h hb,hb] at this ⊢;omega
   ·rw [h];exact QW _
  unfold below.go;by_cases c:lo < hi
  ·rw [if_pos c];have hm:(lo + hi) / 2 < xs.size:=by omega
   have e:xs.getD ((lo + hi) / 2) j=xs.getD ((lo + hi) / 2) 0:=by simp [SO,hm]
   by_cases d:xs.getD ((lo + hi) / 2) j < j
   ·simp only [d,if_true];rw [e] at d;exact ur xs j hs f _ hi h1 (by omega) (by omega) (λi hi'=>Yi (mono i ((lo + hi) / 2) (by omega) hm) d) h5
   ·simp only [d,if_false];rw [e] at d;exact ur xs j hs f lo _ (by omega) (by omega) (by omega) h4 (λi hi' hs'=>Rr (by omega) (mono ((lo + hi) / 2) i hi' hs'))
  ·rw [if_neg c];have:lo=hi:=by omega
   subst this;exact ⟨h1,h4,h5⟩
theorem mF (xs:Array Nat) (j:Nat) (hs:xs.toList.Pairwise (· < ·)):below xs j<=xs.size/\(∀i,i < below xs j->xs.getD i 0 < j)/\∀i,below xs j<=i->i < xs.size->j<=xs.getD i 0:=
 ur xs j hs xs.size 0 xs.size (QW _) (Rm _) (by omega) (λi h=>absurd h (RZ _)) (λi h1 h2=>by omega)
theorem below_at {xs:Array Nat}(hs:xs.toList.Pairwise (· < ·)) (h:xs[i]?=some j):below xs j=i:=by
 obtain ⟨hi,e⟩:=RV.mp h;obtain ⟨b1,b2,b3⟩:=mF xs j hs;have g:xs.getD i 0=j:=by simp [SO,hi,e]
 rcases UC (below xs j) i with c | c | c
 ·have h1:=b3 (below xs j) (QW _) (by omega);have:=Si.mp hs (below xs j) i (by simpa using Us c hi) (by simpa using hi) c;simp [SO,Us c hi] at h1;simp at this;omega
 ·exact c
 ·have:=b2 i c;omega
theorem oY {t:Sg}(hs:t.place.toList.Pairwise (· < ·)) (h:t.place[i]?=some j):t.slot j=.live i:=by unfold slot;rw [below_at hs h];show (if (t.place[i]? == some j)=true then Slot.live i else _)=_;rw [h];simp
theorem tN {t:Sg}(hd:t.dummies=#[]) (h:j∉t.place.toList):t.slot j=.empty:=by
 unfold slot;have h1:(t.place[below t.place j]? == some j)=false:=by
  rw [beq_eq_false_iff_ne];intro z;exact h (by
   obtain ⟨hi,e⟩:=RV.mp z;rw [<-e];simp)
 have h2:has t.dummies j=false:=by rw [hd];rfl
 simp only [h1,h2,Q8,if_false]
noncomputable def st (mask:Nat) (h:Int):Nat->Probe
 | 0=>({mask:=mask,place:=#[],dummies:=#[],finger:=0,led:=true,moves:=0,plain:=true}:Sg).probeStart h
 | n + 1=>({mask:=mask,place:=#[],dummies:=#[],finger:=0,led:=true,moves:=0,plain:=true}:Sg).advance (st mask h n)
abbrev pos (mask:Nat) (h:Int) (n:Nat):Nat:=(st mask h n).j
theorem nq (mask:Nat) (h:Int):∀n,(st mask h n).dummy=none
 | 0=>rfl
 | n + 1=>by
  unfold st advance;split
  ·exact nq mask h n
  ·exact nq mask h n
noncomputable def tn (mask:Nat) (h:Int):Nat->Nat×Nat
 | 0=>(bits h % (mask + 1),bits h)
 | k + 1=>leap mask (tn mask h k).1 (tn mask h k).2
theorem vM (mask:Nat) (h:Int):∀(m n:Nat) (i p j:Nat),st mask h n={j:=j,more:=m,i:=i,perturb:=p,dummy:=none}->st mask h (n + m)={j:=j + m,more:=0,i:=i,perturb:=p,dummy:=none}
 | 0,n,i,p,j,e=>e
 | m + 1,n,i,p,j,e=>by
  have e1:st mask h (n + 1)={j:=j + 1,more:=m,i:=i,perturb:=p,dummy:=none}:=by show advance _ (st mask h n)=_;rw [e];unfold advance;simp
  have:=vM mask h m (n + 1) i p (j + 1) e1;rw [show n + (m + 1)=n + 1 + m by omega,this];congr 1;omega
theorem AH (mask:Nat) (h:Int):∀k,∃n,n<=10 * k/\st mask h n={j:=(tn mask h k).1,more:=runEnd mask (tn mask h k).1 - (tn mask h k).1,i:=(tn mask h k).1,perturb:=(tn mask h k).2,dummy:=none}
 | 0=>⟨0,QW _,rfl⟩
 | k + 1=>by
  obtain ⟨n,hn,e⟩:=AH mask h k;have hm:runEnd mask (tn mask h k).1 - (tn mask h k).1<=9:=by unfold runEnd;split <;> omega
  have:=vM mask h _ n _ _ _ e;refine ⟨n + (runEnd mask (tn mask h k).1 - (tn mask h k).1) + 1,by omega,?_⟩;show advance _ (st mask h (n + (runEnd mask (tn mask h k).1 - (tn mask h k).1)))=_;rw [this];unfold advance;simp;exact ⟨rfl,rfl,rfl,rfl⟩
theorem tU (mask:Nat) (h:Int):∀k,(tn mask h k).2=bits h / 32 ^ k
 | 0=>by simp [tn]
 | k + 1=>by show (tn mask h k).2 / 32=_;rw [tU mask h k,W4,YN]
theorem G2 (h:Int):bits h < 2 ^ 64:=by unfold bits;have:=S5 h (b:=2 ^ 64) (by decide);omega
def De (mask i:Nat):Nat:=(i * 5 + 1) % (mask + 1)
noncomputable def gG (mask:Nat):Nat->Nat->Nat
 | 0,i=>i
 | r + 1,i=>De mask (gG mask r i)
theorem zb (mask:Nat) (h:Int):∀r,(tn mask h (12 + r)).1=gG mask r (tn mask h 12).1
 | 0=>rfl
 | r + 1=>by
  show (leap mask (tn mask h (12 + r)).1 (tn mask h (12 + r)).2).1=De mask (gG mask r (tn mask h 12).1);rw [<-zb mask h r,tU];unfold leap De;have:bits h / 32 ^ (12 + r) / 32=0:=by rw [W4,<-YN];refine Nat.div_eq_of_lt (Rh (G2 h) ?_);refine Rr (show 2 ^ 64<=32 ^ 13 by decide) (UJ (by decide) (by omega))
  rw [this]
theorem M1:∀i:Fin 8,∀j:Fin 8,(QS 8).any (λr=>gG 7 r i.val == j.val)=true:=by decide +kernel
theorem LJ:∀i:Fin 32,∀j:Fin 32,(QS 32).any (λr=>gG 31 r i.val == j.val)=true:=by decide +kernel
def JA:List Nat:=(QS 128).map λr=>gG 127 r 0
theorem zX:∀j:Fin 128,JA.contains j.val=true:=by decide +kernel
theorem G5:gG 127 128 0=0:=by decide +kernel
theorem mU (mask:Nat):∀a b i,gG mask (a + b) i=gG mask a (gG mask b i)
 | 0,b,i=>by rw [YO];rfl
 | a + 1,b,i=>by rw [show a + 1 + b=(a + b) + 1 by omega];show De mask (gG mask (a + b) i)=De mask (gG mask a (gG mask b i));rw [mU mask a b i]
def kh (mask:Nat):Prop:=mask=7\/mask=31\/mask=127
theorem CC {mask:Nat}(hm:kh mask) (i j:Nat) (hi:i<=mask) (hj:j<=mask):∃r,r<=mask/\gG mask r i=j:=by
 rcases hm with rfl | rfl | rfl
 ·have:=M1 ⟨i,by omega⟩ ⟨j,by omega⟩;rw [R0] at this;obtain ⟨r,h1,h2⟩:=this;exact ⟨r,by have:=Ro.mp h1;omega,by simpa using h2⟩
 ·have:=LJ ⟨i,by omega⟩ ⟨j,by omega⟩;rw [R0] at this;obtain ⟨r,h1,h2⟩:=this;exact ⟨r,by have:=Ro.mp h1;omega,by simpa using h2⟩
 ·have hi':=zX ⟨i,by omega⟩;have hj':=zX ⟨j,by omega⟩;rw [List.contains_iff_mem] at hi' hj';obtain ⟨a,ha,ea⟩:=QO.mp hi';obtain ⟨b,hb,eb⟩:=QO.mp hj';have ha:=Ro.mp ha;have hb:=Ro.mp hb;have ea:gG 127 a 0=i:=ea;have eb:gG 127 b 0=j:=eb;by_cases c:a<=b
  ·refine ⟨b - a,by omega,?_⟩;rw [<-ea,<-mU,show b - a + a=b by omega];exact eb
  ·refine ⟨128 + b - a,by omega,?_⟩;rw [<-ea,<-mU,show 128 + b - a + a=b + 128 by omega,mU,G5];exact eb
theorem BO (mask:Nat) (h:Int) (k:Nat):(tn mask h k).1<=mask:=by
 cases k with
 | zero=>exact Vu (Wz _ (by omega))
 | succ k=>exact Vu (Wz _ (by omega))
theorem visits {mask:Nat}(hm:kh mask) (h:Int) (j:Nat) (hj:j<=mask):∃n,n<=10 * (mask + 12)/\pos mask h n=j:=by obtain ⟨r,hr,e⟩:=CC hm (tn mask h 12).1 j (BO mask h 12) hj;obtain ⟨n,hn,q⟩:=AH mask h (12 + r);refine ⟨n,by omega,?_⟩;show (st mask h n).j=j;rw [q];show (tn mask h (12 + r)).1=j;rw [zb,e]
theorem sf {mask:Nat}(hm:kh mask) (h:Int) (P:List Nat) (hP:P.length<=mask):∃n,n<=10 * (mask + 12)/\pos mask h n∉P/\∀m,m < n->pos mask h m∈P:=by
 have ex:∃j,j<=mask/\j∉P:=by
  by_cases c:∀j,j<=mask->j∈P
  ·exfalso;have:(QS (mask + 1)).length<=P.length:=Rv To λj hj=>c j (by have:=Ro.mp hj;omega);rw [SQ] at this;omega
  ·exact SW λz=>c λj hj=>SW λy=>z ⟨j,hj,y⟩
 obtain ⟨j,hj,hn⟩:=ex;obtain ⟨n,hn1,hn2⟩:=visits hm h j hj;have key:∀k,k<=n->(∃m,m<=k/\pos mask h m∉P/\∀m',m' < m->pos mask h m'∈P)\/∀m,m<=k->pos mask h m∈P:=by
  intro k
  induction k with
  | zero=>
   intro _;by_cases c:pos mask h 0∈P
   ·exact .inr λm hm=>by rw [show m=0 by omega];exact c
   ·exact .inl ⟨0,QW _,c,λm' h'=>absurd h' (RZ _)⟩
  | succ k ih=>
   intro hk;rcases ih (by omega) with ⟨m,h1,h2⟩ | h1
   ·exact .inl ⟨m,by omega,h2⟩
   ·by_cases c:pos mask h (k + 1)∈P
    ·exact .inr λm hm=>by
      by_cases d:m<=k
      ·exact h1 m d
      ·rw [show m=k + 1 by omega];exact c
    ·exact .inl ⟨k + 1,QW _,c,λm' h'=>h1 m' (by omega)⟩
 rcases key n (QW _) with ⟨m,h1,h2,h3⟩ | h1
 ·exact ⟨m,by omega,h2,h3⟩
 ·exact absurd (h1 n (QW _)) (by rw [hn2];exact hn)
def Reach (mask:Nat) (P:List Nat) (h:Int) (j:Nat):Prop:=∃n,pos mask h n=j/\∀m,m < n->pos mask h m∈P
theorem Reach.mono {mask:Nat}{P P':List Nat}{h:Int}{j:Nat}(r:Reach mask P h j) (s:∀x∈P,x∈P'):Reach mask P' h j:=
 let ⟨n,h1,h2⟩:=r;⟨n,h1,λm hm=>s _ (h2 m hm)⟩
structure Tab (t:Sg) (es:Array (Int×QL)) (L:List (Nat×Int×QL)):Prop where
 dm:t.dummies=#[]
 pl:t.place.toList=L.map (·.1)
 en:es.toList=L.map (·.2)
 so:(L.map (·.1)).Pairwise (· < ·)
 bd:∀e∈L,e.1<=t.mask
 mo:kh t.mask
 fl:L.length<=t.mask
 pr:∀e∈L,Reach t.mask (L.map (·.1)) e.2.1 e.1
section
variable {t:Sg}{es:Array (Int×QL)}{L:List (Nat×Int×QL)}
theorem Tab.at_ (T:Tab t es L){i:Nat}{e:Nat×Int×QL}(h:L[i]?=some e):t.place[i]?=some e.1/\es[i]?=some e.2:=by
 constructor
 ·rw [<-R_,T.pl,Rc,h];rfl
 ·rw [<-R_,T.en,Rc,h];rfl
theorem Tab.sop (T:Tab t es L):t.place.toList.Pairwise (· < ·):=by rw [T.pl];exact T.so
theorem yK (T:Tab t es L) (hashAt:Nat->Int) (hA:∀i e,es[i]?=some e->hashAt i=e.1) (h:Int) (n0:Nat) (hf:pos t.mask h n0∉L.map (·.1)) (hb:∀m,m < n0->pos t.mask h m∈L.map (·.1)):
  ∀(d n F:Nat),n0 - n=d->n<=n0->d < F->∃m,n<=m/\m<=n0/\(∀k,n<=k->k < m->∀e∈L,e.1=pos t.mask h k->e.2.1≠h)/\
   ((m=n0/\probe.go t hashAt h F (st t.mask h n)=some (.empty (pos t.mask h n0) none))\/(m < n0/\∃i e,L[i]?=some e/\e.1=pos t.mask h m/\e.2.1=h/\probe.go t hashAt h F (st t.mask h n)=some (.candidate (pos t.mask h m) i (st t.mask h (m + 1)))))
 | d,n,0,_,_,h=>absurd h (RZ _)
 | d,n,F + 1,hd,hn,hF=>by
  by_cases c:n=n0
  ·subst c;refine ⟨n,QW _,QW _,λk h1 h2=>by omega,.inl ⟨rfl,?_⟩⟩;unfold probe.go;rw [tN T.dm (by rw [T.pl];exact hf)];show some (Met.empty _ (st t.mask h n).dummy)=_;rw [nq]
  ·obtain ⟨e,he,ej⟩:=QO.mp (hb n (by omega));obtain ⟨i,hi,rfl⟩:=SD.mp he;have hL:L[i]?=some L[i]:=Q4 hi;obtain ⟨p1,p2⟩:=T.at_ hL;have hs:t.slot (pos t.mask h n)=.live i:=oY T.sop (by rw [p1,ej]);have hh:=hA i _ p2;have uniq:∀e∈L,e.1=pos t.mask h n->e=L[i]:=λe he q=>by
    obtain ⟨k,hk,rfl⟩:=SD.mp he;have:k=i:=by
     have sw:=Si.mp T.so;rcases UC k i with c | c | c
     ·have:=sw k i (by simpa using hk) (by simpa using hi) c;simp at this;omega
     ·exact c
     ·have:=sw i k (by simpa using hi) (by simpa using hk) c;simp at this;omega
    subst this;rfl
   by_cases q:L[i].2.1=h
   ·refine ⟨n,QW _,by omega,λk h1 h2=>by omega,.inr ⟨by omega,i,L[i],hL,ej,q,?_⟩⟩;unfold probe.go;rw [hs];show (if (hashAt i == h)=true then _ else _)=_;rw [hh,q,if_pos (by simp)];rfl
   ·obtain ⟨m,m1,m2,m3,m4⟩:=yK T hashAt hA h n0 hf hb (n0 - (n + 1)) (n + 1) F rfl (by omega) (by omega);have eg:probe.go t hashAt h (F + 1) (st t.mask h n)=probe.go t hashAt h F (st t.mask h (n + 1)):=by rw [probe.go,hs];show (if (hashAt i == h)=true then _ else _)=_;rw [hh,if_neg (by simpa using q)];rfl
    rw [eg];refine ⟨m,by omega,m2,λk h1 h2 e he' ek=>?_,m4⟩;by_cases z:k=n
    ·subst z;rw [uniq e he' ek];exact q
    ·exact m3 k (by omega) h2 e he' ek
theorem nF {α:Type}(xs:Array α) (p:Nat) (x:α) (hp:p<=xs.size):(insertAt xs p x).toList=xs.toList.take p++x::xs.toList.drop p:=by
 unfold insertAt;simp
 (exact W5 (by simp))
theorem Tab.put (T:Tab t es L) (h:Int) (x:QL) (n0:Nat) (hf:pos t.mask h n0∉L.map (·.1)) (hb:∀m,m < n0->pos t.mask h m∈L.map (·.1)) (hj:pos t.mask h n0<=t.mask) (hl:L.length + 1<=t.mask):
  ∃L',Tab (t.put (pos t.mask h n0)).1 (insertAt es (t.put (pos t.mask h n0)).2 (h,x)) L'/\L'.Perm ((pos t.mask h n0,h,x)::L):=by
 obtain ⟨b1,b2,b3⟩:=mF t.place (pos t.mask h n0) T.sop;generalize hp:below t.place (pos t.mask h n0)=p at b1 b2 b3;have hsz:t.place.size=L.length:=by rw [<-Q3,T.pl,QN]
 have hes:es.size=L.length:=by rw [<-Q3,T.en,QN]
 have perm:(L.take p++(pos t.mask h n0,h,x)::L.drop p).Perm ((pos t.mask h n0,h,x)::L):=by
  have:=WX (a:=(pos t.mask h n0,h,x)) (l₁:=L.take p) (l₂:=L.drop p)
  rwa [Uu] at this
 have e1:(t.put (pos t.mask h n0))=({t with place:=insertAt t.place p (pos t.mask h n0),dummies:=#[]},p):=by unfold SetTable.put;rw [hp,T.dm];rfl
 rw [e1];have getP:∀i (hi:i < L.length),t.place.getD i 0=L[i].1:=λi hi=>by
  have:=(T.at_ (Q4 hi)).1;have hi':i < t.place.size:=by omega
  simp [SO,hi'];rw [TH hi'] at this;exact RY this
 refine ⟨L.take p++(pos t.mask h n0,h,x)::L.drop p,⟨rfl,?_,?_,?_,λe he=>?_,T.mo,?_,λe he=>?_⟩,perm⟩
 ·show (insertAt t.place p (pos t.mask h n0)).toList=_;rw [nF _ _ _ b1,T.pl];simp [VY,VZ]
 ·show (insertAt es p (h,x)).toList=_;rw [nF _ _ _ (by omega),T.en];simp [VY,VZ]
 ·rw [Rg,Q6,TL];refine ⟨?_,?_,?_⟩
  ·rw [VY];exact T.so.sublist (Yt _ _)
  ·rw [Uk];refine ⟨λa ha=>?_,?_⟩
   ·obtain ⟨e,he,rfl⟩:=QO.mp ha;obtain ⟨i,hi,rfl⟩:=SD.mp he;rw [YG];rw [Ue] at hi;have:=b3 (p + i) (by omega) (by omega);rw [getP _ (by omega)] at this;rcases Yk this with c | c
    ·exact c
    ·exact absurd (QO.mpr ⟨L[p + i],SI _,c.symm⟩) hf
   ·rw [VZ];exact T.so.sublist (List.drop_sublist _ _)
  ·intro a ha b hb;obtain ⟨e,he,rfl⟩:=QO.mp ha;obtain ⟨i,hi,rfl⟩:=SD.mp he;rw [List.getElem_take];rw [Ud] at hi;have h1:=b2 i (by omega);rw [getP _ (by omega)] at h1
   (rcases Q9.mp hb with rfl | hb)
   ·exact h1
   ·obtain ⟨e,he,rfl⟩:=QO.mp hb;obtain ⟨k,hk,rfl⟩:=SD.mp he;rw [YG];rw [Ue] at hk;have:=b3 (p + k) (by omega) (by omega);rw [getP _ (by omega)] at this;omega
 ·rcases Q9.mp (perm.mem_iff.mp he) with rfl | he
  ·exact hj
  ·exact T.bd e he
 ·rw [perm.length_eq];exact hl
 ·have sub:∀y∈L.map (·.1),y∈(L.take p++(pos t.mask h n0,h,x)::L.drop p).map (·.1):=λy hy=>by obtain ⟨e,he,rfl⟩:=QO.mp hy;exact QO.mpr ⟨e,perm.mem_iff.mpr (QT _ he),rfl⟩
  rcases Q9.mp (perm.mem_iff.mp he) with rfl | he
  ·exact ⟨n0,rfl,λm hm=>sub _ (hb m hm)⟩
  ·exact (T.pr e he).mono sub
end
theorem mh (mask:Nat) (h:Int) (n i p m:Nat) (e:st mask h n={j:=i,more:=m,i:=i,perturb:=p,dummy:=none}):∀r,r<=m->st mask h (n + r)={j:=i + r,more:=m - r,i:=i,perturb:=p,dummy:=none}
 | 0,_=>e
 | r + 1,hr=>by show advance _ (st mask h (n + r))=_;rw [mh mask h n i p m e r (by omega)];unfold advance;rw [if_pos (by show m - r > 0;omega)];show Probe.mk _ _ _ _ _=_;congr 1
theorem DV (mask:Nat) (h:Int) (k n:Nat) (e:st mask h n={j:=(tn mask h k).1,more:=runEnd mask (tn mask h k).1 - (tn mask h k).1,i:=(tn mask h k).1,perturb:=(tn mask h k).2,dummy:=none}):
  st mask h (n + (runEnd mask (tn mask h k).1 - (tn mask h k).1) + 1)={j:=(tn mask h (k + 1)).1,more:=runEnd mask (tn mask h (k + 1)).1 - (tn mask h (k + 1)).1,i:=(tn mask h (k + 1)).1,perturb:=(tn mask h (k + 1)).2,dummy:=none}:=by show advance _ (st mask h (n + (runEnd mask (tn mask h k).1 - (tn mask h k).1)))=_;rw [mh mask h n _ _ _ e _ (QW _)];unfold advance;simp;exact ⟨rfl,rfl,rfl,rfl⟩
theorem vd (mask:Nat) (h:Int) (owner:Array (Option Nat)) (G:List Nat) (ho:∀j,j<=mask->((owner.getD j (some 0)).isNone=true↔j∉G)):
  ∀(f k n:Nat),st mask h n={j:=(tn mask h k).1,more:=runEnd mask (tn mask h k).1 - (tn mask h k).1,i:=(tn mask h k).1,perturb:=(tn mask h k).2,dummy:=none}->(∀m,m < n->pos mask h m∈G)->
   (∃n',layClean.free mask owner f (tn mask h k).1 (tn mask h k).2=some (pos mask h n')/\pos mask h n'<=mask/\pos mask h n'∉G/\∀m,m < n'->pos mask h m∈G)\/(layClean.free mask owner f (tn mask h k).1 (tn mask h k).2=none/\∀r,r < f->(tn mask h (k + r)).1∈G)
 | 0,k,n,e,hb=>.inr ⟨rfl,λr hr=>absurd hr (RZ _)⟩
 | f + 1,k,n,e,hb=>by
  have hi:=BO mask h k;have re:runEnd mask (tn mask h k).1<=mask/\(tn mask h k).1<=runEnd mask (tn mask h k).1:=by unfold runEnd;split <;> omega
  unfold layClean.free;cases q:(QS (runEnd mask (tn mask h k).1 + 1 - (tn mask h k).1)).find? λr=>(owner.getD ((tn mask h k).1 + r) (some 0)).isNone with
  | some r=>
   have h1:=List.find?_some q;have h2:=Ro.mp (List.mem_of_find?_eq_some q);have h3:pos mask h (n + r)=(tn mask h k).1 + r:=by show (st mask h (n + r)).j=_;rw [mh mask h n _ _ _ e r (by omega)]
   refine .inl ⟨n + r,?_,?_,?_,?_⟩
   ·show some _=_;rw [h3]
   ·rw [h3];omega
   ·rw [h3];exact (ho _ (by omega)).mp h1
   ·intro m hm;by_cases c:m < n
    ·exact hb m c
    ·obtain ⟨s,rfl⟩:∃s,m=n + s:=⟨m - n,by omega⟩;have h4:pos mask h (n + s)=(tn mask h k).1 + s:=by show (st mask h (n + s)).j=_;rw [mh mask h n _ _ _ e s (by omega)]
     rw [h4];refine SW λz=>?_;have z':=(ho ((tn mask h k).1 + s) (by omega)).mpr z;rw [List.find?_eq_some_iff_append] at q;obtain ⟨_,as,bs,eq,hall⟩:=q;have hs:s∈as:=by
      have hlen:as.length=r:=by
       have hl:as.length < (QS (runEnd mask (tn mask h k).1 + 1 - (tn mask h k).1)).length:=by rw [eq];simp
       have e3:(QS (runEnd mask (tn mask h k).1 + 1 - (tn mask h k).1))[as.length]?=some r:=by rw [eq];simp
       rw [SQ] at hl;rw [UU hl] at e3;exact RY e3
      have e4:(QS (runEnd mask (tn mask h k).1 + 1 - (tn mask h k).1))[s]?=some s:=UU (by omega);rw [eq,SV (by omega)] at e4;exact RH e4
     have:=hall s hs;rw [z'] at this;exact absurd this (by decide)
  | none=>
   have hall:=Yl.mp q;have occ:∀s,s<=runEnd mask (tn mask h k).1 - (tn mask h k).1->(tn mask h k).1 + s∈G:=λs hs=>SW λz=>by have z':=(ho ((tn mask h k).1 + s) (by omega)).mpr z;exact hall s (Ro.mpr (by omega)) z'
   have nb:∀m,m < n + (runEnd mask (tn mask h k).1 - (tn mask h k).1) + 1->pos mask h m∈G:=λm hm=>by
    by_cases c:m < n
    ·exact hb m c
    ·obtain ⟨s,rfl⟩:∃s,m=n + s:=⟨m - n,by omega⟩;have h4:pos mask h (n + s)=(tn mask h k).1 + s:=by show (st mask h (n + s)).j=_;rw [mh mask h n _ _ _ e s (by omega)]
     rw [h4];exact occ s (by omega)
   rcases vd mask h owner G ho f (k + 1) _ (DV mask h k n e) nb with ⟨n',g1,g2',g3⟩ | ⟨g1,g2'⟩
   ·exact .inl ⟨n',g1,g2',g3⟩
   ·refine .inr ⟨g1,λr hr=>?_⟩;cases r with
    | zero=>have:=occ 0 (Rm _);exact this
    | succ r=>have:=g2' r (by omega);rwa [show k + (r + 1)=k + 1 + r by omega]
theorem Ho {mask:Nat}(hm:kh mask) (h:Int) (owner:Array (Option Nat)) (G:List Nat) (hG:G.length<=mask) (ho:∀j,j<=mask->((owner.getD j (some 0)).isNone=true↔j∉G)):
  ∃n',layClean.free mask owner (turns mask) (bits h % (mask + 1)) (bits h)=some (pos mask h n')/\pos mask h n'<=mask/\pos mask h n'∉G/\∀m,m < n'->pos mask h m∈G:=by
 rcases vd mask h owner G ho (turns mask) 0 0 rfl (λm hm=>absurd hm (RZ _)) with a | ⟨_,b⟩
 ·exact a
 ·exfalso;have all:∀j,j<=mask->j∈G:=λj hj=>by obtain ⟨r,hr,e⟩:=CC hm (tn mask h 12).1 j (BO mask h 12) hj;have:=b (12 + r) (by unfold turns;omega);rw [YO,zb,e] at this;exact this
  have:(QS (mask + 1)).length<=G.length:=Rv To λj hj=>all j (by have:=Ro.mp hj;omega);rw [SQ] at this;omega
structure Own (mask:Nat) (owner:Array (Option Nat)) (G:List Nat) (hs:List Int):Prop where
 sz:owner.size=mask + 1
 ln:G.length=hs.length
 nd:G.Nodup
 bd:∀j∈G,j<=mask
 at_:∀j,j<=mask->owner.getD j none=if j∈G then some (G.idxOf j) else none
 pr:∀k (h1:k < G.length) (h2:k < hs.length),Reach mask G hs[k] G[k]
theorem Own.occ {mask:Nat}{owner:Array (Option Nat)}{G:List Nat}{hs:List Int}(O:Own mask owner G hs):∀j,j<=mask->((owner.getD j (some 0)).isNone=true↔j∉G):=λj hj=>by
 have e:owner.getD j (some 0)=owner.getD j none:=by
  have:j < owner.size:=by rw [O.sz];omega
  simp [SO,this]
 rw [e,O.at_ j hj];split <;> simp_all
theorem Own.step {mask:Nat}{owner:Array (Option Nat)}{G:List Nat}{hs:List Int}(O:Own mask owner G hs) (hm:kh mask) (hl:hs.length<=mask) (h:Int):
  ∃j,layClean.free mask owner (turns mask) (bits h % (mask + 1)) (bits h)=some j/\Own mask (owner.setIfInBounds j (some hs.length)) (G++[j]) (hs++[h]):=by
 obtain ⟨n',e,b,f,r⟩:=Ho hm h owner G (by rw [O.ln];exact hl) O.occ;refine ⟨_,e,⟨by rw [Array.size_setIfInBounds,O.sz],by simp [O.ln],?_,λj hj=>?_,λj hj=>?_,λk h1 h2=>?_⟩⟩
 ·rw [Vv];refine ⟨O.nd,by simp,λa ha b hb=>?_⟩;rw [Q7] at hb;subst hb;intro z;subst z;exact f ha
 ·rcases Rn.mp hj with h1 | h1
  ·exact O.bd j h1
  ·rw [Q7.mp h1];exact b
 ·have hsz:j < owner.size:=by rw [O.sz];omega
  by_cases c:j=pos mask h n'
  ·subst c;rw [if_pos (by simp)];simp [SO,hsz];rw [YH,if_neg f];simp [O.ln]
  ·have e1:(owner.setIfInBounds (pos mask h n') (some hs.length)).getD j none=owner.getD j none:=by simp [SO,hsz];rw [Array.getElem_setIfInBounds_ne];exact λz=>c z.symm
   rw [e1,O.at_ j hj];by_cases d:j∈G
   ·rw [if_pos d,if_pos (UI _ d),YH,if_pos d]
   ·rw [if_neg d,if_neg (by simp [d,c])]
 ·have sub:∀x∈G,x∈G++[pos mask h n']:=λx hx=>UI _ hx;by_cases c:k < G.length
  ·have:=(O.pr k c (by rw [<-O.ln];exact c)).mono sub;rw [WA c,WA (by rw [<-O.ln];exact c)];exact this
  ·have hk:k=G.length:=by simp at h1;omega
   subst hk;have e1:(G++[pos mask h n'])[G.length]=pos mask h n':=by simp
   have e2:(hs++[h])[G.length]=h:=by simp [O.ln]
   rw [e1,e2];exact ⟨n',rfl,λm hm=>sub _ (r m hm)⟩
theorem yx {mask:Nat}(hm:kh mask):∀(rest hs:List Int) (owner:Array (Option Nat)) (G:List Nat),Own mask owner G hs->(hs++rest).length<=mask->∃owner' G',rest.foldl (λacc h=>do
  let (owner,k) <-acc
  let j <-layClean.free mask owner (turns mask) (bits h % (mask + 1)) (bits h)
  pure (owner.setIfInBounds j (some k),k + 1)) (some (owner,hs.length))=some (owner',(hs++rest).length)/\Own mask owner' G' (hs++rest)
 | [],hs,owner,G,O,_=>⟨owner,G,by simp,by simpa using O⟩
 | h::rest,hs,owner,G,O,hl=>by
  obtain ⟨j,e,O'⟩:=O.step hm (by simp at hl;omega) h;obtain ⟨owner',G',e2,O2⟩:=yx hm rest (hs++[h]) _ _ O' (by simpa using hl);refine ⟨owner',G',?_,by simpa using O2⟩;rw [V9];have e3:(do
   let (owner,k) <-some (owner,hs.length)
   let j <-layClean.free mask owner (turns mask) (bits h % (mask + 1)) (bits h)
   pure (owner.setIfInBounds j (some k),k + 1):Option (Array (Option Nat)×Nat))=some (owner.setIfInBounds j (some hs.length),(hs++[h]).length):=by show Option.bind (layClean.free mask owner (turns mask) (bits h % (mask + 1)) (bits h)) _=_;rw [e];simp
  rw [e3];simpa using e2
theorem HX (mask:Nat):Own mask (Array.replicate (mask + 1) none) [] []:=
 ⟨by simp,rfl,Tg,λj h=>absurd h (by simp),λj hj=>by simp [SO],λk h1=>absurd h1 (by simp)⟩
theorem Dd {mask:Nat}(hm:kh mask) (hs:Array Int) (hl:hs.size<=mask):∃owner G,layClean mask hs=some owner/\Own mask owner G hs.toList:=by obtain ⟨owner,G,e,O⟩:=yx hm hs.toList [] _ [] (HX mask) (by simpa using hl);refine ⟨owner,G,?_,by simpa using O⟩;unfold layClean;rw [<-Array.foldl_toList];have e':=congrArg (Option.map (·.1)) e;exact e'
theorem HC {t:Sg}{es:Array (Int×QL)}{mask:Nat}(hm:kh mask) (finger moves:Nat) (led plain:Bool) (hl:es.size<=mask):
  ∃t' QH L',laid mask finger moves led plain (es.map (·.1))=some (t',QH)/\t'.mask=mask/\t'.led=led/\t'.plain=plain/\Tab t' (QH.filterMap (es[·]?)) L'/\(QH.filterMap (es[·]?)).toList.Perm es.toList:=by
 obtain ⟨owner,G,e,O⟩:=Dd hm (es.map (·.1)) (by simpa using hl);have hlen:G.length=es.size:=by rw [O.ln];simp
 (let live:=(QS (mask + 1)).filterMap λj=>(owner.getD j none).map (j,·))
 have lv:∀p,p∈live↔p.1∈G/\p.2=G.idxOf p.1:=λp=>by
  show p∈(QS (mask + 1)).filterMap _↔_;rw [U5];constructor
  ·rintro ⟨j,hj,q⟩;have hj':j<=mask:=by have:=Ro.mp hj;omega
   rw [O.at_ j hj'] at q;by_cases c:j∈G
   ·rw [if_pos c] at q;have q:(j,G.idxOf j)=p:=by simpa using q
    subst q;exact ⟨c,rfl⟩
   ·rw [if_neg c] at q;exact absurd q (by simp)
  ·rintro ⟨h1,h2⟩;refine ⟨p.1,Ro.mpr (by have:=O.bd _ h1;omega),?_⟩;rw [O.at_ _ (O.bd _ h1),if_pos h1];show some (p.1,G.idxOf p.1)=some p;rw [<-h2]
 have so1:live.Pairwise λa b=>a.1 < b.1:=by
  show ((QS (mask + 1)).filterMap _).Pairwise _;rw [WO];refine Uj.imp ?_;intro a b hab x hx y hy;cases q1:owner.getD a none with
  | none=>rw [q1] at hx;exact absurd hx (by simp)
  | some k1=>cases q2:owner.getD b none with
   | none=>rw [q2] at hy;exact absurd hy (by simp)
   | some k2=>
    rw [q1] at hx;rw [q2] at hy;have hx:(a,k1)=x:=by simpa using hx
    have hy:(b,k2)=y:=by simpa using hy
    subst hx;subst hy;exact hab
 have ord:(live.map (·.2)).Perm (QS es.size):=by
  rw [Wi _ To]
  ·intro k;rw [QO,Ro];constructor
   ·rintro ⟨p,hp,rfl⟩;obtain ⟨h1,h2⟩:=(lv p).mp hp;rw [h2,<-hlen];exact RQ h1
   ·intro hk;rw [<-hlen] at hk;exact ⟨(G[k],k),(lv _).mpr ⟨SI _,(O.nd.idxOf_getElem k hk).symm⟩,rfl⟩
  ·show (live.map (·.2)).Pairwise _;rw [R5];refine (Tt.mp so1).imp ?_;rintro a b ⟨ha,hb,hab⟩ z;obtain ⟨a1,a2⟩:=(lv a).mp ha;obtain ⟨b1,b2⟩:=(lv b).mp hb;rw [a2,b2] at z;have ga:=Ul (RQ a1);have gb:=Ul (RQ b1);have:a.1=b.1:=by rw [<-ga,<-gb];congr 1
   omega
 have inR:∀p∈live,∃h:p.2 < es.size,True:=λp hp=>by have:p.2∈live.map (·.2):=QO.mpr ⟨p,hp,rfl⟩;exact ⟨Ro.mp (ord.mem_iff.mp this),trivial⟩
 let L':=live.map λp=>(p.1,es.getD p.2 default)
 have eL:(live.map (·.2)).toArray.filterMap (es[·]?)=(L'.map (·.2)).toArray:=by
  rw [List.filterMap_toArray];congr 1;show ZJ _ (live.map _)=(live.map _).map _;rw [X7,Rt];have:∀(l:List (Nat×Nat)),(∀p∈l,p∈live)->ZJ ((λx=>es[x]?) ∘ λx=>x.snd) l=abp ((λx=>x.snd) ∘ λp=>(p.fst,es.getD p.snd default)) l:=by
   intro l
   induction l with
   | nil=>intro _;rfl
   | cons p l ih=>
    intro hl;obtain ⟨hp,_⟩:=inR p (hl p (by simp));rw [List.filterMap_cons_some (b:=es.getD p.2 default)]
    ·rw [Q6,ih λq hq=>hl q (by simp [hq])];rfl
    ·show es[p.2]?=_;simp [SO,hp]
  exact this live λp hp=>hp
 have eP:L'.map (·.1)=live.map (·.1):=by show (live.map _).map _=_;rw [Rt];rfl
 have memP:∀j,j∈live.map (·.1)↔j∈G:=λj=>by
  rw [QO];constructor
  ·rintro ⟨p,hp,rfl⟩;exact ((lv p).mp hp).1
  ·intro h;exact ⟨(j,G.idxOf j),(lv _).mpr ⟨h,rfl⟩,rfl⟩
 have lenL:L'.length=es.size:=by have:=ord.length_eq;rw [QN,SQ] at this;show (live.map _).length=_;rw [QN,this]
 refine ⟨{mask,place:=(live.map (·.1)).toArray,dummies:=#[],finger,led,moves,plain},(live.map (·.2)).toArray,L',?_,rfl,rfl,rfl,⟨rfl,?_,?_,?_,λx hx=>?_,hm,?_,λx hx=>?_⟩,?_⟩
 ·unfold laid;rw [e];rfl
 ·show (live.map (·.1)).toArray.toList=_;rw [eP]
 ·rw [eL]
 ·rw [eP,R5];exact so1
 ·obtain ⟨p,hp,rfl⟩:=QO.mp hx;exact O.bd _ ((lv p).mp hp).1
 ·show L'.length<=mask;rw [lenL];exact hl
 ·obtain ⟨p,hp,rfl⟩:=QO.mp hx;obtain ⟨h1,h2⟩:=(lv p).mp hp;obtain ⟨hs,_⟩:=inR p hp;have r:=O.pr p.2 (by omega) (by simpa using hs);have e1:G[p.2]'(by omega)=p.1:=by have:=Ul (RQ h1);rw [<-this];congr 1
  have e2:((es.map (·.1)).toList[p.2]'(by simpa using hs))=(es.getD p.2 default).1:=by simp [SO,hs]
  rw [e1,e2] at r;show Reach mask (L'.map (·.1)) (es.getD p.2 default).1 p.1;refine r.mono λy hy=>?_;rw [eP];exact (memP y).mpr hy
 ·rw [eL];show (L'.map (·.2)).Perm es.toList;have e1:(live.map (·.2)).map (λk=>es.getD k default)=L'.map (·.2):=by show _=(live.map _).map _;rw [Rt,Rt];rfl
  rw [<-e1];refine (ord.map _).trans ?_;have:(QS es.size).map (λk=>es.getD k default)=es.toList:=by refine US (by simp) λi h1 h2=>?_;simp at h1;simp [SO,h1]
  rw [this]
theorem vH {t:Sg}{es:Array (Int×QL)}(hm:kh (sizeAbove w - 1)) (hl:es.size<=sizeAbove w - 1):
  ∃t' QH L',t.relaid (es.map (·.1)) w=some (t',QH)/\t'.mask=sizeAbove w - 1/\t'.led=t.led/\t'.plain=t.plain/\Tab t' (QH.filterMap (es[·]?)) L'/\(QH.filterMap (es[·]?)).toList.Perm es.toList:=
 HC (t:=t) hm t.finger (t.movedTo (sizeAbove w - 1)) t.led t.plain hl
end ST
namespace DL
open PySem PySem.Spec PyProof.Rows L2
mutual
noncomputable def jw:D->Nat
 | .int _=>1
 | .tup xs=>d_ xs + 1
 | _=>0
noncomputable def d_:List D->Nat
 | []=>0
 | x::xs=>jw x + d_ xs
end
theorem p_:∀{ds:List D},areKeys ds=true->∀d∈ds,isKey d=true
 | [],_,_,h=>nomatch h
 | x::xs,h,d,hm=>by
  unfold areKeys at h;rw [QX] at h
  (rcases Q9.mp hm with rfl | hm)
  ·exact h.1
  ·exact p_ h.2 d hm
mutual
theorem yv:∀{d e:D},isKey d=true->isKey e=true->bg d e=true->d=e
 | .int i,.int j,_,_,h=>by simp [bg] at h;rw [h]
 | .tup xs,.tup ys,hd,he,h=>by unfold isKey at hd he;simp only [bg] at h;rw [keys_eq hd he h]
 | .int _,.tup _,_,_,h=>by simp [bg] at h
 | .tup _,.int _,_,_,h=>by simp [bg] at h
theorem keys_eq:∀{ds es:List D},areKeys ds=true->areKeys es=true->bW ds es=true->ds=es
 | [],[],_,_,_=>rfl
 | x::xs,y::ys,hd,he,h=>by unfold areKeys at hd he;rw [QX] at hd he;simp only [bW,QX] at h;rw [yv hd.1 he.1 h.1,keys_eq hd.2 he.2 h.2]
 | [],_::_,_,_,h=>by simp [bW] at h
 | _::_,[],_,_,h=>by simp [bW] at h
end
theorem ux (hd:isKey d=true) (he:isKey e=true):bg d e=true↔d=e:=⟨yv hd he,λh=>by rw [h];exact eN _⟩
section
variable {prog:Ra}{w:Rz}{E:QL->QM->Prop}{K:QJ}{J:Hp}
noncomputable def BZ (prog:Ra) (w:Rz) (A:RC) (K:QJ) (J:Hp) (d:D) (u:QL):Prop:=
 ∀(E:QL->QM->Prop) (s:QM) (Q:Int->QM->Prop),HF K J s->Q (bP d) {s with toks:=s.toks + jw d}->Q_ (Rf prog w) A (pyHash u) Q E s
inductive jB (prog:Ra) (w:Rz) (A:RC) (K:QJ) (J:Hp):List D->List QL->Prop
 | nil:jB prog w A K J [] []
 | cons {d:D}{u:QL}{ds:List D}{us:List QL}:BZ prog w A K J d u->jB prog w A K J ds us->jB prog w A K J (d::ds) (u::us)
theorem sL:∀(a b:List D),cu (a++b)=cu a++cu b
 | [],b=>rfl
 | x::a,b=>by show bP x::cu (a++b)=_;rw [sL a b];rfl
theorem rY:∀(a b:List D),d_ (a++b)=d_ a + d_ b
 | [],b=>by show d_ b=0 + _;omega
 | x::a,b=>by show jw x + d_ (a++b)=jw x + d_ a + d_ b;rw [rY a b];omega
theorem Ey {A:RC}{s:QM}{o:Obj}{Qz:List QL}{Q:Int->QM->Prop}(N:HF K J s) (ho:s.heap.get? a=some o) (hc:o.cls=.type "tuple") (hd:o.data=.seq Qz.toArray n) (hu:A.units < Sw)
 (hl:jB prog w A.in1 K J ds Qz) (h:Q (ZZ (R4 (cu ds))) {s with toks:=s.toks + (d_ ds + 1)}):Q_ (Rf prog w) A (pyHash (.ref a)) Q E s:=by
 have hT:s.TypeIs (.ref a) "tuple":=⟨o,ho,hc⟩;unfold pyHash
 (first | unfold pyHashByItsType | skip)
 (first | refine QI (wpAny_cRoomFor_or (.inr hu) ?_) | skip)
 (refine QI (Ve hT UD.lookup ?_))
 (show Q_ _ _ (if (some (WK "tuple.__hash__") == some RU)=true then _ else _) Q E s)
 (rw [if_neg (by rw [beq_builtin_none];exact Ru)])
 (refine QI (Ve hT UD.lookup ?_))
 (show Q_ _ _ (callSpecialIfBoundUnlessNone? (.ref a) "__hash__" _ >>= _) Q E s)
 (refine QI (wpAny_callSpecialIfBoundUnlessNone?_slot hT UD (RO UD hT F.entry_tuple_hash ?_ (F.args_tuple_hash_1 _))))
 (show Q_ _ _ (UG (.ref a) >>= _) _ _ s)
 (refine QI (wpAny_tupleItemsOf ho hd ?_))
 refine QI ?_;rw [<-Vf];refine Tn _
  (λrest (b:Array Int) s'=>∃done left,ds=done++left/\jB prog w A.in1 K J left rest/\b.toList=cu done/\s'={s with toks:=s.toks + d_ done})
  _ ?_ ?_ _ _ ⟨[],ds,rfl,hl,rfl,rfl⟩
 ·(rintro x rest b s' ⟨done,left,rfl,hl,hb,rfl⟩)
  cases hl with
  | @cons k _ ks' _ h1 hl'=>
   refine QI (h1 _ _ _ ⟨N.t,N.l,N.e,N.d⟩ ?_);have e1:(b.push (bP k)).toList=cu (done++[k]):=by rw [YI,sL,hb];rfl
   have e2:s.toks + d_ done + jw k=s.toks + d_ (done++[k]):=by rw [rY];show _=s.toks + (d_ done + (jw k + 0));omega
   first
    | exact QK ⟨done++[k],ks',by simp,hl',e1,by rw [e2]⟩
    | exact QI (QK (QK ⟨done++[k],ks',by simp,hl',e1,by rw [e2]⟩))
 ·(rintro b s' ⟨done,left,rfl,hl,hb,rfl⟩)
  cases hl;rw [TU] at h
  (show Q_ _ _ (retInt (R4 b.toList)) _ _ _)
  rw [hb];refine wpAny_ret_mkInt ?_;show Q_ _ _ (if (decide (-(2:Int) ^ 63<=R4 (cu done)) && decide (R4 (cu done) < 2 ^ 63))=true then _ else _) Q E _;unfold ZZ at h;by_cases hr:(decide (-(2:Int) ^ 63<=R4 (cu done)) && decide (R4 (cu done) < 2 ^ 63))=true
  ·rw [if_pos hr];rw [if_pos hr] at h
   (exact QK (by simpa [aaj] using h))
  ·rw [if_neg hr];rw [if_neg hr] at h
   (exact QI (Wy (QK (by simpa [aaj] using h))))
mutual
theorem uO:∀(d:D) (v:V) (u:QL) (A:RC) (s:QM),HF K J s->isKey d=true->Rep K J d v->RelV v u->A.units + dep d < Sw->BZ prog w A K J d u
 | .int i,v,u,A,s,N,hk,hr,rv,hu=>λE s' Q N' h=>by cases hr;obtain ⟨t,rfl⟩:=rv;exact WT h
 | .tup ds,v,u,A,s,N,hk,hr,rv,hu=>λE s' Q N' h=>by
  cases hr with
  | tup h1 hs=>
   cases rv;obtain ⟨Qz,r,o,ho,hc,n,hd⟩:=N'.t _ _ h1;exact Ey N' ho hc hd (by unfold dep at hu;omega) (zg ds _ _ A.in1 s N hk hs r (by rw [in1_units];unfold dep at hu;omega)) h
 | .non,v,u,A,s,N,hk,hr,rv,hu=>nomatch hk
 | .bl _,v,u,A,s,N,hk,hr,rv,hu=>nomatch hk
 | .str _,v,u,A,s,N,hk,hr,rv,hu=>nomatch hk
 | .lst _,v,u,A,s,N,hk,hr,rv,hu=>nomatch hk
 | .emp,v,u,A,s,N,hk,hr,rv,hu=>nomatch hk
 | .exn _ _ _,v,u,A,s,N,hk,hr,rv,hu=>nomatch hk
 | .dct _ _,v,u,A,s,N,hk,hr,rv,hu=>nomatch hk
theorem zg:∀(ds:List D) (vs:List V) (us:List QL) (A:RC) (s:QM),HF K J s->areKeys ds=true->aD K J ds vs->Vals vs us->A.units + deps ds < Sw->jB prog w A K J ds us
 | [],vs,us,A,s,N,hk,hr,rv,hu=>by cases hr;cases rv;exact .nil
 | d::ds,vs,us,A,s,N,hk,hr,rv,hu=>by
  unfold areKeys at hk;rw [QX] at hk;unfold deps at hu;cases hr with
  | cons a b=>
   cases rv with
   | cons c e=>exact .cons (uO d _ _ A s N hk.1 a c (by omega)) (zg ds _ _ A s N hk.2 b e (by omega))
end
end
def gQ (K:QJ) (J:Hp) (n:Nat) (u:QL):Prop:=∃d v,isKey d=true/\dep d<=n/\Rep K J d v/\RelV v u
section
variable {prog:Ra}{w:Rz}{E:QL->QM->Prop}{K:QJ}{J:Hp}{A:RC}{s:QM}
theorem yu {n:Nat}:∀{ds:List D}{vs:List V}{us:List QL},areKeys ds=true->deps ds<=n->aD K J ds vs->Vals vs us->∀u∈us,gQ K J n u
 | _,_,_,_,_,.nil,.nil=>λu h=>nomatch h
 | d::ds,_,_,hk,hn,.cons a b,.cons c e=>λu h=>by
  unfold areKeys at hk;rw [QX] at hk;unfold deps at hn
  (rcases Q9.mp h with rfl | h)
  ·exact ⟨d,_,hk.1,by omega,a,c⟩
  ·exact yu hk.2 (by omega) b e u h
theorem gQ.cases' (N:HF K J s) (h:gQ K J n u):(∃i t,u=.int i t)\/∃a o Qz m k,u=.ref a/\s.heap.get? a=some o/\o.cls=.type "tuple"/\o.data=.seq Qz m/\n=k + 1/\∀y∈Qz.toList,gQ K J k y:=by
 obtain ⟨d,v,hk,hn,hr,rv⟩:=h;cases d with
 | int i=>
  cases hr;obtain ⟨t,rfl⟩:=rv;exact .inl ⟨_,_,rfl⟩
 | tup ds=>
  cases hr with
  | tup h1 hs=>
   cases rv;obtain ⟨Qz,r,o,ho,hc,m,hd⟩:=N.t _ _ h1;unfold dep at hn;obtain ⟨k,rfl⟩:∃k,n=k + 1:=⟨n - 1,by omega⟩;exact .inr ⟨_,o,_,m,k,rfl,ho,hc,hd,rfl,yu hk (by omega) hs r⟩
 | _=>cases hk
theorem l_:∀(n:Nat){u:QL}{Q:Bool->QM->Prop},HF K J s->gQ K J n u->Q true s->Q_ (Rf prog w) A (eqIsQuiet n u) Q E s
 | n,u,Q,N,hk,h=>by
  rcases hk.cases' N with ⟨i,t,rfl⟩ | ⟨a,o,Qz,m,k,rfl,ho,hc,hd,rfl,hi⟩
  ·rw [eqIsQuiet_byValue _ rfl];exact QK h
  ·have hT:s.TypeIs (.ref a) "tuple":=⟨o,ho,hc⟩;unfold eqIsQuiet
   (refine QI (Ve hT F.slot_tuple_eq.lookup ?_))
   (show Q_ _ _ (ZY (.ref a) (.type "tuple") >>= _) _ _ s)
   (refine QI (VR hT isSubtype_tuple_tuple ?_))
   (simp only [Td,Q8,if_false])
   (refine QI (XJ ho hd ?_))
   refine QI ?_;show Q_ _ _ (forIn Qz _ _) _ _ s;rw [<-Vf];refine Tn _ (λrest r s'=>r.1=none/\s=s'/\∀v∈rest,gQ K J k v) _ ?_ ?_ _ _ ⟨rfl,rfl,hi⟩
   ·(rintro v rest r s' ⟨hr,rfl,hall⟩)
    refine QI (l_ k N (hall v QV) ?_)
    (simp only [Td,Q8,if_false])
    (exact QK ⟨rfl,rfl,λu hu'=>hall u (QT _ hu')⟩)
   ·(rintro ⟨r1,r2⟩ s' ⟨hr,rfl,_⟩)
    simp only at hr;subst hr;exact QK h
theorem Dw:∀(n:Nat){u:QL}{Q:Bool->QM->Prop},HF K J s->gQ K J n u->Q true s->Q_ (Rf prog w) A (hashByValue n u) Q E s
 | n,u,Q,N,hk,h=>by
  rcases hk.cases' N with ⟨i,t,rfl⟩ | ⟨a,o,Qz,m,k,rfl,ho,hc,hd,rfl,hi⟩
  ·cases n <;> exact QK h
  ·have hT:s.TypeIs (.ref a) "tuple":=⟨o,ho,hc⟩;unfold hashByValue
   (refine QI (Ve hT UD.lookup ?_))
   show Q_ _ _ (seqItems? (.ref a) >>= _) _ _ s
   (refine QI (XJ ho hd ?_))
   refine QI ?_;show Q_ _ _ (forIn Qz _ _) _ _ s;rw [<-Vf];refine Tn _ (λrest r s'=>r.1=none/\s=s'/\∀v∈rest,gQ K J k v) _ ?_ ?_ _ _ ⟨rfl,rfl,hi⟩
   ·(rintro v rest r s' ⟨hr,rfl,hall⟩)
    refine QI (Dw k N (hall v QV) ?_)
    (simp only [Td,Q8,if_false])
    (exact QK ⟨rfl,rfl,λu hu'=>hall u (QT _ hu')⟩)
   ·(rintro ⟨r1,r2⟩ s' ⟨hr,rfl,_⟩)
    simp only at hr;subst hr;exact QK h
theorem lW:∀(n:Nat){u:QL}{Q:Bool->QM->Prop},HF K J s->gQ K J n u->Q false s->Q_ (Rf prog w) A (YJ n u) Q E s
 | n,u,Q,N,hk,h=>by
  rcases hk.cases' N with ⟨i,t,rfl⟩ | ⟨a,o,Qz,m,k,rfl,ho,hc,hd,rfl,hi⟩
  ·cases n <;> exact QK h
  ·have hT:s.TypeIs (.ref a) "tuple":=⟨o,ho,hc⟩;unfold YJ
   (refine QI (VF hT ?_))
   dsimp only
   (refine QI (QK ?_))
   (simp only [Td,Q8,if_false])
   (refine QI (XJ ho hd ?_))
   dsimp only;refine QI ?_;show Q_ _ _ (forIn Qz _ _) _ _ s;rw [<-Vf];refine Tn _ (λrest r s'=>r.1=none/\s=s'/\∀v∈rest,gQ K J k v) _ ?_ ?_ _ _ ⟨rfl,rfl,hi⟩
   ·(rintro v rest r s' ⟨hr,rfl,hall⟩)
    refine QI (lW k N (hall v QV) ?_)
    (simp only [Q8,if_false])
    (exact QK ⟨rfl,rfl,λu hu'=>hall u (QT _ hu')⟩)
   ·(rintro ⟨r1,r2⟩ s' ⟨hr,rfl,_⟩)
    simp only at hr;subst hr;exact QK h
theorem Lx {Q:Bool->QM->Prop}(N:HF K J s) (hx:gQ K J 8 x) (hy:∀y∈ys,gQ K J 8 y) (h:Q false s):Q_ (Rf prog w) A (WB x ys) Q E s:=by
 unfold WB;refine QI ?_;refine Tn _ (λrest r s'=>r.1=none/\s=s'/\∀v∈rest,gQ K J 8 v) _ ?_ ?_ _ _ ⟨rfl,rfl,hy⟩
 ·(rintro v rest r s' ⟨hr,rfl,hall⟩)
  have nx:∀u∈rest,gQ K J 8 u:=λu hu'=>hall u (QT _ hu');dsimp only;have hv:=hall v QV;split
  ·split
   ·exact QK ⟨rfl,rfl,nx⟩
   ·refine QI (l_ 8 N hx ?_)
    (simp only [Td,Q8,if_false])
    refine QI (l_ 8 N hv ?_)
    (simp only [Td,Q8,if_false])
    refine QI (lW 8 N hx ?_)
    (simp only [Q8,if_false])
    refine QI (lW 8 N hv ?_)
    (simp only [Q8,if_false])
    exact QK ⟨rfl,rfl,nx⟩
  ·split
   ·exact QK ⟨rfl,rfl,nx⟩
   ·refine QI (l_ 8 N hx ?_)
    (simp only [Td,Q8,if_false])
    refine QI (l_ 8 N hv ?_)
    (simp only [Td,Q8,if_false])
    refine QI (lW 8 N hx ?_)
    (simp only [Q8,if_false])
    refine QI (lW 8 N hv ?_)
    (simp only [Q8,if_false])
    exact QK ⟨rfl,rfl,nx⟩
 ·(rintro ⟨r1,r2⟩ s' ⟨hr,rfl,_⟩)
  simp only at hr;subst hr;exact QK h
end
end DL
namespace DL
open PySem PySem.Spec PyProof.Rows L2 ST
def KV (K:QJ) (J:Hp) (u:QL) (d:D):Prop:=(∃a,u=.ref a)/\isKey d=true/\dep d<=8/\∃v,Rep K J d v/\RelV v u
theorem KV.key {K:QJ}{J:Hp}{u:QL}{d:D}(h:KV K J u d):gQ K J 8 u:=let ⟨_,a,b,v,c,e⟩:=h;⟨d,v,a,b,c,e⟩
inductive eG (K:QJ) (J:Hp):List (Int×QL)->List D->Prop
 | nil:eG K J [] []
 | cons {h:Int}{x:QL}{d:D}{es:List (Int×QL)}{ks:List D}:h=bP d->KV K J x d->eG K J es ks->eG K J ((h,x)::es) (d::ks)
section
variable {K:QJ}{J:Hp}
theorem eG.length {es:List (Int×QL)}{ks:List D}(h:eG K J es ks):es.length=ks.length:=by
 induction h with
 | nil=>rfl
 | cons _ _ _ ih=>simp [ih]
theorem eG.at_ (h:eG K J es ks):∀{i:Nat}{e:Int×QL},es[i]?=some e->∃d,ks[i]?=some d/\KV K J e.2 d/\e.1=bP d:=by
 induction h with
 | nil=>intro i e q;simp at q
 | @cons hh x d es ks h1 h2 _ ih=>
  intro i e q;cases i with
  | zero=>simp at q;subst q;exact ⟨d,rfl,h2,h1⟩
  | succ i=>simp at q;obtain ⟨d',a,b⟩:=ih q;exact ⟨d',by simpa using a,b⟩
theorem eG.mem (h:eG K J es ks):∀e∈es,∃d∈ks,KV K J e.2 d/\e.1=bP d:=λe he=>by obtain ⟨i,hi⟩:=Xh.mp he;obtain ⟨d,h1,h2⟩:=h.at_ hi;exact ⟨d,RH h1,h2⟩
theorem eG.back {es:List (Int×QL)}{ks:List D}(h:eG K J es ks){i:Nat}{d:D}(q:ks[i]?=some d):∃e,es[i]?=some e/\KV K J e.2 d/\e.1=bP d:=by
 have hi:i < es.length:=by rw [h.length];exact (Ri.mp q).1
 obtain ⟨d',h1,h2⟩:=h.at_ (Q4 hi);rw [q] at h1;cases h1;exact ⟨_,Q4 hi,h2⟩
theorem eG.perm {es es':List (Int×QL)}(p:es.Perm es'):∀{ks:List D},eG K J es ks->∃ks',ks.Perm ks'/\eG K J es' ks':=by
 induction p with
 | nil=>intro ks h;exact ⟨ks,.refl _,h⟩
 | cons x _ ih=>
  intro ks h;cases h with
  | cons h1 h2 h3=>obtain ⟨ks',a,b⟩:=ih h3;exact ⟨_,a.cons _,.cons h1 h2 b⟩
 | swap x y l=>
  intro ks h;cases h with
  | cons h1 h2 h3=>cases h3 with
   | cons h4 h5 h6=>exact ⟨_,.swap _ _ _,.cons h4 h5 (.cons h1 h2 h6)⟩
 | trans _ _ ih1 ih2=>
  intro ks h;obtain ⟨k1,a,b⟩:=ih1 h;obtain ⟨k2,c,d⟩:=ih2 b;exact ⟨k2,a.trans c,d⟩
end
theorem cJ {t:Sg}{es:Array (Int×QL)}(T:Tab t es L):t.fits es.size=true:=by
 have h1:t.place.size=L.length:=by rw [<-Q3,T.pl,QN]
 have h2:es.size=L.length:=by rw [<-Q3,T.en,QN]
 have h3:t.fill=L.length:=by unfold Ym;rw [T.dm,h1];rfl
 unfold SetTable.fits;rw [h1,h2,h3];simp [T.fl]
theorem IP {t:Sg}(T:Tab t es L):t.gaveWay=false:=by unfold SetTable.gaveWay;rcases T.mo with h | h | h <;> rw [h] <;> rfl
section
variable {prog:Ra}{w:Rz}{E:QL->QM->Prop}{K:QJ}{J:Hp}{A:RC}{s:QM}
theorem search {a:Rb}{o:Obj}{es:Array (Int×QL)}{ep:Nat}{t:Sg}{L:List (Nat×Int×QL)}{ks:List D}{x:QL}{d:D}{Q:SetFound->QM->Prop}(N:HF K J s) (ho:s.heap.get? a=some o) (hd:o.data=.set es ep t) (T:Tab t es L) (en:eG K J es.toList ks)
  (hx:KV K J x d) (hu:A.units + 8 < Sw) (n0:Nat) (hf:pos t.mask (bP d) n0∉L.map (·.1)) (hb:∀m,m < n0->pos t.mask (bP d) m∈L.map (·.1)) (hn0:n0<=10 * (t.mask + 12))
  (q1:d∈ks->Q (.there none) s) (q2:d∉ks->Q (.free (pos t.mask (bP d) n0) false) s):
  ∀(fuel n:Nat) (stand:Option SetTable.Probe),n<=n0->n0 - n < fuel->stand.getD (t.probeStart (bP d))=st t.mask (bP d) n->(∀k,k < n->∀(i:Nat) (e:Nat×Int×QL),L[i]?=some e->e.1=pos t.mask (bP d) k->ks[i]?≠some d)->
   Q_ (Rf prog w) A (aak a x (bP d) true fuel stand) Q E s
 | 0,n,stand,h1,h2,h3,h4=>absurd h2 (RZ _)
 | fuel + 1,n,stand,h1,h2,h3,h4=>by
  have esL:∀i,es[i]?=(L[i]?).map (λe:Nat×Int×QL=>e.2):=λi=>by rw [<-R_,T.en,Rc]
  unfold aak;refine QI (Ss ho hd (cJ T) ?_);dsimp only;rw [IP T]
  (simp only [Q8,if_false])
  rw [h3];obtain ⟨m,m1,m2,m3,m4⟩:=yK T (λi=>(es[i]?.map (·.1)).getD 0) (λi e q=>by rw [q];rfl) (bP d) n0 hf hb (n0 - n) n (10 * ZK t.mask) rfl h1 (by unfold ZK;omega);generalize hP:SetTable.probe t _ (bP d) (st t.mask (bP d) n)=r;rcases m4 with ⟨rfl,m4⟩ | ⟨m5,i,e,m6,m7,m8,m4⟩
  ·have:r=_:=hP.symm.trans m4;subst this;dsimp only;refine QK (q2 λhm=>?_);obtain ⟨i,hi⟩:=Xh.mp hm;obtain ⟨e,e1,e2,e3⟩:=en.back hi;rw [R_,esL] at e1;obtain ⟨e',e4,rfl⟩:=Option.map_eq_some_iff.mp e1;have hm':=RH e4;obtain ⟨k,k1,k2⟩:=T.pr _ hm';rw [e3] at k1 k2;have kl:k < m:=by
    rcases UC k m with c | c | c
    ·exact c
    ·subst c;rw [k1] at hf;exact absurd (QO.mpr ⟨_,hm',rfl⟩) hf
    ·exact absurd (k2 m c) hf
   by_cases c:k < n
   ·exact h4 k c i e' e4 k1.symm hi
   ·exact m3 k (by omega) kl e' hm' k1.symm e3
  ·have:r=_:=hP.symm.trans m4;subst this;dsimp only;have hei:es[i]?=some e.2:=by rw [esL,m6];rfl
   obtain ⟨d',f1,f2,f3⟩:=en.at_ (by rw [R_];exact hei);obtain ⟨⟨ya,g0⟩,g1,g2',v',g3,g4⟩:=id f2;obtain ⟨_,x1,x2,v,x3,x4⟩:=id hx;obtain ⟨j,hh,y⟩:=e;dsimp only at g0 g4 m7 m8 hei;subst g0;have cmp:=lG N A g3 x3 g4 x4 (by omega) (by omega) (by omega);have pass:∀(k:Sem SetFound),Q_ (Rf prog w) A k Q E s->Q_ (Rf prog w) A (if (!t.led)=true then do
     let c <-WB x (abp (λx=>x.snd) (Array.filter (λx=>x.fst == bP d) es).toList)
     if c=true then do unsupported "set:the-search-would-show-the-table";k else k
     else k) Q E s:=λk hk=>by
    split
    ·refine QI (Lx N hx.key (λy hy=>?_) ?_)
     ·obtain ⟨e',he',rfl⟩:=QO.mp hy;have:e'∈es.toList:=by rw [Array.toList_filter] at he';exact (RD.mp he').1
      obtain ⟨d2,_,h2,_⟩:=en.mem e' this;exact h2.key
     ·(simp only [Q8,if_false])
      exact hk
    ·exact hk
   refine pass _ ?_;rw [hei];dsimp only;refine QI (Rw (cmp _ _ _ _ ?_));refine QI (Ss ho hd (cJ T) ?_);dsimp only;by_cases c:bg d' d=true
   ·rw [c]
    (simp only [aae,if_true])
    refine QK (q1 ?_);rw [<-yv g1 x1 c];exact RH f1
   ·rw [Bool.not_eq_true] at c;rw [c];have sm:t.sameMemory t.moves t.mask=some true:=by unfold SetTable.sameMemory;simp
    have sl:t.slot (pos t.mask (bP d) m)=.live i:=oY T.sop (by rw [<-m7];exact (T.at_ m6).1);rw [sm];simp only [Uh,Q8,if_false,if_true];rw [sl];dsimp only;rw [hei];dsimp only;refine QI (wpAny_isSame_ref_self ?_);simp only [if_true]
    (refine QI (QK ?_))
    dsimp only;refine search N ho hd T en hx hu n0 hf hb hn0 q1 q2 fuel (m + 1) _ (by omega) (by omega) rfl λk hk i2 e2 z1 z2 z3=>?_;by_cases c1:k < n
    ·exact h4 k c1 i2 e2 z1 z2 z3
    ·by_cases c2:k < m
     ·obtain ⟨dd,w1,_,w3⟩:=en.at_ (i:=i2) (e:=e2.2) (by rw [R_,esL,z1];rfl);rw [z3] at w1;cases w1;exact m3 k (by omega) c2 e2 (RH z1) z2 w3
     ·obtain rfl:k=m:=by omega
      have hi2:i2=i:=by
       obtain ⟨p1,p2⟩:=Ri.mp z1;obtain ⟨p3,p4⟩:=Ri.mp m6;have sw:=Si.mp T.so;rcases UC i2 i with c | c | c
       ·have:=sw i2 i (by simpa using p1) (by simpa using p3) c;simp [p2,p4] at this;omega
       ·exact c
       ·have:=sw i i2 (by simpa using p3) (by simpa using p1) c;simp [p2,p4] at this;omega
      subst hi2;rw [f1] at z3;cases z3;rw [eN] at c;exact absurd c (by decide)
end
structure fW (K:QJ) (J:Hp) (h:Sn) (a:Rb) (led:Bool) (ks:List D) (es:Array (Int×QL)) (ep:Nat) (t:Sg):Prop where
 at_:h.get? a=some {cls:=.type "set",dict:=none,data:=.set es ep t}
 tab:∃L,Tab t es L
 pl:t.plain=true
 ld:t.led=led
 rm:ks.length * 5 < t.mask * 3
 en:eG K J es.toList ks
 nd:ks.Nodup
theorem CH (mask i:Nat) (h:i<=mask):i + (Zj mask i - i)<=mask:=by unfold Zj;split <;> omega
theorem GI (mask:Nat) (h:Int):∀n,(ST.st mask h n).j + (ST.st mask h n).more<=mask
 | 0=>CH mask _ (Vu (Wz _ (by omega)))
 | n + 1=>by
  have ih:=GI mask h n;show (WY _ (ST.st mask h n)).j + (WY _ (ST.st mask h n)).more<=mask;unfold WY;split
  ·dsimp only;omega
  ·exact CH mask _ (Vu (Wz _ (by omega)))
theorem yJ (mask:Nat) (h:Int) (n:Nat):ST.pos mask h n<=mask:=by have:=GI mask h n;show (ST.st mask h n).j<=mask;omega
theorem zM:SA 20=32:=by decide +kernel
theorem zN:SA 76=128:=by decide +kernel
theorem mz {es:Array (Int×QL)}{L:List (Nat×Int×QL)}(T:Tab t es L):L.length=es.size:=by rw [<-Q3,T.en,QN]
section
variable {prog:Ra}{w:Rz}{E:QL->QM->Prop}{K:QJ}{J:Hp}{A:RC}{s:QM}
theorem Me {es:Array (Int×QL)}{t:Sg}{ks:List D}{Q:Unit->QM->Prop}(ho:s.heap.get? a=some {cls:=.type "set",dict:=none,data:=.set es ep t}) (T:Tab t es L) (hp:t.plain=true) (hl:t.led=led)
 (en:eG K J es.toList ks) (nd:ks.Nodup) (W:Nat) (hW:(SA W=32/\ks.length=5)\/(SA W=128/\ks.length=19))
 (h:∀(h':Sn) ks' es' ep' t',SE a s.heap h'->ks.Perm ks'->fW K J h' a led ks' es' ep' t'->Q () {s with heap:=h'}):Q_ (Rf prog w) A (setRelay a W) Q E s:=by
 have hsz:es.size=ks.length:=by rw [<-Q3,en.length]
 have hm:kh (SA W - 1):=by rcases hW with ⟨h,_⟩ | ⟨h,_⟩ <;> rw [h];exact .inr (.inl rfl);exact .inr (.inr rfl)
 obtain ⟨t',QH,L',e1,e2,e3,e4,e5,e6⟩:=vH (t:=t) (es:=es) hm (by rcases hW with ⟨h,_⟩ | ⟨h,_⟩ <;> rw [h] <;> omega);unfold setRelay;refine QI (Ss ho rfl (cJ T) ?_);dsimp only;rw [if_neg (by rw [RX];rcases hW with ⟨h,_⟩ | ⟨h,_⟩ <;> rw [h] <;> omega)];have sz':(QH.filterMap (es[·]?)).size=es.size:=by rw [<-Q3,e6.length_eq,Q3]
 rw [e1];have cnd:((QH.filterMap (es[·]?)).size != es.size)=false:=by rw [sz'];simp
 refine QI (UW (a:=(QH.filterMap (es[·]?),t')) ?_ ?_)
 ·show (if ((QH.filterMap (es[·]?)).size != es.size)=true then _ else pure (QH.filterMap (es[·]?),t'))=_;rw [cnd];rfl
 ·dsimp only;obtain ⟨ks',p1,p2⟩:=en.perm e6.symm;refine Vw ho rfl ?_ (by rw [sz',RX];rcases hW with ⟨_,h⟩ | ⟨_,h⟩ <;> omega);have hg:=Sa (WC (QH.filterMap (es[·]?)) t') ho rfl;refine h _ ks' _ _ _ (So _ _ _) p1 ⟨hg,⟨L',e5⟩,e4.trans hp,e3.trans hl,?_,p2,p1.nodup_iff.mp nd⟩;rw [<-p1.length_eq,e2];rcases hW with ⟨h,h'⟩ | ⟨h,h'⟩ <;> rw [h,h'] <;> omega
theorem GY {a:Rb}{es:Array (Int×QL)}{ep:Nat}{t:Sg}{led:Bool}{ks:List D}{x:QL}{d:D}{Q:Bool->QM->Prop}(N:HF K J s) (S:fW K J s.heap a led ks es ep t) (hx:KV K J x d) (hu:A.units + 8 < Sw) (hl:ks.length < 76)
  (q1:d∈ks->Q false s) (q2:d∉ks->∀(h':Sn) ks' es' ep' t',SE a s.heap h'->(d::ks).Perm ks'->fW K J h' a led ks' es' ep' t'->Q true {s with heap:=h'}):
  Q_ (Rf prog w) A (Xi a x (bP d)) Q E s:=by
 obtain ⟨L,T⟩:=S.tab;have lenL:L.length=ks.length:=by rw [mz T,<-Q3,S.en.length]
 obtain ⟨n0,b1,b2,b3⟩:=sf T.mo (bP d) (L.map (·.1)) (by rw [QN];exact T.fl);have hj:pos t.mask (bP d) n0<=t.mask:=yJ _ _ _
 (unfold Xi ZL)
 refine Rw (QI (Ss S.at_ rfl (cJ T) ?_));dsimp only;have ns:byScan x es=false:=by obtain ⟨⟨xa,rfl⟩,_⟩:=hx;rfl
 rw [ns]
 (simp only [Q8,if_false])
 unfold setSearch;refine QI (search N S.at_ rfl T S.en hx hu n0 b2 b3 b1 (λhm=>?_) (λhm=>?_) 100000 0 none (Rm _) (by rcases T.mo with h | h | h <;> rw [h] at b1 <;> omega) rfl (λk hk=>absurd hk (RZ _)))
 ·exact QK (q1 hm)
 ·dsimp only;refine QI (Ss S.at_ rfl (cJ T) ?_);dsimp only;obtain ⟨L',T',pm⟩:=T.put (bP d) x n0 b2 b3 hj (by have:=S.rm;rcases T.mo with h | h | h <;> rw [h] at this <;> omega);have fl:(t.put (pos t.mask (bP d) n0)).1.mask=t.mask/\(t.put (pos t.mask (bP d) n0)).1.plain=t.plain/\(t.put (pos t.mask (bP d) n0)).1.led=t.led:=⟨rfl,rfl,rfl⟩;generalize t.put (pos t.mask (bP d) n0)=tp at T' fl ⊢;obtain ⟨t',p⟩:=tp;dsimp only at T' fl ⊢;obtain ⟨f1,f2,f3⟩:=fl;have en':∃ks',(d::ks).Perm ks'/\eG K J (Su es p (bP d,x)).toList ks':=by refine eG.perm (es:=(bP d,x)::es.toList) ?_ (.cons rfl hx S.en);rw [T'.en,T.en];have:=pm.map (·.2);exact this.symm
  obtain ⟨ks',p1,p2⟩:=en';have nd':ks'.Nodup:=p1.nodup_iff.mp (SX.mpr ⟨hm,S.nd⟩);have lk:ks'.length=ks.length + 1:=by rw [<-p1.length_eq];rfl
  rw [f2,S.pl];simp only [if_true];refine QI (Dw 8 N hx.key ?_);simp only [if_true];have esz:(Su es p (bP d,x)).size=ks'.length:=by rw [<-Q3,p2.length]
  refine QI (Vw S.at_ rfl ?_ (by rw [esz,RX];omega));have hg:=Sa (WC (Su es p (bP d,x)) t') S.at_ rfl;have hfill:t'.fill=ks'.length:=by unfold Ym;rw [T'.dm,<-Q3,T'.pl,QN,mz T',esz];rfl
  have hes:es.size=ks.length:=by rw [<-Q3,S.en.length]
  split
  ·rename_i c;simp only [VA,Ub] at c;unfold VS at c;rw [hfill,f1,decide_eq_true_eq] at c;have rm:=S.rm;refine QI (Me (s:={s with heap:=s.heap.update a (WC (Su es p (bP d,x)) t')}) hg T' (f2.trans S.pl) (f3.trans S.ld) p2 nd' _ ?_ λh' ks2 es2 ep2 t2 g1 g2' g3=>?_)
   ·rw [hes];unfold VB;rw [if_neg (by omega)];rcases T.mo with h | h | h
    ·rw [h] at c rm;have:ks.length + 1=5:=by omega
     rw [this];exact .inl ⟨zM,by omega⟩
    ·rw [h] at c rm;have:ks.length + 1=19:=by omega
     rw [this];exact .inr ⟨zN,by omega⟩
    ·rw [h] at c;omega
   ·exact QK (q2 hm h' ks2 es2 ep2 t2 ((So _ _ _).trans g1) (p1.trans g2') g3)
  ·rename_i c;simp only [VA,Ub] at c;unfold VS at c;rw [hfill,f1,decide_eq_true_eq] at c;exact QK (q2 hm _ ks' _ _ _ (So _ _ _) p1 ⟨hg,⟨L',T'⟩,f2.trans S.pl,f3.trans S.ld,by rw [f1];omega,p2,nd'⟩)
end
theorem fW.keep {K:QJ}{J:Hp}{h h':Sn}{a:Rb}{led:Bool}{ks:List D}{es:Array (Int×QL)}{ep:Nat}{t:Sg}(S:fW K J h a led ks es ep t) (e:∀o,h.get? a=some o->h'.get? a=some o):fW K J h' a led ks es ep t:=
 ⟨e _ S.at_,S.tab,S.pl,S.ld,S.rm,S.en,S.nd⟩
section
variable {prog:Ra}{w:Rz}{A:RC}{R:Y6->QM->Prop}{I:Rb}{fp wr:List Rb}{G:Array YY->Array YY->Prop}{n:Nat}{P:Nat->QL->Prop}{St:Nat->QM->Prop}{K:QJ}{J:Hp}
theorem FP (W:aax prog w A.in1 I fp wr G n P St) (S:Rb) (hSf:S∉fp) (val:Nat->D) (hval:∀i v,P i v->KV K J v (val i)){s0:QM}(N0:HF K J s0) (hnew:∀b∈S::wr,s0.heap.get? b=none) (hu:A.in1.units + 8 < Sw) (hn:n<=76){led:Bool}:
  ∀(k i:Nat) (s:QM) (ks:List D) (es:Array (Int×QL)) (ep:Nat) (t:Sg),n - i=k->i<=n->St i s->(∀b o,s0.heap.get? b=some o->s.heap.get? b=some o)->fW K J s.heap S led ks es ep t->(∀d,d∈ks↔d∈(QS i).map val)->
   (∀s' ks' es' ep' t',Moved (S::wr) G s s'->fW K J s'.heap S led ks' es' ep' t'->(∀d,d∈ks'↔d∈(QS n).map val)->R (.ok (.ret .none)) s')->
   (S6 (Rf prog w) A (.builtin "set.update.loop" ⟨[.ref S,.ref I],[]⟩) R s):=by
 (have O7:S∉wr:=λh=>hSf (W.sub _ h))
 (have hsub:∀b∈wr,b∈S::wr:=λb hb=>QT _ hb)
 have old:∀b o,s0.heap.get? b=some o->b∉S::wr:=λb o e hm=>by rw [hnew b hm] at e;cases e
 intro k
 induction k with
 | zero=>
  intro i s ks es ep t hk hi hst hb hS hm hR;have hin:i=n:=by omega
  subst hin;refine Sz Sj ?_;rw [R6 Rq _]
  (show Q_ _ A.in1 (Vg (.ref I) >>= _) _ _ s)
  refine QI (W.done s _ _ hst λs' OB=>?_)
  (show Q_ _ A.in1 (ret RU) _ _ s')
  exact QK (hR s' ks es ep t (OB.mono hsub) (hS.keep λo e=>OB.heap S o O7 e) hm)
 | succ k ih=>
  intro i s ks es ep t hk hi hst hb hS hm hR;have hlt:i < n:=by omega
  have hlen:ks.length<=i:=by have:=Rv hS.nd (λd hd=>(hm d).mp hd);simpa using this
  refine Sz Sj ?_;rw [R6 Rq _]
  (show Q_ _ A.in1 (Vg (.ref I) >>= _) _ _ s)
  refine QI (W.item i s _ _ hlt hst λv s' hP OL OB=>?_);have hx:=hval i v hP;obtain ⟨_,x1,x2,vv,x3,x4⟩:=id hx;have hS':=hS.keep (h':=s'.heap) λo e=>OB.heap S o O7 e;have hb':∀b o,s0.heap.get? b=some o->s'.heap.get? b=some o:=λb o e=>OB.heap b o (λhm=>old b o e (hsub b hm)) (hb b o e);have N':HF K J s':=N0.keep hb';have mem':∀(ks':List D),(∀d,d∈ks'↔d=val i\/d∈ks)->∀d,d∈ks'↔d∈(QS (i + 1)).map val:=λks' h d=>by rw [h d,hm d,Uv,Rg,Rn];simp only [Q6,VG,Q7];exact Or.comm
  show Q_ _ A.in1 (holding [v] (setAdd S v) >>= _) _ _ s'
  (refine QI (Rw ?_))
  unfold setAdd;refine Rw ?_;refine QI (uO (val i) vv v A.in1 s' N' x1 x3 x4 (by omega) _ _ _ N' ?_);refine GY (s:={s' with toks:=s'.toks + jw (val i)}) (⟨N'.t,N'.l,N'.e,N'.d⟩:HF K J {s' with toks:=s'.toks + jw (val i)}) hS' hx hu (by omega) (λhin=>?_) (λhin h' ks' es' ep' t' O6 Pz O4=>?_)
  ·refine QK ⟨T9 Rq _,ih (i + 1) _ ks es ep t (by omega) hlt (W.frame _ s' _ _ OL (UR _ _) λb hb o e=>e) hb' hS' (mem' ks λd=>⟨.inr,λh=>h.elim (λh=>h▸hin) id⟩) λs'' ks'' es'' ep'' t'' hm'' hS'' ON=>?_⟩;exact hR s'' ks'' es'' ep'' t'' (XX W.gtrans ((OB.mono hsub).then_heap (UR _ _) λb o hb e=>e) hm'') hS'' ON
  ·refine QK ⟨T9 Rq _,ih (i + 1) _ ks' es' ep' t' (by omega) hlt (W.frame _ s' _ _ OL (UR _ _) λb hb o e=>?_) (λb o e=>?_) O4 (mem' ks' λd=>?_) λs'' ks'' es'' ep'' t'' hm'' hS'' ON=>?_⟩
   ·(rw [O6.2 b (λh:b=S=>hSf (by rw [<-h];exact hb))];exact e)
   ·show h'.get? b=some o;rw [O6.2 b (λh:b=S=>old b o e (by rw [h];exact QV))];exact hb' b o e
   ·rw [<-Pz.mem_iff,Q9]
   ·refine hR s'' ks'' es'' ep'' t'' (XX W.gtrans ((OB.mono hsub).then_heap (UR _ _) λb o hb e=>?_) hm'') hS'' ON
    (rw [O6.2 b (λh:b=S=>hb (by rw [h];exact QV))];exact e)
end
theorem BG {K:QJ}{J:Hp}{h:Sn}{a:Rb}{led:Bool}(e:h.get? a=some {cls:=.type "set",dict:=none,data:=.set #[] 0 (.fresh 0 0 led)}):fW K J h a led [] #[] 0 (.fresh 0 0 led):=
 ⟨e,⟨[],⟨rfl,rfl,rfl,Uz,(λ_ h=>nomatch h),.inl rfl,Rm _,(λ_ h=>nomatch h)⟩⟩,rfl,rfl,(show 0 * 5 < 7 * 3 by decide),.nil,Tg⟩
end DL
namespace ST
open PySem PySem.SetTable
theorem xJ {xs:Array Nat}(hs:xs.toList.Pairwise (· < ·)) (hi:i<=xs.size) (h1:∀k,k < i->xs.getD k 0 < j) (h2:∀k,i<=k->k < xs.size->j<=xs.getD k 0):below xs j=i:=by
 obtain ⟨b1,b2,b3⟩:=mF xs j hs;rcases UC (below xs j) i with c | c | c
 ·have:=h1 _ c;have:=b3 _ (QW _) (by omega);omega
 ·exact c
 ·have:=b2 _ c;have:=h2 i (QW _) (by omega);omega
theorem A4 {xs:Array Nat}(hs:xs.toList.Pairwise (· < ·)):below xs 0=0:=xJ hs (Rm _) (λk h=>absurd h (RZ _)) λk _ _=>Rm _
theorem A3 {xs:Array Nat}(hs:xs.toList.Pairwise (· < ·)) (h:xs[i]?=some j):below xs (j + 1)=i + 1:=by
 obtain ⟨hi,e⟩:=RV.mp h;have sw:=Si.mp hs;have gd:∀k (hk:k < xs.size),xs.getD k 0=xs[k]:=λk hk=>by simp [SO,hk]
 refine xJ hs (by omega) (λk hk=>?_) (λk h1 h2=>?_)
 ·rw [gd k (by omega)];by_cases c:k=i
  ·subst c;omega
  ·have:=sw k i (by simp;omega) (by simpa using hi) (by omega);simp at this;omega
 ·rw [gd k h2];have:=sw i k (by simpa using hi) (by simpa using h2) (by omega);simp at this;omega
theorem vD {α:Type}(next:Nat->Nat):∀(f k:Nat) (left:List α) (out:Array α),f=left.length->(YQ next f k left out).toList.Perm (out.toList++left)
 | 0,k,left,out,h=>by have:left=[]:=Tf.mp h.symm;subst this;unfold YQ;simp
 | f + 1,k,left,out,h=>by
  have hl:next k % left.length < left.length:=Wz _ (by omega);unfold YQ;rw [Q4 hl];dsimp only;refine (vD next f (k + 1) _ _ (by rw [Xz];simp [hl];omega)).trans ?_;rw [YI,UE]
  (refine aay _ ?_)
  have e1:left.eraseIdx (next k % left.length)=left.take (next k % left.length)++left.drop (next k % left.length + 1):=T3 _ _;have e2:left=left.take (next k % left.length)++left[next k % left.length]::left.drop (next k % left.length + 1):=by rw [Vl,Uu]
  rw [e1,VH];exact (WX.symm).trans (Zk e2.symm)
theorem Bu {α:Type}(next:Nat->Nat) (xs:Array α):(Zl next xs).toList.Perm xs.toList:=by have h:=vD next xs.size 0 xs.toList #[] (by simp);rw [show (#[]:Array α).toList++xs.toList=xs.toList from rfl] at h;exact h
end ST
namespace DL
open PySem PySem.Spec PyProof.Rows L2 ST
structure iS (h:Sn) (a:Rb) (led:Bool) (es:Array (Int×QL)) (ep:Nat) (t:Sg):Prop where
 at_:h.get? a=some {cls:=.type "set",dict:=none,data:=.set es ep t}
 tab:∃L,Tab t es L
 pl:t.plain=true
 ld:t.led=led
theorem iS.keep {h h':Sn}(S:iS h a led es ep t) (e:∀o,h.get? a=some o->h'.get? a=some o):iS h' a led es ep t:=⟨e _ S.at_,S.tab,S.pl,S.ld⟩
theorem fW.wk {K:QJ}{J:Hp}{h:Sn}{a:Rb}{led:Bool}{ks:List D}{es:Array (Int×QL)}{ep:Nat}{t:Sg}(S:fW K J h a led ks es ep t):iS h a led es ep t:=⟨S.at_,S.tab,S.pl,S.ld⟩
abbrev mV (w:Rz):Bool:=!w.params.followText "set-order"
noncomputable def ff (w:Rz) (a ep:Nat) (es:Array (Int×QL)):Array (Int×QL):=if w.params.followText "set-order"=true then Zl (w.params.setOrder a ep) es else es
theorem kZ (w:Rz) (a ep:Nat) (es:Array (Int×QL)):(ff w a ep es).toList.Perm es.toList:=by
 unfold ff;split
 ·exact Bu _ _
 ·exact .refl _
theorem k8 (w:Rz) (a ep:Nat) (es:Array (Int×QL)):(ff w a ep es).size=es.size:=by rw [<-Q3,(kZ w a ep es).length_eq,Q3]
abbrev nG (a:Rb) (slot i n ep:Nat):Obj:={cls:=.type "set_iterator",data:=.fields #[.int slot 0,.int i 0,.ref a,.int n 0,.int ep 0]}
theorem rZ:aa5 table "set.__iter__"=some VL.«frozenset.__iter__»:=
 (ZM (id':="frozenset.__iter__") (by kernel_rfl) rfl (by decide +kernel) (by kernel_rfl))
theorem fc:Slot "set_iterator" "__next__" "set_iterator.__next__":=
 (.of (owner:="set_iterator") (n:="__next__") (by rw [Xj,VI];kernel_rfl) (by decide +kernel) (by decide +kernel) (by decide +kernel)
  (by first | exact .inl (by decide +kernel) | exact .inr (by decide +kernel)) (by rw [UO];kernel_rfl))
theorem nD:aa5 table "set_iterator.__next__"=some VL.«set_iterator.__next__»:=(entryFor_of_tree (by kernel_rfl))
theorem nY (a:QL):argsOk "set_iterator.__next__" ⟨[a],[]⟩:=by unfold argsOk;kernel_rfl
section
variable {prog:Ra}{w:Rz}{A:RC}{E:QL->QM->Prop}{s:QM}
theorem EF {es:Array (Int×QL)}{Q:QL->QM->Prop}(S:iS s.heap a led es ep t)
 (hQ:Q (.ref s.heap.objs.size) {s with heap:=s.heap.push (nG a 0 0 es.size ep)}):Q_ (Rf prog w) A (Wv (.ref a)) Q E s:=by
 obtain ⟨L,T⟩:=S.tab;have hT:s.TypeIs (.ref a) "set":=⟨_,S.at_,rfl⟩;refine WD hT Zm (RO Zm hT rZ ?_ (F.args_set_iter_1 _));show Q_ _ _ (WE a >>= _) _ _ s;unfold WE;refine QI (QI (Wb S.at_ rfl (cJ T) (QK ?_)));unfold setDrawn Z3;refine QI (QI (Ss S.at_ rfl (cJ T) (QI (QI (Tp (QK (QK ?_)))))));dsimp only;split
 ·rename_i c;have c:(!w.params.followText "set-order" && (!t.plain && decide (es.size > 1)))=true:=c;rw [S.pl] at c;simp at c
 ·(refine QI (QK ?_))
  refine QI (wpAny_setEpoch_of S.at_ rfl (cJ T) ?_)
  (refine QI (Rx ?_))
  exact QK ⟨_,rfl,"set_iterator",_,⟨_,Q2 _ rfl,rfl⟩,fc.lookup,hQ⟩
theorem yV {t:Sg}{Q:Option (QL×Nat)->QM->Prop}(S:iS s.heap a (mV w) es ep t) (hb:w.params.followText "set-order"=false->UP t.place slot=i)
 (q1:∀e slot',(ff w a ep es)[i]?=some e->(w.params.followText "set-order"=false->UP t.place slot'=i + 1)->Q (some (e.2,slot')) s) (q2:(ff w a ep es)[i]?=none->Q none s):
  Q_ (Rf prog w) A (setNext a slot i ep) Q E s:=by
 obtain ⟨L,T⟩:=S.tab;unfold setNext Z3;refine QI (Ss S.at_ rfl (cJ T) ?_);dsimp only
 (refine QI (QI (Tp (QK ?_))))
 dsimp only;cases bt:w.params.followText "set-order" with
 | true=>
  rw [show (Rf prog w).w.params.followText "set-order"=true from bt];simp only [if_true,bne_self_eq_false,Q8,if_false];unfold setWalk Z3;refine QI (QI (Ss S.at_ rfl (cJ T) ?_));dsimp only
  (refine QI (QI (Tp (QK ?_))))
  dsimp only;rw [show (Rf prog w).w.params.followText "set-order"=true from bt];simp only [if_true];refine QI (Tp (QK ?_));dsimp only;have ew:ff w a ep es=Zl ((Rf prog w).w.params.setOrder a ep) es:=by unfold ff;rw [if_pos bt];rfl
  rw [ew] at q1 q2;cases q:(Zl ((Rf prog w).w.params.setOrder a ep) es)[i]? with
  | none=>exact QK (q2 q)
  | some e=>exact QK (q1 e slot q λz=>absurd (bt.symm.trans z) (by decide))
 | false=>
  rw [show (Rf prog w).w.params.followText "set-order"=false from bt]
  (simp only [Q8,if_false])
  have ew:ff w a ep es=es:=by unfold ff;rw [if_neg (by rw [bt];decide)]
  rw [ew] at q1 q2;have Pq:t.led=true:=by rw [S.ld];show (!w.params.followText "set-order")=true;rw [bt];rfl
  split
  ·rename_i c;have c:(!t.plain && decide (es.size > 1))=true:=c;rw [S.pl] at c;simp at c
  ·refine QI (UW (a:=()) ?_ ?_)
   ·show (if (!t.led && !es.isEmpty)=true then _ else pure ())=pure ();rw [Pq];rfl
   ·rw [hb bt];cases q:es[i]? with
    | none=>exact QK (q2 q)
    | some e=>
     have hlen:i < t.place.size:=by
      have h1:=(RV.mp q).1;have h2:t.place.size=es.size:=by rw [<-Q3,T.pl,QN,mz T]
      omega
     have ep':t.place[i]?=some t.place[i]:=TH hlen;rw [ep'];exact QK (q1 e _ q λ_=>A3 T.sop ep')
theorem EX {es:Array (Int×QL)}{t:Sg}{Q:Option QL->QM->Prop}(hne:a≠I) (S:iS s.heap a (mV w) es ep t) (hI:s.heap.get? I=some (nG a slot i es.size ep)) (hb:w.params.followText "set-order"=false->UP t.place slot=i) (hi:i < es.size)
 (hQ:∀h' slot' e,(ff w a ep es)[i]?=some e->h'.get? I=some (nG a slot' (i + 1) es.size ep)->(w.params.followText "set-order"=false->UP t.place slot'=i + 1)->SE I s.heap h'->Q (some e.2) {s with heap:=h'}):
  Q_ (Rf prog w) A (Vg (.ref I)) Q E s:=by
 obtain ⟨L,T⟩:=S.tab;have hT:s.TypeIs (.ref I) "set_iterator":=⟨_,hI,rfl⟩;unfold Vg;refine QI (U_ (Sy (name:=VE "__next__") hT fc (RO fc hT nD ?_ (nY _))));show Q_ _ _ (fieldsOf (.ref I) >>= _) _ _ s;refine QI (Wo hI rfl ?_);dsimp only;refine QI (Wb S.at_ rfl (cJ T) ?_);simp only [bne_self_eq_false,Q8,if_false,SM];refine QI (yV S hb (λe slot' q1 q2=>?_) λq=>?_)
 ·dsimp only;refine QI (Wm hI (by simp) λh1 g1 b1=>?_);refine QI (Wm (s:={s with heap:=h1}) g1 (by simp) λh2 g2' b2=>?_);exact QK ⟨_,rfl,QK (hQ h2 slot' e q1 (g2'.trans (by simp [ZU])) q2 (b1.trans b2))⟩
 ·exfalso;have:=(Array.getElem?_eq_none_iff.mp q);rw [k8] at this;omega
theorem Hg {es:Array (Int×QL)}{t:Sg}{Q:Option QL->QM->Prop}(hh:A.handled=none) (S:iS s.heap a (mV w) es ep t) (hI:s.heap.get? I=some (nG a slot es.size es.size ep)) (hb:w.params.followText "set-order"=false->UP t.place slot=es.size)
 (hQ:∀h',aaW I s.heap h'->Q none {s with heap:=h'}):Q_ (Rf prog w) A (Vg (.ref I)) Q E s:=by
 obtain ⟨L,T⟩:=S.tab;have hT:s.TypeIs (.ref I) "set_iterator":=⟨_,hI,rfl⟩;unfold Vg;refine QI (U_ (Sy (name:=VE "__next__") hT fc (RO fc hT nD ?_ (nY _))));show Q_ _ _ (fieldsOf (.ref I) >>= _) _ _ s;refine QI (Wo hI rfl ?_);dsimp only;refine QI (Wb S.at_ rfl (cJ T) ?_);simp only [bne_self_eq_false,Q8,if_false,SM];refine QI (yV S hb (λe slot' q1 q2=>?_) λq=>?_)
 ·exfalso;have:=(RV.mp q1).1;rw [k8] at this;omega
 ·dsimp only;refine QI (Wm hI (by simp) λh1 g1 b1=>?_);refine QI ?_;simp only [newExc,newTuple]
  (refine QI (Rx ?_ (by size_fits)))
  (refine QI (m:=Wq _ _) (UW (a:=RU) (by first | rfl | (simp only [Wq];rfl)) ?_))
  (refine Rx ?_ (by size_fits))
  simp only [raiseNew]
  (refine QI (aal ?_))
  (first | rw [show A.in1.handled=none from hh] | rw [hh])
  (refine QI (QK (wpAny_throw ?_)))
  (refine QI (VR (T:="StopIteration") (b:=true) ⟨_,Q2 _ rfl,rfl⟩ ZN ?_))
  exact QK (hQ _ ((b1.extBut.push _).push _))
end
theorem wL:typeLookup (.type "set") "__len__"=pure (some (.builtin "set.__len__")):=by rw [Xj,VI];kernel_rfl
theorem D0 {M:aa6}{A:RC}{E:QL->QM->Prop}{s:QM}{α:Type}{c:Prop} [Decidable c] {m1 m2:Sem α}{Q:α->QM->Prop}(hc:c) (h:Q_ M A m1 Q E s):Q_ M A (if c then m1 else m2) Q E s:=by rw [if_pos hc];exact h
theorem EC {prog:Ra}{w:Rz}{A:RC}{E:QL->QM->Prop}{s:QM}{a:Rb}{Q:Bool->QM->Prop}(hT:s.TypeIs (.ref a) "set") (hQ:Q false s):Q_ (Rf prog w) A (Wc (.ref a)) Q E s:=by
 have sp:splitId "set.__len__"=some ("set","__len__"):=by decide +kernel
 (unfold Wc)
 refine QI (Ve hT wL ?_);dsimp -zeta only;rw [sp];dsimp -zeta only;refine QI (m:=ZY (.ref a) (.type "set")) (VR hT sub_set_self ?_)
 (show Q_ _ _ (if (!true)=true then _ else _) _ _ _)
 rw [if_neg (by decide)];refine D0 (by decide +kernel) ?_
 (refine QI (VF hT ?_))
 exact QK hQ
theorem oZ:Slot "set_iterator" "__iter__" "set_iterator.__iter__":=
 ((.of (owner:="set_iterator") (n:="__iter__") (by rw [Xj,VI];kernel_rfl) (by decide +kernel) (by decide +kernel) (by decide +kernel)
  ((by first | exact .inl (by decide +kernel) | exact .inr (by decide +kernel))) (by rw [UO];kernel_rfl)))
theorem wI:aa5 table "set_iterator.__iter__"=some VL.«dict_keyiterator.__iter__»:=
 (ZM (id':="dict_keyiterator.__iter__") (by kernel_rfl) rfl (by decide +kernel) (by kernel_rfl))
theorem xG (a:QL):argsOk "set_iterator.__iter__" ⟨[a],[]⟩:=by unfold argsOk;kernel_rfl
section
variable {prog:Ra}{w:Rz}{A:RC}{E:QL->QM->Prop}{s:QM}
def iM (w:Rz) (a ep:Nat) (es:Array (Int×QL)):List QL:=(ff w a ep es).toList.map (·.2)
theorem DZ (hh:A.handled=none) (I a:Rb) (hne:a≠I){es:Array (Int×QL)}{t:Sg}:
  Walks prog w A I [I,a] [I] es.size (λi v=>(iM w a ep es)[i]?=some v) (λi h=>∃slot,h.get? I=some (nG a slot i es.size ep)/\iS h a (mV w) es ep t/\(w.params.followText "set-order"=false->UP t.place slot=i)) where
 sub:=λ_ hb=>by simp at hb;simp [hb]
 frame:=λ_ _ _ ⟨slot,h1,h2,h3⟩ hk=>⟨slot,hk I (by simp) _ h1,h2.keep λo e=>hk a (by simp) o e,h3⟩
 item:=λi s Q E hi ⟨slot,h1,h2,h3⟩ hQ=>by
  refine EX hne h2 h1 h3 hi λh' slot' e q1 q2 q3 q4=>?_;refine hQ e.2 h' s.toks ?_ ⟨slot',q2,h2.keep λo e=>?_,q3⟩ λb o hb e=>?_
  ·unfold iM;rw [Rc,R_,q1];rfl
  ·rw [q4.2 a hne];exact e
  ·exact q4.extBut b o (λh=>hb (by simp [h])) e
 done:=λs Q E ⟨slot,h1,h2,h3⟩ hQ=>Hg hh h2 h1 h3 λh' he=>hQ h' s.toks λb o hb e=>he b o (λh=>hb (by simp [h])) e
 self:=λi s Q E ⟨slot,h1,h2,h3⟩ hQ=>by have hT:s.TypeIs (.ref I) "set_iterator":=⟨_,h1,rfl⟩;refine WD hT oZ (RO oZ hT wI ?_ (xG _));show Q_ _ _ (ret (.ref I)) _ _ s;exact QK ⟨_,rfl,"set_iterator",_,hT,fc.lookup,hQ⟩
theorem qa {a:Rb}{es:Array (Int×QL)}{ep:Nat}{t:Sg}{Q:List QL->QM->Prop}(hh:A.handled=none) (S:iS s.heap a (mV w) es ep t) (hn:es.size<=76)
  (hQ:∀(h':Sn) (tk:Nat),(∀b o,s.heap.get? b=some o->h'.get? b=some o)->s.heap.objs.size < h'.objs.size->Q (iM w a ep es) {s with heap:=h',toks:=tk}):Q_ (Rf prog w) A (collect (.ref a)) Q E s:=by
 have ha:a < s.heap.objs.size:=Q5 S.at_;have hT:s.TypeIs (.ref a) "set":=⟨_,S.at_,rfl⟩;unfold collect
 (refine QI (XI (Sz Xe ?_)))
 (rw [R6 Xf _])
 show Q_ _ A.in1 (newList [] >>= λl=>again (.builtin "list.__iadd__" ⟨[l,.ref a],[]⟩)) _ _ s
 (refine QI (Rx ?_))
 (refine QK ⟨T9 Vs _,Sz YF ?_⟩)
 (rw [R6 Vs _])
 generalize Qg:({cls:=.type "list",data:=.seq ([]:List QL).toArray}:Obj)=l0;have S1:iS (s.heap.push l0) a (mV w) es ep t:=S.keep λo e=>QU _ e;have hT1:WQ {s with heap:=s.heap.push l0} (.ref a) "set":=⟨_,S1.at_,rfl⟩;show Q_ _ A.in1 (We (.ref s.heap.objs.size) (.ref a) (.ref s.heap.objs.size)) _ _ _
 (unfold We)
 refine QI (VF hT1 ?_);have h1:Z4 (.ref s.heap.objs.size) (.ref a)=false:=by show (s.heap.objs.size == a)=false;exact beq_eq_false_iff_ne.mpr (Uq ha)
 have h2:(Vn "set" == Vn "list")=false:=by decide
 have h3:(Vn "set" == Vn "tuple")=false:=by decide
 (simp only [h1,h2,h3,aab,Q8,if_false])
 refine QI (EF S1 ?_)
 (refine QI (Rw ?_))
 have z1:(s.heap.push l0).objs.size=s.heap.objs.size + 1:=Ui _ _;rw [z1];have S2:iS ((s.heap.push l0).push (nG a 0 0 es.size ep)) a (mV w) es ep t:=S1.keep λo e=>QU _ e;have hT2:WQ {s with heap:=(s.heap.push l0).push (nG a 0 0 es.size ep)} (.ref a) "set":=⟨_,S2.at_,rfl⟩;refine EC hT2 ?_;refine D0 (by decide +kernel) ?_
 (refine QI (Wy ?_))
 subst Qg;have hI:((s.heap.push {cls:=.type "list",data:=.seq ([]:List QL).toArray}).push (nG a 0 0 es.size ep)).get? (s.heap.objs.size + 1)=some (nG a 0 0 es.size ep):=by rw [<-z1];exact Q2 _ rfl
 have hS₁:((s.heap.push {cls:=.type "list",data:=.seq ([]:List QL).toArray}).push (nG a 0 0 es.size ep)).get? s.heap.objs.size=some {cls:=.type "list",data:=.seq ([]:List QL).toArray}:=QU _ (Q2 _ rfl);refine QI ?_
 (show Q_ _ A.in1 (updateSeq s.heap.objs.size (·.push .none) >>= λ_=>updateSeq s.heap.objs.size (·.pop)) _ _ _)
 (refine QI (V_ hS₁ rfl ?_))
 (have hS₂:=Sa (S3 (·.push RU)) hS₁ rfl)
 (refine V_ hS₂ rfl ?_)
 (have hS₃:=Sa (S3 (·.pop)) hS₂ rfl)
 have oth:∀b o,b≠s.heap.objs.size->((s.heap.push {cls:=.type "list",data:=.seq ([]:List QL).toArray}).push (nG a 0 0 es.size ep)).get? b=some o->
   ((((s.heap.push {cls:=.type "list",data:=.seq ([]:List QL).toArray}).push (nG a 0 0 es.size ep)).update s.heap.objs.size (S3 (·.push RU))).update s.heap.objs.size (S3 (·.pop))).get? b=some o:=
  (λb o hb e=>(Vj _ _ (SK hb)).trans ((Vj _ _ (SK hb)).trans e))
 have hne:a≠s.heap.objs.size + 1:=Rl (Vx ha);have hSf:s.heap.objs.size∉[s.heap.objs.size + 1,a]:=by simp only [Q9,Sl,or_false,not_or];exact ⟨Rl (SH _),Uq ha⟩
 obtain ⟨L,T⟩:=S.tab;refine QK ⟨T9 F.plain_extend_loop _,codeAny_extend_loopS ((DZ (A:=A.in1) (prog:=prog) (w:=w) (es:=es) (ep:=ep) (t:=t) hh (s.heap.objs.size + 1) a hne).toS) (by rw [RX];omega) _ hSf _ es.size 0 _ _ _ rfl (Rm _)
  ⟨0,oth _ _ (Uq (SH _)) hI,S2.keep λo e=>oth _ _ (Rl ha) e,λ_=>A4 T.sop⟩ hS₃ (ItemsOf.nil _) λs' acc' c' hm hS' hacc=>?_⟩
 (show Q_ _ A (load s.heap.objs.size >>= _) _ _ s')
 (refine QI (ZT hS' ?_))
 have eacc:acc'.toList=iM w a ep es:=by
  obtain ⟨z,q⟩:=hacc;have lw:(iM w a ep es).length=es.size:=by unfold iM;rw [QN,Q3,k8]
  refine US (by rw [Q3,z,lw]) λi x1 x2=>?_;have this:(iM w a ep es)[i]?=some (acc'[i]'(by simpa using x1)):=q i _ (TH (by simpa using x1));rw [Q4 x2] at this
  (exact (RY this).symm)
 refine QK ?_;rw [eacc]
 (obtain ⟨h',g',d',tk',os'⟩:=s')
 (have eg:g'=s.gens:=hm.gens)
 (have ed:d'=s.drawn:=hm.drawn)
 have eo:os'=s.os:=hm.os;subst eg;subst ed;subst eo;refine hQ h' tk' (λb o e=>?_) (Q5 hS');have lb:=Q5 e;refine hm.heap b o ?_ (oth b o (Rl lb) (QU _ (QU _ e)));simp only [Q9,Sl,or_false,not_or];exact ⟨Rl lb,Rl (Vx lb)⟩
end
theorem vZ:Xk (.type "tuple") (.type "set")=pure false:=by rw [UO];kernel_rfl
theorem vY:Xk (.type "tuple") (.type "frozenset")=pure false:=by rw [UO];kernel_rfl
theorem Dc:Xk (.type "list") (.type "set")=pure false:=by rw [UO];kernel_rfl
theorem C_:Xk (.type "list") (.type "frozenset")=pure false:=by rw [UO];kernel_rfl
abbrev eY (led:Bool):Obj:={cls:=.type "set",dict:=none,data:=.set #[] 0 (.fresh 0 0 led)}
abbrev cG (w:Rz):Bool:=!w.params.followText "set-order"
section
variable {prog:Ra}{w:Rz}{A:RC}{E:QL->QM->Prop}{s:QM}{K:QJ}{J:Hp}
theorem FF (a:QL){Q₁:QL->QM->Prop}(h:Q₁ (.ref s.heap.objs.size) {s with heap:=s.heap.push (eY (cG w))}):
  (S6 (Rf prog w) A (.call (.builtin "set.__new__") ⟨[.type "set",a],[]⟩) (wants Q₁ E) s):=by
 refine (Wf ?_)
 (show Q_ _ A.in1 (do WV "set.__new__" ⟨[.type "set",a],[]⟩;again (.builtin "set.__new__" ⟨[.type "set",a],[]⟩)) _ _ s)
 refine QI (UW (PySem.F.newCall_set_1 a) (QK ⟨T9 Zn _,Sz F.entry_set_new ?_⟩))
 (rw [R6 Zn _])
 (unfold VL.«set.__new__» Zx)
 have hsub:=sub_set_self
 (obtain ⟨hp,g,d,tk,os⟩:=s)
 dsimp only
 wp_walk
 (refine Tp (QK ?_))
 dsimp only;simp only [newObj]
 (refine QI (wpAny_alloc (QK ?_)))
 exact QK h
noncomputable def D7 (prog:Ra) (w:Rz) (A:RC) (E:QL->QM->Prop) (s:QM) (l:Rb) (Qy:Array QL):Prop:=
 ∃(I:Rb) (fp:List Rb) (St:Nat->QM->Prop) (h2:Sn),aax prog w A.in1.in1.in1 I fp [I] (λa b=>b=a) Qy.size (λi v=>Qy[i]?=some v) St/\s.heap.objs.size∉fp/\s.heap.objs.size < I/\St 0 {s with heap:=h2}/\(∀b o,(s.heap.push (eY (cG w))).get? b=some o->h2.get? b=some o)/\
  ∀R:QL->QM->Prop,R (.ref I) {s with heap:=h2}->Q_ (Rf prog w) A.in1.in1 (Wv (.ref l)) R E {s with heap:=s.heap.push (eY (cG w))}
theorem qY {ol:Obj}{Q:QL->QM->Prop}{Qy:Array QL}(P:Sn->Prop) (OG:s.heap.get? l=some ol) (hcl:ol.cls=.type T) (Qn:Xk (.type T) (.type "set")=pure false) (Qm:Xk (.type T) (.type "frozenset")=pure false) (hne:(Vn T == Vn "dict")=false)
 (it:D7 prog w A E s l Qy)
 (loop:∀{I:Rb}{fp:List Rb}{St:Nat->QM->Prop}{h2:Sn}{R:_->QM->Prop},aax prog w A.in1.in1.in1 I fp [I] (λa b=>b=a) Qy.size (λi v=>Qy[i]?=some v) St->s.heap.objs.size∉fp->s.heap.objs.size < I->St 0 {s with heap:=h2}->(∀b o,(s.heap.push (eY (cG w))).get? b=some o->h2.get? b=some o)->
 (∀s',Moved [s.heap.objs.size,I] (λa b=>b=a) {s with heap:=h2} s'->P s'.heap->R (.ok (.ret .none)) s')->S6 (Rf prog w) A.in1.in1 (.builtin "set.update.loop" ⟨[.ref s.heap.objs.size,.ref I],[]⟩) R {s with heap:=h2})
 (h:∀(h':Sn) (tk:Nat),P h'->(∀b o,b < s.heap.objs.size->s.heap.get? b=some o->h'.get? b=some o)->Q (.ref s.heap.objs.size) {s with heap:=h',toks:=tk}):
  (Q_ (Rf prog w) A (call (.type "set") [.ref l]) Q E s):=by
 (obtain ⟨c,tl,Qh⟩:=Uw.mro)
 (have hmade:=Uw.made)
 have hsub:=Uw.sub
 (refine Ys (Wf ?_))
 (show Q_ _ _ (callAny (.type "set") _) _ _ _)
 (refine QK ⟨Code.quiet_builtin _ (by decide +kernel),Sz F.entry_type_call ?_⟩)
 (rw [Around.under_plain (weight_type_call_type "set" [.ref l] []) rfl])
 (have h1:=Uw.notType)
 (have h2:=Uw.canCreate)
 have hct:=PySem.F.typeCall_set_1 (.ref l)
 (repeat (any_goals (first | assumption | wp_step)))
 refine T5 (FF (.ref l) (E:=E) (Q₁:=λobj s₁=>obj=.ref s.heap.objs.size/\s₁={s with heap:=s.heap.push (eY (cG w))}) ⟨rfl,rfl⟩) λr s₁ hr=>?_;cases r with
 | error e=>exact hr
 | ok fl=>
  cases fl with
  | ret obj=>
   obtain ⟨rfl,rfl⟩:=hr;have hS:(s.heap.push (eY (cG w))).get? s.heap.objs.size=some (eY (cG w)):=Q2 _ rfl;have hT:WQ {s with heap:=s.heap.push (eY (cG w))} (.ref s.heap.objs.size) "set":=⟨_,hS,rfl⟩
   (have hli:=Uw.init.lookup)
   (have hbi:=Uw.init.bind (.ref s.heap.objs.size))
   (repeat (any_goals (first | assumption | wp_step)))
   refine T5 (Xw (R:=wants (λr s₂=>r=.none/\∃h' tk,s₂={s with heap:=h',toks:=tk}/\P h'/\
     (∀b o,b < s.heap.objs.size->s.heap.get? b=some o->h'.get? b=some o)) E) Uw.init.plain F.entry_set_init ((check_set_init_1 hT ?_))) λr₂ s₂ hr₂=>?_
   ·have Py:(s.heap.push (eY (cG w))).get? l=some ol:=QU _ OG;have Qv:WQ {s with heap:=s.heap.push (eY (cG w))} (.ref l) T:=⟨_,Py,hcl⟩
    (unfold VL.«set.__init__» noKeywords Y3)
    generalize P0:Wv=PI
    wp_walk
    subst P0;obtain ⟨I,fp,St,h2,W,hSf,hSI,st,hk,hit⟩:=it;refine hit _ (QI (XI (loop W hSf hSI st hk λs' hm hp=>?_)))
    (obtain ⟨h',g',d',tk',os'⟩:=s')
    (have eg:g'=s.gens:=hm.gens)
    (have ed:d'=s.drawn:=hm.drawn)
    have eo:os'=s.os:=hm.os;subst eg;subst ed;subst eo;show Q_ _ _ _ _ _ _;refine QK ?_
    (show Q_ _ _ (ret RU) _ _ _)
    refine QK ⟨rfl,h',tk',rfl,hp,λb o hb e=>hm.heap b o ?_ (hk b o (QU _ e))⟩;simp only [Q9,Sl,or_false,not_or];exact ⟨Rl hb,Rl (Us hb hSI)⟩
   ·cases r₂ with
    | error e=>exact hr₂
    | ok fl₂=>
     cases fl₂ with
     | ret r=>
      obtain ⟨rfl,h',tk,rfl,hp,hk'⟩:=hr₂
      (repeat (any_goals (first | assumption | wp_step)))
      exact h _ _ hp hk'
     | _=>exact hr₂.elim
  | _=>exact hr.elim
theorem yr (hh:A.handled=none) (hl:s.heap.IsTuple l Qy):D7 prog w A E s l Qy:=by
 obtain ⟨ol,OG,hcl,nl,hdl⟩:=id hl;have hl1:(s.heap.push (eY (cG w))).IsTuple l Qy:=⟨_,QU _ OG,hcl,nl,hdl⟩;have hlS:l < s.heap.objs.size:=Q5 OG;have z1:(s.heap.push (eY (cG w))).objs.size=s.heap.objs.size + 1:=Ui _ _;have O1:l≠(s.heap.push (eY (cG w))).objs.size:=by rw [z1];exact Rl (Vx hlS)
 refine ⟨_,_,_,_,(Walks.tuple (A:=A.in1.in1.in1) (by simp [hh]) (s.heap.push (eY (cG w))).objs.size l O1 Qy).toS,?_,?_,⟨⟨_,Q2 _ rfl,rfl,rfl⟩,hl1.push _⟩,λb o e=>QU _ e,λR q=>Yg hl1 q⟩
 ·rw [z1];simp only [Q9,Sl,or_false,not_or];exact ⟨Rl (SH _),Uq hlS⟩
 ·rw [z1];exact SH _
theorem Ht {l:Rb}{Qy:Array QL}(hh:A.handled=none) (hl:s.heap.IsList l Qy):D7 prog w A E s l Qy:=by
 obtain ⟨ol,OG,hcl,nl,hdl⟩:=id hl;have hl1:(s.heap.push (eY (cG w))).IsList l Qy:=⟨_,QU _ OG,hcl,nl,hdl⟩;have hlS:l < s.heap.objs.size:=Q5 OG;have z1:(s.heap.push (eY (cG w))).objs.size=s.heap.objs.size + 1:=Ui _ _;have O1:l≠(s.heap.push (eY (cG w))).objs.size:=by rw [z1];exact Rl (Vx hlS)
 refine ⟨_,_,_,_,(Z1 (A:=A.in1.in1.in1) (by simp [hh]) (s.heap.push (eY (cG w))).objs.size l O1 Qy).toS,?_,?_,⟨⟨_,Q2 _ rfl,rfl,rfl⟩,hl1.push _⟩,λb o e=>QU _ e,λR q=>Vq hl1 q⟩
 ·rw [z1];simp only [Q9,Sl,or_false,not_or];exact ⟨Rl (SH _),Uq hlS⟩
 ·rw [z1];exact SH _
theorem Dg {Qy:Array QL}{ds:List D}(N:HF K J s) (hz:Qy.size=ds.length) (hi:∀i v,Qy[i]?=some v->KV K J v (ds.getD i .non)) (hn:ds.length<=76) (hu:A.units + 16 < Sw){fp:List Rb}{St:Nat->QM->Prop}{h2:Sn}{R:_->QM->Prop}(W:aax prog w A.in1.in1.in1 I fp [I] (λa b=>b=a) Qy.size (λi v=>Qy[i]?=some v) St) (hSf:s.heap.objs.size∉fp) (hSI:s.heap.objs.size < I) (st:St 0 {s with heap:=h2})
 (hk:∀b o,(s.heap.push (eY (cG w))).get? b=some o->h2.get? b=some o) (hR:∀s',Moved [s.heap.objs.size,I] (λa b=>b=a) {s with heap:=h2} s'->(∃ks es ep t,fW K J s'.heap s.heap.objs.size (cG w) ks es ep t/\∀d,d∈ks↔d∈ds)->R (.ok (.ret .none)) s'):S6 (Rf prog w) A.in1.in1 (.builtin "set.update.loop" ⟨[.ref s.heap.objs.size,.ref I],[]⟩) R {s with heap:=h2}:=by
 have all:(QS Qy.size).map (λi=>ds.getD i .non)=ds:=by refine US (by simp [hz]) λi a b=>?_;simp [b]
 have hno:∀b,s.heap.objs.size<=b->s.heap.get? b=none:=λb hb=>by
  cases q:s.heap.get? b with
  | none=>rfl
  | some o=>exact absurd (Q5 q) (Nat.not_lt.mpr hb)
 refine FP (A:=A.in1.in1) (K:=K) (J:=J) (s0:=s) (led:=cG w) W s.heap.objs.size hSf (λi=>ds.getD i .non) hi N (λb hb=>hno b ?_) (by simp only [in1_units];omega) (by omega) Qy.size 0 _ [] #[] 0 (.fresh 0 0 (cG w)) (by omega) (Rm _) st (λb o e=>hk b o (QU _ e)) (BG (hk _ _ (Q2 _ rfl))) (λd=>by simp) λs' ks es ep t hm hS' hmem=>hR s' hm ⟨ks,es,ep,t,hS',by rw [all] at hmem;exact hmem⟩;rcases Q9.mp hb with rfl | hb
 ·exact QW _
 ·rw [Q7.mp hb];exact VD hSI
theorem yW {Qy:Array QL}{ds:List D}{Q:QL->QM->Prop}(N:HF K J s) (hh:A.handled=none) (hl:s.heap.IsTuple l Qy) (hz:Qy.size=ds.length) (hi:∀i v,Qy[i]?=some v->KV K J v (ds.getD i .non)) (hn:ds.length<=76) (hu:A.units + 16 < Sw)
 (h:∀(h':Sn) (tk:Nat) ks es ep t,fW K J h' s.heap.objs.size (cG w) ks es ep t->(∀d,d∈ks↔d∈ds)->(∀b o,b < s.heap.objs.size->s.heap.get? b=some o->h'.get? b=some o)->Q (.ref s.heap.objs.size) {s with heap:=h',toks:=tk}):
  (Q_ (Rf prog w) A (call (.type "set") [.ref l]) Q E s):=by obtain ⟨ol,OG,hcl,_⟩:=id hl;exact qY (λh'=>∃ks es ep t,fW K J h' s.heap.objs.size (cG w) ks es ep t/\∀d,d∈ks↔d∈ds) OG hcl vZ vY (by decide) (yr hh hl) (λW a b c d e=>Dg N hz hi hn hu W a b c d e) λh' tk ⟨ks,es,ep,t,a,b⟩=>h h' tk ks es ep t a b
theorem zD {l:Rb}{Qy:Array QL}{ds:List D}{Q:QL->QM->Prop}(N:HF K J s) (hh:A.handled=none) (hl:s.heap.IsList l Qy) (hz:Qy.size=ds.length) (hi:∀i v,Qy[i]?=some v->KV K J v (ds.getD i .non)) (hn:ds.length<=76) (hu:A.units + 16 < Sw)
  (h:∀(h':Sn) (tk:Nat) ks es ep t,fW K J h' s.heap.objs.size (cG w) ks es ep t->(∀d,d∈ks↔d∈ds)->(∀b o,b < s.heap.objs.size->s.heap.get? b=some o->h'.get? b=some o)->Q (.ref s.heap.objs.size) {s with heap:=h',toks:=tk}):
  (Q_ (Rf prog w) A (call (.type "set") [.ref l]) Q E s):=by obtain ⟨ol,OG,hcl,_⟩:=id hl;exact qY (λh'=>∃ks es ep t,fW K J h' s.heap.objs.size (cG w) ks es ep t/\∀d,d∈ks↔d∈ds) OG hcl Dc C_ (by decide) (Ht hh hl) (λW a b c d e=>Dg N hz hi hn hu W a b c d e) λh' tk ⟨ks,es,ep,t,a,b⟩=>h h' tk ks es ep t a b
end
end DL
namespace DL
open PySem PySem.Spec PyProof.Rows L2 ST
open PySem.W (KasT kas_sort kas_ask)
mutual
noncomputable def formOf:D->Fm
 | .int _=>.i
 | .tup xs=>z_ xs
 | _=>.b
noncomputable def z_:List D->Fm
 | []=>.tn
 | x::xs=>.tc (formOf x) (z_ xs)
end
noncomputable def pG:Fm->D->Bool
 | .i,.int _=>true
 | .tn,.tup xs=>xs.isEmpty
 | .tc x r,.tup (y::ys)=>pG x y && pG r (.tup ys)
 | _,_=>false
theorem qT:∀(f:Fm) (d:D),pG f d=true->iR f d
 | .i,.int k,_=>⟨k,rfl⟩
 | .tn,.tup [],_=>⟨[],rfl,rfl⟩
 | .tc x r,.tup (y::ys),h=>by unfold pG at h;rw [QX] at h;exact ⟨_,rfl,y,ys,rfl,qT x y h.1,qT r (.tup ys) h.2⟩
noncomputable def Gs:List D->Bool
 | []=>true
 | d::r=>(match f9 d with
  | some k=>fU k (d::r)
  | none=>false) && (d::r).all (pG (formOf d))
def iP (ds:List D):Bool:=decide (ds.length < 64) && (areKeys ds && (decide (deps ds<=8) && Gs ds))
theorem E2 (h:Gs ds=true):∃k f,∀d∈ds,f9 d=some k/\iR f d:=by
 cases ds with
 | nil=>exact ⟨.i,.i,λ_ h=>nomatch h⟩
 | cons d r=>
  unfold Gs at h;rw [QX] at h;cases q:f9 d with
  | none=>rw [q] at h;cases h.1
  | some k=>
   rw [q] at h;exact ⟨k,formOf d,λx hx=>⟨kr h.1 x hx,qT _ _ (Rk.mp h.2 x hx)⟩⟩
theorem qL {n:Nat}:∀{ds:List D},deps ds<=n->∀d∈ds,dep d<=n
 | [],_,_,h=>nomatch h
 | x::r,hn,d,h=>by
  unfold deps at hn
  (rcases Q9.mp h with rfl | h)
  ·omega
  ·exact qL (ds:=r) (by omega) d h
theorem mE {k:Hd}:∀{ds:List D},(∀d∈ds,f9 d=some k)->fU k ds=true
 | [],_=>rfl
 | x::r,h=>by unfold fU;rw [h x (QV ..),mE λd hd=>h d (QT _ hd)];cases k <;> rfl
structure MC (ds:List D) (k:Hd) (f:Fm):Prop where
 ln:ds.length < 64
 ky:areKeys ds=true
 dp:deps ds<=8
 al:∀d∈ds,f9 d=some k/\iR f d
theorem qU (h:iP ds=true):∃k f,MC ds k f:=by unfold iP at h;rw [QX,QX,QX] at h;obtain ⟨h1,h2,h3,h4⟩:=h;obtain ⟨k,f,h5⟩:=E2 h4;exact ⟨k,f,of_decide_eq_true h1,h2,of_decide_eq_true h3,h5⟩
abbrev gP (X:Cx) (H0:Hp) (a:Rb) (ds:List D):HO:=.ext λh=>∃ks es ep t,fW X.K H0 h a (cG X.w) ks es ep t/\∀d,d∈ks↔d∈ds
section
variable {X:Cx}
theorem Gk {K:QJ}{J:Hp}{k:Hd}{f:Fm}{ds:List D}{vs:List V}{us:List QL}(o:MC ds k f) (rs:aD K J ds vs) (rv:Vals vs us):∀i v,us.toArray[i]?=some v->KV K J v (ds.getD i .non):=λi v q=>by
 have l1:vs.length=us.length:=rv.length;have l2:ds.length=vs.length:=rs.length;have hi:i < us.length:=by have:=(RV.mp q).1;simpa using this
 have e:us.getD i RU=v:=by simp at q;simp [Xl,q]
 have r1:=gU rs (i:=i) (by omega);have r2:=gW rv (i:=i) (by omega);rw [e] at r2;have m:=gp (ds:=ds) (i:=i) (by omega);refine ⟨?_,p_ o.ky _ m,qL o.dp _ m,_,r1,r2⟩;have hh:=(o.al _ m).1;generalize cU ds i=d at r1 hh;generalize vs.getD i V.non=vv at r1 r2;cases d with
 | tup xs=>cases r1 with
  | tup _ _=>cases r2;exact ⟨_,rfl⟩
 | _=>cases hh
theorem u7 (hu:X.A.units + 64 < Sw) (hc:X.calm=true):bN X (.type "set") (λxs H Q=>∃p vs ds J0,xs=[.ref p]/\cC X.K H p vs/\aL J0 H/\aD X.K J0 ds vs/\iP ds=true/\∀l,H l=none->Q (.ref l) (upd H l (gP X J0 l ds))):=by intro Qx s σ H xs us Q I r h;obtain ⟨p,vs,ds,J0,rfl,hq,sm,rs,oks,q⟩:=h;obtain ⟨u,rfl,rx⟩:=vals1 r;cases rx;obtain ⟨k,f,o⟩:=qU oks;have N:HF X.K J0 s:=HF.of (c:=⟨X.K,H,H,λ_=>True⟩) I sm;obtain ⟨Qz,r',pt,hz⟩:=I.tuple hq;refine yW N (I.ok.hd hc) pt (by simp [<-r'.length,rs.length]) (Gk o rs r') (by have:=o.ln;omega) (by omega) λh' tk ks es ep t S hm kp=>?_;exact ⟨.ref s.heap.objs.size,_,I.laid (t':=tk) (λb o e=>kp b o (Q5 e) e) (QW _) (show cg X.prog X.w _ _ _ (gP X J0 s.heap.objs.size ds) from ⟨⟨ks,es,ep,t,S,hm⟩,⟨_,S.at_⟩,λh1 h2 ⟨ks,es,ep,t,S,hm⟩ e=>⟨ks,es,ep,t,S.keep e,hm⟩⟩),rfl,q _ (I.hok.fresh (QW _))⟩
theorem Cr (hu:X.A.units + 64 < Sw) (hc:X.calm=true):bN X (.type "set") (λxs H Q=>∃p vs ds J0,xs=[.ref p]/\bV X.K H p vs/\aL J0 H/\aD X.K J0 ds vs/\iP ds=true/\∀l,H l=none->Q (.ref l) (upd H l (gP X J0 l ds))):=by intro Qx s σ H xs us Q I r h;obtain ⟨p,vs,ds,J0,rfl,hq,sm,rs,oks,q⟩:=h;obtain ⟨u,rfl,rx⟩:=vals1 r;cases rx;obtain ⟨k,f,o⟩:=qU oks;have N:HF X.K J0 s:=HF.of (c:=⟨X.K,H,H,λ_=>True⟩) I sm;obtain ⟨Qz,r',pl,hz⟩:=I.list hq;refine zD N (I.ok.hd hc) pl.isList (by simp [<-r'.length,rs.length]) (Gk o rs r') (by have:=o.ln;omega) (by omega) λh' tk ks es ep t S hm kp=>?_;exact ⟨.ref s.heap.objs.size,_,I.laid (t':=tk) (λb o e=>kp b o (Q5 e) e) (QW _) (show cg X.prog X.w _ _ _ (gP X J0 s.heap.objs.size ds) from ⟨⟨ks,es,ep,t,S,hm⟩,⟨_,S.at_⟩,λh1 h2 ⟨ks,es,ep,t,S,hm⟩ e=>⟨ks,es,ep,t,S.keep e,hm⟩⟩),rfl,q _ (I.hok.fresh (QW _))⟩
theorem Cp (hu:X.A.units + 64 < Sw) (hc:X.calm=true):bN X (.type "set") (λxs H Q=>∃p vs ds J0,xs=[.ref p]/\(cC X.K H p vs\/bV X.K H p vs)/\aL J0 H/\aD X.K J0 ds vs/\iP ds=true/\∀l,H l=none->Q (.ref l) (upd H l (gP X J0 l ds))):=λQx s σ H xs us Q I r ⟨p,vs,ds,J0,h1,h2,h3⟩=>
 h2.elim (λh2=>u7 hu hc Qx s σ H xs us Q I r ⟨p,vs,ds,J0,h1,h2,h3⟩) λh2=>Cr hu hc Qx s σ H xs us Q I r ⟨p,vs,ds,J0,h1,h2,h3⟩
end
noncomputable def dd:List D->List D
 | []=>[]
 | x::xs=>if (dd xs).any (bg x)=true then dd xs else x::dd xs
def bZ (ds:List D):List D:=bG (dd ds)
section
variable {P:D->Prop}
theorem wW (p:fk P):∀(ds:List D),(∀x∈ds,P x)->(dd ds).Nodup/\∀y,y∈dd ds↔y∈ds
 | [],_=>⟨Tg,λ_=>.rfl⟩
 | x::xs,h=>by
  obtain ⟨h1,h2⟩:=wW p xs λy hy=>h y (QT _ hy);have px:=h x (QV ..);have eqv:(dd xs).any (bg x)=true↔x∈xs:=by
   rw [R0];constructor
   ·rintro ⟨z,hz,e⟩;have hz':=(h2 z).mp hz;rw [(p.eq x z px (h z (QT _ hz'))).mp e];exact hz'
   ·intro hx;exact ⟨x,(h2 x).mpr hx,(p.eq x x px px).mpr rfl⟩
  unfold dd;by_cases c:(dd xs).any (bg x)=true
  ·rw [if_pos c];refine ⟨h1,λy=>?_⟩;rw [h2 y,Q9];exact ⟨.inr,λz=>z.elim (λe=>e▸eqv.mp c) id⟩
  ·rw [if_neg c];refine ⟨SX.mpr ⟨λz=>c (eqv.mpr ((h2 x).mp z)),h1⟩,λy=>?_⟩;rw [Q9,Q9,h2 y]
theorem DW (p:fk P):∀{A B:List D},(∀x∈A,P x)->A.Pairwise (λa b=>dO a b=true)->B.Pairwise (λa b=>dO a b=true)->(∀y,y∈A↔y∈B)->A=B
 | [],[],_,_,_,_=>rfl
 | [],b::B,_,_,_,h=>by cases (h b).mpr QV
 | a::A,[],_,_,_,h=>by cases (h a).mp QV
 | a::A,b::B,hp,hA,hB,h=>by
  obtain ⟨a1,a2⟩:=Uk.mp hA;obtain ⟨b1,b2⟩:=Uk.mp hB;have pa:=hp a QV;have pb:=hp b ((h b).mpr QV);have no:∀z,P z->dO z z=true->False:=λz pz q=>by have:=p.asy z z pz pz q;rw [q] at this;cases this
  have e:a=b:=by
   rcases Q9.mp ((h a).mp QV) with e | e
   ·exact e
   ·rcases Q9.mp ((h b).mpr QV) with f | f
    ·exact f.symm
    ·exact (no a pa (p.tra _ _ _ pa pb pa (a1 b f) (b1 a e))).elim
  subst e;have:A=B:=by
   refine DW p (λx hx=>hp x (QT _ hx)) a2 b2 λy=>⟨λhy=>?_,λhy=>?_⟩
   ·rcases Q9.mp ((h y).mp (QT _ hy)) with e | e
    ·subst e;exact (no y pa (a1 y hy)).elim
    ·exact e
   ·rcases Q9.mp ((h y).mpr (QT _ hy)) with e | e
    ·subst e;exact (no y pa (b1 y hy)).elim
    ·exact e
  rw [this]
theorem mw (p:fk P){ds:List D}(h:∀x∈ds,P x) (nd:ds.Nodup):(bG ds).Pairwise λa b=>dO a b=true:=by
 have up:=FG p ds h;have pm:=iK ds;have nd':(bG ds).Nodup:=pm.nodup_iff.mpr nd;have both:=aa9 up nd';refine (Tt.mp both).imp ?_;rintro a b ⟨ha,hb,h1,h2⟩;cases q:dO a b with
 | true=>rfl
 | false=>exact absurd (p.tri a b (h a (pm.mem_iff.mp ha)) (h b (pm.mem_iff.mp hb)) q h1) h2
theorem yZ (p:fk P){ds ks:List D}(h:∀x∈ds,P x) (nd:ks.Nodup) (hm:∀d,d∈ks↔d∈ds):bG ks=bZ ds:=by
 obtain ⟨h1,h2⟩:=wW p ds h;have hk:∀x∈ks,P x:=λx hx=>h x ((hm x).mp hx);have hd:∀x∈dd ds,P x:=λx hx=>h x ((h2 x).mp hx);exact DW p (λx hx=>hk x ((iK ks).mem_iff.mp hx)) (mw p hk nd) (mw p hd h1) λy=>by rw [(iK ks).mem_iff,hm y];show _↔y∈bG (dd ds);rw [(iK (dd ds)).mem_iff,h2 y]
theorem nk (p:fk P) (h:∀x∈ds,P x):(bZ ds).Pairwise (λa b=>dO a b=true)/\∀d,d∈bZ ds↔d∈ds:=by obtain ⟨h1,h2⟩:=wW p ds h;exact ⟨mw p (λx hx=>h x ((h2 x).mp hx)) h1,λd=>by show d∈bG (dd ds)↔_;rw [(iK (dd ds)).mem_iff,h2 d]⟩
end
theorem eG.reps {K:QJ}{J:Hp}{es:List (Int×QL)}{ks:List D}(h:eG K J es ks):∃vs,aD K J ks vs/\Vals vs (es.map (·.2)):=by
 induction h with
 | nil=>exact ⟨_,.nil,.nil⟩
 | cons _ hk _ ih=>
  obtain ⟨vs,h1,h2⟩:=ih;obtain ⟨_,_,_,v,r,rv⟩:=hk;exact ⟨v::vs,.cons r h1,.cons rv h2⟩
section
variable {X:Cx}
theorem rX (hu:X.A.units + 64 < Sw) (hc:X.calm=true):bN X (.builtin "sorted") (λxs H Q=>∃p ds J0,xs=[.ref p]/\H p=some (gP X J0 p ds)/\aL J0 H/\iP ds=true/\∀l vs',H l=none->aD X.K J0 (bZ ds) vs'->Q (.ref l) (upd H l (.lst vs'))):=by
 intro Qx s σ H xs us Q I r h;obtain ⟨p,ds,J0,rfl,hp,sm,oks,q⟩:=h;obtain ⟨u,rfl,rx⟩:=vals1 r;cases rx;obtain ⟨k,f,o⟩:=qU oks;have hh:X.A.handled=none:=I.ok.hd hc;have N:HF X.K J0 s:=HF.of (c:=⟨X.K,H,H,λ_=>True⟩) I sm;obtain ⟨⟨ks,es,ep,t,S,hm⟩,_⟩:=(show cg X.prog X.w H s.heap p (gP X J0 p ds) from I.hok p _ hp);obtain ⟨ks',pm,en'⟩:=S.en.perm (kZ X.w p ep es).symm;have nd':ks'.Nodup:=pm.nodup_iff.mp S.nd;have hm':∀d,d∈ks'↔d∈ds:=λd=>by rw [<-pm.mem_iff,hm d]
 obtain ⟨vs,rs,rv⟩:=en'.reps;have hv:iM X.w p ep es=(ff X.w p ep es).toList.map (·.2):=rfl;rw [<-hv] at rv;generalize hits:iM X.w p ep es=Qz at rv;have l1:vs.length=Qz.length:=rv.length;have l2:ks'.length=vs.length:=rs.length;have len:ks'.length<=ds.length:=Rv nd' λd hd=>(hm' d).mp hd;have l64:=o.ln;have les:es.size=ks'.length:=by rw [<-Q3,S.en.length,pm.length_eq]
 have out:=yZ (fD f) (λx hx=>(o.al x hx).2) nd' hm';refine kL I (λE C h=>qa hh S.wk (by omega) λh1 tk k1 le=>hits▸h h1 tk k1 (VD le)) rv l2 (by omega) (B_ (N.keep λ_ _ e=>e) rs rv (k:=k) (λd hd=>⟨(o.al d ((hm' d).mp hd)).1,Rr (qL o.dp d ((hm' d).mp hd)) (by decide)⟩) (mE λd hd=>(o.al d ((hm' d).mp hd)).1) (λx hx y hy=>(fD f).lt _ _ (o.al _ ((hm' x).mp hx)).2 (o.al _ ((hm' y).mp hy)).2) hu) λl vs' hl rr=>q l vs' hl (out▸rr _ rs)
end
end DL
namespace DL
open PySem PySem.Spec PyProof.Rows L2 ST
section
variable {X:Cx}{c:C}{e:RA}{pos pos2:Pos}
theorem Ck:RJ "set"=some (.type "set"):=by decide +kernel
noncomputable def yg:List R->M R
 | [r]=>gz r >>= λxs=>if iP xs=true then .ok (.l .fresh (bZ xs)) else .bad
 | _=>.bad
noncomputable def Fp (X:Cx):List V->Hp->VK->Prop:=λxs H Q=>∃p vs ds J0,xs=[.ref p]/\(cC X.K H p vs\/bV X.K H p vs)/\aL J0 H/\aD X.K J0 ds vs/\iP ds=true/\∀l,H l=none->Q (.ref l) (upd H l (gP X J0 l ds))
noncomputable def Fv (X:Cx):List V->Hp->VK->Prop:=λxs H Q=>∃p ds J0,xs=[.ref p]/\H p=some (gP X J0 p ds)/\aL J0 H/\iP ds=true/\∀l vs',H l=none->aD X.K J0 (bZ ds) vs'->Q (.ref l) (upd H l (.lst vs'))
theorem uJ {J H:Hp}{p:Rb}{vs:List V}{ds:List D}{Q:VK}(hq:cC X.K H p vs\/bV X.K H p vs) (sm:aL J H) (rs:aD X.K J ds vs) (ok:iP ds=true) (q:∀l o l2 vs',H l=none->upd H l o l2=none->aD X.K J (bZ ds) vs'->Q (.ref l2) (upd (upd H l o) l2 (.lst vs'))):
  Fp X [.ref p] H λv H2=>Fv X [v] H2 Q:=
 ⟨p,vs,ds,J,rfl,hq,sm,rs,ok,λl hl=>⟨l,ds,J,rfl,bB,(Ext.new sm hl _).sub,ok,λl2 vs' h2 rr=>q l _ l2 vs' hl h2 rr⟩⟩
end
end DL
namespace DL
open PySem PySem.Spec PyProof.Rows L2 DX
end DL
namespace DL
open PySem PySem.Spec PyProof.Rows L2 ST PySem.SetTable
section
variable {t:Sg}{es:Array (Int×QL)}{L:List (Nat×Int×QL)}
theorem s_ (T:Tab t es L) (h:Int) (n0:Nat) (hf:pos t.mask h n0∉L.map (·.1)) (hb:∀m,m < n0->pos t.mask h m∈L.map (·.1)):
  ∀(d n F:Nat),n0 - n=d->n<=n0->d < F->probe.go t (λ_=>h + 1) h F (st t.mask h n)=some (.empty (pos t.mask h n0) none)
 | d,n,0,_,_,h=>absurd h (RZ _)
 | d,n,F + 1,hd,hn,hF=>by
  by_cases c:n=n0
  ·subst c;unfold probe.go;rw [tN T.dm (by rw [T.pl];exact hf)];show some (Met.empty _ (st t.mask h n).dummy)=_;rw [nq]
  ·obtain ⟨e,he,ej⟩:=QO.mp (hb n (by omega));obtain ⟨i,hi,rfl⟩:=SD.mp he;have hs:t.slot (pos t.mask h n)=.live i:=oY T.sop (by rw [(T.at_ (Q4 hi)).1,ej]);have eg:probe.go t (λ_=>h + 1) h (F + 1) (st t.mask h n)=probe.go t (λ_=>h + 1) h F (st t.mask h (n + 1)):=by rw [probe.go,hs];show (if (h + 1 == h)=true then _ else _)=_;rw [if_neg (by rw [beq_iff_eq];omega)];rfl
   rw [eg];exact s_ T h n0 hf hb (n0 - (n + 1)) (n + 1) F rfl (by omega) (by omega)
theorem CK (T:Tab t es L) (h:Int) (n0:Nat) (hf:pos t.mask h n0∉L.map (·.1)) (hb:∀m,m < n0->pos t.mask h m∈L.map (·.1)) (hn0:n0<=10 * (t.mask + 12)):t.freeSlot h=some (pos t.mask h n0,false):=by have e:t.probe (λ_=>h + 1) h (t.probeStart h)=some (.empty (pos t.mask h n0) none):=s_ T h n0 hf hb n0 0 (10 * turns t.mask) rfl (Rm _) (by unfold turns;omega);unfold SetTable.freeSlot;rw [e];rfl
theorem HD (T:Tab t es L) (h:Int) (x:QL) (n0:Nat) (hf:pos t.mask h n0∉L.map (·.1)) (hb:∀m,m < n0->pos t.mask h m∈L.map (·.1)) (hn0:n0<=10 * (t.mask + 12)) (hl:L.length + 1<=t.mask):
  layNew t es h x=(insertAt es (t.put (pos t.mask h n0)).2 (h,x),(t.put (pos t.mask h n0)).1,false,false):=by obtain ⟨L',T',_⟩:=T.put h x n0 hf hb (yJ _ _ _) hl;have fit:=cJ T';unfold layNew;rw [CK T h n0 hf hb hn0];dsimp only;unfold SetTable.orStandIn;rw [fit];rfl
theorem EL {mask finger moves:Nat}{led plain:Bool}{t':Sg}{QH:Array Nat}(hm:kh mask) (hl:es.size<=mask) (e:laid mask finger moves led plain (es.map (·.1))=some (t',QH)):QH.toList.Perm (QS es.size):=by
 obtain ⟨owner,G,e0,O⟩:=Dd hm (es.map (·.1)) (by simpa using hl);have hlen:G.length=es.size:=by rw [O.ln];simp
 (let live:=(QS (mask + 1)).filterMap λj=>(owner.getD j none).map (j,·))
 have lv:∀p,p∈live↔p.1∈G/\p.2=G.idxOf p.1:=λp=>by
  show p∈(QS (mask + 1)).filterMap _↔_;rw [U5];constructor
  ·rintro ⟨j,hj,q⟩;have hj':j<=mask:=by have:=Ro.mp hj;omega
   rw [O.at_ j hj'] at q;by_cases c:j∈G
   ·rw [if_pos c] at q;have q:(j,G.idxOf j)=p:=by simpa using q
    subst q;exact ⟨c,rfl⟩
   ·rw [if_neg c] at q;exact absurd q (by simp)
  ·rintro ⟨h1,h2⟩;refine ⟨p.1,Ro.mpr (by have:=O.bd _ h1;omega),?_⟩;rw [O.at_ _ (O.bd _ h1),if_pos h1];show some (p.1,G.idxOf p.1)=some p;rw [<-h2]
 have so1:live.Pairwise λa b=>a.1 < b.1:=by
  show ((QS (mask + 1)).filterMap _).Pairwise _;rw [WO];refine Uj.imp ?_;intro a b hab x hx y hy;cases q1:owner.getD a none with
  | none=>rw [q1] at hx;exact absurd hx (by simp)
  | some k1=>cases q2:owner.getD b none with
   | none=>rw [q2] at hy;exact absurd hy (by simp)
   | some k2=>
    rw [q1] at hx;rw [q2] at hy;have hx:(a,k1)=x:=by simpa using hx
    have hy:(b,k2)=y:=by simpa using hy
    subst hx;subst hy;exact hab
 have ord:(live.map (·.2)).Perm (QS es.size):=by
  rw [Wi _ To]
  ·intro k;rw [QO,Ro];constructor
   ·rintro ⟨p,hp,rfl⟩;obtain ⟨h1,h2⟩:=(lv p).mp hp;rw [h2,<-hlen];exact RQ h1
   ·intro hk;rw [<-hlen] at hk;exact ⟨(G[k],k),(lv _).mpr ⟨SI _,(O.nd.idxOf_getElem k hk).symm⟩,rfl⟩
  ·show (live.map (·.2)).Pairwise _;rw [R5];refine (Tt.mp so1).imp ?_;rintro a b ⟨ha,hb,hab⟩ z;obtain ⟨a1,a2⟩:=(lv a).mp ha;obtain ⟨b1,b2⟩:=(lv b).mp hb;rw [a2,b2] at z;have ga:=Ul (RQ a1);have gb:=Ul (RQ b1);have:a.1=b.1:=by rw [<-ga,<-gb];congr 1
   omega
 unfold laid at e;rw [e0] at e;have e1:(live.map (·.2)).toArray=QH:=by have:=RY e;exact congrArg abq this
 rw [<-e1];exact ord
theorem DK (hm:kh (sizeAbove w - 1)) (hl:es.size<=sizeAbove w - 1):∃t' es' L',relayAll t es w=(es',t',false)/\t'.mask=sizeAbove w - 1/\t'.led=t.led/\t'.plain=t.plain/\Tab t' es' L'/\es'.toList.Perm es.toList:=by
 obtain ⟨t',QH,L',e1,e2,e3,e4,e5,e6⟩:=vH (t:=t) (es:=es) hm hl;have od:QH.toList.Perm (QS es.size):=EL hm hl e1;refine ⟨t',QH.filterMap (es[·]?),L',?_,e2,e3,e4,e5,e6⟩;unfold relayAll;rw [e1];dsimp only;have c1:coversAll QH es.size=true:=by unfold coversAll;exact List.isPerm_iff.mpr od
 rw [c1,cJ e5];rfl
end
end DL
namespace DL
open PySem PySem.Spec PyProof.Rows L2 ST
inductive d8:List (Int×QL)->List Int->Prop
 | nil:d8 [] []
 | cons {i:Int}{k:Tok}{es:List (Int×QL)}{ns:List Int}:d8 es ns->d8 ((UH i,.int i k)::es) (i::ns)
theorem d8.perm {es es':List (Int×QL)}(p:es.Perm es'):∀{ns:List Int},d8 es ns->∃ns',ns.Perm ns'/\d8 es' ns':=by
 induction p with
 | nil=>intro ns h;exact ⟨ns,.refl _,h⟩
 | cons x _ ih=>
  intro ns h;cases h with
  | cons h3=>obtain ⟨ns',a,b⟩:=ih h3;exact ⟨_,a.cons _,.cons b⟩
 | swap x y l=>
  intro ns h;cases h with
  | cons h3=>cases h3 with
   | cons h6=>exact ⟨_,.swap _ _ _,.cons (.cons h6)⟩
 | trans _ _ ih1 ih2=>
  intro ns h;obtain ⟨k1,a,b⟩:=ih1 h;obtain ⟨k2,c,d⟩:=ih2 b;exact ⟨k2,a.trans c,d⟩
theorem d8.length {es:List (Int×QL)}{ns:List Int}(h:d8 es ns):es.length=ns.length:=by
 induction h with
 | nil=>rfl
 | cons _ ih=>simp [ih]
structure iu (h:Sn) (a:Rb) (led:Bool) (ns:List Int) (es:Array (Int×QL)) (ep:Nat) (t:Sg):Prop where
 at_:h.get? a=some {cls:=.type "set",dict:=none,data:=.set es ep t}
 tab:∃L,Tab t es L
 pl:t.plain=true
 ld:t.led=led
 rm:ns.length * 5 < t.mask * 3
 en:d8 es.toList ns
 nd:ns.Nodup
section
variable {w:Rz}{prog:Ra}{E:QL->QM->Prop}{A:RC}{s:QM}
theorem d8.elems (h:d8 es ns):ElemsOf (Yr prog w) es:=by
 induction h with
 | nil=>exact λe he=>nomatch he
 | @cons i k es ns _ ih=>
  intro e he
  (rcases Q9.mp he with rfl | he)
  ·exact ⟨⟨i,Z5 _ _ _ _,rfl⟩,rfl⟩
  ·exact ih e he
theorem d8.find {es:List (Int×QL)}(h:d8 es ns) (i:Int):(es.findIdx? λe=>(Yr prog w).is i e.2)=none↔i∉ns:=by
 rw [List.findIdx?_eq_none_iff]
 induction h with
 | nil=>simp
 | @cons j k es ns _ ih=>
  rw [Q9,not_or,<-ih];have e:(Yr prog w).is i (.int j k)=decide (i=j):=KeyKind.is_eq_decide (Z5 prog w j k) i;constructor
  ·intro h;refine ⟨λz=>?_,λx hx=>h x (QT _ hx)⟩;have:=h _ QV;rw [e,z] at this;simp at this
  ·rintro ⟨h1,h2⟩ x hx
   (rcases Q9.mp hx with rfl | hx)
   ·rw [e];simpa using h1
   ·exact h2 x hx
theorem add_int {a:Rb}{es:Array (Int×QL)}{ep:Nat}{t:Sg}{led:Bool}{ns:List Int}{i:Int}{k:Tok}{Q:Bool->QM->Prop}(S:iu s.heap a led ns es ep t) (hl:ns.length < 76)
  (q1:i∈ns->Q false s) (q2:i∉ns->∀(h':Sn) ns' es' ep' t',SE a s.heap h'->(i::ns).Perm ns'->iu h' a led ns' es' ep' t'->Q true {s with heap:=h'}):
  Q_ (Rf prog w) A (Xi a (.int i k) (UH i)) Q E s:=by
 obtain ⟨L,T⟩:=S.tab;have lenL:L.length=ns.length:=by rw [mz T,<-Q3,S.en.length]
 have hes:es.size=ns.length:=by rw [<-Q3,S.en.length]
 obtain ⟨n0,b1,b2,b3⟩:=sf T.mo (UH i) (L.map (·.1)) (by rw [QN];exact T.fl)
 (unfold Xi ZL)
 refine Rw (QI (Ss S.at_ rfl (cJ T) ?_));dsimp only;have sc:byScan (.int i k) es=true:=byScan_of (prog:=prog) (w:=w) (knd:=Yr prog w) rfl (by unfold scanBound;omega) S.en.elems;rw [sc];simp only [if_true];unfold setAddByScan;refine QI ?_
 (refine QI (Wy ?_))
 refine QI (wpAny_setScan_of (knd:=Yr prog w) (k:=i) (Z5 _ _ _ _) S.at_ rfl (cJ T) S.en.elems ?_);cases hr:List.findIdx? (λe=>(Yr prog w).is i e.2) es.toList with
 | some j=>
  dsimp only;have hin:i∈ns:=SW λz=>by have:=(S.en.find (prog:=prog) (w:=w) i).mpr z;rw [hr] at this;cases this
  exact QK (QK (q1 hin))
 | none=>
  dsimp only;have hm:i∉ns:=(S.en.find i).mp hr;have rm:=S.rm;have ln:=HD T (UH i) (.int i k) n0 b2 b3 b1 (by rcases T.mo with h | h | h <;> rw [h] at rm ⊢ <;> omega);rw [ln];dsimp only
  (refine QI (UW (a:=()) rfl ?_))
  obtain ⟨L',T',pm⟩:=T.put (UH i) (.int i k) n0 b2 b3 (yJ _ _ _) (by rcases T.mo with h | h | h <;> rw [h] at rm ⊢ <;> omega);have fl:(t.put (pos t.mask (UH i) n0)).1.mask=t.mask/\(t.put (pos t.mask (UH i) n0)).1.plain=t.plain/\(t.put (pos t.mask (UH i) n0)).1.led=t.led:=⟨rfl,rfl,rfl⟩;generalize t.put (pos t.mask (UH i) n0)=tp at T' fl ⊢;obtain ⟨t',p⟩:=tp;dsimp only at T' fl ⊢;obtain ⟨f1,f2,f3⟩:=fl;obtain ⟨ns',p1,p2⟩:∃ns',(i::ns).Perm ns'/\d8 (Su es p (UH i,.int i k)).toList ns':=by refine d8.perm (es:=(UH i,.int i k)::es.toList) ?_ (.cons S.en);rw [T'.en,T.en];exact (pm.map (·.2)).symm
  have nd':ns'.Nodup:=p1.nodup_iff.mp (SX.mpr ⟨hm,S.nd⟩);have lk:ns'.length=ns.length + 1:=by rw [<-p1.length_eq];rfl
  rw [f2,S.pl];simp only [if_true]
  (refine QI (UW (a:=true) rfl ?_))
  simp only [if_true];have esz:(Su es p (UH i,Y4 i k)).size=ns'.length:=by rw [<-Q3,p2.length]
  refine QI (Vw S.at_ rfl ?_ (by rw [esz,RX];omega));have hg:=Sa (WC (Su es p (UH i,.int i k)) t') S.at_ rfl;have hfill:t'.fill=ns'.length:=by unfold Ym;rw [T'.dm,<-Q3,T'.pl,QN,mz T',esz];rfl
  split
  ·rename_i c;simp only [VA,Ub] at c;unfold VS at c;rw [hfill,f1,decide_eq_true_eq] at c;have hW:(SA (VB ns'.length)=32/\ns'.length=5)\/(SA (VB ns'.length)=128/\ns'.length=19):=by
    unfold VB;rw [if_neg (by omega)];rcases T.mo with h | h | h
    ·rw [h] at c rm;have:ns'.length=5:=by omega
     rw [this];exact .inl ⟨zM,rfl⟩
    ·rw [h] at c rm;have:ns'.length=19:=by omega
     rw [this];exact .inr ⟨zN,rfl⟩
    ·rw [h] at c;omega
   have hmo:kh (SA (VB ns'.length) - 1):=by rcases hW with ⟨h,_⟩ | ⟨h,_⟩ <;> rw [h];exact .inr (.inl rfl);exact .inr (.inr rfl)
   rw [esz];obtain ⟨t2,es2,L2,g1,g2',g3,g4,g5,g6⟩:=DK (t:=t') (es:=Su es p (UH i,.int i k)) hmo (by rw [esz];rcases hW with ⟨h,h'⟩ | ⟨h,h'⟩ <;> rw [h] <;> omega);rw [g1];dsimp only
   (refine QI (UW (a:=()) rfl ?_))
   obtain ⟨ns2,r1,r2⟩:=p2.perm g6.symm;have es2z:es2.size=ns'.length:=by rw [<-Q3,r2.length,r1.length_eq]
   refine QI (Vw (s:={s with heap:=s.heap.update a (WC (Su es p (UH i,.int i k)) t')}) hg rfl ?_ (by rw [es2z,RX];omega));have OZ:=Sa (WC es2 t2) hg rfl;refine QK (QK (q2 hm _ ns2 _ _ _ ((So _ _ _).trans (So _ _ _)) (p1.trans r1) ⟨OZ,⟨L2,g5⟩,g4.trans (f2.trans S.pl),g3.trans (f3.trans S.ld),?_,r2,r1.nodup_iff.mp nd'⟩));rw [<-r1.length_eq,g2'];rcases hW with ⟨h,h'⟩ | ⟨h,h'⟩ <;> rw [h,h'] <;> omega
  ·rename_i c;simp only [VA,Ub] at c;unfold VS at c;rw [hfill,f1,decide_eq_true_eq] at c;exact QK (QK (q2 hm _ ns' _ _ _ (So _ _ _) p1 ⟨hg,⟨L',T'⟩,f2.trans S.pl,f3.trans S.ld,by rw [f1];omega,p2,nd'⟩))
end
theorem iu.keep {h h':Sn}(S:iu h a led ns es ep t) (e:∀o,h.get? a=some o->h'.get? a=some o):iu h' a led ns es ep t:=
 ⟨e _ S.at_,S.tab,S.pl,S.ld,S.rm,S.en,S.nd⟩
section
variable {w:Rz}{prog:Ra}{R:Y6->QM->Prop}{A:RC}{I:Rb}{fp wr:List Rb}{G:Array YY->Array YY->Prop}{n:Nat}{P:Nat->QL->Prop}{St:Nat->QM->Prop}
theorem DY (W:aax prog w A.in1 I fp wr G n P St) (S:Rb) (hSf:S∉fp) (val:Nat->Int) (hval:∀i v,P i v->∃t,v=.int (val i) t) (hn:n<=76):
  ∀(k i:Nat) (s:QM) (ns:List Int) (es:Array (Int×QL)) (ep:Nat) (t:Sg),n - i=k->i<=n->St i s->iu s.heap S led ns es ep t->(∀d,d∈ns↔d∈(QS i).map val)->
   (∀s' ns' es' ep' t',Moved (S::wr) G s s'->iu s'.heap S led ns' es' ep' t'->(∀d,d∈ns'↔d∈(QS n).map val)->R (.ok (.ret .none)) s')->
   (S6 (Rf prog w) A (.builtin "set.update.loop" ⟨[.ref S,.ref I],[]⟩) R s):=by
 (have O7:S∉wr:=λh=>hSf (W.sub _ h))
 (have hsub:∀b∈wr,b∈S::wr:=λb hb=>QT _ hb)
 intro k
 induction k with
 | zero=>
  intro i s ns es ep t hk hi hst hS hm hR;have hin:i=n:=by omega
  subst hin;refine Sz Sj ?_;rw [R6 Rq _]
  (show Q_ _ A.in1 (Vg (.ref I) >>= _) _ _ s)
  refine QI (W.done s _ _ hst λs' OB=>?_)
  (show Q_ _ A.in1 (ret RU) _ _ s')
  exact QK (hR s' ns es ep t (OB.mono hsub) (hS.keep λo e=>OB.heap S o O7 e) hm)
 | succ k ih=>
  intro i s ns es ep t hk hi hst hS hm hR;have hlt:i < n:=by omega
  have hlen:ns.length<=i:=by have:=Rv hS.nd (λd hd=>(hm d).mp hd);simpa using this
  refine Sz Sj ?_;rw [R6 Rq _]
  (show Q_ _ A.in1 (Vg (.ref I) >>= _) _ _ s)
  refine QI (W.item i s _ _ hlt hst λv s' hP OL OB=>?_);obtain ⟨tk,rfl⟩:=hval i v hP;have hS':=hS.keep (h':=s'.heap) λo e=>OB.heap S o O7 e;have mem':∀(ns':List Int),(∀d,d∈ns'↔d=val i\/d∈ns)->∀d,d∈ns'↔d∈(QS (i + 1)).map val:=λns' h d=>by rw [h d,hm d,Uv,Rg,Rn];simp only [Q6,VG,Q7];exact Or.comm
  show Q_ _ A.in1 (holding [.int (val i) tk] (setAdd S (.int (val i) tk)) >>= _) _ _ s'
  (refine QI (Rw ?_))
  unfold setAdd;refine Rw ?_
  (refine QI (WT ?_))
  refine add_int (s:={s' with toks:=s'.toks + 1}) hS' (by omega) (λhin=>?_) (λhin h' ns' es' ep' t' O6 Pz O4=>?_)
  ·refine QK ⟨T9 Rq _,ih (i + 1) _ ns es ep t (by omega) hlt (W.frame _ s' _ _ OL (Tz _) λb hb o e=>e) hS' (mem' ns λd=>⟨.inr,λh=>h.elim (λh=>h▸hin) id⟩) λs'' ns'' es'' ep'' t'' hm'' hS'' ON=>?_⟩;exact hR s'' ns'' es'' ep'' t'' (XX W.gtrans ((OB.mono hsub).then_heap (Tz _) λb o hb e=>e) hm'') hS'' ON
  ·refine QK ⟨T9 Rq _,ih (i + 1) _ ns' es' ep' t' (by omega) hlt (W.frame _ s' _ _ OL (Tz _) λb hb o e=>?_) O4 (mem' ns' λd=>?_) λs'' ns'' es'' ep'' t'' hm'' hS'' ON=>?_⟩
   ·(rw [O6.2 b (λh:b=S=>hSf (by rw [<-h];exact hb))];exact e)
   ·rw [<-Pz.mem_iff,Q9]
   ·refine hR s'' ns'' es'' ep'' t'' (XX W.gtrans ((OB.mono hsub).then_heap (Tz _) λb o hb e=>?_) hm'') hS'' ON
    (rw [O6.2 b (λh:b=S=>hb (by rw [h];exact QV))];exact e)
end
theorem BH {h:Sn}(e:h.get? a=some {cls:=.type "set",dict:=none,data:=.set #[] 0 (.fresh 0 0 led)}):iu h a led [] #[] 0 (.fresh 0 0 led):=
 ⟨e,⟨[],⟨rfl,rfl,rfl,Uz,(λ_ h=>nomatch h),.inl rfl,Rm _,(λ_ h=>nomatch h)⟩⟩,rfl,rfl,(show 0 * 5 < 7 * 3 by decide),.nil,Tg⟩
section
variable {w:Rz}{prog:Ra}{A:RC}{s:QM}{E:QL->QM->Prop}{l:Rb}{Qy:Array QL}{ds:List Int}
theorem Kg (hz:Qy.size=ds.length) (hi:∀(i:Nat) (v:QL),Qy[i]?=some v->∃t,v=.int (ds.getD i 0) t) (hn:ds.length<=76){fp:List Rb}{St:Nat->QM->Prop}{h2:Sn}{R:_->QM->Prop}(W:aax prog w A.in1.in1.in1 I fp [I] (λa b=>b=a) Qy.size (λi v=>Qy[i]?=some v) St) (hSf:s.heap.objs.size∉fp) (st:St 0 {s with heap:=h2})
 (hk:∀b o,(s.heap.push (eY (cG w))).get? b=some o->h2.get? b=some o) (hR:∀s',Moved [s.heap.objs.size,I] (λa b=>b=a) {s with heap:=h2} s'->(∃ks es ep t,iu s'.heap s.heap.objs.size (cG w) ks es ep t/\∀d,d∈ks↔d∈ds)->R (.ok (.ret .none)) s'):S6 (Rf prog w) A.in1.in1 (.builtin "set.update.loop" ⟨[.ref s.heap.objs.size,.ref I],[]⟩) R {s with heap:=h2}:=by
 have all:(QS Qy.size).map (λi=>ds.getD i 0)=ds:=by refine US (by simp [hz]) λi a b=>?_;simp [b]
 exact DY (A:=A.in1.in1) (led:=cG w) W s.heap.objs.size hSf (λi=>ds.getD i 0) hi (by omega) Qy.size 0 _ [] #[] 0 (.fresh 0 0 (cG w)) (by omega) (Rm _) st (BH (hk _ _ (Q2 _ rfl))) (λd=>by simp) λs' ks es ep t hm hS' hmem=>hR s' hm ⟨ks,es,ep,t,hS',by rw [all] at hmem;exact hmem⟩
abbrev NG (Q:QL->QM->Prop) (w:Rz) (s:QM) (ds:List Int):Prop:=∀(h':Sn) (tk:Nat) ks es ep t,iu h' s.heap.objs.size (cG w) ks es ep t->(∀d,d∈ks↔d∈ds)->(∀b o,b < s.heap.objs.size->s.heap.get? b=some o->h'.get? b=some o)->Q (.ref s.heap.objs.size) {s with heap:=h',toks:=tk}
theorem wJ {Q:QL->QM->Prop}(hh:A.handled=none) (hl:s.heap.IsTuple l Qy) (hz:Qy.size=ds.length) (hi:∀(i:Nat) (v:QL),Qy[i]?=some v->∃t,v=.int (ds.getD i 0) t) (hn:ds.length<=76) (h:NG Q w s ds):(Q_ (Rf prog w) A (call (.type "set") [.ref l]) Q E s):=by obtain ⟨ol,OG,hcl,_⟩:=id hl;exact qY (λh'=>∃ks es ep t,iu h' s.heap.objs.size (cG w) ks es ep t/\∀d,d∈ks↔d∈ds) OG hcl vZ vY (by decide) (yr hh hl) (λW a _ c d e=>Kg hz hi hn W a c d e) λh' tk ⟨ks,es,ep,t,a,b⟩=>h h' tk ks es ep t a b
end
end DL
namespace DL
open PySem PySem.Spec PyProof.Rows L2 ST DX
open PySem.W (KasT kas_sort kas_ask)
theorem iu.wk (S:iu h a led ns es ep t):iS h a led es ep t:=⟨S.at_,S.tab,S.pl,S.ld⟩
noncomputable def AI:D->Int
 | .int i=>i
 | _=>0
theorem Lv {ds:List D}(h:ds.all isInt=true):ds=(ds.map AI).map .int:=by
 induction ds with
 | nil=>rfl
 | cons d r ih=>
  rw [S_,QX] at h;cases d with
  | int i=>rw [Q6,Q6,<-ih h.2];rfl
  | _=>cases h.1
abbrev ni (X:Cx) (a:Rb) (ms:List Int):HO:=.ext λh=>∃ns es ep t,iu h a (cG X.w) ns es ep t/\∀d,d∈ns↔d∈ms
theorem int_at {K:QJ}{J:Hp}{ms:List Int}{vs:List V}{us:List QL}(rs:aD K J (ms.map .int) vs) (rv:Vals vs us):∀(i:Nat) (v:QL),us.toArray[i]?=some v->∃t,v=.int (ms.getD i 0) t:=λi v q=>by
 have l1:vs.length=us.length:=rv.length;have l2:(ms.map D.int).length=vs.length:=rs.length;have hi:i < us.length:=by have:=(RV.mp q).1;simpa using this
 have e:us.getD i RU=v:=by simp at q;simp [Xl,q]
 have r1:=gU rs (i:=i) (by omega);have r2:=gW rv (i:=i) (by omega);rw [e] at r2;have lm:i < ms.length:=by rw [QN] at l2;omega
 have e2:cU (ms.map D.int) i=.int (ms.getD i 0):=by unfold cU;simp [Xl,lm]
 rw [e2] at r1;generalize vs.getD i V.non=vv at r1 r2;cases r1;exact r2
section
variable {X:Cx}
theorem Cq (hc:X.calm=true):bN X (.type "set") (λxs H Q=>∃p vs ms J0,xs=[.ref p]/\cC X.K H p vs/\aD X.K J0 (ms.map .int) vs/\ms.length < 64/\∀l,H l=none->Q (.ref l) (upd H l (ni X l ms))):=by intro Qx s σ H xs us Q I r h;obtain ⟨p,vs,ms,J0,rfl,hq,rs,l64,q⟩:=h;obtain ⟨u,rfl,rx⟩:=vals1 r;cases rx;have hh:X.A.handled=none:=I.ok.hd hc;have fr:H s.heap.objs.size=none:=I.hok.fresh (QW _);obtain ⟨Qz,r',pt,hz⟩:=I.tuple hq;have lm:(ms.map D.int).length=vs.length:=rs.length;rw [QN] at lm;refine wJ hh pt (by simp [<-r'.length,lm]) (int_at rs r') (by omega) λh' tk ks es ep t S hm kp=>?_;exact ⟨.ref s.heap.objs.size,_,I.laid (t':=tk) (λb o e=>kp b o (Q5 e) e) (QW _) (show cg X.prog X.w _ _ _ (ni X s.heap.objs.size ms) from ⟨⟨ks,es,ep,t,S,hm⟩,⟨_,S.at_⟩,λh1 h2 ⟨ks,es,ep,t,S,hm⟩ e=>⟨ks,es,ep,t,S.keep e,hm⟩⟩),rfl,q _ fr⟩
theorem d8.reps {es:List (Int×QL)}{ns:List Int}(h:d8 es ns):∃vs,(∀(K:QJ) (J:Hp),aD K J (ns.map .int) vs)/\Vals vs (es.map (·.2))/\UT (es.map (·.2)) ns:=by
 induction h with
 | nil=>exact ⟨[],λK J=>.nil,.nil,.nil⟩
 | @cons i k es ns _ ih=>
  obtain ⟨vs,h1,h2,h3⟩:=ih;exact ⟨.int i::vs,λK J=>.cons (.int _) (h1 K J),.cons ⟨k,rfl⟩ h2,.cons i k h3⟩
theorem zq (hc:X.calm=true):bN X (.builtin "sorted") (λxs H Q=>∃p ms,xs=[.ref p]/\H p=some (ni X p ms)/\ms.length < 64/\∀l vs',H l=none->(∀J0,aD X.K J0 (bZ (ms.map .int)) vs')->Q (.ref l) (upd H l (.lst vs'))):=by
 intro Qx s σ H xs us Q I r h;obtain ⟨p,ms,rfl,hp,l64,q⟩:=h;obtain ⟨u,rfl,rx⟩:=vals1 r;cases rx;have hh:X.A.handled=none:=I.ok.hd hc;obtain ⟨⟨ns,es,ep,t,S,hm⟩,_⟩:=(show cg X.prog X.w H s.heap p (ni X p ms) from I.hok p _ hp);obtain ⟨ns',pm,en'⟩:=S.en.perm (kZ X.w p ep es).symm;have nd':ns'.Nodup:=pm.nodup_iff.mp S.nd;have hm':∀d,d∈ns'↔d∈ms:=λd=>by rw [<-pm.mem_iff,hm d]
 obtain ⟨vs,rs,rv,hI⟩:=en'.reps;have hv:iM X.w p ep es=(ff X.w p ep es).toList.map (·.2):=rfl;rw [<-hv] at rv hI;generalize hits:iM X.w p ep es=Qz at rv hI;have l1:vs.length=Qz.length:=rv.length;have l2:(ns'.map D.int).length=vs.length:=(rs X.K H).length;have len:ns'.length<=ms.length:=Rv nd' λd hd=>(hm' d).mp hd;have les:es.size=ns'.length:=by rw [<-Q3,S.en.length,pm.length_eq]
 have ndD:(ns'.map D.int).Nodup:=R5.mpr (Vt (λh e=>h (by cases e;rfl)) nd');have PV:∀d,d∈ns'.map D.int↔d∈ms.map D.int:=λd=>by simp only [QO,hm']
 have allI:∀d∈ms.map D.int,iR .i d:=λd hd=>by obtain ⟨i,_,rfl⟩:=QO.mp hd;exact ⟨i,rfl⟩
 have out:=yZ (fD .i) allI ndD PV;have lm:(ns'.map D.int).length=ns'.length:=QN _;generalize hk:ns'.map D.int=ks' at *;have ai:ks'.all isInt=true:=Rk.mpr λd hd=>by obtain ⟨i,e⟩:=allI d ((PV d).mp hd);rw [e];rfl
 exact kL I (λE C h=>qa hh S.wk (by omega) λh1 tk k1 le=>hits▸h h1 tk k1 (VD le)) rv l2 (by omega) (B9 (rs X.K H) rv ai) λl vs' hl rr=>q l vs' hl λJ0=>out▸rr _ (rs _ J0)
end
end DL
namespace DL
open PySem PySem.Spec PyProof.Rows L2 ST DX
theorem Cm:RJ "set"=some (.type "set"):=by decide +kernel
section
variable {X:Cx}{c:C}{e:RA}{pos pos2:Pos}
def se:List R->M R:=yg
theorem vF {gs:G (List R)}(hu:X.A.units + 64 < Sw) (ha:jr X c [e] gs) (hm:X.mg "sorted"=none) (hm2:X.mg "set"=none) (hK:X.K=c.K:=by rfl) (hc:X.calm=true:=by rfl) (hg:Gl X "sorted":=by rfl) (OZ:Gl X "set":=by rfl)
 (he:QZ [.Call (.Name "set" p2) [e] [] pos2] X.env=(false,eval (.Call (.Name "set" p2) [e] [] pos2) X.env)::QZ [] X.env:=by rfl) (hpl:(SJ pos (QZ [] X.env)).any (·.1)=false:=by rfl)
 (OY:QZ [e] X.env=(false,eval e X.env)::QZ [] X.env:=by rfl) (O3:(SJ pos2 (QZ [] X.env)).any (·.1)=false:=by rfl):
  QD X c (.Call (.Name "sorted" p) [.Call (.Name "set" p2) [e] [] pos2] [] pos) (gN se gs):=by
 have ha:=ha.h;refine ⟨?_⟩;have h1:=ji (p:=p2) (pos:=pos2) (show bN X (.type "set") (Fp X) from Cp hu hc) OZ hm2 Ck ha (by decide) (by decide) OY O3;have h2:=m_ (p:=p) (pos:=pos) (show bN X (.builtin "sorted") (Fv X) from rX hu hc) hg hm iA (dF h1 fJ he) (by decide) (by decide) he hpl;refine Bw (ta:=y_) (f:=yg) (r:=λvs H1 Q=>Fp X vs H1 λv H2=>Fv X [v] H2 Q) h2 rfl ?_;intro He J H xs vs Q hp rs w;unfold yg at w;split at w
 ·obtain ⟨v,rfl,r⟩:=rs.one;rename_i r0;obtain ⟨xs,q,w⟩:=h_ w;split at w
  ·rename_i ok;have fin:∀(vs:List V),aD c.K J xs vs->∀l o l2 vs',H l=none->upd H l o l2=none->aD X.K J (bZ xs) vs'->Q (.ref l2) (upd (upd H l o) l2 (.lst vs')):=λvs _ l o l2 vs' hl h2 rr=>by rw [hK] at rr;have e1:=Ext.new hp.sub hl o;have e2:=Ext.new e1.sub h2 (.lst vs');exact w _ _ _ (e1.trans e2) (RR.from e1.h (f_ (hp.ext e1) h2 rr))
   cases r0 with
   | d y=>
    cases y with
    | tup ys=>
     cases q;cases r with
     | tup h hs=>exact uJ (.inl (by rw [hK];exact eE hp.sub h)) hp.sub (by rw [hK];exact hs) ok (fin _ hs)
    | lst ys=>
     cases q;obtain ⟨p,vs,rfl,hq,hs⟩:=RR.list hp r rfl;exact uJ (.inr (by rw [hK];exact hq)) hp.sub (by rw [hK];exact hs) ok (fin _ hs)
    | _=>cases q
   | mo _ _=>cases q
   | mb _ _=>cases q
   | mf _ _=>cases q
   | ln _=>cases q
   | l m ys=>
    cases q;obtain ⟨p,vs,rfl,hq,hs⟩:=RR.list hp r rfl;exact uJ (.inr (by rw [hK];exact hq)) hp.sub (by rw [hK];exact hs) ok (fin _ hs)
  ·exact w.elim
 ·exact w.elim
noncomputable def gJ:List R->M R
 | [.d (.tup ys)]=>if iP ys=true then .ok (.l .fresh (bZ ys)) else if qu ys=true then .ok (.l .fresh (bZ ys)) else .bad
 | _=>.bad
noncomputable def K_ (X:Cx):List V->Hp->VK->Prop:=λxs H Q=>∃p vs ms J0,xs=[.ref p]/\cC X.K H p vs/\aD X.K J0 (ms.map .int) vs/\ms.length < 64/\∀l,H l=none->Q (.ref l) (upd H l (ni X l ms))
noncomputable def Lb (X:Cx):List V->Hp->VK->Prop:=λxs H Q=>∃p vs ds J0,xs=[.ref p]/\cC X.K H p vs/\aL J0 H/\aD X.K J0 ds vs/\iP ds=true/\∀l,H l=none->Q (.ref l) (upd H l (gP X J0 l ds))
noncomputable def Fq (X:Cx):List V->Hp->VK->Prop:=λxs H Q=>∃p ms,xs=[.ref p]/\H p=some (ni X p ms)/\ms.length < 64/\∀l vs',H l=none->(∀J0,aD X.K J0 (bZ (ms.map .int)) vs')->Q (.ref l) (upd H l (.lst vs'))
noncomputable def Ft (X:Cx):List V->Hp->VK->Prop:=λxs H Q=>∃p ds J0,xs=[.ref p]/\H p=some (gP X J0 p ds)/\aL J0 H/\iP ds=true/\∀l vs',H l=none->aD X.K J0 (bZ ds) vs'->Q (.ref l) (upd H l (.lst vs'))
theorem DH {p p2:Pos}{gs:G (List R)}(hu:X.A.units + 64 < Sw) (ha:jr X c [e] gs) (hm:X.mg "sorted"=none) (hm2:X.mg "set"=none) (hK:X.K=c.K:=by rfl) (hc:X.calm=true:=by rfl) (hg:Gl X "sorted":=by rfl) (OZ:Gl X "set":=by rfl)
  (he:QZ [.Call (.Name "set" p2) [e] [] pos2] X.env=(false,eval (.Call (.Name "set" p2) [e] [] pos2) X.env)::QZ [] X.env:=by rfl) (hpl:(SJ pos (QZ [] X.env)).any (·.1)=false:=by rfl)
  (OY:QZ [e] X.env=(false,eval e X.env)::QZ [] X.env:=by rfl) (O3:(SJ pos2 (QZ [] X.env)).any (·.1)=false:=by rfl):
  QD X c (.Call (.Name "sorted" p) [.Call (.Name "set" p2) [e] [] pos2] [] pos) (gN gJ gs):=by
 have ha:=ha.h;refine ⟨?_⟩;have h1:=ji (p:=p2) (pos:=pos2) (bN.or (show bN X (.type "set") (Lb X) from u7 hu hc) (show bN X (.type "set") (K_ X) from Cq hc)) OZ hm2 Cm ha (by decide) (by decide) OY O3;have h2:=m_ (p:=p) (pos:=pos) (bN.or (show bN X (.builtin "sorted") (Ft X) from rX hu hc) (show bN X (.builtin "sorted") (Fq X) from zq hc)) hg hm iA (dF h1 fJ he) (by decide) (by decide) he hpl;refine Bw (ta:=y_) (f:=gJ) (r:=λvs H1 Q=>(Lb X vs H1 λv H2=>Ft X [v] H2 Q\/Fq X [v] H2 Q)\/(K_ X vs H1 λv H2=>Ft X [v] H2 Q\/Fq X [v] H2 Q)) h2 rfl ?_;intro He J H xs vs Q hp rs w;unfold gJ at w;split at w
 ·rename_i ys;obtain ⟨v,rfl,r⟩:=rs.one;cases r with
  | tup h hs=>
   have hT:∀{p:Rb}{us:List V},cC c.K J p us->cC X.K H p us:=λh=>by rw [hK];exact eE hp.sub h
   have fin:∀(o:Rb->HO) (w:∀w J' H',Ext J H J' H'->RR c H J' H' (.l .fresh (bZ ys)) w->Q w H') (l l2:Rb) (vs':List V),H l=none->upd H l (o l) l2=none->aD X.K J (bZ ys) vs'->Q (.ref l2) (upd (upd H l (o l)) l2 (.lst vs')):=λo w l l2 vs' hl h2 rr=>by rw [hK] at rr;have e1:=Ext.new hp.sub hl (o l);have e2:=Ext.new e1.sub h2 (.lst vs');exact w _ _ _ (e1.trans e2) (RR.from e1.h (f_ (hp.ext e1) h2 rr))
   split at w
   ·rename_i ok;exact .inl ⟨_,_,ys,J,rfl,hT h,hp.sub,by rw [hK];exact hs,ok,λl hl=>.inl ⟨l,ys,J,rfl,bB,(Ext.new hp.sub hl _).sub,ok,λl2 vs' h2 rr=>fin (λl=>gP X J l ys) w l l2 vs' hl h2 rr⟩⟩
   ·split at w
    ·rename_i ok;unfold qu at ok;rw [QX] at ok;have o1:=of_decide_eq_true ok.1;have ey:=Lv ok.2;refine .inr ⟨_,_,ys.map AI,J,rfl,hT h,by rw [hK,<-ey];exact hs,by rw [QN];exact o1,λl hl=>.inr ⟨l,ys.map AI,rfl,bB,by rw [QN];exact o1,λl2 vs' h2 rr=>?_⟩⟩;rw [<-ey] at rr;exact fin (λl=>ni X l (ys.map AI)) w l l2 vs' hl h2 (rr _)
    ·exact w.elim
 ·exact w.elim
end
end DL
namespace DL
open PySem PySem.Spec PyProof.Rows L2 DX
end DL
namespace K55
open PySem DL
def pZ:List Str:=["told","least","most"]
noncomputable def ql:G O:=(bS (lO (eX (bH (gN (aS 1 K01.nN) (ao (af 0) aE)))) (lO (bH (g2 (jO λi j=>.bl (decide (i < j))) (af 0) (af 1))) (bH (g2 (jO λi j=>.bl (decide (j < i))) (af 0) (af 2))))) wZ dI)
def eK (as:List S):M R:=fin (ql (aW pZ as))
def pX:List Str:=["_law_cell_here","_law_many","_law_left","_law_found","_law_k"]
noncomputable def qh:G O:=(aJ (bh 2 (Gd (ao (af 1) aE)))
 (aJ (bh 3 (gF aU))
 (aJ (eW (bT (ao (af 1) aE)) (aA 4) (aJ (lN 3 2 (g2 eO (af 0) (gN iC (ao (af 2) aE))))
 (bh 0 (g2 iB (af 0) (gC (.int 9))))))
 (bz (gN cH (ao (af 3) aE))))))
def gI (as:List S):M R:=fin (qh (aW pX as))
def nQ:List Str:=["_law_world_here","_law_order_here","_law_marks","_law_arrows"]
noncomputable def om:G O:=(aJ (bh 2 (bE 2 [1] (dQ (g2 a_ (af 0) (gC (.int 1)))) (dU 2 (bD (aA 0) (bD (aA 1) eF))) b8 (bA (az (af 0) (az (gN cH (ao (gN lJ (ao (bE 1 [2] (dQ (af 1)) (aA 0) b8 (g2 a_ (af 1) (af 0))) aE)) aE)) aU)))))
 (aJ (bh 3 (bE 2 [1] (dQ (g2 a_ (af 0) (gC (.int 2)))) (dU 2 (bD (aA 0) (bD (aA 1) eF))) b8 (bA (az (af 0) (az (gN cH (ao (gN lJ (ao (bE 2 [2] (dQ (af 1)) (dU 2 (bD (aA 0) (bD (aA 1) eF))) b8 (bA (az (g2 a_ (af 2) (af 0)) (az (g2 a_ (af 2) (af 1)) aU)))) aE)) aE)) aU)))))
 (bz (bA (az (g2 a_ (af 0) (gC (.int 0))) (az (gN cH (ao (af 2) aE)) (az (gN cH (ao (af 3) aE)) aU)))))))
def ia (as:List S):M R:=fin (om (aW nQ as))
noncomputable def nB:List Str:=["_law_world_here","_law_cell_here","_law_many","_law_marks","_law_arrows","_law_at","_law_thing","_law_some","_law_name","_law_had","_law_now"]
noncomputable def nE:G O:=(aJ (kX (dU 3 (bD (aA 2) (bD (aA 3) (bD (aA 4) eF)))) (af 0))
 (aJ (bS (bH (g2 (dM false) (g2 dB (gN iC (ao (af 3) aE)) (gN iC (ao (af 4) aE))) (gC (.int 0)))) (bz (af 0)) dI)
 (aJ (bh 5 (g2 eO (af 1) (g2 dB (gN iC (ao (af 3) aE)) (gN iC (ao (af 4) aE)))))
 (aJ (bh 6 (g2 eO (g2 iB (af 1) (gC (.int 6))) (af 2)))
 (aJ (bh 7 (af 3))
 (aJ (bS (bH (g2 (jO λi j=>.bl (decide (j<=i))) (af 5) (gN iC (ao (af 3) aE)))) (aJ (bh 5 (g2 Bb (af 5) (gN iC (ao (af 3) aE))))
 (aJ (bh 6 (bA (az (af 6) (az (g2 eO (g2 iB (af 1) (gC (.int 48))) (af 2)) aU))))
 (bh 7 (af 4)))) dI)
 (aJ (kX (dU 2 (bD (aA 8) (bD (aA 9) eF))) (g2 a_ (af 7) (af 5)))
 (aJ (bh 10 (gN cH (ao (gN gJ (ao (g2 dB (af 9) (bA (az (af 6) aU))) aE)) aE)))
 (aJ (bS (bH (g2 (lI false) (af 6) (af 9))) (bh 10 (gN cH (ao (bE 1 [6] (dQ (af 9)) (aA 0) (bH (g2 (dM true) (af 0) (af 1))) (af 0)) aE))) dI)
 (aJ (bh 7 (g2 dB (g2 dB (qe oh (af 7) yl (ym (af 5))) (bA (az (bA (az (af 8) (az (af 10) aU))) aU))) (qe oh (af 7) (ym (g2 dB (af 5) (gC (.int 1)))) yl)))
 (aJ (bS (bH (yk "tuple" (af 6))) (bz (bA (az (af 2) (az (af 3) (az (af 7) aU))))) dI)
 (bz (bA (az (af 2) (az (af 7) (az (af 4) aU))))))))))))))))
def dY (as:List S):M R:=fin (nE (aW nB as))
def uQ:List Str:=["_law_script","_law_sizes","_law_first","_law_second","_law_marks","_law_names_here","_law_one","_law_way","_law_other"]
noncomputable def ve:G O:=(aJ (bh 2 (gN (aS 2 K51.b_) (ao (af 0) (ao (gC (.int 0)) aE))))
 (aJ (bh 3 (gN (aS 2 K51.b_) (ao (af 0) (ao (gC (.int 1)) aE))))
 (aJ (bh 4 (gN (aS 2 K51.fL) (ao (g2 iB (af 3) (gC (.int 20))) (ao (g2 a_ (gF (az (gC (.int 1)) (az (gC (.int 0)) (az (gC (.int 2)) (az (gC (.int 3)) aU))))) (g2 eO (af 3) (gC (.int 4)))) aE))))
 (aJ (iX 4 (bh 5 (bA (az (af 4) (az (gN (aS 2 K51.fL) (ao (gN (aS 2 K51.b_) (ao (af 0) (ao (gC (.int 2)) aE))) (ao (g2 a_ (gF (az (gC (.int 1)) (az (gC (.int 2)) (az (gC (.int 0)) (az (gC (.int 1)) (az (gC (.int 3)) aU)))))) (g2 eO (g2 iB (af 3) (gC (.int 4))) (gC (.int 5)))) aE))) aU)))))
 (aJ (bh 6 (gN (aS 3 K51.eH) (ao (af 5) (ao (g2 a_ (af 1) (g2 eO (af 2) (gC (.int 8)))) (ao (bE 1 [0] (bT (ao (gC (.int 6)) aE)) (aA 0) b8 (gN (aS 2 K51.b_) (ao (af 1) (ao (g2 cO (gC (.int 3)) (af 0)) aE)))) aE)))))
 (aJ (bh 7 (g2 eO (g2 iB (af 2) (gC (.int 8))) (gC (.int 4))))
 (aJ (bS (bH (g2 (dM false) (af 7) (gC (.int 0)))) (bz (bA (az (af 6) (az (gN (aS 3 K51.eH) (ao (af 5) (ao (g2 a_ (af 1) (g2 eO (g2 iB (af 2) (gC (.int 32))) (gC (.int 8)))) (ao (bE 1 [0] (bT (ao (gC (.int 6)) aE)) (aA 0) b8 (gN (aS 2 K51.b_) (ao (af 1) (ao (g2 cO (gC (.int 9)) (af 0)) aE)))) aE)))) aU)))) dI)
 (aJ (bh 8 (gN (aS 2 K55.ia) (ao (af 6) (ao (gN (aS 2 K55.gI) (ao (gN (aS 2 K51.b_) (ao (af 0) (ao (gC (.int 15)) aE))) (ao (g2 a_ (af 6) (gC (.int 0))) aE))) aE))))
 (aJ (bS (bH (g2 (jO λi j=>.bl (decide (j < i))) (af 7) (gC (.int 1)))) (bh 8 (gN (aS 2 K55.dY) (ao (af 8) (ao (gN (aS 2 K51.b_) (ao (af 0) (ao (gC (.int 9)) aE))) aE)))) dI)
 (aJ (bS (bH (g2 (dM false) (af 7) (gC (.int 3)))) (bh 8 (gN (aS 2 K55.dY) (ao (af 8) (ao (gN (aS 2 K51.b_) (ao (af 0) (ao (gC (.int 10)) aE))) aE)))) dI)
 (bz (bA (az (af 6) (az (af 8) aU))))))))))))))
def jc (as:List S):M R:=fin (ve (aW uQ as))
end K55
namespace K55
open PySem DL K01 WP K51 K52
theorem yd (a b:Nat):bg (dN a) (dN b)=(a == b):=by
 show ((a:Int) == (b:Int))=_;by_cases h:a=b
 ·subst h;simp
 ·rw [beq_eq_false_iff_ne.mpr h,beq_eq_false_iff_ne.mpr (by omega)]
structure kg (n:Nat) (w:Wd):Prop where
 mp:∀r∈w.ms,r.2.length<=n/\∀p∈r.2,p < w.m
 ap:∀r∈w.ar,r.2.length<=n/\∀p∈r.2,p.1 < w.m/\p.2 < w.m
abbrev NH (w:Wd):Prop:=kg 30 w
def em (m:Nat) (x:Nat×Nat):Nat:=if x.1=0 then x.2 else x.2 + m
theorem inN (l:Nat) (xs:List Nat):inD (dN l) (xs.map dN)=decide (l∈xs):=by
 unfold inD;rw [Xg,R1,R0,decide_eq_true_eq];constructor
 ·rintro ⟨x,hx,e⟩;have e:bg (dN x) (dN l)=true:=e;rw [yd] at e;rw [<-eq_of_beq e];exact hx
 ·intro h;exact ⟨l,h,by show bg (dN l) (dN l)=true;rw [yd];simp⟩
theorem vc (a b:Nat×Nat):bg (dP a) (dP b)=decide (a=b):=by
 have:bg (dP a) (dP b)=(bg (dN a.1) (dN b.1) && (bg (dN a.2) (dN b.2) && true)):=by show bg (.tup [dN a.1,dN a.2]) (.tup [dN b.1,dN b.2])=_;rw [jF,fP,fP,bW]
 rw [this,yd,yd,R1];obtain ⟨a1,a2⟩:=a;obtain ⟨b1,b2⟩:=b;simp
theorem MJ (l:Nat×Nat) (xs:List (Nat×Nat)):inD (dP l) (xs.map dP)=decide (l∈xs):=by
 unfold inD;rw [Xg,R1,R0,decide_eq_true_eq];constructor
 ·rintro ⟨x,hx,e⟩;have e:bg (dP x) (dP l)=true:=e;rw [vc,decide_eq_true_eq] at e;rw [<-e];exact hx
 ·intro h;exact ⟨l,h,by show bg (dP l) (dP l)=true;rw [vc];simp⟩
theorem fp (i j:Int):dB (.d (.int i)) (.d (.int j))=.ok (.d (.int (i + j))):=rfl
theorem EK {env:Ev}{Q:O->Prop}{g:G R}{i j k:Nat}{xs zs:List D}(h1:env[i]?=some (some (.own zs))) (h2:env[j]?=some (some (.own xs))) (hij:i≠j) (h:g env=.ok (.d (.int k))) (hk:k < xs.length) (lz:zs.length < 1000) (lx:xs.length<=1000)
  (c:Q (.nx ((env.set j (some (.own (xs.eraseIdx k)))).set i (some (.own (zs++[xs[k]])))))):Wp (lN i j g env) Q:=by refine ⟨_,?_,c⟩;unfold lN;rw [h1,h2];show (if i=j then M.bad else (g env >>= _))=_;rw [if_neg hij,h,aK];show (if 0<=(k:Int)/\(k:Int).toNat < xs.length/\zs.length < sizeLine/\xs.length<=sizeLine then _ else _)=_;rw [if_pos ⟨by omega,by simpa using hk,Rh lz (gR (QW _)),gR lx⟩];rw [SM,Q4 hk]
noncomputable def kO:D->Nat
 | .int i=>i.toNat
 | _=>0
noncomputable def kP:D->Nat×Nat
 | .tup [x,y]=>(kO x,kO y)
 | _=>(0,0)
theorem tV (n:Nat):kO (dN n)=n:=rfl
theorem kQ (n:Nat×Nat):kP (dP n)=n:=rfl
theorem back {α:Type}(h:α->D) (u:D->α) (hu:∀x,u (h x)=x){l:List D}(hl:∀d∈l,∃x,d=h x):(l.map u).map h=l:=by rw [Rt];refine (Uc (g:=id) λd hd=>?_).trans (List.map_id _);obtain ⟨x,rfl⟩:=hl d hd;show h (u (h x))=h x;rw [hu]
theorem vQ {α:Type}(h:α->D) (u:D->α) (hu:∀x,u (h x)=x) (xs:List α):((bG (xs.map h)).map u).map h=bG (xs.map h):=back h u hu λd hd=>by obtain ⟨x,_,rfl⟩:=QO.mp (kK hd);exact ⟨x,rfl⟩
theorem AA {α:Type}(h:α->D) (u:D->α) (hu:∀x,u (h x)=x) (xs:List α):∀y∈(bG (xs.map h)).map u,y∈xs:=λy hy=>by obtain ⟨d,hd,rfl⟩:=QO.mp hy;obtain ⟨x,hx,rfl⟩:=QO.mp (kK hd);rw [hu];exact hx
def pF:Fm:=.tc .i (.tc .i .tn)
theorem oz (p:Nat×Nat):iR pF (dP p):=⟨_,rfl,_,_,rfl,⟨_,rfl⟩,_,rfl,_,_,rfl,⟨_,rfl⟩,[],rfl,rfl⟩
theorem Gu (xs:List Nat) (hl:xs.length < 64):qu (xs.map dN)=true:=by unfold qu;rw [QN,decide_eq_true hl,Ub,Rk];intro d hd;obtain ⟨x,_,rfl⟩:=QO.mp hd;rfl
theorem JL (xs:List (Nat×Nat)):∀d∈xs.map dP,f9 d=some .i:=λd hd=>by obtain ⟨x,_,rfl⟩:=QO.mp hd;rfl
theorem LV (xs:List (Nat×Nat)) (hl:xs.length < 64):vA (xs.map dP)=true:=by
 have P9:=CG xs;have hc:xY (xs.map dP)=true:=by unfold xY;rw [Rk];intro x hx;rw [Rk];intro y hy;obtain ⟨a,_,rfl⟩:=QO.mp hx;obtain ⟨b,_,rfl⟩:=QO.mp hy;exact (fD pF).lt _ _ (oz a) (oz b)
 unfold vA;rw [hc,decide_eq_true P9,QN,decide_eq_true hl];cases xs with
 | nil=>rfl
 | cons x xs=>
  have hh:E3 ((x::xs).map dP)=true:=by show fU .i ((x::xs).map dP)=true;exact mE (JL (x::xs))
  rw [hh];simp
theorem Nd (xs:List Nat) (hl:xs.length < 64):lJ [.l .fresh (xs.map dN)]=.ok (.l .fresh (bG (xs.map dN))):=by show (if vA (xs.map dN)=true then M.ok (R.l .fresh (bG (xs.map dN))) else if qu (xs.map dN)=true then M.ok (R.l .fresh (bG (xs.map dN))) else .bad)=_;rw [if_pos (Gu xs hl)];split <;> rfl
theorem Nf (xs:List (Nat×Nat)) (hl:xs.length < 64):lJ [.l .fresh (xs.map dP)]=.ok (.l .fresh (bG (xs.map dP))):=by show (if vA (xs.map dP)=true then M.ok (R.l .fresh (bG (xs.map dP))) else if qu (xs.map dP)=true then M.ok (R.l .fresh (bG (xs.map dP))) else .bad)=_;rw [if_pos (LV xs hl)]
theorem EG {ps:List Nat}(hp:p < ps.length):a_ (.d (.tup (ps.map dN))) (.d (dN p))=.ok (.d (dN (ps.getD p 0))):=by
 have h1:(ps.map dN)[p]?=some (dN (ps.getD p 0)):=by rw [Rc,Q4 hp];simp [Xl,hp]
 exact jG h1
noncomputable def j3 (w:Wd) (ps:List Nat):Wd:=⟨w.m,w.ms.map λr=>(r.1,(bG ((r.2.map λp=>ps.getD p 0).map dN)).map kO),w.ar.map λr=>(r.1,(bG ((r.2.map λp=>(ps.getD p.1 0,ps.getD p.2 0)).map dP)).map kP)⟩
theorem D5 (w:Wd) (hw:lC w) (n:Nat) (hn:n<=40) (hb:kg n w) (ps:List Nat) (hl:ps.length=w.m):ia [.d w.d,.d (.tup (ps.map dN))]=.ok (.d (j3 w ps).d):=by
 have ml:=hw.ml;have al:=hw.al;refine cj (bF (ku (xs:=w.ms) (λr=>.str r.1) (λr=>.tup (r.2.map dN)) (λr=>iI (r.1,(bG ((r.2.map λp=>ps.getD p 0).map dN)).map kO)) ?_ (by omega) λr hr=>?_) rfl ?_)
 ·show (g2 a_ (af 0) (gC (.int 1)) _ >>= _)=_;rw [two (x:=.d w.d) rfl rfl (Ae _ _ _)];rfl
 ·obtain ⟨h1,h2⟩:=hb.mp r hr;refine ⟨_,br (aG rfl rfl (aG (n1 (n1 (iU (xs:=r.2) (h:=dN) (λp=>dN (ps.getD p 0)) rfl (by omega) λp hp=>⟨_,two rfl rfl (EG (by rw [hl];exact h2 p hp)),rfl⟩) (x:=.l .fresh (r.2.map λp=>dN (ps.getD p 0))) (z:=.l .fresh (bG ((r.2.map λp=>ps.getD p 0).map dN))) ?_) rfl) rfl bq)) t2,?_⟩
  ·have:=Nd (r.2.map λp=>ps.getD p 0) (by simp;omega);rw [Rt] at this ⊢;exact this
  ·unfold iI;rw [vQ dN kO tV];rfl
 refine bF (ku (xs:=w.ar) (λr=>.str r.1) (λr=>.tup (r.2.map dP)) (λr=>jX (r.1,(bG ((r.2.map λp=>(ps.getD p.1 0,ps.getD p.2 0)).map dP)).map kP)) ?_ (by omega) λr hr=>?_) rfl ?_
 ·show (g2 a_ (af 0) (gC (.int 2)) _ >>= _)=_;rw [two (x:=.d w.d) rfl rfl (NO _ _ _ _)];rfl
 ·obtain ⟨h1,h2⟩:=hb.ap r hr;refine ⟨_,br (aG rfl rfl (aG (n1 (n1 (ku (xs:=r.2) (λp=>dN p.1) (λp=>dN p.2) (λp=>dP (ps.getD p.1 0,ps.getD p.2 0)) rfl (by omega) λp hp=>⟨_,br (aG (two rfl rfl (EG (by rw [hl];exact (h2 p hp).1))) rfl (aG (two rfl rfl (EG (by rw [hl];exact (h2 p hp).2))) rfl bq)) t2,rfl⟩) (x:=.l .fresh (r.2.map λp=>dP (ps.getD p.1 0,ps.getD p.2 0))) (z:=.l .fresh (bG ((r.2.map λp=>(ps.getD p.1 0,ps.getD p.2 0)).map dP))) ?_) rfl) rfl bq)) t2,?_⟩
  ·have:=Nf (r.2.map λp=>(ps.getD p.1 0,ps.getD p.2 0)) (by simp;omega);rw [Rt] at this ⊢;exact this
  ·unfold jX;rw [vQ dP kP kQ];rfl
 refine bK (br (aG (two rfl rfl (g8 _ _)) rfl (aG rfl rfl (aG rfl rfl bq))) (by show 3<=1000;decide)) rfl ?_;unfold j3 Wd.d;simp only [Rt];rfl
theorem Mz (w:Wd) (hw:lC w) (n:Nat) (hb:kg n w) (ps:List Nat) (hl:ps.length=w.m) (hp:∀p∈ps,p < w.m):lC (j3 w ps)/\kg n (j3 w ps)/\(j3 w ps).m=w.m/\(j3 w ps).ms.length=w.ms.length/\(j3 w ps).ar.length=w.ar.length:=by
 have gd:∀p,p < w.m->ps.getD p 0 < w.m:=λp h=>by
  have h':p < ps.length:=by omega
  rw [show ps.getD p 0=ps[p] by simp [Xl,h']];exact hp _ (SI h')
 refine ⟨⟨hw.lo,hw.hi,?_,?_⟩,⟨λr hr=>?_,λr hr=>?_⟩,rfl,QN _,QN _⟩
 ·show (w.ms.map _).length<=3;rw [QN];exact hw.ml
 ·show (w.ar.map _).length<=3;rw [QN];exact hw.al
 ·obtain ⟨q,hq,rfl⟩:=QO.mp (show r∈w.ms.map _ from hr);obtain ⟨h1,h2⟩:=hb.mp q hq;refine ⟨?_,λp hp'=>?_⟩
  ·show ((bG _).map kO).length<=n;rw [QN,o6,QN,QN];exact h1
  ·have:=AA dN kO tV _ p hp';obtain ⟨z,hz,rfl⟩:=QO.mp this;exact gd z (h2 z hz)
 ·obtain ⟨q,hq,rfl⟩:=QO.mp (show r∈w.ar.map _ from hr);obtain ⟨h1,h2⟩:=hb.ap q hq;refine ⟨?_,λp hp'=>?_⟩
  ·show ((bG _).map kP).length<=n;rw [QN,o6,QN,QN];exact h1
  ·have:=AA dP kP kQ _ p hp';obtain ⟨z,hz,rfl⟩:=QO.mp this;exact ⟨gd _ (h2 z hz).1,gd _ (h2 z hz).2⟩
theorem Nk (xs:List Nat) (hl:xs.length < 64):gJ [.d (.tup (xs.map dN))]=.ok (.l .fresh (bZ (xs.map dN))):=by show (if iP (xs.map dN)=true then M.ok (R.l .fresh (bZ (xs.map dN))) else if qu (xs.map dN)=true then M.ok (R.l .fresh (bZ (xs.map dN))) else .bad)=_;rw [if_pos (Gu xs hl)];split <;> rfl
theorem Gv (xs:List (Nat×Nat)) (hl:xs.length < 64):iP (xs.map dP)=true:=by
 have h1:areKeys (xs.map dP)=true:=by
  induction xs with
  | nil=>rfl
  | cons x xs ih=>
   rw [Q6];show (isKey (dP x) && areKeys (xs.map dP))=true;rw [ih (by simp at hl;omega)];rfl
 have h2:deps (xs.map dP)<=8:=dz λd hd=>by obtain ⟨x,_,rfl⟩:=QO.mp hd;exact (by decide:(1:Nat)<=8)
 have h3:Gs (xs.map dP)=true:=by
  cases xs with
  | nil=>rfl
  | cons x xs=>
   show (fU .i ((x::xs).map dP) && ((x::xs).map dP).all (pG pF))=true;rw [mE (JL (x::xs)),Ub,Rk];intro d hd;obtain ⟨y,_,rfl⟩:=QO.mp hd;rfl
 unfold iP;rw [h1,h3,decide_eq_true h2,QN,decide_eq_true hl];rfl
theorem Li (xs:List (Nat×Nat)) (hl:xs.length < 64):se [.d (.tup (xs.map dP))]=.ok (.l .fresh (bZ (xs.map dP))):=by show (if iP (xs.map dP)=true then M.ok (R.l .fresh (bZ (xs.map dP))) else _)=_;rw [if_pos (Gv xs hl)]
theorem Nl (xs:List (Nat×Nat)) (hl:xs.length < 64):gJ [.d (.tup (xs.map dP))]=.ok (.l .fresh (bZ (xs.map dP))):=by show (if iP (xs.map dP)=true then M.ok (R.l .fresh (bZ (xs.map dP))) else _)=_;rw [if_pos (Gv xs hl)]
theorem o7 {P:D->Prop}(p:fk P){ds:List D}(h:∀x∈ds,P x):(bZ ds).length<=ds.length/\∀d∈bZ ds,d∈ds:=by obtain ⟨h1,h2⟩:=wW p ds h;refine ⟨?_,λd hd=>((nk p h).2 d).mp hd⟩;show (bG (dd ds)).length<=_;rw [o6];exact Rv h1 λd hd=>(h2 d).mp hd
theorem Jy (xs:List D) (k:Nat) (hk:k<=xs.length):cutD xs none (some (k:Int))=xs.take k:=by unfold cutD;rw [HT.yU,HT.Ay,Zo hk];simp
theorem Ep (xs:List D) (k:Nat) (hk:k<=xs.length):cutD xs (some (k:Int)) none=xs.drop k:=by unfold cutD;rw [HT.yU,HT.Ay,Zo hk];rw [W5 (by simp)]
abbrev Mf:G O:=(aJ (kX (dU 2 (bD (aA 8) (bD (aA 9) eF))) (g2 a_ (af 7) (af 5)))
 (aJ (bh 10 (gN cH (ao (gN gJ (ao (g2 dB (af 9) (bA (az (af 6) aU))) aE)) aE)))
 (aJ (bS (bH (g2 (lI false) (af 6) (af 9))) (bh 10 (gN cH (ao (bE 1 [6] (dQ (af 9)) (aA 0) (bH (g2 (dM true) (af 0) (af 1))) (af 0)) aE))) dI)
 (aJ (bh 7 (g2 dB (g2 dB (qe oh (af 7) yl (ym (af 5))) (bA (az (bA (az (af 8) (az (af 10) aU))) aU))) (qe oh (af 7) (ym (g2 dB (af 5) (gC (.int 1)))) yl)))
 (aJ (bS (bH (yk "tuple" (af 6))) (bz (bA (az (af 2) (az (af 3) (az (af 7) aU))))) dI)
 (bz (bA (az (af 2) (az (af 7) (az (af 4) aU))))))))))
abbrev cY {α:Type}(h:α->D) (r:Str×List α):D:=.tup [.str r.1,.tup (r.2.map h)]
structure B7 {α:Type}(P:α->Prop) (n:Nat) (L:List (Str×List α)):Prop where
 all:∀r∈L,r.2.length<=n/\∀p∈r.2,P p
theorem sV {i:Int}(h:0<=i):∃k:Nat,i=k:=⟨i.toNat,by omega⟩
theorem pL {m:Nat}{ps:List (Nat×Nat)}(h:rP m ps) (hm:m<=4):ps.length<=16:=by
 obtain ⟨_,h2,h3⟩:=h;have nd:ps.Nodup:=h2.imp fun {a b} hab e=>by subst e;unfold qv at hab;omega
 have sub:∀p∈ps,p∈(QS 16).map λk=>(k / 4,k % 4):=λp hp=>by obtain ⟨a,b⟩:=h3 p hp;refine QO.mpr ⟨p.1 * 4 + p.2,by rw [Ro];omega,?_⟩;obtain ⟨x,y⟩:=p;simp only at a b ⊢;rw [Prod.mk.injEq];omega
 have:=Rv nd sub;simpa using this
end K55
namespace DL
open PySem PySem.Spec PyProof.Rows L2 DX
noncomputable def bO (gt:GT) (gts:G Bool) (act:Ev->M (List D×Ev)):List D->Ev->M (List D×Ev)
 | [],env=>.ok ([],env)
 | d::ds,env=>gt d env >>= λe=>gts e >>= λk=>if k=true then act e >>= λr=>bO gt gts act ds r.2 >>= λz=>.ok (r.1++z.1,z.2) else bO gt gts act ds e
def xy (env:Ev) (σ:L2.St) (p:Rb):Prop:=∀(j:Nat) (xs:Mn),env[j]?=some (some (mS xs))->σ[j]?≠some (some (.ref p))
structure tZ (Acc:Hp->Hp->List D->Prop):Prop where
 ext:∀{J H J' H':Hp}{ys:List D},Acc J H ys->Ext J H J' H'->Acc J' H' ys
noncomputable def qC (X:Cx) (c:C) (p:Rb) (Acc:Hp->Hp->List D->Prop) (J2 H2:Hp) (N:Nat) (m:Sem Unit) (act:Ev->M (List D×Ev)):Prop:=
 ∀(Qx:List (Rb×Obj)) (s:QM) (σ:L2.St) (H J:Hp) (env:Ev) (ys:List D) (Qf:List D×Ev->Prop),Inv X Qx σ H s->Ext J2 H2 J H->SR c J H σ env->xy env σ p->Acc J H ys->ys.length + N<=sizeLine->cA (act env) Qf c.T->
  Q_ (Rf X.prog X.w) X.A m (λ_ s'=>∃σ' H' J' r,Inv X Qx σ' H' s'/\Ext J2 H2 J' H'/\aL J J'/\SR c J' H' σ' r.2/\xy r.2 σ' p/\Acc J' H' (ys++r.1)/\r.1.length<=N/\Qf r) (λ_ _=>False) s
abbrev DS (ifs:List RA) (env:Env):Sem Bool:=forIn ifs true λc r=>if r=true then do let ok <-XG c env (eval c env);pure (Ti ok) else pure (Ti r)
abbrev kN (QA QC:RA) (ifs:List RA) (it:QL) (env:Env) (act:Sem Unit) (again':Sem Fin):Sem Fin:=do
 Uo QC.pos
 match <-Vg it with
 | none=>pure (.done .next)
 | some v=>
  Th QA it v
  assign QA env v
  let mut ok:=true
  for c in ifs do
   if ok then ok <-XG c env (eval c env)
  if ok then
   act
  again'
noncomputable def rG (prog:Ra) (w:Rz) (A:RC) (e:RA) (depth:Nat) (it acc:QL) (env:Env) (QA:RA) (ifs:List RA) (m:Sem Unit):Prop:=
 ∀(R:Y6->QM->Prop) (I:Nat->QM->Prop),(∀n s,I n s->Q_ (Rf prog w) A (Vg it) (λr s₁=>match r with
   | none=>R (.ok .next) s₁
   | some v=>Q_ (Rf prog w) A (Th QA it v) (λ_ s₁=>Q_ (Rf prog w) A (assign QA env v) (λ_ s₂=>
     Q_ (Rf prog w) A (DS ifs env) (λok s₃=>if ok=true then Q_ (Rf prog w) A m (λ_ s₅=>∃m,m < n/\I m s₅) (λ_ _=>False) s₃ else ∃m,m < n/\I m s₃) (λ_ _=>False) s₂) (λ_ _=>False) s₁) (λ_ _=>False) s₁) (λ_ _=>False) s)->
  ∀(n:Nat) (s:QM),I n s->S6 (Rf prog w) A (.compLoop e depth it acc env) R s
section
variable {prog:Ra}{w:Rz}{A:RC}{QA QC:RA}{ifs:List RA}{Qw:Um}{pos:Pos}{it acc:QL}{env:Env}{depth:Nat}{gens:List WR}{act:Sem Unit}
theorem zd {R:Y6->QM->Prop}{I:Nat->QM->Prop}{E:QL->QM->Prop}{code:Code}{n:Nat}{s:QM}{Q:Fin->QM->Prop}
  (P1:∀s,R (.ok .next) s->Q (.done .next) s) (PR:∀s,(∃m,m < n/\I m s)->Q_ (Rf prog w) A (again code) Q E s)
  (t:Q_ (Rf prog w) A (Vg it) (λr s₁=>match r with
   | none=>R (.ok .next) s₁
   | some v=>Q_ (Rf prog w) A (Th QA it v) (λ_ s₁=>Q_ (Rf prog w) A (assign QA env v) (λ_ s₂=>
     Q_ (Rf prog w) A (DS ifs env) (λok s₃=>if ok=true then Q_ (Rf prog w) A act (λ_ s₅=>∃m,m < n/\I m s₅) (λ_ _=>False) s₃ else ∃m,m < n/\I m s₃) (λ_ _=>False) s₂) (λ_ _=>False) s₁) (λ_ _=>False) s₁) (λ_ _=>False) s):
  Q_ (Rf prog w) A (kN QA QC ifs it env act (again code)) Q E s:=by
 refine QI (T6 (QI (RE t (λr s₁ h₁=>?_) λ_ _ f=>f.elim)));cases r with
 | none=>exact QK (P1 _ h₁)
 | some v=>
  refine QI (RE h₁ (λ_ s₁' h₁'=>?_) λ_ _ f=>f.elim);refine QI (RE h₁' (λ_ s₂ h₂=>QI (RE h₂ (λok s₃ h₃=>?_) λ_ _ f=>f.elim)) λ_ _ f=>f.elim);cases ok with
  | false=>exact PR _ h₃
  | true=>exact QI (RE h₃ (λ_ s₅ h₅=>PR _ h₅) λ_ _ f=>f.elim)
theorem w_ {elt:RA}(ht:VC (.ListComp elt gens Qw pos) depth it acc env=kN QA QC ifs it env act (again (.compLoop (.ListComp elt gens Qw pos) depth it acc env))):rG prog w A (.ListComp elt gens Qw pos) depth it acc env QA ifs act:=by intro R I turn n s h;refine codeAny_loop rfl I (λn s hI=>?_) n h;show Q_ _ A ((VC (.ListComp elt gens Qw pos) depth it acc env).onRaise (λx=>do Zp x env;Zq x)) _ _ s;refine wpAny_noted ?_;rw [ht];exact zd (λ_ h=>h) (λ_ h=>QK ⟨rfl,h⟩) (turn n s hI)
theorem Bq {kx vx:RA}(ht:VC (.DictComp kx vx gens Qw pos) depth it acc env=kN QA QC ifs it env act (again (.compLoop (.DictComp kx vx gens Qw pos) depth it acc env))):rG prog w A (.DictComp kx vx gens Qw pos) depth it acc env QA ifs act:=by intro R I turn n s h;refine codeAny_loop rfl I (λn s hI=>?_) n h;show Q_ _ A ((VC (.DictComp kx vx gens Qw pos) depth it acc env).onRaise (λx=>do Zp x env;Zq x)) _ _ s;refine wpAny_noted ?_;rw [ht];exact zd (λ_ h=>h) (λ_ h=>QK ⟨rfl,h⟩) (turn n s hI)
end
section
variable {X:Cx}{c:C}{p:Rb}{Acc:Hp->Hp->List D->Prop}{J2 H2:Hp}{N:Nat}{m:Sem Unit}{act:Ev->M (List D×Ev)}{QA:RA}{ifs:List RA}{gt:GT}{gts:G Bool}{e:RA}{depth:Nat}{acc:QL}{it:Rb}{fp:List Rb}{tn:Nat->Sn->Prop}{It:It}{ds:List D}{J1:Hp}
theorem yz (aR:tZ Acc) (hc:X.calm=true) (hx:∀v s,X.xe v s->False) (LP:rG X.prog X.w X.A e depth (.ref it) acc X.env QA ifs m) (hT:B5 X c QA gt) (hIf:AR X c ifs gts) (hA:qC X c p Acc J2 H2 N m act) (T:Turn X.prog X.w X.K QA It fp it tn)
 (U:Hp->Hp->Prop) (wk:Walk c It ds J1 U){s:QM}{H J:Hp}{ys:List D}{Qf:List D×Ev->Prop}(hU:∀J' H',Ext J2 H2 J' H'->aL J J'->U J' H') (I:Inv X Qx σ H s) (st:tn 0 s.heap) (fr:∀b∈fp,jm X Qx H b) (e2:Ext J2 H2 J H) (sr:SR c J H σ env) (no:xy env σ p) (ac:Acc J H ys)
 (hl:ys.length + ds.length * N<=sizeLine) (w:cA (bO gt gts act ds env) Qf c.T):
  S6 (Rf X.prog X.w) X.A (.compLoop e depth (.ref it) acc X.env) (λr s'=>r=.ok .next/\∃σ' H' J' r',Inv X Qx σ' H' s'/\Ext J2 H2 J' H'/\aL J J'/\SR c J' H' σ' r'.2/\xy r'.2 σ' p/\Acc J' H' (ys++r'.1)/\r'.1.length<=ds.length * N/\Qf r') s:=by
 refine LP _ (λn s'=>∃(i:Nat) (σ':L2.St) (H' J':Hp) (env':Ev) (zs:List D),n=ds.length - i/\i<=ds.length/\Inv X Qx σ' H' s'/\tn i s'.heap/\(∀b∈fp,H' b=none)/\Ext J2 H2 J' H'/\aL J J'/\SR c J' H' σ' env'/\xy env' σ' p/\Acc J' H' (ys++zs)/\zs.length<=i * N/\
  cA (bO gt gts act (ds.drop i) env') (λr=>Qf (zs++r.1,r.2)) c.T) ?_ ds.length s ⟨0,σ,H,J,env,[],rfl,Rm _,I,st,λb hb=>(fr b hb).1,e2,aL.refl J,sr,no,by rw [TU];exact ac,by simp,by rw [ZE];exact w⟩
 rintro n s' ⟨i,σ',H',J',env',zs,rfl,hi,I',st',fr',e',sj,sr',no',ac',hz,w'⟩;have stat:∀{H':Hp},(∀b∈fp,H' b=none)->∀b∈fp,jm X Qx H' b:=λhn b hb=>⟨hn b hb,(fr b hb).2⟩;obtain ⟨wk1,wk2⟩:=wk i J' H' sr'.hp (hU J' H' e' sj);by_cases hlt:i < ds.length
 ·obtain ⟨g1,y1⟩:=wk2 ds[i] (by simp [hlt]);rw [UN hlt] at w';refine RE (T.item X rfl rfl rfl hc i Qx s' σ' H' (λ_ _=>False) I' (stat fr') st' g1) (λr s4 ⟨u,hr,h4⟩=>?_) λ_ _ f=>f.elim;subst hr;refine RE h4 (λ_ s5 ⟨x,H5,I5,r5,y5,st5,fr5⟩=>?_) λ_ _ f=>f.elim;obtain ⟨J5,e5,rx⟩:=y1 x H5 y5;have I5':=I5.pinned (stat fr5) (T.obj _ _ st5);have again:∀{σ7:L2.St}{H7:Hp}{s7:QM},Inv X (Qx++oK fp s5.heap) σ7 H7 s7->Inv X Qx σ7 H7 s7/\tn (i + 1) s7.heap/\(∀b∈fp,H7 b=none):=fun {σ7 H7 s7} I7=>by refine ⟨I7.unpinned,T.keep _ _ _ st5 λb hb o e=>(I7.pin (b,o) (RK _ (RK _ (jz hb e)))).1,λb hb=>?_⟩;obtain ⟨o,e,d⟩:=T.obj _ _ st5 b hb;exact (I7.pin (b,o) (RK _ (RK _ (jz hb e)))).2.1
  refine RE (hT _ s5 σ' H5 x u (λσ6 H6=>∃e6,H6=H5/\SR c J5 H5 σ6 e6/\KO env' σ' e6 σ6/\cA (gts e6 >>= λk=>if k=true then act e6 >>= λr=>bO gt gts act (ds.drop (i + 1)) r.2 >>= λz=>.ok (r.1++z.1,z.2) else bO gt gts act (ds.drop (i + 1)) e6)
   (λr=>Qf (zs++r.1,r.2)) c.T) I5' r5 ⟨J5,env',ds[i],sr'.ext e5,rx,aC (aH w') λe6 w6 σ6 sr6 ko=>⟨e6,rfl,sr6,ko,w6⟩⟩) (λ_ s6 ⟨σ6,H6,I6,e6,PZ,sr6,ko,w6⟩=>?_) λ_ _ f=>(hx _ _ f).elim
  subst PZ;have no6:xy e6 σ6 p:=λj xs q z=>by obtain ⟨k1,k2⟩:=ko j xs q;exact no' j xs k1 (k2▸z)
  refine RE (hIf _ s6 σ6 H6 (λk H7=>∃J7,Ext J5 H6 J7 H7/\cA (if k=true then act e6 >>= λr=>bO gt gts act (ds.drop (i + 1)) r.2 >>= λz=>.ok (r.1++z.1,z.2) else bO gt gts act (ds.drop (i + 1)) e6)
   (λr=>Qf (zs++r.1,r.2)) c.T) I6 ⟨J5,e6,sr6,aC (aH w6) λk wk J7 H7 e7=>⟨J7,e7,wk⟩⟩) (λk s7 ⟨H7,I7,J7,e7,w7⟩=>?_) λ_ _ f=>(hx _ _ f).elim
  have sr7:=sr6.ext e7;have ac7:=aR.ext (aR.ext ac' e5) e7;have x7:=(e'.trans e5).trans e7;have j7:=(sj.trans e5.j).trans e7.j;have hm:(i + 1) * N=i * N + N:=by rw [Zr,Nat.one_mul]
  cases k with
  | false=>
   rw [if_neg (by decide)] at w7 ⊢;obtain ⟨a1,a2,a3⟩:=again I7;exact ⟨ds.length - (i + 1),by omega,i + 1,σ6,H7,J7,e6,zs,rfl,hlt,a1,a2,a3,x7,j7,sr7,no6,ac7,by omega,w7⟩
  | true=>
   rw [if_pos rfl] at w7 ⊢;have hN:(i + 1) * N<=ds.length * N:=UK N hlt;refine RE (hA _ s7 σ6 H7 J7 e6 (ys++zs) _ I7 x7 sr7 no6 ac7 (by rw [Rj];omega) (aH w7)) (λ_ s8 ⟨σ8,H8,J8,r,I8,x8,j8,sr8,no8,ac8,l8,w8⟩=>?_) λ_ _ f=>f.elim;obtain ⟨a1,a2,a3⟩:=again I8;refine ⟨ds.length - (i + 1),by omega,i + 1,σ8,H8,J8,r.2,zs++r.1,rfl,hlt,a1,a2,a3,x8,j7.trans j8,sr8,no8,by rw [<-UE];exact ac8,by rw [Rj];omega,?_⟩;refine aC (aH w8) λz q=>?_;rw [UE];exact q
 ·have Qd:i=ds.length:=by omega
  subst Qd;rw [W2 (QW _)] at w';refine RE (T.done X rfl rfl rfl hc _ Qx s' σ' H' (λ_ _=>False) I' (stat fr') st' (wk1 (QW _))) (λr s4 ⟨hr,I9⟩=>?_) λ_ _ f=>f.elim;subst hr;have w9:Qf (zs++[],env'):=w';rw [TU] at w9;exact ⟨rfl,σ',H',J',(zs,env'),I9,e',sj,sr',no',ac',hz,w9⟩
end
section
variable {prog:Ra}{w:Rz}{A:RC}{R:Y6->QM->Prop}{s:QM}{it acc:QL}{env:Env}{Qw:Um}{pos:Pos}{g0:WR}{QA QC:RA}{ifs:List RA}{rest:List WR}
theorem Ll (h0:S6 (Rf prog w) A (.compLoop (.ListComp elt (g0::⟨QA,QC,ifs,0⟩::rest) Qw pos) 1 it acc env) R s)
 (h:Q_ (Rf prog w) A (Wv it) (λit' s'=>S6 (Rf prog w) A (.compLoop (.ListComp elt (g0::⟨QA,QC,ifs,0⟩::rest) Qw pos) 1 it' acc env) R s') (λ_ _=>False) s):
  S6 (Rf prog w) A (.compStart (.ListComp elt (g0::⟨QA,QC,ifs,0⟩::rest) Qw pos) 1 it acc env) R s:=by
 refine Wf ?_;show Q_ _ _ ((Zs (.ListComp elt (g0::⟨QA,QC,ifs,0⟩::rest) Qw pos) 1 it acc env).onRaise (λx=>do Zp x env;Uo Zt)) _ _ s;refine aam ?_;unfold Zs;show Q_ _ _ (ask >>= _) _ _ s;refine QI (Tp (wpAny_ite ?_));split
 ·first
   | exact QI (QK (QK (Xm rfl h0)))
   | exact QK (Xm rfl h0)
 ·refine QI (Wy ?_);show Q_ _ _ (Uo QC.pos >>= _) _ _ s;exact QI (T6 (QI (RE h (λit' s' h'=>QK (Xm rfl h')) λ_ _ x=>x.elim)))
theorem Lk (h0:S6 (Rf prog w) A (.compLoop (.DictComp kx vx (g0::⟨QA,QC,ifs,0⟩::rest) Qw pos) 1 it acc env) R s)
 (h:Q_ (Rf prog w) A (Wv it) (λit' s'=>S6 (Rf prog w) A (.compLoop (.DictComp kx vx (g0::⟨QA,QC,ifs,0⟩::rest) Qw pos) 1 it' acc env) R s') (λ_ _=>False) s):
  S6 (Rf prog w) A (.compStart (.DictComp kx vx (g0::⟨QA,QC,ifs,0⟩::rest) Qw pos) 1 it acc env) R s:=by
 refine Wf ?_;show Q_ _ _ ((Zs (.DictComp kx vx (g0::⟨QA,QC,ifs,0⟩::rest) Qw pos) 1 it acc env).onRaise (λx=>do Zp x env;Uo Zt)) _ _ s;refine aam ?_;unfold Zs;show Q_ _ _ (ask >>= _) _ _ s;refine QI (Tp (wpAny_ite ?_));split
 ·first
   | exact QI (QK (QK (Xm rfl h0)))
   | exact QK (Xm rfl h0)
 ·refine QI (Wy ?_);show Q_ _ _ (Uo QC.pos >>= _) _ _ s;exact QI (T6 (QI (RE h (λit' s' h'=>QK (Xm rfl h')) λ_ _ x=>x.elim)))
end
noncomputable def iw (gi:G (List D)) (gt:GT) (gts:G Bool) (act:Ev->M (List D×Ev)):Ev->M (List D×Ev):=λenv=>gi env >>= λds=>if ds.length<=1000 then bO gt gts act ds env else .bad
abbrev qN (e QC:RA) (acc:QL) (env:Env):Sem Unit:=do
 let x <-eval QC env
 Uo QC.pos
 let x <-Se QC env x
 let _ <-runOwn (.compStart e 1 (<-holding [x] (Wv x)) acc env) env
section
variable {X:Cx}{c:C}{p:Rb}{Acc:Hp->Hp->List D->Prop}{J2 H2:Hp}{N:Nat}{m:Sem Unit}{act:Ev->M (List D×Ev)}{QA QC:RA}{ifs:List RA}{gi:G (List D)}{gt:GT}{gts:G Bool}{e:RA}{acc:QL}
theorem zQ (aR:tZ Acc) (hc:X.calm=true) (hx:∀v s,X.xe v s->False) (hs:∀x,Se QC X.env x=pure x)
  (start:∀(it:Rb) (R:Y6->QM->Prop) (s:QM),S6 (Rf X.prog X.w) X.A (.compLoop e 1 (.ref it) acc X.env) R s->Q_ (Rf X.prog X.w) X.A (Wv (.ref it)) (λit' s'=>S6 (Rf X.prog X.w) X.A (.compLoop e 1 it' acc X.env) R s') (λ_ _=>False) s->S6 (Rf X.prog X.w) X.A (.compStart e 1 (.ref it) acc X.env) R s)
  (LP:∀it:Rb,rG X.prog X.w X.A e 1 (.ref it) acc X.env QA ifs m) (hi:MF X c QA QC gi) (hT:B5 X c QA gt) (hIf:AR X c ifs gts) (hA:qC X c p Acc J2 H2 N m act):
  qC X c p Acc J2 H2 (1000 * N) (qN e QC acc X.env) (iw gi gt gts act):=by
 intro Qx s σ H J env ys Qf I x2 sr no ac hl w;refine QI (RE (hi Qx s σ H (λIt H1=>∃ds J1,Ext J H J1 H1/\Walk c It ds J1 (λJ' _=>aL J1 J')/\cA (if ds.length<=1000 then bO gt gts act ds env else .bad) Qf c.T) I ⟨J,env,sr,aC (aH w) λds wd It J1 H1 e1 wk=>⟨ds,J1,e1,wk,wd⟩⟩) (λxv s1 h1=>?_) λv s f=>(hx v s f).elim);refine QI (T6 ?_);rw [hs xv];refine QI (QK (QI (Rw (RE h1 (λitv s2 h2=>?_) λv s f=>(hx v s f).elim))));obtain ⟨it,fp,tn,It,H1,rfl,I1,T,st1,f1,ds,J1,e1,wk,w1⟩:=h2;have hsz:ds.length<=1000:=by
  by_cases z:ds.length<=1000
  ·exact z
  ·rw [if_neg z] at w1;exact w1.elim
 rw [if_pos hsz] at w1;have hm:ds.length * N<=1000 * N:=UK N hsz;have hb:ys.length + ds.length * N<=sizeLine:=Rr (Nat.add_le_add_left hm _) hl;have run:=yz aR hc hx (LP it) hT hIf hA T (λJ' _=>aL J1 J') wk (λ_ _ _ h=>h) I1 st1 f1 (x2.trans e1) (sr.ext e1) no (aR.ext ac e1) hb w1;have run':S6 (Rf X.prog X.w) X.A (.compLoop e 1 (.ref it) acc X.env) (λr s'=>match r with | .ok f=>Q_ (Rf X.prog X.w) X.A (pure ()) (λ_ s'=>∃σ' H' J' r,Inv X Qx σ' H' s'/\Ext J2 H2 J' H'/\aL J J'/\SR c J' H' σ' r.2/\xy r.2 σ' p/\Acc J' H' (ys++r.1)/\r.1.length<=1000 * N/\Qf r) (λ_ _=>False) s' | .error e=>cameBackBy (Rf X.prog X.w) X.A X.env (λ_ _=>False) e s') s2:=T5 run λr s' ⟨hr,σ',H',J',r',q1,q2,q3,q4,q5,q6,q7,q8⟩=>by subst hr;exact QK ⟨σ',H',J',r',q1,q2,e1.j.trans q3,q4,q5,q6,Rr q7 hm,q8⟩
 exact QI (wpAny_runOwn (h:=none) (start it _ _ run' (T.self _ 0 _ _ _ st1 run')))
end
def fX (ge:G R):Ev->M (List D×Ev):=λe=>ge e >>= λr=>toD r >>= λy=>.ok ([y],e)
def AX (c:C) (p:Rb):Hp->Hp->List D->Prop:=λJ H ys=>∃us,H p=some (.lst us)/\J p=none/\aD c.K J ys us
theorem qF:tZ (AX c p):=⟨fun {J H J' H' ys} ⟨us,h1,h2,h3⟩ e=>⟨us,e.h _ _ h1,e.frz _ (by rw [h1];intro z;cases z) h2,h3.mono e.j⟩⟩
section
variable {X:Cx}{c:C}{p:Rb}{J2 H2:Hp}{elt:RA}{ge:G R}
theorem zP (hx:∀v s,X.xe v s->False) (hp2:H2 p=none) (hp0:c.H0 p=none) (hE:PD X c elt ge):qC X c p (AX c p) J2 H2 1 (do let _ <-call (.builtin "list.append") [.ref p,<-eval elt X.env]) (fX ge):=by
 intro Qx s σ H J env ys Qf I x2 sr no ⟨us,h1,h2,h3⟩ hl w;have hlen:ys.length=us.length:=h3.length;refine QI (RE (hE _ s σ H (λv H8=>∃J8 y,Ext J H J8 H8/\Rep c.K J8 y v/\Qf ([y],env)) I ⟨J,env,sr,aC (aH w) λr wr v J8 H8 e8 r8=>?_⟩) (λu8 s8 ⟨v8,H8,I8,r8,J8,y,e8,ry,w8⟩=>?_) λv s f=>(hx v s f).elim)
 ·obtain ⟨y,q,wr⟩:=gy wr;obtain ⟨J9,e9,_,ry⟩:=freeze e8 r8 q;exact ⟨J9,y,e9,ry,wr⟩
 have p8:H8 p=some (.lst us):=e8.h _ _ h1;have J8p:J8 p=none:=e8.frz _ (by rw [h1];intro z;cases z) h2;refine QI (RE (jg (X:=X) _ s8 σ H8 (.ref p) [v8] (.ref p) [u8] (λ_ H9=>H9=L2.upd H8 p (.lst (us++[v8]))) I8 rfl (.cons r8 .nil) ⟨_,us,v8,rfl,rfl,p8,by omega,rfl⟩) (λ_ s9 ⟨_,H9,I9,_,h9⟩=>?_) λv s f=>(hx v s f).elim);subst h9;exact QK ⟨σ,_,J8,([y],env),I9,(x2.trans e8).other hp2 J8p,e8.j,(sr.ext e8).other J8p hp0 no,no,⟨us++[v8],bB,J8p,(h3.mono e8.j).append (.cons ry .nil)⟩,QW _,w8⟩
end
noncomputable def f7 (lim n:Nat) (cap:List Nat) (gi:G (List D)) (gt:GT) (gts:G Bool) (act:Ev->M (List D×Ev)) (fin:List D->M R):G R:=λenv=>gi env >>= λds=>if ds.length<=lim then bO gt gts act ds (cE n cap env) >>= λr=>fin r.1 else .bad
section
variable {X:Cx}{c:C}
structure xr (X:Cx) (Qw:Um) (cap:List Nat) (QC:RA):Prop where
 hk:Qw.kind=.function
 hno:F_ X cap Qw=true
 hnames:(Qw.names.all λx=>!(x.2 == .local) || (Qw.names.lookup x.1 == some .local))=true
 hcl:(cZ X.env.cells Qw.names []).isSome=true
 hcap:pA X cap=true
 hloc:Cv X cap Qw=true
 hnd:yD cap=true
 hcalm:X.calm=true
 hs:∀x,Se QC X.env x=pure x
theorem n8 {Qw:Um}{cap:List Nat}{QC:RA}(hcl:(cZ X.env.cells Qw.names []).isSome=true) (hk:Qw.kind=.function:=by rfl) (hno:F_ X cap Qw=true:=by rfl) (hnames:(Qw.names.all λx=>!(x.2 == .local) || (Qw.names.lookup x.1 == some .local))=true:=by rfl)
  (hcap:pA X cap=true:=by rfl) (hloc:Cv X cap Qw=true:=by rfl) (hnd:yD cap=true:=by rfl) (hcalm:X.calm=true:=by rfl) (hs:∀x,Se QC X.env x=pure x:=by intro _;rfl):xr X Qw cap QC:=⟨hk,hno,hnames,hcl,hcap,hloc,hnd,hcalm,hs⟩
noncomputable def BV (X:Cx) (c:C) (cm:Option (QL->Sem Unit)->Sem QL) (g:G R):Prop:=
 ∀{Qx:List (Rb×Obj)}{s:QM}{σ:L2.St}{H:Hp}{Q:VK}{use:Option (QL->Sem Unit)}{Q0:QL->QM->Prop},Inv X Qx σ H s->tD c g σ H Q->
  (∀(acc C:Rb) (m:Str->Option QL) (s':QM) (H':Hp) (fl:Flow),s'.heap.Ns C m->((C∈X.ex\/X.s₀.heap.objs.size<=C)/\C≠X.env.locals/\(∀x c,X.env.cells.lookup x=some c->c≠C)/\∀p∈X.pn++Qx,p.1≠C)->H' C=none->(∀h'',SE C s'.heap h''->Inv X Qx σ H' {s' with heap:=h''})->Q (.ref acc) H'->compPost (Rf X.prog X.w) X.A X.xe use Q0 (.ref acc) C (.ok fl) s')->
  Q_ (Rf X.prog X.w) X.A (cm use) Q0 X.xe s
theorem jN (own:List Str) (cap:List Nat){e QA QC:RA}{ifs:List RA}{gs:List WR}{Qw:Um}{gi:G (List D)}{gt:GT}{gts:G Bool}{act:Ev->M (List D×Ev)}{fin:List D->M R}{newAcc:Sem QL}{ob:Obj}{o0:Rb->HO}{Acc:Rb->Hp->Hp->Hp->List D->Prop}{N lim:Nat}{m:Rb->Env->Sem Unit}
  (hcls:clausesOf e=⟨QA,QC,ifs,0⟩::gs) (hi:ME X c QA QC gi)
  (hnew:∀(s:QM) (Q:QL->QM->Prop) (E:QL->QM->Prop),Q (.ref s.heap.objs.size) {s with heap:=s.heap.push ob}->Q_ (Rf X.prog X.w) X.A newAcc Q E s)
  (hob:∀(h:Sn) (H:Hp),cg X.prog X.w H (h.push ob) h.objs.size (o0 h.objs.size))
  (aR:∀p H2,tZ (Acc p H2)) (a0:∀(p:Rb) (H2 J H:Hp),TN < p->H p=some (o0 p)->J p=none->Acc p H2 J H [])
  (hN:lim * N<=sizeLine) (LP:∀(it p:Rb) (env:Env),rG X.prog X.w X.A e 0 (.ref it) (.ref p) env QA ifs (m p env))
  (start:∀(it:Rb) (acc:QL) (env:Env) (R:Y6->QM->Prop) (s:QM),S6 (Rf X.prog X.w) X.A (.compLoop e 0 (.ref it) acc env) R s->Q_ (Rf X.prog X.w) X.A (Wv (.ref it)) (λit' s'=>S6 (Rf X.prog X.w) X.A (.compLoop e 0 it' acc env) R s') (notedBy (Rf X.prog X.w) X.A env λx s'=>R (.error x) s') s->S6 (Rf X.prog X.w) X.A (.compStart e 0 (.ref it) acc env) R s)
  (nofin:∀ys z,fin ys≠.exc z) (hend:∀{p:Rb}{H2 J H J' H':Hp}{ys:List D}{r:R},H p=none->aL H H2->Ext J H J' H'->Acc p H2 J' H' ys->fin ys=.ok r->∃J'',Ext J H J'' H'/\RR c H J'' H' r (.ref p))
  (hbody:∀(cl:List (Str×Rb)) (C:Rb) (s:QM) (H:Hp) (fp:List Rb),cZ X.env.cells Qw.names []=some cl->B5 (cF X own cap Qw cl C s H fp) c QA gt/\AR (cF X own cap Qw cl C s H fp) c ifs gts/\∀(p:Rb) (J2 H2:Hp),H2 p=none->c.H0 p=none->qC (cF X own cap Qw cl C s H fp) c p (Acc p H2) J2 H2 N (m p (cF X own cap Qw cl C s H fp).env) act)
  (a:xr X Qw cap QC){pos':Pos}:BV X c (λuse=>comprehension e Qw X.env pos' newAcc false (eval QC X.env) use) (f7 lim own.length cap gi gt gts act fin):=by
 obtain ⟨hk,hno,hnames,hcl,hcap,hloc,hnd,hcalm,hs⟩:=a;intro Qx s σ H Q use Q0 I h Pk;obtain ⟨J,env,sr,w⟩:=h;obtain ⟨cl,hcl⟩:=R9.mp hcl;have Pu:∀j∈cap,∀x,X.N[j]?=some x->cR Qw.names x=false:=λj hj x hx=>by have:=Rk.mp hno j hj;rw [hx] at this;simpa using this
 have OQ:∀x∈Qw.names,x.2=.local->Qw.names.lookup x.1=some .local:=λy hy z=>by have:=Rk.mp hnames y hy;rw [z] at this;simpa using this
 have Pa:∀j∈cap,∀x,X.N[j]?=some x->(relabel Qw X.env).names.lookup x≠some .local:=λj hj x hx z=>by have:=Rk.mp hloc j hj;rw [hx] at this;simp only at this;rw [z] at this;cases this
 refine wpAny_comprehension_free (use:=use) hcls hs (wH hcl) hk OQ ?_;refine bM (hi Qx s σ H (λIt H1=>∃ds J1,Ext J H J1 H1/\Walk c It ds J1 (λJ' H'=>aL J1 J'/\aL H1 H')/\
  cA (if ds.length<=lim then bO gt gts act ds (cE own.length cap env) >>= λr=>fin r.1 else .bad) (λr=>∀v J' H',Ext J H J' H'->RR c H J' H' r v->Q v H') c.T) I ⟨J,env,sr,aC (aH w) λds wd It J1 H1 e1 wk=>⟨ds,J1,e1,wk,wd⟩⟩) λxv s1 h1=>bM h1 λitv s2 h2=>?_
 obtain ⟨it,fp,tn,It,H2,rfl,I2,T,st2,f2,ds,J2,e2,wk,w2⟩:=h2;have hsz:ds.length<=lim:=by
  by_cases z:ds.length<=lim
  ·exact z
  ·rw [if_neg z] at w2;exact w2.elim
 rw [if_pos hsz] at w2;have w3:=aH w2;refine hnew s2 _ _ (Bs ?_);dsimp only;generalize Pe:s2.heap.push ob=Hs;have hC:Hs.objs.size=s2.heap.objs.size + 1:=by rw [<-Pe,Ui]
 have hp2:H2 s2.heap.objs.size=none:=I2.hok.fresh (QW _);have kHs:∀b o,s2.heap.get? b=some o->Hs.get? b=some o:=λb o e=>by rw [<-Pe];exact QU _ e
 have I3:Inv X Qx σ (L2.upd H2 s2.heap.objs.size (o0 s2.heap.objs.size)) {s2 with heap:=Hs,toks:=s2.toks}:=I2.laid (t':=s2.toks) kHs (QW _) (by rw [<-Pe];exact hob _ _);have f3:∀b∈fp,jm X Qx (L2.upd H2 s2.heap.objs.size (o0 s2.heap.objs.size)) b:=λb hb=>by obtain ⟨o,ho,_⟩:=T.obj _ _ st2 b hb;exact ⟨by rw [aQ (Rl (Q5 ho))];exact (f2 b hb).1,(f2 b hb).2⟩
 have hin:∀b∈fp,b < Hs.objs.size:=λb hb=>by obtain ⟨o,ho,_⟩:=T.obj _ _ st2 b hb;exact Us (Q5 ho) (by rw [hC];exact SH _)
 obtain ⟨h₁,eh₁⟩:∃h₁,h₁=Zg (Hs.push {cls:=.type "dict",data:=.dict #[]}) Qw.names:=⟨_,rfl⟩;rw [<-eh₁];have hns₁:h₁.Ns Hs.objs.size (λ_=>none):=by rw [eh₁];exact Kl Hs Qw.names
 have ck:aaV h₁ (Hs.objs.size + 1) (RM (Hs.objs.size + 1) Qw.names []):=by rw [eh₁];exact Cy Hs Qw.names
 have okC:=G7 (own:=own) (cap:=cap) I3 hk hcl ck f3 hin;have old1:∀b o,Hs.get? b=some o->h₁.get? b=some o:=λb o e=>by rw [eh₁];exact Zh _ _ _ _ (QU _ e)
 have I4:=Er (tk:=s2.toks) I3 okC hcl ck hcap Pa Pu hns₁ old1;have sr2:=sr.ext e2;have srA:SR c J2 (L2.upd H2 s2.heap.objs.size (o0 s2.heap.objs.size)) σ env:=sr2.ext (Ext.new e2.sub hp2 _);have J2p:J2 s2.heap.objs.size=none:=e2.sub.free hp2;have H0p:c.H0 s2.heap.objs.size=none:=sr2.hp.ent.free hp2;have nown:∀(j:Nat) (xs:Mn),(cE own.length cap env)[j]?=some (some (mS xs))->(RS own.length none++cap.map λ(j:Nat)=>(σ[j]?).getD none)[j]?≠some (some (.ref s2.heap.objs.size)):=λj xs q z=>by obtain ⟨a,h1,h2,h3⟩:=gO q;obtain ⟨a',h4,h5,h6⟩:=gO z;rw [h2] at h5;cases h5;obtain ⟨p,k1,k2,_⟩:=sr2.mine h3;rw [h6] at k1;cases k1;exact k2 hp2
 obtain ⟨hT,hIf,hE⟩:=hbody cl Hs.objs.size {s2 with heap:=Hs,toks:=s2.toks} (L2.upd H2 s2.heap.objs.size (o0 s2.heap.objs.size)) fp hcl;have fpC:∀{H':Hp},(∀b∈fp,H' b=none)->∀b∈fp,jm (cF X own cap Qw cl Hs.objs.size {s2 with heap:=Hs,toks:=s2.toks} (L2.upd H2 s2.heap.objs.size (o0 s2.heap.objs.size)) fp) [] H' b:=fun {H'} hn b hb=>by
  obtain ⟨m1,_⟩:=fZ Qw.names [] cl hcl (λx c h=>by simp at h);refine ⟨hn b hb,Rl (hin b hb),λz=>?_,.inl hb,λx d h=>(fh h).elim (λh=>Uq (Rh (hin b hb) (TY (ck.empty _ _ (Vc h)).2))) (λh=>(f2 b hb).2.2.2.2.1 x d (m1 x d h.2)),λp hp=>absurd (show p∈([]:List (Rb×Obj)) from hp) (by simp)⟩;rcases Q9.mp (I2.stkSub b z) with e | e
  ·exact (f2 b hb).2.1 e
  ·exact (f2 b hb).2.2.1 e
 have back:∀{pi:List (Rb×Obj)}{σ':L2.St}{H':Hp}{s':QM}{h'':Sn},Inv (cF X own cap Qw cl Hs.objs.size {s2 with heap:=Hs,toks:=s2.toks} (L2.upd H2 s2.heap.objs.size (o0 s2.heap.objs.size)) fp) pi σ' H' s'->SE Hs.objs.size s'.heap h''->Inv X Qx σ H' {s' with heap:=h''}:=fun {pi σ' H' s' h''} I' sb=>by
  have B:Un (frs X.stack) fp (L2.upd H2 s2.heap.objs.size (o0 s2.heap.objs.size)) H' Hs s'.heap:=I'.base;have ne2:∀{b:Rb}{o:Obj},s2.heap.get? b=some o->b≠s2.heap.objs.size/\b≠Hs.objs.size:=fun {b o} e=>
   ⟨Rl (Q5 e),Rl (Us (Q5 e) (by rw [hC];exact SH _))⟩
  have nH:∀{b:Rb}{o:HO},H2 b=some o->L2.upd H2 s2.heap.objs.size (o0 s2.heap.objs.size) b=some o:=fun {b o} e=>by rw [aQ (eu e hp2)];exact e
  refine Inv.call' (ch:=fp) (s':={s' with heap:=h''}) I2 I'.os ⟨λb o e n hf hx=>?_,λb o e n hf hx=>?_,λb o e n hx=>?_,λb o e hx=>?_,λb xs e=>B.tups b xs (nH e),λb o u e=>B.frzs b o u (nH e),λb ps e=>B.tbls b ps (nH e)⟩ (zC I'.hok I'.free sb) I'.bare λb hb=>⟨(f2 b hb).2.2.2.1,(f2 b hb).2.1,(f2 b hb).2.2.2.2.1,(f2 b hb).2.2.2.2.2⟩
  ·exact (sb.2 b (ne2 e).2).trans (B.keep b o (kHs b o e) (by rw [aQ (ne2 e).1];exact n) hf hx)
  ·obtain ⟨sl,z⟩:=B.slot b o (kHs b o e) (by rw [aQ (ne2 e).1];exact n) hf hx;exact ⟨sl,(sb.2 b (ne2 e).2).trans z⟩
  ·exact B.free b o (kHs b o e) (by rw [aQ (ne2 e).1];exact n) hx
  ·obtain ⟨o',z⟩:=B.there b o (kHs b o e) hx;exact ⟨o',(sb.2 b (ne2 e).2).trans z⟩
 have run:=λ(s4:QM) (I4:Inv (cF X own cap Qw cl Hs.objs.size {s2 with heap:=Hs,toks:=s2.toks} (L2.upd H2 s2.heap.objs.size (o0 s2.heap.objs.size)) fp) [] _ _ s4) (st4:tn 0 s4.heap)=>yz (X:=cF X own cap Qw cl Hs.objs.size {s2 with heap:=Hs,toks:=s2.toks} (L2.upd H2 s2.heap.objs.size (o0 s2.heap.objs.size)) fp) (e:=e) (depth:=0) (acc:=.ref s2.heap.objs.size) (aR _ _) hcalm (λ_ _ f=>f) (LP it _ _) hT hIf (hE s2.heap.objs.size J2 H2 hp2 H0p) T (λJ' H'=>aL J2 J'/\aL H2 H') wk (λJ' H' x _=>⟨x.j,x.h⟩) I4 st4 (fpC λb hb=>(f3 b hb).1) (Ext.new e2.sub hp2 _) (srA.cap own.length cap (Al hnd)) nown (a0 _ _ _ _ (Ce I2) bB J2p) (Rr (by rw [Vd,YO];exact UK N hsz) hN) w3;have st4:=T.keep _ _ _ st2 (λb hb o e=>old1 b o (kHs b o e));have go:=T5 (run _ I4 st4) (R':=compPost (Rf X.prog X.w) X.A X.xe use Q0 (.ref s2.heap.objs.size) Hs.objs.size) λr s' ⟨hr,σ',H',J',r',I9,x9,j9,sr9,no9,ac9,l9,w9⟩=>by
  subst hr;obtain ⟨mm,hm,_⟩:=I9.loc;refine Pk s2.heap.objs.size Hs.objs.size mm _ H' _ hm (Jo I2 (by rw [hC];exact Tz _)) I9.free (λh'' sb=>back I9 sb) ?_;cases q:fin r'.1 with
  | bad=>rw [q] at w9;exact w9.elim
  | exc z=>rw [q] at w9;exact (nofin _ z q).elim
  | ok z=>
   rw [q] at w9;obtain ⟨J9,x10,rr⟩:=hend (e2.h.free hp2) e2.h (e2.trans x9) ac9 q;exact w9 _ J9 H' x10 rr
 exact start it _ _ _ _ go (T.self _ 0 _ _ _ st4 go)
def mC (X:Cx) (c:C) (e:RA) (g:G R):Prop:=∃cm,BV X c cm g/\eval e X.env=cm none/\∀use,evalThenUse e X.env use=(do let _ <-cm (some use))
theorem bJ {e:RA}{g:G R}(h:mC X c e g):QD X c e g:=by obtain ⟨cm,core,hev,_⟩:=h;refine ⟨λQx s σ H Q I h=>?_⟩;rw [hev];exact core I h λacc C m s' H' fl hm hz hf hb q=>⟨m,hm,λh'' sb=>⟨.ref acc,H',hb h'' sb,rfl,q⟩⟩
theorem i6 (i:Nat){e:RA}{g:G R}{x:Str}{pos' pos2:Pos}(hN:X.N.Nodup) (h:mC X c e g) (hx:X.N[i]?=some x:=by rfl) (PX:X.env.scope.names.lookup x=some .local:=by rfl)
  (hsw:U4 e (some (.Name x pos')) pos2.line X.env=pure true:=by rfl):gY X c (.Assign [.Name x pos'] e pos2) (bh i g):=by
 obtain ⟨cm,core,_,Pj⟩:=h;refine ⟨λQx s σ H D I ⟨J,env,sr,w⟩=>?_⟩;rw [arm_exec_Assign];refine QI (T6 ?_);rw [show WI [.Name x pos'] e pos2.line X.env=pure true from hsw];refine QI (QK ?_);rw [if_pos rfl,Pj];refine QI (QI (core (Q:=λv H1=>∃J1 r xx,Ext J H J1 H1/\RR c H J1 H1 r v/\toS r=.ok xx/\oP c J D (.nx (env.set i (some xx)))) I ⟨J,env,sr,aC (aH w) λr wr v J1 H1 e1 r1=>?_⟩ λacc C m s' H' fl hm ap hf hb ⟨J1,r,xx,e1,r1,q1,w1⟩=>?_))
 ·obtain ⟨xx,q,wr⟩:=uN wr;exact ⟨J1,r,xx,e1,r1,q,wr⟩
 ·have I1:L2.Inv X Qx σ H' s':=hb s'.heap (aa_ ..);show Q_ _ _ (do Uo pos';bindName X.env x (.ref acc)) _ _ _;refine QI (T6 (wpAny_bindName ?_));refine vX I1 hN hx (.inl PX) (v:=.ref acc) (u:=.ref acc) rfl (λs2 I2 ⟨a,sb,ha⟩=>?_) (.inr PX);have hac:C≠a:=λz=>by
   rcases ha with e | e
   ·exact ap.2.1 (z.trans e)
   ·exact ap.2.2.1 _ _ e z.symm
  refine ⟨m,hm.sameBut sb hac,λh2 sb2=>?_⟩;refine QK (QK ⟨σ.set i (some (.ref acc)),H',Ds I2 ap hf sb2 (o0:=default),?_⟩);exact w1 _ J1 H' e1.j (sr.set e1 r1 q1)
end
noncomputable def sC (n:Nat) (cap:List Nat) (gi0:G (List D)) (gt0:GT) (gts0:G Bool) (gi1:G (List D)) (gt1:GT) (gts1:G Bool) (ge:G R):G R:=f7 10000 n cap gi0 gt0 gts0 (iw gi1 gt1 gts1 (fX ge)) (λys=>.ok (.l .fresh ys))
theorem IT (elt t0 i0 t1 i1:RA) (f0 f1:List RA) (Qw:Um) (pos:Pos) (it acc:QL) (env:Env):
  VC (.ListComp elt [⟨t0,i0,f0,0⟩,⟨t1,i1,f1,0⟩] Qw pos) 0 it acc env=(do
   Uo i0.pos
   match <-Vg it with
   | none=>pure (.done .next)
   | some v=>
    Th t0 it v
    assign t0 env v
    let mut ok:=true
    for c in f0 do
     if ok then ok <-XG c env (eval c env)
    if ok then
     let x <-eval i1 env
     Uo i1.pos
     let x <-Se i1 env x
     let _ <-runOwn (.compStart (.ListComp elt [⟨t0,i0,f0,0⟩,⟨t1,i1,f1,0⟩] Qw pos) 1 (<-holding [x] (Wv x)) acc env) env
    again (.compLoop (.ListComp elt [⟨t0,i0,f0,0⟩,⟨t1,i1,f1,0⟩] Qw pos) 0 it acc env)):=by rfl
theorem Lr (elt t0 i0 t1 i1:RA) (f0 f1:List RA) (Qw:Um) (pos:Pos) (it acc:QL) (env:Env):
  VC (.ListComp elt [⟨t0,i0,f0,0⟩,⟨t1,i1,f1,0⟩] Qw pos) 0 it acc env=kN t0 i0 f0 it env (qN (.ListComp elt [⟨t0,i0,f0,0⟩,⟨t1,i1,f1,0⟩] Qw pos) i1 acc env) (again (.compLoop (.ListComp elt [⟨t0,i0,f0,0⟩,⟨t1,i1,f1,0⟩] Qw pos) 0 it acc env)):=by
 rw [IT];refine bind_congr λ_=>bind_congr λr=>?_;cases r with
 | none=>rfl
 | some v=>
  refine bind_congr λ_=>bind_congr λ_=>bind_congr λok=>?_;cases ok with
  | false=>rfl
  | true=>simp only [qN,bind_assoc,pure_bind,if_true]
theorem Ls (elt t0 i0 t1 i1:RA) (f0 f1:List RA) (Qw:Um) (pos:Pos) (it acc:QL) (env:Env):
  VC (.ListComp elt [⟨t0,i0,f0,0⟩,⟨t1,i1,f1,0⟩] Qw pos) 1 it acc env=kN t1 i1 f1 it env (do let _ <-call (.builtin "list.append") [acc,<-eval elt env]) (again (.compLoop (.ListComp elt [⟨t0,i0,f0,0⟩,⟨t1,i1,f1,0⟩] Qw pos) 1 it acc env)):=by rfl
section
variable {X:Cx}{c:C}
theorem Jx (own:List Str) (cap:List Nat){elt t0 i0 t1 i1:RA}{f0 f1:List RA}{Qw:Um}{pos:Pos}{gi0 gi1:G (List D)}{gt0 gt1:GT}{gts0 gts1:G Bool}{ge:G R}(hi:uV X c t0 i0 gi0)
  (hbody:∀(cl:List (Str×Rb)) (C:Rb) (s:QM) (H:Hp) (fp:List Rb),cZ X.env.cells Qw.names []=some cl->nC (cF X own cap Qw cl C s H fp) c t0 gt0/\mD (cF X own cap Qw cl C s H fp) c f0 gts0/\zL (cF X own cap Qw cl C s H fp) c t1 i1 gi1/\nC (cF X own cap Qw cl C s H fp) c t1 gt1/\mD (cF X own cap Qw cl C s H fp) c f1 gts1/\QD (cF X own cap Qw cl C s H fp) c elt ge)
  (a:xr X Qw cap i0:=by exact n8 rfl) (hs1:∀(en:Env) x,Se i1 en x=pure x:=by intro _ _;rfl):mC X c (.ListComp elt [⟨t0,i0,f0,0⟩,⟨t1,i1,f1,0⟩] Qw pos) (sC own.length cap gi0 gt0 gts0 gi1 gt1 gts1 ge):=by
 refine ⟨_,?_,rfl,λ_=>rfl⟩;refine jN (e:=.ListComp elt [⟨t0,i0,f0,0⟩,⟨t1,i1,f1,0⟩] Qw pos) (ob:={cls:=.type "list",dict:=none,data:=.seq ([]:List QL).toArray}) (o0:=λ_=>.lst []) (Acc:=λp _=>AX c p) (N:=1000 * 1) (lim:=10000) (m:=λp env=>qN (.ListComp elt [⟨t0,i0,f0,0⟩,⟨t1,i1,f1,0⟩] Qw pos) i1 (.ref p) env) own cap rfl hi.h
  (λs Q E q=>Rx q) (λh H=>⟨Rm _,[],0,.nil,Q2 _ rfl⟩) (λp _=>qF) (λp _ J H _ h1 h2=>⟨[],h1,h2,.nil⟩) (by decide) (λit p env=>w_ (Lr ..)) (λit acc env R s h0 h=>Vm h0 h) (λys z q=>by cases q)
  (fun {p H2 J H J' H' ys r} hp _ e ⟨us,h1,h2,h3⟩ q=>by cases q;exact ⟨J',e,⟨p,us,rfl,h1,h2,hp,h3⟩⟩) (λcl C s H fp hcc=>?_) a
 obtain ⟨b1,b2,b3,b4,b5,b6⟩:=hbody cl C s H fp hcc;exact ⟨b1.h,b2.h,λp J2 H2 hp2 hp0=>zQ qF a.hcalm (λ_ _ f=>f) (λx=>hs1 _ x) (λit R s h0 h=>Ll h0 h) (λit=>w_ (Ls ..)) b3.h b4.h b5.h (zP (λ_ _ f=>f) hp2 hp0 b6.h)⟩
end
noncomputable def BE:QL->Option V
 | .int i _=>some (.int i)
 | .ref a=>some (.ref a)
 | _=>none
noncomputable def jA:List QL->Option (List V)
 | []=>some []
 | u::us=>match BE u,jA us with
  | some v,some vs=>some (v::vs)
  | _,_=>none
open Classical in
noncomputable def jW (h:Sn):Hp:=λa=>match h.get? a with
 | some o=>if o.cls=.type "tuple" then (match o.data with
  | .seq Qz _=>(jA Qz.toList).map .tup
  | _=>none) else none
 | none=>none
theorem Fx (h:BE u=some v):RelV v u:=by
 cases u with
 | int i t=>cases h;exact ⟨t,rfl⟩
 | ref a=>cases h;exact rfl
 | _=>cases h
theorem vG:∀{us:List QL}{vs:List V},jA us=some vs->Vals vs us
 | [],vs,h=>by cases h;exact .nil
 | u::us,vs,h=>by
  unfold jA at h;cases q:BE u with
  | none=>rw [q] at h;cases h
  | some v=>
   cases q2:jA us with
   | none=>rw [q,q2] at h;cases h
   | some ws=>rw [q,q2] at h;cases h;exact .cons (Fx q) (vG q2)
theorem gS {h:Sn}(q:jW h a=some o):∃vs ob Qz n,o=.tup vs/\h.get? a=some ob/\ob.cls=.type "tuple"/\ob.data=.seq Qz n/\Vals vs Qz.toList:=by
 unfold jW at q;split at q
 ·rename_i ob hob;split at q
  ·rename_i hc;split at q
   ·rename_i Qz n hd;cases z:jA Qz.toList with
    | none=>rw [z] at q;cases q
    | some vs=>rw [z] at q;cases q;exact ⟨vs,ob,Qz,n,rfl,hob,hc,hd,vG z⟩
   ·cases q
  ·cases q
 ·cases q
theorem IB {h:Sn}{Qz:List QL}(p:h.IsTuple a Qz.toArray) (q:jA Qz=some vs):jW h a=some (.tup vs):=by obtain ⟨o,ho,hc,n,hd⟩:=p;unfold jW;rw [ho];simp only [hc,if_true,hd];rw [q];rfl
theorem oA {s:QM}:HF [] (jW s.heap) s:=by
 refine ⟨λa xs h=>?_,λa xs h=>?_,λa h=>?_,λa ep QG h=>?_⟩
 ·rcases h with (h | ⟨o,h⟩) | ⟨o,Qz,n,h,_⟩
  ·obtain ⟨vs,ob,Qz,n,e,h1,h2,h3,h4⟩:=gS h;cases e;exact ⟨Qz.toList,h4,ob,h1,h2,n,by rw [h3]⟩
  ·obtain ⟨vs,ob,Qz,n,e,_⟩:=gS h;cases e
  ·cases h
 ·rcases h with (h | ⟨o,h⟩) | ⟨o,Qz,n,h,_⟩
  ·obtain ⟨vs,ob,Qz,n,e,_⟩:=gS h;cases e
  ·obtain ⟨vs,ob,Qz,n,e,_⟩:=gS h;cases e
  ·cases h
 ·obtain ⟨vs,ob,Qz,n,e,_⟩:=gS h;cases e
 ·obtain ⟨vs,ob,Qz,n,e,_⟩:=gS h;cases e
theorem yP {K:QJ}{J:Hp}:∀{ds:List D}{vs:List V}{us:List QL},areKeys ds=true->aD K J ds vs->Vals vs us->jA us=some vs
 | _,_,_,_,.nil,.nil=>rfl
 | d::ds,v::vs,u::us,h,.cons r rs,.cons q qs=>by
  unfold areKeys at h;rw [QX] at h;have ih:=yP h.2 rs qs;have e:BE u=some v:=by
   cases d with
   | int i=>cases r;obtain ⟨t,rfl⟩:=q;rfl
   | tup xs=>cases r;cases q;rfl
   | _=>cases h.1
  unfold jA;rw [e,ih]
mutual
theorem jH {K:QJ}{J:Hp}{s:QM}(F:HF K J s):∀{d:D}{v:V},isKey d=true->Rep K J d v->Rep [] (jW s.heap) d v
 | .int i,_,_,.int _=>.int i
 | .tup ds,_,hk,.tup (a:=a) (vs:=vs) h hs=>by obtain ⟨Qz,r,p⟩:=F.t _ _ h;exact .tup (.inl (.inl (IB p (yP hk hs r)))) (yQ F hk hs)
 | .non,_,hk,_=>nomatch hk
 | .bl _,_,hk,_=>nomatch hk
 | .str _,_,hk,_=>nomatch hk
 | .lst _,_,hk,_=>nomatch hk
 | .emp,_,hk,_=>nomatch hk
 | .exn _ _ _,_,hk,_=>nomatch hk
 | .dct _ _,_,hk,_=>nomatch hk
theorem yQ {K:QJ}{J:Hp}{s:QM}(F:HF K J s):∀{ds:List D}{vs:List V},areKeys ds=true->aD K J ds vs->aD [] (jW s.heap) ds vs
 | [],_,_,.nil=>.nil
 | d::ds,_,h,.cons r rs=>by unfold areKeys at h;rw [QX] at h;exact .cons (jH F h.1 r) (yQ F h.2 rs)
end
theorem DI {h h':Sn}{o:Obj} {es ep}(ho:h.get? d=some o) (hd:o.data=.dict es ep) (sb:SE d h h'):aL (jW h) (jW h'):=λa x q=>by
 obtain ⟨vs,ob,Qz,n,rfl,h1,h2,h3,h4⟩:=gS q;have hne:a≠d:=by rintro rfl;rw [ho] at h1;cases h1;rw [hd] at h3;cases h3
 unfold jW at q ⊢;rw [sb.2 a hne];exact q
def KD:Type:={d:D // isKey d=true/\dep d<=8}
noncomputable instance:DecidableEq KD:=λa b=>aan (a=b)
def BF (A:RC):Prop:=A.units + 16 < Sw
noncomputable def mR (prog:Ra) (w:Rz):HeapKind prog w KD where
 is:=λh k a=>Rep [] (jW h) k.1 (.ref a)
 hash:=λk=>bP k.1
 draws:=λk=>jw k.1
 room:=BF
 inj:=fun {h a x y} hx hy=>WS (Rep.inj (s:=({heap:=h}:QM)) oA hx hy (by have:=x.2.2;omega) (by have:=y.2.2;omega))
 keeps:=λhx ho hd sb=>Rep.mono (DI ho hd sb) hx
 pyHash:=fun {A E s k a Q} hu hx q=>uO k.1 (.ref a) (.ref a) A s oA k.2.1 hx rfl (by have:=k.2.2;unfold BF at hu;omega) E s Q oA q
 eqBool:=fun {A E s x y a b Q} hu hx hy q=>by
  have h:=lG (s:=s) oA A hx hy rfl rfl (u:=.ref a) (u':=.ref b) (by have:=x.2.2;unfold BF at hu;omega) (by have:=x.2.2;omega) (by have:=y.2.2;omega);refine h _ _ _ _ ?_;have e:bg x.1 y.1=decide (x=y):=by rw [R1,ux x.2.1 y.2.1,decide_eq_true_eq];exact ⟨λz=>WS z,λz=>congrArg Subtype.val z⟩
  rw [e];exact q
 quiet:=fun {A E s k a Q} hx q=>l_ 8 oA ⟨k.1,.ref a,k.2.1,k.2.2,hx,rfl⟩ q
noncomputable def gA:List D->List D->D->Option D
 | k::ks,v::vs,x=>if bg k x=true then some v else gA ks vs x
 | _,_,_=>none
section
variable {K:QJ}{J:Hp}{s:QM}{P:Ra}{w:Rz}
theorem zY (F:HF K J s):∀{ks:List D}{us ws:List V}{es:List Xc},areKeys ks=true->(∀k∈ks,∃xs,k=.tup xs)->deps ks<=8->aD K J ks us->ws.length=us.length->Wt xw ((cu ks).zip (us.zip ws)) es->
  ∃xs:List (KD×Rb×QL),es=xs.map (ZQ (mR P w))/\xs.map (λx=>x.1.1)=ks/\(∀x∈xs,(mR P w).is s.heap x.1 x.2.1)/\Vals ws (xs.map λx=>x.2.2)/\Vals us (xs.map λx=>U3 x.2.1)
 | _,_,[],_,_,_,_,.nil,_,h=>by cases h;exact ⟨[],rfl,rfl,λ_ h=>(nomatch h),.nil,.nil⟩
 | k::ks,u::us,v::ws,es,hk,ht,hd,.cons r rs,hl,h=>by
  unfold areKeys at hk;rw [QX] at hk;unfold deps at hd;have h:Wt xw ((bP k,u,v)::(cu ks).zip (us.zip ws)) es:=h;cases h with
  | @cons _ e _ es' h1 h2=>
   obtain ⟨xs,e1,e2,e3,e4,e5⟩:=zY F hk.2 (λk hk=>ht k (QT _ hk)) (by omega) rs (by simpa using hl) h2;obtain ⟨xs',rfl⟩:=ht k QV;obtain ⟨q1,q2,q3⟩:=h1;obtain ⟨eh,ek,ev⟩:=e;cases r with
   | tup t1 t2=>
    rename_i a vs;have q2:ek=.ref a:=q2;have q1:eh=bP (.tup xs'):=q1;subst q2;subst q1;refine ⟨(⟨.tup xs',hk.1,by omega⟩,a,ev)::xs,by rw [e1];rfl,by rw [Q6,e2],λx hx=>?_,.cons q3 e4,.cons rfl e5⟩
    (rcases Q9.mp hx with rfl | hx)
    ·exact jH F hk.1 (.tup t1 t2)
    ·exact e3 x hx
 | [],us,v::ws,_,_,_,_,rs,hl,_=>by cases rs;cases hl
 | k::ks,us,[],_,_,_,_,rs,hl,_=>by cases rs;cases hl
theorem E1 {xs:List (KD×Rb×QL)}{ks:List D}(e:xs.map (λx=>x.1.1)=ks) (nd:ks.Nodup):(xs.map (·.1)).Nodup:=by
 rw [<-e] at nd;have this:((xs.map (·.1)).map (λk:KD=>k.1)).Nodup:=by rw [Rt];exact nd
 exact aaD (λk:KD=>k.1) (λa b h e=>h (congrArg (λk:KD=>k.1) e)) this
theorem wU:∀{xs:List (KD×Rb×QL)}{ks vs:List D}{ws:List V}(k:KD),xs.map (λx=>x.1.1)=ks->aD K J vs ws->Vals ws (xs.map λx=>x.2.2)->
  (∀d,gA ks vs k.1=some d->∃p v,aao xs k=some p/\RelV v p.2/\Rep K J d v)/\(gA ks vs k.1=none->aao xs k=none)
 | [],_,vs,ws,k,e,rs,rv=>by subst e;exact ⟨λd h=>(nomatch h),λ_=>rfl⟩
 | x::xs,_,_,_,k,e,.cons r rs,.cons q rv=>by
  subst e;obtain ⟨i1,i2⟩:=wU (xs:=xs) k rfl rs rv;rw [Q6];unfold gA;by_cases c:x.1=k
  ·have:bg x.1.1 k.1=true:=by rw [c];exact eN _
   rw [if_pos this];have ek:aao (x::xs) k=some x.2:=by unfold aao;rw [List.find?_cons_of_pos (by simpa using c)];rfl
   exact ⟨λd h=>by cases h;exact ⟨x.2,_,ek,q,r⟩,λh=>nomatch h⟩
  ·have:¬bg x.1.1 k.1=true:=λh=>c (WS ((ux x.1.2.1 k.2.1).mp h));rw [if_neg this];have ek:aao (x::xs) k=aao xs k:=by unfold aao;rw [List.find?_cons_of_neg (by simpa using c)]
   rw [ek];exact ⟨i1,i2⟩
theorem qK {H:Hp}(F:HF K J s) (F':HF K H s) (h:dG K J H a ks vs):∃(xs:List (KD×Rb×QL)) (us ws:List V),s.heap.DictOfH (mR P w) a xs/\xs.map (λx=>x.1.1)=ks/\aD K J ks us/\aD K J vs ws/\Vals ws (xs.map λx=>x.2.2)/\Vals us (xs.map λx=>U3 x.2.1)/\(a == TN)=false:=by obtain ⟨us,ws,ep,h,hk,hv,ok,hs⟩:=h;obtain ⟨o,es,h1,h2,h3,h4⟩:=F'.d _ _ _ h;obtain ⟨xs,e1,e2,e3,e4,e5⟩:=zY (P:=P) (w:=w) F ok.key ok.tp ok.dp hk (by rw [<-hv.length,<-hk.length,hs.2]) h4;exact ⟨xs,us,ws,⟨o,es,ep,h1,h2,h3,e1,e3,E1 e2 ok.nd⟩,e2,hk,hv,e4,e5,hs.1⟩
end
noncomputable def dD:D->Bool
 | .tup xs=>areKeys xs && decide (deps xs + 1<=8)
 | _=>false
theorem iG (h:dD k=true):∃xs,k=.tup xs/\isKey k=true/\dep k<=8:=by
 cases k with
 | tup xs=>
  unfold dD at h;rw [QX] at h;exact ⟨xs,rfl,h.1,of_decide_eq_true h.2⟩
 | _=>cases h
noncomputable def uX:R->Option (List D×List D)
 | .d (.dct ks vs)=>some (ks,vs)
 | .mo ks vs=>some (ks,vs)
 | .mb ks vs=>some (ks,vs)
 | .mf ks vs=>some (ks,vs)
 | _=>none
noncomputable def fR (x y:R):M R:=match uX x,y with
 | some z,.d k=>if dD k=true then (match gA z.1 z.2 k with
  | some d=>.ok (.d d)
  | none=>.bad) else .bad
 | _,_=>.bad
section
variable {X:Cx}{c:C}{a b:RA}{ga gb:G R}{pos:Pos}
theorem RR.dk {He J H:Hp}(hp:HI c J H):∀{r:R}{v:V}{z:List D×List D},RR c He J H r v->uX r=some z->∃a,v=.ref a/\dG c.K J H a z.1 z.2
 | .d (.dct ks vs),v,z,h,e=>by
  cases e;cases h with
  | dct h1 h2 h3 h4 h5=>exact ⟨_,rfl,_,_,_,hp.sub _ _ h1,h2,h3,h4,h5⟩
 | .mo ks vs,v,z,⟨a,h1,h2,_⟩,e=>by cases e;exact ⟨a,h1,h2⟩
 | .mf ks vs,v,z,⟨a,h1,h2,_⟩,e=>by cases e;exact ⟨a,h1,h2⟩
 | .mb ks vs,v,z,⟨a,h1,h2⟩,e=>by cases e;exact ⟨a,h1,h2.mono (aL.refl _) hp.ent⟩
 | .ln _,_,_,_,e=>nomatch e
 | .d .non,_,_,_,e=>nomatch e
 | .d (.bl _),_,_,_,e=>nomatch e
 | .d (.int _),_,_,_,e=>nomatch e
 | .d (.str _),_,_,_,e=>nomatch e
 | .d (.tup _),_,_,_,e=>nomatch e
 | .d (.lst _),_,_,_,e=>nomatch e
 | .d .emp,_,_,_,e=>nomatch e
 | .d (.exn _ _ _),_,_,_,e=>nomatch e
 | .l _ _,_,_,_,e=>nomatch e
theorem JT (hu:X.A.units + 64 < Sw):nP X (λx y H Q=>∃J p ks vs k d,aL J H/\x=.ref p/\dG X.K J H p ks vs/\Rep X.K J k y/\dD k=true/\gA ks vs k=some d/\∀v,Rep X.K J d v->Q v H):=by
 intro value slice Qx s σ H x y v u Q I rx ry h hs;obtain ⟨J,p,ks,vs,k,d,sm,rfl,hd,hk,ok,lk,q⟩:=h;have F:HF X.K J s:=HF.of (c:=⟨X.K,H,H,λ_=>True⟩) I sm;obtain ⟨kx,rfl,k1,k2⟩:=iG ok;obtain ⟨r,rfl⟩:∃r,y=.ref r:=by cases hk;exact ⟨_,rfl⟩
 cases rx;cases ry;obtain ⟨xs,us,ws,hm,e2,_,hv,e4,_,hsm⟩:=qK (P:=X.prog) (w:=X.w) F (g7 I) hd;obtain ⟨pp,v,ea,rv,rd⟩:=(wU ⟨.tup kx,k1,k2⟩ e2 hv e4).1 d lk;have room:(mR X.prog X.w).room X.A.in1:=by show X.A.units + 1 + 16 < Sw;omega
 exact Vi (x:=pp.2) hm.typeIs slot_dict_getitem.lookup (wpAny_getItem_heap (Q:=λr s'=>r=pp.2/\EP X Qx σ Q r s') room (jH F k1 hk) hm ea ⟨rfl,v,H,I.tok _,rv,q v rd⟩) hs
theorem fQ (hu:X.A.units + 64 < Sw) (ha:QD X c a ga) (hb:QD X c b gb) (hK:X.K=c.K:=by rfl) (hs:ly b:=by exact λ_ _=>rfl):QD X c (.Subscript a b pos) (g2 fR ga gb):=have ha:=ha.h;have hb:=hb.h;⟨Gy (JT hu) (by
 intro He He' J H x y u v Q hp rx ry w;unfold fR at w;split at w
 ·rename_i hz;obtain ⟨p,rfl,hd⟩:=rx.dk hp hz;split at w
  ·rename_i ok;split at w
   ·rename_i d hl;exact ⟨J,p,_,_,_,d,hp.sub,rfl,by rw [hK];exact hd,by rw [hK];exact ry,ok,hl,λv rd=>w v J H (Ext.refl hp.sub) (by rw [hK] at rd;exact rd)⟩
   ·exact w.elim
  ·exact w.elim
 ·exact w.elim) ha hb hs⟩
end
noncomputable def uC:List D->List D->D->D->List D
 | k::ks,v::vs,x,d=>(if bg k x=true then d else v)::uC ks vs x d
 | _,vs,_,_=>vs
def dput (z:List D×List D) (k d:D):List D×List D:=if (gA z.1 z.2 k).isSome=true then (z.1,uC z.1 z.2 k d) else (z.1++[k],z.2++[d])
noncomputable def gZ (ys:List D):List D×List D:=ys.foldl (λz y=>match y with
 | .tup [k,d]=>dput z k d
 | _=>z) ([],[])
theorem mG (ys:List D) (k d:D):gZ (ys++[.tup [k,d]])=dput (gZ ys) k d:=by unfold gZ;rw [List.foldl_append];rfl
inductive cD (K:QJ) (J:Hp):List (KD×Rb×QL)->List D->List V->List D->List V->Prop
 | nil:cD K J [] [] [] [] []
 | cons {x:KD×Rb×QL}{xs:List (KD×Rb×QL)}{ks vs:List D}{us ws:List V}{d:D}{v:V}:RelV v x.2.2->Rep K J d v->cD K J xs ks us vs ws->cD K J (x::xs) (x.1.1::ks) (.ref x.2.1::us) (d::vs) (v::ws)
section
variable {K:QJ}{J:Hp}{P:Ra}{w:Rz}
theorem cD.of:∀{xs:List (KD×Rb×QL)}{us:List V}{vs:List D}{ws:List V},aD K J vs ws->Vals ws (xs.map λx=>x.2.2)->Vals us (xs.map λx=>U3 x.2.1)->cD K J xs (xs.map λx=>x.1.1) us vs ws
 | [],_,_,_,.nil,.nil,.nil=>.nil
 | x::xs,u::us,_,_,.cons r rs,.cons q qs,.cons p ps=>by
  have:u=.ref x.2.1:=by
   cases u with
   | ref a=>cases p;rfl
   | int i=>obtain ⟨t,h⟩:=p;cases h
   | str i=>obtain ⟨t,h⟩:=p;cases h
   | byt i=>obtain ⟨t,h⟩:=p;cases h
   | flt i=>obtain ⟨t,h⟩:=p;cases h
   | non=>cases p
   | bl b=>cases p
   | ty n=>cases p
  subst this;exact .cons q r (cD.of rs qs ps)
theorem cD.put {k:KD}(rv:RelV v u) (rd:Rep K J d v):∀{xs:List (KD×Rb×QL)}{ks vs:List D}{us ws:List V},cD K J xs ks us vs ws->∃ws',cD K J (xs.map (putAt k u)) ks us (uC ks vs k.1 d) ws'
 | _,_,_,_,_,.nil=>⟨[],.nil⟩
 | x::xs,_,_,_,_,.cons q r t=>by
  obtain ⟨ws',ih⟩:=cD.put rv rd t;rw [Q6];unfold uC;by_cases c:x.1=k
  ·have:bg x.1.1 k.1=true:=by rw [c];exact eN _
   rw [if_pos this];have e:putAt k u x=(x.1,x.2.1,u):=by unfold putAt;rw [if_pos c]
   rw [e];exact ⟨v::ws',.cons (x:=(x.1,x.2.1,u)) rv rd ih⟩
  ·have:¬bg x.1.1 k.1=true:=λh=>c (WS ((ux x.1.2.1 k.2.1).mp h));rw [if_neg this];have e:putAt k u x=x:=by unfold putAt;rw [if_neg c]
   rw [e];exact ⟨_,.cons q r ih⟩
theorem cD.snoc {k:KD}{a:Rb}{u:QL}{d:D}{v:V}(rv:RelV v u) (rd:Rep K J d v):∀{xs:List (KD×Rb×QL)}{ks vs:List D}{us ws:List V},cD K J xs ks us vs ws->cD K J (xs++[(k,a,u)]) (ks++[k.1]) (us++[.ref a]) (vs++[d]) (ws++[v])
 | _,_,_,_,_,.nil=>.cons (x:=(k,a,u)) rv rd .nil
 | _,_,_,_,_,.cons q r t=>.cons q r (cD.snoc rv rd t)
theorem cD.ents:∀{xs:List (KD×Rb×QL)}{ks vs:List D}{us ws:List V},cD K J xs ks us vs ws->Wt xw ((cu ks).zip (us.zip ws)) (xs.map (ZQ (mR P w)))
 | _,_,_,_,_,.nil=>.nil
 | _,_,_,_,_,.cons q r t=>.cons ⟨rfl,rfl,q⟩ t.ents
theorem cD.reps:∀{xs:List (KD×Rb×QL)}{ks vs:List D}{us ws:List V},cD K J xs ks us vs ws->aD K J vs ws
 | _,_,_,_,_,.nil=>.nil
 | _,_,_,_,_,.cons q r t=>.cons r t.reps
theorem cD.keys:∀{xs:List (KD×Rb×QL)}{ks vs:List D}{us ws:List V},cD K J xs ks us vs ws->xs.map (λx=>x.1.1)=ks
 | _,_,_,_,_,.nil=>rfl
 | _,_,_,_,_,.cons q r t=>by rw [Q6,t.keys]
theorem cD.len:∀{xs:List (KD×Rb×QL)}{ks vs:List D}{us ws:List V},cD K J xs ks us vs ws->ks.length=vs.length
 | _,_,_,_,_,.nil=>rfl
 | _,_,_,_,_,.cons q r t=>by rw [Sb,Sb,t.len]
theorem p7:∀{xs ys:List D},areKeys (xs++ys)=(areKeys xs && areKeys ys)
 | [],_=>rfl
 | x::xs,ys=>by show (isKey x && areKeys (xs++ys))=((isKey x && areKeys xs) && areKeys ys);rw [p7,Bool.and_assoc]
theorem x_:∀{xs ys:List D}{n:Nat},deps xs<=n->deps ys<=n->deps (xs++ys)<=n
 | [],_,_,_,h=>h
 | x::xs,ys,n,h1,h2=>by unfold deps at h1;have:=x_ (xs:=xs) (ys:=ys) (n:=n) (by omega) h2;show max (dep x) (deps (xs++ys))<=n;omega
theorem aD.snoc (h:aD K J ds vs) (r:Rep K J d v):aD K J (ds++[d]) (vs++[v]):=h.append (.cons r .nil)
end
section
variable {X:Cx}
theorem Ar {s:QM}{H J:Hp}(I:Inv X Qx σ H s) (sub:aL J H){ks vs:List D}(h:dG X.K J H p ks vs):
  ∃xs:List (KD×Rb×QL),s.heap.DictOfH (mR X.prog X.w) p xs/\xs.length=ks.length/\∀{kxs:List D}{a:Rb}{d:D}{v:V}{u:QL}(k1:isKey (.tup kxs)=true) (k2:dep (.tup kxs)<=8),Rep X.K J (.tup kxs) (.ref a)->Rep X.K J d v->RelV v u->
   ∀(h':Sn) (tk:Nat),h'.DictOfH (mR X.prog X.w) p (storedH xs ⟨.tup kxs,k1,k2⟩ a u)->SE p s.heap h'->
    ∃o,Inv X Qx σ (upd H p o) {s with heap:=h',toks:=tk}/\dG X.K J (upd H p o) p (dput (ks,vs) (.tup kxs) d).1 (dput (ks,vs) (.tup kxs) d).2/\(dput (ks,vs) (.tup kxs) d).1.length<=ks.length + 1:=by
 have F:HF X.K J s:=HF.of (c:=⟨X.K,H,H,λ_=>True⟩) I sub;obtain ⟨xs,us,ws,hm,q2,h3,h4,q4,q5,h7⟩:=qK (P:=X.prog) (w:=X.w) F (g7 I) h;obtain ⟨_,_,_,p9,_,_,h5,_⟩:=h;have rows:cD X.K J xs ks us vs ws:=by have:=cD.of h4 q4 q5;rw [q2] at this;exact this
 refine ⟨xs,hm,by rw [<-q2,QN],fun {kxs a d v u} k1 k2 rk rd r9 h' tk hm' sb=>?_⟩;obtain ⟨o',es',ep',g1',g2'',g3',g4',g5',g6'⟩:=hm';obtain ⟨l1,l2⟩:=wU (K:=X.K) (J:=J) ⟨.tup kxs,k1,k2⟩ q2 h4 q4;have key:∃us' ws',cD X.K J (storedH xs ⟨.tup kxs,k1,k2⟩ a u) (dput (ks,vs) (.tup kxs) d).1 us' (dput (ks,vs) (.tup kxs) d).2 ws'/\aD X.K J (dput (ks,vs) (.tup kxs) d).1 us'/\areKeys (dput (ks,vs) (.tup kxs) d).1=true/\deps (dput (ks,vs) (.tup kxs) d).1<=8/\(∀k∈(dput (ks,vs) (.tup kxs) d).1,∃xs,k=.tup xs)/\(dput (ks,vs) (.tup kxs) d).1.length<=ks.length + 1:=by
  unfold dput;cases lk:gA ks vs (.tup kxs) with
  | some z=>
   obtain ⟨pp,v,ea,_,_⟩:=l1 z lk;rw [storedH_old ea];obtain ⟨ws',t⟩:=cD.put (k:=⟨.tup kxs,k1,k2⟩) r9 rd rows;exact ⟨us,ws',t,h3,h5.key,h5.dp,h5.tp,Tz _⟩
  | none=>
   rw [storedH_new (l2 lk)];refine ⟨us++[.ref a],ws++[v],cD.snoc (k:=⟨.tup kxs,k1,k2⟩) r9 rd rows,h3.snoc rk,?_,x_ h5.dp (by show max (dep (.tup kxs)) 0<=8;omega),λk hk=>?_,by simp⟩
   ·show areKeys (ks++[.tup kxs])=true;rw [p7,h5.key];show (true && (isKey (.tup kxs) && true))=true;rw [k1];rfl
   ·rcases Rn.mp hk with h | h
    ·exact h5.tp k h
    ·exact ⟨kxs,Q7.mp h⟩
 obtain ⟨us',ws',t,tk',kk,kd,kt,kl⟩:=key;have nd':(dput (ks,vs) (.tup kxs) d).1.Nodup:=by rw [<-t.keys];have:((storedH xs ⟨.tup kxs,k1,k2⟩ a u).map (·.1)).Nodup:=g6';have h:=aba (S:=(·≠·)) (λk:KD=>k.1) (λa b (h:a≠b) e=>h (WS e)) this;rw [Rt] at h;exact h
 refine ⟨jd p ep' ((cu (dput (ks,vs) (.tup kxs) d).1).zip (us'.zip ws')),I.write (e:=p) (by rw [p9];trivial) (.inl rfl) (λb u hb q=>by rw [sb.2 b hb];exact q) ⟨_,g1'⟩ ⟨⟨o',es',g1',g2'',g3',by rw [g4'];exact t.ents⟩,⟨_,g1'⟩,?_⟩,⟨us',ws',ep',bB,tk',t.reps,⟨kk,nd',kd,kt⟩,h7,t.len⟩,kl⟩;rintro h1 h2 ⟨o,es,a1,a2⟩ e;exact ⟨o,es,e o a1,a2⟩
end
def AW (c:C) (p:Rb):Hp->Hp->List D->Prop:=λJ H ys=>dG c.K J H p (gZ ys).1 (gZ ys).2/\J p=none/\(gZ ys).1.length<=ys.length
theorem qE:tZ (AW c p):=⟨fun {J H J' H' ys} ⟨h1,h2,h3⟩ e=>⟨h1.mono e.j e.h,e.frz _ h1.ne h2,h3⟩⟩
noncomputable def qG (gk gv:G R):Ev->M (List D×Ev):=λe=>gk e >>= λr=>toD r >>= λk=>gv e >>= λr2=>toD r2 >>= λd=>if dD k=true then .ok ([.tup [k,d]],e) else .bad
abbrev By (kx vx:RA) (p:Rb) (env:Env):Sem Unit:=do
 let kv <-eval kx env
 let vv <-holding [kv] (eval vx env)
 Uo {kx.pos with endLine:=vx.pos.endLine,endCol:=vx.pos.endCol}
 holding [kv,vv] (dictSet p kv vv)
section
variable {X:Cx}{c:C}{p:Rb}{J2 H2:Hp}{kx vx:RA}{gk gv:G R}
theorem zR (hu:X.A.units + 64 < Sw) (hK:X.K=c.K) (hx:∀v s,X.xe v s->False) (hp2:H2 p=none) (hp0:c.H0 p=none) (hk:PD X c kx gk) (hv:PD X c vx gv):qC X c p (AW c p) J2 H2 1 (By kx vx p X.env) (qG gk gv):=by
 intro Qx s σ H J env ys Qf I x2 sr no ⟨h1,h2,h8⟩ hl w;refine QI (RE (hk _ s σ H (λv H8=>∃J8 k,Ext J H J8 H8/\Rep c.K J8 k v/\cA (gv env >>= λr2=>toD r2 >>= λd=>if dD k=true then M.ok ([.tup [k,d]],env) else .bad) Qf c.T) I ⟨J,env,sr,aC (aH w) λr wr v J8 H8 e8 r8=>?_⟩) (λu8 s8 ⟨v8,H8,I8,r8,J8,k,e8,rk,w8⟩=>?_) λv s f=>(hx v s f).elim)
 ·obtain ⟨y,q,wr⟩:=gy wr;obtain ⟨J9,e9,_,ry⟩:=freeze e8 r8 q;exact ⟨J9,y,e9,ry,wr⟩
 refine QI (Rw (RE (hv _ s8 σ H8 (λv H9=>∃J9 d,Ext J8 H8 J9 H9/\Rep c.K J9 d v/\cA (if dD k=true then M.ok ([.tup [k,d]],env) else .bad) Qf c.T) I8 ⟨J8,env,sr.ext e8,aC (aH w8) λr wr v J9 H9 e9 r9=>?_⟩) (λu9 s9 ⟨v9,H9,I9,r9,J9,d,e9,rd,w9⟩=>?_) λv s f=>(hx v s f).elim))
 ·obtain ⟨y,q,wr⟩:=gy wr;obtain ⟨J9',e9',_,ry⟩:=freeze e9 r9 q;exact ⟨J9',y,e9',ry,wr⟩
 refine QI (T6 (Rw ?_));by_cases ok:dD k=true
 case neg=>rw [if_neg ok] at w9;exact w9.elim
 rw [if_pos ok] at w9;have w9:Qf ([.tup [k,d]],env):=w9;obtain ⟨kxs,rfl,k1,k2⟩:=iG ok;have ee:=e8.trans e9;have rk9:=rk.mono e9.j;obtain ⟨a,rfl⟩:∃a,v8=.ref a:=by cases rk;exact ⟨_,rfl⟩
 cases r8;have J9p:J9 p=none:=ee.frz _ h1.ne h2;rw [<-hK] at rk9 rd;have h9:=h1.mono ee.j ee.h;rw [<-hK] at h9;obtain ⟨xs,hm,lx,put⟩:=Ar I9 ee.sub h9;refine wpAny_dictSet_heap (knd:=mR X.prog X.w) (k:=⟨.tup kxs,k1,k2⟩) (show X.A.units + 16 < Sw by omega) (jH (HF.of (c:=⟨X.K,H9,H9,λ_=>True⟩) I9 ee.sub) k1 rk9) hm (λh' hm' sb=>?_) (by rw [lx];omega);obtain ⟨o,W,hd,kl⟩:=put k1 k2 rk9 rd r9 h' _ hm' sb;refine ⟨σ,_,J9,([.tup [.tup kxs,d]],env),W,(x2.trans ee).other hp2 J9p,ee.j,(sr.ext ee).other J9p hp0 no,no,⟨by rw [mG,<-hK];exact hd,J9p,?_⟩,QW _,w9⟩;rw [mG,Rj];exact Rr kl (Nat.add_le_add_right h8 1)
end
noncomputable def pD (n:Nat) (cap:List Nat) (gi0:G (List D)) (gt0:GT) (gts0:G Bool) (gi1:G (List D)) (gt1:GT) (gts1:G Bool) (gk gv:G R):G R:=f7 10000 n cap gi0 gt0 gts0 (iw gi1 gt1 gts1 (qG gk gv)) (λys=>.ok (.d (.dct (gZ ys).1 (gZ ys).2)))
theorem IS (kx vx t0 i0 t1 i1:RA) (f0 f1:List RA) (Qw:Um) (pos:Pos) (it acc:QL) (env:Env):
  VC (.DictComp kx vx [⟨t0,i0,f0,0⟩,⟨t1,i1,f1,0⟩] Qw pos) 0 it acc env=(do
   Uo i0.pos
   match <-Vg it with
   | none=>pure (.done .next)
   | some v=>
    Th t0 it v
    assign t0 env v
    let mut ok:=true
    for c in f0 do
     if ok then ok <-XG c env (eval c env)
    if ok then
     let x <-eval i1 env
     Uo i1.pos
     let x <-Se i1 env x
     let _ <-runOwn (.compStart (.DictComp kx vx [⟨t0,i0,f0,0⟩,⟨t1,i1,f1,0⟩] Qw pos) 1 (<-holding [x] (Wv x)) acc env) env
    again (.compLoop (.DictComp kx vx [⟨t0,i0,f0,0⟩,⟨t1,i1,f1,0⟩] Qw pos) 0 it acc env)):=by rfl
theorem Lp (kx vx t0 i0 t1 i1:RA) (f0 f1:List RA) (Qw:Um) (pos:Pos) (it acc:QL) (env:Env):
  VC (.DictComp kx vx [⟨t0,i0,f0,0⟩,⟨t1,i1,f1,0⟩] Qw pos) 0 it acc env=kN t0 i0 f0 it env (qN (.DictComp kx vx [⟨t0,i0,f0,0⟩,⟨t1,i1,f1,0⟩] Qw pos) i1 acc env) (again (.compLoop (.DictComp kx vx [⟨t0,i0,f0,0⟩,⟨t1,i1,f1,0⟩] Qw pos) 0 it acc env)):=by
 rw [IS];refine bind_congr λ_=>bind_congr λr=>?_;cases r with
 | none=>rfl
 | some v=>
  refine bind_congr λ_=>bind_congr λ_=>bind_congr λok=>?_;cases ok with
  | false=>rfl
  | true=>simp only [qN,bind_assoc,pure_bind,if_true]
theorem Lq (kx vx t0 i0 t1 i1:RA) (f0 f1:List RA) (Qw:Um) (pos:Pos) (it:QL) (p:Rb) (env:Env):
  VC (.DictComp kx vx [⟨t0,i0,f0,0⟩,⟨t1,i1,f1,0⟩] Qw pos) 1 it (.ref p) env=kN t1 i1 f1 it env (By kx vx p env) (again (.compLoop (.DictComp kx vx [⟨t0,i0,f0,0⟩,⟨t1,i1,f1,0⟩] Qw pos) 1 it (.ref p) env)):=by rfl
section
variable {X:Cx}{c:C}
theorem Jw (hu:X.A.units + 64 < Sw) (own:List Str) (cap:List Nat){kx vx t0 i0 t1 i1:RA}{f0 f1:List RA}{Qw:Um}{pos:Pos}{gi0 gi1:G (List D)}{gt0 gt1:GT}{gts0 gts1:G Bool}{gk gv:G R}(hi:uV X c t0 i0 gi0)
  (hbody:∀(cl:List (Str×Rb)) (C:Rb) (s:QM) (H:Hp) (fp:List Rb),cZ X.env.cells Qw.names []=some cl->nC (cF X own cap Qw cl C s H fp) c t0 gt0/\mD (cF X own cap Qw cl C s H fp) c f0 gts0/\zL (cF X own cap Qw cl C s H fp) c t1 i1 gi1/\nC (cF X own cap Qw cl C s H fp) c t1 gt1/\mD (cF X own cap Qw cl C s H fp) c f1 gts1/\QD (cF X own cap Qw cl C s H fp) c kx gk/\QD (cF X own cap Qw cl C s H fp) c vx gv)
  (a:xr X Qw cap i0:=by exact n8 rfl) (hs1:∀(en:Env) x,Se i1 en x=pure x:=by intro _ _;rfl) (hK:X.K=c.K:=by rfl):mC X c (.DictComp kx vx [⟨t0,i0,f0,0⟩,⟨t1,i1,f1,0⟩] Qw pos) (pD own.length cap gi0 gt0 gts0 gi1 gt1 gts1 gk gv):=by
 refine ⟨_,?_,rfl,λ_=>rfl⟩;refine jN (e:=.DictComp kx vx [⟨t0,i0,f0,0⟩,⟨t1,i1,f1,0⟩] Qw pos) (ob:={cls:=.type "dict",data:=.dict #[]}) (o0:=λa=>jd a 0 []) (Acc:=λp _=>AW c p) (N:=1000 * 1) (lim:=10000) (m:=λp env=>qN (.DictComp kx vx [⟨t0,i0,f0,0⟩,⟨t1,i1,f1,0⟩] Qw pos) i1 (.ref p) env) own cap rfl hi.h
  (λs Q E q=>Rx q) (λh H=>⟨⟨_,#[],Q2 _ rfl,⟨rfl,rfl,rfl⟩,rfl,.nil⟩,⟨_,Q2 _ rfl⟩,λh1 h2 ⟨o,es,a1,a2⟩ e=>⟨o,es,e o a1,a2⟩⟩) (λp _=>qE) (λp _ J H hsm h1 h2=>⟨⟨[],[],0,h1,.nil,.nil,⟨rfl,Tg,Rm _,λ_ h=>(nomatch h)⟩,beq_eq_false_iff_ne.mpr (SK (Rl hsm)),rfl⟩,h2,QW _⟩) (by decide) (λit p env=>Bq (Lp ..)) (λit acc env R s h0 h=>W6 h0 h) (λys z q=>by cases q)
  (fun {p H2 J H J' H' ys r} hp _ e ⟨⟨us,ws,ep,h1,h3,h4,h5,h7⟩,h2,h8⟩ q=>by
   cases q;have s1:aL J' (upd J' p (jd p ep ((cu (gZ ys).1).zip (us.zip ws)))):=bY h2 _;refine ⟨upd J' p (jd p ep ((cu (gZ ys).1).zip (us.zip ws))),⟨e.h,e.j.trans s1,λa o q=>?_,λa ha ja=>?_⟩,.dct bB (h3.mono s1) (h4.mono s1) h5 h7⟩
   ·by_cases z:a=p
    ·subst z;rw [bB] at q;cases q;exact h1
    ·rw [aQ z] at q;exact e.sub _ _ q
   ·have:a≠p:=λz=>ha (z▸hp);rw [aQ this];exact e.frz a ha ja) (λcl C s H fp hcc=>?_) a
 obtain ⟨b1,b2,b3,b4,b5,b6,b7⟩:=hbody cl C s H fp hcc;exact ⟨b1.h,b2.h,λp J2 H2 hp2 hp0=>zQ qE a.hcalm (λ_ _ f=>f) (λx=>hs1 _ x) (λit R s h0 h=>Lk h0 h) (λit=>Bq (Lq ..)) b3.h b4.h b5.h (zR hu hK (λ_ _ f=>f) hp2 hp0 b6.h b7.h)⟩
end
noncomputable def lexLe:List Int->List Int->Bool
 | [],_=>true
 | _::_,[]=>false
 | x::xs,y::ys=>if x=y then lexLe xs ys else decide (x<=y)
theorem jy (x y:Int) (xs ys:List Int):lexLe (x::xs) (y::ys)=if x=y then lexLe xs ys else decide (x<=y):=rfl
theorem nI:lexLe [] []=true:=rfl
theorem uA (y:Int) (ys:List Int):lexLe [] (y::ys)=true:=rfl
theorem uz (x:Int) (xs:List Int):lexLe (x::xs) []=false:=rfl
theorem Fy (A:RC) (s:QM) (a:Int) (t:Tok) (c:Int) (u:Tok) (prog:Ra) (w:Rz) (E:QL->QM->Prop) (Q:QL->QM->Prop) (h:Q (.bool (decide (a<=c))) s):
  Q_ (Rf prog w) A (richCompare .LtE (.int a t) (.int c u)) Q E s:=
 (aaX h:Q_ (Rf prog w) A (Sx .LtE (.int a t) (.int c u)) Q E s)
section
open PySem.SeqAt
open PySem.AutoSeq1 (wpAny_loadPart')
open PySem.MeetsSeq PySem.MeetsSeq2 PySem.MeetsSeq3
theorem wM (l b:Rb) (Qy QF:Array QL) (n n2:Nat) (dd dd2:Option Rb) (sl sl2:Array (Option QL)) (ns ms:List Int) (hi:UT Qy.toList ns) (hj:UT QF.toList ms):
  Meets (VL.«tuple.__le__» ⟨[.ref l,.ref b],[]⟩)
   (λ_ R s=>s.heap.get? l=some {cls:=.type "tuple",dict:=dd,data:=.seq Qy n,slots:=sl}/\s.heap.get? b=some {cls:=.type "tuple",dict:=dd2,data:=.seq QF n2,slots:=sl2}/\
    R (.ok (.ret (.bool (lexLe ns ms)))) s):=
 .of_wp λprog w A R s h=>by
  obtain ⟨hp,g,d,tk,os⟩:=s;obtain ⟨hl,hb,h⟩:=h;have f2:=UY;have z1:Qy.size=ns.length:=by rw [<-hi.length];simp
  have z2:QF.size=ms.length:=by rw [<-hj.length];simp
  wp_walk using Tj hl,Tj hb,Tn _ (λrest b s'=>b.1=none/\s'=⟨hp,g,d,tk,os⟩/\∃(vs ws:List QL) (ns' ms':List Int),rest=vs.zip ws/\
   UT vs ns'/\UT ws ms'/\ns'.length + QF.size=ms'.length + Qy.size/\R (.ok (.ret (.bool (lexLe ns' ms')))) ⟨hp,g,d,tk,os⟩) _
  case turn=>
   rintro ⟨y,x⟩ rest b s' ⟨hb',rfl,vs,ws,ns',ms',hz,PK,hwi,hlen,hR⟩;cases PK with
   | nil=>rw [List.zip_nil_left] at hz;cases hz
   | cons a t PL=>
    cases hwi with
    | nil=>rw [List.zip_nil_right] at hz;cases hz
    | cons c u PM=>
     rw [Wl] at hz;injection hz with hyx hrest
     injection hyx with hy hx
     subst hy hx;rw [jy] at hR;simp only [Sb] at hlen;obtain ⟨e,he,hiff⟩:=HT.Et A.in1 ⟨hp,g,d,tk,os⟩ a t c u;refine QI (he prog w _ _ ?_);cases e with
     | true=>
      rw [if_pos (hiff.mp rfl)] at hR
      wp_walk
      exact ⟨rfl,rfl,_,_,_,_,hrest,PL,PM,by omega,hR⟩
     | false=>
      rw [if_neg (λq=>absurd (hiff.mpr q) Ru)] at hR;have PJ:=Fy A.in1 ⟨hp,g,d,tk,os⟩ a t c u prog w
      wp_walk using PJ
      exact ⟨_,rfl,by simpa using hR⟩
  case fin=>
   rintro ⟨b1,b2⟩ s' ⟨hb',rfl,vs,ws,ns',ms',hz,PK,hwi,hlen,hR⟩;simp only at hb';subst hb';have hv:lexLe ns' ms'=decide (Qy.size<=QF.size):=by
    cases PK with
    | nil=>
     cases hwi with
     | nil=>
      simp only [Vd] at hlen;rw [nI];exact (decide_eq_true (by omega)).symm
     | cons c u hw=>
      simp only [Vd,Sb] at hlen;rw [uA];exact (decide_eq_true (by omega)).symm
    | cons a t hv=>
     cases hwi with
     | nil=>
      simp only [Vd,Sb] at hlen;rw [uz];exact (decide_eq_false (by omega)).symm
     | cons c u hw=>
      rw [Wl] at hz;cases hz
   rw [hv] at hR
   wp_walk
   exact ⟨_,rfl,by simpa [Vr] using hR⟩
  case h=>
   exact ⟨rfl,rfl,Qy.toList,QF.toList,ns,ms,rfl,hi,hj,by omega,h⟩
end
section
variable {prog:Ra}{w:Rz}{A:RC}{E:QL->QM->Prop}{s:QM}
theorem Bm {Qy QF:Array QL}{Q:QL->QM->Prop}(hl:aaE s.heap l Qy) (hb:aaE s.heap b QF) (hi:UT Qy.toList ns) (hj:UT QF.toList ms)
 (hu:A.units < Sw) (h:Q (.bool (lexLe ns ms)) s):Q_ (Rf prog w) A (Sx .LtE (.ref l) (.ref b)) Q E s:=by
 obtain ⟨⟨cls,dd,data,sl⟩,ho,hc,n,hd⟩:=id hl;obtain ⟨⟨cls2,dd2,data2,sl2⟩,ho2,hc2,n2,hd2⟩:=id hb;simp only at hc hd hc2 hd2;subst hc hd hc2 hd2;exact W3 (op:=.LtE) ⟨_,ho,rfl⟩ ⟨_,ho2,rfl⟩ PySem.F.slot_tuple_le PySem.F.entry_tuple_le (PySem.F.args_tuple_le_2 _ _) (wM l b Qy QF n n2 dd dd2 sl sl2 ns ms hi hj)
  ⟨ho,ho2,show TM (lexLe ns ms)≠Xx/\Q (.bool (lexLe ns ms)) s from ⟨(λx=>nomatch x),h⟩⟩ hu
end
section
variable {X:Cx}{c:C}{a b e:RA}{ga gb:G R}{pos pos2:Pos}
theorem Km (hu:X.A.units < Sw):c5 X (Sx .LtE) (λx y H Q=>∃a b ns ms,x=.ref a/\y=.ref b/\cC X.K H a (ns.map V.int)/\cC X.K H b (ms.map V.int)/\Q (.bl (lexLe ns ms)) H):=by intro Qx s σ H x y v u Q I rx ry h;obtain ⟨a,b,ns,ms,rfl,rfl,ha,hb,q⟩:=h;cases rx;cases ry;obtain ⟨Qz,r1,p1,_⟩:=I.tuple ha;obtain ⟨its2,r2,p2,_⟩:=I.tuple hb;exact Bm p1 p2 (L2.intsAre_of r1:UT Qz.toArray.toList ns) (L2.intsAre_of r2:UT its2.toArray.toList ms) hu ⟨.bl (lexLe ns ms),H,I,rfl,q⟩
noncomputable def yf:R->R->M R
 | .d (.tup xs),.d (.tup ys)=>match intsOf xs,intsOf ys with
  | some ns,some ms=>.ok (.d (.bl (lexLe ns ms)))
  | _,_=>.bad
 | _,_=>.bad
theorem Ir (hu:X.A.units + 64 < Sw) (ha:QD X c a ga) (hb:QD X c b gb) (hK:X.K=c.K:=by rfl):QB X c (.Compare a [.LtE] [b] pos) (bH (g2 yf ga gb)):=have ha:=ha.h;have hb:=hb.h;⟨jS (Km (by omega)) (by
 intro He He' J H x y u v Q hp rx ry w;unfold yf at w;split at w
 ·cases rx with
  | tup h1 s1=>
   cases ry with
   | tup h2 s2=>
    split at w
    ·rename_i ns ms z1 z2;have e1:=mQ z1 s1;have e2:=mQ z2 s2;subst e1 e2;exact ⟨_,_,ns,ms,rfl,rfl,by rw [hK];exact eE hp.sub h1,by rw [hK];exact eE hp.sub h2,w _ J H (Ext.refl hp.sub) (.bl _)⟩
    ·exact w.elim
 ·exact w.elim) ha hb⟩
end
theorem um (gt:GT) (gts:G Bool) (ge:G R):∀(ds:List D) (env:Ev) (k:List D->M R),(bO gt gts (fX ge) ds env >>= λr=>k r.1)=(eT gt gts ge ds env >>= k)
 | [],env,k=>rfl
 | d::ds,env,k=>by
  unfold bO eT;cases gt d env with
  | bad=>rfl
  | exc z=>rfl
  | ok e=>
   show ((gts e >>= λk=>if k=true then fX ge e >>= λr=>bO gt gts (fX ge) ds r.2 >>= λz=>.ok (r.1++z.1,z.2) else bO gt gts (fX ge) ds e) >>= _)=((gts e >>= λk=>if k=true then ge e >>= λr=>toD r >>= λy=>eT gt gts ge ds e >>= λys=>.ok (y::ys) else eT gt gts ge ds e) >>= _);cases gts e with
   | bad=>rfl
   | exc z=>rfl
   | ok b=>
    cases b with
    | false=>exact um gt gts ge ds e k
    | true=>
     show ((fX ge e >>= λr=>bO gt gts (fX ge) ds r.2 >>= λz=>.ok (r.1++z.1,z.2)) >>= _)=((ge e >>= λr=>toD r >>= λy=>eT gt gts ge ds e >>= λys=>.ok (y::ys)) >>= _);unfold fX;cases ge e with
     | bad=>rfl
     | exc z=>rfl
     | ok r=>
      show (((toD r >>= λy=>M.ok ([y],e)) >>= λr=>bO gt gts (fX ge) ds r.2 >>= λz=>.ok (r.1++z.1,z.2)) >>= _)=((toD r >>= λy=>eT gt gts ge ds e >>= λys=>.ok (y::ys)) >>= _);cases toD r with
      | bad=>rfl
      | exc z=>rfl
      | ok y=>
       have ih:=um gt gts ge ds e λys=>k (y::ys);show ((bO gt gts (fX ge) ds e >>= λz=>.ok ([y]++z.1,z.2)) >>= λr=>k r.1)=((eT gt gts ge ds e >>= λys=>M.ok (y::ys)) >>= k);have e1:((bO gt gts (fX ge) ds e >>= λz=>M.ok ([y]++z.1,z.2)) >>= λr=>k r.1)=(bO gt gts (fX ge) ds e >>= λr=>k (y::r.1)):=by cases bO gt gts (fX ge) ds e <;> rfl
       have e2:((eT gt gts ge ds e >>= λys=>M.ok (y::ys)) >>= k)=(eT gt gts ge ds e >>= λys=>k (y::ys)):=by cases eT gt gts ge ds e <;> rfl
       rw [e1,e2,ih]
theorem Hq (n:Nat) (cap:List Nat) (gi:G (List D)) (gt:GT) (gts:G Bool) (ge:G R):bE n cap gi gt gts ge=f7 sizeLine n cap gi gt gts (fX ge) (λys=>.ok (.l .fresh ys)):=by
 funext env;unfold bE f7;cases gi env with
 | bad=>rfl
 | exc z=>rfl
 | ok ds=>
  show (if ds.length<=sizeLine then _ else _)=(if ds.length<=sizeLine then _ else _);by_cases c:ds.length<=sizeLine
  ·rw [if_pos c,if_pos c];exact (um gt gts ge ds _ λys=>.ok (.l .fresh ys)).symm
  ·rw [if_neg c,if_neg c]
section
variable {X:Cx}{c:C}
theorem dX (own:List Str) (cap:List Nat){elt QA QC:RA}{ifs:List RA}{Qw:Um}{pos:Pos}{gi:G (List D)}{gt:GT}{gts:G Bool}{ge:G R}(hi:uV X c QA QC gi)
  (hbody:∀(cl:List (Str×Rb)) (C:Rb) (s:QM) (H:Hp) (fp:List Rb),cZ X.env.cells Qw.names []=some cl->nC (cF X own cap Qw cl C s H fp) c QA gt/\mD (cF X own cap Qw cl C s H fp) c ifs gts/\QD (cF X own cap Qw cl C s H fp) c elt ge) (a:xr X Qw cap QC:=by exact n8 rfl):mC X c (.ListComp elt [⟨QA,QC,ifs,0⟩] Qw pos) (bE own.length cap gi gt gts ge):=by
 refine ⟨_,?_,rfl,λ_=>rfl⟩;rw [Hq];refine jN (e:=.ListComp elt [⟨QA,QC,ifs,0⟩] Qw pos) (ob:={cls:=.type "list",dict:=none,data:=.seq ([]:List QL).toArray}) (o0:=λ_=>.lst []) (Acc:=λp _=>AX c p) (N:=1) (lim:=sizeLine) (m:=λp env=>do let _ <-call (.builtin "list.append") [.ref p,<-eval elt env]) own cap rfl hi.h
  (λs Q E q=>Rx q) (λh H=>⟨Rm _,[],0,.nil,Q2 _ rfl⟩) (λp _=>qF) (λp _ J H _ h1 h2=>⟨[],h1,h2,.nil⟩) (by rw [aaY];exact QW _) (λit p env=>w_ (aap ..)) (λit acc env R s h0 h=>Vm h0 h) (λys z q=>by cases q)
  (fun {p H2 J H J' H' ys r} hp _ e ⟨us,h1,h2,h3⟩ q=>by cases q;exact ⟨J',e,⟨p,us,rfl,h1,h2,hp,h3⟩⟩) (λcl C s H fp hcc=>?_) a
 obtain ⟨b1,b2,b3⟩:=hbody cl C s H fp hcc;exact ⟨b1.h,b2.h,λp J2 H2 hp2 hp0=>zP (λ_ _ f=>f) hp2 hp0 b3.h⟩
end
end DL
namespace K23
open PySem DL
def rO:List Str:=["world","many","marks","arrows"]
noncomputable def sJ:G O:=(aJ (kX (dU 3 (bD (aA 1) (bD (aA 2) (bD (aA 3) eF)))) (af 0))
 (bz (bA (az (gN cH (ao (bE 2 [] (dQ (af 2)) (dU 2 (bD (aA 0) (bD (aA 1) eF))) b8 (af 0)) aE)) (az (gN cH (ao (bE 2 [] (dQ (af 3)) (dU 2 (bD (aA 0) (bD (aA 1) eF))) b8 (af 0)) aE)) aU)))))
def ir (as:List S):M R:=fin (sJ (aW rO as))
def nU:List Str:=["one","other"]
def ow:G O:=(bS (bH (g2 (dM true) (gN (aS 1 K23.ir) (ao (af 0) aE)) (gN (aS 1 K23.ir) (ao (af 1) aE)))) wZ dI)
def ig (as:List S):M R:=fin (ow (aW nU as))
def jI:List Str:=["worlds","world"]
def jP:G O:=(eW (kY (af 0)) (aA 1) (bS (bH (g2 (jO λi j=>.bl (decide (j < i))) (g2 a_ (af 1) (gC (.int 0))) (gC (.int 4)))) wZ dI))
def fj (as:List S):M R:=fin (jP (aW jI as))
def p5:List Str:=["one","other"]
noncomputable def qm:G O:=(aJ (jx (gN (aS 2 K23.ig) (ao (af 0) (ao (af 1) aE))))
 (jx (gN (aS 1 K23.fj) (ao (bA (az (af 0) (az (af 1) aU))) aE))))
def fM (as:List S):M R:=fin (qm (aW p5 as))
def zK:List Str:=["pairs"]
noncomputable def Ac:G O:=(aJ (bS (bH (g2 (qd false) (af 0) (gC .non))) (bz (bA aU)) dI)
 (bz (gN cH (ao (gN se (ao (af 0) aE)) aE))))
def pg (as:List S):M R:=fin (Ac (aW zK as))
def F2:List Str:=["world","one","other","many","marks","arrows","bearing","leading"]
noncomputable def Gi:G O:=(aJ (kX (dU 3 (bD (aA 3) (bD (aA 4) (bD (aA 5) eF)))) (af 0))
 (aJ (bh 6 (gN cH (ao (bE 2 [1] (dQ (af 4)) (dU 2 (bD (aA 0) (bD (aA 1) eF))) b8 (g2 (lI false) (af 2) (af 1))) aE)))
 (aJ (bh 7 (gN cH (ao (bE 2 [1,2] (dQ (af 5)) (dU 2 (bD (aA 0) (bD (aA 1) eF))) b8 (g2 (lI false) (bA (az (af 2) (az (af 3) aU))) (af 1))) aE)))
 (bz (bA (az (g2 (dM false) (af 1) (af 2)) (az (af 6) (az (af 7) aU))))))))
def wN (as:List S):M R:=fin (Gi (aW F2 as))
def B4:List Str:=["world"]
noncomputable def CQ:G O:=(bz (pD 2 [0] (bT (ao (g2 a_ (af 0) (gC (.int 0))) aE)) (aA 0) b8 (bT (ao (g2 a_ (af 2) (gC (.int 0))) aE)) (aA 1) b8 (bA (az (af 0) (az (af 1) aU))) (gN (aS 3 K23.wN) (ao (af 2) (ao (af 0) (ao (af 1) aE))))))
def nO (as:List S):M R:=fin (CQ (aW B4 as))
def B3:List Str:=["first","second","pair","again"]
noncomputable def CO:G O:=(bz (g2 (dM false) (g2 fR (af 0) (bA (az (g2 a_ (af 2) (gC (.int 0))) (az (g2 a_ (af 3) (gC (.int 0))) aU)))) (g2 fR (af 1) (bA (az (g2 a_ (af 2) (gC (.int 1))) (az (g2 a_ (af 3) (gC (.int 1))) aU))))))
def d9 (as:List S):M R:=fin (CO (aW B3 as))
def nR:List Str:=["first","second","pairing","pair","again"]
noncomputable def oq:G O:=(aJ (bS (kW (qS (af 2)) (bH (g2 yf (af 3) (g2 a_ (af 2) (qP (gC (.int 1))))))) (bz (gC (.bl false))) dI)
 (aJ (eW (kY (af 2)) (aA 4) (bS (lO (eX (bH (gN (aS 4 K23.d9) (ao (af 0) (ao (af 1) (ao (af 3) (ao (af 4) aE))))))) (eX (bH (gN (aS 4 K23.d9) (ao (af 0) (ao (af 1) (ao (af 4) (ao (af 3) aE)))))))) (bz (gC (.bl false))) dI))
 (bz (gC (.bl true)))))
def ie (as:List S):M R:=fin (oq (aW nR as))
def uT:List Str:=["one","other","most","first","second","pairs","longest","told","step"]
noncomputable def vj:G O:=(aJ (jx (gN (aS 2 K23.fM) (ao (af 0) (ao (af 1) aE))))
 (aJ (jx (gN (aS 3 K55.eK) (ao (af 2) (ao (gC (.int 0)) (ao (gC (.int 4)) aE)))))
 (aJ (bh 3 (gN (aS 1 K23.nO) (ao (af 0) aE)))
 (aJ (bh 4 (gN (aS 1 K23.nO) (ao (af 1) aE)))
 (aJ (bh 5 (sC 2 [1,3,4] (bT (ao (g2 a_ (af 0) (gC (.int 0))) aE)) (aA 0) b8 (bT (ao (g2 a_ (af 2) (gC (.int 0))) aE)) (aA 1) (bH (gN (aS 4 K23.d9) (ao (af 3) (ao (af 4) (ao (bA (az (af 0) (az (af 1) aU))) (ao (bA (az (af 0) (az (af 1) aU))) aE)))))) (bA (az (af 0) (az (af 1) aU)))))
 (aJ (iX 5 (bh 6 (gF (az (bA aU) aU))))
 (aJ (bh 7 (gF (az (bA aU) aU)))
 (aJ (eW (bT (ao (af 2) aE)) (aA 8) (aJ (iX 5 (bh 6 (sC 2 [5,3,4] (dQ (af 6)) (aA 0) b8 (kY (af 2)) (aA 1) (bH (gN (aS 4 K23.ie) (ao (af 3) (ao (af 4) (ao (af 0) (ao (af 1) aE)))))) (g2 dB (af 0) (bA (az (af 1) aU))))))
 (yi 7 (af 6))))
 (bz (af 7))))))))))
def gX (as:List S):M R:=fin (vj (aW uT as))
end K23
namespace K23
open PySem DL K01 WP K51 K52 K55
section
variable {α β:Type}
theorem Ga {gts:G Bool}{act:Ev->M (List D×Ev)}{h':β->D}{rest:Ev}(p:β->Bool) (f:β->D):∀(ys:List β),(∀y∈ys,gts (a0::some (.d (h' y))::rest)=.ok (p y)/\(p y=true->act (a0::some (.d (h' y))::rest)=.ok ([f y],a0::some (.d (h' y))::rest)))->
  ∀z:Option S,∃z',bO (aA 1) gts act (ys.map h') (a0::z::rest)=.ok ((ys.filter p).map f,a0::z'::rest)
 | [],_,z=>⟨z,rfl⟩
 | y::ys,H,z=>by
  obtain ⟨h1,h2⟩:=H y QV;obtain ⟨z',ih⟩:=Ga p f ys (λy hy=>H y (QT _ hy)) (some (.d (h' y)));refine ⟨z',?_⟩;rw [Q6];unfold bO;show (gts (a0::some (.d (h' y))::rest) >>= λk=>if k=true then act (a0::some (.d (h' y))::rest) >>= λr=>bO (aA 1) gts act (ys.map h') r.2 >>= λz=>.ok (r.1++z.1,z.2) else bO (aA 1) gts act (ys.map h') (a0::some (.d (h' y))::rest))=_;rw [h1,aK];cases q:p y with
  | true=>
   rw [if_pos rfl,h2 q,aK];show (bO (aA 1) gts act (ys.map h') (a0::some (.d (h' y))::rest) >>= _)=_;rw [ih,aK,WM q];rfl
  | false=>
   rw [if_neg (by decide),ih,WN (by simp [q])]
theorem Cz {gi1:G (List D)}{gts:G Bool}{act:Ev->M (List D×Ev)}{h:α->D}{h':β->D}{rest:Ev}(ys:α->List β) (p:α->β->Bool) (f:α->β->D):∀(xs:List α),(∀x∈xs,(ys x).length<=1000/\(∀z:Option S,gi1 (some (.d (h x))::z::rest)=.ok ((ys x).map h'))/\∀y∈ys x,gts (some (.d (h x))::some (.d (h' y))::rest)=.ok (p x y)/\(p x y=true->act (some (.d (h x))::some (.d (h' y))::rest)=.ok ([f x y],some (.d (h x))::some (.d (h' y))::rest)))->
  ∀z0 z:Option S,∃z0' z',bO (aA 0) b8 (iw gi1 (aA 1) gts act) (xs.map h) (z0::z::rest)=.ok (xs.flatMap λx=>((ys x).filter (p x)).map (f x),z0'::z'::rest)
 | [],_,z0,z=>⟨z0,z,rfl⟩
 | x::xs,H,z0,z=>by obtain ⟨h1,h2,h3⟩:=H x QV;obtain ⟨z1,e1⟩:=Ga (a0:=some (.d (h x))) (p x) (f x) (ys x) h3 z;obtain ⟨z0',z',ih⟩:=Cz ys p f xs (λy hy=>H y (QT _ hy)) (some (.d (h x))) z1;refine ⟨z0',z',?_⟩;rw [Q6];unfold bO;show (iw gi1 (aA 1) gts act (some (.d (h x))::z::rest) >>= _)=_;unfold iw;rw [h2 z,aK,if_pos (by rw [QN];exact h1),e1,aK];show (bO (aA 0) b8 (iw gi1 (aA 1) gts act) (xs.map h) (some (.d (h x))::z1::rest) >>= _)=_;rw [ih];rfl
theorem wV {gi0 gi1:G (List D)}{gts:G Bool}{act:Ev->M (List D×Ev)}{fin:List D->M R}{h:α->D}{h':β->D}{xs:List α}(ys:α->List β) (p:α->β->Bool) (f:α->β->D) (hi:gi0 env=.ok (xs.map h)) (hl:xs.length<=10000)
 (H:∀x∈xs,(ys x).length<=1000/\(∀z:Option S,gi1 (some (.d (h x))::z::cE 0 cap env)=.ok ((ys x).map h'))/\∀y∈ys x,gts (some (.d (h x))::some (.d (h' y))::cE 0 cap env)=.ok (p x y)/\(p x y=true->act (some (.d (h x))::some (.d (h' y))::cE 0 cap env)=.ok ([f x y],some (.d (h x))::some (.d (h' y))::cE 0 cap env))):
  f7 10000 2 cap gi0 (aA 0) b8 (iw gi1 (aA 1) gts act) fin env=fin (xs.flatMap λx=>((ys x).filter (p x)).map (f x)):=by unfold f7;rw [hi,aK,if_pos (by rw [QN];exact hl)];obtain ⟨z0',z',e⟩:=Cz ys p f xs H none none;show (bO (aA 0) b8 (iw gi1 (aA 1) gts act) (xs.map h) (none::none::cE 0 cap env) >>= _)=_;rw [e];rfl
theorem zO {ge:G R}(h:ge env=.ok r) (h2:toD r=.ok d):fX ge env=.ok ([d],env):=by unfold fX;rw [h,aK,h2];rfl
theorem t_ {gk gv:G R}(h:gk env=.ok r) (h2:toD r=.ok k) (h3:gv env=.ok r2) (h4:toD r2=.ok d) (ok:dD k=true):qG gk gv env=.ok ([.tup [k,d]],env):=by unfold qG;rw [h,aK,h2,aK,h3,aK,h4,aK,if_pos ok]
end
noncomputable def dW (u:Wd) (a c:Nat):D:=.tup [.bl (bg (dN a) (dN c)),.tup (u.ms.map λr=>.bl (inD (dN a) (r.2.map dN))),.tup (u.ar.map λr=>.bl (inD (dP (a,c)) (r.2.map dP)))]
theorem I_ (u:Wd) (hu:lC u) (a c:Nat):wN [.d u.d,.d (dN a),.d (dN c)]=.ok (.d (dW u a c)):=by have ml:=hu.ml;have al:=hu.al;refine cj (tE rfl rfl rfl ?_);refine bF (n1 (ku (xs:=u.ms) (λr=>.str r.1) (λr=>.tup (r.2.map dN)) (λr=>.bl (inD (dN a) (r.2.map dN))) rfl (by omega) λr _=>⟨_,two rfl rfl (M6 a r.2),rfl⟩) rfl) rfl ?_;refine bF (n1 (ku (xs:=u.ar) (λr=>.str r.1) (λr=>.tup (r.2.map dP)) (λr=>.bl (inD (dP (a,c)) (r.2.map dP))) rfl (by omega) λr _=>⟨_,two (br (aG rfl rfl (aG rfl rfl bq)) t2) rfl (JN (a,c) r.2),rfl⟩) rfl) rfl ?_;exact bK (br (aG rfl rfl (aG rfl rfl (aG rfl rfl bq))) (by show 3<=1000;decide)) rfl rfl
def dH (m n:Nat):List (Nat×Nat):=(QS m).flatMap λa=>(QS n).map λb=>(a,b)
theorem mW {p:Nat×Nat}:p∈dH m n↔p.1 < m/\p.2 < n:=by
 unfold dH;simp only [VT,Ro,QO];constructor
 ·rintro ⟨a,ha,b,hb,rfl⟩;exact ⟨ha,hb⟩
 ·rintro ⟨h1,h2⟩;exact ⟨p.1,h1,p.2,h2,rfl⟩
theorem mY (m n:Nat):(dH m n).Nodup:=by unfold dH;refine Xn.mpr ⟨λa _=>R5.mpr (Vt (λh e=>h (by cases e;rfl)) (To (n:=n))),?_⟩;refine Vt ?_ (To (n:=m));intro a b hab p h1 q h2 e;subst e;obtain ⟨x,_,rfl⟩:=QO.mp h1;obtain ⟨y,_,e⟩:=QO.mp h2;cases e;exact hab rfl
theorem ER (m n:Nat):(dH m n).length=m * n:=by
 induction m with
 | zero=>simp [dH]
 | succ m ih=>
  unfold dH at ih ⊢;rw [Uv,List.flatMap_append,Rj,ih,Zr];simp
theorem HG (h:∀x∈ks,bg x k=false):gA ks vs k=none:=by
 induction ks generalizing vs with
 | nil=>cases vs <;> rfl
 | cons x ks ih=>
  cases vs with
  | nil=>rfl
  | cons v vs=>
   unfold gA;rw [h x QV,if_neg (by decide)];exact ih λy hy=>h y (QT _ hy)
theorem u_ (f:Nat×Nat->D):∀(n:Nat) (ps:List (Nat×Nat)),ps.length=n->ps.Nodup->gZ (ps.map λp=>D.tup [dP p,f p])=(ps.map dP,ps.map f)
 | 0,ps,h,_=>by have:=Tf.mp h;subst this;rfl
 | n + 1,ps,h,nd=>by
  rcases Tu ps with rfl | ⟨qs,p,rfl⟩
  ·cases h
  ·rw [Tv] at h nd ⊢;have nd':=Vv.mp nd;have ih:=u_ f n qs (by simpa using h) nd'.1;have hn:gA (qs.map dP) (qs.map f) (dP p)=none:=HG λx hx=>by obtain ⟨q,hq,rfl⟩:=QO.mp hx;rw [vc,decide_eq_false_iff_not];rintro rfl;exact nd'.2.2 q hq q QV rfl
   rw [Rg,Yj,mG,ih];unfold dput;rw [hn];simp
abbrev gD (u:Wd):List D:=(dH u.m u.m).map dP
abbrev gE (u:Wd):List D:=(dH u.m u.m).map λp=>dW u p.1 p.2
theorem zH (u:Wd) (hu:lC u):nO [.d u.d]=.ok (.d (.dct (gD u) (gE u))):=by
 have hi:=hu.hi;refine cj (bK (r:=.d (.dct (gD u) (gE u))) ?_ rfl rfl);refine (wV (xs:=QS u.m) (h:=dN) (h':=dN) (λ_=>QS u.m) (λ_ _=>true) (λa b=>.tup [dP (a,b),dW u a b]) ?_ (by simp;omega) λa _=>⟨by simp;omega,λz=>?_,λb _=>⟨rfl,λ_=>t_ (br (aG rfl rfl (aG rfl rfl bq)) t2) rfl (c3 rfl rfl rfl (I_ u hu a b)) rfl rfl⟩⟩).trans ?_
 ·exact fS (b9 (two rfl rfl (g8 _ _))) (by omega)
 ·exact fS (b9 (two rfl rfl (g8 _ _))) (by omega)
 ·have ef:(QS u.m).filter (λ_=>true)=QS u.m:=T_.mpr λ_ _=>rfl;have e:((QS u.m).flatMap λa=>((QS u.m).filter λ_=>true).map λb=>D.tup [dP (a,b),dW u a b])=(dH u.m u.m).map λp=>D.tup [dP p,dW u p.1 p.2]:=by rw [ef];unfold dH;rw [VU];simp [Rt,Function.comp_def]
  rw [e];have h:=u_ (λp=>dW u p.1 p.2) _ (dH u.m u.m) rfl (mY _ _);show M.ok (R.d (.dct (gZ ((dH u.m u.m).map λp=>D.tup [dP p,dW u p.1 p.2])).1 (gZ ((dH u.m u.m).map λp=>D.tup [dP p,dW u p.1 p.2])).2))=_;rw [h]
theorem Ai (u:Wd):∀(ps:List (Nat×Nat)) (p:Nat×Nat),p∈ps->gA (ps.map dP) (ps.map λp=>dW u p.1 p.2) (dP p)=some (dW u p.1 p.2)
 | q::ps,p,h=>by
  rw [Q6,Q6];unfold gA;by_cases c:q=p
  ·subst c;rw [if_pos (by rw [vc];simp)]
  ·rw [if_neg (by rw [vc];simpa using c)];rcases Q9.mp h with e | e
   ·exact absurd e.symm c
   ·exact Ai u ps p e
theorem yb (u:Wd) (a c:Nat) (ha:a < u.m) (hc:c < u.m):fR (.d (.dct (gD u) (gE u))) (.d (dP (a,c)))=.ok (.d (dW u a c)):=by
 show (if dD (dP (a,c))=true then (match gA (gD u) (gE u) (dP (a,c)) with
  | some d=>M.ok (R.d d)
  | none=>.bad) else .bad)=_
 rw [if_pos (show dD (dP (a,c))=true from rfl),Ai u (dH u.m u.m) (a,c) (mW.mpr ⟨ha,hc⟩)]
theorem zf (u:Wd) (a c:Nat):dep (dW u a c)<=60:=by
 have h1:deps (u.ms.map λr=>D.bl (inD (dN a) (r.2.map dN)))<=0:=dz λx hx=>by obtain ⟨r,_,rfl⟩:=QO.mp hx;exact Rm _
 have h2:deps (u.ar.map λr=>D.bl (inD (dP (a,c)) (r.2.map dP)))<=0:=dz λx hx=>by obtain ⟨r,_,rfl⟩:=QO.mp hx;exact Rm _
 unfold dW;simp only [dep,deps];omega
def iO (v w:Wd) (p q:Nat×Nat):Bool:=bg (dW v p.1 q.1) (dW w p.2 q.2)
def rC (v w:Wd) (p:Nat×Nat):Prop:=p.1 < v.m/\p.2 < w.m
theorem t6 (v w:Wd) (p q:Nat×Nat) (hp:rC v w p) (hq:rC v w q):d9 [.d (.dct (gD v) (gE v)),.d (.dct (gD w) (gE w)),.d (dP p),.d (dP q)]=.ok (.d (.bl (iO v w p q))):=by refine cj (bK (two (x:=.d (dW v p.1 q.1)) (y:=.d (dW w p.2 q.2)) (two rfl (br (aG (two rfl rfl (g8 _ _)) rfl (aG (two rfl rfl (g8 _ _)) rfl bq)) t2) (yb v p.1 q.1 hp.1 hq.1)) (two rfl (br (aG (two rfl rfl (Ae _ _ _)) rfl (aG (two rfl rfl (Ae _ _ _)) rfl bq)) t2) (yb w p.2 q.2 hp.2 hq.2)) (pB _ _ _ (zf v p.1 q.1) (zf w p.2 q.2))) rfl rfl)
def qp (p q:Nat×Nat):Bool:=lexLe [p.1,p.2] [q.1,q.2]
theorem NP (p q:Nat×Nat):yf (.d (dP p)) (.d (dP q))=.ok (.d (.bl (qp p q))):=rfl
noncomputable def gb (v w:Wd) (ps:List (Nat×Nat)) (q:Nat×Nat):Bool:=(match ps.getLast? with
 | some l=>!qp q l
 | none=>true) && ps.all λr=>iO v w q r && iO v w r q
theorem nt {g:G R}(h:g env=.ok (.d (.bl b))):bH g env=.ok b:=by show (g env >>= _)=_;rw [h];rfl
theorem uM {g:G R}(h:g env=.ok (lM (.d (.bl b)))):bH g env=.ok b:=nt h
theorem dS {f:R->R->M R}{g h:G R}(hx:g env=.ok x) (hy:h env=.ok y) (hf:f x y=.ok (.d (.bl b))):bH (g2 f g h) env=.ok b:=nt (two hx hy hf)
theorem kF {g:G Bool}(h:g env=.ok b):eX g env=.ok (!b):=by show (g env >>= _)=_;rw [h];rfl
theorem xE {a b:G Bool}(h:a env=.ok false):kW a b env=.ok false:=by unfold kW;rw [h];rfl
theorem ua {a b:G Bool}(h:a env=.ok true) (h2:b env=.ok k):kW a b env=.ok k:=by unfold kW;rw [h];exact h2
theorem Kv {a b:G Bool}(h:a env=.ok (!x)) (h2:b env=.ok (!y)):lO a b env=.ok (!(x && y)):=by
 unfold lO;rw [h];cases x with
 | true=>exact h2
 | false=>rfl
theorem MR (v w:Wd) (ps:List (Nat×Nat)) (q:Nat×Nat) (hp:∀p∈ps,rC v w p) (hq:rC v w q):ie [.d (.dct (gD v) (gE v)),.d (.dct (gD w) (gE w)),.d (.tup (ps.map dP)),.d (dP q)]=.ok (.d (.bl (gb v w ps q))):=by
 have loop:(match ps.getLast? with
   | some l=>!qp q l
   | none=>true)=true->Wp (aJ (eW (kY (af 2)) (aA 4) (bS (lO (eX (bH (gN (aS 4 K23.d9) (ao (af 0) (ao (af 1) (ao (af 3) (ao (af 4) aE))))))) (eX (bH (gN (aS 4 K23.d9) (ao (af 0) (ao (af 1) (ao (af 4) (ao (af 3) aE)))))))) (bz (gC (.bl false))) dI))
 (bz (gC (.bl true))) [some (.d (.dct (gD v) (gE v))),some (.d (.dct (gD w) (gE w))),some (.d (.tup (ps.map dP))),some (.d (dP q)),none]) (·=.rt (.d (.bl (gb v w ps q)))):=by
  intro hl;refine iJ (ds:=ps.map dP) rfl ?_;have key:∀(rs:List (Nat×Nat)),(∀p∈rs,rC v w p)->∀x:Option S,Wp (fq (aA 4) (bS (lO (eX (bH (gN (aS 4 K23.d9) (ao (af 0) (ao (af 1) (ao (af 3) (ao (af 4) aE))))))) (eX (bH (gN (aS 4 K23.d9) (ao (af 0) (ao (af 1) (ao (af 4) (ao (af 3) aE)))))))) (bz (gC (.bl false))) dI) (rs.map dP) [some (.d (.dct (gD v) (gE v))),some (.d (.dct (gD w) (gE w))),some (.d (.tup (ps.map dP))),some (.d (dP q)),x])
    (λo=>((∃e,o=.nx e)/\(rs.all λr=>iO v w q r && iO v w r q)=true)\/(o=.rt (.d (.bl false))/\(rs.all λr=>iO v w q r && iO v w r q)=false)):=by
   intro rs
   induction rs with
   | nil=>intro _ x;exact ⟨_,rfl,.inl ⟨⟨_,rfl⟩,rfl⟩⟩
   | cons r rs ih=>
    intro hr x;have h1:=t6 v w q r hq (hr r QV);have h2:=t6 v w r q (hr r QV) hq;have ht:(lO (eX (bH (gN (aS 4 K23.d9) (ao (af 0) (ao (af 1) (ao (af 3) (ao (af 4) aE))))))) (eX (bH (gN (aS 4 K23.d9) (ao (af 0) (ao (af 1) (ao (af 4) (ao (af 3) aE)))))))) [some (.d (.dct (gD v) (gE v))),some (.d (.dct (gD w) (gE w))),some (.d (.tup (ps.map dP))),some (.d (dP q)),some (.d (dP r))]=.ok (!(iO v w q r && iO v w r q)):=Kv (kF (uM (c4 rfl rfl rfl rfl h1))) (kF (uM (c4 rfl rfl rfl rfl h2)));rw [Q6,S_];unfold fq;show Wp ((bS _ _ _ [some (.d (.dct (gD v) (gE v))),some (.d (.dct (gD w) (gE w))),some (.d (.tup (ps.map dP))),some (.d (dP q)),some (.d (dP r))]) >>= _) _;cases hc:(iO v w q r && iO v w r q) with
    | true=>
     rw [hc] at ht;rw [sN ht];exact ih (λp hp=>hr p (QT _ hp)) _
    | false=>
     rw [hc] at ht;rw [uv ht];exact ⟨_,rfl,.inr ⟨rfl,rfl⟩⟩
  refine (key ps hp none).mono ?_;rintro o (⟨⟨e,rfl⟩,h⟩ | ⟨rfl,h⟩)
  ·refine bK rfl rfl ?_;unfold gb;rw [hl,h];rfl
  ·show O.rt _=_;unfold gb;rw [h,Uh]
 refine cj ?_;cases q':ps.getLast? with
 | none=>
  have:ps=[]:=Wr.mp q';subst this;exact eB (xE rfl) (loop rfl)
 | some l=>
  obtain ⟨rs,rfl⟩:∃rs,ps=rs++[l]:=by
   rcases Tu ps with rfl | ⟨ys,y,rfl⟩
   ·cases q'
   ·rw [Tv] at q' ⊢;rw [XA] at q';cases q';exact ⟨ys,rfl⟩
  have hix:a_ (.d (.tup ((rs++[l]).map dP))) (.d (.int (-1)))=.ok (.d (dP l)):=by rw [Rg];exact Hv _ _
  have ht:kW (qS (af 2)) (bH (g2 yf (af 3) (g2 a_ (af 2) (qP (gC (.int 1)))))) [some (.d (.dct (gD v) (gE v))),some (.d (.dct (gD w) (gE w))),some (.d (.tup ((rs++[l]).map dP))),some (.d (dP q)),none]=.ok (qp q l):=by refine ua ?_ (nt (two rfl (two rfl rfl hix) (NP q l)));show M.ok (!((rs++[l]).map dP).isEmpty)=_;simp
  cases hc:qp q l with
  | true=>
   rw [hc] at ht;refine cB (iE ht (bK rfl rfl ?_));show O.rt _=_;unfold gb;rw [q'];simp [hc]
  | false=>
   rw [hc] at ht;exact eB ht (loop (by rw [q'];simp [hc]))
section
variable {env:Ev}{Q:O->Prop}{g:G R}{t:G O}{r:R}{i:Nat}
theorem LQ {xs ys:List D}(h0:env[i]?=some (some (.own xs))) (h:g env=.ok r) (h2:gz r=.ok ys) (hl:xs.length + ys.length<=16777216) (k:Q (.nx (env.set i (some (.own (xs++ys)))))):Wp (yi i g env) Q:=by refine ⟨_,?_,k⟩;unfold yi;rw [h0];show (g env >>= _)=_;rw [h,aK,h2,aK,if_pos (by rw [RX];exact hl)]
theorem Kd (h:g env=.ok r) (k:Q (.nx env)):Wp (jx g env) Q:=⟨.nx env,by show (g env >>= _)=_;rw [h];rfl,k⟩
theorem Lz (h:env[i]?=some (some (.d d))) (k:Wp (t env) Q):Wp (iX i t env) Q:=by
 have:iX i t env=t env:=by unfold iX;rw [h]
 rw [this];exact k
end
structure Pr (v w:Wd):Prop where
 vo:lC v
 wo:lC w
 v4:v.m<=4
 w4:w.m<=4
 mn:v.ms.map Sf=w.ms.map Sf
 an:v.ar.map Sf=w.ar.map Sf
def i8 (u:Wd):D:=.tup [.tup ((u.ms.map Sf).map .str),.tup ((u.ar.map Sf).map .str)]
theorem xu (u:Wd) (hu:lC u):ir [.d u.d]=.ok (.d (i8 u)):=by have ml:=hu.ml;have al:=hu.al;refine cj (tE rfl rfl rfl (bK (br (aG (n1 (ku (xs:=u.ms) (λr=>.str r.1) (λr=>.tup (r.2.map dN)) (λr=>.str r.1) rfl (by omega) λr _=>⟨_,rfl,rfl⟩) rfl) rfl (aG (n1 (ku (xs:=u.ar) (λr=>.str r.1) (λr=>.tup (r.2.map dP)) (λr=>.str r.1) rfl (by omega) λr _=>⟨_,rfl,rfl⟩) rfl) rfl bq)) t2) rfl ?_));unfold i8;rw [Rt,Rt];rfl
theorem AG (u:Wd):dep (i8 u)<=60:=by
 have h:∀ss:List Str,deps (ss.map D.str)<=0:=λss=>dz λx hx=>by obtain ⟨r,_,rfl⟩:=QO.mp hx;exact Rm _
 have h1:=h (u.ms.map Sf);have h2:=h (u.ar.map Sf);unfold i8;simp only [dep,deps];omega
theorem zG {v w:Wd}(t:Pr v w):fM [.d v.d,.d w.d]=.ok (.d .non):=by
 have ht:ig [.d v.d,.d w.d]=.ok (.d .non):=by
  refine o_ (oF (dS (b:=false) (c1 rfl (xu v t.vo)) (c1 rfl (xu w t.wo)) ?_) (jR ⟨_,rfl⟩));show dM true (.d (i8 v)) (.d (i8 w))=_;rw [pB true (.d (i8 v)) (.d (i8 w)) (AG v) (AG w)];have e:i8 v=i8 w:=by unfold i8;rw [t.mn,t.an]
  show M.ok (R.d (.bl (!bg (i8 v) (i8 w))))=_;rw [e,eN];rfl
 have hf:fj [.d (.tup [v.d,w.d])]=.ok (.d .non):=by
  have v4:=t.v4;have w4:=t.w4;have one:∀(u:Wd),u.m<=4->bH (g2 (jO λi j=>.bl (decide (j < i))) (g2 a_ (af 1) (gC (.int 0))) (gC (.int 4))) [some (.d (.tup [v.d,w.d])),some (.d u.d)]=.ok false:=λu hu=>by refine dS (two rfl rfl (g8 _ _)) rfl ?_;show M.ok (R.d (.bl (decide ((4:Int) < (u.m:Int)))))=_;rw [decide_eq_false (by omega)]
  refine o_ (Bk (ds:=[v.d,w.d]) rfl (tY (λk env=>∃x,env=[some (.d (.tup [v.d,w.d])),x]) [v.d,w.d] ⟨none,rfl⟩ ?_ λe _=>⟨e,rfl⟩));rintro k hk _ ⟨x,rfl⟩
  match k,hk with
  | 0,_=>exact ⟨_,rfl,oF (one v v4) (jR ⟨_,rfl,_,rfl⟩)⟩
  | 1,_=>exact ⟨_,rfl,oF (one w w4) (jR ⟨_,rfl,_,rfl⟩)⟩
 refine o_ (lF (c2 rfl rfl ht) ?_);exact Kd (c1 (br (aG rfl rfl (aG rfl rfl bq)) t2) hf) ⟨_,rfl⟩
theorem LB (d:Nat) (hd:d<=4):K55.eK [.d (.int d),.d (.int 0),.d (.int 4)]=.ok (.d .non):=by refine o_ (oF ?_ (jR ⟨_,rfl⟩));show (if decide ((d:Int) < 0)=true then M.ok true else M.ok (decide ((4:Int) < d)))=M.ok false;rw [decide_eq_false (show ¬(d:Int) < 0 by omega),decide_eq_false (show ¬(4:Int) < d by omega)];rfl
def prs (v w:Wd):List (Nat×Nat):=(dH v.m w.m).filter λp=>iO v w p p
noncomputable def LG (v w:Wd):Nat->List (List (Nat×Nat))
 | 0=>[[]]
 | j + 1=>(LG v w j).flatMap λah=>((prs v w).filter (gb v w ah)).map λq=>ah++[q]
noncomputable def told (v w:Wd):Nat->List (List (Nat×Nat))
 | 0=>[[]]
 | j + 1=>told v w j++LG v w (j + 1)
abbrev aO (ps:List (Nat×Nat)):D:=.tup (ps.map dP)
theorem Dz (h:p∈prs v w):rC v w p:=mW.mp (RD.mp h).1
theorem pL (t:Pr v w):(prs v w).length<=16:=by have h1:=RL (λp=>iO v w p p) (dH v.m w.m);rw [ER] at h1;have h2:=Vz t.v4 t.w4;unfold prs;omega
theorem rD:∀(j:Nat){ps:List (Nat×Nat)},ps∈LG v w j->ps.length=j/\∀p∈ps,rC v w p
 | 0,ps,h=>by rw [show ps=[] from Q7.mp h];exact ⟨rfl,λ_ h=>by cases h⟩
 | j + 1,ps,h=>by
  obtain ⟨ah,h1,h2⟩:=VT.mp h;obtain ⟨q,h3,rfl⟩:=QO.mp h2;obtain ⟨l,k⟩:=rD j h1;refine ⟨by rw [Rj,l];rfl,λp hp=>?_⟩;rcases Rn.mp hp with h | h
  ·exact k p h
  ·rw [Q7.mp h];exact Dz (RD.mp h3).1
theorem yh {α β:Type}(f:α->List β) (n:Nat):∀(xs:List α),(∀x∈xs,(f x).length<=n)->(xs.flatMap f).length<=xs.length * n
 | [],_=>by simp
 | x::xs,h=>by have h1:=h x QV;have h2:=yh f n xs λy hy=>h y (QT _ hy);rw [List.flatMap_cons,Rj,Sb,Zr];omega
theorem rE (t:Pr v w):∀j,(LG v w j).length<=16 ^ j
 | 0=>QW _
 | j + 1=>by
  have h:=yh (λah=>((prs v w).filter (gb v w ah)).map λq=>ah++[q]) 16 (LG v w j) λah _=>by rw [QN];exact Rr (RL _ _) (pL t)
  have h2:=UK 16 (rE t j);rw [YN];exact Rr h h2
theorem q9 (t:Pr v w):∀j,j<=4->(told v w j).length<=(j + 1) * 65536
 | 0,_=>by show 1<=_;omega
 | j + 1,h=>by
  have h1:=q9 t j (by omega);have h2:=rE t (j + 1);have h3:(16:Nat) ^ (j + 1)<=16 ^ 4:=UJ (by decide) h;have h4:(16:Nat) ^ 4=65536:=by decide
  show (told v w j++LG v w (j + 1)).length<=_;rw [Rj];omega
theorem uK:∀(n:Nat){ps:List (Nat×Nat)},ps∈told v w n↔∃j,j<=n/\ps∈LG v w j
 | 0,ps=>by
  constructor
  ·exact λh=>⟨0,QW _,h⟩
  ·rintro ⟨j,hj,h⟩;have:j=0:=by omega
   subst this;exact h
 | n + 1,ps=>by
  show ps∈told v w n++LG v w (n + 1)↔_;rw [Rn,uK n];constructor
  ·rintro (⟨j,hj,h⟩ | h)
   ·exact ⟨j,by omega,h⟩
   ·exact ⟨n + 1,QW _,h⟩
  ·rintro ⟨j,hj,h⟩;by_cases c:j=n + 1
   ·subst c;exact .inr h
   ·exact .inl ⟨j,by omega,h⟩
theorem rA {v w:Wd}(t:Pr v w) (n:Nat) (hn:n<=4):gX [.d v.d,.d w.d,.d (.int n)]=.ok (.l .fresh ((told v w n).map aO)):=by
 have v4:=t.v4;have w4:=t.w4;refine cj (lF (c2 rfl rfl (zG t)) (lF (c3 rfl rfl rfl (LB n hn)) (bF (c1 rfl (zH v t.vo)) rfl (bF (c1 rfl (zH w t.wo)) rfl ?_))));have hp:sC 2 [1,3,4] (bT (ao (g2 a_ (af 0) (gC (.int 0))) aE)) (aA 0) b8 (bT (ao (g2 a_ (af 2) (gC (.int 0))) aE)) (aA 1) (bH (gN (aS 4 K23.d9) (ao (af 3) (ao (af 4) (ao (bA (az (af 0) (az (af 1) aU))) (ao (bA (az (af 0) (az (af 1) aU))) aE)))))) (bA (az (af 0) (az (af 1) aU)))
   [some (.d v.d),some (.d w.d),some (.d (.int n)),some (.d (.dct (gD v) (gE v))),some (.d (.dct (gD w) (gE w))),none,none,none,none]=.ok (.l .fresh ((prs v w).map dP)):=by
  refine (wV (xs:=QS v.m) (h:=dN) (h':=dN) (λ_=>QS w.m) (λa b=>iO v w (a,b) (a,b)) (λa b=>dP (a,b)) (fS (b9 (two rfl rfl (g8 _ _))) (by omega)) (by simp;omega) λa ha=>⟨by simp;omega,λz=>fS (b9 (two rfl rfl (g8 _ _))) (by omega),λb hb=>⟨?_,λ_=>zO (br (aG rfl rfl (aG rfl rfl bq)) t2) rfl⟩⟩).trans ?_
  ·have ha:a < v.m:=by simpa using ha
   have hb:b < w.m:=by simpa using hb
   exact uM (c4 rfl rfl (br (aG rfl rfl (aG rfl rfl bq)) t2) (br (aG rfl rfl (aG rfl rfl bq)) t2) (t6 v w (a,b) (a,b) ⟨ha,hb⟩ ⟨ha,hb⟩))
  ·have e:((QS v.m).flatMap λa=>((QS w.m).filter λb=>iO v w (a,b) (a,b)).map λb=>dP (a,b))=(prs v w).map dP:=by unfold prs dH;rw [List.filter_flatMap,VU];congr 1;funext a;rw [Zu,Rt];rfl
   rw [e]
 refine bF hp rfl ?_;refine cB (BR rfl (fV (oG (aG (br bq (by decide)) rfl bq) (by show 1<=1000;decide)) rfl ?_));refine bF (oG (aG (br bq (by decide)) rfl bq) (by show 1<=1000;decide)) rfl ?_;refine iJ (oU (n:=n) rfl (by omega)) ?_;refine nv (λk env=>∃x:Option S,env=[some (.d v.d),some (.d w.d),some (.d (.int n)),some (.d (.dct (gD v) (gE v))),some (.d (.dct (gD w) (gE w))),some (.d (.lst ((prs v w).map dP))),some (.own ((LG v w k).map aO)),some (.own ((told v w k).map aO)),x]) ⟨none,rfl⟩ ?_ ?_
 ·rintro k hk _ ⟨x,rfl⟩;have l1:=rE t k;have l2:=rE t (k + 1);have l3:=q9 t k (by omega);have p1:(16:Nat) ^ k<=16 ^ 3:=UJ (by decide) (by omega);have p2:(16:Nat) ^ (k + 1)<=16 ^ 4:=UJ (by decide) (by omega);have p3:(16:Nat) ^ 3=4096:=by decide
  have p4:(16:Nat) ^ 4=65536:=by decide
  refine ⟨_,rfl,cB (Lz rfl (fV (r:=.l .fresh ((LG v w (k + 1)).map aO)) ?_ rfl (LQ rfl rfl rfl (by simp only [QN];omega) ⟨_,rfl,some (.d (.int k)),?_⟩)))⟩
  ·refine (wV (xs:=LG v w k) (h:=aO) (h':=dP) (λ_=>prs v w) (λah q=>gb v w ah q) (λah q=>aO (ah++[q])) rfl (by omega) λah PU=>⟨by have:=pL t;omega,λz=>rfl,λq hq=>⟨?_,λ_=>zO (two rfl (br (aG rfl rfl bq) (by show 1<=1000;decide)) (tR _ _ ?_)) ?_⟩⟩).trans ?_
   ·exact uM (c4 rfl rfl rfl rfl (MR v w ah q (rD k PU).2 (Dz hq)))
   ·have:=(rD k PU).1;simp;omega
   ·show M.ok (D.tup (ah.map dP++[dP q]))=M.ok (D.tup ((ah++[q]).map dP));rw [Rg];rfl
   ·show M.ok (R.l .fresh _)=_;show _=M.ok (R.l .fresh (((LG v w k).flatMap λah=>((prs v w).filter (gb v w ah)).map λq=>ah++[q]).map aO));rw [VU];simp only [Rt];rfl
  ·show _=[_,_,_,_,_,_,_,some (S.own ((told v w k++LG v w (k + 1)).map aO)),_];rw [Rg];rfl
 ·rintro _ ⟨x,rfl⟩;exact bK rfl rfl rfl
theorem allM {α:Type}(f:α->Bool) (xs:List α):n_ [.l .fresh (xs.map λx=>.bl (f x))]=.ok (.d (.bl (xs.all f))):=by
 have:=all_map (λd=>match d with
  | .bl b=>b
  | _=>false) (xs.map λx=>.bl (f x))
 rw [Rt,Wj] at this;exact this
theorem ye:∀{xs ys:List Bool},bW (xs.map D.bl) (ys.map D.bl)=true↔xs=ys
 | [],[]=>by simp [bW]
 | [],_::_=>by simp [bW]
 | _::_,[]=>by simp [bW]
 | x::xs,y::ys=>by rw [Q6,Q6,fP,QX,ye];simp [bg]
structure BU (v w:Wd) (p q:Nat×Nat):Prop where
 eq:p.1=q.1↔p.2=q.2
 ms:v.ms.map (λr=>decide (p.1∈r.2))=w.ms.map λr=>decide (p.2∈r.2)
 ar:v.ar.map (λr=>decide ((p.1,q.1)∈r.2))=w.ar.map λr=>decide ((p.2,q.2)∈r.2)
theorem lD (v w:Wd) (p q:Nat×Nat):iO v w p q=true↔BU v w p q:=by
 have e:iO v w p q=((p.1 == q.1) == (p.2 == q.2) && (bW ((v.ms.map λr=>decide (p.1∈r.2)).map D.bl) ((w.ms.map λr=>decide (p.2∈r.2)).map D.bl) && (bW ((v.ar.map λr=>decide ((p.1,q.1)∈r.2)).map D.bl) ((w.ar.map λr=>decide ((p.2,q.2)∈r.2)).map D.bl) && true))):=by unfold iO dW;rw [jF,fP,fP,fP,jF,jF,bW];simp only [K55.inN,K55.MJ,Rt,K55.yd];rfl
 rw [e,QX,QX,QX,ye,ye];have e1:((p.1 == q.1) == (p.2 == q.2))=true↔(p.1=q.1↔p.2=q.2):=by rw [beq_iff_eq,R1,beq_iff_eq,beq_iff_eq]
 rw [e1];exact ⟨λ⟨a,b,c,_⟩=>⟨a,b,c⟩,λ⟨a,b,c⟩=>⟨a,b,c,rfl⟩⟩
theorem Kf {p q:Nat×Nat}(h:qp p q=false):q.1 < p.1\/(q.1=p.1/\q.2 < p.2):=by
 unfold qp at h;rw [jy] at h;by_cases c:(p.1:Int)=q.1
 ·rw [if_pos c,jy] at h;by_cases c2:(p.2:Int)=q.2
  ·rw [if_pos c2,nI] at h;cases h
  ·rw [if_neg c2,decide_eq_false_iff_not] at h;exact .inr ⟨by omega,by omega⟩
 ·rw [if_neg c,decide_eq_false_iff_not] at h;exact .inl (by omega)
theorem Ke {p q:Nat×Nat}(h:q.1 < p.1):qp p q=false:=by unfold qp;rw [jy,if_neg (by omega),decide_eq_false_iff_not];omega
structure Good (v w:Wd) (ps:List (Nat×Nat)):Prop where
 up:ps.Pairwise λp q=>p.1 < q.1
 ag:∀p∈ps,∀q∈ps,BU v w p q
 rg:∀p∈ps,rC v w p
theorem uy {α:Type}{ps:List α}{l:α}(h:ps.getLast?=some l):∃rs,ps=rs++[l]:=by
 rcases Tu ps with rfl | ⟨ys,y,rfl⟩
 ·cases h
 ·rw [Tv] at h ⊢;rw [XA] at h;cases h;exact ⟨ys,rfl⟩
theorem Aj:p∈prs v w↔rC v w p/\BU v w p p:=by unfold prs;rw [RD,mW,lD];exact abk
theorem CP {v w:Wd}{ps:List (Nat×Nat)}(g:Good v w ps){q:Nat×Nat}(hq:q∈prs v w):gb v w ps q=true↔Good v w (ps++[q]):=by
 obtain ⟨h1,h2⟩:=Aj.mp hq;unfold gb;rw [QX,Rk];constructor
 ·rintro ⟨a,b⟩;have ag:∀r∈ps,BU v w q r/\BU v w r q:=λr hr=>by have:=b r hr;rw [QX,lD,lD] at this;exact this
  have lt:∀r∈ps,r.1 < q.1:=by
   cases e:ps.getLast? with
   | none=>rw [Wr.mp e];exact λ_ h=>by cases h
   | some l=>
    rw [e] at a;have hl:l.1 < q.1:=by
     obtain ⟨rs,rfl⟩:=uy e;rcases Kf (by simpa using a) with h | ⟨h,h'⟩
     ·exact h
     ·have:=(ag l (by simp)).1.eq;omega
    obtain ⟨rs,rfl⟩:=uy e;intro r hr;rcases Rn.mp hr with h | h
    ·have:=(TL.mp g.up).2.2 r h l (by simp);omega
    ·rw [Q7.mp h];exact hl
  refine ⟨TL.mpr ⟨g.up,Ua _ _,λr hr x hx=>by rw [Q7.mp hx];exact lt r hr⟩,λr hr x hx=>?_,λr hr=>?_⟩
  ·rcases Rn.mp hr with hr | hr <;> rcases Rn.mp hx with hx | hx
   ·exact g.ag r hr x hx
   ·rw [Q7.mp hx];exact (ag r hr).2
   ·rw [Q7.mp hr];exact (ag x hx).1
   ·rw [Q7.mp hr,Q7.mp hx];exact h2
  ·rcases Rn.mp hr with hr | hr
   ·exact g.rg r hr
   ·rw [Q7.mp hr];exact h1
 ·intro h;refine ⟨?_,λr hr=>?_⟩
  ·cases e:ps.getLast? with
   | none=>rfl
   | some l=>
    have hl:l∈ps:=by obtain ⟨rs,rfl⟩:=uy e;simp
    have:=(TL.mp h.up).2.2 l hl q (by simp);show (!qp q l)=true;rw [Ke this];rfl
  ·rw [QX,lD,lD];exact ⟨h.ag q (by simp) r (by simp [hr]),h.ag r (by simp [hr]) q (by simp)⟩
theorem sU:∀(j:Nat){ps:List (Nat×Nat)},ps∈LG v w j↔ps.length=j/\Good v w ps
 | 0,ps=>by
  constructor
  ·intro h;rw [show ps=[] from Q7.mp h];exact ⟨rfl,.nil,(λ_ h=>nomatch h),(λ_ h=>nomatch h)⟩
  ·rintro ⟨h,_⟩;rw [Tf.mp h];exact Q7.mpr rfl
 | j + 1,ps=>by
  constructor
  ·intro h;obtain ⟨ah,h1,h2⟩:=VT.mp h;obtain ⟨q,h3,rfl⟩:=QO.mp h2;obtain ⟨l,g⟩:=(sU j).mp h1;obtain ⟨h4,h5⟩:=RD.mp h3;exact ⟨by rw [Rj,l];rfl,(CP g h4).mp h5⟩
  ·rintro ⟨h,g⟩;rcases Tu ps with rfl | ⟨ah,q,rfl⟩
   ·cases h
   ·rw [Tv] at h g ⊢;have ga:Good v w ah:=⟨(TL.mp g.up).1,λp hp x hx=>g.ag p (by simp [hp]) x (by simp [hx]),λp hp=>g.rg p (by simp [hp])⟩;have hq:q∈prs v w:=Aj.mpr ⟨g.rg q (by simp),g.ag q (by simp) q (by simp)⟩;exact VT.mpr ⟨ah,(sU j).mpr ⟨by simpa using h,ga⟩,QO.mpr ⟨q,RD.mpr ⟨hq,(CP ga hq).mpr g⟩,rfl⟩⟩
theorem xh (a b:Nat):dO (dN a) (dN b)=true↔a < b:=by rw [lU,decide_eq_true_eq];omega
theorem Gp (a b:Nat×Nat):dO (dP a) (dP b)=true↔qv a b:=by
 have e:dO (dP a) (dP b)=gH [dN a.1,dN a.2] [dN b.1,dN b.2]:=rfl;rw [e,iY,K55.yd];unfold qv;by_cases c:a.1=b.1
 ·rw [if_pos (by simpa using c),iY,K55.yd];by_cases c2:a.2=b.2
  ·rw [if_pos (by simpa using c2)];constructor
   ·intro h;cases h
   ·intro h;omega
  ·rw [if_neg (by simpa using c2)];rw [show dO (D.int a.2) (D.int b.2)=dO (dN a.2) (dN b.2) from rfl,xh];omega
 ·rw [if_neg (by simpa using c)];rw [show dO (D.int a.1) (D.int b.1)=dO (dN a.1) (dN b.1) from rfl,xh];omega
theorem tX {α:Type}(h:α->D) (u:D->α) (hu:∀x,u (h x)=x) (R:α->α->Prop) (hR:∀a b,dO (h a) (h b)=true->R a b){l:List D}(hl:∀d∈l,∃x,d=h x) (up:l.Pairwise λa b=>dO a b=true):(l.map u).Pairwise R:=by refine R5.mpr ((Tt.mp up).imp ?_);rintro a b ⟨ha,hb,h1⟩;obtain ⟨x,rfl⟩:=hl a ha;obtain ⟨y,rfl⟩:=hl b hb;rw [hu,hu];exact hR x y h1
theorem Ni (xs:List Nat) (hl:xs.length < 64):∃ys:List Nat,gJ [.d (.tup (xs.map dN))]=.ok (.l .fresh (ys.map dN))/\ys.length<=xs.length/\(∀y∈ys,y∈xs)/\ys.Pairwise (· < ·):=by
 have tot:∀d∈xs.map dN,iR .i d:=λd hd=>by obtain ⟨x,_,rfl⟩:=QO.mp hd;exact ⟨_,rfl⟩
 obtain ⟨h1,h2⟩:=o7 (fD .i) tot;have fm:∀d∈bZ (xs.map dN),∃x,d=dN x:=λd hd=>by obtain ⟨x,_,rfl⟩:=QO.mp (h2 d hd);exact ⟨x,rfl⟩
 refine ⟨(bZ (xs.map dN)).map kO,?_,by simpa using h1,λy hy=>?_,tX dN kO tV _ (λa b h=>(xh a b).mp h) fm (nk (fD .i) tot).1⟩
 ·rw [Nk xs hl,back dN kO tV fm]
 ·obtain ⟨d,hd,rfl⟩:=QO.mp hy;obtain ⟨x,hx,rfl⟩:=QO.mp (h2 d hd);exact hx
theorem Nj (xs:List (Nat×Nat)) (hl:xs.length < 64):∃ys:List (Nat×Nat),gJ [.d (.tup (xs.map dP))]=.ok (.l .fresh (ys.map dP))/\ys.length<=xs.length/\(∀y∈ys,y∈xs)/\ys.Pairwise qv:=by
 have tot:∀d∈xs.map dP,iR pF d:=λd hd=>by obtain ⟨x,_,rfl⟩:=QO.mp hd;exact oz x
 obtain ⟨h1,h2⟩:=o7 (fD pF) tot;have fm:∀d∈bZ (xs.map dP),∃x,d=dP x:=λd hd=>by obtain ⟨x,_,rfl⟩:=QO.mp (h2 d hd);exact ⟨x,rfl⟩
 refine ⟨(bZ (xs.map dP)).map kP,?_,by simpa using h1,λy hy=>?_,tX dP kP kQ _ (λa b h=>(Gp a b).mp h) fm (nk (fD pF) tot).1⟩
 ·rw [Nl xs hl,back dP kP kQ fm]
 ·obtain ⟨d,hd,rfl⟩:=QO.mp hy;obtain ⟨x,hx,rfl⟩:=QO.mp (h2 d hd);exact hx
theorem sy {α:Type}(h:α->D) (P:α->Prop) (Sr:List α->Prop) (hf:∀xs p,Sr xs->Sr (xs.filter p)) (n:Nat) (hn:n<=40) (hd:∀x,dep (h x)<=1) (b:Bool) (hb:∀x,o9 (j4 (h x)) "tuple"=b)
  (hs:∀xs:List α,xs.length < 64->∃ys:List α,gJ [.d (.tup (xs.map h))]=.ok (.l .fresh (ys.map h))/\ys.length<=xs.length/\(∀y∈ys,y∈xs)/\Sr ys)
  (L:List (Str×List α)) (hL:B7 P n L) (hS:∀r∈L,Sr r.2) (l3:L.length<=3) (k:Nat) (hk:k < L.length) (th:α) (ht:P th) (w c:Option S) (m:D) (ms ar:D):
  ∃L':List (Str×List α),B7 P (n + 1) L'/\(∀r∈L',Sr r.2)/\L'.map Sf=L.map Sf/\L'.length=L.length/\Mf [w,c,some (.d m),some (.d ms),some (.d ar),some (.d (.int k)),some (.d (h th)),some (.d (.tup (L.map (cY h)))),none,none,none]=.ok (.rt (.d (if b=true then .tup [m,ms,.tup (L'.map (cY h))] else .tup [m,.tup (L'.map (cY h)),ar]))):=by
 obtain ⟨a1,a2⟩:=hL.all L[k] (SI hk);obtain ⟨ys,e1,e2,e3,e4⟩:=hs (L[k].2++[th]) (by simp;omega);rw [Rj] at e2;have e2:ys.length<=n + 1:=by simp at e2;omega
 have e3:∀y∈ys,P y:=λy hy=>by
  rcases Rn.mp (e3 y hy) with h | h
  ·exact a2 y h
  ·rw [Q7.mp h];exact ht
 have dp:deps (L[k].2.map h)<=60:=dz λd hd'=>by obtain ⟨x,_,rfl⟩:=QO.mp hd';have:=hd x;omega
 have dt:=hd th;have nx:∃now:List α,now.length<=n + 1/\(∀y∈now,P y)/\Sr now/\∀(Q:O->Prop) (u:G O),Wp (u [w,c,some (.d m),some (.d ms),some (.d ar),some (.d (.int k)),some (.d (h th)),some (.d (.tup (L.map (cY h)))),some (.d (.str L[k].1)),some (.d (.tup (L[k].2.map h))),some (.d (.tup (now.map h)))]) Q->
   Wp (aJ (bS (bH (g2 (lI false) (af 6) (af 9))) (bh 10 (gN cH (ao (bE 1 [6] (dQ (af 9)) (aA 0) (bH (g2 (dM true) (af 0) (af 1))) (af 0)) aE))) dI) u [w,c,some (.d m),some (.d ms),some (.d ar),some (.d (.int k)),some (.d (h th)),some (.d (.tup (L.map (cY h)))),some (.d (.str L[k].1)),some (.d (.tup (L[k].2.map h))),some (.d (.tup (ys.map h)))]) Q:=by
  have hin:bH (g2 (lI false) (af 6) (af 9)) [w,c,some (.d m),some (.d ms),some (.d ar),some (.d (.int k)),some (.d (h th)),some (.d (.tup (L.map (cY h)))),some (.d (.str L[k].1)),some (.d (.tup (L[k].2.map h))),some (.d (.tup (ys.map h)))]=.ok (inD (h th) (L[k].2.map h)):=by show (g2 _ _ _ _ >>= _)=_;rw [two (x:=.d (h th)) rfl rfl (Bc false _ _ dp (by omega))];rfl
  cases q:inD (h th) (L[k].2.map h) with
  | true=>
   rw [q] at hin;refine ⟨L[k].2.filter (λx=>!bg (h x) (h th)),Rr (RL _ _) (by omega),λy hy=>a2 y (RD.mp hy).1,hf _ _ (hS _ (SI hk)),λQ u hu=>?_⟩;refine cB (iE hin (fV (n1 (i_ (xs:=L[k].2) (h:=h) (λx=>!bg (h x) (h th)) h rfl (by omega) λx _=>⟨?_,λ_=>⟨_,rfl,rfl⟩⟩) rfl) rfl hu));have:=hd x;show (g2 _ _ _ _ >>= _)=_;rw [two (x:=.d (h x)) (y:=.d (h th)) rfl rfl (pB _ _ _ (by show dep (h x)<=60;omega) (by show dep (h th)<=60;omega))];rfl
  | false=>
   rw [q] at hin;exact ⟨ys,e2,e3,e4,λQ u hu=>eB hin hu⟩
 obtain ⟨now,n1',n2,nS,n3⟩:=nx;refine ⟨L.take k++[(L[k].1,now)]++L.drop (k + 1),⟨λr hr=>?_⟩,λr hr=>?_,?_,?_,?_⟩
 ·simp only [Rn,Q7] at hr;rcases hr with (hr | hr) | hr
  ·have:=hL.all r (XC hr);exact ⟨by omega,this.2⟩
  ·rw [hr];exact ⟨n1',n2⟩
  ·have:=hL.all r (XD hr);exact ⟨by omega,this.2⟩
 ·simp only [Rn,Q7] at hr;rcases hr with (hr | hr) | hr
  ·exact hS r (XC hr)
  ·rw [hr];exact nS
  ·exact hS r (XD hr)
 ·have e:L=L.take k++[L[k]]++L.drop (k + 1):=by rw [UE,VH,Vl,Uu]
  conv=>rhs;rw [e]
  simp only [Rg,Q6,VG]
 ·simp;omega
 ·have ix:a_ (.d (.tup (L.map (cY h)))) (.d (.int k))=.ok (.d (cY h L[k])):=jG (by rw [Rc,Q4 hk];rfl);have hc1:dB (.d (.tup ((L.map (cY h)).take k))) (.d (.tup [cY h (L[k].1,now)]))=.ok (.d (.tup ((L.map (cY h)).take k++[cY h (L[k].1,now)]))):=tR _ _ (by simp;omega);have hc2:dB (.d (.tup ((L.map (cY h)).take k++[cY h (L[k].1,now)]))) (.d (.tup ((L.map (cY h)).drop (k + 1))))=.ok (.d (.tup ((L.map (cY h)).take k++[cY h (L[k].1,now)]++(L.map (cY h)).drop (k + 1)))):=tR _ _ (by simp;omega);have hm:(L.map (cY h)).take k++[cY h (L[k].1,now)]++(L.map (cY h)).drop (k + 1)=(L.take k++[(L[k].1,now)]++L.drop (k + 1)).map (cY h):=by rw [Rg,Rg,VY,VZ];rfl
  rw [hm] at hc2;refine Wp.eq (tE (two rfl rfl ix) rfl rfl (bF (n1 (n1 (two rfl (br (aG rfl rfl bq) (by show 1<=1000;decide)) (tR _ _ (by simp;omega))) (by rw [show L[k].2.map h++[h th]=(L[k].2++[th]).map h by rw [Rg];rfl];exact e1)) rfl) rfl (n3 _ _ ?_)));refine bF (two (x:=.d (.tup ((L.map (cY h)).take k++[cY h (L[k].1,now)]))) (y:=.d (.tup ((L.map (cY h)).drop (k + 1)))) (two (x:=.d (.tup ((L.map (cY h)).take k))) ?_ (br (aG (br (aG rfl rfl (aG rfl rfl bq)) t2) rfl bq) (by show 1<=1000;decide)) hc1) ?_ hc2) rfl ?_
  ·show M.ok (R.d (.tup (cutD (L.map (cY h)) none (some (k:Int)))))=_;rw [Jy _ _ (by simp;omega)]
  ·show M.ok (R.d (.tup (cutD (L.map (cY h)) (some ((k:Int) + 1)) none)))=_;rw [show ((k:Int) + 1)=((k + 1:Nat):Int) by omega,Ep _ _ (by simp;omega)]
  ·have hb':=hb th;cases b with
   | true=>exact cB (iE (by show M.ok (o9 (j4 (h th)) "tuple")=_;rw [hb']) (bK (br (aG rfl rfl (aG rfl rfl (aG rfl rfl bq))) (by show 3<=1000;decide)) rfl rfl))
   | false=>exact eB (by show M.ok (o9 (j4 (h th)) "tuple")=_;rw [hb']) (bK (br (aG rfl rfl (aG rfl rfl (aG rfl rfl bq))) (by show 3<=1000;decide)) rfl rfl)
structure rR (u:Wd):Prop where
 mp:∀r∈u.ms,r.2.Pairwise (· < ·)
 ap:∀r∈u.ar,r.2.Pairwise qv
structure FZ (n:Nat) (w u:Wd):Prop where
 ok:lC u
 gK:kg n u
 vV:rR u
 m:u.m=w.m
 mn:u.ms.map Sf=w.ms.map Sf
 an:u.ar.map Sf=w.ar.map Sf
theorem A7 {α:Type}{l:List α}{j:Nat}(h:j < l.length):(l[j]::l.eraseIdx j).Perm l:=by
 have e2:l=l.take j++l[j]::l.drop (j + 1):=by rw [Vl,Uu]
 rw [T3];exact WX.symm.trans (Zk e2.symm)
theorem D3 (c:Int) (m:Nat) (hm:m<=8):∃ps:List Nat,gI [.d (.int c),.d (.int m)]=.ok (.d (.tup (ps.map dN)))/\ps.Perm (QS m):=by
 have key:Wp (gI [.d (.int c),.d (.int m)]) λr=>∃ps:List Nat,r=.d (.tup (ps.map dN))/\ps.Perm (QS m):=by
  refine nu (bF (r:=.l .fresh ((QS m).map dN)) ?_ rfl (bF rfl rfl (iJ (oU (n:=m) rfl (by omega)) ?_)))
  ·show (if below 16777216 (m:Int) then M.ok (R.l .fresh (eS 0 (m:Int).toNat)) else .bad)=_;rw [if_pos (by unfold below;simp;omega),SM,Le]
  ·refine nv (λk env=>∃(c:Int) (ls ps:List Nat) (x:Option S),env=[some (.d (.int c)),some (.d (.int m)),some (.own (ls.map dN)),some (.own (ps.map dN)),x]/\ls.length + k=m/\ps.length=k/\(ps++ls).Perm (QS m)) ⟨c,QS m,[],none,rfl,by simp,rfl,.refl _⟩ ?_ ?_
   ·rintro k hk _ ⟨c,ls,ps,x,rfl,l1,l2,m1⟩;have hlen:(0:Int) < ((ls.map dN).length:Nat):=by simp;omega
    obtain ⟨j,hj⟩:∃j:Nat,c % ((ls.map dN).length:Nat)=j:=⟨(c % ((ls.map dN).length:Nat)).toNat,by have:=TZ c (b:=((ls.map dN).length:Nat)) (by omega);omega⟩;have hjl:j < (ls.map dN).length:=by have:=S5 c hlen;omega
    have O_:j < ls.length:=by simpa using hjl
    refine ⟨_,rfl,cB (EK (k:=j) rfl rfl (by decide) ((two rfl (n1 rfl rfl) (gx _ _ hlen)).trans (by rw [hj])) hjl (by simp;omega) (by simp;omega) ?_)⟩;refine fV (two rfl rfl (pR _ 9 (by decide) (by decide))) rfl ⟨_,rfl,c / 9,ls.eraseIdx j,ps++[ls[j]],some (.d (.int k)),?_,?_,?_,?_⟩
    ·rw [Rg,VQ,show (ls.eraseIdx j).map dN=(ls.map dN).eraseIdx j by simp [T3,VY,VZ]];rfl
    ·rw [Xz,if_pos O_];omega
    ·rw [Rj];simp;omega
    ·rw [UE,VH];exact ((A7 O_).append_left ps).trans m1
   ·rintro _ ⟨c,ls,ps,x,rfl,l1,l2,m1⟩;have l0:ls=[]:=Tf.mp (by omega);rw [l0,TU] at m1;exact bK rfl rfl ⟨_,rfl,ps,rfl,m1⟩
 obtain ⟨_,h,ps,rfl,hk⟩:=key;exact ⟨ps,h,hk⟩
theorem getD_at {ps:List Nat}{k:Nat}(h:k < ps.length):ps.getD k 0=ps[k]:=by simp [Xl,h]
theorem sS {α β:Type}{f:α->β}{xs:List α}(nd:xs.Nodup) (inj:∀a∈xs,∀b∈xs,f a=f b->a=b):(xs.map f).Nodup:=by refine R5.mpr ((Tt.mp nd).imp ?_);rintro a b ⟨ha,hb,h⟩ e;exact h (inj a ha b hb e)
theorem LR {xs:List Nat}(h:xs.Pairwise (· < ·)):xs.Nodup:=h.imp λh e=>by omega
theorem Ky {xs:List (Nat×Nat)}(h:xs.Pairwise qv):xs.Nodup:=h.imp fun {a b} h e=>by subst e;unfold qv at h;omega
theorem qV {ps:List Nat}{m:Nat}(pm:ps.Perm (QS m)){a b:Nat}(ha:a < m) (hb:b < m) (e:ps.getD a 0=ps.getD b 0):a=b:=by
 have l:ps.length=m:=by rw [pm.length_eq,SQ]
 rw [getD_at (by omega),getD_at (by omega)] at e;exact (UQ (pm.nodup_iff.mpr To)).mp e
theorem Ng {xs:List Nat}(nd:xs.Nodup):((bG (xs.map dN)).map kO).Pairwise (· < ·):=
 tX dN kO tV _ (λa b h=>(xh a b).mp h) (λd hd=>by obtain ⟨x,_,rfl⟩:=QO.mp (kK hd);exact ⟨x,rfl⟩) (mw (fD .i) (λd hd=>by obtain ⟨x,_,rfl⟩:=QO.mp hd;exact ⟨_,rfl⟩) (sS nd λa _ b _ e=>by have:=congrArg kO e;exact this))
theorem Nh {xs:List (Nat×Nat)}(nd:xs.Nodup):((bG (xs.map dP)).map kP).Pairwise qv:=
 tX dP kP kQ _ (λa b h=>(Gp a b).mp h) (λd hd=>by obtain ⟨x,_,rfl⟩:=QO.mp (kK hd);exact ⟨x,rfl⟩) (mw (fD pF) (λd hd=>by obtain ⟨x,_,rfl⟩:=QO.mp hd;exact oz x) (sS nd λa _ b _ e=>by have:=congrArg kP e;exact this))
theorem Lo (w:Wd) (hw:lC w) (n:Nat) (hb:kg n w) (hs:rR w) (ps:List Nat) (pm:ps.Perm (QS w.m)):lC (j3 w ps)/\kg n (j3 w ps)/\rR (j3 w ps)/\(j3 w ps).m=w.m/\(j3 w ps).ms.map Sf=w.ms.map Sf/\(j3 w ps).ar.map Sf=w.ar.map Sf:=by
 have l:ps.length=w.m:=by rw [pm.length_eq,SQ]
 obtain ⟨h1,h2,h3,h4,h5⟩:=Mz w hw n hb ps l λp hp=>by simpa using pm.mem_iff.mp hp
 refine ⟨h1,h2,⟨λr hr=>?_,λr hr=>?_⟩,h3,?_,?_⟩
 ·obtain ⟨q,hq,rfl⟩:=QO.mp (show r∈w.ms.map _ from hr);exact Ng (sS (LR (hs.mp q hq)) λa ha b hb' e=>qV pm ((hb.mp q hq).2 a ha) ((hb.mp q hq).2 b hb') e)
 ·obtain ⟨q,hq,rfl⟩:=QO.mp (show r∈w.ar.map _ from hr);refine Nh (sS (Ky (hs.ap q hq)) λa ha b hb' e=>?_);have ra:=(hb.ap q hq).2 a ha;have rb:=(hb.ap q hq).2 b hb';exact abm (qV pm ra.1 rb.1 (congrArg Sf e)) (qV pm ra.2 rb.2 (congrArg abq e))
 ·show (w.ms.map _).map _=_;rw [Rt];rfl
 ·show (w.ar.map _).map _=_;rw [Rt];rfl
theorem rq (w:Wd) (hw:lC w) (n:Nat) (hn:n<=40) (hb:kg n w) (hs:rR w) (c:Int) (hc:0<=c):∃u:Wd,dY [.d w.d,.d (.int c)]=.ok (.d u.d)/\FZ (n + 1) w u:=by
 have ml:=hw.ml;have al:=hw.al;have lo:=hw.lo;have key:Wp (dY [.d w.d,.d (.int c)]) λr=>∃u:Wd,r=.d u.d/\FZ (n + 1) w u:=by
  refine nu (tE rfl rfl rfl ?_);have hadd:dB (.d (.int ((w.ms.map iI).length:Nat))) (.d (.int ((w.ar.map jX).length:Nat)))=.ok (.d (.int ((w.ms.length + w.ar.length:Nat):Int))):=by rw [fp,QN,QN,<-Int.natCast_add]
  by_cases c0:w.ms.length + w.ar.length=0
  ·refine cB (iE ?_ (bK rfl rfl ⟨_,rfl,w,rfl,hw,⟨λr hr=>⟨by have:=(hb.mp r hr).1;omega,(hb.mp r hr).2⟩,λr hr=>⟨by have:=(hb.ap r hr).1;omega,(hb.ap r hr).2⟩⟩,hs,rfl,rfl,rfl⟩));show (g2 _ _ _ _ >>= _)=_;rw [two (two (n1 rfl rfl) (n1 rfl rfl) hadd) rfl (eq_int _ _ _),c0];rfl
  ·have hs':(0:Int) < ((w.ms.length + w.ar.length:Nat):Int):=by omega
   have hm:(0:Int) < (w.m:Int):=by omega
   refine eB ?_ (bF (two rfl (two (n1 rfl rfl) (n1 rfl rfl) hadd) (gx _ _ hs')) rfl (bF (two (two rfl rfl (pR _ 6 (by decide) (by decide))) rfl (gx _ _ hm)) rfl (bF rfl rfl ?_)))
   ·show (g2 _ _ _ _ >>= _)=_;rw [two (two (n1 rfl rfl) (n1 rfl rfl) hadd) rfl (eq_int _ _ _)];show M.ok ((((w.ms.length + w.ar.length:Nat):Int)) == 0)=_;rw [beq_eq_false_iff_ne.mpr (by omega)]
   obtain ⟨k,hk⟩:=sV (TZ c (b:=((w.ms.length + w.ar.length:Nat):Int)) (by omega));have Qe:=S5 c hs';obtain ⟨p,hp⟩:=sV (TZ (c / 6) (b:=(w.m:Int)) (by omega));have hpl:=S5 (c / 6) hm;obtain ⟨q,hq⟩:=sV (TZ (c / 48) (b:=(w.m:Int)) (by omega));have Qk:=S5 (c / 48) hm;rw [hk] at Qe;rw [hp] at hpl;rw [hq] at Qk;rw [hk,hp];by_cases ck:k < w.ms.length
   ·obtain ⟨L',o1,oS,oN,o2,o3⟩:=sy dN (λp=>p < w.m) (λxs=>xs.Pairwise (· < ·)) (λxs p h=>h.filter p) n hn (λ_=>Rm _) false (λ_=>rfl) Ni w.ms ⟨hb.mp⟩ hs.mp ml k ck p (by show p < w.m;omega) (some (.d w.d)) (some (.d (.int c))) (.int w.m) (.tup (w.ms.map iI)) (.tup (w.ar.map jX));refine eB ?_ (Wp.of o3 ⟨_,rfl,⟨w.m,L',w.ar⟩,rfl,⟨lo,hw.hi,by show L'.length<=3;omega,al⟩,⟨o1.all,λr hr=>⟨by have:=(hb.ap r hr).1;omega,(hb.ap r hr).2⟩⟩,⟨oS,hs.ap⟩,rfl,oN,rfl⟩);show M.ok (decide ((((w.ms.map iI).length:Nat):Int)<=(k:Int)))=_;rw [decide_eq_false (by simp;omega)]
   ·obtain ⟨L',o1,oS,oN,o2,o3⟩:=sy dP (λp=>p.1 < w.m/\p.2 < w.m) (λxs=>xs.Pairwise qv) (λxs p h=>h.filter p) n hn (λ_=>(by decide:(1:Nat)<=1)) true (λ_=>rfl) Nj w.ar ⟨hb.ap⟩ hs.ap al (k - w.ms.length) (by omega) (p,q) (by show p < w.m/\q < w.m;omega) (some (.d w.d)) (some (.d (.int c))) (.int w.m) (.tup (w.ms.map iI)) (.tup (w.ar.map jX));refine cB (iE ?_ (bF (x:=.d (.int ((k - w.ms.length:Nat):Int))) (two rfl (n1 rfl rfl) rfl) ?_ (bF (x:=.d (dP (p,q))) (br (aG rfl rfl (aG (two (two rfl rfl (pR _ 48 (by decide) (by decide))) rfl (gx _ _ hm)) rfl bq)) t2) ?_ (fV rfl rfl (Wp.of o3 ⟨_,rfl,⟨w.m,w.ms,L'⟩,rfl,⟨lo,hw.hi,ml,by show L'.length<=3;omega⟩,⟨λr hr=>⟨by have:=(hb.mp r hr).1;omega,(hb.mp r hr).2⟩,o1.all⟩,⟨hs.mp,oS⟩,rfl,rfl,oN⟩)))))
    ·show M.ok (decide ((((w.ms.map iI).length:Nat):Int)<=(k:Int)))=_;rw [decide_eq_true (by simp;omega)]
    ·show M.ok (S.d (.int ((k:Int) - (((w.ms.map iI).length:Nat):Int))))=_;rw [QN,show (k:Int) - (w.ms.length:Int)=((k - w.ms.length:Nat):Int) by omega]
    ·show M.ok (S.d (.tup [.int p,.int (c / 48 % w.m)]))=_;rw [hq]
 obtain ⟨_,h,u,rfl,hu⟩:=key;exact ⟨u,h,hu⟩
theorem I0 (ns:List Int) (sz:List Nat) (hz:sz.length=8) (hs:∀n∈sz,1<=n/\n<=4):∃v w:Wd,jc [.bor (ns.map D.int),.bor (sz.map dN)]=.ok (.d (.tup [v.d,w.d]))/\Pr v w/\kg 30 v/\kg 30 w/\rR v/\rR w:=by
 have c0:=K51.jM ns 0;have c1':=K51.jM ns 1;have c2':=K51.jM ns 2;have c9:=K51.jM ns 9;have c10:=K51.jM ns 10;have key:Wp (jc [.bor (ns.map D.int),.bor (sz.map dN)]) λr=>∃v w:Wd,r=.d (.tup [v.d,w.d])/\Pr v w/\kg 30 v/\kg 30 w/\rR v/\rR w:=by
  refine nu (bF (c2 rfl rfl (K51.BX ns 0)) rfl (bF (c2 rfl rfl (gf ns _ 1 rfl)) rfl ?_));obtain ⟨a,ha,ea⟩:=lR (xs:=[1,0,2,3]) (h:=dN) (.l .fresh ([1,0,2,3].map dN)) rfl (K51.cV ns 1 % 4) (by omega) (by show _ < (4:Int);omega);obtain ⟨b,hb,eb⟩:=lR (xs:=[1,2,0,1,3]) (h:=dN) (.l .fresh ([1,2,0,1,3].map dN)) rfl (K51.cV ns 1 / 4 % 5) (by omega) (by show _ < (5:Int);omega);have ha:a<=3:=by simp at ha;omega
  have hb:b<=3:=by simp at hb;omega
  obtain ⟨A,hA,lA⟩:=K51.zF (K51.cV ns 1 / 20) (by omega) a ha;obtain ⟨B,hB,lB⟩:=K51.zF (K51.cV ns 2) (by omega) b hb;refine bF (c2 rfl (two (oG rfl (by show 4<=1000;decide)) rfl ea) hA) rfl ?_;refine cB (BR rfl (fV (br (aG rfl rfl (aG (c2 (c2 rfl rfl (gf ns _ 2 rfl)) (two (oG rfl (by show 5<=1000;decide)) rfl eb) hB) rfl bq)) (by show 2<=1000;decide)) rfl ?_));have mk:∀(m:Nat),1<=m/\m<=4->∀(j:Nat),∃w:Wd,K51.eH [.d (.tup [.lst (A.map .str),.lst (B.map .str)]),.d (.int m),.bor ((QS 6).map λk=>.int (K51.cV ns (j + k)))]=.ok (.d w.d)/\lC w/\kg 16 w/\rR w/\w.m=m/\w.ms.map Sf=A/\w.ar.map Sf=B:=λm hm j=>by obtain ⟨ms,rs,hw,h1,h2,h3,h4⟩:=K51.Ja m hm.1 (by omega) A B (by omega) (by omega) ((QS 6).map λk=>K51.cV ns (j + k)) rfl;rw [Rt] at hw;have l1:=congrArg Vo h1;have l2:=congrArg Vo h2;rw [QN] at l1 l2;exact ⟨⟨m,ms,rs⟩,hw,⟨hm.1,by show m<=8;omega,by show ms.length<=3;omega,by show rs.length<=3;omega⟩,⟨λr hr=>⟨by have:=(h3 r hr).1;omega,(h3 r hr).2.2⟩,λr hr=>⟨K55.pL (h4 r hr) hm.2,(h4 r hr).2.2⟩⟩,⟨λr hr=>(h3 r hr).2.1,λr hr=>(h4 r hr).2.1⟩,rfl,h1,h2⟩
  obtain ⟨m,hm,em⟩:=lR (xs:=sz) (h:=dN) (.l .bor (sz.map dN)) rfl (K51.cV ns 0 % 8) (by omega) (by omega);obtain ⟨v,hv,vo,vb,vs,vm,vl,va⟩:=mk m (hs m hm) 3;refine bF (c3 rfl (two rfl rfl em) (iU (xs:=QS 6) (h:=dN) (λk=>.int (K51.cV ns (3 + k))) (fS rfl (by decide)) (by decide) λk hk=>⟨_,c2 rfl (two rfl rfl (za _ _)) (gf ns _ (3 + k) (by simp)),rfl⟩) hv) rfl ?_;refine bF (two (two rfl rfl (pR _ 8 (by decide) (by decide))) rfl (gx _ 4 (by decide))) rfl ?_;have up:∀{n:Nat}{w:Wd},n<=30->kg n w->NH w:=λhn h=>⟨λr hr=>⟨by have:=(h.mp r hr).1;omega,(h.mp r hr).2⟩,λr hr=>⟨by have:=(h.ap r hr).1;omega,(h.ap r hr).2⟩⟩;have vm4:=(hs m hm).2;have Qq:=TZ (K51.cV ns 0 / 8) (b:=4) (by decide);have Qs:=S5 (K51.cV ns 0 / 8) (b:=4) (by decide);generalize K51.cV ns 0 / 8 % 4=wy at Qq Qs;by_cases cw:wy=0
  ·subst cw;obtain ⟨m2,hm2,em2⟩:=lR (xs:=sz) (h:=dN) (.l .bor (sz.map dN)) rfl (K51.cV ns 0 / 32 % 8) (by omega) (by omega);obtain ⟨w,hw,wo,wb,ws,wm,wl,wa⟩:=mk m2 (hs m2 hm2) 9;have:=(hs m2 hm2).2;exact cB (iE rfl (bK (br (aG rfl rfl (aG (c3 rfl (two rfl (two (two rfl rfl (pR _ 32 (by decide) (by decide))) rfl (gx _ 8 (by decide))) em2) (iU (xs:=QS 6) (h:=dN) (λk=>.int (K51.cV ns (9 + k))) (fS rfl (by decide)) (by decide) λk hk=>⟨_,c2 rfl (two rfl rfl (za _ _)) (gf ns _ (9 + k) (by simp)),rfl⟩) hw) rfl bq)) t2) rfl ⟨_,rfl,v,w,rfl,⟨vo,wo,by omega,by omega,by rw [vl,wl],by rw [va,wa]⟩,up (by decide) vb,up (by decide) wb,vs,ws⟩))
  ·refine eB ?_ ?_
   ·show M.ok (wy == 0)=_;rw [beq_eq_false_iff_ne.mpr cw]
   obtain ⟨ps,hps,pm⟩:=D3 (K51.cV ns 15) v.m vo.hi;have lps:ps.length=v.m:=by rw [pm.length_eq,SQ]
   have ht:=D5 v vo 16 (by decide) vb ps lps;obtain ⟨to,tb,ts,tm,tl,ta⟩:=Lo v vo 16 vb vs ps pm;refine bF (c2 rfl (c2 (c2 rfl rfl (gf ns _ 15 rfl)) (two rfl rfl (g8 _ _)) hps) ht) rfl ?_;obtain ⟨u1,f1,k1⟩:=rq (j3 v ps) to 16 (by decide) tb ts (K51.cV ns 9) c9;obtain ⟨u2,f2,k2⟩:=rq u1 k1.ok 17 (by decide) k1.gK k1.vV (K51.cV ns 10) c10;have a1:=k1.m;have a2:=k1.mn;have a3:=k1.an;have b1:=k2.m;have b2:=k2.mn;have b3:=k2.an;have w3:wy=1\/wy=2\/wy=3:=by omega
   rcases w3 with rfl | rfl | rfl
   ·exact eB rfl (eB rfl (bK (br (aG rfl rfl (aG rfl rfl bq)) t2) rfl ⟨_,rfl,v,j3 v ps,rfl,⟨vo,to,by omega,by omega,tl.symm,ta.symm⟩,up (by decide) vb,up (by decide) tb,vs,ts⟩))
   ·exact cB (iE rfl (fV (c2 rfl (c2 rfl rfl (gf ns _ 9 rfl)) f1) rfl (eB rfl (bK (br (aG rfl rfl (aG rfl rfl bq)) t2) rfl ⟨_,rfl,v,u1,rfl,⟨vo,k1.ok,by omega,by omega,by rw [a2,tl],by rw [a3,ta]⟩,up (by decide) vb,up (by decide) k1.gK,vs,k1.vV⟩))))
   ·exact cB (iE rfl (fV (c2 rfl (c2 rfl rfl (gf ns _ 9 rfl)) f1) rfl (cB (iE rfl (fV (c2 rfl (c2 rfl rfl (gf ns _ 10 rfl)) f2) rfl (bK (br (aG rfl rfl (aG rfl rfl bq)) t2) rfl ⟨_,rfl,v,u2,rfl,⟨vo,k2.ok,by omega,by omega,by rw [b2,a2,tl],by rw [b3,a3,ta]⟩,up (by decide) vb,up (by decide) k2.gK,vs,k2.vV⟩))))))
 obtain ⟨_,h,v,w,rfl,hk⟩:=key;exact ⟨v,w,h,hk⟩
end K23
namespace DL
open PySem PySem.Spec PyProof.Rows L2 DX
section
variable {X:Cx}{c:C}{e ke a b:RA}{g gk ga gb:G R}{pos:Pos}
def Gf (i:Nat):G O:=λenv=>.ok (.nx (env.set i (some (.dk [] []))))
theorem E_:PE X (.Dict [] [] pos) (λσ H Q=>∀p,H p=none->(p == TN)=false->Q (.ref p) (upd H p (jd p 0 []))):=λQx s σ H Q I w=>
 wpAny_Dict_empty ⟨.ref s.heap.objs.size,_,I.laid (a:=s.heap.objs.size) (o:=jd s.heap.objs.size 0 []) (t':=s.toks) (λ_ _ q=>QU _ q) (QW _) ⟨⟨_,#[],Q2 _ rfl,⟨rfl,rfl,rfl⟩,rfl,.nil⟩,⟨_,Q2 _ rfl⟩,λh1 h2 ⟨o,es,a1,a2⟩ e=>⟨o,es,e o a1,a2⟩⟩,rfl,w _ (I.hok.fresh (QW _)) (beq_eq_false_iff_ne.mpr (SK (Rl (Ce I))))⟩
noncomputable def Mc (K:QJ):AV:=λo i v H Q=>∃J p ks vs kxs d,aL J H/\o=.ref p/\dG K J H p ks vs/\dD (.tup kxs)=true/\Rep K J (.tup kxs) i/\Rep K J d v/\ks.length<=sizeLine/\∀o,dG K J (upd H p o) p (dput (ks,vs) (.tup kxs) d).1 (dput (ks,vs) (.tup kxs) d).2->Q (upd H p o)
theorem set_dict (hu:X.A.units + 64 < Sw):Jg X (Mc X.K):=by
 intro Qx s σ H o i v ov iv u Q I ro ri rv h;obtain ⟨J,p,ks,vs,kxs,d,sm,rfl,hd,ok,rk,rd,hl,q⟩:=h;obtain ⟨_,_,k1,k2⟩:=iG ok;obtain ⟨r,rfl⟩:∃r,i=.ref r:=by cases rk;exact ⟨_,rfl⟩
 cases ro;cases ri;obtain ⟨xs,hm,lx,put⟩:=Ar I sm hd;refine wpAny_setItem_heap (knd:=mR X.prog X.w) (k:=⟨.tup kxs,k1,k2⟩) (show X.A.units + 1 + 16 < Sw by omega) (jH (HF.of (c:=⟨X.K,H,H,λ_=>True⟩) I sm) k1 rk) hm (λh' hm' sb=>?_) (by rw [lx];exact hl);obtain ⟨o,W,hd,_⟩:=put k1 k2 rk rd rv h' _ hm' sb;exact ⟨_,W,q o hd⟩
noncomputable def qR (i:Nat) (gk g:G R):G O:=λenv=>match env[i]? with
 | some (some (.dk ks vs))=>g env >>= λr=>toD r >>= λd=>gk env >>= λr2=>toD r2 >>= λk=>if dD k=true/\ks.length<=1000000 then .ok (.nx (env.set i (some (.dk (dput (ks,vs) k d).1 (dput (ks,vs) k d).2)))) else .bad
 | _=>.bad
theorem CB {prog:Ra}{w:Rz}{K:Type} [DecidableEq K] {knd:HeapKind prog w K}{A:RC}{E:QL->QM->Prop}{s:QM}{d a:Rb}{k:K}{xs:List (K×Rb×QL)}{Q:Bool->QM->Prop}(hu:knd.room A.in1) (hkey:knd.is s.heap k a) (hd:(d == TN)=false)
  (hm:s.heap.DictOfH knd d xs) (h:Q (aao xs k).isSome {s with toks:=s.toks + knd.draws k}):Q_ (Rf prog w) A (contains (.ref d) (.ref a)) Q E s:=by
 refine wpAny_contains_slot hm.typeIs Yn (RO Yn hm.typeIs entry_dict_contains ?_ (args_dict_contains _ _));show Q_ _ _ (dictGet d (.ref a) >>= λ_=>_) _ _ s;refine QI (wpAny_dictGet_heap hu hkey hm ?_);cases q:aao xs k with
 | some p=>rw [q] at h;exact QK ⟨_,rfl,R3 h⟩
 | none=>rw [q] at h;exact QI (wpAny_pendingKey_other hd (QK ⟨_,rfl,R3 h⟩))
noncomputable def Fl (K:QJ) (neg:Bool):R2:=λx y H Q=>∃J p ks vs k,aL J H/\y=.ref p/\dG K J H p ks vs/\Rep K J k x/\dD k=true/\Q (.bl (if neg then !(gA ks vs k).isSome else (gA ks vs k).isSome)) H
theorem Em (hu:X.A.units + 64 < Sw){Qx:List (Rb×Obj)}{s:QM}{σ:L2.St}{H:Hp}{x y:V}{v u:QL}{Q:VK}{neg:Bool}(I:Inv X Qx σ H s) (rx:RelV x v) (ry:RelV y u) (h:Fl X.K neg x y H Q):Q_ (Rf X.prog X.w) X.A (contains u v) (λr s'=>EP X Qx σ Q (.bool (if neg then !r else r)) s') X.xe s:=by
 obtain ⟨J,p,ks,vs,k,sm,rfl,hd,hk,ok,q⟩:=h;have F:HF X.K J s:=HF.of (c:=⟨X.K,H,H,λ_=>True⟩) I sm;obtain ⟨kx,rfl,k1,k2⟩:=iG ok;obtain ⟨r,rfl⟩:∃r,x=.ref r:=by cases hk;exact ⟨_,rfl⟩
 cases rx;cases ry;obtain ⟨xs,us,ws,hm,e2,_,hv,e4,_,hsm⟩:=qK (P:=X.prog) (w:=X.w) F (g7 I) hd;have e:(aao xs ⟨.tup kx,k1,k2⟩).isSome=(gA ks vs (.tup kx)).isSome:=by
  obtain ⟨l1,l2⟩:=wU (K:=X.K) (J:=J) ⟨.tup kx,k1,k2⟩ e2 hv e4;cases z:gA ks vs (.tup kx) with
  | some d=>obtain ⟨p,_,e,_⟩:=l1 d z;rw [e];rfl
  | none=>rw [l2 z];rfl
 exact CB (k:=⟨.tup kx,k1,k2⟩) (show X.A.units + 1 + 16 < Sw by omega) (jH F k1 hk) hsm hm ⟨.bl _,H,I.tok _,by rw [e];rfl,q⟩
theorem Dp (hu:X.A.units + 64 < Sw):c5 X (Sx .In) (Fl X.K false):=λQx s σ H x y v u Q I rx ry h=>QI (RE (Em hu I rx ry h) (λ_ _ h=>QK h) λ_ _ f=>f)
noncomputable def jn (neg:Bool) (x y:R):M R:=match uX y,x with
 | some z,.d k=>if dD k=true then .ok (.d (.bl (if neg then !(gA z.1 z.2 k).isSome else (gA z.1 z.2 k).isSome))) else .bad
 | _,_=>.bad
theorem Cd (neg:Bool) (hK:X.K=c.K):BD c (Fl X.K neg) (jn neg):=by
 intro He He' J H x y u v Q hp rx ry w;unfold jn at w;split at w
 ·rename_i hz;obtain ⟨p,rfl,hd⟩:=ry.dk hp hz;split at w
  ·rename_i ok;exact ⟨J,p,_,_,_,hp.sub,rfl,by rw [hK];exact hd,by rw [hK];exact rx,ok,w _ J H (Ext.refl hp.sub) (.bl _)⟩
  ·exact w.elim
 ·exact w.elim
theorem DF (i:Nat){x:Str}{pos' p0:Pos}(hN:X.N.Nodup) (hi:X.N[i]?=some x:=by rfl) (hx:Loc X.env.scope x:=by first | exact UZ rfl | exact Tq rfl) (hs:U4 (.Dict [] [] p0) (some (.Name x pos')) pos.line X.env=pure false:=by rfl)
  (hf:X.fn x=true\/X.env.scope.names.lookup x=some .local:=by first | exact .inl rfl | exact .inr rfl):gY X c (.Assign [.Name x pos'] (.Dict [] [] p0) pos) (Gf i):=⟨fB (DB hN hi hx E_ hs hf) λE σ H ⟨J,env,sr,w⟩ p hp hq=>
 w _ J _ (aL.refl J) (sr.setM (y:=.inr ([],[])) (Ext.new sr.hp.sub hp _) hp ⟨p,rfl,⟨[],[],0,bB,.nil,.nil,⟨rfl,Tg,Rm _,λ_ h=>(nomatch h)⟩,hq,rfl⟩,sr.hp.sub.free hp,sr.hp.ent.free hp⟩)⟩
theorem yM (i:Nat){x:Str}{p1 p2:Pos}(hu:X.A.units + 64 < Sw) (h:QD X c e g) (hk:QD X c ke gk) (hN:X.N[i]?=some x:=by rfl) (hv:nW X.env.scope x:=by first | exact UZ rfl | exact Tq (UZ rfl) | exact Tq (Tq rfl)) (hd:(x == ("__debug__":Str))=false:=by decide)
  (hcd:(x == ("__classdict__":Str))=false:=by decide)
  (ha:∀v,assign (.Subscript (.Name x p1) ke p2) X.env v=(do
   let ov <-holding [v] (eval (.Name x p1) X.env)
   let iv <-holding [v,ov] (eval ke X.env)
   Uo p2
   (holding [v,ov,iv] (setItem ov iv v))
   release [v,ov,iv] []):=by intro _;rfl)
  (hs:WI [.Subscript (.Name x p1) ke p2] e pos.line X.env=pure false:=by rfl) (hw:X0 [.Subscript (.Name x p1) ke p2] e X.env=pure none:=by rfl)
  (h1:(TQ [.Subscript (.Name x p1) ke p2] X.env).map (·.2)=[assign (.Subscript (.Name x p1) ke p2) X.env]:=by rfl) (hK:X.K=c.K:=by rfl):
  gY X c (.Assign [.Subscript (.Name x p1) ke p2] e pos) (qR i gk g):=have h:=h.h;have hk:=hk.h;⟨
 fB (DA h (KN (jj hN hv hd hcd) hk (set_dict hu) ha) hs hw h1) λE σ H ⟨J,env,sr,w⟩=>by
  unfold qR at w;split at w
  ·rename_i ks vs hi;obtain ⟨v,q1,p,rfl,h2,h3,h4⟩:=sr.at_ i _ hi;refine ⟨J,env,sr,aC (aH w) λr wr y J1 H1 e1 r1=>?_⟩;obtain ⟨d,q,wr⟩:=gy wr;obtain ⟨J2,e2,s2,rd⟩:=freeze e1 r1 q;refine ⟨.ref p,q1,?_⟩;refine ⟨J2,env,sr.ext e2,aC (aH wr) λrk wk vk J3 H3 e3 r3=>?_⟩;obtain ⟨k,qk,wk⟩:=gy wk;obtain ⟨J4,e4,s4,rk⟩:=freeze e3 r3 qk;have e5:=e2.trans e4;split at wk
   ·rename_i ok;obtain ⟨kxs,rfl,_⟩:=iG ok.1;have h2':=h2.mono e5.j e5.h;have h3':=e5.frz p h2.ne h3;refine ⟨J4,p,ks,vs,kxs,d,e5.sub,rfl,by rw [hK];exact h2',ok.1,by rw [hK];exact rk,by rw [hK];exact rd.mono e4.j,Rr ok.2 (by decide),λo ho=>?_⟩;rw [hK] at ho;exact wk σ J4 _ e5.j ((sr.ext e5).updM (x:=.inr (ks,vs)) (y:=.inr (dput (ks,vs) (.tup kxs) d)) hi q1 h3' h4 ⟨p,rfl,ho,h3',h4⟩)
   ·exact wk.elim
  ·exact w.elim⟩
theorem uH (hu:X.A.units + 64 < Sw) (ha:QD X c a ga) (hb:QD X c b gb) (hK:X.K=c.K:=by rfl) (hm:Sd .In b=false:=by rfl):QD X c (.Compare a [.In] [b] pos) (g2 (jn false) ga gb):=⟨oJ (Dp hu) (Cd false hK) ha.h hb.h hm⟩
theorem Iq (hu:X.A.units + 64 < Sw) (ha:QD X c a ga) (hb:QD X c b gb) (hK:X.K=c.K:=by rfl) (hm:Sd .In b=false:=by rfl):QB X c (.Compare a [.In] [b] pos) (bH (g2 (jn false) ga gb)):=⟨jS (Dp hu) (Cd false hK) ha.h hb.h hm⟩
end
end DL
namespace K22
open PySem DL
end K22
namespace K22
open PySem DL K01 WP K51 K52 K55 K23
theorem fH (ps:List (Nat×Nat)):dD (aO ps)=true:=by
 have h1:∀qs:List (Nat×Nat),areKeys (qs.map dP)=true:=λqs=>by
  induction qs with
  | nil=>rfl
  | cons q qs ih=>rw [Q6];unfold areKeys;rw [ih];rfl
 have h2:deps (ps.map dP)<=1:=dz λx hx=>by obtain ⟨q,_,rfl⟩:=QO.mp hx;exact QW _
 show (areKeys (ps.map dP) && decide (deps (ps.map dP) + 1<=8))=true;rw [h1,decide_eq_true (by omega)];rfl
section
variable {env:Ev}{g gk:G R}{r r2:R}{u:G O}{Q:O->Prop}{i:Nat}
theorem Gm {ks vs:List D}(h0:env[i]?=some (some (.dk ks vs))) (h:g env=.ok r) (h2:toD r=.ok d) (h3:gk env=.ok r2) (h4:toD r2=.ok k) (ok:dD k=true) (hl:ks.length<=1000000) (q:Q (.nx (env.set i (some (.dk (dput (ks,vs) k d).1 (dput (ks,vs) k d).2))))):Wp (qR i gk g env) Q:=by refine ⟨_,?_,q⟩;unfold qR;rw [h0];simp only;rw [h,aK,h2,aK,h3,aK,h4,aK,if_pos ⟨ok,hl⟩]
theorem HW {a b:G R}(h:a env=.ok (.d (.bl true))):qQ a b env=.ok (.d (.bl true)):=by unfold qQ;rw [h];rfl
theorem Ku {a b:G R}(h:a env=.ok (.d (.bl false))) (h2:b env=.ok r):qQ a b env=.ok r:=by unfold qQ;rw [h];exact h2
theorem Dr {a b:G Bool}(h1:a env=.ok false) (h2:b env=.ok k):lO a b env=.ok k:=by unfold lO;rw [h1];exact h2
end
end K22
namespace DL
open PySem PySem.Spec PyProof.Rows L2 DX
section
variable {X:Cx}{c:C}
noncomputable def iW (n:Nat) (cap:List Nat) (gi:G (List D)) (gt:GT) (gts:G Bool) (gk gv:G R):G R:=f7 1000000 n cap gi gt gts (qG gk gv) (λys=>.ok (.mf (gZ ys).1 (gZ ys).2))
theorem MA (kx vx t0 i0:RA) (f0:List RA) (Qw:Um) (pos:Pos) (it:QL) (p:Rb) (env:Env):
  VC (.DictComp kx vx [⟨t0,i0,f0,0⟩] Qw pos) 0 it (.ref p) env=kN t0 i0 f0 it env (By kx vx p env) (again (.compLoop (.DictComp kx vx [⟨t0,i0,f0,0⟩] Qw pos) 0 it (.ref p) env)):=by rfl
theorem Eo (hu:X.A.units + 64 < Sw) (own:List Str) (cap:List Nat){kx vx t0 i0:RA}{f0:List RA}{Qw:Um}{pos:Pos}{gi0:G (List D)}{gt0:GT}{gts0:G Bool}{gk gv:G R}(hi:uV X c t0 i0 gi0)
  (hbody:∀(cl:List (Str×Rb)) (C:Rb) (s:QM) (H:Hp) (fp:List Rb),cZ X.env.cells Qw.names []=some cl->nC (cF X own cap Qw cl C s H fp) c t0 gt0/\mD (cF X own cap Qw cl C s H fp) c f0 gts0/\QD (cF X own cap Qw cl C s H fp) c kx gk/\QD (cF X own cap Qw cl C s H fp) c vx gv) (a:xr X Qw cap i0:=by exact n8 rfl) (hK:X.K=c.K:=by rfl):
  mC X c (.DictComp kx vx [⟨t0,i0,f0,0⟩] Qw pos) (iW own.length cap gi0 gt0 gts0 gk gv):=by
 refine ⟨_,?_,rfl,λ_=>rfl⟩;refine jN (e:=.DictComp kx vx [⟨t0,i0,f0,0⟩] Qw pos) (ob:={cls:=.type "dict",data:=.dict #[]}) (o0:=λa=>jd a 0 []) (Acc:=λp _=>AW c p) (N:=1) (lim:=1000000) (m:=λp env=>By kx vx p env) own cap rfl hi.h
  (λs Q E q=>Rx q) (λh H=>⟨⟨_,#[],Q2 _ rfl,⟨rfl,rfl,rfl⟩,rfl,.nil⟩,⟨_,Q2 _ rfl⟩,λh1 h2 ⟨o,es,a1,a2⟩ e=>⟨o,es,e o a1,a2⟩⟩) (λp _=>qE) (λp _ J H hsm h1 h2=>⟨⟨[],[],0,h1,.nil,.nil,⟨rfl,Tg,Rm _,λ_ h=>(nomatch h)⟩,beq_eq_false_iff_ne.mpr (SK (Rl hsm)),rfl⟩,h2,QW _⟩) (by decide) (λit p env=>Bq (MA ..)) (λit acc env R s h0 h=>W6 h0 h) (λys z q=>by cases q)
  (fun {p H2 J H J' H' ys r} hp _ e ⟨h1,h2,h8⟩ q=>by cases q;exact ⟨J',e,⟨p,rfl,h1,h2,hp⟩⟩) (λcl C s H fp hcc=>?_) a
 obtain ⟨b1,b2,b3,b4⟩:=hbody cl C s H fp hcc;exact ⟨b1.h,b2.h,λp J2 H2 hp2 hp0=>zR hu hK (λ_ _ f=>f) hp2 hp0 b3.h b4.h⟩
end
end DL
namespace DL
open PySem PySem.Spec PyProof.Rows L2 DX
open Sem (wp)
section
variable {prog:Ra}{w:Rz}{A:RC}{E:QL->QM->Prop}{s:QM}{d it:Rb}{o:Obj}{es:Array Xc}{ep i:Nat}
theorem EE {Q:QL->QM->Prop}(hd:(d == TN)=false) (ho:s.heap.get? d=some o) (hc:o.ExactDict) (hdat:o.data=.dict es ep)
  (hQ:Q (.ref s.heap.objs.size) {s with heap:=s.heap.push {cls:=.type "dict_keyiterator",data:=.fields #[.ref d,.int 0 0,.int es.size 0,.int ep 0]}}):Q_ (Rf prog w) A (Wv (.ref d)) Q E s:=by have hT:s.TypeIs (.ref d) "dict":=⟨o,ho,hc.1⟩;refine WD hT YX (RO YX hT F.entry_dict_iter ?_ (F.args_dict_iter_1 _));unfold VL.«dict.__iter__»;refine QI ?_;unfold ZO;refine QI (wpAny_notOrdered_dict hT (QK ?_));show Q_ _ _ (Bind.bind (Xo d) _) _ _ s;unfold Xo;rw [if_neg (by rw [hd];decide)];refine QI (QK (QI (WG ho hdat (QI (Xp ho hdat ?_)))));exact QI (Rx (QK ⟨_,rfl,"dict_keyiterator",_,⟨_,Q2 _ rfl,rfl⟩,Sv.lookup,by simpa [ZU] using hQ⟩))
theorem EW {Q:Option QL->QM->Prop}(hit:s.heap.IsKeyIter it d i es.size ep) (hod:s.heap.get? d=some o) (OP:o.data=.dict es ep) (hi:i < es.size)
  (hQ:∀h',h'.IsKeyIter it d (i + 1) es.size ep->SE it s.heap h'->Q (some es[i].key) {s with heap:=h'}):Q_ (Rf prog w) A (Vg (.ref it)) Q E s:=by
 obtain ⟨oi,ho,hc,hd⟩:=id hit;unfold Vg;refine QI (U_ (Sy (name:=VE "__next__") hit.typeIs Sv (RO Sv hit.typeIs VV ?_ (VJ _))));refine QI (QK (QI (QI ?_)));refine QI (S7 hit.typeIs (QK (QI (Wo ho hd ?_))));have hown:V0 "dict_keyiterator"=false:=by decide
 simp only [hown,Q8,if_false];show Q_ _ _ (ite ((U3 d == RU)=true) _ _) _ _ s;rw [if_neg (show ¬((U3 d == RU)=true) from Ru)];refine QI (QK (QI (WG hod OP ?_)));rw [if_neg (by simp)];refine QI (QK (QI (Xp hod OP ?_)));rw [if_neg (by simp)];refine QK ?_;simp only [show ¬((i:Int) < 0) from by omega,if_false,SM,TH hi];refine QI (QI (S7 hit.typeIs (QK ?_)));refine QI (Xq hit.typeIs ?_);refine QI (m:=setField (.ref it) 1 (ZU ((i:Int) + 1))) (ZP ho hd (by simp) ?_);have O9:(s.heap.update it (aaq (·.setIfInBounds 1 (ZU ((i:Int) + 1))))).IsKeyIter it d (i + 1) es.size ep:=⟨_,Sa _ ho (Obj.isFreed_of_fields (Yo hd _)),(Obj.cls_mapFields ..).trans hc,by rw [Yo hd];simp [ZU]⟩;refine QI (Rw (QI (Xq (s:={s with heap:=s.heap.update it (aaq (·.setIfInBounds 1 (ZU ((i:Int) + 1))))}) O9.typeIs ?_)));exact QK (QK ⟨_,rfl,QK (hQ _ O9 (So ..))⟩)
theorem Hf {Q:Option QL->QM->Prop}(hh:A.handled=none) (hit:s.heap.IsKeyIter it d i es.size ep) (hod:s.heap.get? d=some o) (OP:o.data=.dict es ep) (hi:es.size<=i)
  (hQ:∀h',aaW it s.heap h'->Q none {s with heap:=h'}):Q_ (Rf prog w) A (Vg (.ref it)) Q E s:=by
 obtain ⟨oi,ho,hc,hd⟩:=id hit;unfold Vg;refine QI (U_ (Sy (name:=VE "__next__") hit.typeIs Sv (RO Sv hit.typeIs VV ?_ (VJ _))));refine QI (QK (QI (QI ?_)));refine QI (S7 hit.typeIs (QK (QI (Wo ho hd ?_))));have hown:V0 "dict_keyiterator"=false:=by decide
 simp only [hown,Q8,if_false];show Q_ _ _ (ite ((U3 d == RU)=true) _ _) _ _ s;rw [if_neg (show ¬((U3 d == RU)=true) from Ru)];refine QI (QK (QI (WG hod OP ?_)));rw [if_neg (by simp)];refine QI (QK (QI (Xp hod OP ?_)));rw [if_neg (by simp)];refine QK ?_;simp only [show ¬((i:Int) < 0) from by omega,if_false,SM,Array.getElem?_eq_none hi];refine QI (QI (S7 hit.typeIs (QK ?_)));refine QI (m:=setField (.ref it) 0 .none) (ZP ho hd (by simp) ?_);refine QI (m:=newExc (.type "StopIteration") []) ?_;simp only [newExc,newTuple];refine QI (Rx ?_ (by size_fits));refine QI (m:=Wq _ _) (UW (a:=RU) (by first | rfl | (simp only [Wq];rfl)) (Rx ?_ (by size_fits)));simp only [raiseNew];refine QI (aal ?_);rw [show A.in1.handled=none from hh];refine QI (QK (wpAny_throw ?_));exact QI (VR (T:="StopIteration") (b:=true) ⟨_,Q2 _ rfl,rfl⟩ ZN (QK (hQ _ (((So ..).extBut.push _).push _))))
end
end DL
namespace DL
open PySem PySem.Spec PyProof.Rows L2 DX
noncomputable def MB (a:Rb) (ep:Nat) (QG:List (Int×V×V)):It:=⟨λi H=>H a=some (jd a ep QG)/\i < QG.length,λi H x H'=>H'=H/\∃p,QG[i]?=some p/\x=p.2.1,λi H=>H a=some (jd a ep QG)/\QG.length<=i⟩
theorem vB {α β:Type}{F:α->β->Prop}:∀{xs:List α}{ys:List β}{i:Nat}(hi:i < ys.length),Wt F xs ys->∃p,xs[i]?=some p/\F p ys[i]
 | _,_,0,_,.cons h _=>⟨_,rfl,h⟩
 | _,_,i + 1,hi,.cons _ t=>vB (i:=i) (by simpa using hi) t
theorem FO {P:Ra}{w:Rz}{K:QJ}{tg:RA}(a it:Rb) (ep:Nat) (QG:List (Int×V×V)):Turn P w K tg (MB a ep QG) [it] it (λi h=>h.IsKeyIter it a i QG.length ep) where
 mem:=by simp
 obj:=λi h st b hb=>by cases Q7.mp hb;obtain ⟨o,e,c,d⟩:=st;exact ⟨o,e,λv z=>by rw [d] at z;cases z⟩
 keep:=λi h h' st k=>st.at λo e=>k it (by simp) o e
 item:=by
  rintro X rfl rfl rfl hc i Qx s σ H E I hf st ⟨hq,hi⟩;obtain ⟨o,es,h1,h2,h3,h4⟩:=(show cg X.prog X.w H s.heap a (jd a ep QG) from I.hok a _ hq).1;have hl:QG.length=es.size:=by have:=h4.length;simpa using this
  obtain ⟨p,hp,er⟩:=vB (i:=i) (by simp;omega) h4;obtain ⟨f0,f1,f2,f3,f4,f5⟩:=hf it (by simp);refine EW (es:=es) (ep:=ep) (hl▸st) h1 h3 (by omega) λh' st' sb=>?_;have I1:Inv X Qx σ H {s with heap:=h'}:=I.turned (t':=s.toks) (λb o hb e=>(sb.2 b hb).trans e) f0 f1 f3 f4 f5;obtain ⟨oi,e,c,d⟩:=id st';exact ⟨_,rfl,w5 (s:={s with heap:=h'}) e c d (by decide) ⟨p.2.1,H,I1,by simpa using er.2.1,⟨rfl,p,hp,rfl⟩,by rw [hl];exact st',λb hb=>(hf b hb).1⟩⟩
 done:=by
  rintro X rfl rfl rfl hc i Qx s σ H E I hf st ⟨hq,hi⟩;obtain ⟨o,es,h1,h2,h3,h4⟩:=(show cg X.prog X.w H s.heap a (jd a ep QG) from I.hok a _ hq).1;have hl:QG.length=es.size:=by have:=h4.length;simpa using this
  obtain ⟨f0,f1,f2,f3,f4,f5⟩:=hf it (by simp);exact Hf (es:=es) (ep:=ep) (I.ok.hd hc) (hl▸st) h1 h3 (by omega) λh' eb=>⟨rfl,I.turned (t':=s.toks) (λb o hb e=>eb b o hb e) f0 f1 f3 f4 f5⟩
 self:=λ_ _ _ _ _ st h=>wpAny_pyIter_keyiter st h
section
variable {X:Cx}{c:C}{e tg:RA}{g:G R}
noncomputable def mO (g:G R):G (List D):=λenv=>g env >>= λr=>match uX r with
 | some z=>.ok z.1
 | none=>.bad
theorem KQ {tl:TE}(hl:PE X e tl):PI X tg e (λσ H Q=>tl σ H λx H1=>∃a ep QG,x=.ref a/\(a == TN)=false/\H1 a=some (jd a ep QG)/\Q (MB a ep QG) H1):=λQx s σ H R I h=>bM (hl Qx s σ H _ I h) λv s1 ⟨x,H1,I1,r1,a,ep,QG,ex,hsm,hq,q⟩=>by
 subst ex;cases r1;obtain ⟨o,es,h1,h2,h3,h4⟩:=(show cg X.prog X.w H1 s1.heap a (jd a ep QG) from I1.hok a _ hq).1;have hl:QG.length=es.size:=by have:=h4.length;simpa using this
 refine EE hsm h1 h2 h3 ⟨s1.heap.objs.size,[s1.heap.objs.size],_,_,H1,rfl,I1.kept (t':=s1.toks) (λb o e=>QU _ e),FO a _ ep QG,⟨_,Q2 _ rfl,rfl,by rw [hl];rfl⟩,λb hb=>?_,q⟩;cases Q7.mp hb;exact I1.fpOk (QW _) (I1.hok.fresh (QW _))
theorem jV (h:QD X c e g) (hK:X.K=c.K:=by rfl):uV X c tg e (mO g):=have h:=h.h;⟨sZ (KQ h) λσ H Q ⟨J,env,sr,w⟩=>by
 refine ⟨J,env,sr,aC (aH w) λr wr v J1 H1 e1 r1=>?_⟩;cases hz:uX r with
 | none=>rw [hz] at wr;exact wr.elim
 | some z=>
  rw [hz] at wr;obtain ⟨a,rfl,us,ws,ep,h1,h2,h3,h4,h5,h6⟩:=r1.dk (sr.hp.ext e1) hz;have hh:∀ds:List D,(cu ds).length=ds.length:=λds=>by induction ds with
   | nil=>rfl
   | cons d ds ih=>show (cu ds).length + 1=_;rw [ih];rfl
  have lk:((cu z.1).zip (us.zip ws)).length=z.1.length:=by rw [Zv,Zv,hh,<-h2.length,<-h3.length,<-h6];omega
  refine ⟨a,ep,_,rfl,h5,h1,wr _ J1 H1 e1 λi J' H' hp u=>⟨λhl=>⟨u.2 _ _ h1,by omega⟩,λd hd=>?_⟩⟩;have hi:i < z.1.length:=(Ri.mp hd).1;obtain ⟨x,k1,k2⟩:=h2.get hd;refine ⟨⟨u.2 _ _ h1,by omega⟩,λy H2 ⟨e,p,hp',hy⟩=>⟨J',by subst e;exact Ext.refl hp.sub,?_⟩⟩;have:p.2.1=x:=by rw [Ws,] at hp';have:=(Ws.mp hp'.2).1;rw [k1] at this;cases this;rfl
  rw [hy,this];exact k2.mono u.1⟩
end
end DL
namespace DL
open PySem PySem.Spec PyProof.Rows L2
section
variable {X:Cx}{c:C}{e:RA}{es:List RA}{g:G R}{pos p:Pos}{x y:Str}
def D6 (K:QJ) (mg:Str->Option QL) (x:Str):Prop:=∃f,RG K Rp x=some (some (.ref f))/\mg x=some (.ref f)
noncomputable def CM (y:Str) (F:List S->M R) (g:G R):G R:=λenv=>g env >>= λr=>match F [gc r,.fn y] with
 | .ok r=>.ok (lM r)
 | _=>.bad
theorem Fg {k k':Nat}{F:List S->M R}{q:Pos}(G:bx X.prog X.w X.K X.mg X.base k 2 x F) (hv:D6 X.K X.mg y) (hr:dg k' X.A) (ha:QD X c e g) (hk:k<=k':=by decide) (hT:c.K=X.K:=by rfl) (hg:Gl X x:=by rfl) (Qc:Gl X y:=by rfl)
  (hdb:(x == ("__debug__":Str))=false:=by decide) (Ph:(y == ("__debug__":Str))=false:=by decide) (he:QZ [e,.Name y q] X.env=(false,eval e X.env)::QZ [.Name y q] X.env:=by rfl) (OY:QZ [.Name y q] X.env=(false,eval (.Name y q) X.env)::QZ [] X.env:=by rfl)
  (hpl:(SJ pos (QZ [.Name y q] X.env)).any (·.1)=false:=by rfl):QD X c (.Call (.Name x p) [e,.Name y q] [] pos) (CM y F g):=by obtain ⟨f,fd,ps,h1,h2,h3,h4⟩:=G;obtain ⟨f',h5,h6⟩:=hv;refine ⟨fz (Ao (E:=E0) h1 (hr.mono hk) hg h2 h3 h4 .nil Bv (dF ha.h (dF (Aq (v:=.ref f') Qc h6 rfl Ph) fJ OY) he) hdb he hpl) λσ H Q ⟨J,env,sr,w⟩=>?_⟩;refine ⟨J,env,sr,aC (aH w) λr wr v J1 H1 e1 r1=>GH hT e1 ?_ rfl wr⟩;obtain ⟨_,_,e,a1,_⟩:=kq.args (rs:=[r]) (vs:=[v]) (sr.hp.ext e1) ⟨v,[],rfl,r1,rfl⟩;cases e;exact ⟨v,_,rfl,a1,_,_,rfl,⟨f',rfl,hT▸h5⟩,rfl⟩
noncomputable def yj (i:Nat) (x:Str) (g g':G R):G R:=λenv=>match env[i]? with
 | some (some (.fn z))=>if z=x then g env else g' env
 | _=>.bad
def wY:G R:=λ_=>.bad
theorem Au:QD X c e wY:=⟨λ_ _ _ _ _ _ ⟨_,_,_,w⟩=>w.elim⟩
theorem yN (i:Nat){F:List S->M R}{gs:G (List R)}(G:bx X.prog X.w X.K X.mg X.base k n x F) (hv:D6 X.K X.mg x) (hr:dg k' X.A) (ha:jr X c (e::es) gs) (rest:QD X c (.Call (.Name y p) (e::es) [] pos) g) (hk:k<=k':=by decide) (hT:c.K=X.K:=by rfl)
 (hN:X.N[i]?=some y:=by rfl) (hvs:nW X.env.scope y:=by first | exact UZ rfl | exact Tq (UZ rfl) | exact Tq (Tq rfl)) (hd:(y == ("__debug__":Str))=false:=by decide) (hcd:(y == ("__classdict__":Str))=false:=by decide)
 (he:QZ (e::es) X.env=(false,eval e X.env)::QZ es X.env:=by rfl) (hpl:(SJ pos (QZ es X.env)).any (·.1)=false:=by rfl):QD X c (.Call (.Name y p) (e::es) [] pos) (yj i x (gN (aS n F) gs) g):=by
 refine ⟨λQx s σ H Q I ⟨J,env,sr,w⟩=>?_⟩;obtain ⟨f,fd,ps,h1,h2,h3,h4⟩:=G;obtain ⟨f',h5,h6⟩:=hv;have ef:f'=f:=by rw [h2] at h6;cases h6;rfl
 subst ef;unfold yj at w;split at w
 ·rename_i z hz;split at w
  ·rename_i ez;subst ez;obtain ⟨_,hv,_,rfl,q⟩:=sr.at_ i _ hz;rw [hT,h5] at q;cases q;refine U6 (bM (jj hN hvs hd hcd Qx s σ H (λv H1=>v=.ref f'/\H1=H) I ⟨_,hv,rfl,rfl⟩) λu s1 ⟨x',H1,I1,rx,ev,eh⟩=>?_);subst ev eh;cases rx;refine X3 (h₀:=X.base) I1.ok.mod.kin h3 (bM (ha.h pos Qx s1 σ H1 _ I1 (xP hT σ H1 Q ⟨J,env,sr,w⟩)) λus s2 ⟨vs,H2,I2,r,q⟩=>⟨I2.kIn,?_⟩) he hpl;exact DM h1 (hr.mono hk) h4 .nil Bv I2 r q
  ·exact rest.h Qx s σ H Q I ⟨J,env,sr,w⟩
 ·exact w.elim
end
end DL
namespace K33
open PySem DL
def B0:List Str:=["pairing","pair"]
def CN:G O:=(bz (gN (aS 1 K23.pg) (ao (g2 dB (af 0) (bA (az (af 1) aU))) aE)))
def nM (as:List S):M R:=fin (CN (aW B0 as))
def p6:List Str:=["one","other","side","point"]
noncomputable def qo:G O:=(aJ (bS (bH (g2 (dM false) (af 2) (gC (.int 0)))) (bz (bE 1 [3] (bT (ao (g2 a_ (af 1) (gC (.int 0))) aE)) (aA 0) b8 (bA (az (af 1) (az (af 0) aU))))) dI)
 (bz (bE 1 [3] (bT (ao (g2 a_ (af 0) (gC (.int 0))) aE)) (aA 0) b8 (bA (az (af 0) (az (af 1) aU))))))
def fN (as:List S):M R:=fin (qo (aW p6 as))
def uU:List Str:=["one","other"]
noncomputable def vn:G O:=(bz (g2 cO (bE 1 [] (bT (ao (g2 a_ (af 0) (gC (.int 0))) aE)) (aA 0) b8 (bA (az (gC (.int 0)) (az (af 0) aU)))) (bE 1 [] (bT (ao (g2 a_ (af 1) (gC (.int 0))) aE)) (aA 0) b8 (bA (az (gC (.int 1)) (az (af 0) aU))))))
def kc (as:List S):M R:=fin (vn (aW uU as))
def uS:List Str:=["one","other","pairing","known","grown"]
noncomputable def vh:G O:=(aJ (bh 4 (pD 2 [0,1,2] (bT (ao (g2 a_ (af 0) (gC (.int 0))) aE)) (aA 0) b8 (kY (gN (aS 4 K33.fN) (ao (af 2) (ao (af 3) (ao (gC (.int 0)) (ao (af 0) aE)))))) (aA 1) b8 (af 1) (gN (aS 2 K33.nM) (ao (af 4) (ao (af 1) aE)))))
 (bz (bE 2 [0,1,4,3] (dQ (gN (aS 2 K33.kc) (ao (af 0) (ao (af 1) aE)))) (dU 2 (bD (aA 0) (bD (aA 1) eF))) b8 (bE 1 [4,5] (dQ (gN (aS 4 K33.fN) (ao (af 2) (ao (af 3) (ao (af 0) (ao (af 1) aE)))))) (aA 0) (bH (g2 (jn false) (g2 fR (af 1) (af 0)) (af 2))) (g2 fR (af 1) (af 0))))))
def j_ (as:List S):M R:=fin (vh (aW uS as))
def ki:List Str:=["rows","depths"]
noncomputable def kC:G O:=(bz (gN n_ (ao (bE 1 [1] (dQ (af 0)) (aA 0) b8 (gN qM (ao (bE 1 [1] (dQ (af 0)) (aA 0) b8 (g2 (qd false) (g2 fR (af 1) (af 0)) (gC .non))) aE))) aE)))
def cK (as:List S):M R:=fin (kC (aW ki as))
def pq:List Str:=["rows","stays","depths","depth","gone","pairing"]
noncomputable def Ab:G O:=(aJ (bh 2 (iW 1 [] (mO (af 0)) (aA 0) b8 (af 0) (gC .non)))
 (aJ (bh 3 (gC (.int 1)))
 (aJ (bh 4 (bE 1 [1,0,2] (mO (af 0)) (aA 0) (eX (bH (yj 1 "answered_still" (gN (aS 2 K33.cK) (ao (g2 fR (af 2) (af 0)) (ao (af 3) aE))) wY))) (af 0)))
 (aJ (sD 400000 (qS (af 4)) (aJ (iX 4 (eW (kY (af 4)) (aA 5) (qR 2 (af 5) (af 3))))
 (aJ (qO 3 uq (gC (.int 1)))
 (bh 4 (bE 1 [2,1,0] (mO (af 0)) (aA 0) (kW (bH (g2 (qd false) (g2 fR (af 1) (af 0)) (gC .non))) (eX (bH (yj 2 "answered_still" (gN (aS 2 K33.cK) (ao (g2 fR (af 3) (af 0)) (ao (af 1) aE))) wY)))) (af 0))))))
 (bz (af 2))))))
def k_ (as:List S):M R:=fin (Ab (aW pq as))
def lq:List Str:=["one","other","base"]
noncomputable def lQ:G O:=(bz (bE 1 [2] (dQ (gN (aS 3 K23.gX) (ao (af 0) (ao (af 1) (ao (gC (.int 4)) aE))))) (aA 0) (bH (gN n_ (ao (bE 1 [0] (dQ (af 1)) (aA 0) b8 (g2 (lI false) (af 0) (af 1))) aE))) (af 0)))
def gn (as:List S):M R:=fin (lQ (aW lq as))
def kj:List Str:=["one","other","base","known","rows"]
noncomputable def kD:G O:=(aJ (bh 3 (iW 1 [] (dQ (gN (aS 3 K33.gn) (ao (af 0) (ao (af 1) (ao (af 2) aE))))) (aA 0) b8 (af 0) (gC (.bl true))))
 (aJ (bh 4 (iW 1 [0,1,3] (mO (af 3)) (aA 0) b8 (af 0) (gN (aS 4 K33.j_) (ao (af 1) (ao (af 2) (ao (af 0) (ao (af 3) aE)))))))
 (bz (CM "answered_still" K33.k_ (af 4)))))
def fT (as:List S):M R:=fin (kD (aW kj as))
def nT:List Str:=["depths","pairing","depth"]
noncomputable def vf:G O:=(bz (mK (g2 (jn false) (af 1) (af 0)) (qQ (g2 (qd false) (g2 fR (af 0) (af 1)) (gC .non)) (g2 (jO λi j=>.bl (decide (j < i))) (g2 fR (af 0) (af 1)) (af 2)))))
def j6 (as:List S):M R:=fin (vf (aW nT as))
def rM:List Str:=["_law_pairs","_law_pair"]
def sH:G O:=(bz (gN cH (ao (gN se (ao (g2 dB (af 0) (bA (az (af 1) aU))) aE)) aE)))
def ic (as:List S):M R:=fin (sH (aW rM as))
end K33
namespace K33
open PySem DL K01 WP K51 K52 K55 K23
abbrev Ps:=List (Nat×Nat)
section
variable {κ:Type}{rows:κ->List (List κ)}{st:(κ->Bool)->κ->Bool}{i j d e:Nat}{k:κ}{ks:List κ}
noncomputable def LZ (st:(κ->Bool)->κ->Bool):Nat->κ->Bool
 | 0,_=>true
 | j + 1,k=>LZ st j k && st (LZ st j) k
abbrev GF (rows:κ->List (List κ)) (L:κ->Bool) (k:κ):Bool:=(rows k).all λr=>r.any L
abbrev LY (rows:κ->List (List κ)):Nat->κ->Bool:=LZ (GF rows)
theorem AO:LZ st (j + 1) k=true↔LZ st j k=true/\st (LZ st j) k=true:=by show (LZ st j k && _)=true↔_;rw [QX]
theorem D8:LY rows (j + 1) k=true↔LY rows j k=true/\∀r∈rows k,∃x∈r,LY rows j x=true:=by rw [AO];simp only [Rk,R0]
theorem t8 (h:i<=j) (q:LZ st j k=true):LZ st i k=true:=by
 induction h with
 | refl=>exact q
 | step _ ih=>exact ih (AO.mp q).1
def dZ (st:(κ->Bool)->κ->Bool) (d:Nat) (k:κ):Option Nat:=(QS (d + 1)).find? λj=>!LZ st j k
abbrev dA (rows:κ->List (List κ)):Nat->κ->Option Nat:=dZ (GF rows)
theorem iV:dZ st d k=none↔LZ st d k=true:=by
 unfold dZ;rw [Yl];constructor
 ·intro h;simpa using h d (by simp)
 ·intro h j hj;rw [t8 (by have:=Ro.mp hj;omega) h];decide
theorem G8 (h:dZ st d k=some e):LZ st e k=false/\e<=d/\∀i,i < e->LZ st i k=true:=by obtain ⟨h1,h3,h2⟩:=List.find?_range_eq_some.mp h;exact ⟨by simpa using h1,by have:=Ro.mp h3;omega,λi hi=>by simpa using h2 i hi⟩
theorem G9:dZ st (d + 1) k=if (LZ st d k && !LZ st (d + 1) k)=true then some (d + 1) else dZ st d k:=by
 have e:dZ st (d + 1) k=(dZ st d k).or ([d + 1].find? λj=>!LZ st j k):=by show (QS (d + 1 + 1)).find? _=_;rw [Uv,List.find?_append];rfl
 rw [e];cases q:dZ st d k with
 | none=>
  rw [iV.mp q];cases z:LZ st (d + 1) k <;> simp [List.find?,z]
 | some e=>
  have:LZ st d k=false:=by
   cases z:LZ st d k with
   | false=>rfl
   | true=>rw [iV.mpr z] at q;cases q
  rw [this];rfl
theorem BK (hm:∀(L L':κ->Bool),∀k∈ks,(∀x∈ks,L x=true->L' x=true)->st L k=true->st L' k=true) (h:∀k∈ks,LZ st d k=true->LZ st (d + 1) k=true):∀j,∀k∈ks,LZ st d k=true->LZ st j k=true
 | 0,_,_,_=>rfl
 | j + 1,k,hk,q=>AO.mpr ⟨BK hm h j k hk q,hm _ _ k hk (BK hm h j) (AO.mp (h k hk q)).2⟩
theorem Nq (hc:∀k∈ks,∀r∈rows k,∀x∈r,x∈ks) (h:∀k∈ks,LY rows d k=true->LY rows (d + 1) k=true):∀j,∀k∈ks,LY rows d k=true->LY rows j k=true:=
 BK (λL L' k hk hx=>by
  simp only [Rk,R0];exact λg r hr=>let ⟨x,h1,h2⟩:=g r hr;⟨x,h1,hx x (hc k hk r hr x h1) h2⟩) h
noncomputable def vp (o:Option Nat) (j:Nat):Bool:=match o with
 | none=>true
 | some e=>decide (j < e)
theorem JM (hs:∀j,LZ st d k=true->LZ st j k=true):vp (dZ st d k) j=LZ st j k:=by
 cases q:dZ st d k with
 | none=>exact (hs j (iV.mp q)).symm
 | some e=>
  obtain ⟨h1,_,h2⟩:=G8 q;show decide (j < e)=_;by_cases c:j < e
  ·rw [h2 j c,decide_eq_true c]
  ·cases z:LZ st j k with
   | false=>exact decide_eq_false c
   | true=>rw [t8 (by omega) z] at h1;cases h1
theorem wO {rows':κ->List (List κ)}(hc:∀k∈ks,∀r∈rows k,∀x∈r,x∈ks) (he:∀k∈ks,rows k=rows' k):∀j,∀k∈ks,LY rows j k=LY rows' j k
 | 0,_,_=>rfl
 | j + 1,k,hk=>by
  rw [R1,D8,D8,wO hc he j k hk,<-he k hk];refine and_congr abk ⟨λh r hr=>?_,λh r hr=>?_⟩ <;> obtain ⟨x,h1,h2⟩:=h r hr <;> refine ⟨x,h1,?_⟩
  ·rw [<-wO hc he j x (hc k hk r hr x h1)];exact h2
  ·rw [wO hc he j x (hc k hk r hr x h1)];exact h2
end
def vV (ps:Ps):Ps:=(bZ (ps.map dP)).map kP
theorem GP (ps:Ps):∀d∈ps.map dP,iR pF d:=λd hd=>by obtain ⟨x,_,rfl⟩:=QO.mp hd;exact oz x
theorem y9 (ps:Ps):(vV ps).map dP=bZ (ps.map dP):=back dP kP kQ λd hd=>by obtain ⟨x,_,rfl⟩:=QO.mp ((o7 (fD pF) (GP ps)).2 d hd);exact ⟨x,rfl⟩
theorem Gb {ps:Ps}:dP p∈ps.map dP↔p∈ps:=by rw [QO];exact ⟨λ⟨q,h,e⟩=>by rw [<-kQ p,<-e,kQ];exact h,λh=>⟨p,h,rfl⟩⟩
theorem HP:q∈vV ps↔q∈ps:=by rw [<-Gb,y9,(nk (fD pF) (GP ps)).2,Gb]
section
variable {v w:Wd}{ps qs S:Ps}{p:Nat×Nat}{n j:Nat}
theorem yp (g:Good v w ps):ps.length<=v.m:=by
 have h:=Rv (l₁:=ps.map Sf) (l₂:=QS v.m) (R5.mpr (g.up.imp λh=>by omega)) λx hx=>by obtain ⟨p,hp,rfl⟩:=QO.mp hx;exact Ro.mpr (g.rg p hp).1
 simpa using h
abbrev T4 (v w:Wd):List Ps:=told v w 4
theorem LS (t:Pr v w):ps∈T4 v w↔Good v w ps:=by
 rw [uK];constructor
 ·rintro ⟨j,_,h⟩;exact ((sU j).mp h).2
 ·intro g;exact ⟨ps.length,Rr (yp g) t.v4,(sU _).mpr ⟨rfl,g⟩⟩
theorem FY (v w:Wd):∀j,(LG v w j).Nodup
 | 0=>Ua _ _
 | j + 1=>by
  refine Xn.mpr ⟨λah _=>R5.mpr ?_,(FY v w j).imp_of_mem fun {a b} _ _ hab x hx y hy e=>?_⟩
  ·exact (((mY v.m w.m).filter _).filter _).imp λh e=>h (by simpa using e)
  ·obtain ⟨p,_,rfl⟩:=QO.mp hx;obtain ⟨q,_,rfl⟩:=QO.mp hy;exact hab (List.append_inj' e rfl).1
theorem uL (v w:Wd):∀j,(told v w j).Nodup
 | 0=>Ua _ _
 | j + 1=>Vv.mpr ⟨uL v w j,FY v w (j + 1),λa ha b hb e=>by
  obtain ⟨i,hi,h⟩:=(uK j).mp ha;have h1:=(rD i h).1;have h2:=(rD (j + 1) hb).1;rw [e] at h1;omega⟩
def cT (ps:Ps) (p:Nat×Nat):Ps:=vV (ps++[p])
theorem HN:q∈cT ps p↔q∈ps\/q=p:=by unfold cT;rw [HP];simp
def kn (v w:Wd) (B:Ps):List Ps:=(T4 v w).filter λps=>B.all λq=>decide (q∈ps)
theorem lV:ps∈kn v w B↔ps∈T4 v w/\∀q∈B,q∈ps:=by unfold kn;rw [RD,Rk];simp
def picks (v w:Wd):Ps:=(QS v.m).map (λa=>(0,a))++(QS w.m).map λb=>(1,b)
def nJ (v w:Wd) (k:Nat×Nat):Ps:=if k.1=0 then (QS w.m).map λb=>(k.2,b) else (QS v.m).map λa=>(a,k.2)
def RW (v w:Wd) (B ps:Ps):List (List Ps):=(picks v w).map λk=>((nJ v w k).map (cT ps)).filter λx=>decide (x∈kn v w B)
theorem AU:∀k∈kn v w B,∀r∈RW v w B k,∀x∈r,x∈kn v w B:=λk _ r hr x hx=>by obtain ⟨_,_,rfl⟩:=QO.mp hr;simpa using (RD.mp hx).2
theorem LI:∀k∈kn v w B,RW v w B k=RW v w [] k:=λk hk=>Uc λa _=>WH λx hx=>by obtain ⟨p,_,rfl⟩:=QO.mp hx;rw [R1,decide_eq_true_eq,decide_eq_true_eq,lV,lV];exact ⟨λh=>⟨h.1,λ_ h=>nomatch h⟩,λh=>⟨h.1,λq hq=>HN.mpr (.inl ((lV.mp hk).2 q hq))⟩⟩
def La (v w:Wd) (j:Nat) (ps:Ps):Bool:=LY (RW v w []) j ps
theorem MT (h:ps∈kn v w B):LY (RW v w B) j ps=La v w j ps:=wO AU LI j ps h
theorem MU:La v w (j + 1) ps=true↔La v w j ps=true/\∀k∈picks v w,∃p∈nJ v w k,cT ps p∈T4 v w/\La v w j (cT ps p)=true:=by
 show LY _ (j + 1) ps=true↔_;rw [D8];refine and_congr abk ⟨λh k hk=>?_,λh r hr=>?_⟩
 ·obtain ⟨x,h1,h2⟩:=h _ (QO.mpr ⟨k,hk,rfl⟩);obtain ⟨h3,h4⟩:=RD.mp h1;obtain ⟨p,h5,rfl⟩:=QO.mp h3;exact ⟨p,h5,(lV.mp (of_decide_eq_true h4)).1,h2⟩
 ·obtain ⟨k,hk,rfl⟩:=QO.mp hr;obtain ⟨p,h1,h2,h3⟩:=h k hk;exact ⟨_,RD.mpr ⟨QO.mpr ⟨p,h1,rfl⟩,decide_eq_true (lV.mpr ⟨h2,λ_ h=>nomatch h⟩)⟩,h3⟩
end
end K33
namespace K33
open PySem DL K01 WP K51 K52 K55 K23 K22
section
variable {α:Type} [DecidableEq α] {e:α->D}{f:α->D}{ks:List α}{k:α}{d:D}
theorem lT (he:∀a b,bg (e a) (e b)=decide (a=b)) (f:α->D):∀(ks:List α) (k:α),gA (ks.map e) (ks.map f) (e k)=if k∈ks then some (f k) else none
 | [],_=>rfl
 | a::ks,k=>by
  rw [Q6,Q6,gA,he,lT he f ks k];by_cases h:a=k
  ·subst h;simp
  ·rw [if_neg (by simpa using h)];simp [SK h]
theorem As (he:∀a b,bg (e a) (e b)=decide (a=b)) (f:α->D) (k:α) (d:D):∀ks:List α,uC (ks.map e) (ks.map f) (e k) d=ks.map λx=>if x=k then d else f x
 | []=>rfl
 | a::ks=>by rw [Q6,Q6,uC,he,As he f k d ks,Q6];simp only [decide_eq_true_eq]
theorem Es (he:∀a b,bg (e a) (e b)=decide (a=b)) (hk:k∈ks):dput (ks.map e,ks.map f) (e k) d=(ks.map e,ks.map λx=>if x=k then d else f x):=by unfold dput;simp only;rw [lT he,if_pos hk,As he];rfl
theorem uo (he:∀a b,bg (e a) (e b)=decide (a=b)) (f:α->D):∀(n:Nat) (ks:List α),ks.length=n->ks.Nodup->gZ (ks.map λk=>D.tup [e k,f k])=(ks.map e,ks.map f)
 | 0,ks,h,_=>by rw [Tf.mp h];rfl
 | n + 1,ks,h,nd=>by
  rcases Tu ks with rfl | ⟨qs,p,rfl⟩
  ·cases h
  ·rw [Tv] at h nd ⊢;have nd':=Vv.mp nd;have hp:p∉qs:=λhq=>nd'.2.2 p hq p (by simp) rfl;rw [Rg,Rg,Rg,Q6,VG,mG,uo he f n qs (by simpa using h) nd'.1];unfold dput;simp only;rw [lT he,if_neg hp];rfl
end
theorem gr (a b:Ps):bg (aO a) (aO b)=decide (a=b):=by
 show bW (a.map dP) (b.map dP)=_
 induction a generalizing b with
 | nil=>cases b <;> simp [bW]
 | cons x a ih=>
  cases b with
  | nil=>simp [bW]
  | cons y b=>rw [Q6,Q6,fP,ih,K55.vc,R1];simp
theorem LF (ps:Ps) (hl:ps.length < 64):pg [.d (aO ps)]=.ok (.d (aO (vV ps))):=by refine cj (eB (dS (b:=false) rfl rfl rfl) (bK (n1 (n1 (x:=.d (aO ps)) (z:=.l .fresh (bZ (ps.map dP))) rfl (Li ps hl)) rfl) rfl ?_));rw [<-y9]
theorem Cw (ps:Ps) (p:Nat×Nat) (hl:ps.length < 63):dB (.d (aO ps)) (.d (.tup [dP p]))=.ok (.d (aO (ps++[p]))):=by rw [aO,tR _ _ (by simp;omega),aO,Rg];rfl
theorem GR (ps:Ps) (p:Nat×Nat) (hl:ps.length < 63):nM [.d (aO ps),.d (dP p)]=.ok (.d (aO (cT ps p))):=
 cj (bK (c1 (two rfl (br (aG rfl rfl bq) (by show 1<=1000;decide)) (Cw ps p hl)) (LF _ (by simp;omega))) rfl rfl)
theorem BY (ps:Ps) (p:Nat×Nat) (hl:ps.length < 63):ic [.d (aO ps),.d (dP p)]=.ok (.d (aO (cT ps p))):=by refine cj (bK (n1 (n1 (two rfl (br (aG rfl rfl bq) (by show 1<=1000;decide)) (Cw ps p hl)) (Li _ (by simp;omega))) rfl) rfl ?_);rw [<-y9];rfl
section
variable {v w:Wd}
theorem IZ (hv:v.m<=1000) (hw:w.m<=1000) (s x:Nat):fN [.d v.d,.d w.d,.d (.int s),.d (.int x)]=.ok (.l .fresh ((nJ v w (s,x)).map dP)):=by
 have hb:dM false (.d (.int (s:Int))) (.d (.int 0))=.ok (.d (.bl (decide (s=0)))):=by rw [K01.eq_int];congr 3;rw [R1];simp
 unfold nJ;by_cases h:s=0
 ·rw [if_pos h,Rt];exact cj (cB (iE (dS rfl rfl (hb.trans (by rw [decide_eq_true h]))) (bK (iU (λb=>dP (x,b)) (fS (b9 (two rfl rfl (g8 _ _))) hw) (by simp;omega) λb _=>⟨_,br (aG rfl rfl (aG rfl rfl bq)) t2,rfl⟩) rfl rfl)))
 ·rw [if_neg h,Rt];exact cj (eB (dS rfl rfl (hb.trans (by rw [decide_eq_false h]))) (bK (iU (λa=>dP (a,x)) (fS (b9 (two rfl rfl (g8 _ _))) hv) (by simp;omega) λb _=>⟨_,br (aG rfl rfl (aG rfl rfl bq)) t2,rfl⟩) rfl rfl))
theorem GS (hv:v.m<=1000) (hw:w.m<=1000):kc [.d v.d,.d w.d]=.ok (.l .fresh ((picks v w).map dP)):=by refine cj (bK (two (iU (λa=>dP (0,a)) (fS (b9 (two rfl rfl (g8 _ _))) hv) (by simp;omega) λb _=>⟨_,br (aG rfl rfl (aG rfl rfl bq)) t2,rfl⟩) (iU (λa=>dP (1,a)) (fS (b9 (two rfl rfl (g8 _ _))) hw) (by simp;omega) λb _=>⟨_,br (aG rfl rfl (aG rfl rfl bq)) t2,rfl⟩) (z:=.l .fresh ((picks v w).map dP)) ?_) rfl rfl);unfold picks;rw [Rg,Rt,Rt];show (if _<=sizeLine then _ else M.bad)=_;rw [if_pos (by rw [RX];simp;omega)];rfl
end
section
variable {α:Type} [DecidableEq α] {e f:α->D}{ks:List α}{k:α}{env:Ev}
theorem Js {act:Ev->M (List D×Ev)}{h f:α->D}{rest:Ev}:∀(ys:List α),(∀y∈ys,act (some (.d (h y))::rest)=.ok ([f y],some (.d (h y))::rest))->∀z:Option S,∃z',bO (aA 0) b8 act (ys.map h) (z::rest)=.ok (ys.map f,z'::rest)
 | [],_,z=>⟨z,rfl⟩
 | y::ys,H,z=>by obtain ⟨z',ih⟩:=Js ys (λy hy=>H y (QT _ hy)) (some (.d (h y)));refine ⟨z',?_⟩;rw [Q6];unfold bO;show (act (some (.d (h y))::rest) >>= _)=_;rw [H y QV,aK];show (bO (aA 0) b8 act (ys.map h) (some (.d (h y))::rest) >>= _)=_;rw [ih];rfl
theorem x6 {gi:G (List D)}{gk gv:G R}(he:∀a b,bg (e a) (e b)=decide (a=b)) (nd:ks.Nodup) (hi:gi env=.ok (ks.map e)) (hl:ks.length<=1000000)
 (hb:∀k∈ks,dD (e k)=true/\gk (some (.d (e k))::cE 0 cap env)=.ok (.d (e k))/\∃r,gv (some (.d (e k))::cE 0 cap env)=.ok r/\toD r=.ok (f k)):iW 1 cap gi (aA 0) b8 gk gv env=.ok (.mf (ks.map e) (ks.map f)):=by
 obtain ⟨z,h⟩:=Js (act:=qG gk gv) (h:=e) (f:=λk=>.tup [e k,f k]) (rest:=cE 0 cap env) ks (λk hk=>by
  obtain ⟨h1,h2,r,h3,h4⟩:=hb k hk;exact t_ h2 rfl h3 h4 h1) none
 unfold iW f7;rw [hi,aK,if_pos (by rw [QN];exact hl)];show (bO (aA 0) b8 (qG gk gv) (ks.map e) (none::cE 0 cap env) >>= _)=_;rw [h];show M.ok (R.mf (gZ _).1 (gZ _).2)=_;rw [uo he f _ ks rfl nd]
theorem lE (he:∀a b,bg (e a) (e b)=decide (a=b)) (hx:uX x=some (ks.map e,ks.map f)) (ok:dD (e k)=true) (hk:k∈ks):fR x (.d (e k))=.ok (.d (f k)):=by unfold fR;rw [hx];simp only;rw [if_pos ok,lT he,if_pos hk]
theorem uw (he:∀a b,bg (e a) (e b)=decide (a=b)) (hx:uX x=some (ks.map e,ks.map f)) (ok:dD (e k)=true):jn false (.d (e k)) x=.ok (.d (.bl (@decide (k∈ks) q))):=by unfold jn;rw [hx];simp only;rw [if_pos ok,lT he];by_cases h:k∈ks <;> simp [h]
end
theorem anyM {α:Type}(f:α->Bool) (xs:List α):qM [.l .fresh (xs.map λx=>.bl (f x))]=.ok (.d (.bl (xs.any f))):=by
 have:=ue (λd=>match d with
  | .bl b=>b
  | _=>false) (xs.map λx=>.bl (f x))
 rw [Rt,Rt] at this;unfold qM;show (match i9 (xs.map λx=>.bl (f x)) with
  | some ks=>M.ok (R.d (.bl (ks.any id)))
  | none=>.bad)=_
 rw [show i9 (xs.map λx=>.bl (f x))=some (xs.map f) from this];simp [Xg]
section
variable {v w:Wd}
abbrev cI (r:List Ps):D:=.lst (r.map aO)
theorem LD (t:Pr v w) (ks:List Ps) (ps:Ps) (hl:ps.length < 63):j_ [.d v.d,.d w.d,.d (aO ps),.db (ks.map aO) (ks.map λ_=>.bl true)]=.ok (.l .fresh (((picks v w).map λk=>((nJ v w k).map (cT ps)).filter λx=>decide (x∈ks)).map cI)):=by
 have v4:=t.v4;have w4:=t.w4;have hg:pD 2 [0,1,2] (bT (ao (g2 a_ (af 0) (gC (.int 0))) aE)) (aA 0) b8 (kY (gN (aS 4 K33.fN) (ao (af 2) (ao (af 3) (ao (gC (.int 0)) (ao (af 0) aE)))))) (aA 1) b8 (af 1) (gN (aS 2 K33.nM) (ao (af 4) (ao (af 1) aE)))
   [some (.d v.d),some (.d w.d),some (.d (aO ps)),some (.db (ks.map aO) (ks.map λ_=>.bl true)),none]=.ok (.d (.dct ((dH v.m w.m).map dP) ((dH v.m w.m).map λq=>aO (cT ps q)))):=by
  refine (wV (xs:=QS v.m) (h:=dN) (h':=dP) (λa=>(QS w.m).map λb=>(a,b)) (λ_ _=>true) (λ_ q=>.tup [dP q,aO (cT ps q)]) (fS (b9 (two rfl rfl (g8 _ _))) (by omega)) (by simp;omega) λa ha=>⟨by simp;omega,λz=>?_,λq hq=>⟨rfl,λ_=>t_ rfl rfl (c2 rfl rfl (GR ps q hl)) rfl rfl⟩⟩).trans ?_
  ·show (gN _ _ _ >>= _)=_;rw [c4 rfl rfl rfl rfl (IZ (v:=v) (w:=w) (by omega) (by omega) 0 a)];rfl
  ·have e:((QS v.m).flatMap λa=>(((QS w.m).map λb=>(a,b)).filter λ_=>true).map λq=>D.tup [dP q,aO (cT ps q)])=(dH v.m w.m).map λq=>D.tup [dP q,aO (cT ps q)]:=by unfold dH;rw [VU];congr 1;funext a;rw [T_.mpr λ_ _=>rfl]
   rw [e];show M.ok (R.d (.dct (gZ _).1 (gZ _).2))=_;rw [uo K55.vc _ _ _ rfl (mY v.m w.m)]
 refine cj (bF hg rfl (bK (ku (xs:=picks v w) (λk=>dN k.1) (λk=>dN k.2) (λk=>cI (((nJ v w k).map (cT ps)).filter λx=>decide (x∈ks))) ?_ (by unfold picks;simp;omega) λk hk=>?_) rfl (by rw [Rt];rfl)))
 ·show (gN _ _ _ >>= _)=_;rw [c2 rfl rfl (GS (v:=v) (w:=w) (by omega) (by omega))];rfl
 ·have hin:∀q∈nJ v w k,q∈dH v.m w.m:=λq hq=>by
   rw [mW];have hk:(k.1=0/\k.2 < v.m)\/(k.1≠0/\k.2 < w.m):=by
    unfold picks at hk;simp only [Rn,QO,Ro] at hk;rcases hk with ⟨a,h,rfl⟩ | ⟨a,h,rfl⟩
    ·exact .inl ⟨rfl,h⟩
    ·exact .inr ⟨Nat.one_ne_zero,h⟩
   unfold nJ at hq;rcases hk with ⟨h1,h2⟩ | ⟨h1,h2⟩
   ·rw [if_pos h1] at hq;obtain ⟨b,hb,rfl⟩:=QO.mp hq;exact ⟨h2,Ro.mp hb⟩
   ·rw [if_neg h1] at hq;obtain ⟨b,hb,rfl⟩:=QO.mp hq;exact ⟨Ro.mp hb,h2⟩
  refine ⟨.l .fresh (((((nJ v w k).map (cT ps)).filter λx=>decide (x∈ks))).map aO),?_,rfl⟩;rw [Zu,Rt];refine i_ (xs:=nJ v w k) (h:=dP) (λq=>decide (cT ps q∈ks)) (λq=>aO (cT ps q)) ?_ (by unfold nJ;split <;> simp <;> omega) λq hq=>?_
  ·show (gN _ _ _ >>= _)=_;rw [c4 rfl rfl rfl rfl (IZ (v:=v) (w:=w) (by omega) (by omega) k.1 k.2)];rfl
  ·have hd:=lE (e:=dP) (f:=λq=>aO (cT ps q)) K55.vc (x:=.d (.dct ((dH v.m w.m).map dP) ((dH v.m w.m).map λq=>aO (cT ps q)))) rfl (k:=q) rfl (hin q hq);exact ⟨dS (two rfl rfl hd) rfl (uw (ks:=ks) (f:=λ_=>.bl true) gr (x:=.mb (ks.map aO) (ks.map λ_=>.bl true)) rfl (fH (cT ps q))),λ_=>⟨_,two rfl rfl hd,rfl⟩⟩
end
noncomputable def dV:Option Nat->D
 | none=>.non
 | some e=>.int e
theorem Bg (o:Option Nat):qd false (.d (dV o)) (.d .non)=.ok (.d (.bl o.isNone)):=by cases o <;> rfl
theorem GV (rs:List (List Ps)) (ks:List Ps) (f:Ps->Option Nat) (h:∀r∈rs,∀x∈r,x∈ks) (h1:rs.length<=1000) (h2:∀r∈rs,r.length<=1000):cK [.d (.lst (rs.map cI)),.db (ks.map aO) (ks.map λk=>dV (f k))]=.ok (.d (.bl (rs.all λr=>r.any λx=>(f x).isNone))):=by refine cj (bK (n1 (iU (xs:=rs) (h:=cI) (λr=>.bl (r.any λx=>(f x).isNone)) rfl (by omega) λr hr=>⟨_,n1 (iU (xs:=r) (h:=aO) (λx=>.bl (f x).isNone) rfl (by have:=h2 r hr;omega) λx hx=>⟨_,two (two rfl rfl (lE (f:=λk=>dV (f k)) gr rfl (fH x) (h r hr x hx))) rfl (Bg (f x)),rfl⟩) (anyM _ r),rfl⟩) (allM _ rs)) rfl rfl)
theorem part {κ:Type}{p q:κ->Bool}(h:∀k,q k=true->p k=true):∀l:List κ,(l.filter p).length=(l.filter q).length + (l.filter λk=>p k && !q k).length
 | []=>rfl
 | a::l=>by
  have ih:=part h l;cases hq:q a with
  | true=>simp [h a hq,hq];omega
  | false=>cases hp:p a <;> simp [hp,hq] <;> omega
abbrev yT (rows:Ps->List (List Ps)) (k:Ps):D:=.lst ((rows k).map cI)
abbrev eP (x:Str) (ks:List Ps) (val:Ps->D) (f:Ps->Option Nat) (d:Nat) (g z:Option S):Ev:=[some (.db (ks.map aO) (ks.map val)),some (.fn x),some (.dk (ks.map aO) (ks.map λk=>dV (f k))),some (.d (.int d)),g,z]
noncomputable def Gh (c1 c2:G R):G O:=(aJ (bh 2 (iW 1 [] (mO (af 0)) (aA 0) b8 (af 0) (gC .non)))
 (aJ (bh 3 (gC (.int 1)))
 (aJ (bh 4 (bE 1 [1,0,2] (mO (af 0)) (aA 0) (eX (bH c1)) (af 0)))
 (aJ (sD 400000 (qS (af 4)) (aJ (iX 4 (eW (kY (af 4)) (aA 5) (qR 2 (af 5) (af 3))))
 (aJ (qO 3 uq (gC (.int 1)))
 (bh 4 (bE 1 [2,1,0] (mO (af 0)) (aA 0) (kW (bH (g2 (qd false) (g2 fR (af 1) (af 0)) (gC .non))) (eX (bH c2))) (af 0))))))
 (bz (af 2))))))
abbrev ML (i r d:Nat) (x:Str) (F:List S->M R):G R:=yj i x (gN (aS 2 F) (ao (g2 fR (af r) (af 0)) (ao (af d) aE))) wY
section
variable {ks:List Ps}{rows:Ps->List (List Ps)}{st:(Ps->Bool)->Ps->Bool}{val:Ps->D}{c1 c2:G R}{x:Str}
theorem IY (ok:Nat->Prop) (o0:ok 0) (os:∀d,ok d->∀k∈ks,LZ st d k=true->LZ st (d + 1) k=false->ok (d + 1)) (nd:ks.Nodup) (hl:ks.length<=390000)
  (h1:∀k∈ks,∀d,ok d->c1 [some (.d (aO k)),some (.fn x),some (.db (ks.map aO) (ks.map val)),some (.dk (ks.map aO) (ks.map λk=>dV (dZ st d k)))]=.ok (.d (.bl (st (LZ st d) k))))
  (h2:∀k∈ks,∀d,ok d->c2 [some (.d (aO k)),some (.dk (ks.map aO) (ks.map λk=>dV (dZ st d k))),some (.fn x),some (.db (ks.map aO) (ks.map val))]=.ok (.d (.bl (st (LZ st d) k)))):
  ∃d,ok d/\fin (Gh c1 c2 (aW pq [.db (ks.map aO) (ks.map val),.fn x]))=.ok (.mf (ks.map aO) (ks.map λk=>dV (dZ st d k)))/\∀k∈ks,LZ st d k=true->LZ st (d + 1) k=true:=by
 have key:Wp (Gh c1 c2 (aW pq [.db (ks.map aO) (ks.map val),.fn x])) λo=>∃r,o=.rt r/\∃d,ok d/\r=.mf (ks.map aO) (ks.map λk=>dV (dZ st d k))/\∀k∈ks,LZ st d k=true->LZ st (d + 1) k=true:=by
  refine bF (x6 (e:=aO) (f:=λk=>dV (dZ st 0 k)) (ks:=ks) gr nd rfl (by omega) λk hk=>⟨fH k,rfl,_,rfl,by rw [iV.mpr rfl];rfl⟩) rfl (bF rfl rfl (bF (i_ (xs:=ks) (h:=aO) (λk=>LZ st 0 k && !LZ st 1 k) aO rfl (by omega) λk hk=>⟨?_,λ_=>⟨_,rfl,rfl⟩⟩) rfl ?_))
  ·exact kF (b:=LZ st 1 k) (nt (h1 k hk 0 o0))
  ·refine IE (λn env=>∃d z,ok d/\env=eP x ks val (dZ st d) (d + 1) (some (.own ((ks.filter λk=>LZ st d k && !LZ st (d + 1) k).map aO))) z/\n=(ks.filter (LZ st d)).length) (ks.filter (LZ st 0)).length (by have:=RL (LZ st 0) ks;omega) ⟨0,none,o0,rfl,rfl⟩ ?_;rintro n _ ⟨d,z,od,rfl,rfl⟩;obtain ⟨g,hg⟩:∃g,g=ks.filter λk=>LZ st d k && !LZ st (d + 1) k:=⟨_,rfl⟩;rw [<-hg];have hm:∀k,k∈g↔k∈ks/\LZ st d k=true/\LZ st (d + 1) k=false:=λk=>by rw [hg,RD];simp
   by_cases h0:g=[]
   ·refine .inl ⟨by rw [h0];rfl,bK rfl rfl ⟨_,rfl,d,od,rfl,λk hk q=>?_⟩⟩;cases z:LZ st (d + 1) k with
    | true=>rfl
    | false=>have:=(hm k).mpr ⟨hk,q,z⟩;rw [h0] at this;cases this
   ·have od1:ok (d + 1):=by obtain ⟨y,hy⟩:=List.exists_mem_of_ne_nil g h0;obtain ⟨a,b,c⟩:=(hm y).mp hy;exact os d od y a b c
    refine .inr ⟨?_,?_⟩
    ·show M.ok (!(g.map aO).isEmpty)=_;cases g with
     | nil=>exact absurd rfl h0
     | cons _ _=>rfl
    have Qj:=part (p:=LZ st d) (q:=LZ st (d + 1)) (λk h=>t8 (Tz d) h) ks;rw [<-hg] at Qj;have g0:0 < g.length:=List.length_pos_iff.mpr h0;refine cB (BR rfl (Bk (ds:=g.map aO) rfl (tY (λi env=>∃z,env=eP x ks val (λk=>if k∈g.take i then some (d + 1) else dZ st d k) (d + 1) (some (.d (.lst (g.map aO)))) z) (g.map aO) ⟨z,by simp⟩ ?_ ?_)))
    ·rintro i hi _ ⟨z,rfl⟩;have hi':i < g.length:=by simpa using hi
     have e:(g.map aO)[i]=aO g[i]:=VQ ..;have hk:g[i]∈ks:=((hm _).mp (SI hi')).1;rw [e];have ev:dput (ks.map aO,ks.map λk=>dV (if k∈g.take i then some (d + 1) else dZ st d k)) (aO g[i]) (.int ((d + 1:Nat):Int))=(ks.map aO,ks.map λk=>dV (if k∈g.take (i + 1) then some (d + 1) else dZ st d k)):=by
      rw [Es gr hk,Wn,Q4 hi'];congr 1;refine Uc λk _=>?_;simp only [Rn,Option.toList_some,Q7];by_cases c:k=g[i]
      ·rw [if_pos c,if_pos (.inr c)];rfl
      ·simp only [c,if_false,or_false]
     exact ⟨_,rfl,Gm (ks:=ks.map aO) (vs:=ks.map λk=>dV (if k∈g.take i then some (d + 1) else dZ st d k)) rfl rfl rfl rfl rfl (fH g[i]) (by rw [QN];omega) ⟨_,rfl,some (.d (aO g[i])),by rw [ev];rfl⟩⟩
    ·rintro _ ⟨z,rfl⟩;have ev:(ks.map λk=>dV (if k∈g.take (g.map aO).length then some (d + 1) else dZ st d k))=ks.map λk=>dV (dZ st (d + 1) k):=Uc λk hk=>by
      rw [QN,VP,G9];congr 1;by_cases c:k∈g
      ·rw [if_pos c,if_pos (by obtain ⟨_,a,b⟩:=(hm k).mp c;rw [a,b];rfl)]
      ·rw [if_neg c,if_neg λz=>c ((hm k).mpr ⟨hk,by simpa using z⟩)]
     show Wp _ _;unfold eP;rw [ev];refine cB (LO rfl rfl rfl rfl (fV (i_ (xs:=ks) (h:=aO) (λk=>LZ st (d + 1) k && !LZ st (d + 1 + 1) k) aO rfl (by omega) λk hk=>⟨?_,λ_=>⟨_,rfl,rfl⟩⟩) rfl ⟨(ks.filter (LZ st (d + 1))).length,by omega,d + 1,z,od1,rfl,rfl⟩));have q1:=lE (f:=λk=>dV (dZ st (d + 1) k)) (ks:=ks) (k:=k) (e:=aO) gr (x:=.mo (ks.map aO) (ks.map λk=>dV (dZ st (d + 1) k))) rfl (fH k) hk;cases c:LZ st (d + 1) k with
     | false=>
      refine xE (dS (two rfl rfl q1) rfl ((Bg _).trans ?_));cases z:dZ st (d + 1) k with
      | none=>rw [iV.mp z] at c;cases c
      | some _=>rfl
     | true=>
      rw [iV.mpr c] at q1;refine ua (dS (two rfl rfl q1) rfl (Bg none)) (kF (b:=LZ st (d + 1 + 1) k) (nt ((h2 k hk (d + 1) od1).trans ?_)));show M.ok (R.d (.bl _))=M.ok (R.d (.bl (LZ st (d + 1) k && _)));rw [c];rfl
 obtain ⟨r,h,d,od,rfl,hs⟩:=nu key;exact ⟨d,od,h,hs⟩
theorem D4 (nd:ks.Nodup) (hl:ks.length<=390000) (hc:∀k∈ks,∀r∈rows k,∀x∈r,x∈ks) (h1:∀k∈ks,(rows k).length<=1000) (h2:∀k∈ks,∀r∈rows k,r.length<=1000):
  ∃d,k_ [.db (ks.map aO) (ks.map (yT rows)),.fn "answered_still"]=.ok (.mf (ks.map aO) (ks.map λk=>dV (dA rows d k)))/\∀k∈ks,LY rows d k=true->LY rows (d + 1) k=true:=by
 have st:∀d k,k∈ks->cK [.d (yT rows k),.db (ks.map aO) (ks.map λk=>dV (dA rows d k))]=.ok (.d (.bl (GF rows (LY rows d) k))):=λd k hk=>by rw [GV (rows k) ks (dA rows d) (hc k hk) (h1 k hk) (h2 k hk)];congr 4;funext r;congr 1;funext x;rw [R1,Option.isNone_iff_eq_none,iV]
 have dx:∀k∈ks,∀x:R,uX x=some (ks.map aO,ks.map (yT rows))->fR x (.d (aO k))=.ok (.d (yT rows k)):=λk hk x hx=>lE gr hx (fH k) hk;obtain ⟨d,_,h,hs⟩:=IY (ks:=ks) (val:=yT rows) (x:="answered_still") (st:=GF rows) (c1:=ML 1 2 3 "answered_still" cK) (c2:=ML 2 3 1 "answered_still" cK) (λ_=>True) trivial (λ_ _ _ _ _ _=>trivial) nd hl
  (λk hk d _=>(c2 (two rfl rfl (dx k hk _ rfl)) rfl (st d k hk)).trans rfl) (λk hk d _=>(c2 (two rfl rfl (dx k hk _ rfl)) rfl (st d k hk)).trans rfl)
 exact ⟨d,h,hs⟩
end
section
variable {v w:Wd}{B:Ps}
theorem wR (t:Pr v w):(T4 v w).length<=327680:=q9 t 4 (QW _)
theorem MG (t:Pr v w){ps:Ps}(h:ps∈T4 v w):ps.length<=4:=Rr (yp ((LS t).mp h)) t.v4
theorem GU (t:Pr v w) (hB:B.length<=100):gn [.d v.d,.d w.d,.d (aO B)]=.ok (.l .fresh ((kn v w B).map aO)):=by
 have tl:=wR t;refine cj (bK (i_ (xs:=T4 v w) (h:=aO) (λps=>B.all λq=>decide (q∈ps)) aO ?_ (by omega) λps _=>⟨?_,λ_=>⟨_,rfl,rfl⟩⟩) rfl rfl)
 ·show (gN _ _ _ >>= _)=_;rw [c3 rfl rfl rfl (rA t 4 (QW _))];rfl
 ·refine nt (n1 (iU (xs:=B) (h:=dP) (λq=>.bl (decide (q∈ps))) rfl (by omega) λq _=>⟨_,two rfl rfl (JN q ps),by rw [K55.MJ];rfl⟩) (allM _ B))
theorem MS (t:Pr v w) (hB:B.length<=100):∃f:Ps->Option Nat,fT [.d v.d,.d w.d,.d (aO B)]=.ok (.mf ((kn v w B).map aO) ((kn v w B).map λk=>dV (f k)))/\∀j,∀k∈kn v w B,vp (f k) j=La v w j k:=by
 have v4:=t.v4;have w4:=t.w4;have tl:=wR t;have kl:(kn v w B).length<=(T4 v w).length:=RL _ _;have nd:(kn v w B).Nodup:=(uL v w 4).filter _;have pl:(picks v w).length<=8:=by unfold picks;simp;omega
 obtain ⟨d,h1,h2⟩:=D4 (ks:=kn v w B) (rows:=RW v w B) nd (by omega) AU (λk _=>by unfold RW;rw [QN];omega) (λk _ r hr=>by
  obtain ⟨q,_,rfl⟩:=QO.mp hr;refine Rr (RL _ _) ?_;rw [QN];unfold nJ;split <;> simp <;> omega)
 refine ⟨dA (RW v w B) d,?_,λj k hk=>(JM λj q=>Nq AU h2 j k hk q).trans (MT hk)⟩;refine cj (bF (x6 (e:=aO) (f:=λ_=>.bl true) (ks:=kn v w B) gr nd ?_ (by omega) λk hk=>⟨fH k,rfl,_,rfl,rfl⟩) rfl (bF (x6 (e:=aO) (f:=yT (RW v w B)) (ks:=kn v w B) gr nd rfl (by omega) λk hk=>⟨fH k,rfl,_,c4 rfl rfl rfl rfl (LD t (kn v w B) k (by have:=MG t (lV.mp hk).1;omega)),rfl⟩) rfl (bK (r:=.mf ((kn v w B).map aO) ((kn v w B).map λk=>dV (dA (RW v w B) d k))) ?_ rfl rfl)))
 ·show (gN _ _ _ >>= _)=_;rw [c3 rfl rfl rfl (GU t hB)];rfl
 ·show (match k_ [.db ((kn v w B).map aO) ((kn v w B).map (yT (RW v w B))),.fn "answered_still"] with
   | .ok r=>M.ok (lM r)
   | _=>.bad)=_
  rw [h1];rfl
theorem LC (ks:List Ps) (f:Ps->Option Nat) (p:Ps) (j:Nat):j6 [.db (ks.map aO) (ks.map λk=>dV (f k)),.d (aO p),.d (.int j)]=.ok (.d (.bl (decide (p∈ks) && vp (f p) j))):=by
 have hi:=uw (ks:=ks) (f:=λk=>dV (f k)) gr (x:=.mb (ks.map aO) (ks.map λk=>dV (f k))) rfl (fH p) (q:=inferInstance);refine cj (bK (r:=.d (.bl (decide (p∈ks) && vp (f p) j))) ?_ rfl rfl);unfold mK;rw [show g2 (jn false) (af 1) (af 0) (aW nT [.db (ks.map aO) (ks.map λk=>dV (f k)),.d (aO p),.d (.int j)])=_ from two rfl rfl hi,aK];by_cases h:p∈ks
 ·rw [decide_eq_true h];have hd:=lE (ks:=ks) (f:=λk=>dV (f k)) gr (x:=.mb (ks.map aO) (ks.map λk=>dV (f k))) rfl (fH p) h;show qQ _ _ _=M.ok (R.d (.bl (vp (f p) j)));cases q:f p with
  | none=>rw [q] at hd;exact HW (two (two rfl rfl hd) rfl rfl)
  | some e=>
   rw [q] at hd;refine Ku (two (two rfl rfl hd) rfl rfl) (two (two rfl rfl hd) rfl ?_);show M.ok (R.d (.bl (decide ((j:Int) < (e:Int)))))=M.ok (R.d (.bl (decide (j < e))));rw [show decide ((j:Int) < (e:Int))=decide (j < e) by rw [R1];simp]
 ·rw [decide_eq_false h];rfl
theorem MQ (d m:Nat) (hd:d<=m):K55.eK [.d (.int d),.d (.int 0),.d (.int m)]=.ok (.d .non):=by refine o_ (oF ?_ (jR ⟨_,rfl⟩));show (if decide ((d:Int) < 0)=true then M.ok true else M.ok (decide ((m:Int) < d)))=M.ok false;rw [decide_eq_false (show ¬(d:Int) < 0 by omega),decide_eq_false (show ¬(m:Int) < d by omega)];rfl
theorem Kc:kn v w []=T4 v w:=T_.mpr λ_ _=>rfl
def EN (v w:Wd) (j:Nat):D:=cI ((T4 v w).filter (La v w j))
end
end K33
namespace DL
open PySem PySem.Spec PyProof.Rows L2
def FA (K:QJ) (x:Str) (st:TJ):Prop:=∃f fd,RG K Rp x=some (some (.ref f))/\nA K x x st f fd
theorem LK {K:QJ}{st:TJ}(a:RG K Rp x=some (some (.ref f)))
 (l:K.lookup f=some ⟨u,o,.func (SG x x (eV st) (cP st) (bu st) .none v d p n q r),s⟩) (c:Vy K q x=true) (k:Ug K (.ref f)=true):FA K x st:=⟨f,_,a,CL l c k⟩
def FB (K:QJ) (mg:Str->Option QL) (x:Str) (st:TJ):Prop:=∃f fd,mg x=some (.ref f)/\nA K x x st f fd
theorem bQ {K:QJ}{h:Sn}{mg:Str->Option QL}(X:K.In h) (G:h.Ns Rp mg){x:Str}{st:TJ}(e:FA K x st):FB K mg x st:=let ⟨f,fd,a,F⟩:=e;⟨f,fd,V1 X G a,F⟩
theorem qc {P:Ra}{w:Rz}{K:QJ}{mg:Str->Option QL}{base:Sn}{x:Str}{st:TJ}{k:Nat}{Fm:List S->M R}(gB:G O) (N:List Str) (n:Nat) (e:FB K mg x st)
  (hb:N.Nodup->∀(f:Rb) (cdv:QL) (A:RC) (outer:List Env) (s:QM) (H:Hp) (E:XK) (J:Hp) (T:Exc->Prop),dg k (A.deeper (Ww x (bu st) s.heap.objs.size f cdv))->
   nV (CF P w K mg base N x (bu st) f cdv A outer s H E) ⟨K,H,J,T⟩ (cP st) gB)
  (Sc:gm N (N.take n) (bu st):=by exact ⟨rfl,rfl,rfl,by decide +kernel,rfl,by decide +kernel,by decide +kernel⟩)
  (hbi:∀(kV doc pm:QL) (an:Option Rb) (cdv ct:QL) (us:List QL),us.length=(N.take n).length->YZ (SG x x (eV st) (cP st) (bu st) .none kV doc pm an cdv ct) ⟨us,[]⟩=pure ((N.take n).zip us):=by
   intro _ _ _ _ _ _ us hl;rcases us with _ | ⟨_,_ | ⟨_,_ | ⟨_,_ | ⟨_,_ | ⟨_,_ | ⟨_,_ | ⟨_,_⟩⟩⟩⟩⟩⟩⟩ <;> first | exact rfl | (cases hl;done) | exact nomatch hl)
  (hF:∀as r,as.length=(N.take n).length->Fm as=.ok r->fin (gB (aW N as))=.ok r:=by intro _ _ _ h;exact h):bx P w K mg base (k + 1) (N.take n).length x Fm:=
 let ⟨f,_,hm,F⟩:=e;Ip F hm Sc hbi (hb Sc.nd f) hF
end DL
namespace DL
open PySem PySem.Spec PyProof.Rows L2 DX
open Sem (wp)
end DL
namespace DL
open PySem PySem.Spec PyProof.Rows L2 DX
end DL
namespace DL
open PySem PySem.Spec PyProof.Rows L2
open PySem.W (KasT kas_sort kas_ask kas_item kat_run kat_snds)
end DL
namespace DL
open PySem PySem.Spec PyProof.Rows L2
end DL
namespace DL
open PySem PySem.Spec PyProof.Rows L2
open PySem.W (kas_sort)
end DL
namespace DL
open PySem PySem.Spec PyProof.Rows L2 DX
theorem NR.snoc {K:QJ}{J:Hp}{P:Rb->Prop}{b:Rb}{ws:List V}{ds:List D}(h1:J b=some (.lst ws)) (h2:aD K J ds ws) (h3:P b):∀{xs:List D}{us:List V},NR K J P xs us->V.ref b∉us->NR K J P (xs++[.lst ds]) (us++[.ref b])
 | [],_,h,_=>by cases h;exact ⟨ds,b,ws,[],rfl,rfl,h1,h2,h3,Sl,rfl⟩
 | _::_,_,⟨es,a,vs,us,k1,k2,k3,k4,k5,k6,k7⟩,n=>by
  subst k2;refine ⟨es,a,vs,us++[.ref b],k1,rfl,k3,k4,k5,λm=>?_,k7.snoc h1 h2 h3 λm=>n (QT _ m)⟩;rcases Rn.mp m with m | m
  ·exact k6 m
  ·rw [Q7.mp m] at n;exact n QV
noncomputable def xD (ge:G R):Ev->M (List D×Ev):=λe=>ge e >>= λr=>match r with
 | .l .fresh ys=>.ok ([.lst ys],e)
 | _=>.bad
def accN (c:C) (p:Rb) (H2:Hp):Hp->Hp->List D->Prop:=λJ H ys=>∃us,H p=some (.lst us)/\J p=none/\NR c.K J (λb=>H2 b=none) ys us
theorem Eb {c:C}{p:Rb}{H2:Hp}:tZ (accN c p H2):=⟨fun {J H J' H' ys} ⟨us,h1,h2,h3⟩ e=>⟨us,e.h _ _ h1,e.frz _ (by rw [h1];intro z;cases z) h2,h3.mono e.j λ_ h=>h⟩⟩
def oj (n:Nat) (cap:List Nat) (gi:G (List D)) (gt:GT) (gts:G Bool) (ge:G R):G R:=f7 sizeLine n cap gi gt gts (xD ge) (λys=>.ok (.ln ys))
section
variable {X:Cx}{c:C}{p:Rb}{J2 H2:Hp}{elt:RA}{ge:G R}
theorem Ec (hx:∀v s,X.xe v s->False) (hp2:H2 p=none) (hp0:c.H0 p=none) (hE:PD X c elt ge):qC X c p (accN c p H2) J2 H2 1 (do let _ <-call (.builtin "list.append") [.ref p,<-eval elt X.env]) (xD ge):=by
 intro Qx s σ H J env ys Qf I x2 sr no ⟨us,h1,h2,h3⟩ hl w;have hlen:ys.length=us.length:=h3.reps.length;refine QI (RE (hE _ s σ H (λv H8=>∃J8 b ws zs,v=.ref b/\Ext J H J8 H8/\H8 b=some (.lst ws)/\J8 b=none/\H b=none/\aD c.K J8 zs ws/\Qf ([.lst zs],env)) I ⟨J,env,sr,aC (aH w) λr wr v J8 H8 e8 r8=>?_⟩) (λu8 s8 ⟨v8,H8,I8,r8,J8,b,ws,zs,hv,e8,k1,k2,k3,k4,w8⟩=>?_) λv s f=>(hx v s f).elim)
 ·split at wr
  ·obtain ⟨b,ws,rfl,k1,k2,k3,k4⟩:=r8;exact ⟨J8,b,ws,_,rfl,e8,k1,k2,k3,k4,wr⟩
  ·exact wr.elim
 subst hv;have p8:H8 p=some (.lst us):=e8.h _ _ h1;have P5:p≠b:=λz=>by rw [z,k3] at h1;cases h1
 have e9:=pC e8 k1 k2 k3;have sj:aL J8 (L2.upd J8 b (.lst ws)):=bY k2 _;have J9p:L2.upd J8 b (.lst ws) p=none:=by rw [aQ P5];exact e8.frz _ (by rw [h1];intro z;cases z) h2
 refine QI (RE (jg (X:=X) _ s8 σ H8 (.ref p) [.ref b] (.ref p) [u8] (λ_ H9=>H9=L2.upd H8 p (.lst (us++[.ref b]))) I8 rfl (.cons r8 .nil) ⟨_,us,.ref b,rfl,rfl,p8,by omega,rfl⟩) (λ_ s9 ⟨_,H9,I9,_,h9⟩=>?_) λv s f=>(hx v s f).elim);subst h9;refine QK ⟨σ,_,_,([.lst zs],env),I9,(x2.trans e9).other hp2 J9p,e9.j,(sr.ext e9).other J9p hp0 no,no,⟨us++[.ref b],bB,J9p,(h3.mono e9.j λ_ h=>h).snoc bB (k4.mono sj) (x2.h.free k3) λm=>?_⟩,QW _,w8⟩;obtain ⟨b',_,e,m1,_⟩:=h3.mem m;cases e;rw [e8.j _ _ m1] at k2;cases k2
theorem MH (own:List Str) (cap:List Nat){QA QC:RA}{ifs:List RA}{Qw:Um}{pos:Pos}{gi:G (List D)}{gt:GT}{gts:G Bool}(hi:uV X c QA QC gi)
  (hbody:∀(cl:List (Str×Rb)) (C:Rb) (s:QM) (H:Hp) (fp:List Rb),cZ X.env.cells Qw.names []=some cl->nC (cF X own cap Qw cl C s H fp) c QA gt/\mD (cF X own cap Qw cl C s H fp) c ifs gts/\QD (cF X own cap Qw cl C s H fp) c elt ge) (a:xr X Qw cap QC:=by exact n8 rfl):mC X c (.ListComp elt [⟨QA,QC,ifs,0⟩] Qw pos) (oj own.length cap gi gt gts ge):=by
 refine ⟨_,?_,rfl,λ_=>rfl⟩;refine jN (e:=.ListComp elt [⟨QA,QC,ifs,0⟩] Qw pos) (ob:={cls:=.type "list",dict:=none,data:=.seq ([]:List QL).toArray}) (o0:=λ_=>.lst []) (Acc:=accN c) (N:=1) (lim:=sizeLine) (m:=λp env=>do let _ <-call (.builtin "list.append") [.ref p,<-eval elt env]) own cap rfl hi.h
  (λs Q E q=>Rx q) (λh H=>⟨Rm _,[],0,.nil,Q2 _ rfl⟩) (λp _=>Eb) (λp _ J H _ h1 h2=>⟨[],h1,h2,rfl⟩) (by rw [aaY];exact QW _) (λit p env=>w_ (aap ..)) (λit acc env R s h0 h=>Vm h0 h) (λys z q=>by cases q)
  (fun {p H2 J H J' H' ys r} hp hs e ⟨us,h1,h2,h3⟩ q=>by cases q;exact ⟨J',e,⟨p,us,rfl,h1,h2,hp,h3.mono (aL.refl _) λ_ h=>hs.free h⟩⟩) (λcl C s H fp hcc=>?_) a
 obtain ⟨b1,b2,b3⟩:=hbody cl C s H fp hcc;exact ⟨b1.h,b2.h,λp J2 H2 hp2 hp0=>Ec (λ_ _ f=>f) hp2 hp0 b3.h⟩
end
mutual
noncomputable def jh:D->Bool
 | .non=>true
 | .bl _=>true
 | .int _=>true
 | .str _=>true
 | .tup xs=>fu xs
 | _=>false
noncomputable def fu:List D->Bool
 | []=>true
 | x::xs=>jh x && fu xs
end
noncomputable def Bf:D->Bool
 | .lst ds=>fu ds
 | _=>false
noncomputable def qq:S->Bool
 | .d x=>jh x
 | .own xs=>fu xs
 | .bor xs=>fu xs
 | .ow2 xs=>xs.all Bf
 | .fn _=>true
 | _=>false
noncomputable def yH (env:Ev):Bool:=env.all λo=>match o with
 | some x=>qq x
 | none=>true
theorem Am {env:Ev}{i:Nat}{x:S}(h:yH env=true) (q:env[i]?=some (some x)):qq x=true:=Rk.mp h _ (RH q)
section
variable {K:QJ}{J:Hp}{b:Rb}{ws:List V}{o:HO}
theorem FN (hb:J b=some (.lst ws)){a:Rb}{vs:List V}(h:cC K J a vs):cC K (L2.upd J b o) a vs:=by
 rcases h with (h | ⟨z,h⟩) | h
 ·exact .inl (.inl (by rw [aQ (λe=>by rw [e,hb] at h;cases h)];exact h))
 ·exact .inl (.inr ⟨z,by rw [aQ (λe=>by rw [e,hb] at h;cases h)];exact h⟩)
 ·exact .inr h
theorem aD.thaw (hb:J b=some (.lst ws)){ds:List D}{vs:List V}(n:fu ds=true) (h:aD K J ds vs):aD K (L2.upd J b o) ds vs:=by refine aD.rec (motive_1:=λd v _=>jh d=true->Rep K (L2.upd J b o) d v) (motive_2:=λds vs _=>fu ds=true->aD K (L2.upd J b o) ds vs) (λ_=>.non) (λb _=>.bl b) (λi _=>.int i) (λx _=>.str x) (λ_ n=>nomatch n) (λh _ ih n=>.tup (FN hb h) (ih n)) (λ_ _ _ n=>nomatch n) (λ_ _ _ _ _ _ n=>nomatch n) (λ_ _ _ _ _ _ _ n=>nomatch n) (λ_=>.nil) (λ_ _ h1 h2 n=>?_) h n;have n':=S8.mp n;exact .cons (h1 n'.1) (h2 n'.2)
theorem Rep.thaw (hb:J b=some (.lst ws)){d:D}{v:V}(n:jh d=true) (h:Rep K J d v):Rep K (L2.upd J b o) d v:=by
 cases (aD.thaw hb (ds:=[d]) (by show (jh d && true)=true;rw [n];rfl) (.cons h .nil)) with
 | cons h _=>exact h
theorem NR.other (hb:J b=some (.lst ws)){P:Rb->Prop}:∀{xs:List D}{vs:List V},xs.all Bf=true->V.ref b∉vs->NR K J P xs vs->NR K (L2.upd J b o) P xs vs
 | [],_,_,_,h=>h
 | _::_,_,n,nb,⟨ds,a,us,vs,h1,h2,h3,h4,h5,h6,h7⟩=>by subst h1;subst h2;rw [S_] at n;have n':=S8.mp n;exact ⟨ds,a,us,vs,rfl,rfl,by rw [aQ λe=>nb (by rw [e];exact QV)];exact h3,h4.thaw hb n'.1,h5,h6,h7.other hb n'.2 λm=>nb (QT _ m)⟩
theorem NR.thaw (hb:J b=some (.lst ws)){P:Rb->Prop}{ds':List D}{ws':List V}(hr:aD K (L2.upd J b (.lst ws')) ds' ws'):∀{xs:List D}{vs:List V}{n:Nat},xs.all Bf=true->vs[n]?=some (.ref b)->NR K J P xs vs->NR K (L2.upd J b (.lst ws')) P (xs.set n (.lst ds')) vs
 | [],_,_,_,q,h=>by cases h;cases q
 | _::_,_,n,m,q,⟨ds,a,us,vs,h1,h2,h3,h4,h5,h6,h7⟩=>by
  subst h1;subst h2;rw [S_] at m;have m':=S8.mp m;cases n with
  | zero=>
   cases q;exact ⟨ds',b,ws',vs,rfl,rfl,bB,hr,h5,h6,h7.other hb m'.2 h6⟩
  | succ n=>
   have q:vs[n]?=some (.ref b):=q;exact ⟨ds,a,us,vs,rfl,rfl,by rw [aQ λe=>h6 (by rw [e];exact RH q)];exact h3,h4.thaw hb m'.1,h5,h6,h7.thaw hb hr m'.2 q⟩
theorem NR.get {P:Rb->Prop}:∀{xs:List D}{vs:List V}{n:Nat}{ds:List D},NR K J P xs vs->xs[n]?=some (.lst ds)->∃b ws,vs[n]?=some (.ref b)/\J b=some (.lst ws)/\aD K J ds ws/\P b
 | [],_,_,_,_,q=>by cases q
 | _::_,_,0,_,⟨ds,a,us,vs,h1,h2,h3,h4,h5,_⟩,q=>by subst h1;subst h2;cases q;exact ⟨a,us,rfl,h3,h4,h5⟩
 | _::_,_,n + 1,ds',⟨ds,a,us,vs,h1,h2,h3,h4,h5,h6,h7⟩,q=>by subst h2;exact h7.get (n:=n) q
end
section
variable {X:Cx}{c:C}{pos:Pos}
theorem SR.thaw {J H:Hp}{σ:L2.St}{env:Ev}(sr:SR c J H σ env) (ok:yH env=true){i n:Nat}{xs ds':List D}{p b:Rb}{vs ws ws':List V}(hi:env[i]?=some (some (.ow2 xs))) (hs:σ[i]?=some (some (.ref p))) (hp:H p=some (.lst vs)) (hn:vs[n]?=some (.ref b)) (hb:J b=some (.lst ws)) (h0:c.H0 b=none) (PY:c.J0 b=none)
  (hr:aD c.K J ds' ws') (no:fu ds'=true):SR c (L2.upd J b (.lst ws')) (L2.upd H b (.lst ws')) σ (env.set i (some (.ow2 (xs.set n (.lst ds'))))):=by
 have ne:∀{a:Rb},J a=none->a≠b:=λh e=>by rw [e,hb] at h;cases h
 have hm:V.ref b∈gK H σ i:=by rw [gM hs hp];exact RH hn
 have inE:∀k ys,env[k]?=some (some (.ow2 ys))->gK (L2.upd H b (.lst ws')) σ k=gK H σ k:=λk ys q=>by obtain ⟨p',us,m1,m2,m3,_,_,m4⟩:=sr.nst q;exact (gM m1 (by rw [aQ (ne m3)];exact m2)).trans m4.symm
 refine ⟨⟨λa o q=>?_,λa o q=>?_,λa o q=>?_,λa k1 k2=>?_⟩,by simpa using sr.len,λj y q=>?_,λj k ys zs w hjk q1 q2 q3 q4=>?_,sr.sp2.keep λk ys q=>?_⟩
 ·by_cases e:a=b
  ·subst e;rw [bB] at q ⊢;exact q
  ·rw [aQ e] at q ⊢;exact sr.hp.sub a o q
 ·rw [aQ λe=>by rw [e,h0] at q;cases q];exact sr.hp.ent a o q
 ·rw [aQ λe=>by rw [e,PY] at q;cases q];exact sr.hp.entJ a o q
 ·rw [aQ λe=>k1 (by rw [e];exact h0)];exact sr.hp.frz a k1 k2
 ·rcases cM q with ⟨rfl,hl,rfl⟩ | ⟨hj,q⟩
  ·obtain ⟨p',us,m1,m2,m3,m4,m5,m6⟩:=sr.nst hi;rw [hs] at m1;cases m1;rw [hp] at m2;cases m2;exact ⟨.ref p,hs,p,vs,rfl,by rw [aQ (ne m3)];exact hp,by rw [aQ (ne m3)];exact m3,m4,m5.thaw hb (hr.thaw hb no) (Am ok hi) hn⟩
  ·obtain ⟨w,k1,k2⟩:=sr.at_ j y q;have hy:=Am ok q;refine ⟨w,k1,?_⟩;cases y with
   | d x=>exact Rep.thaw hb hy k2
   | bor zs=>obtain ⟨a,us,m1,m2,m3⟩:=k2;exact ⟨a,us,m1,m2,m3.thaw hb hy⟩
   | own zs=>
    obtain ⟨a,us,rfl,m1,m2,m3,m4⟩:=k2;exact ⟨a,us,rfl,by rw [aQ (ne m2)];exact m1,by rw [aQ (ne m2)];exact m2,m3,m4.thaw hb hy⟩
   | fn _=>exact k2
   | dk _ _=>cases hy
   | db _ _=>cases hy
   | ow2 zs=>
    obtain ⟨a,us,rfl,m1,m2,m3,m4⟩:=k2;exact ⟨a,us,rfl,by rw [aQ (ne m2)];exact m1,by rw [aQ (ne m2)];exact m2,m3,m4.other hb hy λz=>sr.sp2 i j xs zs (SK hj) hi q _ hm (by rw [gM k1 m1];exact z)⟩
 ·have f:∀(k:Nat) (ys:Mn),(env.set i (some (.ow2 (xs.set n (.lst ds')))))[k]?=some (some (mS ys))->∃ys',env[k]?=some (some (mS ys')):=λk ys q=>by
   rcases cM q with ⟨rfl,_,_⟩ | ⟨_,q⟩
   ·exact ⟨.nst xs,hi⟩
   ·exact ⟨ys,q⟩
  obtain ⟨ys',r1⟩:=f j ys q1;obtain ⟨zs',r2⟩:=f k zs q2;exact sr.sep j k ys' zs' w hjk r1 r2 q3 q4
 ·rcases cM q with ⟨rfl,_,_⟩ | ⟨_,q⟩
  ·exact ⟨⟨xs,hi⟩,inE _ _ hi⟩
  ·exact ⟨⟨ys,q⟩,inE _ _ q⟩
structure Jh (X:Cx) (c:C) (st:TJ) (g:G O):Prop where
 h:PS X st (tW c g)
structure F5 (X:Cx) (c:C) (st:List TJ) (g:G O):Prop where
 h:iN X st (tW c g)
theorem Ma {st:List TJ}{g:G O}(h:nV X c st g):F5 X c st g:=⟨oM h.h λ_ _ _ q=>BN q⟩
theorem jl {st:TJ}{g:G O}(h:gY X c st g):Jh X c st g:=⟨fB h.h λ_ _ _ q=>BN q⟩
theorem gw {st:TJ}{rest:List TJ}{t u:G O}(h:Jh X c st t) (h':F5 X c rest u):F5 X c (st::rest) (aJ t u):=⟨oM (yL h.h h'.h) λE σ H ⟨J,env,sr,w⟩=>by
 refine ⟨J,env,sr,aC (aH w) λo wo=>?_⟩;cases o with
 | nx e=>exact λσ' J' H' s' sr'=>⟨J',e,sr',wo⟩
 | rt r=>exact wo
 | bk e=>exact wo
 | ct e=>exact wo⟩
noncomputable def yo (i:Nat) (gi:G R) (k:List D->Ev->M (List D)):G O:=λenv=>match env[i]? with
 | some (some (.ow2 xs))=>gi env >>= λr=>(match r with
  | .d (.int j)=>(match oE xs.length j with
   | some n=>(match xs[n]? with
    | some (.lst ds)=>if yH env=true then k ds env >>= λes=>if fu es=true then .ok (.nx (env.set i (some (.ow2 (xs.set n (.lst es)))))) else .bad else .bad
    | _=>.bad)
   | none=>.bad)
  | _=>.bad)
 | _=>.bad
def Bh (g:G R):List D->Ev->M (List D):=λds env=>g env >>= λr=>toD r >>= λd=>if ds.length < sizeLine then .ok (ds++[d]) else .bad
theorem Mu {i:Nat}{gi:G R}{k:List D->Ev->M (List D)}{E:Ends}{σ:L2.St}{H:Hp}{Q:VK}(hK:X.K=c.K) (h:tW c (yo i gi k) E σ H)
  (hk:∀(J1 H1:Hp) (env:Ev) (xs ds:List D) (n:Nat) (p b:Rb) (vs ws:List V),SR c J1 H1 σ env->yH env=true->env[i]?=some (some (.ow2 xs))->σ[i]?=some (some (.ref p))->H1 p=some (.lst vs)->vs[n]?=some (.ref b)->J1 b=some (.lst ws)->c.H0 b=none->c.J0 b=none->aD c.K J1 ds ws->cA (k ds env >>= λes=>if fu es=true then .ok (.nx (env.set i (some (.ow2 (xs.set n (.lst es)))))) else .bad) (oP c c.J0 E) c.T->Q (.ref b) H1):
  AE (Fo X.K) (FL i) (tD c gi) σ H Q:=by
 obtain ⟨J,env,sr,w⟩:=h;unfold yo at w;split at w
 ·rename_i xs hi;obtain ⟨p,vs,m1,m2,m3,m4,m5,_⟩:=sr.nst hi;refine ⟨.ref p,m1,J,env,sr,aC (aH w) λr wr v J1 H1 e1 r1=>?_⟩;split at wr
  ·rename_i j;cases r1;have sr1:=sr.ext e1;obtain ⟨p',us,k1,k2,k3,k4,k5,_⟩:=sr1.nst hi;rw [m1] at k1;cases k1;rw [e1.h _ _ m2] at k2;cases k2;split at wr
   ·rename_i n hn;split at wr
    ·rename_i ds hds;split at wr
     ·rename_i ok;obtain ⟨b,ws,n1,n2,n3,n4,n5⟩:=k5.get hds;exact ⟨p,vs,j,.ref b,rfl,rfl,bV.of (e1.h _ _ m2),by unfold jL;rw [<-k5.reps.length,hn];exact n1,hk J1 H1 env xs ds n p b vs ws sr1 ok hi m1 (e1.h _ _ m2) n1 n2 n4 n5 n3 wr⟩
     ·exact wr.elim
    ·exact wr.elim
   ·exact wr.elim
  ·exact wr.elim
 ·exact w.elim
theorem Iw (i:Nat){x:Str}{ix e:RA}{gi g:G R}{p0 p1 p2 pos':Pos}(hi:QD X c ix gi) (h:QD X c e g) (hN:X.N[i]?=some x:=by rfl) (hv:nW X.env.scope x:=by first | exact UZ rfl | exact Tq (UZ rfl) | exact Tq (Tq rfl)) (hd:(x == ("__debug__":Str))=false:=by decide) (hcd:(x == ("__classdict__":Str))=false:=by decide)
  (hK:X.K=c.K:=by rfl) (hx:ly ix:=by exact λ_ _=>rfl) (hbase:U9 (.Subscript (.Name x p0) ix p1) "append" X.env (eval (.Subscript (.Name x p0) ix p1) X.env)=eval (.Subscript (.Name x p0) ix p1) X.env:=by rfl)
  (hfew:((SJ pos' (QZ [e] X.env)).all (λx=>!x.1) && (Yb pos' (V5 [] X.env)).all (λx=>x.1.isSome) && decide (([e]:List RA).length + ([]:List V6).length + (if ([]:List V6).isEmpty then 0 else 1) < 30))=true:=by rfl) (hline:(p2.endLine == pos'.line)=true:=by rfl)
  (hst:QZ [e] X.env=(false,eval e X.env)::QZ [] X.env:=by rfl) (hplain:(SJ pos' (QZ [] X.env)).any (·.1)=false:=by rfl)
  (hs:U4 (.Call (.Attribute (.Subscript (.Name x p0) ix p1) "append" p2) [e] [] pos') none pos.line X.env=pure false:=by rfl):Jh X c (.Expr (.Call (.Attribute (.Subscript (.Name x p0) ix p1) "append" p2) [e] [] pos') pos) (yo i gi (Bh g)):=
 ⟨fB (lY (sY Tc U0 U1 jg (Gz Af (jj hN hv hd hcd) hi.h hx) (dF h.h fJ hst) hbase hfew hline hst hplain) hs) λE σ H h=>Mu hK h λJ1 H1 env xs ds n p b vs ws sr ok h1 h2 h3 h4 h5 h6 h7 h8 w=>by
  refine ⟨.inl ⟨rfl,ws,bV.of (sr.hp.sub _ _ h5)⟩,J1,env,sr,?_⟩;have w:=aH w;unfold Bh at w;refine aC (aH w) λr wr y J2 H2 e2 r2=>?_;obtain ⟨d,q,wr⟩:=gy wr;obtain ⟨J3,e3,s3,rd⟩:=freeze e2 r2 q;split at wr
  ·rename_i hz;have wr:cA (if fu (ds++[d])=true then M.ok (O.nx (env.set i (some (.ow2 (xs.set n (.lst (ds++[d]))))))) else .bad) (oP c c.J0 E) c.T:=wr;split at wr
   ·rename_i no;have sr3:=sr.ext e3;have t:=sr3.thaw ok h1 h2 (e3.h _ _ h3) h4 (e3.j _ _ h5) h6 h7 ((h8.mono e3.j).append (.cons rd .nil)) no;exact ⟨b,ws,y,rfl,rfl,sr3.hp.sub _ _ (e3.j _ _ h5),by rw [<-h8.length];exact hz,wr σ _ _ t.hp.entJ t⟩
   ·exact wr.elim
  ·exact wr.elim⟩
end
end DL
namespace K31
open PySem DL
def rN:List Str:=["depths","depth"]
noncomputable def sI:G O:=(bz (oj 1 [0] (bT (ao (g2 cO (af 1) (gC (.int 1))) aE)) (aA 0) b8 (bE 1 [1,0] (mO (af 1)) (aA 0) (bH (gN (aS 3 K33.j6) (ao (af 1) (ao (af 0) (ao (af 2) aE))))) (af 0))))
def jv (as:List S):M R:=fin (sI (aW rN as))
def zJ:List Str:=["one","other","depth"]
noncomputable def Aa:G O:=(aJ (jx (gN (aS 2 K23.fM) (ao (af 0) (ao (af 1) aE))))
 (aJ (jx (gN (aS 3 K55.eK) (ao (af 2) (ao (gC (.int 0)) (ao (gC (.int 6)) aE)))))
 (bz (gN (aS 2 K31.jv) (ao (gN (aS 3 K33.fT) (ao (af 0) (ao (af 1) (ao (bA aU) aE)))) (ao (af 2) aE))))))
def k9 (as:List S):M R:=fin (Aa (aW zJ as))
def lg:List Str:=["_law_one","_law_other","_law_pairs","_law_level","_law_a","_law_b"]
noncomputable def lP:G O:=(aJ (eW (bT (ao (g2 a_ (af 0) (gC (.int 0))) aE)) (aA 4) (bS (eX (bH (gN qM (ao (bE 1 [2,4,3] (bT (ao (g2 a_ (af 1) (gC (.int 0))) aE)) (aA 0) b8 (g2 (jn false) (gN (aS 2 K33.ic) (ao (af 1) (ao (bA (az (af 2) (az (af 0) aU))) aE))) (af 3))) aE)))) (bz (gC (.bl false))) dI))
 (aJ (eW (bT (ao (g2 a_ (af 1) (gC (.int 0))) aE)) (aA 5) (bS (eX (bH (gN qM (ao (bE 1 [2,5,3] (bT (ao (g2 a_ (af 0) (gC (.int 0))) aE)) (aA 0) b8 (g2 (jn false) (gN (aS 2 K33.ic) (ao (af 1) (ao (bA (az (af 0) (az (af 2) aU))) aE))) (af 3))) aE)))) (bz (gC (.bl false))) dI))
 (bz (gC (.bl true)))))
def gg (as:List S):M R:=fin (lP (aW lg as))
def rL:List Str:=["_law_one","_law_other","_law_layer","_law_level","_law_pairs"]
noncomputable def sG:G O:=(aJ (Gf 3)
 (aJ (eW (kY (af 2)) (aA 4) (qR 3 (af 4) (gC (.bl true))))
 (bz (bE 1 [0,1,3] (dQ (af 2)) (aA 0) (bH (gN (aS 4 K31.gg) (ao (af 1) (ao (af 2) (ao (af 0) (ao (af 3) aE)))))) (af 0)))))
def ju (as:List S):M R:=fin (sG (aW rL as))
def MW:List Str:=["_law_script","_law_one","_law_other","_law_depth","_law_found","_law_k","_law_kept"]
noncomputable def JK:G O:=(aJ (kX (dU 2 (bD (aA 1) (bD (aA 2) eF))) (gN (aS 2 K55.jc) (ao (af 0) (ao (gF (az (gC (.int 2)) (az (gC (.int 3)) (az (gC (.int 1)) (az (gC (.int 3)) (az (gC (.int 2)) (az (gC (.int 3)) (az (gC (.int 2)) (az (gC (.int 4)) aU))))))))) aE))))
 (aJ (bh 3 (g2 eO (gN (aS 2 K51.b_) (ao (af 0) (ao (gC (.int 16)) aE))) (gC (.int 7))))
 (aJ (bS (bH (g2 (jO λi j=>.bl (decide (j < i))) (g2 cO (g2 a_ (af 1) (gC (.int 0))) (g2 a_ (af 2) (gC (.int 0)))) (gC (.int 7)))) (bh 3 (g2 eO (af 3) (gC (.int 3)))) dI)
 (aJ (bh 4 (gN (aS 3 K31.k9) (ao (af 1) (ao (af 2) (ao (af 3) aE)))))
 (aJ (bS (lO (eX (bH (yk "list" (af 4)))) (bH (g2 (dM true) (gN iC (ao (af 4) aE)) (g2 cO (af 3) (gC (.int 1)))))) (bz (gC (.bl false))) dI)
 (aJ (bS (lO (eX (bH (gN n_ (ao (bE 1 [] (dQ (af 4)) (aA 0) b8 (yk "list" (af 0))) aE)))) (bH (g2 (dM true) (g2 a_ (af 4) (gC (.int 0))) (gN (aS 3 K23.gX) (ao (af 1) (ao (af 2) (ao (gC (.int 4)) aE))))))) (bz (gC (.bl false))) dI)
 (aJ (eW (bT (ao (af 3) aE)) (aA 5) (bS (kW (bH (g2 (jO λi j=>.bl (decide (j < i))) (af 5) (gC (.int 0)))) (bH (g2 (dM false) (g2 a_ (af 4) (af 5)) (g2 a_ (af 4) (g2 Bb (af 5) (gC (.int 1))))))) (bS (bH (g2 (dM true) (g2 a_ (af 4) (g2 cO (af 5) (gC (.int 1)))) (g2 a_ (af 4) (af 5)))) (bz (gC (.bl false))) dI) (bS (bH (g2 (dM true) (g2 a_ (af 4) (g2 cO (af 5) (gC (.int 1)))) (gN (aS 3 K31.ju) (ao (af 1) (ao (af 2) (ao (g2 a_ (af 4) (af 5)) aE)))))) (bz (gC (.bl false))) dI)))
 (aJ (bh 6 (oj 1 [] (dQ (af 4)) (aA 0) b8 (gN A_ (ao (af 0) aE))))
 (aJ (yo 4 (qP (gC (.int 1))) (Bh (bA aU)))
 (bz (mK (g2 (dM false) (qe oh (af 4) yl (ym (qP (gC (.int 1))))) (qe oh (af 6) yl (ym (qP (gC (.int 1)))))) (g2 (dM false) (gN (aS 3 K31.k9) (ao (af 1) (ao (af 2) (ao (af 3) aE)))) (af 6)))))))))))))
def t7 (as:List S):M R:=fin (JK (aW MW as))
end K31
namespace K31
open PySem PySem.Spec PyProof.Rows L2 DL DX
structure c_ (w:Rz) (K:QJ) (mg:Str->Option QL):Prop where
 all:mg "all"=none
 any:mg "any"=none
 bool:mg "bool"=none
 int:mg "int"=none
 isinstance:mg "isinstance"=none
 len:mg "len"=none
 list:mg "list"=none
 range:mg "range"=none
 set:mg "set"=none
 sorted:mg "sorted"=none
 tuple:mg "tuple"=none
 MOST_DEPTH:AN K mg "MOST_DEPTH" (.int 6)
 MOST_SMALL:AN K mg "MOST_SMALL" (.int 4)
 fv_answered_still:D6 K mg "answered_still"
section
variable {P:Ra}{w:Rz}{K:QJ}{mg:Str->Option QL}{base:Sn}{f:Rb}{fd:Ry}
abbrev vP:TJ:=top 6
theorem zo (m:c_ w K mg) (e:FB K mg "is_whole" vP):bx P w K mg base 1 1 "is_whole" K01.nN:=
 qc K01.vg K01.uR 1 e (λnd _ cdv A outer s H E J T hr=>
 (aF (aT (uF (iH HB Cj m.int (aa 0) m.isinstance) (nh (Iu (iH EI A5 m.bool (aa 0) m.isinstance)))))))
abbrev tP:TJ:=top 7
theorem xW (m:c_ w K mg) (e:FB K mg "tongue_of" tP):bx P w K mg base 1 1 "tongue_of" K23.ir:=
 qc K23.sJ K23.rO 1 e (λnd _ cdv A outer s H E J T hr=>
 (ay (jU (aa 0) (c8 (aX (aB 1 nd) (aX (aB 2 nd) (aX (aB 3 nd) cS)))))
 (aF (aT (aZ (au (bX (ak (bJ (dX ["name","points"] [] (bU (aa 2)) (λ_ _ _ _ _ hc=>⟨(c8 (aX (aB 0 (bI rfl)) (aX (aB 1 (bI rfl)) cS))),aY,(aa 0)⟩))) aq) m.tuple) (au (bX (ak (bJ (dX ["name","pairs"] [] (bU (aa 3)) (λ_ _ _ _ _ hc=>⟨(c8 (aX (aB 0 (bI rfl)) (aX (aB 1 (bI rfl)) cS))),aY,(aa 0)⟩))) aq) m.tuple) aM)))))))
abbrev o5:TJ:=top 8
theorem uh (m:c_ w K mg) (Om:bx P w K mg base 1 1 "tongue_of" K23.ir) (e:FB K mg "need_tongue" o5):bx P w K mg base 2 2 "need_tongue" K23.ig:=
 qc K23.ow K23.nU 2 e (λnd _ cdv A outer s H E J T hr=>
 (aF (bR (l6 hr.units (aP Om hr (ak (aa 0) aq)) (aP Om hr (ak (aa 1) aq))) (aF ng) bL)))
abbrev jZ:TJ:=top 11
theorem n6 (m:c_ w K mg) (e:FB K mg "need_few_points" jZ):bx P w K mg base 1 1 "need_few_points" K23.fj:=
 qc K23.jP K23.jI 1 e (λnd _ cdv A outer s H E J T hr=>
 (aF (c7 (i7 (aa 0)) (aB 1 nd) (aF (bR (g9 pK (gq λ_ _ _=>.bl _) (aI (aa 1) av) (kG m.MOST_SMALL)) (aF ng) bL)))))
abbrev qA:TJ:=top 12
theorem wD (m:c_ w K mg) (Ou:bx P w K mg base 2 2 "need_tongue" K23.ig) (Ob:bx P w K mg base 1 1 "need_few_points" K23.fj) (e:FB K mg "need_small" qA):bx P w K mg base 3 2 "need_small" K23.fM:=
 qc K23.qm K23.p5 2 e (λnd _ cdv A outer s H E J T hr=>
 (ay (g_ (aP Ou hr (ak (aa 0) (ak (aa 1) aq))))
 (aF (g_ (aP Ob hr (ak (aZ (au (aa 0) (au (aa 1) aM))) aq))))))
abbrev qz:TJ:=top 13
theorem wC (m:c_ w K mg) (OF:bx P w K mg base 1 1 "is_whole" K01.nN) (e:FB K mg "need_count" qz):bx P w K mg base 2 3 "need_count" K55.eK:=
 qc K55.ql K55.pZ 3 e (λnd _ cdv A outer s H E J T hr=>
 (aF (bR (iZ (oO (gu (c6 (aP OF hr (ak (aa 0) aq)))) (oO (g9 Gx (gq λ_ _ _=>.bl _) (aa 0) (aa 1)) (pM (g9 pK (gq λ_ _ _=>.bl _) (aa 0) (aa 2)))))) (aF ng) bL)))
abbrev AD:TJ:=top 15
theorem Cu (m:c_ w K mg) (e:FB K mg "rising" AD):bx P w K mg base 1 1 "rising" K23.pg:=
 qc K23.Ac K23.zK 1 e (λnd _ cdv A outer s H E J T hr=>
 (ay (bR (DC (aa 0) l7) (aF (aT (aZ aM))) bL)
 (aF (aT (bX (ak (vF hr.units (ak (aa 0) aq) m.sorted m.set) aq) m.tuple)))))
abbrev GJ:TJ:=top 16
theorem G3 (m:c_ w K mg) (e:FB K mg "view" GJ):bx P w K mg base 1 3 "view" K23.wN:=
 qc K23.Gi K23.F2 3 e (λnd _ cdv A outer s H E J T hr=>
 (ay (jU (aa 0) (c8 (aX (aB 3 nd) (aX (aB 4 nd) (aX (aB 5 nd) cS)))))
 (ay (aN 6 nd (bX (ak (bJ (dX ["name","points"] [1] (bU (aa 4)) (λ_ _ _ _ _ hc=>⟨(c8 (aX (aB 0 (bI rfl)) (aX (aB 1 (bI rfl)) cS))),aY,(yO hr.units (aa 2) (aa 1))⟩))) aq) m.tuple))
 (ay (aN 7 nd (bX (ak (bJ (dX ["name","pairs"] [1,2] (bU (aa 5)) (λ_ _ _ _ _ hc=>⟨(c8 (aX (aB 0 (bI rfl)) (aX (aB 1 (bI rfl)) cS))),aY,(yO hr.units (aZ (au (aa 2) (au (aa 3) aM))) (aa 1))⟩))) aq) m.tuple))
 (aF (aT (aZ (au (oQ hr.units (aa 1) (aa 2)) (au (aa 6) (au (aa 7) aM))))))))))
abbrev DR:TJ:=top 17
theorem Ek (m:c_ w K mg) (Pc:bx P w K mg base 1 3 "view" K23.wN) (e:FB K mg "views" DR):bx P w K mg base 2 1 "views" K23.nO:=
 qc K23.CQ K23.B4 1 e (λnd _ cdv A outer s H E J T hr=>
 (aF (aT (bJ (Jw hr.units ["one","other"] [0] (cW (bf (ak (aI (aa 0) av) aq) m.range)) (λ_ _ _ _ _ hc=>⟨(aB 0 (bI rfl)),aY,(bf (ak (aI (aa 2) av) aq) m.range),(aB 1 (bI rfl)),aY,(aZ (au (aa 0) (au (aa 1) aM))),(aP Pc hr (ak (aa 2) (ak (aa 0) (ak (aa 1) aq))))⟩))))))
abbrev DO:TJ:=top 18
theorem Ei (m:c_ w K mg) (e:FB K mg "agree" DO):bx P w K mg base 1 4 "agree" K23.d9:=
 qc K23.CO K23.B3 4 e (λnd _ cdv A outer s H E J T hr=>
 (aF (aT (oQ hr.units (fQ hr.units (aa 0) (aZ (au (aI (aa 2) av) (au (aI (aa 3) av) aM)))) (fQ hr.units (aa 1) (aZ (au (aI (aa 2) av) (au (aI (aa 3) av) aM))))))))
abbrev oX:TJ:=top 19
theorem ug (m:c_ w K mg) (Oq:bx P w K mg base 1 4 "agree" K23.d9) (e:FB K mg "goes_behind" oX):bx P w K mg base 2 4 "goes_behind" K23.ie:=
 qc K23.oq K23.nR 4 e (λnd _ cdv A outer s H E J T hr=>
 (ay (bR (iZ (uD (pN (aa 2)) (qX (Ir hr.units (aa 3) (aI (aa 2) (pO av)))))) (aF (aT fK)) bL)
 (ay (c7 (i7 (aa 2)) (aB 4 nd) (aF (bR (iZ (oO (gu (c6 (aP Oq hr (ak (aa 0) (ak (aa 1) (ak (aa 3) (ak (aa 4) aq))))))) (pM (gu (c6 (aP Oq hr (ak (aa 0) (ak (aa 1) (ak (aa 4) (ak (aa 3) aq)))))))))) (aF (aT fK)) bL)))
 (aF (aT fK)))))
abbrev vS:TJ:=top 20
theorem zw (m:c_ w K mg) (N_:bx P w K mg base 3 2 "need_small" K23.fM) (N9:bx P w K mg base 2 3 "need_count" K55.eK) (OM:bx P w K mg base 2 1 "views" K23.nO) (Oq:bx P w K mg base 1 4 "agree" K23.d9) (Ot:bx P w K mg base 2 4 "goes_behind" K23.ie) (e:FB K mg "pairings" vS):bx P w K mg base 4 3 "pairings" K23.gX:=
 qc K23.vj K23.uT 3 e (λnd _ cdv A outer s H E J T hr=>
 (ay (g_ (aP N_ hr (ak (aa 0) (ak (aa 1) aq))))
 (ay (g_ (aP N9 hr (ak (aa 2) (ak av (ak (kG m.MOST_SMALL) aq)))))
 (ay (aN 3 nd (aP OM hr (ak (aa 0) aq)))
 (ay (aN 4 nd (aP OM hr (ak (aa 1) aq)))
 (ay (aN 5 nd (bJ (Jx ["a","b"] [1,3,4] (cW (bf (ak (aI (aa 0) av) aq) m.range)) (λ_ _ _ _ _ hc=>⟨(aB 0 (bI rfl)),aY,(bf (ak (aI (aa 2) av) aq) m.range),(aB 1 (bI rfl)),(dw (c6 (aP Oq hr (ak (aa 3) (ak (aa 4) (ak (aZ (au (aa 0) (au (aa 1) aM))) (ak (aZ (au (aa 0) (au (aa 1) aM))) aq))))))),(aZ (au (aa 0) (au (aa 1) aM)))⟩))))
 (ay (nc 5 (aN 6 nd (e_ (au (aZ aM) aM))))
 (ay (aN 7 nd (e_ (au (aZ aM) aM)))
 (ay (c7 (bf (ak (aa 2) aq) m.range) (aB 8 nd) (ay (nc 5 (i6 6 nd (Jx ["ahead","pair"] [5,3,4] (bU (aa 6)) (λ_ _ _ _ _ hc=>⟨(aB 0 (bI rfl)),aY,(i7 (aa 2)),(aB 1 (bI rfl)),(dw (c6 (aP Ot hr (ak (aa 3) (ak (aa 4) (ak (aa 0) (ak (aa 1) aq))))))),(fC (aa 0) (aZ (au (aa 1) aM)))⟩))))
 (aF (zA 7 (aa 6)))))
 (aF (aT (aa 7))))))))))))
abbrev DN:TJ:=top 23
theorem Eh (m:c_ w K mg) (OT:bx P w K mg base 1 1 "rising" K23.pg) (e:FB K mg "added" DN):bx P w K mg base 2 2 "added" K33.nM:=
 qc K33.CN K33.B0 2 e (λnd _ cdv A outer s H E J T hr=>
 (aF (aT (aP OT hr (ak (fC (aa 0) (aZ (au (aa 1) aM))) aq)))))
abbrev qB:TJ:=top 24
theorem wF (m:c_ w K mg) (e:FB K mg "pairs_with" qB):bx P w K mg base 1 4 "pairs_with" K33.fN:=
 qc K33.qo K33.p6 4 e (λnd _ cdv A outer s H E J T hr=>
 (ay (bR (lZ hr.units (aa 2) av) (aF (aT (bJ (dX ["answer"] [3] (cW (bf (ak (aI (aa 1) av) aq) m.range)) (λ_ _ _ _ _ hc=>⟨(aB 0 (bI rfl)),aY,(aZ (au (aa 1) (au (aa 0) aM)))⟩))))) bL)
 (aF (aT (bJ (dX ["answer"] [3] (cW (bf (ak (aI (aa 0) av) aq) m.range)) (λ_ _ _ _ _ hc=>⟨(aB 0 (bI rfl)),aY,(aZ (au (aa 0) (au (aa 1) aM)))⟩)))))))
abbrev vU:TJ:=top 25
theorem zx (m:c_ w K mg) (e:FB K mg "picks_of" vU):bx P w K mg base 1 2 "picks_of" K33.kc:=
 qc K33.vn K33.uU 2 e (λnd _ cdv A outer s H E J T hr=>
 (aF (aT (cX (bJ (dX ["point"] [] (cW (bf (ak (aI (aa 0) av) aq) m.range)) (λ_ _ _ _ _ hc=>⟨(aB 0 (bI rfl)),aY,(aZ (au av (au (aa 0) aM)))⟩))) (bJ (dX ["point"] [] (cW (bf (ak (aI (aa 1) av) aq) m.range)) (λ_ _ _ _ _ hc=>⟨(aB 0 (bI rfl)),aY,(aZ (au av (au (aa 0) aM)))⟩)))))))
abbrev vR:TJ:=top 26
theorem zu (m:c_ w K mg) (Of:bx P w K mg base 1 4 "pairs_with" K33.fN) (OU:bx P w K mg base 2 2 "added" K33.nM) (OI:bx P w K mg base 1 2 "picks_of" K33.kc) (e:FB K mg "outcomes" vR):bx P w K mg base 3 4 "outcomes" K33.j_:=
 qc K33.vh K33.uS 4 e (λnd _ cdv A outer s H E J T hr=>
 (ay (aN 4 nd (bJ (Jw hr.units ["a","pair"] [0,1,2] (cW (bf (ak (aI (aa 0) av) aq) m.range)) (λ_ _ _ _ _ hc=>⟨(aB 0 (bI rfl)),aY,(i7 (aP Of hr (ak (aa 2) (ak (aa 3) (ak av (ak (aa 0) aq)))))),(aB 1 (bI rfl)),aY,(aa 1),(aP OU hr (ak (aa 4) (ak (aa 1) aq)))⟩))))
 (aF (aT (bJ (dX ["side","point"] [0,1,4,3] (bU (aP OI hr (ak (aa 0) (ak (aa 1) aq)))) (λ_ _ _ _ _ hc=>⟨(c8 (aX (aB 0 (bI rfl)) (aX (aB 1 (bI rfl)) cS))),aY,(bJ (dX ["pair"] [4,5] (bU (aP Of hr (ak (aa 2) (ak (aa 3) (ak (aa 0) (ak (aa 1) aq)))))) (λ_ _ _ _ _ hc=>⟨(aB 0 (bI rfl)),(dw (Iq hr.units (fQ hr.units (aa 1) (aa 0)) (aa 2))),(fQ hr.units (aa 1) (aa 0))⟩) (n8 (jE hc rfl))))⟩)))))))
abbrev kJ:TJ:=top 27
theorem pT (m:c_ w K mg) (e:FB K mg "answered_still" kJ):bx P w K mg base 1 2 "answered_still" K33.cK:=
 qc K33.kC K33.ki 2 e (λnd _ cdv A outer s H E J T hr=>
 (aF (aT (uE (ak (bJ (dX ["row"] [1] (bU (aa 0)) (λ_ _ _ _ _ hc=>⟨(aB 0 (bI rfl)),aY,(uG (ak (bJ (dX ["pairing"] [1] (bU (aa 0)) (λ_ _ _ _ _ hc=>⟨(aB 0 (bI rfl)),aY,(DG (fQ hr.units (aa 1) (aa 0)) l7)⟩) (n8 (jE hc rfl)))) aq) m.any)⟩))) aq) m.all))))
abbrev AB:TJ:=top 28
theorem Ct (m:c_ w K mg) (N8:bx P w K mg base 1 2 "answered_still" K33.cK) (e:FB K mg "peeled" AB):bx P w K mg base 2 2 "peeled" K33.k_:=
 qc K33.Ab K33.pq 2 e (λnd _ cdv A outer s H E J T hr=>
 (ay (aN 2 nd (bJ (Eo hr.units ["pairing"] [] (jV (aa 0)) (λ_ _ _ _ _ hc=>⟨(aB 0 (bI rfl)),aY,(aa 0),l7⟩))))
 (ay (aN 3 nd av)
 (ay (i6 4 nd (dX ["pairing"] [1,0,2] (jV (aa 0)) (λ_ _ _ _ _ hc=>⟨(aB 0 (bI rfl)),(dw (gu (c6 (yN 1 N8 m.fv_answered_still hr (ak (fQ hr.units (aa 2) (aa 0)) (ak (aa 3) aq)) Au)))),(aa 0)⟩)))
 (ay (BA 400000 (pN (aa 4)) (ay (nc 4 (c7 (i7 (aa 4)) (aB 5 nd) (aF (yM 2 hr.units (aa 3) (aa 5)))))
 (ay (DE 3 nd av)
 (aF (i6 4 nd (dX ["pairing"] [2,1,0] (jV (aa 0)) (λ_ _ _ _ _ hc=>⟨(aB 0 (bI rfl)),(dw (iZ (uD (DC (fQ hr.units (aa 1) (aa 0)) l7) (qX (gu (c6 (yN 2 N8 m.fv_answered_still hr (ak (fQ hr.units (aa 3) (aa 0)) (ak (aa 1) aq)) Au))))))),(aa 0)⟩)))))))
 (aF (aT (aa 2))))))))
abbrev mq:TJ:=top 29
theorem qI (m:c_ w K mg) (Oc:bx P w K mg base 4 3 "pairings" K23.gX) (e:FB K mg "pairings_with" mq):bx P w K mg base 5 3 "pairings_with" K33.gn:=
 qc K33.lQ K33.lq 3 e (λnd _ cdv A outer s H E J T hr=>
 (aF (aT (bJ (dX ["pairing"] [2] (bU (aP Oc hr (ak (aa 0) (ak (aa 1) (ak (kG m.MOST_SMALL) aq))))) (λ_ _ _ _ _ hc=>⟨(aB 0 (bI rfl)),(dw (c6 (uE (ak (bJ (dX ["pair"] [0] (bU (aa 1)) (λ_ _ _ _ _ hc=>⟨(aB 0 (bI rfl)),aY,(yO hr.units (aa 0) (aa 1))⟩) (n8 (jE hc rfl)))) aq) m.all))),(aa 0)⟩))))))
abbrev kM:TJ:=top 30
theorem pU (m:c_ w K mg) (Ol:bx P w K mg base 5 3 "pairings_with" K33.gn) (OH:bx P w K mg base 3 4 "outcomes" K33.j_) (OR:bx P w K mg base 2 2 "peeled" K33.k_) (e:FB K mg "parting_depths" kM):bx P w K mg base 6 3 "parting_depths" K33.fT:=
 qc K33.kD K33.kj 3 e (λnd _ cdv A outer s H E J T hr=>
 (ay (aN 3 nd (bJ (Eo hr.units ["pairing"] [] (bU (aP Ol hr (ak (aa 0) (ak (aa 1) (ak (aa 2) aq))))) (λ_ _ _ _ _ hc=>⟨(aB 0 (bI rfl)),aY,(aa 0),fK⟩))))
 (ay (i6 4 nd (Eo hr.units ["pairing"] [0,1,3] (jV (aa 3)) (λ_ _ _ _ _ hc=>⟨(aB 0 (bI rfl)),aY,(aa 0),(aP OH hr (ak (aa 1) (ak (aa 2) (ak (aa 0) (ak (aa 3) aq)))))⟩)))
 (aF (aT (Fg OR m.fv_answered_still hr (aa 4)))))))
abbrev vO:TJ:=top 31
theorem zm (m:c_ w K mg) (e:FB K mg "in_layer" vO):bx P w K mg base 1 3 "in_layer" K33.j6:=
 qc K33.vf K33.nT 3 e (λnd _ cdv A outer s H E J T hr=>
 (aF (aT (uF (uH hr.units (aa 1) (aa 0)) (nh (K5 (DG (fQ hr.units (aa 0) (aa 1)) l7) (nh (K4 (fQ hr.units (aa 0) (aa 1)) (aa 2)))))))))
abbrev tL:TJ:=top 32
theorem xV (m:c_ w K mg) (OE:bx P w K mg base 1 3 "in_layer" K33.j6) (e:FB K mg "layers_of" tL):bx P w K mg base 2 2 "layers_of" K31.jv:=
 qc K31.sI K31.rN 2 e (λnd _ cdv A outer s H E J T hr=>
 (aF (aT (bJ (MH ["step"] [0] (cW (bf (ak (cX (aa 1) av) aq) m.range)) (λ_ _ _ _ _ hc=>⟨(aB 0 (bI rfl)),aY,(bJ (dX ["pairing"] [1,0] (jV (aa 1)) (λ_ _ _ _ _ hc=>⟨(aB 0 (bI rfl)),(dw (c6 (aP OE hr (ak (aa 1) (ak (aa 0) (ak (aa 2) aq)))))),(aa 0)⟩) (n8 (jE hc rfl))))⟩))))))
abbrev Az:TJ:=top 33
theorem Cs (m:c_ w K mg) (N_:bx P w K mg base 3 2 "need_small" K23.fM) (N9:bx P w K mg base 2 3 "need_count" K55.eK) (Og:bx P w K mg base 6 3 "parting_depths" K33.fT) (Ox:bx P w K mg base 2 2 "layers_of" K31.jv) (e:FB K mg "layers" Az):bx P w K mg base 7 3 "layers" K31.k9:=
 qc K31.Aa K31.zJ 3 e (λnd _ cdv A outer s H E J T hr=>
 (ay (g_ (aP N_ hr (ak (aa 0) (ak (aa 1) aq))))
 (ay (g_ (aP N9 hr (ak (aa 2) (ak av (ak (kG m.MOST_DEPTH) aq)))))
 (aF (aT (aP Ox hr (ak (aP Og hr (ak (aa 0) (ak (aa 1) (ak (aZ aM) aq)))) (ak (aa 2) aq))))))))
abbrev tG:TJ:=top 35
theorem xM (m:c_ w K mg) (e:FB K mg "_law_cell" tG):bx P w K mg base 1 2 "_law_cell" K51.b_:=
 qc K51.sF K51.rK 2 e (λnd _ cdv A outer s H E J T hr=>
 (ay (bR (g9 Gx (gq λ_ _ _=>.bl _) (aa 1) (eZ (ak (aa 0) aq) m.len)) (aF (aT (cL (aI (aa 0) (aa 1)) (Iv av av)))) bL)
 (aF (aT av))))
abbrev qw:TJ:=top 36
theorem wc (m:c_ w K mg) (e:FB K mg "_law_names" qw):bx P w K mg base 1 2 "_law_names" K51.fL:=
 qc K51.qf K51.pW 2 e (λnd _ cdv A outer s H E J T hr=>
 (ay (aN 2 nd uI)
 (ay (aN 3 nd (aI (aa 2) (cL (d7 (aa 0) av) av)))
 (ay (aN 4 nd (jk (aa 3) (cX av (cL (d7 (aa 0) av) av))))
 (ay (aN 5 nd (e_ aM))
 (ay (c7 (bf (ak (aa 1) aq) m.range) (aB 6 nd) (ay (aN 7 nd (aI (aa 2) (cL (cX (d7 (aa 0) av) (jk av (aa 6))) av)))
 (ay (aN 8 nd (aI (e_ (au (cX (aa 4) (aa 7)) (au (cX (aa 7) (aa 4)) (au (jk (aa 3) (cX (aa 6) av)) aM)))) (cL (aa 0) av)))
 (ay (bR (lZ hr.units (aa 8) uI) (aF (aN 8 nd uI)) bL)
 (aF (jb 5 (aa 8)))))))
 (aF (aT (BC (ak (aa 5) aq) m.sorted)))))))))
abbrev tF:TJ:=top 37
theorem xK (m:c_ w K mg) (e:FB K mg "_law_bits" tF):bx P w K mg base 1 2 "_law_bits" K51.gj:=
 qc K51.sE K51.rJ 2 e (λnd _ cdv A outer s H E J T hr=>
 (ay (aN 2 nd (e_ aM))
 (ay (c7 (bf (ak (aa 1) aq) m.range) (aB 3 nd) (ay (jb 2 (oQ hr.units (cL (aa 0) av) av))
 (aF (aN 0 nd (d7 (aa 0) av)))))
 (aF (aT (aa 2))))))
abbrev qy:TJ:=top 38
theorem wg (m:c_ w K mg) (Oi:bx P w K mg base 1 2 "_law_bits" K51.gj) (e:FB K mg "_law_world" qy):bx P w K mg base 2 3 "_law_world" K51.eH:=
 qc K51.qi K51.pY 3 e (λnd _ cdv A outer s H E J T hr=>
 (ay (aN 3 nd (e_ aM))
 (ay (c7 (bf (ak (eZ (ak (aI (aa 0) av) aq) m.len) aq) m.range) (aB 4 nd) (ay (aN 5 nd (aP Oi hr (ak (aI (aa 2) (aa 4)) (ak (aa 1) aq))))
 (aF (jb 3 (aZ (au (aI (aI (aa 0) av) (aa 4)) (au (bX (ak (bJ (dX ["_law_p"] [5] (cW (bf (ak (aa 1) aq) m.range)) (λ_ _ _ _ _ hc=>⟨(aB 0 (bI rfl)),(dw (pN (aI (aa 1) (aa 0)))),(aa 0)⟩))) aq) m.tuple) aM)))))))
 (ay (aN 6 nd (e_ aM))
 (ay (c7 (bf (ak (eZ (ak (aI (aa 0) av) aq) m.len) aq) m.range) (aB 4 nd) (ay (aN 5 nd (aP Oi hr (ak (aI (aa 2) (cX av (aa 4))) (ak (jk (aa 1) (aa 1)) aq))))
 (aF (jb 6 (aZ (au (aI (aI (aa 0) av) (aa 4)) (au (bX (ak (bJ (dX ["_law_p"] [5,1] (cW (bf (ak (jk (aa 1) (aa 1)) aq) m.range)) (λ_ _ _ _ _ hc=>⟨(aB 0 (bI rfl)),(dw (pN (aI (aa 1) (aa 0)))),(aZ (au (d7 (aa 0) (aa 2)) (au (cL (aa 0) (aa 2)) aM)))⟩))) aq) m.tuple) aM)))))))
 (aF (aT (aZ (au (aa 1) (au (bX (ak (aa 3) aq) m.tuple) (au (bX (ak (aa 6) aq) m.tuple) aM)))))))))))
abbrev qx:TJ:=top 39
theorem we (m:c_ w K mg) (e:FB K mg "_law_order" qx):bx P w K mg base 1 2 "_law_order" K55.gI:=
 qc K55.qh K55.pX 2 e (λnd _ cdv A outer s H E J T hr=>
 (ay (aN 2 nd (BB (ak (aa 1) aq) m.range m.list))
 (ay (aN 3 nd (e_ aM))
 (ay (c7 (bf (ak (aa 1) aq) m.range) (aB 4 nd) (ay (zy 3 2 (cL (aa 0) (eZ (ak (aa 2) aq) m.len)))
 (aF (aN 0 nd (d7 (aa 0) av)))))
 (aF (aT (bX (ak (aa 3) aq) m.tuple)))))))
abbrev oW:TJ:=top 40
theorem uf (m:c_ w K mg) (e:FB K mg "_law_turned" oW):bx P w K mg base 1 2 "_law_turned" K55.ia:=
 qc K55.om K55.nQ 2 e (λnd _ cdv A outer s H E J T hr=>
 (ay (i6 2 nd (dX ["_law_name","_law_points"] [1] (bU (aI (aa 0) av)) (λ_ _ _ _ _ hc=>⟨(c8 (aX (aB 0 (bI rfl)) (aX (aB 1 (bI rfl)) cS))),aY,(aZ (au (aa 0) (au (bX (ak (vE hr.units (ak (bJ (dX ["_law_p"] [2] (bU (aa 1)) (λ_ _ _ _ _ hc=>⟨(aB 0 (bI rfl)),aY,(aI (aa 1) (aa 0))⟩) (n8 (jE hc rfl)))) aq) m.sorted) aq) m.tuple) aM)))⟩)))
 (ay (i6 3 nd (dX ["_law_name","_law_some"] [1] (bU (aI (aa 0) av)) (λ_ _ _ _ _ hc=>⟨(c8 (aX (aB 0 (bI rfl)) (aX (aB 1 (bI rfl)) cS))),aY,(aZ (au (aa 0) (au (bX (ak (vE hr.units (ak (bJ (dX ["_law_p","_law_q"] [2] (bU (aa 1)) (λ_ _ _ _ _ hc=>⟨(c8 (aX (aB 0 (bI rfl)) (aX (aB 1 (bI rfl)) cS))),aY,(aZ (au (aI (aa 2) (aa 0)) (au (aI (aa 2) (aa 1)) aM)))⟩) (n8 (jE hc rfl)))) aq) m.sorted) aq) m.tuple) aM)))⟩)))
 (aF (aT (aZ (au (aI (aa 0) av) (au (bX (ak (aa 2) aq) m.tuple) (au (bX (ak (aa 3) aq) m.tuple) aM)))))))))
abbrev nL:TJ:=top 41
theorem rW (m:c_ w K mg) (e:FB K mg "_law_flipped" nL):bx P w K mg base 1 2 "_law_flipped" K55.dY:=
 qc K55.nE K55.nB 2 e (λnd _ cdv A outer s H E J T hr=>
 (ay (jU (aa 0) (c8 (aX (aB 2 nd) (aX (aB 3 nd) (aX (aB 4 nd) cS)))))
 (ay (bR (lZ hr.units (fC (eZ (ak (aa 3) aq) m.len) (eZ (ak (aa 4) aq) m.len)) av) (aF (aT (aa 0))) bL)
 (ay (aN 5 nd (cL (aa 1) (fC (eZ (ak (aa 3) aq) m.len) (eZ (ak (aa 4) aq) m.len))))
 (ay (aN 6 nd (cL (d7 (aa 1) av) (aa 2)))
 (ay (aN 7 nd (aa 3))
 (ay (bR (g9 LX (gq λ_ _ _=>.bl _) (aa 5) (eZ (ak (aa 3) aq) m.len)) (ay (aN 5 nd (Av (aa 5) (eZ (ak (aa 3) aq) m.len)))
 (ay (aN 6 nd (aZ (au (aa 6) (au (cL (d7 (aa 1) av) (aa 2)) aM))))
 (aF (aN 7 nd (aa 4))))) bL)
 (ay (jU (aI (aa 7) (aa 5)) (c8 (aX (aB 8 nd) (aX (aB 9 nd) cS))))
 (ay (aN 10 nd (bX (ak (DH hr.units (ak (fC (aa 9) (aZ (au (aa 6) aM))) aq) m.sorted m.set) aq) m.tuple))
 (ay (bR (K3 hr.units (aa 6) (aa 9)) (aF (aN 10 nd (bX (ak (bJ (dX ["_law_one"] [6] (bU (aa 9)) (λ_ _ _ _ _ hc=>⟨(aB 0 (bI rfl)),(dw (l6 hr.units (aa 0) (aa 1))),(aa 0)⟩))) aq) m.tuple))) bL)
 (ay (aN 7 nd (fC (fC (pP (aa 7) kH (kI (aa 5))) (aZ (au (aZ (au (aa 8) (au (aa 10) aM))) aM))) (pP (aa 7) (kI (fC (aa 5) av)) kH)))
 (ay (bR (c6 (iH kit_tuple zk m.tuple (aa 6) m.isinstance)) (aF (aT (aZ (au (aa 2) (au (aa 3) (au (aa 7) aM)))))) bL)
 (aF (aT (aZ (au (aa 2) (au (aa 7) (au (aa 4) aM))))))))))))))))))
abbrev vN:TJ:=top 42
theorem zl (m:c_ w K mg) (N6:bx P w K mg base 1 2 "_law_cell" K51.b_) (Od:bx P w K mg base 1 2 "_law_names" K51.fL) (Oe:bx P w K mg base 2 3 "_law_world" K51.eH) (Ov:bx P w K mg base 1 2 "_law_order" K55.gI) (Oo:bx P w K mg base 1 2 "_law_turned" K55.ia) (Oa:bx P w K mg base 1 2 "_law_flipped" K55.dY) (e:FB K mg "_law_two" vN):bx P w K mg base 3 2 "_law_two" K55.jc:=
 qc K55.ve K55.uQ 2 e (λnd _ cdv A outer s H E J T hr=>
 (ay (aN 2 nd (aP N6 hr (ak (aa 0) (ak av aq))))
 (ay (aN 3 nd (aP N6 hr (ak (aa 0) (ak av aq))))
 (ay (aN 4 nd (aP Od hr (ak (d7 (aa 3) av) (ak (aI (e_ (au av (au av (au av (au av aM))))) (cL (aa 3) av)) aq))))
 (ay (nc 4 (aN 5 nd (aZ (au (aa 4) (au (aP Od hr (ak (aP N6 hr (ak (aa 0) (ak av aq))) (ak (aI (e_ (au av (au av (au av (au av (au av aM)))))) (cL (d7 (aa 3) av) av)) aq))) aM)))))
 (ay (aN 6 nd (aP Oe hr (ak (aa 5) (ak (aI (aa 1) (cL (aa 2) av)) (ak (bJ (dX ["_law_k"] [0] (cW (bf (ak av aq) m.range)) (λ_ _ _ _ _ hc=>⟨(aB 0 (bI rfl)),aY,(aP N6 hr (ak (aa 1) (ak (cX av (aa 0)) aq)))⟩))) aq)))))
 (ay (aN 7 nd (cL (d7 (aa 2) av) av))
 (ay (bR (lZ hr.units (aa 7) av) (aF (aT (aZ (au (aa 6) (au (aP Oe hr (ak (aa 5) (ak (aI (aa 1) (cL (d7 (aa 2) av) av)) (ak (bJ (dX ["_law_k"] [0] (cW (bf (ak av aq) m.range)) (λ_ _ _ _ _ hc=>⟨(aB 0 (bI rfl)),aY,(aP N6 hr (ak (aa 1) (ak (cX av (aa 0)) aq)))⟩))) aq)))) aM))))) bL)
 (ay (aN 8 nd (aP Oo hr (ak (aa 6) (ak (aP Ov hr (ak (aP N6 hr (ak (aa 0) (ak av aq))) (ak (aI (aa 6) av) aq))) aq))))
 (ay (bR (g9 pK (gq λ_ _ _=>.bl _) (aa 7) av) (aF (aN 8 nd (aP Oa hr (ak (aa 8) (ak (aP N6 hr (ak (aa 0) (ak av aq))) aq))))) bL)
 (ay (bR (lZ hr.units (aa 7) av) (aF (aN 8 nd (aP Oa hr (ak (aa 8) (ak (aP N6 hr (ak (aa 0) (ak av aq))) aq))))) bL)
 (aF (aT (aZ (au (aa 6) (au (aa 8) aM))))))))))))))))
abbrev tK:TJ:=top 43
theorem xO (m:c_ w K mg) (e:FB K mg "_law_with" tK):bx P w K mg base 1 2 "_law_with" K33.ic:=
 qc K33.sH K33.rM 2 e (λnd _ cdv A outer s H E J T hr=>
 (aF (aT (bX (ak (vF hr.units (ak (fC (aa 0) (aZ (au (aa 1) aM))) aq) m.sorted m.set) aq) m.tuple))))
abbrev mj:TJ:=top 44
theorem qH (m:c_ w K mg) (Oj:bx P w K mg base 1 2 "_law_with" K33.ic) (e:FB K mg "_law_answered" mj):bx P w K mg base 2 4 "_law_answered" K31.gg:=
 qc K31.lP K31.lg 4 e (λnd _ cdv A outer s H E J T hr=>
 (ay (c7 (bf (ak (aI (aa 0) av) aq) m.range) (aB 4 nd) (aF (bR (gu (c6 (uG (ak (bJ (dX ["_law_b"] [2,4,3] (cW (bf (ak (aI (aa 1) av) aq) m.range)) (λ_ _ _ _ _ hc=>⟨(aB 0 (bI rfl)),aY,(uH hr.units (aP Oj hr (ak (aa 1) (ak (aZ (au (aa 2) (au (aa 0) aM))) aq))) (aa 3))⟩))) aq) m.any))) (aF (aT fK)) bL)))
 (ay (c7 (bf (ak (aI (aa 1) av) aq) m.range) (aB 5 nd) (aF (bR (gu (c6 (uG (ak (bJ (dX ["_law_a"] [2,5,3] (cW (bf (ak (aI (aa 0) av) aq) m.range)) (λ_ _ _ _ _ hc=>⟨(aB 0 (bI rfl)),aY,(uH hr.units (aP Oj hr (ak (aa 1) (ak (aZ (au (aa 0) (au (aa 2) aM))) aq))) (aa 3))⟩))) aq) m.any))) (aF (aT fK)) bL)))
 (aF (aT fK)))))
abbrev tH:TJ:=top 45
theorem xN (m:c_ w K mg) (Oh:bx P w K mg base 2 4 "_law_answered" K31.gg) (e:FB K mg "_law_next" tH):bx P w K mg base 3 3 "_law_next" K31.ju:=
 qc K31.sG K31.rL 3 e (λnd _ cdv A outer s H E J T hr=>
 (ay (DF 3 nd)
 (ay (c7 (i7 (aa 2)) (aB 4 nd) (aF (yM 3 hr.units fK (aa 4))))
 (aF (aT (bJ (dX ["_law_pairs"] [0,1,3] (bU (aa 2)) (λ_ _ _ _ _ hc=>⟨(aB 0 (bI rfl)),(dw (c6 (aP Oh hr (ak (aa 1) (ak (aa 2) (ak (aa 0) (ak (aa 3) aq))))))),(aa 0)⟩))))))))
abbrev nj:TJ:=top 46
theorem Mh:gm ["_law_script","_law_one","_law_other","_law_depth","_law_found","_law_k","_law_kept"] ["_law_script"] (bu nj):=⟨rfl,rfl,rfl,by decide +kernel,rfl,by decide +kernel,by decide +kernel⟩
theorem LW (m:c_ w K mg) (OD:bx P w K mg base 3 2 "_law_two" K55.jc) (N6:bx P w K mg base 1 2 "_law_cell" K51.b_) (OA:bx P w K mg base 7 3 "layers" K31.k9) (Oc:bx P w K mg base 4 3 "pairings" K23.gX) (Ow:bx P w K mg base 3 3 "_law_next" K31.ju) (F:nA K "law" "law" nj f fd):iQ P w K mg base ny 8 f fd ["_law_script"] (o8 K 1 K31.t7):=
 have sc:=Mh
 CJ (k:=7) (gB:=K31.JK) F sc (λcdv A outer s H E J T hr=>F5.h (
 (gw (jl (jU (aP OD hr (ak (aa 0) (ak (e_ (au av (au av (au av (au av (au av (au av (au av (au av aM))))))))) aq))) (c8 (aX (aB 1 sc.nd) (aX (aB 2 sc.nd) cS)))))
 (gw (jl (aN 3 sc.nd (cL (aP N6 hr (ak (aa 0) (ak av aq))) av)))
 (gw (jl (bR (g9 pK (gq λ_ _ _=>.bl _) (cX (aI (aa 1) av) (aI (aa 2) av)) av) (aF (aN 3 sc.nd (cL (aa 3) av))) bL))
 (gw (jl (aN 4 sc.nd (aP OA hr (ak (aa 1) (ak (aa 2) (ak (aa 3) aq))))))
 (gw (jl (bR (iZ (oO (gu (c6 (iH yw rV m.list (aa 4) m.isinstance))) (pM (l6 hr.units (eZ (ak (aa 4) aq) m.len) (cX (aa 3) av))))) (aF (aT fK)) bL))
 (gw (jl (bR (iZ (oO (gu (c6 (uE (ak (bJ (dX ["_law_layer"] [] (bU (aa 4)) (λ_ _ _ _ _ hc=>⟨(aB 0 (bI rfl)),aY,(iH yw rV m.list (aa 0) m.isinstance)⟩))) aq) m.all))) (pM (l6 hr.units (aI (aa 4) av) (aP Oc hr (ak (aa 1) (ak (aa 2) (ak av aq)))))))) (aF (aT fK)) bL))
 (gw (jl (c7 (bf (ak (aa 3) aq) m.range) (aB 5 sc.nd) (aF (bR (iZ (uD (g9 pK (gq λ_ _ _=>.bl _) (aa 5) av) (qX (lZ hr.units (aI (aa 4) (aa 5)) (aI (aa 4) (Av (aa 5) av)))))) (aF (bR (l6 hr.units (aI (aa 4) (cX (aa 5) av)) (aI (aa 4) (aa 5))) (aF (aT fK)) bL)) (aF (bR (l6 hr.units (aI (aa 4) (cX (aa 5) av)) (aP Ow hr (ak (aa 1) (ak (aa 2) (ak (aI (aa 4) (aa 5)) aq))))) (aF (aT fK)) bL))))))
 (gw (jl (i6 6 sc.nd (MH ["_law_layer"] [] (bU (aa 4)) (λ_ _ _ _ _ hc=>⟨(aB 0 (bI rfl)),aY,(Fi (ak (aa 0) aq) m.list)⟩))))
 (gw (Iw 4 (pO av) (aZ aM))
 (Ma (aF (aT (uF (oQ hr.units (pP (aa 4) kH (kI (pO av))) (pP (aa 6) kH (kI (pO av)))) (nh (oQ hr.units (aP OA hr (ak (aa 1) (ak (aa 2) (ak (aa 3) aq)))) (aa 6)))))))))))))))))) (λas r _ h=>h)
end
end K31
namespace K31
open PySem DL K01 WP K51 K52 K55 K23 K22 K33
section
variable {env:Ev}
theorem Ju {cap:List Nat}{gi:G (List D)}{ge:G R}{α:Type} [DecidableEq α] {xs:List α}{h:α->D}(f:α->List D) (hi:gi env=.ok (xs.map h)) (hl:xs.length<=1000000)
  (hb:∀x∈xs,ge (some (.d (h x))::cE 0 cap env)=.ok (.l .fresh (f x))):oj 1 cap gi (aA 0) b8 ge env=.ok (.ln (xs.map λx=>.lst (f x))):=by obtain ⟨z,e⟩:=Js (act:=xD ge) (h:=h) (f:=λx=>.lst (f x)) (rest:=cE 0 cap env) xs (λx hx=>by unfold xD;rw [hb x hx];rfl) none;unfold oj f7;rw [hi,aK,if_pos (by rw [RX,QN];omega)];show (bO (aA 0) b8 (xD ge) (xs.map h) (none::cE 0 cap env) >>= _)=_;rw [e];rfl
theorem Gn {α:Type}{h:α->D}{tg:GT}{g:G Bool}(env:Option S->Ev) (p:α->Bool) (ht:∀x z,tg (h x) (env z)=.ok (env (some (.d (h x))))) (hg:∀x,g (env (some (.d (h x))))=.ok (p x)):∀(xs:List α) (z:Option S),Wp (fq tg (bS (eX g) (bz (gC (.bl false))) dI) (xs.map h) (env z)) λo=>if xs.all p=true then ∃z',o=.nx (env z') else o=.rt (.d (.bl false)):=by
 intro xs
 induction xs with
 | nil=>exact λz=>⟨_,rfl,z,rfl⟩
 | cons x xs ih=>
  intro z;rw [Q6,S_];show Wp (tg (h x) (env z) >>= _) _;rw [ht,aK];cases q:p x with
  | true=>
   rw [sN (kF (b:=true) ((hg x).trans (by rw [q])))];exact ih _
  | false=>
   rw [uv (kF (b:=false) ((hg x).trans (by rw [q])))];exact ⟨_,rfl,rfl⟩
end
section
variable {v w:Wd}
theorem IW (ks:List Ps) (f:Ps->Option Nat) (n:Nat) (hn:n<=100) (hl:ks.length<=1000000):K31.jv [.db (ks.map aO) (ks.map λk=>dV (f k)),.d (.int n)]=.ok (.ln ((QS (n + 1)).map λj=>cI (ks.filter λk=>vp (f k) j))):=by refine cj (bK (Ju (xs:=QS (n + 1)) (h:=dN) (λj=>(ks.filter λk=>vp (f k) j).map aO) (fS (n:=n + 1) (b9 (two rfl rfl rfl)) (by omega)) (by simp;omega) λj _=>i_ (xs:=ks) (h:=aO) (λk=>vp (f k) j) aO rfl hl λk hk=>⟨uM ((c3 rfl rfl rfl (LC ks f k j)).trans ?_),λ_=>⟨_,rfl,rfl⟩⟩) rfl rfl);rw [decide_eq_true hk,Ub]
theorem IV (t:Pr v w) (n:Nat) (hn:n<=6):K31.k9 [.d v.d,.d w.d,.d (.int n)]=.ok (.ln ((QS (n + 1)).map (EN v w))):=by obtain ⟨f,h1,h2⟩:=MS (B:=[]) t (Rm _);rw [Kc] at h1 h2;refine cj (lF (c2 rfl rfl (zG t)) (lF (c3 rfl rfl rfl (MQ n 6 hn)) (bK (c2 (c3 rfl rfl (br bq (by decide)) h1) rfl (IW (T4 v w) f n (by omega) (by have:=wR t;omega))) rfl ?_)));show O.rt (.ln _)=_;congr 2;refine Uc λj _=>?_;unfold EN;rw [WH λk hk=>h2 j k hk]
noncomputable def fY (v w:Wd) (ks:List Ps) (ps:Ps):Bool:=((QS v.m).all λa=>(QS w.m).any λb=>decide (cT ps (a,b)∈ks)) && (QS w.m).all λb=>(QS v.m).any λa=>decide (cT ps (a,b)∈ks)
theorem LA (t:Pr v w) (ks:List Ps) (ps:Ps) (hp:ps.length < 63):K31.gg [.d v.d,.d w.d,.d (aO ps),.db (ks.map aO) (ks.map λ_=>.bl true)]=.ok (.d (.bl (fY v w ks ps))):=by
 have v4:=t.v4;have w4:=t.w4;have hin:∀p:Nat×Nat,jn false (.d (aO (cT ps p))) (.mb (ks.map aO) (ks.map λ_=>.bl true))=.ok (.d (.bl (decide (cT ps p∈ks)))):=λp=>uw (f:=λ_=>.bl true) gr rfl (fH _);refine cj (iJ (fS (n:=v.m) (b9 (two rfl rfl (g8 _ _))) (by omega)) ((Gn (h:=dN) (λz=>[some (.d v.d),some (.d w.d),some (.d (aO ps)),some (.db (ks.map aO) (ks.map λ_=>.bl true)),z,none]) (λa=>(QS w.m).any λb=>decide (cT ps (a,b)∈ks)) (λx z=>rfl) (λa=>nt (n1 (iU (xs:=QS w.m) (h:=dN) (λb=>.bl (decide (cT ps (a,b)∈ks))) (fS (b9 (two rfl rfl (g8 _ _))) (by omega)) (by simp;omega) λb _=>⟨_,two (c2 rfl (br (aG rfl rfl (aG rfl rfl bq)) t2) (BY ps (a,b) hp)) rfl (hin (a,b)),rfl⟩) (K33.anyM _ (QS w.m)))) (QS v.m) none).mono λo ho=>?_));unfold fY;split at ho
 ·rename_i q1;obtain ⟨z,rfl⟩:=ho;rw [q1,Ub];refine (iJ (fS (n:=w.m) (b9 (two rfl rfl (g8 _ _))) (by omega)) ((Gn (h:=dN) (λy=>[some (.d v.d),some (.d w.d),some (.d (aO ps)),some (.db (ks.map aO) (ks.map λ_=>.bl true)),z,y]) (λb=>(QS v.m).any λa=>decide (cT ps (a,b)∈ks)) (λx z=>rfl) (λb=>nt (n1 (iU (xs:=QS v.m) (h:=dN) (λa=>.bl (decide (cT ps (a,b)∈ks))) (fS (b9 (two rfl rfl (g8 _ _))) (by omega)) (by simp;omega) λa _=>⟨_,two (c2 rfl (br (aG rfl rfl (aG rfl rfl bq)) t2) (BY ps (a,b) hp)) rfl (hin (a,b)),rfl⟩) (K33.anyM _ (QS v.m)))) (QS w.m) none).mono λo ho=>?_));split at ho
  ·rename_i q2;obtain ⟨y,rfl⟩:=ho;rw [q2];exact bK rfl rfl rfl
  ·rename_i q2;rw [ho,Wx.mpr q2]
 ·rename_i q1;rw [ho,Wx.mpr q1,Zy]
theorem IX (t:Pr v w) (ks:List Ps) (nd:ks.Nodup) (hl:ks.length<=1000000) (hp:∀ps∈ks,ps.length < 63):K31.ju [.d v.d,.d w.d,.d (cI ks)]=.ok (.l .fresh ((ks.filter (fY v w ks)).map aO)):=by
 refine cj (cB (Wp.of (a:=.nx [some (.d v.d),some (.d w.d),some (.d (cI ks)),some (.dk [] []),none]) rfl (iJ (ds:=ks.map aO) rfl (tY (λk env=>∃z,env=[some (.d v.d),some (.d w.d),some (.d (cI ks)),some (.dk ((ks.take k).map aO) ((ks.take k).map λ_=>.bl true)),z]) (ks.map aO) ⟨none,rfl⟩ ?_ ?_))))
 ·rintro k hk _ ⟨z,rfl⟩;have hk':k < ks.length:=by simpa using hk
  refine ⟨_,by rw [VQ];rfl,Gm (k:=aO ks[k]) (d:=.bl true) rfl rfl rfl rfl rfl (fH _) (by simp;omega) ⟨_,rfl,some (.d (aO ks[k])),?_⟩⟩;have hn:ks[k]∉ks.take k:=λh=>by have:=List.nodup_iff_pairwise_ne.mp nd;obtain ⟨i,hi,e⟩:=List.mem_take_iff_getElem.mp h;exact absurd ((UQ nd).mp e) (by omega)
  have e:dput ((ks.take k).map aO,(ks.take k).map λ_=>.bl true) (aO ks[k]) (.bl true)=((ks.take (k + 1)).map aO,(ks.take (k + 1)).map λ_=>.bl true):=by unfold dput;simp only;rw [lT gr,if_neg hn,Wn,Q4 hk',Rg,Rg];rfl
  rw [e];rfl
 ·rintro _ ⟨z,rfl⟩;rw [QN,VP];exact bK (i_ (xs:=ks) (h:=aO) (fY v w ks) aO rfl hl λps h=>⟨uM (c4 rfl rfl rfl rfl (LA t ks ps (hp ps h))),λ_=>⟨_,rfl,rfl⟩⟩) rfl rfl
def Ly (v w:Wd) (j:Nat):List Ps:=(T4 v w).filter (La v w j)
theorem D_ (t:Pr v w) (j:Nat):(Ly v w j).filter (fY v w (Ly v w j))=Ly v w (j + 1):=by
 unfold Ly;rw [List.filter_filter];refine WH λps hps=>?_;have mem:∀p,cT ps p∈(T4 v w).filter (La v w j)↔cT ps p∈T4 v w/\La v w j (cT ps p)=true:=λp=>RD;rw [R1,QX,MU];unfold fY;rw [QX,Rk,Rk];constructor
 ·rintro ⟨⟨h1,h2⟩,h0⟩;refine ⟨h0,λk hk=>?_⟩;unfold picks at hk;rcases Rn.mp hk with h | h
  ·obtain ⟨a,ha,rfl⟩:=QO.mp h;obtain ⟨b,hb,hf⟩:=R0.mp (h1 a ha);obtain ⟨m1,m2⟩:=(mem _).mp (of_decide_eq_true hf);exact ⟨(a,b),QO.mpr ⟨b,hb,rfl⟩,m1,m2⟩
  ·obtain ⟨b,hb,rfl⟩:=QO.mp h;obtain ⟨a,ha,hf⟩:=R0.mp (h2 b hb);obtain ⟨m1,m2⟩:=(mem _).mp (of_decide_eq_true hf);exact ⟨(a,b),QO.mpr ⟨a,ha,rfl⟩,m1,m2⟩
 ·rintro ⟨h0,h⟩;refine ⟨⟨λa ha=>?_,λb hb=>?_⟩,h0⟩
  ·obtain ⟨p,hp,h1,h2⟩:=h (0,a) (Rn.mpr (.inl (QO.mpr ⟨a,ha,rfl⟩)));obtain ⟨b,hb,rfl⟩:=QO.mp (show p∈(QS w.m).map λb=>(a,b) from hp);exact R0.mpr ⟨b,hb,decide_eq_true ((mem _).mpr ⟨h1,h2⟩)⟩
  ·obtain ⟨p,hp,h1,h2⟩:=h (1,b) (Rn.mpr (.inr (QO.mpr ⟨b,hb,rfl⟩)));obtain ⟨a,ha,rfl⟩:=QO.mp (show p∈(QS v.m).map λa=>(a,b) from hp);exact R0.mpr ⟨a,ha,decide_eq_true ((mem _).mpr ⟨h1,h2⟩)⟩
theorem MV:Ly v w 0=T4 v w:=T_.mpr λ_ _=>rfl
theorem Ax (A:List Ps):dep (cI A)<=60:=by
 have:deps (A.map aO)<=2:=dz λx hx=>by
  obtain ⟨q,_,rfl⟩:=QO.mp hx;have:deps (q.map dP)<=1:=dz λx hx=>by obtain ⟨p,_,rfl⟩:=QO.mp hx;exact QW _
  show deps (q.map dP) + 1<=2;omega
 show deps (A.map aO) + 1<=60;omega
theorem JE:∀A B:List Ps,bg (cI A) (cI B)=decide (A=B):=by
 intro A;show ∀B:List Ps,bW (A.map aO) (B.map aO)=_
 induction A with
 | nil=>intro B;cases B <;> simp [bW]
 | cons x A ih=>
  intro B;cases B with
  | nil=>simp [bW]
  | cons y B=>rw [Q6,Q6,fP,ih,gr,R1];simp
theorem wX (neg:Bool) (A B:List Ps) (x y:R) (hx:x.dat=cI A) (hy:y.dat=cI B):dM neg x y=.ok (.d (.bl (if neg then !decide (A=B) else decide (A=B)))):=by rw [pB neg x y (by rw [hx];exact Ax A) (by rw [hy];exact Ax B),hx,hy,JE]
end
end K31
namespace K33
open PySem DL K01 WP K51 K52 K55 K23
end K33
namespace K33
open PySem DL K01 WP K51 K52 K55 K23 K22
theorem Ak (i:Int) (m:Nat) (h:0 < m):∃k:Nat,i % (m:Int)=k/\k < m:=by obtain ⟨k,hk⟩:=sV (TZ i (b:=m) (by omega));have:=S5 i (b:=m) (by omega);exact ⟨k,hk,by omega⟩
end K33
namespace K31
open PySem DL K01 WP K51 K52 K55 K23 K22 K33
theorem iF {α:Type}{f:α->D}(h:∀x,jh (f x)=true):∀xs:List α,fu (xs.map f)=true
 | []=>rfl
 | x::xs=>by show (jh (f x) && fu (xs.map f))=true;rw [h x,iF h xs];rfl
theorem Gr (ps:Ps):jh (aO ps)=true:=iF (f:=dP) (λ_=>rfl) ps
theorem xj (u:Wd):jh u.d=true:=by
 have h1:jh (.tup (u.ms.map iI))=true:=iF (f:=iI) (λr=>by
  show (true && (fu (r.2.map dN) && true))=true;rw [iF (f:=dN) λ_=>rfl];rfl) u.ms
 have h2:jh (.tup (u.ar.map jX))=true:=iF (f:=jX) (λr=>by
  show (true && (fu (r.2.map dP) && true))=true;rw [iF (f:=dP) λ_=>rfl];rfl) u.ar
 show (true && (jh (.tup (u.ms.map iI)) && (jh (.tup (u.ar.map jX)) && true)))=true;rw [h1,h2];rfl
theorem Gq (ns:List Int):fu (ns.map D.int)=true:=iF (λ_=>rfl) ns
theorem HQ {α:Type}(f:α->List Ps) (xs:List α):qq (.ow2 (xs.map λx=>cI (f x)))=true:=by show (xs.map λx=>cI (f x)).all Bf=true;rw [Wj,Rk];exact λx _=>iF Gr (f x)
theorem yS {α:Type}(f:α->List Ps) (xs:List α):dep (.lst (xs.map λx=>cI (f x)))<=60:=by
 have h2:∀A:List Ps,dep (cI A)<=3:=λA=>by
  have:deps (A.map aO)<=2:=dz λx hx=>by
   obtain ⟨q,_,rfl⟩:=QO.mp hx;have:deps (q.map dP)<=1:=dz λx hx=>by obtain ⟨p,_,rfl⟩:=QO.mp hx;exact QW _
   show deps (q.map dP) + 1<=2;omega
  show deps (A.map aO) + 1<=3;omega
 have:deps (xs.map λx=>cI (f x))<=3:=dz λx hx=>by obtain ⟨q,_,rfl⟩:=QO.mp hx;exact h2 _
 show deps (xs.map λx=>cI (f x)) + 1<=60;omega
theorem zZ {α:Type}(f:α->List Ps) (xs:List α) (x y:R) (hx:x.dat=.lst (xs.map λx=>cI (f x))) (hy:y.dat=.lst (xs.map λx=>cI (f x))):dM false x y=.ok (.d (.bl true)):=by rw [pB false x y (by rw [hx];exact yS f xs) (by rw [hy];exact yS f xs),hx,hy,eN];rfl
theorem Hh (i:Int):dM true (.d (.int i)) (.d (.int i))=.ok (.d (.bl false)):=by rw [pB true (.d (.int i)) (.d (.int i)) (by show (0:Nat)<=60;decide) (by show (0:Nat)<=60;decide),show bg (R.dat (.d (.int i))) (R.dat (.d (.int i)))=true from eN _];rfl
theorem Ed {g h:G R}{env:Ev}{r:R}(h1:g env=.ok (.d (.bl true))) (h2:h env=.ok r):mK g h env=.ok r:=by unfold mK;rw [h1,aK];exact h2
theorem Mv {i:Nat}{gi:G R}{k:List D->Ev->M (List D)}{env:Ev}{xs ds es:List D}{j:Int}{n:Nat}(h0:env[i]?=some (some (.ow2 xs))) (h1:gi env=.ok (.d (.int j))) (h2:L2.oE xs.length j=some n) (h3:xs[n]?=some (.lst ds)) (ok:yH env=true) (h4:k ds env=.ok es) (no:fu es=true):yo i gi k env=.ok (.nx (env.set i (some (.ow2 (xs.set n (.lst es)))))):=by unfold yo;rw [h0];simp only;rw [h1,aK];simp only;rw [h2];simp only;rw [h3];simp only;rw [if_pos ok,h4,aK,if_pos no]
theorem GG {env:Ev}{f:R->Option Int->Option Int->M R}{g:G R}{lo hi:GO}{x z:R}{l u:Option Int}(h:g env=.ok x) (h2:lo env=.ok l) (h3:hi env=.ok u) (hf:f x l u=.ok z):qe f g lo hi env=.ok z:=by unfold qe;rw [h,aK,h2,aK,h3];exact hf
abbrev eM (ns:List Int) (v w:Wd) (d:Nat) (x:S) (a b:Option S):Ev:=[some (.bor (ns.map D.int)),some (.d v.d),some (.d w.d),some (.d (.int d)),some x,a,b]
theorem HL (ns:List Int) (h:ns.length<=63):t7 [.bor (ns.map .int)]=.ok (.d (.bl true)):=by
 obtain ⟨v,w,hw,t,_⟩:=I0 ns [2,3,1,3,2,3,2,4] rfl (by decide);have tl:=wR t;obtain ⟨d0,hd0,d07⟩:=Ak (K51.cV ns 16) 7 (by decide);refine cj (tE (c2 rfl (oG rfl (by show 8<=1000;decide)) hw) rfl rfl (bF (r:=.d (.int (d0:Int))) ((two (c2 rfl rfl (K51.gf ns _ 16 rfl)) rfl (gx _ 7 (by decide))).trans (by rw [<-hd0];rfl)) rfl ?_));refine cB (Wp.mono (P:=λo=>∃d:Nat,d<=6/\o=.nx [some (.bor (ns.map .int)),some (.d v.d),some (.d w.d),some (.d (.int d)),none,none,none]) ?_ ?_)
 ·refine Bl (c:=decide ((7:Int) < v.m + w.m)) (dS (two (two rfl rfl (g8 _ _)) (two rfl rfl (g8 _ _)) rfl) rfl rfl) (λ_=>?_) λ_=>jR ⟨d0,by omega,rfl⟩;obtain ⟨d1,hd1,d13⟩:=Ak d0 3 (by decide);exact fV (r:=.d (.int (d1:Int))) ((two rfl rfl (gx _ 3 (by decide))).trans (by rw [<-hd1];rfl)) rfl ⟨d1,by omega,rfl⟩
 rintro _ ⟨d,d6,rfl⟩;obtain ⟨L,hL⟩:∃L,L=(QS (d + 1)).map λj=>cI (Ly v w j):=⟨_,rfl⟩;have lay:=IV t d d6;rw [show (QS (d + 1)).map (EN v w)=L from hL.symm] at lay;have lenL:L.length=d + 1:=by rw [hL];simp
 have atL:∀j,j<=d->L[j]?=some (cI (Ly v w j)):=λj hj=>by rw [hL,Rc,UU (by omega)];rfl
 have ixL:∀j,j<=d->a_ (.l .own L) (.d (.int (j:Nat)))=.ok (.d (cI (Ly v w j))):=λj hj=>sd (atL j hj);have fl:iC [.l .own L]=.ok (.d (.int ((d:Int) + 1))):=by show M.ok (R.d (.int (L.length:Nat)))=_;rw [lenL];rfl
 have pr:=rA t 4 (QW _);refine bF (c3 rfl rfl rfl lay) rfl (eB (Dr (kF (b:=true) rfl) (dS (n1 rfl fl) (two rfl rfl rfl) (Hh _))) (eB (Dr (kF (b:=true) (nt ((n1 (iU (xs:=QS (d + 1)) (h:=λj=>cI (Ly v w j)) (λ_=>.bl true) (by rw [<-hL];rfl) (by simp;omega) λ_ _=>⟨_,rfl,rfl⟩) (allM (λ_=>true) _)).trans (by simp)))) (dS (two rfl rfl (ixL 0 (Rm _))) (c3 rfl rfl rfl pr) ((wX true (Ly v w 0) (T4 v w) _ _ rfl rfl).trans (by rw [decide_eq_true MV];rfl)))) ?_));refine iJ (oU (n:=d) (b9 rfl) (by omega)) (nv (n:=d) (λk env=>∃z:Option S,env=eM ns v w d (.ow2 L) z none/\(∀x,z=some x->qq x=true)) ⟨none,rfl,λ_ z=>nomatch z⟩ ?_ ?_)
 ·rintro k hk _ ⟨z,rfl,_⟩;have Ae:∀z:Option S,g2 a_ (af 4) (g2 cO (af 5) (gC (.int 1))) (eM ns v w d (.ow2 L) (some (.d (.int (k:Nat)))) z)=.ok (.d (cI (Ly v w (k + 1)))):=λz=>two rfl (two rfl rfl rfl) (ixL (k + 1) (by omega));have ix0':∀z:Option S,g2 a_ (af 4) (af 5) (eM ns v w d (.ow2 L) (some (.d (.int (k:Nat)))) z)=.ok (.d (cI (Ly v w k))):=λz=>two rfl rfl (ixL k (by omega));refine ⟨_,rfl,?_⟩;refine Bl (c:=decide (0 < k) && decide (Ly v w k=Ly v w (k - 1))) ?_ (λc=>?_) λ_=>?_
  ·cases k with
   | zero=>exact xE rfl
   | succ k=>
    refine ua (dS rfl rfl (show M.ok (R.d (.bl (decide ((0:Int) < ((k + 1:Nat):Int)))))=_ by rw [decide_eq_true (by omega)])) ((dS (ix0' none) (two rfl (two rfl rfl (Mt _ _)) (show a_ (.l .own L) (.d (.int (((k + 1:Nat):Int) - 1)))=_ by rw [show ((k + 1:Nat):Int) - 1=((k:Nat):Int) by omega];exact ixL k (by omega))) (wX false (Ly v w (k + 1)) (Ly v w k) _ _ rfl rfl)).trans ?_);rw [decide_eq_true (Nat.succ_pos k)];rfl
  ·have c:=S8.mp c;have k0:=of_decide_eq_true c.1;have e:=of_decide_eq_true c.2;have e2:Ly v w (k + 1)=Ly v w k:=by obtain ⟨k',rfl⟩:∃k',k=k' + 1:=⟨k - 1,by omega⟩;have e:Ly v w (k' + 1)=Ly v w k':=e;rw [<-D_ t (k' + 1),e,D_ t k',e]
   exact oF (dS (Ae none) (ix0' none) ((wX true (Ly v w (k + 1)) (Ly v w k) _ _ rfl rfl).trans (by rw [decide_eq_true e2];rfl))) (jR ⟨_,rfl,_,rfl,λx q=>by cases q;rfl⟩)
  ·have nx:=IX t (Ly v w k) ((uL v w 4).filter _) (Rr (RL _ _) (by omega)) λps hp=>by have:=MG t (RD.mp hp).1;omega
   rw [D_ t k] at nx;exact oF (dS (Ae none) (c3 rfl rfl (ix0' none) nx) ((wX true (Ly v w (k + 1)) (Ly v w (k + 1)) _ _ rfl rfl).trans (by rw [decide_eq_true rfl];rfl))) (jR ⟨_,rfl,_,rfl,λx q=>by cases q;rfl⟩)
 ·rintro _ ⟨z,rfl,hz⟩;have noL2:qq (.ow2 L)=true:=by rw [hL];exact HQ (Ly v w) _
  refine bF (r:=.ln L) ((Ju (xs:=QS (d + 1)) (h:=λj=>cI (Ly v w j)) (λj=>(Ly v w j).map aO) (by rw [<-hL];rfl) (by simp;omega) λj _=>n1 rfl rfl).trans (by rw [hL])) rfl ?_;have th:yo 4 (qP (gC (.int 1))) (Bh (bA aU)) (eM ns v w d (.ow2 L) z (some (.ow2 L)))=.ok (.nx (eM ns v w d (.ow2 (L.set d (.lst ((Ly v w d).map aO++[aO []])))) z (some (.ow2 L)))):=by
   refine Mv (xs:=L) rfl rfl (show L2.oE L.length (-1)=some d from ?_) (atL d (QW _)) ?_ ?_ ?_
   ·unfold L2.oE;rw [lenL,if_neg (by decide),if_pos (by omega)];congr 1;omega
   ·cases z with
    | none=>
     show (fu (ns.map D.int) && (jh v.d && (jh w.d && (true && (qq (.ow2 L) && (true && (qq (.ow2 L) && true)))))))=true;rw [Gq,xj,xj,noL2];rfl
    | some x=>
     show (fu (ns.map D.int) && (jh v.d && (jh w.d && (true && (qq (.ow2 L) && (qq x && (qq (.ow2 L) && true)))))))=true;rw [Gq,xj,xj,noL2,hz x rfl];rfl
   ·show (bA aU _ >>= _)=_;rw [br bq (by decide),aK];show (if ((Ly v w d).map aO).length < sizeLine then _ else _)=_;rw [if_pos (by rw [RX,QN];have:(Ly v w d).length<=(T4 v w).length:=RL _ _;omega)];rfl
   ·rw [show (Ly v w d).map aO++[aO []]=(Ly v w d++[[]]).map aO by rw [Rg];rfl];exact iF Gr _
  refine cB (Wp.of th (bK (r:=.d (.bl true)) (Ed ?_ (two (c3 rfl rfl rfl lay) rfl (zZ (Ly v w) (QS (d + 1)) _ _ (by rw [<-hL];rfl) (by rw [<-hL];rfl)))) rfl rfl));have cut:∀x:D,cutD (L.set d x) none (some (-1))=(QS d).map λj=>cI (Ly v w j):=λx=>by
   have e:L.set d x=((QS d).map λj=>cI (Ly v w j))++[x]:=by rw [hL,Uv,Rg,List.set_append_right _ _ (by simp)];simp
   rw [e,xZ]
  have cut0:cutD L none (some (-1))=(QS d).map λj=>cI (Ly v w j):=by rw [hL,Uv,Rg];exact xZ _ _
  refine two (GG rfl rfl rfl rfl) (GG rfl rfl rfl rfl) (zZ (Ly v w) (QS d) _ _ ?_ ?_)
  ·show D.lst (cutD _ _ _)=_;rw [cut]
  ·show D.lst (cutD _ _ _)=_;rw [cut0]
end K31
namespace K31
open PySem PySem.Spec PyProof.Rows L2 DL DX
theorem all_mk {l:Xd}{w:Rz}{K:QJ}{h:Sn}{mg:Str->Option QL}{fa:Rb}(X:K.In h) (G:h.Ns Rp mg) (P_:mg "law"=some (.ref fa))
  {f34:Rb}{o34 n34:Option Rb}{s34:Array (Option QL)}{u34 v34 d34 p34 q34 r34:QL}
  {t1:Tok}
  {t2:Tok}
  (e0:FA K "is_whole" vP)
  (e1:FA K "tongue_of" tP)
  (e2:FA K "need_tongue" o5)
  (e3:FA K "need_few_points" jZ)
  (e4:FA K "need_small" qA)
  (e5:FA K "need_count" qz)
  (e6:FA K "rising" AD)
  (e7:FA K "view" GJ)
  (e8:FA K "views" DR)
  (e9:FA K "agree" DO)
  (e10:FA K "goes_behind" oX)
  (e11:FA K "pairings" vS)
  (e12:FA K "added" DN)
  (e13:FA K "pairs_with" qB)
  (e14:FA K "picks_of" vU)
  (e15:FA K "outcomes" vR)
  (e16:FA K "answered_still" kJ)
  (e17:FA K "peeled" AB)
  (e18:FA K "pairings_with" mq)
  (e19:FA K "parting_depths" kM)
  (e20:FA K "in_layer" vO)
  (e21:FA K "layers_of" tL)
  (e22:FA K "layers" Az)
  (e23:FA K "_law_cell" tG)
  (e24:FA K "_law_names" qw)
  (e25:FA K "_law_bits" tF)
  (e26:FA K "_law_world" qy)
  (e27:FA K "_law_order" qx)
  (e28:FA K "_law_turned" oW)
  (e29:FA K "_law_flipped" nL)
  (e30:FA K "_law_two" vN)
  (e31:FA K "_law_with" tK)
  (e32:FA K "_law_answered" mj)
  (e33:FA K "_law_next" tH)
  (a34:RG K Rp "law"=some (some (.ref f34)))
  (l34:K.lookup f34=some ⟨u34,o34,.func (SG "law" "law" (eV nj) (cP nj) (bu nj) .none v34 d34 p34 n34 q34 r34),s34⟩)
  (c34:Vy K q34 "law"=true)
  (k34:Ug K (.ref f34)=true)
  (z0:RG K Rp "all"=some none)
  (z1:RG K Rp "any"=some none)
  (z2:RG K Rp "bool"=some none)
  (z3:RG K Rp "int"=some none)
  (z4:RG K Rp "isinstance"=some none)
  (z5:RG K Rp "len"=some none)
  (z6:RG K Rp "list"=some none)
  (z7:RG K Rp "range"=some none)
  (z8:RG K Rp "set"=some none)
  (z9:RG K Rp "sorted"=some none)
  (z10:RG K Rp "tuple"=some none)
  (gMOST_DEPTH:RG K Rp "MOST_DEPTH"=some (some (.int 6 t1)))
  (gMOST_SMALL:RG K Rp "MOST_SMALL"=some (some (.int 4 t2))):
  ∃fd:Ry,(∀(s:QM) (v:QL),Y7 s fd ⟨[v],[]⟩ [("_law_script",v)])/\∀base:Sn,K.In base->base.Ns Rp mg->iQ l.prog w K mg base ny 8 fa fd ["_law_script"] (o8 K 1 K31.t7):=by
 have e:=P_.symm.trans (V1 X G a34);cases e;obtain ⟨f16,d16,a16,F16⟩:=id e16;have F34:=CL (st:=nj) l34 c34 k34;have m:c_ w K mg:=⟨RT X G z0,
   RT X G z1,
   RT X G z2,
   RT X G z3,
   RT X G z4,
   RT X G z5,
   RT X G z6,
   RT X G z7,
   RT X G z8,
   RT X G z9,
   RT X G z10,
   ⟨_,(.int 6),V1 X G gMOST_DEPTH,⟨_,rfl⟩,λ_=>(.int _)⟩,
   ⟨_,(.int 4),V1 X G gMOST_SMALL,⟨_,rfl⟩,λ_=>(.int _)⟩,
   ⟨_,a16,V1 X G a16⟩⟩
 refine ⟨SG "law" "law" (eV nj) (cP nj) (bu nj) .none v34 d34 p34 n34 q34 r34,λs v=>.of_eq rfl,λbase _ _=>?_⟩;have C0:=zo (P:=l.prog) (base:=base) m (bQ X G e0);have C1:=xW (P:=l.prog) (base:=base) m (bQ X G e1);have C2:=uh (P:=l.prog) (base:=base) m C1 (bQ X G e2);have C3:=n6 (P:=l.prog) (base:=base) m (bQ X G e3);have C4:=wD (P:=l.prog) (base:=base) m C2 C3 (bQ X G e4);have C5:=wC (P:=l.prog) (base:=base) m C0 (bQ X G e5);have C6:=Cu (P:=l.prog) (base:=base) m (bQ X G e6);have C7:=G3 (P:=l.prog) (base:=base) m (bQ X G e7);have C8:=Ek (P:=l.prog) (base:=base) m C7 (bQ X G e8);have C9:=Ei (P:=l.prog) (base:=base) m (bQ X G e9);have C10:=ug (P:=l.prog) (base:=base) m C9 (bQ X G e10);have C11:=zw (P:=l.prog) (base:=base) m C4 C5 C8 C9 C10 (bQ X G e11);have C12:=Eh (P:=l.prog) (base:=base) m C6 (bQ X G e12);have C13:=wF (P:=l.prog) (base:=base) m (bQ X G e13);have C14:=zx (P:=l.prog) (base:=base) m (bQ X G e14);have C15:=zu (P:=l.prog) (base:=base) m C13 C12 C14 (bQ X G e15);have C16:=pT (P:=l.prog) (base:=base) m (bQ X G e16);have C17:=Ct (P:=l.prog) (base:=base) m C16 (bQ X G e17);have C18:=qI (P:=l.prog) (base:=base) m C11 (bQ X G e18);have C19:=pU (P:=l.prog) (base:=base) m C18 C15 C17 (bQ X G e19);have C20:=zm (P:=l.prog) (base:=base) m (bQ X G e20);have C21:=xV (P:=l.prog) (base:=base) m C20 (bQ X G e21);have C22:=Cs (P:=l.prog) (base:=base) m C4 C5 C19 C21 (bQ X G e22);have C23:=xM (P:=l.prog) (base:=base) m (bQ X G e23);have C24:=wc (P:=l.prog) (base:=base) m (bQ X G e24);have C25:=xK (P:=l.prog) (base:=base) m (bQ X G e25);have C26:=wg (P:=l.prog) (base:=base) m C25 (bQ X G e26);have C27:=we (P:=l.prog) (base:=base) m (bQ X G e27);have C28:=uf (P:=l.prog) (base:=base) m (bQ X G e28);have C29:=rW (P:=l.prog) (base:=base) m (bQ X G e29);have C30:=zl (P:=l.prog) (base:=base) m C23 C24 C26 C27 C28 C29 (bQ X G e30);have C31:=xO (P:=l.prog) (base:=base) m (bQ X G e31);have C32:=qH (P:=l.prog) (base:=base) m C31 (bQ X G e32);have C33:=xN (P:=l.prog) (base:=base) m C32 (bQ X G e33);exact LW m C30 C23 C22 C11 C33 F34
theorem IJ (K:QJ) (H:Hp) (a:Rb) (ns:List Int) (hl:ns.length<=63) (hO:AQ H) (hS:bV K H a (ns.map V.int)):o8 K 1 K31.t7 [.ref a] H (λv _=>v=.bl true) λ_ _ _=>False:=by
 refine ⟨λ_=>none,[.bor (ns.map D.int)],λ_ _ z=>(by cases z),rfl,⟨_,[],rfl,⟨a,_,rfl,hS,?_⟩,rfl⟩,?_⟩
 ·exact K01.vJ ns
 ·rw [HL ns hl];intro v J H2 _ r;cases r;rfl
theorem walk {l:Xd}{q:Ra}{loose:List Str}{XP:(Str->Option QL)->Sn->Prop}{YP:Rz->Sn->Prop}{d:DefRec}{K:aa2->QJ}(hn:l.most=some 63) (hdf:d.params.defaults=[])
  (hY:∀(w:Rz) (h:Sn),YP w h->(K w.params).In h)
  (F:∀(w:Rz) (mg:Str->Option QL) (fa:Rb) (h:Sn),(K w.params).In h->h.Ns Rp mg->mg d.name=some (.ref fa)->
   ∃fd:Ry,(∀(s:QM) (u:QL),Y7 s fd ⟨[u],[]⟩ [("_law_script",u)])/\∀base:Sn,(K w.params).In base->base.Ns Rp mg->iQ l.prog w (K w.params) mg base ny 8 fa fd ["_law_script"] (o8 (K w.params) 1 K31.t7)):
  aad q loose XP YP l.row.toRowW d [] (λf vs=>ZW f vs):=
 L2.IU (n:=63) (k:=8) (x:="_law_script") (CX:=λ_=>ny) (sp:=λw=>o8 (K w.params) 1 K31.t7) hn (by decide) hdf ⟨rfl,by decide,by decide⟩ hY F (λw H a ns hl hO hS=>IJ _ H a ns hl hO hS) λ_ _ _ _ _ z=>z
end K31
open PySem PySem.W PyProof.Rows
set_option maxRecDepth 100000 in
set_option maxHeartbeats 0 in
theorem PySem.Challenge.cw_pickalike_k31_layers_walked_holds : PySem.Challenge.rw_pickalike_k31_layers_walked.Holds := by
 refine holds_law K31.look λsaid=>?_;refine holds_open (q:=K31.VW) (XP:=XL K31.VW []) (YP:=Hook.says K31.HK) K31.left (Hook.of K31.HK) (Hook.keeps K31.HK) (λs e=>xl_of s (S8.mp e).1) XL.keeps (by rfl) (by rfl) (by rfl) (λs e=>recFacts_of (S8.mp e).2) (by rfl) said (by decide +kernel) ⟨rfl,rfl,rfl,rfl,rfl,by decide +kernel⟩ ?hw ?hc
 (case hw=>w_witness2)
 delta K31.HK
 k_fill
 refine K31.walk (l:=RN) rfl rfl (K:=K31.KF) (λw h Y=>PySem.W.kIn_of Y) ?F
 case F=>
  intro w mg fa h KX G hmg;refine' K31.all_mk KX G hmg ..
  all_goals try first | k_is | (refine' DL.LK ?a ?l ?c ?k;case a | l | c | k=>k_is)
