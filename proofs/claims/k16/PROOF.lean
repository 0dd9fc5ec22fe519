import PyProof.Rows.All
import KE.KDictOf
import KE.KIsAll
import KE.KSortTup
import PySem.Challenge.RW_pickalike_k16_whole_moved_worlds_say_the
theorem zA (_:True:=by rfl):True:=trivial
theorem zB (_:True:=by decide):True:=trivial
noncomputable section
open And renaming intro->ZE
open Array renaming length_toList->SV,getElem?_eq_some_iff->Uh,getElem?_eq_getElem->UD,getD->UO,getElem?_toList->Wf,getD_eq_getD_getElem?->Yb,toList->Zj,mem_toList_iff->ZQ,size_append->aaM,toList_inj->abd
open Array.Perm renaming mem_iff->Yn,refl->adR
open Bool renaming and_eq_true->SI,false_eq_true->Tn,false_ne_true->TH,or_eq_true->UQ,eq_iff_iff->V2,and_false->Xk,or_eq_false_iff->XJ,true_and->XN,false_or->YV,and_eq_true_iff->ZV,not_false->Z0,or_false->aaq,eq_false_iff->aaK,not_true->acv
open Classical renaming byContradiction->Vc,propDecidable->acC
open False renaming elim->Vz
open ForInStep renaming yield->Vt
open Int renaming emod_nonneg->UC,toNat_natCast->UM,emod_lt_of_pos->UU,zero_add->Zx,natCast_add->ZC,ediv_one->acJ
open List renaming length_map->So,mem_cons_of_mem->Ss,mem_singleton->Su,mem_cons_self->Sv,range->Sx,size_toArray->SA,mem_map->SD,length_append->SE,getElem?_eq_getElem->SH,mem_cons->SN,mem_range->S0,getElem?_map->S3,map_cons->S4,mem_append->Tc,getElem?_eq_some_iff->Td,getD_eq_getElem?_getD->Tf,length_range->Th,length_cons->Ti,replicate->Tq,length_replicate->Tz,map_map->TF,getElem?_set_ne->TL,mem_append_right->TQ,all_eq_true->TU,map_append->TZ,getElem?_set_self->T7,find?_cons->Ub,idxOf_lt_length_of_mem->Uc,lookup_cons->Uu,getElem?_append_right->Ux,mem_append_left->Uy,append_nil->UB,length_take->UG,getElem_mem->UH,replicate_succ->UI,pairwise_map->UN,flatMap_cons->UP,any_cons->UR,length_drop->UY,not_mem_nil->UZ,mem_flatMap->U1,eraseIdx_eq_take_drop_succ->U8,getElem?_append_left->U_,mem_iff_getElem->Vj,nodup_cons->Vs,pairwise_lt_range->Vw,ext_getElem->VC,any_eq_true->VE,take_append_drop->VI,drop_eq_getElem_cons->VM,pairwise_iff_getElem->VN,mem_of_find?_eq_some->VO,mem_of_getElem?->VR,mem_filter->VS,getElem_idxOf->V9,lookup->We,contains_iff_mem->Wh,singleton_append->Wj,perm_ext_iff_of_nodup->Wr,range_eq_range'->Wt,nodup_nil->Wv,nodup_range->WA,filterMap_cons->WC,reverse_append->WG,eq_of_mem_replicate->WK,mem_filterMap->WL,getElem?_replicate->WM,all_cons->WS,pairwise_singleton->WV,map_take->WW,map_drop->WX,length_eq_zero_iff->W0,drop_eq_nil_of_le->W5,take_of_length_le->W6,getElem_cons_drop->W7,reverse_cons->Xa,range'->Xe,append_assoc->Xf,map_id->Xi,getElem_inj->Xs,eq_nil_of_length_eq_zero->Xx,perm_middle->XA,pairwise_append->XG,length_eraseIdx->XI,of_mem_zip->XU,length->XX,getElem?_range->X6,foldl_cons->X7,flatMap_append->Yh,nodup_iff_pairwise_ne->Yj,contains_cons->Yl,pairwise_cons->Ym,take_sublist->YC,append_cancel_right->YG,getElem_append_left->YJ,filterMap_cons_some->YK,getD->YM,pairwise_filterMap->YX,filter_cons_of_pos->YY,filter_cons_of_neg->YZ,range'_succ->Y6,getElem_map->Y7,reverse_singleton->Zf,getElem?_reverse->Zt,dropLast_eq_take->Zu,any_map->Zy,length_filter_le->Zz,range_succ->ZA,getElem?_toArray->ZI,eq_nil_or_concat->ZK,concat_eq_append->ZL,length_zip->ZM,reverse_reverse->ZU,drop_zero->ZZ,filter_eq_self->aab,map_congr_left->aac,length_reverse->aad,filterMap_map->aal,zip_cons_cons->aaw,filter_append->aax,getElem_range->aaA,find?_eq_none->aaC,any_eq_false->aaE,drop_sublist->aaO,getElem_drop->aaS,idxOf_append->aaT,filter_congr->aaY,map_nil->aa3,le_antisymm->aba,take_length->abe,isEmpty_nil->abf,cons_append->abi,mem_reverse->abj,filter_cons->abk,length_nil->abI,find?_some->abJ,take_succ->ab0,filterMap->ab3,foldl->adJ,map->adX
open List.Nodup renaming length_le_of_subset->Ug
open List.Pairwise renaming and_mem->VJ,nil->Xb,and->adL
open List.Perm renaming of_eq->Yc,append_left->acR
open List.cons renaming inj->adY
open Nat renaming le_refl->Sw,ne_of_lt->SQ,le_of_ble_eq_true->SS,lt_of_lt_of_le->SW,zero_le->S5,le_trans->Tw,lt_succ_self->TX,lt_trans->Ur,not_lt_zero->UW,lt_of_le_of_lt->UX,le_succ->U5,lt_succ_of_lt->U6,ne_of_gt->Vd,lt_irrefl->VF,le_of_succ_le->VZ,le_of_lt_succ->Xg,le_of_lt->Xo,mul_le_mul_right->XH,mod_lt->YI,div_div_eq_div_mul->Ze,le_of_eq->Zn,min_self->Zs,succ_pos->Zw,zero_add->ZF,le_add_left->ZJ,pow_le_pow_right->ZS,mul_le_mul->ZY,lt_or_eq_of_le->aaB,lt_trichotomy->aaR,pow_succ->aa5,min_eq_left->abO,succ_mul->acM,mul_comm->acN,add_mul->adn
open Ne renaming symm->UA
open Option renaming isSome_iff_exists->Tr,map_some->VV,map_eq_some_iff->W8,bind_some->Xw,isSome_some->aaz,isSome_map->aaX,getD_none->aa9,none->adi
open Option.some renaming inj->TY,injEq->U7
open Or renaming inr->Vh,inl->V5
open Prod renaming fst->TJ,ext->adx,snd->adD
open PyProof.Rows renaming slot_tuple_getitem->Tg,seqObj->VX,envOfC->W3,callWith_type1->XS,entry_tuple_getitem->X3,args_tuple_getitem->Yk,slicePart_none->Yp,StrsAre->Yr,AllBare->YO,listUpdate_at->YT,subscriptTail_builtinR->Za,entry_list_sort->ZD,slot_list_sort->Z2,args_list_sort->Z3,seqEpoch_at->Z_,tupleItemsOf_->aam,subscriptTail->aap,sortedHeap_at->aay,Subscript_->aaF,callWith_builtin1->aa2,IntsAre->abv,get?_update_seq->abz,list_sort_plain->abA,sortedHeap_old->ab1,callWith_kw->acg,sortedHeap->ach,slicePart_int->acp,tail_any->acr,boot_max->acO,kws_cons->acP,kws_nil->acX,lt_int->adk,lt_str->adl,keyKind'->adC,IsTup->adF
open PyProof.Rows.F renaming plain_set_update_loop->UE,entry_set_update_loop->Wz
open PyProof.Rows.IsTup renaming new->abr
open PySem renaming wpAny_bind->Sj,Value->Sl,wpAny_pure->Sm,Shared->Sn,starEach->SG,Program->SK,Addr->SM,wpAny->SO,model->SX,mainGlobals->SY,World->S9,wpAny_newObj_type->S_,Around->Te,FuncData->Tj,wpAny_holding->Tt,Expr->Tv,wpAny_mono->TN,wpAny_call_entry->TR,SetTable->T3,cellsFrom->T6,sysModules->T9,sizeLine_eq->T_,behindInMarks->Ui,codeAny_builtin->Uj,Heap->Uo,wpAny_callSpecial?_slot->Uv,bootBuiltins->Uz,compareOp->UK,plainId_quiet->UT,wpAny_askSetting->U0,codeAny->U3,foldedSetIterable->U4,attributeBase->U9,wpAny_updateSeq->Ve,backTo->Vf,NameKind->Vm,wpAny_truthy_bool->Vp,wpAny_setEntries_of->Vu,assignEach->VA,codeAny_mono->VG,wpAny_setField_rec->VL,cLine->VP,Stmt->VQ,wpAny_passesOwn->VT,letOwnedTupleGo->VU,wpAny_setState_of->V1,wpAny_standAt->V3,mem_of_lookup->V4,binaryOp->V7,wpAny_Call_Name_kw->V8,Scope->Wa,swapsWith->Wc,wpAny_loadPart'->Wg,Comprehension->Wn,standAt->Ws,isSubtype_type->Wx,hashStr->WB,valueAt->WD,wpAny_of_eq->WE,wpAny_typeOf->WJ,wpAny_attempt->WO,mem_of_lookup->WY,pyNext->W2,sliceBounds->W_,Builtin->Xc,wpAny_pyIter_slot->Xh,bindArgs->Xj,wpAny_seqItems->Xm,wpAny_tryCatch->Xn,builtinLookup_eq_fast->Xr,checkBuiltinCall->Xv,codeAny_call_builtin->XD,swapsWithSole->XM,wpAny_rule->XQ,wpAny_execs_nil->XR,wpAny_field->XY,getItem->XZ,codeAny_of_tree->X_,tupleKind_room_in1->Yo,wpAny_runValue->Ys,wpAny_fieldsOf->Yu,firstArgMember->Yv,Paired->Yx,wpAny_call->YB,wpAny_sequenceKey->YD,wpAny_pyIter_list->YF,swappedStores->YQ,strKind->YS,wpAny_newList->YU,compTurn->YW,wpAny_pyHash_str->Y0,pyIter->Y3,noFill_tuple_add->Y4,wpAny_isInstance->Y9,codeAny_compStart_list->Zd,DictEntry->Zg,tupleKind->Zh,wpAny_isTrue_Compare1->Zi,inplaceOp->Zk,concat_meets->Zo,updateSeq->Zv,isSubtype->ZG,typeLookup_type->ZH,setsByText->ZO,wpAny_loadName_local->ZP,codeAny_extend_loopS->ZT,Result->ZX,wpAny_newTuple->Z1,wpAny_loadName_cell->Z4,excClassObj->Z6,wpAny_letGo->Z8,isTrue->aah,seq_tuple_add->aaj,IsPart->aak,evalPart_none->aan,seqItems?->aau,wpAny_pyIter_tuple->aav,wpAny_load->aaD,slot_list_getitem->aaG,call_meets->aaI,callerA->aaJ,wpAny_setEpoch_of->aaV,wpAny_storeSet_of->aaW,Within->aaZ,wpAny_execs_cons->aa7,wpAny_getItem_of->abb,wpAny_Dict_empty->abl,PassesOwn->abp,BindsTo->abq,keywordEach->abt,Keyword->abu,richCompare->abw,pushCells->abB,wpAny_alloc->abC,pushCells_keeps->abD,noteFrame->abE,theTreesLotGoes->abF,compStart->abG,theWindowsPlace->abH,pickOrder->abM,wpAny_specialOf->abN,Model->abS,wpAny_loadPart->abT,recursionLimit->abV,newFunctionEnv->ab2,entryFor_alias->ab4,isSubtype_stop->ab5,builtinsNs->ab7,wpAny_Name->ab8,typeLookup->ab9,typeIs_int->ab_,call->acd,argsOk->acf,strKind_is->aci,setItem->acm,rangeSize_one->acn,intBits_le_64->aco,evalPart_some->acq,call_list_seq->acs,notedBy->acz,wpAny_notedAt->acA,fieldsOf->acD,wpAny_handled->acE,storeName->acG,rawInt->acH,atKey->acS,bindL->ac4,bindC->ac5,CellsOk->adm,Params->adt,GenState->adu,Operator->adv,backToKw->adA,entryFor->adE,Fin->adS
open PySem.Around renaming under_plainId->TM,under->aa0
open PySem.AutoSeq1 renaming sub_tuple_tuple->YE
open PySem.Bind renaming checkArgs->abZ
open PySem.Builtin.Builtins renaming bindParams->X8
open PySem.Builtin.Frozenset renaming sizeOf->V0,updateFrom->abn,newClass->abQ,oneOther->abR,addrOf->ack
open PySem.Builtin.List renaming listTooLong->Vg,listExtendWith->Vv,listLengthHint->Ye,listSameRef->YL
open PySem.Builtin.Range renaming rangeSize->YR
open PySem.Builtin.Slice renaming slicePlaces->T5,sliceAdjust->Va,sliceApplied->Vx,sliceFields->Yq,slicePartIndex->abm
open PySem.Builtin.Str renaming occurrences->WT,tooLong->Z7
open PySem.Builtin.Tuple renaming tupleExact->Ua,tupleItemsOf->Wq,tupleCompareSizes->aaP,tupleIsExact->abP,tupleHashOf->abX
open PySem.Calls renaming Name_function_global->Yi,call_function_entry->Yt,callWith_builtin->Zb
open PySem.Challenge renaming rw_pickalike_k16_whole_moved_worlds_say_the->Tu,pw_pickalike_k16_whole_moved_worlds_say_the->T8
open PySem.CmpOp renaming NotIn->ac2,In->adV
open PySem.Code renaming isFrame->aa1,frames->ac3
open PySem.DictEntry renaming refKey->adO
open PySem.Env renaming kindOf->adI
open PySem.Expr renaming Call->adT
open PySem.F renaming plain_max_loop->VD,plain_list_iadd->VY,called_set->Wi,slot_dict_getitem->Ww,args_tuple_add_2->WH,entry_tuple_add->WN,plainAttrs_list->WU,slot_tuple_add->W4,entry_proto_collect->Xp,plain_proto_collect->Xq,attrBase_ValueError->X5,slot_set_iter->Yd,entry_list_iadd->YH,entry_max_loop->Y5,args_list_extend_2->ZR,entry_list_extend->Z5,plain_extend_loop->aaa,slot_list_extend->aar,args_set_iter_1->aaU,plain_set_new->abL
open PySem.Heap renaming get?_push_of_some->Sq,get?_push_size->Sz,lt_size->SJ,get?_update_other->TV,get?_update_self->Ue,size_push->Us,SameBut->UJ,get?_update_ne->Z9,size_update->abg,ExtBut->ado
open PySem.Heap.DictOf renaming new->adU
open PySem.Heap.IsSliceOf renaming new->aao
open PySem.Heap.SameBut renaming update->Yg,refl->aaQ
open PySem.IsL renaming update->adP
open PySem.ItemsOf renaming nil->adp
open PySem.Moved renaming trans->adq
open PySem.NameKind renaming free->Uk,cell->WR
open PySem.Obj renaming mapSeq->Uw,putSet->acj
open PySem.Paired renaming length->YN,snoc->ads
open PySem.PassesOwn renaming leaving->aaN,never->abx
open PySem.PyData renaming keyHash->Ud
open PySem.SeqAt renaming EqAt->Vq,ne_of_list_tuple->Zc
open PySem.SeqAt.EqAt renaming same->Zp,int_str->aaf,str_int->aag,of_refs->aat,tuple_list->acK,list_tuple->acL,none_bool->acU,bool_none->acV,bool_bool->acW,none_int->ac6,none_str->ac_,bool_int->ada,bool_str->adb,int_none->ade,int_bool->adf,str_none->adg,str_bool->adh,int_int->ady,str_str->adz
open PySem.SeqAt.RcAt renaming tuples->aaL,lists->aa_,lists_lengths->ace
open PySem.SeqAt.RcNeAt renaming tuples->adj,lists->adB
open PySem.SetTable renaming sizeAbove->V_,insertAt->Wo,below->Wy,grown->Yw,advance->Y8,tooFull->abh,runEnd->abK,fill->acB
open PySem.Shared renaming TypeIs->WZ
open PySem.Str renaming ofString->WI,empty->YA,length->aaH
open PySem.Value renaming none->Um,ref->Vi,isStrOf->Vk,type->Vy,int->Wu,bool->ZN,str->aae,builtin->aas,isInt->acY,bytes->ac0,float->ac1
open PySem.Value.ref renaming inj->adW
open PySem.W renaming Frag->Sk,findIn->S7,nsIn->S8,fnOf->Tp,keepIn->T4,mg_none_of->Ul,kia_one->Uq,emptyDict->UL,mg_of->US,mroIn->Vb,kas_desc->Vn,codeIn->Vo,instObj->Vr,kas_place->VH,InstAt->V6,specialIn->Wk,clsIn->Wl,kas_sort->Wm,takesIn->WQ,hasDictIn->W9,kitx_dict->Xd,kitOne->Xl,plainGet->Xu,kas_rev->Xy,kas_asc->Xz,looks_findIn->XC,findObj->X4,methodObj->Yy,plainOver->Yz,cellsFrom_some->Y_,takerIn->Zl,makesIn->Zm,OpenLaw->Zq,kitMeta->Zr,lookIn->ZW,callWith_K->aai,kas_descPart->aa4,handedIn->aa8,kas_count->aby,typeIn->abU,kitCls->abW,notCls->abY,WalkO->acu,kas_bin->acw,kat_cons->acy,isFn->acI,kas_tail3->acQ
open PySem.W.Hook renaming obs->adM,val->adN
open PySem.W.LeftO renaming of_split->acF
open PySem.W.Looks renaming here->adw
open PySem.W.OpenLaw renaming wellSaid->ab6
open PySem.W.RowW renaming records->acT
open PySem.W.WData renaming int->adQ
open PySem.W.WShape renaming has->adH
open PySem.Walks renaming list->adK
open PySem.Within renaming cons->adG
open PySem.pickOrder renaming go->aa6
open Sum renaming inl->Vl,inr->Wb
open Sum.inl renaming inj->acZ
open Sum.inr renaming inj->abo
open True renaming intro->VB
set_option Elab.async false
set_option linter.all false
set_option autoImplicit true
set_option relaxedAutoImplicit true
set_option maxRecDepth 100000
namespace L2
open PySem PySem.Spec PyProof.Rows
noncomputable def cB (s:VQ):Arguments:=match s with
 | .FunctionDef _ a _ _ _ _ _ _ _ _=>a
 | _=>{posonlyargs:=[],args:=[],vararg:=none,kwonlyargs:=[],kw_defaults:=[],kwarg:=none,defaults:=[]}
noncomputable def bB (s:VQ):List VQ:=match s with
 | .FunctionDef _ _ b _ _ _ _ _ _ _=>b
 | _=>[]
noncomputable def aJ (s:VQ):Wa:=match s with
 | .FunctionDef _ _ _ _ _ _ sc _ _ _=>sc
 | _=>{kind:=.function,names:=[],isGenerator:=false,isCoroutine:=false}
end L2
namespace K16
open PySem
def top (i:Nat):VQ:=T8.main.body.getD i (.Pass ⟨0,0,0,0⟩)
noncomputable def topC (i j:Nat):VQ:=match top i with
 | .ClassDef (body:=b) ..=>b.getD j (.Pass ⟨0,0,0,0⟩)
 | _=>.Pass ⟨0,0,0,0⟩
end K16
set_option maxHeartbeats 4000000
namespace K16
open PySem PySem.Spec PyProof.Rows L2
abbrev E (P:adt) (k:Str) (t:Nat) (v:Sl):Zg:=⟨Ud P k,.str k t,v⟩
abbrev cM (P:adt) (k:Str) (t r:Nat):Zg:=E P k t (.ref r)
noncomputable def Od (n:Str) (t l k a:Nat) (v w:Sl) (r u:Nat):Obj:=⟨.type "code",none,.fields #[.str n t,.str n (t + 1),.str "/claim/cut.py" (t + 2),.int l 0,.int k 0,.int 0 0,.int 0 0,.int 3 0,.ref a,.bool true,.int 181 0,.ref (a + 1),.none,v,w,.ref r,.int u 0,.int l 0,.str "/claim/cut.py" (u + 1)],#[]⟩
def iD (n:Str) (t l k a u:Nat):Obj:=Od n t l k a (.ref (a + 2)) (.ref (a + 3)) (a + 4) u
def rB (n:Str) (t l k a u:Nat):Obj:=Od n t l k a .none .none (a + 2) u
noncomputable def fU (n:Str) (k:Nat) (m:Sl) (c:Nat):Obj:=⟨.type "function",none,.func (Tp n n (cB (top k)) (bB (top k)) (aJ (top k)) .none .none .none m none (.ref c) .none),#[]⟩
def xF:Sl:=.str "pickalike.worlds" 257
def lW:Sl:=.str "pickalike.sayings" 300
def iT:Sl:=.str "law_pickalike_k16_whole_moved_worlds_say_the" 470
def KF (P:adt):Sk:=
(nat_lit 2,⟨.none,none,(.dict #[] 0),#[]⟩)::
(nat_lit 3,⟨(.type "dict"),none,(.dict #[E P "__name__" 165 (.str "law_pickalike_k16_whole_moved_worlds_say_the" 470),E P "__doc__" 166 .none,E P "__package__" 167 .none,E P "__loader__" 168 (.builtin "__main__.__loader__#opaque"),E P "__spec__" 169 .none,cM P "__annotations__" 170 6,cM P "__builtins__" 171 4,E P "__file__" 173 (.str "/claim/cut.py" 172),E P "__cached__" 174 .none,cM P "PickError" 206 24,cM P "NoName" 231 44,cM P "NoLetter" 256 63,cM P "tongue_of" 264 70,cM P "by_name" 274 77,cM P "bears" 283 84,cM P "leads" 293 91,cM P "moved" 299 96,cM P "LETTER_PLACES" 328 97,cM P "INNER_PLACES" 341 107,cM P "BINDERS" 345 108,E P "MOST_KEPT_LETTERS" 347 (.int 3 346),cM P "letters_at" 353 113,cM P "within" 361 120,cM P "parts_of" 371 127,cM P "free_from" 377 132,cM P "is_spoken" 387 139,cM P "Part" 419 154,cM P "enough" 433 165,cM P "any_part_is" 444 172,cM P "reckoned" 450 177,cM P "part_holds" 456 182,cM P "holds" 469 190,cM P "_law_cell" 479 197,cM P "_law_names" 485 202,cM P "_law_some" 495 209,cM P "_law_pairs" 506 216,cM P "_law_tongue" 516 223,cM P "_law_world" 530 230,cM P "_law_letters" 536 235,cM P "_law_leaf" 547 242,cM P "_law_wrapped" 560 249,cM P "_law_joined" 566 254,cM P "_law_grown" 581 261,cM P "_law_order" 593 268,cM P "law" 612 275] 45),#[]⟩)::
(nat_lit 69,rB "tongue_of" 259 15 1 66 262)::
(nat_lit 70,fU "tongue_of" 5 xF 69)::
(nat_lit 76,iD "by_name" 265 18 2 71 272)::
(nat_lit 77,fU "by_name" 6 xF 76)::
(nat_lit 83,iD "bears" 275 23 3 78 281)::
(nat_lit 84,fU "bears" 7 xF 83)::
(nat_lit 90,iD "leads" 284 25 4 85 291)::
(nat_lit 91,fU "leads" 8 xF 90)::
(nat_lit 95,rB "moved" 294 27 2 92 297)::
(nat_lit 96,fU "moved" 9 xF 95)::
(nat_lit 97,⟨(.type "dict"),none,(.dict #[cM P "mark" 302 98,cM P "arrow" 304 99,cM P "same" 307 100,cM P "not" 310 101,cM P "and" 311 102,cM P "or" 312 103,cM P "some" 313 104,cM P "every" 315 105,cM P "least" 317 106] 9),#[]⟩)::
(nat_lit 98,⟨(.type "tuple"),none,(.seq #[(.int 2 303)] 0),#[]⟩)::
(nat_lit 99,⟨(.type "tuple"),none,(.seq #[(.int 2 305),(.int 3 306)] 0),#[]⟩)::
(nat_lit 100,⟨(.type "tuple"),none,(.seq #[(.int 1 308),(.int 2 309)] 0),#[]⟩)::
(nat_lit 101,⟨(.type "tuple"),none,(.seq #[] 0),#[]⟩)::
(nat_lit 102,⟨(.type "tuple"),none,(.seq #[] 0),#[]⟩)::
(nat_lit 103,⟨(.type "tuple"),none,(.seq #[] 0),#[]⟩)::
(nat_lit 104,⟨(.type "tuple"),none,(.seq #[(.int 1 314)] 0),#[]⟩)::
(nat_lit 105,⟨(.type "tuple"),none,(.seq #[(.int 1 316)] 0),#[]⟩)::
(nat_lit 106,⟨(.type "tuple"),none,(.seq #[(.int 2 318)] 0),#[]⟩)::
(nat_lit 107,⟨(.type "dict"),none,(.dict #[E P "not" 329 (.int 1 330),E P "some" 331 (.int 2 332),E P "every" 333 (.int 2 334),E P "least" 335 (.int 3 336)] 4),#[]⟩)::
(nat_lit 108,⟨(.type "tuple"),none,(.seq #[(.str "some" 342),(.str "every" 343),(.str "least" 344)] 0),#[]⟩)::
(nat_lit 112,rB "letters_at" 348 37 1 109 351)::
(nat_lit 113,fU "letters_at" 15 lW 112)::
(nat_lit 119,iD "within" 354 41 1 114 359)::
(nat_lit 120,fU "within" 16 lW 119)::
(nat_lit 126,iD "parts_of" 362 48 1 121 369)::
(nat_lit 127,fU "parts_of" 17 lW 126)::
(nat_lit 131,rB "free_from" 372 56 2 128 375)::
(nat_lit 132,fU "free_from" 18 lW 131)::
(nat_lit 138,iD "is_spoken" 378 61 2 133 385)::
(nat_lit 139,fU "is_spoken" 19 lW 138)::
(nat_lit 150,⟨(.type "code"),none,(.fields #[(.str "__init__" 400),(.str "Part.__init__" 401),(.str "/claim/cut.py" 402),(.int 70 0),(.int 3 0),(.int 0 0),(.int 0 0),(.int 3 0),(.ref 147),(.bool true),(.int 181 0),(.ref 148),.none,.none,.none,(.ref 149),(.int 403 0),(.int 70 0),(.str "/claim/cut.py" 404)]),#[]⟩)::
(nat_lit 151,⟨(.type "function"),none,(.func (Tp "__init__" "Part.__init__" (cB (topC 20 0)) (bB (topC 20 0)) (aJ (topC 20 0)) .none .none .none (.str "pickalike.sayings" 300) none (.ref 150) .none)),#[]⟩)::
(nat_lit 153,⟨(.type "dict"),none,(.dict #[E P "__module__" 395 (.str "pickalike.sayings" 300),E P "__firstlineno__" 399 (.int 68 398),cM P "__init__" 405 151,cM P "__static_attributes__" 412 152,cM P "__dict__" 414 155,cM P "__weakref__" 416 156,E P "__doc__" 417 .none] 4),#[]⟩)::
(nat_lit 154,⟨(.type "type"),none,(.cls ⟨"Part",[(.type "object")],[(.ref 154),(.type "object")],153,"Part",true,[],[],false,none,false⟩),#[none,none,(some (.str "Part" 388)),(some (.str "Part" 396)),(some (.builtin "object.__new__")),(some (.bool true))]⟩)::
(nat_lit 164,iD "enough" 420 77 4 159 431)::
(nat_lit 165,fU "enough" 21 lW 164)::
(nat_lit 171,iD "any_part_is" 434 90 4 166 442)::
(nat_lit 172,fU "any_part_is" 22 lW 171)::
(nat_lit 176,rB "reckoned" 445 95 3 173 448)::
(nat_lit 177,fU "reckoned" 23 lW 176)::
(nat_lit 181,rB "part_holds" 451 117 3 178 454)::
(nat_lit 182,fU "part_holds" 24 lW 181)::
(nat_lit 183,⟨(.type "tuple"),none,(.seq #[.none] 0),#[]⟩)::
(nat_lit 189,iD "holds" 457 124 3 184 467)::
(nat_lit 190,⟨(.type "function"),none,(.func (Tp "holds" "holds" (cB (top 25)) (bB (top 25)) (aJ (top 25)) (.ref 183) .none .none (.str "pickalike.sayings" 300) none (.ref 189) .none)),#[]⟩)::
(nat_lit 196,iD "_law_cell" 472 137 2 191 477)::
(nat_lit 197,fU "_law_cell" 27 iT 196)::
(nat_lit 201,rB "_law_names" 480 141 2 198 483)::
(nat_lit 202,fU "_law_names" 28 iT 201)::
(nat_lit 208,iD "_law_some" 486 158 2 203 493)::
(nat_lit 209,fU "_law_some" 29 iT 208)::
(nat_lit 215,iD "_law_pairs" 496 165 2 210 504)::
(nat_lit 216,fU "_law_pairs" 30 iT 215)::
(nat_lit 222,iD "_law_tongue" 507 173 1 217 514)::
(nat_lit 223,fU "_law_tongue" 31 iT 222)::
(nat_lit 229,iD "_law_world" 517 178 4 224 528)::
(nat_lit 230,fU "_law_world" 32 iT 229)::
(nat_lit 234,rB "_law_letters" 531 187 1 231 534)::
(nat_lit 235,fU "_law_letters" 33 iT 234)::
(nat_lit 241,iD "_law_leaf" 537 189 3 236 545)::
(nat_lit 242,fU "_law_leaf" 34 iT 241)::
(nat_lit 248,iD "_law_wrapped" 548 197 3 243 558)::
(nat_lit 249,fU "_law_wrapped" 35 iT 248)::
(nat_lit 253,rB "_law_joined" 561 205 2 250 564)::
(nat_lit 254,fU "_law_joined" 36 iT 253)::
(nat_lit 260,iD "_law_grown" 567 212 3 255 579)::
(nat_lit 261,fU "_law_grown" 37 iT 260)::
(nat_lit 267,iD "_law_order" 582 228 2 262 591)::
(nat_lit 268,fU "_law_order" 38 iT 267)::
(nat_lit 274,iD "law" 594 237 1 269 610)::
(nat_lit 275,fU "law" 39 iT 274)::[]
noncomputable def VW:SK:={T8 with main:={T8.main with body:=[top 1,top 2,top 3,top 5,top 6,top 7,top 8,top 9,top 11,top 12,top 13,top 14,top 15,top 16,top 17,top 18,top 19,top 20,top 21,top 22,top 23,top 24,top 27,top 28,top 29,top 30,top 31,top 32,top 33,top 34,top 35,top 36,top 37,top 38,top 39]}}
noncomputable def HK:W.Hook:=W.kHook KF [2,3,69,70,76,77,83,84,90,91,95,96,97,98,99,100,101,102,103,104,105,106,107,108,112,113,119,120,126,127,131,132,138,139,150,151,153,154,164,165,171,172,176,177,181,182,183,189,190,196,197,201,202,208,209,215,216,222,223,229,230,234,235,241,242,248,249,253,254,260,261,267,268,274,275] (λ_=>by kernel_rfl)
def XT:Sn->Bool:=λs=>W.xlAt VW [] s && W.recOk (acT Tu.row.toRowW) s
theorem look:ab6 Tu=true:=by decide +kernel
theorem left:W.LeftO Tu.row.prog VW ["LETTER_PLACES","INNER_PLACES","holds"] XT (adM HK) (adN HK) 4246:=acF "special-get-raises" λw=>by kernel_rfl
end K16
namespace L2
open PySem PySem.Spec PyProof.Rows
abbrev Key:=Sum Int Str
noncomputable def oz:Key->Sl->Bool
 | .inl k,v=>acY k v
 | .inr x,v=>Vk x v
noncomputable def OM (w:S9):Key->Int
 | .inl k=>hashInt k
 | .inr x=>WB w x
theorem d_:∀{k:Key}{v:Sl},oz k v=true->(∃i t,k=Vl i/\v=Wu i t)\/(∃x t,k=Wb x/\v=aae x t)
 | .inl i,v,h=>by obtain ⟨t,e⟩:=Value.isInt_shape (k:=i) (v:=v) h;exact .inl ⟨i,t,rfl,e⟩
 | .inr x,v,h=>by obtain ⟨t,e⟩:=Value.isStrOf_shape (x:=x) (v:=v) h;exact .inr ⟨x,t,rfl,e⟩
theorem Dp (i:Int) (t:Tok):oz (.inl i) (.int i t)=true:=by simp [oz,acY]
theorem Dq (x:Str) (t:Tok):oz (.inr x) (.str x t)=true:=by simp [oz,Vk]
theorem LC (a b:Int):decide ((Vl a:Key)=Vl b)=(a == b):=by
 by_cases e:a=b
 ·subst e;simp
 ·have h:¬(Vl a:Key)=Vl b:=λq=>e (acZ q);rw [decide_eq_false h];exact (beq_eq_false_iff_ne.mpr e).symm
theorem Ds (a b:Str):decide ((Wb a:Key)=Wb b)=decide (a=b):=by
 by_cases e:a=b
 ·subst e;simp
 ·have h:¬(Wb a:Key)=Wb b:=λq=>e (abo q);rw [decide_eq_false h,decide_eq_false e]
theorem LD (a:Int) (b:Str):decide ((Vl a:Key)=Wb b)=false:=decide_eq_false (λq=>nomatch q)
theorem LF (a:Str) (b:Int):decide ((Wb a:Key)=Vl b)=false:=decide_eq_false (λq=>nomatch q)
noncomputable def d7 (prog:SK) (w:S9):PySem.KeyKind prog w Key where
 is:=oz
 hash:=OM w
 inj:=λv a b ha hb=>by
  rcases d_ ha with ⟨i,t,rfl,rfl⟩ | ⟨x,t,rfl,rfl⟩
  ·rcases d_ hb with ⟨j,u,rfl,e⟩ | ⟨y,u,rfl,e⟩
   ·injection e with e1 _;rw [e1]
   ·exact nomatch e
  ·rcases d_ hb with ⟨j,u,rfl,e⟩ | ⟨y,u,rfl,e⟩
   ·exact nomatch e
   ·injection e with e1 _;rw [e1]
 byValue:=λk v h=>by rcases d_ h with ⟨i,t,rfl,rfl⟩ | ⟨x,t,rfl,rfl⟩ <;> rfl
 pyHash:=λhv h=>by
  rcases d_ hv with ⟨i,t,rfl,rfl⟩ | ⟨x,t,rfl,rfl⟩
  ·exact wpAny_pyHash_int h
  ·exact Y0 h
 eqBool:=λhu hv h=>by
  rcases d_ hu with ⟨i,t,rfl,rfl⟩ | ⟨x,t,rfl,rfl⟩
  ·rcases d_ hv with ⟨j,u,rfl,rfl⟩ | ⟨y,u,rfl,rfl⟩
   ·rw [LC] at h;exact wpAny_eqBool_int h
   ·rw [LD] at h;exact aaf i t y u _ _ _ _ h
  ·rcases d_ hv with ⟨j,u,rfl,rfl⟩ | ⟨y,u,rfl,rfl⟩
   ·rw [LF] at h;exact aag x t j u _ _ _ _ h
   ·rw [Ds] at h;exact wpAny_eqBool_str h
 «strs»:=λk x t v h=>by
  rcases d_ h with ⟨i,u,rfl,e⟩ | ⟨y,u,rfl,e⟩
  ·exact nomatch e
  ·injection e with e1 _
   subst e1;cases v <;> rfl
theorem yX (prog:SK) (w:S9) (i:Int) (t:Tok):(d7 prog w).is (.inl i) (.int i t)=true:=Dp i t
theorem yY (prog:SK) (w:S9) (x:Str) (t:Tok):(d7 prog w).is (.inr x) (.str x t)=true:=Dq x t
inductive V where
 | non | bl (b:Bool) | int (i:Int) | str (x:Str) | byt (b:Array UInt8) | flt (b:UInt64) | ref (a:SM) | ty (n:String)
 deriving DecidableEq
noncomputable def RelV:V->Sl->Prop
 | .non,u=>u=Um
 | .bl b,u=>u=ZN b
 | .int i,u=>∃t,u=Wu i t
 | .str x,u=>∃t,u=aae x t
 | .byt b,u=>∃t,u=ac0 b t
 | .flt b,u=>∃t,u=ac1 b t
 | .ref a,u=>u=Vi a
 | .ty n,u=>u=Vy n
abbrev Vals:List V->List Sl->Prop:=Yx RelV
theorem Vals.length {xs:List V}{us:List Sl}(r:Vals xs us):xs.length=us.length:=YN r
theorem Vals.get:∀{xs:List V}{us:List Sl}{i:Nat}{x:V},Vals xs us->xs[i]?=some x->∃u,us[i]?=some u/\RelV x u
 | _,_,_,_,.nil,e=>by simp at e
 | _,_,0,_,.cons r _,e=>by simp at e;subst e;exact ⟨_,rfl,r⟩
 | _,_,i + 1,x,.cons _ t,e=>by obtain ⟨u,h1,h2⟩:=Vals.get (i:=i) (x:=x) t (by simpa using e);exact ⟨u,by simpa using h1,h2⟩
theorem Vals.append:∀{xs ys:List V}{us ws:List Sl},Vals xs us->Vals ys ws->Vals (xs++ys) (us++ws)
 | _,_,_,_,.nil,s=>s
 | _,_,_,_,.cons r t,s=>.cons r (Vals.append t s)
theorem Vals.take:∀{xs:List V}{us:List Sl}(n:Nat),Vals xs us->Vals (xs.take n) (us.take n)
 | _,_,0,_=>.nil
 | _,_,_ + 1,.nil=>.nil
 | _,_,n + 1,.cons r t=>.cons r (Vals.take n t)
theorem Vals.drop:∀{xs:List V}{us:List Sl}(n:Nat),Vals xs us->Vals (xs.drop n) (us.drop n)
 | _,_,0,r=>r
 | _,_,_ + 1,.nil=>.nil
 | _,_,n + 1,.cons _ t=>Vals.drop n t
noncomputable def iN:Option V->Option Sl->Prop
 | some v,some u=>RelV v u
 | none,none=>True
 | _,_=>False
def KV {κ:Type}:List (κ×V)->List (κ×Sl)->Prop:=Yx λ(p:κ×V) (q:κ×Sl)=>p.1=q.1/\RelV p.2 q.2
noncomputable def kV:Key->V
 | .inl i=>.int i
 | .inr x=>.str x
inductive HO where
  | lst (xs:List V)
  | tup (xs:List V)
  | dK (Sh:List (Key×V)) | dT (Sh:List (List Key×V))
  | set (S:Int->Bool) (n:Nat)
  | ins (C dx:SM) (fs:List (Str×V))
  | own (x:SM)
  | xd (fs:List (Str×V))
  | met (f x:SM)
  | rng (lo hi:Int)
  | frz (o:Obj) (u:HO)
  | tbl (ps:Array Sl)
  | ext (φ:Uo->Prop)
 | memo (dom:List (List Int)) (f:List Int->Bool)
abbrev Hp:=SM->Option HO
def upd (H:Hp) (a:SM) (o:HO):Hp:=λb=>if b=a then some o else H b
theorem bD {H:Hp}:upd H a o a=some o:=by unfold upd;rw [if_pos rfl]
theorem a_ {H:Hp}(h:b≠a):upd H a o b=H b:=by unfold upd;rw [if_neg h]
theorem Ke {H:Hp}:upd (upd H a o) a u=upd H a u:=by funext b;unfold upd;split <;> rfl
theorem Nm {H:Hp}{a b:SM}{o u:HO}(h:H a=some o) (h':H b=some u) (d:o≠u):a≠b:=by intro e;subst e;rw [h] at h';exact d (TY h')
theorem fJ {H:Hp}(h:H a=some o) (h':H b=none):a≠b:=by intro e;subst e;rw [h] at h';cases h'
section
variable (P:SK) (w:S9)
def Pj (h:Uo) (a:SM):Prop:=∀o,h.get? a=some o->o.dict=none
noncomputable def bW (H:Hp) (h:Uo) (a:SM):HO->Prop
 | .lst xs=>xs.length<=sizeLine/\∃(Sb:List Sl) (n:Nat),Vals xs Sb/\h.get? a=some {cls:=.type "list",data:=.seq Sb.toArray n}
 | .tup xs=>xs.length<=sizeLine/\∃Sb:List Sl,Vals xs Sb/\adF h a Sb.toArray/\Pj h a
 | .dK Sh=>Sh.length<=sizeLine/\(a == T9)=false/\∃vs,KV Sh vs/\h.DictOf (d7 P w) a vs
 | .dT Sh=>Sh.length<=sizeLine/\(a == T9)=false/\∃xs:List (List Key×SM×Sl),
   Yx (λ(p:List Key×V) (q:List Key×SM×Sl)=>p.1=q.1/\H q.2.1=some (.tup (p.1.map kV))/\RelV p.2 q.2.2) Sh xs/\
   ∃o es ep,h.get? a=some o/\o.ExactDict/\o.data=.dict es ep/\es.toList=xs.map (entryOfKey (Zh (d7 P w)))/\(xs.map (·.1)).Nodup
 | .set S n=>h.SetOf (intKind P w) a S n
 | .ins C dx fs=>H dx=some (.own a)/\fs.length<=1000/\dx≠a/\h.get? a=some (Vr C dx)/\
   ∃mA,h.Ns1 dx mA/\(∀f,iN (fs.lookup f) (mA f))/\aaZ mA (fs.map (·.1))
 | .own _=>∃o,h.get? a=some o
 | .xd fs=>∃mA,h.Ns1 a mA/\∀f,iN (fs.lookup f) (mA f)
 | .rng lo hi=>∃t u v,h.get? a=some {cls:=.type "range",data:=.fields #[.int lo t,.int hi u,.int 1 v]}
 | .frz o u=>h.get? a=some o/\bW H h a u
 | .tbl ps=>h.get? a=some {cls:=.none,data:=.fields ps}
 | .met f x=>h.get? a=some (Yy (.ref f) (.ref x))
 | .ext φ=>φ h/\(∃o,h.get? a=some o)/\∀h1 h2:Uo,φ h1->(∀o,h1.get? a=some o->h2.get? a=some o)->φ h2
 | .memo dom f=>(a == T9)=false/\dom.length < sizeLine/\∃Sh:List (List Key×V),(∀p∈Sh,∃is,is∈dom/\p=(is.map Vl,V.bl (f is)))/\∃xs:List (List Key×SM×Sl),
   Yx (λ(p:List Key×V) (q:List Key×SM×Sl)=>p.1=q.1/\H q.2.1=some (.tup (p.1.map kV))/\RelV p.2 q.2.2) Sh xs/\
   ∃o es ep,h.get? a=some o/\o.ExactDict/\o.data=.dict es ep/\es.toList=xs.map (entryOfKey (Zh (d7 P w)))/\(xs.map (·.1)).Nodup
def eY (H:Hp) (h:Uo):Prop:=∀a o,H a=some o->bW P w H h a o
end
section
variable {P:SK}{w:S9}{H H':Hp}{h h':Uo}{a:SM}{o:HO}
theorem bW.lt (x:bW P w H h a o):a < h.objs.size:=by
 cases o with
 | lst xs=>obtain ⟨_,_,_,_,e⟩:=x;exact SJ e
 | tup xs=>obtain ⟨_,_,_,p,_⟩:=x;exact p.lt
 | dK Sh=>obtain ⟨_,_,_,_,o,_,_,e,_⟩:=x;exact SJ e
 | dT Sh=>obtain ⟨_,_,_,_,o,_,_,e,_⟩:=x;exact SJ e
 | set S n=>obtain ⟨o,_,_,_,e,_⟩:=x;exact SJ e
 | ins C dx fs=>obtain ⟨_,_,_,e,_⟩:=x;exact SJ e
 | own y=>obtain ⟨_,e⟩:=x;exact SJ e
 | xd fs=>obtain ⟨_,⟨_,_,_,e,_⟩,_⟩:=x;exact SJ e
 | rng lo hi=>obtain ⟨_,_,_,e⟩:=x;exact SJ e
 | frz ob u=>obtain ⟨e,_⟩:=x;exact SJ e
 | tbl ps=>exact SJ (show h.get? a=some _ from x)
 | met f y=>exact SJ (show h.get? a=some _ from x)
 | ext φ=>obtain ⟨_,⟨_,e⟩,_⟩:=x;exact SJ e
 | memo d f=>obtain ⟨_,_,_,_,_,_,o,_,_,e,_⟩:=x;exact SJ e
theorem Yx.mapP {α β:Type}{F G:α->β->Prop}:∀{l₁:List α}{l₂:List β},Yx F l₁ l₂->(∀a b,F a b->G a b)->Yx G l₁ l₂
 | _,_,.nil,_=>.nil
 | _,_,.cons r t,f=>.cons (f _ _ r) (Yx.mapP t f)
theorem bW.stay (x:bW P w H h a o) (k:∀b u,(b=a\/H b=some (.own a))->h.get? b=some u->h'.get? b=some u)
  (ho:∀b,H b=some (.own a)->H' b=some (.own a)) (ht:∀b xs,H b=some (.tup xs)->H' b=some (.tup xs)):bW P w H' h' a o:=by
 induction o with
 | lst xs=>obtain ⟨z,Sb,n,r,e⟩:=x;exact ⟨z,Sb,n,r,k _ _ (.inl rfl) e⟩
 | tup xs=>obtain ⟨z,Sb,r,⟨ob,e,c⟩,nd⟩:=x;exact ⟨z,Sb,r,⟨ob,k _ _ (.inl rfl) e,c⟩,λo q=>by rw [k _ _ (.inl rfl) e] at q;cases q;exact nd _ e⟩
 | dK Sh=>obtain ⟨z,y,vs,r,ob,es,ep,e,c⟩:=x;exact ⟨z,y,vs,r,ob,es,ep,k _ _ (.inl rfl) e,c⟩
 | dT Sh=>
  obtain ⟨z,y,xs,r,ob,es,ep,e,c⟩:=x;exact ⟨z,y,xs,Yx.mapP r λp q z=>⟨z.1,ht _ _ z.2.1,z.2.2⟩,ob,es,ep,k _ _ (.inl rfl) e,c⟩
 | set S n=>obtain ⟨ob,es,ep,t,e,c⟩:=x;exact ⟨ob,es,ep,t,k _ _ (.inl rfl) e,c⟩
 | ins C dx fs=>
  obtain ⟨d,z,ne,e,mA,⟨od,es,ep,e2,c⟩,r⟩:=x;exact ⟨ho _ d,z,ne,k _ _ (.inl rfl) e,mA,⟨od,es,ep,k _ _ (.inr d) e2,c⟩,r⟩
 | own y=>obtain ⟨ob,e⟩:=x;exact ⟨ob,k _ _ (.inl rfl) e⟩
 | xd fs=>obtain ⟨mA,⟨od,es,ep,e,c⟩,r⟩:=x;exact ⟨mA,⟨od,es,ep,k _ _ (.inl rfl) e,c⟩,r⟩
 | rng lo hi=>obtain ⟨t,u,v,e⟩:=x;exact ⟨t,u,v,k _ _ (.inl rfl) e⟩
 | frz ob u ih=>obtain ⟨e,q⟩:=x;exact ⟨k _ _ (.inl rfl) e,ih q⟩
 | tbl ps=>
  have e:h.get? a=some {cls:=.none,data:=.fields ps}:=x;show h'.get? a=some {cls:=.none,data:=.fields ps};exact k a _ (.inl rfl) e
 | met f y=>
  have e:h.get? a=some (Yy (.ref f) (.ref y)):=x;show h'.get? a=some (Yy (.ref f) (.ref y));exact k a _ (.inl rfl) e
 | ext φ=>obtain ⟨p,⟨o,e⟩,st⟩:=x;exact ⟨st _ _ p λo q=>k _ _ (.inl rfl) q,⟨o,k _ _ (.inl rfl) e⟩,st⟩
 | memo d f=>
  obtain ⟨y,z,Sh,m,xs,r,ob,es,ep,e,c⟩:=x;exact ⟨y,z,Sh,m,xs,Yx.mapP r λp q z=>⟨z.1,ht _ _ z.2.1,z.2.2⟩,ob,es,ep,k _ _ (.inl rfl) e,c⟩
theorem eY.lt (x:eY P w H h) (e:H a=some o):a < h.objs.size:=(x a o e).lt
theorem eY.fresh (x:eY P w H h) (e:h.objs.size<=a):H a=none:=by
 cases q:H a with
 | none=>rfl
 | some u=>exact absurd (SW (x.lt q) e) (VF _)
theorem eY.kept (x:eY P w H h) (k:∀b u,h.get? b=some u->h'.get? b=some u):eY P w H h':=λa o e=>
 (x a o e).stay (λb u _ q=>k b u q) (λ_ q=>q) λ_ _ q=>q
theorem eY.laid (x:eY P w H h) (k:∀b u,h.get? b=some u->h'.get? b=some u) (hp:h.objs.size<=a) (new:bW P w (upd H a o) h' a o):eY P w (upd H a o) h':=λb u e=>by
 have hn:=x.fresh hp;by_cases hb:b=a
 ·subst hb;rw [bD] at e;cases e;exact new
 ·rw [a_ hb] at e;exact (x b u e).stay (λc v _ q=>k c v q) (λc q=>by rw [a_ (fJ q hn)];exact q) λc xs q=>by rw [a_ (fJ q hn)];exact q
end
def Rd (H:Hp) (a:SM) (u:HO):Prop:=H a=some u\/∃o,H a=some (.frz o u)
theorem Rd.ok {H:Hp}(r:Rd H a u) (x:eY P w H h):bW P w H h a u:=by
 rcases r with r | ⟨o,r⟩
 ·exact x a u r
 ·obtain ⟨_,q⟩:=x a _ r;exact q
noncomputable def Ce:Option HO->Prop
 | some (.lst _)=>True
 | some (.dK _)=>True
 | some (.dT _)=>True
 | some (.set _ _)=>True
 | some (.ins _ _ _)=>True
 | some (.ext _)=>True
 | some (.memo _ _)=>True
 | _=>False
section
variable {P:SK}{w:S9}{H:Hp}{h h':Uo}{x e:SM}{o':HO}
theorem eY.write (ok:eY P w H h) (mu:Ce (H x)) (he:e=x\/H e=some (.own x)) (k:∀b u,b≠e->h.get? b=some u->h'.get? b=some u) (QY:∃u,h'.get? e=some u)
  (new:bW P w (upd H x o') h' x o'):eY P w (upd H x o') h':=λb u q=>by
 have nown:∀c y,H c=some (.own y)->c≠x:=λc y r z=>by subst z;rw [r] at mu;exact mu
 have ntup:∀c xs,H c=some (.tup xs)->c≠x:=λc xs r z=>by subst z;rw [r] at mu;exact mu
 by_cases hb:b=x
 ·subst hb;rw [bD] at q;cases q;exact new
 ·rw [a_ hb] at q;by_cases QT:b=e
  ·have q':H b=some (.own x):=by
    rcases he with z | z
    ·exact absurd (QT.trans z) hb
    ·rw [QT];exact z
   rw [q] at q';cases q';obtain ⟨v,hv⟩:=QY;exact ⟨v,by rw [QT];exact hv⟩
  ·refine (ok b u q).stay (λc v hc r=>k c v ?_ r) (λc r=>by rw [a_ (nown c b r)];exact r) λc xs r=>by rw [a_ (ntup c xs r)];exact r
   rcases hc with rfl | hc
   ·exact QT
   ·rintro rfl;rcases he with z | z
    ·exact nown c b hc z
    ·rw [hc] at z;cases z;exact hb rfl
end
structure Un (fs ex:List SM) (H H':Hp) (h h':Uo):Prop where
 keep:∀b o,h.get? b=some o->H b=none->b∉fs->b∉ex->h'.get? b=some o
 slot:∀b o,h.get? b=some o->H b=none->b∈fs->b∉ex->∃sl,h'.get? b=some {o with slots:=sl}
 free:∀b o,h.get? b=some o->H b=none->b∉ex->H' b=none
 there:∀b o,h.get? b=some o->b∉ex->∃o',h'.get? b=some o'
 tups:∀b xs,H b=some (.tup xs)->H' b=some (.tup xs)
 frzs:∀b o u,H b=some (.frz o u)->H' b=some (.frz o u)
 tbls:∀b ps,H b=some (.tbl ps)->∃more,H' b=some (.tbl (ps++more))
section
variable {fs fs' ex ex':List SM}{H H1 H2:Hp}{h h1 h2 h':Uo}{a x e:SM}{o:HO}
theorem Un.any (u:Un fs ex H H1 h h1) (q:h.get? b=some ob) (n:H b=none) (hx:b∉ex):∃sl,h1.get? b=some {ob with slots:=sl}:=by
 by_cases hb:b∈fs
 ·exact u.slot b ob q n hb hx
 ·exact ⟨ob.slots,u.keep b ob q n hb hx⟩
theorem Un.kept (k:∀b u,h.get? b=some u->h'.get? b=some u):Un fs ex H H h h':=
 ⟨λb ob q _ _ _=>k b ob q,λb ob q _ _ _=>⟨ob.slots,k b ob q⟩,λ_ _ _ n _=>n,λb ob q _=>⟨ob,k b ob q⟩,λ_ _ q=>q,λ_ _ _ q=>q,λ_ ps q=>⟨#[],by rw [q];simp⟩⟩
theorem Un.refl:Un fs ex H H h h:=Un.kept λ_ _ q=>q
theorem Un.laid (k:∀b u,h.get? b=some u->h'.get? b=some u) (hp:h.objs.size<=a) (hn:H a=none):Un fs ex H (upd H a o) h h' where
 keep:=λb u q _ _ _=>k b u q
 slot:=λb u q _ _ _=>⟨u.slots,k b u q⟩
 free:=λb u q n _=>by rw [a_ (SQ (SW (SJ q) hp))];exact n
 there:=λb u q _=>⟨u,k b u q⟩
 tups:=λb xs q=>by rw [a_ (fJ q hn)];exact q
 frzs:=λb u xs q=>by rw [a_ (fJ q hn)];exact q
 tbls:=λb ps q=>⟨#[],by rw [a_ (fJ q hn),q];simp⟩
theorem Un.write (mu:Ce (H x)) (he:e=x\/H e=some (.own x)) (k:∀b u,b≠e->h.get? b=some u->h'.get? b=some u) (QY:∃u,h'.get? e=some u):Un fs ex H (upd H x o) h h':=by
 have hx:∀b,H b=none->b≠x:=λb n z=>by subst z;rw [n] at mu;exact mu
 have hb:∀b,H b=none->b≠e:=λb n z=>by
  subst z;rcases he with r | r
  ·exact hx b n r
  ·rw [n] at r;cases r
 have hm:∀b u,H b=some u->¬Ce (some u)->b≠x:=λb u q nm z=>by subst z;rw [q] at mu;exact nm mu
 refine ⟨λb u q n _ _=>k b u (hb b n) q,λb u q n _ _=>⟨u.slots,k b u (hb b n) q⟩,λb u q n _=>by rw [a_ (hx b n)];exact n,λb u q _=>?_,
  λb xs q=>by rw [a_ (hm b _ q λz=>z)];exact q,λb u xs q=>by rw [a_ (hm b _ q λz=>z)];exact q,λb ps q=>⟨#[],by rw [a_ (hm b _ q λz=>z),q];simp⟩⟩
 by_cases QT:b=e
 ·subst QT;exact QY
 ·exact ⟨u,k b u QT q⟩
end
def Ez (h:Uo) (H:Hp):List SM:=(Sx h.objs.size).filter λa=>(H a).isSome
def lY (h:Uo) (H:Hp):Uo:=W.hideAll h (Ez h H)
theorem Di (h:Uo) (H:Hp):(lY h H).objs.size=h.objs.size:=W.hideAll_size _ _
theorem Fv {h:Uo}{H:Hp}(e:h.get? b=some o) (n:H b=none):(lY h H).get? b=some o:=
 W.hideAll_get _ e λhm=>by have q:(H b).isSome=true:=(VS.mp hm).2;rw [n] at q;simp at q
theorem Jh {h:Uo}{H:Hp}(e:(lY h H).get? b=some o):h.get? b=some o/\H b=none:=by
 have e':h.get? b=some o:=W.of_hideAll (Ez h H) e;refine ⟨e',?_⟩;cases q:H b with
 | none=>rfl
 | some x=>
  have hm:b∈Ez h H:=VS.mpr ⟨S0.mpr (SJ e'),by simp [q]⟩;have z:(lY h H).get? b=none:=W.hideAll_none (Ez h H) hm;rw [z] at e;cases e
def Ig (g h:Uo) (L:SM):List (SM×Obj):=(Sx h.objs.size).filterMap λa=>if a=L\/(g.get? a).isSome=true then none else (h.get? a).map λo=>(a,o)
def rest (g h:Uo) (L d:SM):List (SM×Obj):=(Ig g h L).filter λp=>decide (p.1≠d)
structure Mod (K:Sk) (mg:Str->Option Sl) (base:Uo):Prop where
 kin:K.In base
 glob:base.Ns SY mg
 blt:∃mb,base.Ns ab7 mb/\∀x:Str,x≠"__name__"->mb x=Uz x
 nolimit:base.NoLimit
structure Cx where
 prog:SK
 w:S9
 K:Sk
 mg:Str->Option Sl
 base:Uo
 A:Te
 N:List Str
 s₀:Sn
 H₀:Hp
 env:Env
 outer:List Env
 stack:List Env
 ex:List SM
 fn:Str->Bool
 calm:Bool
 pn:List (SM×Obj)
 xe:Sl->Sn->Prop
def frs (l:List Env):List SM:=l.filterMap (·.frame)
abbrev Cx.fs (X:Cx):List SM:=frs X.outer
def mH (sc:Wa) (x:Str):Prop:=sc.names.lookup x=some .local\/sc.names.lookup x=some .cell\/sc.names.lookup x=some .free
def Loc (sc:Wa) (x:Str):Prop:=sc.names.lookup x=some .local\/sc.names.lookup x=some .cell
noncomputable def Look (env:Env) (h:Uo) (m:Str->Option Sl) (x:Str) (u:Sl):Prop:=
 (env.kindOf x=some .local/\m x=some u)\/((env.kindOf x=some .cell\/env.kindOf x=some .free)/\∃c,env.cells.lookup x=some c/\h.IsCell c (some u))
structure Cx.Ok (X:Cx):Prop where
 mod:Mod X.K X.mg X.base
 kind:X.env.scope.kind=.function
 glob:X.env.globals=SY
 blt:X.env.builtins=ab7
 above:X.s₀.heap.objs.size<=X.env.locals
 inj:∀x y c,X.env.cells.lookup x=some c->X.env.cells.lookup y=some c->x=y
 has:∀x,(X.env.kindOf x=some .cell\/X.env.kindOf x=some .free)->∃c,X.env.cells.lookup x=some c
 cab:∀x c,X.fn x=true->X.env.cells.lookup x=some c->X.s₀.heap.objs.size<=c
 hd:X.calm=true->X.A.handled=none
 frames:X.A.frames=some X.stack
 stk:X.stack=X.outer\/(X.stack=X.env::X.outer/\X.env.frame=some X.env.locals)
 exf:∀b∈X.ex,b≠X.env.locals/\∀x c,X.env.cells.lookup x=some c->c≠b
 bs:∀b o,X.base.get? b=some o->X.s₀.heap.get? b=some o/\X.H₀ b=none
 bsz:X.base.objs.size<=X.s₀.heap.objs.size
 noex:∀b o,X.base.get? b=some o->b∉X.ex
 exfs:∀b∈X.ex,b∉X.fs
 funs:X.s₀.heap.FunFrames X.base X.outer
 frf:∀b∈X.fs,X.H₀ b=none
structure Inv (X:Cx) (Sa:List (SM×Obj)) (σ:List (Option V)) (H:Hp) (s:Sn):Prop where
 ok:X.Ok
 os:s.os=X.s₀.os
 bare:YO s.gens
 base:Un X.fs X.ex X.H₀ H X.s₀.heap s.heap
 loc:∃m,s.heap.Ns X.env.locals m/\∀(i:Nat) (x:Str) (v:V),X.N[i]?=some x->σ[i]?=some (some v)->mH X.env.scope x->∃u,RelV v u/\Look X.env s.heap m x u
 cell:∀x c,X.env.cells.lookup x=some c->∃v,s.heap.IsCell c v
 free:H X.env.locals=none
 freeC:∀x c,X.env.cells.lookup x=some c->H c=none
 pin:∀p∈X.pn++Sa,s.heap.get? p.1=some p.2/\H p.1=none/\p.1≠X.env.locals/\p.1∉X.fs/\∀v,p.2.data≠.cell v
 hok:eY X.prog X.w H s.heap
 len:σ.length=X.N.length
section
variable {X:Cx}{Sa:List (SM×Obj)}{σ:List (Option V)}{H H':Hp}{s:Sn}{h':Uo}
theorem Cx.Ok.nofr (ok:X.Ok) (e:X.base.get? b=some o):b∉X.fs:=λhb=>by have:=(ok.funs.mem hb).1;rw [e] at this;cases this
theorem Inv.bs (I:Inv X Sa σ H s):∀b o,X.base.get? b=some o->s.heap.get? b=some o/\H b=none:=λb o e=>
 ⟨I.base.keep b o (I.ok.bs b o e).1 (I.ok.bs b o e).2 (I.ok.nofr e) (I.ok.noex b o e),I.base.free b o (I.ok.bs b o e).1 (I.ok.bs b o e).2 (I.ok.noex b o e)⟩
theorem Inv.bk (I:Inv X Sa σ H s):∀b o,X.base.get? b=some o->s.heap.get? b=some o:=λb o e=>(I.bs b o e).1
theorem Inv.mod (I:Inv X Sa σ H s):Mod X.K X.mg X.base:=I.ok.mod
theorem Inv.kIn (I:Inv X Sa σ H s):X.K.In s.heap:=I.ok.mod.kin.keeps I.bk
theorem Inv.lt (I:Inv X Sa σ H s):X.env.locals < s.heap.objs.size:=let ⟨_,hn,_⟩:=I.loc;hn.lt
theorem Inv.sz (I:Inv X Sa σ H s):X.s₀.heap.objs.size<=s.heap.objs.size:=Tw I.ok.above (Xo I.lt)
theorem Inv.nofs (I:Inv X Sa σ H s) (h:s.heap.objs.size<=a):a∉X.fs:=λhb=>by obtain ⟨_,o,ho,_⟩:=I.ok.funs.mem hb;exact absurd (SW (SJ ho) (Tw I.sz h)) (VF _)
theorem Inv.cne (I:Inv X Sa σ H s):∀x c,X.env.cells.lookup x=some c->c≠X.env.locals:=λx c e z=>by obtain ⟨v,o,ho,hd⟩:=I.cell x c e;obtain ⟨m,⟨o',es,ep,ho',hd',_⟩,_⟩:=I.loc;rw [z,ho'] at ho;cases ho;rw [hd'] at hd;cases hd
theorem Inv.funs (I:Inv X Sa σ H s):s.heap.FunFrames X.base X.outer:=by
 have all:∀(l:List Env),(∀b∈frs l,b∈X.fs)->X.s₀.heap.FunFrames X.base l->s.heap.FunFrames X.base l:=by
  intro l
  induction l with
  | nil=>intro _ _;trivial
  | cons env r ih=>
   intro hs hl;obtain ⟨hk,⟨L,o,hf,hn,ho,hd⟩,hr⟩:=hl;have hL:L∈X.fs:=hs L (by unfold frs;rw [WC,hf];exact Sv);obtain ⟨sl,e⟩:=I.base.slot L o ho (I.ok.frf L hL) hL λz=>I.ok.exfs L z hL;exact ⟨hk,⟨L,_,hf,hn,e,hd⟩,ih (λb hb=>hs b (by unfold frs;rw [WC,hf];exact Ss _ hb)) hr⟩
 exact all X.outer (λ_ hb=>hb) I.ok.funs
theorem Inv.stack (I:Inv X Sa σ H s):s.heap.FunFrames X.base X.stack:=by
 rcases I.ok.stk with e | ⟨e,hf⟩
 ·rw [e];exact I.funs
 ·rw [e];obtain ⟨m,hn,_⟩:=I.loc;refine .cons (by rw [I.ok.kind];decide) hf hn ?_ I.funs;exact Heap.get?_none_of_le (Tw I.ok.bsz I.ok.above)
theorem Inv.stkSub (I:Inv X Sa σ H s):∀b∈frs X.stack,b∈X.env.locals::X.fs:=λb hb=>by
 rcases I.ok.stk with e | ⟨e,hf⟩
 ·rw [e] at hb;exact Ss _ hb
 ·rw [e] at hb;unfold frs at hb;rw [WC,hf] at hb;exact hb
theorem Inv.stkFree (I:Inv X Sa σ H s):∀b∈frs X.stack,H b=none:=λb hb=>by
 rcases SN.mp (I.stkSub b hb) with e | hb
 ·rw [e];exact I.free
 ·obtain ⟨_,o,ho,_⟩:=I.ok.funs.mem hb;exact I.base.free b o ho (I.ok.frf b hb) λz=>I.ok.exfs b z hb
theorem Inv.step {g':Array adu}{t':Nat}{d':Drawn}{ch:List SM}(I:Inv X Sa σ H s)
  (hch:∀b∈ch,(b∈X.ex\/X.s₀.heap.objs.size<=b)/\b≠X.env.locals/\(∀x c,X.env.cells.lookup x=some c->c≠b)/\∀p∈X.pn++Sa,p.1≠b)
  (keep:∀b o,b≠X.env.locals->b∉X.fs->b∉ch->s.heap.get? b=some o->H b=none->h'.get? b=some o)
  (slot:∀b o,b≠X.env.locals->b∈X.fs->b∉ch->s.heap.get? b=some o->H b=none->∃sl,h'.get? b=some {o with slots:=sl}) (free:∀b o,b∉ch->s.heap.get? b=some o->H b=none->H' b=none)
  (there:∀b o,b∉ch->s.heap.get? b=some o->∃o',h'.get? b=some o')
  (tups:∀b xs,H b=some (.tup xs)->H' b=some (.tup xs)) (frzs:∀b o u,H b=some (.frz o u)->H' b=some (.frz o u)) (tbls:∀b ps,H b=some (.tbl ps)->∃more,H' b=some (.tbl (ps++more)))
  (ns:∀m,s.heap.Ns X.env.locals m->h'.Ns X.env.locals m) (hok:eY X.prog X.w H' h') (hg:YO g'):
  Inv X Sa σ H' {s with heap:=h',gens:=g',drawn:=d',toks:=t'}:=by
 have neL:∀b o,X.s₀.heap.get? b=some o->b≠X.env.locals:=λb o e=>SQ (SW (SJ e) I.ok.above);have neC:∀b o,X.s₀.heap.get? b=some o->b∉X.ex->b∉ch:=λb o e hx hb=>by
  rcases (hch b hb).1 with z | z
  ·exact hx z
  ·exact absurd (SW (SJ e) z) (VF _)
 have cellK:∀x c,X.env.cells.lookup x=some c->∀v,s.heap.IsCell c v->h'.IsCell c v:=λx c e v ⟨o,ho,hd⟩=>by
  have nch:c∉ch:=λz=>(hch c z).2.2.1 x c e rfl;by_cases hc:c∈X.fs
  ·obtain ⟨sl,q⟩:=slot c o (I.cne x c e) hc nch ho (I.freeC x c e);exact ⟨_,q,hd⟩
  ·exact ⟨o,keep c o (I.cne x c e) hc nch ho (I.freeC x c e),hd⟩
 refine ⟨I.ok,I.os,hg,⟨λb o e n hb hx=>?_,λb o e n hb hx=>?_,λb o e n hx=>?_,λb o e hx=>?_,λb xs e=>tups b xs (I.base.tups b xs e),λb o xs e=>frzs b o xs (I.base.frzs b o xs e),λb ps e=>?_⟩,?_,λx c e=>?_,?_,λx c e=>?_,λp hp=>?_,hok,I.len⟩
 ·exact keep b o (neL b o e) hb (neC b o e hx) (I.base.keep b o e n hb hx) (I.base.free b o e n hx)
 ·obtain ⟨sl,e1⟩:=I.base.slot b o e n hb hx;obtain ⟨sl',e2⟩:=slot b _ (neL b o e) hb (neC b o e hx) e1 (I.base.free b o e n hx);exact ⟨sl',e2⟩
 ·obtain ⟨o',e1⟩:=I.base.there b o e hx;exact free b o' (neC b o e hx) e1 (I.base.free b o e n hx)
 ·obtain ⟨o',e1⟩:=I.base.there b o e hx;exact there b o' (neC b o e hx) e1
 ·obtain ⟨m1,e1⟩:=I.base.tbls b ps e;obtain ⟨m2,e2⟩:=tbls b _ e1;exact ⟨m1++m2,by rw [e2,Array.append_assoc]⟩
 ·obtain ⟨m,hn,hl⟩:=I.loc;refine ⟨m,ns m hn,λi x v e1 e2 e3=>?_⟩;obtain ⟨u,r,l⟩:=hl i x v e1 e2 e3;refine ⟨u,r,?_⟩;rcases l with l | ⟨k,c,e,z⟩
  ·exact .inl l
  ·exact .inr ⟨k,c,e,cellK x c e _ z⟩
 ·obtain ⟨v,z⟩:=I.cell x c e;exact ⟨v,cellK x c e v z⟩
 ·obtain ⟨m,⟨o,_,_,ho,_⟩,_⟩:=I.loc;exact free _ o (λz=>(hch _ z).2.1 rfl) ho I.free
 ·obtain ⟨v,o,ho,hd⟩:=I.cell x c e;exact free c o (λz=>(hch c z).2.2.1 x c e rfl) ho (I.freeC x c e)
 ·obtain ⟨e,n,ne,nf,d⟩:=I.pin p hp;have nch:p.1∉ch:=λz=>(hch p.1 z).2.2.2 p hp rfl;exact ⟨keep p.1 p.2 ne nf nch e n,free p.1 p.2 nch e n,ne,nf,d⟩
theorem Inv.un (I:Inv X Sa σ H s) (u:Un X.fs [] H H' s.heap h') (hok:eY X.prog X.w H' h'):Inv X Sa σ H' {s with heap:=h',toks:=t'}:=by
 obtain ⟨m,⟨o,es,ep,ho,r⟩,_⟩:=id I.loc;obtain ⟨sl,hL⟩:=u.any ho I.free (by simp);exact I.step (g':=s.gens) (d':=s.drawn) (ch:=[]) (λ_ z=>nomatch z) (λb o _ hb _ e n=>u.keep b o e n hb (by simp)) (λb o _ hb _ e n=>u.slot b o e n hb (by simp)) (λb o _ e n=>u.free b o e n (by simp)) (λb o _ e=>u.there b o e (by simp)) u.tups u.frzs u.tbls (λm' hm=>by
  obtain ⟨o',es',ep',ho',r'⟩:=hm;rw [ho] at ho';cases ho';exact ⟨_,es',ep',hL,r'⟩) hok I.bare
theorem Inv.call (I:Inv X Sa σ H s) (u:Un (frs X.stack) ch H H' s.heap h') (hok:eY X.prog X.w H' h') (hg:YO g')
 (hch:∀b∈ch,(b∈X.ex\/X.s₀.heap.objs.size<=b)/\b≠X.env.locals/\(∀x c,X.env.cells.lookup x=some c->c≠b)/\∀p∈X.pn++Sa,p.1≠b):
  Inv X Sa σ H' {s with heap:=h',gens:=g',drawn:=d',toks:=t'}:=by
 obtain ⟨m,⟨o,es,ep,ho,r⟩,_⟩:=id I.loc;obtain ⟨sl,hL⟩:=u.any ho I.free λz=>(hch _ z).2.1 rfl;exact I.step (ch:=ch) hch (λb o hL hb hc e n=>u.keep b o e n (λz=>(SN.mp (I.stkSub b z)).elim hL hb) hc) (λb o _ _ hc e n=>u.any e n hc) (λb o hc e n=>u.free b o e n hc) (λb o hc e=>u.there b o e hc) u.tups u.frzs u.tbls (λm' hm=>by
  obtain ⟨o',es',ep',ho',r'⟩:=hm;rw [ho] at ho';cases ho';exact ⟨_,es',ep',hL,r'⟩) hok hg
theorem Inv.turned {t':Nat}{it:SM}(I:Inv X Sa σ H s) (k:∀b o,b≠it->s.heap.get? b=some o->h'.get? b=some o) (hn:H it=none) (hL:it≠X.env.locals)
  (h1:it∈X.ex\/X.s₀.heap.objs.size<=it) (h2:∀x c,X.env.cells.lookup x=some c->c≠it) (h3:∀p∈X.pn++Sa,p.1≠it):Inv X Sa σ H {s with heap:=h',toks:=t'}:=by
 have nit:∀b u,H b=some u->b≠it:=λb u e z=>by rw [z,hn] at e;cases e
 refine I.step (g':=s.gens) (d':=s.drawn) (ch:=[it]) (λb hb=>?_) (λb o _ _ hc e _=>k b o (λz=>hc (by simp [z])) e) (λb o _ _ hc e _=>⟨o.slots,k b o (λz=>hc (by simp [z])) e⟩) (λ_ _ _ _ n=>n)
  (λb o hc e=>⟨o,k b o (λz=>hc (by simp [z])) e⟩) (λ_ _ e=>e) (λ_ _ _ e=>e) (λb ps e=>⟨#[],by rw [e];simp⟩) (λm hm=>?_) (λb u e=>?_) I.bare
 ·have e:b=it:=by simpa using hb
  subst e;exact ⟨h1,hL,h2,h3⟩
 ·obtain ⟨o,es,ep,ho,r⟩:=hm;exact ⟨o,es,ep,k _ o (UA hL) ho,r⟩
 ·refine (I.hok b u e).stay (λc v hc q=>k c v ?_ q) (λ_ q=>q) λ_ _ q=>q;rcases hc with z | z
  ·rw [z];exact nit b u e
  ·exact nit c _ z
theorem Inv.tok (I:Inv X Sa σ H s) (t:Nat):Inv X Sa σ H {s with toks:=t}:=I.un (h':=s.heap) (t':=t) Un.refl I.hok
theorem Inv.kept (I:Inv X Sa σ H s) (k:∀b u,s.heap.get? b=some u->h'.get? b=some u):Inv X Sa σ H {s with heap:=h',toks:=t'}:=I.un (Un.kept k) (I.hok.kept k)
theorem Inv.laid (I:Inv X Sa σ H s) (k:∀b u,s.heap.get? b=some u->h'.get? b=some u) (hp:s.heap.objs.size<=a) (new:bW X.prog X.w (upd H a o) h' a o):
  Inv X Sa σ (upd H a o) {s with heap:=h',toks:=t'}:=I.un (Un.laid k hp (I.hok.fresh hp)) (I.hok.laid k hp new)
theorem Inv.write (I:Inv X Sa σ H s) (mu:Ce (H x)) (he:e=x\/H e=some (.own x)) (k:∀b u,b≠e->s.heap.get? b=some u->h'.get? b=some u) (QY:∃u,h'.get? e=some u)
 (new:bW X.prog X.w (upd H x o) h' x o):Inv X Sa σ (upd H x o) {s with heap:=h',toks:=t'}:=I.un (Un.write mu he k QY) (I.hok.write mu he k QY new)
theorem Inv.pins_of (I:Inv X Sa σ H s) (h:∀p∈pins',s.heap.get? p.1=some p.2/\H p.1=none/\p.1≠X.env.locals/\p.1∉X.fs/\∀v,p.2.data≠.cell v):Inv X pins' σ H s:=
 ⟨I.ok,I.os,I.bare,I.base,I.loc,I.cell,I.free,I.freeC,λp hp=>(Tc.mp hp).elim (λz=>I.pin p (Uy _ z)) (h p),I.hok,I.len⟩
theorem xZ {N:List Str}(hN:N.Nodup){i j:Nat}{x:Str}(a:N[i]?=some x) (b:N[j]?=some x):i=j:=by obtain ⟨h1,e1⟩:=Td.mp a;obtain ⟨h2,e2⟩:=Td.mp b;exact (Xs hN).mp (e1.trans e2.symm)
theorem u6 {M:abS}{E:Sl->Sn->Prop}{Q:Unit->Sn->Prop}(I:Inv X Sa σ H s) (hN:X.N.Nodup) (hi:X.N[i]?=some x) (hx:Loc X.env.scope x) (r:RelV v u)
 (h:∀s',Inv X Sa (σ.set i (some v)) H s'->(∃a,UJ a s.heap s'.heap/\(a=X.env.locals\/X.env.cells.lookup x=some a))->Q () s') (hf:X.fn x=true\/X.env.scope.names.lookup x=some .local:=by first | exact .inl rfl | exact .inr rfl | assumption):SO M A (acG X.env x u) Q E s:=by
 obtain ⟨m,hn,hl⟩:=id I.loc;have hcls:(X.env.scope.kind == .class || (X.env.scope.kind == .module && X.env.locals != X.env.globals))=false:=by rw [I.ok.kind];rfl
 have hiσ:i < σ.length:=by rw [I.len];exact (Td.mp hi).1
 have cne:=I.cne;have tracked:∀{a:SM}{h':Uo},(∃o,s.heap.get? a=some o/\H a=none)->UJ a s.heap h'->eY X.prog X.w H h':=fun {a h'} ha hs b ob e=>by
  obtain ⟨_,_,hfree⟩:=ha;refine (I.hok b ob e).stay (λc w' hc q=>(hs.2 c ?_).trans q) (λ_ q=>q) λ_ _ q=>q;rintro rfl;rcases hc with rfl | hc
  ·rw [hfree] at e;cases e
  ·rw [hfree] at hc;cases hc
 rcases hx with hk | hk
 ·refine wpAny_storeName_local hk hn (λh' hn' hs=>?_) hcls;obtain ⟨oL,_,_,RZ,_⟩:=id hn;refine h _ ⟨I.ok,I.os,I.bare,⟨λb o e n hb hx=>?_,λb o e n hb hx=>?_,I.base.free,λb o e hx=>?_,I.base.tups,I.base.frzs,I.base.tbls⟩,⟨_,hn',λj y v' e1 e2 e3=>?_⟩,λy c e=>?_,I.free,I.freeC,λp hp=>?_,tracked ⟨oL,RZ,I.free⟩ hs,by simpa using I.len⟩ ⟨_,hs,.inl rfl⟩
  ·exact (hs.2 b (SQ (SW (SJ e) I.ok.above))).trans (I.base.keep b o e n hb hx)
  ·obtain ⟨sl,e1⟩:=I.base.slot b o e n hb hx;exact ⟨sl,(hs.2 b (SQ (SW (SJ e) I.ok.above))).trans e1⟩
  ·obtain ⟨o',e1⟩:=I.base.there b o e hx;exact ⟨o',(hs.2 b (SQ (SW (SJ e) I.ok.above))).trans e1⟩
  ·by_cases hj:j=i
   ·subst hj;rw [hi] at e1;cases e1;rw [T7 hiσ] at e2;cases e2;exact ⟨u,r,.inl ⟨hk,by simp⟩⟩
   ·rw [TL (UA hj)] at e2;obtain ⟨u',r',q⟩:=hl j y v' e1 e2 e3;refine ⟨u',r',?_⟩;rcases q with ⟨k,e⟩ | ⟨k,c,e,z⟩
    ·refine .inl ⟨k,?_⟩;have:y≠x:=λe=>hj (xZ hN e1 (e▸hi));simp [this,e]
    ·exact .inr ⟨k,c,e,z.sameBut hs (cne y c e)⟩
  ·obtain ⟨w',z⟩:=I.cell y c e;exact ⟨w',z.sameBut hs (cne y c e)⟩
  ·obtain ⟨e,n,ne,nf,d⟩:=I.pin p hp;exact ⟨(hs.2 p.1 ne).trans e,n,ne,nf,d⟩
 ·have hfn:X.fn x=true:=by
   rcases hf with z | z
   ·exact z
   ·rw [z] at hk;cases hk
  obtain ⟨c,hc⟩:=I.ok.has x (.inl hk);obtain ⟨w',z⟩:=I.cell x c hc;refine wpAny_storeName_cell I.ok.kind hk hc z (λh' hc' hs=>?_);obtain ⟨oc,hoc,Ro⟩:=id z;refine h {s with heap:=h'} ⟨I.ok,I.os,I.bare,⟨λb o e n hb hx=>?_,λb o e n hb hx=>?_,I.base.free,λb o e hx=>?_,I.base.tups,I.base.frzs,I.base.tbls⟩,⟨m,hn.sameBut hs (UA (cne x c hc)),λj y v' e1 e2 e3=>?_⟩,λy c' e=>?_,I.free,I.freeC,λp hp=>?_,tracked ⟨oc,hoc,I.freeC x c hc⟩ hs,by simpa using I.len⟩ ⟨c,hs,.inr hc⟩
  ·exact (hs.2 b (SQ (SW (SJ e) (I.ok.cab x c hfn hc)))).trans (I.base.keep b o e n hb hx)
  ·obtain ⟨sl,e1⟩:=I.base.slot b o e n hb hx;exact ⟨sl,(hs.2 b (SQ (SW (SJ e) (I.ok.cab x c hfn hc)))).trans e1⟩
  ·obtain ⟨o',e1⟩:=I.base.there b o e hx;exact ⟨o',(hs.2 b (SQ (SW (SJ e) (I.ok.cab x c hfn hc)))).trans e1⟩
  ·by_cases hj:j=i
   ·subst hj;rw [hi] at e1;cases e1;rw [T7 hiσ] at e2;cases e2;exact ⟨u,r,.inr ⟨.inl hk,c,hc,hc'⟩⟩
   ·rw [TL (UA hj)] at e2;obtain ⟨u',r',q⟩:=hl j y v' e1 e2 e3;refine ⟨u',r',?_⟩;rcases q with q | ⟨k,c',e,z'⟩
    ·exact .inl q
    ·refine .inr ⟨k,c',e,z'.sameBut hs ?_⟩;rintro rfl;exact hj (xZ hN e1 (I.ok.inj _ _ _ e hc▸hi))
  ·by_cases hcc:c'=c
   ·subst hcc;exact ⟨_,hc'⟩
   ·obtain ⟨w2,z2⟩:=I.cell y c' e;exact ⟨w2,z2.sameBut hs hcc⟩
  ·obtain ⟨e,n,ne,nf,d⟩:=I.pin p hp;refine ⟨(hs.2 p.1 ?_).trans e,n,ne,nf,d⟩;intro q;rw [q,hoc] at e;have q':oc=p.2:=TY e;exact d w' (by rw [<-q'];exact Ro)
theorem qk {M:abS}{E:Sl->Sn->Prop}{Q:Unit->Sn->Prop}(I:Inv X Sa σ H s) (hN:X.N.Nodup) (hi:X.N[i]?=some x) (hx:Loc X.env.scope x) (r:RelV v u)
 (h:∀s',Inv X Sa (σ.set i (some v)) H s'->Q () s') (hf:X.fn x=true\/X.env.scope.names.lookup x=some .local:=by first | exact .inl rfl | exact .inr rfl | assumption):SO M A (acG X.env x u) Q E s:=
 u6 I hN hi hx r (λs' I' _=>h s' I') hf
theorem Inv.call' {s':Sn}(I:Inv X Sa σ H s) (ho:s'.os=s.os) (u:Un (frs X.stack) ch H H' s.heap s'.heap) (hok:eY X.prog X.w H' s'.heap) (hg:YO s'.gens)
 (hch:∀b∈ch,(b∈X.ex\/X.s₀.heap.objs.size<=b)/\b≠X.env.locals/\(∀x c,X.env.cells.lookup x=some c->c≠b)/\∀p∈X.pn++Sa,p.1≠b):Inv X Sa σ H' s':=by obtain ⟨h',g',d',t',o'⟩:=s';have e:o'=s.os:=ho;subst e;exact I.call (g':=g') (t':=t') (d':=d') u hok hg hch
end
abbrev XK:=Sl->Option SM->Hp->Prop
abbrev St:=List (Option V)
abbrev VK:=V->Hp->Prop
abbrev TE:=St->Hp->VK->Prop
abbrev TT:=St->Hp->(Bool->Hp->Prop)->Prop
abbrev TA:=St->Hp->(List V->Hp->Prop)->Prop
structure Ends where
 nx:St->Hp->Prop
 rt:VK
 bk:St->Hp->Prop:=λ_ _=>False
 ct:St->Hp->Prop:=λ_ _=>False
abbrev TS:=Ends->St->Hp->Prop
def EP (X:Cx) (Sa:List (SM×Obj)) (σ:St) (Q:VK) (u:Sl) (s':Sn):Prop:=∃v H',Inv X Sa σ H' s'/\RelV v u/\Q v H'
def TP (X:Cx) (Sa:List (SM×Obj)) (σ:St) (Q:Bool->Hp->Prop) (b:Bool) (s':Sn):Prop:=∃H',Inv X Sa σ H' s'/\Q b H'
def AP (X:Cx) (Sa:List (SM×Obj)) (σ:St) (Q:List V->Hp->Prop) (us:List Sl) (s':Sn):Prop:=∃vs H',Inv X Sa σ H' s'/\Vals vs us/\Q vs H'
noncomputable def SP (X:Cx) (Sa:List (SM×Obj)) (D:Ends) (f:Flow) (s':Sn):Prop:=
 match f with
 | .next=>∃σ' H',Inv X Sa σ' H' s'/\D.nx σ' H'
 | .brk=>∃σ' H',Inv X Sa σ' H' s'/\D.bk σ' H'
 | .cont=>∃σ' H',Inv X Sa σ' H' s'/\D.ct σ' H'
 | .ret u=>∃v σ' H',Inv X Sa σ' H' s'/\RelV v u/\D.rt v H'
noncomputable def PE (X:Cx) (e:Tv) (t:TE):Prop:=
 ∀(Sa:List (SM×Obj)) (s:Sn) (σ:St) (H:Hp) (Q:VK),Inv X Sa σ H s->t σ H Q->SO (SX X.prog X.w) X.A (eval e X.env) (EP X Sa σ Q) X.xe s
noncomputable def PT (X:Cx) (e:Tv) (t:TT):Prop:=
 ∀(Sa:List (SM×Obj)) (s:Sn) (σ:St) (H:Hp) (Q:Bool->Hp->Prop),Inv X Sa σ H s->t σ H Q->SO (SX X.prog X.w) X.A (aah e X.env (eval e X.env)) (TP X Sa σ Q) X.xe s
noncomputable def PW (X:Cx) (e:Tv) (t:TT):Prop:=
 ∀(whole:Sem Sl) (Sa:List (SM×Obj)) (s:Sn) (σ:St) (H:Hp) (Q:Bool->Hp->Prop),Inv X Sa σ H s->t σ H Q->SO (SX X.prog X.w) X.A (aah e X.env whole) (TP X Sa σ Q) X.xe s
theorem PW.pt (h:PW X e t):PT X e t:=h _
noncomputable def PA (X:Cx) (es:List Tv) (t:TA):Prop:=
 ∀(pos:Pos) (Sa:List (SM×Obj)) (s:Sn) (σ:St) (H:Hp) (Q:List V->Hp->Prop),Inv X Sa σ H s->t σ H Q->SO (SX X.prog X.w) X.A (spliced (Vf pos (SG es X.env))) (AP X Sa σ Q) X.xe s
noncomputable def PS (X:Cx) (st:VQ) (t:TS):Prop:=
 ∀(Sa:List (SM×Obj)) (s:Sn) (σ:St) (H:Hp) (D:Ends),Inv X Sa σ H s->t D σ H->SO (SX X.prog X.w) X.A (exec st X.env) (SP X Sa D) X.xe s
noncomputable def iI (X:Cx) (st:List VQ) (t:TS):Prop:=
 ∀(Sa:List (SM×Obj)) (s:Sn) (σ:St) (H:Hp) (D:Ends),Inv X Sa σ H s->t D σ H->SO (SX X.prog X.w) X.A (execs st X.env) (SP X Sa D) X.xe s
theorem bO {α:Type}{t:Sem α}{Q Q':α->Sn->Prop}{M:abS}{A:Te}{E:Sl->Sn->Prop}{s:Sn}(h:SO M A t Q E s) (hQ:∀a s,Q a s->Q' a s):SO M A t Q' E s:=TN h hQ λ_ _ x=>x
section
variable {X:Cx}
theorem bin {a b:Tv}{ta tb:TE}(ha:PE X a ta) (hb:PE X b tb){Sa:List (SM×Obj)}{s:Sn}{σ:St}{H:Hp}{R:V->V->Hp->Prop}(I:Inv X Sa σ H s) (h:ta σ H λx H1=>tb σ H1 λy H2=>R x y H2)
  {α:Type}{Q:α->Sn->Prop}{f:Sl->Sl->Sem α}
  (hf:∀v u s2 x y H2,Inv X Sa σ H2 s2->RelV x v->RelV y u->R x y H2->SO (SX X.prog X.w) X.A (f v u) Q X.xe s2):
  SO (SX X.prog X.w) X.A (eval a X.env) (λv s₁=>SO (SX X.prog X.w) X.A (eval b X.env) (λu s₂=>SO (SX X.prog X.w) X.A (f v u) Q X.xe s₂) X.xe s₁) X.xe s:=by refine bO (ha Sa s σ H _ I h) λv s1 ⟨x,H1,I1,r1,q1⟩=>?_;refine bO (hb Sa s1 σ H1 _ I1 q1) λu s2 ⟨y,H2,I2,r2,q2⟩=>?_;exact hf v u s2 x y H2 I2 r1 r2 q2
def B0 (i:Nat):TE:=λσ H Q=>∃v,σ[i]?=some (some v)/\Q v H
def tC (v:V):TE:=λ_ H Q=>Q v H
theorem fV {pos:Pos}(hN:X.N[i]?=some x) (hv:mH X.env.scope x) (hd:autoParam ((x == ("__debug__":Str))=false) zB._auto_1) (hcd:autoParam ((x == ("__classdict__":Str))=false) zB._auto_1):PE X (.Name x pos) (B0 i):=by
 intro Sa s σ H Q I h;obtain ⟨v,e,h⟩:=h;obtain ⟨m,hn,hl⟩:=I.loc;obtain ⟨u,r,l⟩:=hl i x v hN e hv;have fin:EP X Sa σ Q u s:=⟨v,H,I,r,h⟩;rcases l with ⟨hk,hm⟩ | ⟨hk,c,hc,hcell⟩
 ·exact ab8 (ZP I.ok.kind hk hn hm fin) hd
 ·rcases hk with hk | hk
  ·exact ab8 (Z4 I.ok.kind hk hc hcell fin) hd
  ·exact ab8 (wpAny_loadName_free I.ok.kind hk hc hcell fin hcd) hd
theorem yg {i j pos}:PE X (.Constant (.int i) j pos) (tC (.int i)):=λ_ _ _ H _ I h=>wpAny_Constant_int ⟨.int i,H,I.tok _,⟨_,rfl⟩,h⟩
theorem Nx {b j pos}:PE X (.Constant (.bool b) j pos) (tC (.bl b)):=λ_ _ _ H _ I h=>Constant_bool ⟨.bl b,H,I,rfl,h⟩
theorem L6 {j pos}:PE X (.Constant .none j pos) (tC .non):=λ_ _ _ H _ I h=>Constant_none ⟨.non,H,I,rfl,h⟩
theorem L_ {x j pos}:PE X (.Constant (.str x) j pos) (tC (.str x)):=λ_ _ _ H _ I h=>Calls.Constant_str ⟨.str x,H,I.tok _,⟨_,rfl⟩,h⟩
def Gl (X:Cx) (x:Str):Prop:=X.env.kindOf x=some .globalImplicit
theorem tN {E:Sl->Sn->Prop}{H:Hp}{pos:Pos}{Q:Sl->Sn->Prop}(I:Inv X Sa σ H s) (hg:Gl X x) (hm:X.mg x=some u) (h:Q u s)
 (hd:autoParam ((x == ("__debug__":Str))=false) zB._auto_1):SO (SX X.prog X.w) X.A (eval (.Name x pos) X.env) Q E s:=
 Yi I.ok.kind hg (Calls.loadGlobal_global (by rw [I.ok.glob];exact I.mod.glob.keeps I.bk) hm h) hd
theorem nF {E:Sl->Sn->Prop}{H:Hp}{pos:Pos}{Q:Sl->Sn->Prop}(I:Inv X Sa σ H s) (hg:Gl X x) (hm:X.mg x=none) (hv:Uz x=some u) (h:Q u s)
 (hn:autoParam (x≠"__name__") zB._auto_1) (hd:autoParam ((x == ("__debug__":Str))=false) zB._auto_1):SO (SX X.prog X.w) X.A (eval (.Name x pos) X.env) Q E s:=by obtain ⟨mb,h1,h2⟩:=I.mod.blt;exact Yi I.ok.kind hg (Calls.loadGlobal_builtin (by rw [I.ok.glob];exact I.mod.glob.keeps I.bk) hm (by rw [I.ok.blt];exact h1.keeps I.bk) ((h2 x hn).trans hv) h) hd
theorem tV {pos:Pos}(hg:Gl X x) (hm:X.mg x=some u) (r:RelV v u) (hd:autoParam ((x == ("__debug__":Str))=false) zB._auto_1):PE X (.Name x pos) (tC v):=
 λ_ _ _ H _ I h=>tN I hg hm ⟨v,H,I,r,h⟩ hd
theorem Jt {pos:Pos}(hg:Gl X x) (hm:X.mg x=none) (hv:Uz x=some u) (r:RelV v u) (hn:autoParam (x≠"__name__") zB._auto_1) (hd:autoParam ((x == ("__debug__":Str))=false) zB._auto_1):PE X (.Name x pos) (tC v):=
 λ_ _ _ H _ I h=>nF I hg hm hv ⟨v,H,I,r,h⟩ hn hd
variable {a b:Tv}{ta tb:TE}{pos:Pos}
noncomputable def PC (X:Cx) (op:CmpOp) (a b:Tv) (t:TE):Prop:=
 ∀(Sa:List (SM×Obj)) (s:Sn) (σ:St) (H:Hp) (Q:VK),Inv X Sa σ H s->t σ H Q->
  SO (SX X.prog X.w) X.A (eval a X.env) (λv s₁=>SO (SX X.prog X.w) X.A (eval b X.env) (λu s₂=>SO (SX X.prog X.w) X.A (UK op v u) (EP X Sa σ Q) X.xe s₂) X.xe s₁) X.xe s
theorem FZ (b:Tv) (h:op≠.In) (h2:op≠.NotIn):Ui op b=false:=by
 have e1:(op == adV)=false:=by cases op <;> first | rfl | exact absurd rfl h
 have e2:(op == ac2)=false:=by cases op <;> first | rfl | exact absurd rfl h2
 cases b <;> simp [Ui,e1,e2]
def tB (t:TE):TT:=λσ H Q=>t σ H λx H1=>∃c,x=.bl c/\Q c H1
theorem Pr {op:CmpOp}{t:TE}(h:PC X op a b t) (h1:Ui op b=false:=by first | exact FZ _ (by decide) (by decide) | rfl):PT X (.Compare a [op] [b] pos) (tB t):=by intro Sa s σ H Q I hw;refine Zi (bO (h Sa s σ H _ I hw) λv s1 h1=>bO h1 λu s2 h2=>bO h2 λc s3 ⟨x,H1,I1,r1,q1⟩=>?_) h1;obtain ⟨d,rfl,q⟩:=q1;cases r1;exact Vp ⟨H1,I1,q⟩
theorem Mg {e:Tv}{t:TE}(h:PE X e t) (he:∀whole,aah e X.env whole=(do let v <-whole;Ws e.pos;holding [v] (truthy v)):=by intro _;rfl):PT X e (tB t):=by intro Sa s σ H Q I hw;refine isTrue_plain (bO (h Sa s σ H _ I hw) λv s1 ⟨x,H1,I1,r1,q1⟩=>?_) (he _);obtain ⟨d,rfl,q⟩:=q1;cases r1;exact Vp ⟨H1,I1,q⟩
variable {tA tB':TT}{rest:List Tv}
def O6 (t u:TT):TT:=λσ H Q=>t σ H λc H1=>if c=true then u σ H1 Q else Q false H1
def PJ (t u:TT):TT:=λσ H Q=>t σ H λc H1=>if c=true then Q true H1 else u σ H1 Q
def Pb (t:TT):TT:=λσ H Q=>t σ H λc H1=>Q (!c) H1
theorem JF (ha:PT X a tA):PW X (.BoolOp .And [a] pos) tA:=by
 intro wh Sa s σ H Q I h;refine isTrue_and (bO (ha Sa s σ H Q I h) λc s1 e=>?_);cases c with
 | true=>exact isTrue_and_nil e
 | false=>exact e
theorem Mq (ha:PT X a tA):PW X (.BoolOp .Or [a] pos) tA:=by
 intro wh Sa s σ H Q I h;refine isTrue_or (bO (ha Sa s σ H Q I h) λc s1 e=>?_);cases c with
 | false=>exact isTrue_or_nil e
 | true=>exact e
theorem Mp (ha:PT X a tA) (hb:PW X (.BoolOp .And (b::rest) pos) tB'):PW X (.BoolOp .And (a::b::rest) pos) (O6 tA tB'):=by
 intro wh Sa s σ H Q I h;refine isTrue_and (bO (ha Sa s σ H _ I h) λc s1 ⟨H1,I1,q1⟩=>?_);cases c with
 | true=>exact hb wh Sa s1 σ H1 Q I1 q1
 | false=>exact ⟨H1,I1,q1⟩
theorem NB (ha:PT X a tA) (hb:PW X (.BoolOp .Or (b::rest) pos) tB'):PW X (.BoolOp .Or (a::b::rest) pos) (PJ tA tB'):=by
 intro wh Sa s σ H Q I h;refine isTrue_or (bO (ha Sa s σ H _ I h) λc s1 ⟨H1,I1,q1⟩=>?_);cases c with
 | true=>exact ⟨H1,I1,q1⟩
 | false=>exact hb wh Sa s1 σ H1 Q I1 q1
theorem Mf (ha:PT X a tA):PT X (.UnaryOp .Not a pos) (Pb tA):=by intro Sa s σ H Q I h;exact isTrue_not (ha Sa s σ H (λc H1=>Q (!c) H1) I h)
def NL (ta tb:TE):TE:=λσ H Q=>ta σ H λx H1=>∃c,x=.bl c/\if c=true then tb σ H1 Q else Q (.bl false) H1
def NT (ta:TE):TE:=λσ H Q=>ta σ H λx H1=>∃c,x=.bl c/\Q (.bl (!c)) H1
theorem L8 {op}{t:TE}(h:PE X a t):PE X (.BoolOp op [a] pos) t:=λSa s σ H Q I hw=>BoolOp_one (h Sa s σ H Q I hw)
theorem L3 (ha:PE X a ta) (hb:PE X (.BoolOp .And (b::rest) pos) tb):PE X (.BoolOp .And (a::b::rest) pos) (NL ta tb):=by
 intro Sa s σ H Q I h;refine BoolOp_and (bO (ha Sa s σ H _ I h) λv s1 ⟨x,H1,I1,r1,q1⟩=>?_);obtain ⟨c,rfl,q1⟩:=q1;cases r1;refine Vp ?_;cases c with
 | true=>exact hb Sa s1 σ H1 Q I1 q1
 | false=>exact ⟨.bl false,H1,I1,rfl,q1⟩
theorem L7 (ha:PE X a ta):PE X (.UnaryOp .Not a pos) (NT ta):=by intro Sa s σ H Q I h;refine UnaryOp_ (bO (ha Sa s σ H _ I h) λv s1 ⟨x,H1,I1,r1,q1⟩=>?_);obtain ⟨c,rfl,q1⟩:=q1;cases r1;exact not_of (Vp ⟨.bl (!c),H1,I1,rfl,q1⟩)
def PF (t:TT) (ta tb:TE):TE:=λσ H Q=>t σ H λc H1=>if c=true then ta σ H1 Q else tb σ H1 Q
theorem F9 {c:Tv}(hc:PT X c tA) (ha:PE X a ta) (hb:PE X b tb):PE X (.IfExp c a b pos) (PF tA ta tb):=by
 intro Sa s σ H Q I h;refine wpAny_IfExp (bO (hc Sa s σ H _ I h) λd s1 ⟨H1,I1,q1⟩=>?_);cases d with
 | true=>exact ha Sa s1 σ H1 Q I1 q1
 | false=>exact hb Sa s1 σ H1 Q I1 q1
end
noncomputable def cQ (K:Sk) (H:Hp) (a:SM) (xs:List V):Prop:=
 Rd H a (.lst xs)\/
  ∃(o:Obj) (Sb:Array Sl) (n:Nat),K.lookup a=some o/\o.cls=.type "list"/\o.dict=none/\o.data=.seq Sb n/\Sb.size<=sizeLine/\Vals xs Sb.toList
noncomputable def d8 (K:Sk) (H:Hp) (a:SM) (xs:List V):Prop:=
 Rd H a (.tup xs)\/
  ∃(o:Obj) (Sb:Array Sl) (n:Nat),K.lookup a=some o/\o.cls=.type "tuple"/\o.dict=none/\o.data=.seq Sb n/\Sb.size<=sizeLine/\Vals xs Sb.toList
noncomputable def Ow:Sl->Option V
 | .none=>some .non
 | .bool b=>some (.bl b)
 | .int i _=>some (.int i)
 | .str x _=>some (.str x)
 | .bytes b _=>some (.byt b)
 | .float b _=>some (.flt b)
 | .ref a=>some (.ref a)
 | .type n=>some (.ty n)
 | _=>none
theorem RelV.abs (r:RelV x u):Ow u=some x:=by
 cases x with
 | non=>cases r;rfl
 | bl _=>cases r;rfl
 | int _=>obtain ⟨t,rfl⟩:=r;rfl
 | str _=>obtain ⟨t,rfl⟩:=r;rfl
 | byt _=>obtain ⟨t,rfl⟩:=r;rfl
 | flt _=>obtain ⟨t,rfl⟩:=r;rfl
 | ref _=>cases r;rfl
 | ty _=>cases r;rfl
theorem RelV.inj (r:RelV x u) (q:RelV y u):x=y:=TY (r.abs.symm.trans q.abs)
theorem Vals.inj:∀{xs ys:List V}{us:List Sl},Vals xs us->Vals ys us->xs=ys
 | _,_,_,.nil,.nil=>rfl
 | _,_,_,.cons r t,.cons r' t'=>by rw [r.inj r',Vals.inj t t']
section
variable {X:Cx}{Sa:List (SM×Obj)}{σ:St}{H:Hp}{s:Sn}{a:SM}{xs ys:List V}
theorem cQ.of {K:Sk}(h:H a=some (.lst xs)):cQ K H a xs:=.inl (.inl h)
theorem Inv.list (I:Inv X Sa σ H s) (h:cQ X.K H a xs):∃Sb:List Sl,Vals xs Sb/\PlainL s.heap a Sb.toArray/\xs.length<=sizeLine:=by
 rcases h with h | ⟨o,Sb,n,hk,hc,hd,hs,hz,r⟩
 ·obtain ⟨z,Sb,n,r,e⟩:=h.ok I.hok;exact ⟨Sb,r,⟨_,n,e,rfl,rfl,rfl⟩,z⟩
 ·refine ⟨Sb.toList,r,⟨o,n,I.kIn a o hk,hc,hd,by simpa using hs⟩,?_⟩;have e:=r.length;simp only [SV] at e;omega
theorem Inv.tuple (I:Inv X Sa σ H s) (h:d8 X.K H a xs):∃Sb:List Sl,Vals xs Sb/\adF s.heap a Sb.toArray/\xs.length<=sizeLine:=by
 rcases h with h | ⟨o,Sb,n,hk,hc,hn,hs,hz,r⟩
 ·obtain ⟨z,Sb,r,p,_⟩:=h.ok I.hok;exact ⟨Sb,r,p,z⟩
 ·refine ⟨Sb.toList,r,⟨o,I.kIn a o hk,hc,n,by simpa using hs⟩,?_⟩;have e:=r.length;simp only [SV] at e;omega
theorem Inv.list_inj (I:Inv X Sa σ H s) (h:cQ X.K H a xs) (h':cQ X.K H a ys):xs=ys:=by
 obtain ⟨Sb,r,⟨o,n,e,_,_,d⟩,_⟩:=I.list h;obtain ⟨its',r',⟨o',n',e',_,_,d'⟩,_⟩:=I.list h';rw [e] at e';cases e';rw [d] at d';injection d' with d1 _
 have:Sb=its':=by simpa using congrArg Zj d1
 subst this;exact r.inj r'
theorem Inv.tuple_inj (I:Inv X Sa σ H s) (h:d8 X.K H a xs) (h':d8 X.K H a ys):xs=ys:=by
 obtain ⟨Sb,r,⟨o,e,_,n,d⟩,_⟩:=I.tuple h;obtain ⟨its',r',⟨o',e',_,n',d'⟩,_⟩:=I.tuple h';rw [e] at e';cases e';rw [d] at d';injection d' with d1 _
 have:Sb=its':=by simpa using congrArg Zj d1
 subst this;exact r.inj r'
end
abbrev Cx.wish (X:Cx) (E:Sl->Sn->Prop):Cx:={X with xe:=E}
abbrev Cx.nox (X:Cx):Cx:=X.wish λ_ _=>False
theorem Cx.Ok.wish {X:Cx}(ok:X.Ok) (E:Sl->Sn->Prop):(X.wish E).Ok:=
 ⟨ok.mod,ok.kind,ok.glob,ok.blt,ok.above,ok.inj,ok.has,ok.cab,ok.hd,ok.frames,ok.stk,ok.exf,ok.bs,ok.bsz,ok.noex,ok.exfs,ok.funs,ok.frf⟩
theorem Cx.Ok.unwish {X:Cx}{E:Sl->Sn->Prop}(ok:(X.wish E).Ok):X.Ok:=
 ⟨ok.mod,ok.kind,ok.glob,ok.blt,ok.above,ok.inj,ok.has,ok.cab,ok.hd,ok.frames,ok.stk,ok.exf,ok.bs,ok.bsz,ok.noex,ok.exfs,ok.funs,ok.frf⟩
section
variable {X:Cx}{Sa:List (SM×Obj)}{σ:St}{H:Hp}{s:Sn}{E:Sl->Sn->Prop}
theorem Inv.wish (I:Inv X Sa σ H s) (E:Sl->Sn->Prop):Inv (X.wish E) Sa σ H s:=⟨I.ok.wish E,I.os,I.bare,I.base,I.loc,I.cell,I.free,I.freeC,I.pin,I.hok,I.len⟩
theorem Inv.unwish (I:Inv (X.wish E) Sa σ H s):Inv X Sa σ H s:=⟨I.ok.unwish,I.os,I.bare,I.base,I.loc,I.cell,I.free,I.freeC,I.pin,I.hok,I.len⟩
theorem SP.unwish {D:Ends}(h:SP (X.wish E) Sa D f s'):SP X Sa D f s':=by
 cases f with
 | next=>obtain ⟨σ',H',I,q⟩:=h;exact ⟨σ',H',I.unwish,q⟩
 | brk=>obtain ⟨σ',H',I,q⟩:=h;exact ⟨σ',H',I.unwish,q⟩
 | cont=>obtain ⟨σ',H',I,q⟩:=h;exact ⟨σ',H',I.unwish,q⟩
 | ret u=>obtain ⟨v,σ',H',I,r,q⟩:=h;exact ⟨v,σ',H',I.unwish,r,q⟩
theorem iI.nox {st:List VQ}{t:TS}(h:iI X.nox st t):iI X st t:=λSa s σ H D I hw=>
 TN (h Sa s σ H D (I.wish _) hw) (λ_ _ q=>q.unwish) λ_ _ z=>Vz z
end
section
variable {X:Cx}{st:VQ}{rest:List VQ}{t u:TS}{e:Tv}{te:TE}{pos:Pos}
def NS:TS:=λD σ H=>D.nx σ H
def Pd (t u:TS):TS:=λD σ H=>t {D with nx:=u D} σ H
theorem Aj:iI X [] NS:=λ_ _ σ H _ I h=>XR ⟨σ,H,I,h⟩
theorem l_ (h1:PS X st t) (h2:iI X rest u):iI X (st::rest) (Pd t u):=by
 intro Sa s σ H D I h;refine aa7 (bO (h1 Sa s σ H {D with nx:=u D} I h) λf s1 q=>?_);cases f with
 | next=>
  obtain ⟨σ',H',I',q⟩:=q;exact h2 Sa s1 σ' H' D I' q
 | ret v=>exact q
 | brk=>exact q
 | cont=>exact q
theorem oB (h1:PS X st t):iI X [st] t:=by
 intro Sa s σ H D I h;refine aa7 (bO (h1 Sa s σ H D I h) λf s1 q=>?_);cases f with
 | next=>exact XR q
 | ret v=>exact q
 | brk=>exact q
 | cont=>exact q
def MP:TS:=λD σ H=>D.bk σ H
theorem Gf:PS X (.Break pos) MP:=λ_ _ σ H _ I h=>wpAny_Break ⟨σ,H,I,h⟩
theorem Inv.quiet {H:Hp}(I:Inv X Sa σ H s):interactive X.env=false:=by simp [interactive,I.ok.kind]
def NP (te:TE):TS:=λD σ H=>te σ H λ_ H1=>D.nx σ H1
theorem Ai (he:PE X e te) (hs:autoParam (Wc e none pos.line X.env=pure false) zA._auto_1):PS X (.Expr e pos) (NP te):=by intro Sa s σ H D I h;exact wpAny_Expr_any (bO (he Sa s σ H _ I h) λv s1 ⟨x,H1,I1,r1,q1⟩=>⟨σ,H1,I1,q1⟩) I.quiet hs
def Pc (te:TE):TS:=λD σ H=>te σ H D.rt
theorem D6 (he:PE X e te):PS X (.Return (some e) pos) (Pc te):=by intro Sa s σ H D I h;exact wpAny_Return_some (bO (he Sa s σ H _ I h) λv s1 ⟨x,H1,I1,r1,q1⟩=>⟨x,σ,H1,I1,r1,q1⟩)
def O_ (c:TT) (t u:TS):TS:=λD σ H=>c σ H λb H1=>if b=true then t D σ H1 else u D σ H1
theorem HA {c:Tv}{a b:List VQ}{tc:TT}(hc:PT X c tc) (ha:iI X a t) (hb:iI X b u):PS X (.If c a b pos) (O_ tc t u):=by
 intro Sa s σ H D I h;refine wpAny_If (bO (hc Sa s σ H _ I h) λd s1 ⟨H1,I1,q1⟩=>?_);cases d with
 | true=>exact ha Sa s1 σ H1 D I1 q1
 | false=>exact hb Sa s1 σ H1 D I1 q1
end
abbrev TG:=V->St->Hp->(St->Hp->Prop)->Prop
abbrev uv:=List V->St->Hp->(St->Hp->Prop)->Prop
noncomputable def PG (X:Cx) (Sd:Tv) (t:TG):Prop:=
 ∀(Sa:List (SM×Obj)) (s:Sn) (σ:St) (H:Hp) (v:V) (u:Sl) (Q:St->Hp->Prop),Inv X Sa σ H s->RelV v u->t v σ H Q->
  SO (SX X.prog X.w) X.A (assign Sd X.env u) (λ_ s'=>∃σ' H',Inv X Sa σ' H' s'/\Q σ' H') X.xe s
noncomputable def wB (X:Cx) (ts:List Tv) (t:uv):Prop:=
 ∀(Sa:List (SM×Obj)) (s:Sn) (σ:St) (H:Hp) (vs:List V) (us:List Sl) (Q:St->Hp->Prop),Inv X Sa σ H s->Vals vs us->t vs σ H Q->
  SO (SX X.prog X.w) X.A (assignInOrder ((VA ts X.env).map (·.2)) us) (λ_ s'=>∃σ' H',Inv X Sa σ' H' s'/\Q σ' H') X.xe s
abbrev wF:=V->V->V->Hp->(Hp->Prop)->Prop
noncomputable def EN (X:Cx) (t:wF):Prop:=
 ∀(Sa:List (SM×Obj)) (s:Sn) (σ:St) (H:Hp) (o i v:V) (ov iv u:Sl) (Q:Hp->Prop),Inv X Sa σ H s->RelV o ov->RelV i iv->RelV v u->t o i v H Q->
  SO (SX X.prog X.w) X.A (acm ov iv u) (λ_ s'=>∃H',Inv X Sa σ H' s'/\Q H') X.xe s
abbrev KH:=V->V->Hp->VK->Prop
noncomputable def Po (X:Cx) (op:adv) (t:KH):Prop:=
 ∀(Sa:List (SM×Obj)) (s:Sn) (σ:St) (H:Hp) (x y:V) (v u:Sl) (Q:VK),Inv X Sa σ H s->RelV x v->RelV y u->t x y H Q->
  SO (SX X.prog X.w) X.A (Zk op v u) (EP X Sa σ Q) X.xe s
section
variable {X:Cx}{pos:Pos}
def Hh (i:Nat):TG:=λv σ H Q=>Q (σ.set i (some v)) H
theorem Jz (hN:X.N.Nodup) (hi:X.N[i]?=some x) (hx:Loc X.env.scope x) (hf:X.fn x=true\/X.env.scope.names.lookup x=some .local:=by first | exact .inl rfl | exact .inr rfl | assumption):PG X (.Name x pos) (Hh i):=by intro Sa s σ H v u Q I r h;exact wpAny_assign_Name (qk I hN hi hx r (λs' I'=>⟨_,H,I',h⟩) hf)
def az:uv:=λvs σ H Q=>vs=[]/\Q σ H
def ah (t:TG) (u:uv):uv:=λvs σ H Q=>∃v r,vs=v::r/\t v σ H λσ' H'=>u r σ' H' Q
theorem JA:wB X [] az:=by intro Sa s σ H vs us Q I r h;obtain ⟨e,h⟩:=h;subst e;cases r;exact assignInOrder_nil ⟨σ,H,I,h⟩
theorem Ga {e:Tv}{es:List Tv}{t:TG}{u:uv}(h1:PG X e t) (h2:wB X es u)
  (hs:autoParam ((VA (e::es) X.env).map (·.2)=assign e X.env::(VA es X.env).map (·.2)) zA._auto_1):wB X (e::es) (ah t u):=by
 intro Sa s σ H vs us Q I r h;obtain ⟨v,vr,e1,h⟩:=h;subst e1;cases r with
 | cons r rr=>
  rw [hs];refine assignInOrder_cons (bO (h1 Sa s σ H _ _ _ I r h) λ_ s1 ⟨σ1,H1,I1,q1⟩=>?_);exact h2 Sa s1 σ1 H1 _ _ Q I1 rr q1
def bV (K:Sk) (n:Nat) (t:uv):TG:=λv σ H Q=>∃a xs,v=.ref a/\d8 K H a xs/\xs.length=n/\t xs σ H Q
theorem Mb (hc:X.calm=true) (h:wB X es t)
 (hn:autoParam ((VA es X.env).length=n) zA._auto_1) (hst:autoParam ((VA es X.env).findIdx? (·.1)=none) zA._auto_1):PG X (.Tuple es k pos) (bV X.K n t):=by intro Sa s σ H v u Q I r hw;obtain ⟨a,xs,e1,hq,hl,hw⟩:=hw;subst e1;cases r;obtain ⟨Sb,rv,ht,hz⟩:=I.tuple hq;refine assign_Tuple_tuple (I.ok.hd hc) ht (by simp [hn,<-hl,rv.length]) hst λh' hx=>?_;have I1:Inv X Sa σ H {s with heap:=h'}:=I.kept (t':=s.toks) λb o e=>hx b o (SQ (SJ e)) e;exact h Sa _ σ H xs _ Q I1 (by simpa using rv) hw
def OG (to ti:TE) (t:wF):TG:=λv σ H Q=>to σ H λo H1=>ti σ H1 λi H2=>t o i v H2 λH3=>Q σ H3
theorem DW {o i:Tv}{to ti:TE}{t:wF}(ho:PE X o to) (hi:PE X i ti) (hs:EN X t)
  (ha:∀v,assign (.Subscript o i pos) X.env v=(do
   let ov <-holding [v] (eval o X.env)
   let iv <-holding [v,ov] (eval i X.env)
   Ws pos
   holding [v,ov,iv] (acm ov iv v)
   release [v,ov,iv] []):=by intro _;rfl):PG X (.Subscript o i pos) (OG to ti t):=by intro Sa s σ H v u Q I r h;rw [ha];refine Sj (Tt (bO (ho Sa s σ H _ I h) λov s1 ⟨x,H1,I1,r1,q1⟩=>?_));refine Sj (Tt (bO (hi Sa s1 σ H1 _ I1 q1) λiv s2 ⟨y,H2,I2,r2,q2⟩=>?_));refine Sj (V3 (Sj (Tt (bO (hs Sa s2 σ H2 x y v ov iv u _ I2 r1 r2 r q2) λ_ s3 ⟨H3,I3,q3⟩=>?_))));exact wpAny_release ⟨σ,H3,I3,q3⟩
def GD (te:TE) (g:TG):TS:=λD σ H=>te σ H λx H1=>g x σ H1 D.nx
theorem yh {tg e:Tv}{te:TE}{g:TG}(he:PE X e te) (hg:PG X tg g) (hs:autoParam (XM [tg] e pos.line X.env=pure false) zA._auto_1) (hw:autoParam (YQ [tg] e X.env=pure none) zA._auto_1)
  (h1:autoParam ((VA [tg] X.env).map (·.2)=[assign tg X.env]) zA._auto_1):PS X (.Assign [tg] e pos) (GD te g):=by intro Sa s σ H D I h;refine wpAny_Assign_stores (bO (he Sa s σ H _ I h) λv s1 ⟨x,H1,I1,r1,q1⟩=>?_) hs hw;rw [h1];exact bO (hg Sa s1 σ H1 x v _ I1 r1 q1) λ_ s2 q=>q
theorem rS {i:Nat}{x:Str}{e:Tv}{te:TE}{pos':Pos}(hN:X.N.Nodup) (hi:X.N[i]?=some x) (hx:Loc X.env.scope x) (he:PE X e te) (hs:autoParam (Wc e (some (.Name x pos')) pos.line X.env=pure false) zA._auto_1) (hf:X.fn x=true\/X.env.scope.names.lookup x=some .local:=by first | exact .inl rfl | exact .inr rfl | assumption):
  PS X (.Assign [.Name x pos'] e pos) (GD te (Hh i)):=by intro Sa s σ H D I h;refine wpAny_Assign_Name (bO (he Sa s σ H _ I h) λv s1 ⟨y,H1,I1,r1,q1⟩=>?_) hs;exact qk I1 hN hi hx r1 (λs2 I2=>⟨_,H1,I2,q1⟩) hf
def O7 (i:Nat) (te:TE) (ti:KH):TS:=λD σ H=>∃x,σ[i]?=some (some x)/\te σ H λy H1=>ti x y H1 λz H2=>D.nx (σ.set i (some z)) H2
theorem Mc {i:Nat}{x:Str}{e:Tv}{te:TE}{op:adv}{ti:KH}{pos':Pos}(hN:X.N.Nodup) (hi:X.N[i]?=some x) (hx:Loc X.env.scope x) (he:PE X e te) (ho:Po X op ti) (hf:X.fn x=true\/X.env.scope.names.lookup x=some .local:=by first | exact .inl rfl | exact .inr rfl | assumption):
  PS X (.AugAssign (.Name x pos') op e pos) (O7 i te ti):=by
 intro Sa s σ H D I h;obtain ⟨v,e1,h⟩:=h;obtain ⟨m,hn,hl⟩:=I.loc;have vis:mH X.env.scope x:=by rcases hx with k | k;exact .inl k;exact .inr (.inl k)
 obtain ⟨u,r,l⟩:=hl i x v hi e1 vis;refine wpAny_AugAssign_Name ?_;have go:SO (SX X.prog X.w) X.A (eval e X.env) (λw s₂=>SO (SX X.prog X.w) X.A (Zk op u w) (λr s₃=>SO (SX X.prog X.w) X.A (acG X.env x r) (λ_=>SP X Sa D .next) X.xe s₃) X.xe s₂) X.xe s:=by refine bO (he Sa s σ H _ I h) λw s1 ⟨y,H1,I1,r1,q1⟩=>?_;refine bO (ho Sa s1 σ H1 v y u w _ I1 r r1 q1) λz s2 ⟨zv,H2,I2,r2,q2⟩=>?_;exact qk I2 hN hi hx r2 (λs3 I3=>⟨_,H2,I3,q2⟩) hf
 rcases l with ⟨hk,hm⟩ | ⟨hk,c,hc,hcell⟩
 ·exact ZP I.ok.kind hk hn hm go
 ·rcases hk with hk | hk
  ·exact Z4 I.ok.kind hk hc hcell go
  ·rcases hx with k | k
   ·have:X.env.scope.names.lookup x=some .free:=hk;rw [k] at this;cases this
   ·have:X.env.scope.names.lookup x=some .free:=hk;rw [k] at this;cases this
noncomputable def MR (c:TT) (tb:TS):TS:=λD σ H=>∃W:Nat->St->Hp->Prop,(∃m,W m σ H)/\∀m σ H,W m σ H->
 c σ H λb H1=>if b=true then ∃N:St->Hp->Prop,(∀σ' H',N σ' H'->∃m',m' < m/\W m' σ' H')/\tb {D with nx:=N,ct:=N,bk:=D.nx} σ H1 else D.nx σ H1
theorem Gg {c:Tv}{body:List VQ}{tc:TT}{tb:TS}(hp:abp (SX X.prog X.w) X.A X.env X.xe) (hc:PT X c tc) (hb:iI X body tb):PS X (.While c body [] pos) (MR tc tb):=by
 intro Sa s σ H D I h;obtain ⟨W,⟨m0,w0⟩,turn⟩:=h;refine wpAny_While (codeAny_whileLoop (λn s'=>∃σ' H',Inv X Sa σ' H' s'/\W n σ' H') ?_ m0 ⟨σ,H,I,w0⟩);rintro n s1 ⟨σ1,H1,I1,w1⟩;refine VT hp (bO (hc Sa s1 σ1 H1 _ I1 (turn n σ1 H1 w1)) λb s2 ⟨H2,I2,q2⟩=>?_);cases b with
 | true=>
  obtain ⟨N,hN,q2⟩:=q2;rw [if_pos rfl];refine VT hp (bO (hb Sa s2 σ1 H2 _ I2 q2) λf s3 q3=>?_);cases f with
  | next=>
   obtain ⟨σ3,H3,I3,n3⟩:=q3;obtain ⟨m',hm,w3⟩:=hN σ3 H3 n3;exact ⟨m',hm,σ3,H3,I3,w3⟩
  | cont=>
   obtain ⟨σ3,H3,I3,n3⟩:=q3;obtain ⟨m',hm,w3⟩:=hN σ3 H3 n3;exact ⟨m',hm,σ3,H3,I3,w3⟩
  | brk=>exact q3
  | ret v=>exact q3
 | false=>
  rw [if_neg TH];exact XR ⟨σ1,H2,I2,q2⟩
end
structure It where
 go:Nat->Hp->Prop
 yld:Nat->Hp->V->Hp->Prop
 stop:Nat->Hp->Prop
noncomputable def jo (X:Cx) (Sa:List (SM×Obj)) (H:Hp) (b:SM):Prop:=
 H b=none/\b≠X.env.locals/\b∉X.fs/\(b∈X.ex\/X.s₀.heap.objs.size<=b)/\(∀x c,X.env.cells.lookup x=some c->c≠b)/\∀p∈X.pn++Sa,p.1≠b
theorem Inv.fpOk {H H':Hp}{s:Sn}(I:Inv X Sa σ H s) (hb:s.heap.objs.size<=b) (hn:H' b=none):jo X Sa H' b:=by
 refine ⟨hn,Vd (SW I.lt hb),I.nofs hb,.inr (Tw I.sz hb),λx c e z=>?_,λp hp z=>?_⟩
 ·obtain ⟨v,q⟩:=I.cell x c e;exact absurd (SW q.lt (by rw [z];exact hb)) (VF _)
 ·exact absurd (SW (SJ (I.pin p hp).1) (by rw [z];exact hb)) (VF _)
structure Turn (P:SK) (w:S9) (K:Sk) (tg:Tv) (J:It) (fp:List SM) (it:SM) (tn:Nat->Uo->Prop):Prop where
 mem:it∈fp
 obj:∀i h,tn i h->∀b∈fp,∃o,h.get? b=some o/\∀v,o.data≠.cell v
 keep:∀i h h',tn i h->(∀b∈fp,∀o,h.get? b=some o->h'.get? b=some o)->tn i h'
 item:∀(X:Cx),X.prog=P->X.w=w->X.K=K->X.calm=true->∀(i:Nat) (Sa:List (SM×Obj)) (s:Sn) (σ:St) (H:Hp) (E:Sl->Sn->Prop),Inv X Sa σ H s->(∀b∈fp,jo X Sa H b)->tn i s.heap->J.go i H->
  SO (SX P w) X.A (W2 (.ref it)) (λr s1=>∃u,r=some u/\
   SO (SX P w) X.A (VU tg (.ref it) u) (λ_ s2=>∃x H',Inv X Sa σ H' s2/\RelV x u/\J.yld i H x H'/\tn (i + 1) s2.heap/\∀b∈fp,H' b=none) E s1) E s
 done:∀(X:Cx),X.prog=P->X.w=w->X.K=K->X.calm=true->∀(i:Nat) (Sa:List (SM×Obj)) (s:Sn) (σ:St) (H:Hp) (E:Sl->Sn->Prop),Inv X Sa σ H s->(∀b∈fp,jo X Sa H b)->tn i s.heap->J.stop i H->
  SO (SX P w) X.A (W2 (.ref it)) (λr s1=>r=none/\Inv X Sa σ H s1) E s
 self:∀(A:Te) (i:Nat) (s:Sn) (Q:Sl->Sn->Prop) (E:Sl->Sn->Prop),tn i s.heap->Q (.ref it) s->SO (SX P w) A (Y3 (.ref it)) Q E s
abbrev TI:=St->Hp->(It->Hp->Prop)->Prop
noncomputable def N8 (X:Cx) (Sa:List (SM×Obj)) (σ:St) (tg:Tv) (R:It->Hp->Prop) (itv:Sl) (s2:Sn):Prop:=
 ∃(it:SM) (fp:List SM) (tn:Nat->Uo->Prop) (J:It) (H':Hp),itv=.ref it/\Inv X Sa σ H' s2/\Turn X.prog X.w X.K tg J fp it tn/\tn 0 s2.heap/\(∀b∈fp,jo X Sa H' b)/\R J H'
noncomputable def PI (X:Cx) (tg Se:Tv) (wi:TI):Prop:=
 ∀(Sa:List (SM×Obj)) (s:Sn) (σ:St) (H:Hp) (R:It->Hp->Prop),Inv X Sa σ H s->wi σ H R->
  SO (SX X.prog X.w) X.A (eval Se X.env) (λv s1=>SO (SX X.prog X.w) X.A (Y3 v) (N8 X Sa σ tg R) X.xe s1) X.xe s
theorem Bk {M:abS}{E:Sl->Sn->Prop}{s:Sn}{o:Obj}{Q:Unit->Sn->Prop}(ho:s.heap.get? it=some o) (hc:o.cls=.type n) (hd:o.data=.fields vs)
 (hn:["enumerate","zip","dict_itemiterator","dict_reverseitemiterator","odict_iterator","itertools.zip_longest","itertools.pairwise"].contains n=false) (hQ:Q () s):SO M A (VU tg (.ref it) u) Q E s:=by
 unfold VU;cases tg <;> first
  | exact Sm hQ
  | (cases u <;> first
    | exact Sm hQ
    | (refine Sj (aaD ho ?_);rw [hc,hd];show SO M A (if (["enumerate","zip","dict_itemiterator","dict_reverseitemiterator","odict_iterator","itertools.zip_longest","itertools.pairwise"].contains n && vs[0]? == some (acH _))=true then _ else _) Q E s;rw [if_neg (by intro h;rw [hn,Bool.false_and] at h;cases h)];exact Sm hQ))
noncomputable def GN (K:Sk) (a:SM):It:=
 ⟨λi H=>∃xs x,cQ K H a xs/\xs[i]?=some x,λi H x H'=>H'=H/\∀xs,cQ K H a xs->xs[i]?=some x,λi H=>∃xs,cQ K H a xs/\xs.length<=i⟩
noncomputable def GQ (K:Sk) (a:SM):It:=
 ⟨λi H=>∃xs x,d8 K H a xs/\xs[i]?=some x,λi H x H'=>H'=H/\∀xs,d8 K H a xs->xs[i]?=some x,λi H=>∃xs,d8 K H a xs/\xs.length<=i⟩
def GP (lo:Int) (n:Nat):It:=⟨λi _=>i < n,λi H x H'=>H'=H/\x=.int (lo + i),λi _=>n<=i⟩
theorem EC {P:SK}{w:S9}{K:Sk}{tg:Tv}(a it:SM):Turn P w K tg (GN K a) [it] it (λi h=>h.IsListIter it a i) where
 mem:=by simp
 obj:=λi h st b hb=>by
  have e:b=it:=by simpa using hb
  subst e;obtain ⟨o,e,c,d⟩:=st;exact ⟨o,e,λv z=>by rw [d] at z;cases z⟩
 keep:=λi h h' st k=>st.at λo e=>k it (by simp) o e
 item:=by intro X hP hw hK hc i Sa s σ H E I hf st hg;subst hP hw hK;obtain ⟨xs,x,hq,hx⟩:=hg;obtain ⟨Sb,rv,p,hz⟩:=I.list hq;obtain ⟨u,hu,ru⟩:=rv.get hx;obtain ⟨f0,f1,f2,f3,f4,f5⟩:=hf it (by simp);refine wpAny_pyNext_list_item st p.isList (x:=u) (by simpa using hu) λh' st' sb=>?_;have I1:Inv X Sa σ H {s with heap:=h'}:=I.turned (t':=s.toks) (λb o hb e=>(sb.2 b hb).trans e) f0 f1 f3 f4 f5;obtain ⟨o,e,c,d⟩:=id st';exact ⟨u,rfl,Bk (s:={s with heap:=h'}) e c d (by decide) ⟨x,H,I1,ru,⟨rfl,λys hy=>by rw [I.list_inj hy hq];exact hx⟩,st',λb hb=>(hf b hb).1⟩⟩
 done:=by intro X hP hw hK hc i Sa s σ H E I hf st hg;subst hP hw hK;obtain ⟨xs,hq,hx⟩:=hg;obtain ⟨Sb,rv,p,hz⟩:=I.list hq;obtain ⟨f0,f1,f2,f3,f4,f5⟩:=hf it (by simp);have hl:=rv.length;exact wpAny_pyNext_list_end (I.ok.hd hc) st p.isList (by simp;omega) λh' eb=>⟨rfl,I.turned (t':=s.toks) (λb o hb e=>eb b o hb e) f0 f1 f3 f4 f5⟩
 self:=λ_ _ _ _ _ st h=>wpAny_pyIter_listiter st h
theorem B7 {P:SK}{w:S9}{K:Sk}{tg:Tv}(a it:SM):Turn P w K tg (GQ K a) [it] it (λi h=>h.IsTupleIter it a i) where
 mem:=by simp
 obj:=λi h st b hb=>by
  have e:b=it:=by simpa using hb
  subst e;obtain ⟨o,e,c,d⟩:=st;exact ⟨o,e,λv z=>by rw [d] at z;cases z⟩
 keep:=λi h h' st k=>st.at λo e=>k it (by simp) o e
 item:=by intro X hP hw hK hc i Sa s σ H E I hf st hg;subst hP hw hK;obtain ⟨xs,x,hq,hx⟩:=hg;obtain ⟨Sb,rv,p,hz⟩:=I.tuple hq;obtain ⟨u,hu,ru⟩:=rv.get hx;obtain ⟨f0,f1,f2,f3,f4,f5⟩:=hf it (by simp);refine wpAny_pyNext_tuple_item st (show s.heap.IsTuple a Sb.toArray from p) (x:=u) (by simpa using hu) λh' st' sb=>?_;have I1:Inv X Sa σ H {s with heap:=h'}:=I.turned (t':=s.toks) (λb o hb e=>(sb.2 b hb).trans e) f0 f1 f3 f4 f5;obtain ⟨o,e,c,d⟩:=id st';exact ⟨u,rfl,Bk (s:={s with heap:=h'}) e c d (by decide) ⟨x,H,I1,ru,⟨rfl,λys hy=>by rw [I.tuple_inj hy hq];exact hx⟩,st',λb hb=>(hf b hb).1⟩⟩
 done:=by intro X hP hw hK hc i Sa s σ H E I hf st hg;subst hP hw hK;obtain ⟨xs,hq,hx⟩:=hg;obtain ⟨Sb,rv,p,hz⟩:=I.tuple hq;obtain ⟨f0,f1,f2,f3,f4,f5⟩:=hf it (by simp);have hl:=rv.length;exact wpAny_pyNext_tuple_end (I.ok.hd hc) st (show s.heap.IsTuple a Sb.toArray from p) (by simp;omega) λh' eb=>⟨rfl,I.turned (t':=s.toks) (λb o hb e=>eb b o hb e) f0 f1 f3 f4 f5⟩
 self:=λ_ _ _ _ _ st h=>wpAny_pyIter_tupleiter st h
theorem B6 {P:SK}{w:S9}{K:Sk}{tg:Tv}(it:SM) (lo:Int) (n:Nat):Turn P w K tg (GP lo n) [it] it (λi h=>IsRangeIter h it (lo + (i:Nat) * 1) ((n:Int) - (i:Nat)) 1) where
 mem:=by simp
 obj:=λi h st b hb=>by
  have e:b=it:=by simpa using hb
  subst e;exact ⟨_,st,λv z=>by
   have z':Data.fields _=Data.cell v:=z;cases z'⟩
 keep:=λi h h' st k=>k it (by simp) _ st
 item:=by intro X hP hw hK hc i Sa s σ H E I hf st hg;subst hP hw hK;obtain ⟨f0,f1,f2,f3,f4,f5⟩:=hf it (by simp);have W:=Walks.range (prog:=X.prog) (w:=X.w) (I.ok.hd hc) it lo 1 n;refine W.item i s _ _ hg st λv h' tk hv st' kk=>?_;obtain ⟨t,rfl⟩:=hv;have I1:Inv X Sa σ H {s with heap:=h',toks:=tk}:=I.turned (λb o hb e=>kk b o (by simpa using hb) e) f0 f1 f3 f4 f5;refine ⟨_,rfl,Bk (s:={s with heap:=h',toks:=tk}) (n:="range_iterator") st' rfl rfl (by decide) ⟨.int (lo + i),H,I1,⟨t,?_⟩,⟨rfl,rfl⟩,st',λb hb=>(hf b hb).1⟩⟩;rw [Int.mul_one]
 done:=by intro X hP hw hK hc i Sa s σ H E I hf st hg;subst hP hw hK;obtain ⟨f0,f1,f2,f3,f4,f5⟩:=hf it (by simp);exact wpAny_pyNext_range_end (I.ok.hd hc) st (by have:n<=i:=hg;omega) λh' eb=>⟨rfl,I.turned (t':=s.toks) (λb o hb e=>eb b o hb e) f0 f1 f3 f4 f5⟩
 self:=λ_ _ _ _ _ st h=>wpAny_pyIter_rangeiter st h
section
variable {X:Cx}{tg:Tv}
theorem Gu {Sa:List (SM×Obj)}{σ:St}{H:Hp}{s:Sn}{R:It->Hp->Prop}{E:Sl->Sn->Prop}{lo hi:Int}{t u v:Tok}{tk:Nat}(I:Inv X Sa σ H s) (h1:-(2 ^ 62)<=lo) (h2:lo < 2 ^ 62) (h3:-(2 ^ 62)<=hi) (h4:hi < 2 ^ 62)
  (q:R (GP lo (hi - lo).toNat) H):SO (SX X.prog X.w) X.A (Y3 (.ref s.heap.objs.size)) (N8 X Sa σ tg R) E {s with heap:=s.heap.push {cls:=.type "range",data:=.fields #[.int lo t,.int hi u,.int 1 v]},toks:=tk}:=by
 refine wpAny_pyIter_range (IsRange.new ..) (small_one h1 h2 h3 h4) ?_;have I1:Inv X Sa σ H {s with heap:=s.heap.push {cls:=.type "range",data:=.fields #[.int lo t,.int hi u,.int 1 v]},toks:=tk}:=I.kept λb o e=>Sq _ e;refine ⟨(s.heap.push {cls:=.type "range",data:=.fields #[.int lo t,.int hi u,.int 1 v]}).objs.size,[(s.heap.push {cls:=.type "range",data:=.fields #[.int lo t,.int hi u,.int 1 v]}).objs.size],_,_,H,rfl,
  I1.kept (t':=tk) λb o e=>Sq _ e,B6 _ lo (hi - lo).toNat,?_,λb hb=>?_,q⟩
 ·have e1:lo + ((0:Nat):Int) * 1=lo:=by simp
  have e2:(((hi - lo).toNat:Nat):Int) - ((0:Nat):Int)=YR lo hi 1:=by rw [acn];split <;> omega
  show IsRangeIter _ _ (lo + ((0:Nat):Int) * 1) ((((hi - lo).toNat:Nat):Int) - ((0:Nat):Int)) 1;rw [e1,e2];exact Sz _ rfl
 ·have e:b=(s.heap.push {cls:=.type "range",data:=.fields #[.int lo t,.int hi u,.int 1 v]}).objs.size:=by simpa using hb
  subst e;exact I1.fpOk (Sw _) (I1.hok.fresh (Sw _))
def Nb (ta:TA):TI:=λσ H R=>ta σ H λvs H1=>∃j:Int,vs=[.int j]/\-(2 ^ 62)<=j/\j < 2 ^ 62/\R (GP 0 j.toNat) H1
theorem D0 {a:Tv}{ta:TA}{p pos:Pos}(hg:Gl X "range") (hm:X.mg "range"=none) (ha:PA X [a] ta) (hs:autoParam (SG [a] X.env=[(false,eval a X.env)]) zA._auto_1):PI X tg (.Call (.Name "range" p) [a] [] pos) (Nb ta):=by
 intro Sa s σ H R I h;refine Call_ (nF I hg hm boot_range (XS (bO (ha pos Sa s σ H _ I h) λus s1 ⟨vs,H1,I1,r1,q1⟩=>?_) hs rfl));obtain ⟨j,e,q1,q2,q⟩:=q1;subst e;cases r1 with
 | cons r rr=>
  cases rr;obtain ⟨t,rfl⟩:=r;exact call_range_1 (Gu I1 (by omega) (by omega) q1 q2 (by simpa using q))
noncomputable def O9 (wi:TI) (g:TG) (tb:TS):TS:=λD σ H=>wi σ H λJ H1=>∃W:Nat->Nat->St->Hp->Prop,(∃m,W 0 m σ H1)/\∀i m σ H,W i m σ H->
 (J.stop i H/\D.nx σ H)\/(J.go i H/\∃N:St->Hp->Prop,(∀σ' H',N σ' H'->∃m',m' < m/\W (i + 1) m' σ' H')/\∀x H',J.yld i H x H'->g x σ H' λσ2 H2=>tb {D with nx:=N,ct:=N,bk:=D.nx} σ2 H2)
def nJ (fp:List SM) (h:Uo):List (SM×Obj):=fp.filterMap λb=>(h.get? b).map λo=>(b,o)
theorem jy {h:Uo}(hb:b∈fp) (e:h.get? b=some o):(b,o)∈nJ fp h:=WL.mpr ⟨b,hb,by rw [e];rfl⟩
theorem DK {h:Uo}{p:SM×Obj}(hp:p∈nJ fp h):p.1∈fp/\h.get? p.1=some p.2:=by
 obtain ⟨b,hb,e⟩:=WL.mp hp;cases q:h.get? b with
 | none=>rw [q] at e;cases e
 | some o=>
  rw [q] at e;have e':(b,o)=p:=TY e;subst e';exact ⟨hb,q⟩
theorem Inv.pinned {H:Hp}{s:Sn}(I:Inv X Sa σ H s) (hf:∀b∈fp,jo X Sa H b) (ho:∀b∈fp,∃o,s.heap.get? b=some o/\∀v,o.data≠.cell v):Inv X (Sa++nJ fp s.heap) σ H s:=
 I.pins_of λp hp=>(Tc.mp hp).elim (λz=>I.pin p (TQ _ z)) λz=>by obtain ⟨hb,e⟩:=DK z;obtain ⟨f0,f1,f2,_⟩:=hf p.1 hb;obtain ⟨o,e',d⟩:=ho p.1 hb;rw [e] at e';cases e';exact ⟨e,f0,f1,f2,d⟩
theorem Inv.unpinned {H:Hp}(I:Inv X (Sa++pl) σ H s):Inv X Sa σ H s:=I.pins_of λp hp=>I.pin p (TQ _ (Uy _ hp))
theorem Me {Se:Tv}{body:List VQ}{wi:TI}{g:TG}{tb:TS}{pos:Pos}(hp:abp (SX X.prog X.w) X.A X.env X.xe) (hc:X.calm=true) (hi:PI X tg Se wi) (hg:PG X tg g) (hb:iI X body tb)
  (hs:∀x,U4 Se X.env x=pure x:=by intro _;rfl):PS X (.For tg Se body [] pos) (O9 wi g tb):=by
 intro Sa s σ H D I h;refine wpAny_For (bO (hi Sa s σ H _ I h) λv s1 h1=>bO h1 λitv s2 h2=>?_) hs;obtain ⟨it,fp,tn,J,H2,e,I2,T,st2,f2,W,⟨m0,w0⟩,turn⟩:=h2;subst e;have stat:∀{H':Hp},(∀b∈fp,H' b=none)->∀b∈fp,jo X Sa H' b:=λhn b hb=>⟨hn b hb,(f2 b hb).2⟩;refine codeAny_forLoop_any (λn s'=>∃i σ' H',Inv X Sa σ' H' s'/\tn i s'.heap/\(∀b∈fp,H' b=none)/\W i n σ' H') ?_ m0 ⟨0,σ,H2,I2,st2,λb hb=>(f2 b hb).1,w0⟩;rintro n s3 ⟨i,σ3,H3,I3,st3,fr3,w3⟩;rcases turn i n σ3 H3 w3 with ⟨stop,qn⟩ | ⟨go,N,hN,step⟩
 ·refine VT hp (bO (T.done X rfl rfl rfl hc i Sa s3 σ3 H3 X.xe I3 (stat fr3) st3 stop) λr s4 ⟨hr,I4⟩=>?_);subst hr;exact XR ⟨σ3,H3,I4,qn⟩
 ·refine VT hp (bO (T.item X rfl rfl rfl hc i Sa s3 σ3 H3 X.xe I3 (stat fr3) st3 go) λr s4 ⟨u,hr,h4⟩=>?_);subst hr;refine VT hp (bO h4 λ_ s5 ⟨x,H5,I5,r5,y5,st5,fr5⟩=>?_);have I5':=I5.pinned (stat fr5) (T.obj _ _ st5);refine VT hp (bO (hg _ s5 σ3 H5 x u _ I5' r5 (step x H5 y5)) λ_ s6 ⟨σ6,H6,I6,q6⟩=>?_);refine VT hp (bO (hb _ s6 σ6 H6 _ I6 q6) λf s7 q7=>?_);have again:∀{σ7:St}{H7:Hp},Inv X (Sa++nJ fp s5.heap) σ7 H7 s7->N σ7 H7->∃m,m < n/\∃i σ' H',Inv X Sa σ' H' s7/\tn i s7.heap/\(∀b∈fp,H' b=none)/\W i m σ' H':=fun {σ7 H7} I7 n7=>by obtain ⟨m',hm,w7⟩:=hN σ7 H7 n7;refine ⟨m',hm,i + 1,σ7,H7,I7.unpinned,T.keep _ _ _ st5 λb hb o e=>(I7.pin (b,o) (TQ _ (TQ _ (jy hb e)))).1,λb hb=>?_,w7⟩;obtain ⟨o,e,d⟩:=T.obj _ _ st5 b hb;exact (I7.pin (b,o) (TQ _ (TQ _ (jy hb e)))).2.1
  cases f with
  | next=>obtain ⟨σ7,H7,I7,n7⟩:=q7;exact again I7 n7
  | cont=>obtain ⟨σ7,H7,I7,n7⟩:=q7;exact again I7 n7
  | brk=>obtain ⟨σ7,H7,I7,q7⟩:=q7;exact ⟨σ7,H7,I7.unpinned,q7⟩
  | ret v=>obtain ⟨x7,σ7,H7,I7,r7,q7⟩:=q7;exact ⟨x7,σ7,H7,I7.unpinned,r7,q7⟩
end
abbrev R2:=V->V->Hp->VK->Prop
noncomputable def dJ (X:Cx) (f:Sl->Sl->Sem Sl) (r:R2):Prop:=
 ∀(Sa:List (SM×Obj)) (s:Sn) (σ:St) (H:Hp) (x y:V) (v u:Sl) (Q:VK),Inv X Sa σ H s->RelV x v->RelV y u->r x y H Q->
  SO (SX X.prog X.w) X.A (f v u) (EP X Sa σ Q) X.xe s
noncomputable def KI (X:Cx) (f:Sl->Sem Sl) (r:V->Hp->VK->Prop):Prop:=
 ∀(Sa:List (SM×Obj)) (s:Sn) (σ:St) (H:Hp) (x:V) (v:Sl) (Q:VK),Inv X Sa σ H s->RelV x v->r x H Q->
  SO (SX X.prog X.w) X.A (f v) (EP X Sa σ Q) X.xe s
noncomputable def eK (X:Cx) (f:Sl) (r:List V->Hp->VK->Prop):Prop:=
 ∀(Sa:List (SM×Obj)) (s:Sn) (σ:St) (H:Hp) (xs:List V) (us:List Sl) (Q:VK),Inv X Sa σ H s->Vals xs us->r xs H Q->
  SO (SX X.prog X.w) X.A (call f us) (EP X Sa σ Q) X.xe s
noncomputable def Ou (X:Cx) (r:V->Hp->(Bool->Hp->Prop)->Prop):Prop:=
 ∀(Sa:List (SM×Obj)) (s:Sn) (σ:St) (H:Hp) (x:V) (v:Sl) (Q:Bool->Hp->Prop),Inv X Sa σ H s->RelV x v->r x H Q->
  SO (SX X.prog X.w) X.A (truthy v) (TP X Sa σ Q) X.xe s
def Eu (r:R2) (ta tb:TE):TE:=λσ H Q=>ta σ H λx H1=>tb σ H1 λy H2=>r x y H2 Q
def PM (r:V->Hp->VK->Prop) (ta:TE):TE:=λσ H Q=>ta σ H λx H1=>r x H1 Q
def rI (C:Int->Int->Prop) (g:Int->Int->V):R2:=λx y H Q=>∃i j,x=.int i/\y=.int j/\C i j/\Q (g i j) H
def nQ (g:Int->Int->V):R2:=λx y H Q=>∃i j,x=.int i/\y=.int j/\Q (g i j) H
def rU (g:Int->V):V->Hp->VK->Prop:=λx H Q=>∃i,x=.int i/\Q (g i) H
section
variable {X:Cx}{a b c:Tv}{ta tb tc:TE}{pos:Pos}
theorem EW (ha:PE X a ta) (hb:PE X b tb){Sa:List (SM×Obj)}{s:Sn}{σ:St}{H:Hp}{R:V->V->Hp->Prop}(I:Inv X Sa σ H s)
  (h:ta σ H λx H1=>tb σ H1 λy H2=>R x y H2){Q:Sl->Sn->Prop}{f:Sl->Sl->Sem Sl}
  (hf:∀v u s2 x y H2,Inv X Sa σ H2 s2->RelV x v->RelV y u->R x y H2->SO (SX X.prog X.w) X.A (f v u) Q X.xe s2):
  SO (SX X.prog X.w) X.A (eval a X.env) (λv s₁=>SO (SX X.prog X.w) X.A (eval b X.env) (λu s₂=>SO (SX X.prog X.w) X.A (f v u) Q X.xe s₂) X.xe s₁) X.xe s:=by refine bO (ha Sa s σ H _ I h) λv s1 ⟨x,H1,I1,r1,q1⟩=>?_;refine bO (hb Sa s1 σ H1 _ I1 q1) λu s2 ⟨y,H2,I2,r2,q2⟩=>?_;exact hf v u s2 x y H2 I2 r1 r2 q2
theorem Nz (ho:dJ X (V7 op) r) (ha:PE X a ta) (hb:PE X b tb):PE X (.BinOp a op b pos) (Eu r ta tb):=by intro Sa s σ H Q I h;exact wpAny_BinOp (EW ha hb I h λv u s2 x y H2 I2 rx ry q=>ho Sa s2 σ H2 x y v u Q I2 rx ry q)
theorem Hx {r:V->Hp->VK->Prop}(ho:KI X (unaryOp op) r) (ha:PE X a ta):PE X (.UnaryOp op a pos) (PM r ta):=by intro Sa s σ H Q I h;exact UnaryOp_ (bO (ha Sa s σ H _ I h) λv s1 ⟨x,H1,I1,r1,q1⟩=>ho Sa s1 σ H1 x v Q I1 r1 q1)
theorem Ox (ho:dJ X (Zk op) r){H:Hp}{Q:VK}(I:Inv X Sa σ H s)
 (rx:RelV x v) (ry:RelV y u) (q:r x y H Q):SO (SX X.prog X.w) X.A (Zk op v u) (EP X Sa σ Q) X.xe s:=ho Sa s σ H x y v u Q I rx ry q
theorem Ht {f:Sl->Sl->Sem Sl}{C:Int->Int->Prop}{g:Int->Int->Int}
  (rule:∀(i j:Int) (t u:Tok) (s:Sn) (Q:Sl->Sn->Prop) (E:Sl->Sn->Prop),C i j->Q (.int (g i j) s.toks) {s with toks:=s.toks + 1}->SO (SX X.prog X.w) X.A (f (.int i t) (.int j u)) Q E s):
  dJ X f (rI C λi j=>.int (g i j)):=by intro Sa s σ H x y v u Q I rx ry h;obtain ⟨i,j,rfl,rfl,hc,q⟩:=h;obtain ⟨t,rfl⟩:=rx;obtain ⟨t',rfl⟩:=ry;exact rule i j t t' s _ _ hc ⟨.int (g i j),H,I.tok _,⟨_,rfl⟩,q⟩
theorem F5 {f:Sl->Sl->Sem Sl}{g:Int->Int->Int}
  (rule:∀(i j:Int) (t u:Tok) (s:Sn) (Q:Sl->Sn->Prop) (E:Sl->Sn->Prop),Q (.int (g i j) s.toks) {s with toks:=s.toks + 1}->SO (SX X.prog X.w) X.A (f (.int i t) (.int j u)) Q E s):
  dJ X f (nQ λi j=>.int (g i j)):=by intro Sa s σ H x y v u Q I rx ry h;obtain ⟨i,j,rfl,rfl,q⟩:=h;obtain ⟨t,rfl⟩:=rx;obtain ⟨t',rfl⟩:=ry;exact rule i j t t' s _ _ ⟨.int (g i j),H,I.tok _,⟨_,rfl⟩,q⟩
theorem F4 {f:Sl->Sl->Sem Sl}{g:Int->Int->Bool}
  (rule:∀(i j:Int) (t u:Tok) (s:Sn) (Q:Sl->Sn->Prop) (E:Sl->Sn->Prop),Q (.bool (g i j)) s->SO (SX X.prog X.w) X.A (f (.int i t) (.int j u)) Q E s):
  dJ X f (nQ λi j=>.bl (g i j)):=by intro Sa s σ H x y v u Q I rx ry h;obtain ⟨i,j,rfl,rfl,q⟩:=h;obtain ⟨t,rfl⟩:=rx;obtain ⟨t',rfl⟩:=ry;exact rule i j t t' s _ _ ⟨.bl (g i j),H,I,rfl,q⟩
def Oj (i j:Int):Prop:=0 < j/\j < 1073741824
def Ol (i j:Int):Prop:=0<=j/\j<=1000000/\i.natAbs < 2 ^ 64
def AG (i j:Int):Prop:=(-(2 ^ 64) < i/\i < 2 ^ 64)\/(-(2 ^ 64) < j/\j < 2 ^ 64)
theorem AG.ok (h:AG i j):IntMulOk i j:=by
 rcases h with ⟨h1,h2⟩ | ⟨h1,h2⟩
 ·exact .of_left (aco h1 h2)
 ·exact .of_right (aco h1 h2)
theorem DM:dJ X (V7 .Add) (nQ λi j=>.int (i + j)):=F5 λ_ _ _ _ _ _ _ q=>add_int q
theorem LY:dJ X (V7 .Sub) (nQ λi j=>.int (i - j)):=F5 λ_ _ _ _ _ _ _ q=>sub_int q
theorem LV:dJ X (V7 .Mult) (rI AG λi j=>.int (i * j)):=Ht λ_ _ _ _ _ _ _ hc q=>mul_int q hc.ok
theorem Jk:dJ X (V7 .FloorDiv) (rI Oj λi j=>.int (i / j)):=Ht λi j _ _ _ _ _ hc q=>by have h1:(0:Int) < j:=hc.1;have h2:j < 1073741824:=hc.2;exact floordiv_int (by omega) (by rw [Int.fdiv_eq_ediv_of_nonneg i (by omega)];exact q) (.inl (PyProof.noPylong_small (by omega)))
theorem LU:dJ X (V7 .Mod) (rI (λ_ j=>0 < j) λi j=>.int (i % j)):=Ht λi j _ _ _ _ _ hc q=>by have h1:(0:Int) < j:=hc;exact mod_int' (by omega) (by rw [Int.fmod_eq_emod_of_nonneg i (by omega)];exact q)
theorem LX:dJ X (V7 .Pow) (rI Ol λi j=>.int (i ^ j.toNat)):=Ht λ_ _ _ _ _ _ _ hc q=>pow_int_small hc.1 hc.2.1 hc.2.2 q
theorem IJ:dJ X (Zk .Sub) (nQ λi j=>.int (i - j)):=F5 λ_ _ _ _ _ _ _ q=>isub_int q
theorem PN {f:Sl->Sem Sl}{g:Int->Int}
  (rule:∀(i:Int) (t:Tok) (s:Sn) (Q:Sl->Sn->Prop) (E:Sl->Sn->Prop),Q (.int (g i) s.toks) {s with toks:=s.toks + 1}->SO (SX X.prog X.w) X.A (f (.int i t)) Q E s):
  KI X f (rU λi=>.int (g i)):=by intro Sa s σ H x v Q I rx h;obtain ⟨i,rfl,q⟩:=h;obtain ⟨t,rfl⟩:=rx;exact rule i t s _ _ ⟨.int (g i),H,I.tok _,⟨_,rfl⟩,q⟩
theorem EF:KI X (unaryOp .USub) (rU λi=>.int (-i)):=PN λ_ _ _ _ _ q=>neg_int q
theorem BI:dJ X (UK .Lt) (nQ λi j=>.bl (decide (i < j))):=F4 λ_ _ _ _ _ _ _ q=>lt_int q
theorem Nt:dJ X (UK .LtE) (nQ λi j=>.bl (decide (i<=j))):=F4 λ_ _ _ _ _ _ _ q=>le_int q
theorem BH:dJ X (UK .Gt) (nQ λi j=>.bl (decide (j < i))):=F4 λ_ _ _ _ _ _ _ q=>gt_int q
theorem dJ.or {f:Sl->Sl->Sem Sl}{r r':R2}(h:dJ X f r) (h':dJ X f r'):dJ X f (λx y H Q=>r x y H Q\/r' x y H Q):=by
 intro Sa s σ H x y v u Q I rx ry q;rcases q with q | q
 ·exact h Sa s σ H x y v u Q I rx ry q
 ·exact h' Sa s σ H x y v u Q I rx ry q
theorem x_ (b:Tv) (h:autoParam (op≠.In) zB._auto_1) (h2:autoParam (op≠.NotIn) zB._auto_1):Ui op b=false:=by
 have e1:(op == adV)=false:=by cases op <;> first | rfl | exact absurd rfl h
 have e2:(op == ac2)=false:=by cases op <;> first | rfl | exact absurd rfl h2
 cases b <;> simp [Ui,e1,e2]
theorem Ju (ho:dJ X (UK op) r) (ha:PE X a ta) (hb:PE X b tb) (hm:Ui op b=false):PE X (.Compare a [op] [b] pos) (Eu r ta tb):=by intro Sa s σ H Q I h;exact wpAny_Compare1 (EW ha hb I h λv u s2 x y H2 I2 rx ry q=>ho Sa s2 σ H2 x y v u Q I2 rx ry q) hm
def NV (t:TE):TT:=λσ H Q=>t σ H λx H'=>∃k,x=.bl k/\Q k H'
theorem tZ {op:CmpOp}{r:R2}(ho:dJ X (UK op) r) (ha:PE X a ta) (hb:PE X b tb) (hm:Ui op b=false):PT X (.Compare a [op] [b] pos) (NV (Eu r ta tb)):=by
 intro Sa s σ H Q I h;refine Zi (bO (ha Sa s σ H _ I h) λv s1 ⟨x,H1,I1,r1,q1⟩=>bO (hb Sa s1 σ H1 _ I1 q1) λu s2 ⟨y,H2,I2,r2,q2⟩=>
  bO (ho Sa s2 σ H2 x y v u _ I2 r1 r2 q2) λc s3 ⟨z,H3,I3,r3,k,e,q3⟩=>?_) hm
 subst e;cases r3;exact Vp ⟨H3,I3,q3⟩
noncomputable def EO (K:Sk) (x:V) (H:Hp) (k:Bool):Prop:=
 match x with
 | .non=>k=false
 | .bl b=>k=b
 | .int i=>k=(i != 0)
 | .str y=>y.length<=sizeLine/\k=((y.length:Int) != 0)
 | .byt y=>y.size<=sizeLine/\k=((y.size:Int) != 0)
 | .ref p=>(∃xs,cQ K H p xs/\k=!xs.isEmpty)\/(∃xs,d8 K H p xs/\k=!xs.isEmpty)\/∃Sh,H p=some (.dK Sh)/\k=!Sh.isEmpty
 | _=>False
theorem Bl {κ:Type}{Sh:List (κ×V)}{vs:List (κ×Sl)}(r:KV Sh vs):(!vs.isEmpty)=!Sh.isEmpty:=by cases r <;> rfl
theorem rG {xs:List V}{Sb:List Sl}(r:Vals xs Sb):(!Sb.toArray.isEmpty)=!xs.isEmpty:=by cases r <;> simp
theorem lz:(sizeLine:Nat) < 2 ^ 63:=by rw [T_];decide
theorem MT:Ou X (λx H Q=>∃k,EO X.K x H k/\Q k H):=by
 intro Sa s σ H x v Q I rx h;obtain ⟨k,e,q⟩:=h;have hl:=lz;have hs:sizeLine=16777216:=T_;cases x with
 | non=>
  cases rx;have e':k=false:=e;subst e';exact truthy_none ⟨H,I,q⟩
 | bl b=>
  cases rx;have e':k=b:=e;subst e';exact Vp ⟨H,I,q⟩
 | int i=>
  obtain ⟨t,rfl⟩:=rx;have e':k=(i != 0):=e;subst e';exact PySem.P.truthy_int ⟨H,I,q⟩
 | str y=>
  obtain ⟨t,rfl⟩:=rx;obtain ⟨hy,e'⟩:y.length<=sizeLine/\k=((y.length:Int) != 0):=e;subst e';exact PySem.P.truthy_str (by omega) ⟨H,I.tok _,q⟩
 | byt y=>
  obtain ⟨t,rfl⟩:=rx;obtain ⟨hy,e'⟩:y.size<=sizeLine/\k=((y.size:Int) != 0):=e;subst e';exact W.truthy_bytes (by omega) ⟨H,I.tok _,q⟩
 | ref p=>
  cases rx;have e':(∃xs,cQ X.K H p xs/\k=!xs.isEmpty)\/(∃xs,d8 X.K H p xs/\k=!xs.isEmpty)\/∃Sh,H p=some (.dK Sh)/\k=!Sh.isEmpty:=e;rcases e' with ⟨xs,hx,e'⟩ | ⟨xs,hx,e'⟩ | ⟨Sh,hx,e'⟩
  ·subst e';obtain ⟨Sb,r,pl,hz⟩:=I.list hx;have hlen:=r.length;exact wpAny_truthy_list pl.isList (by simp only [SA];omega) ⟨H,I.tok _,by rw [rG r];exact q⟩
  ·subst e';obtain ⟨Sb,r,pl,hz⟩:=I.tuple hx;have hlen:=r.length;exact truthy_tuple pl (by simp only [SA];omega) ⟨H,I.tok _,by rw [rG r];exact q⟩
  ·subst e';obtain ⟨hz,hS,vs,r,m⟩:Sh.length<=sizeLine/\(p == T9)=false/\∃vs,KV Sh vs/\s.heap.DictOf (d7 X.prog X.w) p vs:=I.hok p _ hx;have hlen:Sh.length=vs.length:=YN r;exact wpAny_truthy_dict hS m (by omega) ⟨H,I.tok _,by rw [Bl r];exact q⟩
 | _=>exact (show False from e).elim
theorem Gh (ha:PE X a ta) (he:∀whole,aah a X.env whole=(do let v <-whole;Ws a.pos;holding [v] (truthy v))):
  PT X a (λσ H Q=>ta σ H λx H'=>∃k,EO X.K x H' k/\Q k H'):=by intro Sa s σ H Q I h;exact isTrue_plain (bO (ha Sa s σ H _ I h) λv s1 ⟨x,H1,I1,r1,q1⟩=>MT Sa s1 σ H1 x v Q I1 r1 q1) (he _)
theorem rN:dJ X (V7 .Add) (λx y H Q=>∃i j,x=.str i/\y=.str j/\i.length + j.length<=sizeLine/\Q (.str (i++j)) H):=by intro Sa s σ H x y v u Q I rx ry h;obtain ⟨i,j,rfl,rfl,hz,q⟩:=h;obtain ⟨t,rfl⟩:=rx;obtain ⟨t',rfl⟩:=ry;exact add_str (λt' tk=>⟨.str (i++j),H,I.tok _,⟨_,rfl⟩,q⟩) hz
theorem vals1 (r:Vals [x] us):∃u,us=[u]/\RelV x u:=by
 cases r with
 | cons r1 r2=>cases r2;exact ⟨_,rfl,r1⟩
theorem vals2 (r:Vals [x,y] us):∃u w',us=[u,w']/\RelV x u/\RelV y w':=by
 cases r with
 | cons r1 r2=>
  cases r2 with
  | cons r3 r4=>cases r4;exact ⟨_,_,rfl,r1,r3⟩
end
structure sP (h:Uo) (x dx C:SM) (mA:Str->Option Sl):Prop where
 obj:h.get? x=some (Vr C dx)
 ns:h.Ns1 dx mA
 ne:dx≠x
theorem DE {h:Uo}{dx:SM}{mA:Str->Option Sl}(n:h.Ns1 dx mA):∃od,h.get? dx=some od/\∀name,ZW name od=some (mA name):=by
 obtain ⟨o,es,ep,ho,hd,hk,_,hm⟩:=n;refine ⟨o,ho,λname=>?_⟩;have e:=hm name;unfold nsFind findBy at e;rw [<-Array.find?_toList] at e;unfold ZW;rw [hd];dsimp only;split
 ·rename_i y q;rw [q] at e;exact congrArg some e
 ·rename_i q;rw [q] at e;have a:es.toList.any (·.refKey)=false:=by rw [aaE];intro y hy;obtain ⟨z,t,hkey⟩:=hk y (ZQ.mp hy);simp [adO,hkey]
  have a':¬es.toList.any (·.refKey)=true:=by rw [a];exact TH
  rw [if_neg a'];exact congrArg some e
theorem sP.look {h:Uo}{x dx C:SM}{mA:Str->Option Sl}(I:sP h x dx C mA):∃od,V6 h x (Vr C dx) C (some od)/\∀name,ZW name od=some (mA name):=
 let ⟨od,ho,hl⟩:=DE I.ns
 ⟨od,⟨I.obj,rfl,rfl,ho⟩,hl⟩
section
variable {prog:SK}{w:S9}{A:Te}{E:Sl->Sn->Prop}{s:Sn}{K:Sk}{x dx C f:SM}{mA:Str->Option Sl}{name:Str}{v:Sl}
theorem get_map {expr:Bool}{Q:Sl->Sn->Prop}(X:K.In s.heap) (I:sP s.heap x dx C mA) (hg:Xu K C name=true) (hh:W9 K C=true)
  (ha:S7 K (.ref C) name=some none) (hv:mA name=some v) (hv':aa8 v=true) (h:Q v {s with toks:=s.toks + 1}):
  SO (SX prog w) A (getAttr (.ref x) name expr) Q E s:=by obtain ⟨od,J,hl⟩:=I.look;exact W.get_value X J (W.plainGet_of hg).1 (W.findObj_own hh ha rfl (by rw [hl,hv])) hv' h
theorem JS {ns:List Str}{Q:Unit->Sn->Prop}(X:K.In s.heap) (I:sP s.heap x dx C mA)
  (hs:S7 K (.ref C) "__setattr__"=some (some (.builtin "object.__setattr__"))) (hp:Yz K C=true) (ht:Zl K C name=some none) (hh:W9 K C=true)
  (hw:aaZ mA ns) (hsz:ns.length<=sizeLine)
  (h:∀h',sP h' x dx C (λy=>if y=name then some v else mA y)->UJ dx s.heap h'->Q () {s with heap:=h',toks:=s.toks + 2}):
  SO (SX prog w) A (setAttr (.ref x) name v) Q E s:=by obtain ⟨od,J,hl⟩:=I.look;refine W.set_plain X J hs (W.osa_open (s:={s with toks:=s.toks + 1}) (r:=none) X J hp ht λb=>?_);obtain ⟨cd,hc,hd'⟩:=W.any_some hh;have hx:s.heap.get? x=some ⟨.ref C,some dx,.plain,#[]⟩:=I.obj;refine Sj (Sm (Sj (Sj (abT hx (Sj (adw (s:={s with toks:=s.toks + 1}) (W.looks_clsIn X hc) ?_))))));rw [hd'];refine Sm (a:=some dx) (Sj (Sm (Sj ?_)));refine wpAny_nsSet1 (s:={s with toks:=s.toks + 1}) I.ns λh' hn2 hs2=>?_;obtain ⟨oD,esD,epD,RY,RO,RN⟩:=hn2.count (adG name v hw);refine Sj (wpAny_lookBehind RY (by rw [RO];exact pastItsLine_dict (Tw RN (by rw [Ti];omega))) ?_);exact Sm (h _ ⟨(hs2.2 _ (UA I.ne)).trans I.obj,hn2,I.ne⟩ hs2)
theorem FU {R:ZX->Sn->Prop}{vs:List Sl}{kw:List (Str×Sl)}(X:K.In s.heap) (hm:Zm K C=true)
  (hi:S7 K (.ref C) "__init__"=some (some (.ref f))) (hf:abU K (.ref f)=some (.type "function"))
  (h:U3 (SX prog w) (A.under (.builtin "type.__call__" ⟨.ref C::vs,kw⟩)) (.call (.ref f) ⟨.ref (s.heap.objs.size + 1)::vs,kw⟩) (W.InitBack (s.heap.objs.size + 1) R)
   {s with heap:=(s.heap.push UL).push (Vr C s.heap.objs.size)}):
  U3 (SX prog w) A (.call (.ref C) ⟨vs,kw⟩) R s:=by obtain ⟨hh,g,d,t,os⟩:=s;exact W.make_core (W.makes_of X hm) (XC X hi) (λself=>W.bind_fn X self hf) (.inl rfl) h
end
noncomputable def f9 (f:Str) (v:V):List (Str×V)->List (Str×V)
 | []=>[(f,v)]
 | (g,x)::r=>if g=f then (g,v)::r else (g,x)::f9 f v r
theorem pB (f g:Str) (v:V):∀fs:List (Str×V),(f9 f v fs).lookup g=if g=f then some v else fs.lookup g
 | []=>by
  show We g [(f,v)]=_;by_cases h:g=f
  ·have hb:(g == f)=true:=beq_iff_eq.mpr h;simp only [We,hb,if_pos h]
  ·have hb:(g == f)=false:=beq_eq_false_iff_ne.mpr h;simp only [We,hb,if_neg h]
 | (k,x)::r=>by
  have ih:=pB f g v r;rw [show f9 f v ((k,x)::r)=(if k=f then (k,v)::r else (k,x)::f9 f v r) from rfl];by_cases hk:k=f
  ·rw [if_pos hk];by_cases h:g=k
   ·have hb:(g == k)=true:=beq_iff_eq.mpr h;simp only [We,hb,if_pos (h.trans hk)]
   ·have hb:(g == k)=false:=beq_eq_false_iff_ne.mpr h;simp only [We,hb,if_neg (λe:g=f=>h (e.trans hk.symm))]
  ·rw [if_neg hk];by_cases h:g=k
   ·have hb:(g == k)=true:=beq_iff_eq.mpr h;simp only [We,hb,if_neg (λe:g=f=>hk (h.symm.trans e))]
   ·have hb:(g == k)=false:=beq_eq_false_iff_ne.mpr h;simp only [We,hb];exact ih
theorem nE (f:Str) (v:V):∀fs:List (Str×V),f∈(f9 f v fs).map (·.1)/\∀g,g∈fs.map (·.1)->g∈(f9 f v fs).map (·.1)
 | []=>⟨by simp [f9],λg h=>by simp at h⟩
 | (k,x)::r=>by
  obtain ⟨i1,i2⟩:=nE f v r;rw [show f9 f v ((k,x)::r)=(if k=f then (k,v)::r else (k,x)::f9 f v r) from rfl];by_cases hk:k=f
  ·rw [if_pos hk];subst hk;exact ⟨by simp,λg h=>by simpa using h⟩
  ·rw [if_neg hk];refine ⟨?_,λg h=>?_⟩
   ·rw [S4];exact Ss _ i1
   ·rw [S4] at h ⊢;rcases SN.mp h with e | e
    ·exact SN.mpr (.inl e)
    ·exact Ss _ (i2 g e)
theorem pq (f:Str) (v:V):∀fs:List (Str×V),(f9 f v fs).length<=fs.length + 1
 | []=>by simp [f9]
 | (k,x)::r=>by
  have ih:=pq f v r;rw [show f9 f v ((k,x)::r)=(if k=f then (k,v)::r else (k,x)::f9 f v r) from rfl];by_cases hk:k=f
  ·rw [if_pos hk,Ti,Ti];omega
  ·rw [if_neg hk,Ti,Ti];omega
theorem iN.some_of {v:V}{o:Option Sl}(r:iN (some v) o):∃u,o=some u/\RelV v u:=by
 cases o with
 | none=>exact (show False from r).elim
 | some u=>exact ⟨u,rfl,r⟩
theorem Dg {v:V}{u:Sl}(r:RelV v u):aa8 u=true:=by
 cases v with
 | non=>cases (show u=Um from r);rfl
 | bl b=>cases (show u=ZN b from r);rfl
 | int i=>obtain ⟨t,e⟩:=(show ∃t,u=Wu i t from r);cases e;rfl
 | str x=>obtain ⟨t,e⟩:=(show ∃t,u=aae x t from r);cases e;rfl
 | byt b=>obtain ⟨t,e⟩:=(show ∃t,u=ac0 b t from r);cases e;rfl
 | flt b=>obtain ⟨t,e⟩:=(show ∃t,u=ac1 b t from r);cases e;rfl
 | ref a=>cases (show u=Vi a from r);rfl
 | ty n=>cases (show u=Vy n from r);rfl
section
variable {P:SK}{w:S9}{H H':Hp}{h h':Uo}{a C dx:SM}{fs fs':List (Str×V)}
theorem tL (hok:eY P w H h) (e:H a=some (.ins C dx fs)):∃mA,sP h a dx C mA/\(∀f,iN (fs.lookup f) (mA f))/\aaZ mA (fs.map (·.1))/\fs.length<=1000/\H dx=some (.own a):=by obtain ⟨d,z,ne,ob,mA,n,r,q⟩:=(show bW P w H h a (.ins C dx fs) from hok a _ e);exact ⟨mA,⟨ob,n,ne⟩,r,q,z,d⟩
end
structure oO (K:Sk) (C:SM):Prop where
 pg:Xu K C YA=true
 hd:W9 K C=true
 po:Yz K C=true
 sa:S7 K (.ref C) "__setattr__"=some (some (.builtin "object.__setattr__"))
theorem oO.get {K:Sk}{C:SM}(c:oO K C) (f:Str):Xu K C f=true:=c.pg
def gS (K:Sk) (C:SM) (f:Str):Prop:=S7 K (.ref C) f=some none
theorem gS.taker {K:Sk}{C:SM}{f:Str}(n:gS K C f):Zl K C f=some none:=by unfold Zl;rw [show S7 K (.ref C) f=some none from n];rfl
section
variable {X:Cx}{Sa:List (SM×Obj)}{σ:St}{H:Hp}{s:Sn}{a C dx:SM}{fs:List (Str×V)}{f:Str}{v:V}{A:Te}{E:Sl->Sn->Prop}
theorem Bj {b:Bool}{Q:Sl->Sn->Prop}(I:Inv X Sa σ H s) (e:H a=some (.ins C dx fs)) (c:oO X.K C) (n:gS X.K C f) (l:fs.lookup f=some v)
  (h:∀u s',Inv X Sa σ H s'->RelV v u->Q u s'):SO (SX X.prog X.w) A (getAttr (.ref a) f b) Q E s:=by obtain ⟨mA,O,r,_,_,_⟩:=tL I.hok e;obtain ⟨u,hu,ru⟩:=iN.some_of (v:=v) (o:=mA f) (by rw [<-l];exact r f);exact get_map I.kIn O (c.get f) c.hd n hu (Dg ru) (h u _ (I.tok _) ru)
theorem BV {y:V}{u:Sl}{Q:Unit->Sn->Prop}(I:Inv X Sa σ H s) (e:H a=some (.ins C dx fs)) (c:oO X.K C) (n:gS X.K C f) (hl:fs.length < 1000) (ry:RelV y u)
  (h:∀s',Inv X Sa σ (upd H a (.ins C dx (f9 f y fs))) s'->Q () s'):SO (SX X.prog X.w) A (setAttr (.ref a) f u) Q E s:=by
 obtain ⟨mA,O,r,wi,_,ho⟩:=tL I.hok e;have hz:(fs.map (·.1)).length<=sizeLine:=by rw [So,T_];omega
 refine JS I.kIn O c.sa c.po n.taker c.hd wi hz λh' O' sb=>h _ ?_;have hd:∃o,h'.get? dx=some o:=let ⟨o,_,_,e',_⟩:=O'.ns;⟨o,e'⟩
 refine I.write (x:=a) (e:=dx) (by rw [e];exact VB) (.inr ho) (λb q hb z=>(sb.2 b hb).trans z) hd ?_;refine ⟨by rw [a_ O.ne];exact ho,?_,O.ne,O'.obj,_,O'.ns,λg=>?_,λg hg=>?_⟩
 ·have:=pq f y fs;omega
 ·show iN ((f9 f y fs).lookup g) (if g=f then some u else mA g);rw [pB];by_cases q:g=f
  ·rw [if_pos q,if_pos q];exact ry
  ·rw [if_neg q,if_neg q];exact r g
 ·by_cases q:g=f
  ·rw [q];exact (nE f y fs).1
  ·refine (nE f y fs).2 g (wi g λz=>hg ?_);show (if g=f then some u else mA g)=none;rw [if_neg q];exact z
theorem Inv.made (I:Inv X Sa σ H s):Inv X Sa σ (upd (upd H s.heap.objs.size (.own (s.heap.objs.size + 1))) (s.heap.objs.size + 1) (.ins C s.heap.objs.size []))
  {s with heap:=(s.heap.push UL).push (Vr C s.heap.objs.size)}:=by
 have e1:(s.heap.push UL).get? s.heap.objs.size=some UL:=Sz s.heap rfl;have e2:((s.heap.push UL).push (Vr C s.heap.objs.size)).get? (s.heap.objs.size + 1)=some (Vr C s.heap.objs.size):=by
  have:=Sz (s.heap.push UL) (o:=Vr C s.heap.objs.size) rfl
  rwa [Us] at this
 have e3:(s.heap.push UL).Ns s.heap.objs.size (λ_=>none):=⟨UL,#[],_,e1,rfl,(λe he=>absurd he (by simp)),λ_=>rfl⟩;have I1:=I.laid (a:=s.heap.objs.size) (o:=.own (s.heap.objs.size + 1)) (h':=s.heap.push UL) (t':=s.toks) (λb u q=>Sq _ q) (Sw _) ⟨_,e1⟩;refine I1.laid (a:=s.heap.objs.size + 1) (o:=.ins C s.heap.objs.size []) (t':=s.toks) (λb u q=>Sq _ q) (Zn (Us _ _)) ?_;have ne:s.heap.objs.size≠s.heap.objs.size + 1:=SQ (TX _);refine ⟨by rw [a_ ne,bD],S5 _,ne,e2,λ_=>none,(Heap.Ns1.of_empty e3).at λo q=>Sq _ q,λ_=>VB,λy hy=>absurd rfl hy⟩
theorem Ih {pos:Pos}{Q:Sl->Sn->Prop}(hb:U9 e f env (eval e env)=eval e env)
 (h:SO (SX prog w) A (eval e env) (λo s₁=>SO (SX prog w) A (getAttr o f true) Q E s₁) E s):SO (SX prog w) A (eval (.Attribute e f pos) env) Q E s:=
 Attribute_any_ h (by rw [arm_eval_Attribute,hb])
end
noncomputable def MQ (K:Sk) (ta:TE) (f:Str):TE:=λσ H Q=>ta σ H λx H1=>∃a C dx fs v,x=.ref a/\H1 a=some (.ins C dx fs)/\oO K C/\gS K C f/\fs.lookup f=some v/\Q v H1
noncomputable def OY (K:Sk) (ta tv:TE) (f:Str):TS:=λD σ H=>tv σ H λy H1=>ta σ H1 λx H2=>∃a C dx fs,x=.ref a/\H2 a=some (.ins C dx fs)/\oO K C/\gS K C f/\fs.length < 1000/\
 D.nx σ (upd H2 a (.ins C dx (f9 f y fs)))
section
variable {X:Cx}{o e value:Tv}{f:Str}{pos pos' tpos:Pos}{ta tv:TE}
theorem rQ (he:PE X e ta) (hb:U9 e f X.env (eval e X.env)=eval e X.env):PE X (.Attribute e f pos) (MQ X.K ta f):=by intro Sa s σ H Q I h;refine Ih hb (bO (he Sa s σ H _ I h) λu s1 ⟨x,H1,I1,rx,a,C,dx,fs,v,ex,ea,c,n,l,q⟩=>?_);subst ex;obtain rfl:u=Vi a:=rx;exact Bj I1 ea c n l λu' s2 I2 ru=>⟨v,H1,I2,ru,q⟩
theorem D5 (ha:PE X o ta) (hv:PE X value tv) (hs:Wc value (some (.Attribute o f pos')) pos.line X.env=pure false):PS X (.Assign [.Attribute o f pos'] value pos) (OY X.K ta tv f):=by intro Sa s σ H D I h;refine plainObj_wpAny_Assign_Attribute (bO (hv Sa s σ H _ I h) λu s1 ⟨y,H1,I1,ry,q⟩=>bO (ha Sa s1 σ H1 _ I1 q) λov s2 ⟨x,H2,I2,rx,a,C,dx,fs,ex,ea,c,n,l,q2⟩=>?_) hs;subst ex;obtain rfl:ov=Vi a:=rx;exact BV I2 ea c n l ry λs3 I3=>⟨σ,_,I3,q2⟩
end
structure cO (k:Nat) (A:Te):Prop where
 hd:A.handled=none
 dp:A.depth + 3 * k + 5 < abV
 un:A.units + 16 * k + 200 < VP
theorem cO.mono (r:cO k A) (h:j<=k):cO j A:=⟨r.hd,by have:=r.dp;omega,by have:=r.un;omega⟩
theorem cO.deeper {A:Te}(r:cO (k + 1) A) (env:Env):cO k (A.deeper env):=
 ⟨r.hd,by have:=r.dp;show A.depth + 1 + 3 * k + 5 < _;omega,by have:=r.un;show A.units + 3 + 16 * k + 200 < _;omega⟩
theorem By {A:Te}{C:SM}:(A.under (.builtin "type.__call__" ⟨.ref C::us,kw⟩)).depth=A.depth + 1:=by
 first | rfl | simp [aa0,Code.weight,Code.isCreation,Code.isGuard,Code.isCaller,ac3,aa1,guardIds]
theorem BA {A:Te}{C:SM}:(A.under (.builtin "type.__call__" ⟨.ref C::us,kw⟩)).units=A.units + 1:=by
 first | rfl | simp [aa0,Code.cUnits,ac3,aa1]
theorem cO.make {A:Te}(r:cO (k + 1) A) (C:SM) (us:List Sl) (kw:List (Str×Sl)):cO k (A.under (.builtin "type.__call__" ⟨.ref C::us,kw⟩)):=
 ⟨r.hd,by have:=r.dp;rw [By];omega,by have:=r.un;rw [BA];omega⟩
theorem cO.depth {A:Te}(r:cO k A):A.depth < abV:=by have:=r.dp;omega
theorem cO.units {A:Te}(r:cO k A):A.units + 64 < VP:=by have:=r.un;omega
def GF:TA:=λ_ H Q=>Q [] H
def NN (ta:TE) (tr:TA):TA:=λσ H Q=>ta σ H λx H1=>tr σ H1 λxs H2=>Q (x::xs) H2
section
variable {X:Cx}{e:Tv}{es:List Tv}{te:TE}{t:TA}{pos:Pos}
theorem iE:PA X [] GF:=λ_ _ _ _ H Q I h=>Calls.spliced_nil ⟨[],H,I,.nil,h⟩
theorem gq (ha:PE X e te) (hr:PA X es t) (hs:autoParam (SG (e::es) X.env=(false,eval e X.env)::SG es X.env) zA._auto_1):PA X (e::es) (NN te t):=by intro pos Sa s σ H Q I h;rw [hs];show SO _ _ (spliced ((false,eval e X.env)::Vf pos (SG es X.env))) _ _ s;refine Calls.spliced_cons (bO (ha Sa s σ H _ I h) λu s1 ⟨x,H1,I1,r1,q1⟩=>?_);exact bO (hr pos Sa s1 σ H1 _ I1 q1) λus s2 ⟨xs,H2,I2,r2,q2⟩=>⟨x::xs,H2,I2,.cons r1 r2,q2⟩
def Pe (t:TA):TE:=λσ H Q=>t σ H λxs H1=>xs.length<=sizeLine/\∀p,H1 p=none->Q (.ref p) (upd H1 p (.tup xs))
def Pa (t:TA):TE:=λσ H Q=>t σ H λxs H1=>xs.length<=sizeLine/\∀p,H1 p=none->Q (.ref p) (upd H1 p (.lst xs))
theorem Ma {x1}(h:PA X es t):PE X (.Tuple es x1 pos) (Pe t):=by intro Sa s σ H Q I hq;refine wpAny_Tuple_spliced (bO (h pos Sa s σ H _ I hq) λus s1 ⟨xs,H1,I1,r,z,q⟩=>⟨by rw [<-r.length];exact z,?_⟩);have hf:H1 s1.heap.objs.size=none:=I1.hok.fresh (Sw _);refine ⟨.ref s1.heap.objs.size,upd H1 s1.heap.objs.size (.tup xs),I1.laid (t':=s1.toks) (λb u e=>Sq _ e) (Sw _) ?_,rfl,q _ hf⟩;exact ⟨z,us,r,⟨_,Sz _ rfl,rfl,_,rfl⟩,λo q=>by rw [Sz _ rfl] at q;cases q;rfl⟩
theorem L5 (h:PA X es t):PE X (.List es pos) (Pa t):=by intro Sa s σ H Q I hq;refine wpAny_List_spliced (bO (h pos Sa s σ H _ I hq) λus s1 ⟨xs,H1,I1,r,z,q⟩=>⟨by rw [<-r.length];exact z,?_⟩);have hf:H1 s1.heap.objs.size=none:=I1.hok.fresh (Sw _);refine ⟨.ref s1.heap.objs.size,upd H1 s1.heap.objs.size (.lst xs),I1.laid (t':=s1.toks) (λb u e=>Sq _ e) (Sw _) ?_,rfl,q _ hf⟩;exact ⟨z,us,0,r,Sz _ rfl⟩
end
abbrev Sp:=List V->Hp->VK->XK->Prop
abbrev qm:=List Env->Hp->Sn->XK->Sl->Sn->Prop
structure pO (P:SK) (w:S9) (K:Sk) (mg:Str->Option Sl) (base:Uo) (A:Te) (outer:List Env) (s:Sn) (H:Hp):Prop where
 frames:A.frames=some outer
 mod:Mod K mg base
 bs:∀b o,base.get? b=some o->s.heap.get? b=some o/\H b=none
 bsz:base.objs.size<=s.heap.objs.size
 funs:s.heap.FunFrames base outer
 frf:∀b∈frs outer,H b=none
 hok:eY P w H s.heap
 bare:YO s.gens
noncomputable def CE (outer:List Env) (P:SK) (w:S9) (H:Hp) (s:Sn) (Q:VK) (u:Sl) (s':Sn):Prop:=
 ∃v H',s'.os=s.os/\YO s'.gens/\Un (frs outer) [] H H' s.heap s'.heap/\eY P w H' s'.heap/\RelV v u/\Q v H'
noncomputable def CR (CX:qm) (outer:List Env) (P:SK) (w:S9) (H:Hp) (s:Sn) (Q:VK) (E:XK) (r:ZX) (s':Sn):Prop:=
 match r with
 | .ok (.ret u)=>CE outer P w H s Q u s'
 | .ok _=>False
 | .error e=>CX outer H s E e s'
structure eT (P:SK) (w:S9) (K:Sk) (mg:Str->Option Sl) (base:Uo) (CX:qm) (k:Nat) (f:SM) (fd:Tj) (ps:List Str) (sp:Sp):Prop where
 len:∀vs H Q E,sp vs H Q E->vs.length=ps.length
 run:∀(A:Te) (outer:List Env) (s:Sn) (H:Hp) (args:Args) (us:List Sl) (vs:List V) (Q:VK) (E:XK),cO k A->pO P w K mg base A outer s H->abq s fd args (ps.zip us)->Vals vs us->sp vs H Q E->
  U3 (SX P w) A (.call (.ref f) args) (CR CX outer P w H s Q E) s
theorem pO.make {P:SK}{w:S9}{K:Sk}{mg:Str->Option Sl}{base:Uo}{A:Te}{outer:List Env}{s:Sn}{H:Hp}(e:pO P w K mg base A outer s H) (C:SM) (us:List Sl) (kw:List (Str×Sl)):
  pO P w K mg base (A.under (.builtin "type.__call__" ⟨.ref C::us,kw⟩)) outer s H:=⟨by first | exact e.frames | (simpa [aa0,Code.envs,aa1,pushEnvs] using e.frames),e.mod,e.bs,e.bsz,e.funs,e.frf,e.hok,e.bare⟩
section
variable {X:Cx}{Sa:List (SM×Obj)}{σ:St}{H:Hp}{s s':Sn}
theorem Inv.env0 (I:Inv X Sa σ H s):pO X.prog X.w X.K X.mg X.base X.A X.stack s H:=
 ⟨I.ok.frames,I.ok.mod,I.bs,Tw I.ok.bsz I.sz,I.stack,I.stkFree,I.hok,I.bare⟩
theorem Inv.after {Q:VK}(I:Inv X Sa σ H s) (h:CE X.stack X.prog X.w H s Q u s'):EP X Sa σ Q u s':=by obtain ⟨v,H',os,bare,un,hok,r,q⟩:=h;obtain ⟨hh,g,d,t,os'⟩:=s';obtain rfl:os'=s.os:=os;exact ⟨v,H',I.call (h':=hh) (g':=g) (d':=d) (t':=t) (ch:=[]) un hok bare (λb z=>absurd z (by simp)),r,q⟩
end
def HJ (sp:Sp) (dvs:List V) (E:XK) (t:TA):TE:=λσ H Q=>t σ H λvs H1=>sp (vs++dvs) H1 Q E
noncomputable def NQ (C:SM) (sp:Sp) (dvs:List V) (E:XK) (t:TA):TE:=λσ H Q=>t σ H λvs H1=>∀x dx,H1 x=none->H1 dx=none->dx≠x->
 sp (.ref x::(vs++dvs)) (upd (upd H1 dx (.own x)) x (.ins C dx [])) (λv H2=>v=.non/\Q (.ref x) H2) E
noncomputable def Binds (K:Sk) (fd:Tj) (ps:List Str) (ds:List Sl):Prop:=
 ∀(s:Sn) (us:List Sl),K.In s.heap->(us++ds).length=ps.length->abq s fd ⟨us,[]⟩ (ps.zip (us++ds))
theorem Binds.all {K:Sk}{fd:Tj}{ps:List Str}(h:∀us:List Sl,us.length=ps.length->Xj fd ⟨us,[]⟩=pure (ps.zip us)):Binds K fd ps []:=λs us _ hl=>by rw [UB] at hl ⊢;exact .of_eq (h us hl)
def Passes (CX:qm) (X:Cx) (E:XK):Prop:=∀(Sa:List (SM×Obj)) (σ:St) (H:Hp) (s:Sn) (e:Sl) (s':Sn),Inv X Sa σ H s->CX X.stack H s E e s'->X.xe e s'
section
variable {X:Cx}{CX:qm}{k:Nat}{f C:SM}{fd:Tj}{ps:List Str}{sp:Sp}{dvs:List V}{ds:List Sl}{E:XK}{x m:Str}{p pos apos:Pos}{e o:Tv}{es:List Tv}{ta:TE}{t:TA}
theorem MF {H:Hp}{Q:VK}(F:eT X.prog X.w X.K X.mg X.base CX k f fd ps sp) (hr:cO k X.A) (hb:Binds X.K fd ps ds) (hd:Vals dvs ds) (hx:Passes CX X E)
 (I:Inv X Sa σ H s) (r:Vals vs us) (h:sp (vs++dvs) H Q E):SO (SX X.prog X.w) X.A (call (.ref f) us) (EP X Sa σ Q) X.xe s:=by
 have r2:Vals (vs++dvs) (us++ds):=r.append hd;have hl:(us++ds).length=ps.length:=by rw [<-r2.length];exact F.len _ _ _ _ h
 refine YB (VG (F.run X.A X.stack s H ⟨us,[]⟩ (us++ds) (vs++dvs) Q E hr I.env0 (hb s us I.kIn hl) r2 h) λr s' hq=>?_);cases r with
 | error e=>exact hx Sa σ H s e s' I hq
 | ok fl=>
  cases fl with
  | ret u=>exact I.after hq
  | next=>exact Vz hq
  | brk=>exact Vz hq
  | cont=>exact Vz hq
theorem Ag (F:eT X.prog X.w X.K X.mg X.base CX k f fd ps sp) (hr:cO k X.A) (hg:Gl X x) (hm:X.mg x=some (.ref f)) (hk:T4 X.K (.ref f)=true) (hb:Binds X.K fd ps ds) (hd:Vals dvs ds) (hx:Passes CX X E)
  (ha:PA X (e::es) t) (hdb:autoParam ((x == ("__debug__":Str))=false) zB._auto_1) (he:autoParam (SG (e::es) X.env=(false,eval e X.env)::SG es X.env) zA._auto_1) (hpl:autoParam ((Vf pos (SG es X.env)).any (·.1)=false) zA._auto_1):
  PE X (.Call (.Name x p) (e::es) [] pos) (HJ sp dvs E t):=by intro Sa s σ H Q I h;refine V8 (tN I hg hm ?_ hdb);refine aai (h₀:=X.base) I.ok.mod.kin hk (bO (ha pos Sa s σ H _ I h) λus s1 ⟨vs,H1,I1,r,q⟩=>⟨I1.kIn,?_⟩) he hpl;exact MF F hr hb hd hx I1 r q
structure Mk (K:Sk) (C f:SM):Prop where
 makes:Zm K C=true
 init:S7 K (.ref C) "__init__"=some (some (.ref f))
 fn:acI K (.ref f)=true
 kp:T4 K (.ref C)=true
theorem Gx {Sa:List (SM×Obj)}{σ:St}{H:Hp}{s:Sn}{Q:VK}{us:List Sl}{vs:List V}(M:Mk X.K C f) (F:eT X.prog X.w X.K X.mg X.base CX k f fd ps sp) (hr:cO (k + 1) X.A) (hb:Binds X.K fd ps ds) (hd:Vals dvs ds)
  (hx:Passes CX X E) (I:Inv X Sa σ H s) (r:Vals vs us)
  (h:∀x dx,H x=none->H dx=none->dx≠x->sp (.ref x::(vs++dvs)) (upd (upd H dx (.own x)) x (.ins C dx [])) (λv H2=>v=.non/\Q (.ref x) H2) E):
  SO (SX X.prog X.w) X.A (call (.ref C) us) (EP X Sa σ Q) X.xe s:=by
 have hq:=h (s.heap.objs.size + 1) s.heap.objs.size (I.hok.fresh (U5 _)) (I.hok.fresh (Sw _)) (SQ (TX _));have I2:=Inv.made (C:=C) I;have r2:Vals (V.ref (s.heap.objs.size + 1)::(vs++dvs)) (Vi (s.heap.objs.size + 1)::(us++ds)):=.cons rfl (r.append hd);have hl:(Vi (s.heap.objs.size + 1)::us++ds).length=ps.length:=by have e:=r2.length;rw [F.len _ _ _ _ hq] at e;exact e.symm
 refine YB (FU (f:=f) I.kIn M.makes M.init (beq_iff_eq.mp M.fn) (VG (F.run _ X.stack _ _ ⟨Vi (s.heap.objs.size + 1)::us,[]⟩ (Vi (s.heap.objs.size + 1)::(us++ds)) _ _ E (hr.make C us [])
  (I2.env0.make C us []) (hb _ (Vi (s.heap.objs.size + 1)::us) I2.kIn hl) r2 hq) λr s' hq'=>?_))
 cases r with
 | error e=>exact hx Sa σ _ _ e s' I2 hq'
 | ok fl=>
  cases fl with
  | ret u=>
   obtain ⟨v,H',I3,rv,ev,q3⟩:=I2.after hq';subst ev;exact ⟨rv,⟨V.ref (s.heap.objs.size + 1),H',I3,rfl,q3⟩⟩
  | next=>exact Vz hq'
  | brk=>exact Vz hq'
  | cont=>exact Vz hq'
theorem Jw (M:Mk X.K C f) (F:eT X.prog X.w X.K X.mg X.base CX k f fd ps sp) (hr:cO (k + 1) X.A) (hg:Gl X x) (hm:X.mg x=some (.ref C)) (hb:Binds X.K fd ps ds) (hd:Vals dvs ds) (hx:Passes CX X E)
  (ha:PA X (e::es) t) (hdb:autoParam ((x == ("__debug__":Str))=false) zB._auto_1) (he:autoParam (SG (e::es) X.env=(false,eval e X.env)::SG es X.env) zA._auto_1) (hpl:autoParam ((Vf pos (SG es X.env)).any (·.1)=false) zA._auto_1):
  PE X (.Call (.Name x p) (e::es) [] pos) (NQ C sp dvs E t):=by intro Sa s σ H Q I h;refine V8 (tN I hg hm ?_ hdb);refine aai (h₀:=X.base) I.ok.mod.kin M.kp (bO (ha pos Sa s σ H _ I h) λus s1 ⟨vs,H1,I1,r,q⟩=>⟨I1.kIn,?_⟩) he hpl;exact Gx M F hr hb hd hx I1 r q
end
structure cS (N P:List Str) (sc:Wa):Prop where
 kind:sc.kind=.function
 co:sc.isCoroutine=false
 gen:sc.isGenerator=false
 nd:N.Nodup
 pre:N.take P.length=P
 par:∀x∈P,sc.names.lookup x=some .local\/sc.names.lookup x=some .cell
 nofree:∀y∈sc.names,y.2≠.free
theorem uA {kindOf:Str->Option Vm}:∀{binds:List (Str×Sl)}{m:Str->Option Sl},(∀v,(x,v)∉binds)->ac4 kindOf binds m x=m x
 | [],_,_=>rfl
 | (n,v)::r,m,h=>by
  unfold ac4;rw [uA λw hw=>h w (Ss _ hw)];split
  ·have:x≠n:=by rintro rfl;exact h v Sv
   simp [this]
  ·rfl
theorem uy {kindOf:Str->Option Vm}:∀{binds:List (Str×Sl)}{m:Str->Option Sl},(∀v,(x,v)∉binds)->ac5 kindOf binds m x=m x
 | [],_,_=>rfl
 | (n,v)::r,m,h=>by
  unfold ac5;rw [uy λw hw=>h w (Ss _ hw)];split
  ·rfl
  ·have:x≠n:=by rintro rfl;exact h v Sv
   simp [this]
theorem uz {kindOf:Str->Option Vm}{x:Str}{v:Sl}:∀{P:List Str}{vs:List Sl}{i:Nat}{m:Str->Option Sl},P.Nodup->P[i]?=some x->vs[i]?=some v->kindOf x=some .local->
  ac4 kindOf (P.zip vs) m x=some v
 | [],_,_,_,_,h,_,_=>by simp at h
 | _::_,[],_,_,_,_,h,_=>by simp at h
 | p::P,w::vs,0,m,nd,h1,h2,hk=>by simp at h1 h2;subst h1;subst h2;show ac4 kindOf ((p,w)::P.zip vs) m p=_;unfold ac4;rw [uA λv hv=>(Vs.mp nd).1 (XU hv).1,if_pos hk];simp
 | p::P,w::vs,i + 1,m,nd,h1,h2,hk=>by show ac4 kindOf ((p,w)::P.zip vs) m x=_;unfold ac4;exact uz (i:=i) (Vs.mp nd).2 (by simpa using h1) (by simpa using h2) hk
theorem ux {kindOf:Str->Option Vm}{x:Str}{v:Sl}:∀{P:List Str}{vs:List Sl}{i:Nat}{m:Str->Option Sl},P.Nodup->P[i]?=some x->vs[i]?=some v->kindOf x≠some .local->
  ac5 kindOf (P.zip vs) m x=some v
 | [],_,_,_,_,h,_,_=>by simp at h
 | _::_,[],_,_,_,_,h,_=>by simp at h
 | p::P,w::vs,0,m,nd,h1,h2,hk=>by simp at h1 h2;subst h1;subst h2;show ac5 kindOf ((p,w)::P.zip vs) m p=_;unfold ac5;rw [uy λv hv=>(Vs.mp nd).1 (XU hv).1,if_neg hk];simp
 | p::P,w::vs,i + 1,m,nd,h1,h2,hk=>by show ac5 kindOf ((p,w)::P.zip vs) m x=_;unfold ac5;exact ux (i:=i) (Vs.mp nd).2 (by simpa using h1) (by simpa using h2) hk
def start (N:List Str) (vs:List V):St:=vs.map some++Tq (N.length - vs.length) none
noncomputable def nj (CX:qm) (P:SK) (w:S9) (K:Sk) (mg:Str->Option Sl) (base:Uo) (N:List Str) (Sf:Str) (R_:Wa) (f:SM) (cd:Sl) (A:Te) (outer:List Env) (s:Sn) (H:Hp) (E:XK):Cx where
 prog:=P
 w:=w
 K:=K
 mg:=mg
 base:=base
 A:=A.deeper (W3 Sf R_ s.heap.objs.size f cd)
 N:=N
 s₀:=s
 H₀:=H
 env:=W3 Sf R_ s.heap.objs.size f cd
 outer:=outer
 stack:=W3 Sf R_ s.heap.objs.size f cd::outer
 ex:=[]
 calm:=true
 fn:=λ_=>true
 pn:=[]
 xe:=λe s'=>SO (SX P w) (A.deeper (W3 Sf R_ s.heap.objs.size f cd)) (leaving (W3 Sf R_ s.heap.objs.size f cd) e) (λ_ s''=>CX outer H s E e s'') (λe' s''=>CX outer H s E e' s'') s'
theorem w5 {sc:Wa}(h:sc.names.lookup x=some .cell):∃c,(T6 n sc.names []).lookup x=some c:=by have q:=Y_ sc.names n [] (.inl h);exact Tr.mp q
theorem Dl {CX:qm}{P:SK}{w:S9}{K:Sk}{mg:Str->Option Sl}{base:Uo}{N ps:List Str}{Sf:Str}{R_:Wa}{f:SM}{cd:Sl}{A:Te}{outer:List Env}{s s1:Sn}{H:Hp}{E:XK}{us:List Sl}{vs:List V}
  (S:cS N ps R_) (hd:A.handled=none) (e0:pO P w K mg base A outer s H) (hl:vs.length=ps.length) (r:Vals vs us)
  (x:InCallC s s.heap.objs.size (ac4 (W3 Sf R_ s.heap.objs.size f cd).kindOf (ps.zip us) λ_=>none) (T6 (s.heap.objs.size + 1) R_.names []) (ac5 (W3 Sf R_ s.heap.objs.size f cd).kindOf (ps.zip us) λ_=>none) s1):
  Inv (nj CX P w K mg base N Sf R_ f cd A outer s H E) [] (start N vs) H s1:=by
 have hpl:ps.length<=N.length:=by have:=congrArg XX S.pre;rw [UG] at this;omega
 obtain ⟨h1,tk,rfl,hk⟩:=x.done;have noA:∀b:SM,b∉(nj CX P w K mg base N Sf R_ f cd A outer s H E).ex:=λb z=>absurd (show b∈([]:List SM) from z) (by simp);refine ⟨⟨e0.mod,S.kind,rfl,rfl,Sw _,λy z c h1 h2=>?_,λy hy=>?_,λy c _ h=>?_,λ_=>hd,Around.frames_deeper e0.frames,.inr ⟨rfl,rfl⟩,λb z=>absurd z (noA b),e0.bs,e0.bsz,λb _ _=>noA b,λb z=>absurd z (noA b),e0.funs,e0.frf⟩,
  rfl,e0.bare,Un.kept hk,⟨_,x.toInCall.ns,λi y v h1 h2 h3=>?_⟩,λy c h=>⟨_,x.cell y c h⟩,e0.hok.fresh (Sw _),λy c h=>?_,λp hp=>absurd (show p∈([]:List (SM×Obj)) from hp) (by simp),e0.hok.kept hk,?_⟩
 ·exact name_of_addr x.apart (V4 h1) (V4 h2)
 ·have hy:R_.names.lookup y=some .cell\/R_.names.lookup y=some .free:=hy;rcases hy with hy | hy
  ·exact w5 hy
  ·exact absurd rfl (S.nofree _ (V4 hy))
 ·exact Xo (x.above y c (V4 h))
 ·have hi:i < vs.length:=by
   unfold start at h2;by_cases hi:i < vs.length
   ·exact hi
   ·rw [Ux (by simpa using hi)] at h2;rw [WM] at h2;split at h2 <;> cases h2
  have ha:vs[i]?=some v:=by
   unfold start at h2;rw [U_ (by simpa using hi),S3] at h2;cases e:vs[i]? with
   | none=>rw [e] at h2;cases h2
   | some a=>rw [e] at h2;cases h2;rfl
  obtain ⟨u,hu,rv⟩:=r.get ha;have hp:ps[i]?=some y:=by rw [<-S.pre,List.getElem?_take_of_lt (by omega)];exact h1
  have ndP:ps.Nodup:=by rw [<-S.pre];exact S.nd.sublist (YC _ _)
  refine ⟨u,rv,?_⟩;rcases S.par y (VR hp) with k | k
  ·exact .inl ⟨k,uz ndP hp hu k⟩
  ·obtain ⟨c,e⟩:=w5 (n:=s.heap.objs.size + 1) k;refine .inr ⟨.inl k,c,e,?_⟩;have q:=x.cell y c e;rw [ux ndP hp hu (by show R_.names.lookup y≠_;rw [k];decide)] at q;exact q
 ·exact e0.hok.fresh (Xo (x.above y c (V4 h)))
 ·unfold start;show _=N.length;rw [SE,So,Tz];omega
theorem G_ {K:Sk}{mg:Str->Option Sl}{dV kV doc pm cdv ct oc:Sl}
 {N ps:List Str}{sp:Sp}(lk:K.lookup f=some ⟨oc,od,.func (Tp name Sf params body R_ dV kV doc pm an cdv ct),osl⟩) (hcd:Vo K cdv Sf=true) (S:cS N ps R_)
 (len:∀vs H Q E,sp vs H Q E->vs.length=ps.length)
 (hbody:∀(A:Te) (outer:List Env) (s:Sn) (H:Hp) (vs:List V) (Q:VK) (E:XK),cO k (A.deeper (W3 Sf R_ s.heap.objs.size f cdv))->sp vs H Q E->
 ∃t,iI (nj CX P w K mg base N Sf R_ f cdv A outer s H E) body t/\t {nx:=λ_ H'=>Q .non H',rt:=Q} (start N vs) H):
  eT P w K mg base CX (k + 1) f (Tp name Sf params body R_ dV kV doc pm an cdv ct) ps sp:=by
 refine ⟨len,λA outer s H args us vs Q E hr e0 hb r QG=>?_⟩;have hl:=len _ _ _ _ QG;have KX:K.In s.heap:=e0.mod.kin.keeps λb o e=>(e0.bs b o e).1;have lim:s.heap.NoLimit:=e0.mod.nolimit.keeps λb o e=>(e0.bs b o e).1;have hkind:∀y∈ps.zip us,R_.names.lookup y.1=some .local\/(R_.names.lookup y.1=some .cell/\((T6 (s.heap.objs.size + 1) R_.names []).lookup y.1).isSome=true):=λ⟨n,v⟩ hy=>by
  rcases S.par n (XU hy).1 with q | q
  ·exact .inl q
  ·exact .inr ⟨q,Y_ _ _ _ (.inl q)⟩
 refine codeAny_call_function hr.depth (KX _ _ lk) rfl S.co S.gen rfl (W.codeRec_of KX hcd) (hb _ _ _ _ ?_);refine wpAny_newFunctionEnv_cells S.kind hkind λenv he s1 x=>?_;subst he;refine ⟨lim.keeps x.toInCall.keep,codeAny_func ?_⟩;obtain ⟨t,ht,hq⟩:=hbody A outer s H vs Q E (hr.deeper _) QG;have I:Inv (nj CX P w K mg base N Sf R_ f cdv A outer s H E) [] (start N vs) H s1:=Dl S hr.hd e0 hl r x;refine TN (ht [] s1 (start N vs) H _ I hq) (λfl s' hs=>?_) λe s' hs=>hs;have fin:∀{σ':St}{H':Hp}{v:V}{u:Sl},Inv (nj CX P w K mg base N Sf R_ f cdv A outer s H E) [] σ' H' s'->RelV v u->Q v H'->CE outer P w H s Q u s':=
  fun {σ' H' v u} J rv q=>⟨v,H',J.os,J.bare,J.base,J.hok,rv,q⟩
 cases fl with
 | ret u=>
  obtain ⟨v,σ',H',J,rv,q⟩:=hs;exact fin J rv q
 | next=>
  obtain ⟨σ',H',J,q⟩:=hs;exact fin (v:=V.non) (u:=Um) J rfl q
 | brk=>
  obtain ⟨_,_,_,q⟩:=hs;exact Vz q
 | cont=>
  obtain ⟨_,_,_,q⟩:=hs;exact Vz q
section
variable {X:Cx}{x:Str}{p pos:Pos}{e:Tv}{es:List Tv}{t:TA}{id T:String}{r:List V->Hp->VK->Prop}
def Og (r:List V->Hp->VK->Prop) (t:TA):TE:=λσ H Q=>t σ H λvs H1=>r vs H1 Q
theorem pY (hc:eK X (.builtin id) r) (hg:Gl X x) (hm:X.mg x=none) (hv:Uz x=some (.builtin id)) (ha:PA X (e::es) t) (hn:autoParam (x≠"__name__") zB._auto_1) (hdb:autoParam ((x == ("__debug__":Str))=false) zB._auto_1)
  (he:autoParam (SG (e::es) X.env=(false,eval e X.env)::SG es X.env) zA._auto_1) (hpl:autoParam ((Vf pos (SG es X.env)).any (·.1)=false) zA._auto_1):PE X (.Call (.Name x p) (e::es) [] pos) (Og r t):=by intro Sa s σ H Q I h;refine V8 (nF I hg hm hv ?_ hn hdb);exact aa2 (bO (ha pos Sa s σ H _ I h) λus s1 ⟨vs,H1,I1,r1,q1⟩=>hc Sa s1 σ H1 vs us Q I1 r1 q1) he hpl
theorem jk (hc:eK X (.type T) r) (hg:Gl X x) (hm:X.mg x=none) (hv:Uz x=some (.type T)) (ha:PA X (e::es) t) (hn:autoParam (x≠"__name__") zB._auto_1) (hdb:autoParam ((x == ("__debug__":Str))=false) zB._auto_1)
  (he:autoParam (SG (e::es) X.env=(false,eval e X.env)::SG es X.env) zA._auto_1) (hpl:autoParam ((Vf pos (SG es X.env)).any (·.1)=false) zA._auto_1):PE X (.Call (.Name x p) (e::es) [] pos) (Og r t):=by intro Sa s σ H Q I h;refine V8 (nF I hg hm hv ?_ hn hdb);exact XS (bO (ha pos Sa s σ H _ I h) λus s1 ⟨vs,H1,I1,r1,q1⟩=>hc Sa s1 σ H1 vs us Q I1 r1 q1) he hpl
end
end L2
namespace HT
open PySem PyProof.Rows
noncomputable def lexLt:List Int->List Int->Bool
 | [],[]=>false
 | [],_::_=>true
 | _::_,[]=>false
 | x::xs,y::ys=>if x=y then lexLt xs ys else decide (x < y)
section
open PySem.SeqAt
open PySem.AutoSeq1 (wpAny_loadPart')
open PySem.MeetsSeq PySem.MeetsSeq2 PySem.MeetsSeq3
end
section
variable {prog:SK}{w:S9}{A:Te}{E:Sl->Sn->Prop}{s:Sn}
theorem Ip {vs ws:List Sl}{Q:Sl->Sn->Prop}(ht:adF s.heap t vs.toArray) (hb:adF s.heap b ws.toArray) (hv:vs≠[])
 (h1:ws=[]->Q (.ref t) s) (h2:ws≠[]->Q (.ref s.heap.objs.size) {s with heap:=s.heap.push {cls:=.type "tuple",data:=.seq (vs++ws).toArray}})
 (hsz:vs.length + ws.length<=sizeLine):SO (SX prog w) A (V7 .Add (.ref t) (.ref b)) Q E s:=by
 obtain ⟨⟨cls,dd,data,sl⟩,ho,hc,n,hd⟩:=id ht;obtain ⟨⟨cls2,dd2,data2,sl2⟩,ho2,hc2,n2,hd2⟩:=id hb;simp only at hc hd hc2 hd2;subst hc hd hc2 hd2;have e:vs.toArray++ws.toArray=(vs++ws).toArray:=by simp
 by_cases hw:ws=[]
 ·exact Zo ⟨_,ho,rfl⟩ ⟨_,ho2,rfl⟩ Y4 aaj W4 WN (WH _ _)
   (tuple_addW1 t b vs.toArray ws.toArray n n2 dd dd2 sl sl2 (by simpa using hv) (by simp [hw])) ⟨ho,ho2,h1 hw⟩
 ·refine Zo ⟨_,ho,rfl⟩ ⟨_,ho2,rfl⟩ Y4 aaj W4 WN (WH _ _)
   (tuple_addW2 t b vs.toArray ws.toArray n n2 dd dd2 sl sl2 (by simpa using hv) (by simpa using hw) (by rw [SA,SA];exact hsz)) ⟨ho,ho2,?_⟩
  rw [e];exact h2 hw
noncomputable def bF (n d:Nat):Option Int->Nat
 | none=>d
 | some v=>if v < 0 then (v + (n:Int)).toNat else min v.toNat n
theorem qe (n d:Nat):bF n d none=d:=rfl
theorem lH (n d k:Nat):bF n d (some (k:Int))=min k n:=by show (if (k:Int) < 0 then ((k:Int) + (n:Int)).toNat else min (k:Int).toNat n)=min k n;rw [if_neg (by omega),UM]
theorem MG (n d:Nat) (hd:d<=n) (o:Option Int):bF n d o<=n:=by
 cases o with
 | none=>exact hd
 | some v=>
  show (if v < 0 then (v + (n:Int)).toNat else min v.toNat n)<=n;by_cases hv:v < 0
  ·rw [if_pos hv];omega
  ·rw [if_neg hv];exact Nat.min_le_right _ _
theorem zB (v:Int) (n d:Nat):(if v < 0 then max (v + (n:Int)) 0 else min v (n:Int))=((bF n d (some v):Nat):Int):=by
 show (if v < 0 then max (v + (n:Int)) 0 else min v (n:Int))=(((if v < 0 then (v + (n:Int)).toNat else min v.toNat n):Nat):Int);by_cases hv:v < 0
 ·simp only [if_pos hv];omega
 ·simp only [if_neg hv];omega
theorem AW (lo hi:Option Int) (n:Nat):Va lo hi 1 (n:Int)=(((bF n 0 lo:Nat):Int),((bF n n hi:Nat):Int)):=by
 have h1:¬((1:Int) < 0):=by omega
 unfold Va;simp only [h1,if_false];refine adx ?_ ?_
 ·cases lo with
  | none=>rfl
  | some v=>exact zB v n 0
 ·cases hi with
  | none=>rfl
  | some v=>exact zB v n n
theorem BL (i j:Nat):T5 (i:Int) (j:Int) 1=j - i:=by
 unfold T5;have h1:(1:Int) > 0:=by omega
 simp only [h1,if_true,acJ];split <;> omega
theorem sA {Q:Option Int->Sn->Prop}(p:aak v o) (h:Q o s):SO (SX prog w) A (abm v) Q E s:=by
 cases p with
 | none=>exact Yp h
 | int i t=>exact acp h
theorem kg {sl:SM}{vl vu:Sl}{lo hi:Option Int}{n:Nat}{Q:Int×Int×Nat->Sn->Prop}(hs:s.heap.IsSliceOf sl vl vu .none) (pl:aak vl lo) (pu:aak vu hi)
  (h:Q (((bF n 0 lo:Nat):Int),1,bF n n hi - bF n 0 lo) s):SO (SX prog w) A (Vx (.ref sl) (pure (n:Int))) Q E s:=by obtain ⟨os,hos,hcs,hds⟩:=id hs;unfold Vx Yq;refine Sj (Sj (XY hos hds (x:=vl) rfl (Sj (XY hos hds (x:=vu) rfl (Sj (XY hos hds (x:=.none) rfl (Sm ?_)))))));refine Sj (Yp ?_);show SO _ _ (if ((1:Int) == 0)=true then _ else _) _ _ s;rw [if_neg (by decide)];refine Sj (sA pl (Sj (sA pu (Sj (Sm ?_)))));show SO _ _ (match Va lo hi 1 (n:Int) with | (lo,hi)=>pure (lo,(1:Int),T5 lo hi 1)) _ _ s;rw [AW lo hi n];show SO _ _ (pure (((bF n 0 lo:Nat):Int),(1:Int),T5 ((bF n 0 lo:Nat):Int) ((bF n n hi:Nat):Int) 1)) _ _ s;rw [BL];exact Sm h
theorem Gb (xs:Array Sl) (i k:Nat):((Sx k).filterMap λ(m:Nat)=>xs[((i:Int) + (m:Int) * 1).toNat]?).toArray=((xs.toList.drop i).take k).toArray:=by
 have e:(λ(m:Nat)=>xs[((i:Int) + (m:Int) * 1).toNat]?)=λm=>xs[i + m]?:=by
  funext m;have:((i:Int) + (m:Int) * 1).toNat=i + m:=by omega
  rw [this]
 rw [e];have:=pick_run xs i k;rw [aal] at this;have e2:((λx=>xs[x]?) ∘ λx=>i + x)=λm=>xs[i + m]?:=rfl;rw [e2] at this;rw [this]
theorem oN {t sl:SM}{items:Array Sl}{vl vu:Sl}{lo hi:Option Int}{Q:Sl->Sn->Prop}(ht:adF s.heap t items) (hs:s.heap.IsSliceOf sl vl vu .none) (pl:aak vl lo) (pu:aak vu hi)
  (hw:¬(bF items.size 0 lo=0/\bF items.size items.size hi=items.size))
  (h:Q (.ref s.heap.objs.size) {s with heap:=s.heap.push {cls:=.type "tuple",data:=.seq ((items.toList.drop (bF items.size 0 lo)).take (bF items.size items.size hi - bF items.size 0 lo)).toArray}})
  (hsz:items.size<=sizeLine):SO (SX prog w) A (XZ (.ref t) (.ref sl)) Q E s:=by
 have P8:sizeOk (.seq ((items.toList.drop (bF items.size 0 lo)).take (bF items.size items.size hi - bF items.size 0 lo)).toArray):=by show ((items.toList.drop (bF items.size 0 lo)).take (bF items.size items.size hi - bF items.size 0 lo)).toArray.size<=sizeLine;rw [SA,UG,UY,SV];omega
 have hj:bF items.size items.size hi<=items.size:=MG _ _ (Sw _) hi;obtain ⟨os,hos,hcs,hds⟩:=id hs;have Q6:s.TypeIs (.ref sl) "slice":=⟨os,hos,hcs⟩;unfold XZ
 try with_reducible refine Tt ?_
 first | refine Sj (Sm ?_) | skip
 refine Sj (YD ht.typeIs (by decide) ?_);refine Sj (Uv (name:=WI "__getitem__") ht.typeIs Tg
  (TR Tg ht.typeIs X3 ?_ (Yk _ _)))
 show SO _ _ (Wq (.ref t) >>= _) _ _ s;refine Sj (aam ht ?_);refine Sj (WJ Q6 ?_);rw [if_pos (by decide)];refine Sj (kg hs pl pu ?_);have hno:¬((((bF items.size 0 lo:Nat):Int) == 0 && (1:Int) == 1 && (bF items.size items.size hi - bF items.size 0 lo) == items.size)=true):=by intro q;rw [SI,SI] at q;have q1:((bF items.size 0 lo:Nat):Int)=0:=eq_of_beq q.1.1;have q2:bF items.size items.size hi - bF items.size 0 lo=items.size:=eq_of_beq q.2;exact hw ⟨by omega,by omega⟩
 show SO _ _ (if (((bF items.size 0 lo:Nat):Int) == 0 && (1:Int) == 1 && (bF items.size items.size hi - bF items.size 0 lo) == items.size)=true then _ else _) _ _ s;rw [if_neg hno,Gb]
 first
  | exact Sj (m:=Ua _) (S_ (Sm ⟨_,rfl,Sm h⟩) P8)
  | exact Sj (m:=Ua _) (S_ (Sj (Sm (Sm ⟨_,rfl,Sm h⟩))) P8)
  | exact Sj (Sj (m:=Ua _) (S_ (Sm (Sm ⟨_,rfl,Sm h⟩)) P8))
  | exact Sj (Sj (m:=Ua _) (S_ (Sm ⟨_,rfl,Sm h⟩) P8))
end
end HT
namespace L2
open PySem PySem.Spec PyProof.Rows
abbrev TO:=St->Hp->(Option Int->Hp->Prop)->Prop
noncomputable def PO (X:Cx) (e:Option Tv) (t:TO):Prop:=
 ∀(Sa:List (SM×Obj)) (s:Sn) (σ:St) (H:Hp) (Q:Option Int->Hp->Prop),Inv X Sa σ H s->t σ H Q->
  SO (SX X.prog X.w) X.A (evalPart e X.env) (λu s'=>∃o H',Inv X Sa σ H' s'/\aak u o/\Q o H') X.xe s
def J6:TO:=λ_ H Q=>Q none H
def NU (t:TE):TO:=λσ H Q=>t σ H λx H1=>∃i,x=.int i/\Q (some i) H1
section
variable {X:Cx}{e:Tv}{te:TE}{lo hi:Option Tv}{tl th:TO}{pos p2:Pos}
theorem JB:PO X none J6:=by intro Sa s σ H Q I h;rw [aan];exact Sm ⟨none,H,I,.none,h⟩
theorem JC (h:PE X e te):PO X (some e) (NU te):=by intro Sa s σ H Q I hw;rw [acq];refine bO (h Sa s σ H _ I hw) λu s1 ⟨x,H1,I1,r1,q1⟩=>?_;obtain ⟨i,rfl,q⟩:=q1;obtain ⟨t,rfl⟩:=r1;exact ⟨some i,H1,I1,.int i t,q⟩
noncomputable def qB (X:Cx) (r:V->Option Int->Option Int->Hp->VK->Prop):Prop:=
 ∀(Sa:List (SM×Obj)) (s:Sn) (σ:St) (H:Hp) (x:V) (v vl vu:Sl) (lo hi:Option Int) (sl:SM) (Q:VK),Inv X Sa σ H s->RelV x v->s.heap.IsSliceOf sl vl vu .none->aak vl lo->aak vu hi->r x lo hi H Q->
  ∃T id,ab9 (.type T) "__getitem__"=pure (some (.builtin id))/\s.TypeIs v T/\SO (SX X.prog X.w) X.A (XZ v (.ref sl)) (EP X Sa σ Q) X.xe s
theorem qB.or {r r':V->Option Int->Option Int->Hp->VK->Prop}(h:qB X r) (h':qB X r'):qB X (λx lo hi H Q=>r x lo hi H Q\/r' x lo hi H Q):=by
 intro Sa s σ H x v vl vu lo hi sl Q I rx hs pl pu q;rcases q with q | q
 ·exact h Sa s σ H x v vl vu lo hi sl Q I rx hs pl pu q
 ·exact h' Sa s σ H x v vl vu lo hi sl Q I rx hs pl pu q
def PK (r:V->Option Int->Option Int->Hp->VK->Prop) (te:TE) (tl th:TO):TE:=λσ H Q=>te σ H λx H1=>tl σ H1 λl H2=>th σ H2 λu H3=>r x l u H3 Q
theorem F_ {r:V->Option Int->Option Int->Hp->VK->Prop}(hr:qB X r) (he:PE X e te) (hl:PO X lo tl) (hu:PO X hi th):PE X (.Subscript e (.Slice lo hi none p2) pos) (PK r te tl th):=by intro Sa s σ H Q I h;refine aaF (bO (he Sa s σ H _ I h) λv s1 ⟨x,H1,I1,r1,q1⟩=>?_);refine wpAny_Slice (bO (hl Sa s1 σ H1 _ I1 q1) λvl s2 ⟨l,H2,I2,pl,q2⟩=>bO (hu Sa s2 σ H2 _ I2 q2) λvu s3 ⟨u,H3,I3,pu,q3⟩=>?_);rw [aan];refine Sm ?_;have I4:Inv X Sa σ H3 {s3 with heap:=s3.heap.push {cls:=.type "slice",data:=.fields #[vl,vu,.none]}}:=I3.kept (t':=s3.toks) λb ob q=>Sq _ q;obtain ⟨T,id,hT,ht,hg⟩:=hr Sa {s3 with heap:=s3.heap.push {cls:=.type "slice",data:=.fields #[vl,vu,.none]}} σ H3 x v vl vu l u s3.heap.objs.size Q I4 r1 (aao ..) pl pu q3;show SO (SX X.prog X.w) X.A (aap e (.Slice lo hi none p2) v (.ref s3.heap.objs.size)) (EP X Sa σ Q) X.xe {s3 with heap:=s3.heap.push {cls:=.type "slice",data:=.fields #[vl,vu,.none]}};exact acr (ops:=[.ref s3.heap.objs.size,v]) ht hT hg (by with_unfolding_all rfl)
def kK (xs:List V) (lo hi:Option Int):List V:=(xs.drop (HT.bF xs.length 0 lo)).take (HT.bF xs.length xs.length hi - HT.bF xs.length 0 lo)
theorem oY (xs:List V) (lo hi:Option Int):(kK xs lo hi).length<=xs.length:=by unfold kK;rw [UG,UY];omega
noncomputable def OU (K:Sk):V->Option Int->Option Int->Hp->VK->Prop:=λx lo hi H Q=>∃a xs,x=.ref a/\d8 K H a xs/\
 ¬(HT.bF xs.length 0 lo=0/\HT.bF xs.length xs.length hi=xs.length)/\∀p,H p=none->Q (.ref p) (upd H p (.tup (kK xs lo hi)))
theorem MJ:qB X (OU X.K):=by
 intro Sa s σ H x v vl vu lo hi sl Q I rx hs pl pu h;obtain ⟨a,xs,rfl,hx,hw,q⟩:=h;cases rx;obtain ⟨Sb,r,ht,hz⟩:=I.tuple hx;have hlen:Sb.toArray.size=xs.length:=by rw [SA];exact r.length.symm
 refine ⟨"tuple",_,Tg.lookup,ht.typeIs,?_⟩;refine HT.oN ht hs pl pu (by rw [hlen];exact hw) ?_ (by rw [hlen];exact hz);rw [hlen];refine ⟨.ref s.heap.objs.size,_,I.laid (t':=s.toks) (o:=.tup (kK xs lo hi)) (λb ob q=>Sq _ q) (Sw _) ?_,rfl,q _ (I.hok.fresh (Sw _))⟩;exact ⟨Tw (oY xs lo hi) hz,_,(r.drop (HT.bF xs.length 0 lo)).take (HT.bF xs.length xs.length hi - HT.bF xs.length 0 lo),abr _ _,λo q=>by rw [Sz _ rfl] at q;cases q;rfl⟩
noncomputable def ND (K:Sk):R2:=λx y H Q=>∃a b xs ys,x=.ref a/\y=.ref b/\d8 K H a xs/\d8 K H b ys/\xs≠[]/\xs.length + ys.length<=sizeLine/\
 (ys=[]->Q (.ref a) H)/\(ys≠[]->∀p,H p=none->Q (.ref p) (upd H p (.tup (xs++ys))))
theorem Vals.nil_iff (r:Vals xs us):us=[]↔xs=[]:=by
 cases r with
 | nil=>simp
 | cons _ _=>simp
theorem Jj:dJ X (V7 .Add) (ND X.K):=by intro Sa s σ H x y v u Q I rx ry h;obtain ⟨a,b,xs,ys,rfl,rfl,ha,hb,hx,hz,q1,q2⟩:=h;cases rx;cases ry;obtain ⟨Sb,r1,p1,_⟩:=I.tuple ha;obtain ⟨its2,r2,p2,_⟩:=I.tuple hb;refine HT.Ip p1 p2 (λz=>hx (r1.nil_iff.mp z)) (λz=>⟨.ref a,H,I,rfl,q1 (r2.nil_iff.mp z)⟩) (λz=>?_) (by rw [<-r1.length,<-r2.length];exact hz);refine ⟨.ref s.heap.objs.size,_,I.laid (t':=s.toks) (o:=.tup (xs++ys)) (λb ob q=>Sq _ q) (Sw _) ?_,rfl,q2 (λw=>z (r2.nil_iff.mpr w)) _ (I.hok.fresh (Sw _))⟩;exact ⟨by rw [SE];exact hz,_,r1.append r2,abr _ _,λo q=>by rw [Sz _ rfl] at q;cases q;rfl⟩
end
def xJ (n:Nat) (i:Int):Option Nat:=if 0<=i then (if i < n then some i.toNat else none) else if -(n:Int)<=i then some (i + n).toNat else none
def jP {α:Type}(xs:List α) (i:Int):Option α:=(xJ xs.length i).bind λj=>xs[j]?
theorem IL (h:xJ n i=some j):seqIndex? i n=some j/\j < n/\-(n:Int)<=i/\i < n:=by
 unfold xJ at h;by_cases h0:0<=i
 ·rw [if_pos h0] at h;by_cases h1:i < n
  ·rw [if_pos h1] at h;have e:i.toNat=j:=TY h;exact ⟨by rw [seqIndex_of h0 h1,e],by omega,by omega,h1⟩
  ·rw [if_neg h1] at h;cases h
 ·rw [if_neg h0] at h;by_cases h1:-(n:Int)<=i
  ·rw [if_pos h1] at h;have e:(i + n).toNat=j:=TY h;exact ⟨by rw [seqIndex_neg (by omega) h1,e],by omega,h1,by omega⟩
  ·rw [if_neg h1] at h;cases h
theorem sV {α:Type}{xs:List α}{i:Int}{v:α}(h:jP xs i=some v):∃j,seqIndex? i xs.length=some j/\xs[j]?=some v/\j < xs.length/\-(xs.length:Int)<=i/\i < xs.length:=by
 unfold jP at h;cases e:xJ xs.length i with
 | none=>rw [e] at h;cases h
 | some j=>
  rw [e] at h;obtain ⟨h1,h2,h3,h4⟩:=IL e;exact ⟨j,h1,h,h2,h3,h4⟩
def n6 (b:Tv):Prop:=∀o i,subscripted b false o i=operate [o,i] (XZ o i)
noncomputable def nc (X:Cx) (r:R2):Prop:=
 ∀(value slice:Tv) (Sa:List (SM×Obj)) (s:Sn) (σ:St) (H:Hp) (x y:V) (v u:Sl) (Q:VK),Inv X Sa σ H s->RelV x v->RelV y u->r x y H Q->
  subscripted slice false v u=operate [v,u] (XZ v u)->SO (SX X.prog X.w) X.A (aap value slice v u) (EP X Sa σ Q) X.xe s
noncomputable def N7 (X:Cx) (id:String) (r:V->List V->Hp->VK->Prop):Prop:=
 ∀(Sa:List (SM×Obj)) (s:Sn) (σ:St) (H:Hp) (x:V) (xs:List V) (v:Sl) (us:List Sl) (Q:VK),Inv X Sa σ H s->RelV x v->Vals xs us->r x xs H Q->
  SO (SX X.prog X.w) X.A (call (.builtin id) (v::us)) (EP X Sa σ Q) X.xe s
section
variable {X:Cx}{a b:Tv}{ta tb:TE}{pos:Pos}
theorem nc.or {r r':R2}(h:nc X r) (h':nc X r'):nc X (λx y H Q=>r x y H Q\/r' x y H Q):=by
 intro value slice Sa s σ H x y v u Q I rx ry q hs;rcases q with q | q
 ·exact h value slice Sa s σ H x y v u Q I rx ry q hs
 ·exact h' value slice Sa s σ H x y v u Q I rx ry q hs
theorem Hw (hr:nc X r) (ha:PE X a ta) (hb:PE X b tb) (hs:n6 b):PE X (.Subscript a b pos) (Eu r ta tb):=by intro Sa s σ H Q I h;exact aaF (EW ha hb I h λv u s2 x y H2 I2 rx ry q=>hr a b Sa s2 σ H2 x y v u Q I2 rx ry q (hs _ _))
def My (K:Sk):R2:=λx y H Q=>∃p xs i v,x=.ref p/\y=.int i/\cQ K H p xs/\jP xs i=some v/\Q v H
def MA (K:Sk):R2:=λx y H Q=>∃p xs i v,x=.ref p/\y=.int i/\d8 K H p xs/\jP xs i=some v/\Q v H
def Mz:R2:=λx y H Q=>∃z i c,x=.str z/\y=.int i/\z.length<=sizeLine/\jP z.cps.toList i=some c/\Q (.str ⟨#[c]⟩) H
theorem IQ:nc X (My X.K):=by
 intro value slice Sa s σ H x y v u Q I rx ry h hs;obtain ⟨p,xs,i,z,rfl,rfl,hq,he,q⟩:=h;cases rx;obtain ⟨t,rfl⟩:=ry;obtain ⟨Sb,r,pl,hz⟩:=I.list hq;obtain ⟨j,h1,h2,h3,h4,h5⟩:=sV he;obtain ⟨w,ew,rw'⟩:=r.get h2;have hl:=r.length;have hn:=lz;have fin:EP X Sa σ Q w s:=⟨z,H,I,rw',q⟩;by_cases h0:0<=i
 ·have hj:i.toNat=j:=by rw [seqIndex_of h0 h5] at h1;exact TY h1
  exact item_listR pl.isList h0 (by omega) (by rw [hj];simpa using ew) fin hs
 ·have hj:(i + (Sb.toArray.size:Int)).toNat=j:=by rw [seqIndex_neg (by omega) h4] at h1;rw [SA,<-hl];exact TY h1
  exact Za (x:=w) pl.isList.typeIs aaG.lookup
   (wpAny_getItem_list_neg (Q:=λr s'=>r=w/\EP X Sa σ Q r s') pl.isList (by omega) (by rw [SA] <;> omega) (by omega) (by rw [hj];simpa using ew) ⟨rfl,fin⟩) hs
theorem LA:nc X (MA X.K):=by
 intro value slice Sa s σ H x y v u Q I rx ry h hs;obtain ⟨p,xs,i,z,rfl,rfl,hq,he,q⟩:=h;cases rx;obtain ⟨t,rfl⟩:=ry;obtain ⟨Sb,r,pl,hz⟩:=I.tuple hq;obtain ⟨j,h1,h2,h3,h4,h5⟩:=sV he;obtain ⟨w,ew,rw'⟩:=r.get h2;have hl:=r.length;have hn:=lz;have fin:EP X Sa σ Q w s:=⟨z,H,I,rw',q⟩;exact Za (x:=w) pl.typeIs slot_tuple_getitem.lookup
  (getItem_tuple (j:=j) (Q:=λr s'=>r=w/\EP X Sa σ Q r s') pl (by omega) (by omega) (by rw [SA,<-hl];exact h1) (by simpa using ew) ⟨rfl,fin⟩) hs
theorem jh:nc X Mz:=by
 intro value slice Sa s σ H x y v u Q I rx ry h hs;obtain ⟨z,i,c,rfl,rfl,hz,he,q⟩:=h;obtain ⟨t,rfl⟩:=rx;obtain ⟨t',rfl⟩:=ry;obtain ⟨j,h1,h2,h3,h4,h5⟩:=sV he;have hl:z.cps.toList.length=z.length:=by simp [aaH]
 rw [hl] at h1 h4 h5;have hn:=lz;exact acr (typeIs_str s z t) slot_str_getitem.lookup (getItem_str (c:=c) (by
  have e1:decide (i < -(2 ^ 63:Int))=false:=decide_eq_false (by omega);have e2:decide (i ≥ 2 ^ 63)=false:=decide_eq_false (by omega);rw [e1,e2,aaq]) (by rw [h1];simpa using h2) ⟨.str ⟨#[c]⟩,H,I.tok _,⟨_,rfl⟩,q⟩) hs
def Pw (K:Sk):R2:=λx y H Q=>My K x y H Q\/MA K x y H Q\/Mz x y H Q
theorem Lz:nc X (Pw X.K):=IQ.or (LA.or jh)
theorem Inv.lst {H:Hp}{s:Sn}{xs:List V}(I:Inv X Sa σ H s) (h:H p=some (.lst xs)):
  ∃(Sb:List Sl) (n:Nat),Vals xs Sb/\s.heap.get? p=some {cls:=.type "list",data:=.seq Sb.toArray n}/\xs.length<=sizeLine:=by obtain ⟨z,Sb,n,r,e⟩:=I.hok p _ h;exact ⟨Sb,n,r,e,z⟩
theorem yz (lo hi:Option Int) (n:Nat):(W_ lo hi none n).1=((HT.bF n 0 lo:Nat):Int)/\(W_ lo hi none n).2.1=((HT.bF n n hi:Nat):Int)/\(W_ lo hi none n).2.2=1:=by
 refine ⟨?_,?_,rfl⟩
 ·cases lo with
  | none=>simp [W_,HT.bF]
  | some i=>
   simp only [W_,HT.bF,aa9,show (1:Int) > 0 by decide,if_true];by_cases h:i < 0
   ·simp only [h,if_true] <;> omega
   ·simp only [h,if_false] <;> omega
 ·cases hi with
  | none=>simp [W_,HT.bF]
  | some i=>
   simp only [W_,HT.bF,aa9,show (1:Int) > 0 by decide,if_true];by_cases h:i < 0
   ·simp only [h,if_true] <;> omega
   ·simp only [h,if_false] <;> omega
theorem vD (Sb:List Sl) (lo hi:Option Int):slicePick Sb.toArray lo hi none=((Sb.drop (HT.bF Sb.length 0 lo)).take (HT.bF Sb.length Sb.length hi - HT.bF Sb.length 0 lo)).toArray:=by obtain ⟨h1,h2,h3⟩:=yz lo hi Sb.toArray.size;unfold slicePick;rw [h1,h2,h3];simp only [sliceRange_one,pick_run,SA] <;> rfl
noncomputable def OT (K:Sk):V->Option Int->Option Int->Hp->VK->Prop:=λx lo hi H Q=>∃a xs,x=.ref a/\cQ K H a xs/\∀p,H p=none->Q (.ref p) (upd H p (.lst (kK xs lo hi)))
theorem JV:qB X (OT X.K):=by intro Sa s σ H x v vl vu lo hi sl Q I rx hs pl pu h;obtain ⟨a,xs,rfl,hx,q⟩:=h;cases rx;obtain ⟨Sb,r,ht,hz⟩:=I.list hx;have hlen:=r.length;refine ⟨"list",_,aaG.lookup,ht.isList.typeIs,?_⟩;refine wpAny_getItem_list_slice ht.isList hs pl pu .none (by simp) ?_ (by rw [SA] <;> omega);rw [vD,<-hlen];refine ⟨.ref s.heap.objs.size,_,I.laid (t':=s.toks) (o:=.lst (kK xs lo hi)) (λb ob q=>Sq _ q) (Sw _) ?_,rfl,q _ (I.hok.fresh (Sw _))⟩;exact ⟨Tw (oY xs lo hi) hz,_,0,(r.drop (HT.bF xs.length 0 lo)).take (HT.bF xs.length xs.length hi - HT.bF xs.length 0 lo),Sz _ rfl⟩
noncomputable def qT:V->Bool
 | .non=>true
 | .bl _=>true
 | .int _=>true
 | .str _=>true
 | _=>false
noncomputable def Lc:V->V->Bool
 | .non,.non=>true
 | .bl a,.bl b=>a == b
 | .bl a,.int b=>(if a then 1 else 0) == b
 | .int a,.bl b=>a == (if b then 1 else 0)
 | .int a,.int b=>a == b
 | .str a,.str b=>a == b
 | _,_=>false
theorem Lb (ry:RelV y u) (rx:RelV x v) (fy:qT y=true) (fx:qT x=true):Vq A s u v (Lc y x):=by
 cases y with
 | non=>
  cases ry;cases x with
  | non=>cases rx;exact Zp _
  | bl b=>cases rx;exact acU b
  | int b=>obtain ⟨t,rfl⟩:=rx;exact ac6 b t
  | str b=>obtain ⟨t,rfl⟩:=rx;exact ac_ b t
  | _=>exact absurd (show false=true from fx) TH
 | bl a=>
  cases ry;cases x with
  | non=>cases rx;exact acV a
  | bl b=>cases rx;exact acW a b
  | int b=>obtain ⟨t,rfl⟩:=rx;exact ada a b t
  | str b=>obtain ⟨t,rfl⟩:=rx;exact adb a b t
  | _=>exact absurd (show false=true from fx) TH
 | int a=>
  obtain ⟨t',rfl⟩:=ry;cases x with
  | non=>cases rx;exact ade a t'
  | bl b=>cases rx;exact adf a t' b
  | int b=>obtain ⟨t,rfl⟩:=rx;exact ady a t' b t
  | str b=>obtain ⟨t,rfl⟩:=rx;exact aaf a t' b t
  | _=>exact absurd (show false=true from fx) TH
 | str a=>
  obtain ⟨t',rfl⟩:=ry;cases x with
  | non=>cases rx;exact adg a t'
  | bl b=>cases rx;exact adh a t' b
  | int b=>obtain ⟨t,rfl⟩:=rx;exact aag a t' b t
  | str b=>obtain ⟨t,rfl⟩:=rx;exact adz a t' b t
  | _=>exact absurd (show false=true from fx) TH
 | _=>exact absurd (show false=true from fy) TH
theorem wR:eK X (.builtin "len") (λxs H Q=>∃p ys,xs=[.ref p]/\(cQ X.K H p ys\/d8 X.K H p ys)/\Q (.int ys.length) H):=by
 intro Sa s σ H xs us Q I r h;obtain ⟨p,ys,rfl,hq,q⟩:=h;obtain ⟨u,rfl,rx⟩:=vals1 r;cases rx;have hn:=lz;rcases hq with hq | hq
 ·obtain ⟨Sb,r',pl,hz⟩:=I.list hq;have hlen:=r'.length;exact Calls.call_len_list pl.isList (by simp only [SA] <;> omega) ⟨.int ys.length,H,I.tok _,⟨s.toks + 1,by rw [SA,hlen]⟩,q⟩
 ·obtain ⟨Sb,r',pl,hz⟩:=I.tuple hq;have hlen:=r'.length;exact len_tuple pl (by simp only [SA] <;> omega) ⟨.int ys.length,H,I.tok _,⟨s.toks + 1,by rw [SA,hlen]⟩,q⟩
theorem wU:eK X (.builtin "len") (λxs H Q=>∃z,xs=[.str z]/\z.length<=sizeLine/\Q (.int z.length) H):=by intro Sa s σ H xs us Q I r h;obtain ⟨z,rfl,hz,q⟩:=h;obtain ⟨u,rfl,t,rfl⟩:=vals1 r;have hn:=lz;exact len_str (by omega) ⟨.int z.length,H,I.tok _,⟨_,rfl⟩,q⟩
theorem eK.or {r r':List V->Hp->VK->Prop}(h:eK X f r) (h':eK X f r'):eK X f (λxs H Q=>r xs H Q\/r' xs H Q):=by
 intro Sa s σ H xs us Q I rs q;rcases q with q | q
 ·exact h Sa s σ H xs us Q I rs q
 ·exact h' Sa s σ H xs us Q I rs q
theorem wV:eK X (.type "list") (λxs H Q=>∃p ys,xs=[.ref p]/\(cQ X.K H p ys\/d8 X.K H p ys)/\∀l,H l=none->Q (.ref l) (upd H l (.lst ys))):=by
 intro Sa s σ H xs us Q I r h;obtain ⟨p,ys,rfl,hq,q⟩:=h;obtain ⟨u,rfl,rx⟩:=vals1 r;cases rx;have fin:∀(Sb:List Sl),Vals ys Sb->ys.length<=sizeLine->∀(h':Uo) (c':Nat),(∀b o',s.heap.get? b=some o'->h'.get? b=some o')->
   h'.get? s.heap.objs.size=some {cls:=.type "list",dict:=none,data:=.seq Sb.toArray c',slots:=#[]}->EP X Sa σ Q (.ref s.heap.objs.size) {s with heap:=h'}:=λSb r' hz h' c' kp e=>
  ⟨.ref s.heap.objs.size,_,I.laid (t':=s.toks) kp (Sw _) (show bW X.prog X.w _ h' _ (.lst ys) from ⟨hz,Sb,c',r',e⟩),rfl,q _ (I.hok.fresh (Sw _))⟩
 rcases hq with hq | hq
 ·obtain ⟨Sb,r',pl,hz⟩:=I.list hq;have hlen:=r'.length;obtain ⟨o,ho,hc,n,hd⟩:=pl.isList;exact acs p (.inl rfl) ho hc hd (λh' c' kp e=>fin Sb r' hz h' c' kp e) (by simp only [SA] <;> omega)
 ·obtain ⟨Sb,r',pl,hz⟩:=I.tuple hq;have hlen:=r'.length;obtain ⟨o,ho,hc,n,hd⟩:=pl;exact acs p (.inr rfl) ho hc hd (λh' c' kp e=>fin Sb r' hz h' c' kp e) (by simp only [SA] <;> omega)
theorem mJ:eK X (.type "tuple") (λxs H Q=>∃p ys,xs=[.ref p]/\((cQ X.K H p ys/\∀l,H l=none->Q (.ref l) (upd H l (.tup ys)))\/(d8 X.K H p ys/\Q (.ref p) H))):=by
 intro Sa s σ H xs us Q I r h;obtain ⟨p,ys,rfl,h⟩:=h;obtain ⟨u,rfl,rx⟩:=vals1 r;cases rx;rcases h with ⟨hq,q⟩ | ⟨hq,q⟩
 ·obtain ⟨Sb,r',pl,hz⟩:=I.list hq;have hlen:=r'.length;refine call_tuple_list pl.isList (λh' kp=>?_) (by simp only [SA] <;> omega);have I1:Inv X Sa σ H {s with heap:=h'}:=I.kept (t':=s.toks) kp;have I2:Inv X Sa σ (upd H h'.objs.size (.tup ys)) {s with heap:=h'.push {cls:=.type "tuple",data:=.seq Sb.toArray}}:=
   I1.laid (t':=s.toks) (λb o e=>Sq _ e) (Sw _) (show bW X.prog X.w _ _ _ (.tup ys) from ⟨hz,Sb,r',abr _ _,λo q=>by rw [Sz _ rfl] at q;cases q;rfl⟩)
  exact ⟨.ref h'.objs.size,_,I2,rfl,q _ (I1.hok.fresh (Sw _))⟩
 ·obtain ⟨Sb,r',pl,hz⟩:=I.tuple hq;exact call_tuple_same pl ⟨.ref p,H,I,rfl,q⟩
noncomputable def MY (K:Sk) (T:String) (x:V) (H:Hp):Prop:=match x with
 | .str _=>T="str"
 | .int _=>T="int"
 | .ref p=>(T="list"/\∃xs,cQ K H p xs)\/(T="tuple"/\∃o,K.lookup p=some o/\o.cls=.type "tuple"/\o.dict=none)\/
   (T="dict"/\((∃Sh,H p=some (.dK Sh))\/∃Sh,H p=some (.dT Sh)))\/(T="set"/\∃S n,H p=some (.set S n))
 | _=>False
theorem EE {H:Hp}{s:Sn}(I:Inv X Sa σ H s) (r:RelV x v) (ty:MY X.K T x H):
  s.TypeIs v T/\∀a,v=.ref a->∃ob,s.heap.get? a=some ob/\ob.dict=none:=by
 cases x with
 | str z=>
  obtain ⟨t,rfl⟩:=r;cases (show T="str" from ty);exact ⟨typeIs_str s z t,λ_ e=>nomatch e⟩
 | int i=>
  obtain ⟨t,rfl⟩:=r;cases (show T="int" from ty);exact ⟨ab_ s i t,λ_ e=>nomatch e⟩
 | ref p=>
  cases r;rcases ty with ⟨rfl,xs,hq⟩ | ⟨rfl,o,hk,hc,hd⟩ | ⟨rfl,hk⟩ | ⟨rfl,S,n,hk⟩
  ·obtain ⟨Sb,_,pl,_⟩:=I.list hq;refine ⟨pl.isList.typeIs,λa e=>?_⟩;cases e;obtain ⟨o,n,e,c,hd,_⟩:=pl;exact ⟨o,e,hd⟩
  ·refine ⟨⟨o,I.kIn p o hk,hc⟩,λa e=>?_⟩;cases e;exact ⟨o,I.kIn _ o hk,hd⟩
  ·have z:∃o,s.heap.get? p=some o/\o.ExactDict:=by
    rcases hk with ⟨Sh,hk⟩ | ⟨Sh,hk⟩
    ·obtain ⟨_,_,_,_,o,_,_,e,ex,_⟩:=I.hok p _ hk;exact ⟨o,e,ex⟩
    ·obtain ⟨_,_,_,_,o,_,_,e,ex,_⟩:=I.hok p _ hk;exact ⟨o,e,ex⟩
   obtain ⟨o,e,ex⟩:=z;refine ⟨⟨o,e,ex.1⟩,λa e2=>?_⟩;cases e2;exact ⟨o,e,ex.2.1⟩
  ·obtain ⟨o,_,_,_,e,ex,_⟩:=I.hok p _ hk;refine ⟨⟨o,e,ex.1⟩,λa e2=>?_⟩;cases e2;exact ⟨o,e,ex.2.1⟩
 | _=>exact Vz ty
def O8 (K:Sk) (T:String) (r:V->List V->Hp->VK->Prop) (to:TE):TE:=λσ H Q=>to σ H λx H1=>MY K T x H1/\r x [] H1 Q
def Py (K:Sk) (T:String) (r:V->List V->Hp->VK->Prop) (to:TE) (t:TA):TE:=λσ H Q=>to σ H λx H1=>MY K T x H1/\t σ H1 λxs H2=>r x xs H2 Q
variable {o e:Tv}{es:List Tv}{to:TE}{t:TA}{name:Str}{apos cpos:Pos}{T id:String}{r:V->List V->Hp->VK->Prop}
theorem L4 (pa:PlainAttrs T) (slot:Slot T name id) (hty:typeOf (.builtin id)=pure (.type "method_descriptor")) (hm:N7 X id r) (ho:PE X o to)
  (hbase:autoParam (U9 o name X.env (eval o X.env)=eval o X.env) zA._auto_1) (hline:autoParam ((apos.endLine == cpos.line)=true) zA._auto_1):PE X (.Call (.Attribute o name apos) [] [] cpos) (O8 X.K T r to):=by intro Sa s σ H Q I h;refine wpAny_Call_method0_late hbase hline (bO (ho Sa s σ H _ I h) λv s1 ⟨x,H1,I1,r1,ty,q1⟩=>?_);obtain ⟨h1,h2⟩:=EE I1 r1 ty;exact ⟨T,id,pa,slot,hty,h1,h2,Zb rfl (PySem.evalArgs_none (hm Sa s1 σ H1 x [] v [] Q I1 r1 .nil q1))⟩
theorem Hv (pa:PlainAttrs T) (slot:Slot T name id) (hty:typeOf (.builtin id)=pure (.type "method_descriptor")) (hm:N7 X id r) (ho:PE X o to) (ha:PA X (e::es) t)
  (hbase:autoParam (U9 o name X.env (eval o X.env)=eval o X.env) zA._auto_1)
  (hfew:autoParam (((Vf cpos (SG (e::es) X.env)).all (λx=>!x.1) && (adA cpos (abt [] X.env)).all (λx=>x.1.isSome)
   && decide ((e::es).length + ([]:List abu).length + (if ([]:List abu).isEmpty then 0 else 1) < 30))=true) zA._auto_1)
  (hline:autoParam ((apos.endLine == cpos.line)=true) zA._auto_1) (hs:autoParam (SG (e::es) X.env=(false,eval e X.env)::SG es X.env) zA._auto_1) (hplain:autoParam ((Vf cpos (SG es X.env)).any (·.1)=false) zA._auto_1):
  PE X (.Call (.Attribute o name apos) (e::es) [] cpos) (Py X.K T r to t):=by intro Sa s σ H Q I h;refine wpAny_Call_method_late hbase hfew hline rfl (bO (ho Sa s σ H _ I h) λv s1 ⟨x,H1,I1,r1,ty,q1⟩=>?_);obtain ⟨h1,h2⟩:=EE I1 r1 ty;refine ⟨T,id,pa,slot,hty,h1,h2,?_⟩;have hA:=ha cpos Sa s1 σ H1 _ I1 q1;rw [hs] at hA ⊢;refine Zb (by show (false || (Vf cpos (SG es X.env)).any (·.1))=false;rw [hplain] <;> rfl) (Calls.evalArgs_plain ?_);exact bO hA λus s2 ⟨vs,H2,I2,r2,q2⟩=>hm Sa s2 σ H2 x vs v us Q I2 r1 r2 q2
end
noncomputable def GS (X:Cx) (id:String) (r:V->List V->Hp->VK->Prop):Prop:=
 ∀(Sa:List (SM×Obj)) (s:Sn) (σ:St) (H:Hp) (x:V) (xs:List V) (v:Sl) (us:List Sl) (Q:VK),Inv X Sa σ H s->RelV x v->Vals xs us->r x xs H Q->
  SO (SX X.prog X.w) X.A (call (.builtin id) (v::us)) (EP X Sa σ Q) X.xe s
theorem Vals.one:∀{x:V}{us:List Sl},Vals [x] us->∃u,us=[u]/\RelV x u
 | _,_,.cons r .nil=>⟨_,rfl,r⟩
theorem Vals.zero:∀{us:List Sl},Vals [] us->us=[]
 | _,.nil=>rfl
theorem Vals.dropLast {xs:List V}{us:List Sl}(h:Vals xs us):Vals xs.dropLast us.dropLast:=by
 induction h with
 | nil=>exact .nil
 | cons r t ih=>
  cases t with
  | nil=>exact .nil
  | cons q t'=>exact .cons r ih
theorem Vals.reverse {xs:List V}{us:List Sl}(h:Vals xs us):Vals xs.reverse us.reverse:=by
 induction h with
 | nil=>exact .nil
 | cons r t ih=>rw [Xa,Xa];exact Vals.append ih (.cons r .nil)
theorem A9 {α:Type}(l:List α):l.eraseIdx (l.length - 1)=l.dropLast:=by
 induction l with
 | nil=>rfl
 | cons a r ih=>
  cases r with
  | nil=>rfl
  | cons b r=>
   have e:(a::b::r).length - 1=((b::r).length - 1) + 1:=by have h1:(a::b::r).length=r.length + 2:=rfl;have h2:(b::r).length=r.length + 1:=rfl;omega
   rw [e,List.eraseIdx_cons_succ,ih]
   all_goals rfl
section
variable {X:Cx}{Sa:List (SM×Obj)}{σ:St}{H:Hp}{s:Sn}{l b:SM}{xs ys zs:List V}
theorem Inv.lset {Sb its':List Sl}{f:Array Sl->Array Sl}(I:Inv X Sa σ H s) (hH:H l=some (.lst xs))
 (e:s.heap.get? l=some {cls:=.type "list",data:=.seq Sb.toArray n}) (hf:f Sb.toArray=its'.toArray) (hv:Vals ys its') (hz:ys.length<=sizeLine):
  Inv X Sa σ (upd H l (.lst ys)) {s with heap:=s.heap.update l (Uw f),toks:=t'}:=by have q:=adP e f;rw [hf] at q;refine I.write (x:=l) (e:=l) (by rw [hH];exact trivial) (.inl rfl) (λb' u hb hu=>(TV s.heap (Uw f) (UA hb)).trans hu) ⟨_,q⟩ ?_;exact ⟨hz,its',_,hv,q⟩
theorem Inv.lnew {Sb:List Sl}(I:Inv X Sa σ H s) (hv:Vals ys Sb) (hz:ys.length<=sizeLine):
  Inv X Sa σ (upd H s.heap.objs.size (.lst ys)) {s with heap:=s.heap.push {cls:=.type "list",data:=.seq Sb.toArray},toks:=t'}:=
 I.laid (λ_ _ q=>Sq _ q) (Sw _) ⟨hz,Sb,0,hv,Sz _ rfl⟩
theorem Inv.fresh (I:Inv X Sa σ H s):H s.heap.objs.size=none:=I.hok.fresh (Sw _)
theorem Inv.lstM (I:Inv X Sa σ H s) (hH:H l=some (.lst xs)):xs.length<=sizeLine/\∃(Sb:List Sl) (n:Nat),Vals xs Sb/\xs.length=Sb.length/\s.heap.get? l=some {cls:=.type "list",data:=.seq Sb.toArray n}:=by obtain ⟨z,Sb,n,r,e⟩:=I.hok l _ hH;exact ⟨z,Sb,n,r,r.length,e⟩
theorem ya (h:n<=sizeLine):Vg n=false:=by unfold Vg;exact decide_eq_false (by omega)
end
section
variable {X:Cx}
noncomputable def JM:V->List V->Hp->VK->Prop:=λx vs H Q=>∃l xs y,x=.ref l/\vs=[y]/\H l=some (.lst xs)/\xs.length < sizeLine/\Q .non (upd H l (.lst (xs++[y])))
theorem uN:GS X "list.append" JM:=by intro Sa s σ H x vs v us Q I rx rv h;obtain ⟨l,xs,y,rfl,rfl,hH,hz,q⟩:=h;cases rx;obtain ⟨u,rfl,ru⟩:=rv.one;obtain ⟨z,Sb,n,r,hl,e⟩:=I.lstM hH;refine aaI F.slot_list_append ⟨_,e,rfl⟩ F.entry_list_append (F.args_list_append_2 _ _) (PySem.list_append l Sb.toArray n u (by rw [SA];omega)) ⟨e,?_⟩;refine ⟨.non,_,I.lset (its':=Sb++[u]) hH e (by simp) (r.append (.cons ru .nil)) ?_,rfl,q⟩;rw [SE,List.length_singleton];omega
noncomputable def JN:V->List V->Hp->VK->Prop:=λx vs H Q=>∃l b xs zs,x=.ref l/\vs=[.ref b]/\H l=some (.lst xs)/\H b=some (.lst zs)/\xs.length + zs.length<=sizeLine/\Q .non (upd H l (.lst (xs++zs)))
theorem Oe:GS X "list.extend" JN:=by
 intro Sa s σ H x vs v us Q I rx rv h;obtain ⟨l,b,xs,zs,rfl,rfl,hH,hB,hz,q⟩:=h;cases rx;obtain ⟨u,rfl,ru⟩:=rv.one;cases ru;obtain ⟨z,Sb,n,r,hl,e⟩:=I.lstM hH;obtain ⟨z2,its2,n2,r2,hl2,e2⟩:=I.lstM hB;have hsz:Sb.toArray.size + its2.toArray.size<=sizeLine:=by rw [SA,SA];omega
 have QA:¬(!Sb.toArray.isEmpty && Vg (Sb.toArray.size + its2.toArray.size))=true:=by rw [ya hsz,Xk];exact TH
 refine aaI aar ⟨_,e,rfl⟩ Z5 (ZR _ _)
  (AutoSeq1.list_extend_list_list_0 l Sb.toArray n b its2.toArray n2 QA (by rw [SA];omega) (by omega)) ⟨e,e2,?_⟩
 refine ⟨.non,_,I.lset (its':=Sb++its2) hH e (by simp) (r.append r2) ?_,rfl,q⟩;rw [SE];omega
noncomputable def OS:V->List V->Hp->VK->Prop:=λx vs H Q=>∃l xs y,x=.ref l/\vs=[]/\H l=some (.lst xs)/\xs[xs.length - 1]?=some y/\Q y (upd H l (.lst xs.dropLast))
theorem LL:GS X "list.pop" OS:=by
 intro Sa s σ H x vs v us Q I rx rv h;obtain ⟨l,xs,y,rfl,rfl,hH,hy,q⟩:=h;cases rx;have R5:=rv.zero;subst R5;obtain ⟨z,Sb,n,r,hl,e⟩:=I.lstM hH;obtain ⟨u,hu,ru⟩:=r.get hy;have hy':Sb.toArray[Sb.toArray.size - 1]?=some u:=by show Sb.toArray[Sb.length - 1]?=some u;rw [<-Wf,<-hl];exact hu
 refine aaI F.slot_list_pop ⟨_,e,rfl⟩ F.entry_list_pop (F.args_list_pop_1 _) (MeetsSeq.list_pop_last l Sb.toArray n u hy' (by rw [SA];omega)) ⟨e,?_⟩;refine ⟨y,_,I.lset (its':=Sb.dropLast) hH e ?_ r.dropLast ?_,ru,q⟩
 ·show Sb.toArray.eraseIdxIfInBounds (Sb.toArray.size - 1)=Sb.dropLast.toArray;rw [SA,List.eraseIdxIfInBounds_toArray,A9]
 ·rw [List.length_dropLast];omega
noncomputable def OP:R2:=λx y H Q=>∃l b xs zs,x=.ref l/\y=.ref b/\H l=some (.lst xs)/\H b=some (.lst zs)/\xs.length + zs.length<=sizeLine/\∀p,H p=none->Q (.ref p) (upd H p (.lst (xs++zs)))
theorem DN:dJ X (V7 .Add) OP:=by
 intro Sa s σ H x y v u Q I rx ry h;obtain ⟨l,b,xs,zs,rfl,rfl,hH,hB,hz,q⟩:=h;cases rx;cases ry;obtain ⟨z,Sb,n,r,hl,e⟩:=I.lstM hH;obtain ⟨z2,its2,n2,r2,hl2,e2⟩:=I.lstM hB;refine PySem.P.add_list e e2 ?_ (by rw [SA,SA];omega);have ea:Sb.toArray++its2.toArray=(Sb++its2).toArray:=by simp
 rw [ea];exact ⟨.ref _,_,I.lnew (t':=s.toks) (r.append r2) (by rw [SE];omega),rfl,q _ I.fresh⟩
end
end L2
namespace Att
open PySem PySem.W PySem.Calls PyProof.Rows
theorem rE:∀(ns:List Int) (vs:List Sl),WellAll P h vs (ns.map adQ)->abv vs ns:=by
 intro ns
 induction ns with
 | nil=>
  intro vs w;rw [aa3] at w;cases w;exact .nil
 | cons n ns ih=>
  intro vs w;rw [S4] at w;cases w with
  | cons a b=>
   cases a;exact .cons _ _ (ih _ b)
theorem Ek {l:OpenLaw}(hn:l.most=some n){h:Uo}
 (hpre:l.row.toRowW.claim.pre args=true) (hwl:WellAll P h vals args):
  ∃a vs ns,vals=[Vi a]/\args=[WData.list (ns.map adQ)]/\h.get? a=some {cls:=.type "list",data:=.seq vs.toArray}/\abv vs ns/\ns.length<=n:=by
 have hsh:WShape.hasAll [] args [.list .int]=true:=(pre_splitW hpre).1;have hc:l.pre.holds [] {args:=args}=true:=(pre_splitW hpre).2;obtain ⟨d,r,rfl,h1,h2⟩:=hasAllW_cons hsh;obtain rfl:=hasAllW_nil h2;obtain ⟨xs,rfl,h3⟩:=hasW_list h1;obtain ⟨ns,rfl⟩:=items_int h3;have hlen:ns.length<=n:=by
  unfold OpenLaw.pre at hc;have h4:(WTm.not (.lt (.lit (.int (n:Int))) (.len (.arg 0)))).holds [] {args:=[.list (ns.map .int)]}=true:=by have h4:=(holds_andW hc).1;rw [hn] at h4;exact h4
  have h5:=condW_of h4 (w_not (w_lt w_lit (w_len_list (w_arg rfl))));rw [So] at h5;refine Nat.le_of_not_lt λq=>?_;have q':(n:Int) < ((ns.length:Nat):Int):=by omega
  first
   | (rw [decide_eq_true q'] at h5;exact absurd h5 (by decide))
   | (simp at h5;omega)
 cases hwl with
 | cons w1 w2=>
  cases w2;cases w1 with
  | list ho hall=>exact ⟨_,_,ns,rfl,rfl,ho,rE ns _ hall,hlen⟩
theorem D4 (l:OpenLaw) (args:List WData):l.row.toRowW.claim.post args (.bool true) args=true:=
 postW_of (r:=l.row.toRowW) (X:=(true == true))
  (show adH [] (.bool true) .bool=true by first | rfl | decide | simp [adH,WShape.arms,WShape.armsAll])
  (show (WTm.eq .res (.lit (.bool true))).value [] {args:=args,res:=some (.bool true),after:=args}=some (.bool (true == true)) from w_eq_bool (w_res rfl) w_lit) rfl
theorem yP {l:OpenLaw}{XP:(Str->Option Sl)->Uo->Prop}{YP:S9->Uo->Prop}{d:DefRec}
 (hn:l.most=some n) (hdf:d.params.defaults=[])
 (call:∀(w:S9) (s₀ s₁:Sn) (mg mb:Str->Option Sl) (fa:SM) (o:Obj) (pm cd doc:Sl) (a:SM) (vs:List Sl) (ns:List Int),
 Ground q loose [] XP w s₀ mg mb s₁.heap->YP w s₁.heap->
 s₁.heap.get? fa=some o->o.data=.func (docDef d.name d.params d.body d.scope pm cd doc)->s₁.heap.CodeRec cd d.name->mg d.name=some (.ref fa)->
 s₁.heap.get? a=some {cls:=.type "list",data:=.seq vs.toArray}->abv vs ns->ns.length<=n->s₁.gens=#[]->
 U3 (SX l.prog w) aaJ (.call (.ref fa) ⟨[.ref a],[]⟩) (λr s'=>r=.ok (.ret (.bool true))/\OldK s₁.heap s'.heap/\s'.os=s₁.os/\YO s'.gens) s₁):
  WalkO q loose XP YP l.row.toRowW d [] (λf vs=>acd f vs):=by intro w s₀ s₁ mg mb G Y fa o pm cd doc dV kV ho hd hcd hD hmg hg args vals as hpre hlay hrd hwl hlo;obtain rfl:dV=.none:=Dflts.none hD hdf;obtain rfl:kV=.none:=Dflts.noKw hD;obtain ⟨a,vs,ns,rfl,rfl,hobj,hints,hlen⟩:=Ek hn hpre hwl;refine enter_call (VG (call w s₀ s₁ mg mb fa o pm cd doc a vs ns G Y ho (fd_plain hd) hcd hmg hobj hints hlen hg) λr s' hq=>?_);obtain ⟨rfl,h2,h3,h4⟩:=hq;exact ⟨.inl ⟨.bool true,.bool true,[],rfl,λ_=>rfl,.bool true,D4 l _,λ_=>⟨Xb,λ_ hm=>(nomatch hm)⟩⟩,h2,h3,h4⟩
end Att
namespace L2
open PySem PySem.Spec PyProof.Rows
theorem u9:∀{vs:List Sl}{ns:List Int},abv vs ns->Vals (ns.map V.int) vs
 | _,_,.nil=>.nil
 | _,_,.cons n t h=>.cons ⟨t,rfl⟩ (u9 h)
def AQ (H:Hp):Prop:=∀b,H b=none\/∃o xs,H b=some (.frz o (.lst xs))
theorem FI {K:Sk}{mg mb:Str->Option Sl}{sp:Sp}{s₁:Sn}{vs:List Sl}{ns:List Int}
 (KX:K.In s₁.heap) (hns:s₁.heap.Ns SY mg) (hb:s₁.heap.Ns ab7 mb) (RM:∀x:Str,x≠"__name__"->mb x=Uz x) (hlim:s₁.heap.NoLimit) (hg:s₁.gens=#[])
 (ha:s₁.heap.get? a=some {cls:=.type "list",data:=.seq vs.toArray}) (hi:abv vs ns) (hl:ns.length<=sizeLine) (hr:cO k aaJ)
 (F:∀base:Uo,K.In base->base.Ns SY mg->eT P w K mg base CX k fa fd [x] sp) (hbind:∀(s:Sn) (u:Sl),abq s fd ⟨[u],[]⟩ [(x,u)])
 (QG:∀H:Hp,AQ H->cQ K H a (ns.map V.int)->sp [.ref a] H (λv _=>v=.bl true) λ_ _ _=>False)
 (Rb:∀H e s',CX [] H s₁ (λ_ _ _=>False) e s'->False):
  U3 (SX P w) aaJ (.call (.ref fa) ⟨[.ref a],[]⟩) (λr s'=>r=.ok (.ret (.bool true))/\OldK s₁.heap s'.heap/\s'.os=s₁.os/\YO s'.gens) s₁:=by
 have rv:=u9 hi;have lenV:=hi.length;have core:∀H:Hp,AQ H->cQ K H a (ns.map V.int)->eY P w H s₁.heap->(∀b,H b≠none->b=a)->(H a≠none->K.lookup a=none)->
   U3 (SX P w) aaJ (.call (.ref fa) ⟨[.ref a],[]⟩) (λr s'=>r=.ok (.ret (.bool true))/\OldK s₁.heap s'.heap/\s'.os=s₁.os/\YO s'.gens) s₁:=by
  intro H hO hS hok hA hK;have base_of:∀{b:SM}{o:Obj},s₁.heap.get? b=some o->H b=none->(lY s₁.heap H).get? b=some o:=λe n=>Fv e n;have noA:∀{b:SM}{o:Obj}{es:Array Zg}{ep:Nat},s₁.heap.get? b=some o->o.data=.dict es ep->H b=none:=fun {b o es ep} e d=>by
   cases q:H b with
   | none=>rfl
   | some u=>
    have e':b=a:=hA b (by rw [q];simp);subst e';rw [ha] at e;cases e;have d':Data.seq vs.toArray _=Data.dict es ep:=d;cases d'
  have nsK:∀{b:SM}{m:Str->Option Sl},s₁.heap.Ns b m->(lY s₁.heap H).Ns b m:=fun {b m} ⟨o,es,ep,e,d,r⟩=>⟨o,es,ep,base_of e (noA e d),d,r⟩;have Rw:K.In (lY s₁.heap H):=λb o e=>base_of (KX b o e) (by
   cases q:H b with
   | none=>rfl
   | some u=>
    have e':b=a:=hA b (by rw [q];simp);subst e';rw [hK (by rw [q];simp)] at e;cases e)
  have hM:Mod K mg (lY s₁.heap H):=⟨Rw,nsK hns,⟨mb,nsK hb,RM⟩,let ⟨mc,h1,h2⟩:=hlim;⟨mc,nsK h1,h2⟩⟩;have e0:pO P w K mg (lY s₁.heap H) aaJ [] s₁ H:=⟨rfl,hM,λb o e=>Jh e,Zn (Di _ _),trivial,λb hb=>absurd (show b∈([]:List SM) from hb) (by simp),hok,.of_eq hg⟩;refine VG ((F _ Rw (nsK hns)).run aaJ [] s₁ H ⟨[.ref a],[]⟩ [.ref a] [.ref a] _ _ hr e0 (hbind s₁ (.ref a)) (.cons rfl .nil) (QG H hO hS)) λr s' h=>?_;cases r with
  | error e=>exact (Rb H e s' h).elim
  | ok fl=>
   cases fl with
   | next=>exact Vz h
   | brk=>exact Vz h
   | cont=>exact Vz h
   | ret u=>
    obtain ⟨v,H',os,bare,un,Rp,r',q⟩:=h;have q':v=.bl true:=q;subst q';obtain rfl:u=ZN true:=r';refine ⟨rfl,OldK.of_keep λb o e=>?_,os,bare⟩;cases q:H b with
    | none=>exact un.keep b o e q (by intro z;exact absurd (show b∈([]:List SM) from z) (by simp)) (by simp)
    | some u=>
     rcases hO b with z | ⟨ob,xs,z⟩
     ·rw [q] at z;cases z
     ·have z2:=un.frzs b ob _ z;obtain ⟨e1,_⟩:=hok b _ z;obtain ⟨e2,_⟩:=Rp b _ z2;rw [e] at e1;cases e1;exact e2
 cases hk:K.lookup a with
 | some o=>
  have e:=KX a o hk;rw [ha] at e;cases e;refine core (λ_=>none) (λ_=>.inl rfl) (.inr ⟨_,vs.toArray,_,hk,rfl,rfl,rfl,by rw [SA,lenV];exact hl,by simpa using rv⟩) (λb u z=>by have z':(none:Option HO)=some u:=z;cases z') (λb z=>absurd rfl z) λz=>absurd rfl z
 | none=>
  refine core (λb=>if b=a then some (.frz {cls:=.type "list",data:=.seq vs.toArray} (.lst (ns.map V.int))) else none) (λb=>?_) (.inl (.inr ⟨{cls:=.type "list",data:=.seq vs.toArray},if_pos rfl⟩)) (λb u z=>?_) (λb z=>?_) λ_=>hk
  ·by_cases hb:b=a
   ·exact .inr ⟨_,_,if_pos hb⟩
   ·exact .inl (if_neg hb)
  ·by_cases hb:b=a
   ·have z':=(if_pos hb).symm.trans z;cases z';subst hb;exact ⟨ha,by rw [So];exact hl,vs,_,rv,ha⟩
   ·have z':=(if_neg hb).symm.trans z;cases z'
  ·by_cases hb:b=a
   ·exact hb
   ·exact absurd (if_neg hb) z
abbrev PY {K:Sk}{h:Uo}(_:K.In h):Sk:=K
theorem Kh {l:Zq}{XP:(Str->Option Sl)->Uo->Prop}{YP:S9->Uo->Prop}{d:DefRec}{K:adt->Sk}{CX:S9->qm}{sp:S9->Sp}
 (hn:l.most=some n) (hn2:n<=sizeLine) (hdf:d.params.defaults=[]) (hr:cO k aaJ)
 (hY:∀(w:S9) (h:Uo),YP w h->(K w.params).In h)
 (F:∀(w:S9) (mg:Str->Option Sl) (fa:SM) (h:Uo),(K w.params).In h->h.Ns SY mg->mg d.name=some (.ref fa)->
 ∃fd:Tj,(∀(s:Sn) (u:Sl),abq s fd ⟨[u],[]⟩ [(x,u)])/\
 ∀base:Uo,(K w.params).In base->base.Ns SY mg->eT l.prog w (K w.params) mg base (CX w) k fa fd [x] (sp w))
 (QG:∀(w:S9) (H:Hp) (a:SM) (ns:List Int),ns.length<=n->AQ H->cQ (K w.params) H a (ns.map V.int)->sp w [.ref a] H (λv _=>v=.bl true) λ_ _ _=>False)
 (Rb:∀(w:S9) (H:Hp) (s:Sn) (e:Sl) (s':Sn),CX w [] H s (λ_ _ _=>False) e s'->False):
  acu q loose XP YP l.row.toRowW d [] (λf vs=>acd f vs):=by refine Att.yP hn hdf λw s₀ s₁ mg mb fa o pm cd doc a vs ns G Y ho hd hcd hmg hobj hints hlen hg=>?_;have KX:=hY w _ Y;obtain ⟨fd,hb,hF⟩:=F w mg fa _ KX G.T.g hmg;exact FI KX G.T.g G.T.b G.T.builtins G.T.nolimit hg hobj hints (Tw hlen hn2) hr hF hb (λH hO hS=>QG w H a ns hlen hO hS) λH e s'=>Rb w H s₁ e s'
abbrev jI:qm:=λ_ _ _ _ _ _=>False
abbrev E0:XK:=λ_ _ _=>False
theorem Hu:Passes jI X E0:=λ_ _ _ _ _ _ _ h=>h.elim
structure gg (K:Sk) (x Sf:Str) (st:VQ) (f:SM) (fd:Tj):Prop where
 ex:∃(oc:Sl) (od:Option SM) (kV doc pm:Sl) (an:Option SM) (cdv ct:Sl) (osl:Array (Option Sl)),
  fd=Tp x Sf (cB st) (bB st) (aJ st) .none kV doc pm an cdv ct/\K.lookup f=some ⟨oc,od,.func fd,osl⟩/\Vo K cdv Sf=true
 kp:T4 K (.ref f)=true
section
variable {P:SK}{w:S9}{K:Sk}{mg:Str->Option Sl}{base:Uo}
theorem gg.ok {st:VQ}{N ps:List Str}{sp:Sp}(F:gg K x Sf st f fd) (S:cS N ps (aJ st)) (len:∀vs H Q E,sp vs H Q E->vs.length=ps.length)
 (hbody:∀(cdv:Sl) (A:Te) (outer:List Env) (s:Sn) (H:Hp) (vs:List V) (Q:VK) (E:XK),cO k (A.deeper (W3 Sf (aJ st) s.heap.objs.size f cdv))->sp vs H Q E->
 ∃t,iI (nj jI P w K mg base N Sf (aJ st) f cdv A outer s H E).nox (bB st) t/\t {nx:=λ_ H'=>Q .non H',rt:=Q} (start N vs) H):eT P w K mg base jI (k + 1) f fd ps sp:=by obtain ⟨oc,od,kV,doc,pm,an,cdv,ct,osl,rfl,lk,hcd⟩:=F.ex;refine G_ lk hcd S len λA outer s H vs Q E hr QG=>?_;obtain ⟨t,h,q⟩:=hbody cdv A outer s H vs Q E hr QG;exact ⟨t,h.nox,q⟩
theorem gg.binds {st:VQ}{ps:List Str}(F:gg K x Sf st f fd)
 (h:∀(kV doc pm:Sl) (an:Option SM) (cdv ct:Sl) (us:List Sl),us.length=ps.length->Xj (Tp x Sf (cB st) (bB st) (aJ st) .none kV doc pm an cdv ct) ⟨us,[]⟩=pure (ps.zip us)):Binds K fd ps []:=by obtain ⟨oc,od,kV,doc,pm,an,cdv,ct,osl,rfl,lk,hcd⟩:=F.ex;exact .all (h kV doc pm an cdv ct)
theorem xw {st:VQ}{kV doc pm cdv ct:Sl}(l:K.lookup f=some ⟨oc,od,.func (Tp x Sf (cB st) (bB st) (aJ st) .none kV doc pm an cdv ct),osl⟩)
 (c:Vo K cdv Sf=true) (k:T4 K (.ref f)=true):gg K x Sf st f (Tp x Sf (cB st) (bB st) (aJ st) .none kV doc pm an cdv ct):=⟨⟨oc,od,kV,doc,pm,an,cdv,ct,osl,rfl,l,c⟩,k⟩
end
theorem Lx {A B:Prop}(h:B):if false=true then A else B:=by rw [if_neg TH];exact h
theorem Ly {A B:Prop}(h:A):if true=true then A else B:=by rw [if_pos rfl];exact h
def aW (H H':Hp):Prop:=∀b o,H b=some o->H' b=some o
theorem aW.refl (H:Hp):aW H H:=λ_ _ h=>h
theorem aW.trans {H H1 H2:Hp}(a:aW H H1) (b:aW H1 H2):aW H H2:=λc o h=>b c o (a c o h)
theorem aW.free {H H':Hp}(e:aW H H') (h:H' l=adi):H l=adi:=by
 cases q:H l with
 | none=>rfl
 | some o=>
  rw [e l o q] at h;cases h
theorem aW.seq {K:Sk}{H H':Hp}{a:SM}{xs:List V}(e:aW H H') (h:cQ K H a xs):cQ K H' a xs:=by
 rcases h with (h | ⟨o,h⟩) | h
 ·exact .inl (.inl (e _ _ h))
 ·exact .inl (.inr ⟨o,e _ _ h⟩)
 ·exact .inr h
end L2
namespace DX
open PySem PySem.Spec
open Sem (wp)
abbrev Pq (C t:SM) (dx:Option SM):Obj:={cls:=.ref C,dict:=dx,data:=.fields #[.ref t,.none,.none,.none,.bool false,.none]}
end DX
namespace DX
open PySem PySem.Spec
section
variable {M:abS}{A:Te}{E:Sl->Sn->Prop}{s:Sn}
noncomputable def Ph (e C:SM) (dx:Option SM) (T:SM) (h:Uo):Prop:=
 ∃oe vs oT ts v,h.get? e=some oe/\oe.cls=.ref C/\oe.dict=dx/\oe.data=.fields vs/\vs[1]?=some (.ref T)/\T≠e/\h.get? T=some oT/\oT.data=.fields ts/\ts[3]?=some v
end
end DX
namespace DX
open PySem PySem.Spec PyProof.Rows L2
def M3 (a C:SM) (dx:Option SM):Uo->Prop:=λh=>∃oe vs,h.get? a=some oe/\oe.cls=.ref C/\oe.dict=dx/\oe.data=.fields vs
abbrev XO (a C:SM) (dx:Option SM):HO:=.ext (M3 a C dx)
noncomputable def Fl (e C:SM) (dx:Option SM):Option SM->Uo->Prop
 | none,h=>∃t,h.get? e=some (Pq C t dx)
 | some T,h=>Ph e C dx T h
structure Oo (P:SK) (w:S9) (fs ex:List SM) (H:Hp) (s:Sn) (E:XK) (e C:SM) (dx To:Option SM) (H':Hp) (s':Sn):Prop where
 os:s'.os=s.os
 bare:YO s'.gens
 un:Un fs ex H H' s.heap s'.heap
 hok:eY P w H' s'.heap
 fl:Fl e C dx To s'.heap
 newE:s.heap.objs.size<=e
 newT:∀T∈To.toList,s.heap.objs.size<=T
 Ez:H' e=some (XO e C dx)
 free:∀T∈To.toList,H' T=none
 wish:E (.ref e) dx H'
def ur (P:SK) (w:S9):qm:=λouter H s E v s'=>∃e C dx T H',v=.ref e/\Oo P w (frs outer) [] H s E e C dx (some T) H' s'
end DX
namespace DX
open PySem PySem.Spec PyProof.Rows
open Sem (wp)
section
variable {prog:SK}{w:S9}{A:Te}{E:Sl->Sn->Prop}{s:Sn}{K:Sk}{x C:SM}{ox:Obj}{od:Option Obj}{name:Str}
theorem E5 {M:abS}{Q:Unit->Sn->Prop}(X:K.In s.heap) (I:V6 s.heap x ox C od) (hm:Vb K C (.type "BaseException")=some true) (hq:Q () s):SO M A (Xv "BaseException.__getattribute__" ⟨[.ref x,nameV],[]⟩) Q E s:=by
 have hk:builtinKind "BaseException.__getattribute__"=some .slot:=by decide +kernel
 have QG:splitId "BaseException.__getattribute__"=some ("BaseException","__getattribute__"):=by decide +kernel
 have ha:=F.args_bexc_ga (.ref x) nameV;have L1:=I.type (M:=M);have L2:=W.looks_mroIn (M:=M) X hm;simp only [Xv,hk,QG];have L:W.Looks M s.heap (isInstance (.ref x) (.type "BaseException")) true:=L1.andThen L2;refine Sj (L.here ?_);obtain ⟨h,g,d,t,os⟩:=s
 repeat (any_goals (first | assumption | wp_step))
theorem entry_class {Q:Fin->Sn->Prop}(X:K.In s.heap) (I:V6 s.heap x ox C od) (hf:X4 K C od "__class__"=some (.bind (.builtin "getset_descriptor.__get__") (.builtin "object.__class__"))) (hm:Vb K C (.type "object")=some true) (h:Q (.done (.ret (.ref C))) s):
  SO (SX prog w) A (Xc.«object.__getattribute__» ⟨[.ref x,.str "__class__" tk],[]⟩) Q E s:=by obtain ⟨hh,g,d,t,os⟩:=s;have L0:=I.type (M:=SX prog w);have L1:=W.looks_find (M:=SX prog w) X I hf;refine Sj (Sm (Sj (Sm (Sj (L0.at (Sj (L1.at ?_)))))));show SO _ _ (holding [_] (call _ [_,.ref x,.ref C]) >>= ret) _ _ _;exact Sj (Tt (YB (W.class_get (ox:=ox) (od:=od) X I hm (Sm h))))
theorem Ll {tk:Tok}{fill expr:Bool}{Q:Sl->Sn->Prop}(X:K.In s.heap) (I:V6 s.heap x ox C od) (hga:S7 K (.ref C) "__getattribute__"=some (some (.builtin "BaseException.__getattribute__"))) (hgt:S7 K (.ref C) "__getattr__"=some none)
  (h:U3 (SX prog w) A (.call (.builtin "BaseException.__getattribute__") ⟨[.ref x,.str name tk],[]⟩) (λr s'=>match r with | .ok (.ret v)=>SO (SX prog w) A (handedOut v) Q E s' | _=>False) s):SO (SX prog w) A (getAttrBy (.ref x) (.str name tk) fill expr) Q E s:=by
 obtain ⟨hh,g,d,t,os⟩:=s;have L0:=I.type (M:=SX prog w);have L1:=XC (M:=SX prog w) X hga;have L2:=XC (M:=SX prog w) X hgt;have QH:(aas "BaseException.__getattribute__" == aas "object.__getattribute__")=false:=by decide +kernel
 unfold getAttrBy;refine Tt (Sj (L0.at (Sj (L1.at ?_))));dsimp only;rw [QH,Xk,if_neg (by decide)];unfold getAttrByItsOwn;refine Sj (L2.at ?_);have h0:(expr && onTheHeap (aas "BaseException.__getattribute__"))=false:=by cases expr <;> rfl
 refine Sj (WO (Tt ?_));unfold callGetattribute;rw [h0,if_neg (by decide)];unfold boundAndCalled;rw [X5.ga.bind (.ref x)];refine Sj (Sm (YB (VG h λr s' q=>?_)))
 match r,q with
 | .ok (.ret v),q=>exact q
theorem get_class {Q:Option Sl->Sn->Prop}(X:K.In s.heap) (I:V6 s.heap x ox C od) (hga:S7 K (.ref C) "__getattribute__"=some (some (.builtin "BaseException.__getattribute__"))) (hgt:S7 K (.ref C) "__getattr__"=some none)
  (hm:Vb K C (.type "BaseException")=some true) (hf:X4 K C od "__class__"=some (.bind (.builtin "getset_descriptor.__get__") (.builtin "object.__class__"))) (ho:Vb K C (.type "object")=some true) (h:Q (some (.ref C)) {s with toks:=s.toks + 1}):
  SO (SX prog w) A (getAttr? (.ref x) "__class__") Q E s:=by obtain ⟨hp,g,d,t,os⟩:=s;unfold getAttr? getAttrBy?;refine Sj (wpAny_mkText (Sj (WO (Ll (s:=⟨hp,g,d,t + 1,os⟩) X I hga hgt ?_))));refine XD X5.ga.plain F.entry_bexc_ga (E5 (s:=⟨hp,g,d,t + 1,os⟩) X I hm (entry_class (s:=⟨hp,g,d,t + 1,os⟩) X I hf ho ?_));exact Sm (Sm h)
end
end DX
namespace DX
open PySem PySem.Spec PyProof.Rows L2
abbrev nZ:List Sl:=[.type "ValueError",.type "Exception",.type "BaseException",.type "object"]
def quiet:List Str:=["__init__","__setattr__","name","letter","many","told","point","row"]
def MN (es:Array Zg):Bool:=es.toList.all λe=>match e.key with | .str _ _=>true | _=>false
theorem Nn {K:Sk}(l:K.lookup N=some ⟨c,d,.dict es ep,sl⟩) (hk:MN es=true){h:Uo}(X:K.In h):h.Ns N (nsFind es):=by
 refine ⟨_,es,ep,X _ _ l,rfl,λe he=>?_,λ_=>rfl⟩;have:=TU.mp hk e (by simpa using he);cases q:e.key with
 | str n t=>exact ⟨n,t,rfl⟩
 | _=>rw [q] at this;cases this
structure GX (K:Sk) (P:SM):Prop where
 gt:Wk K (.builtin "object.__class__") "__get__"=some (some (.builtin "getset_descriptor.__get__"))
 tk:WQ K (.builtin "object.__class__")=some true
 lk:∃nm q N bs sn sub ab col dd k0 k1 k2 k3 k5,K.lookup P=some (Z6 nm q P N bs nZ true sn sub ab col dd k0 k1 k2 k3 k5 "ValueError.__new__")/\∀h,K.In h->∃m,h.Ns N m/\∀n∈quiet,m n=none
structure XE (K:Sk) (P C:SM):Prop where
 lk:∃nm q N bs sn sub ab col dd k0 k1 k2 k3 k5,K.lookup C=some (Z6 nm q C N bs (.ref P::nZ) true sn sub ab col dd k0 k1 k2 k3 k5 "ValueError.__new__")
 ga:S7 K (.ref C) "__getattribute__"=some (some (.builtin "BaseException.__getattribute__"))
 gt:S7 K (.ref C) "__getattr__"=some none
 cl:S7 K (.ref C) "__class__"=some (some (.builtin "object.__class__"))
section
variable {K:Sk}{P C:SM}
theorem CJ (X:XE K P C):∃cd,Wl K C=some cd/\cd.mro=.ref C::.ref P::nZ/\cd.hasDict=true/\abU K (.ref C)=some (.type "type"):=by
 obtain ⟨nm,q,N,bs,sn,sub,ab,col,dd,k0,k1,k2,k3,k5,l⟩:=X.lk;have h1:Wl K C=some {name:=nm,bases:=bs,mro:=.ref C::.ref P::nZ,ns:=N,qualname:=q,hasDict:=true,slotNames:=sn,subclasses:=sub,abstract:=ab,collection:=col,hasDel:=false}:=by unfold Wl;rw [l]
 refine ⟨_,h1,rfl,rfl,?_⟩;show (K.lookup C).map (·.cls)=_;rw [l];rfl
theorem xW (X:XE K P C) (b:Sl):Vb K C b=some ((Vi C::.ref P::nZ).contains b):=by obtain ⟨cd,h1,h2,_⟩:=CJ X;unfold Vb;rw [h1,Xw,h2];rfl
end
theorem LG {K:Sk}{P C:SM}(X:XE K P C){T:String}(h1:Zr T=true) (h2:nZ.contains (.type T)=false):Xl K (.ref C) (.type T)=some false:=by unfold Xl abW;rw [if_neg (by simp)];simp only [h1,if_true];show Vb K C _=_;rw [xW X,Yl,Yl,h2];rfl
theorem IB {K:Sk}{C:SM}{od:Option Obj}{name:Str}{a g:Sl}(hc:(Wl K C).isSome=true) (ha:S7 K (.ref C) name=some (some a)) (hg:Wk K a "__get__"=some (some g)) (ht:WQ K a=some true):X4 K C od name=some (.bind g a):=by obtain ⟨cd,hc⟩:=Tr.mp hc;unfold X4;rw [hc,Xw,ha,Xw];simp [hg,ht]
theorem FG {K:Sk}{e P C:SM}(G:GX K P) (E:XE K P C):W.KitX K (.ref e) (.ref C) (λh=>∃ox od,V6 h e ox C od):=by
 obtain ⟨cd,hc,hm,hd,ht⟩:=CJ E;refine ⟨λM h _ ⟨ox,od,I⟩=>I.type,λM h X _=>?_,λh tp dd Sb n sl X htp=>?_,λX ⟨ox,od,I⟩ k=>?_⟩
 ·unfold Wl at hc;split at hc
  ·rename_i ho;intro A' Q' E' s' k q;unfold isType loadHead;exact Sj (abT (k _ _ (X _ _ ho)) (Sm q))
  ·cases hc
 ·refine aaK.mpr λq=>?_;obtain rfl:C=tp:=adW (beq_iff_eq.mp q);unfold Wl at hc;split at hc
  ·rename_i ho;have z:=(X _ _ ho).symm.trans htp;cases z
  ·cases hc
 ·exact get_class X I E.ga E.gt (by rw [xW E];simp) (IB (by rw [hc];rfl) E.cl G.gt G.tk) (by rw [xW E];simp) k
end DX
namespace DL
open PySem PySem.Spec PyProof.Rows L2
inductive Kd where
 | txt (ss:List Str) | ins (cls:Str) (ns:List Str) | mem (dom:List (List Int)) (f:List Int->Bool)
inductive D where
 | non | bl (b:Bool) | int (i:Int) | str (x:Str) | tup (xs:List D) | lst (xs:List D) | emp
 | exn (cls:Str) (ns:List Str) (ds:List D)
  | dct (ks vs:List D)
  | ob (k:Kd) (xs:List D)
mutual
noncomputable def isKey:D->Bool
 | .int _=>true
 | .tup xs=>areKeys xs
 | _=>false
noncomputable def areKeys:List D->Bool
 | []=>true
 | x::xs=>isKey x && areKeys xs
end
mutual
noncomputable def Na:D->Int
 | .int i=>hashInt i
 | .tup xs=>reduceHash (abX (rA xs))
 | _=>0
noncomputable def rA:List D->List Int
 | []=>[]
 | x::xs=>Na x::rA xs
end
mutual
noncomputable def dep:D->Nat
 | .tup xs=>deps xs + 1
 | .lst xs=>deps xs + 1
 | .emp=>5000
 | .exn _ _ _=>5000
 | .dct _ _=>5000
 | .ob _ _=>5000
 | _=>0
noncomputable def deps:List D->Nat
 | []=>0
 | x::xs=>max (dep x) (deps xs)
end
structure Ky (ks:List D):Prop where
 key:areKeys ks=true
 nd:ks.Nodup
 dp:deps ks<=8
 tp:∀k∈ks,∃xs,k=.tup xs
def Kw (p:Int×V×V) (e:Zg):Prop:=e.hash=p.1/\RelV p.2.1 e.key/\RelV p.2.2 e.val
abbrev G7 (a:SM) (ep:Nat) (Sh:List (Int×V×V)):HO:=.ext λh=>∃o es,h.get? a=some o/\o.ExactDict/\o.data=.dict es ep/\Yx Kw Sh es.toList
noncomputable def XF (J:Hp) (dx:Option SM) (ns:List Str) (vs:List V):Prop:=(dx=none/\ns=[]/\vs=[])\/∃d,dx=some d/\ns.length=vs.length/\J d=some (.xd (ns.zip vs))
theorem XF.mono {J J':Hp}(e:aW J J') (h:XF J dx ns vs):XF J' dx ns vs:=by
 rcases h with h | ⟨d,h1,h2,h3⟩
 ·exact .inl h
 ·exact .inr ⟨d,h1,h2,e _ _ h3⟩
structure m_ (K:Sk) (C:SM):Prop where
 cl:L2.oO K C
 ha:S7 K (.ref C) "__class__"=some (some (.builtin "object.__class__"))
 hn:Wk K (.builtin "object.__class__") "__get__"=some (some (.builtin "getset_descriptor.__get__"))
 htk:WQ K (.builtin "object.__class__")=some true
 hm:Vb K C (.type "object")=some true
 no:∀T,Zr T=true->DX.nZ.contains (.type T)=false->Xl K (.ref C) (.type T)=some false
noncomputable def wA (K:Sk) (H:Hp) (a:SM) (vs:List V):Kd->Prop
 | .txt ss=>ss.length=vs.length/\H a=some (.dK ((ss.map Wb).zip vs))/\(a == T9)=false
 | .ins cls ns=>∃C dx,S8 K SY cls=some (some (.ref C))/\m_ K C/\ns.length=vs.length/\H a=some (.ins C dx (ns.zip vs))
 | .mem dom f=>vs=[]/\H a=some (.memo dom f)
theorem wA.mono {K:Sk}{H H':Hp}{a:SM}{vs:List V}(e:∀o,H a=some o->H' a=some o):∀{k:Kd},wA K H a vs k->wA K H' a vs k
 | .txt _,⟨h1,h2,h3⟩=>⟨h1,e _ h2,h3⟩
 | .ins _ _,⟨C,dx,h1,h2,h3,h4⟩=>⟨C,dx,h1,h2,h3,e _ h4⟩
 | .mem _ _,⟨h1,h2⟩=>⟨h1,e _ h2⟩
theorem wA.some {K:Sk}{H:Hp}{a:SM}{vs:List V}:∀{k:Kd},wA K H a vs k->∃o,H a=some o
 | .txt _,⟨_,h2,_⟩=>⟨_,h2⟩
 | .ins _ _,⟨_,_,_,_,_,h3⟩=>⟨_,h3⟩
 | .mem _ _,⟨_,h2⟩=>⟨_,h2⟩
mutual
inductive Rep (K:Sk) (J:Hp):D->V->Prop
 | non:Rep K J .non .non
 | bl (b:Bool):Rep K J (.bl b) (.bl b)
 | int (i:Int):Rep K J (.int i) (.int i)
 | str (x:Str):Rep K J (.str x) (.str x)
 | emp {a:SM}:J a=some (.dK [])->Rep K J .emp (.ref a)
 | tup {a:SM}{vs:List V}{ds:List D}:d8 K J a vs->aL K J ds vs->Rep K J (.tup ds) (.ref a)
 | lst {a:SM}{vs:List V}{ds:List D}:cQ K J a vs->aL K J ds vs->Rep K J (.lst ds) (.ref a)
 | exn {a C:SM}{dx:Option SM}{cls:Str}{ns:List Str}{vs:List V}{ds:List D}:J a=some (DX.XO a C dx)->S8 K SY cls=some (some (.ref C))->XF J dx ns vs->aL K J ds vs->(∃P,DX.GX K P/\DX.XE K P C)->Rep K J (.exn cls ns ds) (.ref a)
 | dct {a:SM}{ep:Nat}{ks vs:List D}{us ws:List V}:J a=some (G7 a ep ((rA ks).zip (us.zip ws)))->aL K J ks us->aL K J vs ws->Ky ks->(a == T9)=false/\ks.length=vs.length->Rep K J (.dct ks vs) (.ref a)
 | ob {a:SM}{k:Kd}{xs:List D}{vs:List V}:wA K J a vs k->aL K J xs vs->Rep K J (.ob k xs) (.ref a)
inductive aL (K:Sk) (J:Hp):List D->List V->Prop
 | nil:aL K J [] []
 | cons {d:D}{v:V}{ds:List D}{vs:List V}:Rep K J d v->aL K J ds vs->aL K J (d::ds) (v::vs)
end
theorem f_ {K:Sk}{H H':Hp}{a:SM}{xs:List V}(e:aW H H') (h:d8 K H a xs):d8 K H' a xs:=by
 rcases h with (h | ⟨o,h⟩) | h
 ·exact .inl (.inl (e _ _ h))
 ·exact .inl (.inr ⟨o,e _ _ h⟩)
 ·exact .inr h
mutual
theorem Rep.mono {K:Sk}{J J':Hp}(e:aW J J'):∀{d:D}{v:V},Rep K J d v->Rep K J' d v
 | _,_,.non=>.non
 | _,_,.bl b=>.bl b
 | _,_,.int i=>.int i
 | _,_,.str x=>.str x
 | _,_,.emp h=>.emp (e _ _ h)
 | _,_,.tup h hs=>.tup (f_ e h) (aL.mono e hs)
 | _,_,.lst h hs=>.lst (e.seq h) (aL.mono e hs)
 | _,_,.exn h1 h2 h3 hs hx=>.exn (e _ _ h1) h2 (h3.mono e) (aL.mono e hs) hx
 | _,_,.dct h h1 h2 h3 h4=>.dct (e _ _ h) (aL.mono e h1) (aL.mono e h2) h3 h4
 | _,_,.ob h hs=>.ob (h.mono (e _)) (aL.mono e hs)
theorem aL.mono {K:Sk}{J J':Hp}(e:aW J J'):∀{ds:List D}{vs:List V},aL K J ds vs->aL K J' ds vs
 | _,_,.nil=>.nil
 | _,_,.cons h hs=>.cons (Rep.mono e h) (aL.mono e hs)
end
section
variable {K:Sk}{J:Hp}
theorem aL.length:∀{ds:List D}{vs:List V},aL K J ds vs->ds.length=vs.length
 | _,_,.nil=>rfl
 | _,_,.cons _ hs=>congrArg (· + 1) (aL.length hs)
theorem aL.get:∀{ds:List D}{vs:List V}{i:Nat}{d:D},aL K J ds vs->ds[i]?=some d->∃v,vs[i]?=some v/\Rep K J d v
 | _,_,_,_,.nil,e=>by simp at e
 | _,_,0,_,.cons r _,e=>by simp at e;subst e;exact ⟨_,rfl,r⟩
 | _,_,i + 1,d,.cons _ t,e=>by obtain ⟨v,h1,h2⟩:=aL.get (i:=i) (d:=d) t (by simpa using e);exact ⟨v,by simpa using h1,h2⟩
theorem aL.append:∀{ds es:List D}{vs us:List V},aL K J ds vs->aL K J es us->aL K J (ds++es) (vs++us)
 | _,_,_,_,.nil,s=>s
 | _,_,_,_,.cons r t,s=>.cons r (aL.append t s)
theorem aL.take:∀{ds:List D}{vs:List V}(n:Nat),aL K J ds vs->aL K J (ds.take n) (vs.take n)
 | _,_,0,_=>.nil
 | _,_,_ + 1,.nil=>.nil
 | _,_,n + 1,.cons r t=>.cons r (aL.take n t)
theorem aL.drop:∀{ds:List D}{vs:List V}(n:Nat),aL K J ds vs->aL K J (ds.drop n) (vs.drop n)
 | _,_,0,r=>r
 | _,_,_ + 1,.nil=>.nil
 | _,_,n + 1,.cons _ t=>aL.drop n t
end
noncomputable def gJ (K:Sk) (J H:Hp) (a:SM) (ks vs:List D):Prop:=∃us ws ep,H a=some (G7 a ep ((rA ks).zip (us.zip ws)))/\aL K J ks us/\aL K J vs ws/\Ky ks/\(a == T9)=false/\ks.length=vs.length
theorem gJ.mono {K:Sk}{J J' H H':Hp}{a:SM}{ks vs:List D}(e:aW J J') (e':aW H H'):gJ K J H a ks vs->gJ K J' H' a ks vs
 | ⟨us,ws,ep,h1,h2,h3,h4⟩=>⟨us,ws,ep,e' _ _ h1,h2.mono e,h3.mono e,h4⟩
theorem gJ.ne {K:Sk}{J H:Hp}{a:SM}{ks vs:List D}:gJ K J H a ks vs->H a≠none
 | ⟨us,ws,ep,h1,_⟩=>by rw [h1];intro z;cases z
theorem gJ.rep {K:Sk}{J H:Hp}{a:SM}{ks vs:List D}(e:aW J H):gJ K J H a ks vs->Rep K H (.dct ks vs) (.ref a)
 | ⟨us,ws,ep,h1,h2,h3,h4,h5⟩=>.dct h1 (h2.mono e) (h3.mono e) h4 h5
def g8 (K:Sk) (J H:Hp) (a:SM) (k:Kd) (xs:List D):Prop:=∃vs,wA K H a vs k/\aL K J xs vs
theorem g8.mono {K:Sk}{J J' H H':Hp}{a:SM}{k:Kd}{xs:List D}(e:aW J J') (e':aW H H'):g8 K J H a k xs->g8 K J' H' a k xs
 | ⟨vs,h1,h2⟩=>⟨vs,h1.mono (e' _),h2.mono e⟩
theorem g8.ne {K:Sk}{J H:Hp}{a:SM}{k:Kd}{xs:List D}:g8 K J H a k xs->H a≠none
 | ⟨vs,h1,_⟩=>by obtain ⟨o,h⟩:=h1.some;rw [h];intro z;cases z
noncomputable def NR (K:Sk) (J:Hp) (P:SM->Prop):List D->List V->Prop
 | [],vs=>vs=[]
 | x::xs,vs=>∃ds b ws us,x=.lst ds/\vs=.ref b::us/\J b=some (.lst ws)/\aL K J ds ws/\P b/\V.ref b∉us/\NR K J P xs us
theorem NR.mono {K:Sk}{J J':Hp}{P P':SM->Prop}(e:aW J J') (k:∀b,P b->P' b):∀{xs:List D}{vs:List V},NR K J P xs vs->NR K J' P' xs vs
 | [],_,h=>h
 | _::_,_,⟨ds,b,ws,us,h1,h2,h3,h4,h5,h6,h7⟩=>⟨ds,b,ws,us,h1,h2,e _ _ h3,h4.mono e,k b h5,h6,h7.mono e k⟩
theorem NR.reps {K:Sk}{J:Hp}{P:SM->Prop}:∀{xs:List D}{vs:List V},NR K J P xs vs->aL K J xs vs
 | [],_,h=>by cases h;exact .nil
 | _::_,_,⟨ds,b,ws,us,h1,h2,h3,h4,h5,h6,h7⟩=>by subst h1;subst h2;exact .cons (.lst (.inl (.inl h3)) h4) h7.reps
theorem NR.mem {K:Sk}{J:Hp}{P:SM->Prop}:∀{xs:List D}{vs:List V}{u:V},NR K J P xs vs->u∈vs->∃b ws,u=.ref b/\J b=some (.lst ws)/\P b
 | [],_,_,h,m=>by cases h;cases m
 | _::_,_,_,⟨ds,b,ws,us,h1,h2,h3,h4,h5,h6,h7⟩,m=>by
  subst h2;rcases SN.mp m with e | e
  ·exact ⟨b,ws,e,h3,h5⟩
  ·exact h7.mem e
structure Exc where
 cls:Str
 ns:List Str
 ds:List D
inductive M (α:Type) where
 | bad | ok (a:α) | exc (x:Exc)
noncomputable def M.bind {α β:Type}:M α->(α->M β)->M β
 | .bad,_=>.bad
 | .ok a,f=>f a
 | .exc x,_=>.exc x
instance:Monad M where
 pure:=M.ok
 bind:=M.bind
@[simp] theorem aK {α β:Type}(a:α) (f:α->M β):(M.ok a >>= f)=f a:=rfl
noncomputable def cH {α:Type}(m:M α) (Q:α->Prop) (T:Exc->Prop):Prop:=match m with
 | .bad=>False
 | .ok a=>Q a
 | .exc x=>T x
theorem aG {α β:Type}{m:M α}{f:α->M β}{Q:β->Prop}{T:Exc->Prop}(h:cH (m >>= f) Q T):cH m (λa=>cH (f a) Q T) T:=by
 cases m with
 | bad=>exact h
 | ok a=>exact h
 | exc x=>exact h
theorem aC {α:Type}{m:M α}{Q Q':α->Prop}{T:Exc->Prop}(h:cH m Q T) (k:∀a,Q a->Q' a):cH m Q' T:=by
 cases m with
 | bad=>exact h
 | ok a=>exact k a h
 | exc x=>exact h
inductive Md where
 | fresh | own | bor
inductive R where
 | d (x:D) | l (m:Md) (xs:List D)
  | mo (ks vs:List D) | mb (ks vs:List D) | mf (ks vs:List D)
  | o (m:Md) (k:Kd) (xs:List D)
  | ln (xs:List D)
inductive S where
 | d (x:D) | own (xs:List D) | bor (xs:List D) | dk (ks vs:List D) | db (ks vs:List D)
  | fn (x:Str)
  | ow2 (xs:List D)
  | tn (xs:List D)
  | oo (k:Kd) (xs:List D) | ob (k:Kd) (xs:List D)
abbrev Ev:=List (Option S)
inductive Mn where
 | inl (xs:List D) | inr (p:List D×List D) | nst (xs:List D) | oo (k:Kd) (xs:List D)
noncomputable def mS:Mn->S
 | .inl xs=>.own xs
 | .inr p=>.dk p.1 p.2
 | .nst xs=>.ow2 xs
 | .oo k xs=>.oo k xs
structure C where
 K:Sk
 H0:Hp
 J0:Hp
 T:Exc->Prop
structure HI (c:C) (J H:Hp):Prop where
 sub:aW J H
 ent:aW c.H0 H
 entJ:aW c.J0 J
 frz:∀a,c.H0 a≠none->c.J0 a=none->J a=none
structure Ext (J H J' H':Hp):Prop where
 h:aW H H'
 j:aW J J'
 sub:aW J' H'
 frz:∀a,H a≠none->J a=none->J' a=none
theorem aW.ne {H H':Hp}(e:aW H H') (h:H a≠none):H' a≠none:=by
 cases q:H a with
 | none=>exact absurd q h
 | some o=>rw [e a o q];intro z;cases z
theorem Ext.refl {J H:Hp}(h:aW J H):Ext J H J H:=⟨aW.refl H,aW.refl J,h,λ_ _ q=>q⟩
theorem Ext.trans {J H J1 H1 J2 H2:Hp}(a:Ext J H J1 H1) (b:Ext J1 H1 J2 H2):Ext J H J2 H2:=
 ⟨a.h.trans b.h,a.j.trans b.j,b.sub,λp h q=>b.frz p (aW.ne a.h h) (a.frz p h q)⟩
theorem HI.ext {J H J' H':Hp}(h:HI c J H) (e:Ext J H J' H'):HI c J' H':=
 ⟨e.sub,h.ent.trans e.h,h.entJ.trans e.j,λa h0 j0=>e.frz a (aW.ne h.ent h0) (h.frz a h0 j0)⟩
theorem cW {H:Hp}(h:H p=none) (o:HO):aW H (upd H p o):=λb u q=>by rw [a_ (fJ q h)];exact q
theorem Ext.new {J H:Hp}(h:aW J H) (e:H p=none) (o:HO):Ext J H J (upd H p o):=
 ⟨cW e o,aW.refl J,λb u q=>cW e o b u (h b u q),λ_ _ q=>q⟩
theorem Ext.newJ {J H:Hp}(h:aW J H) (e:H p=none) (o:HO):Ext J H (upd J p o) (upd H p o):=
 ⟨cW e o,cW (h.free e) o,λb u q=>by
  by_cases hb:b=p
  ·subst hb;rw [bD] at q ⊢;exact q
  ·rw [a_ hb] at q ⊢;exact h b u q,λa ha q=>by
  have:a≠p:=λz=>ha (z▸e);rw [a_ this];exact q⟩
noncomputable def pP (c:C) (J H:Hp):S->V->Prop
 | .d x,v=>Rep c.K J x v
 | .own xs,v=>∃a vs,v=.ref a/\H a=some (.lst vs)/\J a=none/\c.H0 a=none/\aL c.K J xs vs
 | .bor xs,v=>∃a vs,v=.ref a/\cQ c.K c.H0 a vs/\aL c.K J xs vs
 | .dk ks vs,v=>∃a,v=.ref a/\gJ c.K J H a ks vs/\J a=none/\c.H0 a=none
 | .db ks vs,v=>∃a,v=.ref a/\gJ c.K J c.H0 a ks vs
 | .fn x,v=>∃f,v=.ref f/\S8 c.K SY x=some (some (.ref f))
 | .ow2 xs,v=>∃a vs,v=.ref a/\H a=some (.lst vs)/\J a=none/\c.H0 a=none/\NR c.K J (λb=>c.H0 b=none/\c.J0 b=none) xs vs
 | .tn xs,v=>∃a vs,v=.ref a/\d8 c.K J a vs/\NR c.K J (λb=>c.H0 b=none/\c.J0 b=none) xs vs
 | .oo k xs,v=>∃a,v=.ref a/\g8 c.K J H a k xs/\J a=none/\c.H0 a=none
 | .ob k xs,v=>∃a,v=.ref a/\g8 c.K J c.H0 a k xs
theorem pP.ext {c:C}{J H J' H':Hp}(e:Ext J H J' H'):∀{x:S}{v:V},pP c J H x v->pP c J' H' x v
 | .d x,v,h=>Rep.mono e.j h
 | .own xs,v,⟨a,vs,h1,h2,h3,h4,h5⟩=>⟨a,vs,h1,e.h _ _ h2,e.frz a (by rw [h2];intro z;cases z) h3,h4,aL.mono e.j h5⟩
 | .bor xs,v,⟨a,vs,h1,h2,h3⟩=>⟨a,vs,h1,h2,aL.mono e.j h3⟩
 | .dk _ _,v,⟨a,h1,h2,h3,h4⟩=>⟨a,h1,h2.mono e.j e.h,e.frz a h2.ne h3,h4⟩
 | .db _ _,v,⟨a,h1,h2⟩=>⟨a,h1,h2.mono e.j (aW.refl _)⟩
 | .fn _,v,h=>h
 | .ow2 _,v,⟨a,vs,h1,h2,h3,h4,h5⟩=>⟨a,vs,h1,e.h _ _ h2,e.frz a (by rw [h2];intro z;cases z) h3,h4,h5.mono e.j λ_ h=>h⟩
 | .tn _,v,⟨a,vs,h1,h2,h3⟩=>⟨a,vs,h1,f_ e.j h2,h3.mono e.j λ_ h=>h⟩
 | .oo _ _,v,⟨a,h1,h2,h3,h4⟩=>⟨a,h1,h2.mono e.j e.h,e.frz a h2.ne h3,h4⟩
 | .ob _ _,v,⟨a,h1,h2⟩=>⟨a,h1,h2.mono e.j (aW.refl _)⟩
noncomputable def gT (H:Hp) (σ:L2.St) (i:Nat):List V:=match σ[i]? with
 | some (some (.ref p))=>(match H p with
  | some (.lst vs)=>vs
  | _=>[])
 | _=>[]
theorem jY {H:Hp}(h:σ[i]?=some (some (.ref p))) (h2:H p=some (.lst vs)):gT H σ i=vs:=by
 unfold gT;rw [h];show (match H p with
  | some (.lst vs)=>vs
  | _=>[])=vs
 rw [h2]
noncomputable def wD (H:Hp) (σ:L2.St) (env:Ev):Prop:=∀(i j:Nat) (xs ys:List D),i≠j->env[i]?=some (some (.ow2 xs))->env[j]?=some (some (.ow2 ys))->∀u∈gT H σ i,u∉gT H σ j
theorem ow {H:Hp}{σ:L2.St}(h:k≠i):gT H (σ.set i v) k=gT H σ k:=by unfold gT;rw [TL (UA h)]
theorem wD.by {H H':Hp}(h:wD H σ env) (f:Nat->Nat) (hf:∀i j xs ys,i≠j->env'[i]?=some (some (.ow2 xs))->env'[j]?=some (some (.ow2 ys))->f i≠f j) (k:∀i xs,env'[i]?=some (some (.ow2 xs))->(∃xs',env[f i]?=some (some (.ow2 xs')))/\gT H' σ' i=gT H σ (f i)):wD H' σ' env':=by intro i j xs ys hij h1 h2 u hu;obtain ⟨⟨xs',k1⟩,k2⟩:=k i xs h1;obtain ⟨⟨ys',k3⟩,k4⟩:=k j ys h2;rw [k4];rw [k2] at hu;exact h (f i) (f j) xs' ys' (hf i j xs ys hij h1 h2) k1 k3 u hu
theorem wD.keep {H H':Hp}(h:wD H σ env) (k:∀i xs,env'[i]?=some (some (.ow2 xs))->(∃xs',env[i]?=some (some (.ow2 xs')))/\gT H' σ' i=gT H σ i):wD H' σ' env':=h.by id (λ_ _ _ _ h _ _=>h) k
structure SR (c:C) (J H:Hp) (σ:L2.St) (env:Ev):Prop where
 hp:HI c J H
 len:env.length=σ.length
 at_:∀(i:Nat) (x:S),env[i]?=some (some x)->∃v,σ[i]?=some (some v)/\pP c J H x v
 sep:∀(i j:Nat) (xs ys:Mn) (v:V),i≠j->env[i]?=some (some (mS xs))->env[j]?=some (some (mS ys))->σ[i]?=some (some v)->σ[j]?≠some (some v)
 sp2:wD H σ env
theorem SR.nst {c:C}{J H:Hp}(h:SR c J H σ env) (q:env[i]?=some (some (.ow2 xs))):∃p vs,σ[i]?=some (some (.ref p))/\H p=some (.lst vs)/\J p=none/\c.H0 p=none/\NR c.K J (λb=>c.H0 b=none/\c.J0 b=none) xs vs/\gT H σ i=vs:=by obtain ⟨_,h1,p,vs,rfl,h2,h3⟩:=h.at_ i _ q;exact ⟨p,vs,h1,h2,h3.1,h3.2.1,h3.2.2,jY h1 h2⟩
theorem SR.ext {J H J' H':Hp}(h:SR c J H σ env) (e:Ext J H J' H'):SR c J' H' σ env:=
 ⟨h.hp.ext e,h.len,λi x q=>let ⟨v,q1,q2⟩:=h.at_ i x q;⟨v,q1,q2.ext e⟩,h.sep,h.sp2.keep λi xs q=>⟨⟨xs,q⟩,let ⟨_,_,h1,h2,_,_,_,h3⟩:=h.nst q;h3▸jY h1 (e.h _ _ h2)⟩⟩
theorem SR.mine {c:C}{J H:Hp}{σ:L2.St}{env:Ev}(sr:SR c J H σ env){i:Nat}:∀{x:Mn},env[i]?=some (some (mS x))->∃p,σ[i]?=some (some (.ref p))/\H p≠none/\J p=none/\c.H0 p=none
 | .inl xs,h=>let ⟨_,k1,p,vs,e,k2,k3,k4,_⟩:=sr.at_ i (.own xs) h;⟨p,e▸k1,by rw [k2];exact λz=>(by cases z),k3,k4⟩
 | .inr q,h=>let ⟨_,k1,p,e,k2,k3,k4⟩:=sr.at_ i (.dk q.1 q.2) h;⟨p,e▸k1,k2.ne,k3,k4⟩
 | .nst xs,h=>let ⟨p,vs,k1,k2,k3,k4,_⟩:=sr.nst h;⟨p,k1,by rw [k2];exact λz=>(by cases z),k3,k4⟩
 | .oo k xs,h=>let ⟨_,k1,p,e,k2,k3,k4⟩:=sr.at_ i (.oo k xs) h;⟨p,e▸k1,k2.ne,k3,k4⟩
noncomputable def RR (c:C) (He J H:Hp):R->V->Prop
 | .d x,v=>Rep c.K J x v
 | .l .fresh xs,v=>∃a vs,v=.ref a/\H a=some (.lst vs)/\J a=none/\He a=none/\aL c.K J xs vs
 | .l .own xs,v=>∃a vs,v=.ref a/\H a=some (.lst vs)/\J a=none/\c.H0 a=none/\aL c.K J xs vs
 | .l .bor xs,v=>∃a vs,v=.ref a/\cQ c.K c.H0 a vs/\aL c.K J xs vs
 | .mo ks vs,v=>∃a,v=.ref a/\gJ c.K J H a ks vs/\J a=none/\c.H0 a=none
 | .mb ks vs,v=>∃a,v=.ref a/\gJ c.K J c.H0 a ks vs
 | .mf ks vs,v=>∃a,v=.ref a/\gJ c.K J H a ks vs/\J a=none/\He a=none
 | .ln xs,v=>∃a vs,v=.ref a/\H a=some (.lst vs)/\J a=none/\He a=none/\NR c.K J (λb=>He b=none) xs vs
 | .o .fresh k xs,v=>∃a,v=.ref a/\g8 c.K J H a k xs/\J a=none/\He a=none
 | .o .own k xs,v=>∃a,v=.ref a/\g8 c.K J H a k xs/\J a=none/\c.H0 a=none
 | .o .bor k xs,v=>∃a,v=.ref a/\g8 c.K J c.H0 a k xs
theorem RR.ext {c:C}{He J H J' H':Hp}(e:Ext J H J' H'):∀{x:R}{v:V},RR c He J H x v->RR c He J' H' x v
 | .d x,v,h=>Rep.mono e.j h
 | .l .fresh xs,v,⟨a,vs,h1,h2,h3,h4,h5⟩=>⟨a,vs,h1,e.h _ _ h2,e.frz a (by rw [h2];intro z;cases z) h3,h4,aL.mono e.j h5⟩
 | .l .own xs,v,⟨a,vs,h1,h2,h3,h4,h5⟩=>⟨a,vs,h1,e.h _ _ h2,e.frz a (by rw [h2];intro z;cases z) h3,h4,aL.mono e.j h5⟩
 | .l .bor xs,v,⟨a,vs,h1,h2,h3⟩=>⟨a,vs,h1,h2,aL.mono e.j h3⟩
 | .mo _ _,v,⟨a,h1,h2,h3,h4⟩=>⟨a,h1,h2.mono e.j e.h,e.frz a h2.ne h3,h4⟩
 | .mb _ _,v,⟨a,h1,h2⟩=>⟨a,h1,h2.mono e.j (aW.refl _)⟩
 | .mf _ _,v,⟨a,h1,h2,h3,h4⟩=>⟨a,h1,h2.mono e.j e.h,e.frz a h2.ne h3,h4⟩
 | .ln _,v,⟨a,vs,h1,h2,h3,h4,h5⟩=>⟨a,vs,h1,e.h _ _ h2,e.frz a (by rw [h2];intro z;cases z) h3,h4,h5.mono e.j λ_ h=>h⟩
 | .o .fresh _ _,v,⟨a,h1,h2,h3,h4⟩=>⟨a,h1,h2.mono e.j e.h,e.frz a h2.ne h3,h4⟩
 | .o .own _ _,v,⟨a,h1,h2,h3,h4⟩=>⟨a,h1,h2.mono e.j e.h,e.frz a h2.ne h3,h4⟩
 | .o .bor _ _,v,⟨a,h1,h2⟩=>⟨a,h1,h2.mono e.j (aW.refl _)⟩
theorem RR.from {c:C}{He He' J H:Hp}(e:aW He He'):∀{x:R}{v:V},RR c He' J H x v->RR c He J H x v
 | .d x,v,h=>h
 | .l .fresh xs,v,⟨a,vs,h1,h2,h3,h4,h5⟩=>⟨a,vs,h1,h2,h3,e.free h4,h5⟩
 | .l .own xs,v,h=>h
 | .l .bor xs,v,h=>h
 | .mo _ _,v,h=>h
 | .mb _ _,v,h=>h
 | .mf _ _,v,⟨a,h1,h2,h3,h4⟩=>⟨a,h1,h2,h3,e.free h4⟩
 | .ln _,v,⟨a,vs,h1,h2,h3,h4,h5⟩=>⟨a,vs,h1,h2,h3,e.free h4,h5.mono (aW.refl _) λ_ h=>e.free h⟩
 | .o .fresh _ _,v,⟨a,h1,h2,h3,h4⟩=>⟨a,h1,h2,h3,e.free h4⟩
 | .o .own _ _,v,h=>h
 | .o .bor _ _,v,h=>h
noncomputable def fQ:R->M (List D)
 | .d (.lst xs)=>.ok xs
 | .l _ xs=>.ok xs
 | _=>.bad
noncomputable def toD:R->M D
 | .d x=>.ok x
 | .l .fresh xs=>.ok (.lst xs)
 | .mf ks vs=>.ok (.dct ks vs)
 | .ln xs=>.ok (.lst xs)
 | .o .fresh k xs=>.ok (.ob k xs)
 | _=>.bad
theorem RR.list {c:C}{He J H:Hp}(hp:HI c J H):∀{r:R}{v:V}{xs:List D},RR c He J H r v->fQ r=.ok xs->∃a vs,v=.ref a/\cQ c.K H a vs/\aL c.K J xs vs
 | .d (.lst ys),v,xs,h,e=>by
  cases e;cases h with
  | lst h hs=>exact ⟨_,_,rfl,hp.sub.seq h,hs⟩
 | .l .fresh ys,v,xs,⟨a,vs,h1,h2,h3,h4,h5⟩,e=>by cases e;exact ⟨a,vs,h1,cQ.of h2,h5⟩
 | .l .own ys,v,xs,⟨a,vs,h1,h2,h3,h4,h5⟩,e=>by cases e;exact ⟨a,vs,h1,cQ.of h2,h5⟩
 | .l .bor ys,v,xs,⟨a,vs,h1,h2,h3⟩,e=>by cases e;exact ⟨a,vs,h1,hp.ent.seq h2,h3⟩
 | .d .non,_,_,_,e=>nomatch e
 | .d (.bl _),_,_,_,e=>nomatch e
 | .d (.int _),_,_,_,e=>nomatch e
 | .d (.str _),_,_,_,e=>nomatch e
 | .d (.tup _),_,_,_,e=>nomatch e
 | .d .emp,_,_,_,e=>nomatch e
 | .d (.dct _ _),_,_,_,e=>nomatch e
 | .d (.ob _ _),_,_,_,e=>nomatch e
 | .mo _ _,_,_,_,e=>nomatch e
 | .mb _ _,_,_,_,e=>nomatch e
 | .mf _ _,_,_,_,e=>nomatch e
 | .ln _,_,_,_,e=>nomatch e
 | .o _ _ _,_,_,_,e=>nomatch e
theorem oq {Je He J H:Hp}(x:Ext Je He J H) (h2:H a=some o) (h3:J a=none) (h4:He a=none):Ext Je He (upd J a o) H:=by
 refine ⟨x.h,x.j.trans (cW h3 _),λb u q=>?_,λb hb q=>?_⟩
 ·by_cases hb:b=a
  ·subst hb;rw [bD] at q;cases q;exact h2
  ·rw [a_ hb] at q;exact x.sub b u q
 ·have:b≠a:=λz=>hb (z▸h4);rw [a_ this];exact x.frz b hb q
theorem freeze {c:C}{Je He J H:Hp}(x:Ext Je He J H):∀{r:R}{v:V}{d:D},RR c He J H r v->toD r=.ok d->∃J',Ext Je He J' H/\aW J J'/\Rep c.K J' d v
 | .d y,v,d,h,e=>by cases e;exact ⟨J,x,aW.refl J,h⟩
 | .l .fresh ys,v,d,⟨a,vs,h1,h2,h3,h4,h5⟩,e=>by cases e;subst h1;exact ⟨_,oq x h2 h3 h4,cW h3 _,.lst (.inl (.inl bD)) (aL.mono (cW h3 _) h5)⟩
 | .mf ks vs,v,d,⟨a,h1,⟨us,ws,ep,h2,m1,m2,m3⟩,h3,h4⟩,e=>by cases e;subst h1;exact ⟨_,oq x h2 h3 h4,cW h3 _,.dct bD (m1.mono (cW h3 _)) (m2.mono (cW h3 _)) m3.1 m3.2⟩
 | .ln ys,v,d,⟨a,vs,h1,h2,h3,h4,h5⟩,e=>by cases e;subst h1;exact ⟨_,oq x h2 h3 h4,cW h3 _,.lst (.inl (.inl bD)) (h5.reps.mono (cW h3 _))⟩
 | .o .fresh k ys,v,d,⟨a,h1,⟨vs,h2,h5⟩,h3,h4⟩,e=>by cases e;subst h1;obtain ⟨u,hu⟩:=h2.some;exact ⟨_,oq x hu h3 h4,cW h3 _,.ob (h2.mono λo q=>by rw [hu] at q;cases q;exact bD) (h5.mono (cW h3 _))⟩
 | .o .own _ _,_,_,_,e=>nomatch e
 | .o .bor _ _,_,_,_,e=>nomatch e
 | .l .own _,_,_,_,e=>nomatch e
 | .l .bor _,_,_,_,e=>nomatch e
 | .mo _ _,_,_,_,e=>nomatch e
 | .mb _ _,_,_,_,e=>nomatch e
abbrev G (α:Type):=Ev->M α
def tD (c:C) (g:G R):TE:=λσ H Q=>∃J env,SR c J H σ env/\cH (g env) (λr=>∀v J' H',Ext J H J' H'->RR c H J' H' r v->Q v H') c.T
def PD (X:Cx) (c:C) (e:Tv) (g:G R):Prop:=PE X e (tD c g)
def tB (c:C) (g:G Bool):TT:=λσ H Q=>∃J env,SR c J H σ env/\cH (g env) (λb=>∀J' H',Ext J H J' H'->Q b H') c.T
def PB (X:Cx) (c:C) (e:Tv) (g:G Bool):Prop:=PT X e (tB c g)
noncomputable def kZ (c:C) (He J H:Hp):List R->List V->Prop
 | [],vs=>vs=[]
 | r::rs,vs=>∃v us,vs=v::us/\RR c He J H r v/\kZ c He J H rs us
def tA (c:C) (g:G (List R)):TA:=λσ H Q=>∃J env,SR c J H σ env/\cH (g env) (λrs=>∀vs J' H',Ext J H J' H'->kZ c H J' H' rs vs->Q vs H') c.T
def Ck (X:Cx) (c:C) (es:List Tv) (g:G (List R)):Prop:=PA X es (tA c g)
def Px (c:C) (g:G (List D)):TA:=λσ H Q=>∃J env,SR c J H σ env/\cH (g env) (λds=>∀vs J' H',Ext J H J' H'->aL c.K J' ds vs->Q vs H') c.T
def Pk (X:Cx) (c:C) (es:List Tv) (g:G (List D)):Prop:=PA X es (Px c g)
inductive O where
 | nx (e:Ev) | rt (r:R) | bk (e:Ev) | ct (e:Ev)
noncomputable def RF (c:C) (J H:Hp):R->V->Prop
 | .d x,v=>Rep c.K J x v
 | .l _ xs,v=>∃a vs,v=.ref a/\H a=some (.lst vs)/\J a=none/\c.H0 a=none/\aL c.K J xs vs
 | .mf ks vs,v=>∃a,v=.ref a/\gJ c.K J H a ks vs/\J a=none/\c.H0 a=none
 | .ln xs,v=>∃a vs,v=.ref a/\H a=some (.lst vs)/\J a=none/\c.H0 a=none/\NR c.K J (λb=>c.H0 b=none) xs vs
 | .o .fresh k xs,v=>∃a,v=.ref a/\g8 c.K J H a k xs/\J a=none/\c.H0 a=none
 | _,_=>False
noncomputable def oP (c:C) (J:Hp) (E:Ends):O->Prop
 | .nx e=>∀σ' J' H',aW J J'->SR c J' H' σ' e->E.nx σ' H'
 | .rt r=>∀v J' H',aW J J'->HI c J' H'->RF c J' H' r v->E.rt v H'
 | .bk e=>∀σ' J' H',aW J J'->SR c J' H' σ' e->E.bk σ' H'
 | .ct e=>∀σ' J' H',aW J J'->SR c J' H' σ' e->E.ct σ' H'
def tS (c:C) (g:G O):TS:=λE σ H=>∃J env,SR c J H σ env/\cH (g env) (oP c J E) c.T
def KA (X:Cx) (c:C) (st:VQ) (g:G O):Prop:=PS X st (tS c g)
def GV (X:Cx) (c:C) (st:List VQ) (g:G O):Prop:=iI X st (tS c g)
theorem oP.mono {c:C}{J J1:Hp}{E:Ends}(e:aW J J1):∀{o:O},oP c J E o->oP c J1 E o
 | .nx _,h=>λσ' J' H' q r=>h σ' J' H' (e.trans q) r
 | .rt _,h=>λσ' J' H' q r=>h σ' J' H' (e.trans q) r
 | .bk _,h=>λσ' J' H' q r=>h σ' J' H' (e.trans q) r
 | .ct _,h=>λσ' J' H' q r=>h σ' J' H' (e.trans q) r
def tW (c:C) (g:G O):TS:=λE σ H=>∃J env,SR c J H σ env/\cH (g env) (oP c c.J0 E) c.T
theorem NW {g:G O}{E:Ends}{H:Hp}(h:tW c g E σ H):tS c g E σ H:=by obtain ⟨J,env,sr,w⟩:=h;exact ⟨J,env,sr,aC w λo q=>q.mono sr.hp.entJ⟩
theorem ef {t t':TE}(h:PE X e t) (k:∀σ H Q,t' σ H Q->t σ H Q):PE X e t':=λSa s σ H Q I q=>h Sa s σ H Q I (k σ H Q q)
theorem rT (h:PT X e t) (k:∀σ H Q,t' σ H Q->t σ H Q):PT X e t':=λSa s σ H Q I q=>h Sa s σ H Q I (k σ H Q q)
theorem vR (h:PA X es t) (k:∀σ H Q,t' σ H Q->t σ H Q):PA X es t':=λpos Sa s σ H Q I q=>h pos Sa s σ H Q I (k σ H Q q)
theorem f7 {st:VQ}{t t':TS}(h:PS X st t) (k:∀D σ H,t' D σ H->t D σ H):PS X st t':=λSa s σ H D I q=>h Sa s σ H D I (k D σ H q)
theorem nK {st:List VQ}{t t':TS}(h:iI X st t) (k:∀D σ H,t' D σ H->t D σ H):iI X st t':=λSa s σ H D I q=>h Sa s σ H D I (k D σ H q)
section
variable {X:Cx}{c:C}{e a b:Tv}{ga gb:G R}{pos:Pos}
noncomputable def S.rd:S->M R
 | .d x=>.ok (.d x)
 | .own xs=>.ok (.l .own xs)
 | .bor xs=>.ok (.l .bor xs)
 | .dk ks vs=>.ok (.mo ks vs)
 | .db ks vs=>.ok (.mb ks vs)
 | .fn _=>.bad
 | .ow2 xs=>.ok (.l .own xs)
 | .tn xs=>.ok (.d (.tup xs))
 | .oo k xs=>.ok (.o .own k xs)
 | .ob k xs=>.ok (.o .bor k xs)
noncomputable def af (i:Nat):G R:=λenv=>match env[i]? with
 | some (some x)=>x.rd
 | _=>.bad
theorem Js (h:PE X (.Name x pos) (B0 i)):PD X c (.Name x pos) (af i):=ef h λσ H Q ⟨J,env,sr,w⟩=>by
 unfold af at w;cases q:env[i]? with
 | none=>rw [q] at w;exact w.elim
 | some o=>
  cases o with
  | none=>rw [q] at w;exact w.elim
  | some x=>
   rw [q] at w;obtain ⟨v,h1,h2⟩:=sr.at_ i x q;refine ⟨v,h1,?_⟩;cases x with
   | fn _=>exact w.elim
   | ow2 _=>obtain ⟨a,vs,k1,k2,k3,k4,k5⟩:=h2;exact w v J H (Ext.refl sr.hp.sub) ⟨a,vs,k1,k2,k3,k4,k5.reps⟩
   | tn _=>obtain ⟨a,vs,rfl,k1,k2⟩:=h2;exact w (.ref a) J H (Ext.refl sr.hp.sub) (.tup k1 k2.reps)
   | _=>exact w v J H (Ext.refl sr.hp.sub) h2
def gC (d:D):G R:=λ_=>.ok (.d d)
theorem rP (hr:∀J,Rep c.K J d v) (h:PE X e (tC v)):PD X c e (gC d):=ef h λσ H Q ⟨J,env,sr,w⟩=>w v J H (Ext.refl sr.hp.sub) (hr J)
noncomputable def BD (c:C) (r:R2) (f:R->R->M R):Prop:=∀(He He' J H:Hp) (x y:R) (u v:V) (Q:VK),HI c J H->RR c He J H x u->RR c He' J H y v->
 cH (f x y) (λz=>∀w J' H',Ext J H J' H'->RR c H J' H' z w->Q w H') c.T->r u v H Q
def g2 (f:R->R->M R) (ga gb:G R):G R:=λenv=>ga env >>= λx=>gb env >>= λy=>f x y
theorem two {P:R->R->M R}{σ:L2.St}{H:Hp}{k:V->V->Hp->Prop}{Q:VK}{J:Hp}{env:Ev}(sr:SR c J H σ env)
  (w:cH (g2 P ga gb env) (λr=>∀v J' H',Ext J H J' H'->RR c H J' H' r v->Q v H') c.T)
  (hk:∀x y u v J2 H2,SR c J2 H2 σ env->Ext J H J2 H2->RR c H J2 H2 x u->RR c H J2 H2 y v->cH (P x y) (λz=>∀w J' H',Ext J2 H2 J' H'->RR c H2 J' H' z w->Q w H') c.T->k u v H2):
  tD c ga σ H λu H1=>tD c gb σ H1 λv H2=>k u v H2:=by refine ⟨J,env,sr,aC (aG w) λx wx u J1 H1 e1 r1=>?_⟩;have sr1:=sr.ext e1;refine ⟨J1,env,sr1,aC (aG wx) λy wy v J2 H2 e2 r2=>?_⟩;exact hk x y u v J2 H2 (sr1.ext e2) (e1.trans e2) (r1.ext e2) (RR.from e1.h r2) (aC wy λz q w J' H' e3 r3=>q w J' H' ((e1.trans e2).trans e3) (RR.from (e1.h.trans e2.h) r3))
theorem F7 {t:TE}{f:R->R->M R}(ht:PE X e t) (heq:t=Eu r (tD c ga) (tD c gb)) (hf:BD c r f):PD X c e (g2 f ga gb):=by subst heq;exact ef ht λσ H Q ⟨J,env,sr,w⟩=>two (k:=λu v H2=>r u v H2 Q) sr w λx y u v J2 H2 sr2 e2 r1 r2 q=>hf H H J2 H2 x y u v Q sr2.hp r1 r2 q
theorem kD {f:R->R->M R}(ho:dJ X (V7 op) r) (hf:BD c r f) (ha:PD X c a ga) (hb:PD X c b gb):PD X c (.BinOp a op b pos) (g2 f ga gb):=F7 (Nz ho ha hb) rfl hf
theorem yf {f:R->R->M R}(ho:dJ X (UK op) r) (hf:BD c r f) (ha:PD X c a ga) (hb:PD X c b gb) (hm:Ui op b=false:=by first | exact x_ _ | rfl):PD X c (.Compare a [op] [b] pos) (g2 f ga gb):=F7 (Ju ho ha hb hm) rfl hf
theorem Nu {f:R->R->M R}(ho:nc X r) (hf:BD c r f) (ha:PD X c a ga) (hb:PD X c b gb) (hs:n6 b:=by exact λ_ _=>rfl):PD X c (.Subscript a b pos) (g2 f ga gb):=F7 (Hw ho ha hb hs) rfl hf
theorem BD.or {r r':R2}{f f':R->R->M R}(p:R->R->Bool) (h:BD c r f) (h':BD c r' f'):BD c (λx y H Q=>r x y H Q\/r' x y H Q) (λx y=>if p x y then f x y else f' x y):=by
 intro He He' J H x y u v Q hp rx ry w;simp only at w;cases q:p x y with
 | true=>rw [q] at w;exact .inl (h He He' J H x y u v Q hp rx ry w)
 | false=>rw [q] at w;exact .inr (h' He He' J H x y u v Q hp rx ry w)
noncomputable def fI (C:Int->Int->Bool) (f:Int->Int->D):R->R->M R
 | .d (.int i),.d (.int j)=>if C i j then .ok (.d (f i j)) else .bad
 | _,_=>.bad
noncomputable def bT (f:Int->Int->D):R->R->M R
 | .d (.int i),.d (.int j)=>.ok (.d (f i j))
 | _,_=>.bad
theorem A0 {P:Int->Int->Prop}{Cb:Int->Int->Bool}{g:Int->Int->V}{f:Int->Int->D}(hC:∀i j,Cb i j=true->P i j) (hr:∀i j J,Rep c.K J (f i j) (g i j)):BD c (rI P g) (fI Cb f):=by
 intro He He' J H x y u v Q hp rx ry w;unfold fI at w;split at w
 ·cases rx;cases ry;rename_i i j;cases q:Cb i j with
  | true=>rw [q] at w;exact ⟨i,j,rfl,rfl,hC i j q,w _ J H (Ext.refl hp.sub) (hr i j J)⟩
  | false=>rw [q] at w;exact w.elim
 ·exact w.elim
theorem iC {g:Int->Int->V}{f:Int->Int->D}(hr:∀i j J,Rep c.K J (f i j) (g i j)):BD c (nQ g) (bT f):=by
 intro He He' J H x y u v Q hp rx ry w;unfold bT at w;split at w
 ·cases rx;cases ry;rename_i i j;exact ⟨i,j,rfl,rfl,w _ J H (Ext.refl hp.sub) (hr i j J)⟩
 ·exact w.elim
def below (n:Nat) (j:Int):Bool:=Nat.blt j.natAbs n
theorem ez:below n j=true↔-(n:Int) < j/\j < n:=by unfold below;rw [Nat.blt_eq];omega
def Bq (_ j:Int):Bool:=decide (0 < j) && below 1073741824 j
def LB (_ j:Int):Bool:=decide (0 < j)
def pW (i j:Int):Bool:=below 18446744073709551616 i || below 18446744073709551616 j
theorem IT (h:pW i j=true):(-(2 ^ 64) < i/\i < 2 ^ 64)\/(-(2 ^ 64) < j/\j < 2 ^ 64):=by unfold pW at h;rw [UQ] at h;exact h.imp ez.mp ez.mp
theorem IS (h:Bq i j=true):0 < j/\j < 1073741824:=by unfold Bq at h;rw [SI] at h;exact ⟨of_decide_eq_true h.1,(ez.mp h.2).2⟩
def FF (i j:Int):Bool:=decide (0<=j) && below 1000001 j && below 18446744073709551616 i
theorem IU {i j:Int}(h:FF i j=true):0<=j/\j<=1000000/\i.natAbs < 2 ^ 64:=by unfold FF at h;rw [SI,SI] at h;have h2:=ez.mp h.1.2;have h3:=ez.mp h.2;exact ⟨of_decide_eq_true h.1.1,by omega,by omega⟩
abbrev Fj:R->R->M R:=bT λi j=>.int (i + j)
abbrev gK:R->R->M R:=bT λi j=>.int (i - j)
abbrev Lf:R->R->M R:=fI pW λi j=>.int (i * j)
abbrev dF:R->R->M R:=fI Bq λi j=>.int (i / j)
abbrev bP:R->R->M R:=fI LB λi j=>.int (i % j)
abbrev jR:R->R->M R:=fI FF λi j=>.int (i ^ j.toNat)
noncomputable def qR:R->R->M R
 | .d (.str i),.d (.str j)=>if i.length + j.length<=sizeLine then .ok (.d (.str (i++j))) else .bad
 | _,_=>.bad
theorem JO {K:Sk}{J:Hp}{ds:List D}{vs:List V}{i:Int}{d:D}(h:aL K J ds vs) (e:jP ds i=some d):∃v,jP vs i=some v/\Rep K J d v:=by
 unfold jP at e ⊢;rw [h.length] at e;cases q:xJ vs.length i with
 | none=>rw [q] at e;cases e
 | some j=>rw [q] at e;exact h.get e
theorem lM {f:List D->M R}{Q:R->Prop}{T:Exc->Prop}(w:cH (fQ x >>= f) Q T):∃xs,fQ x=.ok xs/\cH (f xs) Q T:=by
 cases q:fQ x with
 | bad=>rw [q] at w;exact w.elim
 | ok xs=>rw [q] at w;exact ⟨xs,rfl,w⟩
 | exc z=>unfold fQ at q;split at q <;> cases q
noncomputable def rH:R->Bool
 | .l .fresh _=>true
 | .l .own _=>true
 | _=>false
noncomputable def oj (x y:R):M R:=if rH x && rH y then fQ x >>= λxs=>fQ y >>= λys=>if xs.length + ys.length<=sizeLine then .ok (.l .fresh (xs++ys)) else .bad else .bad
theorem RR.made {He J H:Hp}:∀{r:R}{v:V},rH r=true->RR c He J H r v->∃a vs xs,fQ r=.ok xs/\v=.ref a/\H a=some (.lst vs)/\aL c.K J xs vs
 | .l .fresh xs,v,_,⟨a,vs,h1,h2,h3,h4,h5⟩=>⟨a,vs,xs,rfl,h1,h2,h5⟩
 | .l .own xs,v,_,⟨a,vs,h1,h2,h3,h4,h5⟩=>⟨a,vs,xs,rfl,h1,h2,h5⟩
 | .l .bor _,_,e,_=>nomatch e
 | .mo _ _,_,e,_=>nomatch e
 | .mb _ _,_,e,_=>nomatch e
 | .mf _ _,_,e,_=>nomatch e
 | .ln _,_,e,_=>nomatch e
 | .o _ _ _,_,e,_=>nomatch e
 | .d _,_,e,_=>nomatch e
theorem gD {J H:Hp}(hp:HI c J H) (e:H p=none) (h:aL c.K J xs vs):RR c H J (upd H p (.lst vs)) (.l .fresh xs) (.ref p):=
 ⟨p,vs,rfl,bD,hp.sub.free e,e,h⟩
noncomputable def CD (c:C) (r:List V->Hp->VK->Prop) (f:List R->M R):Prop:=∀(He J H:Hp) (xs:List R) (vs:List V) (Q:VK),HI c J H->kZ c He J H xs vs->
 cH (f xs) (λz=>∀w J' H',Ext J H J' H'->RR c H J' H' z w->Q w H') c.T->r vs H Q
def gN (f:List R->M R) (gs:G (List R)):G R:=λenv=>gs env >>= f
theorem LZ {t:TE}{ta:TA}{r:List V->Hp->VK->Prop}{f:List R->M R}{gs:G (List R)}(ht:PE X e t) (heq:t=λσ H Q=>tA c gs σ H λvs H1=>r vs H1 Q) (hf:CD c r f):PD X c e (gN f gs):=by subst heq;refine ef ht λσ H Q ⟨J,env,sr,w⟩=>⟨J,env,sr,aC (aG w) λrs w vs J1 H1 e1 r1=>?_⟩;exact hf H J1 H1 rs vs Q (sr.hp.ext e1) r1 (aC w λz q v J' H' e2 r2=>q v J' H' (e1.trans e2) (RR.from e1.h r2))
def az:G (List R):=λ_=>.ok []
def ah (g:G R) (gs:G (List R)):G (List R):=λenv=>g env >>= λx=>gs env >>= λxs=>.ok (x::xs)
theorem kZ.from {He He' J H:Hp}(e:aW He He'):∀{xs:List R}{vs:List V},kZ c He' J H xs vs->kZ c He J H xs vs
 | [],_,h=>h
 | _::_,_,⟨v,us,h1,h2,h3⟩=>⟨v,us,h1,RR.from e h2,kZ.from e h3⟩
theorem pX {id:String}{x:Str}{p:Pos}{es:List Tv}{r:List V->Hp->VK->Prop}{f:List R->M R}{gs:G (List R)}(hc:eK X (.builtin id) r) (hf:CD c r f) (hv:Uz x=some (.builtin id)) (hm:X.mg x=none) (ha:Ck X c (e::es) gs)
  (hg:autoParam (Gl X x) zA._auto_1) (hn:autoParam (x≠"__name__") zB._auto_1) (hdb:autoParam ((x == ("__debug__":Str))=false) zB._auto_1)
  (he:autoParam (SG (e::es) X.env=(false,eval e X.env)::SG es X.env) zA._auto_1) (hpl:autoParam ((Vf pos (SG es X.env)).any (·.1)=false) zA._auto_1):PD X c (.Call (.Name x p) (e::es) [] pos) (gN f gs):=
 LZ (ta:=GF) (pY hc hg hm hv ha hn hdb he hpl) rfl hf
theorem nI {r:List V->Hp->VK->Prop}{f:List R->M R}{gs:G (List R)}(hc:eK X (.type T) r) (hf:CD c r f) (hv:Uz x=some (.type T)) (hm:X.mg x=none) (ha:Ck X c (e::es) gs)
 (hg:autoParam (Gl X x) zA._auto_1) (hn:autoParam (x≠"__name__") zB._auto_1) (hdb:autoParam ((x == ("__debug__":Str))=false) zB._auto_1)
 (he:autoParam (SG (e::es) X.env=(false,eval e X.env)::SG es X.env) zA._auto_1) (hpl:autoParam ((Vf pos (SG es X.env)).any (·.1)=false) zA._auto_1):PD X c (.Call (.Name x p) (e::es) [] pos) (gN f gs):=
 LZ (ta:=GF) (jk hc hg hm hv ha hn hdb he hpl) rfl hf
end
section
variable {X:Cx}{c:C}{e a b:Tv}{es:List Tv}{ga gb g:G R}{pos:Pos}
def aI:G (List D):=λ_=>.ok []
def aq (g:G R) (gs:G (List D)):G (List D):=λenv=>g env >>= λx=>toD x >>= λd=>gs env >>= λds=>.ok (d::ds)
theorem jG {α:Type}{f:D->M α}{Q:α->Prop}{T:Exc->Prop}(w:cH (toD x >>= f) Q T):∃d,toD x=.ok d/\cH (f d) Q T:=by
 cases q:toD x with
 | bad=>rw [q] at w;exact w.elim
 | ok xs=>rw [q] at w;exact ⟨xs,rfl,w⟩
 | exc z=>unfold toD at q;split at q <;> cases q
def bV (gs:G (List D)):G R:=λenv=>gs env >>= λds=>if ds.length<=sizeLine then .ok (.d (.tup ds)) else .bad
def eU (gs:G (List D)):G R:=λenv=>gs env >>= λds=>if ds.length<=sizeLine then .ok (.l .fresh ds) else .bad
theorem j6 {J H:Hp}(hp:HI c J H) (e:H p=none) (h:aL c.K J xs vs):Rep c.K (upd J p (.tup vs)) (.tup xs) (.ref p):=
 .tup (.inl (.inl bD)) (h.mono (cW (hp.sub.free e) _))
noncomputable def iz:R->M (List D)
 | .d (.tup xs)=>.ok xs
 | .d (.lst xs)=>.ok xs
 | .l _ xs=>.ok xs
 | _=>.bad
theorem jB {He J H:Hp}(hp:HI c J H):∀{r:R}{v:V}{xs:List D},RR c He J H r v->iz r=.ok xs->∃a vs,v=.ref a/\(cQ c.K H a vs\/d8 c.K H a vs)/\aL c.K J xs vs
 | .d (.tup ys),v,xs,h,e=>by
  cases e;cases h with
  | tup h hs=>exact ⟨_,_,rfl,.inr (f_ hp.sub h),hs⟩
 | .d (.lst ys),v,xs,h,e=>let ⟨a,vs,h1,h2,h3⟩:=RR.list hp h e;⟨a,vs,h1,.inl h2,h3⟩
 | .l m ys,v,xs,h,e=>let ⟨a,vs,h1,h2,h3⟩:=RR.list hp h e;⟨a,vs,h1,.inl h2,h3⟩
 | .d .non,_,_,_,e=>nomatch e
 | .d (.bl _),_,_,_,e=>nomatch e
 | .d (.int _),_,_,_,e=>nomatch e
 | .d (.str _),_,_,_,e=>nomatch e
 | .d .emp,_,_,_,e=>nomatch e
 | .d (.dct _ _),_,_,_,e=>nomatch e
 | .d (.ob _ _),_,_,_,e=>nomatch e
theorem i8 {α:Type}{f:List D->M α}{Q:α->Prop}{T:Exc->Prop}(w:cH (iz x >>= f) Q T):∃xs,iz x=.ok xs/\cH (f xs) Q T:=by
 cases q:iz x with
 | bad=>rw [q] at w;exact w.elim
 | ok xs=>rw [q] at w;exact ⟨xs,rfl,w⟩
 | exc z=>unfold iz at q;split at q <;> cases q
noncomputable def eE:List R->M R
 | [.d (.str z)]=>if z.length<=sizeLine then .ok (.d (.int z.length)) else .bad
 | [r]=>iz r >>= λxs=>.ok (.d (.int xs.length))
 | _=>.bad
theorem kZ.one {He J H:Hp}(h:kZ c He J H [r] vs):∃v,vs=[v]/\RR c He J H r v:=by obtain ⟨v,us,rfl,h1,h2⟩:=h;cases h2;exact ⟨v,rfl,h1⟩
noncomputable def dW:List R->M R
 | [r]=>iz r >>= λxs=>.ok (.d (.tup xs))
 | _=>.bad
theorem oX:Uz "tuple"=some (.type "tuple"):=by decide +kernel
theorem qI:Uz "list"=some (.type "list"):=by decide +kernel
noncomputable def Bb:List R->M R
 | [r]=>iz r >>= λxs=>.ok (.l .fresh xs)
 | _=>.bad
noncomputable def aT (g:G R):G Bool:=λenv=>g env >>= λr=>match r with
 | .d (.bl k)=>.ok k
 | _=>.bad
theorem j3 {f:R->R->M R}(ho:dJ X (UK op) r) (hf:BD c r f) (ha:PD X c a ga) (hb:PD X c b gb) (hm:Ui op b=false:=by first | exact x_ _ | rfl):PB X c (.Compare a [op] [b] pos) (aT (g2 f ga gb)):=
 rT (tZ ho ha hb hm) λσ H Q ⟨J,env,sr,w⟩=>by
  have w2:=aG w;refine two (k:=λu v H2=>r u v H2 λz H3=>∃k,z=.bl k/\Q k H3) (Q:=λz H3=>∃k,z=.bl k/\Q k H3) sr (aC w2 λr0 wr v J1 H1 e1 r1=>?_)
   λx y u v J2 H2 sr2 e2 r1 r2 q=>hf H H J2 H2 x y u v _ sr2.hp r1 r2 q
  split at wr
  ·cases r1;exact ⟨_,rfl,wr J1 H1 e1⟩
  ·exact wr.elim
def bJ (g h:G Bool):G Bool:=λenv=>g env >>= λk=>if k=true then h env else .ok false
def bX (g h:G Bool):G Bool:=λenv=>g env >>= λk=>if k=true then .ok true else h env
def bC (g:G Bool):G Bool:=λenv=>g env >>= λk=>.ok (!k)
def Pn (X:Cx) (c:C) (e:Tv) (g:G Bool):Prop:=PW X e (tB c g)
variable {t u:G Bool}{rest:List Tv}
theorem HB {X:Cx}{e:Tv}{t t':TT}(h:PW X e t) (k:∀σ H Q,t' σ H Q->t σ H Q):PW X e t':=λwh Sa s σ H Q I q=>h wh Sa s σ H Q I (k σ H Q q)
noncomputable def bq (g h:G R):G R:=λenv=>g env >>= λr=>match r with
 | .d (.bl true)=>h env
 | .d (.bl false)=>.ok (.d (.bl false))
 | _=>.bad
noncomputable def bw (g:G R):G R:=λenv=>g env >>= λr=>match r with
 | .d (.bl k)=>.ok (.d (.bl (!k)))
 | _=>.bad
def Oc (t:G Bool) (g h:G R):G R:=λenv=>t env >>= λk=>if k=true then g env else h env
end
section
variable {X:Cx}{c:C}{e a b tg:Tv}{es:List Tv}{ga gb g:G R}{pos:Pos}{st:VQ}{rest:List VQ}{t u:G O}{tb:G Bool}
def bh:G O:=λenv=>.ok (.nx env)
noncomputable def av (t u:G O):G O:=λenv=>t env >>= λo=>match o with
 | .nx e=>u e
 | o=>.ok o
def Hf:G O:=λenv=>.ok (.bk env)
noncomputable def rF:R->M R
 | .d x=>.ok (.d x)
 | .l .fresh xs=>.ok (.l .fresh xs)
 | .l .own xs=>.ok (.l .fresh xs)
 | .l .bor _=>.bad
 | .mo ks vs=>.ok (.mf ks vs)
 | .mf ks vs=>.ok (.mf ks vs)
 | .mb _ _=>.bad
 | .ln xs=>.ok (.ln xs)
 | .o .fresh k xs=>.ok (.o .fresh k xs)
 | .o .own k xs=>.ok (.o .fresh k xs)
 | .o .bor _ _=>.bad
def aM (g:G R):G O:=λenv=>g env >>= λr=>rF r >>= λr=>.ok (.rt r)
theorem RR.rf {J H J1 H1:Hp}(hp:HI c J H):∀{r r':R}{v:V},RR c H J1 H1 r v->rF r=.ok r'->RF c J1 H1 r' v
 | .d x,r',v,h,e=>by cases e;exact h
 | .l .fresh xs,r',v,⟨a,vs,h1,h2,h3,h4,h5⟩,e=>by cases e;exact ⟨a,vs,h1,h2,h3,hp.ent.free h4,h5⟩
 | .l .own xs,r',v,⟨a,vs,h1,h2,h3,h4,h5⟩,e=>by cases e;exact ⟨a,vs,h1,h2,h3,h4,h5⟩
 | .l .bor _,_,_,_,e=>nomatch e
 | .mo _ _,_,v,⟨a,h1,h2,h3,h4⟩,e=>by cases e;exact ⟨a,h1,h2,h3,h4⟩
 | .mb _ _,_,_,_,e=>nomatch e
 | .mf _ _,_,v,⟨a,h1,h2,h3,h4⟩,e=>by cases e;exact ⟨a,h1,h2,h3,hp.ent.free h4⟩
 | .ln _,_,v,⟨a,vs,h1,h2,h3,h4,h5⟩,e=>by cases e;exact ⟨a,vs,h1,h2,h3,hp.ent.free h4,h5.mono (aW.refl _) λ_ h=>hp.ent.free h⟩
 | .o .fresh _ _,_,v,⟨a,h1,h2,h3,h4⟩,e=>by cases e;exact ⟨a,h1,h2,h3,hp.ent.free h4⟩
 | .o .own _ _,_,v,⟨a,h1,h2,h3,h4⟩,e=>by cases e;exact ⟨a,h1,h2,h3,h4⟩
 | .o .bor _ _,_,_,_,e=>nomatch e
def aQ (b:G Bool) (t u:G O):G O:=λenv=>b env >>= λk=>if k=true then t env else u env
noncomputable def toS:R->M S
 | .d x=>.ok (.d x)
 | .l .fresh xs=>.ok (.own xs)
 | .l .bor xs=>.ok (.bor xs)
 | .l .own _=>.bad
 | .mb ks vs=>.ok (.db ks vs)
 | .mf ks vs=>.ok (.dk ks vs)
 | .mo _ _=>.bad
 | .ln xs=>.ok (.ow2 xs)
 | .o .fresh k xs=>.ok (.oo k xs)
 | .o .bor k xs=>.ok (.ob k xs)
 | .o .own _ _=>.bad
theorem fq {α:Type}{l:List (Option α)}{i j:Nat}{x y:α}(h:(l.set i (some x))[j]?=some (some y)):(j=i/\i < l.length/\y=x)\/(j≠i/\l[j]?=some (some y)):=by
 by_cases e:j=i
 ·subst e;have hj:j < l.length:=by have:=(Td.mp h).1;simpa using this
  rw [T7 hj] at h;cases h;exact .inl ⟨rfl,hj,rfl⟩
 ·rw [TL (UA e)] at h;exact .inr ⟨e,h⟩
theorem SR.setD {J H:Hp}{σ:L2.St}{env:Ev}(sr:SR c J H σ env){i:Nat}{x:S}{v:V}(h:pP c J H x v) (hx:∀xs,x≠mS xs):SR c J H (σ.set i (some v)) (env.set i (some x)):=by
 refine ⟨sr.hp,by simpa using sr.len,λj y q=>?_,λj k xs ys w hjk q1 q2 q3 q4=>?_,sr.sp2.keep λk xs q=>?_⟩
 ·rcases fq q with ⟨rfl,hl,rfl⟩ | ⟨hj,q⟩
  ·exact ⟨v,by rw [T7 (by rw [<-sr.len];exact hl)],h⟩
  ·obtain ⟨w,h1,h2⟩:=sr.at_ j y q;exact ⟨w,by rw [TL (UA hj)];exact h1,h2⟩
 ·rcases fq q1 with ⟨rfl,hl,e⟩ | ⟨hj,q1⟩
  ·exact hx xs e.symm
  ·rcases fq q2 with ⟨rfl,hl,e⟩ | ⟨hk,q2⟩
   ·exact hx ys e.symm
   ·rw [TL (UA hj)] at q3;rw [TL (UA hk)] at q4;exact sr.sep j k xs ys w hjk q1 q2 q3 q4
 ·rcases fq q with ⟨_,_,e⟩ | ⟨hk,q⟩
  ·exact (hx (.nst xs) e.symm).elim
  ·exact ⟨⟨xs,q⟩,ow hk⟩
theorem SR.setM {J He:Hp}{σ:L2.St}{env:Ev}(sr:SR c J He σ env){J1 H1:Hp}(e1:Ext J He J1 H1){i:Nat}{y:Mn}{p:SM}(h3:He p=none) (h:pP c J1 H1 (mS y) (.ref p)) (hn:∀xs,y=.nst xs->∀vs,H1 p=some (.lst vs)->∀u∈vs,∃b,u=.ref b/\He b=none:=by exact λ_ z=>nomatch z):SR c J1 H1 (σ.set i (some (.ref p))) (env.set i (some (mS y))):=by
 have sr1:=sr.ext e1;have old:∀(j:Nat) (ys:Mn),env[j]?=some (some (mS ys))->σ[j]?≠some (some (.ref p)):=λj ys qj z=>by obtain ⟨a,k1,k2,_⟩:=sr.mine qj;rw [z] at k1;cases k1;exact k2 h3
 have new:∀(j:Nat) (xs ys:List D),i < env.length->j≠i->mS y=.ow2 xs->env[j]?=some (some (.ow2 ys))->∀u∈gT H1 (σ.set i (some (.ref p))) i,u∉gT H1 (σ.set i (some (.ref p))) j:=λj xs ys hl hj e q u hu hv=>by
  have hy:y=.nst xs:=by cases y <;> cases e;rfl
  subst hy;obtain ⟨_,vs,rfl',k2,_⟩:=h;cases rfl';rw [jY (T7 (by rw [<-sr.len];exact hl)) k2] at hu;obtain ⟨b,rfl,hb⟩:=hn xs rfl vs k2 u hu;obtain ⟨p',ws,m1,m2,_,_,m3,m4⟩:=sr.nst q;rw [ow hj,jY m1 (e1.h _ _ m2)] at hv;obtain ⟨b',_,e',m5,_⟩:=m3.mem hv;cases e';rw [sr.hp.sub _ _ m5] at hb;cases hb
 refine ⟨sr1.hp,by simpa using sr.len,λj y q=>?_,λj k ys zs w hjk q1 q2 q3 q4=>?_,λj k ys zs hjk q1 q2 u hu=>?_⟩
 ·rcases fq q with ⟨rfl,hl,rfl⟩ | ⟨hj,q⟩
  ·exact ⟨.ref p,by rw [T7 (by rw [<-sr.len];exact hl)],h⟩
  ·obtain ⟨w,k1,k2⟩:=sr1.at_ j y q;exact ⟨w,by rw [TL (UA hj)];exact k1,k2⟩
 ·rcases fq q1 with ⟨rfl,hl,e⟩ | ⟨hj,q1'⟩
  ·rcases fq q2 with ⟨rfl,_,_⟩ | ⟨hk,q2⟩
   ·exact hjk rfl
   ·rw [T7 (by rw [<-sr.len];exact hl)] at q3;cases q3;rw [TL (UA hk)] at q4;exact old k zs q2 q4
  ·rw [TL (UA hj)] at q3;rcases fq q2 with ⟨rfl,hl,e⟩ | ⟨hk,q2⟩
   ·rw [T7 (by rw [<-sr.len];exact hl)] at q4;cases q4;exact old j ys q1' q3
   ·rw [TL (UA hk)] at q4;exact sr.sep j k ys zs w hjk q1' q2 q3 q4
 ·rcases fq q1 with ⟨rfl,hl,e⟩ | ⟨hj,q1'⟩
  ·rcases fq q2 with ⟨rfl,_,_⟩ | ⟨hk,q2⟩
   ·exact (hjk rfl).elim
   ·exact new k ys zs hl hk e.symm q2 u hu
  ·rcases fq q2 with ⟨rfl,hl,e⟩ | ⟨hk,q2⟩
   ·exact λhv=>new j zs ys hl hj e.symm q1' u hv hu
   ·rw [ow hj] at hu;rw [ow hk];exact sr1.sp2 j k ys zs hjk q1' q2 u hu
theorem SR.set {J He:Hp}{σ:L2.St}{env:Ev}(sr:SR c J He σ env){J1 H1:Hp}(e1:Ext J He J1 H1) (h:RR c He J1 H1 r v) (q:toS r=.ok x):SR c J1 H1 (σ.set i (some v)) (env.set i (some x)):=by
 have sr1:=sr.ext e1;cases r with
 | d y=>cases q;exact sr1.setD h (λx z=>by cases x <;> cases z)
 | mb _ _=>cases q;exact sr1.setD h (λx z=>by cases x <;> cases z)
 | mf ks vs=>cases q;obtain ⟨p,rfl,h1,h2,h3⟩:=h;exact sr.setM (y:=.inr (ks,vs)) e1 h3 ⟨p,rfl,h1,h2,sr.hp.ent.free h3⟩
 | mo _ _=>cases q
 | ln xs=>
  cases q;obtain ⟨p,vs,rfl,h1,h2,h3,h4⟩:=h;refine sr.setM (y:=.nst xs) e1 h3 ⟨p,vs,rfl,h1,h2,sr.hp.ent.free h3,h4.mono (aW.refl _) λb hb=>⟨sr.hp.ent.free hb,sr.hp.entJ.free (sr.hp.sub.free hb)⟩⟩ λ_ _ ws q u hu=>?_;rw [h1] at q;cases q;obtain ⟨b,_,e,_,hb⟩:=h4.mem hu;exact ⟨b,e,hb⟩
 | o m k xs=>
  cases m with
  | own=>cases q
  | bor=>cases q;exact sr1.setD h (λx z=>by cases x <;> cases z)
  | fresh=>cases q;obtain ⟨p,rfl,h1,h2,h3⟩:=h;exact sr.setM (y:=.oo k xs) e1 h3 ⟨p,rfl,h1,h2,sr.hp.ent.free h3⟩
 | l m xs=>
  cases m with
  | own=>cases q
  | bor=>cases q;exact sr1.setD h (λx z=>by cases x <;> cases z)
  | fresh=>
   cases q;obtain ⟨p,vs,rfl,h1,h2,h3,h4⟩:=h;exact sr.setM (y:=.inl xs) e1 h3 ⟨p,vs,rfl,h1,h2,sr.hp.ent.free h3,h4⟩
theorem uq {α:Type}{f:S->M α}{Q:α->Prop}{T:Exc->Prop}(w:cH (toS x >>= f) Q T):∃d,toS x=.ok d/\cH (f d) Q T:=by
 cases q:toS x with
 | bad=>rw [q] at w;exact w.elim
 | ok xs=>rw [q] at w;exact ⟨xs,rfl,w⟩
 | exc z=>unfold toS at q;split at q <;> cases q
def aN (i:Nat) (g:G R):G O:=λenv=>g env >>= λr=>toS r >>= λx=>.ok (.nx (env.set i (some x)))
abbrev GT:=D->Ev->M Ev
def KO (env:Ev) (σ:L2.St) (e:Ev) (σ':L2.St):Prop:=∀(j:Nat) (xs:Mn),e[j]?=some (some (mS xs))->env[j]?=some (some (mS xs))/\σ'[j]?=σ[j]?
theorem KO.refl:KO env σ env σ:=λ_ _ h=>⟨h,rfl⟩
theorem KO.trans (a:KO env σ e1 s1) (b:KO e1 s1 e2 s2):KO env σ e2 s2:=λj xs h=>by obtain ⟨h1,h2⟩:=b j xs h;obtain ⟨h3,h4⟩:=a j xs h1;exact ⟨h3,h2.trans h4⟩
def tT (c:C) (g:GT):TG:=λv σ H Q=>∃J env d,SR c J H σ env/\Rep c.K J d v/\cH (g d env) (λe=>∀σ',SR c J H σ' e->KO env σ e σ'->Q σ' H) c.T
def Cm (X:Cx) (c:C) (tg:Tv) (g:GT):Prop:=PG X tg (tT c g)
abbrev qq:=List D->Ev->M Ev
def PL (c:C) (g:qq):uv:=λvs σ H Q=>∃J env ds,SR c J H σ env/\aL c.K J ds vs/\cH (g ds env) (λe=>∀σ',SR c J H σ' e->KO env σ e σ'->Q σ' H) c.T
def Ot (X:Cx) (c:C) (tgs:List Tv) (g:qq):Prop:=wB X tgs (PL c g)
theorem Hy {t t':TG}(h:PG X e t) (k:∀v σ H Q,t' v σ H Q->t v σ H Q):PG X e t':=λSa s σ H v u Q I r q=>h Sa s σ H v u Q I r (k v σ H Q q)
theorem DY {X:Cx}{e:List Tv}{t t':uv}(h:wB X e t) (k:∀v σ H Q,t' v σ H Q->t v σ H Q):wB X e t':=λSa s σ H vs us Q I r q=>h Sa s σ H vs us Q I r (k vs σ H Q q)
def aH (i:Nat):GT:=λd env=>.ok (env.set i (some (.d d)))
noncomputable def gv:qq:=λds env=>match ds with
 | []=>.ok env
 | _=>.bad
noncomputable def b7 (t:GT) (u:qq):qq:=λds env=>match ds with
 | d::r=>t d env >>= λe=>u r e
 | []=>.bad
noncomputable def gc (n:Nat) (u:qq):GT:=λd env=>match d with
 | .tup ds=>if ds.length=n then u ds env else .bad
 | _=>.bad
def nq (t:GT) (g:G R):G O:=λenv=>g env >>= λr=>toD r >>= λd=>t d env >>= λe=>.ok (.nx e)
theorem Jo {t:GT}(h:PD X c e g) (ht:Cm X c tg t)
  (hq:PS X (.Assign [tg] e pos) (GD (tD c g) (tT c t))):KA X c (.Assign [tg] e pos) (nq t g):=f7 hq λE σ H ⟨J,env,sr,w⟩=>by refine ⟨J,env,sr,aC (aG w) λr wr v J1 H1 e1 r1=>?_⟩;obtain ⟨d,q,wr⟩:=jG wr;obtain ⟨J1',e1',s1,rd⟩:=freeze e1 r1 q;refine ⟨J1',env,d,sr.ext e1',rd,aC (aG wr) λe2 w2 σ' sr' _=>?_⟩;exact w2 σ' J1' H1 e1'.j sr'
noncomputable def Walk (c:C) (It:It) (ds:List D) (J1:Hp) (U:Hp->Hp->Prop):Prop:=∀(i:Nat) (J H:Hp),HI c J H->U J H->
 (ds.length<=i->It.stop i H)/\∀d,ds[i]?=some d->It.go i H/\∀x H2,It.yld i H x H2->∃J2,Ext J H J2 H2/\Rep c.K J2 d x
noncomputable def tI (c:C) (g:G (List D)):TI:=λσ H Q=>∃J env,SR c J H σ env/\cH (g env) (λds=>∀It J1 H1,Ext J H J1 H1->Walk c It ds J1 (λJ' _=>aW J1 J')->Q It H1) c.T
def N_ (X:Cx) (c:C) (tg Se:Tv) (g:G (List D)):Prop:=PI X tg Se (tI c g)
theorem vS {X:Cx}{tg it:Tv}{t t':TI}(h:PI X tg it t) (k:∀σ H Q,t' σ H Q->t σ H Q):PI X tg it t':=λSa s σ H Q I q=>h Sa s σ H Q I (k σ H Q q)
noncomputable def dS (t:GT) (u:G O):List D->Ev->M O
 | [],env=>.ok (.nx env)
 | d::ds,env=>t d env >>= λe=>u e >>= λo=>match o with
  | .nx e=>dS t u ds e
  | .ct e=>dS t u ds e
  | .bk e=>.ok (.nx e)
  | .rt r=>.ok (.rt r)
def fF (g:G (List D)) (t:GT) (u:G O):G O:=λenv=>g env >>= λds=>dS t u ds env
noncomputable def PX (g:G R):G (List D):=λenv=>g env >>= λr=>match r with
 | .d (.tup xs)=>.ok xs
 | _=>.bad
theorem n5 {J1:Hp}{a:SM}{vs:List V}{ds:List D}(h:cQ c.K J1 a vs\/cQ c.K c.H0 a vs) (hs:aL c.K J1 ds vs):Walk c (GN c.K a) ds J1 (λJ' _=>aW J1 J'):=by intro i J H hp u;have h':cQ c.K H a vs:=h.elim (λh=>hp.sub.seq (u.seq h)) λh=>hp.ent.seq h;refine ⟨λhl=>⟨vs,h',by rw [<-hs.length];exact hl⟩,λd hd=>?_⟩;obtain ⟨v,h1,h2⟩:=hs.get hd;refine ⟨⟨vs,v,h',h1⟩,λx H2 ⟨e,hy⟩=>?_⟩;subst e;have:=hy vs h';rw [h1] at this;cases this;exact ⟨J,Ext.refl hp.sub,h2.mono u⟩
def dH (lo:Int) (n:Nat):List D:=(Sx n).map λ(k:Nat)=>.int (lo + (k:Int))
theorem B8 {J1:Hp}{lo:Int}{n:Nat}{Ut:Hp->Hp->Prop}:Walk c (GP lo n) (dH lo n) J1 Ut:=by
 intro i J H hp u;refine ⟨λhl=>(show n<=i by simpa [dH] using hl),λd hd=>?_⟩;have hi:i < n:=by have:=(Td.mp hd).1;simpa [dH] using this
 have hd':d=.int (lo + i):=by unfold dH at hd;rw [S3,X6 hi] at hd;exact (TY hd).symm
 subst hd';exact ⟨hi,λx H2 ⟨e,hx⟩=>by subst e hx;exact ⟨J,Ext.refl hp.sub,.int _⟩⟩
noncomputable def dD (gs:G (List R)):G (List D):=λenv=>gs env >>= λrs=>match rs with
 | [.d (.int j)]=>if below 4611686018427387904 j then .ok (dH 0 j.toNat) else .bad
 | _=>.bad
noncomputable def Pz (c:C) (g:G (List D)):TI:=λσ H Q=>∃J env,SR c J H σ env/\cH (g env) (λds=>∀It J1 H1,Ext J H J1 H1->Walk c It ds J1 (λJ' H'=>aW J1 J'/\aW H1 H')->Q It H1) c.T
def N9 (X:Cx) (c:C) (tg Se:Tv) (g:G (List D)):Prop:=PI X tg Se (Pz c g)
end
section
variable {X:Cx}{c:C}{e a b tg:Tv}{es:List Tv}{ga gb g:G R}{pos:Pos}
theorem SR.updM {J H:Hp}{σ:L2.St}{env:Ev}(sr:SR c J H σ env){i:Nat}{x y:Mn}{p:SM}{o:HO}(hi:env[i]?=some (some (mS x))) (hs:σ[i]?=some (some (.ref p))) (hJ:J p=none) (h0:c.H0 p=none)
  (h:pP c J (L2.upd H p o) (mS y) (.ref p)) (hy:∀xs,y≠.nst xs:=by exact λ_ z=>nomatch z):SR c J (L2.upd H p o) σ (env.set i (some (mS y))):=by
 refine ⟨⟨λb o q=>?_,λb o q=>?_,sr.hp.entJ,sr.hp.frz⟩,by simpa using sr.len,λj y q=>?_,λj k ys zs w hjk q1 q2 q3 q4=>?_,sr.sp2.keep λk xs q=>?_⟩
 ·have:b≠p:=λz=>by rw [z,hJ] at q;cases q
  rw [a_ this];exact sr.hp.sub b o q
 ·have:b≠p:=λz=>by rw [z,h0] at q;cases q
  rw [a_ this];exact sr.hp.ent b o q
 ·rcases fq q with ⟨rfl,hl,rfl⟩ | ⟨hj,q⟩
  ·exact ⟨.ref p,hs,h⟩
  ·obtain ⟨w,k1,k2⟩:=sr.at_ j y q;refine ⟨w,k1,?_⟩;have hne:∀(z:Mn) p',y=mS z->w=.ref p'->p'≠p:=λz p' e ew ep=>sr.sep i j x z (.ref p) (UA hj) hi (e▸q) hs (ep▸ew▸k1);cases y with
   | d x=>exact k2
   | bor zs=>exact k2
   | db _ _=>exact k2
   | fn _=>exact k2
   | tn _=>exact k2
   | ob _ _=>exact k2
   | dk ks zs=>
    obtain ⟨p',rfl,⟨us,ws,ep,m1,mr⟩,m2⟩:=k2;exact ⟨p',rfl,⟨us,ws,ep,by rw [a_ (hne (.inr (ks,zs)) p' rfl rfl)];exact m1,mr⟩,m2⟩
   | oo k zs=>
    obtain ⟨p',rfl,⟨ws,m1,mr⟩,m2⟩:=k2;exact ⟨p',rfl,⟨ws,m1.mono λo q=>by rw [a_ (hne (.oo k zs) p' rfl rfl)];exact q,mr⟩,m2⟩
   | own zs=>
    obtain ⟨p',us,rfl,m1,m2,m3,m4⟩:=k2;exact ⟨p',us,rfl,by rw [a_ (hne (.inl zs) p' rfl rfl)];exact m1,m2,m3,m4⟩
   | ow2 zs=>
    obtain ⟨p',us,rfl,m1,m2,m3,m4⟩:=k2;exact ⟨p',us,rfl,by rw [a_ (hne (.nst zs) p' rfl rfl)];exact m1,m2,m3,m4⟩
 ·have f:∀(k:Nat) (ys:Mn),(env.set i (some (mS y)))[k]?=some (some (mS ys))->∃ys',env[k]?=some (some (mS ys')):=λk ys q=>by
   rcases fq q with ⟨rfl,_,_⟩ | ⟨_,q⟩
   ·exact ⟨x,hi⟩
   ·exact ⟨ys,q⟩
  obtain ⟨ys',r1⟩:=f j ys q1;obtain ⟨zs',r2⟩:=f k zs q2;exact sr.sep j k ys' zs' w hjk r1 r2 q3 q4
 ·rcases fq q with ⟨rfl,_,e⟩ | ⟨hk,q⟩
  ·exact (hy xs (by cases y <;> cases e;rfl)).elim
  ·obtain ⟨p',vs,m1,m2,_,_,_,m3⟩:=sr.nst q;have hne:p'≠p:=λe=>sr.sep i k x (.nst xs) (.ref p) (UA hk) hi q hs (e▸m1);exact ⟨⟨xs,q⟩,(jY m1 (by rw [a_ hne];exact m2)).trans m3.symm⟩
theorem SR.upd {J H:Hp}{env:Ev}(sr:SR c J H σ env) (hi:env[i]?=some (some (.own xs))) (hs:σ[i]?=some (some (.ref p))) (hH:H p=some (.lst vs)) (hJ:J p=none) (h0:c.H0 p=none)
 (h:aL c.K J xs' vs'):SR c J (L2.upd H p (.lst vs')) σ (env.set i (some (.own xs'))):=sr.updM (x:=.inl xs) (y:=.inl xs') hi hs hJ h0 ⟨p,vs',rfl,bD,hJ,h0,h⟩
noncomputable def dG (i:Nat) (g:G R):G O:=λenv=>match env[i]? with
 | some (some (.own xs))=>g env >>= λr=>toD r >>= λd=>if xs.length < sizeLine then .ok (.nx (env.set i (some (.own (xs++[d]))))) else .bad
 | _=>.bad
noncomputable def bI:R->S
 | .d x=>.d x
 | .l _ xs=>.bor xs
 | .mo ks vs=>.db ks vs
 | .mb ks vs=>.db ks vs
 | .mf ks vs=>.db ks vs
 | .ln xs=>.bor xs
 | .o _ k xs=>.ob k xs
noncomputable def iL (K:Sk) (J H:Hp):List S->List V->Prop
 | [],vs=>vs=[]
 | s::ss,vs=>∃v us,vs=v::us/\(match s with
  | .d x=>Rep K J x v
  | .bor xs=>∃a ws,v=.ref a/\cQ K H a ws/\aL K J xs ws
  | .db ks ws=>∃a,v=.ref a/\gJ K J H a ks ws
  | .ob k xs=>∃a,v=.ref a/\g8 K J H a k xs
  | .fn x=>∃f,v=.ref f/\S8 K SY x=some (some (.ref f))
  | _=>False)/\iL K J H ss us
theorem iL.length {K:Sk}{J H:Hp}:∀{ss:List S}{vs:List V},iL K J H ss vs->vs.length=ss.length
 | [],_,h=>by cases h;rfl
 | _::_,_,⟨_,_,h,_,h2⟩=>by subst h;exact congrArg (· + 1) h2.length
theorem iL.get {K:Sk}{J H:Hp}:∀{ss:List S}{vs:List V}{i:Nat}{s:S},iL K J H ss vs->ss[i]?=some s->∃v,vs[i]?=some v/\(match s with
  | .d x=>Rep K J x v
  | .bor xs=>∃a ws,v=.ref a/\cQ K H a ws/\aL K J xs ws
  | .db ks ws=>∃a,v=.ref a/\gJ K J H a ks ws
  | .ob k xs=>∃a,v=.ref a/\g8 K J H a k xs
  | .fn x=>∃f,v=.ref f/\S8 K SY x=some (some (.ref f))
  | _=>False)
 | [],_,_,_,_,e=>by simp at e
 | _::_,_,0,_,⟨v,us,h,h1,h2⟩,e=>by simp at e;subst e;subst h;exact ⟨v,rfl,h1⟩
 | _::_,_,i + 1,s,⟨v,us,h,h1,h2⟩,e=>by subst h;obtain ⟨v,k1,k2⟩:=iL.get (i:=i) (s:=s) h2 (by simpa using e);exact ⟨v,by simpa using k1,k2⟩
noncomputable def FR (K:Sk) (H J' H':Hp):R->V->Prop
 | .d x,v=>Rep K J' x v
 | .l _ xs,v=>∃a vs,v=.ref a/\H' a=some (.lst vs)/\J' a=none/\H a=none/\aL K J' xs vs
 | .mf ks vs,v=>∃a,v=.ref a/\gJ K J' H' a ks vs/\J' a=none/\H a=none
 | .ln xs,v=>∃a vs,v=.ref a/\H' a=some (.lst vs)/\J' a=none/\H a=none/\NR K J' (λb=>H b=none) xs vs
 | .o .fresh k xs,v=>∃a,v=.ref a/\g8 K J' H' a k xs/\J' a=none/\H a=none
 | _,_=>False
noncomputable def m6 (K:Sk) (n:Nat) (F:List S->M R):Sp:=λvs H Q _=>∃J as,aW J H/\as.length=n/\iL K J H as vs/\cH (F as) (λr=>∀v J' H',Ext J H J' H'->FR K H J' H' r v->Q v H') (λ_=>False)
noncomputable def fin:M O->M R
 | .ok (.rt r)=>.ok r
 | .ok (.nx _)=>.ok (.d .non)
 | .exc x=>.exc x
 | _=>.bad
def aF (N:List Str) (as:List S):Ev:=as.map some++Tq (N.length - as.length) none
theorem nW {N:List Str}{as:List S}{i:Nat}{x:S}(h:(aF N as)[i]?=some (some x)):as[i]?=some x:=by
 unfold aF at h;by_cases hi:i < as.length
 ·rw [U_ (by simpa using hi),S3] at h;cases q:as[i]? with
  | none=>rw [q] at h;cases h
  | some y=>rw [q] at h;cases h;rfl
 ·rw [Ux (by simpa using hi),WM] at h;split at h <;> cases h
theorem mz {N:List Str}{vs:List V}{i:Nat}{v:V}(h:vs[i]?=some v):(L2.start N vs)[i]?=some (some v):=by unfold L2.start;have hi:i < vs.length:=(Td.mp h).1;rw [U_ (by simpa using hi),S3,h];rfl
theorem yD {K:Sk}{J H:Hp}{T:Exc->Prop}{N:List Str}{as:List S}{vs:List V}(hs:aW J H) (h:iL K J H as vs):SR ⟨K,H,J,T⟩ J H (L2.start N vs) (aF N as):=by
 have own:∀(i:Nat) (xs:Mn),(aF N as)[i]?≠some (some (mS xs)):=λi xs q=>by obtain ⟨v,_,k⟩:=h.get (nW q);cases xs <;> exact k
 refine ⟨⟨hs,aW.refl H,aW.refl J,λ_ _ q=>q⟩,?_,λi x q=>?_,λi j xs ys v _ q=>absurd q (own i xs),λi j xs ys _ q=>absurd q (own i (.nst xs))⟩
 ·unfold aF L2.start;rw [SE,SE,So,So,Tz,Tz,h.length]
 ·obtain ⟨v,k1,k2⟩:=h.get (nW q);refine ⟨v,mz k1,?_⟩;cases x with
  | d y=>exact k2
  | own y=>exact k2.elim
  | bor y=>exact k2
  | dk _ _=>exact k2.elim
  | db _ _=>exact k2
  | fn _=>exact k2
  | ow2 _=>exact k2.elim
  | tn _=>exact k2.elim
  | oo _ _=>exact k2.elim
  | ob _ _=>exact k2
abbrev qM (P:SK) (w:S9) (K:Sk) (mg:Str->Option Sl) (base:Uo) (N:List Str) (Sf:Str) (sc:Wa) (f:SM) (cd:Sl) (A:Te) (outer:List Env) (s:Sn) (H:Hp) (E:XK):Cx:=(nj jI P w K mg base N Sf sc f cd A outer s H E).nox
theorem Lh {P:SK}{w:S9}{K:Sk}{mg:Str->Option Sl}{base:Uo}{x Sf:Str}{st:VQ}{f:SM}{fd:Tj}{N ps:List Str}{k:Nat}{Fm:List S->M R}(F:gg K x Sf st f fd) (Sc:cS N ps (aJ st)){gB:G O}
  (hb:∀(cdv:Sl) (A:Te) (outer:List Env) (s:Sn) (H:Hp) (E:XK) (J:Hp) (T:Exc->Prop),cO k (A.deeper (W3 Sf (aJ st) s.heap.objs.size f cdv))->
   iI (qM P w K mg base N Sf (aJ st) f cdv A outer s H E) (bB st) (tW ⟨K,H,J,T⟩ gB))
  (hF:∀as r,as.length=ps.length->Fm as=.ok r->fin (gB (aF N as))=.ok r):eT P w K mg base jI (k + 1) f fd ps (m6 K ps.length Fm):=by
 refine F.ok Sc (λvs H Q E h=>?_) (λcdv A outer s H vs Q E hr h=>?_)
 ·obtain ⟨J,as,h1,h2,h3,h4⟩:=h;rw [h3.length,h2]
 ·obtain ⟨J,as,h1,h2,h3,h4⟩:=h;refine ⟨_,hb cdv A outer s H E J (λ_=>False) hr,J,aF N as,yD h1 h3,?_⟩;cases q:Fm as with
  | bad=>rw [q] at h4;exact h4.elim
  | exc x=>rw [q] at h4;exact h4.elim
  | ok r=>
   rw [q] at h4;have z:=hF as r h2 q;have ext:∀{J' H':Hp},HI ⟨K,H,J,λ_=>False⟩ J' H'->Ext J H J' H':=λhp=>⟨hp.ent,hp.entJ,hp.sub,hp.frz⟩;cases qg:gB (aF N as) with
   | bad=>rw [qg] at z;cases z
   | exc x=>rw [qg] at z;cases z
   | ok o=>
    rw [qg] at z;cases o with
    | bk _=>cases z
    | ct _=>cases z
    | nx env=>cases z;exact λσ' J' H' _ sr=>h4 .non J' H' (ext sr.hp) .non
    | rt r'=>
     cases z;exact λv J' H' _ hp rf=>h4 v J' H' (ext hp) (by
      cases r with
      | d x=>exact rf
      | l m xs=>exact rf
      | mo _ _=>exact rf
      | mf _ _=>exact rf
      | ln _=>exact rf
      | o m _ _=>cases m <;> exact rf
      | mb _ _=>exact rf)
theorem CY {P:SK}{w:S9}{K:Sk}{mg:Str->Option Sl}{base:Uo}{x Sf:Str}{st:VQ}{f:SM}{fd:Tj}{N ps:List Str}{k:Nat}{Fm:List S->M R}(F:gg K x Sf st f fd) (Sc:cS N ps (aJ st)){gB:G O}
  (hb:∀(cdv:Sl) (A:Te) (outer:List Env) (s:Sn) (H:Hp) (E:XK) (J:Hp) (T:Exc->Prop),cO k (A.deeper (W3 Sf (aJ st) s.heap.objs.size f cdv))->
   GV (qM P w K mg base N Sf (aJ st) f cdv A outer s H E) ⟨K,H,J,T⟩ (bB st) gB)
  (hF:∀as r,as.length=ps.length->Fm as=.ok r->fin (gB (aF N as))=.ok r):eT P w K mg base jI (k + 1) f fd ps (m6 K ps.length Fm):=Lh F Sc (λcdv A outer s H E J T hr=>nK (hb cdv A outer s H E J T hr) λ_ _ _ q=>NW q) hF
noncomputable def cg:R->R
 | .d x=>.d x
 | .l _ xs=>.l .fresh xs
 | .mo ks vs=>.mo ks vs
 | .mb ks vs=>.mb ks vs
 | .mf ks vs=>.mf ks vs
 | .ln xs=>.ln xs
 | .o m k xs=>.o m k xs
noncomputable def aE (n:Nat) (F:List S->M R):List R->M R:=λrs=>if rs.length=n then (match F (rs.map bI) with
 | .ok r=>.ok (cg r)
 | _=>.bad) else .bad
theorem kZ.args {He J H:Hp}(hp:HI c J H):∀{rs:List R}{vs:List V},kZ c He J H rs vs->iL c.K J H (rs.map bI) vs
 | [],_,h=>h
 | r::rs,_,⟨v,us,h,h1,h2⟩=>by
  refine ⟨v,us,h,?_,kZ.args hp h2⟩;cases r with
  | d x=>exact h1
  | l m xs=>exact RR.list hp h1 rfl
  | mo _ _=>obtain ⟨a,h1,h2,_⟩:=h1;exact ⟨a,h1,h2⟩
  | mb _ _=>obtain ⟨a,h1,h2⟩:=h1;exact ⟨a,h1,h2.mono (aW.refl _) hp.ent⟩
  | mf _ _=>obtain ⟨a,h1,h2,_⟩:=h1;exact ⟨a,h1,h2⟩
  | o m _ _=>cases m with
   | own=>obtain ⟨a,h1,h2,_⟩:=h1;exact ⟨a,h1,h2⟩
   | fresh=>obtain ⟨a,h1,h2,_⟩:=h1;exact ⟨a,h1,h2⟩
   | bor=>obtain ⟨a,h1,h2⟩:=h1;exact ⟨a,h1,h2.mono (aW.refl _) hp.ent⟩
  | ln _=>obtain ⟨a,vs,h1,h2,_,_,h5⟩:=h1;exact ⟨a,vs,h1,.inl (.inl h2),h5.reps⟩
theorem NK {F:List S->M R}{J H J1 H1:Hp}{Q:VK}{as:List S}{T:Exc->Prop}(hT:c.K=X.K) (e1:Ext J H J1 H1) (ar:iL c.K J1 H1 as vs) (hl:as.length=n)
 (wr:cH (match F as with
 | .ok r=>.ok (cg r)
 | _=>.bad) (λr=>∀v J' H',Ext J H J' H'->RR c H J' H' r v->Q v H') T):m6 X.K n F (vs++[]) H1 Q E0:=by
 rw [hT] at ar;refine ⟨J1,as,e1.sub,hl,by rw [UB];exact ar,?_⟩;cases q:F as with
 | bad=>rw [q] at wr;exact wr
 | exc x=>rw [q] at wr;exact wr
 | ok r=>
  rw [q] at wr;intro v J' H' e2 fr;refine wr v J' H' (e1.trans e2) ?_;cases r with
  | d y=>exact (show Rep c.K J' y v from hT▸fr)
  | mo _ _=>exact fr.elim
  | mb _ _=>exact fr.elim
  | mf _ _=>obtain ⟨a,h1,h2,h3,h4⟩:=fr;exact ⟨a,h1,hT▸h2,h3,e1.h.free h4⟩
  | o m _ _=>cases m with
   | own=>exact fr.elim
   | bor=>exact fr.elim
   | fresh=>obtain ⟨a,h1,h2,h3,h4⟩:=fr;exact ⟨a,h1,hT▸h2,h3,e1.h.free h4⟩
  | ln _=>obtain ⟨a,us,h1,h2,h3,h4,h5⟩:=fr;exact ⟨a,us,h1,h2,h3,e1.h.free h4,hT▸h5.mono (aW.refl _) λ_ h=>e1.h.free h⟩
  | l m ys=>
   obtain ⟨a,us,h1,h2,h3,h4,h5⟩:=fr;exact ⟨a,us,h1,h2,h3,e1.h.free h4,hT▸h5⟩
theorem E1 {n:Nat}{F:List S->M R}{gs:G (List R)}(hT:c.K=X.K):∀σ H Q,tD c (gN (aE n F) gs) σ H Q->HJ (m6 X.K n F) [] E0 (tA c gs) σ H Q:=λσ H Q ⟨J,env,sr,w⟩=>by
 refine ⟨J,env,sr,aC (aG w) λrs wr vs J1 H1 e1 r1=>?_⟩;unfold aE at wr;split at wr
 ·rename_i hl;exact NK hT e1 (r1.args (sr.hp.ext e1)) (by simpa using hl) wr
 ·exact wr.elim
theorem Jq {F:List S->M R}{gs:G (List R)}(G:eT X.prog X.w X.K X.mg X.base jI k f fd ps (m6 X.K n F)) (hr:cO k X.A) (hm:X.mg x=some (.ref f)) (hk:T4 X.K (.ref f)=true)
 (hb:Binds X.K fd ps []) (ha:Ck X c (e::es) gs) (hT:autoParam (c.K=X.K) zA._auto_1) (hg:autoParam (Gl X x) zA._auto_1) (hdb:autoParam ((x == ("__debug__":Str))=false) zB._auto_1) (he:autoParam (SG (e::es) X.env=(false,eval e X.env)::SG es X.env) zA._auto_1)
 (hpl:autoParam ((Vf pos (SG es X.env)).any (·.1)=false) zA._auto_1):PD X c (.Call (.Name x p) (e::es) [] pos) (gN (aE n F) gs):=
 ef (Ag (E:=E0) G hr hg hm hk hb .nil Hu ha hdb he hpl) (E1 hT)
end
noncomputable def eO (cells:List (Str×SM)):List (Str×Vm)->List (Str×SM)->Option (List (Str×SM))
 | [],cs=>some cs
 | (n,k)::r,cs=>if k == .free then (match cells.lookup n with
  | some a=>eO cells r ((n,a)::cs)
  | none=>none) else eO cells r cs
theorem kJ {env:Env}:∀(names:List (Str×Vm)) (cs cl:List (Str×SM)),eO env.cells names cs=some cl->
  (forIn names cs λ(x:Str×Vm) (r:List (Str×SM))=>(if (x.2 == .free)=true then do let a <-cellOf env x.1;pure (Vt ((x.1,a)::r)) else pure (Vt r):Sem (ForInStep (List (Str×SM)))))=(pure cl:Sem (List (Str×SM)))
 | [],cs,cl,h=>by cases h;rfl
 | (n,k)::r,cs,cl,h=>by
  unfold eO at h;rw [List.forIn_cons];cases hk:(k == Uk) with
  | true=>
   rw [hk,if_pos rfl] at h;cases hc:env.cells.lookup n with
   | none=>rw [hc] at h;cases h
   | some a=>
    rw [hc] at h;have e:cellOf env n=pure a:=by unfold cellOf;rw [hc]
    simp only [hk,if_true,e];exact kJ r ((n,a)::cs) cl h
  | false=>
   rw [hk,if_neg (by decide)] at h;simp only [hk];exact kJ r cs cl h
theorem vz {R_:Wa}{env:Env}(h:eO env.cells R_.names []=some cl):closureFor R_ env=pure cl:=by have q:=kJ (env:=env) R_.names [] cl h;unfold closureFor;show ((forIn R_.names [] λ(x:Str×Vm) (r:List (Str×SM))=>(if (x.2 == .free)=true then do let a <-cellOf env x.1;pure (Vt ((x.1,a)::r)) else pure (Vt r):Sem (ForInStep (List (Str×SM))))) >>= λz=>pure z)=pure cl;rw [q];rfl
theorem gA {cells:List (Str×SM)}:∀(names:List (Str×Vm)) (cs cl:List (Str×SM)),eO cells names cs=some cl->(∀x c,cs.lookup x=some c->cells.lookup x=some c)->
  (∀x c,cl.lookup x=some c->cells.lookup x=some c)/\(∀x,((cs.lookup x).isSome=true\/(x,Uk)∈names)->(cl.lookup x).isSome=true)
 | [],cs,cl,h,k=>by cases h;exact ⟨k,λx hx=>hx.elim id λz=>by cases z⟩
 | (n,kd)::r,cs,cl,h,k=>by
  unfold eO at h;cases hk:(kd == Uk) with
  | true=>
   rw [hk,if_pos rfl] at h;cases hc:cells.lookup n with
   | none=>rw [hc] at h;cases h
   | some a=>
    rw [hc] at h;obtain ⟨h1,h2⟩:=gA r ((n,a)::cs) cl h (λx c q=>by
     rw [Uu] at q;cases e:x == n with
     | true=>
      rw [e] at q;cases q;have:x=n:=by simpa using e
      rw [this];exact hc
     | false=>rw [e] at q;exact k x c q)
    refine ⟨h1,λx hx=>h2 x ?_⟩;by_cases e:x=n
    ·left;subst e;rw [Uu];simp
    ·have e':(x == n)=false:=by simpa using e
     rcases hx with hx | hx
     ·left;rw [Uu,e'];exact hx
     ·right;rcases SN.mp hx with z | z
      ·cases z;exact absurd rfl e
      ·exact z
  | false=>
   rw [hk,if_neg (by decide)] at h;obtain ⟨h1,h2⟩:=gA r cs cl h k;refine ⟨h1,λx hx=>h2 x ?_⟩;rcases hx with hx | hx
   ·exact .inl hx
   ·rcases SN.mp hx with z | z
    ·cases z;simp at hk
    ·exact .inr z
section
variable {X:Cx}
def cN (X:Cx) (own:List Str) (cap:List Nat):List Str:=own++cap.map λ(j:Nat)=>(X.N[j]?).getD ("":Str)
noncomputable def K8 (X:Cx) (own:List Str) (cap:List Nat) (R_:Wa) (cl:List (Str×SM)) (C:SM) (s:Sn) (H:Hp) (fp:List SM):Cx where
 prog:=X.prog
 w:=X.w
 K:=X.K
 mg:=X.mg
 base:=X.base
 A:=X.A
 N:=cN X own cap
 s₀:=s
 H₀:=H
 env:=compEnvC R_ cl C X.env
 outer:=X.stack
 stack:=X.stack
 ex:=fp
 fn:=λ_=>false
 calm:=X.calm
 pn:=[]
 xe:=λ_ _=>False
noncomputable def n9 (X:Cx) (cap:List Nat):Bool:=cap.all λj=>match X.N[j]? with
 | some x=>(match X.env.scope.names.lookup x with
  | some .cell=>true
  | some .free=>true
  | _=>false)
 | none=>false
theorem yr {R_:Wa}(hc:∀y∈R_.names,y.2≠.cell):∀{x:Str},((relabel R_ env).names.lookup x=some .cell\/(relabel R_ env).names.lookup x=some .free)->(x,Uk)∈R_.names:=by
 unfold relabel;have main:∀(names:List (Str×Vm)),(∀y∈names,y.2≠.cell)->∀x,((names.map λ(n,k)=>if (k == Uk && env.scope.kind == .function && env.kindOf n == some .cell) then (n,WR) else (n,k)).lookup x=some .cell\/
   (names.map λ(n,k)=>if (k == Uk && env.scope.kind == .function && env.kindOf n == some .cell) then (n,WR) else (n,k)).lookup x=some .free)->(x,Uk)∈names:=by
  intro names
  induction names with
  | nil=>intro _ x h;simp at h
  | cons p r ih=>
   obtain ⟨n,k⟩:=p;intro hc x h;rw [S4] at h;simp only at h;by_cases hx:x=n
   ·subst hx;have hk:k≠.cell:=hc (x,k) Sv;have:k=.free:=by
     by_cases q:(k == Uk && env.scope.kind == .function && env.kindOf x == some .cell)=true
     ·rw [SI,SI] at q;simpa using q.1.1
     ·rw [if_neg q,Uu] at h;simp at h;rcases h with h | h
      ·exact absurd h hk
      ·exact h
    subst this;exact Sv
   ·have hx':(x == n)=false:=by simpa using hx
    refine Ss _ (ih (λy hy=>hc y (Ss _ hy)) x ?_);have red:∀(q:Str×Vm) (l:List (Str×Vm)),q.1=n->We x (q::l)=We x l:=λq l hq=>by obtain ⟨q1,q2⟩:=q;simp only at hq;subst hq;rw [Uu,hx']
    have hq:(if (k == Uk && env.scope.kind == .function && env.kindOf n == some .cell) then (n,WR) else (n,k)).1=n:=by split <;> rfl
    rw [red _ _ hq] at h;exact h
 intro x h;exact main R_.names hc x h
end
section
variable {X:Cx}{c:C}
noncomputable def AR (X:Cx) (c:C) (ifs:List Tv) (g:G Bool):Prop:=
 ∀(Sa:List (SM×Obj)) (s:Sn) (σ:L2.St) (H:Hp) (Q:Bool->Hp->Prop),Inv X Sa σ H s->tB c g σ H Q->
  SO (SX X.prog X.w) X.A (forIn ifs true λc r=>if r=true then do let ok <-aah c X.env (eval c X.env);pure (Vt ok) else pure (Vt r)) (TP X Sa σ Q) X.xe s
def fk:G Bool:=λ_=>.ok true
noncomputable def fz (gt:GT) (gts:G Bool) (ge:G R):List D->Ev->M (List D)
 | [],_=>.ok []
 | d::ds,env=>gt d env >>= λe=>gts e >>= λk=>if k=true then ge e >>= λr=>toD r >>= λy=>fz gt gts ge ds e >>= λys=>.ok (y::ys) else fz gt gts ge ds e
def cE (n:Nat) (cap:List Nat) (env:Ev):Ev:=Tq n none++cap.map λ(j:Nat)=>(env[j]?).getD none
noncomputable def cT (n:Nat) (cap:List Nat) (gi:G (List D)) (gt:GT) (gts:G Bool) (ge:G R):G R:=λenv=>gi env >>= λds=>if ds.length<=sizeLine then fz gt gts ge ds (cE n cap env) >>= λys=>.ok (.l .fresh ys) else .bad
theorem gY {α:Type}{n:Nat}{cap:List Nat}{env:List (Option α)}{i:Nat}{x:α}(h:(Tq n none++cap.map λ(j:Nat)=>(env[j]?).getD none)[i]?=some (some x)):∃j,n<=i/\cap[i - n]?=some j/\env[j]?=some (some x):=by
 by_cases hi:i < n
 ·rw [U_ (by simpa using hi),WM] at h;split at h <;> cases h
 ·rw [Ux (by simpa using hi),Tz,S3] at h;cases q:cap[i - n]? with
  | none=>rw [q] at h;cases h
  | some j=>
   rw [q] at h;refine ⟨j,by omega,rfl,?_⟩;have h':(env[j]?).getD none=some x:=TY h;cases z:env[j]? with
   | none=>rw [z] at h';cases h'
   | some o=>rw [z] at h';exact congrArg some h'
theorem G4 {α:Type}{n:Nat}{cap:List Nat}{env:List (Option α)}{i j:Nat}{x:α}(h1:n<=i) (h2:cap[i - n]?=some j) (h3:env[j]?=some (some x)):(Tq n none++cap.map λ(j:Nat)=>(env[j]?).getD none)[i]?=some (some x):=by rw [Ux (by simpa using h1),Tz,S3,h2];simp [h3]
theorem SR.cap {J H:Hp}{σ:L2.St}{env:Ev}(sr:SR c J H σ env) (n:Nat) (cap:List Nat) (hnd:cap.Nodup):SR c J H (Tq n none++cap.map λ(j:Nat)=>(σ[j]?).getD none) (cE n cap env):=by
 refine ⟨sr.hp,by simp [cE],λi x q=>?_,λi j xs ys v hij q1 q2 q3 q4=>?_,sr.sp2.by (λi=>(cap[i - n]?).getD 0) (λi j xs ys hij q1 q2 z=>?_) λi xs q=>?_⟩
 ·obtain ⟨j,h1,h2,h3⟩:=gY q;obtain ⟨v,k1,k2⟩:=sr.at_ j x h3;exact ⟨v,G4 h1 h2 k1,k2⟩
 ·obtain ⟨a,h1,h2,h3⟩:=gY q1;obtain ⟨b,h4,h5,h6⟩:=gY q2;obtain ⟨a',h7,h8,h9⟩:=gY q3;obtain ⟨b',R8,h11,h12⟩:=gY q4;rw [h2] at h8;cases h8;rw [h5] at h11;cases h11;have hab:a≠b:=λz=>by subst z;have e1:=(Td.mp h2);have e2:=(Td.mp h5);have:=(Xs hnd).mp (e1.2.trans e2.2.symm);omega
  exact sr.sep a b xs ys v hab h3 h6 h9 h12
 ·obtain ⟨a,h1,h2,h3⟩:=gY q1;obtain ⟨b,h4,h5,h6⟩:=gY q2;have e1:=(Td.mp h2);have e2:=(Td.mp h5);rw [h2,h5] at z;have:=(Xs hnd).mp (e1.2.trans ((show a=b from z).trans e2.2.symm));omega
 ·obtain ⟨a,h1,h2,h3⟩:=gY q;obtain ⟨p,vs,m1,m2,_,_,_,m3⟩:=sr.nst h3;rw [h2];exact ⟨⟨xs,h3⟩,(jY (G4 h1 h2 m1) m2).trans m3.symm⟩
theorem SR.other {J H:Hp}(sr:SR c J H σ env) (hJ:J p=none) (h0:c.H0 p=none) (hn:∀(j:Nat) (xs:Mn),env[j]?=some (some (mS xs))->σ[j]?≠some (some (.ref p))):SR c J (L2.upd H p o) σ env:=by
 refine ⟨⟨λb u q=>?_,λb u q=>?_,sr.hp.entJ,sr.hp.frz⟩,sr.len,λj y q=>?_,sr.sep,sr.sp2.keep λk xs q=>let ⟨p',vs,m1,m2,_,_,_,m3⟩:=sr.nst q;⟨⟨xs,q⟩,(jY m1 (by rw [a_ (show p'≠p from λe=>hn k (.nst xs) q (by rw [<-e];exact m1))];exact m2)).trans m3.symm⟩⟩
 ·have:b≠p:=λz=>by rw [z,hJ] at q;cases q
  rw [a_ this];exact sr.hp.sub b u q
 ·have:b≠p:=λz=>by rw [z,h0] at q;cases q
  rw [a_ this];exact sr.hp.ent b u q
 ·obtain ⟨w,k1,k2⟩:=sr.at_ j y q;refine ⟨w,k1,?_⟩;cases y with
  | d x=>exact k2
  | bor zs=>exact k2
  | db _ _=>exact k2
  | fn _=>exact k2
  | tn _=>exact k2
  | ob _ _=>exact k2
  | dk ks zs=>
   obtain ⟨p',rfl,⟨us,ws,ep,m1,mr⟩,m2⟩:=k2;have hne:p'≠p:=λz=>hn j (.inr (ks,zs)) q (z▸k1);exact ⟨p',rfl,⟨us,ws,ep,by rw [a_ hne];exact m1,mr⟩,m2⟩
  | oo k zs=>
   obtain ⟨p',rfl,⟨ws,m1,mr⟩,m2⟩:=k2;have hne:p'≠p:=λz=>hn j (.oo k zs) q (z▸k1);exact ⟨p',rfl,⟨ws,m1.mono λo q=>by rw [a_ hne];exact q,mr⟩,m2⟩
  | own zs=>
   obtain ⟨p',us,rfl,m1,m2,m3,m4⟩:=k2;have hne:p'≠p:=λz=>hn j (.inl zs) q (z▸k1);exact ⟨p',us,rfl,by rw [a_ hne];exact m1,m2,m3,m4⟩
  | ow2 zs=>
   obtain ⟨p',us,rfl,m1,m2,m3,m4⟩:=k2;have hne:p'≠p:=λz=>hn j (.nst zs) q (z▸k1);exact ⟨p',us,rfl,by rw [a_ hne];exact m1,m2,m3,m4⟩
theorem Ext.other {J H J' H':Hp}(e:Ext J H J' H') (h:H p=none) (hJ:J' p=none):Ext J H J' (L2.upd H' p o):=
 ⟨λb u q=>by rw [a_ (fJ q h)];exact e.h b u q,e.j,λb u q=>by
  have:b≠p:=λz=>by rw [z,hJ] at q;cases q
  rw [a_ this];exact e.sub b u q,e.frz⟩
theorem za {H:Hp}(x:eY P w H h) (hn:H a=none) (sb:UJ a h h'):eY P w H h':=λb u e=>by
 refine (x b u e).stay (λd v hd q=>(sb.2 d ?_).trans q) (λ_ q=>q) λ_ _ q=>q;rintro rfl;rcases hd with rfl | hd
 ·rw [hn] at e;cases e
 ·rw [hn] at hd;cases hd
theorem Pf {Sa:List (SM×Obj)}{σ:L2.St}{H:Hp}{s:Sn}{own:List Str}{cap:List Nat}{R_:Wa}{cl:List (Str×SM)}{fp:List SM}{h1:Uo}{m:Str->Option Sl}{tk:Nat}(I:Inv X Sa σ H s) (ok:(K8 X own cap R_ cl s.heap.objs.size s H fp).Ok)
  (hcl:eO X.env.cells R_.names []=some cl) (hcell:∀y∈R_.names,y.2≠.cell) (hcap:n9 X cap=true) (Qv:∀j∈cap,∀x,X.N[j]?=some x->(relabel R_ X.env).names.lookup x≠some .local)
  (hns:h1.Ns s.heap.objs.size m) (old:∀b o,s.heap.get? b=some o->h1.get? b=some o):
  Inv (K8 X own cap R_ cl s.heap.objs.size s H fp) [] (Tq own.length none++cap.map λ(j:Nat)=>(σ[j]?).getD none) H {s with heap:=h1,toks:=tk}:=by
 obtain ⟨m1,m2⟩:=gA R_.names [] cl hcl (λx c h=>by simp at h);refine ⟨ok,rfl,I.bare,Un.kept old,⟨m,hns,λi x v q1 q2 q3=>?_⟩,λx d h=>?_,I.hok.fresh (Sw _),λx d h=>I.freeC x d (m1 x d h),λp hp=>absurd (show p∈([]:List (SM×Obj)) from hp) (by simp),I.hok.kept old,?_⟩
 ·obtain ⟨j,h2,h3,h4⟩:=gY q2;have q1':(own++cap.map λ(j:Nat)=>(X.N[j]?).getD ("":Str))[i]?=some x:=q1;rw [Ux (by exact h2),S3,h3] at q1';have hj:j∈cap:=VR h3;have hc:(match X.N[j]? with
   | some x=>(match X.env.scope.names.lookup x with
    | some .cell=>true
    | some .free=>true
    | _=>false)
   | none=>false)=true:=by unfold n9 at hcap;exact TU.mp hcap j hj
  cases hx:X.N[j]? with
  | none=>rw [hx] at hc;cases hc
  | some y=>
   rw [VV,hx] at q1';rw [hx] at hc;have e:y=x:=by simpa using q1'
   subst e;have kd:X.env.kindOf y=some .cell\/X.env.kindOf y=some .free:=by
    unfold adI;simp only at hc;split at hc
    ·rename_i z;exact .inl z
    ·rename_i z;exact .inr z
    ·cases hc
   obtain ⟨mX,nX,lX⟩:=I.loc;obtain ⟨u,ru,lu⟩:=lX j y v hx h4 (kd.elim (λz=>.inr (.inl z)) λz=>.inr (.inr z));refine ⟨u,ru,.inr ?_⟩;have kd':(relabel R_ X.env).names.lookup y=some .cell\/(relabel R_ X.env).names.lookup y=some .free:=by
    rcases q3 with z | z | z
    ·exact absurd z (Qv j hj y hx)
    ·exact .inl z
    ·exact .inr z
   refine ⟨kd',?_⟩;obtain ⟨d,hd⟩:=Tr.mp (m2 y (.inr (yr hcell kd')));refine ⟨d,hd,?_⟩;rcases lu with ⟨z,_⟩ | ⟨_,d',hd',z⟩
   ·rcases kd with k | k <;> (rw [k] at z;cases z)
   ·have:=m1 y d hd;rw [hd'] at this;cases this;obtain ⟨o,ho,hod⟩:=z;exact ⟨o,old _ _ ho,hod⟩
 ·obtain ⟨v,o,ho,hod⟩:=I.cell x d (m1 x d h);exact ⟨v,o,old _ _ ho,hod⟩
 ·show _=(own++cap.map λ(j:Nat)=>(X.N[j]?).getD ("":Str)).length;simp
noncomputable def CH (X:Cx) (cap:List Nat) (R_:Wa):Bool:=cap.all λj=>match X.N[j]? with
 | some x=>!((relabel R_ X.env).names.lookup x == some .local)
 | none=>true
noncomputable def xY:List Nat->Bool
 | []=>true
 | x::r=>!(r.contains x) && xY r
theorem Ad:∀{l:List Nat},xY l=true->l.Nodup
 | [],_=>Wv
 | x::r,h=>by unfold xY at h;rw [SI] at h;refine Vs.mpr ⟨λz=>?_,Ad h.2⟩;have:=h.1;simp [z] at this
theorem KP {X:Cx}{H:Hp}{s:Sn}(I:L2.Inv X Sa σ H s) (h:s.heap.objs.size<=T):(T∈X.ex\/X.s₀.heap.objs.size<=T)/\T≠X.env.locals/\(∀x c,X.env.cells.lookup x=some c->c≠T)/\∀p∈X.pn++Sa,p.1≠T:=by have ne:∀b,b < s.heap.objs.size->b≠T:=λb hb z=>absurd (SW (z▸hb) h) (VF _);refine ⟨.inr (Tw I.sz h),(ne _ I.lt).symm,λx c hc=>?_,λp hp=>ne _ (SJ (I.pin p hp).1)⟩;obtain ⟨v,o,hv,_⟩:=I.cell x c hc;exact ne _ (SJ hv)
theorem DT {X:Cx}{H:Hp}{s:Sn}{C:SM}{o0:Obj}(I:L2.Inv X Sa σ H s) (ap:(C∈X.ex\/X.s₀.heap.objs.size<=C)/\C≠X.env.locals/\(∀x c,X.env.cells.lookup x=some c->c≠C)/\∀p∈X.pn++Sa,p.1≠C) (hf:H C=none) (sb:UJ C s.heap h'):L2.Inv X Sa σ H {s with heap:=h'}:=by
 refine I.call' (ch:=[C]) rfl ⟨λb o hb hn _ hx=>?_,λb o hb hn _ hx=>⟨o.slots,?_⟩,λ_ _ _ n _=>n,λb o hb hx=>⟨o,?_⟩,λ_ _ q=>q,λ_ _ _ q=>q,λ_ ps q=>⟨#[],by rw [q];simp⟩⟩ (λa o ha=>?_) I.bare (λb hb=>by rw [Su.mp hb];exact ap)
 ·exact (sb.2 b λz=>hx (by simp [z])).trans hb
 ·exact (sb.2 b λz=>hx (by simp [z])).trans hb
 ·exact (sb.2 b λz=>hx (by simp [z])).trans hb
 ·refine (I.hok a o ha).stay (λb u hb q=>(sb.2 b λz=>?_).trans q) (λ_ q=>q) λ_ _ q=>q;rcases hb with rfl | hb
  ·rw [z,hf] at ha;cases ha
  ·rw [z,hf] at hb;cases hb
end
mutual
noncomputable def cA:D->D->Bool
 | .non,.non=>true
 | .bl p,.bl q=>p == q
 | .bl p,.int q=>(if p then 1 else 0) == q
 | .int p,.bl q=>p == (if q then 1 else 0)
 | .int p,.int q=>p == q
 | .str p,.str q=>p == q
 | .tup p,.tup q=>fj p q
 | .lst p,.lst q=>fj p q
 | .emp,.emp=>true
 | .exn _ _ _,.exn _ _ _=>true
 | .dct _ _,.dct _ _=>true
 | .ob _ _,.ob _ _=>true
 | _,_=>false
noncomputable def fj:List D->List D->Bool
 | [],[]=>true
 | x::xs,y::ys=>cA x y && fj xs ys
 | _,_=>false
end
mutual
theorem pU:∀d:D,cA d d=true
 | .non=>by simp [cA]
 | .bl _=>by simp [cA]
 | .int _=>by simp [cA]
 | .str _=>by simp [cA]
 | .tup xs=>by simp only [cA];exact nk xs
 | .lst xs=>by simp only [cA];exact nk xs
 | .emp=>by simp [cA]
 | .exn _ _ _=>by simp [cA]
 | .dct _ _=>by simp [cA]
 | .ob _ _=>by simp [cA]
theorem nk:∀ds:List D,fj ds ds=true
 | []=>by simp [fj]
 | x::xs=>by simp only [fj,pU x,nk xs,Bool.and_self]
end
theorem lP:∀{xs ys:List D},xs.length≠ys.length->fj xs ys=false
 | [],[],h=>absurd rfl h
 | [],_::_,_=>by simp [fj]
 | _::_,[],_=>by simp [fj]
 | x::xs,y::ys,h=>by simp only [fj,lP (xs:=xs) (ys:=ys) (λz=>h (congrArg (· + 1) z)),Xk]
noncomputable def l6 (xs ys:List D) (j:Nat):Bool:=match xs[j]?,ys[j]? with
 | some x,some y=>cA x y
 | _,_=>false
theorem lQ:∀{xs ys:List D},xs.length=ys.length->(Sx xs.length).all (l6 xs ys)=fj xs ys
 | [],[],_=>by simp [fj]
 | x::xs,y::ys,h=>by have ih:=lQ (xs:=xs) (ys:=ys) (by simpa using h);rw [Ti,List.range_succ_eq_map,WS,List.all_map];simp only [fj];rw [<-ih];rfl
theorem xq (xs ys:List D):((Sx (min xs.length ys.length)).all (l6 xs ys) && xs.length == ys.length)=fj xs ys:=by
 by_cases h:xs.length=ys.length
 ·rw [<-h,Zs,lQ h];simp
 ·rw [lP h,beq_eq_false_iff_ne.mpr h,Xk]
section
structure HF (K:Sk) (J:Hp) (s:Sn):Prop where
 t:∀a xs,d8 K J a xs->∃Sb:List Sl,Vals xs Sb/\s.heap.IsTuple a Sb.toArray
 l:∀a xs,cQ K J a xs->∃Sb:List Sl,Vals xs Sb/\s.heap.IsList a Sb.toArray
 e:∀a,J a=some (.dK [])->∃o,s.heap.get? a=some o/\o.cls=.type "dict"
 d:∀a ep Sh,J a=some (G7 a ep Sh)->∃o es,s.heap.get? a=some o/\o.ExactDict/\o.data=.dict es ep/\Yx Kw Sh es.toList
variable {K:Sk}{J:Hp}{s:Sn}
theorem HF.of {X:Cx}{c:C}{H:Hp}(I:Inv X Sa σ H s) (hs:aW J H):HF X.K J s:=
 ⟨λa xs h=>let ⟨Sb,r,p,_⟩:=I.tuple (f_ hs h);⟨Sb,r,p⟩,λa xs h=>let ⟨Sb,r,p,_⟩:=I.list (hs.seq h);⟨Sb,r,p.isList⟩,λa h=>by
  obtain ⟨_,_,vs,_,p⟩:=(show bW X.prog X.w H s.heap a (.dK []) from I.hok a _ (hs _ _ h));obtain ⟨o,es,ep,h1,h2,_⟩:=p;exact ⟨o,h1,h2.1⟩,λa ep Sh h=>(show bW X.prog X.w H s.heap a (G7 a ep Sh) from I.hok a _ (hs _ _ h)).1⟩
theorem Dn {xs ys:List Sl}(h:s.heap.IsTuple a xs.toArray) (h':s.heap.IsTuple a ys.toArray):xs=ys:=by
 obtain ⟨o,ho,_,n,hd⟩:=h;obtain ⟨o',ho',_,n',hd'⟩:=h';rw [ho] at ho';cases ho';rw [hd] at hd';injection hd' with h1 _
 simpa using congrArg Zj h1
theorem Bm {xs ys:List Sl}(h:s.heap.IsList a xs.toArray) (h':s.heap.IsList a ys.toArray):xs=ys:=by
 obtain ⟨o,ho,_,n,hd⟩:=h;obtain ⟨o',ho',_,n',hd'⟩:=h';rw [ho] at ho';cases ho';rw [hd] at hd';injection hd' with h1 _
 simpa using congrArg Zj h1
mutual
theorem Rep.inj (F:HF K J s):∀{d e:D}{v:V},Rep K J d v->Rep K J e v->dep d<=1000->dep e<=1000->d=e
 | _,_,_,.emp _,_,h,_=>by unfold dep at h;omega
 | _,_,_,.exn _ _ _ _ _,_,h,_=>by unfold dep at h;omega
 | _,_,_,.dct _ _ _ _ _,_,h,_=>by unfold dep at h;omega
 | _,_,_,.ob _ _,_,h,_=>by unfold dep at h;omega
 | _,_,_,.non,.non,_,_=>rfl
 | _,_,_,.bl _,.bl _,_,_=>rfl
 | _,_,_,.int _,.int _,_,_=>rfl
 | _,_,_,.str _,.str _,_,_=>rfl
 | _,_,_,.tup _ _,.emp _,_,h=>by unfold dep at h;omega
 | _,_,_,.lst _ _,.emp _,_,h=>by unfold dep at h;omega
 | _,_,_,.tup _ _,.exn _ _ _ _ _,_,h=>by unfold dep at h;omega
 | _,_,_,.tup _ _,.dct _ _ _ _ _,_,h=>by unfold dep at h;omega
 | _,_,_,.tup _ _,.ob _ _,_,h=>by unfold dep at h;omega
 | _,_,_,.lst _ _,.exn _ _ _ _ _,_,h=>by unfold dep at h;omega
 | _,_,_,.lst _ _,.dct _ _ _ _ _,_,h=>by unfold dep at h;omega
 | _,_,_,.lst _ _,.ob _ _,_,h=>by unfold dep at h;omega
 | _,_,_,.tup h hs,.tup h' hs',k,k'=>by obtain ⟨Sb,r,p⟩:=F.t _ _ h;obtain ⟨its',r',p'⟩:=F.t _ _ h';have:=Dn p p';subst this;have:=r.inj r';subst this;rw [aL.inj F hs hs' (by unfold dep at k;omega) (by unfold dep at k';omega)]
 | _,_,_,.lst h hs,.lst h' hs',k,k'=>by obtain ⟨Sb,r,p⟩:=F.l _ _ h;obtain ⟨its',r',p'⟩:=F.l _ _ h';have:=Bm p p';subst this;have:=r.inj r';subst this;rw [aL.inj F hs hs' (by unfold dep at k;omega) (by unfold dep at k';omega)]
 | _,_,_,.tup h _,.lst h' _,_,_=>by obtain ⟨Sb,r,p⟩:=F.t _ _ h;obtain ⟨its',r',p'⟩:=F.l _ _ h';exact absurd rfl (Zc p' p)
 | _,_,_,.lst h _,.tup h' _,_,_=>by obtain ⟨Sb,r,p⟩:=F.l _ _ h;obtain ⟨its',r',p'⟩:=F.t _ _ h';exact absurd rfl (Zc p p')
theorem aL.inj (F:HF K J s):∀{ds es:List D}{vs:List V},aL K J ds vs->aL K J es vs->deps ds<=1000->deps es<=1000->ds=es
 | _,_,_,.nil,.nil,_,_=>rfl
 | _,_,_,.cons h hs,.cons h' hs',k,k'=>by rw [Rep.inj F h h' (by unfold deps at k;omega) (by unfold deps at k';omega),aL.inj F hs hs' (by unfold deps at k;omega) (by unfold deps at k';omega)]
end
theorem iH {A:Te}(h:s.heap.IsTuple a Sb) (r:RelV v u) (f:qT v=true) (hu:A.units < VP):Vq A s (.ref a) u false/\Vq A s u (.ref a) false:=by
 cases v with
 | non=>cases r;exact ⟨.tuple_none h hu,.none_tuple h hu⟩
 | bl b=>cases r;exact ⟨.tuple_bool b h hu,.bool_tuple b h hu⟩
 | int i=>obtain ⟨t,rfl⟩:=r;exact ⟨.tuple_int i t h hu,.int_tuple i t h hu⟩
 | str x=>obtain ⟨t,rfl⟩:=r;exact ⟨.tuple_str x t h hu,.str_tuple x t h hu⟩
 | _=>exact absurd (show false=true from f) TH
theorem ji {A:Te}(h:s.heap.IsList a Sb) (r:RelV v u) (f:qT v=true) (hu:A.units < VP):Vq A s (.ref a) u false/\Vq A s u (.ref a) false:=by
 cases v with
 | non=>cases r;exact ⟨.list_none h hu,.none_list h hu⟩
 | bl b=>cases r;exact ⟨.list_bool b h hu,.bool_list b h hu⟩
 | int i=>obtain ⟨t,rfl⟩:=r;exact ⟨.list_int i t h hu,.int_list i t h hu⟩
 | str x=>obtain ⟨t,rfl⟩:=r;exact ⟨.list_str x t h hu,.str_list x t h hu⟩
 | _=>exact absurd (show false=true from f) TH
noncomputable def nD:D->Bool
 | .tup _=>false
 | .lst _=>false
 | .emp=>false
 | .exn _ _ _=>false
 | .dct _ _=>false
 | .ob _ _=>false
 | _=>true
theorem Rep.flat (h:Rep K J d v) (f:nD d=true):qT v=true:=by cases h <;> first | rfl | cases f
theorem Fg (h:Rep K J d v) (h':Rep K J e w) (f:nD d=true) (f':nD e=true):Lc v w=cA d e:=by cases h <;> cases h' <;> first | rfl | cases f | cases f' | simp [Lc,cA]
theorem in1_units (A:Te):A.in1.units=A.units + 1:=rfl
theorem qS (F:HF K J s) (A:Te) (hd:Rep K J d v) (he:Rep K J e w) (rv:RelV v u) (rw':RelV w u') (f:nD d=true) (hu:A.units < VP) (hu':dep e<=1000):Vq A s u u' (cA d e):=by
 cases q:nD e with
 | true=>rw [<-Fg hd he f q];exact Lb rv rw' (hd.flat f) (he.flat q)
 | false=>
  cases he with
  | tup h' hs'=>
   cases rw';obtain ⟨its',r',p'⟩:=F.t _ _ h';have:=(iH p' rv (hd.flat f) hu).2;cases hd <;> first | exact this | cases f
  | lst h' hs'=>
   cases rw';obtain ⟨its',r',p'⟩:=F.l _ _ h';have:=(ji p' rv (hd.flat f) hu).2;cases hd <;> first | exact this | cases f
  | emp _=>unfold dep at hu';omega
  | exn _ _ _ _ _=>unfold dep at hu';omega
  | dct _ _ _ _ _=>unfold dep at hu';omega
  | ob _ _=>unfold dep at hu';omega
  | _=>cases q
mutual
theorem qQ (F:HF K J s):∀{d e:D}{v w:V}{u u':Sl}(A:Te),Rep K J d v->Rep K J e w->RelV v u->RelV w u'->A.units + dep d < VP->dep d<=1000->dep e<=1000->Vq A s u u' (cA d e)
 | .tup ds,e,_,w,u,u',A,.tup h hs,he,rv,rw',hu,hd1,hu'=>by
  cases rv;obtain ⟨Sb,r,p⟩:=F.t _ _ h;have P1:A.units < VP:=by unfold dep at hu;omega
  cases he with
  | tup h' hs'=>
   cases rw';obtain ⟨its',r',p'⟩:=F.t _ _ h';rename_i a vs b ws es;by_cases q:a=b
   ·subst q;have:=Rep.inj F (.tup h hs) (.tup h' hs') hd1 hu';rw [<-this,pU];exact Zp _
   ·have l1:Sb.length=ds.length:=by rw [<-r.length,hs.length]
    have l2:its'.length=es.length:=by rw [<-r'.length,hs'.length]
    simp only [cA];rw [<-xq,<-l1,<-l2];refine aat q ?_;have:=aaL (e:=l6 ds es) p p' P1 λj j1 j2=>by
     have k1:j < ds.length:=by rw [<-l1];simpa using j1
     have k2:j < es.length:=by rw [<-l2];simpa using j2
     have:=k8 F A.in1 hs hs' r r' (by rw [in1_units];unfold dep at hu;omega) (by unfold dep at hd1;omega) (by unfold dep at hu';omega) j k1 k2;have m1:j < Sb.length:=by simpa using j1
     have m2:j < its'.length:=by simpa using j2
     simpa [m1,m2] using this
    simpa using this
  | lst h' hs'=>
   cases rw';obtain ⟨its',r',p'⟩:=F.l _ _ h';exact acK p p' P1
  | non=>exact (iH p rw' rfl P1).1
  | bl _=>exact (iH p rw' rfl P1).1
  | int _=>exact (iH p rw' rfl P1).1
  | str _=>exact (iH p rw' rfl P1).1
  | emp _=>unfold dep at hu';omega
  | exn _ _ _ _ _=>unfold dep at hu';omega
  | dct _ _ _ _ _=>unfold dep at hu';omega
  | ob _ _=>unfold dep at hu';omega
 | .lst ds,e,_,w,u,u',A,.lst h hs,he,rv,rw',hu,hd1,hu'=>by
  cases rv;obtain ⟨Sb,r,p⟩:=F.l _ _ h;have P1:A.units < VP:=by unfold dep at hu;omega
  cases he with
  | lst h' hs'=>
   cases rw';obtain ⟨its',r',p'⟩:=F.l _ _ h';rename_i a vs b ws es;by_cases q:a=b
   ·subst q;have:=Rep.inj F (.lst h hs) (.lst h' hs') hd1 hu';rw [<-this,pU];exact Zp _
   ·have l1:Sb.length=ds.length:=by rw [<-r.length,hs.length]
    have l2:its'.length=es.length:=by rw [<-r'.length,hs'.length]
    simp only [cA];refine aat q ?_;by_cases z:ds.length=es.length
    ·rw [<-lQ z,<-l1];have:=aa_ (e:=l6 ds es) p p' (by simp;omega) P1 λj j1 j2=>by
      have k1:j < ds.length:=by rw [<-l1];simpa using j1
      have k2:j < es.length:=by rw [<-l2];simpa using j2
      have:=k8 F A.in1 hs hs' r r' (by rw [in1_units];unfold dep at hu;omega) (by unfold dep at hd1;omega) (by unfold dep at hu';omega) j k1 k2;have m1:j < Sb.length:=by simpa using j1
      have m2:j < its'.length:=by simpa using j2
      simpa [m1,m2] using this
     simpa using this
    ·rw [lP z];exact ace p p' (by simp;omega) P1
  | tup h' hs'=>
   cases rw';obtain ⟨its',r',p'⟩:=F.t _ _ h';exact acL p p' P1
  | non=>exact (ji p rw' rfl P1).1
  | bl _=>exact (ji p rw' rfl P1).1
  | int _=>exact (ji p rw' rfl P1).1
  | str _=>exact (ji p rw' rfl P1).1
  | emp _=>unfold dep at hu';omega
  | exn _ _ _ _ _=>unfold dep at hu';omega
  | dct _ _ _ _ _=>unfold dep at hu';omega
  | ob _ _=>unfold dep at hu';omega
 | .non,e,v,w,u,u',A,hd,he,rv,rw',hu,_,hu'=>qS F A hd he rv rw' rfl (by omega) hu'
 | .bl _,e,v,w,u,u',A,hd,he,rv,rw',hu,_,hu'=>qS F A hd he rv rw' rfl (by omega) hu'
 | .int _,e,v,w,u,u',A,hd,he,rv,rw',hu,_,hu'=>qS F A hd he rv rw' rfl (by omega) hu'
 | .emp,e,v,w,u,u',A,hd,he,rv,rw',hu,hd1,hu'=>by unfold dep at hd1;omega
 | .exn _ _ _,e,v,w,u,u',A,hd,he,rv,rw',hu,hd1,hu'=>by unfold dep at hd1;omega
 | .dct _ _,e,v,w,u,u',A,hd,he,rv,rw',hu,hd1,hu'=>by unfold dep at hd1;omega
 | .ob _ _,e,v,w,u,u',A,hd,he,rv,rw',hu,hd1,hu'=>by unfold dep at hd1;omega
 | .str _,e,v,w,u,u',A,hd,he,rv,rw',hu,_,hu'=>qS F A hd he rv rw' rfl (by omega) hu'
theorem k8 (F:HF K J s):∀{ds es:List D}{vs ws:List V}{us us':List Sl}(A:Te),aL K J ds vs->aL K J es ws->Vals vs us->Vals ws us'->A.units + deps ds < VP->deps ds<=1000->deps es<=1000->
  ∀(j:Nat) (h1:j < ds.length) (h2:j < es.length),Vq A s (us.getD j .none) (us'.getD j .none) (l6 ds es j)
 | _,_,_,_,_,_,A,.cons h hs,.cons h' hs',.cons r rs,.cons r' rs',hu,k1,k2,0,_,_=>qQ F A h h' r r' (by unfold deps at hu;omega) (by unfold deps at k1;omega) (by unfold deps at k2;omega)
 | _,_,_,_,_,_,A,.cons h hs,.cons h' hs',.cons r rs,.cons r' rs',hu,k1,k2,j + 1,h1,h2=>k8 F A hs hs' rs rs' (by unfold deps at hu;omega) (by unfold deps at k1;omega) (by unfold deps at k2;omega) j (by simpa using h1) (by simpa using h2)
end
end
section
variable {K:Sk}{J:Hp}{s:Sn}
theorem Ed (F:HF K J s) (A:Te) (hd:Rep K J d v) (he:Rep K J e w) (rv:RelV v u) (rw':RelV w u') (hu:A.units + dep d < VP) (hd1:dep d<=1000) (hu':dep e<=1000):SeqAt.RcAt A s u u' (cA d e)/\SeqAt.RcNeAt A s u u' (!cA d e):=by
 have P1:A.units < VP:=by omega
 cases hd with
 | non=>
  cases rv;cases he with
  | non=>cases rw';exact ⟨.none_none,.none_none⟩
  | bl b=>cases rw';exact ⟨.none_bool b,.none_bool b⟩
  | int i=>obtain ⟨t,rfl⟩:=rw';exact ⟨.none_int i t,.none_int i t⟩
  | str x=>obtain ⟨t,rfl⟩:=rw';exact ⟨.none_str x t,.none_str x t⟩
  | tup h hs=>cases rw';obtain ⟨Sb,r,p⟩:=F.t _ _ h;exact ⟨.none_tuple p P1,.none_tuple p P1⟩
  | lst h hs=>cases rw';obtain ⟨Sb,r,p⟩:=F.l _ _ h;exact ⟨.none_list p P1,.none_list p P1⟩
  | emp _=>unfold dep at hu';omega
  | exn _ _ _ _ _=>unfold dep at hu';omega
  | dct _ _ _ _ _=>unfold dep at hu';omega
  | ob _ _=>unfold dep at hu';omega
 | bl a=>
  cases rv;cases he with
  | non=>cases rw';exact ⟨.bool_none a,.bool_none a⟩
  | bl b=>cases rw';exact ⟨.bool_bool a b,.bool_bool a b⟩
  | int i=>obtain ⟨t,rfl⟩:=rw';exact ⟨.bool_int a i t,.bool_int a i t⟩
  | str x=>obtain ⟨t,rfl⟩:=rw';exact ⟨.bool_str a x t,.bool_str a x t⟩
  | tup h hs=>cases rw';obtain ⟨Sb,r,p⟩:=F.t _ _ h;exact ⟨.bool_tuple a p P1,.bool_tuple a p P1⟩
  | lst h hs=>cases rw';obtain ⟨Sb,r,p⟩:=F.l _ _ h;exact ⟨.bool_list a p P1,.bool_list a p P1⟩
  | emp _=>unfold dep at hu';omega
  | exn _ _ _ _ _=>unfold dep at hu';omega
  | dct _ _ _ _ _=>unfold dep at hu';omega
  | ob _ _=>unfold dep at hu';omega
 | int a=>
  obtain ⟨t0,rfl⟩:=rv;cases he with
  | non=>cases rw';exact ⟨.int_none a t0,.int_none a t0⟩
  | bl b=>cases rw';exact ⟨.int_bool a t0 b,.int_bool a t0 b⟩
  | int i=>obtain ⟨t,rfl⟩:=rw';exact ⟨.int_int a t0 i t,.int_int a t0 i t⟩
  | str x=>obtain ⟨t,rfl⟩:=rw';exact ⟨.int_str a t0 x t,.int_str a t0 x t⟩
  | tup h hs=>cases rw';obtain ⟨Sb,r,p⟩:=F.t _ _ h;exact ⟨.int_tuple a t0 p P1,.int_tuple a t0 p P1⟩
  | lst h hs=>cases rw';obtain ⟨Sb,r,p⟩:=F.l _ _ h;exact ⟨.int_list a t0 p P1,.int_list a t0 p P1⟩
  | emp _=>unfold dep at hu';omega
  | exn _ _ _ _ _=>unfold dep at hu';omega
  | dct _ _ _ _ _=>unfold dep at hu';omega
  | ob _ _=>unfold dep at hu';omega
 | str a=>
  obtain ⟨t0,rfl⟩:=rv;cases he with
  | non=>cases rw';exact ⟨.str_none a t0,.str_none a t0⟩
  | bl b=>cases rw';exact ⟨.str_bool a t0 b,.str_bool a t0 b⟩
  | int i=>obtain ⟨t,rfl⟩:=rw';exact ⟨.str_int a t0 i t,.str_int a t0 i t⟩
  | str x=>obtain ⟨t,rfl⟩:=rw';exact ⟨.str_str a t0 x t,.str_str a t0 x t⟩
  | tup h hs=>cases rw';obtain ⟨Sb,r,p⟩:=F.t _ _ h;exact ⟨.str_tuple a t0 p P1,.str_tuple a t0 p P1⟩
  | lst h hs=>cases rw';obtain ⟨Sb,r,p⟩:=F.l _ _ h;exact ⟨.str_list a t0 p P1,.str_list a t0 p P1⟩
  | emp _=>unfold dep at hu';omega
  | exn _ _ _ _ _=>unfold dep at hu';omega
  | dct _ _ _ _ _=>unfold dep at hu';omega
  | ob _ _=>unfold dep at hu';omega
 | tup h hs=>
  cases rv;obtain ⟨Sb,r,p⟩:=F.t _ _ h;cases he with
  | non=>cases rw';exact ⟨.tuple_none p P1,.tuple_none p P1⟩
  | bl b=>cases rw';exact ⟨.tuple_bool b p P1,.tuple_bool b p P1⟩
  | int i=>obtain ⟨t,rfl⟩:=rw';exact ⟨.tuple_int i t p P1,.tuple_int i t p P1⟩
  | str x=>obtain ⟨t,rfl⟩:=rw';exact ⟨.tuple_str x t p P1,.tuple_str x t p P1⟩
  | lst h' hs'=>cases rw';obtain ⟨its',r',p'⟩:=F.l _ _ h';exact ⟨.tuple_list p p' P1,.tuple_list p p' P1⟩
  | emp _=>unfold dep at hu';omega
  | exn _ _ _ _ _=>unfold dep at hu';omega
  | dct _ _ _ _ _=>unfold dep at hu';omega
  | ob _ _=>unfold dep at hu';omega
  | tup h' hs'=>
   cases rw';obtain ⟨its',r',p'⟩:=F.t _ _ h';rename_i a vs ds b ws es;have l1:Sb.length=ds.length:=by rw [<-r.length,hs.length]
   have l2:its'.length=es.length:=by rw [<-r'.length,hs'.length]
   have it:∀(j:Nat) (j1:j < Sb.toArray.size) (j2:j < its'.toArray.size),Vq A.in1 s Sb.toArray[j] its'.toArray[j] (l6 ds es j):=λj j1 j2=>by
    have k1:j < ds.length:=by rw [<-l1];simpa using j1
    have k2:j < es.length:=by rw [<-l2];simpa using j2
    have:=k8 F A.in1 hs hs' r r' (by rw [in1_units];unfold dep at hu;omega) (by unfold dep at hd1;omega) (by unfold dep at hu';omega) j k1 k2;have m1:j < Sb.length:=by simpa using j1
    have m2:j < its'.length:=by simpa using j2
    simpa [m1,m2] using this
   simp only [cA];rw [<-xq,<-l1,<-l2];have q1:=aaL p p' P1 it;have q2:=adj p p' P1 it;exact ⟨by simpa using q1,by simpa using q2⟩
 | emp _=>unfold dep at hd1;omega
 | exn _ _ _ _ _=>unfold dep at hd1;omega
 | dct _ _ _ _ _=>unfold dep at hd1;omega
 | ob _ _=>unfold dep at hd1;omega
 | lst h hs=>
  cases rv;obtain ⟨Sb,r,p⟩:=F.l _ _ h;cases he with
  | non=>cases rw';exact ⟨.list_none p P1,.list_none p P1⟩
  | bl b=>cases rw';exact ⟨.list_bool b p P1,.list_bool b p P1⟩
  | int i=>obtain ⟨t,rfl⟩:=rw';exact ⟨.list_int i t p P1,.list_int i t p P1⟩
  | str x=>obtain ⟨t,rfl⟩:=rw';exact ⟨.list_str x t p P1,.list_str x t p P1⟩
  | tup h' hs'=>cases rw';obtain ⟨its',r',p'⟩:=F.t _ _ h';exact ⟨.list_tuple p p' P1,.list_tuple p p' P1⟩
  | emp _=>unfold dep at hu';omega
  | exn _ _ _ _ _=>unfold dep at hu';omega
  | dct _ _ _ _ _=>unfold dep at hu';omega
  | ob _ _=>unfold dep at hu';omega
  | lst h' hs'=>
   cases rw';obtain ⟨its',r',p'⟩:=F.l _ _ h';rename_i a vs ds b ws es;have l1:Sb.length=ds.length:=by rw [<-r.length,hs.length]
   have l2:its'.length=es.length:=by rw [<-r'.length,hs'.length]
   have it:∀(j:Nat) (j1:j < Sb.toArray.size) (j2:j < its'.toArray.size),Vq A.in1 s Sb.toArray[j] its'.toArray[j] (l6 ds es j):=λj j1 j2=>by
    have k1:j < ds.length:=by rw [<-l1];simpa using j1
    have k2:j < es.length:=by rw [<-l2];simpa using j2
    have:=k8 F A.in1 hs hs' r r' (by rw [in1_units];unfold dep at hu;omega) (by unfold dep at hd1;omega) (by unfold dep at hu';omega) j k1 k2;have m1:j < Sb.length:=by simpa using j1
    have m2:j < its'.length:=by simpa using j2
    simpa [m1,m2] using this
   simp only [cA];by_cases z:ds.length=es.length
   ·rw [<-lQ z,<-l1];have q1:=aa_ p p' (by simp;omega) P1 it;have q2:=adB p p' (by simp;omega) P1 it;exact ⟨by simpa using q1,by simpa using q2⟩
   ·rw [lP z];exact ⟨.lists_lengths p p' (by simp;omega) P1,.lists_lengths p p' (by simp;omega) P1⟩
end
section
variable {X:Cx}{c:C}{e a b tg:Tv}{es:List Tv}{ga gb g:G R}{pos:Pos}
theorem RR.rep {He J H:Hp}(hp:HI c J H):∀{r:R}{v:V}{d:D},RR c He J H r v->(∀xs,r=.l .fresh xs\/r=.l .own xs\/r=.l .bor xs->d=.lst xs)->(∀x,r=.d x->d=x)->(∀ks vs,r≠.mo ks vs/\r≠.mb ks vs/\r≠.mf ks vs/\r≠.ln ks/\∀m k,r≠.o m k ks)->Rep c.K H d v
 | .o _ _ _,_,_,_,_,_,n=>((n _ []).2.2.2.2 _ _ rfl).elim
 | .mo _ _,_,_,_,_,_,n=>((n _ _).1 rfl).elim
 | .mb _ _,_,_,_,_,_,n=>((n _ _).2.1 rfl).elim
 | .mf _ _,_,_,_,_,_,n=>((n _ _).2.2.1 rfl).elim
 | .ln _,_,_,_,_,_,n=>((n _ []).2.2.2.1 rfl).elim
 | .d x,v,d,h,_,k,_=>by rw [k x rfl];exact Rep.mono hp.sub h
 | .l m xs,v,d,h,k,_,_=>by have e:d=.lst xs:=k xs (by cases m;exact .inl rfl;exact .inr (.inl rfl);exact .inr (.inr rfl));obtain ⟨a,vs,rfl,h1,h2⟩:=RR.list hp h rfl;rw [e];exact .lst h1 (h2.mono hp.sub)
noncomputable def R.dat:R->D
 | .d x=>x
 | .l _ xs=>.lst xs
 | .mo ks vs=>.dct ks vs
 | .mb ks vs=>.dct ks vs
 | .mf ks vs=>.dct ks vs
 | .ln xs=>.lst xs
 | .o _ k xs=>.ob k xs
theorem RR.dat {He J H:Hp}(hp:HI c J H){r:R}(h:RR c He J H r v):Rep c.K H r.dat v:=by
 by_cases hm:∃ks vs,r=.mo ks vs
 ·obtain ⟨ks,vs,rfl⟩:=hm;obtain ⟨a,rfl,h,_⟩:=h;exact h.rep hp.sub
 by_cases hb:∃ks vs,r=.mb ks vs
 ·obtain ⟨ks,vs,rfl⟩:=hb;obtain ⟨a,rfl,h⟩:=h;exact (h.mono (aW.refl _) hp.ent).rep hp.sub
 by_cases hf:∃ks vs,r=.mf ks vs
 ·obtain ⟨ks,vs,rfl⟩:=hf;obtain ⟨a,rfl,h,_⟩:=h;exact h.rep hp.sub
 by_cases hl:∃xs,r=.ln xs
 ·obtain ⟨xs,rfl⟩:=hl;obtain ⟨a,vs,rfl,h,_,_,h5⟩:=h;exact .lst (.inl (.inl h)) (h5.reps.mono hp.sub)
 by_cases ho:∃m k xs,r=.o m k xs
 ·obtain ⟨m,k,xs,rfl⟩:=ho;cases m with
  | fresh=>obtain ⟨a,rfl,⟨vs,h,h5⟩,_⟩:=h;exact .ob h (h5.mono hp.sub)
  | own=>obtain ⟨a,rfl,⟨vs,h,h5⟩,_⟩:=h;exact .ob h (h5.mono hp.sub)
  | bor=>obtain ⟨a,rfl,vs,h,h5⟩:=h;exact .ob (h.mono (hp.ent _)) (h5.mono hp.sub)
 refine h.rep hp (λxs q=>?_) (λx q=>by rw [q];rfl) λks vs=>⟨λz=>hm ⟨_,_,z⟩,λz=>hb ⟨_,_,z⟩,λz=>hf ⟨_,_,z⟩,λz=>hl ⟨_,z⟩,λm k z=>ho ⟨m,k,_,z⟩⟩;rcases q with q | q | q <;> (rw [q];rfl)
def Gq (K:Sk) (neg:Bool):R2:=λx y H Q=>∃d e,Rep K H d x/\Rep K H e y/\dep d<=60/\dep e<=60/\Q (.bl (if neg then !cA d e else cA d e)) H
theorem jE {H:Hp}(I:Inv X Sa σ H s):HF X.K H s:=HF.of (c:=⟨X.K,H,H,λ_=>True⟩) I (aW.refl H)
theorem DP (hu:X.A.units + 64 < VP):dJ X (UK .Eq) (Gq X.K false):=by intro Sa s σ H x y v u Q I rx ry h;obtain ⟨d,e,h1,h2,h3,h4,q⟩:=h;exact (Ed (jE I) X.A h1 h2 rx ry (by omega) (by omega) (by omega)).1 X.prog X.w X.xe _ ⟨.bl _,H,I,rfl,q⟩
theorem LW (hu:X.A.units + 64 < VP):dJ X (UK .NotEq) (Gq X.K true):=by intro Sa s σ H x y v u Q I rx ry h;obtain ⟨d,e,h1,h2,h3,h4,q⟩:=h;exact (Ed (jE I) X.A h1 h2 rx ry (by omega) (by omega) (by omega)).2 X.prog X.w X.xe _ ⟨.bl _,H,I,rfl,q⟩
def bZ (neg:Bool) (x y:R):M R:=if dep x.dat<=60/\dep y.dat<=60 then .ok (.d (.bl (if neg then !cA x.dat y.dat else cA x.dat y.dat))) else .bad
theorem A1 (neg:Bool) (hK:X.K=c.K):BD c (Gq X.K neg) (bZ neg):=by
 intro He He' J H x y u v Q hp rx ry w;unfold bZ at w;split at w
 ·rename_i hd;exact ⟨x.dat,y.dat,by rw [hK];exact rx.dat hp,by rw [hK];exact ry.dat hp,hd.1,hd.2,w _ J H (Ext.refl hp.sub) (.bl _)⟩
 ·exact w.elim
def inD (d:D) (xs:List D):Bool:=xs.any λx=>cA x d
noncomputable def Gs (K:Sk) (neg:Bool):R2:=λx y H Q=>∃d p vs ds,Rep K H d x/\dep d<=60/\y=.ref p/\(cQ K H p vs\/d8 K H p vs)/\aL K H ds vs/\deps ds<=60/\Q (.bl (if neg then !inD d ds else inD d ds)) H
theorem uS {K:Sk}{H:Hp}{y:Sl}:∀{ds:List D}{vs:List V}{us:List Sl},aL K H ds vs->Vals vs us->deps ds<=60->y∈us->∃d' v',Rep K H d' v'/\RelV v' y/\dep d'<=60
 | _,_,_,.nil,.nil,_,hy=>nomatch hy
 | _,_,_,.cons r hs,.cons q rs,hd,hy=>by
  unfold deps at hd;rcases SN.mp hy with rfl | hy
  ·exact ⟨_,_,r,q,by omega⟩
  ·exact uS hs rs (by omega) hy
open Classical in
noncomputable def AY (K:Sk) (H:Hp) (d:D) (y:Sl):Bool:=decide (∃d' v',Rep K H d' v'/\RelV v' y/\dep d'<=1000/\cA d' d=true)
theorem zo {K:Sk}{H:Hp}{s:Sn}(F:HF K H s){d d':D}{v':V}{y:Sl}(r':Rep K H d' v') (q':RelV v' y) (hd:dep d'<=1000):AY K H d y=cA d' d:=by
 classical
 unfold AY;cases z:cA d' d with
 | true=>exact decide_eq_true ⟨d',v',r',q',hd,z⟩
 | false=>
  refine decide_eq_false ?_;rintro ⟨d2,v2,r2,q2,hd2,z2⟩;have:v2=v':=q2.inj q';subst this;rw [Rep.inj F r2 r' hd2 hd] at z2;rw [z] at z2;cases z2
theorem wH {K:Sk}{H:Hp}{s:Sn}(F:HF K H s){d:D}:∀{ds:List D}{vs:List V}{us:List Sl},aL K H ds vs->Vals vs us->deps ds<=1000->us.any (AY K H d)=inD d ds
 | _,_,_,.nil,.nil,_=>rfl
 | _,_,_,.cons r hs,.cons q rs,hd=>by unfold deps at hd;unfold inD;rw [UR,UR,wH F hs rs (by omega),zo F r q (by omega)];rfl
theorem qE {A:Te}{s:Sn}{K:Sk}{H:Hp}(F:HF K H s){d:D}{x:V}{u:Sl}(h:Rep K H d x) (rx:RelV x u) (QO:dep d<=60) (hA:A.units + 60 < VP){ds:List D}{vs:List V}{us:List Sl}(hs:aL K H ds vs) (rs:Vals vs us) (hd:deps ds<=60):
  ∃e:Sl->Bool,(∀y∈us,Vq A s y u (e y))/\us.any e=inD d ds:=by refine ⟨AY K H d,λy hy=>?_,wH F hs rs (by omega)⟩;obtain ⟨d',v',r',q',hd'⟩:=uS hs rs hd hy;rw [zo F r' q' (by omega)];exact qQ F A r' h q' rx (by omega) (by omega) (by omega)
theorem DQ (hu:X.A.units + 64 < VP):dJ X (UK .In) (Gs X.K false):=by
 intro Sa s σ H x y v u Q I rx ry h;obtain ⟨d,p,vs,ds,h1,QO,rfl,h2,h3,h4,q⟩:=h;cases ry;have F:=jE I;rcases h2 with h2 | h2
 ·obtain ⟨Sb,r,pl⟩:=F.l _ _ h2;obtain ⟨e,he,hany⟩:=qE (A:=X.A.in1) F h1 rx QO (by rw [in1_units];omega) h3 r h4;exact SeqAt.in_listAt e pl (λz hz=>he z (by simpa using hz)) ⟨.bl _,H,I,rfl,by rw [show Sb.toArray.any e=Sb.any e by simp,hany];exact q⟩
 ·obtain ⟨Sb,r,pl⟩:=F.t _ _ h2;obtain ⟨e,he,hany⟩:=qE (A:=X.A.in1) F h1 rx QO (by rw [in1_units];omega) h3 r h4;exact SeqAt.in_tupleAt e pl (λz hz=>he z (by simpa using hz)) ⟨.bl _,H,I,rfl,by rw [show Sb.toArray.any e=Sb.any e by simp,hany];exact q⟩
theorem DR (hu:X.A.units + 64 < VP):dJ X (UK .NotIn) (Gs X.K true):=by
 intro Sa s σ H x y v u Q I rx ry h;obtain ⟨d,p,vs,ds,h1,QO,rfl,h2,h3,h4,q⟩:=h;cases ry;have F:=jE I;rcases h2 with h2 | h2
 ·obtain ⟨Sb,r,pl⟩:=F.l _ _ h2;obtain ⟨e,he,hany⟩:=qE (A:=X.A.in1) F h1 rx QO (by rw [in1_units];omega) h3 r h4;exact SeqAt.notIn_listAt e pl (λz hz=>he z (by simpa using hz)) ⟨.bl _,H,I,rfl,by rw [show Sb.toArray.any e=Sb.any e by simp,hany];exact q⟩
 ·obtain ⟨Sb,r,pl⟩:=F.t _ _ h2;obtain ⟨e,he,hany⟩:=qE (A:=X.A.in1) F h1 rx QO (by rw [in1_units];omega) h3 r h4;exact SeqAt.notIn_tupleAt e pl (λz hz=>he z (by simpa using hz)) ⟨.bl _,H,I,rfl,by rw [show Sb.toArray.any e=Sb.any e by simp,hany];exact q⟩
noncomputable def ie (neg:Bool) (x y:R):M R:=iz y >>= λys=>if deps ys<=60/\dep x.dat<=60 then .ok (.d (.bl (if neg then !inD x.dat ys else inD x.dat ys))) else .bad
theorem A2 (neg:Bool) (hK:X.K=c.K):BD c (Gs X.K neg) (ie neg):=by
 intro He He' J H x y u v Q hp rx ry w;obtain ⟨ys,q,w⟩:=i8 w;obtain ⟨p,vs,rfl,h1,h2⟩:=jB hp ry q;split at w
 ·rename_i hd;exact ⟨x.dat,p,vs,ys,by rw [hK];exact rx.dat hp,hd.2,rfl,by rw [hK];exact h1,by rw [hK];exact h2.mono hp.sub,hd.1,w _ J H (Ext.refl hp.sub) (.bl _)⟩
 ·exact w.elim
abbrev GO:=G (Option Int)
def tO (c:C) (g:GO):TO:=λσ H Q=>∃J env,SR c J H σ env/\cH (g env) (λo=>∀J' H',Ext J H J' H'->Q o H') c.T
def KC (X:Cx) (c:C) (e:Option Tv) (g:GO):Prop:=PO X e (tO c g)
theorem Hz {X:Cx}{e:Option Tv}{t t':TO}(h:PO X e t) (k:∀σ H Q,t' σ H Q->t σ H Q):PO X e t':=λSa s σ H Q I q=>h Sa s σ H Q I (k σ H Q q)
def uE:GO:=λ_=>.ok none
noncomputable def mO (g:G R):GO:=λenv=>g env >>= λr=>match r with
 | .d (.int i)=>.ok (some i)
 | _=>.bad
def cutD (xs:List D) (lo hi:Option Int):List D:=(xs.drop (HT.bF xs.length 0 lo)).take (HT.bF xs.length xs.length hi - HT.bF xs.length 0 lo)
theorem aL.cut {K:Sk}{J:Hp}{xs:List D}{vs:List V}(h:aL K J xs vs) (lo hi:Option Int):aL K J (cutD xs lo hi) (kK vs lo hi):=by unfold cutD kK;rw [h.length];exact (h.drop _).take _
def nu (f:R->Option Int->Option Int->M R) (g:G R) (lo hi:GO):G R:=λenv=>g env >>= λx=>lo env >>= λl=>hi env >>= λu=>f x l u
theorem Nv {r:V->Option Int->Option Int->Hp->VK->Prop}{f:R->Option Int->Option Int->M R}{lo hi:Option Tv}{gl gh:GO}{p2:Pos}(hr:qB X r) (hf:∀(He J H:Hp) (x:R) (v:V) (l u:Option Int) (Q:VK),HI c J H->RR c He J H x v->
   cH (f x l u) (λz=>∀w J' H',Ext J H J' H'->RR c H J' H' z w->Q w H') c.T->r v l u H Q) (h:PD X c e g) (hl:KC X c lo gl) (hh:KC X c hi gh):PD X c (.Subscript e (.Slice lo hi none p2) pos) (nu f g gl gh):=
 ef (F_ hr h hl hh) λσ H Q ⟨J,env,sr,w⟩=>by refine ⟨J,env,sr,aC (aG w) λx wx v J1 H1 e1 r1=>?_⟩;refine ⟨J1,env,sr.ext e1,aC (aG wx) λl wl J2 H2 e2=>?_⟩;refine ⟨J2,env,(sr.ext e1).ext e2,aC (aG wl) λu wu J3 H3 e3=>?_⟩;have ee:=(e1.trans e2).trans e3;exact hf H J3 H3 x v l u Q (sr.hp.ext ee) ((r1.ext e2).ext e3) (aC wu λz q w J' H' e4 r4=>q w J' H' (ee.trans e4) (RR.from ee.h r4))
def OE (x:R) (l u:Option Int):M R:=fQ x >>= λxs=>.ok (.l .fresh (cutD xs l u))
theorem BZ {ss:List Str}:∀{us:List Sl},Vals (ss.map V.str) us->Yr us ss:=by
 induction ss with
 | nil=>intro us h;cases h;exact .nil
 | cons x r ih=>
  intro us h;cases h with
  | cons q rs=>
   obtain ⟨t,rfl⟩:=q;exact .cons x t (ih rs)
theorem nY:∀{us:List Sl}{ss:List Str},Yr us ss->Vals (ss.map V.str) us
 | _,_,.nil=>.nil
 | _,_,.cons y t h=>.cons ⟨t,rfl⟩ (nY h)
def iJ (x y:Str):Bool:=decide (x.cps.toList<=y.cps.toList)
def fB (ss:List Str):List Str:=ss.mergeSort iJ
theorem uL (x y z:Str) (h1:iJ x y=true) (h2:iJ y z=true):iJ x z=true:=by unfold iJ at *;exact decide_eq_true (List.le_trans (of_decide_eq_true h1) (of_decide_eq_true h2))
theorem Dy (x y:Str):(iJ x y || iJ y x)=true:=by
 unfold iJ;rw [UQ];rcases List.le_total x.cps.toList y.cps.toList with h | h
 ·exact .inl (decide_eq_true h)
 ·exact .inr (decide_eq_true h)
theorem FJ (h1:iJ x y=true) (h2:iJ y x=true):x=y:=by unfold iJ at *;have:=aba (of_decide_eq_true h1) (of_decide_eq_true h2);obtain ⟨⟨cx⟩⟩:=x;obtain ⟨⟨cy⟩⟩:=y;simp only at this;rw [this]
theorem nV (ss:List Str):(fB ss).Pairwise λx y=>iJ x y=true:=List.pairwise_mergeSort uL Dy ss
theorem gH (ss:List Str):(fB ss).Perm ss:=List.mergeSort_perm ss iJ
theorem r6:∀(x:Str) (r:List Str),risingS x r=true->(x::r).Pairwise λx y=>iJ x y=true
 | x,[],_=>by simp
 | x,y::r,h=>by
  unfold risingS at h;rw [SI] at h;have hy:=r6 y r h.2;have hxy:iJ x y=true:=by
   have h1:=h.1;rw [ltCps_eq] at h1;unfold iJ;refine decide_eq_true ?_;have:¬y.cps.toList < x.cps.toList:=by simpa using h1
   exact this
  refine Ym.mpr ⟨λz hz=>?_,hy⟩;rcases SN.mp hz with rfl | hz
  ·exact hxy
  ·exact uL x y z hxy ((Ym.mp hy).1 z hz)
theorem sC {ss ss':List Str}(hp:ss'.Perm ss) (hs:sortedS ss'=true):ss'=fB ss:=by
 have pw:ss'.Pairwise λx y=>iJ x y=true:=by
  cases ss' with
  | nil=>exact Xb
  | cons x r=>exact r6 x r hs
 exact (hp.trans (gH ss).symm).eq_of_pairwise (λx y _ _ h1 h2=>FJ h1 h2) pw (nV ss)
theorem wW:eK X (.builtin "sorted") (λxs H Q=>∃p ss,xs=[.ref p]/\cQ X.K H p (ss.map V.str)/\ss.length < 64/\∀ss',ss'.Perm ss->sortedS ss'=true->∀l,H l=none->Q (.ref l) (upd H l (.lst (ss'.map V.str)))):=by
 intro Sa s σ H xs us Q I r h;obtain ⟨p,ss,rfl,hq,hl,q⟩:=h;obtain ⟨u,rfl,rx⟩:=vals1 r;cases rx;obtain ⟨Sb,r',pl,hz⟩:=I.list hq;have hlen:=r'.length;refine sorted_strs pl.isList (BZ r') (by rw [<-hlen,So];exact hl) λout ss' a1 a2 a3=>?_;obtain ⟨n,hn⟩:=sortedAll_at s.heap Sb out;have kp:∀b o,s.heap.get? b=some o->(sortedAll s.heap Sb out).get? b=some o:=λb o e=>sortedAll_old e;have fr:H (s.heap.objs.size + 1)=none:=I.hok.fresh (U5 _);have ll:(ss'.map V.str).length=(ss.map V.str).length:=by rw [So,So,a2.length_eq]
 refine ⟨.ref (s.heap.objs.size + 1),_,I.laid (t':=s.toks) kp (U5 _) (show bW X.prog X.w _ _ _ (.lst (ss'.map V.str)) from ⟨by rw [ll];exact hz,out.toList,n,nY a1,by simpa [VX] using hn⟩),rfl,q ss' a2 a3 _ fr⟩
noncomputable def strsOf:List D->Option (List Str)
 | []=>some []
 | .str x::r=>(strsOf r).map (x::·)
 | _::_=>none
theorem mC {K:Sk}{J:Hp}:∀{ds:List D}{vs:List V}{ss:List Str},strsOf ds=some ss->aL K J ds vs->vs=ss.map V.str
 | [],_,_,h,.nil=>by cases h;rfl
 | .str x::r,_,ss,h,.cons q rs=>by
  unfold strsOf at h;cases z:strsOf r with
  | none=>rw [z] at h;cases h
  | some ss'=>
   rw [z] at h;cases h;cases q;rw [mC z rs];rfl
theorem nR {K:Sk}{J:Hp}:∀(ss:List Str),aL K J (ss.map D.str) (ss.map V.str)
 | []=>.nil
 | x::r=>.cons (.str x) (nR r)
noncomputable def jC:List R->M R
 | [r]=>fQ r >>= λxs=>match strsOf xs with
  | some ss=>if ss.length < 64 then .ok (.l .fresh ((fB ss).map .str)) else .bad
  | none=>.bad
 | _=>.bad
theorem jQ:Uz "sorted"=some (.builtin "sorted"):=by decide +kernel
theorem foldl_size (c:Array Nat):∀(k:Nat) (acc:Array Nat),((Tq k c).foldl (·++·) acc).size=acc.size + k * c.size
 | 0,acc=>by simp
 | k + 1,acc=>by rw [UI,X7,foldl_size c k,aaM,acM];omega
def fP (x:Str) (n:Nat):Str:=⟨(Tq n x.cps).foldl (·++·) #[]⟩
theorem y9 (x:Str) (n:Nat):(fP x n).length=n * x.length:=by unfold fP aaH;simp only;rw [foldl_size];simp
theorem Jl:dJ X (V7 .Mult) (λx y H Q=>∃z n,x=.str z/\y=.int n/\0<=n/\n<=1000/\z.length<=1000/\Q (.str (fP z n.toNat)) H):=by
 intro Sa s σ H x y v u Q I rx ry h;obtain ⟨z,n,rfl,rfl,h0,h1,h2,q⟩:=h;obtain ⟨t,rfl⟩:=rx;obtain ⟨t',rfl⟩:=ry;have hz:Z7 (z.length * n.toNat)=false:=by have:z.length * n.toNat<=1000 * 1000:=ZY h2 (by omega);unfold Z7;exact decide_eq_false (by have:=T_;omega)
 refine PySem.P.mul_str (by
  rw [decide_eq_false (by omega:¬n < -(2 ^ 63:Int)),decide_eq_false (by omega:¬n ≥ 2 ^ 63)];rfl) (λhn _=>?_) (λ_ _=>hz) ?_
 ·have:(2 ^ 63 - 1:Int) / 1000<=(2 ^ 63 - 1) / n:=by refine (Int.le_ediv_iff_mul_le (by omega)).mpr ?_;have:(2 ^ 63 - 1:Int) / 1000 * n<=(2 ^ 63 - 1:Int) / 1000 * 1000:=Int.mul_le_mul_of_nonneg_left h1 (by decide);exact Int.le_trans this (by decide)
  have e:(2 ^ 63 - 1:Int) / 1000=9223372036854775:=by decide
  omega
 ·split
  ·rename_i hn;have e:n=0:=by omega
   subst e;exact ⟨by decide,.str _,H,I.tok _,⟨_,rfl⟩,q⟩
  ·split
   ·rename_i hn hc;have e:fP z n.toNat=z:=by
     unfold fP;rw [UQ] at hc;rcases hc with hc | hc
     ·have e:n=1:=by simpa using hc
      subst e;simp
     ·have e:z.length=0:=by simpa using hc
      have e2:z.cps=#[]:=by unfold aaH at e;exact Array.eq_empty_of_size_eq_zero e
      obtain ⟨cz⟩:=z;simp only at e2;subst e2;congr 1;generalize n.toNat=k
      induction k with
      | zero=>rfl
      | succ k ih=>rw [UI,X7];exact ih
    rw [e] at q;exact ⟨.str z,H,I,⟨_,rfl⟩,q⟩
   ·exact ⟨by
     have:=y9 z n.toNat
     unfold fP at this;rw [this,acN];have:z.length * n.toNat<=1000 * 1000:=ZY h2 (by omega);rw [T_];omega,.str _,H,I.tok _,⟨_,rfl⟩,q⟩
noncomputable def Bc:R->R->M R
 | .d (.str z),.d (.int n)=>if 0<=n/\n<=1000/\z.length<=1000 then .ok (.d (.str (fP z n.toNat))) else .bad
 | _,_=>.bad
noncomputable def b8:D->String
 | .non=>"NoneType"
 | .bl _=>"bool"
 | .int _=>"int"
 | .str _=>"str"
 | .tup _=>"tuple"
 | .lst _=>"list"
 | .emp=>"dict"
 | .exn _ _ _=>"exc"
 | .dct _ _=>"dict"
 | .ob _ _=>"exc"
def bS (t T:String):Bool:=t == T || (t == "bool" && T == "int")
noncomputable def zV:R->Bool
 | .d (.int _)=>true
 | _=>false
noncomputable def Hl:R->Bool
 | .d (.str _)=>true
 | _=>false
def bG (x y:R):M R:=if zV x then Fj x y else if Hl x then qR x y else oj x y
def cR (x y:R):M R:=if zV x then Lf x y else Bc x y
noncomputable def aV (x y:R):M R:=match x,y with
 | .d (.str z),.d (.int i)=>if z.length<=sizeLine then (match jP z.cps.toList i with
  | some k=>.ok (.d (.str ⟨#[k]⟩))
  | none=>.bad) else .bad
 | x,.d (.int i)=>iz x >>= λxs=>(match jP xs i with
  | some d=>.ok (.d d)
  | none=>.bad)
 | _,_=>.bad
noncomputable def bU (P:SK) (w:S9) (K:Sk) (mg:Str->Option Sl) (base:Uo) (k n:Nat) (x:Str) (Fm:List S->M R):Prop:=
 ∃f fd ps,eT P w K mg base jI k f fd ps (m6 K n Fm)/\mg x=some (.ref f)/\T4 K (.ref f)=true/\Binds K fd ps []
theorem K1 {P:SK}{w:S9}{K:Sk}{mg:Str->Option Sl}{base:Uo}{x Sf:Str}{st:VQ}{f:SM}{fd:Tj}{N ps:List Str}{k:Nat}{Fm:List S->M R}(F:gg K x Sf st f fd) (hm:mg x=some (.ref f)) (Sc:cS N ps (aJ st))
  (hbi:∀(kV doc pm:Sl) (an:Option SM) (cdv ct:Sl) (us:List Sl),us.length=ps.length->Xj (Tp x Sf (cB st) (bB st) (aJ st) .none kV doc pm an cdv ct) ⟨us,[]⟩=pure (ps.zip us)){gB:G O}
  (hb:∀(cdv:Sl) (A:Te) (outer:List Env) (s:Sn) (H:Hp) (E:XK) (J:Hp) (T:Exc->Prop),cO k (A.deeper (W3 Sf (aJ st) s.heap.objs.size f cdv))->
   GV (qM P w K mg base N Sf (aJ st) f cdv A outer s H E) ⟨K,H,J,T⟩ (bB st) gB)
  (hF:∀as r,as.length=ps.length->Fm as=.ok r->fin (gB (aF N as))=.ok r):bU P w K mg base (k + 1) ps.length x Fm:=
 ⟨f,fd,ps,CY F Sc hb hF,hm,F.kp,F.binds hbi⟩
noncomputable def F0:List Str->Bool
 | []=>true
 | x::r=>!(r.contains x) && F0 r
theorem eV:∀{l:List Str},F0 l=true->l.Nodup
 | [],_=>Wv
 | x::r,h=>by unfold F0 at h;rw [SI] at h;refine Vs.mpr ⟨λz=>?_,eV h.2⟩;have:=h.1;simp [z] at this
theorem Fi {H:Hp}{s:Sn}{a C:SM}{dx:Option SM}(I:L2.Inv X Sa σ H s) (h:H a=some (DX.XO a C dx)) (xf:XF H dx ns vs):∃ox od,V6 s.heap a ox C od/\od.isSome=dx.isSome/\(∀d,dx=some d->∃o,od=some o/\s.heap.get? d=some o):=by
 obtain ⟨⟨oe,fs,h1,h2,h3,h4⟩,_⟩:=I.hok a _ h;have hn:abY oe=true:=by unfold abY;rw [h4]
 rcases xf with ⟨rfl,_⟩ | ⟨d,rfl,_,hd⟩
 ·exact ⟨oe,none,⟨h1,h2,hn,by rw [h3];exact VB⟩,rfl,λd z=>by cases z⟩
 ·obtain ⟨m,⟨o,es,ep,k1,_⟩,_⟩:=I.hok d _ hd;exact ⟨oe,some o,⟨h1,h2,hn,by rw [h3];exact k1⟩,rfl,λd' z=>by cases z;exact ⟨o,rfl,k1⟩⟩
noncomputable def GR (T:String):Prop:=(∀(K:Sk) (t:String),t∈["NoneType","bool","int","str","tuple","list","dict"]->Xl K (.type t) (.type T)=some (bS t T))/\Zr T=true/\DX.nZ.contains (.type T)=false/\bS "exc" T=false/\bS "dict" T=false
theorem Pg:GR "int":=⟨λK t h=>by
 simp only [SN,UZ,or_false] at h;rcases h with rfl | rfl | rfl | rfl | rfl | rfl | rfl <;> rfl,by decide +kernel,by decide,by decide,by decide⟩
theorem xO:GR "bool":=⟨λK t h=>by
 simp only [SN,UZ,or_false] at h;rcases h with rfl | rfl | rfl | rfl | rfl | rfl | rfl <;> rfl,by decide +kernel,by decide,by decide,by decide⟩
theorem yQ {T:String}(kit:GR T):
  eK X (.builtin "isinstance") (λxs H Q=>∃d x,xs=[x,.ty T]/\Rep X.K H d x/\Q (.bl (bS (b8 d) T)) H):=by
 intro Sa s σ H xs us Q I r h;obtain ⟨d,x,rfl,hd,q⟩:=h;obtain ⟨u,w',rfl,rx,ry⟩:=vals2 r;cases ry;have fin:∀tk,EP X Sa σ Q (.bool (bS (b8 d) T)) {s with toks:=tk}:=λtk=>⟨.bl _,H,I.tok tk,rfl,q⟩;have F:=jE I;cases hd with
 | non=>cases rx;exact Uq W.kitx_none I.kIn VB (kit.1 X.K _ (by simp [b8])) (λz=>nomatch z) fin
 | bl y=>cases rx;exact Uq W.kitx_bool I.kIn VB (kit.1 X.K _ (by simp [b8])) (λz=>nomatch z) fin
 | int i=>obtain ⟨t,rfl⟩:=rx;exact Uq W.kitx_int I.kIn VB (kit.1 X.K _ (by simp [b8])) (λz=>nomatch z) fin
 | str y=>obtain ⟨t,rfl⟩:=rx;exact Uq W.kitx_str I.kIn VB (kit.1 X.K _ (by simp [b8])) (λz=>nomatch z) fin
 | tup h hs=>
  cases rx;obtain ⟨Sb,r,o,h1,h2,_⟩:=F.t _ _ h;exact Uq W.kitx_tuple I.kIn ⟨o,h1,h2⟩ (kit.1 X.K _ (by simp [b8])) (λz=>nomatch z) fin
 | lst h hs=>
  cases rx;obtain ⟨Sb,r,o,h1,h2,_⟩:=F.l _ _ h;exact Uq W.kitx_list I.kIn ⟨o,h1,h2⟩ (kit.1 X.K _ (by simp [b8])) (λz=>nomatch z) fin
 | emp h=>
  cases rx;obtain ⟨o,h1,h2⟩:=F.e _ h;exact Uq Xd I.kIn ⟨o,h1,h2⟩ (kit.1 X.K _ (by simp [b8])) (λz=>nomatch z) fin
 | dct h _ _ _ _=>
  cases rx;obtain ⟨o,es,h1,h2,_⟩:=F.d _ _ _ h;exact Uq Xd I.kIn ⟨o,h1,h2.1⟩ (kit.1 X.K _ (by simp [b8])) (λz=>nomatch z) fin
 | @ob a k xs vs h hs=>
  cases rx;cases k with
  | txt ss=>
   obtain ⟨_,h2,_⟩:=h;obtain ⟨_,_,vs,_,o,es,ep,h1,h2,_⟩:=(show bW X.prog X.w H s.heap a _ from I.hok a _ h2);simp only [b8,kit.2.2.2.1] at fin;exact Uq Xd I.kIn ⟨o,h1,h2.1⟩ ((kit.1 X.K _ (by simp)).trans (congrArg some kit.2.2.2.2)) (λz=>nomatch z) fin
  | mem dom f=>
   obtain ⟨_,h2⟩:=h;obtain ⟨_,_,_,_,_,_,o,es,ep,h1,h2,_⟩:=(show bW X.prog X.w H s.heap a _ from I.hok a _ h2);simp only [b8,kit.2.2.2.1] at fin;exact Uq Xd I.kIn ⟨o,h1,h2.1⟩ ((kit.1 X.K _ (by simp)).trans (congrArg some kit.2.2.2.2)) (λz=>nomatch z) fin
  | ins cls ns=>
   obtain ⟨C,dx,_,ik,_,h3⟩:=h;obtain ⟨mA,O,_⟩:=tL I.hok h3;obtain ⟨od,J,_⟩:=O.look;simp only [b8,kit.2.2.2.1] at fin;exact Uq (W.kitx_own (ik.cl.get _) ik.cl.hd ik.ha ik.hn ik.htk ik.hm) I.kIn J (ik.no T kit.2.1 kit.2.2.1) (λz=>nomatch z) fin
 | exn h1 h2 h3 hs hx=>
  cases rx;obtain ⟨P,G,E⟩:=hx;obtain ⟨ox,od,J,_⟩:=Fi I h1 h3;simp only [b8,kit.2.2.2.1] at fin;exact Uq (DX.FG G E) I.kIn ⟨ox,od,J⟩ (DX.LG E kit.2.1 kit.2.2.1) (λz=>nomatch z) fin
def cF (T:String) (g:G R):G R:=λenv=>g env >>= λr=>.ok (.d (.bl (bS (b8 r.dat) T)))
noncomputable def G3:List D->Option (List Bool)
 | []=>some []
 | .bl k::r=>(G3 r).map (k::·)
 | _::_=>none
noncomputable def OC:List R->M R
 | [r]=>fQ r >>= λxs=>match G3 xs with
  | some ks=>.ok (.d (.bl (ks.all id)))
  | none=>.bad
 | _=>.bad
noncomputable def OD (neg:Bool):R->R->M R
 | .d (.str i),.d (.str j)=>.ok (.d (.bl (if neg then !(!(WT j i 0 j.length 1).isEmpty) else !(WT j i 0 j.length 1).isEmpty)))
 | _,_=>.bad
theorem Jr (hm:X.mg x=some u) (r:RelV v u) (hr:∀J,Rep c.K J d v) (hg:autoParam (Gl X x) zA._auto_1) (hd:autoParam ((x == ("__debug__":Str))=false) zB._auto_1):PD X c (.Name x pos) (gC d):=rP hr (tV hg hm r hd)
theorem KY {H:Hp}{s:Sn}(I:Inv X Sa σ H s):T9 < s.heap.objs.size:=by have h:SY < s.heap.objs.size:=(I.mod.glob.keeps I.bk).lt;exact Ur (by decide) h
theorem DO:dJ X (V7 .Add) (λx y H Q=>∃a b xs ys,x=.ref a/\y=.ref b/\d8 X.K H a xs/\d8 X.K H b ys/\xs.length + ys.length<=sizeLine/\
  (xs=[]->Q (.ref b) H)/\(ys=[]->Q (.ref a) H)/\∀p,H p=none->Q (.ref p) (upd H p (.tup (xs++ys)))):=by
 intro Sa s σ H x y v u Q I rx ry h;obtain ⟨a,b,xs,ys,rfl,rfl,ha,hb,hz,q0,q1,q2⟩:=h;by_cases hx:xs=[]
 ·cases rx;cases ry;obtain ⟨Sb,r1,p1,_⟩:=I.tuple ha;obtain ⟨its2,r2,p2,_⟩:=I.tuple hb;have he:Sb=[]:=r1.nil_iff.mpr hx;subst he;obtain ⟨⟨cls,dd,data,sl⟩,ho,hc,n,hd⟩:=id p1;obtain ⟨⟨cls2,dd2,data2,sl2⟩,ho2,hc2,n2,hd2⟩:=id p2;simp only at hc hd hc2 hd2;subst hc hd hc2 hd2;exact Zo ⟨_,ho,rfl⟩ ⟨_,ho2,rfl⟩ Y4 aaj W4 WN (WH _ _) (tuple_addW0 a b _ _ n n2 dd dd2 sl sl2 rfl) ⟨ho,ho2,⟨.ref b,H,I,rfl,q0 hx⟩⟩
 ·exact Jj Sa s σ H (.ref a) (.ref b) v u Q I rx ry ⟨a,b,xs,ys,rfl,rfl,ha,hb,hx,hz,q1,λ_=>q2⟩
noncomputable def Ba:R->R->M R
 | .d (.tup xs),.d (.tup ys)=>if xs.length + ys.length<=sizeLine then .ok (.d (.tup (xs++ys))) else .bad
 | _,_=>.bad
theorem Ik (hK:X.K=c.K):BD c (λx y H Q=>∃a b xs ys,x=.ref a/\y=.ref b/\d8 X.K H a xs/\d8 X.K H b ys/\xs.length + ys.length<=sizeLine/\
  (xs=[]->Q (.ref b) H)/\(ys=[]->Q (.ref a) H)/\∀p,H p=none->Q (.ref p) (upd H p (.tup (xs++ys)))) Ba:=by
 intro He He' J H x y u v Q hp rx ry w;unfold Ba at w;split at w
 ·rename_i ds es;cases rx with
  | tup h1 s1=>
   cases ry with
   | tup h2 s2=>
    split at w
    ·rename_i hz;rw [s1.length,s2.length] at hz;refine ⟨_,_,_,_,rfl,rfl,by rw [hK];exact f_ hp.sub h1,by rw [hK];exact f_ hp.sub h2,hz,λe=>?_,λe=>?_,λp hp'=>w _ _ _ (Ext.newJ hp.sub hp' _) (j6 hp hp' (s1.append s2))⟩
     ·have e':ds=[]:=Xx (by rw [s1.length,e];rfl);subst e';exact w _ J H (Ext.refl hp.sub) (.tup h2 s2)
     ·have e':es=[]:=Xx (by rw [s2.length,e];rfl);subst e';rw [UB] at w;exact w _ J H (Ext.refl hp.sub) (.tup h1 s1)
    ·exact w.elim
 ·exact w.elim
noncomputable def Lw:R->Bool
 | .d (.tup _)=>true
 | _=>false
def oi (x y:R):M R:=if Lw x then Ba x y else bG x y
noncomputable def intsOf:List D->Option (List Int)
 | []=>some []
 | .int i::r=>(intsOf r).map (i::·)
 | _::_=>none
theorem rD {K:Sk}{J:Hp}:∀{ds:List D}{vs:List V}{ns:List Int},intsOf ds=some ns->aL K J ds vs->vs=ns.map V.int
 | [],_,_,h,.nil=>by cases h;rfl
 | .int x::r,_,ks,h,.cons q rs=>by
  unfold intsOf at h;cases z:intsOf r with
  | none=>rw [z] at h;cases h
  | some ks'=>
   rw [z] at h;cases h;cases q;rw [rD z rs];rfl
noncomputable def Le:R->R->M R
 | .d (.int i),.d (.int j)=>.ok (.d (.bl (decide (i < j))))
 | .d (.str i),.d (.str j)=>.ok (.d (.bl (decide (i.cps.toList < j.cps.toList))))
 | .d (.tup xs),.d (.tup ys)=>match intsOf xs,intsOf ys with
  | some ns,some ms=>.ok (.d (.bl (HT.lexLt ns ms)))
  | _,_=>.bad
 | _,_=>.bad
def signs (x:Str):List D:=x.cps.toList.map λk=>.str ⟨#[k]⟩
noncomputable def OF (g:G R):G (List D):=λenv=>g env >>= λr=>match r with
 | .d (.str x)=>.ok (signs x)
 | _=>.bad
theorem zd {prog:SK}{w:S9}{A:Te}{E:Sl->Sn->Prop}{s:Sn}{t sl:SM}{items:Array Sl}{vl vu:Sl}{lo hi:Option Int}{Q:Sl->Sn->Prop}(ht:adF s.heap t items) (hs:s.heap.IsSliceOf sl vl vu .none) (pl:aak vl lo) (pu:aak vu hi)
  (hw:HT.bF items.size 0 lo=0/\HT.bF items.size items.size hi=items.size) (h:Q (.ref t) s):SO (SX prog w) A (XZ (.ref t) (.ref sl)) Q E s:=by
 obtain ⟨os,hos,hcs,hds⟩:=id hs;have Q6:s.TypeIs (.ref sl) "slice":=⟨os,hos,hcs⟩;unfold XZ
 try with_reducible refine Tt ?_
 first | refine Sj (Sm ?_) | skip
 refine Sj (YD ht.typeIs (by decide) ?_);refine Sj (Uv (name:=WI "__getitem__") ht.typeIs Tg
  (TR Tg ht.typeIs X3 ?_ (Yk _ _)))
 show SO _ _ (Wq (.ref t) >>= _) _ _ s;refine Sj (aam ht ?_);refine Sj (WJ Q6 ?_);rw [if_pos (by decide)];refine Sj (HT.kg hs pl pu ?_);have hyes:(((HT.bF items.size 0 lo:Nat):Int) == 0 && (1:Int) == 1 && (HT.bF items.size items.size hi - HT.bF items.size 0 lo) == items.size)=true:=by rw [hw.1,hw.2];simp
 show SO _ _ (if (((HT.bF items.size 0 lo:Nat):Int) == 0 && (1:Int) == 1 && (HT.bF items.size items.size hi - HT.bF items.size 0 lo) == items.size)=true then _ else _) _ _ s;rw [if_pos hyes];unfold abP;refine Sj (Sj (WJ ht.typeIs (Sm ?_)));rw [if_pos (by decide)];exact Sj (XQ (Sm ⟨_,rfl,Sm h⟩))
theorem Em:qB X (λx lo hi H Q=>∃a xs,x=.ref a/\d8 X.K H a xs/\((HT.bF xs.length 0 lo=0/\HT.bF xs.length xs.length hi=xs.length)->Q (.ref a) H)/\∀p,H p=none->Q (.ref p) (upd H p (.tup (kK xs lo hi)))):=by
 intro Sa s σ H x v vl vu lo hi sl Q I rx hs pl pu h;obtain ⟨a,xs,rfl,hx,q0,q1⟩:=h;by_cases hw:HT.bF xs.length 0 lo=0/\HT.bF xs.length xs.length hi=xs.length
 ·cases rx;obtain ⟨Sb,r,ht,hz⟩:=I.tuple hx;have hlen:Sb.toArray.size=xs.length:=by rw [SA];exact r.length.symm
  exact ⟨"tuple",_,Tg.lookup,ht.typeIs,zd ht hs pl pu (by rw [hlen];exact hw) ⟨.ref a,H,I,rfl,q0 hw⟩⟩
 ·exact MJ Sa s σ H (.ref a) v vl vu lo hi sl Q I rx hs pl pu ⟨a,xs,rfl,hx,hw,q1⟩
theorem A8 {xs:List D}{lo hi:Option Int}(h:HT.bF xs.length 0 lo=0/\HT.bF xs.length xs.length hi=xs.length):cutD xs lo hi=xs:=by unfold cutD;rw [h.1,h.2];simp
noncomputable def Fo:R->Option Int->Option Int->M R
 | .d (.tup xs),l,u=>.ok (.d (.tup (cutD xs l u)))
 | _,_,_=>.bad
theorem O5 (hK:X.K=c.K) (He J H:Hp) (x:R) (v:V) (l u:Option Int) (Q:VK) (hp:HI c J H) (rx:RR c He J H x v) (w:cH (Fo x l u) (λz=>∀w J' H',Ext J H J' H'->RR c H J' H' z w->Q w H') c.T):
  ∃a xs,v=.ref a/\d8 X.K H a xs/\((HT.bF xs.length 0 l=0/\HT.bF xs.length xs.length u=xs.length)->Q (.ref a) H)/\∀p,H p=none->Q (.ref p) (upd H p (.tup (kK xs l u))):=by
 unfold Fo at w;split at w
 ·rename_i ds;cases rx with
  | tup h1 s1=>
   refine ⟨_,_,rfl,by rw [hK];exact f_ hp.sub h1,λhw=>?_,λp hp'=>w _ _ _ (Ext.newJ hp.sub hp' _) (j6 hp hp' (s1.cut _ _))⟩;rw [<-s1.length] at hw;rw [A8 hw] at w;exact w _ J H (Ext.refl hp.sub) (.tup h1 s1)
 ·exact w.elim
def jS (x:R) (l u:Option Int):M R:=if Lw x then Fo x l u else OE x l u
theorem y_ {prog:SK}{w:S9}{A:Te}{E:Sl->Sn->Prop}{s:Sn}{sl:SM}{t:Tok}{n:Nat}{Q:Int×Int×Nat->Sn->Prop}(hs:s.heap.IsSliceOf sl .none .none (.int (-1) t))
  (h:Q ((n:Int) - 1,-1,n) s):SO (SX prog w) A (Vx (.ref sl) (pure (n:Int))) Q E s:=by
 obtain ⟨os,hos,hcs,hds⟩:=id hs;unfold Vx Yq;refine Sj (Sj (XY hos hds (x:=.none) rfl (Sj (XY hos hds (x:=.none) rfl (Sj (XY hos hds (x:=.int (-1) t) rfl (Sm ?_)))))));refine Sj (acp ?_);show SO _ _ (if ((-1:Int) == 0)=true then _ else _) _ _ s;rw [if_neg (by decide)];refine Sj (Yp (Sj (Yp (Sj (Sm ?_)))));have e1:Va none none (-1) (n:Int)=((n:Int) - 1,-1):=rfl;have e2:T5 ((n:Int) - 1) (-1) (-1)=n:=by
  unfold T5;rw [if_neg (by decide)];split
  ·simp only [Int.neg_neg,acJ];omega
  ·omega
 show SO _ _ (match Va none none (-1) (n:Int) with | (lo,hi)=>pure (lo,(-1:Int),T5 lo hi (-1))) _ _ s;rw [e1];show SO _ _ (pure ((n:Int) - 1,(-1:Int),T5 ((n:Int) - 1) (-1) (-1))) _ _ s;rw [e2];exact Sm h
theorem CW {α β:Type}{f:α->Option β}{g:α->β}:∀(l:List α),(∀m∈l,f m=some (g m))->l.filterMap f=l.map g
 | [],_=>rfl
 | x::r,h=>by rw [WC,h x Sv,S4];simp only;rw [CW r λm hm=>h m (Ss _ hm)]
theorem Gd (xs:Array Sl):((Sx xs.size).filterMap λ(m:Nat)=>xs[(((xs.size:Int) - 1) + (m:Int) * (-1)).toNat]?)=xs.toList.reverse:=by
 have e:((Sx xs.size).filterMap λ(m:Nat)=>xs[(((xs.size:Int) - 1) + (m:Int) * (-1)).toNat]?)=(Sx xs.size).map λm=>(xs.toList.reverse).getD m .none:=by
  refine CW _ λm hm=>?_;have hm':m < xs.size:=S0.mp hm;have e1:(((xs.size:Int) - 1) + (m:Int) * (-1)).toNat=xs.size - 1 - m:=by omega
  rw [e1];simp [Tf,hm',Zt,show xs.size - 1 - m < xs.size by omega]
 rw [e];refine VC (by simp) λi h1 h2=>?_;simp [Tf];have:i < xs.size:=by simpa using h1
 simp [Zt,this,show xs.size - 1 - i < xs.size by omega]
theorem EB {prog:SK}{w:S9}{A:Te}{E:Sl->Sn->Prop}{s:Sn}{t sl:SM}{items:Array Sl}{k:Tok}{Q:Sl->Sn->Prop}(ht:adF s.heap t items) (hs:s.heap.IsSliceOf sl .none .none (.int (-1) k))
  (h:Q (.ref s.heap.objs.size) {s with heap:=s.heap.push {cls:=.type "tuple",data:=.seq items.toList.reverse.toArray}}) (hsz:items.size<=sizeLine):SO (SX prog w) A (XZ (.ref t) (.ref sl)) Q E s:=by
 obtain ⟨os,hos,hcs,hds⟩:=id hs;have Q6:s.TypeIs (.ref sl) "slice":=⟨os,hos,hcs⟩;have P8:sizeOk (.seq items.toList.reverse.toArray):=by show items.toList.reverse.toArray.size<=sizeLine;simpa using hsz
 unfold XZ
 try with_reducible refine Tt ?_
 first | refine Sj (Sm ?_) | skip
 refine Sj (YD ht.typeIs (by decide) ?_);refine Sj (Uv (name:=WI "__getitem__") ht.typeIs Tg
  (TR Tg ht.typeIs X3 ?_ (Yk _ _)))
 show SO _ _ (Wq (.ref t) >>= _) _ _ s;refine Sj (aam ht ?_);refine Sj (WJ Q6 ?_);rw [if_pos (by decide)];refine Sj (y_ hs ?_);have hno:¬((((items.size:Int) - 1) == 0 && (-1:Int) == 1 && items.size == items.size)=true):=by intro q;rw [SI,SI] at q;exact absurd (eq_of_beq q.1.2) (by decide)
 show SO _ _ (if (((items.size:Int) - 1) == 0 && (-1:Int) == 1 && items.size == items.size)=true then _ else _) _ _ s;rw [if_neg hno,Gd]
 first
  | exact Sj (m:=Ua _) (S_ (Sm ⟨_,rfl,Sm h⟩) P8)
  | exact Sj (m:=Ua _) (S_ (Sj (Sm (Sm ⟨_,rfl,Sm h⟩))) P8)
  | exact Sj (Sj (m:=Ua _) (S_ (Sm (Sm ⟨_,rfl,Sm h⟩)) P8))
  | exact Sj (Sj (m:=Ua _) (S_ (Sm ⟨_,rfl,Sm h⟩) P8))
theorem aL.rev {K:Sk}{J:Hp}:∀{ds:List D}{vs:List V},aL K J ds vs->aL K J ds.reverse vs.reverse
 | _,_,.nil=>.nil
 | _,_,.cons h hs=>by rw [Xa,Xa];exact (aL.rev hs).append (.cons h .nil)
noncomputable def Lj (g:G R):G R:=λenv=>g env >>= λr=>match r with
 | .d (.tup xs)=>.ok (.d (.tup xs.reverse))
 | _=>.bad
def AL (K:Sk) (mg:Str->Option Sl) (x:Str) (d:D):Prop:=∃u v,mg x=some u/\RelV v u/\∀J,Rep K J d v
theorem Ny {j:Nat}{p q:Pos}:PE X (.UnaryOp .USub (.Constant (.int 1) j p) q) (tC (.int (-1))):=ef (Hx EF yg) λσ H Q h=>⟨1,rfl,h⟩
theorem qH:Uz "bool"=some (.type "bool"):=by decide +kernel
end
section
variable {X:Cx}{c:C}{e a b tg:Tv}{es:List Tv}{ga gb g:G R}{pos:Pos}{st:VQ}{t u:G O}{tb:G Bool}
def vK:G O:=λ_=>.bad
noncomputable def tG (g:G R):G R:=λenv=>g env >>= λr=>match r with
 | .d (.int i)=>.ok (.d (.int (-i)))
 | _=>.bad
noncomputable def GG:R->M Bool
 | .d .non=>.ok false
 | .d (.bl b)=>.ok b
 | .d (.int i)=>.ok (i != 0)
 | .d (.str y)=>if y.length<=sizeLine then .ok ((y.length:Int) != 0) else .bad
 | .d (.tup xs)=>.ok (!xs.isEmpty)
 | .d (.lst xs)=>.ok (!xs.isEmpty)
 | .d .emp=>.ok false
 | .d (.exn _ _ _)=>.bad
 | .d (.dct _ _)=>.bad
 | .d (.ob _ _)=>.bad
 | .l _ xs=>.ok (!xs.isEmpty)
 | _=>.bad
theorem Lv {K:Sk}{J:Hp}{ds:List D}{vs:List V}(h:aL K J ds vs):ds.isEmpty=vs.isEmpty:=by cases h <;> rfl
theorem J_ {He J H:Hp}(hp:HI c J H){Q:Bool->Prop}{T:Exc->Prop}:∀{r:R}{v:V},RR c He J H r v->cH (GG r) Q T->∃k,EO c.K v H k/\Q k
 | .d .non,_,h,w=>by cases h;exact ⟨_,rfl,w⟩
 | .d (.bl b),_,h,w=>by cases h;exact ⟨_,rfl,w⟩
 | .d (.int i),_,h,w=>by cases h;exact ⟨_,rfl,w⟩
 | .d (.str y),_,h,w=>by
  cases h;unfold GG at w;simp only at w;split at w
  ·rename_i hz;exact ⟨_,⟨hz,rfl⟩,w⟩
  ·exact w.elim
 | .d (.tup xs),_,h,w=>by
  cases h with
  | tup h1 h2=>exact ⟨_,.inr (.inl ⟨_,f_ hp.sub h1,rfl⟩),by rw [<-Lv h2];exact w⟩
 | .d (.lst xs),_,h,w=>by
  cases h with
  | lst h1 h2=>exact ⟨_,.inl ⟨_,hp.sub.seq h1,rfl⟩,by rw [<-Lv h2];exact w⟩
 | .d .emp,_,h,w=>by
  cases h with
  | emp h1=>exact ⟨_,.inr (.inr ⟨_,hp.sub _ _ h1,rfl⟩),w⟩
 | .d (.exn _ _ _),_,_,w=>w.elim
 | .d (.dct _ _),_,_,w=>w.elim
 | .d (.ob _ _),_,_,w=>w.elim
 | .mo _ _,_,_,w=>w.elim
 | .mb _ _,_,_,w=>w.elim
 | .mf _ _,_,_,w=>w.elim
 | .ln _,_,_,w=>w.elim
 | .o _ _ _,_,_,w=>w.elim
 | .l m xs,_,h,w=>by obtain ⟨a,vs,rfl,h1,h2⟩:=RR.list hp h rfl;exact ⟨_,.inl ⟨_,h1,rfl⟩,by rw [<-Lv h2];exact w⟩
def Lk (g:G R):G Bool:=λenv=>g env >>= GG
noncomputable def kh (tb:G Bool) (u:G O):Nat->Ev->M O
 | 0,_=>.bad
 | n + 1,env=>tb env >>= λk=>if k=true then u env >>= λo=>(match o with
  | .nx e=>kh tb u n e
  | .ct e=>kh tb u n e
  | .bk e=>.ok (.nx e)
  | .rt r=>.ok (.rt r)) else .ok (.nx env)
def xC (n:Nat) (tb:G Bool) (u:G O):G O:=λenv=>kh tb u n env
theorem aL.dropLast {K:Sk}{J:Hp}{ds:List D}{vs:List V}(h:aL K J ds vs):aL K J ds.dropLast vs.dropLast:=by rw [Zu,Zu,h.length];exact h.take _
noncomputable def xB (i j:Nat):G O:=λenv=>match env[j]? with
 | some (some (.own xs))=>(match xs[xs.length - 1]? with
  | some d=>.ok (.nx ((env.set j (some (.own xs.dropLast))).set i (some (.d d))))
  | none=>.bad)
 | _=>.bad
end
open PySem.AutoSeq1 in
theorem CU (T:String) (hT:T="tuple"\/T="list") (l b:SM) (xs ys:Array Sl) (n m:Nat) (dd:Option SM) (sl:Array (Option Sl)) (z0:¬(!xs.isEmpty && Vg (xs.size + ys.size))=true) (z1:xs.size<=sizeLine) (z2:xs.size + ys.size<=sizeLine + 1):
  Meets (Xc.«list.extend» ⟨[.ref l,.ref b],[]⟩) λ_ R s=>s.heap.get? l=some {cls:=.type "list",dict:=none,data:=.seq xs n,slots:=#[]}/\
   s.heap.get? b=some {cls:=.type T,dict:=dd,data:=.seq ys m,slots:=sl}/\R (.ok (.ret Um)) {s with heap:=s.heap.update l (Uw λx=>x++ys),toks:=s.toks}:=
 .of_wp λprog w A R s h=>by
  obtain ⟨hp,gs,dr,tk,os⟩:=s;obtain ⟨h1,h2,h3⟩:=h;have t1:=AutoSeq1.idx_int;have t2:=YE;have t3:=AutoSeq1.sub_list_list;have t4:=AutoSeq1.sub_tuple_list;have t5:=AutoSeq1.sub_list_tuple;have z3:(xs++ys).size<=sizeLine + 1:=by rw [aaM];exact z2
  rcases hT with rfl | rfl
  ·wp_walk using (Ve h1 rfl (hz:=z1) (_hz':=z3)),Wg h1,Wg h2
   exact ⟨_,rfl,h3⟩
  ·wp_walk using (Ve h1 rfl (hz:=z1) (_hz':=z3)),Wg h1,Wg h2
   exact ⟨_,rfl,h3⟩
section
variable {X:Cx}{c:C}{e a b tg:Tv}{es:List Tv}{ga gb g:G R}{pos:Pos}
noncomputable def OQ (K:Sk):V->List V->Hp->VK->Prop:=λx vs H Q=>∃l b xs zs,x=.ref l/\vs=[.ref b]/\H l=some (.lst xs)/\(cQ K H b zs\/d8 K H b zs)/\xs.length + zs.length<=sizeLine/\Q .non (upd H l (.lst (xs++zs)))
theorem LK:GS X "list.extend" (OQ X.K):=by
 intro Sa s σ H x vs v us Q I rx rv h;obtain ⟨l,b,xs,zs,rfl,rfl,hH,hB,hz,q⟩:=h;cases rx;obtain ⟨u,rfl,ru⟩:=rv.one;cases ru;obtain ⟨z,Sb,n,r,hl,e⟩:=I.lstM hH;have obj:∃T its2,(T="tuple"\/T="list")/\Vals zs its2/\∃dd m sl,s.heap.get? b=some {cls:=.type T,dict:=dd,data:=.seq its2.toArray m,slots:=sl}:=by
  rcases hB with hB | hB
  ·obtain ⟨its2,r2,pl,_⟩:=I.list hB;obtain ⟨⟨cls,dd,data,sl⟩,ho,hc,m,hd⟩:=pl.isList;simp only at hc hd;subst hc hd;exact ⟨"list",its2,.inr rfl,r2,dd,m,sl,ho⟩
  ·obtain ⟨its2,r2,pl,_⟩:=I.tuple hB;obtain ⟨⟨cls,dd,data,sl⟩,ho,hc,m,hd⟩:=pl;simp only at hc hd;subst hc hd;exact ⟨"tuple",its2,.inl rfl,r2,dd,m,sl,ho⟩
 obtain ⟨T,its2,hT,r2,dd,m,sl,e2⟩:=obj;have hl2:=r2.length;have hsz:Sb.toArray.size + its2.toArray.size<=sizeLine:=by rw [SA,SA];omega
 have QA:¬(!Sb.toArray.isEmpty && Vg (Sb.toArray.size + its2.toArray.size))=true:=by rw [ya hsz,Xk];exact TH
 refine aaI aar ⟨_,e,rfl⟩ Z5 (ZR _ _) (CU T hT l b Sb.toArray its2.toArray n m dd sl QA (by rw [SA];omega) (by omega)) ⟨e,e2,?_⟩;refine ⟨.non,_,I.lset (its':=Sb++its2) hH e (by simp) (r.append r2) ?_,rfl,q⟩;rw [SE];omega
noncomputable def xA (i:Nat) (g:G R):G O:=λenv=>match env[i]? with
 | some (some (.own xs))=>g env >>= λr=>iz r >>= λys=>if xs.length + ys.length<=sizeLine then .ok (.nx (env.set i (some (.own (xs++ys))))) else .bad
 | _=>.bad
noncomputable def yd:V->Option (Option Bool)
 | .non=>some none
 | .bl k=>some (some k)
 | _=>none
theorem Gz (rx:RelV x v) (ry:RelV y u) (h:yd y=some o):isSame v u=pure (yd x == some o):=by
 cases y with
 | non=>
  cases h;cases ry;cases x with
  | non=>cases rx;rfl
  | bl k=>cases rx;rfl
  | int i=>obtain ⟨t,rfl⟩:=rx;rfl
  | str z=>obtain ⟨t,rfl⟩:=rx;rfl
  | byt z=>obtain ⟨t,rfl⟩:=rx;rfl
  | flt z=>obtain ⟨t,rfl⟩:=rx;rfl
  | ref p=>cases rx;rfl
  | ty n=>cases rx;rfl
 | bl k'=>
  cases h;cases ry;cases x with
  | non=>cases rx;rfl
  | bl k=>cases rx;cases k <;> cases k' <;> rfl
  | int i=>obtain ⟨t,rfl⟩:=rx;rfl
  | str z=>obtain ⟨t,rfl⟩:=rx;rfl
  | byt z=>obtain ⟨t,rfl⟩:=rx;rfl
  | flt z=>obtain ⟨t,rfl⟩:=rx;rfl
  | ref p=>cases rx;rfl
  | ty n=>cases rx;rfl
 | _=>cases h
theorem LR:dJ X (UK .Is) (λx y H Q=>∃o,yd y=some o/\Q (.bl (yd x == some o)) H):=by intro Sa s σ H x y v u Q I rx ry h;obtain ⟨o,ho,q⟩:=h;show SO _ _ (do return ZN (<-isSame v u)) _ _ s;rw [Gz rx ry ho];exact Sj (Sm (Sm ⟨.bl _,H,I,rfl,q⟩))
noncomputable def BG:R->Option (Option Bool)
 | .d .non=>some none
 | .d (.bl k)=>some (some k)
 | _=>none
noncomputable def G9 (neg:Bool) (x y:R):M R:=match BG y with
 | some o=>.ok (.d (.bl (if neg then !(BG x == some o) else BG x == some o)))
 | none=>.bad
theorem Ae {He J H:Hp}:∀{r:R}{v:V},RR c He J H r v->yd v=BG r
 | .d .non,_,h=>by cases h;rfl
 | .d (.bl _),_,h=>by cases h;rfl
 | .d (.int _),_,h=>by cases h;rfl
 | .d (.str _),_,h=>by cases h;rfl
 | .d (.tup _),_,h=>by cases h;rfl
 | .d (.lst _),_,h=>by cases h;rfl
 | .d .emp,_,h=>by cases h;rfl
 | .d (.exn _ _ _),_,h=>by cases h;rfl
 | .d (.dct _ _),_,h=>by cases h;rfl
 | .d (.ob _ _),_,h=>by cases h;rfl
 | .l .fresh _,_,h=>by obtain ⟨_,_,rfl,_⟩:=h;rfl
 | .l .own _,_,h=>by obtain ⟨_,_,rfl,_⟩:=h;rfl
 | .l .bor _,_,h=>by obtain ⟨_,_,rfl,_⟩:=h;rfl
 | .mo _ _,_,h=>by obtain ⟨_,rfl,_⟩:=h;rfl
 | .mb _ _,_,h=>by obtain ⟨_,rfl,_⟩:=h;rfl
 | .mf _ _,_,h=>by obtain ⟨_,rfl,_⟩:=h;rfl
 | .ln _,_,h=>by obtain ⟨_,_,rfl,_⟩:=h;rfl
 | .o .fresh _ _,_,h=>by obtain ⟨_,rfl,_⟩:=h;rfl
 | .o .own _ _,_,h=>by obtain ⟨_,rfl,_⟩:=h;rfl
 | .o .bor _ _,_,h=>by obtain ⟨_,rfl,_⟩:=h;rfl
end
inductive jH (K:Sk):List (Str×D)->List (Str×Sl)->Prop
 | nil:jH K [] []
 | cons {k:Str}{d:D}{v:V}{u:Sl}{r:List (Str×D)}{rs:List (Str×Sl)}:RelV v u->(∀J,Rep K J d v)->jH K r rs->jH K ((k,d)::r) ((k,u)::rs)
def i9 (Sh:List (Str×D)) (k:Str):Option D:=(Sh.find? λp=>p.1=k).map (·.2)
theorem jH.get {K:Sk}{Sh:List (Str×D)}{us:List (Str×Sl)}(h:jH K Sh us) (k:Str):(∀d,i9 Sh k=some d->∃u v,WD us k=some u/\RelV v u/\∀J,Rep K J d v)/\(WD us k).isSome=(i9 Sh k).isSome:=by
 induction h with
 | nil=>exact ⟨(λd z=>nomatch z),rfl⟩
 | @cons k' d' v u r rs h1 h2 h3 ih=>
  by_cases e:k'=k
  ·have e1:i9 ((k',d')::r) k=some d':=by simp [i9,Ub,e]
   have e2:WD ((k',u)::rs) k=some u:=by simp [WD,Ub,e]
   rw [e1,e2];exact ⟨λd z=>by cases z;exact ⟨u,v,rfl,h1,h2⟩,rfl⟩
  ·have e1:i9 ((k',d')::r) k=i9 r k:=by simp [i9,Ub,e]
   have e2:WD ((k',u)::rs) k=WD rs k:=by simp [WD,Ub,e]
   rw [e1,e2];exact ih
noncomputable def ql (K:Sk) (w:S9) (mg:Str->Option Sl) (x:Str) (Sh:List (Str×D)):Prop:=
 ∃(a:SM) (us:List (Str×Sl)),mg x=some (.ref a)/\(a == T9)=false/\(∀(P:SK) (h:Uo),K.In h->h.DictOf (YS P w) a us)/\jH K Sh us
section
variable {X:Cx}{c:C}{e a b tg i:Tv}{es:List Tv}{ga gb g:G R}{pos:Pos}
theorem FE:nc X (λx y H Q=>∃a us k u v,x=.ref a/\y=.str k/\(∀(P:SK) (h:Uo),X.K.In h->h.DictOf (YS P X.w) a us)/\WD us k=some u/\RelV v u/\Q v H):=by intro value slice Sa s σ H x y v u Q I rx ry h hs;obtain ⟨a,us,k,u',v',rfl,rfl,hd,hv,r,q⟩:=h;cases rx;obtain ⟨t,rfl⟩:=ry;have dd:=hd X.prog s.heap I.kIn;exact acr dd.typeIs Ww.lookup (abb (by show Vk k (.str k t)=true;simp [Vk]) dd.mapOf hv ⟨v',H,I.tok _,r,q⟩) hs
theorem LQ:dJ X (UK .In) (λx y H Q=>∃a us k,x=.str k/\y=.ref a/\(a == T9)=false/\(∀(P:SK) (h:Uo),X.K.In h->h.DictOf (YS P X.w) a us)/\Q (.bl (WD us k).isSome) H):=by intro Sa s σ H x y v u Q I rx ry h;obtain ⟨a,us,k,rfl,rfl,hn,hd,q⟩:=h;obtain ⟨t,rfl⟩:=rx;cases ry;have dd:=hd X.prog s.heap I.kIn;exact wpAny_in_of (by show Vk k (.str k t)=true;simp [Vk]) hn dd.mapOf ⟨.bl _,H,I.tok _,rfl,q⟩
noncomputable def Bf (Sh:List (Str×D)) (g:G R):G R:=λenv=>g env >>= λr=>match r with
 | .d (.str k)=>(match i9 Sh k with
  | some d=>.ok (.d d)
  | none=>.bad)
 | _=>.bad
noncomputable def Li (neg:Bool) (Sh:List (Str×D)) (g:G R):G R:=λenv=>g env >>= λr=>match r with
 | .d (.str k)=>.ok (.d (.bl (if neg then !(i9 Sh k).isSome else (i9 Sh k).isSome)))
 | _=>.bad
end
def Ff (w:S9) (p:Str×Tok×Sl):Zg:=⟨Ud w.params p.1,.str p.1 p.2.1,p.2.2⟩
theorem ye {P:SK}{w:S9}:∀(es:List (Str×Tok×Sl)),PySem.Pairs (YS P w) (es.map (Ff w)) (es.map λp=>(p.1,p.2.2))
 | []=>.nil
 | p::r=>.cons (by show Vk p.1 (.str p.1 p.2.1)=true;simp [Vk]) rfl (ye r)
theorem w4 {K:Sk}{w:S9}{mg:Str->Option Sl}{h0:Uo}{x:Str}{f:SM}{ep:Nat}{Sh:List (Str×D)}(es:List (Str×Tok×Sl)) (X:K.In h0) (G:h0.Ns SY mg)
  (g:S8 K SY x=some (some (.ref f))) (l:K.lookup f=some {cls:=.type "dict",data:=.dict (es.map (Ff w)).toArray ep}) (nd:(es.map (·.1)).Nodup) (hs:(f == T9)=false) (hp:jH K Sh (es.map λp=>(p.1,p.2.2))):ql K w mg x Sh:=by
 refine ⟨f,es.map λp=>(p.1,p.2.2),US X G g,hs,λP h hK=>?_,hp⟩;refine ⟨_,_,_,hK f _ l,⟨rfl,rfl,rfl⟩,rfl,λe he=>?_,ye es,?_⟩
 ·have he':e∈es.map (Ff w):=by simpa using he
  obtain ⟨p,_,rfl⟩:=SD.mp he';exact ⟨p.1,by show Vk p.1 (.str p.1 p.2.1)=true;simp [Vk],rfl⟩
 ·rw [TF];exact nd
def tR (m:Int) (ns:List Int):Int:=ns.foldl (λm b=>if b > m then b else m) m
section
variable {prog:SK}{w:S9}{A:Te}{R:ZX->Sn->Prop}{I:SM}{fp wr:List SM}{St:Nat->Uo->Prop}{us:Array Sl}{ns:List Int}{S:SM}{dv:Sl}
theorem rM:(toString "max"++toString ".loop":String)="max.loop":=by decide
theorem Lq {a b:Int}{t u:Tok}{s:Sn}{Q:Sl->Sn->Prop}{E:Sl->Sn->Prop}(h:Q (.bool (decide (a > b))) s):SO (SX prog w) A (abw .Gt (.int a t) (.int b u)) Q E s:=
 richCompare_gives (op:=.Gt) (ab_ s a t) (ab_ s b u) F.slot_int_gt F.entry_int_gt (F.args_int_gt_2 _ _) (gives_int_gt _ _ t u) (λz=>nomatch z) h
theorem Jc (W:Walks prog w A.in1 I fp wr us.size (λi v=>us[i]?=some v) St) (hSf:S∉fp) (hu:∀(i:Nat) (v:Sl),us[i]?=some v->∃t,v=.int (ns.getD i 0) t) (hl:us.size=ns.length):
  ∀(k j:Nat) (s:Sn) (m:Int) (t:Tok) (c:Nat),ns.length - (j + 1)=k->j + 1<=ns.length->St (j + 1) s.heap->s.heap.get? S=some {cls:=.type "list",dict:=none,data:=.seq #[.int m t,.int m t] c,slots:=#[]}->
  (∀(t':Tok) (h':Uo) (tk:Nat),(∀b o,b∉wr->b≠S->s.heap.get? b=some o->h'.get? b=some o)->R (.ok (.ret (.int (tR m (ns.drop (j + 1))) t'))) {s with heap:=h',toks:=tk})->
  U3 (SX prog w) A (.builtin "max.loop" ⟨[.ref I,.none,.ref S],[("default",dv)]⟩) R s:=by
 have QS:S∉wr:=λz=>hSf (W.sub _ z);intro k
 induction k with
 | zero=>
  intro j s m t c hk hj hst hS hR;have hin:j + 1=us.size:=by omega
  (refine Uj Y5 ?_);rw [TM VD _]
  (show SO _ A.in1 (aau (.ref S) >>= _) _ _ s);refine Sj (Xm hS rfl ?_)
  (show SO _ A.in1 (tryCatch (W2 (.ref I)) _ >>= _) _ _ s);refine Sj (Xn (W.done s _ _ (hin▸hst) λh1 tk k1=>?_))
  have QM:=k1 S _ QS hS
  (show SO _ A.in1 (Zv S (λ_=>#[]) >>= _) _ _ _);refine Sj (Ve QM rfl (Sj (Z8 (Sm ?_))))
  have z:=hR t (h1.update S (Uw λ_=>#[])) tk λb o hb QJ e=>(TV _ _ (UA QJ)).trans (k1 b o hb e);rw [W5 (by omega)] at z;exact z
 | succ k ih=>
  intro j s m t c hk hj hst hS hR;have hlt:j + 1 < us.size:=by omega
  (refine Uj Y5 ?_);rw [TM VD _]
  (show SO _ A.in1 (aau (.ref S) >>= _) _ _ s);refine Sj (Xm hS rfl ?_)
  (show SO _ A.in1 (tryCatch (W2 (.ref I)) _ >>= _) _ _ s);refine Sj (Xn (W.item (j + 1) s _ _ hlt hst λv h1 tk hP QL k1=>?_))
  have QM:=k1 S _ QS hS;obtain ⟨t1,rfl⟩:=hu _ _ hP;have hd:ns.drop (j + 1)=ns.getD (j + 1) 0::ns.drop (j + 1 + 1):=by rw [VM (by omega:j + 1 < ns.length),Tf,SH (by omega:j + 1 < ns.length)];rfl
  rw [hd] at hR;generalize ns.getD (j + 1) 0=y at hR hP ⊢
  (show SO _ A.in1 (tryCatch (holding [Wu y t1,Wu y t1] (abw .Gt (Wu y t1) (Wu m t) >>= _)) _ >>= _) _ _ _);refine Sj (Xn (Tt (Sj (Lq ?_))))
  (refine Sj (Tt (Vp ?_)));refine Sj (Z8 (Sm ?_))
  by_cases hb:y > m
  ·rw [decide_eq_true hb];simp only [if_true]
   (refine Sj (Ve QM rfl (Sj (Z8 ?_))));rw [rM]
   refine Sm ⟨UT VD _,ih (j + 1) _ y t1 _ (by omega) (by omega) (W.frame _ _ _ QL λb Rf o e=>?_) (Ue _ QM rfl) λt2 h2 tk2 k2=>?_⟩
   ·exact (TV _ _ (λz:S=b=>hSf (z▸Rf))).trans e
   ·have q:=hR t2 h2 tk2 λb o QN QJ e=>k2 b o QN QJ ((TV _ _ (UA QJ)).trans (k1 b o QN e));have e:tR m (y::ns.drop (j + 1 + 1))=tR y (ns.drop (j + 1 + 1)):=by show adJ _ (if y > m then y else m) _=_;rw [if_pos hb];rfl
    rw [e] at q;exact q
  ·rw [decide_eq_false hb]
   (simp only [Tn,if_false]);(refine Sj (Z8 ?_));rw [rM]
   refine Sm ⟨UT VD _,ih (j + 1) _ m t c (by omega) (by omega) QL QM λt2 h2 tk2 k2=>?_⟩;have q:=hR t2 h2 tk2 λb o QN QJ e=>k2 b o QN QJ (k1 b o QN e);have e:tR m (y::ns.drop (j + 1 + 1))=tR m (ns.drop (j + 1 + 1)):=by show adJ _ (if y > m then y else m) _=_;rw [if_neg hb];rfl
   rw [e] at q;exact q
noncomputable def kR (d:Int):List Int->Int
 | []=>d
 | n::r=>tR n r
theorem BB (W:Walks prog w A.in1 I fp wr us.size (λi v=>us[i]?=some v) St) (hSf:S∉fp) (hu:∀(i:Nat) (v:Sl),us[i]?=some v->∃t,v=.int (ns.getD i 0) t) (hl:us.size=ns.length){d:Int}{td:Tok}{s:Sn}{c:Nat}(hst:St 0 s.heap)
  (hS:s.heap.get? S=some {cls:=.type "list",dict:=none,data:=.seq #[] c,slots:=#[]})
  (hR:∀(t':Tok) (h':Uo) (tk:Nat),(∀b o,b∉wr->b≠S->s.heap.get? b=some o->h'.get? b=some o)->R (.ok (.ret (.int (kR d ns) t'))) {s with heap:=h',toks:=tk}):
  U3 (SX prog w) A (.builtin "max.loop" ⟨[.ref I,.none,.ref S],[("default",.int d td)]⟩) R s:=by
 have QS:S∉wr:=λz=>hSf (W.sub _ z)
 (refine Uj Y5 ?_);rw [TM VD _]
 (show SO _ A.in1 (aau (.ref S) >>= _) _ _ s);refine Sj (Xm hS rfl ?_)
 (show SO _ A.in1 (tryCatch (W2 (.ref I)) _ >>= _) _ _ s)
 cases ns with
 | nil=>
  have h0:(0:Nat)=us.size:=hl.symm;refine Sj (Xn (W.done s _ _ (h0▸hst) λh1 tk k1=>?_));refine Sj (XQ (Sm ?_));exact hR td h1 tk λb o hb _ e=>k1 b o hb e
 | cons y r=>
  have hn:0 < us.size:=by rw [hl];exact Zw _
  refine Sj (Xn (W.item 0 s _ _ hn hst λv h1 tk hP QL k1=>?_));have QM:=k1 S _ QS hS;obtain ⟨t1,rfl⟩:=hu _ _ hP
  (show SO _ A.in1 (Zv S (λ_=>#[Wu ((y::r).getD 0 0) t1,Wu ((y::r).getD 0 0) t1]) >>= _) _ _ _);refine Sj (Ve QM rfl ?_)
  rw [rM];refine Sm ⟨UT VD _,Jc W hSf hu hl _ 0 _ y t1 _ rfl (Zw _) (W.frame _ _ _ QL λb Rf o e=>?_) (Ue _ QM rfl) λt2 h2 tk2 k2=>?_⟩
  ·exact (TV _ _ (λz:S=b=>hSf (z▸Rf))).trans e
  ·exact hR t2 h2 tk2 λb o QN QJ e=>k2 b o QN QJ ((TV _ _ (UA QJ)).trans (k1 b o QN e))
end
section
variable {prog:SK}{w:S9}{A:Te}{E:Sl->Sn->Prop}{s:Sn}{l:SM}{us:Array Sl}{ns:List Int}
theorem Cs (a d:Sl):acf "max" ⟨[a],[("default",d)]⟩:=by
 unfold acf
 kernel_rfl
theorem CC {d:Int}{td:Tok}{Q:Sl->Sn->Prop}(hh:A.handled=none) (hl:s.heap.IsList l us) (hu:∀(i:Nat) (v:Sl),us[i]?=some v->∃t,v=.int (ns.getD i 0) t) (hn:us.size=ns.length)
  (h:∀(t':Tok) (h':Uo) (tk:Nat),(∀b o,s.heap.get? b=some o->h'.get? b=some o)->Q (.int (kR d ns) t') {s with heap:=h',toks:=tk}):SO (SX prog w) A (call (.builtin "max") [.ref l] [("default",.int d td)]) Q E s:=by
 have ha:=Cs (.ref l) (.int d td);refine YB (XD F.plain_max F.entry_max ?_);have core:SO (SX prog w) A.in1 (Xc.«max» ⟨[.ref l],[("default",.int d td)]⟩) (λfin s'=>match fin with
   | .done f=>(match (Except.ok f:ZX) with | .ok (.ret v)=>Q v s' | .ok _=>False | .error e=>E e s')
   | .again c'=>c'.quiet=true/\U3 (SX prog w) A c' (λr s'=>match r with | .ok (.ret v)=>Q v s' | .ok _=>False | .error e=>E e s') s') E s:=by
  show SO _ A.in1 (X8 "max" ["key","default"] 0 ⟨[],[("default",.int d td)]⟩ >>= _) _ _ s;refine Sj (WE (show X8 "max" ["key","default"] 0 ⟨[],[("default",.int d td)]⟩=pure [none,some (.int d td)] by rfl) ?_);refine Sj (Sm ?_);have hlt:l < s.heap.objs.size:=by obtain ⟨_,e,_⟩:=hl;exact SJ e
  refine Sj (YF hl ?_);refine Sj (S_ ?_);rw [rM];generalize hs2:s.heap.push {cls:=.type "list_iterator",data:=.fields #[.ref l,.int 0 0]}=H2;have hI:H2.IsListIter s.heap.objs.size l 0:=by rw [<-hs2];exact ⟨_,Sz _ rfl,rfl,rfl⟩
  have hL:H2.IsList l us:=by rw [<-hs2];exact hl.push _
  have sz:H2.objs.size=s.heap.objs.size + 1:=by rw [<-hs2,Us]
  have W:=adK (prog:=prog) (w:=w) (A:=A.in1) (show A.in1.handled=none from hh) s.heap.objs.size l (SQ hlt) us;have hSf:H2.objs.size∉[s.heap.objs.size,l]:=λz=>by
   rcases SN.mp z with z | z
   ·exact absurd (sz.symm.trans z) (Nat.succ_ne_self _)
   ·rw [Su] at z;exact absurd z.symm (SQ (by rw [sz];exact U6 hlt))
  refine Sm ⟨UT VD _,BB W hSf hu hn (W.frame _ _ _ ⟨hI,hL⟩ λb _ o e=>Sq _ e) (Sz _ rfl) λt' h' tk k=>?_⟩;refine h t' h' tk λb o e=>?_;have e2:H2.get? b=some o:=by rw [<-hs2];exact Sq _ e
  have lt:=SJ e;exact k b o (λz=>absurd (Su.mp z) (SQ lt)) (SQ (by rw [sz];exact U6 lt)) (Sq _ e2)
 simp only [Xv,F.kind_max];cases Rr:Manifest.signature? "max" with
 | none=>exact Sm core
 | some sig=>
  simp only [acf,Rr] at ha;have h2:abZ "max" sig ⟨[.ref l],[("default",.int d td)]⟩=pure ():=ha;show SO _ A.in1 (abZ "max" sig ⟨[.ref l],[("default",.int d td)]⟩) _ _ s;rw [h2];exact Sm core
end
section
variable {X:Cx}{c:C}{e a b tg i:Tv}{es:List Tv}{ga gb g:G R}{pos:Pos}
noncomputable def qX (d:Int) (g:G R):G R:=λenv=>g env >>= λr=>fQ r >>= λxs=>match intsOf xs with
 | some ns=>.ok (.d (.int (kR d ns)))
 | none=>.bad
theorem Kf {ns:List Int}{Sb:List Sl}(r:Vals (ns.map V.int) Sb) (i:Nat) (v:Sl) (h:Sb.toArray[i]?=some v):∃t,v=.int (ns.getD i 0) t:=by
 have h':Sb[i]?=some v:=by simpa using h
 have hl:=r.length;rw [So] at hl;have hi:i < ns.length:=by rw [hl];exact (Td.mp h').1
 obtain ⟨u,hu,ru⟩:=r.get (show (ns.map V.int)[i]?=some (.int ns[i]) by rw [S3,SH hi];rfl);rw [h'] at hu;cases hu;obtain ⟨t,rfl⟩:=ru;exact ⟨t,by rw [Tf,SH hi];rfl⟩
end
theorem Im {P:SK}{w:S9}{K:Sk}{mg:Str->Option Sl}{base:Uo}{x Sf:Str}{st:VQ}{f:SM}{fd:Tj}{ps:List Str}{k:Nat}{Fm:List S->M R}(F:gg K x Sf st f fd) (hm:mg x=some (.ref f))
  (hbi:∀(kV doc pm:Sl) (an:Option SM) (cdv ct:Sl) (us:List Sl),us.length=ps.length->Xj (Tp x Sf (cB st) (bB st) (aJ st) .none kV doc pm an cdv ct) ⟨us,[]⟩=pure (ps.zip us))
  (hF:∀as,Fm as=.bad):bU P w K mg base k ps.length x Fm:=
 ⟨f,fd,ps,⟨λvs H Q E ⟨J,as,_,_,_,h⟩=>(by rw [hF as] at h;exact h.elim),λA outer s H args us vs Q E _ _ _ _ ⟨J,as,_,_,_,h⟩=>(by rw [hF as] at h;exact h.elim)⟩,hm,F.kp,F.binds hbi⟩
section
variable {X:Cx}{c:C}{e a b d tg:Tv}{es:List Tv}{ga gb g:G R}{pos:Pos}
def OI (K:Sk) (tl:TE):TI:=λσ H R=>tl σ H λx H1=>∃a,x=.ref a/\(((∃xs,cQ K H1 a xs)/\R (GN K a) H1)\/((∃xs,d8 K H1 a xs)/\R (GQ K a) H1))
theorem DZ {tl:TE}(hl:PE X e tl):PI X tg e (OI X.K tl):=λSa s σ H R I h=>bO (hl Sa s σ H _ I h) λv s1 ⟨x,H1,I1,r1,a,ex,q1⟩=>by
 subst ex;cases r1;have fp:∀b∈[s1.heap.objs.size],jo X Sa H1 b:=λb hb=>by rw [Su] at hb;subst hb;exact I1.fpOk (Sw _) (I1.hok.fresh (Sw _))
 rcases q1 with ⟨⟨xs,hq⟩,q⟩ | ⟨⟨xs,hq⟩,q⟩
 ·obtain ⟨Sb,rv,p,hz⟩:=I1.list hq;exact YF p.isList ⟨s1.heap.objs.size,[s1.heap.objs.size],_,_,H1,rfl,I1.kept (t':=s1.toks) (λb o e=>Sq _ e),EC a _,⟨_,Sz _ rfl,rfl,rfl⟩,fp,q⟩
 ·obtain ⟨Sb,rv,p,hz⟩:=I1.tuple hq;exact aav (show s1.heap.IsTuple a Sb.toArray from p) ⟨s1.heap.objs.size,[s1.heap.objs.size],_,_,H1,rfl,I1.kept (t':=s1.toks) (λb o e=>Sq _ e),B7 a _,⟨_,Sz _ rfl,rfl,rfl⟩,fp,q⟩
theorem u_ {J1:Hp}{a:SM}{vs:List V}{ds:List D}{U:Hp->Hp->Prop}(hU:∀J H,U J H->aW J1 J) (h:d8 c.K J1 a vs) (hs:aL c.K J1 ds vs):Walk c (GQ c.K a) ds J1 U:=by intro i J H hp u;have h':=f_ hp.sub (f_ (hU J H u) h);refine ⟨λhl=>⟨vs,h',by rw [<-hs.length];exact hl⟩,λd hd=>?_⟩;obtain ⟨v,k1,k2⟩:=hs.get hd;refine ⟨⟨vs,v,h',k1⟩,λx H2 ⟨e,hy⟩=>?_⟩;subst e;have:=hy vs h';rw [k1] at this;cases this;exact ⟨J,Ext.refl hp.sub,k2.mono (hU J _ u)⟩
noncomputable def tF (g:G R):G (List D):=λenv=>g env >>= λr=>match r with
 | .d (.tup xs)=>.ok xs
 | .d (.lst xs)=>.ok xs
 | .l .fresh xs=>.ok xs
 | .l .bor xs=>.ok xs
 | _=>.bad
def gM (g:G R):G (List D):=λenv=>g env >>= iz
end
structure QD (X:Cx) (c:C) (x0:Tv) (x1:G R):Prop where
 h:PD X c x0 x1
structure QB (X:Cx) (c:C) (x0:Tv) (x1:G Bool):Prop where
 h:PB X c x0 x1
structure jK (X:Cx) (c:C) (x0:List Tv) (x1:G (List R)):Prop where
 h:Ck X c x0 x1
structure Cn (X:Cx) (c:C) (x0:List Tv) (x1:G (List D)):Prop where
 h:Pk X c x0 x1
structure jc (X:Cx) (c:C) (x0:VQ) (x1:G O):Prop where
 h:KA X c x0 x1
structure kj (X:Cx) (c:C) (x0:List VQ) (x1:G O):Prop where
 h:GV X c x0 x1
structure wC (X:Cx) (c:C) (x0:Tv) (x1:G Bool):Prop where
 h:Pn X c x0 x1
structure qA (X:Cx) (c:C) (x0:Tv) (x1:GT):Prop where
 h:Cm X c x0 x1
structure AS (X:Cx) (c:C) (x0:List Tv) (x1:qq):Prop where
 h:Ot X c x0 x1
structure Cp (X:Cx) (c:C) (x0:Tv) (x1:Tv) (x2:G (List D)):Prop where
 h:N_ X c x0 x1 x2
structure Co (X:Cx) (c:C) (x0:Tv) (x1:Tv) (x2:G (List D)):Prop where
 h:N9 X c x0 x1 x2
structure sR (X:Cx) (c:C) (x0:List Tv) (x1:G Bool):Prop where
 h:AR X c x0 x1
structure GY (X:Cx) (c:C) (x0:Option Tv) (x1:GO):Prop where
 h:KC X c x0 x1
section
variable {X:Cx}{c:C}{e a b:Tv}{ga gb:G R}{pos:Pos}
theorem aa (i:Nat) (hN:autoParam (X.N[i]?=some x) zA._auto_1) (hv:mH X.env.scope x:=by first | exact V5 rfl | exact Vh (V5 rfl) | exact Vh (Vh rfl)) (hd:autoParam ((x == ("__debug__":Str))=false) zB._auto_1)
 (hcd:autoParam ((x == ("__classdict__":Str))=false) zB._auto_1):QD X c (.Name x pos) (af i):=⟨Js (fV hN hv hd hcd)⟩
theorem ao:QD X c (.Constant (.int i) j pos) (gC (.int i)):=⟨rP (λ_=>.int i) yg⟩
theorem nN:QD X c (.Constant (.bool i) j pos) (gC (.bl i)):=⟨rP (λ_=>.bl i) Nx⟩
theorem Aq:QD X c (.Constant .none j pos) (gC .non):=⟨rP (λ_=>.non) L6⟩
theorem br:QD X c (.Constant (.str x) j pos) (gC (.str x)):=⟨rP (λ_=>.str x) L_⟩
theorem ud (ha:QD X c a ga) (hb:QD X c b gb):QD X c (.BinOp a .Sub b pos) (g2 gK ga gb):=have ha:=ha.h;have hb:=hb.h;⟨kD LY (iC λ_ _ _=>.int _) ha hb⟩
theorem cJ (ha:QD X c a ga) (hb:QD X c b gb):QD X c (.BinOp a .FloorDiv b pos) (g2 dF ga gb):=have ha:=ha.h;have hb:=hb.h;⟨kD Jk (A0 (λi j h=>IS h) λ_ _ _=>.int _) ha hb⟩
theorem bg (ha:QD X c a ga) (hb:QD X c b gb):QD X c (.BinOp a .Mod b pos) (g2 bP ga gb):=have ha:=ha.h;have hb:=hb.h;⟨kD LU (A0 (λi j h=>by unfold LB at h;exact of_decide_eq_true h) λ_ _ _=>.int _) ha hb⟩
theorem oG (ha:QD X c a ga) (hb:QD X c b gb):QD X c (.BinOp a .Pow b pos) (g2 jR ga gb):=have ha:=ha.h;have hb:=hb.h;⟨kD LX (A0 (λi j h=>IU h) λ_ _ _=>.int _) ha hb⟩
theorem Mu (ha:QD X c a ga) (hb:QD X c b gb):QD X c (.Compare a [.LtE] [b] pos) (g2 (bT λi j=>.bl (decide (i<=j))) ga gb):=have ha:=ha.h;have hb:=hb.h;⟨yf Nt (iC λ_ _ _=>.bl _) ha hb⟩
theorem aA:jK X c [] az:=⟨vR iE λσ H Q ⟨J,env,sr,w⟩=>w [] J H (Ext.refl sr.hp.sub) rfl⟩
theorem ak {es:List Tv}{g:G R}{gs:G (List R)}(h:QD X c e g) (hs:jK X c es gs) (hst:autoParam (SG (e::es) X.env=(false,eval e X.env)::SG es X.env) zA._auto_1):jK X c (e::es) (ah g gs):=have h:=h.h;have hs:=hs.h;⟨
 vR (gq h hs hst) λσ H Q ⟨J,env,sr,w⟩=>by
  refine ⟨J,env,sr,aC (aG w) λx wx u J1 H1 e1 r1=>?_⟩;refine ⟨J1,env,sr.ext e1,aC (aG wx) λxs wy us J2 H2 e2 r2=>?_⟩;exact wy (u::us) J2 H2 (e1.trans e2) ⟨u,us,rfl,r1.ext e2,kZ.from e1.h r2⟩⟩
end
section
variable {X:Cx}{c:C}{e a b:Tv}{es:List Tv}{ga gb g:G R}{pos:Pos}
theorem aX:Cn X c [] aI:=⟨vR iE λσ H Q ⟨J,env,sr,w⟩=>w [] J H (Ext.refl sr.hp.sub) .nil⟩
theorem ay {gs:G (List D)}(h:QD X c e g) (hs:Cn X c es gs) (hst:autoParam (SG (e::es) X.env=(false,eval e X.env)::SG es X.env) zA._auto_1):Cn X c (e::es) (aq g gs):=have h:=h.h;have hs:=hs.h;⟨
 vR (gq h hs hst) λσ H Q ⟨J,env,sr,w⟩=>by
  refine ⟨J,env,sr,aC (aG w) λx wx u J1 H1 e1 r1=>?_⟩;obtain ⟨d,q,wx⟩:=jG wx;obtain ⟨J1',e1',s1,rd⟩:=freeze e1 r1 q;refine ⟨J1',env,sr.ext e1',aC (aG wx) λxs wy us J2 H2 e2 r2=>?_⟩;exact wy (u::us) J2 H2 (e1'.trans e2) (.cons (rd.mono e2.j) r2)⟩
theorem bL {k}{gs:G (List D)}(h:Cn X c es gs):QD X c (.Tuple es k pos) (bV gs):=have h:=h.h;⟨ef (Ma h) λσ H Q ⟨J,env,sr,w⟩=>by
 refine ⟨J,env,sr,aC (aG w) λds wd vs J1 H1 e1 r1=>?_⟩;split at wd
 ·rename_i hz;rw [r1.length] at hz;exact ⟨hz,λp hp=>wd _ _ _ (e1.trans (Ext.newJ e1.sub hp _)) (j6 (sr.hp.ext e1) hp r1)⟩
 ·exact wd.elim⟩
theorem dB {gs:G (List D)}(h:Cn X c es gs):QD X c (.List es pos) (eU gs):=have h:=h.h;⟨ef (L5 h) λσ H Q ⟨J,env,sr,w⟩=>by
 refine ⟨J,env,sr,aC (aG w) λds wd vs J1 H1 e1 r1=>?_⟩;split at wd
 ·rename_i hz;rw [r1.length] at hz;exact ⟨hz,λp hp=>wd _ _ _ (e1.trans (Ext.new e1.sub hp _)) (RR.from e1.h (gD (sr.hp.ext e1) hp r1))⟩
 ·exact wd.elim⟩
theorem fW {p:Pos}{gs:G (List R)}(ha:jK X c (e::es) gs) (hm:X.mg "len"=none) (hK:autoParam (X.K=c.K) zA._auto_1) (hg:autoParam (Gl X "len") zA._auto_1)
  (he:autoParam (SG (e::es) X.env=(false,eval e X.env)::SG es X.env) zA._auto_1) (hpl:autoParam ((Vf pos (SG es X.env)).any (·.1)=false) zA._auto_1):QD X c (.Call (.Name "len" p) (e::es) [] pos) (gN eE gs):=have ha:=ha.h;⟨
 pX (wU.or wR) (by
  intro He J H xs vs Q hp rs w;unfold eE at w;split at w
  ·obtain ⟨v,rfl,r⟩:=rs.one;cases r;split at w
   ·rename_i hz;exact .inl ⟨_,rfl,hz,w _ J H (Ext.refl hp.sub) (.int _)⟩
   ·exact w.elim
  ·obtain ⟨v,rfl,r⟩:=rs.one;obtain ⟨xs,q,w⟩:=i8 w;obtain ⟨p,vs,rfl,hq,hs⟩:=jB hp r q;have w':=w (.int vs.length) J H (Ext.refl hp.sub) (by rw [hs.length];exact .int _);exact .inr ⟨p,vs,rfl,by rw [hK];exact hq,w'⟩
  ·exact w.elim) PySem.boot_len hm ha hg (by decide) (by decide) he hpl⟩
theorem cV {gs:G (List R)}(ha:jK X c (e::es) gs) (hm:X.mg "tuple"=none) (hK:autoParam (X.K=c.K) zA._auto_1) (hg:autoParam (Gl X "tuple") zA._auto_1)
 (he:autoParam (SG (e::es) X.env=(false,eval e X.env)::SG es X.env) zA._auto_1) (hpl:autoParam ((Vf pos (SG es X.env)).any (·.1)=false) zA._auto_1):QD X c (.Call (.Name "tuple" p) (e::es) [] pos) (gN dW gs):=have ha:=ha.h;⟨
 nI mJ (by
  intro He J H xs vs Q hp rs w;unfold dW at w;split at w
  ·obtain ⟨v,rfl,r⟩:=rs.one;rename_i r0;obtain ⟨xs,q,w⟩:=i8 w;cases r0 with
   | d y=>
    cases y with
    | tup ys=>
     cases q;cases r with
     | tup h hs=>exact ⟨_,_,rfl,.inr ⟨by rw [hK];exact f_ hp.sub h,w _ J H (Ext.refl hp.sub) (.tup h hs)⟩⟩
    | lst ys=>
     cases q;obtain ⟨p,vs,rfl,hq,hs⟩:=RR.list hp r rfl;exact ⟨p,vs,rfl,.inl ⟨by rw [hK];exact hq,λl hl=>w _ _ _ (Ext.newJ hp.sub hl _) (j6 hp hl hs)⟩⟩
    | _=>cases q
   | mo _ _=>cases q
   | mb _ _=>cases q
   | mf _ _=>cases q
   | ln _=>cases q
   | o _ _ _=>cases q
   | l m ys=>
    cases q;obtain ⟨p,vs,rfl,hq,hs⟩:=RR.list hp r rfl;exact ⟨p,vs,rfl,.inl ⟨by rw [hK];exact hq,λl hl=>w _ _ _ (Ext.newJ hp.sub hl _) (j6 hp hl hs)⟩⟩
  ·exact w.elim) oX hm ha hg (by decide) (by decide) he hpl⟩
theorem Gp {p:Pos}{gs:G (List R)}(ha:jK X c (e::es) gs) (hm:X.mg "list"=none) (hK:autoParam (X.K=c.K) zA._auto_1) (hg:autoParam (Gl X "list") zA._auto_1)
  (he:autoParam (SG (e::es) X.env=(false,eval e X.env)::SG es X.env) zA._auto_1) (hpl:autoParam ((Vf pos (SG es X.env)).any (·.1)=false) zA._auto_1):QD X c (.Call (.Name "list" p) (e::es) [] pos) (gN Bb gs):=have ha:=ha.h;⟨
 nI wV (by
  intro He J H xs vs Q hp rs w;unfold Bb at w;split at w
  ·obtain ⟨v,rfl,r⟩:=rs.one;obtain ⟨xs,q,w⟩:=i8 w;obtain ⟨p,vs,rfl,hq,hs⟩:=jB hp r q;exact ⟨p,vs,rfl,by rw [hK];exact hq,λl hl=>w _ _ _ (Ext.new hp.sub hl _) (gD hp hl hs)⟩
  ·exact w.elim) qI hm ha hg (by decide) (by decide) he hpl⟩
theorem ua (h:QD X c e g) (he:∀whole,aah e X.env whole=(do let v <-whole;Ws e.pos;holding [v] (truthy v)):=by intro _;rfl):QB X c e (aT g):=have h:=h.h;⟨rT (Mg h he) λσ H Q ⟨J,env,sr,w⟩=>by
 refine ⟨J,env,sr,aC (aG w) λr wr v J1 H1 e1 r1=>?_⟩;split at wr
 ·cases r1;exact ⟨_,rfl,wr J1 H1 e1⟩
 ·exact wr.elim⟩
theorem jF {f:R->R->M R}(ho:dJ X (UK op) r) (hf:BD c r f) (ha:QD X c a ga) (hb:QD X c b gb) (hm:Ui op b=false:=by first | exact x_ _ | rfl):QB X c (.Compare a [op] [b] pos) (aT (g2 f ga gb)):=⟨j3 ho hf ha.h hb.h hm⟩
variable {t u:G Bool}{rest:List Tv}
theorem iY (h:wC X c e t):QB X c e t:=have h:=h.h;⟨PW.pt h⟩
theorem mh (h:QB X c a t):wC X c (.BoolOp .And [a] pos) t:=have h:=h.h;⟨JF h⟩
theorem t_ (h:QB X c a t):wC X c (.BoolOp .Or [a] pos) t:=have h:=h.h;⟨Mq h⟩
theorem oF (h:QB X c a t) (h':wC X c (.BoolOp .And (b::rest) pos) u):wC X c (.BoolOp .And (a::b::rest) pos) (bJ t u):=have h:=h.h;have h':=h'.h;⟨HB (Mp h h') λσ H Q ⟨J,env,sr,w⟩=>by
 refine ⟨J,env,sr,aC (aG w) λk wk J1 H1 e1=>?_⟩;cases k with
 | true=>
  rw [if_pos rfl] at wk ⊢;exact ⟨J1,env,sr.ext e1,aC wk λk q J2 H2 e2=>q J2 H2 (e1.trans e2)⟩
 | false=>
  rw [if_neg (by decide)] at wk ⊢;exact wk J1 H1 e1⟩
theorem rV (h:QB X c a t) (h':wC X c (.BoolOp .Or (b::rest) pos) u):wC X c (.BoolOp .Or (a::b::rest) pos) (bX t u):=have h:=h.h;have h':=h'.h;⟨HB (NB h h') λσ H Q ⟨J,env,sr,w⟩=>by
 refine ⟨J,env,sr,aC (aG w) λk wk J1 H1 e1=>?_⟩;cases k with
 | true=>
  rw [if_pos rfl] at wk ⊢;exact wk J1 H1 e1
 | false=>
  rw [if_neg (by decide)] at wk ⊢;exact ⟨J1,env,sr.ext e1,aC wk λk q J2 H2 e2=>q J2 H2 (e1.trans e2)⟩⟩
theorem An (h:QB X c a t):QB X c (.UnaryOp .Not a pos) (bC t):=have h:=h.h;⟨rT (Mf h) λσ H Q ⟨J,env,sr,w⟩=>⟨J,env,sr,aC (aG w) λk wk J1 H1 e1=>wk J1 H1 e1⟩⟩
theorem yl {op}(h:QD X c a ga):QD X c (.BoolOp op [a] pos) ga:=have h:=h.h;⟨L8 h⟩
theorem uc (h:QD X c a ga) (h':QD X c (.BoolOp .And (b::rest) pos) gb):QD X c (.BoolOp .And (a::b::rest) pos) (bq ga gb):=have h:=h.h;have h':=h'.h;⟨ef (L3 h h') λσ H Q ⟨J,env,sr,w⟩=>by
 refine ⟨J,env,sr,aC (aG w) λr wr v J1 H1 e1 r1=>?_⟩;split at wr
 ·cases r1;exact ⟨true,rfl,Ly ⟨J1,env,sr.ext e1,aC wr λz q v J2 H2 e2 r2=>q v J2 H2 (e1.trans e2) (RR.from e1.h r2)⟩⟩
 ·cases r1;exact ⟨false,rfl,Lx (wr _ J1 H1 e1 (.bl _))⟩
 ·exact wr.elim⟩
theorem Ar (h:QD X c a ga):QD X c (.UnaryOp .Not a pos) (bw ga):=have h:=h.h;⟨ef (L7 h) λσ H Q ⟨J,env,sr,w⟩=>by
 refine ⟨J,env,sr,aC (aG w) λr wr v J1 H1 e1 r1=>?_⟩;split at wr
 ·cases r1;exact ⟨_,rfl,wr _ J1 H1 e1 (.bl _)⟩
 ·exact wr.elim⟩
theorem JJ {x:Tv}(hx:QB X c x t) (h:QD X c a ga) (h':QD X c b gb):QD X c (.IfExp x a b pos) (Oc t ga gb):=have hx:=hx.h;have h:=h.h;have h':=h'.h;⟨ef (F9 hx h h') λσ H Q ⟨J,env,sr,w⟩=>by
 refine ⟨J,env,sr,aC (aG w) λk wk J1 H1 e1=>?_⟩;cases k with
 | true=>
  rw [if_pos rfl] at wk ⊢;exact ⟨J1,env,sr.ext e1,aC wk λz q v J2 H2 e2 r2=>q v J2 H2 (e1.trans e2) (RR.from e1.h r2)⟩
 | false=>
  rw [if_neg (by decide)] at wk ⊢;exact ⟨J1,env,sr.ext e1,aC wk λz q v J2 H2 e2 r2=>q v J2 H2 (e1.trans e2) (RR.from e1.h r2)⟩⟩
end
section
variable {X:Cx}{c:C}{e a b tg:Tv}{es:List Tv}{ga gb g:G R}{pos:Pos}{st:VQ}{rest:List VQ}{t u:G O}{tb:G Bool}
theorem bx:kj X c [] bh:=⟨nK Aj λE σ H ⟨J,env,sr,w⟩=>w σ J H (aW.refl J) sr⟩
theorem au (h:jc X c st t) (h':kj X c rest u):kj X c (st::rest) (av t u):=have h:=h.h;have h':=h'.h;⟨nK (l_ h h') λE σ H ⟨J,env,sr,w⟩=>by
 refine ⟨J,env,sr,aC (aG w) λo wo=>?_⟩;cases o with
 | nx e=>exact λσ' J' H' s' sr'=>⟨J',e,sr',aC wo λo q=>q.mono s'⟩
 | rt r=>exact wo
 | bk e=>exact wo
 | ct e=>exact wo⟩
theorem aD (h:jc X c st t):kj X c [st] t:=have h:=h.h;⟨oB h⟩
theorem BO:jc X c (.Break pos) Hf:=⟨f7 Gf λE σ H ⟨J,env,sr,w⟩=>w σ J H (aW.refl J) sr⟩
theorem aU (h:QD X c e g):jc X c (.Return (some e) pos) (aM g):=have h:=h.h;⟨f7 (D6 h) λE σ H ⟨J,env,sr,w⟩=>by
 refine ⟨J,env,sr,aC (aG w) λr wr v J1 H1 e1 r1=>?_⟩;cases q:rF r with
 | bad=>rw [q] at wr;exact wr.elim
 | exc x=>cases r with
  | d _=>cases q
  | l m _=>cases m <;> cases q
  | mo _ _=>cases q
  | mb _ _=>cases q
  | mf _ _=>cases q
  | ln _=>cases q
  | o m _ _=>cases m <;> cases q
 | ok r'=>rw [q] at wr;exact wr v J1 H1 e1.j (sr.hp.ext e1) (RR.rf sr.hp r1 q)⟩
theorem bz {x:Tv}{as bs:List VQ}(hx:QB X c x tb) (h:kj X c as t) (h':kj X c bs u):jc X c (.If x as bs pos) (aQ tb t u):=have hx:=hx.h;have h:=h.h;have h':=h'.h;⟨f7 (HA hx h h') λE σ H ⟨J,env,sr,w⟩=>by
 refine ⟨J,env,sr,aC (aG w) λk wk J1 H1 e1=>?_⟩;cases k with
 | true=>
  rw [if_pos rfl] at wk ⊢;exact ⟨J1,env,sr.ext e1,aC wk λo q=>q.mono e1.j⟩
 | false=>
  rw [if_neg (by decide)] at wk ⊢;exact ⟨J1,env,sr.ext e1,aC wk λo q=>q.mono e1.j⟩⟩
theorem aO (i:Nat){x:Str}{pos':Pos}(hN:X.N.Nodup) (h:QD X c e g) (hi:autoParam (X.N[i]?=some x) zA._auto_1) (hx:Loc X.env.scope x:=by first | exact V5 rfl | exact Vh rfl) (hs:autoParam (Wc e (some (.Name x pos')) pos.line X.env=pure false) zA._auto_1)
  (hf:X.fn x=true\/X.env.scope.names.lookup x=some .local:=by first | exact .inl rfl | exact .inr rfl):jc X c (.Assign [.Name x pos'] e pos) (aN i g):=have h:=h.h;⟨f7 (rS hN hi hx h hs hf) λE σ H ⟨J,env,sr,w⟩=>by
 refine ⟨J,env,sr,aC (aG w) λr wr v J1 H1 e1 r1=>?_⟩;obtain ⟨x,q,wr⟩:=uq wr;exact wr (σ.set i (some v)) J1 H1 e1.j (sr.set e1 r1 q)⟩
theorem aS (i:Nat){x:Str}(hN:X.N.Nodup) (hi:autoParam (X.N[i]?=some x) zA._auto_1) (hx:Loc X.env.scope x:=by first | exact V5 rfl | exact Vh rfl) (hf:X.fn x=true\/X.env.scope.names.lookup x=some .local:=by first | exact .inl rfl | exact .inr rfl):qA X c (.Name x pos) (aH i):=⟨
 Hy (Jz hN hi hx hf) λv σ H Q ⟨J,env,d,sr,rd,w⟩=>w _ (sr.setD (x:=.d d) rd λx z=>by cases x <;> cases z) λj xs q=>by
  rcases fq q with ⟨_,_,e⟩ | ⟨hj,q⟩
  ·cases xs <;> cases e
  ·exact ⟨q,TL (UA hj)⟩⟩
theorem fc:AS X c [] gv:=⟨DY JA λvs σ H Q ⟨J,env,ds,sr,rd,w⟩=>by
 cases rd with
 | nil=>exact ⟨rfl,w σ sr KO.refl⟩
 | cons _ _=>exact w.elim⟩
theorem bH {t:GT}{u:qq}(h:qA X c e t) (h':AS X c es u) (hs:autoParam ((VA (e::es) X.env).map (·.2)=assign e X.env::(VA es X.env).map (·.2)) zA._auto_1):AS X c (e::es) (b7 t u):=have h:=h.h;have h':=h'.h;⟨
 DY (Ga h h' hs) λvs σ H Q ⟨J,env,ds,sr,rd,w⟩=>by
  cases rd with
  | nil=>exact w.elim
  | cons r rs=>
   refine ⟨_,_,rfl,J,env,_,sr,r,aC (aG w) λe1 w1 σ' sr' ko=>?_⟩;exact ⟨J,e1,_,sr',rs,aC w1 λe2 q σ2 sr2 ko2=>q σ2 sr2 (ko.trans ko2)⟩⟩
theorem fO {k:Nat}{u:qq}{n:Nat}(h:AS X c es u) (hc:autoParam (X.calm=true) zA._auto_1) (hK:autoParam (X.K=c.K) zA._auto_1) (hn:autoParam ((VA es X.env).length=n) zA._auto_1) (hst:autoParam ((VA es X.env).findIdx? (·.1)=none) zA._auto_1):qA X c (.Tuple es k pos) (gc n u):=have h:=h.h;⟨
 Hy (Mb hc h hn hst) λv σ H Q ⟨J,env,d,sr,rd,w⟩=>by
  cases rd with
  | tup h1 h2=>
   unfold gc at w;simp only at w;split at w
   ·rename_i hl;exact ⟨_,_,rfl,by rw [hK];exact f_ sr.hp.sub h1,by rw [<-h2.length];exact hl,J,env,_,sr,h2,w⟩
   ·exact w.elim
  | _=>exact w.elim⟩
theorem dM {Se:Tv}{body:List VQ}{gi:G (List D)}{t:GT}(hi:Cp X c tg Se gi) (ht:qA X c tg t) (hb:kj X c body u) (hp:abp (SX X.prog X.w) X.A X.env X.xe:=by first | exact abx | exact aaN) (hc:autoParam (X.calm=true) zA._auto_1)
  (hs:∀x,U4 Se X.env x=pure x:=by intro _;rfl):jc X c (.For tg Se body [] pos) (fF gi t u):=have hi:=hi.h;have ht:=ht.h;have hb:=hb.h;⟨f7 (Me hp hc hi ht hb hs) λE σ H ⟨J,env,sr,w⟩=>by
 refine ⟨J,env,sr,aC (aG w) λds wd It J1 H1 e1 wk=>?_⟩;refine ⟨λi m σ H=>m=ds.length - i/\∃J' env,aW J1 J'/\SR c J' H σ env/\cH (dS t u (ds.drop i) env) (oP c J' E) c.T,
  ⟨ds.length,by simp,J1,env,aW.refl J1,sr.ext e1,by rw [ZZ];exact aC wd λo q=>q.mono e1.j⟩,?_⟩
 rintro i m σ H ⟨rfl,J',env,s',sr',w'⟩;obtain ⟨w1,w2⟩:=wk i J' H sr'.hp s';by_cases hlt:i < ds.length
 ·obtain ⟨g1,y1⟩:=w2 ds[i] (by simp [hlt]);rw [VM hlt] at w';refine .inr ⟨g1,λσ2 H2=>∃J2 env2,aW J' J2/\SR c J2 H2 σ2 env2/\cH (dS t u (ds.drop (i + 1)) env2) (oP c J2 E) c.T,?_,?_⟩
  ·rintro σ2 H2 ⟨J2,env2,s2,sr2,w2⟩;exact ⟨ds.length - (i + 1),by omega,rfl,J2,env2,s'.trans s2,sr2,w2⟩
  ·intro x H2 hy;obtain ⟨J2,e2,rx⟩:=y1 x H2 hy;refine ⟨J2,env,ds[i],sr'.ext e2,rx,aC (aG w') λenv3 w3 σ3 sr3 _=>?_⟩;refine ⟨J2,env3,sr3,aC (aG w3) λo wo=>?_⟩;cases o with
   | nx env4=>exact λσ4 J4 H4 s4 sr4=>⟨J4,env4,e2.j.trans s4,sr4,aC wo λo q=>q.mono (e2.j.trans s4)⟩
   | ct env4=>exact λσ4 J4 H4 s4 sr4=>⟨J4,env4,e2.j.trans s4,sr4,aC wo λo q=>q.mono (e2.j.trans s4)⟩
   | bk env4=>exact λσ4 J4 H4 s4 sr4=>wo σ4 J4 H4 (e2.j.trans s4) sr4
   | rt r=>exact λv J4 H4 s4 h4 r4=>wo v J4 H4 (e2.j.trans s4) h4 r4
 ·rw [W5 (by omega)] at w';exact .inl ⟨w1 (by omega),w' σ J' H (aW.refl J') sr'⟩⟩
theorem cL {p:Pos}{gs:G (List R)}(ha:jK X c [a] gs) (hm:X.mg "range"=none) (hg:autoParam (Gl X "range") zA._auto_1) (hs:autoParam (SG [a] X.env=[(false,eval a X.env)]) zA._auto_1):Cp X c tg (.Call (.Name "range" p) [a] [] pos) (dD gs):=have ha:=ha.h;⟨
 vS (D0 hg hm ha hs) λσ H Q ⟨J,env,sr,w⟩=>by
  refine ⟨J,env,sr,aC (aG w) λrs wr vs J1 H1 e1 r1=>?_⟩;split at wr
  ·split at wr
   ·rename_i h;obtain ⟨v,rfl,r⟩:=r1.one;cases r;have h:=ez.mp h;exact ⟨_,rfl,Int.le_of_lt h.1,h.2,wr _ J1 H1 e1 B8⟩
   ·exact wr.elim
  ·exact wr.elim⟩
theorem p_ {gi:G (List D)}(h:Cp X c tg e gi):Co X c tg e gi:=have h:=h.h;⟨vS h λσ H Q ⟨J,env,sr,w⟩=>
 ⟨J,env,sr,aC w λds q It J1 H1 e1 wk=>q It J1 H1 e1 λi J' H' hp u=>wk i J' H' hp u.1⟩⟩
end
section
variable {X:Cx}{c:C}{e a b tg:Tv}{es:List Tv}{ga gb g:G R}{pos:Pos}
theorem eu (i:Nat){x:Str}{p1 p2 pos':Pos}(h:QD X c e g) (hN:autoParam (X.N[i]?=some x) zA._auto_1) (hv:mH X.env.scope x:=by first | exact V5 rfl | exact Vh (V5 rfl) | exact Vh (Vh rfl)) (hd:autoParam ((x == ("__debug__":Str))=false) zB._auto_1)
  (hcd:autoParam ((x == ("__classdict__":Str))=false) zB._auto_1)
  (hbase:autoParam (U9 (.Name x p1) "append" X.env (eval (.Name x p1) X.env)=eval (.Name x p1) X.env) zA._auto_1)
  (hfew:autoParam (((Vf pos' (SG [e] X.env)).all (λx=>!x.1) && (adA pos' (abt [] X.env)).all (λx=>x.1.isSome)
   && decide (([e]:List Tv).length + ([]:List abu).length + (if ([]:List abu).isEmpty then 0 else 1) < 30))=true) zA._auto_1)
  (hline:autoParam ((p2.endLine == pos'.line)=true) zA._auto_1) (hst:autoParam (SG [e] X.env=(false,eval e X.env)::SG [] X.env) zA._auto_1) (hplain:autoParam ((Vf pos' (SG [] X.env)).any (·.1)=false) zA._auto_1)
  (hs:autoParam (Wc (.Call (.Attribute (.Name x p1) "append" p2) [e] [] pos') none pos.line X.env=pure false) zA._auto_1):jc X c (.Expr (.Call (.Attribute (.Name x p1) "append" p2) [e] [] pos') pos) (dG i g):=have h:=h.h;⟨
 f7 (Ai (Hv WU PySem.F.slot_list_append PySem.F.type_list_append uN (fV hN hv hd hcd) (gq h iE hst) hbase hfew hline hst hplain) hs) λE σ H ⟨J,env,sr,w⟩=>by
  unfold dG at w;split at w
  ·rename_i xs hi;obtain ⟨v,h1,a,vs,rfl,h2,h3,h4,h5⟩:=sr.at_ i _ hi;refine ⟨.ref a,h1,.inl ⟨rfl,vs,cQ.of h2⟩,?_⟩;refine ⟨J,env,sr,aC (aG w) λr wr y J1 H1 e1 r1=>?_⟩;obtain ⟨d,q,wr⟩:=jG wr;obtain ⟨J2,e2,s2,rd⟩:=freeze e1 r1 q;split at wr
   ·rename_i hz;refine ⟨a,vs,y,rfl,rfl,e2.h _ _ h2,by rw [<-h5.length];exact hz,?_⟩;refine wr σ J2 _ e2.j ?_;exact (sr.ext e2).upd hi h1 (e2.h _ _ h2) (e2.frz a (by rw [h2];intro z;cases z) h3) h4 ((h5.mono e2.j).append (.cons rd .nil))
   ·exact wr.elim
  ·exact w.elim⟩
end
section
variable {X:Cx}{c:C}
theorem cD:sR X c [] fk:=⟨λSa s σ H Q I ⟨J,env,sr,w⟩=>wpAny_tests_nil ⟨H,I,w J H (Ext.refl sr.hp.sub)⟩⟩
theorem Ec {g:G Bool}(h:QB X c x g):sR X c [x] g:=have h:=h.h;⟨λSa s σ H Q I q=>wpAny_tests_one (h Sa s σ H Q I q)⟩
end
section
variable {K:Sk}{J:Hp}{s:Sn}
variable {X:Cx}{c:C}{e a b tg:Tv}{es:List Tv}{ga gb g:G R}{pos:Pos}
theorem yp (hu:X.A.units + 64 < VP) (ha:QD X c a ga) (hb:QD X c b gb) (hK:autoParam (X.K=c.K) zA._auto_1):QD X c (.Compare a [.Eq] [b] pos) (g2 (bZ false) ga gb):=have ha:=ha.h;have hb:=hb.h;⟨yf (DP hu) (A1 false hK) ha hb⟩
theorem cj (hu:X.A.units + 64 < VP) (ha:QD X c a ga) (hb:QD X c b gb) (hK:autoParam (X.K=c.K) zA._auto_1):QB X c (.Compare a [.Eq] [b] pos) (aT (g2 (bZ false) ga gb)):=have ha:=ha.h;have hb:=hb.h;⟨j3 (DP hu) (A1 false hK) ha hb⟩
theorem D8 (hu:X.A.units + 64 < VP) (ha:QD X c a ga) (hb:QD X c b gb) (hK:autoParam (X.K=c.K) zA._auto_1):QB X c (.Compare a [.NotEq] [b] pos) (aT (g2 (bZ true) ga gb)):=have ha:=ha.h;have hb:=hb.h;⟨j3 (LW hu) (A1 true hK) ha hb⟩
theorem nP (hu:X.A.units + 64 < VP) (ha:QD X c a ga) (hb:QD X c b gb) (hK:autoParam (X.K=c.K) zA._auto_1) (hm:autoParam (Ui .In b=false) zA._auto_1):QD X c (.Compare a [.In] [b] pos) (g2 (ie false) ga gb):=have ha:=ha.h;have hb:=hb.h;⟨yf (DQ hu) (A2 false hK) ha hb hm⟩
theorem D7 (hu:X.A.units + 64 < VP) (ha:QD X c a ga) (hb:QD X c b gb) (hK:autoParam (X.K=c.K) zA._auto_1) (hm:autoParam (Ui .In b=false) zA._auto_1):QB X c (.Compare a [.In] [b] pos) (aT (g2 (ie false) ga gb)):=have ha:=ha.h;have hb:=hb.h;⟨j3 (DQ hu) (A2 false hK) ha hb hm⟩
theorem D9 (hu:X.A.units + 64 < VP) (ha:QD X c a ga) (hb:QD X c b gb) (hK:autoParam (X.K=c.K) zA._auto_1) (hm:autoParam (Ui .NotIn b=false) zA._auto_1):QB X c (.Compare a [.NotIn] [b] pos) (aT (g2 (ie true) ga gb)):=have ha:=ha.h;have hb:=hb.h;⟨j3 (DR hu) (A2 true hK) ha hb hm⟩
end
section
variable {X:Cx}{c:C}{e a b tg:Tv}{es:List Tv}{ga gb g:G R}{pos:Pos}
theorem ir:GY X c none uE:=⟨Hz JB λσ H Q ⟨J,env,sr,w⟩=>w J H (Ext.refl sr.hp.sub)⟩
theorem e_ (h:QD X c e g):GY X c (some e) (mO g):=have h:=h.h;⟨Hz (JC h) λσ H Q ⟨J,env,sr,w⟩=>by
 refine ⟨J,env,sr,aC (aG w) λr wr v J1 H1 e1 r1=>?_⟩;split at wr
 ·cases r1;exact ⟨_,rfl,wr J1 H1 e1⟩
 ·exact wr.elim⟩
theorem rY {p:Pos}{gs:G (List R)}(ha:jK X c (e::es) gs) (hm:X.mg "sorted"=none) (hK:autoParam (X.K=c.K) zA._auto_1) (hg:autoParam (Gl X "sorted") zA._auto_1)
  (he:autoParam (SG (e::es) X.env=(false,eval e X.env)::SG es X.env) zA._auto_1) (hpl:autoParam ((Vf pos (SG es X.env)).any (·.1)=false) zA._auto_1):QD X c (.Call (.Name "sorted" p) (e::es) [] pos) (gN jC gs):=have ha:=ha.h;⟨
 pX wW (by
  intro He J H xs vs Q hp rs w;unfold jC at w;split at w
  ·obtain ⟨v,rfl,r⟩:=rs.one;obtain ⟨xs,q,w⟩:=lM w;obtain ⟨p,vs,rfl,h1,h2⟩:=RR.list hp r q;split at w
   ·rename_i ss z;split at w
    ·rename_i hl;have:=mC z h2;subst this;refine ⟨p,ss,rfl,by rw [hK];exact h1,hl,λss' hp' hs' l hl'=>?_⟩;rw [sC hp' hs'];exact w _ _ _ (Ext.new hp.sub hl' _) (gD hp hl' (nR _))
    ·exact w.elim
   ·exact w.elim
  ·exact w.elim) jQ hm ha hg (by decide) (by decide) he hpl⟩
theorem bR (ha:QD X c a ga) (hb:QD X c b gb):QD X c (.BinOp a .Add b pos) (g2 bG ga gb):=by
 have ha:=ha.h;have hb:=hb.h;refine ⟨?_⟩;have h1:BD c (nQ λi j=>.int (i + j)) Fj:=iC λ_ _ _=>.int _;have q:=kD (pos:=pos) (DM.or (rN.or DN)) (BD.or (c:=c) (λx _=>zV x) h1 (BD.or (c:=c) (λx _=>Hl x) (f:=qR) (f':=oj) (by
  intro He He' J H x y u v Q hp rx ry w;unfold qR at w;split at w
  ·cases rx;cases ry;split at w
   ·rename_i h;exact ⟨_,_,rfl,rfl,h,w _ J H (Ext.refl hp.sub) (.str _)⟩
   ·exact w.elim
  ·exact w.elim) (by
  intro He He' J H x y u v Q hp rx ry w;unfold oj at w;split at w
  ·rename_i hm;rw [SI] at hm;obtain ⟨p,vs,xs,e1,rfl,h1,s1⟩:=rx.made hm.1;obtain ⟨p2,vs2,ys,e2,rfl,h2,s2⟩:=ry.made hm.2;rw [e1,e2] at w;simp only [aK] at w;split at w
   ·rename_i hz;rw [s1.length,s2.length] at hz;exact ⟨p,p2,vs,vs2,rfl,rfl,h1,h2,hz,λq hq=>w _ J _ (Ext.new hp.sub hq _) (gD hp hq (s1.append s2))⟩
   ·exact w.elim
  ·exact w.elim))) ha hb
 exact q
theorem dQ (ha:QD X c a ga) (hb:QD X c b gb):QD X c (.BinOp a .Mult b pos) (g2 cR ga gb):=by
 have ha:=ha.h;have hb:=hb.h;refine ⟨?_⟩;have h1:BD c (rI AG λi j=>.int (i * j)) Lf:=A0 (λi j h=>IT h) λ_ _ _=>.int _;exact kD (pos:=pos) (LV.or Jl) (BD.or (c:=c) (λx _=>zV x) h1 (f':=Bc) (by
  intro He He' J H x y u v Q hp rx ry w;unfold Bc at w;split at w
  ·cases rx;cases ry;split at w
   ·rename_i h;exact ⟨_,_,rfl,rfl,h.1,h.2.1,h.2.2,w _ J H (Ext.refl hp.sub) (.str _)⟩
   ·exact w.elim
  ·exact w.elim)) ha hb
theorem aB (ha:QD X c a ga) (hb:QD X c b gb) (hK:autoParam (X.K=c.K) zA._auto_1) (hs:n6 b:=by exact λ_ _=>rfl):QD X c (.Subscript a b pos) (g2 aV ga gb):=have ha:=ha.h;have hb:=hb.h;⟨Nu Lz (by
 intro He He' J H x y u v Q hp rx ry w;rw [hK];unfold aV at w;split at w
 ·cases rx;cases ry;split at w
  ·rename_i h;split at w
   ·rename_i k hk;exact .inr (.inr ⟨_,_,k,rfl,rfl,h,hk,w _ J H (Ext.refl hp.sub) (.str _)⟩)
   ·exact w.elim
  ·exact w.elim
 ·cases ry;obtain ⟨xs,q,w⟩:=i8 w;obtain ⟨p,vs,rfl,hl,hs⟩:=jB hp rx q;split at w
  ·rename_i d hd;obtain ⟨z,h1,h2⟩:=JO hs hd;have fin:=w z J H (Ext.refl hp.sub) h2;rcases hl with hl | hl
   ·exact .inl ⟨p,vs,_,z,rfl,rfl,hl,h1,fin⟩
   ·exact .inr (.inl ⟨p,vs,_,z,rfl,rfl,hl,h1,fin⟩)
  ·exact w.elim
 ·exact w.elim) ha hb hs⟩
theorem bf {F:List S->M R}{gs:G (List R)}(G:bU X.prog X.w X.K X.mg X.base k n x F) (hr:cO k' X.A) (ha:jK X c (e::es) gs) (hk:autoParam (k<=k') zB._auto_1) (hT:autoParam (c.K=X.K) zA._auto_1) (hg:autoParam (Gl X x) zA._auto_1) (hdb:autoParam ((x == ("__debug__":Str))=false) zB._auto_1)
 (he:autoParam (SG (e::es) X.env=(false,eval e X.env)::SG es X.env) zA._auto_1) (hpl:autoParam ((Vf pos (SG es X.env)).any (·.1)=false) zA._auto_1):QD X c (.Call (.Name x p) (e::es) [] pos) (gN (aE n F) gs):=by have ha:=ha.h;refine ⟨?_⟩;obtain ⟨f,fd,ps,h1,h2,h3,h4⟩:=G;exact Jq h1 (hr.mono hk) h2 h3 h4 ha hT hg hdb he hpl
theorem mq (h:QD X c e g) (ht:qA X c tg t) (hs:autoParam (XM [tg] e pos.line X.env=pure false) zA._auto_1) (hw:autoParam (YQ [tg] e X.env=pure none) zA._auto_1)
 (h1:autoParam ((VA [tg] X.env).map (·.2)=[assign tg X.env]) zA._auto_1):jc X c (.Assign [tg] e pos) (nq t g):=have h:=h.h;have ht:=ht.h;⟨Jo h ht (yh h ht hs hw h1)⟩
theorem rW {T:String}{Ts:Str}{p p2:Pos}(kit:GR T) (hT:Uz Ts=some (.type T)) (mT:X.mg Ts=none)
  (h:QD X c a g) (hm:X.mg "isinstance"=none) (hK:autoParam (X.K=c.K) zA._auto_1) (hg:autoParam (Gl X "isinstance") zA._auto_1) (RU:autoParam (Gl X Ts) zA._auto_1) (hn:autoParam (Ts≠"__name__") zB._auto_1) (RP:autoParam ((Ts == ("__debug__":Str))=false) zB._auto_1)
  (he:autoParam (SG [a,.Name Ts p2] X.env=(false,eval a X.env)::SG [.Name Ts p2] X.env) zA._auto_1) (RS:autoParam (SG [.Name Ts p2] X.env=(false,eval (.Name Ts p2) X.env)::SG [] X.env) zA._auto_1)
  (hpl:autoParam ((Vf pos (SG [.Name Ts p2] X.env)).any (·.1)=false) zA._auto_1):QD X c (.Call (.Name "isinstance" p) [a,.Name Ts p2] [] pos) (cF T g):=have h:=h.h;⟨
 ef (pY (yQ kit) hg hm (by decide +kernel) (gq h (gq (Jt RU mT hT (v:=.ty T) rfl hn RP) iE RS) he) (by decide) (by decide) he hpl) λσ H Q ⟨J,env,sr,w⟩=>by
  refine ⟨J,env,sr,aC (aG w) λr wr v J1 H1 e1 r1=>?_⟩;exact ⟨r.dat,v,rfl,by rw [hK];exact r1.dat (sr.hp.ext e1),wr _ J1 H1 e1 (.bl _)⟩⟩
theorem qd (ha:QD X c a ga) (hb:QD X c b gb) (hK:autoParam (X.K=c.K) zA._auto_1):QD X c (.BinOp a .Add b pos) (g2 oi ga gb):=by
 have ha:=ha.h;have hb:=hb.h;refine ⟨?_⟩;have h1:BD c (nQ λi j=>.int (i + j)) Fj:=iC λ_ _ _=>.int _;exact kD (pos:=pos) (DO.or (DM.or (rN.or DN))) (BD.or (c:=c) (λx _=>Lw x) (Ik hK) (BD.or (c:=c) (λx _=>zV x) h1 (BD.or (c:=c) (λx _=>Hl x) (f:=qR) (f':=oj) (by
  intro He He' J H x y u v Q hp rx ry w;unfold qR at w;split at w
  ·cases rx;cases ry;split at w
   ·rename_i h;exact ⟨_,_,rfl,rfl,h,w _ J H (Ext.refl hp.sub) (.str _)⟩
   ·exact w.elim
  ·exact w.elim) (by
  intro He He' J H x y u v Q hp rx ry w;unfold oj at w;split at w
  ·rename_i hm;rw [SI] at hm;obtain ⟨p,vs,xs,e1,rfl,h1,s1⟩:=rx.made hm.1;obtain ⟨p2,vs2,ys,e2,rfl,h2,s2⟩:=ry.made hm.2;rw [e1,e2] at w;simp only [aK] at w;split at w
   ·rename_i hz;rw [s1.length,s2.length] at hz;exact ⟨p,p2,vs,vs2,rfl,rfl,h1,h2,hz,λq hq=>w _ J _ (Ext.new hp.sub hq _) (gD hp hq (s1.append s2))⟩
   ·exact w.elim
  ·exact w.elim)))) ha hb
theorem ig {lo hi:Option Tv}{gl gh:GO}{p2:Pos}(h:QD X c e g) (hl:GY X c lo gl) (hh:GY X c hi gh) (hK:autoParam (X.K=c.K) zA._auto_1):QD X c (.Subscript e (.Slice lo hi none p2) pos) (nu jS g gl gh):=have h:=h.h;have hl:=hl.h;have hh:=hh.h;⟨Nv (Em.or JV) (by
 intro He J H x v l u Q hp rx w;unfold jS at w;split at w
 ·exact .inl (O5 hK He J H x v l u Q hp rx w)
 ·obtain ⟨xs,q,w⟩:=lM w;obtain ⟨p,vs,rfl,h1,h2⟩:=rx.list hp q;exact .inr ⟨p,vs,rfl,by rw [hK];exact h1,λp' hp'=>w _ _ _ (Ext.new hp.sub hp' _) (gD hp hp' (h2.cut l u))⟩) h hl hh⟩
theorem JK {st:Tv}{p2:Pos}(h:QD X c e g) (hst:PE X st (tC (.int (-1)))) (hK:autoParam (X.K=c.K) zA._auto_1):QD X c (.Subscript e (.Slice none none (some st) p2) pos) (Lj g):=by
 have h:=h.h;refine ⟨?_⟩;intro Sa s σ H Q I ⟨J,env,sr,w⟩;refine aaF (bO (h Sa s σ H (λv H1=>∃a xs,v=.ref a/\d8 X.K H1 a xs/\∀p,H1 p=none->Q (.ref p) (upd H1 p (.tup xs.reverse))) I ⟨J,env,sr,aC (aG w) λr wr v J1 H1 e1 r1=>?_⟩) λv s1 ⟨x,H1,I1,r1,a,xs,hx,hq,q⟩=>?_)
 ·split at wr
  ·cases r1 with
   | tup h1 s1=>
    exact ⟨_,_,rfl,by rw [hK];exact f_ e1.sub h1,λp hp'=>wr _ _ _ (e1.trans (Ext.newJ e1.sub hp' _)) (j6 (sr.hp.ext e1) hp' s1.rev)⟩
  ·exact wr.elim
 subst hx;cases r1;refine wpAny_Slice ?_;rw [aan];refine Sm (Sm ?_);rw [acq];refine bO (hst Sa s1 σ H1 (λv H2=>v=.int (-1)/\H2=H1) I1 ⟨rfl,rfl⟩) λu s3 ⟨y,H3,I3,r3,hy,hH⟩=>?_;subst hy hH;obtain ⟨k,rfl⟩:=r3;have I4:Inv X Sa σ H3 {s3 with heap:=s3.heap.push {cls:=.type "slice",data:=.fields #[.none,.none,.int (-1) k]}}:=I3.kept (t':=s3.toks) λb ob q=>Sq _ q;obtain ⟨Sb,r,ht,hz⟩:=I4.tuple hq;have hlen:=r.length;refine acr (ops:=[.ref a,.ref s3.heap.objs.size]) ht.typeIs Tg.lookup ?_ (by with_unfolding_all rfl);refine EB ht (aao ..) ?_ (by rw [SA];omega);refine ⟨.ref _,_,I4.laid (t':=s3.toks) (o:=.tup xs.reverse) (λb ob q=>Sq _ q) (Sw _) ?_,rfl,q _ (I4.hok.fresh (Sw _))⟩;exact ⟨by simpa using hz,_,r.reverse,abr _ _,λo q=>by rw [Sz _ rfl] at q;cases q;rfl⟩
theorem nO (h:AL X.K X.mg x d) (hK:autoParam (X.K=c.K) zA._auto_1) (hg:autoParam (Gl X x) zA._auto_1) (hd:autoParam ((x == ("__debug__":Str))=false) zB._auto_1):QD X c (.Name x pos) (gC d):=by refine ⟨?_⟩;obtain ⟨u,v,h1,h2,h3⟩:=h;exact Jr h1 h2 (λJ=>hK▸h3 J) hg hd
end
section
variable {X:Cx}{c:C}{e a b tg:Tv}{es:List Tv}{ga gb g:G R}{pos:Pos}{st:VQ}{t u:G O}{tb:G Bool}
theorem mj:jc X c st vK:=⟨λSa s σ H D I ⟨J,env,sr,w⟩=>w.elim⟩
theorem lF (h:QD X c a g):QD X c (.UnaryOp .USub a pos) (tG g):=have h:=h.h;⟨ef (Hx EF h) λσ H Q ⟨J,env,sr,w⟩=>by
 refine ⟨J,env,sr,aC (aG w) λr wr v J1 H1 e1 r1=>?_⟩;split at wr
 ·cases r1;exact ⟨_,rfl,wr _ J1 H1 e1 (.int _)⟩
 ·exact wr.elim⟩
theorem JI (h:QD X c e g) (hK:autoParam (X.K=c.K) zA._auto_1) (he:∀whole,aah e X.env whole=(do let v <-whole;Ws e.pos;holding [v] (truthy v)):=by intro _;rfl):QB X c e (Lk g):=have h:=h.h;⟨rT (Gh h he) λσ H Q ⟨J,env,sr,w⟩=>by
 refine ⟨J,env,sr,aC (aG w) λr wr v J1 H1 e1 r1=>?_⟩;rw [hK];obtain ⟨k,k1,k2⟩:=J_ (sr.hp.ext e1) r1 wr;exact ⟨k,k1,k2 J1 H1 e1⟩⟩
theorem BP (n:Nat){body:List VQ}(ht:QB X c e tb) (hb:kj X c body u) (hp:abp (SX X.prog X.w) X.A X.env X.xe:=by first | exact abx | exact aaN):jc X c (.While e body [] pos) (xC n tb u):=have ht:=ht.h;have hb:=hb.h;⟨f7 (Gg hp ht hb) λE σ H ⟨J,env,sr,w⟩=>by
 refine ⟨λm σ H=>∃J' env,aW J J'/\SR c J' H σ env/\cH (kh tb u m env) (oP c J' E) c.T,⟨n,J,env,aW.refl J,sr,w⟩,?_⟩;rintro m σ H ⟨J',env,s',sr',w'⟩;cases m with
 | zero=>exact w'.elim
 | succ m=>
  refine ⟨J',env,sr',aC (aG w') λk wk J1 H1 e1=>?_⟩;cases k with
  | false=>
   rw [if_neg (by decide)] at wk ⊢;exact wk σ J1 H1 e1.j (sr'.ext e1)
  | true=>
   rw [if_pos rfl] at wk ⊢;refine ⟨λσ2 H2=>∃J2 env2,aW J1 J2/\SR c J2 H2 σ2 env2/\cH (kh tb u m env2) (oP c J2 E) c.T,?_,?_⟩
   ·rintro σ2 H2 ⟨J2,env2,s2,sr2,w2⟩;exact ⟨m,TX m,J2,env2,(s'.trans e1.j).trans s2,sr2,w2⟩
   ·refine ⟨J1,env,sr'.ext e1,aC (aG wk) λo wo=>?_⟩;cases o with
    | nx env4=>exact λσ4 J4 H4 s4 sr4=>⟨J4,env4,s4,sr4,aC wo λo q=>q.mono (e1.j.trans s4)⟩
    | ct env4=>exact λσ4 J4 H4 s4 sr4=>⟨J4,env4,s4,sr4,aC wo λo q=>q.mono (e1.j.trans s4)⟩
    | bk env4=>exact λσ4 J4 H4 s4 sr4=>wo σ4 J4 H4 (e1.j.trans s4) sr4
    | rt r=>exact λv J4 H4 s4 h4 r4=>wo v J4 H4 (e1.j.trans s4) h4 r4⟩
theorem Gm (i j:Nat){x y:Str}{p1 p2 pos' pos'':Pos}(nd:X.N.Nodup) (hi:autoParam (X.N[i]?=some x) zA._auto_1) (hx:Loc X.env.scope x:=by first | exact V5 rfl | exact Vh rfl) (hj:autoParam (X.N[j]?=some y) zA._auto_1)
  (hv:mH X.env.scope y:=by first | exact V5 rfl | exact Vh (V5 rfl) | exact Vh (Vh rfl)) (hd:autoParam ((y == ("__debug__":Str))=false) zB._auto_1) (hcd:autoParam ((y == ("__classdict__":Str))=false) zB._auto_1)
  (hbase:autoParam (U9 (.Name y p1) "pop" X.env (eval (.Name y p1) X.env)=eval (.Name y p1) X.env) zA._auto_1) (hline:autoParam ((p2.endLine == pos'.line)=true) zA._auto_1)
  (hs:autoParam (Wc (.Call (.Attribute (.Name y p1) "pop" p2) [] [] pos') (some (.Name x pos'')) pos.line X.env=pure false) zA._auto_1)
  (hf:X.fn x=true\/X.env.scope.names.lookup x=some .local:=by first | exact .inl rfl | exact .inr rfl):jc X c (.Assign [.Name x pos''] (.Call (.Attribute (.Name y p1) "pop" p2) [] [] pos') pos) (xB i j):=⟨
 f7 (rS nd hi hx (L4 WU PySem.F.slot_list_pop PySem.F.type_list_pop LL (fV hj hv hd hcd) hbase hline) hs hf) λE σ H ⟨J,env,sr,w⟩=>by
  unfold xB at w;split at w
  ·rename_i xs Rz;split at w
   ·rename_i d QO;obtain ⟨v,h1,p,vs,rfl,h2,h3,h4,h5⟩:=sr.at_ j _ Rz;refine ⟨.ref p,h1,.inl ⟨rfl,vs,cQ.of h2⟩,?_⟩;obtain ⟨z,hz,rz⟩:=h5.get QO;refine ⟨p,vs,z,rfl,rfl,h2,by rw [<-h5.length];exact hz,?_⟩;have sr2:=sr.upd (xs':=xs.dropLast) (vs':=vs.dropLast) Rz h1 h2 h3 h4 h5.dropLast;exact w (σ.set i (some z)) J _ (aW.refl J) (sr2.setD (x:=.d d) rz λx q=>by cases x <;> cases q)
   ·exact w.elim
  ·exact w.elim⟩
end
section
variable {X:Cx}{c:C}{e a b tg:Tv}{es:List Tv}{ga gb g:G R}{pos:Pos}
theorem yZ (i:Nat){x:Str}{p1 p2 pos':Pos}(h:QD X c e g) (hN:autoParam (X.N[i]?=some x) zA._auto_1) (hv:mH X.env.scope x:=by first | exact V5 rfl | exact Vh (V5 rfl) | exact Vh (Vh rfl)) (hd:autoParam ((x == ("__debug__":Str))=false) zB._auto_1)
  (hcd:autoParam ((x == ("__classdict__":Str))=false) zB._auto_1)
  (hbase:autoParam (U9 (.Name x p1) "extend" X.env (eval (.Name x p1) X.env)=eval (.Name x p1) X.env) zA._auto_1)
  (hfew:autoParam (((Vf pos' (SG [e] X.env)).all (λx=>!x.1) && (adA pos' (abt [] X.env)).all (λx=>x.1.isSome)
   && decide (([e]:List Tv).length + ([]:List abu).length + (if ([]:List abu).isEmpty then 0 else 1) < 30))=true) zA._auto_1)
  (hline:autoParam ((p2.endLine == pos'.line)=true) zA._auto_1) (hst:autoParam (SG [e] X.env=(false,eval e X.env)::SG [] X.env) zA._auto_1) (hplain:autoParam ((Vf pos' (SG [] X.env)).any (·.1)=false) zA._auto_1)
  (hs:autoParam (Wc (.Call (.Attribute (.Name x p1) "extend" p2) [e] [] pos') none pos.line X.env=pure false) zA._auto_1) (hK:autoParam (X.K=c.K) zA._auto_1):jc X c (.Expr (.Call (.Attribute (.Name x p1) "extend" p2) [e] [] pos') pos) (xA i g):=have h:=h.h;⟨
 f7 (Ai (Hv WU PySem.F.slot_list_extend PySem.F.type_list_extend LK (fV hN hv hd hcd) (gq h iE hst) hbase hfew hline hst hplain) hs) λE σ H ⟨J,env,sr,w⟩=>by
  unfold xA at w;split at w
  ·rename_i xs hi;obtain ⟨v,h1,a,vs,rfl,h2,h3,h4,h5⟩:=sr.at_ i _ hi;refine ⟨.ref a,h1,.inl ⟨rfl,vs,cQ.of h2⟩,?_⟩;refine ⟨J,env,sr,aC (aG w) λr wr y J1 H1 e1 r1=>?_⟩;obtain ⟨ys,q,wr⟩:=i8 wr;split at wr
   ·rename_i hz;obtain ⟨p,ws,rfl,hq,hs⟩:=jB (sr.hp.ext e1) r1 q;refine ⟨a,p,vs,ws,rfl,rfl,e1.h _ _ h2,by rw [hK];exact hq,by rw [<-h5.length,<-hs.length];exact hz,?_⟩;refine wr σ J1 _ e1.j ?_;exact (sr.ext e1).upd hi h1 (e1.h _ _ h2) (e1.frz a (by rw [h2];intro z;cases z) h3) h4 ((h5.mono e1.j).append hs)
   ·exact wr.elim
  ·exact w.elim⟩
theorem Mt (ha:QD X c a ga) (hb:QD X c b gb):QB X c (.Compare a [.Is] [b] pos) (aT (g2 (G9 false) ga gb)):=have ha:=ha.h;have hb:=hb.h;⟨j3 LR (by
 intro He He' J H x y u v Q hp rx ry w;unfold G9 at w;split at w
 ·rename_i o ho;refine ⟨o,by rw [Ae ry];exact ho,?_⟩;rw [Ae rx];exact w _ J H (Ext.refl hp.sub) (.bl _)
 ·exact w.elim) ha hb⟩
end
section
variable {X:Cx}{c:C}{e a b tg i:Tv}{es:List Tv}{ga gb g:G R}{pos:Pos}
theorem yo {x:Str}{Sh:List (Str×D)}{p:Pos}(h:ql X.K X.w X.mg x Sh) (hi:QD X c i g) (hK:autoParam (X.K=c.K) zA._auto_1) (hg:autoParam (Gl X x) zA._auto_1) (hd:autoParam ((x == ("__debug__":Str))=false) zB._auto_1) (hs:n6 i:=by exact λ_ _=>rfl):QD X c (.Subscript (.Name x p) i pos) (Bf Sh g):=by
 have hi:=hi.h;refine ⟨?_⟩;obtain ⟨a,us,h1,h2,h3,h4⟩:=h;refine ef (Hw FE (tV (v:=.ref a) hg h1 rfl hd) hi hs) λσ H Q ⟨J,env,sr,w⟩=>?_;refine ⟨J,env,sr,aC (aG w) λr wr v J1 H1 e1 r1=>?_⟩;split at wr
 ·rename_i k;cases r1;split at wr
  ·rename_i d hd';obtain ⟨u,v,k1,k2,k3⟩:=(h4.get k).1 d hd';exact ⟨a,us,k,u,v,rfl,rfl,h3,k1,k2,wr v J1 H1 e1 (show Rep c.K J1 d v from hK▸k3 J1)⟩
  ·exact wr.elim
 ·exact wr.elim
theorem JH {x:Str}{Sh:List (Str×D)}{p:Pos}(h:ql X.K X.w X.mg x Sh) (ha:QD X c a g) (hg:autoParam (Gl X x) zA._auto_1) (hd:autoParam ((x == ("__debug__":Str))=false) zB._auto_1) (hm:autoParam (Ui .In (.Name x p)=false) zA._auto_1):QB X c (.Compare a [.In] [.Name x p] pos) (aT (Li false Sh g)):=by
 have ha:=ha.h;refine ⟨?_⟩;obtain ⟨q,us,h1,h2,h3,h4⟩:=h;refine rT (tZ LQ ha (tV (v:=.ref q) hg h1 rfl hd) hm) λσ H Q ⟨J,env,sr,w⟩=>?_;refine ⟨J,env,sr,aC (aG (aG w)) λr wr v J1 H1 e1 r1=>?_⟩;split at wr
 ·rename_i k;cases r1;refine ⟨q,us,k,rfl,rfl,h2,h3,?_⟩;rw [(h4.get k).2];exact ⟨_,rfl,wr J1 H1 e1⟩
 ·exact wr.elim
end
section
variable {prog:SK}{w:S9}{A:Te}{E:Sl->Sn->Prop}{s:Sn}{l:SM}{us:Array Sl}{ns:List Int}
variable {X:Cx}{c:C}{e a b tg i:Tv}{es:List Tv}{ga gb g:G R}{pos:Pos}
theorem yq {d:Int}{j:Nat}{p kp vp:Pos}(ha:QD X c e g) (hm:X.mg "max"=none) (hK:autoParam (X.K=c.K) zA._auto_1) (hc:autoParam (X.calm=true) zA._auto_1) (hg:autoParam (Gl X "max") zA._auto_1)
  (he:autoParam (Vf pos (SG [e] X.env)=(false,eval e X.env)::Vf pos (SG [] X.env)) zA._auto_1) (hst:autoParam (SG [e] X.env=(false,eval e X.env)::SG [] X.env) zA._auto_1)
  (hplain:autoParam ((Vf pos (SG [e] X.env)).any (·.1)=false) zA._auto_1):QD X c (.Call (.Name "max" p) [e] [⟨some "default",.Constant (.int d) j vp,kp⟩] pos) (qX d g):=by
 have ha:=ha.h;refine ⟨?_⟩;intro Sa s σ H Q I ⟨J,env,sr,w⟩;refine V8 (nF I hg hm acO ?_ (by decide) (by decide));refine acg (bO ((gq ha iE hst) pos Sa s σ H (λvs H1=>∃p ns J1,vs=[.ref p]/\cQ X.K H1 p (ns.map V.int)/\Ext J H J1 H1/\∀v J' H',Ext J H J' H'->RR c H J' H' (.d (.int (kR d ns))) v->Q v H') I ⟨J,env,sr,aC (aG w) λr wr v J1 H1 e1 r1=>?_⟩) λus s1 ⟨vs,H1,I1,rv,p,ns,J1,hvs,hq,e1,q⟩=>?_) he hplain rfl rfl
 ·obtain ⟨xs,hx,wr⟩:=lM wr;obtain ⟨p,ws,rfl,hl,hs⟩:=RR.list (sr.hp.ext e1) r1 hx;split at wr
  ·rename_i ns hns;have:=rD hns hs;subst this;exact ⟨p,ns,J1,rfl,by rw [hK];exact hl,e1,wr⟩
  ·exact wr.elim
 ·subst hvs;obtain ⟨u,rfl,ru⟩:=rv.one;cases ru;refine acP (bO (yg Sa s1 σ H1 (λv H2=>v=.int d/\H2=H1) I1 ⟨rfl,rfl⟩) λdv s2 ⟨v2,H2,I2,r2,hv2,RE⟩=>acX ?_);subst hv2 RE;obtain ⟨td,rfl⟩:=r2;obtain ⟨Sb,r',pl,hz⟩:=I2.list hq;have hlen:=r'.length;rw [So] at hlen;show SO _ _ (call (.builtin "max") [.ref p] [("default",.int d td)]) _ _ s2;refine CC (I2.ok.hd hc) pl.isList (Kf r') (by simp [hlen]) λt' h' tk k=>?_;exact ⟨.int _,H2,I2.kept k,⟨t',rfl⟩,q _ J1 H2 e1 (.int _)⟩
end
section
variable {X:Cx}{c:C}{e a b d tg:Tv}{es:List Tv}{ga gb g:G R}{pos:Pos}
theorem j4 (h:QD X c e g) (hK:autoParam (X.K=c.K) zA._auto_1):Cp X c tg e (tF g):=have h:=h.h;⟨vS (DZ h) λσ H Q ⟨J,env,sr,w⟩=>by
 refine ⟨J,env,sr,aC (aG w) λr wr v J1 H1 e1 r1=>?_⟩;rw [hK];split at wr
 ·cases r1 with
  | tup h1 h2=>exact ⟨_,rfl,.inr ⟨⟨_,f_ e1.sub h1⟩,wr _ J1 H1 e1 (u_ (λJ H u=>u) h1 h2)⟩⟩
 ·cases r1 with
  | lst h1 h2=>exact ⟨_,rfl,.inl ⟨⟨_,e1.sub.seq h1⟩,wr _ J1 H1 e1 (n5 (.inl h1) h2)⟩⟩
 ·obtain ⟨J2,e2,s2,rd⟩:=freeze e1 r1 rfl;cases rd with
  | lst h1 h2=>exact ⟨_,rfl,.inl ⟨⟨_,e2.sub.seq h1⟩,wr _ J2 H1 e2 (n5 (.inl h1) h2)⟩⟩
 ·obtain ⟨a,vs,rfl,h1,h2⟩:=r1;exact ⟨_,rfl,.inl ⟨⟨_,(sr.hp.ext e1).ent.seq h1⟩,wr _ J1 H1 e1 (n5 (.inr h1) h2)⟩⟩
 ·exact wr.elim⟩
theorem dw (h:QD X c e g) (hK:autoParam (X.K=c.K) zA._auto_1):Co X c tg e (gM g):=have h:=h.h;⟨vS (DZ h) λσ H Q ⟨J,env,sr,w⟩=>by
 refine ⟨J,env,sr,aC (aG w) λr wr v J1 H1 e1 r1=>?_⟩;rw [hK];have lst:∀{xs:List D},fQ r=.ok xs->(∀It J1' H1',Ext J H J1' H1'->Walk c It xs J1' (λJ' H'=>aW J1' J'/\aW H1' H')->Q It H1')->∃a,v=.ref a/\(((∃xs,cQ c.K H1 a xs)/\Q (GN c.K a) H1)\/((∃xs,d8 c.K H1 a xs)/\Q (GQ c.K a) H1)):=fun {xs} q wr=>by obtain ⟨a,vs,rfl,h1,h2⟩:=RR.list (sr.hp.ext e1) r1 q;refine ⟨a,rfl,.inl ⟨⟨_,h1⟩,wr _ J1 H1 e1 λi J' H' hp u=>?_⟩⟩;have h':=u.2.seq h1;refine ⟨λhl=>⟨vs,h',by rw [<-h2.length];exact hl⟩,λd hd=>?_⟩;obtain ⟨v,k1,k2⟩:=h2.get hd;refine ⟨⟨vs,v,h',k1⟩,λx H2 ⟨e,hy⟩=>?_⟩;subst e;have:=hy vs h';rw [k1] at this;cases this;exact ⟨J',Ext.refl hp.sub,k2.mono u.1⟩
 cases r with
 | d y=>
  cases y with
  | tup xs=>
   cases r1 with
   | tup h1 h2=>exact ⟨_,rfl,.inr ⟨⟨_,f_ e1.sub h1⟩,wr _ J1 H1 e1 (u_ (λJ H u=>u.1) h1 h2)⟩⟩
  | lst xs=>exact lst rfl wr
  | _=>exact wr.elim
 | l m xs=>exact lst rfl wr
 | mo _ _=>exact wr.elim
 | mb _ _=>exact wr.elim
 | mf _ _=>exact wr.elim
 | ln _=>exact wr.elim
 | o _ _ _=>exact wr.elim⟩
end
section
variable {X:Cx}{c:C}
theorem lD {P:SK}{w:S9}{K:Sk}{mg:Str->Option Sl}{base:Uo}{x Sf:Str}{st:VQ}{f:SM}{fd:Tj}{N ps:List Str}{k:Nat}{Fm:List S->M R}(F:gg K x Sf st f fd) (hm:mg x=some (.ref f)) (Sc:cS N ps (aJ st))
  (hbi:∀(kV doc pm:Sl) (an:Option SM) (cdv ct:Sl) (us:List Sl),us.length=ps.length->Xj (Tp x Sf (cB st) (bB st) (aJ st) .none kV doc pm an cdv ct) ⟨us,[]⟩=pure (ps.zip us)){gB:G O}
  (hb:∀(cdv:Sl) (A:Te) (outer:List Env) (s:Sn) (H:Hp) (E:XK) (J:Hp) (T:Exc->Prop),cO k (A.deeper (W3 Sf (aJ st) s.heap.objs.size f cdv))->
   kj (qM P w K mg base N Sf (aJ st) f cdv A outer s H E) ⟨K,H,J,T⟩ (bB st) gB)
  (hF:∀as r,as.length=ps.length->Fm as=.ok r->fin (gB (aF N as))=.ok r):bU P w K mg base (k + 1) ps.length x Fm:=
 K1 F hm Sc hbi (λcdv A outer s H E J T hr=>(hb cdv A outer s H E J T hr).h) hF
theorem JG {P:SK}{w:S9}{K:Sk}{mg:Str->Option Sl}{base:Uo}{x Sf:Str}{st:VQ}{f:SM}{fd:Tj}{N ps:List Str}{k:Nat}{Fm:List S->M R}(F:gg K x Sf st f fd) (Sc:cS N ps (aJ st)){gB:G O}
  (hb:∀(cdv:Sl) (A:Te) (outer:List Env) (s:Sn) (H:Hp) (E:XK) (J:Hp) (T:Exc->Prop),cO k (A.deeper (W3 Sf (aJ st) s.heap.objs.size f cdv))->
   kj (qM P w K mg base N Sf (aJ st) f cdv A outer s H E) ⟨K,H,J,T⟩ (bB st) gB)
  (hF:∀as r,as.length=ps.length->Fm as=.ok r->fin (gB (aF N as))=.ok r):eT P w K mg base jI (k + 1) f fd ps (m6 K ps.length Fm):=
 CY F Sc (λcdv A outer s H E J T hr=>(hb cdv A outer s H E J T hr).h) hF
end
end DL
namespace DX
open PySem PySem.Spec
open Builtin Builtin.ObjectAttr
end DX
namespace DX
open PySem PySem.Spec
end DX
namespace DX
open PySem PySem.Spec PyProof.Rows L2
end DX
namespace DL
open PySem PySem.Spec PyProof.Rows L2 DX
noncomputable def Ov (K:Sk) (J:Hp) (x:Exc) (v:Sl) (dx:Option SM):Prop:=
 ∃a C vs,v=.ref a/\J a=some (XO a C dx)/\S8 K SY x.cls=some (some (.ref C))/\XF J dx x.ns vs/\aL K J x.ds vs/\∃P,GX K P/\XE K P C
def XW (K:Sk) (J H:Hp) (E:XK) (x:Exc):Prop:=∀v dx J' H',Ext J H J' H'->Ov K J' x v dx->E v dx H'
noncomputable def yC (K:Sk) (n:Nat) (F:List S->M R):Sp:=λvs H Q E=>∃J as,aW J H/\as.length=n/\iL K J H as vs/\cH (F as) (λr=>∀v J' H',Ext J H J' H'->FR K H J' H' r v->Q v H') (XW K J H E)
abbrev Pp (P:SK) (w:S9) (K:Sk) (mg:Str->Option Sl) (base:Uo) (N:List Str) (Sf:Str) (sc:Wa) (f:SM) (cd:Sl) (A:Te) (outer:List Env) (s:Sn) (H:Hp) (E:XK):Cx:=nj (ur P w) P w K mg base N Sf sc f cd A outer s H E
end DL
namespace DX
open PySem PySem.Spec PyProof.Rows L2
end DX
namespace DL
open PySem PySem.Spec PyProof.Rows L2 DX
end DL
namespace DX
open PySem PySem.Spec PyProof.Rows L2
end DX
namespace DL
open PySem PySem.Spec PyProof.Rows L2 DX
theorem yM {K:Sk}{J:Hp}{f:Str}:∀{ns:List Str}{ds:List D}{vs:List V}{d:D},aL K J ds vs->(ns.zip ds).lookup f=some d->∃v,(ns.zip vs).lookup f=some v/\Rep K J d v
 | [],_,_,_,_,h=>by simp at h
 | _::_,_,_,_,.nil,h=>by simp at h
 | n::ns,_,_,d,.cons r rs,h=>by
  rw [aaw,Uu] at h ⊢;cases q:f == n with
  | true=>rw [q] at h;cases h;exact ⟨_,rfl,r⟩
  | false=>rw [q] at h;exact yM rs h
end DL
namespace DX
open PySem PySem.Spec PyProof.Rows L2
open Sem (wp)
end DX
namespace DL
open PySem PySem.Spec PyProof.Rows L2 DX
noncomputable def EJ (P:SK) (w:S9) (K:Sk) (mg:Str->Option Sl) (base:Uo) (k n:Nat) (x:Str) (Fm:List S->M R):Prop:=
 ∃f fd ps,eT P w K mg base (ur P w) k f fd ps (yC K n Fm)/\mg x=some (.ref f)/\T4 K (.ref f)=true/\Binds K fd ps []
section
variable {X:Cx}{c:C}{e a:Tv}{es:List Tv}{pos:Pos}{g:G R}{L:List Str}
theorem F8 {k n:Nat}{f:SM}{fd:Tj}{ps:List Str}{F:List S->M R}{x:Str}{p:Pos}{gs:G (List R)}(G:eT X.prog X.w X.K X.mg X.base (ur X.prog X.w) k f fd ps (yC X.K n F)) (hr:cO k X.A) (hm:X.mg x=some (.ref f)) (hk:T4 X.K (.ref f)=true)
  (hb:Binds X.K fd ps []) (ha:Ck X c (e::es) gs) (hT:autoParam (c.K=X.K) zA._auto_1) (hg:autoParam (Gl X x) zA._auto_1) (hdb:autoParam ((x == ("__debug__":Str))=false) zB._auto_1) (he:autoParam (SG (e::es) X.env=(false,eval e X.env)::SG es X.env) zA._auto_1)
  (hpl:autoParam ((Vf pos (SG es X.env)).any (·.1)=false) zA._auto_1):PD X c (.Call (.Name x p) (e::es) [] pos) (gN (aE n F) gs):=by
 refine ef (Ag (E:=λ_ _ _=>False) G hr hg hm hk hb .nil (λSa σ H s v s' I ⟨e,C,dx,T,H',ev,f⟩=>f.wish.elim) ha hdb he hpl) λσ H Q ⟨J,env,sr,w⟩=>?_;refine ⟨J,env,sr,aC (aG w) λrs wr vs J1 H1 e1 r1=>?_⟩;unfold aE at wr;split at wr
 ·rename_i hl;have h1:=sr.hp.ext e1;have ar:=r1.args h1;rw [hT] at ar;refine ⟨J1,rs.map bI,e1.sub,by simpa using hl,by rw [UB];exact ar,?_⟩;cases q:F (rs.map bI) with
  | bad=>rw [q] at wr;exact wr
  | exc x=>rw [q] at wr;exact wr.elim
  | ok r=>
   rw [q] at wr;intro v J' H' e2 fr;refine wr v J' H' (e1.trans e2) ?_;cases r with
   | d y=>exact (show Rep c.K J' y v from hT▸fr)
   | mo _ _=>exact fr.elim
   | mb _ _=>exact fr.elim
   | mf _ _=>obtain ⟨a,h1,h2,h3,h4⟩:=fr;exact ⟨a,h1,hT▸h2,h3,e1.h.free h4⟩
   | o m _ _=>cases m with
    | own=>exact fr.elim
    | bor=>exact fr.elim
    | fresh=>obtain ⟨a,h1,h2,h3,h4⟩:=fr;exact ⟨a,h1,hT▸h2,h3,e1.h.free h4⟩
   | ln _=>obtain ⟨a,us,h1,h2,h3,h4,h5⟩:=fr;exact ⟨a,us,h1,h2,h3,e1.h.free h4,hT▸h5.mono (aW.refl _) λ_ h=>e1.h.free h⟩
   | l m ys=>
    obtain ⟨a,us,h1,h2,h3,h4,h5⟩:=fr;exact ⟨a,us,h1,h2,h3,e1.h.free h4,hT▸h5⟩
 ·exact wr.elim
theorem ym {F:List S->M R}{gs:G (List R)}(G:EJ X.prog X.w X.K X.mg X.base k n x F) (hr:cO k' X.A) (ha:jK X c (e::es) gs) (hk:autoParam (k<=k') zB._auto_1) (hT:autoParam (c.K=X.K) zA._auto_1) (hg:autoParam (Gl X x) zA._auto_1) (hdb:autoParam ((x == ("__debug__":Str))=false) zB._auto_1)
 (he:autoParam (SG (e::es) X.env=(false,eval e X.env)::SG es X.env) zA._auto_1) (hpl:autoParam ((Vf pos (SG es X.env)).any (·.1)=false) zA._auto_1):QD X c (.Call (.Name x p) (e::es) [] pos) (gN (aE n F) gs):=by obtain ⟨f,fd,ps,h1,h2,h3,h4⟩:=G;exact ⟨F8 h1 (hr.mono hk) h2 h3 h4 ha.h hT hg hdb he hpl⟩
end
section
variable {K:Sk}{mg:Str->Option Sl}{P C N:SM}{nm q:Str}{bs:List Sl}{sn:List Str}{sub:List Sl}{ab:Bool}{col:Option Bool}{dd:Option SM}{k0 k1 k2 k3 k5:Option Sl}
theorem N5 (l:K.lookup C=some (Z6 nm q C N bs (.ref P::nZ) true sn sub ab col dd k0 k1 k2 k3 k5 "ValueError.__new__")) (g:S7 K (.ref C) "__getattribute__"=some (some (.builtin "BaseException.__getattribute__"))) (h:S7 K (.ref C) "__getattr__"=some none)
  (k:S7 K (.ref C) "__class__"=some (some (.builtin "object.__class__"))):XE K P C:=⟨⟨nm,q,N,bs,sn,sub,ab,col,dd,k0,k1,k2,k3,k5,l⟩,g,h,k⟩
theorem M_ (l:K.lookup P=some (Z6 nm q P N bs nZ true sn sub ab col dd k0 k1 k2 k3 k5 "ValueError.__new__")) (ln:K.lookup N=some ⟨c,d,.dict es ep,sl⟩) (hs:MN es=true) (hq:(quiet.all λn=>(nsFind es n).isNone)=true)
 (gt:Wk K (.builtin "object.__class__") "__get__"=some (some (.builtin "getset_descriptor.__get__"))) (tk:WQ K (.builtin "object.__class__")=some true):GX K P:=
 ⟨gt,tk,nm,q,N,bs,sn,sub,ab,col,dd,k0,k1,k2,k3,k5,l,λh X=>⟨_,Nn ln hs X,λn hn=>Option.isNone_iff_eq_none.mp (TU.mp hq n hn)⟩⟩
end
end DL
namespace K01
open PySem DL
def jx:List Str:=["_law_script","_law_k"]
noncomputable def lU:G O:=(av (aQ (aT (g2 (bT λi j=>.bl (decide (i < j))) (af 1) (gN eE (ah (af 0) az)))) (aM (g2 bP (g2 aV (af 0) (af 1)) (g2 jR (gC (.int 2)) (gC (.int 64))))) bh)
 (aM (gC (.int 0))))
def cP (as:List S):M R:=fin (lU (aF jx as))
noncomputable def oR:List Str:=["_law_cell_here","_law_many","_law_number","_law_base","_law_size","_law_words","_law_first","_law_signs","_law_at","_law_found","_law_k","_law_sign"]
noncomputable def kM:G O:=(av (aN 2 (g2 bP (g2 cR (af 0) (gC (.int 7129))) (gC (.int 1000033))))
 (av (aN 3 (g2 aV (gC (.str "bcdfg")) (g2 bP (af 2) (gC (.int 5)))))
 (av (aN 4 (g2 bG (gC (.int 2)) (g2 bP (g2 dF (af 2) (gC (.int 5))) (gC (.int 7)))))
 (av (aQ (aT (g2 (bZ false) (g2 bP (g2 dF (af 2) (gC (.int 35))) (gC (.int 4))) (gC (.int 1)))) (aM (cT 1 [3] (dD (ah (af 1) az)) (aH 0) fk (g2 cR (af 1) (g2 bG (gC (.int 2)) (af 0))))) bh)
 (av (aQ (aT (g2 (bZ false) (g2 bP (g2 dF (af 2) (gC (.int 35))) (gC (.int 4))) (gC (.int 2)))) (av (aN 5 (eU (aq (gC (.str "and")) (aq (gC (.str "or")) (aq (gC (.str "not")) (aq (gC (.str "some")) (aq (gC (.str "every")) (aq (gC (.str "least")) (aq (gC (.str "true")) (aq (gC (.str "false")) aI))))))))))
 (av (aN 6 (g2 bP (g2 dF (af 2) (gC (.int 140))) (gC (.int 8))))
 (av (aN 7 (gC (.str "abcdefghijklmnopqrstuvwxyz")))
 (aM (gN jC (ah (cT 1 [5,6,7,2] (dD (ah (af 1) az)) (aH 0) fk (g2 bG (g2 aV (g2 bG (af 1) (af 1)) (g2 bG (af 2) (af 0))) (g2 aV (af 3) (g2 bP (g2 dF (af 4) (gC (.int 1120))) (gC (.int 26)))))) az)))))) bh)
 (av (aN 8 (g2 bP (g2 dF (af 2) (gC (.int 105))) (af 4)))
 (av (aN 9 (eU aI))
 (av (fF (dD (ah (af 1) az)) (aH 10) (av (aN 11 (g2 aV (gC (.str "abcdefghijklmnopqrstuvwxyz")) (g2 bP (g2 bG (g2 dF (af 2) (gC (.int 840))) (g2 cR (gC (.int 5)) (af 10))) (gC (.int 26)))))
 (dG 9 (g2 bG (g2 bG (g2 cR (af 3) (af 8)) (af 11)) (g2 cR (af 3) (g2 gK (g2 gK (af 4) (gC (.int 1))) (af 8)))))))
 (aM (gN jC (ah (af 9) az)))))))))))
def fK (as:List S):M R:=fin (kM (aF oR as))
def AO:List Str:=["_law_bits","_law_many","_law_found","_law_point_here"]
noncomputable def lV:G O:=(av (aN 2 (eU aI))
 (av (fF (dD (ah (af 1) az)) (aH 3) (av (aQ (aT (g2 (bZ false) (g2 bP (af 0) (gC (.int 2))) (gC (.int 1)))) (dG 2 (af 3)) bh)
 (aN 0 (g2 dF (af 0) (gC (.int 2))))))
 (aM (gN dW (ah (af 2) az)))))
def gG (as:List S):M R:=fin (lV (aF AO as))
def oU:List Str:=["_law_bits","_law_many","_law_found","_law_one","_law_other"]
noncomputable def kN:G O:=(av (aN 2 (eU aI))
 (av (fF (dD (ah (af 1) az)) (aH 3) (fF (dD (ah (af 1) az)) (aH 4) (av (aQ (aT (g2 (bZ false) (g2 bP (af 0) (gC (.int 2))) (gC (.int 1)))) (dG 2 (bV (aq (af 3) (aq (af 4) aI)))) bh)
 (aN 0 (g2 dF (af 0) (gC (.int 2)))))))
 (aM (gN dW (ah (af 2) az)))))
def gn (as:List S):M R:=fin (kN (aF oU as))
def ng:List Str:=["_law_cell_here","_law_names_here","_law_number","_law_first"]
noncomputable def jX:G O:=(av (aN 1 (gN (aE 2 fK) (ah (af 0) (ah (gC (.int 6)) az))))
 (av (aN 2 (g2 bP (g2 cR (af 0) (gC (.int 523))) (gC (.int 10007))))
 (av (aN 3 (g2 bP (g2 dF (af 2) (gC (.int 16))) (gC (.int 3))))
 (aM (bV (aq (gN dW (ah (nu jS (af 1) uE (mO (g2 bP (af 2) (gC (.int 4))))) az)) (aq (gN dW (ah (nu jS (af 1) (mO (af 3)) (mO (g2 bG (af 3) (g2 bP (g2 dF (af 2) (gC (.int 4))) (gC (.int 4)))))) az)) aI)))))))
def gw (as:List S):M R:=fin (jX (aF ng as))
def oV:List Str:=["_law_script","_law_at","_law_many","_law_tongue_here","_law_marks","_law_k","_law_arrows","_law_bits"]
noncomputable def kO:G O:=(av (aN 4 (eU aI))
 (av (fF (dD (ah (gN eE (ah (g2 aV (af 3) (gC (.int 0))) az)) az)) (aH 5) (dG 4 (bV (aq (g2 aV (g2 aV (af 3) (gC (.int 0))) (af 5)) (aq (gN (aE 2 gG) (ah (g2 bP (g2 cR (gN (aE 2 cP) (ah (af 0) (ah (g2 bG (af 1) (af 5)) az))) (gC (.int 167))) (g2 jR (gC (.int 2)) (gC (.int 8)))) (ah (af 2) az))) aI)))))
 (av (aN 6 (eU aI))
 (av (fF (dD (ah (gN eE (ah (g2 aV (af 3) (gC (.int 1))) az)) az)) (aH 5) (av (aN 7 (g2 bP (g2 cR (gN (aE 2 cP) (ah (af 0) (ah (g2 bG (g2 bG (af 1) (gC (.int 3))) (af 5)) az))) (gC (.int 11400714819323198485))) (g2 jR (gC (.int 2)) (gC (.int 64)))))
 (dG 6 (bV (aq (g2 aV (g2 aV (af 3) (gC (.int 1))) (af 5)) (aq (gN (aE 2 gn) (ah (af 7) (ah (af 2) az))) aI))))))
 (aM (bV (aq (af 2) (aq (gN dW (ah (af 4) az)) (aq (gN dW (ah (af 6) az)) aI)))))))))
def fL (as:List S):M R:=fin (kO (aF oV as))
def yN:List Str:=["_law_thing","_law_many"]
noncomputable def yW:G O:=(aM (bq (cF "int" (af 0)) (bq (bw (cF "bool" (af 0))) (bq (g2 (bT λi j=>.bl (decide (i<=j))) (gC (.int 0)) (af 0)) (g2 (bT λi j=>.bl (decide (i < j))) (af 0) (af 1))))))
def kI (as:List S):M R:=fin (yW (aF yN as))
def AM:List Str:=["_law_thing","_law_many"]
noncomputable def Bg:G O:=(av (aQ (bX (bC (aT (cF "tuple" (af 0)))) (aT (g2 (bZ true) (gN eE (ah (af 0) az)) (gC (.int 2))))) (aM (gC (.bl false))) bh)
 (aM (bq (gN (aE 2 kI) (ah (g2 aV (af 0) (gC (.int 0))) (ah (af 1) az))) (gN (aE 2 kI) (ah (g2 aV (af 0) (gC (.int 1))) (ah (af 1) az))))))
def AJ (as:List S):M R:=fin (Bg (aF AM as))
def vf:List Str:=["_law_thing"]
noncomputable def vB:G O:=(av (aQ (bX (bC (aT (cF "str" (af 0)))) (bX (aT (g2 (bT λi j=>.bl (decide (i < j))) (gN eE (ah (af 0) az)) (gC (.int 2)))) (aT (g2 (bT λi j=>.bl (decide (j < i))) (gN eE (ah (af 0) az)) (gC (.int 8)))))) (aM (gC (.bl false))) bh)
 (av (aQ (aT (g2 (ie false) (af 0) (bV (aq (gC (.str "and")) (aq (gC (.str "or")) (aq (gC (.str "not")) (aq (gC (.str "some")) (aq (gC (.str "every")) (aq (gC (.str "least")) (aq (gC (.str "true")) (aq (gC (.str "false")) aI))))))))))) (aM (gC (.bl false))) bh)
 (aM (gN OC (ah (cT 1 [] (OF (af 0)) (aH 0) fk (g2 (OD false) (af 0) (gC (.str "abcdefghijklmnopqrstuvwxyz")))) az)))))
def ve (as:List S):M R:=fin (vB (aF vf as))
def AN:List Str:=["_law_thing","_law_many","_law_way","_law_k"]
noncomputable def Bh:G O:=(av (aQ (bX (bC (aT (cF "tuple" (af 0)))) (aT (g2 (bZ true) (gN eE (ah (af 0) az)) (gC (.int 2))))) (aM (gC (.bl false))) bh)
 (av (aQ (bX (bC (aT (gN (aE 1 ve) (ah (g2 aV (af 0) (gC (.int 0))) az)))) (bC (aT (cF "tuple" (g2 aV (af 0) (gC (.int 1))))))) (aM (gC (.bl false))) bh)
 (av (fF (dD (ah (gN eE (ah (g2 aV (af 0) (gC (.int 1))) az)) az)) (aH 3) (av (aQ (bX (bJ (aT (g2 (bZ false) (af 2) (gC (.int 0)))) (bC (aT (gN (aE 2 kI) (ah (g2 aV (g2 aV (af 0) (gC (.int 1))) (af 3)) (ah (af 1) az)))))) (bJ (aT (g2 (bZ false) (af 2) (gC (.int 1)))) (bC (aT (gN (aE 2 AJ) (ah (g2 aV (g2 aV (af 0) (gC (.int 1))) (af 3)) (ah (af 1) az))))))) (aM (gC (.bl false))) bh)
 (aQ (bJ (aT (g2 (bT λi j=>.bl (decide (j < i))) (af 3) (gC (.int 0)))) (bC (aT (g2 Le (g2 aV (g2 aV (af 0) (gC (.int 1))) (g2 gK (af 3) (gC (.int 1)))) (g2 aV (g2 aV (af 0) (gC (.int 1))) (af 3)))))) (aM (gC (.bl false))) bh)))
 (aM (gC (.bl true))))))
def AK (as:List S):M R:=fin (Bh (aF AN as))
theorem g9 (h:n<=1000):n<=sizeLine:=Tw h (by decide)
def LJ (k:Nat):Bool:=!(WT "abcdefghijklmnopqrstuvwxyz" ⟨#[k]⟩ 0 (aaH "abcdefghijklmnopqrstuvwxyz") 1).isEmpty
def words:List D:=[.str "and",.str "or",.str "not",.str "some",.str "every",.str "least",.str "true",.str "false"]
def DI (x:Str):Bool:=decide (2<=x.length) && (decide (x.length<=8) && (!inD (.str x) words && x.cps.toList.all LJ))
theorem CL {ge:G R}{f:D->D}(tl:Ev):∀(ds:List D) (x:Option S),(∀d∈ds,ge (some (.d d)::tl)=.ok (.d (f d)))->fz (aH 0) fk ge ds (x::tl)=.ok (ds.map f)
 | [],_,_=>rfl
 | d::r,x,h=>by have ih:=CL tl r (some (.d d)) λe he=>h e (Ss _ he);unfold fz;simp only [aH,List.set_cons_zero,aK,fk,if_true,h d Sv,toD];rw [ih];rfl
theorem n8 {α:Type}{xs:List α}{k:Nat}{x:α}(h:xs[k]?=some x):L2.jP xs (k:Int)=some x:=by have hk:k < xs.length:=(Td.mp h).1;unfold L2.jP L2.xJ;rw [if_pos (by omega),if_pos (by omega)];simpa using h
theorem iS {xs:List D}{k:Nat}{x:D}(h:xs[k]?=some x):aV (.d (.tup xs)) (.d (.int k))=.ok (.d x):=by unfold aV;simp only [iz,aK,n8 h]
theorem lR {m:Md}{xs:List D}{k:Nat}{x:D}(h:xs[k]?=some x):aV (.l m xs) (.d (.int k))=.ok (.d x):=by unfold aV;simp only [iz,aK,n8 h]
theorem zN {z:Str}{k:Nat}{c:Nat}(hz:z.length<=1000) (h:z.cps.toList[k]?=some c):aV (.d (.str z)) (.d (.int k))=.ok (.d (.str ⟨#[c]⟩)):=by unfold aV;simp only [g9 hz,if_true,n8 h]
theorem aY (xs:List D):eE [.d (.tup xs)]=.ok (.d (.int xs.length)):=rfl
theorem eq_int (neg:Bool) (i j:Int):bZ neg (.d (.int i)) (.d (.int j))=.ok (.d (.bl (if neg then !(i == j) else i == j))):=rfl
theorem cZ (a:D) (r:List D):aV (.d (.tup (a::r))) (.d (.int 0))=.ok (.d a):=iS (k:=0) rfl
theorem c5 (a b:D) (r:List D):aV (.d (.tup (a::b::r))) (.d (.int 1))=.ok (.d b):=iS (k:=1) rfl
theorem c6 (a b c:D) (r:List D):aV (.d (.tup (a::b::c::r))) (.d (.int 2))=.ok (.d c):=iS (k:=2) rfl
theorem OV (n:Nat) (h:n<=1000):below 4611686018427387904 (n:Int)=true:=ez.mpr ⟨by omega,by omega⟩
def HE (j:Int):M (List D):=if below 4611686018427387904 j then .ok (dH 0 j.toNat) else .bad
theorem ME (j:Int) (h:below 4611686018427387904 j=true):HE j=.ok (dH 0 j.toNat):=by unfold HE;exact if_pos h
theorem MD {gs:G (List R)}(hg:gs env=.ok [.d (.int j)]):dD gs env=HE j:=by unfold dD HE;rw [hg];rfl
theorem BR {gs:G (List R)}{env:Ev}{n:Nat}(hg:gs env=.ok [.d (.int (n:Int))]) (h:n<=1000):dD gs env=.ok (dH 0 n):=by rw [MD hg,ME _ (OV n h)];exact congrArg (λk=>M.ok (dH 0 k)) (UM n)
theorem cG {t u:G O}(h:t env=.ok (.nx e)):av t u env=u e:=by unfold av;rw [h];rfl
theorem El {t u:G O}(h:t env=.ok (.rt r)):av t u env=.ok (.rt r):=by unfold av;rw [h];rfl
theorem jU {g:G (List D)}{u:G O}(h:g env=.ok ds):fF g t u env=dS t u ds env:=by unfold fF;rw [h];rfl
abbrev inner:G O:=(fF (dD (ah (gN eE (ah (af 2) az)) az)) (aH 3) (aQ (bX (bC (aT (gN (aE 3 AK) (ah (g2 aV (af 2) (af 3)) (ah (g2 aV (af 0) (gC (.int 0))) (ah (af 1) az)))))) (bJ (aT (g2 (bT λi j=>.bl (decide (j < i))) (af 3) (gC (.int 0)))) (bC (aT (g2 Le (g2 aV (g2 aV (af 2) (g2 gK (af 3) (gC (.int 1)))) (gC (.int 0))) (g2 aV (g2 aV (af 2) (af 3)) (gC (.int 0)))))))) (aM (gC (.bl false))) bh))
theorem dX (i j:Int):bG (.d (.int i)) (.d (.int j))=.ok (.d (.int (i + j))):=rfl
theorem NX (i j:Int):gK (.d (.int i)) (.d (.int j))=.ok (.d (.int (i - j))):=rfl
theorem om {C:Int->Int->Bool}{f:Int->Int->D}(h:C i j=true):fI C f (.d (.int i)) (.d (.int j))=.ok (.d (f i j)):=by show (if C i j=true then M.ok (R.d (f i j)) else M.bad)=_;rw [if_pos h]
theorem lJ (i j:Int) (h1:-(2 ^ 64) < j) (h2:j < 2 ^ 64):cR (.d (.int i)) (.d (.int j))=.ok (.d (.int (i * j))):=om (C:=pW) (f:=λi j=>.int (i * j)) (by unfold pW;rw [UQ];exact Vh (ez.mpr ⟨h1,h2⟩))
theorem mD (i j:Int) (h1:-(2 ^ 64) < i) (h2:i < 2 ^ 64):cR (.d (.int i)) (.d (.int j))=.ok (.d (.int (i * j))):=om (C:=pW) (f:=λi j=>.int (i * j)) (by unfold pW;rw [UQ];exact V5 (ez.mpr ⟨h1,h2⟩))
theorem c_ (i j:Int) (h1:0 < j) (h2:j < 1073741824):dF (.d (.int i)) (.d (.int j))=.ok (.d (.int (i / j))):=om (by
 unfold Bq;rw [SI];exact ⟨decide_eq_true h1,ez.mpr ⟨by omega,h2⟩⟩)
theorem bN (i j:Int) (h1:0 < j):bP (.d (.int i)) (.d (.int j))=.ok (.d (.int (i % j))):=om (decide_eq_true h1)
theorem uh:jR (.d (.int 2)) (.d (.int 64))=.ok (.d (.int 18446744073709551616)):=om (by decide)
theorem MS:jR (.d (.int 2)) (.d (.int 8))=.ok (.d (.int 256)):=om (by decide)
theorem B4 (x y:Str) (h:x.length + y.length<=1000):bG (.d (.str x)) (.d (.str y))=.ok (.d (.str (x++y))):=by show (if x.length + y.length<=sizeLine then M.ok (R.d (D.str (x++y))) else M.bad)=_;rw [if_pos (g9 h)]
theorem B3 (x:Str) (n:Int) (h0:0<=n) (h:n<=1000) (hx:x.length<=1000):cR (.d (.str x)) (.d (.int n))=.ok (.d (.str (fP x n.toNat))):=by show (if 0<=n/\n<=1000/\x.length<=1000 then M.ok (R.d (D.str (fP x n.toNat))) else M.bad)=_;rw [if_pos ⟨h0,h,hx⟩]
def KL:Str:="abcdefghijklmnopqrstuvwxyz"
theorem KN:∀k:Fin 26,KL.cps.toList[k.val]?=some (97 + k.val):=by decide +kernel
theorem H_:KL.length<=1000:=by decide +kernel
theorem xK (i:Int) (h0:0<=i) (h:i < 26):aV (.d (.str "abcdefghijklmnopqrstuvwxyz")) (.d (.int i))=.ok (.d (.str ⟨#[97 + i.toNat]⟩)):=by
 have e:i=((i.toNat:Nat):Int):=by omega
 have:=zN (z:=KL) (k:=i.toNat) H_ (KN ⟨i.toNat,by omega⟩);rw [e];exact this
def bases:List Nat:=[98,99,100,102,103]
theorem Ij:∀k:Fin 5,("bcdfg":Str).cps.toList[k.val]?=some (bases.getD k.val 0):=by decide +kernel
theorem EV:("bcdfg":Str).length<=1000:=by decide +kernel
theorem IM (i:Int) (h0:0<=i) (h:i < 5):∃b∈bases,aV (.d (.str "bcdfg")) (.d (.int i))=.ok (.d (.str ⟨#[b]⟩)):=by
 have e:i=((i.toNat:Nat):Int):=by omega
 have hb:i.toNat < bases.length:=by show _ < 5;omega
 refine ⟨bases.getD i.toNat 0,?_,?_⟩
 ·rw [Tf,SH hb];exact UH _
 ·have:=zN (z:="bcdfg") (k:=i.toNat) EV (Ij ⟨i.toNat,by omega⟩);rw [e];exact this
theorem n_ (x y:Str):(x++y).cps.toList=x.cps.toList++y.cps.toList:=by show (x.cps++y.cps).toList=_;simp
theorem qV (c:Array Nat):∀(k:Nat) (acc:Array Nat),((Tq k c).foldl (·++·) acc).toList=acc.toList++(Tq k c.toList).flatten
 | 0,acc=>by simp
 | k + 1,acc=>by rw [UI,X7,qV c k];simp [UI]
theorem iP (b n:Nat):(fP ⟨#[b]⟩ n).cps.toList=Tq n b:=by
 unfold fP;simp only;rw [qV]
 induction n with
 | zero=>rfl
 | succ n ih=>simpa [UI] using ih
theorem ly (x:Str):x.length=x.cps.toList.length:=by show x.cps.size=_;simp
theorem uf {x y:Str}(h:x.cps.toList=y.cps.toList):x=y:=by
 cases x with
 | mk a=>
  cases y with
  | mk b=>
   simp only at h;congr 1;exact abd.mp h
theorem iV {t:GT}{u:G O}(I:Nat->Ev->Prop) (n:Nat)
  (h:∀k,k < n->∀env,I k env->∃e1 e2,t (.int k) env=.ok e1/\u e1=.ok (.nx e2)/\I (k + 1) e2) (env:Ev) (h0:I 0 env):
  ∃e,dS t u (dH 0 n) env=.ok (.nx e)/\I n e:=by
 have key:∀(m i:Nat),i + m=n->∀env,I i env->∃e,dS t u ((Xe i m).map λ(k:Nat)=>D.int (0 + (k:Int))) env=.ok (.nx e)/\I n e:=by
  intro m
  induction m with
  | zero=>exact λi hi env hI=>⟨env,rfl,(by omega:i=n)▸hI⟩
  | succ m ih=>
   intro i hi env hI;obtain ⟨e1,e2,h1,h2,h3⟩:=h i (by omega) env hI;obtain ⟨e,h4,h5⟩:=ih (i + 1) (by omega) e2 h3;refine ⟨e,?_,h5⟩;rw [Y6,S4];unfold dS;rw [Zx,h1,aK,h2,aK];exact h4
 obtain ⟨e,h1,h2⟩:=key n 0 (by omega) env h0;refine ⟨e,?_,h2⟩;unfold dH;rw [Wt];exact h1
noncomputable def dY:List (List Nat):=[[97,110,100],[111,114],[110,111,116],[115,111,109,101],[101,118,101,114,121],[108,101,97,115,116],[116,114,117,101],[102,97,108,115,101]]
def eG:List Str:=["and","or","not","some","every","least","true","false"]
theorem vc:eG.map (λw=>w.cps.toList)=dY:=by decide +kernel
theorem vd:words=eG.map .str:=rfl
theorem Dj (x:Str):inD (.str x) words=eG.any λw=>w == x:=by rw [vd];unfold inD;rw [Zy];congr 1
theorem FO:∀k:Fin 26,LJ (97 + k.val)=true:=by decide +kernel
theorem xX {x:Str}(h2:2<=x.cps.toList.length) (h8:x.cps.toList.length<=8) (hw:x.cps.toList∉dY) (ha:∀k∈x.cps.toList,97<=k/\k < 123):DI x=true:=by
 unfold DI;rw [ly,decide_eq_true h2,decide_eq_true h8,XN,XN,SI];refine ⟨?_,TU.mpr λk hk=>?_⟩
 ·rw [Bool.not_eq_true',aaK];intro h;rw [Dj,VE] at h;obtain ⟨w,h1,h3⟩:=h;have e:w=x:=eq_of_beq h3;subst e;refine hw ?_;rw [<-vc];exact SD.mpr ⟨w,h1,rfl⟩
 ·obtain ⟨h1,h3⟩:=ha k hk;have:=FO ⟨k - 97,by omega⟩;rw [show 97 + (k - 97)=k by omega] at this;exact this
theorem Fp:∀b∈bases,∀w∈dY,¬(w.filter (· != b)).length<=1:=by decide
theorem yb (hb:b∈bases){l:List Nat}(h:(l.filter (· != b)).length<=1):l∉dY:=λz=>Fp b hb l z h
theorem DC:∀w∈dY,∀w'∈dY,w'.dropLast≠w:=by decide
theorem pR:∀b∈bases,97<=b/\b < 123:=by decide
theorem strs_map:∀(ss:List Str),strsOf (ss.map .str)=some ss
 | []=>rfl
 | s::r=>by simp only [S4,strsOf,strs_map r];rfl
theorem sorted_strs (m:Md) (ss:List Str) (h:ss.length < 64):jC [.l m (ss.map .str)]=.ok (.l .fresh ((fB ss).map .str)):=by unfold jC;simp only [fQ,aK,strs_map,h,if_true]
theorem Er {ss:List Str}(h:ss.Nodup):(fB ss).Pairwise λa b=>a.cps.toList < b.cps.toList:=by
 have h1:=nV ss;have h2:(fB ss).Nodup:=(gH ss).symm.nodup h;have:=h1.and h2;refine this.imp fun {a b} ⟨x,y⟩=>?_;unfold iJ at x;have x:=of_decide_eq_true x;rcases List.le_iff_lt_or_eq.mp x with z | z
 ·exact z
 ·exact absurd (uf z) y
theorem xj {gi:G (List D)}{ge:G R}(hm:m<=1000) (f:Nat->D) (hi:gi env=.ok (dH 0 m)) (hc:cE 1 cap env=none::tl) (h:∀k,k < m->ge (some (.d (.int (k:Nat)))::tl)=.ok (.d (f k))):
  cT 1 cap gi (aH 0) fk ge env=.ok (.l .fresh ((Sx m).map f)):=by
 have e:=CL (ge:=ge) (f:=λd=>match d with | .int i=>f i.toNat | _=>.non) tl (dH 0 m) none λd hd=>by unfold dH at hd;rw [SD] at hd;obtain ⟨k,hk,rfl⟩:=hd;rw [Zx];exact h k (S0.mp hk)
 have hl:(dH 0 m).length<=sizeLine:=by unfold dH;rw [So,Th];exact g9 hm
 unfold cT;rw [hi,aK,if_pos hl,hc,e,aK];unfold dH;rw [TF];congr 3;funext k;show f ((0:Int) + (k:Int)).toNat=f k;rw [Zx,UM]
theorem Eh (b:Nat):∀(i j:Nat),i < j->Tq i b < Tq j b
 | 0,j + 1,_=>by rw [UI];exact List.nil_lt_cons _ _
 | i + 1,j + 1,h=>by rw [UI,UI,List.cons_lt_cons_iff];exact .inr ⟨rfl,Eh b i j (by omega)⟩
def tU (b k:Nat):Str:=fP ⟨#[b]⟩ (2 + k)
def l5 (f s k:Nat):Str:=(eG++eG).getD (f + k) ""++⟨#[97 + s]⟩
def kT (b a r:Nat) (q:Int) (k:Nat):Str:=fP ⟨#[b]⟩ a++⟨#[97 + ((q + 5 * (k:Int)) % 26).toNat]⟩++fP ⟨#[b]⟩ r
def Good (m:Nat) (ss:List Str):Prop:=ss.length=m/\(∀s∈ss,DI s=true)/\ss.Pairwise λa b=>a.cps.toList < b.cps.toList
theorem M9 (hb:b∈bases) (hm:m<=6):Good m ((Sx m).map (tU b)):=by
 refine ⟨by simp,λs hs=>?_,?_⟩
 ·obtain ⟨k,hk,rfl⟩:=SD.mp hs;have hk:=S0.mp hk;have e:(tU b k).cps.toList=Tq (2 + k) b:=iP b (2 + k);refine xX (by rw [e,Tz];omega) (by rw [e,Tz];omega) (yb hb ?_) λx hx=>?_
  ·rw [e];simp
  ·rw [e] at hx;rw [WK hx];exact pR b hb
 ·rw [UN];refine Vw.imp fun {i j} h=>?_;show (fP _ _).cps.toList < (fP _ _).cps.toList;rw [iP,iP];exact Eh b _ _ (by omega)
theorem o_ {ss:List Str}(hl:ss.length=m) (hn:∀s∈ss,DI s=true) (hd:ss.Nodup):Good m (fB ss):=
 ⟨by rw [(gH ss).length_eq,hl],λs hs=>hn s ((gH ss).mem_iff.mp hs),Er hd⟩
theorem xM (f s k:Nat) (h:f + k < 16):(l5 f s k).cps.toList=(dY++dY).getD (f + k) []++[97 + s]:=by show (_++_:Str).cps.toList=_;rw [n_];congr 1;rw [<-vc,<-TZ,Tf,Tf,S3];have hl:f + k < (eG++eG).length:=h;rw [SH hl];rfl
theorem PR:∀j:Fin 16,(dY++dY).getD j.val []∈dY:=by decide
theorem Kg:∀w∈dY,2<=w.length/\w.length<=5/\∀k∈w,97<=k/\k < 123:=by decide
theorem M0:∀(f:Fin 8) (j k:Fin 6),j.val≠k.val->(dY++dY).getD (f.val + j.val) []≠(dY++dY).getD (f.val + k.val) []:=by decide
theorem good2 (hf:f < 8) (hs:s < 26) (hm:m<=6):Good m (fB ((Sx m).map (l5 f s))):=by
 refine o_ (by simp) (λx hx=>?_) ?_
 ·obtain ⟨k,hk,rfl⟩:=SD.mp hx;have hk:=S0.mp hk;have e:=xM f s k (by omega);have hw:=PR ⟨f + k,by omega⟩;obtain ⟨h1,h2,h3⟩:=Kg _ hw;simp only at h1 h2 h3 hw;generalize (dY++dY).getD (f + k) []=w at e hw h1 h2 h3;refine xX (by rw [e,SE];simp;omega) (by rw [e,SE];simp;omega) (λz=>?_) λy hy=>?_
  ·rw [e] at z;exact DC w hw _ z (by simp)
  ·rw [e,Tc] at hy;rcases hy with hy | hy
   ·exact h3 y hy
   ·rw [Su] at hy;omega
 ·rw [Yj,UN];refine (Vw (n:=m)).imp_of_mem fun {i j} hi hj h z=>?_;have hi:=S0.mp hi;have hj:=S0.mp hj;have z':(l5 f s i).cps.toList=(l5 f s j).cps.toList:=by rw [z]
  rw [xM f s i (by omega),xM f s j (by omega)] at z';exact M0 ⟨f,hf⟩ ⟨i,by omega⟩ ⟨j,by omega⟩ (show i≠j by omega) (YG z')
theorem xN (b a r:Nat) (q:Int) (k:Nat):(kT b a r q k).cps.toList=Tq a b++[97 + ((q + 5 * (k:Int)) % 26).toNat]++Tq r b:=by show (_++_++_:Str).cps.toList=_;rw [n_,n_,iP,iP]
theorem good3 (hb:b∈bases) (h2:1<=a + r) (h8:a + r<=7) (hm:m<=6):Good m (fB ((Sx m).map (kT b a r q))):=by
 refine o_ (by simp) (λx hx=>?_) ?_
 ·obtain ⟨k,hk,rfl⟩:=SD.mp hx;have e:=xN b a r q k;refine xX (by rw [e];simp;omega) (by rw [e];simp;omega) (yb hb ?_) λy hy=>?_
  ·rw [e,aax,aax];have:∀n,(Tq n b).filter (· != b)=[]:=λn=>by simp
   rw [this,this,List.nil_append,UB];exact Zz _ _
  ·rw [e,Tc,Tc,Su] at hy;rcases hy with (hy | hy) | hy
   ·rw [WK hy];exact pR b hb
   ·have:0<=(q + 5 * (k:Int)) % 26:=UC _ (by decide);have:(q + 5 * (k:Int)) % 26 < 26:=UU _ (by decide);omega
   ·rw [WK hy];exact pR b hb
 ·rw [Yj,UN];refine (Vw (n:=m)).imp_of_mem fun {i j} hi hj h z=>?_;have hi:=S0.mp hi;have hj:=S0.mp hj;have z':(kT b a r q i).cps.toList=(kT b a r q j).cps.toList:=by rw [z]
  rw [xN,xN] at z';have z2:=YG z';have z3:=List.append_cancel_left z2;have z4:97 + ((q + 5 * (i:Int)) % 26).toNat=97 + ((q + 5 * (j:Int)) % 26).toNat:=by simpa using z3
  have g1:0<=(q + 5 * (i:Int)) % 26:=UC _ (by decide);have g2:0<=(q + 5 * (j:Int)) % 26:=UC _ (by decide);have z5:(q + 5 * (i:Int)) % 26=(q + 5 * (j:Int)) % 26:=by omega
  omega
theorem Hq (m:Md) (xs:List D):eE [.l m xs]=.ok (.d (.int xs.length)):=rfl
def c9 (ns:List Int) (k:Nat):Int:=(ns.map λx=>x % 18446744073709551616).getD k 0
theorem vZ (ns:List Int) (k:Nat):cP [.bor (ns.map D.int),.d (.int k)]=.ok (.d (.int (c9 ns k))):=by
 unfold cP lU;by_cases h:k < ns.length
 ·have h':(k:Int) < ns.length:=by omega
  have e:(ns.map D.int)[k]?=some (.int ns[k]):=by rw [S3,SH h];rfl
  have e2:c9 ns k=ns[k] % 18446744073709551616:=by unfold c9;rw [Tf,S3,SH h];rfl
  simp [av,aQ,bX,bJ,bC,aT,cF,af,aF,S.rd,R.dat,b8,bS,g2,gN,ah,az,gC,bh,aM,bq,bw,aE,bI,cg,rF,fin,bT,aY,eq_int,aq,aI,toD,toS,aN,cZ,c5,c6,jx,Hq,h',lR e,uh,bN,e2]
 ·have h':¬(k:Int) < ns.length:=by omega
  have e2:c9 ns k=0:=by unfold c9;rw [Tf,S3,List.getElem?_eq_none (by omega)];rfl
  simp [av,aQ,bX,bJ,bC,aT,cF,af,aF,S.rd,R.dat,b8,bS,g2,gN,ah,az,gC,bh,aM,bq,bw,aE,bI,cg,rF,fin,bT,aY,eq_int,aq,aI,toD,toS,aN,cZ,c5,c6,jx,Hq,h',e2]
abbrev eN (c m x2:Int) (x3:S) (x4:Int) (x5 x6 x7 x8 x9 x10 x11:Option S):Ev:=[some (.d (.int c)),some (.d (.int m)),some (.d (.int x2)),some x3,some (.d (.int x4)),x5,x6,x7,x8,x9,x10,x11]
theorem nS {m:Nat}{env:Ev}{gs:G (List R)}(h:m<=1000) (hg:gs env=.ok [.d (.int (m:Int))]):dD gs env=.ok (dH 0 m):=BR hg h
theorem Km:eU (aq (gC (.str "and")) (aq (gC (.str "or")) (aq (gC (.str "not")) (aq (gC (.str "some")) (aq (gC (.str "every")) (aq (gC (.str "least")) (aq (gC (.str "true")) (aq (gC (.str "false")) aI))))))))=λ_=>.ok (.l .fresh words):=by funext env;rfl
theorem Io (xs ys:List D) (h:xs.length + ys.length<=1000):bG (.l .own xs) (.l .own ys)=.ok (.l .fresh (xs++ys)):=by show (if xs.length + ys.length<=sizeLine then M.ok (R.l Md.fresh (xs++ys)) else M.bad)=_;rw [if_pos (g9 h)]
theorem N4 (j:Nat) (h:j < 16):(words++words)[j]?=some (.str ((eG++eG).getD j "")):=by rw [vd,<-TZ,S3,Tf];have hl:j < (eG++eG).length:=h;rw [SH hl];rfl
theorem M1:∀j:Fin 16,((eG++eG).getD j.val "").length<=5:=by decide +kernel
theorem jg {b:G Bool}{t u:G O}(h:b env=.ok false):aQ b t u env=u env:=by unfold aQ;rw [h];rfl
theorem lq {b:G Bool}{t u:G O}(h:b env=.ok true):aQ b t u env=t env:=by unfold aQ;rw [h];rfl
theorem BC {g:G R}{f:List R->M R}(h:g env=.ok r) (hf:f [r]=.ok r'):gN f (ah g az) env=.ok r':=by unfold gN ah;rw [h];exact hf
theorem yt {g:G R}(h:g env=.ok r) (h2:rF r=.ok r'):aM g env=.ok (.rt r'):=by unfold aM;rw [h,aK,h2];rfl
theorem HW (c:Int) (m:Nat) (hm:m<=6):∃ss:List Str,fK [.d (.int c),.d (.int m)]=.ok (.l .fresh (ss.map .str))/\Good m ss:=by
 unfold fK kM;rw [Km];show ∃ss:List Str,fin (av _ _ [some (.d (.int c)),some (.d (.int m)),none,none,none,none,none,none,none,none,none,none])=_/\_;obtain ⟨n,hn⟩:∃n,c * 7129 % 1000033=n:=⟨_,rfl⟩;have n0:0<=n:=hn▸UC _ (by decide);have n1:n < 1000033:=hn▸UU _ (by decide);obtain ⟨b,hb,eb⟩:=IM (n % 5) (by omega) (by omega);rw [cG (e:=[some (.d (.int c)),some (.d (.int m)),some (.d (.int n)),none,none,none,none,none,none,none,none,none]) (by simp [av,aQ,bX,bJ,bC,aT,cF,af,aF,S.rd,R.dat,b8,bS,g2,gN,ah,az,gC,bh,aM,bq,bw,aE,bI,cg,rF,fin,bT,aY,eq_int,aq,aI,toD,toS,aN,cZ,c5,c6,lJ,bN,hn])];rw [cG (e:=[some (.d (.int c)),some (.d (.int m)),some (.d (.int n)),some (.d (.str ⟨#[b]⟩)),none,none,none,none,none,none,none,none]) (by simp [av,aQ,bX,bJ,bC,aT,cF,af,aF,S.rd,R.dat,b8,bS,g2,gN,ah,az,gC,bh,aM,bq,bw,aE,bI,cg,rF,fin,bT,aY,eq_int,aq,aI,toD,toS,aN,cZ,c5,c6,bN,eb])];rw [cG (e:=eN c m n (.d (.str ⟨#[b]⟩)) (2 + n / 5 % 7) none none none none none none none) (by simp [av,aQ,bX,bJ,bC,aT,cF,af,aF,S.rd,R.dat,b8,bS,g2,gN,ah,az,gC,bh,aM,bq,bw,aE,bI,cg,rF,fin,bT,aY,eq_int,aq,aI,toD,toS,aN,cZ,c5,c6,bN,c_,dX])];have lb:(⟨#[b]⟩:Str).length<=1000:=by show 1<=1000;decide
 by_cases c1:n / 35 % 4=1
 ·refine ⟨(Sx m).map (tU b),?_,M9 hb hm⟩;have cr:=xj (cap:=[3]) (gi:=dD (ah (af 1) az)) (ge:=g2 cR (af 1) (g2 bG (gC (.int 2)) (af 0))) (env:=eN c m n (.d (.str ⟨#[b]⟩)) (2 + n / 5 % 7) none none none none none none none) (tl:=[some (.d (.str ⟨#[b]⟩))]) (m:=m) (by omega) (λk=>.str (tU b k)) (nS (by omega) (by simp [av,aQ,bX,bJ,bC,aT,cF,af,aF,S.rd,R.dat,b8,bS,g2,gN,ah,az,gC,bh,aM,bq,bw,aE,bI,cg,rF,fin,bT,aY,eq_int,aq,aI,toD,toS,aN,cZ,c5,c6])) rfl (λk hk=>by
   have:=B3 ⟨#[b]⟩ (2 + (k:Int)) (by omega) (by omega) lb;have e:(2 + (k:Int)).toNat=2 + k:=by omega
   rw [e] at this;simp [av,aQ,bX,bJ,bC,aT,cF,af,aF,S.rd,R.dat,b8,bS,g2,gN,ah,az,gC,bh,aM,bq,bw,aE,bI,cg,rF,fin,bT,aY,eq_int,aq,aI,toD,toS,aN,cZ,c5,c6,dX,this,tU])
  rw [El (r:=.l .fresh (((Sx m).map (tU b)).map .str)) (by
   unfold aQ aM;rw [cr];simp [av,aQ,bX,bJ,bC,aT,cF,af,aF,S.rd,R.dat,b8,bS,g2,gN,ah,az,gC,bh,aM,bq,bw,aE,bI,cg,rF,fin,bT,aY,eq_int,aq,aI,toD,toS,aN,cZ,c5,c6,c_,bN,c1])]
  rfl
 ·rw [cG (e:=eN c m n (.d (.str ⟨#[b]⟩)) (2 + n / 5 % 7) none none none none none none none) ((jg (by simp [av,aQ,bX,bJ,bC,aT,cF,af,aF,S.rd,R.dat,b8,bS,g2,gN,ah,az,gC,bh,aM,bq,bw,aE,bI,cg,rF,fin,bT,aY,eq_int,aq,aI,toD,toS,aN,cZ,c5,c6,c_,bN,c1])).trans rfl)];by_cases c2:n / 35 % 4=2
  ·refine ⟨fB ((Sx m).map (l5 (n / 140 % 8).toNat (n / 1120 % 26).toNat)),?_,good2 (by omega) (by omega) hm⟩;have cr:=xj (cap:=[5,6,7,2]) (gi:=dD (ah (af 1) az)) (ge:=(g2 bG (g2 aV (g2 bG (af 1) (af 1)) (g2 bG (af 2) (af 0))) (g2 aV (af 3) (g2 bP (g2 dF (af 4) (gC (.int 1120))) (gC (.int 26)))))) (env:=eN c m n (.d (.str ⟨#[b]⟩)) (2 + n / 5 % 7) (some (.own words)) (some (.d (.int (n / 140 % 8)))) (some (.d (.str "abcdefghijklmnopqrstuvwxyz"))) none none none none) (tl:=[some (.own words),some (.d (.int (n / 140 % 8))),some (.d (.str "abcdefghijklmnopqrstuvwxyz")),some (.d (.int n))]) (m:=m) (by omega) (λk=>.str (l5 (n / 140 % 8).toNat (n / 1120 % 26).toNat k)) (nS (by omega) (by simp [av,aQ,bX,bJ,bC,aT,cF,af,aF,S.rd,R.dat,b8,bS,g2,gN,ah,az,gC,bh,aM,bq,bw,aE,bI,cg,rF,fin,bT,aY,eq_int,aq,aI,toD,toS,aN,cZ,c5,c6])) rfl (λk hk=>by
    have ea:=xK (n / 1120 % 26) (by omega) (by omega);have ew:=lR (m:=.fresh) (N4 ((n / 140 % 8).toNat + k) (by omega));have ei:(((n / 140 % 8).toNat + k:Nat):Int)=n / 140 % 8 + k:=by omega
    rw [ei] at ew;have el:=M1 ⟨(n / 140 % 8).toNat + k,by omega⟩;simp only at el;have es:=B4 ((eG++eG).getD ((n / 140 % 8).toNat + k) "") ⟨#[97 + (n / 1120 % 26).toNat]⟩ (by show _ + 1<=_;omega);have ec:=Io words words (by decide);unfold l5;generalize (eG++eG).getD ((n / 140 % 8).toNat + k) ""=w at ew es ⊢;simp only [g2,af,gC,List.getElem?_cons_zero,List.getElem?_cons_succ,aK,S.rd,ec,dX];rw [ew,aK,c_ _ _ (by decide) (by decide),aK,bN _ _ (by decide),aK,ea,aK,es])
   rw [El (r:=.l .fresh ((fB ((Sx m).map (l5 (n / 140 % 8).toNat (n / 1120 % 26).toNat))).map .str)) (by
    unfold aQ;rw [show aT (g2 (bZ false) (g2 bP (g2 dF (af 2) (gC (.int 35))) (gC (.int 4))) (gC (.int 2))) (eN c m n (.d (.str ⟨#[b]⟩)) (2 + n / 5 % 7) none none none none none none none)=.ok true by simp [av,aQ,bX,bJ,bC,aT,cF,af,aF,S.rd,R.dat,b8,bS,g2,gN,ah,az,gC,bh,aM,bq,bw,aE,bI,cg,rF,fin,bT,aY,eq_int,aq,aI,toD,toS,aN,cZ,c5,c6,c_,bN,c2],aK,if_pos rfl];rw [cG (e:=eN c m n (.d (.str ⟨#[b]⟩)) (2 + n / 5 % 7) (some (.own words)) none none none none none none) (by simp [av,aQ,bX,bJ,bC,aT,cF,af,aF,S.rd,R.dat,b8,bS,g2,gN,ah,az,gC,bh,aM,bq,bw,aE,bI,cg,rF,fin,bT,aY,eq_int,aq,aI,toD,toS,aN,cZ,c5,c6])];rw [cG (e:=eN c m n (.d (.str ⟨#[b]⟩)) (2 + n / 5 % 7) (some (.own words)) (some (.d (.int (n / 140 % 8)))) none none none none none) (by simp [av,aQ,bX,bJ,bC,aT,cF,af,aF,S.rd,R.dat,b8,bS,g2,gN,ah,az,gC,bh,aM,bq,bw,aE,bI,cg,rF,fin,bT,aY,eq_int,aq,aI,toD,toS,aN,cZ,c5,c6,c_,bN])];rw [cG (e:=eN c m n (.d (.str ⟨#[b]⟩)) (2 + n / 5 % 7) (some (.own words)) (some (.d (.int (n / 140 % 8)))) (some (.d (.str "abcdefghijklmnopqrstuvwxyz"))) none none none none) (by simp [av,aQ,bX,bJ,bC,aT,cF,af,aF,S.rd,R.dat,b8,bS,g2,gN,ah,az,gC,bh,aM,bq,bw,aE,bI,cg,rF,fin,bT,aY,eq_int,aq,aI,toD,toS,aN,cZ,c5,c6])];have hs:=sorted_strs .fresh ((Sx m).map (l5 (n / 140 % 8).toNat (n / 1120 % 26).toNat)) (by simp;omega);rw [TF] at hs;exact yt (BC cr hs) rfl)]
   rfl
  ·rw [cG (e:=eN c m n (.d (.str ⟨#[b]⟩)) (2 + n / 5 % 7) none none none none none none none) ((jg (by simp [av,aQ,bX,bJ,bC,aT,cF,af,aF,S.rd,R.dat,b8,bS,g2,gN,ah,az,gC,bh,aM,bq,bw,aE,bI,cg,rF,fin,bT,aY,eq_int,aq,aI,toD,toS,aN,cZ,c5,c6,c_,bN,c2])).trans rfl)];have hz:0 < 2 + n / 5 % 7:=by omega
   rw [cG (e:=eN c m n (.d (.str ⟨#[b]⟩)) (2 + n / 5 % 7) none none none (some (.d (.int (n / 105 % (2 + n / 5 % 7))))) none none none) (by simp [av,aQ,bX,bJ,bC,aT,cF,af,aF,S.rd,R.dat,b8,bS,g2,gN,ah,az,gC,bh,aM,bq,bw,aE,bI,cg,rF,fin,bT,aY,eq_int,aq,aI,toD,toS,aN,cZ,c5,c6,c_,bN,hz])];rw [cG (e:=eN c m n (.d (.str ⟨#[b]⟩)) (2 + n / 5 % 7) none none none (some (.d (.int (n / 105 % (2 + n / 5 % 7))))) (some (.own [])) none none) (by simp [av,aQ,bX,bJ,bC,aT,cF,af,aF,S.rd,R.dat,b8,bS,g2,gN,ah,az,gC,bh,aM,bq,bw,aE,bI,cg,rF,fin,bT,aY,eq_int,aq,aI,toD,toS,aN,cZ,c5,c6,eU])];obtain ⟨a,ha⟩:∃a,n / 105 % (2 + n / 5 % 7)=a:=⟨_,rfl⟩;have a0:0<=a:=ha▸UC _ (by omega);have a1:a < 2 + n / 5 % 7:=ha▸UU _ hz;obtain ⟨z,hz2⟩:∃z,2 + n / 5 % 7=z:=⟨_,rfl⟩;have z1:2<=z/\z<=8:=by omega
   rw [ha,hz2];rw [hz2] at a1;refine ⟨fB ((Sx m).map (kT b a.toNat (z - 1 - a).toNat (n / 840))),?_,good3 hb (by omega) (by omega) hm⟩;have ra:=B3 ⟨#[b]⟩ a (by omega) (by omega) lb;have rr:=B3 ⟨#[b]⟩ (z - 1 - a) (by omega) (by omega) lb;have la:(fP ⟨#[b]⟩ a.toNat).length<=8:=by rw [ly,iP,Tz];omega
   have lr:(fP ⟨#[b]⟩ (z - 1 - a).toNat).length<=8:=by rw [ly,iP,Tz];omega
   obtain ⟨e,h1,x,y,rfl⟩:=iV (t:=aH 10) (u:=(av (aN 11 (g2 aV (gC (.str "abcdefghijklmnopqrstuvwxyz")) (g2 bP (g2 bG (g2 dF (af 2) (gC (.int 840))) (g2 cR (gC (.int 5)) (af 10))) (gC (.int 26)))))
 (dG 9 (g2 bG (g2 bG (g2 cR (af 3) (af 8)) (af 11)) (g2 cR (af 3) (g2 gK (g2 gK (af 4) (gC (.int 1))) (af 8))))))) (λk env=>∃x y,env=eN c m n (.d (.str ⟨#[b]⟩)) z none none none (some (.d (.int a))) (some (.own (((Sx k).map (kT b a.toNat (z - 1 - a).toNat (n / 840))).map .str))) x y) m (λk hk env ⟨x,y,he⟩=>by
    subst he;refine ⟨_,_,rfl,?_,some (.d (.int k)),some (.d (.str ⟨#[97 + ((n / 840 + 5 * (k:Int)) % 26).toNat]⟩)),rfl⟩
    ·have ea:=xK ((n / 840 + 5 * (k:Int)) % 26) (by omega) (by omega);rw [cG (e:=eN c m n (.d (.str ⟨#[b]⟩)) z none none none (some (.d (.int a))) (some (.own (((Sx k).map (kT b a.toNat (z - 1 - a).toNat (n / 840))).map .str))) (some (.d (.int k))) (some (.d (.str ⟨#[97 + ((n / 840 + 5 * (k:Int)) % 26).toNat]⟩)))) (by simp [av,aQ,bX,bJ,bC,aT,cF,af,aF,S.rd,R.dat,b8,bS,g2,gN,ah,az,gC,bh,aM,bq,bw,aE,bI,cg,rF,fin,bT,aY,eq_int,aq,aI,toD,toS,aN,cZ,c5,c6,aH,dX,mD,c_,bN,ea])];have e1:=B4 (fP ⟨#[b]⟩ a.toNat) ⟨#[97 + ((n / 840 + 5 * (k:Int)) % 26).toNat]⟩ (by show _ + 1<=_;omega);have e2:=B4 (fP ⟨#[b]⟩ a.toNat++⟨#[97 + ((n / 840 + 5 * (k:Int)) % 26).toNat]⟩) (fP ⟨#[b]⟩ (z - 1 - a).toNat) (by
      rw [ly,n_,SE,<-ly];simp;omega)
     have hk':k < sizeLine:=SW (by omega:k < 1000) (by decide);simp [av,aQ,bX,bJ,bC,aT,cF,af,aF,S.rd,R.dat,b8,bS,g2,gN,ah,az,gC,bh,aM,bq,bw,aE,bI,cg,rF,fin,bT,aY,eq_int,aq,aI,toD,toS,aN,cZ,c5,c6,dG,ra,rr,e1,e2,NX,hk',ZA,kT]) (eN c m n (.d (.str ⟨#[b]⟩)) z none none none (some (.d (.int a))) (some (.own [])) none none) ⟨none,none,rfl⟩
   rw [cG ((jU (nS (m:=m) (by omega) (by simp [av,aQ,bX,bJ,bC,aT,cF,af,aF,S.rd,R.dat,b8,bS,g2,gN,ah,az,gC,bh,aM,bq,bw,aE,bI,cg,rF,fin,bT,aY,eq_int,aq,aI,toD,toS,aN,cZ,c5,c6]))).trans h1)];have hs:=sorted_strs .own ((Sx m).map (kT b a.toNat (z - 1 - a).toNat (n / 840))) (by simp;omega);rw [yt (BC (r:=.l .own (((Sx m).map (kT b a.toNat (z - 1 - a).toNat (n / 840))).map .str)) rfl hs) rfl];rfl
abbrev dN (k:Nat):D:=.int k
abbrev dP (p:Nat×Nat):D:=.tup [.int p.1,.int p.2]
def rO (p q:Nat×Nat):Prop:=p.1 < q.1\/(p.1=q.1/\p.2 < q.2)
def vH (m:Nat) (xs:List Nat):Prop:=xs.length<=8/\xs.Pairwise (· < ·)/\∀x∈xs,x < m
def vG (m:Nat) (ps:List (Nat×Nat)):Prop:=ps.length<=64/\ps.Pairwise rO/\∀p∈ps,p.1 < m/\p.2 < m
def Cq (ss:List Str):Prop:=ss.length<=3/\(∀s∈ss,DI s=true)/\ss.Pairwise λa b=>a.cps.toList < b.cps.toList
structure Wd where
 m:Nat
 ms:List (Str×List Nat)
 ar:List (Str×List (Nat×Nat))
abbrev i6 (r:Str×List Nat):D:=.tup [.str r.1,.tup (r.2.map dN)]
abbrev kU (r:Str×List (Nat×Nat)):D:=.tup [.str r.1,.tup (r.2.map dP)]
def Wd.d (w:Wd):D:=.tup [.int w.m,.tup (w.ms.map i6),.tup (w.ar.map kU)]
theorem Ku (b:Int) (m:Nat) (hm:m<=8):∃xs:List Nat,gG [.d (.int b),.d (.int m)]=.ok (.d (.tup (xs.map dN)))/\vH m xs:=by
 unfold gG lV;show ∃xs:List Nat,fin (av _ _ [some (.d (.int b)),some (.d (.int m)),none,none])=_/\_;rw [cG (e:=[some (.d (.int b)),some (.d (.int m)),some (.own []),none]) (by simp [av,aQ,bX,bJ,bC,aT,cF,af,aF,S.rd,R.dat,b8,bS,g2,gN,ah,az,gC,bh,aM,bq,bw,aE,bI,cg,rF,fin,bT,aY,eq_int,aq,aI,toD,toS,aN,cZ,c5,c6,eU])];obtain ⟨e,h1,b',xs,y,rfl,hl,hp,hx⟩:=iV (t:=aH 3) (u:=(av (aQ (aT (g2 (bZ false) (g2 bP (af 0) (gC (.int 2))) (gC (.int 1)))) (dG 2 (af 3)) bh)
 (aN 0 (g2 dF (af 0) (gC (.int 2)))))) (λk env=>∃(b':Int) (xs:List Nat) (y:Option S),env=[some (.d (.int b')),some (.d (.int m)),some (.own (xs.map dN)),y]/\xs.length<=k/\xs.Pairwise (· < ·)/\∀x∈xs,x < k) m (λk hk env ⟨b',xs,y,he,hl,hp,hx⟩=>by
  subst he;have hz:xs.length < sizeLine:=SW (by omega:xs.length < 1000) (by decide);by_cases hb:b' % 2=1
  ·refine ⟨_,_,rfl,?_,b' / 2,xs++[k],some (.d (.int k)),rfl,by simp;omega,?_,λx hx'=>?_⟩
   ·rw [cG (e:=[some (.d (.int b')),some (.d (.int m)),some (.own ((xs++[k]).map dN)),some (.d (.int k))]) ((lq (by simp [av,aQ,bX,bJ,bC,aT,cF,af,aF,S.rd,R.dat,b8,bS,g2,gN,ah,az,gC,bh,aM,bq,bw,aE,bI,cg,rF,fin,bT,aY,eq_int,aq,aI,toD,toS,aN,cZ,c5,c6,bN,hb])).trans (by simp [av,aQ,bX,bJ,bC,aT,cF,af,aF,S.rd,R.dat,b8,bS,g2,gN,ah,az,gC,bh,aM,bq,bw,aE,bI,cg,rF,fin,bT,aY,eq_int,aq,aI,toD,toS,aN,cZ,c5,c6,dG,hz]))];simp [av,aQ,bX,bJ,bC,aT,cF,af,aF,S.rd,R.dat,b8,bS,g2,gN,ah,az,gC,bh,aM,bq,bw,aE,bI,cg,rF,fin,bT,aY,eq_int,aq,aI,toD,toS,aN,cZ,c5,c6,c_]
   ·rw [XG];exact ⟨hp,WV _ _,λa ha c hc=>by rw [Su] at hc;rw [hc];exact hx a ha⟩
   ·rw [Tc,Su] at hx';rcases hx' with h | h
    ·exact U6 (hx x h)
    ·omega
  ·refine ⟨_,_,rfl,?_,b' / 2,xs,some (.d (.int k)),rfl,by omega,hp,λx h=>U6 (hx x h)⟩;rw [cG (e:=[some (.d (.int b')),some (.d (.int m)),some (.own (xs.map dN)),some (.d (.int k))]) ((jg (by simp [av,aQ,bX,bJ,bC,aT,cF,af,aF,S.rd,R.dat,b8,bS,g2,gN,ah,az,gC,bh,aM,bq,bw,aE,bI,cg,rF,fin,bT,aY,eq_int,aq,aI,toD,toS,aN,cZ,c5,c6,bN,hb])).trans rfl)];simp [av,aQ,bX,bJ,bC,aT,cF,af,aF,S.rd,R.dat,b8,bS,g2,gN,ah,az,gC,bh,aM,bq,bw,aE,bI,cg,rF,fin,bT,aY,eq_int,aq,aI,toD,toS,aN,cZ,c5,c6,c_]) [some (.d (.int b)),some (.d (.int m)),some (.own []),none] ⟨b,[],none,rfl,S5 _,.nil,λx h=>by cases h⟩
 rw [cG ((jU (nS (m:=m) (by omega) (by simp [av,aQ,bX,bJ,bC,aT,cF,af,aF,S.rd,R.dat,b8,bS,g2,gN,ah,az,gC,bh,aM,bq,bw,aE,bI,cg,rF,fin,bT,aY,eq_int,aq,aI,toD,toS,aN,cZ,c5,c6]))).trans h1)];exact ⟨xs,rfl,by omega,hp,hx⟩
def Lr (k j:Nat) (p:Nat×Nat):Prop:=p.1 < k\/(p.1=k/\p.2 < j)
theorem EK (b:Int) (m:Nat) (hm:m<=8):∃ps:List (Nat×Nat),gn [.d (.int b),.d (.int m)]=.ok (.d (.tup (ps.map dP)))/\vG m ps:=by
 unfold gn kN;show ∃ps:List (Nat×Nat),fin (av _ _ [some (.d (.int b)),some (.d (.int m)),none,none,none])=_/\_;rw [cG (e:=[some (.d (.int b)),some (.d (.int m)),some (.own []),none,none]) (by simp [av,aQ,bX,bJ,bC,aT,cF,af,aF,S.rd,R.dat,b8,bS,g2,gN,ah,az,gC,bh,aM,bq,bw,aE,bI,cg,rF,fin,bT,aY,eq_int,aq,aI,toD,toS,aN,cZ,c5,c6,eU])];obtain ⟨e,h1,b',ps,y,z,rfl,hl,hp,hx⟩:=iV (t:=aH 3) (u:=(fF (dD (ah (af 1) az)) (aH 4) (av (aQ (aT (g2 (bZ false) (g2 bP (af 0) (gC (.int 2))) (gC (.int 1)))) (dG 2 (bV (aq (af 3) (aq (af 4) aI)))) bh)
 (aN 0 (g2 dF (af 0) (gC (.int 2))))))) (λk env=>∃(b':Int) (ps:List (Nat×Nat)) (y z:Option S),env=[some (.d (.int b')),some (.d (.int m)),some (.own (ps.map dP)),y,z]/\ps.length<=8 * k/\ps.Pairwise rO/\∀p∈ps,p.1 < k/\p.2 < m) m (λk hk env ⟨b',ps,y,z,he,hl,hp,hx⟩=>by
  subst he;obtain ⟨e,h1,b2,qs,z,rfl,hl2,hp2,QH⟩:=iV (t:=aH 4) (u:=(av (aQ (aT (g2 (bZ false) (g2 bP (af 0) (gC (.int 2))) (gC (.int 1)))) (dG 2 (bV (aq (af 3) (aq (af 4) aI)))) bh)
 (aN 0 (g2 dF (af 0) (gC (.int 2)))))) (λj env=>∃(b2:Int) (qs:List (Nat×Nat)) (z:Option S),env=[some (.d (.int b2)),some (.d (.int m)),some (.own (qs.map dP)),some (.d (.int k)),z]/\qs.length<=8 * k + j/\qs.Pairwise rO/\∀p∈qs,Lr k j p/\p.2 < m) m (λj hj env ⟨b2,qs,z,he,hl2,hp2,QH⟩=>by
   subst he;have hz:qs.length < sizeLine:=SW (by omega:qs.length < 1000) (by decide);have QE:2<=sizeLine:=by decide
   by_cases hb:b2 % 2=1
   ·refine ⟨_,_,rfl,?_,b2 / 2,qs++[(k,j)],some (.d (.int j)),rfl,by simp;omega,?_,λp hp'=>?_⟩
    ·rw [cG (e:=[some (.d (.int b2)),some (.d (.int m)),some (.own ((qs++[(k,j)]).map dP)),some (.d (.int k)),some (.d (.int j))]) ((lq (by simp [av,aQ,bX,bJ,bC,aT,cF,af,aF,S.rd,R.dat,b8,bS,g2,gN,ah,az,gC,bh,aM,bq,bw,aE,bI,cg,rF,fin,bT,aY,eq_int,aq,aI,toD,toS,aN,cZ,c5,c6,bN,hb])).trans (by simp [av,aQ,bX,bJ,bC,aT,cF,af,aF,S.rd,R.dat,b8,bS,g2,gN,ah,az,gC,bh,aM,bq,bw,aE,bI,cg,rF,fin,bT,aY,eq_int,aq,aI,toD,toS,aN,cZ,c5,c6,dG,bV,hz,QE]))];simp [av,aQ,bX,bJ,bC,aT,cF,af,aF,S.rd,R.dat,b8,bS,g2,gN,ah,az,gC,bh,aM,bq,bw,aE,bI,cg,rF,fin,bT,aY,eq_int,aq,aI,toD,toS,aN,cZ,c5,c6,c_]
    ·rw [XG];refine ⟨hp2,WV _ _,λa ha c hc=>?_⟩;rw [Su] at hc;rw [hc];exact (QH a ha).1
    ·rw [Tc,Su] at hp';rcases hp' with h | h
     ·refine ⟨?_,(QH p h).2⟩;rcases (QH p h).1 with q | ⟨q,q'⟩
      ·exact .inl q
      ·exact .inr ⟨q,by omega⟩
     ·rw [h];exact ⟨.inr ⟨rfl,TX _⟩,hj⟩
   ·refine ⟨_,_,rfl,?_,b2 / 2,qs,some (.d (.int j)),rfl,by omega,hp2,λp h=>⟨?_,(QH p h).2⟩⟩
    ·rw [cG (e:=[some (.d (.int b2)),some (.d (.int m)),some (.own (qs.map dP)),some (.d (.int k)),some (.d (.int j))]) ((jg (by simp [av,aQ,bX,bJ,bC,aT,cF,af,aF,S.rd,R.dat,b8,bS,g2,gN,ah,az,gC,bh,aM,bq,bw,aE,bI,cg,rF,fin,bT,aY,eq_int,aq,aI,toD,toS,aN,cZ,c5,c6,bN,hb])).trans rfl)];simp [av,aQ,bX,bJ,bC,aT,cF,af,aF,S.rd,R.dat,b8,bS,g2,gN,ah,az,gC,bh,aM,bq,bw,aE,bI,cg,rF,fin,bT,aY,eq_int,aq,aI,toD,toS,aN,cZ,c5,c6,c_]
    ·rcases (QH p h).1 with q | ⟨q,q'⟩
     ·exact .inl q
     ·exact .inr ⟨q,by omega⟩) [some (.d (.int b')),some (.d (.int m)),some (.own (ps.map dP)),some (.d (.int k)),z] ⟨b',ps,z,rfl,hl,hp,λp h=>⟨.inl (hx p h).1,(hx p h).2⟩⟩
  refine ⟨_,_,rfl,(jU (nS (m:=m) (by omega) (by simp [av,aQ,bX,bJ,bC,aT,cF,af,aF,S.rd,R.dat,b8,bS,g2,gN,ah,az,gC,bh,aM,bq,bw,aE,bI,cg,rF,fin,bT,aY,eq_int,aq,aI,toD,toS,aN,cZ,c5,c6]))).trans h1,b2,qs,some (.d (.int k)),z,rfl,by omega,hp2,λp h=>⟨?_,(QH p h).2⟩⟩;rcases (QH p h).1 with q | ⟨q,q'⟩
  ·omega
  ·omega) [some (.d (.int b)),some (.d (.int m)),some (.own []),none,none] ⟨b,[],none,none,rfl,S5 _,.nil,λx h=>by cases h⟩
 rw [cG ((jU (nS (m:=m) (by omega) (by simp [av,aQ,bX,bJ,bC,aT,cF,af,aF,S.rd,R.dat,b8,bS,g2,gN,ah,az,gC,bh,aM,bq,bw,aE,bI,cg,rF,fin,bT,aY,eq_int,aq,aI,toD,toS,aN,cZ,c5,c6]))).trans h1)];exact ⟨ps,rfl,by omega,hp,hx⟩
theorem tu {α:Type}(f:α->D) (xs:List α) (l u:Option Int):∃ys:List α,cutD (xs.map f) l u=ys.map f/\ys=(xs.drop (HT.bF xs.length 0 l)).take (HT.bF xs.length xs.length u - HT.bF xs.length 0 l):=by refine ⟨_,?_,rfl⟩;unfold cutD;rw [So,WW,WX]
theorem zF {α:Type}(xs:List α) (i j:Nat):((xs.drop i).take j).Sublist xs:=(YC _ _).trans (aaO _ _)
theorem Good.sub {ss ys:List Str}(h:Good m ss) (s:ys.Sublist ss) (hl:ys.length<=3):Cq ys:=⟨hl,λx hx=>h.2.1 x (s.subset hx),h.2.2.sublist s⟩
theorem MI (xs:List D) (l u:Option Int):jS (.l .own xs) l u=.ok (.l .fresh (cutD xs l u)):=rfl
theorem AB (m:Md) (xs:List D):dW [.l m xs]=.ok (.d (.tup xs)):=rfl
theorem pN (c:Int):∃A B:List Str,gw [.d (.int c)]=.ok (.d (.tup [.tup (A.map .str),.tup (B.map .str)]))/\Cq A/\Cq B:=by
 obtain ⟨ss,hs,hg⟩:=HW c 6 (Sw _);have hs:fK [.d (.int c),.d (.int 6)]=.ok (.l .fresh (ss.map .str)):=hs;unfold gw jX;generalize fK=F_names at hs ⊢;show ∃A B:List Str,fin (av _ _ [some (.d (.int c)),none,none,none])=_/\_;obtain ⟨n,hn⟩:∃n,c * 523 % 10007=n:=⟨_,rfl⟩;have n0:0<=n:=hn▸UC _ (by decide);rw [cG (e:=[some (.d (.int c)),some (.own (ss.map .str)),none,none]) (by simp [av,aQ,bX,bJ,bC,aT,cF,af,aF,S.rd,R.dat,b8,bS,g2,gN,ah,az,gC,bh,aM,bq,bw,aE,bI,cg,rF,fin,bT,aY,eq_int,aq,aI,toD,toS,aN,cZ,c5,c6,hs])];rw [cG (e:=[some (.d (.int c)),some (.own (ss.map .str)),some (.d (.int n)),none]) (by simp [av,aQ,bX,bJ,bC,aT,cF,af,aF,S.rd,R.dat,b8,bS,g2,gN,ah,az,gC,bh,aM,bq,bw,aE,bI,cg,rF,fin,bT,aY,eq_int,aq,aI,toD,toS,aN,cZ,c5,c6,lJ,bN,hn])];rw [cG (e:=[some (.d (.int c)),some (.own (ss.map .str)),some (.d (.int n)),some (.d (.int (n / 16 % 3)))]) (by simp [av,aQ,bX,bJ,bC,aT,cF,af,aF,S.rd,R.dat,b8,bS,g2,gN,ah,az,gC,bh,aM,bq,bw,aE,bI,cg,rF,fin,bT,aY,eq_int,aq,aI,toD,toS,aN,cZ,c5,c6,c_,bN])];obtain ⟨A,ha,ha'⟩:=tu D.str ss none (some (n % 4));obtain ⟨B,hb,hb'⟩:=tu D.str ss (some (n / 16 % 3)) (some (n / 16 % 3 + n / 4 % 4));refine ⟨A,B,?_,hg.sub (ha'▸zF _ _ _) ?_,hg.sub (hb'▸zF _ _ _) ?_⟩
 ·have QE:2<=sizeLine:=by decide
  simp [av,aQ,bX,bJ,bC,aT,cF,af,aF,S.rd,R.dat,b8,bS,g2,gN,ah,az,gC,bh,aM,bq,bw,aE,bI,cg,rF,fin,bT,aY,eq_int,aq,aI,toD,toS,aN,cZ,c5,c6,bV,nu,uE,mO,bN,c_,dX,MI,AB,ha,hb,QE]
 ·rw [ha',UG,HT.qe];have e:n % 4=((n % 4).toNat:Int):=by omega
  rw [e,HT.lH];omega
 ·rw [hb',UG];have e:n / 16 % 3=((n / 16 % 3).toNat:Int):=by omega
  have e2:n / 16 % 3 + n / 4 % 4=((n / 16 % 3 + n / 4 % 4).toNat:Int):=by omega
  rw [e2,HT.lH,e,HT.lH,hg.1];omega
theorem BY (Fs Fc:List S->M R) (ns:List Int) (a k m:Nat) (v:Int) (xs:List Nat) (T T2:D) (s:Str) (ms:List (Str×List Nat)) (hi:aV (.d T) (.d (.int k))=.ok (.d (.str s))) (hc:Fc [.bor (ns.map D.int),.d (.int ((a:Int) + k))]=.ok (.d (.int v))) (hx:Fs [.d (.int (v * 167 % 256)),.d (.int m)]=.ok (.d (.tup (xs.map dN))))
  (QE:2<=sizeLine) (hz:ms.length < sizeLine):(dG 4 (bV (aq (g2 aV (g2 aV (af 3) (gC (.int 0))) (af 5)) (aq (gN (aE 2 Fs) (ah (g2 bP (g2 cR (gN (aE 2 Fc) (ah (af 0) (ah (g2 bG (af 1) (af 5)) az))) (gC (.int 167))) (g2 jR (gC (.int 2)) (gC (.int 8)))) (ah (af 2) az))) aI)))) [some (.bor (ns.map D.int)),some (.d (.int a)),some (.d (.int m)),some (.d (.tup [T,T2])),some (.own (ms.map i6)),some (.d (.int k)),none,none]=.ok (.nx [some (.bor (ns.map D.int)),some (.d (.int a)),some (.d (.int m)),some (.d (.tup [T,T2])),some (.own ((ms++[(s,xs)]).map i6)),some (.d (.int k)),none,none]):=by simp [av,aQ,bX,bJ,bC,aT,cF,af,aF,S.rd,R.dat,b8,bS,g2,gN,ah,az,gC,bh,aM,bq,bw,aE,bI,cg,rF,fin,bT,aY,eq_int,aq,aI,toD,toS,aN,cZ,c5,c6,dG,bV,hi,dX,hc,lJ,MS,bN,hx,hz,QE]
theorem zb (Fs Fc:List S->M R) (ns:List Int) (a k m:Nat) (v:Int) (xs:List (Nat×Nat)) (T T2:D) (s:Str) (ms:List D) (z:Option S) (rs:List (Str×List (Nat×Nat))) (hi:aV (.d T2) (.d (.int k))=.ok (.d (.str s))) (hc:Fc [.bor (ns.map D.int),.d (.int ((a:Int) + 3 + k))]=.ok (.d (.int v))) (hx:Fs [.d (.int (v * 11400714819323198485 % 18446744073709551616)),.d (.int m)]=.ok (.d (.tup (xs.map dP))))
  (QE:2<=sizeLine) (hz:rs.length < sizeLine):(av (aN 7 (g2 bP (g2 cR (gN (aE 2 Fc) (ah (af 0) (ah (g2 bG (g2 bG (af 1) (gC (.int 3))) (af 5)) az))) (gC (.int 11400714819323198485))) (g2 jR (gC (.int 2)) (gC (.int 64)))))
 (dG 6 (bV (aq (g2 aV (g2 aV (af 3) (gC (.int 1))) (af 5)) (aq (gN (aE 2 Fs) (ah (af 7) (ah (af 2) az))) aI))))) [some (.bor (ns.map D.int)),some (.d (.int a)),some (.d (.int m)),some (.d (.tup [T,T2])),some (.own ms),some (.d (.int k)),some (.own (rs.map kU)),z]=.ok (.nx [some (.bor (ns.map D.int)),some (.d (.int a)),some (.d (.int m)),some (.d (.tup [T,T2])),some (.own ms),some (.d (.int k)),some (.own ((rs++[(s,xs)]).map kU)),some (.d (.int (v * 11400714819323198485 % 18446744073709551616)))]):=by simp [av,aQ,bX,bJ,bC,aT,cF,af,aF,S.rd,R.dat,b8,bS,g2,gN,ah,az,gC,bh,aM,bq,bw,aE,bI,cg,rF,fin,bT,aY,eq_int,aq,aI,toD,toS,aN,cZ,c5,c6,dG,bV,hi,dX,hc,lJ,uh,bN,hx,hz,QE]
theorem HY (ns:List Int) (a m:Nat) (hm:m<=8) (A B:List Str) (hA:A.length<=3) (hB:B.length<=3):∃ms rs,fL [.bor (ns.map D.int),.d (.int a),.d (.int m),.d (.tup [.tup (A.map .str),.tup (B.map .str)])]=.ok (.d (Wd.d ⟨m,ms,rs⟩))/\
  ms.map TJ=A/\rs.map TJ=B/\(∀r∈ms,vH m r.2)/\∀r∈rs,vG m r.2:=by
 unfold fL kO;have HS:=λb=>Ku b m hm;have HP:=λb=>EK b m hm;have HC:=vZ ns;generalize gG=F_some at HS ⊢;generalize gn=F_pairs at HP ⊢;generalize cP=F_cell at HC ⊢;show ∃ms rs,fin (av _ _ [some (.bor (ns.map D.int)),some (.d (.int a)),some (.d (.int m)),some (.d (.tup [.tup (A.map .str),.tup (B.map .str)])),none,none,none,none])=_/\_;have zA:∀k,k < 3->k < sizeLine:=λk hk=>SW (by omega:k < 1000) (by decide);have QE:2<=sizeLine:=by decide
 have RD:3<=sizeLine:=by decide
 rw [cG (e:=[some (.bor (ns.map D.int)),some (.d (.int a)),some (.d (.int m)),some (.d (.tup [.tup (A.map .str),.tup (B.map .str)])),some (.own []),none,none,none]) (by simp [av,aQ,bX,bJ,bC,aT,cF,af,aF,S.rd,R.dat,b8,bS,g2,gN,ah,az,gC,bh,aM,bq,bw,aE,bI,cg,rF,fin,bT,aY,eq_int,aq,aI,toD,toS,aN,cZ,c5,c6,eU])];obtain ⟨e,h1,ms,y,rfl,hf,hp⟩:=iV (t:=aH 5) (u:=(dG 4 (bV (aq (g2 aV (g2 aV (af 3) (gC (.int 0))) (af 5)) (aq (gN (aE 2 F_some) (ah (g2 bP (g2 cR (gN (aE 2 F_cell) (ah (af 0) (ah (g2 bG (af 1) (af 5)) az))) (gC (.int 167))) (g2 jR (gC (.int 2)) (gC (.int 8)))) (ah (af 2) az))) aI)))))
  (λk env=>∃(ms:List (Str×List Nat)) (y:Option S),env=[some (.bor (ns.map D.int)),some (.d (.int a)),some (.d (.int m)),some (.d (.tup [.tup (A.map .str),.tup (B.map .str)])),some (.own (ms.map i6)),y,none,none]/\ms.map TJ=A.take k/\∀r∈ms,vH m r.2) A.length (λk hk env ⟨ms,y,he,hf,hp⟩=>by
   subst he;obtain ⟨xs,hx,px⟩:=HS (c9 ns (a + k) * 167 % 256);have hc:=HC (a + k);rw [ZC] at hc;have hi:aV (.d (.tup (A.map D.str))) (.d (.int k))=.ok (.d (.str A[k])):=iS (by rw [S3,SH hk];rfl);have hl:ms.length=k:=by have:=congrArg XX hf;rw [So,UG] at this;omega
   have hz:=zA ms.length (by have:=hA;omega);refine ⟨_,_,rfl,?_,ms++[(A[k],xs)],some (.d (.int k)),rfl,?_,λr hr=>?_⟩
   ·exact BY F_some F_cell ns a k m _ xs _ _ _ ms hi hc hx QE hz
   ·rw [TZ,hf,ab0,SH hk];rfl
   ·rw [Tc,Su] at hr;rcases hr with h | h
    ·exact hp r h
    ·rw [h];exact px) [some (.bor (ns.map D.int)),some (.d (.int a)),some (.d (.int m)),some (.d (.tup [.tup (A.map .str),.tup (B.map .str)])),some (.own []),none,none,none] ⟨[],none,rfl,rfl,λr h=>by cases h⟩
 rw [cG ((jU (nS (m:=A.length) (by have:=hA;omega) (by simp [av,aQ,bX,bJ,bC,aT,cF,af,aF,S.rd,R.dat,b8,bS,g2,gN,ah,az,gC,bh,aM,bq,bw,aE,bI,cg,rF,fin,bT,aY,eq_int,aq,aI,toD,toS,aN,cZ,c5,c6]))).trans h1)];rw [cG (e:=[some (.bor (ns.map D.int)),some (.d (.int a)),some (.d (.int m)),some (.d (.tup [.tup (A.map .str),.tup (B.map .str)])),some (.own (ms.map i6)),y,some (.own []),none]) (by simp [av,aQ,bX,bJ,bC,aT,cF,af,aF,S.rd,R.dat,b8,bS,g2,gN,ah,az,gC,bh,aM,bq,bw,aE,bI,cg,rF,fin,bT,aY,eq_int,aq,aI,toD,toS,aN,cZ,c5,c6,eU])];obtain ⟨e,h2,rs,y2,z2,rfl,hf2,hp2⟩:=iV (t:=aH 5) (u:=(av (aN 7 (g2 bP (g2 cR (gN (aE 2 F_cell) (ah (af 0) (ah (g2 bG (g2 bG (af 1) (gC (.int 3))) (af 5)) az))) (gC (.int 11400714819323198485))) (g2 jR (gC (.int 2)) (gC (.int 64)))))
 (dG 6 (bV (aq (g2 aV (g2 aV (af 3) (gC (.int 1))) (af 5)) (aq (gN (aE 2 F_pairs) (ah (af 7) (ah (af 2) az))) aI))))))
  (λk env=>∃(rs:List (Str×List (Nat×Nat))) (y z:Option S),env=[some (.bor (ns.map D.int)),some (.d (.int a)),some (.d (.int m)),some (.d (.tup [.tup (A.map .str),.tup (B.map .str)])),some (.own (ms.map i6)),y,some (.own (rs.map kU)),z]/\rs.map TJ=B.take k/\∀r∈rs,vG m r.2) B.length (λk hk env ⟨rs,y,z,he,hf,hp⟩=>by
   subst he;obtain ⟨xs,hx,px⟩:=HP (c9 ns (a + 3 + k) * 11400714819323198485 % 18446744073709551616);have hc:=HC (a + 3 + k);rw [ZC,ZC] at hc;have hc:F_cell [.bor (ns.map D.int),.d (.int ((a:Int) + 3 + (k:Int)))]=.ok (.d (.int (c9 ns (a + 3 + k)))):=hc;have hi:aV (.d (.tup (B.map D.str))) (.d (.int k))=.ok (.d (.str B[k])):=iS (by rw [S3,SH hk];rfl);have hl:rs.length=k:=by have:=congrArg XX hf;rw [So,UG] at this;omega
   have hz:=zA rs.length (by have:=hB;omega);refine ⟨_,_,rfl,?_,rs++[(B[k],xs)],some (.d (.int k)),some (.d (.int (c9 ns (a + 3 + k) * 11400714819323198485 % 18446744073709551616))),rfl,?_,λr hr=>?_⟩
   ·exact zb F_pairs F_cell ns a k m _ xs _ _ _ _ z rs hi hc hx QE hz
   ·rw [TZ,hf,ab0,SH hk];rfl
   ·rw [Tc,Su] at hr;rcases hr with h | h
    ·exact hp r h
    ·rw [h];exact px) [some (.bor (ns.map D.int)),some (.d (.int a)),some (.d (.int m)),some (.d (.tup [.tup (A.map .str),.tup (B.map .str)])),some (.own (ms.map i6)),y,some (.own []),none] ⟨[],y,none,rfl,rfl,λr h=>by cases h⟩
 rw [cG ((jU (nS (m:=B.length) (by have:=hB;omega) (by simp [av,aQ,bX,bJ,bC,aT,cF,af,aF,S.rd,R.dat,b8,bS,g2,gN,ah,az,gC,bh,aM,bq,bw,aE,bI,cg,rF,fin,bT,aY,eq_int,aq,aI,toD,toS,aN,cZ,c5,c6]))).trans h2)];refine ⟨ms,rs,?_,by rw [hf,abe],by rw [hf2,abe],hp,hp2⟩;simp [av,aQ,bX,bJ,bC,aT,cF,af,aF,S.rd,R.dat,b8,bS,g2,gN,ah,az,gC,bh,aM,bq,bw,aE,bI,cg,rF,fin,bT,aY,eq_int,aq,aI,toD,toS,aN,cZ,c5,c6,bV,AB,RD,Wd.d]
theorem Kv (ns:List Int) (a m:Nat) (hm:m<=8) (A B:List Str) (hA:Cq A) (hB:Cq B):∃ms rs,fL [.bor (ns.map D.int),.d (.int a),.d (.int m),.d (.tup [.tup (A.map .str),.tup (B.map .str)])]=.ok (.d (Wd.d ⟨m,ms,rs⟩))/\
  ms.map TJ=A/\rs.map TJ=B/\(∀r∈ms,vH m r.2)/\∀r∈rs,vG m r.2:=HY ns a m hm A B hA.1 hB.1
theorem uT {K:Sk}{J:L2.Hp}:∀(ns:List Int),aL K J (ns.map D.int) (ns.map L2.V.int)
 | []=>.nil
 | n::r=>.cons (.int n) (uT r)
end K01
namespace K02
open PySem DL
end K02
namespace K02
open PySem DL K01
theorem K2 (xs ys:List D) (h:xs.length + ys.length<=1000):bG (.l .fresh xs) (.l .fresh ys)=.ok (.l .fresh (xs++ys)):=by unfold bG zV Hl oj;simp [fQ,rH,g9 h]
end K02
namespace K04
open PySem DL
end K04
namespace K04
open PySem DL K01 K02
end K04
namespace DL
open PySem PySem.Spec PyProof.Rows L2 DX
structure lN (K:Sk) (x Sf:Str) (st:VQ) (f:SM) (fd:Tj):Prop where
 ex:∃(oc:Sl) (od:Option SM) (T:SM) (o:Obj) (n:Nat) (kV doc pm:Sl) (an:Option SM) (cdv ct:Sl) (osl:Array (Option Sl)),
  fd=Tp x Sf (cB st) (bB st) (aJ st) (.ref T) kV doc pm an cdv ct/\K.lookup f=some ⟨oc,od,.func fd,osl⟩/\Vo K cdv Sf=true/\K.lookup T=some o/\o.data=.seq #[.none] n
 kp:T4 K (.ref f)=true
section
variable {P:SK}{w:S9}{K:Sk}{mg:Str->Option Sl}{base:Uo}
theorem IA {st:VQ}{N ps:List Str}{Fm:List S->M R}(F:lN K x Sf st f fd) (Sc:cS N ps (aJ st)){gB:G O}
 (hb:∀(cdv:Sl) (A:Te) (outer:List Env) (s:Sn) (H:Hp) (E:XK) (J:Hp),cO k (A.deeper (W3 Sf (aJ st) s.heap.objs.size f cdv))->GV (Pp P w K mg base N Sf (aJ st) f cdv A outer s H E) ⟨K,H,J,XW K J H E⟩ (bB st) gB)
 (hF:∀as,as.length=ps.length->Fm as≠.bad->fin (gB (aF N as))=Fm as):eT P w K mg base (ur P w) (k + 1) f fd ps (yC K ps.length Fm):=by
 obtain ⟨oc,od,T,o,n,kV,doc,pm,an,cdv,ct,osl,rfl,lk,hcd,lT,dT⟩:=F.ex;refine G_ lk hcd Sc (λvs H Q E ⟨J,as,h1,h2,h3,h4⟩=>by rw [h3.length,h2]) λA outer s H vs Q E hr ⟨J,as,h1,h2,h3,h4⟩=>?_;refine ⟨_,hb cdv A outer s H E J hr,J,aF N as,yD h1 h3,?_⟩;have z:=hF as h2 (λq=>by rw [q] at h4;exact h4);rw [<-z] at h4;have ext:∀{J' H':Hp},HI ⟨K,H,J,XW K J H E⟩ J' H'->Ext J H J' H':=λhp=>⟨hp.ent,hp.entJ,hp.sub,hp.frz⟩;cases qg:gB (aF N as) with
 | bad=>rw [qg] at h4;exact h4
 | exc x=>rw [qg] at h4;exact h4
 | ok o=>
  rw [qg] at h4;cases o with
  | bk _=>exact h4.elim
  | ct _=>exact h4.elim
  | nx env=>exact λσ' J' H' _ sr=>h4 .non J' H' (ext sr.hp) .non
  | rt r=>exact λv J' H' _ hp rf=>h4 v J' H' (ext hp) (by
    cases r with
    | d x=>exact rf
    | mo _ _=>exact rf
    | mf _ _=>exact rf
    | ln _=>exact rf
    | o m _ _=>cases m <;> exact rf
    | mb _ _=>exact rf
    | l m xs=>exact rf)
noncomputable def Om (P:SK) (w:S9) (K:Sk) (mg:Str->Option Sl) (base:Uo) (k n:Nat) (x:Str) (Fm:List S->M R):Prop:=
 ∃f fd ps,eT P w K mg base (ur P w) k f fd ps (yC K (n + 1) Fm)/\mg x=some (.ref f)/\T4 K (.ref f)=true/\Binds K fd ps [.none]
theorem lN.bindsAll {st:VQ}{ps:List Str}(F:lN K x Sf st f fd)
 (h:∀(T:SM) (kV doc pm:Sl) (an:Option SM) (cdv ct:Sl) (us:List Sl),us.length=ps.length->∃k:Option (Array Sl)->Sem (List (Str×Sl)),
 Xj (Tp x Sf (cB st) (bB st) (aJ st) (.ref T) kV doc pm an cdv ct) ⟨us,[]⟩=aau (.ref T) >>= k/\k (some #[.none])=pure (ps.zip us)):Binds K fd ps []:=by obtain ⟨oc,od,T,o,n,kV,doc,pm,an,cdv,ct,osl,rfl,lk,hcd,lT,dT⟩:=F.ex;intro s us hK hl;rw [UB] at hl ⊢;obtain ⟨k,h1,h2⟩:=h T kV doc pm an cdv ct us hl;exact .of_defaults (T:=T) (items:=#[.none]) rfl (hK _ _ lT) dT h1 h2
theorem lN.bindsOne {st:VQ}{ps:List Str}(F:lN K x Sf st f fd)
 (h:∀(T:SM) (kV doc pm:Sl) (an:Option SM) (cdv ct:Sl) (us:List Sl),us.length + 1=ps.length->∃k:Option (Array Sl)->Sem (List (Str×Sl)),
 Xj (Tp x Sf (cB st) (bB st) (aJ st) (.ref T) kV doc pm an cdv ct) ⟨us,[]⟩=aau (.ref T) >>= k/\k (some #[.none])=pure (ps.zip (us++[.none]))):Binds K fd ps [.none]:=by obtain ⟨oc,od,T,o,n,kV,doc,pm,an,cdv,ct,osl,rfl,lk,hcd,lT,dT⟩:=F.ex;intro s us hK hl;obtain ⟨k,h1,h2⟩:=h T kV doc pm an cdv ct us (by simpa using hl);exact .of_defaults (T:=T) (items:=#[.none]) rfl (hK _ _ lT) dT h1 h2
end
end DL
namespace DL
open PySem PySem.Spec PyProof.Rows L2
noncomputable def sO (A:Te) (s:Sn) (y x:Sl) (b:Bool):Prop:=
 ∀(prog:SK) (w:S9) (E:Sl->Sn->Prop) (Q:Sl->Sn->Prop),Q (.bool b) s->SO (SX prog w) A (abw .Lt y x) Q E s
inductive gp (A:Te) (s:Sn) (fin:Bool):List (Sl×Sl)->Bool->Prop
 | nil:gp A s fin [] fin
 | yes {x y:Sl}{r:List (Sl×Sl)}{b:Bool}:Vq A s x y true->gp A s fin r b->gp A s fin ((x,y)::r) b
 | no {x y:Sl}{r:List (Sl×Sl)}{b:Bool}:Vq A s x y false->sO A s x y b->gp A s fin ((x,y)::r) b
section
open PySem.SeqAt
open PySem.AutoSeq1 (wpAny_loadPart')
open PySem.MeetsSeq PySem.MeetsSeq2 PySem.MeetsSeq3
theorem EA (l b:SM) (items Sg:Array Sl) (n n2:Nat) (dd dd2:Option SM) (sl sl2:Array (Option Sl)) (ans:Bool):
  Meets (Xc.«tuple.__lt__» ⟨[.ref l,.ref b],[]⟩)
   (λA R s=>s.heap.get? l=some {cls:=.type "tuple",dict:=dd,data:=.seq items n,slots:=sl}/\s.heap.get? b=some {cls:=.type "tuple",dict:=dd2,data:=.seq Sg n2,slots:=sl2}/\
    gp A.in1 s (decide (items.size < Sg.size)) (items.toList.zip Sg.toList) ans/\R (.ok (.ret (.bool ans))) s):=
 .of_wp λprog w A R s h=>by
  obtain ⟨hp,g,d,tk,os⟩:=s;obtain ⟨hl,hb,hP,h⟩:=h;have f2:=YE
  wp_walk using Wg hl,Wg hb,wpAny_forIn_list _ (λrest b s'=>b.1=none/\s'=⟨hp,g,d,tk,os⟩/\gp A.in1 ⟨hp,g,d,tk,os⟩ (decide (items.size < Sg.size)) rest ans) _
  case turn=>
   rintro ⟨y,x⟩ rest b s' ⟨hb',rfl,hq⟩;cases hq with
   | yes he hr=>
    refine Sj (he prog w _ _ ?_)
    wp_walk
    exact ⟨rfl,rfl,hr⟩
   | no he hlt=>
    refine Sj (he prog w _ _ ?_);have R0:=hlt prog w
    wp_walk using R0
    exact ⟨_,rfl,by simpa using h⟩
  case fin=>
   rintro ⟨b1,b2⟩ s' ⟨hb',rfl,hq⟩;simp only at hb';subst hb';cases hq
   wp_walk
   exact ⟨_,rfl,by simpa [aaP] using h⟩
  case h=>
   exact ⟨rfl,rfl,hP⟩
end
section
variable {K:Sk}{J:Hp}{s:Sn}
theorem I0 {A:Te}{items Sg:Array Sl}(hl:s.heap.IsTuple l items) (hb:s.heap.IsTuple b Sg) (hP:gp A.in1 s (decide (items.size < Sg.size)) (items.toList.zip Sg.toList) ans)
 (hu:A.units < VP):sO A s (.ref l) (.ref b) ans:=λprog w E Q h=>by
 obtain ⟨⟨cls,dd,data,sl⟩,ho,hc,n,hd⟩:=id hl;obtain ⟨⟨cls2,dd2,data2,sl2⟩,ho2,hc2,n2,hd2⟩:=id hb;simp only at hc hd hc2 hd2;subst hc hd hc2 hd2;exact richCompare_meets_room (op:=.Lt) ⟨_,ho,rfl⟩ ⟨_,ho2,rfl⟩ PySem.F.slot_tuple_lt PySem.F.entry_tuple_lt (PySem.F.args_tuple_lt_2 _ _) (EA l b items Sg n n2 dd dd2 sl sl2 ans)
  ⟨ho,ho2,hP,show ZN ans≠Value.notImplemented/\Q (.bool ans) s from ⟨(λx=>nomatch x),h⟩⟩ hu
mutual
noncomputable def eZ:D->D->Option Bool
 | .bl p,y=>match y with
  | .bl q=>some (!p && q)
  | _=>none
 | .int i,y=>match y with
  | .int j=>some (decide (i < j))
  | _=>none
 | .str x,y=>match y with
  | .str z=>some (decide (x.cps.toList < z.cps.toList))
  | _=>none
 | .tup xs,y=>match y with
  | .tup ys=>jq xs ys
  | _=>none
 | _,_=>none
noncomputable def jq:List D->List D->Option Bool
 | [],ys=>some (!ys.isEmpty)
 | x::xs,ys=>match ys with
  | []=>some false
  | y::ys=>if cA x y=true then jq xs ys else eZ x y
end
theorem IZ (A:Te) (h:eZ (.bl p) e=some b) (re:Rep K J e w) (rw':RelV w u'):sO A s (.bool p) u' b:=by
 unfold eZ at h;cases e with
 | bl q=>
  cases re;cases rw';simp only [U7] at h;subst h;intro prog w E Q hq;refine (lt_bool (p:=p) (q:=q) ?_:SO (SX prog w) A (UK .Lt (.bool p) (.bool q)) Q E s);cases p <;> cases q <;> exact hq
 | _=>cases h
theorem FP (A:Te) (h:eZ (.int p) e=some b) (re:Rep K J e w) (rw':RelV w u'):sO A s (.int p t) u' b:=by
 unfold eZ at h;cases e with
 | int q=>
  cases re;obtain ⟨t',rfl⟩:=rw';simp only [U7] at h;subst h;intro prog w E Q hq;exact (adk hq:SO (SX prog w) A (UK .Lt (.int p t) (.int q t')) Q E s)
 | _=>cases h
theorem FQ (A:Te) (h:eZ (.str p) e=some b) (re:Rep K J e w) (rw':RelV w u'):sO A s (.str p t) u' b:=by
 unfold eZ at h;cases e with
 | str q=>
  cases re;obtain ⟨t',rfl⟩:=rw';simp only [U7] at h;subst h;intro prog w E Q hq;exact (adl hq:SO (SX prog w) A (UK .Lt (.str p t) (.str q t')) Q E s)
 | _=>cases h
noncomputable def EM (K:Sk) (J:Hp) (s:Sn) (d:D):Prop:=∀{e:D}{v w:V}{u u':Sl}{b:Bool}(A:Te),eZ d e=some b->Rep K J d v->Rep K J e w->RelV v u->RelV w u'->A.units + dep d < VP->dep d<=1000->dep e<=1000->sO A s u u' b
noncomputable def qv (K:Sk) (J:Hp) (s:Sn) (ds:List D):Prop:=∀{es:List D}{vs ws:List V}{us us':List Sl}{b:Bool}{n1 n2:Nat}(A:Te),jq ds es=some b->aL K J ds vs->aL K J es ws->Vals vs us->Vals ws us'->A.units + deps ds < VP->deps ds<=1000->deps es<=1000->
  us.length + n2=us'.length + n1->gp A s (decide (n1 < n2)) (us.zip us') b
theorem FT (F:HF K J s) (ih:qv K J s ds):EM K J s (.tup ds):=by
 intro e v w u u' b A h rd re rv rw' hu k1 k2;unfold eZ at h;cases e with
 | tup es=>
  simp only at h;cases rd with
  | tup h1 hs=>
   cases re with
   | tup h2 hs'=>
    cases rv;cases rw';obtain ⟨Sb,r,p⟩:=F.t _ _ h1;obtain ⟨its',r',p'⟩:=F.t _ _ h2;refine I0 p p' ?_ (by unfold dep at hu;omega);have:=ih A.in1 (n1:=Sb.length) (n2:=its'.length) h hs hs' r r' (by rw [in1_units];unfold dep at hu;omega) (by unfold dep at k1;omega) (by unfold dep at k2;omega) (by omega);simpa using this
 | _=>cases h
theorem DG:qv K J s []:=by
 intro es vs ws us us' b n1 n2 A h rd re rv rw' hu k1 k2 hl;cases rd;cases rv;cases re with
 | nil=>
  cases rw';simp only [jq,abf,acv,U7] at h;subst h;have:decide (n1 < n2)=false:=decide_eq_false (by simp at hl;omega);rw [this];exact .nil
 | cons _ _=>
  cases rw';simp only [jq,List.isEmpty_cons,Z0,U7] at h;subst h;have:decide (n1 < n2)=true:=decide_eq_true (by simp at hl;omega);rw [this];exact .nil
theorem Bw (F:HF K J s) (ix:EM K J s x) (ih:qv K J s xs):qv K J s (x::xs):=by
 intro es vs ws us us' b n1 n2 A h rd re rv rw' hu k1 k2 hl;cases rd with
 | cons q1 r1=>
  cases rv with
  | cons t1 u1=>
   cases re with
   | nil=>
    cases rw';simp only [jq,U7] at h;subst h;have:decide (n1 < n2)=false:=decide_eq_false (by simp at hl;omega);rw [this];exact .nil
   | cons q2 r2=>
    cases rw' with
    | cons t2 u2=>
     unfold deps at hu k1 k2;rename_i y v' ys ws' u0 us0;have he:=qQ F A q1 q2 t1 t2 (by omega) (by omega) (by omega);simp only [jq] at h;cases z:cA x y with
     | true=>
      rw [z,if_pos rfl] at h;rw [z] at he;exact .yes he (ih A h r1 r2 u1 u2 (by omega) (by omega) (by omega) (by simp at hl;omega))
     | false=>
      rw [z,if_neg TH] at h;rw [z] at he;exact .no he (ix A h q1 q2 t1 t2 (by omega) (by omega) (by omega))
mutual
theorem ON (F:HF K J s):∀d:D,EM K J s d
 | .bl p=>λA h rd re rv rw' _ _ _=>by cases rd;cases rv;exact IZ A h re rw'
 | .int p=>λA h rd re rv rw' _ _ _=>by cases rd;obtain ⟨t,rfl⟩:=rv;exact FP A h re rw'
 | .str p=>λA h rd re rv rw' _ _ _=>by cases rd;obtain ⟨t,rfl⟩:=rv;exact FQ A h re rw'
 | .tup ds=>FT F (vQ F ds)
 | .non=>λA h _ _ _ _ _ _ _=>by unfold eZ at h;cases h
 | .lst _=>λA h _ _ _ _ _ _ _=>by unfold eZ at h;cases h
 | .emp=>λA h _ _ _ _ _ _ _=>by unfold eZ at h;cases h
 | .exn _ _ _=>λA h _ _ _ _ _ _ _=>by unfold eZ at h;cases h
 | .dct _ _=>λA h _ _ _ _ _ _ _=>by unfold eZ at h;cases h
 | .ob _ _=>λA h _ _ _ _ _ _ _=>by unfold eZ at h;cases h
theorem vQ (F:HF K J s):∀ds:List D,qv K J s ds
 | []=>DG
 | x::xs=>Bw F (ON F x) (vQ F xs)
end
end
end DL
namespace DL
open PySem PySem.Spec PyProof.Rows L2
open PySem.W (KasT kas_sort kas_asc kas_desc kas_rev kas_tail3 kas_descPart kas_count kas_place kas_bin)
noncomputable def aZ {α:Type}(q:Nat->Nat->Bool):KasT α->α
 | .ret a=>a
 | .ask i j k=>aZ q (k (q i j))
inductive fS (n:Nat){α:Type}(P:α->Prop):KasT α->Prop
 | ret {a:α}:P a->fS n P (.ret a)
 | ask {i j:Nat}{k:Bool->KasT α}:i < n->j < n->(∀b,fS n P (k b))->fS n P (.ask i j k)
theorem fS.bind {α β:Type}{P:α->Prop}{R:β->Prop}{f:α->KasT β}{t:KasT α}(h:fS n P t) (hf:∀a,P a->fS n R (f a)):fS n R (t.bind f):=by
 induction h with
 | ret p=>exact hf _ p
 | ask h1 h2 _ ih=>exact .ask h1 h2 ih
theorem fS.run {n:Nat}{α:Type}{P:α->Prop}{t:KasT α}(q:Nat->Nat->Bool) (h:fS n P t):P (aZ q t):=by
 induction h with
 | ret p=>exact p
 | ask _ _ _ ih=>exact ih _
theorem fS.wp {α:Type}{P:α->Prop}{t:KasT α}{q:Nat->Nat->Bool}{cmp:Nat->Nat->(Bool->Sn->Prop)->Sn->Prop}{G:α->Sn->Prop}(h:fS n P t)
 (hc:∀i j C,i < n->j < n->C (q i j) s->cmp i j C s) (hG:G (aZ q t) s):t.kasWp cmp G s:=by
 induction h with
 | ret p=>exact hG
 | ask h1 h2 _ ih=>exact hc _ _ _ h1 h2 (ih _ hG)
def gj (n:Nat) (p:Array Nat):Prop:=p.Perm (Sx n).toArray
theorem gj.lt {p:Array Nat}(h:gj n p) (hn:0 < n) (k:Nat):p.getD k 0 < n:=by
 by_cases hk:k < p.size
 ·have e:p.getD k 0=p[k]:=by simp [UO,hk]
  rw [e];have hm:p[k]∈p:=Array.getElem_mem hk;have:=(Yn h).mp hm;simpa using this
 ·have e:p.getD k 0=0:=by simp [UO,hk]
  rw [e];exact hn
theorem gj.rev (h:gj n p) (i j:Nat):gj n (Xy p i j):=(mirror_perm _ _ _ _).trans h
theorem gj.bub (h:gj n p) (i j:Nat):gj n (bubble p i j):=(bubble_perm _ _ _).trans h
variable {n:Nat}
theorem AZ {p:Array Nat}(hn:0 < n) (h:gj n p):∀f m,fS n (λ_:Nat=>True) (Xz p f m)
 | 0,m=>.ret trivial
 | f + 1,m=>.ask (h.lt hn _) (h.lt hn _) λb=>by cases b with
  | true=>exact .ret trivial
  | false=>exact AZ hn h f (m + 1)
theorem qG (hn:0 < n):∀f {p:Array Nat} m q,gj n p->fS n (λr:Array Nat×Nat×Nat=>gj n r.1) (Vn f p m q)
 | 0,p,m,q,h=>.ret h
 | f + 1,p,m,q,h=>.ask (h.lt hn _) (h.lt hn _) λb=>by
  cases b with
  | true=>
   simp only [if_true];by_cases hq:q > 0
   ·rw [if_pos hq];exact qG hn f _ _ (h.rev _ _)
   ·rw [if_neg hq];exact qG hn f _ _ h
  | false=>
   simp only [Tn,if_false];refine .ask (h.lt hn _) (h.lt hn _) λb=>?_;cases b with
   | true=>exact .ret h
   | false=>exact qG hn f _ _ h
theorem Cu (hn:0 < n) (h:gj n p) (m k:Nat):fS n (λr:Nat×Array Nat=>gj n r.2) (acQ m k p):=(AZ hn (h.rev 0 m) _ _).bind λa _=>.ret (h.rev _ _)
theorem zy (hn:0 < n) (h:gj n p) (m k:Nat):fS n (λr:Nat×Array Nat=>gj n r.2) (aa4 m k p):=(qG hn _ _ _ h).bind λr hr=>by
 split
 ·exact Cu hn (hr.rev _ _) _ _
 ·exact Cu hn hr _ _
theorem Ii (hn:0 < n) (h:gj n p) (k:Nat):fS n (λr:Nat×Array Nat=>gj n r.2) (aby k p):=(AZ hn h _ _).bind λm _=>by
 split
 ·exact .ret h
 ·split
  ·refine .ask (h.lt hn _) (h.lt hn _) λb=>?_;cases b with
   | true=>exact .ret h
   | false=>exact zy hn (h.rev _ _) _ _
  ·exact zy hn h _ _
theorem sW (hn:0 < n){p:Array Nat}(h:gj n p) (k:Nat):∀f l r,fS n (λ_:Nat=>True) (VH p k f l r)
 | 0,l,r=>.ret trivial
 | f + 1,l,r=>by
  unfold VH;split
  ·exact .ret trivial
  ·refine .ask (h.lt hn _) (h.lt hn _) λb=>?_;cases b with
   | true=>exact sW hn h k f _ _
   | false=>exact sW hn h k f _ _
theorem G2 (hn:0 < n):∀f {p:Array Nat} k,gj n p->fS n (gj n) (acw f p k)
 | 0,p,k,h=>.ret h
 | f + 1,p,k,h=>(sW hn h k _ _ _).bind λl _=>G2 hn f _ (h.bub _ _)
theorem iB (hn:0 < n):fS n (gj n) (Wm n):=(Ii hn (show gj n _ from adR _) n).bind λr hr=>by
 split
 ·exact G2 hn _ _ hr
 ·exact .ret hr
end DL
namespace DL
open PySem PySem.Spec PyProof.Rows L2
open PySem.W (KasT kas_sort kas_ask kas_item kat_run kat_snds KatLex kat_cons kat_yes kat_no kat_lt kat_one KatTups kat_kind Looks)
section
variable {prog:SK}{w:S9}{A:Te}{E:Sl->Sn->Prop}{s:Sn}
def nG (q:Nat->Nat->Bool) (vs:List Sl):List Sl:=(aZ q (Wm vs.length)).toList.map λi=>vs.getD i Um
theorem F6 (q:Nat->Nat->Bool){vs:List Sl}(h:0 < vs.length):(nG q vs).length=vs.length:=by unfold nG;rw [So,SV];have:=((iB h).run q:gj _ _).size_eq;simpa using this
theorem Bu {vs:List Sl}{q:Nat->Nat->Bool}{P:adS->Sn->Prop}(ho:s.heap.get? a=some (VX "list" vs.toArray n)) (h2:2<=vs.length) (h64:vs.length < 64)
 (hk:∀h' C,(∀b o,b≠a->s.heap.get? b=some o->h'.get? b=some o)->C κ {s with heap:=h'}->SO (SX prog w) A (adC vs.toArray) C (λ_ _=>False) {s with heap:=h'})
 (hc:∀h',(∀b o,b≠a->s.heap.get? b=some o->h'.get? b=some o)->∀i j C,i < vs.length->j < vs.length->C (q i j) {s with heap:=h'}->kas_ask prog w A κ vs i j C {s with heap:=h'})
 (h:P (.done (.ret .none)) {s with heap:=ach s.heap a vs (nG q vs).toArray}):SO (SX prog w) A (Xc.«list.sort» ⟨[.ref a],[]⟩) P E s:=by
 have la:a < s.heap.objs.size:=SJ ho;have sl:vs.length<=sizeLine:=by rw [T_];omega
 obtain ⟨e1,g1⟩:∃e1,(s.heap.update a (Uw λ_=>(#[]:Array Sl))).get? a=some (VX "list" #[] e1):=⟨_,(abz ho λ_=>#[])⟩;have z1:(s.heap.update a (Uw λ_=>(#[]:Array Sl))).objs.size=s.heap.objs.size:=(abg _ _ _);have g3:(((s.heap.update a (Uw λ_=>(#[]:Array Sl))).push (VX "tuple" vs.toArray 0)).push (VX "list" #[] 0)).get? a=some (VX "list" #[] e1):=(Sq _ ((Sq _ g1)));have kp:∀b o,b≠a->s.heap.get? b=some o->(((s.heap.update a (Uw λ_=>(#[]:Array Sl))).push (VX "tuple" vs.toArray 0)).push (VX "list" #[] 0)).get? b=some o:=λb o nb q=>
  Sq _ (Sq _ (by rw [Z9 _ _ _ _ nb];exact q))
 rw [abA];refine Sj ((listItems_at ho rfl ?_));refine Sj (YT ho rfl ?_ (by rw [SA];exact sl) (S5 _));refine Sj ((Z_ g1 rfl ?_));refine Sj (Z1 ?_ (show vs.length<=_ from sl));refine Sj ((YU ?_ (S5 _)));refine (Tt ?_);dsimp only;have n2:¬vs.toArray.size < 2:=by (rw [SA]);omega
 rw [if_neg n2,if_neg n2];refine Sj (TN (hk _ (λk s'=>k=κ/\s'=_) kp ⟨rfl,rfl⟩) ?_ λ_ _ x=>x.elim);rintro _ _ ⟨rfl,rfl⟩;refine Sj (TN (kat_run (E:=E) (Q:=λst' s'=>∃p:Array Nat,p.size=vs.length/\arrOf st'=p.map (kas_item (vs.toArray.zip vs.toArray))/\failedOf st'=none/\p=aZ q (Wm vs.length)/\s'=_)
  rfl h2 h64 (λp' st' s' a1 a2 a3 a4=>⟨p',a1,a2,a3,a4⟩) ((iB (by omega)).wp (q:=q) (hc _ kp) ⟨rfl,rfl⟩)) ?_ λ_ _ e=>e)
 rintro ⟨⟨⟩,st'⟩ s' ⟨p,hp,har,hf,rfl,rfl⟩;dsimp only;have ou:(arrOf st').map (·.2)=(nG q vs).toArray:=kat_snds rfl har;rw [ou];refine Sj ((Z_ g3 rfl ?_));refine Sj (YT g3 rfl ?_ (S5 _) (Tw (Zn (SA.trans (F6 q (SW Nat.zero_lt_two h2)))) (Nat.le_succ_of_le sl)));rw [hf];simp only [bne_self_eq_false,Tn,if_false];exact Sm h
end
end DL
namespace DL
open PySem PySem.Spec PyProof.Rows L2
open PySem.W (KasT kas_sort kas_ask KatLex kat_nil kat_cons kat_yes kat_no kat_lt kat_one KatTups kat_kind Looks)
section
variable {prog:SK}{w:S9}{A:Te}{E:Sl->Sn->Prop}{s:Sn}{K:Sk}{J:Hp}
theorem uK {fin ans:Bool}{Q:Bool->Sn->Prop}(h:gp A s fin zs ans) (hq:Q ans s):∀{i:Nat},(b && i == 0)=false->KatLex prog w A b fin Q zs i s:=by
 induction h with
 | nil=>intro i _;exact kat_nil hq
 | yes he _ ih=>intro i _;exact acy (he prog w _ _ (kat_yes (ih hq (by cases b <;> rfl))))
 | no he hl=>
  intro i hb;refine acy (he prog w _ _ (kat_no ?_));rw [hb];exact kat_one _ _ (hl prog w _ _ hq)
theorem IV {fin ans e:Bool}{Q:Bool->Sn->Prop}(he:Vq A s u u' e) (h1:e=true->gp A s fin zs ans)
 (h2:e=false->SO (SX prog w) A (oneLt' true u u') Q (λ_ _=>False) s) (hq:Q ans s):KatLex prog w A true fin Q ((u,u')::zs) 0 s:=by
 cases e with
 | true=>exact acy (he prog w _ _ (kat_yes (uK (h1 rfl) hq rfl)))
 | false=>exact acy (he prog w _ _ (kat_no (h2 rfl)))
inductive Hd where
 | t | i | x
noncomputable def iU:D->Option Hd
 | .tup (.tup _::_)=>some .t
 | .tup (.int _::_)=>some .i
 | .tup (.str _::_)=>some .x
 | _=>none
noncomputable def Hd.flag:Hd->Bool
 | .t=>false
 | _=>true
noncomputable def Hd.ty:Hd->Sl
 | .t=>.type "tuple"
 | .i=>.type "int"
 | .x=>.type "str"
theorem F3 {k:Hd}{C:Bool->Sn->Prop}(hd:iU (.tup (x::xs))=some k) (he:iU (.tup (y::ys))=some k) (hf:k.flag=true) (h:eZ x y=some b) (rd:Rep K J x v) (re:Rep K J y v') (rv:RelV v u) (rv':RelV v' u') (c:C b s):
  SO (SX prog w) A (oneLt' true u u') C E s:=by
 cases x with
 | int x=>
  cases hd;cases y with
  | int y=>
   cases rd;cases re;obtain ⟨tk,rfl⟩:=rv;obtain ⟨tk',rfl⟩:=rv';unfold eZ at h;simp only [U7] at h;refine oneLt_int ?_;rw [h];exact c
  | _=>cases he
 | str x=>
  cases hd;cases y with
  | str y=>
   cases rd;cases re;obtain ⟨tk,rfl⟩:=rv;obtain ⟨tk',rfl⟩:=rv';unfold eZ at h;simp only [U7] at h;refine oneLt_str ?_;rw [h];exact c
  | _=>cases he
 | tup _=>cases hd;cases hf
 | _=>cases hd
theorem IW (F:HF K J s){k:Hd}{C:Bool->Sn->Prop}(hd:iU d=some k) (he:iU e=some k) (h:eZ d e=some b) (rd:Rep K J d v) (re:Rep K J e v') (rv:RelV v u) (rv':RelV v' u')
 (hu:A.units + dep d < VP) (k1:dep d<=1000) (k2:dep e<=1000) (c:C b s):SO (SX prog w) A (keyLt' (tuples' k.flag) u u') C E s:=by
 cases d with
 | tup ds=>
  cases e with
  | tup es=>
   unfold eZ at h;simp only at h;cases rd with
   | tup h1 hs=>
    cases re with
    | tup h2 hs'=>
     cases rv;cases rv';obtain ⟨Sb,r,p⟩:=F.t _ _ h1;obtain ⟨its',r',p'⟩:=F.t _ _ h2;obtain ⟨o,ho,hc,m,dm⟩:=id p;obtain ⟨o',ho',hc',m',dm'⟩:=id p';refine kat_lt ho dm ho' dm' ?_;simp only [SA];cases hf:k.flag with
     | false=>
      exact uK (vQ F ds A (n1:=Sb.length) (n2:=its'.length) h hs hs' r r' (by unfold dep at hu;omega) (by unfold dep at k1;omega) (by unfold dep at k2;omega) (by omega)) c rfl
     | true=>
      cases hs with
      | nil=>cases hd
      | cons q1 t1=>
       cases hs' with
       | nil=>cases he
       | cons q2 t2=>
        cases r with
        | cons a1 b1=>
         cases r' with
         | cons a2 b2=>
          unfold dep deps at hu k1 k2;rw [aaw];unfold jq at h;simp only at h;refine IV (ans:=b) (qQ F A q1 q2 a1 a2 (by omega) (by omega) (by omega)) (λz=>?_) (λz=>?_) c
          ·rw [z,if_pos rfl] at h;exact vQ F _ A h t1 t2 b1 b2 (by omega) (by omega) (by omega) (by simp;omega)
          ·rw [z,if_neg TH] at h;exact F3 hd he hf h q1 q2 a1 a2 c
  | _=>cases he
 | _=>cases hd
noncomputable def gX (k:Hd):List D->Bool
 | []=>true
 | d::r=>(match iU d,k with
  | some .t,.t=>true
  | some .i,.i=>true
  | some .x,.x=>true
  | _,_=>false) && gX k r
theorem nh {k:Hd}:∀{ds:List D},gX k ds=true->∀d∈ds,iU d=some k
 | [],_,_,hm=>nomatch hm
 | x::r,h,d,hm=>by
  unfold gX at h;rw [SI] at h;rcases SN.mp hm with rfl | hm
  ·cases q:iU d with
   | none=>rw [q] at h;cases h.1
   | some k'=>rw [q] at h;cases k' <;> cases k <;> first | rfl | cases h.1
  ·exact nh h.2 d hm
theorem Dh (F:HF K J s){k:Hd}(hd:iU d=some k) (rd:Rep K J d v) (rv:RelV v u):∃a o xs n f,u=.ref a/\s.heap.get? a=some o/\o.cls=.type "tuple"/\o.data=.seq xs n/\xs[0]?=some f/\Looks (SX prog w) s.heap (typeOf f) k.ty:=by
 cases d with
 | tup ds=>
  cases rd with
  | tup h1 hs=>
   cases rv;obtain ⟨Sb,r,p⟩:=F.t _ _ h1;obtain ⟨o,ho,hc,m,dm⟩:=id p;cases hs with
   | nil=>cases hd
   | cons q1 t1=>
    cases r with
    | cons a1 b1=>
     refine ⟨_,o,_,m,_,rfl,ho,hc,dm,rfl,?_⟩;rename_i x v' ds' vs' u us;cases x with
     | tup _=>
      cases hd;cases q1 with
      | tup h2 _=>
       cases a1;obtain ⟨its2,_,p2⟩:=F.t _ _ h2;obtain ⟨o2,ho2,hc2,_,_⟩:=id p2;have:=(Looks.ld (M:=SX prog w) (part:=none) ho2).andThen (f:=λo=>pure o.cls) (b:=o2.cls) .now;rw [hc2] at this;exact this
     | int _=>
      cases hd;cases q1;obtain ⟨tk,rfl⟩:=a1;exact .now
     | str _=>
      cases hd;cases q1;obtain ⟨tk,rfl⟩:=a1;exact .now
     | _=>cases hd
 | _=>cases hd
theorem rC (F:HF K J s){k:Hd}:∀{ds:List D}{vs:List V}{us:List Sl},gX k ds=true->aL K J ds vs->Vals vs us->∃fs,KatTups s.heap us fs/\fs.length=us.length/\∀v∈fs,Looks (SX prog w) s.heap (typeOf v) k.ty
 | _,_,_,_,.nil,.nil=>⟨[],trivial,rfl,λ_ h=>nomatch h⟩
 | d::ds,_,_,h,.cons q rs,.cons a b=>by
  have hd:=nh h d (Sv ..);unfold gX at h;rw [SI] at h;obtain ⟨fs,h1,h2,h3⟩:=rC F h.2 rs b;obtain ⟨p,o,xs,n,f,rfl,e1,e2,e3,e4,e5⟩:=Dh (prog:=prog) (w:=w) F hd q a;refine ⟨f::fs,⟨⟨p,o,xs,n,rfl,e1,e2,e3,e4⟩,h1⟩,by simp [h2],λv hv=>?_⟩;rcases SN.mp hv with rfl | hv
  ·exact e5
  ·exact h3 v hv
theorem Iz (k:Hd):(k.ty != Vy "tuple")=k.flag:=by cases k <;> decide
theorem Dr (F:HF K J s){k:Hd}{us:List Sl}(h:gX k ds=true) (rs:aL K J ds vs) (rv:Vals vs us) (hl:0 < us.length){C:SortKind->Sn->Prop}(c:C (tuples' k.flag) s):SO (SX prog w) A (adC us.toArray) C E s:=by obtain ⟨fs,h1,h2,h3⟩:=rC (prog:=prog) (w:=w) F h rs rv;refine kat_kind h1 (by omega) h3 (by cases k <;> decide) ?_;rw [Iz];exact c
end
end DL
namespace DL
open PySem PySem.Spec PyProof.Rows L2
open PySem.W (KasT kas_sort kas_ask)
section
variable {prog:SK}{w:S9}{A:Te}{E:Sl->Sn->Prop}{s:Sn}
theorem Bt {vs:List Sl}{P:adS->Sn->Prop}(ho:s.heap.get? a=some (VX "list" vs.toArray n)) (h2:vs.length < 2)
 (h:P (.done (.ret .none)) {s with heap:=ach s.heap a vs vs.toArray}):SO (SX prog w) A (Xc.«list.sort» ⟨[.ref a],[]⟩) P E s:=by
 have sl:vs.length<=sizeLine:=by rw [T_];omega
 obtain ⟨e1,g1⟩:∃e1,(s.heap.update a (Uw λ_=>(#[]:Array Sl))).get? a=some (VX "list" #[] e1):=⟨_,(abz ho λ_=>#[])⟩;have g3:(((s.heap.update a (Uw λ_=>(#[]:Array Sl))).push (VX "tuple" vs.toArray 0)).push (VX "list" #[] 0)).get? a=some (VX "list" #[] e1):=(Sq _ ((Sq _ g1)));rw [abA];refine Sj ((listItems_at ho rfl ?_));refine Sj (YT ho rfl ?_ (by rw [SA];exact sl) (S5 _));refine Sj ((Z_ g1 rfl ?_));refine Sj (Z1 ?_ (show vs.length<=_ from sl));refine Sj ((YU ?_ (S5 _)));refine (Tt ?_);dsimp only;have n2:vs.toArray.size < 2:=by (rw [SA]);omega
 rw [if_pos n2,if_pos n2];refine (Sj (Sm ?_));rw [StateT.run_pure];refine (Sj (Sm ?_));dsimp only;have ou:(arrOf (SortSt.mk' general' (vs.toArray.zip vs.toArray) #[] 7 none)).map (·.2)=vs.toArray:=by
  show (vs.toArray.zip vs.toArray).map (·.2)=vs.toArray
  match vs,h2 with
  | [],_=>simp
  | [_],_=>simp
 rw [ou];refine Sj ((Z_ g3 rfl ?_));refine Sj (YT g3 rfl ?_ (S5 _) (by rw [SA];omega));simp only [bne_self_eq_false,Tn,if_false];exact Sm h
abbrev Kp (h h':Uo):Prop:=∀b o,h.get? b=some o->h'.get? b=some o
noncomputable def vX (prog:SK) (w:S9) (A:Te) (s:Sn) (vs:List Sl) (q:Nat->Nat->Bool):Prop:=2<=vs.length->∃κ,∀h' tk,Kp s.heap h'->
 (∀C:SortKind->Sn->Prop,C κ {s with heap:=h',toks:=tk}->SO (SX prog w) A (adC vs.toArray) C (λ_ _=>False) {s with heap:=h',toks:=tk})/\
 ∀i j (C:Bool->Sn->Prop),i < vs.length->j < vs.length->C (q i j) {s with heap:=h',toks:=tk}->kas_ask prog w A κ vs i j C {s with heap:=h',toks:=tk}
noncomputable def Coll (prog:SK) (w:S9) (A:Te) (s:Sn) (x:Sl) (vs:List Sl):Prop:=∀(E:Sl->Sn->Prop) (C:List Sl->Sn->Prop),(∀h1 tk,Kp s.heap h1->s.heap.objs.size<=h1.objs.size->C vs {s with heap:=h1,toks:=tk})->SO (SX prog w) A (collect x) C E s
theorem zD {o:Obj}{vs:List Sl}(hT:T="list"\/T="tuple") (ho:s.heap.get? a=some o) (hc:o.cls=.type T) (hd:o.data=.seq vs.toArray n) (sl:vs.length<=sizeLine):Coll prog w A s (.ref a) vs:=by
 intro E C h;generalize hh:(s.heap.push (VX "list" #[] 0)).update s.heap.objs.size (Uw (·++vs.toArray))=h1;have hS:(s.heap.push (VX "list" #[] 0)).get? s.heap.objs.size=some (VX "list" #[] 0):=Sz _ rfl;have QX:=Ue (Uw (·++vs.toArray)) hS rfl;rw [hh] at QX;have k1:Kp s.heap h1:=λb o e=>by rw [<-hh,Z9 _ _ _ _ (SQ (SJ e))];exact Sq _ e
 have z1:s.heap.objs.size<=h1.objs.size:=by rw [<-hh,abg,size_push'];exact U5 _
 have fin:=h h1 s.toks k1 z1;unfold collect;refine Sj (Ys (Uj Xp ?_));rw [TM Xq _];show SO _ A.in1 (newList [] >>= λl=>again (.builtin "list.__iadd__" ⟨[l,.ref a],[]⟩)) _ _ s;refine Sj (S_ ?_);refine Sm ⟨UT VY _,Uj YH ?_⟩;rw [TM VY _];have fin':SO (SX prog w) A (load s.heap.objs.size >>= λo=>match o.data with
   | .seq xs _=>pure xs.toList
   | _=>unsupported "internal:collect") C E {s with heap:=h1}:=by
  refine Sj (aaD QX (Sm ?_));have e:((#[]:Array Sl)++vs.toArray).toList=vs:=by simp
  show C ((#[]:Array Sl)++vs.toArray).toList _;rw [e];exact fin
 refine TN (wpAny_extend_seq (hsz:=by rw [SA];exact sl) (A:=A) (R:=λr s'=>r=.ok (.ret (.ref s.heap.objs.size))/\s'={s with heap:=h1})
  (s:={s with heap:=s.heap.push (VX "list" #[] 0)}) _ a _ 0 hT hS (Sq _ ho) hc hd ⟨rfl,by rw [<-hh]⟩) (λf s' q=>?_) (λe s' q=>absurd q.1 (by simp))
 cases f with
 | done f=>
  obtain ⟨e,rfl⟩:=q;cases e;exact fin'
 | again c'=>exact ⟨q.1,VG q.2 λr s'' hr=>by obtain ⟨rfl,rfl⟩:=hr;exact fin'⟩
theorem JX {q:Nat->Nat->Bool}{Q:Sl->Sn->Prop}{vs:List Sl}(Qy:Coll prog w A.in1 s x vs) (h64:vs.length < 64) (ha:vX prog w A.in1.in1 s vs q)
 (h:∀h' tk l n,Kp s.heap h'->s.heap.objs.size<=l->h'.get? l=some (VX "list" (if vs.length < 2 then vs else nG q vs).toArray n)->Q (.ref l) {s with heap:=h',toks:=tk}):SO (SX prog w) A (call (.builtin "sorted") [x]) Q E s:=by
 have sl:vs.length<=sizeLine:=by rw [T_];omega
 refine (Yt kind_sorted plain_sorted entry_sorted (args_sorted1 _) ?_);unfold Xc.«sorted»;refine Sj (m:=checkCount "sorted" 1 1 _) ((Sm ?_));refine Sj (Qy _ _ λh1 tk1 k1 le1=>?_);refine Sj (YU ?_ sl);have gL:(h1.push (VX "list" vs.toArray 0)).get? h1.objs.size=some (VX "list" vs.toArray 0):=Sz _ rfl;have kp:∀b o,s.heap.get? b=some o->b≠h1.objs.size/\(h1.push (VX "list" vs.toArray 0)).get? b=some o:=λb o e=>by have e1:=k1 b o e;exact ⟨SQ (SJ e1),Sq _ e1⟩
 have kend:∀out,Kp s.heap (ach (h1.push (VX "list" vs.toArray 0)) h1.objs.size vs out):=λout b o e=>by obtain ⟨g1,g2'⟩:=kp b o e;rw [ab1 g1 (SJ g2')];exact g2'
 dsimp only;by_cases h2:vs.length < 2
 ·refine Sj (Tt (TR Z2 ⟨_,gL,rfl⟩ ZD (Bt gL h2 ⟨_,rfl,?_⟩) (Z3 _)));obtain ⟨n,hn'⟩:=aay (out:=vs.toArray) gL;rw [if_pos h2] at h;exact Sm ⟨_,rfl,h _ tk1 _ n (kend _) le1 hn'⟩
 ·obtain ⟨κ,ask⟩:=ha (by omega);refine Sj (Tt (TR Z2 ⟨_,gL,rfl⟩ ZD (Bu (κ:=κ) (q:=q) gL (by omega) h64 (λh' C k c=>?_) (λh' k i j C hi hj c=>?_) ⟨_,rfl,?_⟩) (Z3 _)))
  ·exact (ask h' tk1 λb o e=>k b o (kp b o e).1 (kp b o e).2).1 C c
  ·exact (ask h' tk1 λb o e=>k b o (kp b o e).1 (kp b o e).2).2 i j C hi hj c
  ·obtain ⟨n,hn'⟩:=aay (out:=(nG q vs).toArray) gL;rw [if_neg h2] at h;exact Sm ⟨_,rfl,h _ tk1 _ n (kend _) le1 hn'⟩
end
def dU (ds:List D) (i:Nat):D:=ds.getD i .non
def ltB (ds:List D) (i j:Nat):Bool:=(eZ (dU ds i) (dU ds j)).getD false
def bM (ds:List D):List D:=if ds.length < 2 then ds else (aZ (ltB ds) (Wm ds.length)).toList.map (dU ds)
def xg (ds:List D):Bool:=ds.all λx=>ds.all λy=>(eZ x y).isSome
noncomputable def F1 (ds:List D):Bool:=match ds with
 | []=>false
 | d::_=>match iU d with
  | some k=>gX k ds
  | none=>false
def uO (ds:List D):Bool:=decide (ds.length < 2) || (decide (ds.length < 64) && (decide (deps ds<=60) && (F1 ds && xg ds)))
section
variable {K:Sk}{J:Hp}
theorem j5 {ds:List D}{vs:List V}(h:aL K J ds vs):∀{i:Nat},i < ds.length->Rep K J (dU ds i) (vs.getD i V.non):=by
 induction ds generalizing vs with
 | nil=>intro i hi;exact absurd hi (UW _)
 | cons x r ih=>
  intro i hi;cases h with
  | cons q rs=>
   cases i with
   | zero=>simpa [dU] using q
   | succ i=>simpa [dU] using ih rs (i:=i) (by simpa using hi)
theorem i7 {vs:List V}{us:List Sl}(h:Vals vs us):∀{i:Nat},i < vs.length->RelV (vs.getD i V.non) (us.getD i Um):=by
 induction vs generalizing us with
 | nil=>intro i hi;exact absurd hi (UW _)
 | cons x r ih=>
  intro i hi;cases h with
  | cons q rs=>
   cases i with
   | zero=>simpa using q
   | succ i=>simpa using ih rs (i:=i) (by simpa using hi)
theorem As {ds:List D}{vs:List V}(h:aL K J ds vs):∀ix:List Nat,(∀i∈ix,i < ds.length)->aL K J (ix.map (dU ds)) (ix.map λi=>vs.getD i V.non)
 | [],_=>.nil
 | i::r,hi=>.cons (j5 h (hi i (Sv ..))) (As h r λj hj=>hi j (Ss _ hj))
theorem AE {vs:List V}{us:List Sl}(h:Vals vs us):∀ix:List Nat,(∀i∈ix,i < vs.length)->Vals (ix.map λi=>vs.getD i V.non) (ix.map λi=>us.getD i Um)
 | [],_=>.nil
 | i::r,hi=>.cons (i7 h (hi i (Sv ..))) (AE h r λj hj=>hi j (Ss _ hj))
theorem Iu {ds:List D}:∀{i:Nat},i < ds.length->dep (dU ds i)<=deps ds:=by
 induction ds with
 | nil=>intro i hi;exact absurd hi (UW _)
 | cons x r ih=>
  intro i hi;unfold deps;cases i with
  | zero=>show dep x<=_;omega
  | succ i=>
   have:=ih (i:=i) (by simpa using hi);have e:dU (x::r) (i + 1)=dU r i:=rfl;rw [e];omega
theorem ic {ds:List D}(hi:i < ds.length):dU ds i∈ds:=by
 have e:dU ds i=ds[i]:=by simp [dU,hi]
 rw [e];exact UH hi
theorem HF.keep {s s':Sn}(F:HF K J s) (k:∀b o,s.heap.get? b=some o->s'.heap.get? b=some o):HF K J s':=
 ⟨λa xs h=>let ⟨Sb,r,o,ho,p⟩:=F.t a xs h;⟨Sb,r,o,k _ _ ho,p⟩,λa xs h=>let ⟨Sb,r,o,ho,p⟩:=F.l a xs h;⟨Sb,r,o,k _ _ ho,p⟩,λa h=>let ⟨o,ho,p⟩:=F.e a h;⟨o,k _ _ ho,p⟩,λa ep Sh h=>let ⟨o,es,ho,p⟩:=F.d a ep Sh h;⟨o,es,k _ _ ho,p⟩⟩
theorem KS {A:Te}(F:HF K J s) (rs:aL K J ds vs) (rv:Vals vs Sb) (hk:∀d∈ds,iU d=some k/\dep d<=60) (hk':gX k ds=true) (hc:∀x∈ds,∀y∈ds,(eZ x y).isSome=true) (hu:A.units + 62 < VP):vX prog w A s Sb (ltB ds):=by
 intro h2;have l1:vs.length=Sb.length:=rv.length;have l2:ds.length=vs.length:=rs.length;refine ⟨tuples' k.flag,λh' tk kp=>⟨λC cc=>Dr (F.keep kp) hk' rs rv (by omega) cc,λi j C hi hj cc=>?_⟩⟩;have hi':i < ds.length:=by omega
 have hj':j < ds.length:=by omega
 obtain ⟨a1,d1⟩:=hk _ (ic hi');obtain ⟨a2,d2⟩:=hk _ (ic hj');have hb:eZ (dU ds i) (dU ds j)=some (ltB ds i j):=by
  have:=hc _ (ic hi') _ (ic hj');unfold ltB;cases z:eZ (dU ds i) (dU ds j) with
  | none=>rw [z] at this;cases this
  | some b=>rfl
 exact IW (F.keep kp) a1 a2 hb (j5 rs hi') (j5 rs hj') (i7 rv (by omega)) (i7 rv (by omega)) (by omega) (by omega) (by omega) cc
end
noncomputable def isInt:D->Bool
 | .int _=>true
 | _=>false
def yc (ds:List D):Bool:=decide (ds.length < 64) && ds.all isInt
theorem zU {K:Sk}{J:Hp}:∀{ds:List D}{vs:List V}{us:List Sl},ds.all isInt=true->aL K J ds vs->Vals vs us->∃ns,abv us ns
 | _,_,_,_,.nil,.nil=>⟨[],.nil⟩
 | d::ds,_,_,h,.cons r rs,.cons v vs=>by
  (rw [WS,SI] at h)
  obtain ⟨ns,hn⟩:=zU h.2 rs vs;cases d with
  | int i=>
   cases r;obtain ⟨t,rfl⟩:=v;exact ⟨i::ns,.cons i t hn⟩
  | _=>cases h.1
theorem KR {K:Sk}{J:Hp}{prog:SK}{w:S9}{A:Te}{s:Sn}{ds:List D}{vs:List V}{Sb:List Sl}(rs:aL K J ds vs) (rv:Vals vs Sb) (hi:ds.all isInt=true):vX prog w A s Sb (ltB ds):=by
 intro h2;have l1:vs.length=Sb.length:=rv.length;have l2:ds.length=vs.length:=rs.length;obtain ⟨ns,hI⟩:=zU hi rs rv;refine ⟨oneType',λh' tk kp=>⟨λC cc=>?_,λi j C hi' hj' cc=>?_⟩⟩
 ·clear l1 rv
  match Sb,hI,h2 with
  | v1::v2::r,hI,_=>rw [keyKind_ints hI];exact Sm cc
 ·have ai:=TU.mp hi _ (ic (i:=i) (by omega));have aj:=TU.mp hi _ (ic (i:=j) (by omega));have r1:=j5 rs (i:=i) (by omega);have r2:=j5 rs (i:=j) (by omega);have v1:=i7 rv (i:=i) (by omega);have v2:=i7 rv (i:=j) (by omega);show SO _ _ (keyLt' oneType' (Sb.getD i Um) (Sb.getD j Um)) _ _ _;rw [keyLt'_oneType];have e:ltB ds i j=(eZ (dU ds i) (dU ds j)).getD false:=rfl;rw [e] at cc;generalize dU ds i=di at ai r1 cc;generalize dU ds j=dj at aj r2 cc;generalize vs.getD i V.non=wi at r1 v1;generalize vs.getD j V.non=wj at r2 v2;cases di with
  | int a=>
   cases dj with
   | int b=>
    cases r1;cases r2;obtain ⟨t1,q1⟩:=v1;obtain ⟨t2,q2⟩:=v2;rw [q1,q2];refine oneLt_int ?_;unfold eZ at cc;exact cc
   | _=>cases aj
  | _=>cases ai
section
variable {X:Cx}{c:C}{e:Tv}{es:List Tv}{pos:Pos}
theorem uY {H:Hp}{Q:VK}{E:Sl->Sn->Prop}{vs:List V}{ds:List D}(I:Inv X Sa σ H s) (Qy:Coll X.prog X.w X.A.in1 s x Sb) (rv:Vals vs Sb) (l2:ds.length=vs.length) (l64:ds.length < 64)
 (ha:vX X.prog X.w X.A.in1.in1 s Sb (ltB ds)) (q:∀l vs',H l=none->(∀J,aL X.K J ds vs->aL X.K J (bM ds) vs')->Q (.ref l) (upd H l (.lst vs'))):SO (SX X.prog X.w) X.A (call (.builtin "sorted") [x]) (EP X Sa σ Q) E s:=by
 have l1:vs.length=Sb.length:=rv.length;refine JX Qy (by omega) ha λh' tk l n kp hl hg=>?_;have fin:∀(ot:List Sl) (vs':List V),vs'.length=vs.length->Vals vs' ot->(∀J,aL X.K J ds vs->aL X.K J (bM ds) vs')->h'.get? l=some (VX "list" ot.toArray n)->EP X Sa σ Q (.ref l) {s with heap:=h',toks:=tk}:=λot vs' lv rv' rr hg=>
  ⟨.ref l,_,I.laid (t':=tk) kp hl (show bW X.prog X.w _ _ _ (.lst vs') from ⟨by rw [lv,T_];omega,ot,n,rv',by simpa [VX] using hg⟩),rfl,q l vs' (I.hok.fresh hl) rr⟩
 by_cases h2:Sb.length < 2
 ·rw [if_pos h2] at hg;refine fin Sb vs rfl rv (λJ rj=>?_) hg;unfold bM;rw [if_pos (by omega)];exact rj
 ·rw [if_neg h2] at hg;have ib:∀i∈(aZ (ltB ds) (Wm ds.length)).toList,i < ds.length:=λi hi=>by have:=((iB (n:=ds.length) (by omega)).run (ltB ds):gj _ _);have:=(Yn this).mp (ZQ.mp hi);simpa using this
  have e1:nG (ltB ds) Sb=(aZ (ltB ds) (Wm ds.length)).toList.map λi=>Sb.getD i Um:=by unfold nG;rw [l2,l1]
  rw [e1] at hg;refine fin _ _ ?_ (AE rv _ λi hi=>l2▸ib i hi) (λJ rj=>?_) hg
  ·rw [So,<-l2];have:=((iB (n:=ds.length) (by omega)).run (ltB ds):gj _ _).size_eq;simpa using this
  ·unfold bM;rw [if_neg (by omega)];exact As rj _ ib
theorem Fx {H:Hp}(I:Inv X Sa σ H s) (h:cQ X.K H p vs\/d8 X.K H p vs):∃Sb,Vals vs Sb/\Coll X.prog X.w A s (.ref p) Sb:=by
 rcases h with h | h
 ·obtain ⟨Sb,r,⟨o,n,ho,hc,_,hd⟩,hz⟩:=I.list h;exact ⟨Sb,r,zD (.inl rfl) ho hc hd (r.length▸hz)⟩
 ·obtain ⟨Sb,r,pt,hz⟩:=I.tuple h;obtain ⟨o,ho,hc,n,hd⟩:=pt;exact ⟨Sb,r,zD (.inr rfl) ho hc hd (r.length▸hz)⟩
theorem F2 {H:Hp}{ds:List D}(hu:X.A.units + 64 < VP) (I:Inv X Sa σ H s) (rs:aL X.K H ds vs) (rv:Vals vs Sb) (ok:uO ds=true):ds.length < 64/\vX X.prog X.w X.A.in1.in1 s Sb (ltB ds):=by
 have l1:vs.length=Sb.length:=rv.length;have l2:ds.length=vs.length:=rs.length;by_cases h2:ds.length < 2
 ·exact ⟨by omega,λh=>absurd h (by omega)⟩
 ·unfold uO at ok;rw [decide_eq_false h2,YV,SI,SI,SI] at ok;obtain ⟨o1,o2,o3,o4⟩:=ok;have o2:=of_decide_eq_true o2;obtain ⟨k,hk⟩:∃k,gX k ds=true:=by
   unfold F1 at o3;cases ds with
   | nil=>cases o3
   | cons d r=>
    simp only at o3;cases z:iU d with
    | none=>rw [z] at o3;cases o3
    | some k=>rw [z] at o3;exact ⟨k,o3⟩
  refine ⟨of_decide_eq_true o1,KS (jE I) rs rv (k:=k) (λd hd=>⟨nh hk d hd,?_⟩) hk (λx hx y hy=>TU.mp (TU.mp o4 _ hx) _ hy) hu⟩;obtain ⟨i,hi,rfl⟩:=Vj.mp hd;have:=Iu hi;have e:dU ds i=ds[i]:=by simp [dU,hi]
  rw [e] at this;omega
theorem wX (hu:X.A.units + 64 < VP):eK X (.builtin "sorted") (λxs H Q=>∃p vs ds,xs=[.ref p]/\(cQ X.K H p vs\/d8 X.K H p vs)/\aL X.K H ds vs/\(uO ds=true\/yc ds=true)/\∀l vs',H l=none->(∀J,aL X.K J ds vs->aL X.K J (bM ds) vs')->Q (.ref l) (upd H l (.lst vs'))):=by
 intro Sa s σ H xs us Q I r h;obtain ⟨p,vs,ds,rfl,hq,rs,ok,q⟩:=h;obtain ⟨u,rfl,rx⟩:=vals1 r;cases rx;obtain ⟨Sb,rv,col⟩:=Fx I hq;rcases ok with ok | ok
 ·obtain ⟨l64,ha⟩:=F2 hu I rs rv ok;exact uY I col rv rs.length l64 ha q
 ·unfold yc at ok;rw [SI] at ok;exact uY I col rv rs.length (of_decide_eq_true ok.1) (KR rs rv ok.2) q
end
end DL
namespace DL
open PySem PySem.Spec PyProof.Rows L2
section
variable {X:Cx}{c:C}{e:Tv}{g:G R}{pos:Pos}
noncomputable def jW (i:Nat) (f:R->R->M R) (g:G R):G O:=λenv=>match env[i]? with
 | some (some (.d d))=>g env >>= λy=>f (.d d) y >>= λz=>toS z >>= λx=>.ok (.nx (env.set i (some x)))
 | _=>.bad
theorem Jp (i:Nat){x:Str}{pos':Pos}{op:adv}{r:R2}{f:R->R->M R}(hN:X.N.Nodup) (ho:dJ X (Zk op) r) (hb:BD c r f) (h:PD X c e g) (hi:autoParam (X.N[i]?=some x) zA._auto_1) (hx:Loc X.env.scope x:=by first | exact V5 rfl | exact Vh rfl)
  (hf:X.fn x=true\/X.env.scope.names.lookup x=some .local:=by first | exact .inl rfl | exact .inr rfl):KA X c (.AugAssign (.Name x pos') op e pos) (jW i f g):=
 f7 (Mc hN hi hx h (λSa s σ H x y v u Q I rx ry q=>Ox ho I rx ry q) hf) λE σ H ⟨J,env,sr,w⟩=>by
 unfold jW at w;split at w
 ·rename_i d hd;obtain ⟨v,h1,h2⟩:=sr.at_ i _ hd;refine ⟨v,h1,J,env,sr,aC (aG w) λy wr v' J1 H1 e1 r1=>?_⟩;have sr1:=sr.ext e1;refine hb H H J1 H1 (.d d) y v v' _ sr1.hp (Rep.mono e1.j h2) r1 (aC (aG wr) λz wz w' J2 H2 e2 r2=>?_);obtain ⟨x,q,wz⟩:=uq wz;exact wz (σ.set i (some w')) J2 H2 (e1.j.trans e2.j) (sr1.set e2 r2 q)
 ·exact w.elim
end
end DL
namespace DL
open PySem PySem.Spec PyProof.Rows L2 DX
section
variable {M:abS}{A:Te}{E:Sl->Sn->Prop}{s:Sn}
theorem BE {R_:Wa}{globals:SM}{closure:List (Str×SM)}{Sf:Str}{func:Option SM}{code:Sl}{outer:Env}{builtins:SM}{Q:Env->Sn->Prop}
  (hQ:Q (newEnv R_ s.heap.objs.size globals (T6 (s.heap.objs.size + 1) R_.names closure) Sf func code (some outer) builtins) {s with heap:=abB (s.heap.push {cls:=.type "dict",data:=.dict #[]}) R_.names}):
  SO M A (ab2 R_ globals closure [] Sf func code (some outer) builtins) Q E s:=by simp only [ab2,aaz,if_true];refine Sj (abC ?_);refine Sj (wpAny_layCells _ (λname kind cells=>by cases hkc:kind == WR <;> simp [hkc]) _ _ _ _ ?_);rw [show ({s with heap:=s.heap.push {cls:=.type "dict",data:=.dict #[]}}:Sn).heap.objs.size=s.heap.objs.size + 1 from Us ..];simp only [List.forIn_nil];exact Sj (Sm (Sm hQ))
theorem iO:∀(names:List (Str×Vm)) (n:Nat) (acc:List (Str×SM)) (x:Str),(∀y∈names,y.2=.cell->y.1≠x)->(T6 n names acc).lookup x=acc.lookup x
 | [],_,_,_,_=>by unfold T6;rfl
 | (y,k)::r,n,acc,x,h=>by
  have hr:∀z∈r,z.2=.cell->z.1≠x:=λz hz=>h z (Ss _ hz);unfold T6;split
  ·rename_i hk;rw [iO r _ _ x hr];have hy:y≠x:=h (y,k) (Sv ..) (by simpa using hk);have:(x == y)=false:=by
    cases q:x == y with
    | false=>rfl
    | true=>exact absurd (eq_of_beq q).symm hy
   rw [Uu,this]
  ·exact iO r _ _ x hr
end
theorem vv:∀(names:List (Str×Vm)) (n:Nat) (acc:List (Str×SM)),T6 n names acc=T6 n names []++acc:=by
 intro names
 suffices ∀(n:Nat) (a b:List (Str×SM)),T6 n names (a++b)=T6 n names a++b by intro n acc;exact this n [] acc
 induction names with
 | nil=>intro n a b;unfold T6;rfl
 | cons p r ih=>
  obtain ⟨y,k⟩:=p;intro n a b;unfold T6;split
  ·exact ih _ (_::a) b
  ·exact ih _ a b
def dz (names:List (Str×Vm)) (x:Str):Bool:=names.any λy=>y.1 == x && y.2 == .cell
theorem gm:∀(names:List (Str×Vm)) (n:Nat) (acc:List (Str×SM)) (x:Str),((acc.lookup x).isSome=true\/dz names x=true)->((T6 n names acc).lookup x).isSome=true
 | [],_,_,_,h=>by
  unfold T6;rcases h with h | h
  ·exact h
  ·cases h
 | (y,k)::r,n,acc,x,h=>by
  unfold T6;have e:dz ((y,k)::r) x=((y == x && k == .cell) || dz r x):=rfl;rw [e] at h;split
  ·rename_i hk;refine gm r _ _ x ?_;by_cases hx:x=y
   ·left;subst hx;rw [Uu];simp
   ·rcases h with h | h
    ·left;rw [Uu];cases q:x == y with
     | true=>exact absurd (eq_of_beq q) hx
     | false=>exact h
    ·rw [UQ,SI] at h;rcases h with h | h
     ·exact absurd (eq_of_beq h.1).symm hx
     ·exact .inr h
  ·rename_i hk;refine gm r _ _ x ?_;rcases h with h | h
   ·exact .inl h
   ·rw [UQ,SI] at h;rcases h with h | h
    ·exact absurd h.2 hk
    ·exact .inr h
theorem fZ {cl:List (Str×SM)}(h:(T6 n names cl).lookup x=some d):
  (T6 n names []).lookup x=some d\/(dz names x=false/\cl.lookup x=some d):=by
 rw [vv,List.lookup_append] at h;cases q:(T6 n names []).lookup x with
 | some e=>rw [q] at h;left;simpa using h
 | none=>
  rw [q] at h;right;refine ⟨?_,by simpa using h⟩;cases z:dz names x with
  | false=>rfl
  | true=>
   have:=gm names n [] x (.inr z);rw [q] at this;cases this
theorem mW {R_:Wa}(h:(relabel R_ env).names.lookup x=some .cell\/(relabel R_ env).names.lookup x=some .free):(x,Uk)∈R_.names\/dz R_.names x=true:=by
 unfold relabel at h;revert h;generalize R_.names=names
 induction names with
 | nil=>intro h;simp at h
 | cons p r ih=>
  obtain ⟨n,k⟩:=p;intro h;rw [S4] at h;simp only at h;by_cases hx:x=n
  ·subst hx;cases k with
   | free=>exact .inl (Sv ..)
   | cell=>right;unfold dz;simp
   | _=>simp [Uu] at h
  ·have e:(x == n)=false:=by simpa using hx
   have h':(r.map λ(n,k)=>if (k == Uk && env.scope.kind == .function && env.kindOf n == some .cell) then (n,WR) else (n,k)).lookup x=some .cell\/(r.map λ(n,k)=>if (k == Uk && env.scope.kind == .function && env.kindOf n == some .cell) then (n,WR) else (n,k)).lookup x=some .free:=by split at h <;> simpa [Uu,e] using h
   rcases ih h' with z | z
   ·exact .inl (Ss _ z)
   ·right;unfold dz at z ⊢;rw [UR,z,Bool.or_true]
section
variable {X:Cx}
noncomputable def fh (X:Cx) (own:List Str) (cap:List Nat) (R_:Wa) (cl:List (Str×SM)) (C:SM) (s:Sn) (H:Hp) (fp:List SM):Cx:=
 {K8 X own cap R_ (T6 (C + 1) R_.names cl) C s H fp with fn:=dz R_.names}
theorem Ir {H:Hp}{s:Sn}{own:List Str}{R_:Wa}(I:Inv X Sa σ H s) (hk:R_.kind=.function)
 (hcl:eO X.env.cells R_.names []=some cl) (ck:adm h1 (s.heap.objs.size + 1) (T6 (s.heap.objs.size + 1) R_.names [])) (hfp:∀b∈fp,jo X Sa H b) (hin:∀b∈fp,b < s.heap.objs.size):(fh X own cap R_ cl s.heap.objs.size s H fp).Ok:=by
 obtain ⟨m1,m2⟩:=gA R_.names [] cl hcl (λx c h=>by simp at h);have lo:∀{x:Str}{d:SM},(T6 (s.heap.objs.size + 1) R_.names []).lookup x=some d->s.heap.objs.size + 1<=d:=fun {x d} h=>(ck.empty _ _ (WY h)).2;have old:∀{x:Str}{d:SM},cl.lookup x=some d->d < s.heap.objs.size:=fun {x d} h=>by obtain ⟨v,z⟩:=I.cell x d (m1 x d h);exact z.lt
 refine ⟨I.ok.mod,hk,I.ok.glob,I.ok.blt,Sw _,λx y d h1 h2=>?_,λx hx=>?_,λx d hf h=>?_,λhc=>I.ok.hd hc,I.ok.frames,.inl rfl,λb hb=>⟨SQ (hin b hb),λx d h=>?_⟩,
  I.bs,Tw I.ok.bsz I.sz,λb o h hb=>?_,λb hb hf=>?_,I.stack,I.stkFree⟩
 ·rcases fZ h1 with h1 | ⟨_,h1⟩
  ·rcases fZ h2 with h2 | ⟨_,h2⟩
   ·exact name_of_addr ck.apart (WY h1) (WY h2)
   ·exact absurd (SW (old h2) (VZ (lo h1))) (VF _)
  ·rcases fZ h2 with h2 | ⟨_,h2⟩
   ·exact absurd (SW (old h1) (VZ (lo h2))) (VF _)
   ·exact I.ok.inj x y d (m1 x d h1) (m1 y d h2)
 ·refine Tr.mp (gm _ _ _ x ?_);rcases mW hx with z | z
  ·exact .inl (m2 x (.inr z))
  ·exact .inr z
 ·rcases fZ h with h | ⟨z,h⟩
  ·exact VZ (lo h)
  ·have hf':dz R_.names x=true:=hf;rw [z] at hf';cases hf'
 ·rcases fZ h with h | ⟨_,h⟩
  ·exact Vd (SW (hin b hb) (VZ (lo h)))
  ·exact (hfp b hb).2.2.2.2.1 x d (m1 x d h)
 ·rcases (hfp b hb).2.2.2.1 with z | z
  ·exact I.ok.noex b o h z
  ·exact absurd (SW (SJ (I.ok.bs b o h).1) z) (VF _)
 ·rcases SN.mp (I.stkSub b hf) with e | e
  ·exact (hfp b hb).2.1 e
  ·exact (hfp b hb).2.2.1 e
end
theorem xT {cl:List (Str×SM)}(h:dz names x=false):(T6 n names cl).lookup x=cl.lookup x:=
 iO names n cl x λy hy hk e=>by unfold dz at h;have:=aaE.mp h y hy;simp [hk,e] at this
section
variable {X:Cx}
theorem E_ {Sa:List (SM×Obj)}{σ:L2.St}{H:Hp}{s:Sn}{own:List Str}{cap:List Nat}{R_:Wa}{cl:List (Str×SM)}{fp:List SM}{h1:Uo}{m:Str->Option Sl}{tk:Nat}(I:Inv X Sa σ H s) (ok:(fh X own cap R_ cl s.heap.objs.size s H fp).Ok)
  (hcl:eO X.env.cells R_.names []=some cl) (ck:adm h1 (s.heap.objs.size + 1) (T6 (s.heap.objs.size + 1) R_.names [])) (hcap:n9 X cap=true) (Qv:∀j∈cap,∀x,X.N[j]?=some x->(relabel R_ X.env).names.lookup x≠some .local)
  (hno:∀j∈cap,∀x,X.N[j]?=some x->dz R_.names x=false) (hns:h1.Ns s.heap.objs.size m) (old:∀b o,s.heap.get? b=some o->h1.get? b=some o):
  Inv (fh X own cap R_ cl s.heap.objs.size s H fp) [] (Tq own.length none++cap.map λ(j:Nat)=>(σ[j]?).getD none) H {s with heap:=h1,toks:=tk}:=by
 obtain ⟨m1,m2⟩:=gA R_.names [] cl hcl (λx c h=>by simp at h);refine ⟨ok,rfl,I.bare,Un.kept old,⟨m,hns,λi x v q1 q2 q3=>?_⟩,λx d h=>?_,I.hok.fresh (Sw _),λx d h=>?_,λp hp=>absurd (show p∈([]:List (SM×Obj)) from hp) (by simp),I.hok.kept old,?_⟩
 ·obtain ⟨j,h2,h3,h4⟩:=gY q2;have q1':(own++cap.map λ(j:Nat)=>(X.N[j]?).getD ("":Str))[i]?=some x:=q1;rw [Ux (by exact h2),S3,h3] at q1';have hj:j∈cap:=VR h3;have hc:(match X.N[j]? with
   | some x=>(match X.env.scope.names.lookup x with
    | some .cell=>true
    | some .free=>true
    | _=>false)
   | none=>false)=true:=by unfold n9 at hcap;exact TU.mp hcap j hj
  cases hx:X.N[j]? with
  | none=>rw [hx] at hc;cases hc
  | some y=>
   rw [VV,hx] at q1';rw [hx] at hc;have e:y=x:=by simpa using q1'
   subst e;have kd:X.env.kindOf y=some .cell\/X.env.kindOf y=some .free:=by
    unfold adI;simp only at hc;split at hc
    ·rename_i z;exact .inl z
    ·rename_i z;exact .inr z
    ·cases hc
   obtain ⟨mX,nX,lX⟩:=I.loc;obtain ⟨u,ru,lu⟩:=lX j y v hx h4 (kd.elim (λz=>.inr (.inl z)) λz=>.inr (.inr z));refine ⟨u,ru,.inr ?_⟩;have kd':(relabel R_ X.env).names.lookup y=some .cell\/(relabel R_ X.env).names.lookup y=some .free:=by
    rcases q3 with z | z | z
    ·exact absurd z (Qv j hj y hx)
    ·exact .inl z
    ·exact .inr z
   refine ⟨kd',?_⟩;have no:=hno j hj y hx;have fr:(y,Uk)∈R_.names:=by
    rcases mW kd' with z | z
    ·exact z
    ·rw [no] at z;cases z
   obtain ⟨d,hd⟩:=Tr.mp (m2 y (.inr fr));refine ⟨d,(xT no).trans hd,?_⟩;rcases lu with ⟨z,_⟩ | ⟨_,d',hd',z⟩
   ·rcases kd with k | k <;> (rw [k] at z;cases z)
   ·have:=m1 y d hd;rw [hd'] at this;cases this;obtain ⟨o,ho,hod⟩:=z;exact ⟨o,old _ _ ho,hod⟩
 ·rcases fZ h with h | ⟨_,h⟩
  ·exact ⟨none,(ck.empty _ _ (WY h)).1⟩
  ·obtain ⟨v,o,ho,hod⟩:=I.cell x d (m1 x d h);exact ⟨v,o,old _ _ ho,hod⟩
 ·rcases fZ h with h | ⟨_,h⟩
  ·exact I.hok.fresh (VZ (ck.empty _ _ (WY h)).2)
  ·exact I.freeC x d (m1 x d h)
 ·show _=(own++cap.map λ(j:Nat)=>(X.N[j]?).getD ("":Str)).length;simp
end
theorem LO (h:Uo) (names:List (Str×Vm)):(abB (h.push {cls:=.type "dict",data:=.dict #[]}) names).Ns h.objs.size (λ_=>none):=
 (Heap.Ns.new h (.type "dict")).keeps λb o e=>abD _ _ _ _ e
theorem CI (h:Uo) (names:List (Str×Vm)):adm (abB (h.push {cls:=.type "dict",data:=.dict #[]}) names) (h.objs.size + 1) (T6 (h.objs.size + 1) names []):=by have:=cellsFrom_ok names (h.push {cls:=.type "dict",data:=.dict #[]}) (h.objs.size + 1) [] ⟨λ_ _ hm=>(nomatch hm),Xb⟩ (by rw [Us];exact Sw _);rw [Us] at this;exact this
noncomputable def G5 (X:Cx) (cap:List Nat) (R_:Wa):Bool:=cap.all λj=>match X.N[j]? with
 | some x=>!dz R_.names x
 | none=>true
section
variable {X:Cx}{c:C}
theorem zC {names names2:List (Str×Vm)}(h:eO cells names []=some cl)
 (hn:(names2.all λy=>!(y.2 == .free) || ((names.any λz=>z.1 == y.1 && z.2 == .free) || dz names y.1))=true):(eO (T6 n names cl) names2 []).isSome=true:=by
 obtain ⟨_,m2⟩:=gA names [] cl h (λx c h=>by simp at h);have go:∀(l:List (Str×Vm)) (cs:List (Str×SM)),(l.all λy=>!(y.2 == .free) || ((names.any λz=>z.1 == y.1 && z.2 == .free) || dz names y.1))=true->(eO (T6 n names cl) l cs).isSome=true:=by
  intro l
  induction l with
  | nil=>intro cs _;rfl
  | cons y r ih=>
   obtain ⟨y,k⟩:=y;intro cs hl;rw [WS,SI] at hl;unfold eO;split
   ·rename_i hk;have h1:=hl.1;simp only [hk,acv,YV,UQ] at h1;have:((T6 n names cl).lookup y).isSome=true:=by
     refine gm names n cl y ?_;rcases h1 with z | z
     ·obtain ⟨q,hq,e⟩:=VE.mp z;rw [SI] at e;have e1:q=(y,Uk):=by
       obtain ⟨q1,q2⟩:=q;have a1:q1=y:=eq_of_beq e.1;have a2:q2=Uk:=by simpa using e.2
       rw [a1,a2]
      exact .inl (m2 y (.inr (e1▸hq)))
     ·exact .inr z
    obtain ⟨a,ha⟩:=Tr.mp this;rw [ha];exact ih _ hl.2
   ·exact ih _ hl.2
 exact go names2 [] hn
end
section
variable {X:Cx}{c:C}{e:Tv}{es:List Tv}{g:G R}{pos:Pos}
theorem uQ (i:Nat){x:Str}{pos':Pos}(hN:X.N.Nodup) (h:QD X c e g) (hi:autoParam (X.N[i]?=some x) zA._auto_1) (hx:Loc X.env.scope x:=by first | exact V5 rfl | exact Vh rfl) (hf:X.fn x=true\/X.env.scope.names.lookup x=some .local:=by first | exact .inl rfl | exact .inr rfl):
  jc X c (.AugAssign (.Name x pos') .Sub e pos) (jW i gK g):=have h:=h.h;⟨Jp i hN IJ (iC λ_ _ _=>.int _) h hi hx hf⟩
theorem ID {K:Sk}{st:VQ}{kV doc pm cdv ct:Sl}(l:K.lookup f=some ⟨oc,od,.func (Tp x Sf (cB st) (bB st) (aJ st) (.ref T) kV doc pm an cdv ct),osl⟩)
 (cd:Vo K cdv Sf=true) (k:T4 K (.ref f)=true) (lT:K.lookup T=some ⟨oT,dT,.seq #[.none] n,sT⟩):lN K x Sf st f (Tp x Sf (cB st) (bB st) (aJ st) (.ref T) kV doc pm an cdv ct):=
 ⟨⟨oc,od,T,_,n,kV,doc,pm,an,cdv,ct,osl,rfl,l,cd,lT,rfl⟩,k⟩
end
noncomputable def b_ (gt:GT) (gts:G Bool) (act:Ev->M (List D×Ev)):List D->Ev->M (List D×Ev)
 | [],env=>.ok ([],env)
 | d::ds,env=>gt d env >>= λe=>gts e >>= λk=>if k=true then act e >>= λr=>b_ gt gts act ds r.2 >>= λz=>.ok (r.1++z.1,z.2) else b_ gt gts act ds e
def we (env:Ev) (σ:L2.St) (p:SM):Prop:=∀(j:Nat) (xs:Mn),env[j]?=some (some (mS xs))->σ[j]?≠some (some (.ref p))
structure vW (Acc:Hp->Hp->List D->Prop):Prop where
 ext:∀{J H J' H':Hp}{ys:List D},Acc J H ys->Ext J H J' H'->Acc J' H' ys
noncomputable def sQ (X:Cx) (c:C) (p:SM) (Acc:Hp->Hp->List D->Prop) (J2 H2:Hp) (N:Nat) (m:Sem Unit) (act:Ev->M (List D×Ev)):Prop:=
 ∀(Sa:List (SM×Obj)) (s:Sn) (σ:L2.St) (H J:Hp) (env:Ev) (ys:List D) (Qf:List D×Ev->Prop),Inv X Sa σ H s->Ext J2 H2 J H->SR c J H σ env->we env σ p->Acc J H ys->ys.length + N<=sizeLine->cH (act env) Qf c.T->
  SO (SX X.prog X.w) X.A m (λ_ s'=>∃σ' H' J' r,Inv X Sa σ' H' s'/\Ext J2 H2 J' H'/\aW J J'/\SR c J' H' σ' r.2/\we r.2 σ' p/\Acc J' H' (ys++r.1)/\r.1.length<=N/\Qf r) X.xe s
abbrev Ey (ifs:List Tv) (env:Env):Sem Bool:=forIn ifs true λc r=>if r=true then do let ok <-aah c env (eval c env);pure (Vt ok) else pure (Vt r)
abbrev oM (Sd Se:Tv) (ifs:List Tv) (it:Sl) (env:Env) (act:Sem Unit) (again':Sem Fin):Sem Fin:=do
 Ws Se.pos
 match <-W2 it with
 | none=>pure (.done .next)
 | some v=>
  VU Sd it v
  assign Sd env v
  let mut ok:=true
  for c in ifs do
   if ok then ok <-aah c env (eval c env)
  if ok then
   act
  again'
noncomputable def qu (prog:SK) (w:S9) (A:Te) (e:Tv) (depth:Nat) (it acc:Sl) (env:Env) (Sd:Tv) (ifs:List Tv) (m:Sem Unit):Prop:=
 ∀(R:ZX->Sn->Prop) (E:Sl->Sn->Prop) (I:Nat->Sn->Prop),(∀v s,E v s->acz (SX prog w) A env (λx s'=>R (.error x) s') v s)->(∀n s,I n s->SO (SX prog w) A (W2 it) (λr s₁=>match r with
   | none=>R (.ok .next) s₁
   | some v=>SO (SX prog w) A (VU Sd it v) (λ_ s₁=>SO (SX prog w) A (assign Sd env v) (λ_ s₂=>
     SO (SX prog w) A (Ey ifs env) (λok s₃=>if ok=true then SO (SX prog w) A m (λ_ s₅=>∃m,m < n/\I m s₅) E s₃ else ∃m,m < n/\I m s₃) E s₂) E s₁) E s₁) E s)->
  ∀(n:Nat) (s:Sn),I n s->U3 (SX prog w) A (.compLoop e depth it acc env) R s
section
variable {prog:SK}{w:S9}{A:Te}{Sd Se:Tv}{ifs:List Tv}{R_:Wa}{pos:Pos}{it acc:Sl}{env:Env}{depth:Nat}{gens:List Wn}{act:Sem Unit}
theorem yG {R:ZX->Sn->Prop}{I:Nat->Sn->Prop}{E:Sl->Sn->Prop}{code:Code}{n:Nat}{s:Sn}{Q:Fin->Sn->Prop}
  (RK:∀s,R (.ok .next) s->Q (.done .next) s) (Ry:∀s,(∃m,m < n/\I m s)->SO (SX prog w) A (again code) Q E s)
  (t:SO (SX prog w) A (W2 it) (λr s₁=>match r with
   | none=>R (.ok .next) s₁
   | some v=>SO (SX prog w) A (VU Sd it v) (λ_ s₁=>SO (SX prog w) A (assign Sd env v) (λ_ s₂=>
     SO (SX prog w) A (Ey ifs env) (λok s₃=>if ok=true then SO (SX prog w) A act (λ_ s₅=>∃m,m < n/\I m s₅) E s₃ else ∃m,m < n/\I m s₃) E s₂) E s₁) E s₁) E s):
  SO (SX prog w) A (oM Sd Se ifs it env act (again code)) Q E s:=by
 refine Sj (V3 (Sj (TN t (λr s₁ h₁=>?_) λ_ _ f=>f)));cases r with
 | none=>exact Sm (RK _ h₁)
 | some v=>
  refine Sj (TN h₁ (λ_ s₁' h₁'=>?_) λ_ _ f=>f);refine Sj (TN h₁' (λ_ s₂ h₂=>Sj (TN h₂ (λok s₃ h₃=>?_) λ_ _ f=>f)) λ_ _ f=>f);cases ok with
  | false=>exact Ry _ h₃
  | true=>exact Sj (TN h₃ (λ_ s₅ h₅=>Ry _ h₅) λ_ _ f=>f)
theorem Bv {elt:Tv}(ht:YW (.ListComp elt gens R_ pos) depth it acc env=oM Sd Se ifs it env act (again (.compLoop (.ListComp elt gens R_ pos) depth it acc env))):qu prog w A (.ListComp elt gens R_ pos) depth it acc env Sd ifs act:=by intro R E I hE turn n s h;refine codeAny_loop rfl I (λn s hI=>?_) n h;show SO _ A ((YW (.ListComp elt gens R_ pos) depth it acc env).onRaise (λx=>do abE x env;abF x)) _ _ s;refine wpAny_noted ?_;rw [ht];exact TN (yG (E:=E) (Q:=λf s'=>match f with | .done g=>R (.ok g) s' | .again c=>c=_/\∃m,m < n/\I m s') (λ_ h=>h) (λ_ h=>Sm ⟨rfl,h⟩) (turn n s hI)) (λ_ _ h=>h) hE
end
section
variable {X:Cx}{c:C}{p:SM}{Acc:Hp->Hp->List D->Prop}{J2 H2:Hp}{N:Nat}{m:Sem Unit}{act:Ev->M (List D×Ev)}{Sd:Tv}{ifs:List Tv}{gt:GT}{gts:G Bool}{e:Tv}{depth:Nat}{acc:Sl}{it:SM}{fp:List SM}{tn:Nat->Uo->Prop}{It:It}{ds:List D}{J1:Hp}
theorem xV (aR:vW Acc) (hc:X.calm=true){Rx:Sl->Sn->Prop}(hx:∀v s,X.xe v s->acz (SX X.prog X.w) X.A X.env Rx v s) (LP:qu X.prog X.w X.A e depth (.ref it) acc X.env Sd ifs m) (hT:Cm X c Sd gt) (hIf:AR X c ifs gts) (hA:sQ X c p Acc J2 H2 N m act) (T:Turn X.prog X.w X.K Sd It fp it tn)
  (U:Hp->Hp->Prop) (wk:Walk c It ds J1 U){Sa:List (SM×Obj)}{s:Sn}{σ:L2.St}{H J:Hp}{env:Ev}{ys:List D}{Qf:List D×Ev->Prop}(hU:∀J' H',Ext J2 H2 J' H'->aW J J'->U J' H') (I:Inv X Sa σ H s) (st:tn 0 s.heap) (fr:∀b∈fp,jo X Sa H b) (e2:Ext J2 H2 J H) (sr:SR c J H σ env) (no:we env σ p) (ac:Acc J H ys)
  (hl:ys.length + ds.length * N<=sizeLine) (w:cH (b_ gt gts act ds env) Qf c.T):
  U3 (SX X.prog X.w) X.A (.compLoop e depth (.ref it) acc X.env) (λr s'=>match r with | .error x=>Rx x s' | .ok f=>f=.next/\∃σ' H' J' r',Inv X Sa σ' H' s'/\Ext J2 H2 J' H'/\aW J J'/\SR c J' H' σ' r'.2/\we r'.2 σ' p/\Acc J' H' (ys++r'.1)/\r'.1.length<=ds.length * N/\Qf r') s:=by
 refine LP _ X.xe (λn s'=>∃(i:Nat) (σ':L2.St) (H' J':Hp) (env':Ev) (zs:List D),n=ds.length - i/\i<=ds.length/\Inv X Sa σ' H' s'/\tn i s'.heap/\(∀b∈fp,H' b=none)/\Ext J2 H2 J' H'/\aW J J'/\SR c J' H' σ' env'/\we env' σ' p/\Acc J' H' (ys++zs)/\zs.length<=i * N/\
  cH (b_ gt gts act (ds.drop i) env') (λr=>Qf (zs++r.1,r.2)) c.T) hx ?_ ds.length s ⟨0,σ,H,J,env,[],rfl,S5 _,I,st,λb hb=>(fr b hb).1,e2,aW.refl J,sr,no,by rw [UB];exact ac,by simp,by rw [ZZ];exact w⟩
 rintro n s' ⟨i,σ',H',J',env',zs,rfl,hi,I',st',fr',e',sj,sr',no',ac',hz,w'⟩;have stat:∀{H':Hp},(∀b∈fp,H' b=none)->∀b∈fp,jo X Sa H' b:=λhn b hb=>⟨hn b hb,(fr b hb).2⟩;obtain ⟨wk1,wk2⟩:=wk i J' H' sr'.hp (hU J' H' e' sj);by_cases hlt:i < ds.length
 ·obtain ⟨g1,y1⟩:=wk2 ds[i] (by simp [hlt]);rw [VM hlt] at w';refine TN (T.item X rfl rfl rfl hc i Sa s' σ' H' X.xe I' (stat fr') st' g1) (λr s4 ⟨u,hr,h4⟩=>?_) λ_ _ f=>f;subst hr;refine TN h4 (λ_ s5 ⟨x,H5,I5,r5,y5,st5,fr5⟩=>?_) λ_ _ f=>f;obtain ⟨J5,e5,rx⟩:=y1 x H5 y5;have I5':=I5.pinned (stat fr5) (T.obj _ _ st5);have again:∀{σ7:L2.St}{H7:Hp}{s7:Sn},Inv X (Sa++nJ fp s5.heap) σ7 H7 s7->Inv X Sa σ7 H7 s7/\tn (i + 1) s7.heap/\(∀b∈fp,H7 b=none):=fun {σ7 H7 s7} I7=>by refine ⟨I7.unpinned,T.keep _ _ _ st5 λb hb o e=>(I7.pin (b,o) (TQ _ (TQ _ (jy hb e)))).1,λb hb=>?_⟩;obtain ⟨o,e,d⟩:=T.obj _ _ st5 b hb;exact (I7.pin (b,o) (TQ _ (TQ _ (jy hb e)))).2.1
  refine TN (hT _ s5 σ' H5 x u (λσ6 H6=>∃e6,H6=H5/\SR c J5 H5 σ6 e6/\KO env' σ' e6 σ6/\cH (gts e6 >>= λk=>if k=true then act e6 >>= λr=>b_ gt gts act (ds.drop (i + 1)) r.2 >>= λz=>.ok (r.1++z.1,z.2) else b_ gt gts act (ds.drop (i + 1)) e6)
   (λr=>Qf (zs++r.1,r.2)) c.T) I5' r5 ⟨J5,env',ds[i],sr'.ext e5,rx,aC (aG w') λe6 w6 σ6 sr6 ko=>⟨e6,rfl,sr6,ko,w6⟩⟩) (λ_ s6 ⟨σ6,H6,I6,e6,RG,sr6,ko,w6⟩=>?_) λ_ _ f=>f
  subst RG;have no6:we e6 σ6 p:=λj xs q z=>by obtain ⟨k1,k2⟩:=ko j xs q;exact no' j xs k1 (k2▸z)
  refine TN (hIf _ s6 σ6 H6 (λk H7=>∃J7,Ext J5 H6 J7 H7/\cH (if k=true then act e6 >>= λr=>b_ gt gts act (ds.drop (i + 1)) r.2 >>= λz=>.ok (r.1++z.1,z.2) else b_ gt gts act (ds.drop (i + 1)) e6)
   (λr=>Qf (zs++r.1,r.2)) c.T) I6 ⟨J5,e6,sr6,aC (aG w6) λk wk J7 H7 e7=>⟨J7,e7,wk⟩⟩) (λk s7 ⟨H7,I7,J7,e7,w7⟩=>?_) λ_ _ f=>f
  have sr7:=sr6.ext e7;have ac7:=aR.ext (aR.ext ac' e5) e7;have x7:=(e'.trans e5).trans e7;have j7:=(sj.trans e5.j).trans e7.j;have hm:(i + 1) * N=i * N + N:=by rw [adn,Nat.one_mul]
  cases k with
  | false=>
   rw [if_neg (by decide)] at w7 ⊢;obtain ⟨a1,a2,a3⟩:=again I7;exact ⟨ds.length - (i + 1),by omega,i + 1,σ6,H7,J7,e6,zs,rfl,hlt,a1,a2,a3,x7,j7,sr7,no6,ac7,by omega,w7⟩
  | true=>
   rw [if_pos rfl] at w7 ⊢;have hN:(i + 1) * N<=ds.length * N:=XH N hlt;refine TN (hA _ s7 σ6 H7 J7 e6 (ys++zs) _ I7 x7 sr7 no6 ac7 (by rw [SE];omega) (aG w7)) (λ_ s8 ⟨σ8,H8,J8,r,I8,x8,j8,sr8,no8,ac8,l8,w8⟩=>?_) λ_ _ f=>f;obtain ⟨a1,a2,a3⟩:=again I8;refine ⟨ds.length - (i + 1),by omega,i + 1,σ8,H8,J8,r.2,zs++r.1,rfl,hlt,a1,a2,a3,x8,j7.trans j8,sr8,no8,by rw [<-Xf];exact ac8,by rw [SE];omega,?_⟩;refine aC (aG w8) λz q=>?_;rw [Xf];exact q
 ·have RV:i=ds.length:=by omega
  subst RV;rw [W5 (Sw _)] at w';refine TN (T.done X rfl rfl rfl hc _ Sa s' σ' H' X.xe I' (stat fr') st' (wk1 (Sw _))) (λr s4 ⟨hr,I9⟩=>?_) λ_ _ f=>f;subst hr;have w9:Qf (zs++[],env'):=w';rw [UB] at w9;exact ⟨rfl,σ',H',J',(zs,env'),I9,e',sj,sr',no',ac',hz,w9⟩
end
section
variable {prog:SK}{w:S9}{A:Te}{R:ZX->Sn->Prop}{s:Sn}{it acc:Sl}{env:Env}{R_:Wa}{pos:Pos}{g0:Wn}{Sd Se:Tv}{ifs:List Tv}{rest:List Wn}
theorem MM (h0:U3 (SX prog w) A (.compLoop (.ListComp elt (g0::⟨Sd,Se,ifs,0⟩::rest) R_ pos) 1 it acc env) R s)
 (h:SO (SX prog w) A (Y3 it) (λit' s'=>U3 (SX prog w) A (.compLoop (.ListComp elt (g0::⟨Sd,Se,ifs,0⟩::rest) R_ pos) 1 it' acc env) R s') (λ_ _=>False) s):
  U3 (SX prog w) A (.compStart (.ListComp elt (g0::⟨Sd,Se,ifs,0⟩::rest) R_ pos) 1 it acc env) R s:=by
 refine X_ ?_;show SO _ _ ((abG (.ListComp elt (g0::⟨Sd,Se,ifs,0⟩::rest) R_ pos) 1 it acc env).onRaise (λx=>do abE x env;Ws abH)) _ _ s;refine acA ?_;unfold abG;show SO _ _ (ask >>= _) _ _ s;refine Sj (U0 (wpAny_ite ?_));split
 ·first
   | exact Sj (Sm (Sm (ZE rfl h0)))
   | exact Sm (ZE rfl h0)
 ·refine Sj (XQ ?_);show SO _ _ (Ws Se.pos >>= _) _ _ s;exact Sj (V3 (Sj (TN h (λit' s' h'=>Sm (ZE rfl h')) λ_ _ x=>x.elim)))
end
noncomputable def jd (gi:G (List D)) (gt:GT) (gts:G Bool) (act:Ev->M (List D×Ev)):Ev->M (List D×Ev):=λenv=>gi env >>= λds=>if ds.length<=1000 then b_ gt gts act ds env else .bad
abbrev Be (e Se:Tv) (acc:Sl) (env:Env):Sem Unit:=do
 let x <-eval Se env
 Ws Se.pos
 let x <-U4 Se env x
 let _ <-runOwn (.compStart e 1 (<-holding [x] (Y3 x)) acc env) env
section
variable {X:Cx}{c:C}{p:SM}{Acc:Hp->Hp->List D->Prop}{J2 H2:Hp}{N:Nat}{m:Sem Unit}{act:Ev->M (List D×Ev)}{Sd Se:Tv}{ifs:List Tv}{gi:G (List D)}{gt:GT}{gts:G Bool}{e:Tv}{acc:Sl}
theorem Ie (aR:vW Acc) (hc:X.calm=true) (hx:∀v s,X.xe v s->False) (hs:∀x,U4 Se X.env x=pure x)
  (start:∀(it:SM) (R:ZX->Sn->Prop) (s:Sn),U3 (SX X.prog X.w) X.A (.compLoop e 1 (.ref it) acc X.env) R s->SO (SX X.prog X.w) X.A (Y3 (.ref it)) (λit' s'=>U3 (SX X.prog X.w) X.A (.compLoop e 1 it' acc X.env) R s') (λ_ _=>False) s->U3 (SX X.prog X.w) X.A (.compStart e 1 (.ref it) acc X.env) R s)
  (LP:∀it:SM,qu X.prog X.w X.A e 1 (.ref it) acc X.env Sd ifs m) (hi:N_ X c Sd Se gi) (hT:Cm X c Sd gt) (hIf:AR X c ifs gts) (hA:sQ X c p Acc J2 H2 N m act):
  sQ X c p Acc J2 H2 (1000 * N) (Be e Se acc X.env) (jd gi gt gts act):=by
 intro Sa s σ H J env ys Qf I x2 sr no ac hl w;refine Sj (TN (hi Sa s σ H (λIt H1=>∃ds J1,Ext J H J1 H1/\Walk c It ds J1 (λJ' _=>aW J1 J')/\cH (if ds.length<=1000 then b_ gt gts act ds env else .bad) Qf c.T) I ⟨J,env,sr,aC (aG w) λds wd It J1 H1 e1 wk=>⟨ds,J1,e1,wk,wd⟩⟩) (λxv s1 h1=>?_) λv s f=>(hx v s f).elim);refine Sj (V3 ?_);rw [hs xv];refine Sj (Sm (Sj (Tt (TN h1 (λitv s2 h2=>?_) λv s f=>(hx v s f).elim))));obtain ⟨it,fp,tn,It,H1,rfl,I1,T,st1,f1,ds,J1,e1,wk,w1⟩:=h2;have hsz:ds.length<=1000:=by
  by_cases z:ds.length<=1000
  ·exact z
  ·rw [if_neg z] at w1;exact w1.elim
 rw [if_pos hsz] at w1;have hm:ds.length * N<=1000 * N:=XH N hsz;have hb:ys.length + ds.length * N<=sizeLine:=Tw (Nat.add_le_add_left hm _) hl;have run:=xV (Rx:=λ_ _=>False) aR hc (λv s f=>(hx v s f).elim) (LP it) hT hIf hA T (λJ' _=>aW J1 J') wk (λ_ _ _ h=>h) I1 st1 f1 (x2.trans e1) (sr.ext e1) no (aR.ext ac e1) hb w1;have run':U3 (SX X.prog X.w) X.A (.compLoop e 1 (.ref it) acc X.env) (λr s'=>match r with | .ok f=>SO (SX X.prog X.w) X.A (pure ()) (λ_ s'=>∃σ' H' J' r,Inv X Sa σ' H' s'/\Ext J2 H2 J' H'/\aW J J'/\SR c J' H' σ' r.2/\we r.2 σ' p/\Acc J' H' (ys++r.1)/\r.1.length<=1000 * N/\Qf r) X.xe s' | .error e=>cameBackBy (SX X.prog X.w) X.A X.env X.xe e s') s2:=VG run λr s' h=>by
  cases r with
  | error x=>exact h.elim
  | ok f=>
  obtain ⟨_,σ',H',J',r',q1,q2,q3,q4,q5,q6,q7,q8⟩:=h;exact Sm ⟨σ',H',J',r',q1,q2,e1.j.trans q3,q4,q5,q6,Tw q7 hm,q8⟩
 exact Sj (wpAny_runOwn (h:=none) (start it _ _ run' (T.self _ 0 _ _ _ st1 run')))
end
def gz (ge:G R):Ev->M (List D×Ev):=λe=>ge e >>= λr=>toD r >>= λy=>.ok ([y],e)
def AU (c:C) (p:SM):Hp->Hp->List D->Prop:=λJ H ys=>∃us,H p=some (.lst us)/\J p=none/\aL c.K J ys us
theorem pQ:vW (AU c p):=⟨fun {J H J' H' ys} ⟨us,h1,h2,h3⟩ e=>⟨us,e.h _ _ h1,e.frz _ (by rw [h1];intro z;cases z) h2,h3.mono e.j⟩⟩
section
variable {X:Cx}{c:C}{p:SM}{J2 H2:Hp}{elt:Tv}{ge:G R}
theorem zl (hp2:H2 p=none) (hp0:c.H0 p=none) (hE:PD X c elt ge):sQ X c p (AU c p) J2 H2 1 (do let _ <-call (.builtin "list.append") [.ref p,<-eval elt X.env]) (gz ge):=by
 intro Sa s σ H J env ys Qf I x2 sr no ⟨us,h1,h2,h3⟩ hl w;have hlen:ys.length=us.length:=h3.length;refine Sj (TN (hE _ s σ H (λv H8=>∃J8 y,Ext J H J8 H8/\Rep c.K J8 y v/\Qf ([y],env)) I ⟨J,env,sr,aC (aG w) λr wr v J8 H8 e8 r8=>?_⟩) (λu8 s8 ⟨v8,H8,I8,r8,J8,y,e8,ry,w8⟩=>?_) λv s f=>f)
 ·obtain ⟨y,q,wr⟩:=jG wr;obtain ⟨J9,e9,_,ry⟩:=freeze e8 r8 q;exact ⟨J9,y,e9,ry,wr⟩
 have p8:H8 p=some (.lst us):=e8.h _ _ h1;have J8p:J8 p=none:=e8.frz _ (by rw [h1];intro z;cases z) h2;refine Sj (TN (uN (X:=X) _ s8 σ H8 (.ref p) [v8] (.ref p) [u8] (λ_ H9=>H9=L2.upd H8 p (.lst (us++[v8]))) I8 rfl (.cons r8 .nil) ⟨_,us,v8,rfl,rfl,p8,by omega,rfl⟩) (λ_ s9 ⟨_,H9,I9,_,h9⟩=>?_) λv s f=>f);subst h9;exact Sm ⟨σ,_,J8,([y],env),I9,(x2.trans e8).other hp2 J8p,e8.j,(sr.ext e8).other J8p hp0 no,no,⟨us++[v8],bD,J8p,(h3.mono e8.j).append (.cons ry .nil)⟩,Sw _,w8⟩
end
noncomputable def jf {ρ:Type}(lim n:Nat) (cap:List Nat) (gi:G (List D)) (gt:GT) (gts:G Bool) (act:Ev->M (List D×Ev)) (fin:List D->M ρ):G ρ:=λenv=>gi env >>= λds=>if ds.length<=lim then b_ gt gts act ds (cE n cap env) >>= λr=>fin r.1 else .bad
section
variable {X:Cx}{c:C}
structure B9 (X:Cx) (R_:Wa) (cap:List Nat) (Se:Tv):Prop where
 hk:R_.kind=.function
 hno:G5 X cap R_=true
 hnames:(R_.names.all λx=>!(x.2 == .local) || (R_.names.lookup x.1 == some .local))=true
 hcl:(eO X.env.cells R_.names []).isSome=true
 hcap:n9 X cap=true
 hloc:CH X cap R_=true
 hnd:xY cap=true
 hcalm:X.calm=true
 hs:∀x,U4 Se X.env x=pure x
theorem CK {R_:Wa}(hcl:(eO X.env.cells R_.names []).isSome=true) (hk:autoParam (R_.kind=.function) zA._auto_1) (hno:autoParam (G5 X cap R_=true) zA._auto_1) (hnames:autoParam ((R_.names.all λx=>!(x.2 == .local) || (R_.names.lookup x.1 == some .local))=true) zA._auto_1)
 (hcap:autoParam (n9 X cap=true) zA._auto_1) (hloc:autoParam (CH X cap R_=true) zA._auto_1) (hnd:autoParam (xY cap=true) zA._auto_1) (hcalm:autoParam (X.calm=true) zA._auto_1) (hs:∀x,U4 Se X.env x=pure x:=by intro _;rfl):B9 X R_ cap Se:=⟨hk,hno,hnames,hcl,hcap,hloc,hnd,hcalm,hs⟩
noncomputable def Oh {ρ:Type}(c:C) (rr:Hp->Hp->Hp->ρ->V->Prop) (g:G ρ):TE:=λσ H Q=>∃J env,SR c J H σ env/\cH (g env) (λr=>∀v J' H',Ext J H J' H'->rr H J' H' r v->Q v H') c.T
noncomputable def AH {ρ:Type}(X:Cx) (c:C) (rr:Hp->Hp->Hp->ρ->V->Prop) (cm:Option (Sl->Sem Unit)->Sem Sl) (g:G ρ):Prop:=
 ∀{Sa:List (SM×Obj)}{s:Sn}{σ:L2.St}{H:Hp}{Q:VK}{use:Option (Sl->Sem Unit)}{Q0:Sl->Sn->Prop},Inv X Sa σ H s->Oh c rr g σ H Q->
  (∀(acc C:SM) (m:Str->Option Sl) (s':Sn) (H':Hp) (fl:Flow),s'.heap.Ns C m->((C∈X.ex\/X.s₀.heap.objs.size<=C)/\C≠X.env.locals/\(∀x c,X.env.cells.lookup x=some c->c≠C)/\∀p∈X.pn++Sa,p.1≠C)->H' C=none->(∀h'',UJ C s'.heap h''->Inv X Sa σ H' {s' with heap:=h''})->Q (.ref acc) H'->compPost (SX X.prog X.w) X.A X.xe use Q0 (.ref acc) C (.ok fl) s')->
  SO (SX X.prog X.w) X.A (cm use) Q0 X.xe s
abbrev Ko (X:Cx) (c:C) (cm:Option (Sl->Sem Unit)->Sem Sl) (g:G R):Prop:=AH X c (RR c) cm g
abbrev zG (X:Cx) (own:List Str) (cap:List Nat) (R_:Wa) (cl:List (Str×SM)) (C:SM) (s:Sn) (H:Hp) (fp:List SM) (xe:Sl->Sn->Prop):Cx:={fh X own cap R_ cl C s H fp with xe:=xe}
noncomputable def KJ (X:Cx) (own:List Str) (cap:List Nat) (R_:Wa) (xc:List (Str×SM)->SM->Sn->Hp->List SM->Sl->Sn->Prop):Prop:=
 ∀(cl:List (Str×SM)) (C:SM) (s:Sn) (H:Hp) (fp:List SM) (Sa:List (SM×Obj)) (σ:L2.St) (H2:Hp) (s2:Sn),Inv X Sa σ H2 s2->s2.heap.objs.size<=s.heap.objs.size->(∀pi σ' H' s1 h'',Inv (fh X own cap R_ cl C s H fp) pi σ' H' s1->UJ C s1.heap h''->Inv X Sa σ H' {s1 with heap:=h''})->
  ∀v s',xc cl C s H fp v s'->acz (SX X.prog X.w) X.A (fh X own cap R_ cl C s H fp).env (λx s3=>∃m,s3.heap.Ns C m/\∀h',UJ C s3.heap h'->∀cenv:Env,cenv.locals=C->SO (SX X.prog X.w) X.A (passOn "comprehension.variables-let-go" x cenv:Sem Sl) (λ_ _=>False) X.xe {s3 with heap:=h'}) v s'
abbrev PU:List (Str×SM)->SM->Sn->Hp->List SM->Sl->Sn->Prop:=λ_ _ _ _ _ _ _=>False
theorem yL {own:List Str}{cap:List Nat}{R_:Wa}:KJ X own cap R_ PU:=λ_ _ _ _ _ _ _ _ _ _ _ _ _ _ f=>f.elim
theorem pT {ρ:Type}{rr:Hp->Hp->Hp->ρ->V->Prop}(own:List Str) (cap:List Nat){xc:List (Str×SM)->SM->Sn->Hp->List SM->Sl->Sn->Prop}{e Sd Se:Tv}{ifs:List Tv}{gs:List Wn}{R_:Wa}{gi:G (List D)}{gt:GT}{gts:G Bool}{act:Ev->M (List D×Ev)}{fin:List D->M ρ}{newAcc:Sem Sl}{ob:Obj}{o0:SM->HO}{Acc:SM->Hp->Hp->Hp->List D->Prop}{N lim:Nat}{m:SM->Env->Sem Unit}
  (hcls:clausesOf e=⟨Sd,Se,ifs,0⟩::gs) (hi:N9 X c Sd Se gi)
  (hnew:∀(s:Sn) (Q:Sl->Sn->Prop) (E:Sl->Sn->Prop),Q (.ref s.heap.objs.size) {s with heap:=s.heap.push ob}->SO (SX X.prog X.w) X.A newAcc Q E s)
  (hob:∀(h:Uo) (H:Hp),bW X.prog X.w H (h.push ob) h.objs.size (o0 h.objs.size))
  (aR:∀p H2,vW (Acc p H2)) (a0:∀(p:SM) (H2 J H:Hp),T9 < p->H p=some (o0 p)->J p=none->Acc p H2 J H [])
  (hN:lim * N<=sizeLine) (LP:∀(it p:SM) (env:Env),qu X.prog X.w X.A e 0 (.ref it) (.ref p) env Sd ifs (m p env))
  (start:∀(it:SM) (acc:Sl) (env:Env) (R:ZX->Sn->Prop) (s:Sn),U3 (SX X.prog X.w) X.A (.compLoop e 0 (.ref it) acc env) R s->SO (SX X.prog X.w) X.A (Y3 (.ref it)) (λit' s'=>U3 (SX X.prog X.w) X.A (.compLoop e 0 it' acc env) R s') (acz (SX X.prog X.w) X.A env λx s'=>R (.error x) s') s->U3 (SX X.prog X.w) X.A (.compStart e 0 (.ref it) acc env) R s)
  (nofin:∀ys z,fin ys≠.exc z) (hend:∀{p:SM}{H2 J H J' H':Hp}{ys:List D}{r:ρ},H p=none->aW H H2->Ext J H J' H'->Acc p H2 J' H' ys->fin ys=.ok r->∃J'',Ext J H J'' H'/\rr H J'' H' r (.ref p))
  (hbody:∀(cl:List (Str×SM)) (C:SM) (s:Sn) (H:Hp) (fp:List SM),eO X.env.cells R_.names []=some cl->Cm (zG X own cap R_ cl C s H fp (xc cl C s H fp)) c Sd gt/\AR (zG X own cap R_ cl C s H fp (xc cl C s H fp)) c ifs gts/\∀(p:SM) (J2 H2:Hp),H2 p=none->c.H0 p=none->sQ (zG X own cap R_ cl C s H fp (xc cl C s H fp)) c p (Acc p H2) J2 H2 N (m p (fh X own cap R_ cl C s H fp).env) act)
  (hxc:KJ X own cap R_ xc) (a:B9 X R_ cap Se){pos':Pos}:AH X c rr (λuse=>comprehension e R_ X.env pos' newAcc false (eval Se X.env) use) (jf lim own.length cap gi gt gts act fin):=by
 obtain ⟨hk,hno,hnames,hcl,hcap,hloc,hnd,hcalm,hs⟩:=a;intro Sa s σ H Q use Q0 I h Rj;obtain ⟨J,env,sr,w⟩:=h;obtain ⟨cl,hcl⟩:=Tr.mp hcl;have Rn:∀j∈cap,∀x,X.N[j]?=some x->dz R_.names x=false:=λj hj x hx=>by have:=TU.mp hno j hj;rw [hx] at this;simpa using this
 have QK:∀x∈R_.names,x.2=.local->R_.names.lookup x.1=some .local:=λy hy z=>by have:=TU.mp hnames y hy;rw [z] at this;simpa using this
 have Q8:∀j∈cap,∀x,X.N[j]?=some x->(relabel R_ X.env).names.lookup x≠some .local:=λj hj x hx z=>by have:=TU.mp hloc j hj;rw [hx] at this;simp only at this;rw [z] at this;cases this
 refine wpAny_comprehension_free (use:=use) hcls hs (vz hcl) hk QK ?_;refine bO (hi Sa s σ H (λIt H1=>∃ds J1,Ext J H J1 H1/\Walk c It ds J1 (λJ' H'=>aW J1 J'/\aW H1 H')/\
  cH (if ds.length<=lim then b_ gt gts act ds (cE own.length cap env) >>= λr=>fin r.1 else .bad) (λr=>∀v J' H',Ext J H J' H'->rr H J' H' r v->Q v H') c.T) I ⟨J,env,sr,aC (aG w) λds wd It J1 H1 e1 wk=>⟨ds,J1,e1,wk,wd⟩⟩) λxv s1 h1=>bO h1 λitv s2 h2=>?_
 obtain ⟨it,fp,tn,It,H2,rfl,I2,T,st2,f2,ds,J2,e2,wk,w2⟩:=h2;have hsz:ds.length<=lim:=by
  by_cases z:ds.length<=lim
  ·exact z
  ·rw [if_neg z] at w2;exact w2.elim
 rw [if_pos hsz] at w2;have w3:=aG w2;refine hnew s2 _ _ (BE ?_);dsimp only;generalize Rc:s2.heap.push ob=Hs;have hC:Hs.objs.size=s2.heap.objs.size + 1:=by rw [<-Rc,Us]
 have hp2:H2 s2.heap.objs.size=none:=I2.hok.fresh (Sw _);have kHs:∀b o,s2.heap.get? b=some o->Hs.get? b=some o:=λb o e=>by rw [<-Rc];exact Sq _ e
 have I3:Inv X Sa σ (L2.upd H2 s2.heap.objs.size (o0 s2.heap.objs.size)) {s2 with heap:=Hs,toks:=s2.toks}:=I2.laid (t':=s2.toks) kHs (Sw _) (by rw [<-Rc];exact hob _ _);have f3:∀b∈fp,jo X Sa (L2.upd H2 s2.heap.objs.size (o0 s2.heap.objs.size)) b:=λb hb=>by obtain ⟨o,ho,_⟩:=T.obj _ _ st2 b hb;exact ⟨by rw [a_ (SQ (SJ ho))];exact (f2 b hb).1,(f2 b hb).2⟩
 have hin:∀b∈fp,b < Hs.objs.size:=λb hb=>by obtain ⟨o,ho,_⟩:=T.obj _ _ st2 b hb;exact Ur (SJ ho) (by rw [hC];exact TX _)
 obtain ⟨h₁,eh₁⟩:∃h₁,h₁=abB (Hs.push {cls:=.type "dict",data:=.dict #[]}) R_.names:=⟨_,rfl⟩;rw [<-eh₁];have hns₁:h₁.Ns Hs.objs.size (λ_=>none):=by rw [eh₁];exact LO Hs R_.names
 have ck:adm h₁ (Hs.objs.size + 1) (T6 (Hs.objs.size + 1) R_.names []):=by rw [eh₁];exact CI Hs R_.names
 have okC:=Ir (own:=own) (cap:=cap) I3 hk hcl ck f3 hin;have old1:∀b o,Hs.get? b=some o->h₁.get? b=some o:=λb o e=>by rw [eh₁];exact abD _ _ _ _ (Sq _ e)
 have I4:=E_ (tk:=s2.toks) I3 okC hcl ck hcap Q8 Rn hns₁ old1;have sr2:=sr.ext e2;have srA:SR c J2 (L2.upd H2 s2.heap.objs.size (o0 s2.heap.objs.size)) σ env:=sr2.ext (Ext.new e2.sub hp2 _);have J2p:J2 s2.heap.objs.size=none:=e2.sub.free hp2;have H0p:c.H0 s2.heap.objs.size=none:=sr2.hp.ent.free hp2;have nown:∀(j:Nat) (xs:Mn),(cE own.length cap env)[j]?=some (some (mS xs))->(Tq own.length none++cap.map λ(j:Nat)=>(σ[j]?).getD none)[j]?≠some (some (.ref s2.heap.objs.size)):=λj xs q z=>by obtain ⟨a,h1,h2,h3⟩:=gY q;obtain ⟨a',h4,h5,h6⟩:=gY z;rw [h2] at h5;cases h5;obtain ⟨p,k1,k2,_⟩:=sr2.mine h3;rw [h6] at k1;cases k1;exact k2 hp2
 obtain ⟨hT,hIf,hE⟩:=hbody cl Hs.objs.size {s2 with heap:=Hs,toks:=s2.toks} (L2.upd H2 s2.heap.objs.size (o0 s2.heap.objs.size)) fp hcl;have fpC:∀{H':Hp},(∀b∈fp,H' b=none)->∀b∈fp,jo (fh X own cap R_ cl Hs.objs.size {s2 with heap:=Hs,toks:=s2.toks} (L2.upd H2 s2.heap.objs.size (o0 s2.heap.objs.size)) fp) [] H' b:=fun {H'} hn b hb=>by
  obtain ⟨m1,_⟩:=gA R_.names [] cl hcl (λx c h=>by simp at h);refine ⟨hn b hb,SQ (hin b hb),λz=>?_,.inl hb,λx d h=>(fZ h).elim (λh=>Vd (SW (hin b hb) (VZ (ck.empty _ _ (WY h)).2))) (λh=>(f2 b hb).2.2.2.2.1 x d (m1 x d h.2)),λp hp=>absurd (show p∈([]:List (SM×Obj)) from hp) (by simp)⟩;rcases SN.mp (I2.stkSub b z) with e | e
  ·exact (f2 b hb).2.1 e
  ·exact (f2 b hb).2.2.1 e
 have back:∀{pi:List (SM×Obj)}{σ':L2.St}{H':Hp}{s':Sn}{h'':Uo},Inv (fh X own cap R_ cl Hs.objs.size {s2 with heap:=Hs,toks:=s2.toks} (L2.upd H2 s2.heap.objs.size (o0 s2.heap.objs.size)) fp) pi σ' H' s'->UJ Hs.objs.size s'.heap h''->Inv X Sa σ H' {s' with heap:=h''}:=fun {pi σ' H' s' h''} I' sb=>by
  have B:Un (frs X.stack) fp (L2.upd H2 s2.heap.objs.size (o0 s2.heap.objs.size)) H' Hs s'.heap:=I'.base;have ne2:∀{b:SM}{o:Obj},s2.heap.get? b=some o->b≠s2.heap.objs.size/\b≠Hs.objs.size:=fun {b o} e=>
   ⟨SQ (SJ e),SQ (Ur (SJ e) (by rw [hC];exact TX _))⟩
  have nH:∀{b:SM}{o:HO},H2 b=some o->L2.upd H2 s2.heap.objs.size (o0 s2.heap.objs.size) b=some o:=fun {b o} e=>by rw [a_ (fJ e hp2)];exact e
  refine Inv.call' (ch:=fp) (s':={s' with heap:=h''}) I2 I'.os ⟨λb o e n hf hx=>?_,λb o e n hf hx=>?_,λb o e n hx=>?_,λb o e hx=>?_,λb xs e=>B.tups b xs (nH e),λb o u e=>B.frzs b o u (nH e),λb ps e=>B.tbls b ps (nH e)⟩ (za I'.hok I'.free sb) I'.bare λb hb=>⟨(f2 b hb).2.2.2.1,(f2 b hb).2.1,(f2 b hb).2.2.2.2.1,(f2 b hb).2.2.2.2.2⟩
  ·exact (sb.2 b (ne2 e).2).trans (B.keep b o (kHs b o e) (by rw [a_ (ne2 e).1];exact n) hf hx)
  ·obtain ⟨sl,z⟩:=B.slot b o (kHs b o e) (by rw [a_ (ne2 e).1];exact n) hf hx;exact ⟨sl,(sb.2 b (ne2 e).2).trans z⟩
  ·exact B.free b o (kHs b o e) (by rw [a_ (ne2 e).1];exact n) hx
  ·obtain ⟨o',z⟩:=B.there b o (kHs b o e) hx;exact ⟨o',(sb.2 b (ne2 e).2).trans z⟩
 have out:∀{pi:List (SM×Obj)}{σ':L2.St}{H':Hp}{s':Sn}{xe:Sl->Sn->Prop},Inv (zG X own cap R_ cl Hs.objs.size {s2 with heap:=Hs,toks:=s2.toks} (L2.upd H2 s2.heap.objs.size (o0 s2.heap.objs.size)) fp xe) pi σ' H' s'->Inv (fh X own cap R_ cl Hs.objs.size {s2 with heap:=Hs,toks:=s2.toks} (L2.upd H2 s2.heap.objs.size (o0 s2.heap.objs.size)) fp) pi σ' H' s':=λI=>⟨okC,I.os,I.bare,I.base,I.loc,I.cell,I.free,I.freeC,I.pin,I.hok,I.len⟩;have o:=okC;have okE:∀xe,(zG X own cap R_ cl Hs.objs.size {s2 with heap:=Hs,toks:=s2.toks} (L2.upd H2 s2.heap.objs.size (o0 s2.heap.objs.size)) fp xe).Ok:=λxe=>⟨o.mod,o.kind,o.glob,o.blt,o.above,o.inj,o.has,o.cab,o.hd,o.frames,o.stk,o.exf,o.bs,o.bsz,o.noex,o.exfs,o.funs,o.frf⟩;have run:=λ(s4:Sn) (I4:Inv (fh X own cap R_ cl Hs.objs.size {s2 with heap:=Hs,toks:=s2.toks} (L2.upd H2 s2.heap.objs.size (o0 s2.heap.objs.size)) fp) [] _ _ s4) (st4:tn 0 s4.heap)=>xV (X:=zG X own cap R_ cl Hs.objs.size {s2 with heap:=Hs,toks:=s2.toks} (L2.upd H2 s2.heap.objs.size (o0 s2.heap.objs.size)) fp (xc cl Hs.objs.size {s2 with heap:=Hs,toks:=s2.toks} (L2.upd H2 s2.heap.objs.size (o0 s2.heap.objs.size)) fp)) (e:=e) (depth:=0) (acc:=.ref s2.heap.objs.size) (aR _ _) hcalm (hxc cl Hs.objs.size {s2 with heap:=Hs,toks:=s2.toks} (L2.upd H2 s2.heap.objs.size (o0 s2.heap.objs.size)) fp Sa σ H2 s2 I2 (Tw (U5 _) (Zn hC.symm)) λ_ _ _ _ _ I' sb=>back I' sb) (LP it _ _) hT hIf (hE s2.heap.objs.size J2 H2 hp2 H0p) T (λJ' H'=>aW J2 J'/\aW H2 H') wk (λJ' H' x _=>⟨x.j,x.h⟩) ⟨okE _,I4.os,I4.bare,I4.base,I4.loc,I4.cell,I4.free,I4.freeC,I4.pin,I4.hok,I4.len⟩ st4 (fpC λb hb=>(f3 b hb).1) (Ext.new e2.sub hp2 _) (srA.cap own.length cap (Ad hnd)) nown (a0 _ _ _ _ (KY I2) bD J2p) (Tw (by rw [abI,ZF];exact XH N hsz) hN) w3;have st4:=T.keep _ _ _ st2 (λb hb o e=>old1 b o (kHs b o e));have go:=VG (run _ I4 st4) (R':=compPost (SX X.prog X.w) X.A X.xe use Q0 (.ref s2.heap.objs.size) Hs.objs.size) λr s' h=>by
  cases r with
  | error x=>cases use <;> exact h
  | ok f=>
  obtain ⟨_,σ',H',J',r',I9,x9,j9,sr9,no9,ac9,l9,w9⟩:=h;obtain ⟨mm,hm,_⟩:=I9.loc;refine Rj s2.heap.objs.size Hs.objs.size mm _ H' _ hm (KP I2 (by rw [hC];exact U5 _)) I9.free (λh'' sb=>back (out I9) sb) ?_;cases q:fin r'.1 with
  | bad=>rw [q] at w9;exact w9.elim
  | exc z=>rw [q] at w9;exact (nofin _ z q).elim
  | ok z=>
   rw [q] at w9;obtain ⟨J9,x10,rr⟩:=hend (e2.h.free hp2) e2.h (e2.trans x9) ac9 q;exact w9 _ J9 H' x10 rr
 exact start it _ _ _ _ go (T.self _ 0 _ _ _ st4 go)
def vF (X:Cx) (c:C) (e:Tv) (g:G R):Prop:=∃cm,Ko X c cm g/\eval e X.env=cm none/\∀use,evalThenUse e X.env use=(do let _ <-cm (some use))
theorem fm {g:G R}(h:vF X c e g):QD X c e g:=by obtain ⟨cm,core,hev,_⟩:=h;refine ⟨λSa s σ H Q I h=>?_⟩;rw [hev];exact core I h λacc C m s' H' fl hm hz hf hb q=>⟨m,hm,λh'' sb=>⟨.ref acc,H',hb h'' sb,rfl,q⟩⟩
theorem Ao (i:Nat){g:G R}{pos' pos2:Pos}(hN:X.N.Nodup) (h:vF X c e g) (hx:autoParam (X.N[i]?=some x) zA._auto_1) (RC:autoParam (X.env.scope.names.lookup x=some .local) zA._auto_1)
 (hsw:autoParam (Wc e (some (.Name x pos')) pos2.line X.env=pure true) zA._auto_1):jc X c (.Assign [.Name x pos'] e pos2) (aN i g):=by
 obtain ⟨cm,core,_,Ri⟩:=h;refine ⟨λSa s σ H D I ⟨J,env,sr,w⟩=>?_⟩;rw [arm_exec_Assign];refine Sj (V3 ?_);rw [show XM [.Name x pos'] e pos2.line X.env=pure true from hsw];refine Sj (Sm ?_);rw [if_pos rfl,Ri];refine Sj (Sj (core (Q:=λv H1=>∃J1 r xx,Ext J H J1 H1/\RR c H J1 H1 r v/\toS r=.ok xx/\oP c J D (.nx (env.set i (some xx)))) I ⟨J,env,sr,aC (aG w) λr wr v J1 H1 e1 r1=>?_⟩ λacc C m s' H' fl hm ap hf hb ⟨J1,r,xx,e1,r1,q1,w1⟩=>?_))
 ·obtain ⟨xx,q,wr⟩:=uq wr;exact ⟨J1,r,xx,e1,r1,q,wr⟩
 ·have I1:L2.Inv X Sa σ H' s':=hb s'.heap (aaQ ..);show SO _ _ (do Ws pos';bindName X.env x (.ref acc)) _ _ _;refine Sj (V3 (wpAny_bindName ?_));refine u6 I1 hN hx (.inl RC) (v:=.ref acc) (u:=.ref acc) rfl (λs2 I2 ⟨a,sb,ha⟩=>?_) (.inr RC);have hac:C≠a:=λz=>by
   rcases ha with e | e
   ·exact ap.2.1 (z.trans e)
   ·exact ap.2.2.1 _ _ e z.symm
  refine ⟨m,hm.sameBut sb hac,λh2 sb2=>?_⟩;refine Sm (Sm ⟨σ.set i (some (.ref acc)),H',DT I2 ap hf sb2 (o0:=default),?_⟩);exact w1 _ J1 H' e1.j (sr.set e1 r1 q1)
end
noncomputable def xy (n:Nat) (cap:List Nat) (gi0:G (List D)) (gt0:GT) (gts0:G Bool) (gi1:G (List D)) (gt1:GT) (gts1:G Bool) (ge:G R):G R:=jf 10000 n cap gi0 gt0 gts0 (jd gi1 gt1 gts1 (gz ge)) (λys=>.ok (.l .fresh ys))
theorem Ka (elt t0 i0 t1 i1:Tv) (f0 f1:List Tv) (R_:Wa) (pos:Pos) (it acc:Sl) (env:Env):
  YW (.ListComp elt [⟨t0,i0,f0,0⟩,⟨t1,i1,f1,0⟩] R_ pos) 0 it acc env=(do
   Ws i0.pos
   match <-W2 it with
   | none=>pure (.done .next)
   | some v=>
    VU t0 it v
    assign t0 env v
    let mut ok:=true
    for c in f0 do
     if ok then ok <-aah c env (eval c env)
    if ok then
     let x <-eval i1 env
     Ws i1.pos
     let x <-U4 i1 env x
     let _ <-runOwn (.compStart (.ListComp elt [⟨t0,i0,f0,0⟩,⟨t1,i1,f1,0⟩] R_ pos) 1 (<-holding [x] (Y3 x)) acc env) env
    again (.compLoop (.ListComp elt [⟨t0,i0,f0,0⟩,⟨t1,i1,f1,0⟩] R_ pos) 0 it acc env)):=by rfl
theorem MV (elt t0 i0 t1 i1:Tv) (f0 f1:List Tv) (R_:Wa) (pos:Pos) (it acc:Sl) (env:Env):
  YW (.ListComp elt [⟨t0,i0,f0,0⟩,⟨t1,i1,f1,0⟩] R_ pos) 0 it acc env=oM t0 i0 f0 it env (Be (.ListComp elt [⟨t0,i0,f0,0⟩,⟨t1,i1,f1,0⟩] R_ pos) i1 acc env) (again (.compLoop (.ListComp elt [⟨t0,i0,f0,0⟩,⟨t1,i1,f1,0⟩] R_ pos) 0 it acc env)):=by
 rw [Ka];refine bind_congr λ_=>bind_congr λr=>?_;cases r with
 | none=>rfl
 | some v=>
  refine bind_congr λ_=>bind_congr λ_=>bind_congr λok=>?_;cases ok with
  | false=>rfl
  | true=>simp only [Be,bind_assoc,pure_bind,if_true]
theorem MW (elt t0 i0 t1 i1:Tv) (f0 f1:List Tv) (R_:Wa) (pos:Pos) (it acc:Sl) (env:Env):
  YW (.ListComp elt [⟨t0,i0,f0,0⟩,⟨t1,i1,f1,0⟩] R_ pos) 1 it acc env=oM t1 i1 f1 it env (do let _ <-call (.builtin "list.append") [acc,<-eval elt env]) (again (.compLoop (.ListComp elt [⟨t0,i0,f0,0⟩,⟨t1,i1,f1,0⟩] R_ pos) 1 it acc env)):=by rfl
section
variable {X:Cx}{c:C}
theorem OB (own:List Str) (cap:List Nat){R_:Wa}{pos:Pos}{gi0 gi1:G (List D)}{gts0 gts1:G Bool}{ge:G R}(hi:Co X c t0 i0 gi0)
 (hbody:∀(cl:List (Str×SM)) (C:SM) (s:Sn) (H:Hp) (fp:List SM),eO X.env.cells R_.names []=some cl->qA (fh X own cap R_ cl C s H fp) c t0 gt0/\sR (fh X own cap R_ cl C s H fp) c f0 gts0/\Cp (fh X own cap R_ cl C s H fp) c t1 i1 gi1/\qA (fh X own cap R_ cl C s H fp) c t1 gt1/\sR (fh X own cap R_ cl C s H fp) c f1 gts1/\QD (fh X own cap R_ cl C s H fp) c elt ge)
 (a:B9 X R_ cap i0:=by exact CK rfl) (hs1:∀(en:Env) x,U4 i1 en x=pure x:=by intro _ _;rfl):vF X c (.ListComp elt [⟨t0,i0,f0,0⟩,⟨t1,i1,f1,0⟩] R_ pos) (xy own.length cap gi0 gt0 gts0 gi1 gt1 gts1 ge):=by
 refine ⟨_,?_,rfl,λ_=>rfl⟩;refine pT (e:=.ListComp elt [⟨t0,i0,f0,0⟩,⟨t1,i1,f1,0⟩] R_ pos) (ob:={cls:=.type "list",dict:=none,data:=.seq ([]:List Sl).toArray}) (o0:=λ_=>.lst []) (Acc:=λp _=>AU c p) (N:=1000 * 1) (lim:=10000) (m:=λp env=>Be (.ListComp elt [⟨t0,i0,f0,0⟩,⟨t1,i1,f1,0⟩] R_ pos) i1 (.ref p) env) own cap rfl hi.h
  (λs Q E q=>S_ q) (λh H=>⟨S5 _,[],0,.nil,Sz _ rfl⟩) (λp _=>pQ) (λp _ J H _ h1 h2=>⟨[],h1,h2,.nil⟩) (by decide) (λit p env=>Bv (MV ..)) (λit acc env R s h0 h=>Zd h0 h) (λys z q=>by cases q)
  (fun {p H2 J H J' H' ys r} hp _ e ⟨us,h1,h2,h3⟩ q=>by cases q;exact ⟨J',e,⟨p,us,rfl,h1,h2,hp,h3⟩⟩) (λcl C s H fp hcc=>?_) yL a
 obtain ⟨b1,b2,b3,b4,b5,b6⟩:=hbody cl C s H fp hcc;exact ⟨b1.h,b2.h,λp J2 H2 hp2 hp0=>Ie pQ a.hcalm (λ_ _ f=>f) (λx=>hs1 _ x) (λit R s h0 h=>MM h0 h) (λit=>Bv (MW ..)) b3.h b4.h b5.h (zl hp2 hp0 b6.h)⟩
end
end DL
namespace DL
open PySem PySem.Spec PyProof.Rows L2
open PySem.W (KasT kas_sort kas_asc kas_desc kas_rev kas_tail3 kas_descPart kas_count kas_place kas_bin)
theorem run_bind {α β:Type}(q:Nat->Nat->Bool) (f:α->KasT β):∀t:KasT α,aZ q (t.bind f)=aZ q (f (aZ q t))
 | .ret _=>rfl
 | .ask i j k=>run_bind q f (k (q i j))
theorem Gy {n:Nat}{α:Type}{P:α->Prop}{t:KasT α}{q q':Nat->Nat->Bool}(h:fS n P t) (e:∀i j,i < n->j < n->q i j=q' i j):aZ q t=aZ q' t:=by
 induction h with
 | ret _=>rfl
 | @ask i j k h1 h2 _ ih=>
  show aZ q (k (q i j))=aZ q' (k (q' i j));rw [e _ _ h1 h2];exact ih _
structure Ord (q:Nat->Nat->Bool):Prop where
 asy:∀a b,q a b=true->q b a=false
 tra:∀a b c,q b a=false->q c b=false->q c a=false
section
variable {q:Nat->Nat->Bool}{n:Nat}
abbrev bA (p:Array Nat) (k:Nat):Nat:=p.getD k 0
def Up (q:Nat->Nat->Bool) (p:Array Nat) (k:Nat):Prop:=∀i j,i<=j->j < k->q (bA p j) (bA p i)=false
def Down (q:Nat->Nat->Bool) (p:Array Nat) (k:Nat):Prop:=∀i j,i<=j->j < k->q (bA p i) (bA p j)=false
theorem Ord.irr (O:Ord q) (a:Nat):q a a=false:=by
 cases h:q a a with
 | false=>rfl
 | true=>rw [<-h];exact (O.asy a a h)
theorem getD_eq (h:p[i]?=p'[j]?):bA p i=bA p' j:=by show p.getD i 0=p'.getD j 0;rw [Yb,Yb,h]
theorem iA {p:Array Nat}(hj:j<=p.size) (k:Nat):bA (Xy p i j) k=if i<=k/\k < j then bA p (i + j - 1 - k) else bA p k:=by
 have e:=getElem?_mirror_all (xs:=p) (i:=i) hj k;by_cases c:i<=k/\k < j
 ·rw [if_pos c] at e ⊢;exact getD_eq e
 ·rw [if_neg c] at e ⊢;exact getD_eq e
theorem Ct {p:Array Nat}(hs:src < p.size) (hd:d<=src) (k:Nat):bA (bubble p src d) k=if k=src - d then bA p src else if src - d < k/\k<=src then bA p (k - 1) else bA p k:=by
 have e:=getElem?_bubble hs d hd k;by_cases c:k=src - d
 ·rw [if_pos c] at e ⊢;exact getD_eq e
 ·rw [if_neg c] at e ⊢;by_cases c':src - d < k/\k<=src
  ·rw [if_pos c'] at e ⊢;exact getD_eq e
  ·rw [if_neg c'] at e ⊢;exact getD_eq e
theorem h_ (p:Array Nat) (i j:Nat):(Xy p i j).size=p.size:=mirror_size _ _ _ _
theorem Up.one (O:Ord q) (p:Array Nat):Up q p 1:=λi j h1 h2=>by
 have:i=j:=by omega
 rw [this];exact O.irr _
theorem Up.more (O:Ord q) (h:Up q p k) (h1:1<=k) (e:q (bA p k) (bA p (k - 1))=false):Up q p (k + 1):=λi j hi hj=>by
 by_cases c:j < k
 ·exact h i j hi c
 ·have:j=k:=by omega
  subst this;by_cases c':i=j
  ·rw [c'];exact O.irr _
  ·exact O.tra _ _ _ (h i (j - 1) (by omega) (by omega)) e
theorem Down.more (O:Ord q) (h:Down q p k) (h1:1<=k) (e:q (bA p (k - 1)) (bA p k)=false):Down q p (k + 1):=λi j hi hj=>by
 by_cases c:j < k
 ·exact h i j hi c
 ·have:j=k:=by omega
  subst this;by_cases c':i=j
  ·rw [c'];exact O.irr _
  ·exact O.tra _ _ _ e (h i (j - 1) (by omega) (by omega))
theorem wI (O:Ord q) (p:Array Nat):∀(f m:Nat),1<=m->Up q p m->m<=aZ q (Xz p f m)/\aZ q (Xz p f m)<=m + f/\Up q p (aZ q (Xz p f m))/\(aZ q (Xz p f m)=m + f\/q (bA p (aZ q (Xz p f m))) (bA p (aZ q (Xz p f m) - 1))=true)
 | 0,m,h1,h=>⟨Sw _,Sw _,h,.inl rfl⟩
 | f + 1,m,h1,h=>by
  have e:aZ q (Xz p (f + 1) m)=if q (bA p m) (bA p (m - 1))=true then m else aZ q (Xz p f (m + 1)):=by
   show aZ q (if q (bA p m) (bA p (m - 1))=true then KasT.ret m else Xz p f (m + 1))=_;by_cases c:q (bA p m) (bA p (m - 1))=true
   ·rw [if_pos c,if_pos c];rfl
   ·rw [if_neg c,if_neg c]
  rw [e];by_cases c:q (bA p m) (bA p (m - 1))=true
  ·rw [if_pos c];exact ⟨Sw _,by omega,h,.inr c⟩
  ·rw [if_neg c];obtain ⟨a1,a2,a3,a4⟩:=wI O p f (m + 1) (by omega) (h.more O h1 (by simpa using c));refine ⟨by omega,by omega,a3,?_⟩;rcases a4 with a4 | a4
   ·exact .inl (by omega)
   ·exact .inr a4
def Alike (q:Nat->Nat->Bool) (p:Array Nat) (i j:Nat):Prop:=∀a b,i<=a->a < j->i<=b->b < j->q (bA p a) (bA p b)=false
theorem uU {p:Array Nat}{i j k:Nat}(hj:j<=p.size) (ha:Alike q p i j) (hd:Down q p j) (O:Ord q):Down q (Xy p i j) j:=λa b h1 h2=>by
 rw [iA hj,iA hj];by_cases c:i<=a/\a < j
 ·rw [if_pos c];by_cases c':i<=b/\b < j
  ·rw [if_pos c'];exact ha _ _ (by omega) (by omega) (by omega) (by omega)
  ·omega
 ·rw [if_neg c];by_cases c':i<=b/\b < j
  ·rw [if_pos c'];exact hd _ _ (by omega) (by omega)
  ·rw [if_neg c'];exact hd _ _ h1 h2
theorem MB {p:Array Nat}(hj:j<=p.size) (hd:Down q p j):Up q (Xy p 0 j) j:=λa b h1 h2=>by rw [iA hj,iA hj,if_pos (by omega),if_pos (by omega)];exact hd _ _ (by omega) (by omega)
theorem rZ {p:Array Nat}(hj:j<=p.size) (h:j<=k):bA (Xy p i j) k=bA p k:=by rw [iA hj,if_neg (by omega)]
theorem kq (O:Ord q):∀(f:Nat) (p:Array Nat) (m e:Nat),1<=m->e + 1<=m->m + f<=p.size->Down q p m->Alike q p (m - (e + 1)) m->
  (aZ q (Vn f p m e)).1.size=p.size/\m<=(aZ q (Vn f p m e)).2.1/\(aZ q (Vn f p m e)).2.1<=m + f/\(aZ q (Vn f p m e)).2.2 + 1<=(aZ q (Vn f p m e)).2.1/\
  Down q (aZ q (Vn f p m e)).1 (aZ q (Vn f p m e)).2.1/\Alike q (aZ q (Vn f p m e)).1 ((aZ q (Vn f p m e)).2.1 - ((aZ q (Vn f p m e)).2.2 + 1)) (aZ q (Vn f p m e)).2.1
 | 0,p,m,e,h1,h2,h3,h4,h5=>⟨rfl,Sw _,Sw _,h2,h4,h5⟩
 | f + 1,p,m,e,h1,h2,h3,h4,h5=>by
  have solo:∀(p:Array Nat) (m:Nat),Alike q p (m + 1 - (0 + 1)) (m + 1):=λp m a b c1 c2 c3 c4=>by
   have:a=b:=by omega
   rw [this];exact O.irr _
  cases c:q (bA p m) (bA p (m - 1)) with
  | true=>
   have c2:=O.asy _ _ c;by_cases he:e > 0
   ·have er:aZ q (Vn (f + 1) p m e)=aZ q (Vn f (Xy p (m - (e + 1)) m) (m + 1) 0):=by show aZ q (if q (bA p m) (bA p (m - 1))=true then _ else _)=_;rw [if_pos c,if_pos he]
    rw [er];have hr:=uU (k:=0) (i:=m - (e + 1)) (by omega:m<=p.size) h5 h4 O;have hl:bA (Xy p (m - (e + 1)) m) (m - 1)=bA p (m - (e + 1)):=by rw [iA (by omega),if_pos (by omega)];congr 1;omega
    obtain ⟨a0,a1,a2,a3,a4,a5⟩:=kq O f (Xy p (m - (e + 1)) m) (m + 1) 0 (by omega) (by omega) (by rw [h_];omega)
     (hr.more O h1 (by
      rw [hl,rZ (by omega) (Sw _)];exact O.tra _ _ _ c2 (h5 _ _ (by omega) (by omega) (by omega) (by omega)))) (solo _ _)
    rw [h_] at a0;exact ⟨a0,by omega,by omega,a3,a4,a5⟩
   ·have er:aZ q (Vn (f + 1) p m e)=aZ q (Vn f p (m + 1) 0):=by show aZ q (if q (bA p m) (bA p (m - 1))=true then _ else _)=_;rw [if_pos c,if_neg he]
    rw [er];obtain ⟨a0,a1,a2,a3,a4,a5⟩:=kq O f p (m + 1) 0 (by omega) (by omega) (by omega) (h4.more O h1 c2) (solo _ _);exact ⟨a0,by omega,by omega,a3,a4,a5⟩
  | false=>
   cases c2:q (bA p (m - 1)) (bA p m) with
   | true=>
    have er:aZ q (Vn (f + 1) p m e)=(p,m,e):=by show aZ q (if q (bA p m) (bA p (m - 1))=true then _ else _)=_;rw [if_neg (by rw [c];decide)];show aZ q (if q (bA p (m - 1)) (bA p m)=true then _ else _)=_;rw [if_pos c2];rfl
    rw [er];exact ⟨rfl,Sw _,Nat.le_add_right _ _,h2,h4,h5⟩
   | false=>
    have er:aZ q (Vn (f + 1) p m e)=aZ q (Vn f p (m + 1) (e + 1)):=by show aZ q (if q (bA p m) (bA p (m - 1))=true then _ else _)=_;rw [if_neg (by rw [c];decide)];show aZ q (if q (bA p (m - 1)) (bA p m)=true then _ else _)=_;rw [if_neg (by rw [c2];decide)]
    rw [er];have hal:Alike q p (m + 1 - (e + 1 + 1)) (m + 1):=λa b d1 d2 d3 d4=>by
     by_cases ea:a=m
     ·subst ea;by_cases eb:b=a
      ·rw [eb];exact O.irr _
      ·exact O.tra _ _ _ (h5 (a - 1) b (by omega) (by omega) (by omega) (by omega)) c
     ·by_cases eb:b=m
      ·subst eb;exact O.tra _ _ _ c2 (h5 a (b - 1) (by omega) (by omega) (by omega) (by omega))
      ·exact h5 a b (by omega) (by omega) (by omega) (by omega)
    obtain ⟨a0,a1,a2,a3,a4,a5⟩:=kq O f p (m + 1) (e + 1) (by omega) (by omega) (by omega) (h4.more O h1 c2) hal;exact ⟨a0,by omega,by omega,a3,a4,a5⟩
def Got (q:Nat->Nat->Bool) (N s:Nat) (r:Nat×Array Nat):Prop:=r.2.size=s/\1<=r.1/\r.1<=N/\Up q r.2 r.1
theorem AA (O:Ord q){p:Array Nat}(h1:1<=m) (hm:m<=N) (hN:N<=p.size) (hd:Down q p m):Got q N p.size (aZ q (acQ m N p)):=by unfold acQ;rw [run_bind];obtain ⟨a1,a2,a3,_⟩:=wI O (Xy p 0 m) (N - m) m h1 (MB (by omega) hd);exact ⟨h_ _ _ _,by show 1<=aZ q (Xz _ _ _);omega,by show aZ q (Xz _ _ _)<=N;omega,a3⟩
theorem Af (O:Ord q){p:Array Nat}(h1:1<=m) (hm:m + 1<=N) (hN:N<=p.size) (hd:Down q p (m + 1)):Got q N p.size (aZ q (aa4 m N p)):=by
 unfold aa4;rw [run_bind];obtain ⟨a0,a1,a2,a3,a4,a5⟩:=kq O (N - (m + 1)) p (m + 1) 0 (by omega) (by omega) (by omega) hd (λa b c1 c2 c3 c4=>by
  have:a=b:=by omega
  rw [this];exact O.irr _)
 generalize aZ q (Vn (N - (m + 1)) p (m + 1) 0)=r at *;obtain ⟨p',m',e'⟩:=r;simp only at *;by_cases c:e' > 0
 ·rw [if_pos c];have:=AA (N:=N) O (p:=Xy p' (m' - (e' + 1)) m') (m:=m') (by omega) (by omega) (by rw [h_];omega) (uU (k:=0) (by omega) a5 a4 O);rw [h_,a0] at this;exact this
 ·rw [if_neg c];have:=AA (N:=N) O (p:=p') (m:=m') (by omega) (by omega) (by omega) a4;rw [a0] at this;exact this
theorem E6 (O:Ord q){p:Array Nat}(h1:1<=N) (hN:N<=p.size):Got q N p.size (aZ q (aby N p)):=by
 unfold aby;rw [run_bind];obtain ⟨a1,a2,a3,a4⟩:=wI O p (N - 1) 1 (Sw _) (Up.one O p);generalize aZ q (Xz p (N - 1) 1)=m at *;by_cases c:(m == N)=true
 ·rw [if_pos c];exact ⟨rfl,a1,by show m<=N;omega,a3⟩
 ·rw [if_neg c];have hm:m + 1<=N:=by
   have:m≠N:=by simpa using c
   omega
  have a4:q (bA p m) (bA p (m - 1))=true:=by
   rcases a4 with h | h
   ·omega
   ·exact h
  have a5:=O.asy _ _ a4;by_cases c':m > 1
  ·rw [if_pos c'];show Got q N p.size (aZ q (if q (bA p 0) (bA p (m - 1))=true then _ else _));by_cases d:q (bA p 0) (bA p (m - 1))=true
   ·rw [if_pos d];exact ⟨rfl,a1,by show m<=N;omega,a3⟩
   ·rw [if_neg d];have d:q (bA p 0) (bA p (m - 1))=false:=by simpa using d
    have all:∀a b,a < m->b < m->q (bA p a) (bA p b)=false:=λa b ha hb=>O.tra _ _ _ (O.tra _ _ _ (a3 b (m - 1) (by omega) (by omega)) d) (a3 0 a (by omega) (by omega));have hd:Down q (Xy p 0 m) m:=λa b h1 h2=>by rw [iA (by omega),iA (by omega),if_pos (by omega),if_pos (by omega)];exact all _ _ (by omega) (by omega)
    have:=Af O (p:=Xy p 0 m) (m:=m) (N:=N) (by omega) hm (by rw [h_];exact hN) (hd.more O (by omega) (by
     rw [rZ (by omega) (Sw _),iA (by omega),if_pos (by omega),show 0 + m - 1 - (m - 1)=0 by omega];exact O.tra _ _ _ a5 d))
    rw [h_] at this;exact this
  ·rw [if_neg c'];have:m=1:=by omega
   subst this;refine Af O (Sw _) hm hN ?_;exact Down.more O (λi j h1 h2=>by
    have:i=j:=by omega
    rw [this];exact O.irr _) (Sw _) a5
theorem pZ (O:Ord q) (hs:Up q p k):∀(f l r:Nat),l<=r->r<=k->r - l<=f->(∀i,i < l->q (bA p k) (bA p i)=false)->(∀i,r<=i->i < k->q (bA p k) (bA p i)=true)->
  aZ q (VH p k f l r)<=k/\(∀i,i < aZ q (VH p k f l r)->q (bA p k) (bA p i)=false)/\∀i,aZ q (VH p k f l r)<=i->i < k->q (bA p k) (bA p i)=true
 | 0,l,r,h1,h2,h3,h4,h5=>⟨by show l<=k;omega,h4,λi hi=>h5 i (by show r<=i;have:l<=i:=hi;omega)⟩
 | f + 1,l,r,h1,h2,h3,h4,h5=>by
  by_cases c:l ≥ r
  ·have e:aZ q (VH p k (f + 1) l r)=l:=by unfold VH;rw [if_pos c];rfl
   rw [e];exact ⟨by omega,h4,λi hi=>h5 i (by omega)⟩
  ·cases d:q (bA p k) (bA p ((l + r) / 2)) with
   | true=>
    have e:aZ q (VH p k (f + 1) l r)=aZ q (VH p k f l ((l + r) / 2)):=by rw [VH,if_neg c];show aZ q (if q (bA p k) (bA p ((l + r) / 2))=true then _ else _)=_;rw [if_pos d]
    rw [e];refine pZ O hs f l ((l + r) / 2) (by omega) (by omega) (by omega) h4 λi i1 i2=>?_;by_cases ci:r<=i
    ·exact h5 i ci i2
    ·cases dd:q (bA p k) (bA p i) with
     | true=>rfl
     | false=>
      have:=O.tra _ _ _ (hs ((l + r) / 2) i i1 i2) dd;rw [d] at this;cases this
   | false=>
    have e:aZ q (VH p k (f + 1) l r)=aZ q (VH p k f ((l + r) / 2 + 1) r):=by rw [VH,if_neg c];show aZ q (if q (bA p k) (bA p ((l + r) / 2))=true then _ else _)=_;rw [if_neg (by rw [d];decide)]
    rw [e];refine pZ O hs f ((l + r) / 2 + 1) r (by omega) (by omega) (by omega) (λi hi=>?_) h5;exact O.tra _ _ _ (hs i ((l + r) / 2) (by omega) (by omega)) d
theorem K0 (O:Ord q){p:Array Nat}(hk:k < p.size) (hl:l<=k) (hs:Up q p k) (h1:∀i,i < l->q (bA p k) (bA p i)=false) (h2:∀i,l<=i->i < k->q (bA p k) (bA p i)=true):Up q (bubble p k (k - l)) (k + 1):=λi j hi hj=>by
 rw [Ct hk (by omega),Ct hk (by omega),show k - (k - l)=l by omega];by_cases a:i=l
 ·rw [if_pos a];by_cases b:j=l
  ·rw [if_pos b];exact O.irr _
  ·rw [if_neg b,if_pos (by omega)];exact O.asy _ _ (h2 (j - 1) (by omega) (by omega))
 ·rw [if_neg a];by_cases b:j=l
  ·rw [if_pos b,if_neg (by omega)];exact h1 i (by omega)
  ·rw [if_neg b];by_cases a':l < i/\i<=k
   ·rw [if_pos a',if_pos (by omega)];exact hs _ _ (by omega) (by omega)
   ·rw [if_neg a'];by_cases b':l < j/\j<=k
    ·rw [if_pos b'];exact hs _ _ (by omega) (by omega)
    ·rw [if_neg b'];exact hs _ _ hi (by omega)
theorem Cv (O:Ord q):∀(f:Nat) (p:Array Nat) (k:Nat),k + f<=p.size->Up q p k->Up q (aZ q (acw f p k)) (k + f)
 | 0,p,k,_,h=>h
 | f + 1,p,k,hs,h=>by
  have e:aZ q (acw (f + 1) p k)=aZ q (acw f (bubble p k (k - aZ q (VH p k k 0 k))) (k + 1)):=by rw [acw,run_bind]
  rw [e];obtain ⟨a1,a2,a3⟩:=pZ O h k 0 k (S5 _) (Sw _) (by omega) (λi hi=>by omega) (λi h1 h2=>by omega);have:=Cv O f (bubble p k (k - aZ q (VH p k k 0 k))) (k + 1) (by rw [bubble_size];omega) (K0 O (by omega) a1 h a2 a3);rw [show k + (f + 1)=k + 1 + f by omega];exact this
theorem JW (O:Ord q) (n:Nat) (hn:1<=n):Up q (aZ q (Wm n)) n:=by
 unfold Wm;rw [run_bind];obtain ⟨a0,a1,a2,a3⟩:=E6 O (p:=(Sx n).toArray) (N:=n) hn (by simp);generalize aZ q (aby n (Sx n).toArray)=r at *;have a0:r.2.size=n:=by simpa using a0
 by_cases c:r.1 < n
 ·rw [if_pos c];have:=Cv O (n - max r.1 1) r.2 (max r.1 1) (by omega) (by rw [show max r.1 1=r.1 by omega];exact a3)
  rwa [show max r.1 1 + (n - max r.1 1)=n by omega] at this
 ·rw [if_neg c];have:r.1=n:=by omega
  rw [this] at a3;exact a3
end
end DL
namespace DL
open PySem PySem.Spec PyProof.Rows L2
open PySem.W (kas_sort)
def fR (x y:D):Bool:=(eZ x y).getD false
structure iw (P:D->Prop):Prop where
 eq:∀x y,P x->P y->(cA x y=true↔x=y)
 lt:∀x y,P x->P y->(eZ x y).isSome=true
 asy:∀x y,P x->P y->fR x y=true->fR y x=false
 tri:∀x y,P x->P y->fR x y=false->fR y x=false->x=y
 tra:∀x y z,P x->P y->P z->fR x y=true->fR y z=true->fR x z=true
def gP (xs ys:List D):Bool:=fR (.tup xs) (.tup ys)
theorem iW (x y:D) (xs ys:List D):gP (x::xs) (y::ys)=if cA x y=true then gP xs ys else fR x y:=by
 show (if cA x y=true then jq xs ys else eZ x y).getD false=_;by_cases h:cA x y=true
 ·rw [if_pos h,if_pos h];rfl
 ·rw [if_neg h,if_neg h];rfl
variable {P R:D->Prop}
theorem tE (xs ys:List D):cA (.tup xs) (.tup ys)=fj xs ys:=by rw [cA]
theorem oh (x y:D) (xs ys:List D):fj (x::xs) (y::ys)=(cA x y && fj xs ys):=by rw [fj]
structure jO (Q:List D->Prop):Prop where
 eq:∀x y,Q x->Q y->(fj x y=true↔x=y)
 lt:∀x y,Q x->Q y->(jq x y).isSome=true
 asy:∀x y,Q x->Q y->gP x y=true->gP y x=false
 tri:∀x y,Q x->Q y->gP x y=false->gP y x=false->x=y
 tra:∀x y z,Q x->Q y->Q z->gP x y=true->gP y z=true->gP x z=true
theorem jO.tot {Q:List D->Prop}(h:jO Q):iw λd=>∃xs,d=.tup xs/\Q xs where
 eq:=by rintro _ _ ⟨x,rfl,hx⟩ ⟨y,rfl,hy⟩;rw [tE,h.eq x y hx hy];exact ⟨λe=>e▸rfl,λe=>by cases e;rfl⟩
 lt:=by rintro _ _ ⟨x,rfl,hx⟩ ⟨y,rfl,hy⟩;exact h.lt x y hx hy
 asy:=by rintro _ _ ⟨x,rfl,hx⟩ ⟨y,rfl,hy⟩;exact h.asy x y hx hy
 tri:=by rintro _ _ ⟨x,rfl,hx⟩ ⟨y,rfl,hy⟩ h1 h2;rw [h.tri x y hx hy h1 h2]
 tra:=by rintro _ _ _ ⟨x,rfl,hx⟩ ⟨y,rfl,hy⟩ ⟨z,rfl,hz⟩;exact h.tra x y z hx hy hz
theorem zY (p:iw P) (px:P x) (py:P y) (pz:P z) (h:gP r s=true->gP s t=true->gP r t=true) (h1:gP (x::r) (y::s)=true) (h2:gP (y::s) (z::t)=true):gP (x::r) (z::t)=true:=by
 rw [iW] at h1 h2 ⊢;by_cases e:x=y
 ·subst e;rw [if_pos ((p.eq x x px px).mpr rfl)] at h1;by_cases f:x=z
  ·subst f;rw [if_pos ((p.eq x x px px).mpr rfl)] at h2 ⊢;exact h h1 h2
  ·rw [if_neg λq=>f ((p.eq x z px pz).mp q)] at h2 ⊢;exact h2
 ·rw [if_neg λq=>e ((p.eq x y px py).mp q)] at h1;by_cases f:y=z
  ·subst f;rw [if_neg λq=>e ((p.eq x y px py).mp q)];exact h1
  ·rw [if_neg λq=>f ((p.eq y z py pz).mp q)] at h2;have h3:=p.tra x y z px py pz h1 h2;by_cases g:x=z
   ·subst g;have:=p.asy x x px px h3;rw [h3] at this;cases this
   ·rw [if_neg λq=>g ((p.eq x z px pz).mp q)];exact h3
theorem jO.cons {Q:List D->Prop}(p:iw P) (h:jO Q):jO λxs=>∃x r,xs=x::r/\P x/\Q r where
 eq:=by rintro _ _ ⟨x,r,rfl,px,qr⟩ ⟨y,s,rfl,py,qs⟩;rw [oh,SI,p.eq x y px py,h.eq r s qr qs];exact ⟨λe=>by rw [e.1,e.2],λe=>by cases e;exact ⟨rfl,rfl⟩⟩
 lt:=by
  rintro _ _ ⟨x,r,rfl,px,qr⟩ ⟨y,s,rfl,py,qs⟩;show (if cA x y=true then jq r s else eZ x y).isSome=true;split
  ·exact h.lt r s qr qs
  ·exact p.lt x y px py
 asy:=by
  rintro _ _ ⟨x,r,rfl,px,qr⟩ ⟨y,s,rfl,py,qs⟩ hl;rw [iW] at hl ⊢;by_cases e:x=y
  ·subst e;rw [if_pos ((p.eq x x px px).mpr rfl)] at hl ⊢;exact h.asy r s qr qs hl
  ·rw [if_neg λz=>e ((p.eq x y px py).mp z)] at hl;rw [if_neg λz=>e ((p.eq y x py px).mp z).symm];exact p.asy x y px py hl
 tri:=by
  rintro _ _ ⟨x,r,rfl,px,qr⟩ ⟨y,s,rfl,py,qs⟩ h1 h2;rw [iW] at h1 h2;by_cases e:x=y
  ·subst e;rw [if_pos ((p.eq x x px px).mpr rfl)] at h1 h2;rw [h.tri r s qr qs h1 h2]
  ·rw [if_neg λz=>e ((p.eq x y px py).mp z)] at h1;rw [if_neg λz=>e ((p.eq y x py px).mp z).symm] at h2;exact absurd (p.tri x y px py h1 h2) e
 tra:=by rintro _ _ _ ⟨x,r,rfl,px,qr⟩ ⟨y,s,rfl,py,qs⟩ ⟨z,t,rfl,pz,qt⟩ h1 h2;exact zY p px py pz (h.tra r s t qr qs qt) h1 h2
theorem jO.nil:jO λxs=>xs=[] where
 eq:=by rintro _ _ rfl rfl;simp [fj]
 lt:=by rintro _ _ rfl rfl;rfl
 asy:=by rintro _ _ rfl rfl h;cases h
 tri:=by rintro _ _ rfl rfl _ _;rfl
 tra:=by rintro _ _ _ rfl rfl rfl h;cases h
theorem iw.list (p:iw P):jO λxs=>∀x∈xs,P x where
 eq:=by
  intro xs
  induction xs with
  | nil=>intro ys _ _;cases ys <;> simp [fj]
  | cons x xs ih=>
   intro ys hx hy;cases ys with
   | nil=>simp [fj]
   | cons y ys=>
    rw [oh,SI,p.eq x y (hx x Sv) (hy y Sv),ih ys (λz hz=>hx z (Ss _ hz)) λz hz=>hy z (Ss _ hz)];exact ⟨λe=>by rw [e.1,e.2],λe=>by cases e;exact ⟨rfl,rfl⟩⟩
 lt:=by
  intro xs
  induction xs with
  | nil=>intro ys _ _;rfl
  | cons x xs ih=>
   intro ys hx hy;cases ys with
   | nil=>rfl
   | cons y ys=>
    show (if cA x y=true then jq xs ys else eZ x y).isSome=true;split
    ·exact ih ys (λz hz=>hx z (Ss _ hz)) λz hz=>hy z (Ss _ hz)
    ·exact p.lt x y (hx x Sv) (hy y Sv)
 asy:=by
  intro xs
  induction xs with
  | nil=>
   intro ys _ _ h;cases ys with
   | nil=>cases h
   | cons y ys=>rfl
  | cons x xs ih=>
   intro ys hx hy hl;cases ys with
   | nil=>cases hl
   | cons y ys=>
    have px:=hx x Sv;have py:=hy y Sv;rw [iW] at hl ⊢;by_cases e:x=y
    ·subst e;rw [if_pos ((p.eq x x px px).mpr rfl)] at hl ⊢;exact ih ys (λz hz=>hx z (Ss _ hz)) (λz hz=>hy z (Ss _ hz)) hl
    ·rw [if_neg λz=>e ((p.eq x y px py).mp z)] at hl;rw [if_neg λz=>e ((p.eq y x py px).mp z).symm];exact p.asy x y px py hl
 tri:=by
  intro xs
  induction xs with
  | nil=>
   intro ys _ _ h1 h2;cases ys with
   | nil=>rfl
   | cons y ys=>cases h1
  | cons x xs ih=>
   intro ys hx hy h1 h2;cases ys with
   | nil=>cases h2
   | cons y ys=>
    have px:=hx x Sv;have py:=hy y Sv;rw [iW] at h1 h2;by_cases e:x=y
    ·subst e;rw [if_pos ((p.eq x x px px).mpr rfl)] at h1 h2;rw [ih ys (λz hz=>hx z (Ss _ hz)) (λz hz=>hy z (Ss _ hz)) h1 h2]
    ·rw [if_neg λz=>e ((p.eq x y px py).mp z)] at h1;rw [if_neg λz=>e ((p.eq y x py px).mp z).symm] at h2;exact absurd (p.tri x y px py h1 h2) e
 tra:=by
  intro xs
  induction xs with
  | nil=>
   intro ys zs _ _ _ h1 h2;cases ys with
   | nil=>cases h1
   | cons y ys=>
    cases zs with
    | nil=>cases h2
    | cons z zs=>rfl
  | cons x xs ih=>
   intro ys zs hx hy hz h1 h2;cases ys with
   | nil=>cases h1
   | cons y ys=>
    cases zs with
    | nil=>cases h2
    | cons z zs=>
     have px:=hx x Sv;have py:=hy y Sv;have pz:=hz z Sv;exact zY p px py pz (ih ys zs (λz hz=>hx z (Ss _ hz)) (λz hz=>hy z (Ss _ hz)) λw hw=>hz w (Ss _ hw)) h1 h2
theorem NY:iw λd=>∃k,d=.bl k where
 eq:=by rintro _ _ ⟨x,rfl⟩ ⟨y,rfl⟩;simp [cA]
 lt:=by rintro _ _ ⟨x,rfl⟩ ⟨y,rfl⟩;rfl
 asy:=by rintro _ _ ⟨x,rfl⟩ ⟨y,rfl⟩;revert x y;decide
 tri:=by
  rintro _ _ ⟨x,rfl⟩ ⟨y,rfl⟩ h1 h2;revert h1 h2;cases x <;> cases y <;> intro h1 h2
  ·rfl
  ·exact absurd h1 (by decide)
  ·exact absurd h2 (by decide)
  ·rfl
 tra:=by rintro _ _ _ ⟨x,rfl⟩ ⟨y,rfl⟩ ⟨z,rfl⟩;revert x y z;decide
theorem lB (x y:Int):fR (.int x) (.int y)=decide (x < y):=rfl
theorem NZ:iw λd=>∃k,d=.int k where
 eq:=by rintro _ _ ⟨x,rfl⟩ ⟨y,rfl⟩;simp [cA]
 lt:=by rintro _ _ ⟨x,rfl⟩ ⟨y,rfl⟩;rfl
 asy:=by rintro _ _ ⟨x,rfl⟩ ⟨y,rfl⟩ h;rw [lB,decide_eq_true_eq] at h;rw [lB,decide_eq_false_iff_not];omega
 tri:=by rintro _ _ ⟨x,rfl⟩ ⟨y,rfl⟩ h1 h2;rw [lB,decide_eq_false_iff_not] at h1 h2;rw [show x=y by omega]
 tra:=by rintro _ _ _ ⟨x,rfl⟩ ⟨y,rfl⟩ ⟨z,rfl⟩ h1 h2;rw [lB,decide_eq_true_eq] at h1 h2 ⊢;omega
theorem oA (x y:Str):fR (.str x) (.str y)=decide (x.cps.toList < y.cps.toList):=rfl
theorem uf {x y:Str}(h:x.cps.toList=y.cps.toList):x=y:=by obtain ⟨⟨cx⟩⟩:=x;obtain ⟨⟨cy⟩⟩:=y;simp only at h;rw [h]
theorem N1:iw λd=>∃k,d=.str k where
 eq:=by rintro _ _ ⟨x,rfl⟩ ⟨y,rfl⟩;simp [cA]
 lt:=by rintro _ _ ⟨x,rfl⟩ ⟨y,rfl⟩;rfl
 asy:=by rintro _ _ ⟨x,rfl⟩ ⟨y,rfl⟩ h;rw [oA,decide_eq_true_eq] at h;rw [oA,decide_eq_false_iff_not];exact List.lt_asymm h
 tri:=by rintro _ _ ⟨x,rfl⟩ ⟨y,rfl⟩ h1 h2;rw [oA,decide_eq_false_iff_not] at h1 h2;rw [uf (aba h2 h1)]
 tra:=by rintro _ _ _ ⟨x,rfl⟩ ⟨y,rfl⟩ ⟨z,rfl⟩ h1 h2;rw [oA,decide_eq_true_eq] at h1 h2 ⊢;exact List.lt_trans h1 h2
inductive Fm where
 | b | i | s | hom (t:Fm) | tn | tc (x r:Fm)
noncomputable def sN:Fm->D->Prop
 | .b,d=>∃k,d=.bl k
 | .i,d=>∃k,d=.int k
 | .s,d=>∃k,d=.str k
 | .hom t,d=>∃xs,d=.tup xs/\∀x∈xs,sN t x
 | .tn,d=>∃xs,d=.tup xs/\xs=[]
 | .tc x r,d=>∃xs,d=.tup xs/\∃y ys,xs=y::ys/\sN x y/\sN r (.tup ys)
theorem iw.tail {Q:List D->Prop}(h:iw R) (k:∀xs,Q xs->R (.tup xs)):jO Q where
 eq:=λx y hx hy=>by have:=h.eq _ _ (k x hx) (k y hy);rw [tE] at this;rw [this];exact ⟨λe=>by cases e;rfl,λe=>e▸rfl⟩
 lt:=λx y hx hy=>h.lt _ _ (k x hx) (k y hy)
 asy:=λx y hx hy=>h.asy _ _ (k x hx) (k y hy)
 tri:=λx y hx hy h1 h2=>by have:=h.tri _ _ (k x hx) (k y hy) h1 h2;cases this;rfl
 tra:=λx y z hx hy hz=>h.tra _ _ _ (k x hx) (k y hy) (k z hz)
theorem oK:∀t:Fm,iw (sN t)
 | .b=>NY
 | .i=>NZ
 | .s=>N1
 | .hom t=>(oK t).list.tot
 | .tn=>jO.nil.tot
 | .tc x r=>(jO.cons (oK x) (iw.tail (Q:=λys=>sN r (.tup ys)) (oK r) λ_ h=>h)).tot
theorem NJ (ds:List D):(bM ds).length=ds.length:=by
 unfold bM;by_cases h:ds.length < 2
 ·rw [if_pos h]
 ·rw [if_neg h,So];have:=((iB (n:=ds.length) (by omega)).run (ltB ds)).size_eq;simpa using this
theorem Jb (ds:List D):(Sx ds.length).map (dU ds)=ds:=by refine VC (by simp) λi h1 h2=>?_;rw [Y7,aaA];unfold dU;rw [Tf,SH h2];rfl
theorem sD (ds:List D):(bM ds).Perm ds:=by
 unfold bM;by_cases h:ds.length < 2
 ·rw [if_pos h]
 ·rw [if_neg h];have hp:=(iB (n:=ds.length) (by omega)).run (ltB ds);have hq:(aZ (ltB ds) (Wm ds.length)).toList.Perm (Sx ds.length):=by have:=Array.perm_iff_toList_perm.mp hp;simpa using this
  have:=hq.map (dU ds)
  rwa [Jb] at this
theorem GC (p:iw P) (ds:List D) (h:∀x∈ds,P x):(bM ds).Pairwise λx y=>fR y x=false:=by
 unfold bM;by_cases h2:ds.length < 2
 ·rw [if_pos h2]
  match ds,h2 with
  | [],_=>exact .nil
  | [x],_=>exact WV _ _
 ·rw [if_neg h2];have hn:0 < ds.length:=by omega
  have hb:=iB (n:=ds.length) hn;have at_P:∀i,i < ds.length->P (dU ds i):=λi hi=>h _ (ic hi)
  let q':Nat->Nat->Bool:=λi j=>if i < ds.length then (if j < ds.length then ltB ds i j else true) else false
  have hq:aZ (ltB ds) (Wm ds.length)=aZ q' (Wm ds.length):=Gy hb λi j hi hj=>by simp [q',hi,hj]
  have O:Ord q':=by
   constructor
   ·intro a b hab;by_cases ha:a < ds.length <;> by_cases hb:b < ds.length <;> simp [q',ha,hb] at hab ⊢
    exact p.asy _ _ (at_P a ha) (at_P b hb) hab
   ·intro a b c hab hbc;by_cases ha:a < ds.length <;> by_cases hb:b < ds.length <;> by_cases hc:c < ds.length <;> simp [q',ha,hb,hc] at hab hbc ⊢
    have h1:fR (dU ds b) (dU ds a)=false:=hab;have h2:fR (dU ds c) (dU ds b)=false:=hbc;show fR (dU ds c) (dU ds a)=false;cases g:fR (dU ds c) (dU ds a) with
    | false=>rfl
    | true=>
     have pa:=at_P a ha;have pb:=at_P b hb;have pc:=at_P c hc;cases g2:fR (dU ds a) (dU ds b) with
     | true=>
      have:=p.tra _ _ _ pc pa pb g g2;rw [this] at h2;cases h2
     | false=>
      rw [<-p.tri _ _ pb pa h1 g2] at g;rw [g] at h2;cases h2
  have up:=JW O ds.length (by omega);have hs:=(hb.run (ltB ds));rw [hq] at hs ⊢;have hsz:(aZ q' (Wm ds.length)).size=ds.length:=by simpa using hs.size_eq
  generalize aZ q' (Wm ds.length)=A at *;rw [UN,VN];intro i j hi hj hij;rw [SV] at hi hj;have:=up i j (by omega) (by omega);have e:∀k (hk:k < A.size),bA A k=A.toList[k]'(by rw [SV];exact hk):=λk hk=>by show A.getD k 0=_;simp [UO,hk]
  rw [e i hi,e j hj] at this;have l:∀k (hk:k < A.size),A.toList[k]'(by rw [SV];exact hk) < ds.length:=λk hk=>by rw [<-e k hk];exact hs.lt hn k
  have li:=l i hi;have lj:=l j hj;simp only [q',li,lj,if_true] at this;exact this
end DL
namespace ST
open PySem PySem.SetTable
theorem tH (xs:Array Nat) (j:Nat) (hs:xs.toList.Pairwise (· < ·)):∀(f lo hi:Nat),hi<=xs.size->lo<=hi->hi - lo<=f->(∀i,i < lo->xs.getD i 0 < j)->(∀i,hi<=i->i < xs.size->j<=xs.getD i 0)->
  below.go xs j f lo hi<=xs.size/\(∀i,i < below.go xs j f lo hi->xs.getD i 0 < j)/\∀i,below.go xs j f lo hi<=i->i < xs.size->j<=xs.getD i 0
 | 0,lo,hi,h1,h2,h3,h4,h5=>by
  have:lo=hi:=by omega
  subst this;exact ⟨h1,h4,h5⟩
 | f + 1,lo,hi,h1,h2,h3,h4,h5=>by
  have mono:∀a b,a<=b->b < xs.size->xs.getD a 0<=xs.getD b 0:=λa b hab hb=>by
   rcases aaB hab with h | h
   ·have:=VN.mp hs a b (by simpa using Ur h hb) (by simpa using hb) h;simp [UO,Ur h hb,hb] at this ⊢;omega
   ·rw [h];exact Sw _
  unfold below.go;by_cases c:lo < hi
  ·rw [if_pos c];have hm:(lo + hi) / 2 < xs.size:=by omega
   have e:xs.getD ((lo + hi) / 2) j=xs.getD ((lo + hi) / 2) 0:=by simp [UO,hm]
   by_cases d:xs.getD ((lo + hi) / 2) j < j
   ·simp only [d,if_true];rw [e] at d;exact tH xs j hs f _ hi h1 (by omega) (by omega) (λi hi'=>UX (mono i ((lo + hi) / 2) (by omega) hm) d) h5
   ·simp only [d,if_false];rw [e] at d;exact tH xs j hs f lo _ (by omega) (by omega) (by omega) h4 (λi hi' hs'=>Tw (by omega) (mono ((lo + hi) / 2) i hi' hs'))
  ·rw [if_neg c];have:lo=hi:=by omega
   subst this;exact ⟨h1,h4,h5⟩
theorem lO (xs:Array Nat) (j:Nat) (hs:xs.toList.Pairwise (· < ·)):below xs j<=xs.size/\(∀i,i < below xs j->xs.getD i 0 < j)/\∀i,below xs j<=i->i < xs.size->j<=xs.getD i 0:=
 tH xs j hs xs.size 0 xs.size (Sw _) (S5 _) (by omega) (λi h=>absurd h (UW _)) (λi h1 h2=>by omega)
theorem below_at {xs:Array Nat}(hs:xs.toList.Pairwise (· < ·)) (h:xs[i]?=some j):below xs j=i:=by
 obtain ⟨hi,e⟩:=Uh.mp h;obtain ⟨b1,b2,b3⟩:=lO xs j hs;have g:xs.getD i 0=j:=by simp [UO,hi,e]
 rcases aaR (below xs j) i with c | c | c
 ·have h1:=b3 (below xs j) (Sw _) (by omega);have:=VN.mp hs (below xs j) i (by simpa using Ur c hi) (by simpa using hi) c;simp [UO,Ur c hi] at h1;simp at this;omega
 ·exact c
 ·have:=b2 i c;omega
theorem Eo {t:T3}(hs:t.place.toList.Pairwise (· < ·)) (h:t.place[i]?=some j):t.slot j=.live i:=by unfold slot;rw [below_at hs h];show (if (t.place[i]? == some j)=true then Slot.live i else _)=_;rw [h];simp
theorem BW {t:T3}(hd:t.dummies=#[]) (h:j∉t.place.toList):t.slot j=.empty:=by
 unfold slot;have h1:(t.place[below t.place j]? == some j)=false:=by
  rw [beq_eq_false_iff_ne];intro z;exact h (by
   obtain ⟨hi,e⟩:=Uh.mp z;rw [<-e];simp)
 have h2:has t.dummies j=false:=by rw [hd];rfl
 simp only [h1,h2,Tn,if_false]
noncomputable def st (mask:Nat) (h:Int):Nat->Probe
 | 0=>({mask:=mask,place:=#[],dummies:=#[],finger:=0,led:=true,moves:=0,plain:=true}:T3).probeStart h
 | n + 1=>({mask:=mask,place:=#[],dummies:=#[],finger:=0,led:=true,moves:=0,plain:=true}:T3).advance (st mask h n)
abbrev pos (mask:Nat) (h:Int) (n:Nat):Nat:=(st mask h n).j
theorem qi (mask:Nat) (h:Int):∀n,(st mask h n).dummy=none
 | 0=>rfl
 | n + 1=>by
  unfold st advance;split
  ·exact qi mask h n
  ·exact qi mask h n
noncomputable def tn (mask:Nat) (h:Int):Nat->Nat×Nat
 | 0=>(bits h % (mask + 1),bits h)
 | k + 1=>leap mask (tn mask h k).1 (tn mask h k).2
theorem uV (mask:Nat) (h:Int):∀(m n:Nat) (i p j:Nat),st mask h n={j:=j,more:=m,i:=i,perturb:=p,dummy:=none}->st mask h (n + m)={j:=j + m,more:=0,i:=i,perturb:=p,dummy:=none}
 | 0,n,i,p,j,e=>e
 | m + 1,n,i,p,j,e=>by
  have e1:st mask h (n + 1)={j:=j + 1,more:=m,i:=i,perturb:=p,dummy:=none}:=by show advance _ (st mask h n)=_;rw [e];unfold advance;simp
  have:=uV mask h m (n + 1) i p (j + 1) e1;rw [show n + (m + 1)=n + 1 + m by omega,this];congr 1;omega
theorem AD (mask:Nat) (h:Int):∀k,∃n,n<=10 * k/\st mask h n={j:=(tn mask h k).1,more:=runEnd mask (tn mask h k).1 - (tn mask h k).1,i:=(tn mask h k).1,perturb:=(tn mask h k).2,dummy:=none}
 | 0=>⟨0,Sw _,rfl⟩
 | k + 1=>by
  obtain ⟨n,hn,e⟩:=AD mask h k;have hm:runEnd mask (tn mask h k).1 - (tn mask h k).1<=9:=by unfold runEnd;split <;> omega
  have:=uV mask h _ n _ _ _ e;refine ⟨n + (runEnd mask (tn mask h k).1 - (tn mask h k).1) + 1,by omega,?_⟩;show advance _ (st mask h (n + (runEnd mask (tn mask h k).1 - (tn mask h k).1)))=_;rw [this];unfold advance;simp;exact ⟨rfl,rfl,rfl,rfl⟩
theorem sG (mask:Nat) (h:Int):∀k,(tn mask h k).2=bits h / 32 ^ k
 | 0=>by simp [tn]
 | k + 1=>by show (tn mask h k).2 / 32=_;rw [sG mask h k,Ze,aa5]
theorem Il (h:Int):bits h < 2 ^ 64:=by unfold bits;have:=UU h (b:=2 ^ 64) (by decide);omega
def Dw (mask i:Nat):Nat:=(i * 5 + 1) % (mask + 1)
noncomputable def gO (mask:Nat):Nat->Nat->Nat
 | 0,i=>i
 | r + 1,i=>Dw mask (gO mask r i)
theorem yE (mask:Nat) (h:Int):∀r,(tn mask h (12 + r)).1=gO mask r (tn mask h 12).1
 | 0=>rfl
 | r + 1=>by
  show (leap mask (tn mask h (12 + r)).1 (tn mask h (12 + r)).2).1=Dw mask (gO mask r (tn mask h 12).1);rw [<-yE mask h r,sG];unfold leap Dw;have:bits h / 32 ^ (12 + r) / 32=0:=by rw [Ze,<-aa5];refine Nat.div_eq_of_lt (SW (Il h) ?_);refine Tw (show 2 ^ 64<=32 ^ 13 by decide) (ZS (by decide) (by omega))
  rw [this]
theorem OA:∀i:Fin 8,∀j:Fin 8,(Sx 8).any (λr=>gO 7 r i.val == j.val)=true:=by decide +kernel
theorem M5:∀i:Fin 32,∀j:Fin 32,(Sx 32).any (λr=>gO 31 r i.val == j.val)=true:=by decide +kernel
def K9:List Nat:=(Sx 128).map λr=>gO 127 r 0
theorem zE:∀j:Fin 128,K9.contains j.val=true:=by decide +kernel
theorem Iq:gO 127 128 0=0:=by decide +kernel
theorem lZ (mask:Nat):∀a b i,gO mask (a + b) i=gO mask a (gO mask b i)
 | 0,b,i=>by rw [ZF];rfl
 | a + 1,b,i=>by rw [show a + 1 + b=(a + b) + 1 by omega];show Dw mask (gO mask (a + b) i)=Dw mask (gO mask a (gO mask b i));rw [lZ mask a b i]
def kY (mask:Nat):Prop:=mask=7\/mask=31\/mask=127
theorem CM {mask:Nat}(hm:kY mask) (i j:Nat) (hi:i<=mask) (hj:j<=mask):∃r,r<=mask/\gO mask r i=j:=by
 rcases hm with rfl | rfl | rfl
 ·have:=OA ⟨i,by omega⟩ ⟨j,by omega⟩;rw [VE] at this;obtain ⟨r,h1,h2⟩:=this;exact ⟨r,by have:=S0.mp h1;omega,by simpa using h2⟩
 ·have:=M5 ⟨i,by omega⟩ ⟨j,by omega⟩;rw [VE] at this;obtain ⟨r,h1,h2⟩:=this;exact ⟨r,by have:=S0.mp h1;omega,by simpa using h2⟩
 ·have hi':=zE ⟨i,by omega⟩;have hj':=zE ⟨j,by omega⟩;rw [Wh] at hi' hj';obtain ⟨a,ha,ea⟩:=SD.mp hi';obtain ⟨b,hb,eb⟩:=SD.mp hj';have ha:=S0.mp ha;have hb:=S0.mp hb;have ea:gO 127 a 0=i:=ea;have eb:gO 127 b 0=j:=eb;by_cases c:a<=b
  ·refine ⟨b - a,by omega,?_⟩;rw [<-ea,<-lZ,show b - a + a=b by omega];exact eb
  ·refine ⟨128 + b - a,by omega,?_⟩;rw [<-ea,<-lZ,show 128 + b - a + a=b + 128 by omega,lZ,Iq];exact eb
theorem B5 (mask:Nat) (h:Int) (k:Nat):(tn mask h k).1<=mask:=by
 cases k with
 | zero=>exact Xg (YI _ (by omega))
 | succ k=>exact Xg (YI _ (by omega))
theorem visits {mask:Nat}(hm:kY mask) (h:Int) (j:Nat) (hj:j<=mask):∃n,n<=10 * (mask + 12)/\pos mask h n=j:=by obtain ⟨r,hr,e⟩:=CM hm (tn mask h 12).1 j (B5 mask h 12) hj;obtain ⟨n,hn,q⟩:=AD mask h (12 + r);refine ⟨n,by omega,?_⟩;show (st mask h n).j=j;rw [q];show (tn mask h (12 + r)).1=j;rw [yE,e]
theorem Bd {mask:Nat}(hm:kY mask) (h:Int) (P:List Nat) (hP:P.length<=mask):∃n,n<=10 * (mask + 12)/\pos mask h n∉P/\∀m,m < n->pos mask h m∈P:=by
 have ex:∃j,j<=mask/\j∉P:=by
  by_cases c:∀j,j<=mask->j∈P
  ·exfalso;have:(Sx (mask + 1)).length<=P.length:=Ug WA λj hj=>c j (by have:=S0.mp hj;omega);rw [Th] at this;omega
  ·exact Vc λz=>c λj hj=>Vc λy=>z ⟨j,hj,y⟩
 obtain ⟨j,hj,hn⟩:=ex;obtain ⟨n,hn1,hn2⟩:=visits hm h j hj;have key:∀k,k<=n->(∃m,m<=k/\pos mask h m∉P/\∀m',m' < m->pos mask h m'∈P)\/∀m,m<=k->pos mask h m∈P:=by
  intro k
  induction k with
  | zero=>
   intro _;by_cases c:pos mask h 0∈P
   ·exact .inr λm hm=>by rw [show m=0 by omega];exact c
   ·exact .inl ⟨0,Sw _,c,λm' h'=>absurd h' (UW _)⟩
  | succ k ih=>
   intro hk;rcases ih (by omega) with ⟨m,h1,h2⟩ | h1
   ·exact .inl ⟨m,by omega,h2⟩
   ·by_cases c:pos mask h (k + 1)∈P
    ·exact .inr λm hm=>by
      by_cases d:m<=k
      ·exact h1 m d
      ·rw [show m=k + 1 by omega];exact c
    ·exact .inl ⟨k + 1,Sw _,c,λm' h'=>h1 m' (by omega)⟩
 rcases key n (Sw _) with ⟨m,h1,h2,h3⟩ | h1
 ·exact ⟨m,by omega,h2,h3⟩
 ·exact absurd (h1 n (Sw _)) (by rw [hn2];exact hn)
def Reach (mask:Nat) (P:List Nat) (h:Int) (j:Nat):Prop:=∃n,pos mask h n=j/\∀m,m < n->pos mask h m∈P
theorem Reach.mono {mask:Nat}{P P':List Nat}{h:Int}{j:Nat}(r:Reach mask P h j) (s:∀x∈P,x∈P'):Reach mask P' h j:=
 let ⟨n,h1,h2⟩:=r;⟨n,h1,λm hm=>s _ (h2 m hm)⟩
structure Tab (t:T3) (es:Array (Int×Sl)) (L:List (Nat×Int×Sl)):Prop where
 dm:t.dummies=#[]
 pl:t.place.toList=L.map (·.1)
 en:es.toList=L.map (·.2)
 so:(L.map (·.1)).Pairwise (· < ·)
 bd:∀e∈L,e.1<=t.mask
 mo:kY t.mask
 fl:L.length<=t.mask
 pr:∀e∈L,Reach t.mask (L.map (·.1)) e.2.1 e.1
section
variable {t:T3}{es:Array (Int×Sl)}{L:List (Nat×Int×Sl)}
theorem Tab.at_ (T:Tab t es L){i:Nat}{e:Nat×Int×Sl}(h:L[i]?=some e):t.place[i]?=some e.1/\es[i]?=some e.2:=by
 constructor
 ·rw [<-Wf,T.pl,S3,h];rfl
 ·rw [<-Wf,T.en,S3,h];rfl
theorem Tab.sop (T:Tab t es L):t.place.toList.Pairwise (· < ·):=by rw [T.pl];exact T.so
theorem mR {α:Type}(xs:Array α) (p:Nat) (x:α) (hp:p<=xs.size):(insertAt xs p x).toList=xs.toList.take p++x::xs.toList.drop p:=by
 unfold insertAt;simp
 (exact W6 (by simp))
theorem Tab.put (T:Tab t es L) (h:Int) (x:Sl) (n0:Nat) (hf:pos t.mask h n0∉L.map (·.1)) (hb:∀m,m < n0->pos t.mask h m∈L.map (·.1)) (hj:pos t.mask h n0<=t.mask) (hl:L.length + 1<=t.mask):
  ∃L',Tab (t.put (pos t.mask h n0)).1 (insertAt es (t.put (pos t.mask h n0)).2 (h,x)) L'/\L'.Perm ((pos t.mask h n0,h,x)::L):=by
 obtain ⟨b1,b2,b3⟩:=lO t.place (pos t.mask h n0) T.sop;generalize hp:below t.place (pos t.mask h n0)=p at b1 b2 b3;have hsz:t.place.size=L.length:=by rw [<-SV,T.pl,So]
 have hes:es.size=L.length:=by rw [<-SV,T.en,So]
 have perm:(L.take p++(pos t.mask h n0,h,x)::L.drop p).Perm ((pos t.mask h n0,h,x)::L):=by
  have:=XA (a:=(pos t.mask h n0,h,x)) (l₁:=L.take p) (l₂:=L.drop p)
  rwa [VI] at this
 have e1:(t.put (pos t.mask h n0))=({t with place:=insertAt t.place p (pos t.mask h n0),dummies:=#[]},p):=by unfold SetTable.put;rw [hp,T.dm];rfl
 rw [e1];have getP:∀i (hi:i < L.length),t.place.getD i 0=L[i].1:=λi hi=>by
  have:=(T.at_ (SH hi)).1;have hi':i < t.place.size:=by omega
  simp [UO,hi'];rw [UD hi'] at this;exact TY this
 refine ⟨L.take p++(pos t.mask h n0,h,x)::L.drop p,⟨rfl,?_,?_,?_,λe he=>?_,T.mo,?_,λe he=>?_⟩,perm⟩
 ·show (insertAt t.place p (pos t.mask h n0)).toList=_;rw [mR _ _ _ b1,T.pl];simp [WW,WX]
 ·show (insertAt es p (h,x)).toList=_;rw [mR _ _ _ (by omega),T.en];simp [WW,WX]
 ·rw [TZ,S4,XG];refine ⟨?_,?_,?_⟩
  ·rw [WW];exact T.so.sublist (YC _ _)
  ·rw [Ym];refine ⟨λa ha=>?_,?_⟩
   ·obtain ⟨e,he,rfl⟩:=SD.mp ha;obtain ⟨i,hi,rfl⟩:=Vj.mp he;rw [aaS];rw [UY] at hi;have:=b3 (p + i) (by omega) (by omega);rw [getP _ (by omega)] at this;rcases aaB this with c | c
    ·exact c
    ·exact absurd (SD.mpr ⟨L[p + i],UH _,c.symm⟩) hf
   ·rw [WX];exact T.so.sublist (aaO _ _)
  ·intro a ha b hb;obtain ⟨e,he,rfl⟩:=SD.mp ha;obtain ⟨i,hi,rfl⟩:=Vj.mp he;rw [List.getElem_take];rw [UG] at hi;have h1:=b2 i (by omega);rw [getP _ (by omega)] at h1
   (rcases SN.mp hb with rfl | hb)
   ·exact h1
   ·obtain ⟨e,he,rfl⟩:=SD.mp hb;obtain ⟨k,hk,rfl⟩:=Vj.mp he;rw [aaS];rw [UY] at hk;have:=b3 (p + k) (by omega) (by omega);rw [getP _ (by omega)] at this;omega
 ·rcases SN.mp (perm.mem_iff.mp he) with rfl | he
  ·exact hj
  ·exact T.bd e he
 ·rw [perm.length_eq];exact hl
 ·have sub:∀y∈L.map (·.1),y∈(L.take p++(pos t.mask h n0,h,x)::L.drop p).map (·.1):=λy hy=>by obtain ⟨e,he,rfl⟩:=SD.mp hy;exact SD.mpr ⟨e,perm.mem_iff.mpr (Ss _ he),rfl⟩
  rcases SN.mp (perm.mem_iff.mp he) with rfl | he
  ·exact ⟨n0,rfl,λm hm=>sub _ (hb m hm)⟩
  ·exact (T.pr e he).mono sub
end
theorem lG (mask:Nat) (h:Int) (n i p m:Nat) (e:st mask h n={j:=i,more:=m,i:=i,perturb:=p,dummy:=none}):∀r,r<=m->st mask h (n + r)={j:=i + r,more:=m - r,i:=i,perturb:=p,dummy:=none}
 | 0,_=>e
 | r + 1,hr=>by show advance _ (st mask h (n + r))=_;rw [lG mask h n i p m e r (by omega)];unfold advance;rw [if_pos (by show m - r > 0;omega)];show Probe.mk _ _ _ _ _=_;congr 1
theorem ED (mask:Nat) (h:Int) (k n:Nat) (e:st mask h n={j:=(tn mask h k).1,more:=runEnd mask (tn mask h k).1 - (tn mask h k).1,i:=(tn mask h k).1,perturb:=(tn mask h k).2,dummy:=none}):
  st mask h (n + (runEnd mask (tn mask h k).1 - (tn mask h k).1) + 1)={j:=(tn mask h (k + 1)).1,more:=runEnd mask (tn mask h (k + 1)).1 - (tn mask h (k + 1)).1,i:=(tn mask h (k + 1)).1,perturb:=(tn mask h (k + 1)).2,dummy:=none}:=by show advance _ (st mask h (n + (runEnd mask (tn mask h k).1 - (tn mask h k).1)))=_;rw [lG mask h n _ _ _ e _ (Sw _)];unfold advance;simp;exact ⟨rfl,rfl,rfl,rfl⟩
theorem uD (mask:Nat) (h:Int) (owner:Array (Option Nat)) (G:List Nat) (ho:∀j,j<=mask->((owner.getD j (some 0)).isNone=true↔j∉G)):
  ∀(f k n:Nat),st mask h n={j:=(tn mask h k).1,more:=runEnd mask (tn mask h k).1 - (tn mask h k).1,i:=(tn mask h k).1,perturb:=(tn mask h k).2,dummy:=none}->(∀m,m < n->pos mask h m∈G)->
   (∃n',layClean.free mask owner f (tn mask h k).1 (tn mask h k).2=some (pos mask h n')/\pos mask h n'<=mask/\pos mask h n'∉G/\∀m,m < n'->pos mask h m∈G)\/(layClean.free mask owner f (tn mask h k).1 (tn mask h k).2=none/\∀r,r < f->(tn mask h (k + r)).1∈G)
 | 0,k,n,e,hb=>.inr ⟨rfl,λr hr=>absurd hr (UW _)⟩
 | f + 1,k,n,e,hb=>by
  have hi:=B5 mask h k;have re:runEnd mask (tn mask h k).1<=mask/\(tn mask h k).1<=runEnd mask (tn mask h k).1:=by unfold runEnd;split <;> omega
  unfold layClean.free;cases q:(Sx (runEnd mask (tn mask h k).1 + 1 - (tn mask h k).1)).find? λr=>(owner.getD ((tn mask h k).1 + r) (some 0)).isNone with
  | some r=>
   have h1:=abJ q;have h2:=S0.mp (VO q);have h3:pos mask h (n + r)=(tn mask h k).1 + r:=by show (st mask h (n + r)).j=_;rw [lG mask h n _ _ _ e r (by omega)]
   refine .inl ⟨n + r,?_,?_,?_,?_⟩
   ·show some _=_;rw [h3]
   ·rw [h3];omega
   ·rw [h3];exact (ho _ (by omega)).mp h1
   ·intro m hm;by_cases c:m < n
    ·exact hb m c
    ·obtain ⟨s,rfl⟩:∃s,m=n + s:=⟨m - n,by omega⟩;have h4:pos mask h (n + s)=(tn mask h k).1 + s:=by show (st mask h (n + s)).j=_;rw [lG mask h n _ _ _ e s (by omega)]
     rw [h4];refine Vc λz=>?_;have z':=(ho ((tn mask h k).1 + s) (by omega)).mpr z;rw [List.find?_eq_some_iff_append] at q;obtain ⟨_,as,bs,eq,hall⟩:=q;have hs:s∈as:=by
      have hlen:as.length=r:=by
       have hl:as.length < (Sx (runEnd mask (tn mask h k).1 + 1 - (tn mask h k).1)).length:=by rw [eq];simp
       have e3:(Sx (runEnd mask (tn mask h k).1 + 1 - (tn mask h k).1))[as.length]?=some r:=by rw [eq];simp
       rw [Th] at hl;rw [X6 hl] at e3;exact TY e3
      have e4:(Sx (runEnd mask (tn mask h k).1 + 1 - (tn mask h k).1))[s]?=some s:=X6 (by omega);rw [eq,U_ (by omega)] at e4;exact VR e4
     have:=hall s hs;rw [z'] at this;exact absurd this (by decide)
  | none=>
   have hall:=aaC.mp q;have occ:∀s,s<=runEnd mask (tn mask h k).1 - (tn mask h k).1->(tn mask h k).1 + s∈G:=λs hs=>Vc λz=>by have z':=(ho ((tn mask h k).1 + s) (by omega)).mpr z;exact hall s (S0.mpr (by omega)) z'
   have nb:∀m,m < n + (runEnd mask (tn mask h k).1 - (tn mask h k).1) + 1->pos mask h m∈G:=λm hm=>by
    by_cases c:m < n
    ·exact hb m c
    ·obtain ⟨s,rfl⟩:∃s,m=n + s:=⟨m - n,by omega⟩;have h4:pos mask h (n + s)=(tn mask h k).1 + s:=by show (st mask h (n + s)).j=_;rw [lG mask h n _ _ _ e s (by omega)]
     rw [h4];exact occ s (by omega)
   rcases uD mask h owner G ho f (k + 1) _ (ED mask h k n e) nb with ⟨n',g1,g2',g3⟩ | ⟨g1,g2'⟩
   ·exact .inl ⟨n',g1,g2',g3⟩
   ·refine .inr ⟨g1,λr hr=>?_⟩;cases r with
    | zero=>have:=occ 0 (S5 _);exact this
    | succ r=>have:=g2' r (by omega);rwa [show k + (r + 1)=k + 1 + r by omega]
theorem IC {mask:Nat}(hm:kY mask) (h:Int) (owner:Array (Option Nat)) (G:List Nat) (hG:G.length<=mask) (ho:∀j,j<=mask->((owner.getD j (some 0)).isNone=true↔j∉G)):
  ∃n',layClean.free mask owner (turns mask) (bits h % (mask + 1)) (bits h)=some (pos mask h n')/\pos mask h n'<=mask/\pos mask h n'∉G/\∀m,m < n'->pos mask h m∈G:=by
 rcases uD mask h owner G ho (turns mask) 0 0 rfl (λm hm=>absurd hm (UW _)) with a | ⟨_,b⟩
 ·exact a
 ·exfalso;have all:∀j,j<=mask->j∈G:=λj hj=>by obtain ⟨r,hr,e⟩:=CM hm (tn mask h 12).1 j (B5 mask h 12) hj;have:=b (12 + r) (by unfold turns;omega);rw [ZF,yE,e] at this;exact this
  have:(Sx (mask + 1)).length<=G.length:=Ug WA λj hj=>all j (by have:=S0.mp hj;omega);rw [Th] at this;omega
structure Own (mask:Nat) (owner:Array (Option Nat)) (G:List Nat) (hs:List Int):Prop where
 sz:owner.size=mask + 1
 ln:G.length=hs.length
 nd:G.Nodup
 bd:∀j∈G,j<=mask
 at_:∀j,j<=mask->owner.getD j none=if j∈G then some (G.idxOf j) else none
 pr:∀k (h1:k < G.length) (h2:k < hs.length),Reach mask G hs[k] G[k]
theorem Own.occ {mask:Nat}{owner:Array (Option Nat)}{G:List Nat}{hs:List Int}(O:Own mask owner G hs):∀j,j<=mask->((owner.getD j (some 0)).isNone=true↔j∉G):=λj hj=>by
 have e:owner.getD j (some 0)=owner.getD j none:=by
  have:j < owner.size:=by rw [O.sz];omega
  simp [UO,this]
 rw [e,O.at_ j hj];split <;> simp_all
theorem Own.step {mask:Nat}{owner:Array (Option Nat)}{G:List Nat}{hs:List Int}(O:Own mask owner G hs) (hm:kY mask) (hl:hs.length<=mask) (h:Int):
  ∃j,layClean.free mask owner (turns mask) (bits h % (mask + 1)) (bits h)=some j/\Own mask (owner.setIfInBounds j (some hs.length)) (G++[j]) (hs++[h]):=by
 obtain ⟨n',e,b,f,r⟩:=IC hm h owner G (by rw [O.ln];exact hl) O.occ;refine ⟨_,e,⟨by rw [Array.size_setIfInBounds,O.sz],by simp [O.ln],?_,λj hj=>?_,λj hj=>?_,λk h1 h2=>?_⟩⟩
 ·rw [List.nodup_append];refine ⟨O.nd,by simp,λa ha b hb=>?_⟩;rw [Su] at hb;subst hb;intro z;subst z;exact f ha
 ·rcases Tc.mp hj with h1 | h1
  ·exact O.bd j h1
  ·rw [Su.mp h1];exact b
 ·have hsz:j < owner.size:=by rw [O.sz];omega
  by_cases c:j=pos mask h n'
  ·subst c;rw [if_pos (by simp)];simp [UO,hsz];rw [aaT,if_neg f];simp [O.ln]
  ·have e1:(owner.setIfInBounds (pos mask h n') (some hs.length)).getD j none=owner.getD j none:=by simp [UO,hsz];rw [Array.getElem_setIfInBounds_ne];exact λz=>c z.symm
   rw [e1,O.at_ j hj];by_cases d:j∈G
   ·rw [if_pos d,if_pos (Uy _ d),aaT,if_pos d]
   ·rw [if_neg d,if_neg (by simp [d,c])]
 ·have sub:∀x∈G,x∈G++[pos mask h n']:=λx hx=>Uy _ hx;by_cases c:k < G.length
  ·have:=(O.pr k c (by rw [<-O.ln];exact c)).mono sub;rw [YJ c,YJ (by rw [<-O.ln];exact c)];exact this
  ·have hk:k=G.length:=by simp at h1;omega
   subst hk;have e1:(G++[pos mask h n'])[G.length]=pos mask h n':=by simp
   have e2:(hs++[h])[G.length]=h:=by simp [O.ln]
   rw [e1,e2];exact ⟨n',rfl,λm hm=>sub _ (r m hm)⟩
theorem xR {mask:Nat}(hm:kY mask):∀(rest hs:List Int) (owner:Array (Option Nat)) (G:List Nat),Own mask owner G hs->(hs++rest).length<=mask->∃owner' G',rest.foldl (λacc h=>do
  let (owner,k) <-acc
  let j <-layClean.free mask owner (turns mask) (bits h % (mask + 1)) (bits h)
  pure (owner.setIfInBounds j (some k),k + 1)) (some (owner,hs.length))=some (owner',(hs++rest).length)/\Own mask owner' G' (hs++rest)
 | [],hs,owner,G,O,_=>⟨owner,G,by simp,by simpa using O⟩
 | h::rest,hs,owner,G,O,hl=>by
  obtain ⟨j,e,O'⟩:=O.step hm (by simp at hl;omega) h;obtain ⟨owner',G',e2,O2⟩:=xR hm rest (hs++[h]) _ _ O' (by simpa using hl);refine ⟨owner',G',?_,by simpa using O2⟩;rw [X7];have e3:(do
   let (owner,k) <-some (owner,hs.length)
   let j <-layClean.free mask owner (turns mask) (bits h % (mask + 1)) (bits h)
   pure (owner.setIfInBounds j (some k),k + 1):Option (Array (Option Nat)×Nat))=some (owner.setIfInBounds j (some hs.length),(hs++[h]).length):=by show Option.bind (layClean.free mask owner (turns mask) (bits h % (mask + 1)) (bits h)) _=_;rw [e];simp
  rw [e3];simpa using e2
theorem Jm (mask:Nat):Own mask (Array.replicate (mask + 1) none) [] []:=
 ⟨by simp,rfl,Wv,λj h=>absurd h (by simp),λj hj=>by simp [UO],λk h1=>absurd h1 (by simp)⟩
theorem Dv {mask:Nat}(hm:kY mask) (hs:Array Int) (hl:hs.size<=mask):∃owner G,layClean mask hs=some owner/\Own mask owner G hs.toList:=by obtain ⟨owner,G,e,O⟩:=xR hm hs.toList [] _ [] (Jm mask) (by simpa using hl);refine ⟨owner,G,?_,by simpa using O⟩;unfold layClean;rw [<-Array.foldl_toList];have e':=congrArg (Option.map (·.1)) e;exact e'
theorem IX {t:T3}{es:Array (Int×Sl)}{mask:Nat}(hm:kY mask) (finger moves:Nat) (led plain:Bool) (hl:es.size<=mask):
  ∃t' Si L',laid mask finger moves led plain (es.map (·.1))=some (t',Si)/\t'.mask=mask/\t'.led=led/\t'.plain=plain/\Tab t' (Si.filterMap (es[·]?)) L'/\(Si.filterMap (es[·]?)).toList.Perm es.toList:=by
 obtain ⟨owner,G,e,O⟩:=Dv hm (es.map (·.1)) (by simpa using hl);have hlen:G.length=es.size:=by rw [O.ln];simp
 (let live:=(Sx (mask + 1)).filterMap λj=>(owner.getD j none).map (j,·))
 have lv:∀p,p∈live↔p.1∈G/\p.2=G.idxOf p.1:=λp=>by
  show p∈(Sx (mask + 1)).filterMap _↔_;rw [WL];constructor
  ·rintro ⟨j,hj,q⟩;have hj':j<=mask:=by have:=S0.mp hj;omega
   rw [O.at_ j hj'] at q;by_cases c:j∈G
   ·rw [if_pos c] at q;have q:(j,G.idxOf j)=p:=by simpa using q
    subst q;exact ⟨c,rfl⟩
   ·rw [if_neg c] at q;exact absurd q (by simp)
  ·rintro ⟨h1,h2⟩;refine ⟨p.1,S0.mpr (by have:=O.bd _ h1;omega),?_⟩;rw [O.at_ _ (O.bd _ h1),if_pos h1];show some (p.1,G.idxOf p.1)=some p;rw [<-h2]
 have so1:live.Pairwise λa b=>a.1 < b.1:=by
  show ((Sx (mask + 1)).filterMap _).Pairwise _;rw [YX];refine Vw.imp ?_;intro a b hab x hx y hy;cases q1:owner.getD a none with
  | none=>rw [q1] at hx;exact absurd hx (by simp)
  | some k1=>cases q2:owner.getD b none with
   | none=>rw [q2] at hy;exact absurd hy (by simp)
   | some k2=>
    rw [q1] at hx;rw [q2] at hy;have hx:(a,k1)=x:=by simpa using hx
    have hy:(b,k2)=y:=by simpa using hy
    subst hx;subst hy;exact hab
 have ord:(live.map (·.2)).Perm (Sx es.size):=by
  rw [Wr _ WA]
  ·intro k;rw [SD,S0];constructor
   ·rintro ⟨p,hp,rfl⟩;obtain ⟨h1,h2⟩:=(lv p).mp hp;rw [h2,<-hlen];exact Uc h1
   ·intro hk;rw [<-hlen] at hk;exact ⟨(G[k],k),(lv _).mpr ⟨UH _,(O.nd.idxOf_getElem k hk).symm⟩,rfl⟩
  ·show (live.map (·.2)).Pairwise _;rw [UN];refine (VJ.mp so1).imp ?_;rintro a b ⟨ha,hb,hab⟩ z;obtain ⟨a1,a2⟩:=(lv a).mp ha;obtain ⟨b1,b2⟩:=(lv b).mp hb;rw [a2,b2] at z;have ga:=V9 (Uc a1);have gb:=V9 (Uc b1);have:a.1=b.1:=by rw [<-ga,<-gb];congr 1
   omega
 have inR:∀p∈live,∃h:p.2 < es.size,True:=λp hp=>by have:p.2∈live.map (·.2):=SD.mpr ⟨p,hp,rfl⟩;exact ⟨S0.mp (ord.mem_iff.mp this),trivial⟩
 let L':=live.map λp=>(p.1,es.getD p.2 default)
 have eL:(live.map (·.2)).toArray.filterMap (es[·]?)=(L'.map (·.2)).toArray:=by
  rw [List.filterMap_toArray];congr 1;show ab3 _ (live.map _)=(live.map _).map _;rw [aal,TF];have:∀(l:List (Nat×Nat)),(∀p∈l,p∈live)->ab3 ((λx=>es[x]?) ∘ λx=>x.snd) l=adX ((λx=>x.snd) ∘ λp=>(p.fst,es.getD p.snd default)) l:=by
   intro l
   induction l with
   | nil=>intro _;rfl
   | cons p l ih=>
    intro hl;obtain ⟨hp,_⟩:=inR p (hl p (by simp));rw [YK (b:=es.getD p.2 default)]
    ·rw [S4,ih λq hq=>hl q (by simp [hq])];rfl
    ·show es[p.2]?=_;simp [UO,hp]
  exact this live λp hp=>hp
 have eP:L'.map (·.1)=live.map (·.1):=by show (live.map _).map _=_;rw [TF];rfl
 have memP:∀j,j∈live.map (·.1)↔j∈G:=λj=>by
  rw [SD];constructor
  ·rintro ⟨p,hp,rfl⟩;exact ((lv p).mp hp).1
  ·intro h;exact ⟨(j,G.idxOf j),(lv _).mpr ⟨h,rfl⟩,rfl⟩
 have lenL:L'.length=es.size:=by have:=ord.length_eq;rw [So,Th] at this;show (live.map _).length=_;rw [So,this]
 refine ⟨{mask,place:=(live.map (·.1)).toArray,dummies:=#[],finger,led,moves,plain},(live.map (·.2)).toArray,L',?_,rfl,rfl,rfl,⟨rfl,?_,?_,?_,λx hx=>?_,hm,?_,λx hx=>?_⟩,?_⟩
 ·unfold laid;rw [e];rfl
 ·show (live.map (·.1)).toArray.toList=_;rw [eP]
 ·rw [eL]
 ·rw [eP,UN];exact so1
 ·obtain ⟨p,hp,rfl⟩:=SD.mp hx;exact O.bd _ ((lv p).mp hp).1
 ·show L'.length<=mask;rw [lenL];exact hl
 ·obtain ⟨p,hp,rfl⟩:=SD.mp hx;obtain ⟨h1,h2⟩:=(lv p).mp hp;obtain ⟨hs,_⟩:=inR p hp;have r:=O.pr p.2 (by omega) (by simpa using hs);have e1:G[p.2]'(by omega)=p.1:=by have:=V9 (Uc h1);rw [<-this];congr 1
  have e2:((es.map (·.1)).toList[p.2]'(by simpa using hs))=(es.getD p.2 default).1:=by simp [UO,hs]
  rw [e1,e2] at r;show Reach mask (L'.map (·.1)) (es.getD p.2 default).1 p.1;refine r.mono λy hy=>?_;rw [eP];exact (memP y).mpr hy
 ·rw [eL];show (L'.map (·.2)).Perm es.toList;have e1:(live.map (·.2)).map (λk=>es.getD k default)=L'.map (·.2):=by show _=(live.map _).map _;rw [TF,TF];rfl
  rw [<-e1];refine (ord.map _).trans ?_;have:(Sx es.size).map (λk=>es.getD k default)=es.toList:=by refine VC (by simp) λi h1 h2=>?_;simp at h1;simp [UO,h1]
  rw [this]
theorem Ef {t:T3}{es:Array (Int×Sl)}(hm:kY (sizeAbove w - 1)) (hl:es.size<=sizeAbove w - 1):
  ∃t' Si L',t.relaid (es.map (·.1)) w=some (t',Si)/\t'.mask=sizeAbove w - 1/\t'.led=t.led/\t'.plain=t.plain/\Tab t' (Si.filterMap (es[·]?)) L'/\(Si.filterMap (es[·]?)).toList.Perm es.toList:=
 IX (t:=t) hm t.finger (t.movedTo (sizeAbove w - 1)) t.led t.plain hl
end ST
namespace DL
open PySem PySem.Spec PyProof.Rows L2
end DL
namespace DL
open PySem PySem.Spec PyProof.Rows L2 ST
theorem cY {t:T3}{es:Array (Int×Sl)}(T:Tab t es L):t.fits es.size=true:=by
 have h1:t.place.size=L.length:=by rw [<-SV,T.pl,So]
 have h2:es.size=L.length:=by rw [<-SV,T.en,So]
 have h3:t.fill=L.length:=by unfold acB;rw [T.dm,h1];rfl
 unfold SetTable.fits;rw [h1,h2,h3];simp [T.fl]
end DL
namespace DL
open PySem PySem.Spec PyProof.Rows L2 DX
open Classical in
def KD:Type:={d:D // isKey d=true/\dep d<=8}
noncomputable instance:DecidableEq KD:=λa b=>acC (a=b)
end DL
namespace DL
open PySem PySem.Spec PyProof.Rows L2 ST
theorem CT (mask i:Nat) (h:i<=mask):i + (abK mask i - i)<=mask:=by unfold abK;split <;> omega
theorem HH (mask:Nat) (h:Int):∀n,(ST.st mask h n).j + (ST.st mask h n).more<=mask
 | 0=>CT mask _ (Xg (YI _ (by omega)))
 | n + 1=>by
  have ih:=HH mask h n;show (Y8 _ (ST.st mask h n)).j + (Y8 _ (ST.st mask h n)).more<=mask;unfold Y8;split
  ·dsimp only;omega
  ·exact CT mask _ (Xg (YI _ (by omega)))
theorem D3 (mask:Nat) (h:Int) (n:Nat):ST.pos mask h n<=mask:=by have:=HH mask h n;show (ST.st mask h n).j<=mask;omega
theorem Ia:V_ 20=32:=by decide +kernel
theorem Ib:V_ 76=128:=by decide +kernel
theorem um {es:Array (Int×Sl)}{L:List (Nat×Int×Sl)}(T:Tab t es L):L.length=es.size:=by rw [<-SV,T.en,So]
end DL
namespace DL
open PySem PySem.Spec PyProof.Rows L2 ST PySem.SetTable
section
variable {t:T3}{es:Array (Int×Sl)}{L:List (Nat×Int×Sl)}
theorem rR (T:Tab t es L) (h:Int) (n0:Nat) (hf:pos t.mask h n0∉L.map (·.1)) (hb:∀m,m < n0->pos t.mask h m∈L.map (·.1)):
  ∀(d n F:Nat),n0 - n=d->n<=n0->d < F->probe.go t (λ_=>h + 1) h F (st t.mask h n)=some (.empty (pos t.mask h n0) none)
 | d,n,0,_,_,h=>absurd h (UW _)
 | d,n,F + 1,hd,hn,hF=>by
  by_cases c:n=n0
  ·subst c;unfold probe.go;rw [BW T.dm (by rw [T.pl];exact hf)];show some (Met.empty _ (st t.mask h n).dummy)=_;rw [qi]
  ·obtain ⟨e,he,ej⟩:=SD.mp (hb n (by omega));obtain ⟨i,hi,rfl⟩:=Vj.mp he;have hs:t.slot (pos t.mask h n)=.live i:=Eo T.sop (by rw [(T.at_ (SH hi)).1,ej]);have eg:probe.go t (λ_=>h + 1) h (F + 1) (st t.mask h n)=probe.go t (λ_=>h + 1) h F (st t.mask h (n + 1)):=by rw [probe.go,hs];show (if (h + 1 == h)=true then _ else _)=_;rw [if_neg (by rw [beq_iff_eq];omega)];rfl
   rw [eg];exact rR T h n0 hf hb (n0 - (n + 1)) (n + 1) F rfl (by omega) (by omega)
theorem CZ (T:Tab t es L) (h:Int) (n0:Nat) (hf:pos t.mask h n0∉L.map (·.1)) (hb:∀m,m < n0->pos t.mask h m∈L.map (·.1)) (hn0:n0<=10 * (t.mask + 12)):t.freeSlot h=some (pos t.mask h n0,false):=by have e:t.probe (λ_=>h + 1) h (t.probeStart h)=some (.empty (pos t.mask h n0) none):=rR T h n0 hf hb n0 0 (10 * turns t.mask) rfl (S5 _) (by unfold turns;omega);unfold SetTable.freeSlot;rw [e];rfl
theorem IY (T:Tab t es L) (h:Int) (x:Sl) (n0:Nat) (hf:pos t.mask h n0∉L.map (·.1)) (hb:∀m,m < n0->pos t.mask h m∈L.map (·.1)) (hn0:n0<=10 * (t.mask + 12)) (hl:L.length + 1<=t.mask):
  layNew t es h x=(insertAt es (t.put (pos t.mask h n0)).2 (h,x),(t.put (pos t.mask h n0)).1,false,false):=by obtain ⟨L',T',_⟩:=T.put h x n0 hf hb (D3 _ _ _) hl;have fit:=cY T';unfold layNew;rw [CZ T h n0 hf hb hn0];dsimp only;unfold SetTable.orStandIn;rw [fit];rfl
theorem FH {mask finger moves:Nat}{led plain:Bool}{t':T3}{Si:Array Nat}(hm:kY mask) (hl:es.size<=mask) (e:laid mask finger moves led plain (es.map (·.1))=some (t',Si)):Si.toList.Perm (Sx es.size):=by
 obtain ⟨owner,G,e0,O⟩:=Dv hm (es.map (·.1)) (by simpa using hl);have hlen:G.length=es.size:=by rw [O.ln];simp
 (let live:=(Sx (mask + 1)).filterMap λj=>(owner.getD j none).map (j,·))
 have lv:∀p,p∈live↔p.1∈G/\p.2=G.idxOf p.1:=λp=>by
  show p∈(Sx (mask + 1)).filterMap _↔_;rw [WL];constructor
  ·rintro ⟨j,hj,q⟩;have hj':j<=mask:=by have:=S0.mp hj;omega
   rw [O.at_ j hj'] at q;by_cases c:j∈G
   ·rw [if_pos c] at q;have q:(j,G.idxOf j)=p:=by simpa using q
    subst q;exact ⟨c,rfl⟩
   ·rw [if_neg c] at q;exact absurd q (by simp)
  ·rintro ⟨h1,h2⟩;refine ⟨p.1,S0.mpr (by have:=O.bd _ h1;omega),?_⟩;rw [O.at_ _ (O.bd _ h1),if_pos h1];show some (p.1,G.idxOf p.1)=some p;rw [<-h2]
 have so1:live.Pairwise λa b=>a.1 < b.1:=by
  show ((Sx (mask + 1)).filterMap _).Pairwise _;rw [YX];refine Vw.imp ?_;intro a b hab x hx y hy;cases q1:owner.getD a none with
  | none=>rw [q1] at hx;exact absurd hx (by simp)
  | some k1=>cases q2:owner.getD b none with
   | none=>rw [q2] at hy;exact absurd hy (by simp)
   | some k2=>
    rw [q1] at hx;rw [q2] at hy;have hx:(a,k1)=x:=by simpa using hx
    have hy:(b,k2)=y:=by simpa using hy
    subst hx;subst hy;exact hab
 have ord:(live.map (·.2)).Perm (Sx es.size):=by
  rw [Wr _ WA]
  ·intro k;rw [SD,S0];constructor
   ·rintro ⟨p,hp,rfl⟩;obtain ⟨h1,h2⟩:=(lv p).mp hp;rw [h2,<-hlen];exact Uc h1
   ·intro hk;rw [<-hlen] at hk;exact ⟨(G[k],k),(lv _).mpr ⟨UH _,(O.nd.idxOf_getElem k hk).symm⟩,rfl⟩
  ·show (live.map (·.2)).Pairwise _;rw [UN];refine (VJ.mp so1).imp ?_;rintro a b ⟨ha,hb,hab⟩ z;obtain ⟨a1,a2⟩:=(lv a).mp ha;obtain ⟨b1,b2⟩:=(lv b).mp hb;rw [a2,b2] at z;have ga:=V9 (Uc a1);have gb:=V9 (Uc b1);have:a.1=b.1:=by rw [<-ga,<-gb];congr 1
   omega
 unfold laid at e;rw [e0] at e;have e1:(live.map (·.2)).toArray=Si:=by have:=TY e;exact congrArg adD this
 rw [<-e1];exact ord
theorem Eg (hm:kY (sizeAbove w - 1)) (hl:es.size<=sizeAbove w - 1):∃t' es' L',relayAll t es w=(es',t',false)/\t'.mask=sizeAbove w - 1/\t'.led=t.led/\t'.plain=t.plain/\Tab t' es' L'/\es'.toList.Perm es.toList:=by
 obtain ⟨t',Si,L',e1,e2,e3,e4,e5,e6⟩:=Ef (t:=t) (es:=es) hm hl;have od:Si.toList.Perm (Sx es.size):=FH hm hl e1;refine ⟨t',Si.filterMap (es[·]?),L',?_,e2,e3,e4,e5,e6⟩;unfold relayAll;rw [e1];dsimp only;have c1:coversAll Si es.size=true:=by unfold coversAll;exact List.isPerm_iff.mpr od
 rw [c1,cY e5];rfl
end
end DL
namespace DL
open PySem PySem.Spec PyProof.Rows L2 ST
theorem Ex:ZG (.type "tuple") (.type "set")=pure false:=by rw [Wx];kernel_rfl
theorem Ew:ZG (.type "tuple") (.type "frozenset")=pure false:=by rw [Wx];kernel_rfl
theorem Du:ZG (.type "list") (.type "set")=pure false:=by rw [Wx];kernel_rfl
theorem Dt:ZG (.type "list") (.type "frozenset")=pure false:=by rw [Wx];kernel_rfl
abbrev fN (led:Bool):Obj:={cls:=.type "set",dict:=none,data:=.set #[] 0 (.fresh 0 0 led)}
abbrev dc (w:S9):Bool:=!w.params.followText "set-order"
section
variable {prog:SK}{w:S9}{A:Te}{E:Sl->Sn->Prop}{s:Sn}{K:Sk}{J:Hp}
theorem GB (a:Sl){Q₁:Sl->Sn->Prop}(h:Q₁ (.ref s.heap.objs.size) {s with heap:=s.heap.push (fN (dc w))}):
  (U3 (SX prog w) A (.call (.builtin "set.__new__") ⟨[.type "set",a],[]⟩) (wants Q₁ E) s):=by
 refine (X_ ?_)
 (show SO _ A.in1 (do Xv "set.__new__" ⟨[.type "set",a],[]⟩;again (.builtin "set.__new__" ⟨[.type "set",a],[]⟩)) _ _ s)
 refine Sj (WE (PySem.F.newCall_set_1 a) (Sm ⟨UT abL _,Uj F.entry_set_new ?_⟩))
 (rw [TM abL _])
 (unfold Xc.«set.__new__» abQ)
 have hsub:=sub_set_self
 (obtain ⟨hp,g,d,tk,os⟩:=s)
 dsimp only
 wp_walk
 (refine U0 (Sm ?_))
 dsimp only;simp only [newObj]
 (refine Sj (abC (Sm ?_)))
 exact Sm h
noncomputable def EL (prog:SK) (w:S9) (A:Te) (E:Sl->Sn->Prop) (s:Sn) (l:SM) (items:Array Sl):Prop:=
 ∃(I:SM) (fp:List SM) (St:Nat->Sn->Prop) (h2:Uo),WalksS prog w A.in1.in1.in1 I fp [I] (λa b=>b=a) items.size (λi v=>items[i]?=some v) St/\s.heap.objs.size∉fp/\s.heap.objs.size < I/\St 0 {s with heap:=h2}/\(∀b o,(s.heap.push (fN (dc w))).get? b=some o->h2.get? b=some o)/\
  ∀R:Sl->Sn->Prop,R (.ref I) {s with heap:=h2}->SO (SX prog w) A.in1.in1 (Y3 (.ref l)) R E {s with heap:=s.heap.push (fN (dc w))}
theorem yw {ol:Obj}{Q:Sl->Sn->Prop}{items:Array Sl}(P:Uo->Prop) (QC:s.heap.get? l=some ol) (hcl:ol.cls=.type T) (R4:ZG (.type T) (.type "set")=pure false) (R3:ZG (.type T) (.type "frozenset")=pure false) (hne:(Vy T == Vy "dict")=false)
 (it:EL prog w A E s l items)
 (loop:∀{I:SM}{fp:List SM}{St:Nat->Sn->Prop}{h2:Uo}{R:_->Sn->Prop},WalksS prog w A.in1.in1.in1 I fp [I] (λa b=>b=a) items.size (λi v=>items[i]?=some v) St->s.heap.objs.size∉fp->s.heap.objs.size < I->St 0 {s with heap:=h2}->(∀b o,(s.heap.push (fN (dc w))).get? b=some o->h2.get? b=some o)->
 (∀s',Moved [s.heap.objs.size,I] (λa b=>b=a) {s with heap:=h2} s'->P s'.heap->R (.ok (.ret .none)) s')->U3 (SX prog w) A.in1.in1 (.builtin "set.update.loop" ⟨[.ref s.heap.objs.size,.ref I],[]⟩) R {s with heap:=h2})
 (h:∀(h':Uo) (tk:Nat),P h'->(∀b o,b < s.heap.objs.size->s.heap.get? b=some o->h'.get? b=some o)->Q (.ref s.heap.objs.size) {s with heap:=h',toks:=tk}):
  (SO (SX prog w) A (call (.type "set") [.ref l]) Q E s):=by
 (obtain ⟨c,tl,RX⟩:=Wi.mro)
 (have hmade:=Wi.made)
 have hsub:=Wi.sub
 (refine YB (X_ ?_))
 (show SO _ _ (callAny (.type "set") _) _ _ _)
 (refine Sm ⟨Code.quiet_builtin _ (by decide +kernel),Uj F.entry_type_call ?_⟩)
 (rw [Around.under_plain (weight_type_call_type "set" [.ref l] []) rfl])
 (have h1:=Wi.notType)
 (have h2:=Wi.canCreate)
 have hct:=PySem.F.typeCall_set_1 (.ref l)
 (repeat (any_goals (first | assumption | wp_step)))
 refine VG (GB (.ref l) (E:=E) (Q₁:=λobj s₁=>obj=.ref s.heap.objs.size/\s₁={s with heap:=s.heap.push (fN (dc w))}) ⟨rfl,rfl⟩) λr s₁ hr=>?_;cases r with
 | error e=>exact hr
 | ok fl=>
  cases fl with
  | ret obj=>
   obtain ⟨rfl,rfl⟩:=hr;have hS:(s.heap.push (fN (dc w))).get? s.heap.objs.size=some (fN (dc w)):=Sz _ rfl;have hT:WZ {s with heap:=s.heap.push (fN (dc w))} (.ref s.heap.objs.size) "set":=⟨_,hS,rfl⟩
   (have hli:=Wi.init.lookup)
   (have hbi:=Wi.init.bind (.ref s.heap.objs.size))
   (repeat (any_goals (first | assumption | wp_step)))
   refine VG (XD (R:=wants (λr s₂=>r=.none/\∃h' tk,s₂={s with heap:=h',toks:=tk}/\P h'/\
     (∀b o,b < s.heap.objs.size->s.heap.get? b=some o->h'.get? b=some o)) E) Wi.init.plain F.entry_set_init ((check_set_init_1 hT ?_))) λr₂ s₂ hr₂=>?_
   ·have Rq:(s.heap.push (fN (dc w))).get? l=some ol:=Sq _ QC;have R9:WZ {s with heap:=s.heap.push (fN (dc w))} (.ref l) T:=⟨_,Rq,hcl⟩
    (unfold Xc.«set.__init__» noKeywords abn)
    generalize RJ:Y3=PI
    wp_walk
    subst RJ;obtain ⟨I,fp,St,h2,W,hSf,hSI,st,hk,hit⟩:=it;refine hit _ (Sj (Ys (loop W hSf hSI st hk λs' hm hp=>?_)))
    (obtain ⟨h',g',d',tk',os'⟩:=s')
    (have eg:g'=s.gens:=hm.gens)
    (have ed:d'=s.drawn:=hm.drawn)
    have eo:os'=s.os:=hm.os;subst eg;subst ed;subst eo;show SO _ _ _ _ _ _;refine Sm ?_
    (show SO _ _ (ret Um) _ _ _)
    refine Sm ⟨rfl,h',tk',rfl,hp,λb o hb e=>hm.heap b o ?_ (hk b o (Sq _ e))⟩;simp only [SN,UZ,or_false,not_or];exact ⟨SQ hb,SQ (Ur hb hSI)⟩
   ·cases r₂ with
    | error e=>exact hr₂
    | ok fl₂=>
     cases fl₂ with
     | ret r=>
      obtain ⟨rfl,h',tk,rfl,hp,hk'⟩:=hr₂
      (repeat (any_goals (first | assumption | wp_step)))
      exact h _ _ hp hk'
     | _=>exact hr₂.elim
  | _=>exact hr.elim
theorem Fy (hh:A.handled=none) (hl:s.heap.IsTuple l items):EL prog w A E s l items:=by
 obtain ⟨ol,QC,hcl,nl,hdl⟩:=id hl;have hl1:(s.heap.push (fN (dc w))).IsTuple l items:=⟨_,Sq _ QC,hcl,nl,hdl⟩;have hlS:l < s.heap.objs.size:=SJ QC;have z1:(s.heap.push (fN (dc w))).objs.size=s.heap.objs.size + 1:=Us _ _;have QW:l≠(s.heap.push (fN (dc w))).objs.size:=by rw [z1];exact SQ (U6 hlS)
 refine ⟨_,_,_,_,(Walks.tuple (A:=A.in1.in1.in1) (by simp [hh]) (s.heap.push (fN (dc w))).objs.size l QW items).toS,?_,?_,⟨⟨_,Sz _ rfl,rfl,rfl⟩,hl1.push _⟩,λb o e=>Sq _ e,λR q=>aav hl1 q⟩
 ·rw [z1];simp only [SN,UZ,or_false,not_or];exact ⟨SQ (TX _),Vd hlS⟩
 ·rw [z1];exact TX _
theorem IK (hh:A.handled=none) (hl:s.heap.IsList l items):EL prog w A E s l items:=by
 obtain ⟨ol,QC,hcl,nl,hdl⟩:=id hl;have hl1:(s.heap.push (fN (dc w))).IsList l items:=⟨_,Sq _ QC,hcl,nl,hdl⟩;have hlS:l < s.heap.objs.size:=SJ QC;have z1:(s.heap.push (fN (dc w))).objs.size=s.heap.objs.size + 1:=Us _ _;have QW:l≠(s.heap.push (fN (dc w))).objs.size:=by rw [z1];exact SQ (U6 hlS)
 refine ⟨_,_,_,_,(adK (A:=A.in1.in1.in1) (by simp [hh]) (s.heap.push (fN (dc w))).objs.size l QW items).toS,?_,?_,⟨⟨_,Sz _ rfl,rfl,rfl⟩,hl1.push _⟩,λb o e=>Sq _ e,λR q=>YF hl1 q⟩
 ·rw [z1];simp only [SN,UZ,or_false,not_or];exact ⟨SQ (TX _),Vd hlS⟩
 ·rw [z1];exact TX _
end
end DL
namespace ST
open PySem PySem.SetTable
theorem wK {xs:Array Nat}(hs:xs.toList.Pairwise (· < ·)) (hi:i<=xs.size) (h1:∀k,k < i->xs.getD k 0 < j) (h2:∀k,i<=k->k < xs.size->j<=xs.getD k 0):below xs j=i:=by
 obtain ⟨b1,b2,b3⟩:=lO xs j hs;rcases aaR (below xs j) i with c | c | c
 ·have:=h1 _ c;have:=b3 _ (Sw _) (by omega);omega
 ·exact c
 ·have:=b2 _ c;have:=h2 i (Sw _) (by omega);omega
theorem A4 {xs:Array Nat}(hs:xs.toList.Pairwise (· < ·)):below xs 0=0:=wK hs (S5 _) (λk h=>absurd h (UW _)) λk _ _=>S5 _
theorem A3 {xs:Array Nat}(hs:xs.toList.Pairwise (· < ·)) (h:xs[i]?=some j):below xs (j + 1)=i + 1:=by
 obtain ⟨hi,e⟩:=Uh.mp h;have sw:=VN.mp hs;have gd:∀k (hk:k < xs.size),xs.getD k 0=xs[k]:=λk hk=>by simp [UO,hk]
 refine wK hs (by omega) (λk hk=>?_) (λk h1 h2=>?_)
 ·rw [gd k (by omega)];by_cases c:k=i
  ·subst c;omega
  ·have:=sw k i (by simp;omega) (by simpa using hi) (by omega);simp at this;omega
 ·rw [gd k h2];have:=sw i k (by simpa using hi) (by simpa using h2) (by omega);simp at this;omega
theorem uP {α:Type}(next:Nat->Nat):∀(f k:Nat) (left:List α) (out:Array α),f=left.length->(aa6 next f k left out).toList.Perm (out.toList++left)
 | 0,k,left,out,h=>by have:left=[]:=W0.mp h.symm;subst this;unfold aa6;simp
 | f + 1,k,left,out,h=>by
  have hl:next k % left.length < left.length:=YI _ (by omega);unfold aa6;rw [SH hl];dsimp only;refine (uP next f (k + 1) _ _ (by rw [XI];simp [hl];omega)).trans ?_;rw [Array.toList_push,Xf]
  (refine acR _ ?_)
  have e1:left.eraseIdx (next k % left.length)=left.take (next k % left.length)++left.drop (next k % left.length + 1):=U8 _ _;have e2:left=left.take (next k % left.length)++left[next k % left.length]::left.drop (next k % left.length + 1):=by rw [W7,VI]
  rw [e1,Wj];exact (XA.symm).trans (Yc e2.symm)
theorem BJ {α:Type}(next:Nat->Nat) (xs:Array α):(abM next xs).toList.Perm xs.toList:=by have h:=uP next xs.size 0 xs.toList #[] (by simp);rw [show (#[]:Array α).toList++xs.toList=xs.toList from rfl] at h;exact h
end ST
namespace DL
open PySem PySem.Spec PyProof.Rows L2 ST
structure jM (h:Uo) (a:SM) (led:Bool) (es:Array (Int×Sl)) (ep:Nat) (t:T3):Prop where
 at_:h.get? a=some {cls:=.type "set",dict:=none,data:=.set es ep t}
 tab:∃L,Tab t es L
 pl:led=true->(!t.plain && decide (es.size > 1))=false
 ld:t.led=led
theorem jM.keep {h h':Uo}(S:jM h a led es ep t) (e:∀o,h.get? a=some o->h'.get? a=some o):jM h' a led es ep t:=⟨e _ S.at_,S.tab,S.pl,S.ld⟩
abbrev kC (w:S9):Bool:=!w.params.followText "set-order"
noncomputable def gE (w:S9) (a ep:Nat) (es:Array (Int×Sl)):Array (Int×Sl):=if w.params.followText "set-order"=true then abM (w.params.setOrder a ep) es else es
theorem pK (w:S9) (a ep:Nat) (es:Array (Int×Sl)):(gE w a ep es).toList.Perm es.toList:=by
 unfold gE;split
 ·exact BJ _ _
 ·exact .refl _
theorem kX (w:S9) (a ep:Nat) (es:Array (Int×Sl)):(gE w a ep es).size=es.size:=by rw [<-SV,(pK w a ep es).length_eq,SV]
abbrev mU (a:SM) (slot i n ep:Nat):Obj:={cls:=.type "set_iterator",data:=.fields #[.int slot 0,.int i 0,.ref a,.int n 0,.int ep 0]}
theorem kr:adE table "set.__iter__"=some Xc.«frozenset.__iter__»:=
 (ab4 (id':="frozenset.__iter__") (by kernel_rfl) rfl (by decide +kernel) (by kernel_rfl))
theorem cK:Slot "set_iterator" "__next__" "set_iterator.__next__":=
 (.of (owner:="set_iterator") (n:="__next__") (by rw [ZH,Xr];kernel_rfl) (by decide +kernel) (by decide +kernel) (by decide +kernel)
  (by first | exact .inl (by decide +kernel) | exact .inr (by decide +kernel)) (by rw [Wx];kernel_rfl))
theorem gZ:adE table "set_iterator.__next__"=some Xc.«set_iterator.__next__»:=(entryFor_of_tree (by kernel_rfl))
theorem iy (a:Sl):acf "set_iterator.__next__" ⟨[a],[]⟩:=by unfold acf;kernel_rfl
section
variable {prog:SK}{w:S9}{A:Te}{E:Sl->Sn->Prop}{s:Sn}
theorem FD {a:SM}{es:Array (Int×Sl)}{ep:Nat}{t:T3}{Q:Sl->Sn->Prop}(S:jM s.heap a (kC w) es ep t)
  (hQ:Q (.ref s.heap.objs.size) {s with heap:=s.heap.push (mU a 0 0 es.size ep)}):SO (SX prog w) A (Y3 (.ref a)) Q E s:=by
 obtain ⟨L,T⟩:=S.tab;have hT:s.TypeIs (.ref a) "set":=⟨_,S.at_,rfl⟩;refine Xh hT Yd (TR Yd hT kr ?_ (aaU _));show SO _ _ (V0 a >>= _) _ _ s;unfold V0;refine Sj (Sj (Vu S.at_ rfl (cY T) (Sm ?_)));unfold setDrawn ZO;refine Sj (Sj (V1 S.at_ rfl (cY T) (Sj (Sj (U0 (Sm (Sm ?_)))))));dsimp only;split
 ·rename_i c;have c:(!w.params.followText "set-order" && (!t.plain && decide (es.size > 1)))=true:=c;rw [SI] at c;exact absurd (c.2.symm.trans (S.pl c.1)) (by decide)
 ·(refine Sj (Sm ?_))
  refine Sj (aaV S.at_ rfl (cY T) ?_)
  (refine Sj (S_ ?_))
  exact Sm ⟨_,rfl,"set_iterator",_,⟨_,Sz _ rfl,rfl⟩,cK.lookup,hQ⟩
theorem yx {t:T3}{Q:Option (Sl×Nat)->Sn->Prop}(S:jM s.heap a (kC w) es ep t) (hb:w.params.followText "set-order"=false->Wy t.place slot=i)
 (q1:∀e slot',(gE w a ep es)[i]?=some e->(w.params.followText "set-order"=false->Wy t.place slot'=i + 1)->Q (some (e.2,slot')) s) (q2:(gE w a ep es)[i]?=none->Q none s):
  SO (SX prog w) A (setNext a slot i ep) Q E s:=by
 obtain ⟨L,T⟩:=S.tab;unfold setNext ZO;refine Sj (V1 S.at_ rfl (cY T) ?_);dsimp only
 (refine Sj (Sj (U0 (Sm ?_))))
 dsimp only;cases bt:w.params.followText "set-order" with
 | true=>
  rw [show (SX prog w).w.params.followText "set-order"=true from bt];simp only [if_true,bne_self_eq_false,Tn,if_false];unfold setWalk ZO;refine Sj (Sj (V1 S.at_ rfl (cY T) ?_));dsimp only
  (refine Sj (Sj (U0 (Sm ?_))))
  dsimp only;rw [show (SX prog w).w.params.followText "set-order"=true from bt];simp only [if_true];refine Sj (U0 (Sm ?_));dsimp only;have ew:gE w a ep es=abM ((SX prog w).w.params.setOrder a ep) es:=by unfold gE;rw [if_pos bt];rfl
  rw [ew] at q1 q2;cases q:(abM ((SX prog w).w.params.setOrder a ep) es)[i]? with
  | none=>exact Sm (q2 q)
  | some e=>exact Sm (q1 e slot q λz=>absurd (bt.symm.trans z) (by decide))
 | false=>
  rw [show (SX prog w).w.params.followText "set-order"=false from bt]
  (simp only [Tn,if_false])
  have ew:gE w a ep es=es:=by unfold gE;rw [if_neg (by rw [bt];decide)]
  rw [ew] at q1 q2;have Rl:t.led=true:=by rw [S.ld];show (!w.params.followText "set-order")=true;rw [bt];rfl
  split
  ·rename_i c;have c:(!t.plain && decide (es.size > 1))=true:=c;exact absurd (c.symm.trans (S.pl (by show (!w.params.followText "set-order")=true;rw [bt];rfl))) (by decide)
  ·refine Sj (WE (a:=()) ?_ ?_)
   ·show (if (!t.led && !es.isEmpty)=true then _ else pure ())=pure ();rw [Rl];rfl
   ·rw [hb bt];cases q:es[i]? with
    | none=>exact Sm (q2 q)
    | some e=>
     have hlen:i < t.place.size:=by
      have h1:=(Uh.mp q).1;have h2:t.place.size=es.size:=by rw [<-SV,T.pl,So,um T]
      omega
     have ep':t.place[i]?=some t.place[i]:=UD hlen;rw [ep'];exact Sm (q1 e _ q λ_=>A3 T.sop ep')
theorem FY {es:Array (Int×Sl)}{t:T3}{Q:Option Sl->Sn->Prop}(hne:a≠I) (S:jM s.heap a (kC w) es ep t) (hI:s.heap.get? I=some (mU a slot i es.size ep)) (hb:w.params.followText "set-order"=false->Wy t.place slot=i) (hi:i < es.size)
 (hQ:∀h' slot' e,(gE w a ep es)[i]?=some e->h'.get? I=some (mU a slot' (i + 1) es.size ep)->(w.params.followText "set-order"=false->Wy t.place slot'=i + 1)->UJ I s.heap h'->Q (some e.2) {s with heap:=h'}):
  SO (SX prog w) A (W2 (.ref I)) Q E s:=by
 obtain ⟨L,T⟩:=S.tab;have hT:s.TypeIs (.ref I) "set_iterator":=⟨_,hI,rfl⟩;unfold W2;refine Sj (WO (Uv (name:=WI "__next__") hT cK (TR cK hT gZ ?_ (iy _))));show SO _ _ (acD (.ref I) >>= _) _ _ s;refine Sj (Yu hI rfl ?_);dsimp only;refine Sj (Vu S.at_ rfl (cY T) ?_);simp only [bne_self_eq_false,Tn,if_false,UM];refine Sj (yx S hb (λe slot' q1 q2=>?_) λq=>?_)
 ·dsimp only;refine Sj (VL hI (by simp) λh1 g1 b1=>?_);refine Sj (VL (s:={s with heap:=h1}) g1 (by simp) λh2 g2' b2=>?_);exact Sm ⟨_,rfl,Sm (hQ h2 slot' e q1 (g2'.trans (by simp [acH])) q2 (b1.trans b2))⟩
 ·exfalso;have:=(Array.getElem?_eq_none_iff.mp q);rw [kX] at this;omega
theorem Iw {es:Array (Int×Sl)}{t:T3}{Q:Option Sl->Sn->Prop}(hh:A.handled=none) (S:jM s.heap a (kC w) es ep t) (hI:s.heap.get? I=some (mU a slot es.size es.size ep)) (hb:w.params.followText "set-order"=false->Wy t.place slot=es.size)
 (hQ:∀h',ado I s.heap h'->Q none {s with heap:=h'}):SO (SX prog w) A (W2 (.ref I)) Q E s:=by
 obtain ⟨L,T⟩:=S.tab;have hT:s.TypeIs (.ref I) "set_iterator":=⟨_,hI,rfl⟩;unfold W2;refine Sj (WO (Uv (name:=WI "__next__") hT cK (TR cK hT gZ ?_ (iy _))));show SO _ _ (acD (.ref I) >>= _) _ _ s;refine Sj (Yu hI rfl ?_);dsimp only;refine Sj (Vu S.at_ rfl (cY T) ?_);simp only [bne_self_eq_false,Tn,if_false,UM];refine Sj (yx S hb (λe slot' q1 q2=>?_) λq=>?_)
 ·exfalso;have:=(Uh.mp q1).1;rw [kX] at this;omega
 ·dsimp only;refine Sj (VL hI (by simp) λh1 g1 b1=>?_);refine Sj ?_;simp only [newExc,newTuple]
  (refine Sj (S_ ?_ (by size_fits)))
  (refine Sj (m:=Yv _ _) (WE (a:=Um) (by first | rfl | (simp only [Yv];rfl)) ?_))
  (refine S_ ?_ (by size_fits))
  simp only [raiseNew]
  (refine Sj (acE ?_))
  (first | rw [show A.in1.handled=none from hh] | rw [hh])
  (refine Sj (Sm (wpAny_throw ?_)))
  (refine Sj (Y9 (T:="StopIteration") (b:=true) ⟨_,Sz _ rfl,rfl⟩ ab5 ?_))
  exact Sm (hQ _ ((b1.extBut.push _).push _))
end
theorem vE:ab9 (.type "set") "__len__"=pure (some (.builtin "set.__len__")):=by rw [ZH,Xr];kernel_rfl
theorem sL {M:abS}{A:Te}{E:Sl->Sn->Prop}{s:Sn}{α:Type}{c:Prop} [Decidable c] {m1 m2:Sem α}{Q:α->Sn->Prop}(hc:c) (h:SO M A m1 Q E s):SO M A (if c then m1 else m2) Q E s:=by rw [if_pos hc];exact h
theorem xG {prog:SK}{w:S9}{A:Te}{E:Sl->Sn->Prop}{s:Sn}{a:SM}{Q:Bool->Sn->Prop}(hT:s.TypeIs (.ref a) "set") (hQ:Q false s):SO (SX prog w) A (Ye (.ref a)) Q E s:=by
 have sp:splitId "set.__len__"=some ("set","__len__"):=by decide +kernel
 (unfold Ye)
 refine Sj (abN hT vE ?_);dsimp -zeta only;rw [sp];dsimp -zeta only;refine Sj (m:=isInstance (.ref a) (.type "set")) (Y9 hT sub_set_self ?_)
 (show SO _ _ (if (!true)=true then _ else _) _ _ _)
 rw [if_neg (by decide)];refine sL (by decide +kernel) ?_
 (refine Sj (WJ hT ?_))
 exact Sm hQ
theorem iG:Slot "set_iterator" "__iter__" "set_iterator.__iter__":=
 ((.of (owner:="set_iterator") (n:="__iter__") (by rw [ZH,Xr];kernel_rfl) (by decide +kernel) (by decide +kernel) (by decide +kernel)
  ((by first | exact .inl (by decide +kernel) | exact .inr (by decide +kernel))) (by rw [Wx];kernel_rfl)))
theorem mL:adE table "set_iterator.__iter__"=some Xc.«dict_keyiterator.__iter__»:=
 (ab4 (id':="dict_keyiterator.__iter__") (by kernel_rfl) rfl (by decide +kernel) (by kernel_rfl))
theorem ni (a:Sl):acf "set_iterator.__iter__" ⟨[a],[]⟩:=by unfold acf;kernel_rfl
section
variable {prog:SK}{w:S9}{A:Te}{E:Sl->Sn->Prop}{s:Sn}
def kH (w:S9) (a ep:Nat) (es:Array (Int×Sl)):List Sl:=(gE w a ep es).toList.map (·.2)
theorem EI (hh:A.handled=none) (I a:SM) (hne:a≠I){es:Array (Int×Sl)}{t:T3}:
  Walks prog w A I [I,a] [I] es.size (λi v=>(kH w a ep es)[i]?=some v) (λi h=>∃slot,h.get? I=some (mU a slot i es.size ep)/\jM h a (kC w) es ep t/\(w.params.followText "set-order"=false->Wy t.place slot=i)) where
 sub:=λ_ hb=>by simp at hb;simp [hb]
 frame:=λ_ _ _ ⟨slot,h1,h2,h3⟩ hk=>⟨slot,hk I (by simp) _ h1,h2.keep λo e=>hk a (by simp) o e,h3⟩
 item:=λi s Q E hi ⟨slot,h1,h2,h3⟩ hQ=>by
  refine FY hne h2 h1 h3 hi λh' slot' e q1 q2 q3 q4=>?_;refine hQ e.2 h' s.toks ?_ ⟨slot',q2,h2.keep λo e=>?_,q3⟩ λb o hb e=>?_
  ·unfold kH;rw [S3,Wf,q1];rfl
  ·rw [q4.2 a hne];exact e
  ·exact q4.extBut b o (λh=>hb (by simp [h])) e
 done:=λs Q E ⟨slot,h1,h2,h3⟩ hQ=>Iw hh h2 h1 h3 λh' he=>hQ h' s.toks λb o hb e=>he b o (λh=>hb (by simp [h])) e
 self:=λi s Q E ⟨slot,h1,h2,h3⟩ hQ=>by have hT:s.TypeIs (.ref I) "set_iterator":=⟨_,h1,rfl⟩;refine Xh hT iG (TR iG hT mL ?_ (ni _));show SO _ _ (ret (.ref I)) _ _ s;exact Sm ⟨_,rfl,"set_iterator",_,hT,cK.lookup,hQ⟩
theorem yU {a:SM}{es:Array (Int×Sl)}{ep:Nat}{t:T3}{Q:List Sl->Sn->Prop}(hh:A.handled=none) (S:jM s.heap a (kC w) es ep t) (hn:es.size<=76)
  (hQ:∀(h':Uo) (tk:Nat),(∀b o,s.heap.get? b=some o->h'.get? b=some o)->s.heap.objs.size < h'.objs.size->Q (kH w a ep es) {s with heap:=h',toks:=tk}):SO (SX prog w) A (collect (.ref a)) Q E s:=by
 have ha:a < s.heap.objs.size:=SJ S.at_;have hT:s.TypeIs (.ref a) "set":=⟨_,S.at_,rfl⟩;unfold collect
 (refine Sj (Ys (Uj Xp ?_)))
 (rw [TM Xq _])
 show SO _ A.in1 (newList [] >>= λl=>again (.builtin "list.__iadd__" ⟨[l,.ref a],[]⟩)) _ _ s
 (refine Sj (S_ ?_))
 (refine Sm ⟨UT VY _,Uj YH ?_⟩)
 (rw [TM VY _])
 generalize Rk:({cls:=.type "list",data:=.seq ([]:List Sl).toArray}:Obj)=l0;have S1:jM (s.heap.push l0) a (kC w) es ep t:=S.keep λo e=>Sq _ e;have hT1:WZ {s with heap:=s.heap.push l0} (.ref a) "set":=⟨_,S1.at_,rfl⟩;show SO _ A.in1 (Vv (.ref s.heap.objs.size) (.ref a) (.ref s.heap.objs.size)) _ _ _
 (unfold Vv)
 refine Sj (WJ hT1 ?_);have h1:YL (.ref s.heap.objs.size) (.ref a)=false:=by show (s.heap.objs.size == a)=false;exact beq_eq_false_iff_ne.mpr (Vd ha)
 have h2:(Vy "set" == Vy "list")=false:=by decide
 have h3:(Vy "set" == Vy "tuple")=false:=by decide
 (simp only [h1,h2,h3,aaq,Tn,if_false])
 refine Sj (FD S1 ?_)
 (refine Sj (Tt ?_))
 have z1:(s.heap.push l0).objs.size=s.heap.objs.size + 1:=Us _ _;rw [z1];have S2:jM ((s.heap.push l0).push (mU a 0 0 es.size ep)) a (kC w) es ep t:=S1.keep λo e=>Sq _ e;have hT2:WZ {s with heap:=(s.heap.push l0).push (mU a 0 0 es.size ep)} (.ref a) "set":=⟨_,S2.at_,rfl⟩;refine xG hT2 ?_;refine sL (by decide +kernel) ?_
 (refine Sj (XQ ?_))
 subst Rk;have hI:((s.heap.push {cls:=.type "list",data:=.seq ([]:List Sl).toArray}).push (mU a 0 0 es.size ep)).get? (s.heap.objs.size + 1)=some (mU a 0 0 es.size ep):=by rw [<-z1];exact Sz _ rfl
 have hS₁:((s.heap.push {cls:=.type "list",data:=.seq ([]:List Sl).toArray}).push (mU a 0 0 es.size ep)).get? s.heap.objs.size=some {cls:=.type "list",data:=.seq ([]:List Sl).toArray}:=Sq _ (Sz _ rfl);refine Sj ?_
 (show SO _ A.in1 (Zv s.heap.objs.size (·.push .none) >>= λ_=>Zv s.heap.objs.size (·.pop)) _ _ _)
 (refine Sj (Ve hS₁ rfl ?_))
 (have hS₂:=Ue (Uw (·.push Um)) hS₁ rfl)
 (refine Ve hS₂ rfl ?_)
 (have hS₃:=Ue (Uw (·.pop)) hS₂ rfl)
 have oth:∀b o,b≠s.heap.objs.size->((s.heap.push {cls:=.type "list",data:=.seq ([]:List Sl).toArray}).push (mU a 0 0 es.size ep)).get? b=some o->
   ((((s.heap.push {cls:=.type "list",data:=.seq ([]:List Sl).toArray}).push (mU a 0 0 es.size ep)).update s.heap.objs.size (Uw (·.push Um))).update s.heap.objs.size (Uw (·.pop))).get? b=some o:=
  (λb o hb e=>(TV _ _ (UA hb)).trans ((TV _ _ (UA hb)).trans e))
 have hne:a≠s.heap.objs.size + 1:=SQ (U6 ha);have hSf:s.heap.objs.size∉[s.heap.objs.size + 1,a]:=by simp only [SN,UZ,or_false,not_or];exact ⟨SQ (TX _),Vd ha⟩
 obtain ⟨L,T⟩:=S.tab;refine Sm ⟨UT aaa _,ZT ((EI (A:=A.in1) (prog:=prog) (w:=w) (es:=es) (ep:=ep) (t:=t) hh (s.heap.objs.size + 1) a hne).toS) (by rw [T_];omega) _ hSf _ es.size 0 _ _ _ rfl (S5 _)
  ⟨0,oth _ _ (Vd (TX _)) hI,S2.keep λo e=>oth _ _ (SQ ha) e,λ_=>A4 T.sop⟩ hS₃ (adp _) λs' acc' c' hm hS' hacc=>?_⟩
 (show SO _ A (load s.heap.objs.size >>= _) _ _ s')
 (refine Sj (aaD hS' ?_))
 have eacc:acc'.toList=kH w a ep es:=by
  obtain ⟨z,q⟩:=hacc;have lw:(kH w a ep es).length=es.size:=by unfold kH;rw [So,SV,kX]
  refine VC (by rw [SV,z,lw]) λi x1 x2=>?_;have this:(kH w a ep es)[i]?=some (acc'[i]'(by simpa using x1)):=q i _ (UD (by simpa using x1));rw [SH x2] at this
  (exact (TY this).symm)
 refine Sm ?_;rw [eacc]
 (obtain ⟨h',g',d',tk',os'⟩:=s')
 (have eg:g'=s.gens:=hm.gens)
 (have ed:d'=s.drawn:=hm.drawn)
 have eo:os'=s.os:=hm.os;subst eg;subst ed;subst eo;refine hQ h' tk' (λb o e=>?_) (SJ hS');have lb:=SJ e;refine hm.heap b o ?_ (oth b o (SQ lb) (Sq _ (Sq _ e)));simp only [SN,UZ,or_false,not_or];exact ⟨SQ lb,SQ (U6 lb)⟩
end
end DL
namespace DL
open PySem PySem.Spec PyProof.Rows L2 ST
open PySem.W (KasT kas_sort kas_ask)
theorem wG {k:Hd}:∀{ds:List D},(∀d∈ds,iU d=some k)->gX k ds=true
 | [],_=>rfl
 | x::r,h=>by unfold gX;rw [h x (Sv ..),wG λd hd=>h d (Ss _ hd)];cases k <;> rfl
noncomputable def dd:List D->List D
 | []=>[]
 | x::xs=>if (dd xs).any (cA x)=true then dd xs else x::dd xs
section
variable {P:D->Prop}
theorem Aw (p:iw P){ds:List D}(h:∀x∈ds,P x) (nd:ds.Nodup):(bM ds).Pairwise λa b=>fR a b=true:=by
 have up:=GC p ds h;have pm:=sD ds;have nd':(bM ds).Nodup:=pm.nodup_iff.mpr nd;have both:=adL up nd';refine (VJ.mp both).imp ?_;rintro a b ⟨ha,hb,h1,h2⟩;cases q:fR a b with
 | true=>rfl
 | false=>exact absurd (p.tri a b (h a (pm.mem_iff.mp ha)) (h b (pm.mem_iff.mp hb)) q h1) h2
end
end DL
namespace DL
open PySem PySem.Spec PyProof.Rows L2
section
variable {X:Cx}{c:C}{e a b:Tv}{es elts:List Tv}{pos tp:Pos}{kk:Nat}
noncomputable def KQ:R->M (List D)
 | .d (.tup xs)=>.ok xs
 | .d (.lst xs)=>.ok xs
 | _=>.bad
noncomputable def PV (gs:G (List R)):G (List D):=λenv=>gs env >>= λrs=>match rs with
 | [x,y]=>KQ x >>= λxs=>KQ y >>= λys=>.ok (List.zipWith (λa b=>.tup [a,b]) xs ys)
 | _=>.bad
theorem E2:eK X (.type "range") (λxs H Q=>∃j:Int,xs=[.int j]/\∀p,H p=none->Q (.ref p) (upd H p (.rng 0 j))):=by intro Sa s σ H xs us Q I r h;obtain ⟨j,rfl,q⟩:=h;obtain ⟨u,rfl,t,rfl⟩:=vals1 r;refine call_range_1 ⟨.ref s.heap.objs.size,_,I.laid (λb o e=>Sq _ e) (Sw _) (show bW X.prog X.w _ _ _ (.rng 0 j) from ⟨_,_,_,Sz _ rfl⟩),rfl,q _ (I.hok.fresh (Sw _))⟩
def kB (n:Nat):List V:=(Sx n).map λ(k:Nat)=>V.int k
theorem GJ {acc:Array Sl}(h:ItemsOf (λi v=>∃t,v=.int (0 + (i:Int) * 1) t) acc n):Vals (kB n) acc.toList:=by
 have key:∀(us:List Sl) (i:Nat),(∀j v,us[j]?=some v->∃t:Tok,v=Wu ((i + j:Nat):Int) t)->Vals ((Xe i us.length).map λ(k:Nat)=>V.int k) us:=by
  intro us
  induction us with
  | nil=>exact λi _=>.nil
  | cons u us ih=>
   intro i hj;obtain ⟨t,e⟩:=hj 0 u rfl;rw [Ti,Y6,S4];refine .cons ⟨t,by rw [e];rfl⟩ (ih (i + 1) λj v hv=>?_);obtain ⟨t,e⟩:=hj (j + 1) v (by simpa using hv);exact ⟨t,by rw [e];congr 2;omega⟩
 have e:acc.toList.length=n:=by rw [SV];exact h.1
 unfold kB;rw [Wt,<-e];refine key acc.toList 0 λj v hv=>?_;obtain ⟨t,q⟩:=h.2 j v (by simpa using hv);exact ⟨t,by rw [q];congr 1;omega⟩
theorem vq (hc:X.calm=true):eK X (.type "list") (λxs H Q=>∃(p:SM) (j:Int),xs=[.ref p]/\H p=some (.rng 0 j)/\-(2 ^ 24)<=j/\j<=2 ^ 24/\∀l,H l=none->Q (.ref l) (upd H l (.lst (kB j.toNat)))):=by
 intro Sa s σ H xs us Q I r h;obtain ⟨p,j,rfl,hp,h0,h1,q⟩:=h;obtain ⟨u,rfl,rx⟩:=vals1 r;cases rx;obtain ⟨t,u,v,ho⟩:=I.hok p _ hp;have hn:YR 0 j 1=(j.toNat:Int):=by rw [acn];split <;> omega
 refine call_list_range (I.ok.hd hc) ho (small_one (by decide) (by decide) (by omega) (by omega)) hn (by omega) λh' tk acc' c' kp e hi=>?_;have hv:=GJ hi;refine ⟨.ref s.heap.objs.size,_,I.laid kp (Sw _) (show bW X.prog X.w _ h' _ (.lst (kB j.toNat)) from ⟨?_,acc'.toList,c',hv,e⟩),rfl,q _ (I.hok.fresh (Sw _))⟩;unfold kB;rw [So,Th];show j.toNat<=2 ^ 24;omega
noncomputable def Hg (gs:G (List R)):G R:=λenv=>gs env >>= λrs=>match rs with
 | [.d (.int j)]=>if below 16777216 j then .ok (.l .fresh (dH 0 j.toNat)) else .bad
 | _=>.bad
theorem Gv {K:Sk}{J:Hp}(n:Nat):aL K J (dH 0 n) (kB n):=by
 unfold dH kB;generalize Sx n=ks
 induction ks with
 | nil=>exact .nil
 | cons k ks ih=>
  rw [S4,S4,Zx];exact .cons (.int _) ih
end
end DL
namespace DL
open PySem PySem.Spec PyProof.Rows L2 DX
section
variable {X:Cx}{c:C}{e a:Tv}{es:List Tv}{ga g:G R}{pos:Pos}{L:List Str}{T:Str->Bool}
theorem BQ {p p2 pos2:Pos}{gs:G (List R)}(ha:jK X c [a] gs) (hm:X.mg "range"=none) (hm2:X.mg "list"=none) (hc:autoParam (X.calm=true) zA._auto_1) (hK:autoParam (X.K=c.K) zA._auto_1) (hg:autoParam (Gl X "range") zA._auto_1) (Q7:autoParam (Gl X "list") zA._auto_1)
  (hs:autoParam (SG [a] X.env=(false,eval a X.env)::SG [] X.env) zA._auto_1) (hs0:autoParam ((Vf pos (SG [] X.env)).any (·.1)=false) zA._auto_1) (hs2:autoParam (SG [adT (.Name "range" p) [a] [] pos] X.env=(false,eval (adT (.Name "range" p) [a] [] pos) X.env)::SG [] X.env) zA._auto_1) (R1:autoParam ((Vf pos2 (SG [] X.env)).any (·.1)=false) zA._auto_1):
  QD X c (.Call (.Name "list" p2) [.Call (.Name "range" p) [a] [] pos] [] pos2) (Hg gs):=by
 have ha:=ha.h;refine ⟨?_⟩;have h1:=jk (p:=p) (pos:=pos) E2 hg hm boot_range ha (by decide) (by decide) hs hs0;have h2:=jk (p:=p2) (pos:=pos2) (vq hc) Q7 hm2 qI (gq h1 iE hs2) (by decide) (by decide) hs2 R1;refine ef h2 λσ H Q ⟨J,env,sr,w⟩=>?_;refine ⟨J,env,sr,aC (aG w) λrs wr vs J1 H1 e1 r1=>?_⟩;split at wr
 ·rename_i j;obtain ⟨v,rfl,r⟩:=r1.one;cases r;split at wr
  ·rename_i hb;obtain ⟨b1,b2⟩:=ez.mp hb;refine ⟨j,rfl,λq hq=>?_⟩;refine ⟨q,j,rfl,bD,by omega,by omega,λl hl=>?_⟩;have hp1:=sr.hp.ext e1;have e2:=Ext.new hp1.sub hq (.rng 0 j);have hp2:=hp1.ext e2;have hr:RR c H1 J1 (upd (upd H1 q (.rng 0 j)) l (.lst (kB j.toNat))) (.l .fresh (dH 0 j.toNat)) (.ref l):=by obtain ⟨a,us,x1,x2,x3,x4,x5⟩:=gD (c:=c) hp2 hl (Gv j.toNat);exact ⟨a,us,x1,x2,x3,e2.h.free x4,x5⟩
   exact wr _ _ _ ((e1.trans e2).trans (Ext.new hp2.sub hl _)) (by
    obtain ⟨a,us,x1,x2,x3,x4,x5⟩:=hr;exact ⟨a,us,x1,x2,x3,e1.h.free x4,x5⟩)
  ·exact wr.elim
 ·exact wr.elim
end
end DL
namespace DL
open PySem PySem.Spec PyProof.Rows L2
end DL
namespace DL
open PySem PySem.Spec PyProof.Rows L2 DX
open PySem.W (KasT kas_sort kas_ask)
section
variable {X:Cx}{c:C}{e:Tv}{es:List Tv}{pos:Pos}
noncomputable def k9:List R->M R
 | [r]=>iz r >>= λxs=>if uO xs=true then .ok (.l .fresh (bM xs)) else if yc xs=true then .ok (.l .fresh (bM xs)) else .bad
 | _=>.bad
theorem uR {p:Pos}{gs:G (List R)}(hu:X.A.units + 64 < VP) (ha:jK X c (e::es) gs) (hm:X.mg "sorted"=none) (hK:autoParam (X.K=c.K) zA._auto_1) (hg:autoParam (Gl X "sorted") zA._auto_1)
  (he:autoParam (SG (e::es) X.env=(false,eval e X.env)::SG es X.env) zA._auto_1) (hpl:autoParam ((Vf pos (SG es X.env)).any (·.1)=false) zA._auto_1):QD X c (.Call (.Name "sorted" p) (e::es) [] pos) (gN k9 gs):=have ha:=ha.h;⟨
 pX (wX hu) (by
  intro He J H xs vs Q hp rs w;unfold k9 at w;split at w
  ·obtain ⟨v,rfl,r⟩:=rs.one;obtain ⟨xs,q,w⟩:=i8 w;obtain ⟨p,vs,rfl,h1,h2⟩:=jB hp r q;rw [hK];split at w
   ·rename_i ok;exact ⟨p,vs,xs,rfl,h1,h2.mono hp.sub,.inl ok,λl vs' hl rr=>w _ _ _ (Ext.new hp.sub hl _) (gD hp hl (rr _ h2))⟩
   ·split at w
    ·rename_i ok;exact ⟨p,vs,xs,rfl,h1,h2.mono hp.sub,.inr ok,λl vs' hl rr=>w _ _ _ (Ext.new hp.sub hl _) (gD hp hl (rr _ h2))⟩
    ·exact w.elim
  ·exact w.elim) jQ hm ha hg (by decide) (by decide) he hpl⟩
end
end DL
namespace DL
open PySem PySem.Spec PyProof.Rows L2 ST DX
open PySem.W (KasT kas_sort kas_ask)
end DL
namespace DL
open PySem PySem.Spec PyProof.Rows L2 DX
section
open PySem.SeqAt
open PySem.AutoSeq1 (wpAny_loadPart')
open PySem.MeetsSeq PySem.MeetsSeq2 PySem.MeetsSeq3
end
theorem s_ (gt:GT) (gts:G Bool) (ge:G R):∀(ds:List D) (env:Ev) (k:List D->M R),(b_ gt gts (gz ge) ds env >>= λr=>k r.1)=(fz gt gts ge ds env >>= k)
 | [],env,k=>rfl
 | d::ds,env,k=>by
  unfold b_ fz;cases gt d env with
  | bad=>rfl
  | exc z=>rfl
  | ok e=>
   show ((gts e >>= λk=>if k=true then gz ge e >>= λr=>b_ gt gts (gz ge) ds r.2 >>= λz=>.ok (r.1++z.1,z.2) else b_ gt gts (gz ge) ds e) >>= _)=((gts e >>= λk=>if k=true then ge e >>= λr=>toD r >>= λy=>fz gt gts ge ds e >>= λys=>.ok (y::ys) else fz gt gts ge ds e) >>= _);cases gts e with
   | bad=>rfl
   | exc z=>rfl
   | ok b=>
    cases b with
    | false=>exact s_ gt gts ge ds e k
    | true=>
     show ((gz ge e >>= λr=>b_ gt gts (gz ge) ds r.2 >>= λz=>.ok (r.1++z.1,z.2)) >>= _)=((ge e >>= λr=>toD r >>= λy=>fz gt gts ge ds e >>= λys=>.ok (y::ys)) >>= _);unfold gz;cases ge e with
     | bad=>rfl
     | exc z=>rfl
     | ok r=>
      show (((toD r >>= λy=>M.ok ([y],e)) >>= λr=>b_ gt gts (gz ge) ds r.2 >>= λz=>.ok (r.1++z.1,z.2)) >>= _)=((toD r >>= λy=>fz gt gts ge ds e >>= λys=>.ok (y::ys)) >>= _);cases toD r with
      | bad=>rfl
      | exc z=>rfl
      | ok y=>
       have ih:=s_ gt gts ge ds e λys=>k (y::ys);show ((b_ gt gts (gz ge) ds e >>= λz=>.ok ([y]++z.1,z.2)) >>= λr=>k r.1)=((fz gt gts ge ds e >>= λys=>M.ok (y::ys)) >>= k);have e1:((b_ gt gts (gz ge) ds e >>= λz=>M.ok ([y]++z.1,z.2)) >>= λr=>k r.1)=(b_ gt gts (gz ge) ds e >>= λr=>k (y::r.1)):=by cases b_ gt gts (gz ge) ds e <;> rfl
       have e2:((fz gt gts ge ds e >>= λys=>M.ok (y::ys)) >>= k)=(fz gt gts ge ds e >>= λys=>k (y::ys)):=by cases fz gt gts ge ds e <;> rfl
       rw [e1,e2,ih]
theorem IE (n:Nat) (cap:List Nat) (gi:G (List D)) (gt:GT) (gts:G Bool) (ge:G R):cT n cap gi gt gts ge=jf sizeLine n cap gi gt gts (gz ge) (λys=>.ok (.l .fresh ys)):=by
 funext env;unfold cT jf;cases gi env with
 | bad=>rfl
 | exc z=>rfl
 | ok ds=>
  show (if ds.length<=sizeLine then _ else _)=(if ds.length<=sizeLine then _ else _);by_cases c:ds.length<=sizeLine
  ·rw [if_pos c,if_pos c];exact (s_ gt gts ge ds _ λys=>.ok (.l .fresh ys)).symm
  ·rw [if_neg c,if_neg c]
section
variable {X:Cx}{c:C}
theorem jr (own:List Str) (cap:List Nat){R_:Wa}{pos:Pos}{gi:G (List D)}{gts:G Bool}{ge:G R}(hi:Co X c Sd Se gi)
 (hbody:∀(cl:List (Str×SM)) (C:SM) (s:Sn) (H:Hp) (fp:List SM),eO X.env.cells R_.names []=some cl->qA (fh X own cap R_ cl C s H fp) c Sd gt/\sR (fh X own cap R_ cl C s H fp) c ifs gts/\QD (fh X own cap R_ cl C s H fp) c elt ge) (a:B9 X R_ cap Se:=by exact CK rfl):vF X c (.ListComp elt [⟨Sd,Se,ifs,0⟩] R_ pos) (cT own.length cap gi gt gts ge):=by
 refine ⟨_,?_,rfl,λ_=>rfl⟩;rw [IE];refine pT (e:=.ListComp elt [⟨Sd,Se,ifs,0⟩] R_ pos) (ob:={cls:=.type "list",dict:=none,data:=.seq ([]:List Sl).toArray}) (o0:=λ_=>.lst []) (Acc:=λp _=>AU c p) (N:=1) (lim:=sizeLine) (m:=λp env=>do let _ <-call (.builtin "list.append") [.ref p,<-eval elt env]) own cap rfl hi.h
  (λs Q E q=>S_ q) (λh H=>⟨S5 _,[],0,.nil,Sz _ rfl⟩) (λp _=>pQ) (λp _ J H _ h1 h2=>⟨[],h1,h2,.nil⟩) (by rw [Nat.mul_one];exact Sw _) (λit p env=>Bv (compTurn_list ..)) (λit acc env R s h0 h=>Zd h0 h) (λys z q=>by cases q)
  (fun {p H2 J H J' H' ys r} hp _ e ⟨us,h1,h2,h3⟩ q=>by cases q;exact ⟨J',e,⟨p,us,rfl,h1,h2,hp,h3⟩⟩) (λcl C s H fp hcc=>?_) yL a
 obtain ⟨b1,b2,b3⟩:=hbody cl C s H fp hcc;exact ⟨b1.h,b2.h,λp J2 H2 hp2 hp0=>zl hp2 hp0 b3.h⟩
end
end DL
namespace DL
open PySem PySem.Spec PyProof.Rows L2 DX
open Sem (wp)
end DL
namespace DL
open PySem PySem.Spec PyProof.Rows L2 DX
end DL
namespace DL
open PySem PySem.Spec PyProof.Rows L2
def FA (K:Sk) (x:Str) (st:VQ):Prop:=∃f fd,S8 K SY x=some (some (.ref f))/\gg K x x st f fd
theorem M8 {K:Sk}{st:VQ}(a:S8 K SY x=some (some (.ref f)))
 (l:K.lookup f=some ⟨u,o,.func (Tp x x (cB st) (bB st) (aJ st) .none v d p n q r),s⟩) (c:Vo K q x=true) (k:T4 K (.ref f)=true):FA K x st:=⟨f,_,a,xw l c k⟩
def FB (K:Sk) (mg:Str->Option Sl) (x:Str) (st:VQ):Prop:=∃f fd,mg x=some (.ref f)/\gg K x x st f fd
theorem dR {K:Sk}{h:Uo}{mg:Str->Option Sl}(X:K.In h) (G:h.Ns SY mg){st:VQ}(e:FA K x st):FB K mg x st:=let ⟨f,fd,a,F⟩:=e;⟨f,fd,US X G a,F⟩
theorem Pu {P:SK}{w:S9}{K:Sk}{mg:Str->Option Sl}{base:Uo}{x:Str}{st:VQ}{k:Nat}{Fm:List S->M R}(gB:G O) (N:List Str) (n:Nat) (e:FB K mg x st)
  (hb:N.Nodup->∀(f:SM) (cdv:Sl) (A:Te) (outer:List Env) (s:Sn) (H:Hp) (E:XK) (J:Hp) (T:Exc->Prop),cO k (A.deeper (W3 x (aJ st) s.heap.objs.size f cdv))->
   kj (qM P w K mg base N x (aJ st) f cdv A outer s H E) ⟨K,H,J,T⟩ (bB st) gB)
  (Sc:cS N (N.take n) (aJ st))
  (hbi:∀(kV doc pm:Sl) (an:Option SM) (cdv ct:Sl) (us:List Sl),us.length=(N.take n).length->Xj (Tp x x (cB st) (bB st) (aJ st) .none kV doc pm an cdv ct) ⟨us,[]⟩=pure ((N.take n).zip us))
  (hF:∀as r,as.length=(N.take n).length->Fm as=.ok r->fin (gB (aF N as))=.ok r):bU P w K mg base (k + 1) (N.take n).length x Fm:=
 let ⟨f,_,hm,F⟩:=e;lD F hm Sc hbi (hb Sc.nd f) hF
theorem qc {P:SK}{w:S9}{K:Sk}{mg:Str->Option Sl}{base:Uo}{x:Str}{st:VQ}{k:Nat}{Fm:List S->M R}(gB:G O) (N:List Str) (n:Nat) (e:FB K mg x st)
  (hb:N.Nodup->∀(f:SM) (cdv:Sl) (A:Te) (outer:List Env) (s:Sn) (H:Hp) (E:XK) (J:Hp) (T:Exc->Prop),cO k (A.deeper (W3 x (aJ st) s.heap.objs.size f cdv))->
   kj (qM P w K mg base N x (aJ st) f cdv A outer s H E) ⟨K,H,J,T⟩ (bB st) gB)
  (Sc:cS N (N.take n) (aJ st):=by exact ⟨rfl,rfl,rfl,by decide +kernel,rfl,by decide +kernel,by decide +kernel⟩)
  (hbi:∀(kV doc pm:Sl) (an:Option SM) (cdv ct:Sl) (us:List Sl),us.length=(N.take n).length->Xj (Tp x x (cB st) (bB st) (aJ st) .none kV doc pm an cdv ct) ⟨us,[]⟩=pure ((N.take n).zip us):=by
   intro _ _ _ _ _ _ us hl;rcases us with _ | ⟨_,_ | ⟨_,_ | ⟨_,_ | ⟨_,_ | ⟨_,_ | ⟨_,_ | ⟨_,_⟩⟩⟩⟩⟩⟩⟩ <;> first | exact rfl | (cases hl;done) | exact nomatch hl)
  (hF:∀as r,as.length=(N.take n).length->Fm as=.ok r->fin (gB (aF N as))=.ok r:=by intro _ _ _ h;exact h):bU P w K mg base (k + 1) (N.take n).length x Fm:=
 Pu gB N n e hb Sc hbi hF
end DL
namespace DL
open PySem PySem.Spec PyProof.Rows L2 PySem.Builtin PySem.Builtin.Str
end DL
namespace DL
open PySem PySem.Spec PyProof.Rows L2 DX
end DL
namespace DL
open PySem PySem.Spec PyProof.Rows L2
end DL
namespace DL
open PySem PySem.Spec PyProof.Rows L2 DX
end DL
namespace DL
open PySem PySem.Spec PyProof.Rows L2
section
variable {X:Cx}{c:C}{a b:Tv}{ga gb:G R}{pos:Pos}
noncomputable def NC (K:Sk):R2:=λx y H Q=>∃l b xs zs,x=.ref l/\y=.ref b/\cQ K H l xs/\cQ K H b zs/\xs.length + zs.length<=sizeLine/\∀p,H p=none->Q (.ref p) (upd H p (.lst (xs++zs)))
theorem Ji:dJ X (V7 .Add) (NC X.K):=by
 intro Sa s σ H x y v u Q I rx ry h;obtain ⟨l,b,xs,zs,rfl,rfl,hl,hb,hz,q⟩:=h;cases rx;cases ry;obtain ⟨Sb,r,p1,z1⟩:=I.list hl;obtain ⟨its2,r2,p2,z2⟩:=I.list hb;obtain ⟨⟨cls,dd,data,sl⟩,ho,hc,n,hd⟩:=id p1.isList;obtain ⟨⟨cls2,dd2,data2,sl2⟩,ho2,hc2,n2,hd2⟩:=id p2.isList
 (simp only at hc hd hc2 hd2)
 subst hc hd hc2 hd2;have e1:=r.length;have e2:=r2.length;refine Zo ⟨_,ho,rfl⟩ ⟨_,ho2,rfl⟩ noFill_list_add seq_list_add PySem.F.slot_list_add PySem.F.entry_list_add (PySem.F.args_list_add_2 _ _) (list_addW l b Sb.toArray its2.toArray n n2 dd dd2 sl sl2 (by rw [SA,SA];omega)) ⟨ho,ho2,?_⟩;rw [show Sb.toArray++its2.toArray=(Sb++its2).toArray by simp];exact ⟨.ref _,_,I.lnew (t':=s.toks) (r.append r2) (by rw [SE];omega),rfl,q _ I.fresh⟩
def vJ (x y:R):M R:=fQ x >>= λxs=>fQ y >>= λys=>if xs.length + ys.length<=sizeLine then .ok (.l .fresh (xs++ys)) else .bad
theorem Gn (ha:QD X c a ga) (hb:QD X c b gb) (hK:autoParam (X.K=c.K) zA._auto_1):QD X c (.BinOp a .Add b pos) (g2 vJ ga gb):=⟨kD Ji (by
 intro He He' J H x y u v Q hp rx ry w;unfold vJ at w;obtain ⟨xs,q1,w⟩:=lM w;obtain ⟨ys,q2,w⟩:=lM w;obtain ⟨p,vs,rfl,h1,s1⟩:=RR.list hp rx q1;obtain ⟨p2,vs2,rfl,h2,s2⟩:=RR.list hp ry q2;split at w
 ·rename_i hz;rw [s1.length,s2.length] at hz;exact ⟨p,p2,vs,vs2,rfl,rfl,by rw [hK];exact h1,by rw [hK];exact h2,hz,λq hq=>w _ J _ (Ext.new hp.sub hq _) (gD hp hq (s1.append s2))⟩
 ·exact w.elim) ha.h hb.h⟩
end
end DL
namespace DL
open PySem PySem.Spec PyProof.Rows L2 DX
open Sem (wp)
end DL
namespace DL
open PySem PySem.Spec PyProof.Rows L2 DX
end DL
namespace DL
open PySem PySem.Spec PyProof.Rows L2
open PySem.W (KasT kas_sort kas_ask kas_item kat_run kat_snds)
end DL
namespace DL
open PySem PySem.Spec PyProof.Rows L2
end DL
namespace DL
open PySem PySem.Spec PyProof.Rows L2
open PySem.W (kas_sort)
end DL
namespace DL
open PySem PySem.Spec PyProof.Rows L2 DX
section
variable {X:Cx}{c:C}{pos:Pos}
open Classical in
end
end DL
namespace DL
open PySem PySem.Spec PyProof.Rows L2 ST
noncomputable def fY:List Str->List Str
 | []=>[]
 | x::r=>if (fY r).contains x then fY r else x::fY r
theorem iQ:∀(l:List Str) (d:Str),d∈fY l↔d∈l
 | [],_=>Iff.rfl
 | x::r,d=>by
  unfold fY;split
  ·rename_i h;rw [iQ r,SN];exact ⟨.inr,λz=>z.elim (λz=>z▸(iQ r x).mp (by simpa using h)) id⟩
  ·rw [SN,SN,iQ r]
theorem qN:∀l:List Str,(fY l).Nodup
 | []=>Wv
 | x::r=>by
  unfold fY;split
  ·exact qN r
  ·rename_i h;exact Vs.mpr ⟨by simpa using h,qN r⟩
inductive fH (w:S9):List (Int×Sl)->List Str->Prop
 | nil:fH w [] []
 | cons {i:Str}{k:Tok}{es:List (Int×Sl)}{ns:List Str}:fH w es ns->fH w ((WB w i,.str i k)::es) (i::ns)
theorem fH.perm {w:S9}{es es':List (Int×Sl)}(p:es.Perm es'):∀{ns:List Str},fH w es ns->∃ns',ns.Perm ns'/\fH w es' ns':=by
 induction p with
 | nil=>intro ns h;exact ⟨ns,.refl _,h⟩
 | cons x _ ih=>
  intro ns h;cases h with
  | cons h3=>obtain ⟨ns',a,b⟩:=ih h3;exact ⟨_,a.cons _,.cons b⟩
 | swap x y l=>
  intro ns h;cases h with
  | cons h3=>cases h3 with
   | cons h6=>exact ⟨_,.swap _ _ _,.cons (.cons h6)⟩
 | trans _ _ ih1 ih2=>
  intro ns h;obtain ⟨k1,a,b⟩:=ih1 h;obtain ⟨k2,c,d⟩:=ih2 b;exact ⟨k2,a.trans c,d⟩
theorem fH.length {w:S9}{es:List (Int×Sl)}{ns:List Str}(h:fH w es ns):es.length=ns.length:=by
 induction h with
 | nil=>rfl
 | cons _ ih=>simp [ih]
structure gy (w:S9) (h:Uo) (a:SM) (led:Bool) (ns:List Str) (es:Array (Int×Sl)) (ep:Nat) (t:T3):Prop where
 at_:h.get? a=some {cls:=.type "set",dict:=none,data:=.set es ep t}
 tab:∃L,Tab t es L
 ld:t.led=led
 rm:ns.length * 5 < t.mask * 3
 en:fH w es.toList ns
 nd:ns.Nodup
section
variable {w:S9}{prog:SK}{E:Sl->Sn->Prop}{A:Te}{s:Sn}
theorem Fz {M:abS}{c:Prop} [Decidable c] {α β:Type}{m1 m2:Sem α}{k:α->Sem β}{Q:β->Sn->Prop}(h:SO M A ((if c then m1 else m2) >>= k) Q E s):SO M A (if c then m1 >>= k else m2 >>= k) Q E s:=by
 by_cases hc:c
 ·rw [if_pos hc] at h ⊢;exact h
 ·rw [if_neg hc] at h ⊢;exact h
theorem zc {t:T3}{es:Array (Int×Sl)}{L:List (Nat×Int×Sl)}(h:Tab t es L):Tab {t with plain:=false} es L:=by cases h;constructor <;> assumption
theorem fH.elems {es:List (Int×Sl)}{ns:List Str}(h:fH w es ns):ElemsOf (YS prog w) es:=by
 induction h with
 | nil=>exact λe he=>nomatch he
 | @cons i k es ns _ ih=>
  intro e he
  (rcases SN.mp he with rfl | he)
  ·exact ⟨⟨i,aci _ _ _ _,rfl⟩,rfl⟩
  ·exact ih e he
theorem fH.find {es:List (Int×Sl)}{ns:List Str}(h:fH w es ns) (i:Str):(es.findIdx? λe=>(YS prog w).is i e.2)=none↔i∉ns:=by
 rw [List.findIdx?_eq_none_iff]
 induction h with
 | nil=>simp
 | @cons j k es ns _ ih=>
  rw [SN,not_or,<-ih];have e:(YS prog w).is i (.str j k)=decide (i=j):=KeyKind.is_eq_decide (aci prog w j k) i;constructor
  ·intro h;refine ⟨λz=>?_,λx hx=>h x (Ss _ hx)⟩;have:=h _ Sv;rw [e,z] at this;simp at this
  ·rintro ⟨h1,h2⟩ x hx
   (rcases SN.mp hx with rfl | hx)
   ·rw [e];simpa using h1
   ·exact h2 x hx
theorem zm {a:SM}{es:Array (Int×Sl)}{ep:Nat}{t:T3}{led:Bool}{ns:List Str}{i:Str}{k:Tok}{Q:Bool->Sn->Prop}(S:gy w s.heap a led ns es ep t) (hl:ns.length < 76)
  (q1:i∈ns->Q false s) (q2:i∉ns->∀(h':Uo) ns' es' ep' t',UJ a s.heap h'->(i::ns).Perm ns'->gy w h' a led ns' es' ep' t'->Q true {s with heap:=h'}):
  SO (SX prog w) A (setAddHashed a (.str i k) (WB w i)) Q E s:=by
 obtain ⟨L,T⟩:=S.tab;have lenL:L.length=ns.length:=by rw [um T,<-SV,S.en.length]
 have hes:es.size=ns.length:=by rw [<-SV,S.en.length]
 obtain ⟨n0,b1,b2,b3⟩:=Bd T.mo (WB w i) (L.map (·.1)) (by rw [So];exact T.fl)
 (unfold setAddHashed setAddHashedIn)
 refine Tt (Sj (V1 S.at_ rfl (cY T) ?_));dsimp only;have sc:byScan (.str i k) es=true:=byScan_of (prog:=prog) (w:=w) (knd:=YS prog w) rfl (by unfold scanBound;omega) S.en.elems;rw [sc];simp only [if_true];unfold setAddByScan;refine Sj ?_
 (refine Sj (XQ ?_))
 refine Sj (wpAny_setScan_of (knd:=YS prog w) (k:=i) (aci _ _ _ _) S.at_ rfl (cY T) S.en.elems ?_);cases hr:List.findIdx? (λe=>(YS prog w).is i e.2) es.toList with
 | some j=>
  dsimp only;have hin:i∈ns:=Vc λz=>by have:=(S.en.find (prog:=prog) (w:=w) i).mpr z;rw [hr] at this;cases this
  exact Sm (Sm (q1 hin))
 | none=>
  dsimp only;have hm:i∉ns:=(S.en.find i).mp hr;have rm:=S.rm;have ln:=IY T (WB w i) (.str i k) n0 b2 b3 b1 (by rcases T.mo with h | h | h <;> rw [h] at rm ⊢ <;> omega);rw [ln];dsimp only
  (refine Sj (WE (a:=()) rfl ?_))
  obtain ⟨L',T',pm⟩:=T.put (WB w i) (.str i k) n0 b2 b3 (D3 _ _ _) (by rcases T.mo with h | h | h <;> rw [h] at rm ⊢ <;> omega);have fl:(t.put (pos t.mask (WB w i) n0)).1.mask=t.mask/\(t.put (pos t.mask (WB w i) n0)).1.plain=t.plain/\(t.put (pos t.mask (WB w i) n0)).1.led=t.led:=⟨rfl,rfl,rfl⟩;generalize t.put (pos t.mask (WB w i) n0)=tp at T' fl ⊢;obtain ⟨t',p⟩:=tp;dsimp only at T' fl ⊢;obtain ⟨f1,f2,f3⟩:=fl;obtain ⟨ns',p1,p2⟩:∃ns',(i::ns).Perm ns'/\fH w (Wo es p (WB w i,.str i k)).toList ns':=by refine fH.perm (es:=(WB w i,.str i k)::es.toList) ?_ (.cons S.en);rw [T'.en,T.en];exact (pm.map (·.2)).symm
  have nd':ns'.Nodup:=p1.nodup_iff.mp (Vs.mpr ⟨hm,S.nd⟩);have lk:ns'.length=ns.length + 1:=by rw [<-p1.length_eq];rfl
  refine Fz (Sj (WE (a:=!t'.plain) (by generalize t'.plain=pl;cases pl <;> rfl) ?_));rw [show (if (!t'.plain)=true then t' else {t' with plain:=false})={t' with plain:=false} by cases t';rename_i pl;cases pl <;> rfl];have T':=zc T';have f1:({t' with plain:=false}:T3).mask=t.mask:=f1;have f3:({t' with plain:=false}:T3).led=t.led:=f3;generalize ({t' with plain:=false}:T3)=t' at T' f1 f3 ⊢;have esz:(Wo es p (WB w i,aae i k)).size=ns'.length:=by rw [<-SV,p2.length]
  refine Sj (aaW S.at_ rfl ?_ (by rw [esz,T_];omega));have hg:=Ue (acj (Wo es p (WB w i,.str i k)) t') S.at_ rfl;have hfill:t'.fill=ns'.length:=by unfold acB;rw [T'.dm,<-SV,T'.pl,So,um T',esz];rfl
  split
  ·rename_i c;simp only [Z0,XN] at c;unfold abh at c;rw [hfill,f1,decide_eq_true_eq] at c;have hW:(V_ (Yw ns'.length)=32/\ns'.length=5)\/(V_ (Yw ns'.length)=128/\ns'.length=19):=by
    unfold Yw;rw [if_neg (by omega)];rcases T.mo with h | h | h
    ·rw [h] at c rm;have:ns'.length=5:=by omega
     rw [this];exact .inl ⟨Ia,rfl⟩
    ·rw [h] at c rm;have:ns'.length=19:=by omega
     rw [this];exact .inr ⟨Ib,rfl⟩
    ·rw [h] at c;omega
   have hmo:kY (V_ (Yw ns'.length) - 1):=by rcases hW with ⟨h,_⟩ | ⟨h,_⟩ <;> rw [h];exact .inr (.inl rfl);exact .inr (.inr rfl)
   rw [esz];obtain ⟨t2,es2,L2,g1,g2',g3,g4,g5,g6⟩:=Eg (t:=t') (es:=Wo es p (WB w i,.str i k)) hmo (by rw [esz];rcases hW with ⟨h,h'⟩ | ⟨h,h'⟩ <;> rw [h] <;> omega);rw [g1];dsimp only
   (refine Sj (WE (a:=()) rfl ?_))
   obtain ⟨ns2,r1,r2⟩:=p2.perm g6.symm;have es2z:es2.size=ns'.length:=by rw [<-SV,r2.length,r1.length_eq]
   refine Sj (aaW (s:={s with heap:=s.heap.update a (acj (Wo es p (WB w i,.str i k)) t')}) hg rfl ?_ (by rw [es2z,T_];omega));have Q7:=Ue (acj es2 t2) hg rfl;refine Sm (Sm (q2 hm _ ns2 _ _ _ ((Yg _ _ _).trans (Yg _ _ _)) (p1.trans r1) ⟨Q7,⟨L2,g5⟩,g3.trans (f3.trans S.ld),?_,r2,r1.nodup_iff.mp nd'⟩));rw [<-r1.length_eq,g2'];rcases hW with ⟨h,h'⟩ | ⟨h,h'⟩ <;> rw [h,h'] <;> omega
  ·rename_i c;simp only [Z0,XN] at c;unfold abh at c;rw [hfill,f1,decide_eq_true_eq] at c;exact Sm (Sm (q2 hm _ ns' _ _ _ (Yg _ _ _) p1 ⟨hg,⟨L',T'⟩,f3.trans S.ld,by rw [f1];omega,p2,nd'⟩))
end
theorem gy.keep {w:S9}{h h':Uo}{a:SM}{led:Bool}{ns:List Str}{es:Array (Int×Sl)}{ep:Nat}{t:T3}(S:gy w h a led ns es ep t) (e:∀o,h.get? a=some o->h'.get? a=some o):gy w h' a led ns es ep t:=
 ⟨e _ S.at_,S.tab,S.ld,S.rm,S.en,S.nd⟩
section
variable {w:S9}{prog:SK}{R:ZX->Sn->Prop}{A:Te}{I:SM}{fp wr:List SM}{G:Array adu->Array adu->Prop}{n:Nat}{P:Nat->Sl->Prop}{St:Nat->Sn->Prop}
theorem EH (W:WalksS prog w A.in1 I fp wr G n P St) (S:SM) (hSf:S∉fp) (val:Nat->Str) (hval:∀i v,P i v->∃t,v=.str (val i) t) (hn:(fY ((Sx n).map val)).length < 76){led:Bool}:
  ∀(k i:Nat) (s:Sn) (ns:List Str) (es:Array (Int×Sl)) (ep:Nat) (t:T3),n - i=k->i<=n->St i s->gy w s.heap S led ns es ep t->(∀d,d∈ns↔d∈(Sx i).map val)->
   (∀s' ns' es' ep' t',Moved (S::wr) G s s'->gy w s'.heap S led ns' es' ep' t'->(∀d,d∈ns'↔d∈(Sx n).map val)->R (.ok (.ret .none)) s')->
   (U3 (SX prog w) A (.builtin "set.update.loop" ⟨[.ref S,.ref I],[]⟩) R s):=by
 (have QS:S∉wr:=λh=>hSf (W.sub _ h))
 (have hsub:∀b∈wr,b∈S::wr:=λb hb=>Ss _ hb)
 intro k
 induction k with
 | zero=>
  intro i s ns es ep t hk hi hst hS hm hR;have hin:i=n:=by omega
  subst hin;refine Uj Wz ?_;rw [TM UE _]
  (show SO _ A.in1 (W2 (.ref I) >>= _) _ _ s)
  refine Sj (W.done s _ _ hst λs' QZ=>?_)
  (show SO _ A.in1 (ret Um) _ _ s')
  exact Sm (hR s' ns es ep t (QZ.mono hsub) (hS.keep λo e=>QZ.heap S o QS e) hm)
 | succ k ih=>
  intro i s ns es ep t hk hi hst hS hm hR;have hlt:i < n:=by omega
  have hlen:ns.length < 76:=UX (Ug hS.nd λd hd=>(iQ _ d).mpr (by
   obtain ⟨j,hj,e⟩:=SD.mp ((hm d).mp hd);exact SD.mpr ⟨j,S0.mpr (Ur (S0.mp hj) hlt),e⟩)) hn
  refine Uj Wz ?_;rw [TM UE _]
  (show SO _ A.in1 (W2 (.ref I) >>= _) _ _ s)
  refine Sj (W.item i s _ _ hlt hst λv s' hP Q_ QZ=>?_);obtain ⟨tk,rfl⟩:=hval i v hP;have hS':=hS.keep (h':=s'.heap) λo e=>QZ.heap S o QS e;have mem':∀(ns':List Str),(∀d,d∈ns'↔d=val i\/d∈ns)->∀d,d∈ns'↔d∈(Sx (i + 1)).map val:=λns' h d=>by rw [h d,hm d,ZA,TZ,Tc];simp only [S4,aa3,Su];exact Or.comm
  show SO _ A.in1 (holding [.str (val i) tk] (setAdd S (.str (val i) tk)) >>= _) _ _ s'
  (refine Sj (Tt ?_))
  unfold setAdd;refine Tt ?_
  (refine Sj (Y0 ?_))
  refine zm (s:={s' with toks:=s'.toks + 1}) hS' hlen (λhin=>?_) (λhin h' ns' es' ep' t' Ra Q9 QX=>?_)
  ·refine Sm ⟨UT UE _,ih (i + 1) _ ns es ep t (by omega) hlt (W.frame _ s' _ _ Q_ (U5 _) λb hb o e=>e) hS' (mem' ns λd=>⟨.inr,λh=>h.elim (λh=>h▸hin) id⟩) λs'' ns'' es'' ep'' t'' hm'' hS'' Rm=>?_⟩;exact hR s'' ns'' es'' ep'' t'' (adq W.gtrans ((QZ.mono hsub).then_heap (U5 _) λb o hb e=>e) hm'') hS'' Rm
  ·refine Sm ⟨UT UE _,ih (i + 1) _ ns' es' ep' t' (by omega) hlt (W.frame _ s' _ _ Q_ (U5 _) λb hb o e=>?_) QX (mem' ns' λd=>?_) λs'' ns'' es'' ep'' t'' hm'' hS'' Rm=>?_⟩
   ·(rw [Ra.2 b (λh:b=S=>hSf (by rw [<-h];exact hb))];exact e)
   ·rw [<-Q9.mem_iff,SN]
   ·refine hR s'' ns'' es'' ep'' t'' (adq W.gtrans ((QZ.mono hsub).then_heap (U5 _) λb o hb e=>?_) hm'') hS'' Rm
    (rw [Ra.2 b (λh:b=S=>hb (by rw [h];exact Sv))];exact e)
end
theorem sf {w:S9}{h:Uo}{a:SM}{led:Bool}(e:h.get? a=some {cls:=.type "set",dict:=none,data:=.set #[] 0 (.fresh 0 0 led)}):gy w h a led [] #[] 0 (.fresh 0 0 led):=
 ⟨e,⟨[],⟨rfl,rfl,rfl,Xb,(λ_ h=>nomatch h),.inl rfl,S5 _,(λ_ h=>nomatch h)⟩⟩,rfl,(show 0 * 5 < 7 * 3 by decide),.nil,Wv⟩
section
variable {w:S9}{prog:SK}{A:Te}{s:Sn}{E:Sl->Sn->Prop}{l:SM}{items:Array Sl}{ds:List Str}
theorem DF (hz:items.size=ds.length) (hi:∀(i:Nat) (v:Sl),items[i]?=some v->∃t,v=.str (ds.getD i "") t) (hn:(fY ds).length < 76){I:SM}{fp:List SM}{St:Nat->Sn->Prop}{h2:Uo}{R:_->Sn->Prop}(W:WalksS prog w A.in1.in1.in1 I fp [I] (λa b=>b=a) items.size (λi v=>items[i]?=some v) St) (hSf:s.heap.objs.size∉fp) (st:St 0 {s with heap:=h2})
  (hk:∀b o,(s.heap.push (fN (dc w))).get? b=some o->h2.get? b=some o) (hR:∀s',Moved [s.heap.objs.size,I] (λa b=>b=a) {s with heap:=h2} s'->(∃ks es ep t,gy w s'.heap s.heap.objs.size (dc w) ks es ep t/\∀d,d∈ks↔d∈ds)->R (.ok (.ret .none)) s'):U3 (SX prog w) A.in1.in1 (.builtin "set.update.loop" ⟨[.ref s.heap.objs.size,.ref I],[]⟩) R {s with heap:=h2}:=by
 have all:(Sx items.size).map (λi=>ds.getD i "")=ds:=by refine VC (by simp [hz]) λi a b=>?_;simp [b]
 exact EH (A:=A.in1.in1) (led:=dc w) W s.heap.objs.size hSf (λi=>ds.getD i "") hi (by rw [all];exact hn) items.size 0 _ [] #[] 0 (.fresh 0 0 (dc w)) (by omega) (S5 _) st (sf (hk _ _ (Sz _ rfl))) (λd=>by simp) λs' ks es ep t hm hS' hmem=>hR s' hm ⟨ks,es,ep,t,hS',by rw [all] at hmem;exact hmem⟩
abbrev N6 (Q:Sl->Sn->Prop) (w:S9) (s:Sn) (ds:List Str):Prop:=∀(h':Uo) (tk:Nat) ks es ep t,gy w h' s.heap.objs.size (dc w) ks es ep t->(∀d,d∈ks↔d∈ds)->(∀b o,b < s.heap.objs.size->s.heap.get? b=some o->h'.get? b=some o)->Q (.ref s.heap.objs.size) {s with heap:=h',toks:=tk}
theorem Kn {Q:Sl->Sn->Prop}(hh:A.handled=none) (hl:s.heap.IsTuple l items) (hz:items.size=ds.length) (hi:∀(i:Nat) (v:Sl),items[i]?=some v->∃t,v=.str (ds.getD i "") t) (hn:(fY ds).length < 76) (h:N6 Q w s ds):(SO (SX prog w) A (call (.type "set") [.ref l]) Q E s):=by obtain ⟨ol,QC,hcl,_⟩:=id hl;exact yw (λh'=>∃ks es ep t,gy w h' s.heap.objs.size (dc w) ks es ep t/\∀d,d∈ks↔d∈ds) QC hcl Ex Ew (by decide) (Fy hh hl) (λW a _ c d e=>DF hz hi hn W a c d e) λh' tk ⟨ks,es,ep,t,a,b⟩=>h h' tk ks es ep t a b
theorem yy {Q:Sl->Sn->Prop}(hh:A.handled=none) (hl:s.heap.IsList l items) (hz:items.size=ds.length) (hi:∀(i:Nat) (v:Sl),items[i]?=some v->∃t,v=.str (ds.getD i "") t) (hn:(fY ds).length < 76) (h:N6 Q w s ds):(SO (SX prog w) A (call (.type "set") [.ref l]) Q E s):=by obtain ⟨ol,QC,hcl,_⟩:=id hl;exact yw (λh'=>∃ks es ep t,gy w h' s.heap.objs.size (dc w) ks es ep t/\∀d,d∈ks↔d∈ds) QC hcl Du Dt (by decide) (IK hh hl) (λW a _ c d e=>DF hz hi hn W a c d e) λh' tk ⟨ks,es,ep,t,a,b⟩=>h h' tk ks es ep t a b
end
section
variable {prog:SK}{w:S9}{A:Te}{E:Sl->Sn->Prop}{s:Sn}
theorem wp_choose {M:abS}{src:Source}{n:Nat}{Q:Nat->Sn->Prop}(hn:n≠0) (h:∀i dr,i < n->Q i {s with drawn:=dr}):SO M A (choose src n) Q E s:=fun Γ p hΓ=>by show n≠0/\_;exact ⟨hn,h _ _ (YI _ (Nat.pos_of_ne_zero hn))⟩
theorem zK {α:Type}{M:abS}:∀(n:Nat) (xs:List α) (s:Sn) (Q:List α->Sn->Prop),xs.length=n->(∀l dr,l.Perm xs->Q l {s with drawn:=dr})->SO M A (drawOrder n xs) Q E s
 | 0,xs,s,Q,hn,h=>by have:xs=[]:=W0.mp hn;subst this;exact Sm (h [] s.drawn (.refl _))
 | n + 1,[],s,Q,hn,h=>by cases hn
 | n + 1,x::xs,s,Q,hn,h=>by
  show SO _ _ (choose Source.order (x::xs).length >>= _) _ _ s;refine Sj (wp_choose (by simp) λi dr hi=>?_);have e:(x::xs)[i]?=some (x::xs)[i]:=SH hi;rw [e];dsimp only;refine Sj (zK n ((x::xs).eraseIdx i) _ _ (by rw [XI,if_pos hi];omega) λl dr' p=>Sm ?_);refine h _ dr' ((p.cons _).trans ?_);have e1:(x::xs).eraseIdx i=(x::xs).take i++(x::xs).drop (i + 1):=U8 _ _;have e2:(x::xs)=(x::xs).take i++(x::xs)[i]::(x::xs).drop (i + 1):=by rw [W7,VI]
  rw [e1];exact (XA.symm).trans (Yc e2.symm)
structure jL (h:Uo) (a:SM) (es:Array (Int×Sl)) (ep:Nat) (t:T3):Prop where
 at_:h.get? a=some {cls:=.type "set",dict:=none,data:=.set es ep t}
 tab:∃L,Tab t es L
 pl:t.plain=false
 two:1 < es.size
theorem jL.keep {h h':Uo}{a:SM}{es:Array (Int×Sl)}{ep:Nat}{t:T3}(S:jL h a es ep t) (e:∀o,h.get? a=some o->h'.get? a=some o):jL h' a es ep t:=⟨e _ S.at_,S.tab,S.pl,S.two⟩
abbrev xH (a T:SM) (i n ep:Nat):Obj:={cls:=.type "set_iterator",data:=.fields #[.ref T,.int i 0,.ref a,.int n 0,.int ep 0]}
abbrev sH (os:List Nat):Obj:={cls:=.type "tuple",data:=.seq (os.map λ(i:Nat)=>acH i).toArray}
theorem Bo {a:SM}{es:Array (Int×Sl)}{ep:Nat}{t:T3}{Q:Sl->Sn->Prop}(hw:w.params.followText "set-order"=false) (S:jL s.heap a es ep t) (hz:es.size<=76)
  (hQ:∀(os:List Nat) dr,os.Perm (Sx es.size)->Q (.ref (s.heap.objs.size + 1)) {s with heap:=(s.heap.push (sH os)).push (xH a s.heap.objs.size 0 es.size ep),drawn:=dr}):SO (SX prog w) A (Y3 (.ref a)) Q E s:=by
 obtain ⟨L,T⟩:=S.tab;have hT:s.TypeIs (.ref a) "set":=⟨_,S.at_,rfl⟩;refine Xh hT Yd (TR Yd hT kr ?_ (aaU _));show SO _ _ (V0 a >>= _) _ _ s;unfold V0;refine Sj (Sj (Vu S.at_ rfl (cY T) (Sm ?_)));unfold setDrawn ZO;refine Sj (Sj (V1 S.at_ rfl (cY T) (Sj (Sj (U0 (Sm (Sm ?_)))))));dsimp only;refine sL (show (!w.params.followText "set-order" && (!t.plain && decide (es.size > 1)))=true by rw [hw,S.pl,decide_eq_true S.two];rfl) ?_;refine Sj (zK es.size (Sx es.size) s _ (Th ..) λos dr pm=>?_);have lo:os.length=es.size:=by rw [pm.length_eq,Th]
 refine Sj (Z1 ?_ (by rw [So,lo,T_];omega));have S1:jL (s.heap.push (sH os)) a es ep t:=S.keep λo e=>Sq _ e;refine Sj (aaV S1.at_ rfl (cY T) ?_);refine Sj (S_ ?_);have z1:(s.heap.push (sH os)).objs.size=s.heap.objs.size + 1:=Us _ _;have q:=hQ os dr pm;rw [<-z1] at q;exact Sm ⟨_,rfl,"set_iterator",_,⟨_,Sz _ rfl,rfl⟩,cK.lookup,q⟩
theorem BF {I a T:SM}{es:Array (Int×Sl)}{ep:Nat}{t:T3}{os:List Nat}{i:Nat}{Q:Option Sl->Sn->Prop}(S:jL s.heap a es ep t) (hI:s.heap.get? I=some (xH a T i es.size ep)) (Q5:s.heap.get? T=some (sH os)) (pm:os.Perm (Sx es.size)) (hi:i < es.size)
  (hQ:∀h' k e,os[i]?=some k->es[k]?=some e->h'.get? I=some (xH a T (i + 1) es.size ep)->UJ I s.heap h'->Q (some e.2) {s with heap:=h'}):SO (SX prog w) A (W2 (.ref I)) Q E s:=by
 obtain ⟨L,TT⟩:=S.tab;have lo:os.length=es.size:=by rw [pm.length_eq,Th]
 have hk:os[i]?=some (os[i]'(by omega)):=SH (by omega);generalize (os[i]'(by omega))=k at hk;have kl:k < es.size:=S0.mp (pm.mem_iff.mp (VR hk));have ek:es[k]?=some es[k]:=UD kl;have hT:s.TypeIs (.ref I) "set_iterator":=⟨_,hI,rfl⟩;unfold W2;refine Sj (WO (Uv (name:=WI "__next__") hT cK (TR cK hT gZ ?_ (iy _))));show SO _ _ (acD (.ref I) >>= _) _ _ s;refine Sj (Yu hI rfl ?_);dsimp only;refine Sj (Vu S.at_ rfl (cY TT) ?_);simp only [bne_self_eq_false,Tn,if_false,UM];refine Sj (Xm Q5 rfl ?_);have ip:(os.map λ(i:Nat)=>acH i).toArray[i]?=some (.int k 0):=by rw [ZI,S3,hk];rfl
 dsimp only;rw [ip];dsimp only;unfold setNextDrawn;refine Sj (Sj (V1 S.at_ rfl (cY TT) ?_));simp only [bne_self_eq_false,Tn,if_false,UM];rw [ek];refine Sm ?_;refine Sj (VL hI (by simp) λh1 g1 b1=>?_);exact Sm ⟨_,rfl,Sm (hQ h1 k _ hk ek (g1.trans (by simp [acH])) b1)⟩
theorem CS {I a T:SM}{es:Array (Int×Sl)}{ep:Nat}{t:T3}{os:List Nat}{Q:Option Sl->Sn->Prop}(hh:A.handled=none) (S:jL s.heap a es ep t) (hI:s.heap.get? I=some (xH a T es.size es.size ep)) (Q5:s.heap.get? T=some (sH os)) (pm:os.Perm (Sx es.size))
  (hQ:∀h',ado I s.heap h'->Q none {s with heap:=h'}):SO (SX prog w) A (W2 (.ref I)) Q E s:=by
 obtain ⟨L,TT⟩:=S.tab;have lo:os.length=es.size:=by rw [pm.length_eq,Th]
 have hT:s.TypeIs (.ref I) "set_iterator":=⟨_,hI,rfl⟩;unfold W2;refine Sj (WO (Uv (name:=WI "__next__") hT cK (TR cK hT gZ ?_ (iy _))));show SO _ _ (acD (.ref I) >>= _) _ _ s;refine Sj (Yu hI rfl ?_);dsimp only;refine Sj (Vu S.at_ rfl (cY TT) ?_);simp only [bne_self_eq_false,Tn,if_false,UM];refine Sj (Xm Q5 rfl ?_);have ip:(os.map λ(i:Nat)=>acH i).toArray[es.size]?=none:=by rw [ZI,List.getElem?_eq_none_iff,So,lo];exact Sw _
 dsimp only;rw [ip];dsimp only;refine Sj (VL hI (by simp) λh0 g0 b0=>?_);refine Sj (VL (s:={s with heap:=h0}) g0 (by simp) λh1 g1 b1=>?_);refine Sj ?_;simp only [newExc,newTuple]
 (refine Sj (S_ ?_ (by size_fits)))
 (refine Sj (m:=Yv _ _) (WE (a:=Um) (by first | rfl | (simp only [Yv];rfl)) ?_))
 (refine S_ ?_ (by size_fits))
 simp only [raiseNew]
 (refine Sj (acE ?_))
 (first | rw [show A.in1.handled=none from hh] | rw [hh])
 (refine Sj (Sm (wpAny_throw ?_)))
 (refine Sj (Y9 (T:="StopIteration") (b:=true) ⟨_,Sz _ rfl,rfl⟩ ab5 ?_))
 exact Sm (hQ _ (((b0.trans b1).extBut.push _).push _))
def qP (es:Array (Int×Sl)) (os:List Nat):List Sl:=os.filterMap λk=>es[k]?.map (·.2)
theorem La {es:Array (Int×Sl)}{os:List Nat}(pm:os.Perm (Sx es.size)){i k:Nat}{e:Int×Sl}(h1:os[i]?=some k) (h2:es[k]?=some e):(qP es os)[i]?=some e.2:=by
 have:qP es os=os.map λk=>(es.getD k default).2:=by
  unfold qP;have key:∀l:List Nat,(∀k∈l,k < es.size)->(l.filterMap λk=>es[k]?.map (·.2))=l.map λk=>(es.getD k default).2:=λl=>by
   induction l with
   | nil=>intro _;rfl
   | cons a l ih=>
    intro h;have ha:=h a Sv;rw [YK (b:=(es.getD a default).2) (by rw [UD ha];simp [UO,ha]),S4,ih λk hk=>h k (Ss _ hk)]
  exact key os λk hk=>S0.mp (pm.mem_iff.mp hk)
 rw [this,S3,h1];obtain ⟨hk,rfl⟩:=Uh.mp h2;simp [UO,hk]
theorem xo {es:Array (Int×Sl)}{os:List Nat}(pm:os.Perm (Sx es.size)):(qP es os).Perm (es.toList.map (·.2)):=by refine (pm.filterMap _).trans (Yc ?_);have:=filterMap_getElem?_range es;rw [<-this,List.map_filterMap]
theorem ze (hh:A.handled=none) (I a T:SM) (hne:a≠I) (hnt:T≠I){es:Array (Int×Sl)}{ep:Nat}{t:T3}{os:List Nat}(pm:os.Perm (Sx es.size)):
  Walks prog w A I [I,a,T] [I] es.size (λi v=>(qP es os)[i]?=some v) (λi h=>h.get? I=some (xH a T i es.size ep)/\h.get? T=some (sH os)/\jL h a es ep t) where
 sub:=λ_ hb=>by simp at hb;simp [hb]
 frame:=λ_ _ _ ⟨h1,h2,h3⟩ hk=>⟨hk I (by simp) _ h1,hk T (by simp) _ h2,h3.keep λo e=>hk a (by simp) o e⟩
 item:=λi s Q E hi ⟨h1,h2,h3⟩ hQ=>by
  refine BF h3 h1 h2 pm hi λh' k e q1 q2 q3 q4=>?_;refine hQ e.2 h' s.toks (La pm q1 q2) ⟨q3,?_,h3.keep λo e=>?_⟩ λb o hb e=>?_
  ·rw [q4.2 T hnt];exact h2
  ·rw [q4.2 a hne];exact e
  ·exact q4.extBut b o (λh=>hb (by simp [h])) e
 done:=λs Q E ⟨h1,h2,h3⟩ hQ=>CS hh h3 h1 h2 pm λh' he=>hQ h' s.toks λb o hb e=>he b o (λh=>hb (by simp [h])) e
 self:=λi s Q E ⟨h1,h2,h3⟩ hQ=>by have hT:s.TypeIs (.ref I) "set_iterator":=⟨_,h1,rfl⟩;refine Xh hT iG (TR iG hT mL ?_ (ni _));show SO _ _ (ret (.ref I)) _ _ s;exact Sm ⟨_,rfl,"set_iterator",_,hT,cK.lookup,hQ⟩
theorem vA {a:SM}{es:Array (Int×Sl)}{ep:Nat}{t:T3}{Q:List Sl->Sn->Prop}(hw:w.params.followText "set-order"=false) (hh:A.handled=none) (S:jL s.heap a es ep t) (hn:es.size<=76)
  (hQ:∀(os:List Nat) (dr:Drawn) (h':Uo) (tk:Nat),os.Perm (Sx es.size)->(∀b o,s.heap.get? b=some o->h'.get? b=some o)->s.heap.objs.size < h'.objs.size->Q (qP es os) {s with heap:=h',toks:=tk,drawn:=dr}):SO (SX prog w) A (collect (.ref a)) Q E s:=by
 have ha:a < s.heap.objs.size:=SJ S.at_;unfold collect
 (refine Sj (Ys (Uj Xp ?_)))
 (rw [TM Xq _])
 show SO _ A.in1 (newList [] >>= λl=>again (.builtin "list.__iadd__" ⟨[l,.ref a],[]⟩)) _ _ s
 (refine Sj (S_ ?_))
 (refine Sm ⟨UT VY _,Uj YH ?_⟩)
 (rw [TM VY _])
 generalize Rk:({cls:=.type "list",data:=.seq ([]:List Sl).toArray}:Obj)=l0;have S1:jL (s.heap.push l0) a es ep t:=S.keep λo e=>Sq _ e;have hT1:WZ {s with heap:=s.heap.push l0} (.ref a) "set":=⟨_,S1.at_,rfl⟩;show SO _ A.in1 (Vv (.ref s.heap.objs.size) (.ref a) (.ref s.heap.objs.size)) _ _ _
 (unfold Vv)
 refine Sj (WJ hT1 ?_);have h1:YL (.ref s.heap.objs.size) (.ref a)=false:=by show (s.heap.objs.size == a)=false;exact beq_eq_false_iff_ne.mpr (Vd ha)
 have h2:(Vy "set" == Vy "list")=false:=by decide
 have h3:(Vy "set" == Vy "tuple")=false:=by decide
 (simp only [h1,h2,h3,aaq,Tn,if_false])
 refine Sj (Bo hw S1 hn λos dr pm=>?_)
 (refine Sj (Tt ?_))
 have z1:(s.heap.push l0).objs.size=s.heap.objs.size + 1:=Us _ _;rw [z1];have z2:((s.heap.push l0).push (sH os)).objs.size=s.heap.objs.size + 1 + 1:=by rw [Us,z1]
 obtain ⟨hp,ehp⟩:∃hp,hp=((s.heap.push l0).push (sH os)).push (xH a (s.heap.objs.size + 1) 0 es.size ep):=⟨_,rfl⟩;rw [<-ehp];have kp:∀b o,(s.heap.push l0).get? b=some o->hp.get? b=some o:=λb o e=>by rw [ehp];exact Sq _ (Sq _ e)
 have S2:jL hp a es ep t:=S1.keep λo e=>kp _ o e;have hT2:WZ {s with heap:=hp,drawn:=dr} (.ref a) "set":=⟨_,S2.at_,rfl⟩;refine xG hT2 ?_;refine sL (by decide +kernel) ?_
 (refine Sj (XQ ?_))
 subst Rk;have hI:hp.get? (s.heap.objs.size + 1 + 1)=some (xH a (s.heap.objs.size + 1) 0 es.size ep):=by rw [ehp,<-z2];exact Sz _ rfl
 have Q5:hp.get? (s.heap.objs.size + 1)=some (sH os):=by rw [ehp,<-z1];exact Sq _ (Sz _ rfl)
 have hS₁:hp.get? s.heap.objs.size=some {cls:=.type "list",data:=.seq ([]:List Sl).toArray}:=kp _ _ (Sz _ rfl);refine Sj ?_
 (show SO _ A.in1 (Zv s.heap.objs.size (·.push .none) >>= λ_=>Zv s.heap.objs.size (·.pop)) _ _ _)
 (refine Sj (Ve hS₁ rfl ?_))
 (have hS₂:=Ue (Uw (·.push Um)) hS₁ rfl)
 (refine Ve hS₂ rfl ?_)
 (have hS₃:=Ue (Uw (·.pop)) hS₂ rfl)
 have oth:∀b o,b≠s.heap.objs.size->hp.get? b=some o->((hp.update s.heap.objs.size (Uw (·.push Um))).update s.heap.objs.size (Uw (·.pop))).get? b=some o:=
  (λb o hb e=>(TV _ _ (UA hb)).trans ((TV _ _ (UA hb)).trans e))
 have l1:s.heap.objs.size < s.heap.objs.size + 1:=TX _;have l2:s.heap.objs.size + 1 < s.heap.objs.size + 1 + 1:=TX _;have hne:a≠s.heap.objs.size + 1 + 1:=SQ (Ur (Ur ha l1) l2);have hSf:s.heap.objs.size∉[s.heap.objs.size + 1 + 1,a,s.heap.objs.size + 1]:=by simp only [SN,UZ,or_false,not_or];exact ⟨SQ (Ur l1 l2),Vd ha,SQ l1⟩
 obtain ⟨L,T⟩:=S.tab;refine Sm ⟨UT aaa _,ZT ((ze (A:=A.in1) (prog:=prog) (w:=w) (es:=es) (ep:=ep) (t:=t) hh (s.heap.objs.size + 1 + 1) a (s.heap.objs.size + 1) hne (SQ l2) pm).toS) (by rw [T_];omega) _ hSf _ es.size 0 _ _ _ rfl (S5 _)
  ⟨oth _ _ (Vd (Ur l1 l2)) hI,oth _ _ (Vd l1) Q5,S2.keep λo e=>oth _ _ (SQ ha) e⟩ hS₃ (adp _) λs' acc' c' hm hS' hacc=>?_⟩
 (show SO _ A (load s.heap.objs.size >>= _) _ _ s')
 (refine Sj (aaD hS' ?_))
 have eacc:acc'.toList=qP es os:=by
  obtain ⟨z,q⟩:=hacc;have lw:(qP es os).length=es.size:=by rw [(xo pm).length_eq,So,SV]
  refine VC (by rw [SV,z,lw]) λi x1 x2=>?_;have this:(qP es os)[i]?=some (acc'[i]'(by simpa using x1)):=q i _ (UD (by simpa using x1));rw [SH x2] at this
  (exact (TY this).symm)
 refine Sm ?_;rw [eacc]
 (obtain ⟨h',g',d',tk',os'⟩:=s')
 (have eg:g'=s.gens:=hm.gens)
 (have ed:d'=dr:=hm.drawn)
 have eo:os'=s.os:=hm.os;subst eg;subst ed;subst eo;refine hQ os d' h' tk' pm (λb o e=>?_) (SJ hS');have lb:=SJ e;refine hm.heap b o ?_ (oth b o (SQ lb) (kp _ _ (Sq _ e)));simp only [SN,UZ,or_false,not_or];exact ⟨SQ lb,SQ (Ur (Ur lb l1) l2)⟩
theorem BX {x:Sl}{ks:List Str}{Q:Sl->Sn->Prop}(h64:ks.length < 64) (Qy:∀(E:Sl->Sn->Prop) (C:List Sl->Sn->Prop),(∀vs ss dr h1 tk,Yr vs ss->ss.Perm ks->Kp s.heap h1->s.heap.objs.size<=h1.objs.size->C vs {s with heap:=h1,toks:=tk,drawn:=dr})->SO (SX prog w) A.in1 (collect x) C E s)
  (h:∀h' tk dr l n (out:Array Sl) ss',Yr out.toList ss'->ss'.Perm ks->sortedS ss'=true->Kp s.heap h'->s.heap.objs.size<=l->h'.get? l=some (VX "list" out n)->Q (.ref l) {s with heap:=h',toks:=tk,drawn:=dr}):SO (SX prog w) A (call (.builtin "sorted") [x]) Q E s:=by
 refine Yt kind_sorted plain_sorted entry_sorted (args_sorted1 _) ?_;unfold Xc.«sorted»;refine Sj (m:=checkCount "sorted" 1 1 _) (Sm ?_);refine Sj (Qy _ _ λvs ss dr h1 tk hS pm k1 le1=>?_);have lv:vs.length < 64:=by
  have e:vs.length=ss.length:=by
   clear pm
   induction hS with
   | nil=>rfl
   | cons x t _ ih=>simp [ih]
  rw [e,pm.length_eq];exact h64
 refine Sj (YU ?_ (by rw [T_];omega));have gL:(h1.push (VX "list" vs.toArray 0)).get? h1.objs.size=some (VX "list" vs.toArray 0):=Sz _ rfl;refine Sj (Tt (TR Z2 ⟨_,gL,rfl⟩ ZD (list_sort_treeK strKind_oneLt gL hS.keysOf (λv₁ v₂ rest e=>keyKind_strs (by rw [<-e];exact hS)) lv λst' a1 a2=>⟨_,rfl,?_⟩) (Z3 _)));obtain ⟨ss',b1,b2,b3⟩:=sorted_out_str hS a1 a2;obtain ⟨n,hn⟩:=aay (out:=(arrOf st').map (·.2)) gL;refine Sm ⟨_,rfl,h _ tk dr _ n _ ss' b1 (b2.trans pm) b3 (λb o e=>?_) le1 hn⟩;have e1:=k1 b o e;rw [ab1 (SQ (SJ e1)) (SJ (Sq _ e1))];exact Sq _ e1
theorem fH.are {es:List (Int×Sl)}{ns:List Str}(h:fH w es ns):Yr (es.map (·.2)) ns:=by
 induction h with
 | nil=>exact .nil
 | cons _ ih=>exact .cons _ _ ih
theorem Yr.perm {vs vs':List Sl}(p:vs.Perm vs'):∀{ss:List Str},Yr vs ss->∃ss',ss'.Perm ss/\Yr vs' ss':=by
 induction p with
 | nil=>intro ss h;exact ⟨ss,.refl _,h⟩
 | cons x _ ih=>
  intro ss h;cases h with
  | cons a t h=>obtain ⟨ss',p,q⟩:=ih h;exact ⟨_,p.cons _,.cons _ _ q⟩
 | swap x y l=>
  intro ss h;cases h with
  | cons a t h=>cases h with
   | cons b u h=>exact ⟨_,.swap _ _ _,.cons _ _ (.cons _ _ h)⟩
 | trans _ _ ih1 ih2=>
  intro ss h;obtain ⟨s1,p1,q1⟩:=ih1 h;obtain ⟨s2,p2,q2⟩:=ih2 q1;exact ⟨s2,p2.trans p1,q2⟩
theorem yV {a:SM}{ks:List Str}{es:Array (Int×Sl)}{ep:Nat}{t:T3}{C:List Sl->Sn->Prop}(hh:A.handled=none) (S:gy w s.heap a (dc w) ks es ep t) (hn:ks.length<=76)
  (hC:∀vs ss dr h1 tk,Yr vs ss->ss.Perm ks->Kp s.heap h1->s.heap.objs.size<=h1.objs.size->C vs {s with heap:=h1,toks:=tk,drawn:=dr}):SO (SX prog w) A (collect (.ref a)) C E s:=by
 have hes:es.size=ks.length:=by rw [<-SV,S.en.length]
 by_cases c:dc w=true/\(!t.plain && decide (es.size > 1))=true
 ·obtain ⟨c1,c2⟩:=c;rw [SI] at c2;refine vA (by cases q:w.params.followText "set-order" with
   | true=>rw [show dc w=!w.params.followText "set-order" from rfl,q] at c1;cases c1
   | false=>rfl) hh (t:=t) (ep:=ep) ⟨S.at_,S.tab,by simpa using c2.1,by simpa using c2.2⟩ (by omega) λos dr h1 tk pm k1 le=>?_
  obtain ⟨ss,p1,q1⟩:=Yr.perm (xo pm).symm S.en.are;exact hC _ ss dr h1 tk q1 p1 k1 (Xo le)
 ·refine yU hh (t:=t) (ep:=ep) (es:=es) ⟨S.at_,S.tab,λz=>?_,S.ld⟩ (by omega) λh1 tk k1 le=>?_
  ·cases q:(!t.plain && decide (es.size > 1)) with
   | true=>exact (c ⟨z,q⟩).elim
   | false=>rfl
  ·obtain ⟨ss,p1,q1⟩:=Yr.perm (vs':=kH w a ep es) ((pK w a ep es).symm.map (·.2)) S.en.are;exact hC _ ss s.drawn h1 tk q1 p1 k1 (Xo le)
end
theorem Dk {X:Cx}{Sa:List (SM×Obj)}{σ:L2.St}{H:Hp}{s:Sn}(I:Inv X Sa σ H s) (dr:Drawn):Inv X Sa σ H {s with drawn:=dr}:=⟨I.ok,I.os,I.bare,I.base,I.loc,I.cell,I.free,I.freeC,I.pin,I.hok,I.len⟩
abbrev i_ (w:S9) (a:SM) (ns:List Str):HO:=.ext λh=>∃ks es ep t,gy w h a (dc w) ks es ep t/\∀d,d∈ks↔d∈ns
section
variable {X:Cx}
theorem qh {H:Hp}{h:Uo}{a:SM}{ns ks:List Str}{es:Array (Int×Sl)}{ep:Nat}{t:T3}(S:gy X.w h a (dc X.w) ks es ep t) (hm:∀d,d∈ks↔d∈ns):bW X.prog X.w H h a (i_ X.w a ns):=
 ⟨⟨ks,es,ep,t,S,hm⟩,⟨_,S.at_⟩,λh1 h2 ⟨ks,es,ep,t,S,hm⟩ e=>⟨ks,es,ep,t,S.keep e,hm⟩⟩
theorem yR (hc:X.calm=true):eK X (.builtin "sorted") (λxs H Q=>∃p ns,xs=[.ref p]/\H p=some (i_ X.w p ns)/\(fY ns).length < 64/\∀l,H l=none->Q (.ref l) (upd H l (.lst ((fB (fY ns)).map V.str)))):=by
 intro Sa s σ H xs us Q I r h;obtain ⟨p,ns,rfl,hp,l64,q⟩:=h;obtain ⟨u,rfl,rx⟩:=vals1 r;cases rx;have hh:X.A.handled=none:=I.ok.hd hc;obtain ⟨⟨ks,es,ep,t,S,hm⟩,_⟩:=(show bW X.prog X.w H s.heap p (i_ X.w p ns) from I.hok p _ hp);have pm:ks.Perm (fY ns):=(Wr S.nd (qN ns)).mpr λd=>by rw [hm d,iQ]
 have len:=pm.length_eq;refine BX (ks:=ks) (by omega) (λE C k=>yV hh S (by omega) k) λh' tk dr l n out ss' a1 a2 a3 kp hl hg=>?_;have e:=sC (a2.trans pm) a3;subst e;have lo:(fB (fY ns)).length=ks.length:=a2.length_eq;exact ⟨.ref l,_,(Dk I dr).laid (t':=tk) kp hl (show bW X.prog X.w _ _ _ (.lst ((fB (fY ns)).map V.str)) from ⟨by rw [So,lo,T_];omega,out.toList,n,nY a1,by simpa [VX] using hg⟩),rfl,q l (I.hok.fresh hl)⟩
theorem MO {K:Sk}{J:Hp}{ms:List Str}{us:List Sl}(rv:Vals (ms.map V.str) us):∀(i:Nat) (v:Sl),us.toArray[i]?=some v->∃t,v=.str (ms.getD i "") t:=λi v q=>by
 have l1:ms.length=us.length:=by have:=rv.length;rwa [So] at this
 have hi:i < us.length:=by have:=(Uh.mp q).1;simpa using this
 have e:us.getD i Um=v:=by simp at q;simp [YM,q]
 have r2:=i7 rv (i:=i) (by rw [So];omega);rw [e] at r2;have e2:(ms.map V.str).getD i V.non=.str (ms.getD i ""):=by simp [YM,show i < ms.length by omega]
 rw [e2] at r2;exact r2
theorem CF (hc:X.calm=true):eK X (.type "set") (λxs H Q=>∃p ms,xs=[.ref p]/\cQ X.K H p (ms.map V.str)/\(fY ms).length < 64/\∀l,H l=none->Q (.ref l) (upd H l (i_ X.w l ms))):=by
 intro Sa s σ H xs us Q I r h;obtain ⟨p,ms,rfl,hq,l64,q⟩:=h;obtain ⟨u,rfl,rx⟩:=vals1 r;cases rx;have hh:X.A.handled=none:=I.ok.hd hc;have fr:H s.heap.objs.size=none:=I.hok.fresh (Sw _);obtain ⟨Sb,r',pl,hz⟩:=I.list hq;have lm:Sb.length=ms.length:=by have:=r'.length;rw [So] at this;exact this.symm
 refine yy hh pl.isList (by simp [lm]) (MO (K:=X.K) (J:=H) r') (by omega) λh' tk ks es ep t S hm kp=>?_;exact ⟨.ref s.heap.objs.size,_,I.laid (t':=tk) (λb o e=>kp b o (SJ e) e) (Sw _) (qh S hm),rfl,q _ fr⟩
end
end DL
namespace DL
open PySem PySem.Spec PyProof.Rows L2 ST DX
theorem Cw:Uz "set"=some (.type "set"):=by decide +kernel
section
variable {prog:SK}{w:S9}{A:Te}{E:Sl->Sn->Prop}{s:Sn}
theorem CA {a:SM}{es:Array (Int×Sl)}{ep:Nat}{t:T3}{led:Bool}{ns:List Str}{x:Str}{k:Tok}{Q:Sl->Sn->Prop}(S:gy w s.heap a led ns es ep t) (hl:ns.length < 76)
  (h:∀(h':Uo) ns' es' ep' t',UJ a s.heap h'->(∀d,d∈ns'↔d=x\/d∈ns)->gy w h' a led ns' es' ep' t'->Q .none {s with heap:=h',toks:=s.toks + 1}):SO (SX prog w) A (call (.builtin "set.add") [.ref a,.str x k]) Q E s:=by
 refine TR F.slot_set_add ⟨_,S.at_,rfl⟩ F.entry_set_add ?_ (F.args_set_add_2 _ _);unfold Xc.«set.add» abR;simp only [abf,bind_assoc];unfold ack setAdd;refine Sj (Sm ?_)
 try dsimp only
 refine Sj (Sm ?_)
 try dsimp only
 refine Sj ?_;refine Tt ?_;refine Sj (Y0 ?_);refine zm (s:={s with toks:=s.toks + 1}) S hl (λhin=>?_) (λhin h' ns' es' ep' t' Ra Q9 QX=>?_)
 ·show SO _ _ (ret Um) _ _ _;exact Sm ⟨_,rfl,h s.heap ns es ep t (aaQ ..) (λd=>⟨.inr,λz=>z.elim (λz=>z▸hin) id⟩) S⟩
 ·show SO _ _ (ret Um) _ _ _;exact Sm ⟨_,rfl,h h' ns' es' ep' t' Ra (λd=>by rw [<-Q9.mem_iff,SN]) QX⟩
end
noncomputable def isLet (x:Str):Bool:=match x.cps.toList with
 | [c]=>decide (97<=c) && decide (c < 123)
 | _=>false
def G0:List Str:=(Sx 26).map λk=>⟨#[97 + k]⟩
theorem Dm {x:Str}(h:isLet x=true):x∈G0:=by
 unfold isLet at h;split at h
 ·rename_i c hc;rw [SI,decide_eq_true_eq,decide_eq_true_eq] at h;refine SD.mpr ⟨c - 97,S0.mpr (by omega),?_⟩;rw [show 97 + (c - 97)=c by omega];cases x;congr 1;exact abd.mp hc.symm
 ·cases h
theorem zX {ns:List Str}(nd:ns.Nodup) (h:∀x∈ns,isLet x=true):ns.length<=26:=by have:=Ug nd λx hx=>Dm (h x hx);unfold G0 at this;simpa using this
noncomputable def sS (ge:G R):Ev->M (List D×Ev):=λe=>ge e >>= λr=>match r with
 | .d (.str x)=>if isLet x=true then .ok ([.str x],e) else .bad
 | _=>.bad
def AV (w:S9) (p:SM):Hp->Hp->List D->Prop:=λJ H ys=>∃ns,ys=ns.map .str/\(∀x∈ns,isLet x=true)/\H p=some (i_ w p ns)/\J p=none
theorem ER {w:S9}{p:SM}:vW (AV w p):=⟨fun {J H J' H' ys} ⟨ns,h0,h1,h2,h3⟩ e=>⟨ns,h0,h1,e.h _ _ h2,e.frz _ (by rw [h2];intro z;cases z) h3⟩⟩
abbrev ET (elt:Tv) (p:SM) (env:Env):Sem Unit:=do let v <-eval elt env;Ws elt.pos;let _ <-call (.builtin "set.add") [.ref p,v]
def HG (w:S9):Hp->Hp->Hp->List Str->V->Prop:=λ_ _ H ns v=>∃p,v=.ref p/\H p=some (i_ w p ns)
structure GZ (X:Cx) (c:C) (e:Tv) (g:G (List Str)):Prop where
 h:PE X e (Oh c (HG X.w) g)
section
variable {prog:SK}{w:S9}{A:Te}{Sd Se:Tv}{ifs:List Tv}{R_:Wa}{pos:Pos}{it acc:Sl}{env:Env}{depth:Nat}{gens:List Wn}{act:Sem Unit}
theorem Nj {elt:Tv}(ht:YW (.SetComp elt gens R_ pos) depth it acc env=oM Sd Se ifs it env act (again (.compLoop (.SetComp elt gens R_ pos) depth it acc env))):qu prog w A (.SetComp elt gens R_ pos) depth it acc env Sd ifs act:=by intro R E I hE turn n s h;refine codeAny_loop rfl I (λn s hI=>?_) n h;show SO _ A ((YW (.SetComp elt gens R_ pos) depth it acc env).onRaise (λx=>do abE x env;abF x)) _ _ s;refine wpAny_noted ?_;rw [ht];exact TN (yG (E:=E) (Q:=λf s'=>match f with | .done g=>R (.ok g) s' | .again c=>c=_/\∃m,m < n/\I m s') (λ_ h=>h) (λ_ h=>Sm ⟨rfl,h⟩) (turn n s hI)) (λ_ _ h=>h) hE
end
section
variable {prog:SK}{w:S9}{A:Te}{R:ZX->Sn->Prop}{s:Sn}{it acc:Sl}{env:Env}{R_:Wa}{pos:Pos}{g0:Wn}{Sd Se:Tv}{ifs:List Tv}{rest:List Wn}{elt:Tv}
theorem JZ (h0:U3 (SX prog w) A (.compLoop (.SetComp elt (⟨Sd,Se,ifs,0⟩::rest) R_ pos) 0 it acc env) R s)
  (h:SO (SX prog w) A (Y3 it) (λit' s'=>U3 (SX prog w) A (.compLoop (.SetComp elt (⟨Sd,Se,ifs,0⟩::rest) R_ pos) 0 it' acc env) R s') (acz (SX prog w) A env λx s'=>R (.error x) s') s):
  U3 (SX prog w) A (.compStart (.SetComp elt (⟨Sd,Se,ifs,0⟩::rest) R_ pos) 0 it acc env) R s:=by
 refine X_ ?_;show SO _ A ((abG (.SetComp elt (⟨Sd,Se,ifs,0⟩::rest) R_ pos) 0 it acc env).onRaise (λx=>do abE x env;Ws abH)) _ _ s;refine acA ?_;unfold abG;show SO _ A (ask >>= _) _ _ s;refine Sj (U0 (wpAny_ite ?_));split
 ·first
   | exact Sj (Sm (Sm (ZE rfl h0)))
   | exact Sm (ZE rfl h0)
 ·refine Sj (XQ ?_);show SO _ _ (Ws Se.pos >>= _) _ _ s;exact Sj (V3 (Sj (TN h (λit' s' h'=>Sm (ZE rfl h')) λ_ _ x=>x)))
end
theorem MX (elt t0 i0:Tv) (f0:List Tv) (R_:Wa) (pos:Pos) (it:Sl) (p:SM) (env:Env):
  YW (.SetComp elt [⟨t0,i0,f0,0⟩] R_ pos) 0 it (.ref p) env=oM t0 i0 f0 it env (ET elt p env) (again (.compLoop (.SetComp elt [⟨t0,i0,f0,0⟩] R_ pos) 0 it (.ref p) env)):=by rfl
section
variable {X:Cx}{c:C}{p:SM}{J2 H2:Hp}{elt:Tv}{ge:G R}
theorem ES (hx:∀v s,X.xe v s->False) (hp2:H2 p=none) (hp0:c.H0 p=none) (hE:PD X c elt ge):sQ X c p (AV X.w p) J2 H2 1 (ET elt p X.env) (sS ge):=by
 intro Sa s σ H J env ys Qf I x2 sr no ⟨ns,h0,h1,h2,h3⟩ hl w;refine Sj (TN (hE _ s σ H (λv H8=>∃J8 x,v=.str x/\Ext J H J8 H8/\isLet x=true/\Qf ([.str x],env)) I ⟨J,env,sr,aC (aG w) λr wr v J8 H8 e8 r8=>?_⟩) (λu8 s8 ⟨v8,H8,I8,r8,J8,x,hv,e8,lx,w8⟩=>?_) λv s f=>(hx v s f).elim)
 ·split at wr
  ·split at wr
   ·rename_i lx;cases r8;exact ⟨J8,_,rfl,e8,lx,wr⟩
   ·exact wr.elim
  ·exact wr.elim
 subst hv;obtain ⟨tk,rfl⟩:=r8;have p8:H8 p=some (i_ X.w p ns):=e8.h _ _ h2;have J8p:J8 p=none:=e8.frz _ (by rw [h2];intro z;cases z) h3;obtain ⟨⟨ks,es,ep,t,S,hm⟩,_⟩:=(show bW X.prog X.w H8 s8.heap p (i_ X.w p ns) from I8.hok p _ p8);have kl:ks.length<=26:=zX S.nd λd hd=>h1 d ((hm d).mp hd);refine Sj (V3 (Sj (CA S (by omega) λh' ns' es' ep' t' sb hm' S'=>?_)));have hm2:∀d,d∈ns'↔d∈ns++[x]:=λd=>by rw [hm' d,hm d,Tc,Su];exact Or.comm
 have I9:Inv X Sa σ (L2.upd H8 p (i_ X.w p (ns++[x]))) {s8 with heap:=h',toks:=s8.toks + 1}:=I8.write (e:=p) (by rw [p8];trivial) (.inl rfl) (λb u hb q=>by rw [sb.2 b hb];exact q) ⟨_,S'.at_⟩ (qh S' hm2);exact Sm ⟨σ,_,J8,([.str x],env),I9,(x2.trans e8).other hp2 J8p,e8.j,(sr.ext e8).other J8p hp0 no,no,⟨ns++[x],by rw [h0,TZ];rfl,λz hz=>by
  rcases Tc.mp hz with hz | hz
  ·exact h1 z hz
  ·rw [Su.mp hz];exact lx,bD,J8p⟩,Sw _,w8⟩
noncomputable def yH (ys:List D):List Str:=ys.map λd=>match d with
 | .str x=>x
 | _=>YA
theorem yI (ns:List Str):yH (ns.map .str)=ns:=by unfold yH;rw [TF];exact Xi ns
def vN (n:Nat) (cap:List Nat) (gi:G (List D)) (gt:GT) (gts:G Bool) (ge:G R):G (List Str):=jf 10000 n cap gi gt gts (sS ge) λys=>.ok (yH ys)
theorem Jf {s:Sn}{Q:Sl->Sn->Prop}{E:Sl->Sn->Prop}(q:Q (.ref s.heap.objs.size) {s with heap:=s.heap.push (fN (dc X.w))}):SO (SX X.prog X.w) X.A (newSet (.type "set")) Q E s:=by unfold newSet ZO;refine Sj (Sj (U0 (Sm ?_)));dsimp only;simp only [newObj];exact Sj (abC (Sm q))
theorem Mw {e:Tv}{g:G (List Str)}{cm:Option (Sl->Sem Unit)->Sem Sl}(core:AH X c (HG X.w) cm g) (hev:eval e X.env=cm none):GZ X c e g:=⟨λSa s σ H Q I h=>by
 rw [hev];exact core I h λacc C m s' H' fl hm hz hf hb q=>⟨m,hm,λh'' sb=>⟨.ref acc,H',hb h'' sb,rfl,q⟩⟩⟩
theorem JR {p:SM}{J H J' H':Hp}{ys:List D}{r:List Str}(e:Ext J H J' H') (a:AV X.w p J' H' ys) (q:M.ok (yH ys)=.ok r):∃J'',Ext J H J'' H'/\HG X.w H J'' H' r (.ref p):=by obtain ⟨ns,h0,h1,h2,h3⟩:=a;cases q;rw [h0,yI];exact ⟨J',e,p,rfl,h2⟩
theorem Mv (own:List Str) (cap:List Nat){elt t0 i0:Tv}{f0:List Tv}{R_:Wa}{pos:Pos}{gi0:G (List D)}{gt0:GT}{gts0:G Bool}{ge:G R}(hi:Co X c t0 i0 gi0)
  (hbody:∀(cl:List (Str×SM)) (C:SM) (s:Sn) (H:Hp) (fp:List SM),eO X.env.cells R_.names []=some cl->qA (fh X own cap R_ cl C s H fp) c t0 gt0/\sR (fh X own cap R_ cl C s H fp) c f0 gts0/\QD (fh X own cap R_ cl C s H fp) c elt ge)
  (a:B9 X R_ cap i0:=by exact CK rfl):GZ X c (.SetComp elt [⟨t0,i0,f0,0⟩] R_ pos) (vN own.length cap gi0 gt0 gts0 ge):=by
 refine Mw ?_ rfl;refine pT (e:=.SetComp elt [⟨t0,i0,f0,0⟩] R_ pos) (ob:=fN (dc X.w)) (o0:=λp=>i_ X.w p []) (Acc:=λp _=>AV X.w p) (N:=1) (lim:=10000) (m:=λp env=>ET elt p env) own cap rfl hi.h
  (λs Q E q=>Jf q) (λh H=>qh (sf (Sz _ rfl)) λd=>Iff.rfl) (λp _=>ER) (λp _ J H _ h1 h2=>⟨[],rfl,λ_ h=>(nomatch h),h1,h2⟩) (by decide) (λit p env=>Nj (MX ..)) (λit acc env R s h0 h=>JZ h0 h) (λys z q=>by cases q)
  (fun {p H2 J H J' H' ys r} hp _ e a q=>JR e a q) (λcl C s H fp hcc=>?_) yL a
 obtain ⟨b1,b2,b3⟩:=hbody cl C s H fp hcc;exact ⟨b1.h,b2.h,λp J2 H2 hp2 hp0=>ES (λ_ _ f=>f) hp2 hp0 b3.h⟩
noncomputable def Hi (gs:G (List R)):G (List Str):=λenv=>gs env >>= λrs=>match rs with
 | [r]=>fQ r >>= λxs=>(match strsOf xs with
  | some ss=>if (fY ss).length < 64 then .ok ss else .bad
  | none=>.bad)
 | _=>.bad
theorem JL {e:Tv}{p:Pos}{pos:Pos}{gs:G (List R)}(ha:jK X c [e] gs) (hm:X.mg "set"=none) (hK:autoParam (X.K=c.K) zA._auto_1) (hc:autoParam (X.calm=true) zA._auto_1) (hg:autoParam (Gl X "set") zA._auto_1)
  (he:autoParam (SG [e] X.env=(false,eval e X.env)::SG [] X.env) zA._auto_1) (hpl:autoParam ((Vf pos (SG [] X.env)).any (·.1)=false) zA._auto_1):GZ X c (.Call (.Name "set" p) [e] [] pos) (Hi gs):=
 ⟨ef (jk (CF hc) hg hm Cw ha.h (by decide) (by decide) he hpl) λσ H Q ⟨J,env,sr,w⟩=>by
  refine ⟨J,env,sr,aC (aG w) λrs wr vs J1 H1 e1 r1=>?_⟩;split at wr
  ·obtain ⟨v,rfl,r⟩:=r1.one;rename_i r0;obtain ⟨xs,q,wr⟩:∃xs,fQ r0=.ok xs/\cH (match strsOf xs with
    | some ss=>if (fY ss).length < 64 then M.ok ss else M.bad
    | none=>M.bad) (λr=>∀(v:V) (J' H':Hp),Ext J H J' H'->HG X.w H J' H' r v->Q v H') c.T:=by
    cases q:fQ r0 with
    | ok xs=>rw [q] at wr;exact ⟨xs,rfl,wr⟩
    | bad=>rw [q] at wr;exact wr.elim
    | exc z=>unfold fQ at q;split at q <;> cases q
   obtain ⟨p,vs,rfl,h1,h2⟩:=RR.list (sr.hp.ext e1) r q;split at wr
   ·rename_i ss z;split at wr
    ·rename_i hl;have:=mC z h2;subst this;refine ⟨p,ss,rfl,by rw [hK];exact h1,hl,λl hl'=>?_⟩;exact wr _ _ _ (e1.trans (Ext.new e1.sub hl' _)) ⟨l,rfl,bD⟩
    ·exact wr.elim
   ·exact wr.elim
  ·exact wr.elim⟩
def lg (g:G (List Str)):G R:=λenv=>g env >>= λns=>if (fY ns).length < 64 then .ok (.l .fresh ((fB (fY ns)).map .str)) else .bad
theorem rX {e:Tv}{p pos:Pos}{g:G (List Str)}(h:GZ X c e g) (hm:X.mg "sorted"=none) (hc:autoParam (X.calm=true) zA._auto_1) (hg:autoParam (Gl X "sorted") zA._auto_1)
  (he:autoParam (SG [e] X.env=(false,eval e X.env)::SG [] X.env) zA._auto_1) (hpl:autoParam ((Vf pos (SG [] X.env)).any (·.1)=false) zA._auto_1):QD X c (.Call (.Name "sorted" p) [e] [] pos) (lg g):=
 ⟨ef (pY (yR hc) hg hm jQ (gq h.h iE he) (by decide) (by decide) he hpl) λσ H Q ⟨J,env,sr,w⟩=>by
  refine ⟨J,env,sr,aC (aG w) λns wn v J1 H1 e1 ⟨p,hv,hp⟩=>?_⟩;split at wn
  ·rename_i hl;refine ⟨p,ns,by rw [hv],hp,hl,λl hl'=>?_⟩;exact wn _ _ _ (e1.trans (Ext.new e1.sub hl' _)) (RR.from e1.h (gD (sr.hp.ext e1) hl' (nR _)))
  ·exact wn.elim⟩
end
end DL
namespace WP
open PySem DL K01
def Wp {α:Type}(m:M α) (P:α->Prop):Prop:=∃a,m=.ok a/\P a
section
variable {α β:Type}{m:M α}{P P':α->Prop}{a:α}{env:Ev}{Q:O->Prop}{t u:G O}{g:G R}{r r':R}{i:Nat}{b:G Bool}
theorem Wp.mono (h:Wp m P) (k:∀a,P a->P' a):Wp m P':=let ⟨a,h1,h2⟩:=h;⟨a,h1,k a h2⟩
theorem Wp.eq (h:Wp m (·=a)):m=.ok a:=let ⟨_,h1,h2⟩:=h;h2▸h1
theorem Wp.bind {f:α->M β}{P:β->Prop}(h:Wp m λa=>Wp (f a) P):Wp (m >>= f) P:=by obtain ⟨a,rfl,h2⟩:=h;exact h2
theorem sI {P:R->Prop}(h:Wp (t env) λo=>∃r,o=.rt r/\P r):Wp (fin (t env)) P:=by obtain ⟨_,h1,r,rfl,h2⟩:=h;exact ⟨r,by rw [h1];rfl,h2⟩
theorem eB (h:Wp (t env) (·=.rt r)):fin (t env)=.ok r:=by rw [h.eq];rfl
theorem cu (h:Wp (t env) λo=>match o with
 | .nx e=>Wp (u e) Q
 | o=>Q o):Wp (av t u env) Q:=by
 obtain ⟨o,h1,h2⟩:=h;show Wp (t env >>= _) Q;rw [h1];cases o with
 | nx e=>exact h2
 | rt r=>exact ⟨_,rfl,h2⟩
 | bk e=>exact ⟨_,rfl,h2⟩
 | ct e=>exact ⟨_,rfl,h2⟩
theorem vP (h:g env=.ok r) (h2:toS r=.ok x) (k:Q (.nx (env.set i (some x)))):Wp (aN i g env) Q:=⟨_,by show (g env >>= _)=_;rw [h,aK,h2];rfl,k⟩
theorem b9 (h:g env=.ok r) (h2:toS r=.ok x) (k:Wp (u (env.set i (some x))) Q):Wp (av (aN i g) u env) Q:=cu (vP h h2 k)
theorem cC (h:g env=.ok r) (h2:rF r=.ok r') (k:Q (.rt r')):Wp (aM g env) Q:=⟨_,yt h h2,k⟩
theorem kQ (k:Q (.nx env)):Wp (bh env) Q:=⟨_,rfl,k⟩
theorem O3 (k:Wp (u env) Q):Wp (av bh u env) Q:=cu (kQ k)
theorem gu (h:b env=.ok true) (k:Wp (t env) Q):Wp (aQ b t u env) Q:=by rw [lq h];exact k
theorem xQ (h:b env=.ok false) (k:Wp (u env) Q):Wp (aQ b t u env) Q:=by rw [jg h];exact k
theorem jZ (h:b env=.ok c) (k1:c=true->Wp (t env) Q) (k2:c=false->Wp (u env) Q):Wp (aQ b t u env) Q:=by
 cases c with
 | true=>exact gu h (k1 rfl)
 | false=>exact xQ h (k2 rfl)
theorem O1 {v:G O}(h:b env=.ok false) (k:Wp (av u v env) Q):Wp (av (aQ b t u) v env) Q:=by
 have:av (aQ b t u) v env=av u v env:=by unfold av;rw [jg h]
 rw [this];exact k
theorem bu {v:G O}(h:b env=.ok false) (k:Wp (v env) Q):Wp (av (aQ b t bh) v env) Q:=O1 h (O3 k)
theorem Nd {xs:List D}(h0:env[i]?=some (some (.own xs))) (h:g env=.ok r) (h2:toD r=.ok d) (hl:xs.length<=1000) (k:Q (.nx (env.set i (some (.own (xs++[d])))))):Wp (dG i g env) Q:=by refine ⟨_,?_,k⟩;unfold dG;rw [h0];show (g env >>= _)=_;rw [h,aK,h2,aK,if_pos (UX hl (by decide))]
theorem NH {xs:List D}(h0:env[i]?=some (some (.own xs))) (h:g env=.ok r) (h2:toD r=.ok d) (hl:xs.length<=1000) (k:Wp (u (env.set i (some (.own (xs++[d]))))) Q):Wp (av (dG i g) u env) Q:=cu (Nd h0 h h2 hl k)
theorem Ng {gi:G (List D)}(h:gi env=.ok ds) (k:Wp (dS tg u ds env) Q):Wp (fF gi tg u env) Q:=by rw [jU h];exact k
theorem kE {gi:G (List D)}{v:G O}(h:gi env=.ok ds) (k:Wp (dS tg t ds env) λo=>match o with
 | .nx e=>Wp (v e) Q
 | o=>Q o):Wp (av (fF gi tg t) v env) Q:=cu (Ng h k)
theorem sJ {tg:GT}(I:Nat->Ev->Prop) (ds:List D) (h0:I 0 env) (step:∀(k:Nat) (hk:k < ds.length) (env:Ev),I k env->∃e,tg ds[k] env=.ok e/\Wp (u e) λo=>∃e,o=.nx e/\I (k + 1) e)
  (k:∀e,I ds.length e->Q (.nx e)):Wp (dS tg u ds env) Q:=by
 have key:∀(es:List D) (i:Nat) (env:Ev),ds.drop i=es->i<=ds.length->I i env->Wp (dS tg u es env) Q:=by
  intro es
  induction es with
  | nil=>
   intro i env hd hi hI;have:i=ds.length:=by have:=congrArg XX hd;rw [UY] at this;simp at this;omega
   subst this;exact ⟨_,rfl,k _ hI⟩
  | cons d es ih=>
   intro i env hd hi hI;have hlt:i < ds.length:=by have:=congrArg XX hd;rw [UY] at this;simp at this;omega
   have e1:=VM hlt;rw [hd] at e1;obtain ⟨q1,q2⟩:=adY e1;obtain ⟨e,h1,_,h2,e2,rfl,h3⟩:=step i hlt env hI;unfold dS;rw [q1,h1,aK,h2,aK];exact ih (i + 1) e2 q2.symm (by omega) h3
 exact key ds 0 env rfl (S5 _) h0
theorem HQ {tg:GT}(I:Nat->Ev->Prop) (h0:I 0 env) (step:∀(k:Nat),k < n->∀env,I k env->∃e,tg (.int k) env=.ok e/\Wp (u e) λo=>∃e,o=.nx e/\I (k + 1) e)
 (k:∀e,I n e->Q (.nx e)):Wp (dS tg u (dH 0 n) env) Q:=by
 have hl:(dH 0 n).length=n:=by simp [dH]
 refine sJ I (dH 0 n) h0 (λj hj env hI=>?_) (by rw [hl];exact k);obtain ⟨e,h1,h2⟩:=step j (by rw [hl] at hj;exact hj) env hI;refine ⟨e,?_,h2⟩;rw [<-h1];simp [dH]
theorem n1 {f:List R->M R}(hx:g env=.ok x) (hf:f [x]=.ok z):gN f (ah g az) env=.ok z:=BC hx hf
theorem two {f:R->R->M R}{h:G R}{x y z:R}(hx:g env=.ok x) (hy:h env=.ok y) (hf:f x y=.ok z):g2 f g h env=.ok z:=by show (g env >>= _)=_;rw [hx,aK,hy,aK,hf]
theorem c1 {F:List S->M R}(hx:g env=.ok x) (hF:F [bI x]=.ok z):gN (aE 1 F) (ah g az) env=.ok (cg z):=by show (ah g az env >>= _)=_;unfold ah az;rw [hx];show (match F [bI x] with | .ok r=>M.ok (cg r) | _=>M.bad)=_;rw [hF]
theorem c2 {F:List S->M R}{h:G R}(hx:g env=.ok x) (hy:h env=.ok y) (hF:F [bI x,bI y]=.ok z):gN (aE 2 F) (ah g (ah h az)) env=.ok (cg z):=by show (ah g (ah h az) env >>= _)=_;unfold ah az;rw [hx,hy];show (match F [bI x,bI y] with | .ok r=>M.ok (cg r) | _=>M.bad)=_;rw [hF]
theorem c3 {F:List S->M R}{h k:G R}(hx:g env=.ok x) (hy:h env=.ok y) (hw:k env=.ok w) (hF:F [bI x,bI y,bI w]=.ok z):gN (aE 3 F) (ah g (ah h (ah k az))) env=.ok (cg z):=by show (ah g (ah h (ah k az)) env >>= _)=_;unfold ah az;rw [hx,hy,hw];show (match F [bI x,bI y,bI w] with | .ok r=>M.ok (cg r) | _=>M.bad)=_;rw [hF]
theorem c4 {F:List S->M R}{h k l:G R}(hx:g env=.ok x) (hy:h env=.ok y) (hw:k env=.ok w) (hv:l env=.ok v) (hF:F [bI x,bI y,bI w,bI v]=.ok z):gN (aE 4 F) (ah g (ah h (ah k (ah l az)))) env=.ok (cg z):=by show (ah g (ah h (ah k (ah l az))) env >>= _)=_;unfold ah az;rw [hx,hy,hw,hv];show (match F [bI x,bI y,bI w,bI v] with | .ok r=>M.ok (cg r) | _=>M.bad)=_;rw [hF]
theorem K4 {gi:G (List D)}{tg:GT}{ge:G R}{gts:G Bool}{α:Type}{xs:List α}{h:α->D}(o:α->Ev) (p:α->Bool) (f:α->D) (hi:gi env=.ok (xs.map h)) (hl:xs.length<=1000000)
 (ho:∀x,(o x).length=n) (ht:∀x (e:Ev),e.length=n->tg (h x) (e++cE 0 cap env)=.ok (o x++cE 0 cap env))
 (hb:∀x∈xs,gts (o x++cE 0 cap env)=.ok (p x)/\(p x=true->∃r,ge (o x++cE 0 cap env)=.ok r/\toD r=.ok (f x))):cT n cap gi tg gts ge env=.ok (.l .fresh ((xs.filter p).map f)):=by
 have key:∀(es:List α) (x:Ev),x.length=n->(∀d∈es,d∈xs)->fz tg gts ge (es.map h) (x++cE 0 cap env)=.ok ((es.filter p).map f):=by
  intro es
  induction es with
  | nil=>exact λ_ _ _=>rfl
  | cons d es ih=>
   intro x hx hm;obtain ⟨h0,h1⟩:=hb d (hm d Sv);have ih:=ih (o d) (ho d) λe he=>hm e (Ss _ he);rw [S4];unfold fz;rw [ht d x hx,aK,h0,aK];cases q:p d with
   | true=>
    obtain ⟨r,h1,h2⟩:=h1 q;rw [if_pos rfl,h1,aK,h2,aK,ih,YY q];rfl
   | false=>
    rw [if_neg (by decide),YZ (by simp [q])];exact ih
 unfold cT;rw [hi,aK,if_pos (by rw [T_,So];omega)];show (fz tg gts ge _ (Tq n none++cE 0 cap env) >>= _)=_;rw [key xs _ Tz λ_ h=>h];rfl
theorem G1 {α:Type}(xs:List α):xs.filter (λ_=>true)=xs:=aab.mpr λ_ _=>rfl
theorem M4 {gi:G (List D)}{ge:G R}{gts:G Bool}{α:Type}{xs:List α}{h:α->D}(p:α->Bool) (f:α->D) (hi:gi env=.ok (xs.map h)) (hl:xs.length<=1000000)
 (hb:∀x∈xs,gts (some (.d (h x))::cE 0 cap env)=.ok (p x)/\(p x=true->∃r,ge (some (.d (h x))::cE 0 cap env)=.ok r/\toD r=.ok (f x))):cT 1 cap gi (aH 0) gts ge env=.ok (.l .fresh ((xs.filter p).map f)):=
 K4 (λx=>[some (.d (h x))]) p f hi hl (λ_=>rfl) (λ_ e he=>match e,he with | [_],_=>rfl) hb
theorem pS {gi:G (List D)}{ge:G R}{α:Type}{xs:List α}{h:α->D}(f:α->D) (hi:gi env=.ok (xs.map h)) (hl:xs.length<=1000000)
 (hb:∀x∈xs,∃r,ge (some (.d (h x))::cE 0 cap env)=.ok r/\toD r=.ok (f x)):cT 1 cap gi (aH 0) fk ge env=.ok (.l .fresh (xs.map f)):=by
 have:=M4 (gts:=fk) (λ_=>true) f hi hl λx hx=>⟨rfl,λ_=>hb x hx⟩
 rwa [G1] at this
theorem K5 {gi:G (List D)}{ge:G R}{gts:G Bool}{α:Type}{xs:List α}(a b:α->D) (p:α->Bool) (f:α->D) (hi:gi env=.ok (xs.map λx=>.tup [a x,b x])) (hl:xs.length<=1000)
 (h:∀x∈xs,gts (some (.d (a x))::some (.d (b x))::cE 0 cap env)=.ok (p x)/\(p x=true->∃r,ge (some (.d (a x))::some (.d (b x))::cE 0 cap env)=.ok r/\toD r=.ok (f x))):cT 2 cap gi (gc 2 (b7 (aH 0) (b7 (aH 1) gv))) gts ge env=.ok (.l .fresh ((xs.filter p).map f)):=
 K4 (λx=>[some (.d (a x)),some (.d (b x))]) p f hi (by omega) (λ_=>rfl) (λ_ e he=>match e,he with | [_,_],_=>rfl) h
theorem qL {gi:G (List D)}{ge:G R}{α:Type}{xs:List α}(a b:α->D) (f:α->D) (hi:gi env=.ok (xs.map λx=>.tup [a x,b x])) (hl:xs.length<=1000)
 (h:∀x∈xs,∃r,ge (some (.d (a x))::some (.d (b x))::cE 0 cap env)=.ok r/\toD r=.ok (f x)):cT 2 cap gi (gc 2 (b7 (aH 0) (b7 (aH 1) gv))) fk ge env=.ok (.l .fresh (xs.map f)):=by
 have:=K5 (gts:=fk) a b (λ_=>true) f hi hl λx hx=>⟨rfl,λ_=>h x hx⟩
 rwa [G1] at this
theorem MC (n:Nat):dH 0 n=(Sx n).map dN:=by simp [dH]
theorem Gw {gs:G (List R)}{n:Nat}(hg:gs env=.ok [.d (.int (n:Int))]) (h:n<=1000):dD gs env=.ok ((Sx n).map dN):=by rw [BR hg h,MC]
theorem nt (h:g env=.ok x):ah g az env=.ok [x]:=by show (g env >>= _)=_;rw [h];rfl
theorem bY:aI env=.ok []:=rfl
theorem aP {gs:G (List D)}(h:g env=.ok r) (h2:toD r=.ok d) (k:gs env=.ok ds):aq g gs env=.ok (d::ds):=by show (g env >>= _)=_;rw [h,aK,h2,aK,k];rfl
theorem dh {gs:G (List D)}{ds:List D}(h:gs env=.ok ds) (hl:ds.length<=1000):bV gs env=.ok (.d (.tup ds)):=by show (gs env >>= _)=_;rw [h,aK,if_pos (g9 hl)]
theorem gU {gs:G (List D)}{ds:List D}(h:gs env=.ok ds) (hl:ds.length<=1000):eU gs env=.ok (.l .fresh ds):=by show (gs env >>= _)=_;rw [h,aK,if_pos (g9 hl)]
theorem rJ {α:Type}{xs:List α}{h:α->D}(f:R) (hf:iz f=.ok (xs.map h)) (i:Int) (h0:0<=i) (hi:i < xs.length):∃x∈xs,aV f (.d (.int i))=.ok (.d (h x)):=by
 obtain ⟨k,rfl⟩:=Int.eq_ofNat_of_zero_le h0;have hk:k < xs.length:=by omega
 refine ⟨xs[k],UH hk,?_⟩;have h1:(xs.map h)[k]?=some (h xs[k]):=by rw [S3,SH hk];rfl
 cases f with
 | d x=>
  cases x with
  | tup ys=>cases hf;exact iS h1
  | lst ys=>cases hf;unfold aV;simp only [iz,aK,n8 h1]
  | _=>cases hf
 | l m x=>cases hf;exact lR h1
 | mo _ _=>cases hf
 | mb _ _=>cases hf
 | mf _ _=>cases hf
 | ln _=>cases hf
 | o _ _ _=>cases hf
theorem Br (h:g env=.ok r) (h2:toD r=.ok d) (h3:tg d env=.ok e) (k:Q (.nx e)):Wp (nq tg g env) Q:=⟨_,by show (g env >>= _)=_;rw [h,aK,h2,aK,h3];rfl,k⟩
theorem BS (h:g env=.ok r) (h2:toD r=.ok d) (h3:tg d env=.ok e) (k:Wp (u e) Q):Wp (av (nq tg g) u env) Q:=cu (Br h h2 h3 k)
theorem E8 (xs:List D) (z:D):cutD (xs++[z]) none (some (-1))=xs:=by unfold cutD HT.bF;simp;rw [show ((-1:Int) + ((xs.length:Int) + 1)).toNat=xs.length by omega];simp
theorem Hj (neg:Bool) (x:D) (ys:List D) (h:deps ys<=60) (hx:dep x<=60):ie neg (.d x) (.d (.tup ys))=.ok (.d (.bl (if neg then !inD x ys else inD x ys))):=by show (if deps ys<=60/\dep x<=60 then M.ok (R.d (.bl (if neg then !inD x ys else inD x ys))) else M.bad)=_;rw [if_pos ⟨h,hx⟩]
theorem tw:∀{xs:List D},(∀x∈xs,dep x<=n)->deps xs<=n
 | [],_=>S5 _
 | x::xs,h=>by have h1:=h x Sv;have h2:=tw (xs:=xs) λy hy=>h y (Ss _ hy);simp only [deps];omega
theorem K_ (xs:List Nat):deps (xs.map dN)<=60:=tw λx hx=>by obtain ⟨k,_,rfl⟩:=SD.mp hx;exact S5 _
theorem CO (xs:List (Nat×Nat)):deps (xs.map dP)<=60:=tw λx hx=>by obtain ⟨k,_,rfl⟩:=SD.mp hx;exact (by decide:(1:Nat)<=60)
theorem AF {tb:G Bool}(I:Nat->Ev->Prop) (step:∀d env,I d env->(tb env=.ok false/\Q (.nx env))\/(tb env=.ok true/\Wp (t env) λo=>match o with
  | .nx e=>∃d',d' < d/\I d' e
  | .rt r=>Q (.rt r)
  | _=>False)):∀(n d:Nat) (env:Ev),I d env->d < n->Wp (kh tb t n env) Q
 | 0,d,env,_,h=>absurd h (UW _)
 | n + 1,d,env,hI,h=>by
  unfold kh;rcases step d env hI with ⟨h1,h2⟩ | ⟨h1,o,h2,h3⟩
  ·rw [h1];exact ⟨_,rfl,h2⟩
  ·rw [h1,aK,if_pos rfl,h2,aK];cases o with
   | nx e=>
    obtain ⟨d',hd,hI'⟩:=h3;exact AF I step n d' e hI' (by omega)
   | rt r=>exact ⟨_,rfl,h3⟩
   | bk e=>exact h3.elim
   | ct e=>exact h3.elim
theorem JP {tb:G Bool}(I:Nat->Ev->Prop) (d:Nat) (hd:d < n) (h0:I d env) (step:∀d env,I d env->(tb env=.ok false/\Wp (u env) Q)\/(tb env=.ok true/\Wp (t env) λo=>match o with
 | .nx e=>∃d',d' < d/\I d' e
 | .rt r=>Q (.rt r)
 | _=>False)):Wp (av (xC n tb t) u env) Q:=cu (AF I (λd env h=>by
  rcases step d env h with h | ⟨h1,h2⟩
  ·exact .inl h
  ·refine .inr ⟨h1,h2.mono λo ho=>?_⟩;cases o <;> exact ho) n d env h0 hd)
theorem Ho {f:R->R->M R}(h0:env[i]?=some (some (.d d))) (h:g env=.ok y) (hf:f (.d d) y=.ok z) (h2:toS z=.ok x) (k:Q (.nx (env.set i (some x)))):Wp (jW i f g env) Q:=by refine ⟨_,?_,k⟩;unfold jW;rw [h0];show (g env >>= _)=_;rw [h,aK,hf,aK,h2];rfl
end
end WP
namespace K12
open PySem DL
def oW:List Str:=["saying"]
noncomputable def o9:G O:=(av (aQ (aT (g2 (bZ false) (g2 aV (af 0) (gC (.int 0))) (gC (.str "row")))) (aM (gN Bb (ah (g2 aV (af 0) (gC (.int 2))) az))) bh)
 (aM (cT 1 [0] (gM (Bf [("mark",(.tup [(.int 2)])),("arrow",(.tup [(.int 2),(.int 3)])),("same",(.tup [(.int 1),(.int 2)])),("not",(.tup [])),("and",(.tup [])),("or",(.tup [])),("some",(.tup [(.int 1)])),("every",(.tup [(.int 1)])),("least",(.tup [(.int 2)]))] (g2 aV (af 0) (gC (.int 0))))) (aH 0) fk (g2 aV (af 1) (af 0)))))
def fM (as:List S):M R:=fin (o9 (aF oW as))
def zj:List Str:=["saying","word"]
noncomputable def zS:G O:=(av (aN 1 (g2 aV (af 0) (gC (.int 0))))
 (av (aQ (aT (g2 (ie false) (af 1) (bV (aq (gC (.str "and")) (aq (gC (.str "or")) aI))))) (aM (g2 aV (af 0) (gC (.int 1)))) bh)
 (av (aQ (aT (Li false [("not",(.int 1)),("some",(.int 2)),("every",(.int 2)),("least",(.int 3))] (af 1))) (aM (bV (aq (g2 aV (af 0) (Bf [("not",(.int 1)),("some",(.int 2)),("every",(.int 2)),("least",(.int 3))] (af 1))) aI))) bh)
 (aM (bV aI)))))
def jA (as:List S):M R:=fin (zS (aF zj as))
def uu:List Str:=["saying","parts","left","one"]
noncomputable def uF:G O:=(av (aN 1 (eU aI))
 (av (aN 2 (eU (aq (af 0) aI)))
 (av (xC 2000 (Lk (af 2)) (av (xB 3 2)
 (av (dG 1 (af 3))
 (xA 2 (Lj (gN (aE 1 K12.jA) (ah (af 3) az)))))))
 (aM (af 1)))))
def ki (as:List S):M R:=fin (uF (aF uu as))
def qx:List Str:=["saying","inner","here"]
noncomputable def q9:G O:=(av (aN 2 (gN (aE 1 K12.fM) (ah (af 0) az)))
 (av (aQ (aT (g2 (ie false) (g2 aV (af 0) (gC (.int 0))) (gC (.tup [(.str "some"),(.str "every"),(.str "least")])))) (aM (lg (vN 1 [2] (gM (af 1)) (aH 0) (aT (g2 (ie true) (af 0) (af 1))) (af 0)))) bh)
 (aM (lg (Hi (ah (g2 vJ (af 2) (af 1)) az))))))
def ju (as:List S):M R:=fin (q9 (aF qx as))
def qy:List Str:=["saying","tongue","marks","arrows"]
noncomputable def q_:G O:=(av (nq (gc 2 (b7 (aH 2) (b7 (aH 3) gv))) (af 1))
 (av (aQ (aT (g2 (bZ false) (g2 aV (af 0) (gC (.int 0))) (gC (.str "mark")))) (aM (g2 (ie false) (g2 aV (af 0) (gC (.int 1))) (af 2))) bh)
 (av (aQ (aT (g2 (bZ false) (g2 aV (af 0) (gC (.int 0))) (gC (.str "arrow")))) (aM (g2 (ie false) (g2 aV (af 0) (gC (.int 1))) (af 3))) bh)
 (aM (gC (.bl true))))))
def jv (as:List S):M R:=fin (q_ (aF qy as))
def mG:List Str:=["_law_cell_here"]
noncomputable def mP:G O:=(aM (cT 1 [0] (dD (ah (gC (.int 4)) az)) (aH 0) fk (g2 aV (gC (.str "abcdefghijklmnopqrstuvwxyz")) (g2 bP (g2 bG (af 1) (g2 cR (gC (.int 7)) (af 0))) (gC (.int 26))))))
def gW (as:List S):M R:=fin (mP (aF mG as))
def qw:List Str:=["_law_number","_law_tongue_here","_law_letters_here","_law_one","_law_other"]
noncomputable def qZ:G O:=(av (aN 3 (g2 aV (af 2) (g2 bP (g2 dF (af 0) (gC (.int 3))) (gC (.int 4)))))
 (av (aN 4 (g2 aV (af 2) (g2 bP (g2 dF (af 0) (gC (.int 12))) (gC (.int 4)))))
 (av (aQ (bJ (aT (g2 (bZ false) (g2 bP (af 0) (gC (.int 3))) (gC (.int 0)))) (aT (g2 (bZ true) (g2 aV (af 1) (gC (.int 0))) (bV aI)))) (aM (bV (aq (gC (.str "mark")) (aq (g2 aV (g2 aV (af 1) (gC (.int 0))) (g2 bP (g2 dF (af 0) (gC (.int 48))) (gN eE (ah (g2 aV (af 1) (gC (.int 0))) az)))) (aq (af 3) aI))))) bh)
 (av (aQ (bJ (aT (g2 (bZ false) (g2 bP (af 0) (gC (.int 3))) (gC (.int 1)))) (aT (g2 (bZ true) (g2 aV (af 1) (gC (.int 1))) (bV aI)))) (aM (bV (aq (gC (.str "arrow")) (aq (g2 aV (g2 aV (af 1) (gC (.int 1))) (g2 bP (g2 dF (af 0) (gC (.int 48))) (gN eE (ah (g2 aV (af 1) (gC (.int 1))) az)))) (aq (af 3) (aq (af 4) aI)))))) bh)
 (aM (bV (aq (gC (.str "same")) (aq (af 3) (aq (af 4) aI)))))))))
def gF (as:List S):M R:=fin (qZ (aF qw as))
def vg:List Str:=["_law_number","_law_letters_here","_law_top","_law_saying","_law_deep_here","_law_high","_law_letter"]
noncomputable def mQ:G O:=(av (nq (gc 3 (b7 (aH 3) (b7 (aH 4) (b7 (aH 5) gv)))) (af 2))
 (av (aN 6 (g2 aV (af 1) (g2 bP (g2 dF (af 0) (gC (.int 5))) (gC (.int 4)))))
 (av (aQ (bX (aT (g2 (bZ false) (g2 bP (af 0) (gC (.int 5))) (gC (.int 0)))) (aT (g2 (bT λi j=>.bl (decide (j < i))) (af 4) (gC (.int 2))))) (aM (bV (aq (bV (aq (gC (.str "not")) (aq (af 3) aI))) (aq (af 4) (aq (g2 bG (af 5) (gC (.int 1))) aI))))) bh)
 (av (aQ (aT (g2 (bZ false) (g2 bP (af 0) (gC (.int 5))) (gC (.int 4)))) (aM (bV (aq (bV (aq (gC (.str "least")) (aq (g2 bG (gC (.int 1)) (g2 bP (g2 dF (af 0) (gC (.int 20))) (g2 aV (eU (aq (gC (.int 9)) (aq (gC (.int 3)) aI))) (g2 bP (g2 dF (af 0) (gC (.int 200))) (gC (.int 2)))))) (aq (af 6) (aq (af 3) aI))))) (aq (g2 bG (af 4) (gC (.int 1))) (aq (g2 bG (af 5) (gC (.int 1))) aI))))) bh)
 (aM (bV (aq (bV (aq (g2 aV (eU (aq (gC (.str "some")) (aq (gC (.str "every")) aI))) (g2 bP (af 0) (gC (.int 2)))) (aq (af 6) (aq (af 3) aI)))) (aq (g2 bG (af 4) (gC (.int 1))) (aq (g2 bG (af 5) (gC (.int 1))) aI)))))))))
def gf (as:List S):M R:=fin (mQ (aF vg as))
def v9:List Str:=["_law_number","_law_some","_law_parts","_law_deep_here","_law_high"]
noncomputable def ny:G O:=(av (aN 2 (gN dW (ah (cT 1 [] (gM (af 1)) (aH 0) fk (g2 aV (af 0) (gC (.int 0)))) az)))
 (av (aN 3 (qX 0 (cT 1 [] (gM (af 1)) (aH 0) fk (g2 aV (af 0) (gC (.int 1))))))
 (av (aN 4 (qX 0 (cT 1 [] (gM (af 1)) (aH 0) fk (g2 aV (af 0) (gC (.int 2))))))
 (av (aQ (aT (g2 (bZ false) (gN eE (ah (af 1) az)) (gC (.int 1)))) (aM (g2 aV (af 1) (gC (.int 0)))) bh)
 (aM (bV (aq (bV (aq (g2 aV (eU (aq (gC (.str "and")) (aq (gC (.str "or")) aI))) (g2 bP (af 0) (gC (.int 2)))) (aq (af 2) aI))) (aq (af 3) (aq (g2 bG (af 4) (gC (.int 1))) aI)))))))))
def fT (as:List S):M R:=fin (ny (aF v9 as))
def oQ:List Str:=["_law_cells","_law_tongue_here","_law_letters_here","_law_stack","_law_k","_law_number","_law_way","_law_rest","_law_many"]
noncomputable def o7:G O:=(av (aN 3 (eU aI))
 (av (fF (dD (ah (gN eE (ah (af 0) az)) az)) (aH 4) (av (aN 5 (g2 bP (g2 cR (g2 bG (g2 bP (g2 aV (af 0) (af 4)) (g2 jR (gC (.int 2)) (gC (.int 64)))) (g2 cR (gC (.int 613)) (af 4))) (gC (.int 71993))) (gC (.int 998244353))))
 (av (aN 6 (g2 bP (af 5) (gC (.int 7))))
 (av (aN 7 (g2 dF (af 5) (gC (.int 7))))
 (aQ (bX (aT (g2 (bZ false) (af 3) (eU aI))) (bX (aT (g2 (bT λi j=>.bl (decide (i < j))) (af 6) (gC (.int 3)))) (aT (g2 (bT λi j=>.bl (decide (j < i))) (g2 aV (g2 aV (af 3) (tG (gC (.int 1)))) (gC (.int 2))) (gC (.int 11)))))) (dG 3 (bV (aq (gN (aE 3 K12.gF) (ah (af 7) (ah (af 1) (ah (af 2) az)))) (aq (gC (.int 0)) (aq (gC (.int 0)) aI))))) (aQ (bJ (aT (g2 (bZ false) (af 6) (gC (.int 3)))) (aT (g2 (bT λi j=>.bl (decide (j < i))) (gN eE (ah (af 3) az)) (gC (.int 1))))) (av (aN 8 (g2 bG (gC (.int 2)) (g2 bP (g2 dF (af 7) (gC (.int 2))) (gC (.int 2)))))
 (aN 3 (g2 bG (nu jS (af 3) uE (mO (tG (af 8)))) (eU (aq (gN (aE 2 K12.fT) (ah (af 7) (ah (nu jS (af 3) (mO (tG (af 8))) uE) az))) aI))))) (aQ (bJ (aT (g2 (bZ false) (af 6) (gC (.int 4)))) (aT (g2 (bZ false) (g2 bP (af 7) (gC (.int 4))) (gC (.int 0))))) (dG 3 (bV (aq (bV (aq (g2 aV (eU (aq (gC (.str "and")) (aq (gC (.str "or")) aI))) (g2 bP (g2 dF (af 7) (gC (.int 4))) (gC (.int 2)))) (aq (bV aI) aI))) (aq (gC (.int 0)) (aq (gC (.int 0)) aI))))) (aN 3 (g2 bG (nu jS (af 3) uE (mO (tG (gC (.int 1))))) (eU (aq (gN (aE 3 K12.gf) (ah (af 7) (ah (af 2) (ah (g2 aV (af 3) (tG (gC (.int 1)))) az)))) aI)))))))))))
 (aM (g2 aV (gN (aE 2 K12.fT) (ah (gN eE (ah (af 0) az)) (ah (af 3) az))) (gC (.int 0))))))
def gQ (as:List S):M R:=fin (o7 (aF oQ as))
end K12
set_option maxHeartbeats 1000000
namespace K12
open PySem PySem.Spec PyProof.Rows DL K01 WP
inductive Sy (A B L:List Str):Nat->D->Prop
 | mark {k:Nat}{n a:Str}:n∈A->a∈L->Sy A B L (k + 1) (.tup [.str "mark",.str n,.str a])
 | arrow {k:Nat}{n a b:Str}:n∈B->a∈L->b∈L->Sy A B L (k + 1) (.tup [.str "arrow",.str n,.str a,.str b])
 | same {k:Nat}{a b:Str}:a∈L->b∈L->Sy A B L (k + 1) (.tup [.str "same",.str a,.str b])
 | not {k:Nat}{xs:List D}:Sy A B L k (.tup xs)->Sy A B L (k + 1) (.tup [.str "not",.tup xs])
 | and {k:Nat}{ss:List D}:(∀s∈ss,Sy A B L k s)->ss.length<=100->Sy A B L (k + 1) (.tup [.str "and",.tup ss])
 | or {k:Nat}{ss:List D}:(∀s∈ss,Sy A B L k s)->ss.length<=100->Sy A B L (k + 1) (.tup [.str "or",.tup ss])
 | some {k:Nat}{a:Str}{xs:List D}:a∈L->Sy A B L k (.tup xs)->Sy A B L (k + 1) (.tup [.str "some",.str a,.tup xs])
 | every {k:Nat}{a:Str}{xs:List D}:a∈L->Sy A B L k (.tup xs)->Sy A B L (k + 1) (.tup [.str "every",.str a,.tup xs])
 | least {k:Nat}{i:Int}{a:Str}{xs:List D}:1<=i->a∈L->Sy A B L k (.tup xs)->Sy A B L (k + 1) (.tup [.str "least",.int i,.str a,.tup xs])
variable {A B L:List Str}{k:Nat}{d:D}
theorem Sy.tup (h:Sy A B L k d):∃xs,d=.tup xs:=by cases h <;> exact ⟨_,rfl⟩
theorem Sy.up (h:Sy A B L k d):∀{j:Nat},k<=j->Sy A B L j d:=by
 induction h with
 | mark h1 h2=>intro j hj;obtain ⟨j,rfl⟩:∃i,j=i + 1:=⟨j - 1,by omega⟩;exact .mark h1 h2
 | arrow h1 h2 h3=>intro j hj;obtain ⟨j,rfl⟩:∃i,j=i + 1:=⟨j - 1,by omega⟩;exact .arrow h1 h2 h3
 | same h1 h2=>intro j hj;obtain ⟨j,rfl⟩:∃i,j=i + 1:=⟨j - 1,by omega⟩;exact .same h1 h2
 | not _ ih=>intro j hj;obtain ⟨j,rfl⟩:∃i,j=i + 1:=⟨j - 1,by omega⟩;exact .not (ih (by omega))
 | and _ h ih=>intro j hj;obtain ⟨j,rfl⟩:∃i,j=i + 1:=⟨j - 1,by omega⟩;exact .and (λs hs=>ih s hs (by omega)) h
 | or _ h ih=>intro j hj;obtain ⟨j,rfl⟩:∃i,j=i + 1:=⟨j - 1,by omega⟩;exact .or (λs hs=>ih s hs (by omega)) h
 | some h _ ih=>intro j hj;obtain ⟨j,rfl⟩:∃i,j=i + 1:=⟨j - 1,by omega⟩;exact .some h (ih (by omega))
 | every h _ ih=>intro j hj;obtain ⟨j,rfl⟩:∃i,j=i + 1:=⟨j - 1,by omega⟩;exact .every h (ih (by omega))
 | least h0 h _ ih=>intro j hj;obtain ⟨j,rfl⟩:∃i,j=i + 1:=⟨j - 1,by omega⟩;exact .least h0 h (ih (by omega))
noncomputable def wd:D->Str
 | .tup (.str w::_)=>w
 | _=>YA
noncomputable def wit:D->List D
 | .tup [.str w,x]=>if w == "not" then [x] else (match x with
  | .tup ss=>ss
  | _=>[])
 | .tup [.str _,.str _,.tup xs]=>[.tup xs]
 | .tup [.str _,.int _,.str _,.tup xs]=>[.tup xs]
 | _=>[]
noncomputable def eS:D->List Str
 | .tup [.str w,.str a,.str b]=>if w == "mark" then [b] else [a,b]
 | .tup [.str _,.str a,.tup _]=>[a]
 | .tup [.str _,.str _,.str a,.str b]=>[a,b]
 | .tup [.str _,.int _,.str a,.tup _]=>[a]
 | _=>[]
noncomputable def own:D->List Str
 | .tup [.str w,.str a,.str b]=>if w == "mark" then [b] else [a,b]
 | .tup [.str _,.str _,.str a,.str b]=>[a,b]
 | _=>[]
noncomputable def bnd:D->List Str
 | .tup [.str _,.str a,.tup _]=>[a]
 | .tup [.str _,.int _,.str a,.tup _]=>[a]
 | _=>[]
theorem jJ (h:Sy A B L k d):jA [.d d]=.ok (.d (.tup (wit d))):=by cases h <;> rfl
theorem jb (h:Sy A B L k d):fM [.d d]=.ok (.l .fresh ((eS d).map .str)):=by cases h <;> rfl
theorem dO (h:Sy A B L (k + 1) d):∀s∈wit d,Sy A B L k s:=by
 intro s hs;cases h with
 | mark _ _=>cases hs
 | arrow _ _ _=>cases hs
 | same _ _=>cases hs
 | not h=>rw [Su.mp (show s∈[_] from hs)];exact h
 | and h _=>exact h s hs
 | or h _=>exact h s hs
 | some _ h=>rw [Su.mp (show s∈[_] from hs)];exact h
 | every _ h=>rw [Su.mp (show s∈[_] from hs)];exact h
 | least _ _ h=>rw [Su.mp (show s∈[_] from hs)];exact h
theorem lK (h:Sy A B L k d):(wit d).length<=100:=by
 cases h with
 | and _ h=>exact h
 | or _ h=>exact h
 | mark _ _=>exact S5 _
 | arrow _ _ _=>exact S5 _
 | same _ _=>exact S5 _
 | _=>exact ZJ 1 99
theorem iX (h:Sy A B L k d):∀x∈eS d,x∈L:=by
 intro x hx;cases h with
 | mark _ h=>rw [Su.mp (show x∈[_] from hx)];exact h
 | arrow _ h1 h2=>rcases SN.mp (show x∈[_,_] from hx) with e | e;exact e▸h1;exact (Su.mp e)▸h2
 | same h1 h2=>rcases SN.mp (show x∈[_,_] from hx) with e | e;exact e▸h1;exact (Su.mp e)▸h2
 | not _=>cases hx
 | and _ _=>cases hx
 | or _ _=>cases hx
 | some h _=>rw [Su.mp (show x∈[_] from hx)];exact h
 | every h _=>rw [Su.mp (show x∈[_] from hx)];exact h
 | least _ h _=>rw [Su.mp (show x∈[_] from hx)];exact h
theorem cX (h:Sy A B L k d):∃j,k=j + 1:=by cases h <;> exact ⟨_,rfl⟩
theorem f6 {α β:Type}{f g:α->List β}:∀{l:List α},(∀x∈l,f x=g x)->l.flatMap f=l.flatMap g
 | [],_=>rfl
 | x::l,h=>by rw [UP,UP,h x Sv,f6 λy hy=>h y (Ss _ hy)]
noncomputable def c7:Nat->D->List D
 | 0,_=>[]
 | n + 1,d=>d::(wit d).flatMap (c7 n)
theorem tY:∀{k:Nat}{d:D},Sy A B L k d->∀{j:Nat},k<=j->c7 j d=c7 k d
 | 0,d,h,j,hj=>by obtain ⟨_,e⟩:=cX h;cases e
 | k + 1,d,h,j,hj=>by obtain ⟨j,rfl⟩:∃i,j=i + 1:=⟨j - 1,by omega⟩;show d::(wit d).flatMap (c7 j)=d::(wit d).flatMap (c7 k);congr 1;exact f6 λs hs=>tY (dO h s hs) (by omega)
theorem tX:∀{k:Nat}{d:D},Sy A B L k d->∀p∈c7 k d,Sy A B L k p
 | 0,d,h,p,_=>by obtain ⟨_,e⟩:=cX h;cases e
 | k + 1,d,h,p,hp=>by
  rcases SN.mp hp with rfl | hp
  ·exact h
  ·obtain ⟨s,hs,hp⟩:=U1.mp hp;exact (tX (dO h s hs) p hp).up (U5 _)
end K12
namespace K51
open PySem DL
end K51
namespace K51
open PySem DL K01 WP
structure Cr (w:Wd):Prop where
 lo:1<=w.m
 hi:w.m<=8
 ml:w.ms.length<=3
 al:w.ar.length<=3
theorem OJ (l:Nat) (xs:List Nat):ie false (.d (dN l)) (.d (.tup (xs.map dN)))=.ok (.d (.bl (inD (dN l) (xs.map dN)))):=Hj false _ _ (K_ xs) (S5 _)
theorem OL (l:Nat×Nat) (xs:List (Nat×Nat)):ie false (.d (dP l)) (.d (.tup (xs.map dP)))=.ok (.d (.bl (inD (dP l) (xs.map dP)))):=Hj false _ _ (CO xs) (by show (1:Nat)<=60;decide)
theorem t2:(2:Nat)<=1000:=by decide
end K51
namespace K51
open PySem DL K01 WP
open PySem.W (kas_sort)
theorem uW (ds:List D):(bM ds).length=ds.length:=by
 unfold bM;by_cases h:ds.length < 2
 ·rw [if_pos h]
 ·rw [if_neg h,So];have:=(iB (n:=ds.length) (by omega)).run (ltB ds);have:=this.size_eq;simpa using this
theorem kF (hx:x∈bM ds):x∈ds:=by
 unfold bM at hx;by_cases h:ds.length < 2
 ·rwa [if_pos h] at hx
 ·rw [if_neg h] at hx;have hp:=(iB (n:=ds.length) (by omega)).run (ltB ds);obtain ⟨i,hi,rfl⟩:=SD.mp hx;have hi:i∈aZ (ltB ds) (Wm ds.length):=by simpa using hi
  have:=(Yn hp).mp hi;exact ic (by simpa using this)
end K51
namespace K51
open PySem DL K01 WP
end K51
namespace K52
open PySem DL
end K52
namespace K52
open PySem DL K01 WP K51
variable {P:D->Prop}
end K52
namespace DL
open PySem PySem.Spec PyProof.Rows L2 DX
end DL
namespace K55
open PySem DL
end K55
namespace K55
open PySem DL K01 WP K51 K52
theorem zL (a b:Nat):cA (dN a) (dN b)=(a == b):=by
 show ((a:Int) == (b:Int))=_;by_cases h:a=b
 ·subst h;simp
 ·rw [beq_eq_false_iff_ne.mpr h,beq_eq_false_iff_ne.mpr (by omega)]
structure Cd (n:Nat) (w:Wd):Prop where
 mp:∀r∈w.ms,r.2.length<=n/\∀p∈r.2,p < w.m
 ap:∀r∈w.ar,r.2.length<=n/\∀p∈r.2,p.1 < w.m/\p.2 < w.m
theorem inN (l:Nat) (xs:List Nat):inD (dN l) (xs.map dN)=decide (l∈xs):=by
 unfold inD;rw [Zy,V2,VE,decide_eq_true_eq];constructor
 ·rintro ⟨x,hx,e⟩;have e:cA (dN x) (dN l)=true:=e;rw [zL] at e;rw [<-eq_of_beq e];exact hx
 ·intro h;exact ⟨l,h,by show cA (dN l) (dN l)=true;rw [zL];simp⟩
theorem Ob (a b:Nat×Nat):cA (dP a) (dP b)=decide (a=b):=by
 have:cA (dP a) (dP b)=(cA (dN a.1) (dN b.1) && (cA (dN a.2) (dN b.2) && true)):=by show cA (.tup [dN a.1,dN a.2]) (.tup [dN b.1,dN b.2])=_;rw [tE,oh,oh,fj]
 rw [this,zL,zL,V2];obtain ⟨a1,a2⟩:=a;obtain ⟨b1,b2⟩:=b;simp
theorem Lr (l:Nat×Nat) (xs:List (Nat×Nat)):inD (dP l) (xs.map dP)=decide (l∈xs):=by
 unfold inD;rw [Zy,V2,VE,decide_eq_true_eq];constructor
 ·rintro ⟨x,hx,e⟩;have e:cA (dP x) (dP l)=true:=e;rw [Ob,decide_eq_true_eq] at e;rw [<-e];exact hx
 ·intro h;exact ⟨l,h,by show cA (dP l) (dP l)=true;rw [Ob];simp⟩
noncomputable def iK:D->Nat
 | .int i=>i.toNat
 | _=>0
noncomputable def jt:D->Nat×Nat
 | .tup [x,y]=>(iK x,iK y)
 | _=>(0,0)
theorem vU (n:Nat):iK (dN n)=n:=rfl
theorem vV (n:Nat×Nat):jt (dP n)=n:=rfl
theorem back {α:Type}(h:α->D) (u:D->α) (hu:∀x,u (h x)=x){l:List D}(hl:∀d∈l,∃x,d=h x):(l.map u).map h=l:=by rw [TF];refine (aac (g:=id) λd hd=>?_).trans (Xi _);obtain ⟨x,rfl⟩:=hl d hd;show h (u (h x))=h x;rw [hu]
theorem uX {α:Type}(h:α->D) (u:D->α) (hu:∀x,u (h x)=x) (xs:List α):((bM (xs.map h)).map u).map h=bM (xs.map h):=back h u hu λd hd=>by obtain ⟨x,_,rfl⟩:=SD.mp (kF hd);exact ⟨x,rfl⟩
theorem ue {α:Type}(h:α->D) (u:D->α) (hu:∀x,u (h x)=x) (xs:List α):∀y∈(bM (xs.map h)).map u,y∈xs:=λy hy=>by obtain ⟨d,hd,rfl⟩:=SD.mp hy;obtain ⟨x,hx,rfl⟩:=SD.mp (kF hd);rw [hu];exact hx
def pF:Fm:=.tc .i (.tc .i .tn)
theorem xE (p:Nat×Nat):sN pF (dP p):=⟨_,rfl,_,_,rfl,⟨_,rfl⟩,_,rfl,_,_,rfl,⟨_,rfl⟩,[],rfl,rfl⟩
theorem Np (xs:List Nat) (hl:xs.length < 64):yc (xs.map dN)=true:=by unfold yc;rw [So,decide_eq_true hl,XN,TU];intro d hd;obtain ⟨x,_,rfl⟩:=SD.mp hd;rfl
theorem OH (xs:List (Nat×Nat)):∀d∈xs.map dP,iU d=some .i:=λd hd=>by obtain ⟨x,_,rfl⟩:=SD.mp hd;rfl
theorem Nq (xs:List (Nat×Nat)) (hl:xs.length < 64):uO (xs.map dP)=true:=by
 have RQ:=CO xs;have hc:xg (xs.map dP)=true:=by unfold xg;rw [TU];intro x hx;rw [TU];intro y hy;obtain ⟨a,_,rfl⟩:=SD.mp hx;obtain ⟨b,_,rfl⟩:=SD.mp hy;exact (oK pF).lt _ _ (xE a) (xE b)
 unfold uO;rw [hc,decide_eq_true RQ,So,decide_eq_true hl];cases xs with
 | nil=>rfl
 | cons x xs=>
  have hh:F1 ((x::xs).map dP)=true:=by show gX .i ((x::xs).map dP)=true;exact wG (OH (x::xs))
  rw [hh];simp
theorem OW (xs:List Nat) (hl:xs.length < 64):k9 [.l .fresh (xs.map dN)]=.ok (.l .fresh (bM (xs.map dN))):=by show (if uO (xs.map dN)=true then M.ok (R.l .fresh (bM (xs.map dN))) else if yc (xs.map dN)=true then M.ok (R.l .fresh (bM (xs.map dN))) else .bad)=_;rw [if_pos (Np xs hl)];split <;> rfl
theorem OX (xs:List (Nat×Nat)) (hl:xs.length < 64):k9 [.l .fresh (xs.map dP)]=.ok (.l .fresh (bM (xs.map dP))):=by show (if uO (xs.map dP)=true then M.ok (R.l .fresh (bM (xs.map dP))) else if yc (xs.map dP)=true then M.ok (R.l .fresh (bM (xs.map dP))) else .bad)=_;rw [if_pos (Nq xs hl)]
theorem Bp {ps:List Nat}(hp:p < ps.length):aV (.d (.tup (ps.map dN))) (.d (dN p))=.ok (.d (dN (ps.getD p 0))):=by
 have h1:(ps.map dN)[p]?=some (dN (ps.getD p 0)):=by rw [S3,SH hp];simp [YM,hp]
 exact iS h1
noncomputable def fX (w:Wd) (ps:List Nat):Wd:=⟨w.m,w.ms.map λr=>(r.1,(bM ((r.2.map λp=>ps.getD p 0).map dN)).map iK),w.ar.map λr=>(r.1,(bM ((r.2.map λp=>(ps.getD p.1 0,ps.getD p.2 0)).map dP)).map jt)⟩
theorem N2 (w:Wd) (hw:Cr w) (n:Nat) (hb:Cd n w) (ps:List Nat) (hl:ps.length=w.m) (hp:∀p∈ps,p < w.m):Cr (fX w ps)/\Cd n (fX w ps)/\(fX w ps).m=w.m/\(fX w ps).ms.length=w.ms.length/\(fX w ps).ar.length=w.ar.length:=by
 have gd:∀p,p < w.m->ps.getD p 0 < w.m:=λp h=>by
  have h':p < ps.length:=by omega
  rw [show ps.getD p 0=ps[p] by simp [YM,h']];exact hp _ (UH h')
 refine ⟨⟨hw.lo,hw.hi,?_,?_⟩,⟨λr hr=>?_,λr hr=>?_⟩,rfl,So _,So _⟩
 ·show (w.ms.map _).length<=3;rw [So];exact hw.ml
 ·show (w.ar.map _).length<=3;rw [So];exact hw.al
 ·obtain ⟨q,hq,rfl⟩:=SD.mp (show r∈w.ms.map _ from hr);obtain ⟨h1,h2⟩:=hb.mp q hq;refine ⟨?_,λp hp'=>?_⟩
  ·show ((bM _).map iK).length<=n;rw [So,uW,So,So];exact h1
  ·have:=ue dN iK vU _ p hp';obtain ⟨z,hz,rfl⟩:=SD.mp this;exact gd z (h2 z hz)
 ·obtain ⟨q,hq,rfl⟩:=SD.mp (show r∈w.ar.map _ from hr);obtain ⟨h1,h2⟩:=hb.ap q hq;refine ⟨?_,λp hp'=>?_⟩
  ·show ((bM _).map jt).length<=n;rw [So,uW,So,So];exact h1
  ·have:=ue dP jt vV _ p hp';obtain ⟨z,hz,rfl⟩:=SD.mp this;exact ⟨gd _ (h2 z hz).1,gd _ (h2 z hz).2⟩
end K55
namespace K23
open PySem DL
end K23
namespace K23
open PySem DL K01 WP K51 K52 K55
section
variable {α β:Type}
theorem A7 {gts:G Bool}{act:Ev->M (List D×Ev)}{h':β->D}{rest:Ev}(p:β->Bool) (f:β->D):∀(ys:List β),(∀y∈ys,gts (a0::some (.d (h' y))::rest)=.ok (p y)/\(p y=true->act (a0::some (.d (h' y))::rest)=.ok ([f y],a0::some (.d (h' y))::rest)))->
  ∀z:Option S,∃z',b_ (aH 1) gts act (ys.map h') (a0::z::rest)=.ok ((ys.filter p).map f,a0::z'::rest)
 | [],_,z=>⟨z,rfl⟩
 | y::ys,H,z=>by
  obtain ⟨h1,h2⟩:=H y Sv;obtain ⟨z',ih⟩:=A7 p f ys (λy hy=>H y (Ss _ hy)) (some (.d (h' y)));refine ⟨z',?_⟩;rw [S4];unfold b_;show (gts (a0::some (.d (h' y))::rest) >>= λk=>if k=true then act (a0::some (.d (h' y))::rest) >>= λr=>b_ (aH 1) gts act (ys.map h') r.2 >>= λz=>.ok (r.1++z.1,z.2) else b_ (aH 1) gts act (ys.map h') (a0::some (.d (h' y))::rest))=_;rw [h1,aK];cases q:p y with
  | true=>
   rw [if_pos rfl,h2 q,aK];show (b_ (aH 1) gts act (ys.map h') (a0::some (.d (h' y))::rest) >>= _)=_;rw [ih,aK,YY q];rfl
  | false=>
   rw [if_neg (by decide),ih,YZ (by simp [q])]
theorem w_ {gi1:G (List D)}{gts:G Bool}{act:Ev->M (List D×Ev)}{h:α->D}{h':β->D}{rest:Ev}(ys:α->List β) (p:α->β->Bool) (f:α->β->D):∀(xs:List α),(∀x∈xs,(ys x).length<=1000/\(∀z:Option S,gi1 (some (.d (h x))::z::rest)=.ok ((ys x).map h'))/\∀y∈ys x,gts (some (.d (h x))::some (.d (h' y))::rest)=.ok (p x y)/\(p x y=true->act (some (.d (h x))::some (.d (h' y))::rest)=.ok ([f x y],some (.d (h x))::some (.d (h' y))::rest)))->
  ∀z0 z:Option S,∃z0' z',b_ (aH 0) fk (jd gi1 (aH 1) gts act) (xs.map h) (z0::z::rest)=.ok (xs.flatMap λx=>((ys x).filter (p x)).map (f x),z0'::z'::rest)
 | [],_,z0,z=>⟨z0,z,rfl⟩
 | x::xs,H,z0,z=>by obtain ⟨h1,h2,h3⟩:=H x Sv;obtain ⟨z1,e1⟩:=A7 (a0:=some (.d (h x))) (p x) (f x) (ys x) h3 z;obtain ⟨z0',z',ih⟩:=w_ ys p f xs (λy hy=>H y (Ss _ hy)) (some (.d (h x))) z1;refine ⟨z0',z',?_⟩;rw [S4];unfold b_;show (jd gi1 (aH 1) gts act (some (.d (h x))::z::rest) >>= _)=_;unfold jd;rw [h2 z,aK,if_pos (by rw [So];exact h1),e1,aK];show (b_ (aH 0) fk (jd gi1 (aH 1) gts act) (xs.map h) (some (.d (h x))::z1::rest) >>= _)=_;rw [ih];rfl
theorem G6 {gi0 gi1:G (List D)}{gts:G Bool}{act:Ev->M (List D×Ev)}{fin:List D->M R}{h:α->D}{h':β->D}{xs:List α}(ys:α->List β) (p:α->β->Bool) (f:α->β->D) (hi:gi0 env=.ok (xs.map h)) (hl:xs.length<=10000)
 (H:∀x∈xs,(ys x).length<=1000/\(∀z:Option S,gi1 (some (.d (h x))::z::cE 0 cap env)=.ok ((ys x).map h'))/\∀y∈ys x,gts (some (.d (h x))::some (.d (h' y))::cE 0 cap env)=.ok (p x y)/\(p x y=true->act (some (.d (h x))::some (.d (h' y))::cE 0 cap env)=.ok ([f x y],some (.d (h x))::some (.d (h' y))::cE 0 cap env))):
  jf 10000 2 cap gi0 (aH 0) fk (jd gi1 (aH 1) gts act) fin env=fin (xs.flatMap λx=>((ys x).filter (p x)).map (f x)):=by unfold jf;rw [hi,aK,if_pos (by rw [So];exact hl)];obtain ⟨z0',z',e⟩:=w_ ys p f xs H none none;show (b_ (aH 0) fk (jd gi1 (aH 1) gts act) (xs.map h) (none::none::cE 0 cap env) >>= _)=_;rw [e];rfl
theorem zk {ge:G R}(h:ge env=.ok r) (h2:toD r=.ok d):gz ge env=.ok ([d],env):=by unfold gz;rw [h,aK,h2];rfl
end
def sU (m n:Nat):List (Nat×Nat):=(Sx m).flatMap λa=>(Sx n).map λb=>(a,b)
theorem FW {p:Nat×Nat}:p∈sU m n↔p.1 < m/\p.2 < n:=by
 unfold sU;simp only [U1,S0,SD];constructor
 ·rintro ⟨a,ha,b,hb,rfl⟩;exact ⟨ha,hb⟩
 ·rintro ⟨h1,h2⟩;exact ⟨p.1,h1,p.2,h2,rfl⟩
theorem FL (m n:Nat):(sU m n).length=m * n:=by
 induction m with
 | zero=>simp [sU]
 | succ m ih=>
  unfold sU at ih ⊢;rw [ZA,Yh,SE,ih,adn];simp
section
variable {env:Ev}{Q:O->Prop}{g:G R}{t:G O}{r:R}{i:Nat}
theorem Nf {xs ys:List D}(h0:env[i]?=some (some (.own xs))) (h:g env=.ok r) (h2:iz r=.ok ys) (hl:xs.length + ys.length<=16777216) (k:Q (.nx (env.set i (some (.own (xs++ys)))))):Wp (xA i g env) Q:=by refine ⟨_,?_,k⟩;unfold xA;rw [h0];show (g env >>= _)=_;rw [h,aK,h2,aK,if_pos (by rw [T_];exact hl)]
end
end K23
namespace K12
open PySem PySem.Spec PyProof.Rows DL K01 WP
variable {A B L:List Str}{k:Nat}{d:D}
theorem xP {env:Ev}{i:Nat}{g:G R}{r:R}{Q:O->Prop}{xs:List D}{d:D}(h0:env[i]?=some (some (.own xs))) (h:g env=.ok r) (h2:toD r=.ok d) (hl:xs.length<=1000000) (k:Q (.nx (env.set i (some (.own (xs++[d])))))):Wp (dG i g env) Q:=by refine ⟨_,?_,k⟩;unfold dG;rw [h0];show (g env >>= _)=_;rw [h,aK,h2,aK,if_pos (by rw [T_];omega)]
theorem Nh {env:Ev}{i j:Nat}{Q:O->Prop}{xs:List D}{d:D}(h0:env[j]?=some (some (.own (xs++[d])))) (k:Q (.nx ((env.set j (some (.own xs))).set i (some (.d d))))):Wp (xB i j env) Q:=by
 refine ⟨_,?_,k⟩;unfold xB;rw [h0];have e:(xs++[d])[(xs++[d]).length - 1]?=some d:=by simp
 simp only [e];rw [List.dropLast_concat]
theorem Ge (h:Sy A B L k d):1<=(c7 k d).length:=by obtain ⟨j,rfl⟩:=cX h;exact ZJ 1 _
theorem LI {l:List D}(h:∀d∈l,Sy A B L k d):l.length<=(l.flatMap (c7 k)).length:=by
 induction l with
 | nil=>exact S5 _
 | cons d l ih=>
  have:=ih λx hx=>h x (Ss _ hx);have:=Ge (h d Sv);rw [UP,SE,Ti];omega
theorem zP (h:Sy A B L k d):c7 k d=d::(wit d).flatMap (c7 k):=by obtain ⟨j,rfl⟩:=cX h;show d::(wit d).flatMap (c7 j)=_;congr 1;exact f6 λs hs=>(tY (dO h s hs) (U5 j)).symm
theorem Kl (h:Sy A B L k d):∀s∈wit d,Sy A B L k s:=λs hs=>by obtain ⟨j,rfl⟩:=cX h;exact (dO h s hs).up (U5 j)
theorem zh (h:Sy A B L k d) (hN:(c7 k d).length < 2000):ki [.d d]=.ok (.l .fresh (c7 k d)):=by
 refine eB (b9 (r:=.l .fresh []) (x:=.own []) (gU bY (S5 _)) rfl (b9 (r:=.l .fresh [d]) (x:=.own [d]) (gU (aP rfl rfl bY) (ZJ 1 999)) rfl ?_));refine JP (λm env=>∃done left x,env=[some (.d d),some (.own done),some (.own left),x]/\(∀s∈left,Sy A B L k s)/\done++left.reverse.flatMap (c7 k)=c7 k d/\m=(left.reverse.flatMap (c7 k)).length) (c7 k d).length hN ⟨[],[d],none,rfl,λs hs=>by rw [Su.mp hs];exact h,by simp,by simp⟩ ?_;rintro m env ⟨done,left,x,rfl,h1,h2,h3⟩;rcases ZK left with rfl | ⟨l,s,rfl⟩
 ·refine .inl ⟨rfl,cC (r:=.l .own done) rfl rfl ?_⟩;have:done=c7 k d:=by simpa using h2
  rw [this]
 ·rw [ZL] at h1 h2 h3 ⊢;have hs:Sy A B L k s:=h1 s (by simp);refine .inr ⟨?_,?_⟩
  ·show M.ok (!(l++[s]).isEmpty)=_;simp
  have tot:=congrArg XX h2;rw [SE,<-h3] at tot;rw [WG,Zf,Wj,UP,zP hs,abi,Ti] at h3;rw [WG,Zf,Wj,UP,zP hs] at h2;have hw:=lK hs;have ll:l.length<=(l.reverse.flatMap (c7 k)).length:=by
   have:=LI (l:=l.reverse) (A:=A) (B:=B) (L:=L) (k:=k) λz hz=>h1 z (Uy _ (abj.mp hz))
   rwa [aad] at this
  rw [SE] at h3;refine cu (Nh (xs:=l) (d:=s) rfl (cu (xP (d:=s) rfl rfl rfl (by omega) (K23.Nf (xs:=l) (ys:=(wit s).reverse) rfl (r:=.d (.tup (wit s).reverse)) ?_ rfl (by rw [aad];omega) ?_))))
  ·show (gN _ _ _ >>= _)=_;rw [c1 (x:=.d s) (z:=.d (.tup (wit s))) rfl (jJ hs)];rfl
  ·refine ⟨_,?_,done++[s],l++(wit s).reverse,some (.d s),rfl,λz hz=>?_,?_,rfl⟩
   ·rw [WG,ZU,Yh,SE];omega
   ·rcases Tc.mp hz with hz | hz
    ·exact h1 z (Uy _ hz)
    ·exact Kl hs z (abj.mp hz)
   ·rw [WG,ZU,Yh,<-h2];simp
variable {A B L:List Str}{k:Nat}{d:D}
def mx (l:List Int):Int:=l.foldl (λa b=>if b > a then b else a) 0
noncomputable def dp:Nat->D->Int
 | 0,_=>0
 | n + 1,d=>mx ((wit d).map (dp n)) + (if (bnd d).isEmpty then 0 else 1)
theorem KZ (h:Sy A B L k d):aT (g2 (ie false) (g2 aV (af 0) (gC (.int 0))) (gC (.tup [(.str "some"),(.str "every"),(.str "least")]))) (some (.d d)::tl)=.ok (!(bnd d).isEmpty):=by cases h <;> rfl
end K12
namespace K12
open PySem PySem.Spec PyProof.Rows DL K01 WP
open K23 (w_ A7 G6 zk)
variable {A B L:List Str}{k:Nat}{d:D}
theorem CP (l:List Str):deps (l.map .str)=0:=by
 induction l with
 | nil=>rfl
 | cons x l ih=>show max 0 (deps (l.map .str))=0;rw [ih];rfl
theorem strs_map (l:List Str):strsOf (l.map .str)=some l:=by
 induction l with
 | nil=>rfl
 | cons x l ih=>show (strsOf (l.map .str)).map (x::·)=_;rw [ih];rfl
theorem IG (x:Str) (fs:List Str):inD (.str x) (fs.map .str)=fs.any λw=>w == x:=by unfold inD;rw [Zy];congr 1
theorem Fw (neg:Bool) (x:Str) (l:List Str){r:R}(hr:iz r=.ok (l.map .str)):ie neg (.d (.str x)) r=.ok (.d (.bl (if neg then !(l.any λw=>w == x) else l.any λw=>w == x))):=by unfold ie;rw [hr,aK,if_pos ⟨by rw [CP];omega,S5 _⟩];show M.ok (R.d (.bl (if neg=true then !inD (.str x) (l.map .str) else inD (.str x) (l.map .str))))=_;rw [IG]
theorem cU {g:G R}{env:Ev}{b:Bool}(h:g env=.ok (.d (.bl b))):aT g env=.ok b:=by show (g env >>= _)=_;rw [h];rfl
theorem zw (x:Str) (l:List Str):(l.any λw=>w == x)=true↔x∈l:=by
 rw [VE];constructor
 ·rintro ⟨w,h1,h2⟩;rw [<-beq_iff_eq.mp h2];exact h1
 ·exact λh=>⟨x,h,beq_self_eq_true x⟩
theorem Ic {ge:G R}{env:Ev}{x:Str}(h:ge env=.ok (.d (.str x))) (hx:isLet x=true):sS ge env=.ok ([.str x],env):=by unfold sS;rw [h,aK];show (if isLet x=true then M.ok ([D.str x],env) else .bad)=_;rw [if_pos hx]
theorem K3 {act:Ev->M (List D×Ev)}{gts:G Bool}{α:Type}{p:α->Bool}{h f:α->D}{rest:Ev}:∀(ys:List α),(∀y∈ys,gts (some (.d (h y))::rest)=.ok (p y)/\(p y=true->act (some (.d (h y))::rest)=.ok ([f y],some (.d (h y))::rest)))->∀z:Option S,∃z',b_ (aH 0) gts act (ys.map h) (z::rest)=.ok ((ys.filter p).map f,z'::rest)
 | [],_,z=>⟨z,rfl⟩
 | y::ys,H,z=>by
  obtain ⟨z',ih⟩:=K3 ys (λy hy=>H y (Ss _ hy)) (some (.d (h y)));obtain ⟨h1,h2⟩:=H y Sv;refine ⟨z',?_⟩;rw [S4];unfold b_;show (gts (some (.d (h y))::rest) >>= _)=_;rw [h1,aK,abk];cases q:p y with
  | false=>exact ih
  | true=>
   show (act (some (.d (h y))::rest) >>= _)=_;rw [h2 q,aK];show (b_ (aH 0) gts act (ys.map h) (some (.d (h y))::rest) >>= _)=_;rw [ih];rfl
theorem O4 {env:Ev}{cap:List Nat}{gi:G (List D)}{gts:G Bool}{xs:List Str}(p:Str->Bool) (hi:gi env=.ok (xs.map .str)) (hl:xs.length<=10000)
  (H:∀x∈xs,gts (some (.d (.str x))::cE 0 cap env)=.ok (p x)/\isLet x=true):vN 1 cap gi (aH 0) gts (af 0) env=.ok (xs.filter p):=by obtain ⟨z,e⟩:=K3 (α:=Str) (gts:=gts) (p:=p) (act:=sS (af 0)) (h:=D.str) (f:=D.str) (rest:=cE 0 cap env) xs (λx hx=>⟨(H x hx).1,λ_=>Ic rfl (H x hx).2⟩) none;unfold vN jf;rw [hi,aK,if_pos (by rw [So];exact hl)];show (b_ (aH 0) gts (sS (af 0)) (xs.map .str) (none::cE 0 cap env) >>= _)=_;rw [e];show M.ok (yH ((xs.filter p).map .str))=_;rw [yI]
def jn (l:List Str):List Str:=fB (fY l)
theorem fG {x:Str}{l:List Str}:x∈jn l↔x∈l:=(gH _).mem_iff.trans (iQ l x)
theorem xm {l:List Str}(h:∀x∈l,isLet x=true):(fY l).length<=26:=zX (qN l) λx hx=>h x ((iQ l x).mp hx)
theorem Av {l:List Str}(h:∀x∈l,isLet x=true):(jn l).length<=26:=by have:=xm h;unfold jn;rw [(gH _).length_eq];exact this
theorem Au {g:G (List Str)}{env:Ev}{l:List Str}(h:g env=.ok l) (hl:∀x∈l,isLet x=true):lg g env=.ok (.l .fresh ((jn l).map .str)):=by unfold lg;rw [h,aK,if_pos (UX (xm hl) (by decide))];rfl
noncomputable def bQ:Nat->D->List Str
 | 0,_=>[]
 | n + 1,d=>if (bnd d).isEmpty then jn (eS d++(wit d).flatMap (bQ n)) else jn (((wit d).flatMap (bQ n)).filter λx=>!((eS d).any λw=>w == x))
theorem I_ (h:Sy A B L k d):(eS d).length<=2:=by cases h <;> exact SS rfl
variable (hL:∀x∈L,isLet x=true)
include hL
theorem tQ (h:Sy A B L k d):∀x∈eS d,isLet x=true:=λx hx=>hL x (iX h x hx)
theorem jD:∀(n:Nat){k:Nat}{d:D},Sy A B L k d->∀x∈bQ n d,isLet x=true
 | 0,_,_,_,x,hx=>by cases hx
 | n + 1,k,d,h,x,hx=>by
  obtain ⟨j,rfl⟩:=cX h;have inner:∀x∈(wit d).flatMap (bQ n),isLet x=true:=λx hx=>by obtain ⟨s,hs,hx⟩:=U1.mp hx;exact jD n (dO h s hs) x hx
  unfold bQ at hx;split at hx
  ·rcases Tc.mp (fG.mp hx) with hx | hx
   ·exact tQ hL h x hx
   ·exact inner x hx
  ·exact inner x ((VS.mp (fG.mp hx)).1)
theorem k_ (n:Nat) (h:Sy A B L k d):(bQ n d).length<=26:=by
 cases n with
 | zero=>exact S5 _
 | succ n=>
  obtain ⟨j,rfl⟩:=cX h;have inner:∀x∈(wit d).flatMap (bQ n),isLet x=true:=λx hx=>by obtain ⟨s,hs,hx⟩:=U1.mp hx;exact jD hL n (dO h s hs) x hx
  unfold bQ;split
  ·exact Av λx hx=>(Tc.mp hx).elim (tQ hL h x) (inner x)
  ·exact Av λx hx=>inner x (VS.mp hx).1
theorem qU {l:List D}(n:Nat) (h:∀s∈l,Sy A B L k s):(l.flatMap (bQ n)).length<=26 * l.length:=by
 induction l with
 | nil=>exact S5 _
 | cons s l ih=>
  have h1:=ih λx hx=>h x (Ss _ hx);have h2:=k_ hL n (h s Sv);rw [UP,SE,Ti];omega
theorem qo {inner:List Str}(h:Sy A B L k d) (hi:∀x∈inner,isLet x=true) (hn:inner.length<=2600):
  ju [.d d,.bor (inner.map .str)]=.ok (.l .fresh ((if (bnd d).isEmpty then jn (eS d++inner) else jn (inner.filter λx=>!((eS d).any λw=>w == x))).map .str)):=by
 have h2:=I_ h;refine eB (b9 (r:=.l .fresh ((eS d).map .str)) (x:=.own ((eS d).map .str)) (c1 (x:=.d d) (z:=.l .fresh ((eS d).map .str)) rfl (jb h)) rfl ?_);refine cu (jZ (KZ h) (λq=>?_) λq=>kQ ?_)
 ·have q:(bnd d).isEmpty=false:=by simpa using q
  rw [q];refine cC (r:=.l .fresh ((jn (inner.filter λx=>!((eS d).any λw=>w == x))).map .str)) (Au (O4 (xs:=inner) _ rfl (by omega) λx hx=>⟨cU (two (x:=.d (.str x)) (y:=.l .own ((eS d).map .str)) rfl rfl (Fw true x (eS d) rfl)),hi x hx⟩) λx hx=>hi x (VS.mp hx).1) rfl ?_;rfl
 ·have q:(bnd d).isEmpty=true:=by simpa using q
  rw [q];have hc:vJ (.l .own ((eS d).map .str)) (.l .bor (inner.map .str))=.ok (.l .fresh ((eS d++inner).map .str)):=by show (if ((eS d).map D.str).length + (inner.map D.str).length<=sizeLine then M.ok (R.l .fresh ((eS d).map D.str++inner.map D.str)) else .bad)=_;rw [if_pos (by rw [T_,So,So];omega),TZ]
  have hall:∀x∈eS d++inner,isLet x=true:=λx hx=>(Tc.mp hx).elim (tQ hL h x) (hi x);refine cC (r:=.l .fresh ((jn (eS d++inner)).map .str)) (Au (l:=eS d++inner) ?_ hall) rfl rfl;show (ah _ az _ >>= _)=_;rw [nt (two (x:=.l .own ((eS d).map .str)) (y:=.l .bor (inner.map .str)) rfl rfl hc),aK];show (fQ (.l .fresh ((eS d++inner).map .str)) >>= λxs=>(match strsOf xs with
   | some ss=>if (fY ss).length < 64 then M.ok ss else .bad
   | none=>.bad))=_
  show (match strsOf ((eS d++inner).map .str) with
   | some ss=>if (fY ss).length < 64 then M.ok ss else .bad
   | none=>.bad)=_
  rw [strs_map];show (if (fY (eS d++inner)).length < 64 then M.ok (eS d++inner) else .bad)=_;rw [if_pos (UX (xm hall) (by decide))]
end K12
namespace K12
open PySem PySem.Spec PyProof.Rows DL K01 WP
variable {A B L:List Str}{k:Nat}{d:D}
variable {A B L:List Str}{k:Nat}{d:D}
def fD (A B:List Str):D:=.tup [.tup (A.map .str),.tup (B.map .str)]
noncomputable def LN:D->Str
 | .tup (.str _::.str n::_)=>n
 | _=>YA
def ML (P:List Str) (d:D):Bool:=!cA (.str (wd d)) (.str "mark") || P.any λw=>w == LN d
def MK (Q:List Str) (d:D):Bool:=!cA (.str (wd d)) (.str "arrow") || Q.any λw=>w == LN d
theorem v7 (h:Sy A B L k d) (P Q:List Str):jv [.d d,.d (fD P Q)]=.ok (.d (.bl (ML P d && MK Q d))):=by
 cases h with
 | mark h1 h2=>
  rename_i n a;refine eB (cu (Br (r:=.d (fD P Q)) rfl rfl rfl (cu (gu rfl (cC (two (x:=.d (.str n)) (y:=.d (.tup (P.map .str))) rfl rfl (Fw false n P rfl)) rfl ?_)))));show O.rt (R.d (.bl (P.any λw=>w == n)))=.rt (.d (.bl ((P.any λw=>w == n) && true)));rw [Bool.and_true]
 | arrow h1 h2 h3=>
  rename_i n a b;exact eB (cu (Br (r:=.d (fD P Q)) rfl rfl rfl (cu (xQ rfl (kQ (cu (gu rfl (cC (two (x:=.d (.str n)) (y:=.d (.tup (Q.map .str))) rfl rfl (Fw false n Q rfl)) rfl rfl))))))))
 | _=>rfl
theorem sE (h:Sy A B L k d):(ML A d && MK B d)=true:=by
 cases h with
 | mark h1 h2=>exact congrArg (· && true) ((zw _ A).mpr h1)
 | arrow h1 h2 h3=>exact (zw _ B).mpr h1
 | _=>rfl
variable {A B L:List Str}{k:Nat}{d:D}
theorem qD {g h:G Bool}{env:Ev}{a b:Bool}(h1:g env=.ok a) (h2:a=true->h env=.ok b):bJ g h env=.ok (a && b):=by
 unfold bJ;rw [h1,aK];cases a with
 | true=>exact h2 rfl
 | false=>rfl
theorem l7 {g h:G Bool}{env:Ev}{a b:Bool}(h1:g env=.ok a) (h2:a=false->h env=.ok b):bX g h env=.ok (a || b):=by
 unfold bX;rw [h1,aK];cases a with
 | false=>exact h2 rfl
 | true=>rfl
theorem Ca (c:Int):∃L:List Str,gW [.d (.int c)]=.ok (.l .fresh (L.map .str))/\L.length=4/\∀x∈L,isLet x=true:=by
 refine ⟨(Sx 4).map λ(k:Nat)=>⟨#[97 + ((c + 7 * (k:Int)) % 26).toNat]⟩,eB (cC (r:=.l .fresh (((Sx 4).map λ(k:Nat)=>(⟨#[97 + ((c + 7 * (k:Int)) % 26).toNat]⟩:Str)).map .str)) ?_ rfl rfl),by simp,λx hx=>?_⟩
 ·rw [TF];exact pS (α:=Nat) (h:=dN) (λ(k:Nat)=>.str ⟨#[97 + ((c + 7 * (k:Int)) % 26).toNat]⟩) (Gw rfl (by decide)) (by simp) λk hk=>⟨_,WP.two rfl (WP.two (WP.two rfl (WP.two rfl rfl (mD 7 k (by decide) (by decide))) (dX _ _)) rfl (bN _ 26 (by decide))) (xK _ (by omega) (by omega)),rfl⟩
 ·obtain ⟨k,_,rfl⟩:=SD.mp hx;unfold isLet;show (decide (97<=97 + ((c + 7 * (k:Int)) % 26).toNat) && decide (97 + ((c + 7 * (k:Int)) % 26).toNat < 123))=true;rw [SI,decide_eq_true_eq,decide_eq_true_eq];omega
theorem jh {m:Md}{L:List Str}(i:Int) (h0:0<=i) (hi:i < L.length):∃x∈L,aV (.l m (L.map .str)) (.d (.int i))=.ok (.d (.str x)):=rJ (h:=D.str) _ rfl i h0 hi
theorem Ac (A:List Str):bZ true (.d (.tup (A.map .str))) (.d (.tup []))=.ok (.d (.bl (!A.isEmpty))):=by unfold bZ;rw [if_pos ⟨by show deps (A.map .str) + 1<=60;rw [CP];decide,by show 0 + 1<=60;decide⟩];cases A <;> rfl
theorem Kr (n:Int) (h4:L.length=4) (hA:A.length<=1000) (hB:B.length<=1000):∃s,gF [.d (.int n),.d (fD A B),.bor (L.map .str)]=.ok (.d s)/\Sy A B L 1 s/\dep s<=2/\(c7 1 s).length<=1:=by
 obtain ⟨a,ha,ea⟩:=jh (m:=.bor) (L:=L) (n / 3 % 4) (by omega) (by omega);obtain ⟨b,hb,eb⟩:=jh (m:=.bor) (L:=L) (n / 12 % 4) (by omega) (by omega);have key:Wp (gF [.d (.int n),.d (fD A B),.bor (L.map .str)]) λr=>∃s,r=.d s/\Sy A B L 1 s/\dep s<=2/\(c7 1 s).length<=1:=by
  refine sI (b9 (WP.two rfl (WP.two (WP.two rfl rfl (c_ n 3 (by decide) (by decide))) rfl (bN _ 4 (by decide))) ea) rfl (b9 (WP.two rfl (WP.two (WP.two rfl rfl (c_ n 12 (by decide) (by decide))) rfl (bN _ 4 (by decide))) eb) rfl ?_));refine cu (jZ (c:=(n % 3 == 0) && !A.isEmpty) (qD (cU (WP.two (WP.two rfl rfl (bN n 3 (by decide))) rfl (eq_int false _ _))) λ_=>cU (WP.two rfl rfl (Ac A))) (λq=>?_) λ_=>kQ (cu (jZ (c:=(n % 3 == 1) && !B.isEmpty) (qD (cU (WP.two (WP.two rfl rfl (bN n 3 (by decide))) rfl (eq_int false _ _))) λ_=>cU (WP.two rfl rfl (Ac B))) (λq=>?_) λ_=>kQ ?_)))
  ·have hp:0 < A.length:=by
    rw [SI] at q;cases A with
    | nil=>exact absurd q.2 (by decide)
    | cons x l=>exact Zw _
   obtain ⟨x,hx,ex⟩:=rJ (xs:=A) (h:=D.str) (.d (.tup (A.map .str))) rfl (n / 48 % A.length) (UC _ (by omega)) (UU _ (by omega));have el:eE [.d (.tup (A.map .str))]=.ok (.d (.int A.length)):=by show M.ok (R.d (.int ((A.map D.str).length:Nat)))=_;rw [So]
   exact cC (r:=.d (.tup [.str "mark",.str x,.str a])) (dh (aP rfl rfl (aP (WP.two rfl (WP.two (WP.two rfl rfl (c_ n 48 (by decide) (by decide))) (n1 rfl el) (bN _ _ (by omega))) ex) rfl (aP rfl rfl bY))) (SS rfl)) rfl ⟨_,rfl,.tup [.str "mark",.str x,.str a],rfl,.mark hx ha,by show 0 + 1<=2;decide,Sw 1⟩
  ·have hp:0 < B.length:=by
    rw [SI] at q;cases B with
    | nil=>exact absurd q.2 (by decide)
    | cons x l=>exact Zw _
   obtain ⟨x,hx,ex⟩:=rJ (xs:=B) (h:=D.str) (.d (.tup (B.map .str))) rfl (n / 48 % B.length) (UC _ (by omega)) (UU _ (by omega));have el:eE [.d (.tup (B.map .str))]=.ok (.d (.int B.length)):=by show M.ok (R.d (.int ((B.map D.str).length:Nat)))=_;rw [So]
   exact cC (r:=.d (.tup [.str "arrow",.str x,.str a,.str b])) (dh (aP rfl rfl (aP (WP.two rfl (WP.two (WP.two rfl rfl (c_ n 48 (by decide) (by decide))) (n1 rfl el) (bN _ _ (by omega))) ex) rfl (aP rfl rfl (aP rfl rfl bY)))) (SS rfl)) rfl ⟨_,rfl,.tup [.str "arrow",.str x,.str a,.str b],rfl,.arrow hx ha hb,by show 0 + 1<=2;decide,Sw 1⟩
  ·exact cC (r:=.d (.tup [.str "same",.str a,.str b])) (dh (aP rfl rfl (aP rfl rfl (aP rfl rfl bY))) (SS rfl)) rfl ⟨_,rfl,.tup [.str "same",.str a,.str b],rfl,.same ha hb,by show 0 + 1<=2;decide,Sw 1⟩
 obtain ⟨r,e,s,rfl,h⟩:=key;exact ⟨s,e,h⟩
variable {A B L:List Str}
abbrev Ent:=Nat×D×Int×Int
abbrev ent (p:Ent):D:=.tup [p.2.1,.int p.2.2.1,.int p.2.2.2]
structure gI (A B L:List Str) (n:Nat) (s:D):Prop where
 pos:1<=n
 sy:Sy A B L n s
 dp:dep s<=n + 1
 len:(c7 n s).length<=n
theorem gI.wrap {n:Nat}{s d:D}(h:gI A B L n s) (hw:wit d=[s]) (hy:Sy A B L (n + 1) d) (hd:dep d<=dep s + 1):gI A B L (n + 1) d where
 pos:=by omega
 sy:=hy
 dp:=by have:=h.dp;omega
 len:=by show (d::(wit d).flatMap (c7 n)).length<=n + 1;rw [hw,Ti,UP,List.flatMap_nil,UB];have:=h.len;omega
theorem Iv (a b:D) (ha:dep a=0):dep (.tup [a,b])<=dep b + 1:=by simp [dep,deps,ha]
theorem CN (a b c:D) (ha:dep a=0) (hb:dep b=0):dep (.tup [a,b,c])<=dep c + 1:=by simp [dep,deps,ha,hb]
theorem Fd (a b c e:D) (ha:dep a=0) (hb:dep b=0) (hc:dep c=0):dep (.tup [a,b,c,e])<=dep e + 1:=by simp [dep,deps,ha,hb,hc]
theorem Cc (n:Int) (h4:L.length=4){p:Ent}(hp:gI A B L p.1 p.2.1):∃q:Ent,gf [.d (.int n),.bor (L.map .str),.d (ent p)]=.ok (.d (ent q))/\gI A B L q.1 q.2.1/\q.1=p.1 + 1:=by
 obtain ⟨m,s,a,b⟩:=p;obtain ⟨x,hx,ex⟩:=jh (m:=.bor) (L:=L) (n / 5 % 4) (by omega) (by omega);have hp:gI A B L m s:=hp;have hy:=hp.sy;obtain ⟨xs,rfl⟩:=hy.tup;have key:Wp (gf [.d (.int n),.bor (L.map .str),.d (ent (m,.tup xs,a,b))]) λr=>∃q:Ent,r=.d (ent q)/\gI A B L q.1 q.2.1/\q.1=m + 1:=by
  refine sI (BS (d:=ent (m,.tup xs,a,b)) rfl rfl rfl (b9 (WP.two rfl (WP.two (WP.two rfl rfl (c_ n 5 (by decide) (by decide))) rfl (bN _ 4 (by decide))) ex) rfl (cu (jZ (c:=(n % 5 == 0) || decide (2 < a)) (l7 (cU (WP.two (WP.two rfl rfl (bN n 5 (by decide))) rfl (eq_int false _ _))) λ_=>rfl) (λ_=>?_) λ_=>kQ (cu (jZ (c:=n % 5 == 4) (cU (WP.two (WP.two rfl rfl (bN n 5 (by decide))) rfl (eq_int false _ _))) (λ_=>?_) λ_=>kQ ?_))))))
  ·exact cC (r:=.d (ent (m + 1,.tup [.str "not",.tup xs],a,b + 1))) (dh (aP (dh (aP rfl rfl (aP rfl rfl bY)) (SS rfl)) rfl (aP rfl rfl (aP (WP.two rfl rfl (dX _ _)) rfl bY))) (SS rfl)) rfl ⟨_,rfl,(m + 1,.tup [.str "not",.tup xs],a,b + 1),rfl,hp.wrap rfl (.not hy) (Iv _ _ rfl),rfl⟩
  ·obtain ⟨v,hv,ev⟩:=rJ (xs:=[(9:Int),3]) (h:=D.int) (.l .fresh [.int 9,.int 3]) rfl (n / 200 % 2) (by omega) (by show _ < 2;omega);have v0:0 < v:=by
    rcases SN.mp hv with rfl | hv
    ·decide
    ·rw [Su.mp hv];decide
   exact cC (r:=.d (ent (m + 1,.tup [.str "least",.int (1 + n / 20 % v),.str x,.tup xs],a + 1,b + 1))) (dh (aP (dh (aP rfl rfl (aP (WP.two rfl (WP.two (WP.two rfl rfl (c_ n 20 (by decide) (by decide))) (WP.two (gU (aP rfl rfl (aP rfl rfl bY)) (SS rfl)) (WP.two (WP.two rfl rfl (c_ n 200 (by decide) (by decide))) rfl (bN _ 2 (by decide))) ev) (bN _ v v0)) (dX _ _)) rfl (aP rfl rfl (aP rfl rfl bY)))) (SS rfl)) rfl (aP (WP.two rfl rfl (dX _ _)) rfl (aP (WP.two rfl rfl (dX _ _)) rfl bY))) (SS rfl)) rfl ⟨_,rfl,(m + 1,.tup [.str "least",.int (1 + n / 20 % v),.str x,.tup xs],a + 1,b + 1),rfl,hp.wrap rfl (.least (by have:=UC (n / 20) (show v≠0 by omega);omega) hx hy) (Fd _ _ _ _ rfl rfl rfl),rfl⟩
  ·obtain ⟨v,hv,ev⟩:=jh (m:=.fresh) (L:=["some","every"]) (n % 2) (by omega) (by show _ < 2;omega);refine cC (r:=.d (ent (m + 1,.tup [.str v,.str x,.tup xs],a + 1,b + 1))) (dh (aP (dh (aP (WP.two (gU (aP rfl rfl (aP rfl rfl bY)) (SS rfl)) (WP.two rfl rfl (bN n 2 (by decide))) ev) rfl (aP rfl rfl (aP rfl rfl bY))) (SS rfl)) rfl (aP (WP.two rfl rfl (dX _ _)) rfl (aP (WP.two rfl rfl (dX _ _)) rfl bY))) (SS rfl)) rfl ⟨_,rfl,(m + 1,.tup [.str v,.str x,.tup xs],a + 1,b + 1),rfl,hp.wrap rfl ?_ (CN _ _ _ rfl rfl),rfl⟩;rcases SN.mp hv with rfl | hv
   ·exact .some hx hy
   ·rw [Su.mp hv];exact .every hx hy
 obtain ⟨r,e,q,rfl,h⟩:=key;exact ⟨q,e,h⟩
noncomputable def dI:List Ent->Nat
 | []=>0
 | p::l=>p.1 + dI l
theorem ug (l m:List Ent):dI (l++m)=dI l + dI m:=by
 induction l with
 | nil=>exact (ZF _).symm
 | cons p l ih=>show p.1 + dI (l++m)=p.1 + dI l + dI m;rw [ih];omega
theorem Ay {st:List Ent}(h:∀p∈st,gI A B L p.1 p.2.1):st.length<=dI st:=by
 induction st with
 | nil=>exact Sw _
 | cons p l ih=>
  have h1:=ih λx hx=>h x (Ss _ hx);have h2:=(h p Sv).pos;show l.length + 1<=p.1 + dI l;omega
theorem Ab {st:List Ent}(h:∀p∈st,gI A B L p.1 p.2.1):∀p∈st,p.1 + st.length<=dI st + 1:=by
 induction st with
 | nil=>exact λp hp=>by cases hp
 | cons q l ih=>
  intro p hp;have hl:∀p∈l,gI A B L p.1 p.2.1:=λx hx=>h x (Ss _ hx);have h2:=(h q Sv).pos;show p.1 + (l.length + 1)<=q.1 + dI l + 1;rcases SN.mp hp with rfl | hp
  ·have:=Ay hl;omega
  ·have:=ih hl p hp;omega
theorem Lu (f:Ent->Int) (l:List Ent):intsOf (l.map λx=>.int (f x))=some (l.map f):=by
 induction l with
 | nil=>rfl
 | cons x l ih=>
  show (intsOf (l.map λx=>.int (f x))).map (f x::·)=_;rw [ih];rfl
theorem Aa {g:G R}{env:Ev}{st:List Ent}{f:Ent->Int}(h:g env=.ok (.l .fresh (st.map λp=>.int (f p)))):qX 0 g env=.ok (.d (.int (kR 0 (st.map f)))):=by
 unfold qX;rw [h,aK];show (match intsOf (st.map λp=>.int (f p)) with
  | some ns=>M.ok (R.d (.int (kR 0 ns)))
  | none=>.bad)=_
 rw [Lu]
theorem zJ {l:List D}{n:Nat}(h:∀d∈l,dep d<=n):deps l<=n:=by
 induction l with
 | nil=>exact S5 _
 | cons d l ih=>
  show max (dep d) (deps l)<=n;exact Nat.max_le.mpr ⟨h d Sv,ih λx hx=>h x (Ss _ hx)⟩
theorem FN {st:List Ent}(h:∀p∈st,gI A B L p.1 p.2.1){N:Nat}(hN:∀p∈st,p.1<=N):((st.map λp=>p.2.1).flatMap (c7 N)).length<=dI st:=by
 induction st with
 | nil=>exact S5 _
 | cons p l ih=>
  have h1:=ih (λx hx=>h x (Ss _ hx)) λx hx=>hN x (Ss _ hx);have h2:=h p Sv;have h3:=tY h2.sy (hN p Sv);have h4:=h2.len;show ((p.2.1::l.map λp=>p.2.1).flatMap (c7 N)).length<=p.1 + dI l;rw [UP,SE,h3];omega
theorem uJ {st:List Ent}(h:∀p∈st,gI A B L p.1 p.2.1) (h1:st.length≠1) (hl:st.length<=100){v:Str}(hv:v="and"\/v="or"):gI A B L (dI st + 1) (.tup [.str v,.tup (st.map λp=>p.2.1)]):=by
 have hm:∀p∈st,p.1 + 1<=dI st:=λp hp=>by have:=Ab h p hp;have:0 < st.length:=List.length_pos_of_mem hp;omega
 have RB:∀s∈st.map λp=>p.2.1,Sy A B L (dI st) s:=λs hs=>by obtain ⟨p,hp,rfl⟩:=SD.mp hs;exact (h p hp).sy.up (by have:=hm p hp;omega)
 have hw:wit (.tup [.str v,.tup (st.map λp=>p.2.1)])=st.map λp=>p.2.1:=by rcases hv with rfl | rfl <;> rfl
 refine ⟨by omega,?_,?_,?_⟩
 ·rcases hv with rfl | rfl
  ·exact .and RB (by rw [So];exact hl)
  ·exact .or RB (by rw [So];exact hl)
 ·have:deps (st.map λp=>p.2.1)<=dI st:=zJ λs hs=>by obtain ⟨p,hp,rfl⟩:=SD.mp hs;have:=(h p hp).dp;have:=hm p hp;omega
  simp [dep,deps];omega
 ·show (_::(wit _).flatMap (c7 (dI st))).length<=_;rw [hw,Ti];have:=FN h (N:=dI st) λp hp=>by have:=hm p hp;omega
  omega
theorem v5 (n:Int){st:List Ent}(h:∀p∈st,gI A B L p.1 p.2.1) (hl:st.length<=100):∃q:Ent,fT [.d (.int n),.bor (st.map ent)]=.ok (.d (ent q))/\gI A B L q.1 q.2.1/\q.1<=dI st + 1:=by
 have key:Wp (fT [.d (.int n),.bor (st.map ent)]) λr=>∃q:Ent,r=.d (ent q)/\gI A B L q.1 q.2.1/\q.1<=dI st + 1:=by
  refine sI (b9 (r:=.d (.tup (st.map λp=>p.2.1))) (n1 (pS (α:=Ent) (xs:=st) (h:=ent) (λp=>p.2.1) rfl (by omega) λp hp=>⟨_,rfl,rfl⟩) rfl) rfl ?_);refine b9 (Aa (f:=λp=>p.2.2.1) (pS (α:=Ent) (xs:=st) (h:=ent) (λp=>.int p.2.2.1) rfl (by omega) λp hp=>⟨_,rfl,rfl⟩)) rfl ?_;refine b9 (Aa (f:=λp=>p.2.2.2) (pS (α:=Ent) (xs:=st) (h:=ent) (λp=>.int p.2.2.2) rfl (by omega) λp hp=>⟨_,rfl,rfl⟩)) rfl ?_;have el:eE [.l .bor (st.map ent)]=.ok (.d (.int st.length)):=by show M.ok (R.d (.int ((st.map ent).length:Nat)))=_;rw [So]
  refine cu (jZ (c:=((st.length:Int) == 1)) (cU (WP.two (n1 rfl el) rfl (eq_int false _ _))) (λq=>?_) λq=>kQ ?_)
  ·have q:st.length=1:=by have:=beq_iff_eq.mp q;omega
   match st,q,h with
   | [p],_,h=>exact cC (r:=.d (ent p)) (WP.two (x:=.l .bor [ent p]) rfl rfl rfl) rfl ⟨_,rfl,p,rfl,h p Sv,by show p.1<=p.1 + 0 + 1;omega⟩
  ·have q:st.length≠1:=λz=>by rw [z] at q;cases q
   obtain ⟨v,hv,ev⟩:=jh (m:=.fresh) (L:=["and","or"]) (n % 2) (by omega) (by show _ < 2;omega);have hv:v="and"\/v="or":=by
    rcases SN.mp hv with rfl | hv
    ·exact .inl rfl
    ·exact .inr (Su.mp hv)
   exact cC (r:=.d (ent (dI st + 1,.tup [.str v,.tup (st.map λp=>p.2.1)],kR 0 (st.map λp=>p.2.2.1),kR 0 (st.map λp=>p.2.2.2) + 1))) (dh (aP (dh (aP (WP.two (gU (aP rfl rfl (aP rfl rfl bY)) (SS rfl)) (WP.two rfl rfl (bN n 2 (by decide))) ev) rfl (aP rfl rfl bY)) (SS rfl)) rfl (aP rfl rfl (aP (WP.two rfl rfl (dX _ _)) rfl bY))) (SS rfl)) rfl ⟨_,rfl,(dI st + 1,.tup [.str v,.tup (st.map λp=>p.2.1)],kR 0 (st.map λp=>p.2.2.1),kR 0 (st.map λp=>p.2.2.2) + 1),rfl,uJ h q hl hv,Sw _⟩
 obtain ⟨r,e,q,rfl,h⟩:=key;exact ⟨q,e,h⟩
variable {A B L:List Str}
theorem E7 (xs:List D) (m:Nat) (hm:0 < m):cutD xs none (some (-(m:Int)))=xs.take (xs.length - m):=by
 unfold DL.cutD;rw [HT.qe];have e:HT.bF xs.length xs.length (some (-(m:Int)))=xs.length - m:=by show (if -(m:Int) < 0 then (-(m:Int) + (xs.length:Int)).toNat else min (-(m:Int)).toNat xs.length)=_;rw [if_pos (by omega)];omega
 rw [e,ZZ,Nat.sub_zero]
theorem E9 (xs:List D) (m:Nat) (hm:0 < m):cutD xs (some (-(m:Int))) none=xs.drop (xs.length - m):=by
 unfold DL.cutD;rw [HT.qe];have e:HT.bF xs.length 0 (some (-(m:Int)))=xs.length - m:=by show (if -(m:Int) < 0 then (-(m:Int) + (xs.length:Int)).toNat else min (-(m:Int)).toNat xs.length)=_;rw [if_pos (by omega)];omega
 rw [e];exact W6 (by rw [UY];omega)
theorem IP (m:Md) (ys:List D) (z:D):aV (.l m (ys++[z])) (.d (.int (-1)))=.ok (.d z):=by
 have e:L2.jP (ys++[z]) (-1)=some z:=by unfold L2.jP L2.xJ;simp;rw [if_pos (by omega),show (-1 + ((ys.length:Int) + 1)).toNat=ys.length by omega];simp
 show (match L2.jP (ys++[z]) (-1) with
  | some d=>M.ok (R.d d)
  | none=>.bad)=_
 rw [e]
theorem wZ (xs ys:List D) (h:xs.length + ys.length<=1000):bG (.l .fresh xs) (.l .fresh ys)=.ok (.l .fresh (xs++ys)):=by show (if xs.length + ys.length<=sizeLine then M.ok (R.l .fresh (xs++ys)) else .bad)=_;rw [if_pos (by rw [T_];omega)]
structure jN (A B L:List Str) (k:Nat) (st:List Ent):Prop where
 ok:∀p∈st,gI A B L p.1 p.2.1
 sum:dI st<=k
theorem jN.len {k:Nat}{st:List Ent}(h:jN A B L k st):st.length<=k:=Tw (Ay h.ok) h.sum
theorem jN.push {k:Nat}{st:List Ent}(h:jN A B L k st){q:Ent}(hq:gI A B L q.1 q.2.1) (h1:q.1<=1):jN A B L (k + 1) (st++[q]) where
 ok p hp:=by
  rcases Tc.mp hp with hp | hp
  ·exact h.ok p hp
  ·rw [Su.mp hp];exact hq
 sum:=by rw [ug];have:=h.sum;show dI st + (q.1 + 0)<=k + 1;omega
theorem jN.swap {k c:Nat}{st:List Ent}(h:jN A B L k st){q:Ent}(hq:gI A B L q.1 q.2.1) (h1:q.1<=dI (st.drop c) + 1):jN A B L (k + 1) (st.take c++[q]) where
 ok p hp:=by
  rcases Tc.mp hp with hp | hp
  ·exact h.ok p (List.mem_of_mem_take hp)
  ·rw [Su.mp hp];exact hq
 sum:=by
  have e:dI st=dI (st.take c) + dI (st.drop c):=by rw [<-ug,VI]
  rw [ug];have:=h.sum;show dI (st.take c) + (q.1 + 0)<=k + 1;omega
theorem ne_nil {k:Nat}{l:List Ent}{p:Ent}(h:jN A B L k (l++[p])) (hk:k<=56):bZ false (.l .own ((l++[p]).map ent)) (.l .fresh [])=.ok (.d (.bl false)):=by
 have hd:dep (.lst ((l++[p]).map ent))<=60:=by
  have:deps ((l++[p]).map ent)<=59:=zJ λd hd=>by
   obtain ⟨q,hq,rfl⟩:=SD.mp hd;have h1:=(h.ok q hq).dp;have h2:=Ab h.ok q hq;have h3:=h.sum;have:dep (ent q)<=dep q.2.1 + 1:=by simp [dep,deps]
   rw [SE] at h2;have:[p].length=1:=rfl;omega
  show deps ((l++[p]).map ent) + 1<=60;omega
 unfold bZ;rw [if_pos ⟨hd,by show 0 + 1<=60;decide⟩];cases l <;> rfl
theorem Kc {v:Str}(hv:v="and"\/v="or"):gI A B L 1 (.tup [.str v,.tup []]):=uJ (st:=[]) (λp hp=>by cases hp) (by decide) (by decide) hv
theorem zf {cs:List Int}(hc:cs.length<=56) (h4:L.length=4) (hA:A.length<=1000) (hB:B.length<=1000):∃q:Ent,gQ [.bor (cs.map .int),.d (fD A B),.bor (L.map .str)]=.ok (.d q.2.1)/\gI A B L q.1 q.2.1/\q.1<=57:=by
 have key:Wp (gQ [.bor (cs.map .int),.d (fD A B),.bor (L.map .str)]) λr=>∃q:Ent,r=.d q.2.1/\gI A B L q.1 q.2.1/\q.1<=57:=by
  have el:eE [.l .bor (cs.map .int)]=.ok (.d (.int cs.length)):=by show M.ok (R.d (.int ((cs.map D.int).length:Nat)))=_;rw [So]
  refine sI (b9 (r:=.l .fresh []) (x:=.own []) (gU bY (S5 _)) rfl (kE (Gw (n:=cs.length) (nt (n1 rfl el)) (by omega)) (sJ (λk e=>∃st y4 y5 y6 y7 y8,e=[some (.bor (cs.map .int)),some (.d (fD A B)),some (.bor (L.map .str)),some (.own (st.map ent)),y4,y5,y6,y7,y8]/\jN A B L k st) _ ⟨[],none,none,none,none,none,rfl,⟨(λp hp=>by cases hp),Sw 0⟩⟩ ?_ ?_)))
  ·rintro k hk e ⟨st,y4,y5,y6,y7,y8,rfl,ok⟩;rw [So,Th] at hk;refine ⟨[some (.bor (cs.map .int)),some (.d (fD A B)),some (.bor (L.map .str)),some (.own (st.map ent)),some (.d (dN k)),y5,y6,y7,y8],by rw [Y7,aaA];rfl,?_⟩;have ec:aV (.l .bor (cs.map .int)) (.d (dN k))=.ok (.d (.int cs[k])):=lR (by rw [S3,SH hk];rfl);generalize hN:(cs[k] % 18446744073709551616 + 613 * (k:Int)) * 71993 % 998244353=N;have sl:=ok.len;refine b9 (r:=.d (.int N)) (x:=.d (.int N)) (hN▸WP.two (WP.two (WP.two (WP.two (WP.two rfl rfl ec) (WP.two rfl rfl uh) (bN _ _ (by decide))) (WP.two rfl rfl (mD 613 k (by decide) (by decide))) (dX _ _)) rfl (lJ _ 71993 (by decide) (by decide))) rfl (bN _ 998244353 (by decide))) rfl ?_;refine b9 (r:=.d (.int (N % 7))) (x:=.d (.int (N % 7))) (WP.two rfl rfl (bN N 7 (by decide))) rfl (b9 (r:=.d (.int (N / 7))) (x:=.d (.int (N / 7))) (WP.two rfl rfl (c_ N 7 (by decide) (by decide))) rfl ?_);generalize N % 7=w;generalize N / 7=r;have push:∀y8:Option S,Wp (dG 3 (bV (aq (gN (aE 3 K12.gF) (ah (af 7) (ah (af 1) (ah (af 2) az)))) (aq (gC (.int 0)) (aq (gC (.int 0)) aI)))) [some (.bor (cs.map .int)),some (.d (fD A B)),some (.bor (L.map .str)),some (.own (st.map ent)),some (.d (dN k)),some (.d (.int N)),some (.d (.int w)),some (.d (.int r)),y8]) λo=>∃e,o=.nx e/\∃st y4 y5 y6 y7 y8,e=[some (.bor (cs.map .int)),some (.d (fD A B)),some (.bor (L.map .str)),some (.own (st.map ent)),y4,y5,y6,y7,y8]/\jN A B L (k + 1) st:=λy8=>by obtain ⟨s,es,h1,h2,h3⟩:=Kr (A:=A) (B:=B) (L:=L) r h4 hA hB;refine xP (xs:=st.map ent) (d:=ent (1,s,0,0)) rfl (dh (aP (c3 (x:=.d (.int r)) (y:=.d (fD A B)) (w:=.l .bor (L.map .str)) (z:=.d s) rfl rfl rfl es) rfl (aP rfl rfl (aP rfl rfl bY))) (SS rfl)) rfl (by rw [So];omega) ⟨_,rfl,st++[(1,s,0,0)],some (.d (dN k)),some (.d (.int N)),some (.d (.int w)),some (.d (.int r)),y8,?_,ok.push (q:=(1,s,0,0)) ⟨Sw 1,h1,h2,h3⟩ (Sw 1)⟩;rw [TZ];rfl
   rcases ZK st with rfl | ⟨l,p,rfl⟩
   ·exact gu rfl (push y8)
   rw [ZL] at ok sl push ⊢;have e0:=ne_nil ok (by omega);have hp:=ok.ok p (by simp);have mp:(l++[p]).map ent=l.map ent++[ent p]:=by rw [TZ];rfl
   have lp:(l++[p]).length=l.length + 1:=by rw [SE];rfl
   have ei:aV (.l .own ((l++[p]).map ent)) (.d (.int (-1)))=.ok (.d (ent p)):=by rw [mp];exact IP _ _ _
   refine jZ (c:=false || (decide (w < 3) || decide (11 < p.2.2.2))) (l7 (cU (WP.two rfl (gU bY (S5 _)) e0)) λ_=>l7 rfl λ_=>cU (WP.two (WP.two (WP.two rfl rfl ei) rfl rfl) rfl rfl)) (λ_=>push y8) λ_=>?_;have eL:eE [.l .own ((l++[p]).map ent)]=.ok (.d (.int ((l++[p]).length:Nat))):=by show M.ok (R.d (.int (((l++[p]).map ent).length:Nat)))=_;rw [So]
   refine jZ (c:=(w == 3) && decide (1 < (((l++[p]).length:Nat):Int))) (qD (cU (WP.two rfl rfl (eq_int false _ _))) λ_=>cU (WP.two (n1 rfl eL) rfl rfl)) (λ_=>?_) λ_=>?_
   ·obtain ⟨m,hm,em⟩:∃m:Nat,0 < m/\(2:Int) + r / 2 % 2=m:=⟨(2 + r / 2 % 2).toNat,by omega,by omega⟩;refine b9 (r:=.d (.int m)) (x:=.d (.int m)) (em▸WP.two rfl (WP.two (WP.two rfl rfl (c_ r 2 (by decide) (by decide))) rfl (bN _ 2 (by decide))) (dX _ _)) rfl ?_;have hdr:((l++[p]).map ent).drop (((l++[p]).map ent).length - m)=((l++[p]).drop ((l++[p]).length - m)).map ent:=by rw [So,WX]
    have htk:((l++[p]).map ent).take (((l++[p]).map ent).length - m)=((l++[p]).take ((l++[p]).length - m)).map ent:=by rw [So,WW]
    obtain ⟨q,eq,h1,h2⟩:=v5 (A:=A) (B:=B) (L:=L) r (st:=(l++[p]).drop ((l++[p]).length - m)) (λx hx=>ok.ok x (List.mem_of_mem_drop hx)) (by rw [UY];omega);refine vP (r:=.l .fresh (((l++[p]).take ((l++[p]).length - m)++[q]).map ent)) (x:=.own (((l++[p]).take ((l++[p]).length - m)++[q]).map ent)) (WP.two (x:=.l .fresh (((l++[p]).take ((l++[p]).length - m)).map ent)) (y:=.l .fresh [ent q]) ?_ (gU (aP (c2 (x:=.d (.int r)) (y:=.l .fresh (((l++[p]).drop ((l++[p]).length - m)).map ent)) (z:=.d (ent q)) rfl ?_ eq) rfl bY) (SS rfl)) ?_) rfl ⟨_,rfl,_,_,_,_,_,_,rfl,ok.swap h1 h2⟩
    ·show M.ok (R.l .fresh (cutD ((l++[p]).map ent) none (some (-(m:Int)))))=_;rw [E7 _ m hm,htk]
    ·show M.ok (R.l .fresh (cutD ((l++[p]).map ent) (some (-(m:Int))) none))=_;rw [E9 _ m hm,hdr]
    ·rw [wZ _ _ (by rw [So,UG];show _ + 1<=1000;omega),TZ];rfl
   refine jZ (c:=(w == 4) && (r % 4 == 0)) (qD (cU (WP.two rfl rfl (eq_int false _ _))) λ_=>cU (WP.two (WP.two rfl rfl (bN r 4 (by decide))) rfl (eq_int false _ _))) (λ_=>?_) λ_=>?_
   ·obtain ⟨v,hv,ev⟩:=jh (m:=.fresh) (L:=["and","or"]) (r / 4 % 2) (by omega) (by show _ < 2;omega);have hv:v="and"\/v="or":=by
     rcases SN.mp hv with rfl | hv
     ·exact .inl rfl
     ·exact .inr (Su.mp hv)
    refine xP (xs:=(l++[p]).map ent) (d:=ent (1,.tup [.str v,.tup []],0,0)) rfl (dh (aP (dh (aP (WP.two (gU (aP rfl rfl (aP rfl rfl bY)) (SS rfl)) (WP.two (WP.two rfl rfl (c_ r 4 (by decide) (by decide))) rfl (bN _ 2 (by decide))) ev) rfl (aP (dh bY (S5 _)) rfl bY)) (SS rfl)) rfl (aP rfl rfl (aP rfl rfl bY))) (SS rfl)) rfl (by rw [So];omega) ⟨_,rfl,(l++[p])++[(1,.tup [.str v,.tup []],0,0)],some (.d (dN k)),some (.d (.int N)),some (.d (.int w)),some (.d (.int r)),y8,?_,ok.push (q:=(1,.tup [.str v,.tup []],0,0)) (Kc hv) (Sw 1)⟩;rw [TZ (l₁:=l++[p])];rfl
   ·obtain ⟨q,eq,h1,h2⟩:=Cc (A:=A) (B:=B) (L:=L) r h4 hp;have sw:=ok.swap (c:=l.length) (q:=q) h1 (by rw [List.drop_left];show q.1<=p.1 + 0 + 1;omega);rw [List.take_left] at sw;refine vP (r:=.l .fresh ((l++[q]).map ent)) (x:=.own ((l++[q]).map ent)) (WP.two (x:=.l .fresh (l.map ent)) (y:=.l .fresh [ent q]) ?_ (gU (aP (c3 (x:=.d (.int r)) (y:=.l .bor (L.map .str)) (w:=.d (ent p)) (z:=.d (ent q)) rfl rfl (WP.two rfl rfl ei) eq) rfl bY) (SS rfl)) ?_) rfl ⟨_,rfl,_,_,_,_,_,_,rfl,sw⟩
    ·show M.ok (R.l .fresh (cutD ((l++[p]).map ent) none (some (-1))))=_;rw [mp,E8]
    ·rw [wZ _ _ (by rw [So];show _ + 1<=1000;omega),TZ];rfl
  ·rintro e ⟨st,y4,y5,y6,y7,y8,rfl,ok⟩;rw [So,Th] at ok;have sl:=ok.len;obtain ⟨q,eq,h1,h2⟩:=v5 (A:=A) (B:=B) (L:=L) (cs.length:Int) ok.ok (by omega);have:=ok.sum;exact cC (r:=.d q.2.1) (WP.two (c2 (x:=.d (.int cs.length)) (y:=.l .own (st.map ent)) (z:=.d (ent q)) (n1 rfl el) rfl eq) rfl rfl) rfl ⟨_,rfl,q,rfl,h1,by omega⟩
 obtain ⟨r,e,q,rfl,h⟩:=key;exact ⟨q,e,h⟩
variable {A B L:List Str}
end K12
namespace S6
open PySem PySem.Spec PyProof.Rows L2 DL
end S6
namespace S6
end S6
namespace S6
open PySem PySem.Spec PyProof.Rows L2 DL
end S6
namespace S6
open PySem PySem.Spec PyProof.Rows L2 DL
open PySem.W (kas_ask)
end S6
namespace DL
open PySem PySem.Spec PyProof.Rows L2 S6
end DL
namespace K23
open PySem DL K01 WP K51 K52 K55
theorem Bx (a b:Nat):fR (dN a) (dN b)=true↔a < b:=by rw [lB,decide_eq_true_eq];omega
theorem Nl (a b:Nat×Nat):fR (dP a) (dP b)=true↔rO a b:=by
 have e:fR (dP a) (dP b)=gP [dN a.1,dN a.2] [dN b.1,dN b.2]:=rfl;rw [e,iW,K55.zL];unfold rO;by_cases c:a.1=b.1
 ·rw [if_pos (by simpa using c),iW,K55.zL];by_cases c2:a.2=b.2
  ·rw [if_pos (by simpa using c2)];constructor
   ·intro h;cases h
   ·intro h;omega
  ·rw [if_neg (by simpa using c2)];rw [show fR (D.int a.2) (D.int b.2)=fR (dN a.2) (dN b.2) from rfl,Bx];omega
 ·rw [if_neg (by simpa using c)];rw [show fR (D.int a.1) (D.int b.1)=fR (dN a.1) (dN b.1) from rfl,Bx];omega
theorem EG {α:Type}(h:α->D) (u:D->α) (hu:∀x,u (h x)=x) (R:α->α->Prop) (hR:∀a b,fR (h a) (h b)=true->R a b){l:List D}(hl:∀d∈l,∃x,d=h x) (up:l.Pairwise λa b=>fR a b=true):(l.map u).Pairwise R:=by refine UN.mpr ((VJ.mp up).imp ?_);rintro a b ⟨ha,hb,h1⟩;obtain ⟨x,rfl⟩:=hl a ha;obtain ⟨y,rfl⟩:=hl b hb;rw [hu,hu];exact hR x y h1
structure KG (u:Wd):Prop where
 mp:∀r∈u.ms,r.2.Pairwise (· < ·)
 ap:∀r∈u.ar,r.2.Pairwise rO
theorem A_ {α:Type}{l:List α}(h:j < l.length):(l[j]::l.eraseIdx j).Perm l:=by
 have e2:l=l.take j++l[j]::l.drop (j + 1):=by rw [W7,VI]
 rw [U8];exact XA.symm.trans (Yc e2.symm)
theorem getD_at {ps:List Nat}(h:k < ps.length):ps.getD k 0=ps[k]:=by simp [YM,h]
theorem rL {α β:Type}{f:α->β}{xs:List α}(nd:xs.Nodup) (inj:∀a∈xs,∀b∈xs,f a=f b->a=b):(xs.map f).Nodup:=by refine UN.mpr ((VJ.mp nd).imp ?_);rintro a b ⟨ha,hb,h⟩ e;exact h (inj a ha b hb e)
theorem Nk {xs:List Nat}(h:xs.Pairwise (· < ·)):xs.Nodup:=h.imp λh e=>by omega
theorem DU {xs:List (Nat×Nat)}(h:xs.Pairwise rO):xs.Nodup:=h.imp fun {a b} h e=>by subst e;unfold rO at h;omega
theorem g_ {ps:List Nat}(pm:ps.Perm (Sx m)) (ha:a < m) (hb:b < m) (e:ps.getD a 0=ps.getD b 0):a=b:=by
 have l:ps.length=m:=by rw [pm.length_eq,Th]
 rw [getD_at (by omega),getD_at (by omega)] at e;exact (Xs (pm.nodup_iff.mpr WA)).mp e
theorem OZ {xs:List Nat}(nd:xs.Nodup):((bM (xs.map dN)).map iK).Pairwise (· < ·):=
 EG dN iK vU _ (λa b h=>(Bx a b).mp h) (λd hd=>by obtain ⟨x,_,rfl⟩:=SD.mp (kF hd);exact ⟨x,rfl⟩) (Aw (oK .i) (λd hd=>by obtain ⟨x,_,rfl⟩:=SD.mp hd;exact ⟨_,rfl⟩) (rL nd λa _ b _ e=>by have:=congrArg iK e;exact this))
theorem O0 {xs:List (Nat×Nat)}(nd:xs.Nodup):((bM (xs.map dP)).map jt).Pairwise rO:=
 EG dP jt vV _ (λa b h=>(Nl a b).mp h) (λd hd=>by obtain ⟨x,_,rfl⟩:=SD.mp (kF hd);exact ⟨x,rfl⟩) (Aw (oK pF) (λd hd=>by obtain ⟨x,_,rfl⟩:=SD.mp hd;exact xE x) (rL nd λa _ b _ e=>by have:=congrArg jt e;exact this))
theorem MU (w:Wd) (hw:Cr w) (n:Nat) (hb:Cd n w) (hs:KG w) (ps:List Nat) (pm:ps.Perm (Sx w.m)):Cr (fX w ps)/\Cd n (fX w ps)/\KG (fX w ps)/\(fX w ps).m=w.m/\(fX w ps).ms.map TJ=w.ms.map TJ/\(fX w ps).ar.map TJ=w.ar.map TJ:=by
 have l:ps.length=w.m:=by rw [pm.length_eq,Th]
 obtain ⟨h1,h2,h3,h4,h5⟩:=N2 w hw n hb ps l λp hp=>by simpa using pm.mem_iff.mp hp
 refine ⟨h1,h2,⟨λr hr=>?_,λr hr=>?_⟩,h3,?_,?_⟩
 ·obtain ⟨q,hq,rfl⟩:=SD.mp (show r∈w.ms.map _ from hr);exact OZ (rL (Nk (hs.mp q hq)) λa ha b hb' e=>g_ pm ((hb.mp q hq).2 a ha) ((hb.mp q hq).2 b hb') e)
 ·obtain ⟨q,hq,rfl⟩:=SD.mp (show r∈w.ar.map _ from hr);refine O0 (rL (DU (hs.ap q hq)) λa ha b hb' e=>?_);have ra:=(hb.ap q hq).2 a ha;have rb:=(hb.ap q hq).2 b hb';exact adx (g_ pm ra.1 rb.1 (congrArg TJ e)) (g_ pm ra.2 rb.2 (congrArg adD e))
 ·show (w.ms.map _).map _=_;rw [TF];rfl
 ·show (w.ar.map _).map _=_;rw [TF];rfl
theorem Ei {α:Type}(h:α->D) (u:D->α) (hu:∀x,u (h x)=x) (xs:List α) (y:α):y∈(bM (xs.map h)).map u↔y∈xs:=by
 constructor
 ·exact ue h u hu xs y
 ·intro hy;exact SD.mpr ⟨h y,(sD _).mem_iff.mpr (SD.mpr ⟨y,hy,rfl⟩),hu y⟩
end K23
namespace K03
open PySem DL
def oS:List Str:=["_law_number","_law_many","_law_left","_law_found","_law_k","_law_at"]
noncomputable def o8:G O:=(av (aN 2 (Hg (ah (af 1) az)))
 (av (aN 3 (eU aI))
 (av (fF (dD (ah (af 1) az)) (aH 4) (av (aN 5 (g2 bP (af 0) (gN eE (ah (af 2) az))))
 (av (aN 0 (g2 oi (g2 dF (af 0) (gC (.int 11))) (g2 cR (gC (.int 7)) (af 5))))
 (av (dG 3 (g2 aV (af 2) (af 5)))
 (aN 2 (g2 oi (nu jS (af 2) uE (mO (af 5))) (nu jS (af 2) (mO (g2 oi (af 5) (gC (.int 1)))) uE)))))))
 (aM (gN dW (ah (af 3) az))))))
def gR (as:List S):M R:=fin (o8 (aF oS as))
end K03
namespace K03
open PySem DL K01 WP K51 K52 K55 K23
theorem K7 (ls:List D) (j:Nat) (h:j < ls.length):cutD ls none (some (j:Int))=ls.take j:=by unfold cutD HT.bF;simp;rw [if_neg (by omega),abO (by omega)]
theorem K6 (ls:List D) (j:Nat) (h:j < ls.length):cutD ls (some ((j:Int) + 1)) none=ls.drop (j + 1):=by unfold cutD HT.bF;simp;rw [if_neg (by omega),abO (by omega)];exact W6 (by simp)
theorem Oz (xs ys:List D) (h:xs.length + ys.length<=1000):oi (.l .fresh xs) (.l .fresh ys)=.ok (.l .fresh (xs++ys)):=by unfold oi;exact K02.K2 xs ys h
theorem HX (c:Int) (m:Nat) (hm:m<=8):∃ps:List Nat,gR [.d (.int c),.d (.int m)]=.ok (.d (.tup (ps.map dN)))/\ps.Perm (Sx m):=by
 have key:Wp (gR [.d (.int c),.d (.int m)]) λr=>∃ps:List Nat,r=.d (.tup (ps.map dN))/\ps.Perm (Sx m):=by
  refine sI (b9 (r:=.l .fresh ((Sx m).map dN)) ?_ rfl (b9 rfl rfl (kE (BR (n:=m) rfl (by omega)) ?_)))
  ·show (if below 16777216 (m:Int) then M.ok (R.l .fresh (dH 0 (m:Int).toNat)) else .bad)=_;rw [if_pos (by unfold below;simp;omega),UM,MC]
  ·refine HQ (λk env=>∃(c:Int) (ls ps:List Nat) (x y:Option S),env=[some (.d (.int c)),some (.d (.int m)),some (.own (ls.map dN)),some (.own (ps.map dN)),x,y]/\ls.length + k=m/\ps.length=k/\(ps++ls).Perm (Sx m)) ⟨c,Sx m,[],none,none,rfl,by simp,rfl,.refl _⟩ ?_ ?_
   ·rintro k hk _ ⟨c,ls,ps,x,y,rfl,l1,l2,m1⟩;have hlen:(0:Int) < ((ls.map dN).length:Nat):=by simp;omega
    obtain ⟨j,hj⟩:∃j:Nat,c % ((ls.map dN).length:Nat)=j:=⟨(c % ((ls.map dN).length:Nat)).toNat,by have:=UC c (b:=((ls.map dN).length:Nat)) (by omega);omega⟩;have hjl:j < (ls.map dN).length:=by have:=UU c hlen;omega
    have QU:j < ls.length:=by simpa using hjl
    refine ⟨_,rfl,b9 (two rfl (n1 rfl rfl) ((bN _ _ hlen).trans (by rw [hj]))) rfl ?_⟩;refine b9 (two (two rfl rfl (c_ _ 11 (by decide) (by decide))) (two rfl rfl (mD 7 _ (by decide) (by decide))) rfl) rfl ?_;refine NH rfl (two rfl rfl (lR (k:=j) (x:=dN ls[j]) (by simp [QU]))) rfl (by simp;omega) ?_;refine vP (two (x:=.l .fresh ((ls.map dN).take j)) (y:=.l .fresh ((ls.map dN).drop (j + 1))) ?_ ?_ (Oz _ _ (by simp;omega))) rfl ⟨_,rfl,c / 11 + 7 * (j:Int),ls.eraseIdx j,ps++[ls[j]],some (.d (.int k)),some (.d (.int j)),?_,?_,?_,?_⟩
    ·show M.ok (R.l .fresh (cutD (ls.map dN) none (some (j:Int))))=_;rw [K7 _ _ hjl]
    ·show M.ok (R.l .fresh (cutD (ls.map dN) (some ((j:Int) + 1)) none))=_;rw [K6 _ _ hjl]
    ·rw [TZ,show (ls.eraseIdx j).map dN=(ls.map dN).take j++(ls.map dN).drop (j + 1) by simp [U8,WW,WX]];rfl
    ·rw [XI,if_pos QU];omega
    ·rw [SE];simp;omega
    ·rw [Xf,Wj];exact ((A_ QU).append_left ps).trans m1
   ·rintro _ ⟨c,ls,ps,x,y,rfl,l1,l2,m1⟩;have l0:ls=[]:=W0.mp (by omega);rw [l0,UB] at m1;exact cC rfl rfl ⟨_,rfl,ps,rfl,m1⟩
 obtain ⟨_,h,ps,rfl,hk⟩:=key;exact ⟨ps,h,hk⟩
structure Ok (w:Wd):Prop where
 ok:Cr w
 gT:Cd 64 w
 jn:KG w
 m8:∀r∈w.ms,r.2.length<=8
end K03
namespace L2
open PySem PySem.Spec PyProof.Rows
section
variable {κ:Type} [DecidableEq κ]
def c8 (Sh:List (κ×V)) (k:κ):Option V:=(Sh.find? λkv=>decide (kv.1=k)).map (·.2)
noncomputable def putK (Sh:List (κ×V)) (k:κ) (v:V):List (κ×V):=
 if (Sh.any λkv=>decide (kv.1=k))=true then Sh.map (λkv=>if kv.1=k then (kv.1,v) else kv) else Sh++[(k,v)]
theorem eX {p:κ×V}{r:List (κ×V)}{k:κ}(e:p.1=k):c8 (p::r) k=some p.2:=by simp [c8,Ub,e]
theorem eW {p:κ×V}{r:List (κ×V)}{k:κ}(e:¬p.1=k):c8 (p::r) k=c8 r k:=by simp [c8,Ub,e]
theorem mE (k:κ):∀Sh:List (κ×V),(Sh.any λkv=>decide (kv.1=k))=(c8 Sh k).isSome
 | []=>rfl
 | p::r=>by
  rw [UR];by_cases e:p.1=k
  ·simp only [eX e,decide_eq_true e,Bool.true_or,aaz]
  ·rw [eW e,decide_eq_false e,YV];exact mE k r
theorem yK (k j:κ) (y:V):∀Sh:List (κ×V),c8 (Sh.map λkv=>if kv.1=k then (kv.1,y) else kv) j=(c8 Sh j).map λx=>if j=k then y else x
 | []=>rfl
 | p::r=>by
  have ih:=yK k j y r;rw [S4];by_cases h:p.1=k
  ·rw [if_pos h];by_cases e:p.1=j
   ·rw [eX (p:=(p.1,y)) e,eX e,VV,if_pos (e.symm.trans h)]
   ·rw [eW (p:=(p.1,y)) e,eW e,ih]
  ·rw [if_neg h];by_cases e:p.1=j
   ·rw [eX (p:=p) e,eX e,VV,if_neg (λz=>h (e.trans z))]
   ·rw [eW (p:=p) e,eW e,ih]
theorem u7 (k j:κ) (y:V):∀Sh:List (κ×V),c8 Sh k=none->c8 (Sh++[(k,y)]) j=if j=k then some y else c8 Sh j
 | [],_=>by
  by_cases e:k=j
  ·rw [if_pos e.symm];exact eX (p:=(k,y)) e
  ·rw [if_neg (λz=>e z.symm)];exact eW (p:=(k,y)) e
 | p::r,hn=>by
  rw [abi];have hk:¬p.1=k:=λz=>by rw [eX z] at hn;cases hn
  rw [eW hk] at hn;have ih:=u7 k j y r hn;by_cases e:p.1=j
  ·rw [eX e,eX e,if_neg (λz=>hk (e.trans z))]
  ·rw [eW e,eW e,ih]
theorem GI (Sh:List (κ×V)) (k j:κ) (y:V):c8 (putK Sh k y) j=if j=k then some y else c8 Sh j:=by
 unfold putK;by_cases a:(Sh.any λkv=>decide (kv.1=k))=true
 ·rw [if_pos a,yK];rw [mE] at a;by_cases e:j=k
  ·obtain ⟨x,hx⟩:=Tr.mp a;rw [if_pos e,e,hx,VV,if_pos rfl]
  ·rw [if_neg e];cases c8 Sh j with
   | none=>rfl
   | some x=>rw [VV,if_neg e]
 ·rw [if_neg a];refine u7 k j y Sh ?_;rw [mE] at a;cases q:c8 Sh k with
  | none=>rfl
  | some x=>rw [q] at a;exact (a rfl).elim
theorem pA (Sh:List (κ×V)) (k:κ) (v:V):(putK Sh k v).length<=Sh.length + 1:=by
 unfold putK;split
 ·rw [So];omega
 ·rw [SE,Ti,abI];omega
theorem iN.isSome_eq {o:Option V}{u:Option Sl}(r:iN o u):o.isSome=u.isSome:=by
 cases o with
 | none=>cases u with
  | none=>rfl
  | some _=>exact (show False from r).elim
 | some _=>cases u with
  | none=>exact (show False from r).elim
  | some _=>rfl
theorem KV.val {Sh:List (κ×V)}{vs:List (κ×Sl)}(r:KV Sh vs) (k:κ):iN (c8 Sh k) (WD vs k):=by
 unfold KV at r
 induction r with
 | nil=>exact VB
 | @cons p q ps qs h t ih=>
  obtain ⟨h1,h2⟩:=h;by_cases e:p.1=k
  ·have e':q.1=k:=h1.symm.trans e;have b:WD (q::qs) k=some q.2:=by simp [WD,Ub,e']
   rw [eX e,b];exact h2
  ·have e':¬q.1=k:=λz=>e (h1.trans z);have b:WD (q::qs) k=WD qs k:=by simp [WD,Ub,e']
   rw [eW e,b];exact ih
theorem KV.any {Sh:List (κ×V)}{vs:List (κ×Sl)}(r:KV Sh vs) (k:κ):(Sh.any λkv=>decide (kv.1=k))=vs.any λkv=>decide (kv.1=k):=by
 unfold KV at r
 induction r with
 | nil=>rfl
 | cons h t ih=>rw [UR,UR,ih,h.1]
theorem KV.repl {Sh:List (κ×V)}{vs:List (κ×Sl)}(r:KV Sh vs) (k:κ){y:V}{u:Sl}(ry:RelV y u):
  KV (Sh.map λkv=>if kv.1=k then (kv.1,y) else kv) (vs.map λkv=>if kv.1=k then (kv.1,u) else kv):=by
 unfold KV at r ⊢
 induction r with
 | nil=>exact .nil
 | @cons p q ps qs h t ih=>
  rw [S4,S4];refine .cons ?_ ih;obtain ⟨h1,h2⟩:=h;by_cases e:p.1=k
  ·rw [if_pos e,if_pos (h1.symm.trans e)];exact ⟨h1,ry⟩
  ·rw [if_neg e,if_neg (λz=>e (h1.trans z))];exact ⟨h1,h2⟩
theorem KV.put {Sh:List (κ×V)}{vs:List (κ×Sl)}(r:KV Sh vs) (k:κ){y:V}{u:Sl}(ry:RelV y u):KV (putK Sh k y) (stored vs k u):=by
 unfold putK stored;rw [r.any k];by_cases e:(vs.any λkv=>decide (kv.1=k))=true
 ·rw [if_pos e,if_pos e];exact r.repl k ry
 ·rw [if_neg e,if_neg e];exact ads r ⟨rfl,ry⟩
theorem KV.length {Sh:List (κ×V)}{vs:List (κ×Sl)}(r:KV Sh vs):Sh.length=vs.length:=YN r
end
theorem vO {P:SK}{w:S9}{k:Key}{u:Sl}(r:RelV (kV k) u):(d7 P w).is k u=true:=by
 cases k with
 | inl i=>obtain ⟨t,e⟩:=(show ∃t,u=Wu i t from r);subst e;exact yX P w i t
 | inr x=>obtain ⟨t,e⟩:=(show ∃t,u=aae x t from r);subst e;exact yY P w x t
theorem uI {P:SK}{w:S9}:∀{ks:List Key}{us:List Sl},Vals (ks.map kV) us->ItemsAre (d7 P w) ks us
 | [],_,r=>by rw [aa3] at r;cases r;exact .nil
 | k::ks,_,r=>by
  rw [S4] at r;cases r with
  | cons h t=>exact .cons (vO h) (uI t)
abbrev KT (H:Hp):List (List Key×V)->List (List Key×SM×Sl)->Prop:=Yx λp q=>p.1=q.1/\H q.2.1=some (.tup (p.1.map kV))/\RelV p.2 q.2.2
theorem KT.val {H:Hp}{Sh:List (List Key×V)}{xs:List (List Key×SM×Sl)}(r:KT H Sh xs) (k:List Key):iN (c8 Sh k) ((acS xs k).map (·.2)):=by
 induction r with
 | nil=>exact VB
 | @cons p q ps qs h t ih=>
  obtain ⟨h1,_,h2⟩:=h;by_cases e:p.1=k
  ·have e':q.1=k:=h1.symm.trans e;have b:acS (q::qs) k=some q.2:=by simp [acS,Ub,e']
   rw [eX e,b];exact h2
  ·have e':¬q.1=k:=λz=>e (h1.trans z);have b:acS (q::qs) k=acS qs k:=by simp [acS,Ub,e']
   rw [eW e,b];exact ih
theorem KT.repl {H:Hp}{Sh:List (List Key×V)}{xs:List (List Key×SM×Sl)}(r:KT H Sh xs) (k:List Key){y:V}{u:Sl}(ry:RelV y u):
  KT H (Sh.map λkv=>if kv.1=k then (kv.1,y) else kv) (xs.map (putAt k u)):=by
 induction r with
 | nil=>exact .nil
 | @cons p q ps qs h t ih=>
  rw [S4,S4];refine .cons ?_ ih;obtain ⟨h1,h2,h3⟩:=h;unfold putAt;by_cases e:p.1=k
  ·rw [if_pos e,if_pos (h1.symm.trans e)];exact ⟨h1,h2,ry⟩
  ·rw [if_neg e,if_neg (λz=>e (h1.trans z))];exact ⟨h1,h2,h3⟩
theorem KT.put {H:Hp}{Sh:List (List Key×V)}{xs:List (List Key×SM×Sl)}(r:KT H Sh xs) (k:List Key){b:SM}{y:V}{u:Sl}(hb:H b=some (.tup (k.map kV))) (ry:RelV y u):
  KT H (putK Sh k y) (storedH xs k b u):=by
 have e:(Sh.any λkv=>decide (kv.1=k))=(acS xs k).isSome:=by rw [mE,(r.val k).isSome_eq,aaX]
 unfold putK storedH;rw [e];by_cases q:(acS xs k).isSome=true
 ·rw [if_pos q,if_pos q];exact r.repl k ry
 ·rw [if_neg q,if_neg q];exact ads r ⟨rfl,hb,ry⟩
theorem KT.keeps {H H':Hp}{Sh:List (List Key×V)}{xs:List (List Key×SM×Sl)}(r:KT H Sh xs) (ht:∀b ys,H b=some (.tup ys)->H' b=some (.tup ys)):KT H' Sh xs:=
 Yx.mapP r λ_ _ z=>⟨z.1,ht _ _ z.2.1,z.2.2⟩
section
variable {P:SK}{w:S9}{H:Hp}{h:Uo}{a:SM}
theorem HD {u:HO}(ok:eY P w H h) (e:Rd H a u):bW P w H h a u:=e.ok ok
theorem qO {Sh:List (Key×V)}(ok:eY P w H h) (e:Rd H a (.dK Sh)):Sh.length<=sizeLine/\(a == T9)=false/\∃vs,KV Sh vs/\h.DictOf (d7 P w) a vs:=
 show bW P w H h a (.dK Sh) from HD ok e
theorem G8 {Sh:List (Key×V)}(ok:eY P w H h) (e:H a=some (.dK Sh)):Sh.length<=sizeLine/\(a == T9)=false/\∃vs,KV Sh vs/\h.DictOf (d7 P w) a vs:=qO ok (.inl e)
theorem rK {ks:List Key}(ok:eY P w H h) (e:H a=some (.tup (ks.map kV))):(Zh (d7 P w)).is h ks a:=by obtain ⟨_,Sb,r,⟨o,h1,h2,n,h3⟩,_⟩:=(show bW P w H h a (.tup (ks.map kV)) from ok a _ e);exact ⟨o,Sb.toArray,n,h1,h2,h3,by simpa using uI r⟩
theorem vI {Sh:List (List Key×V)}(ok:eY P w H h) (e:Rd H a (.dT Sh)):Sh.length<=sizeLine/\(a == T9)=false/\
  ∃xs,KT H Sh xs/\h.DictOfH (Zh (d7 P w)) a xs:=by
 obtain ⟨z,y,xs,r,o,es,ep,h1,h2,h3,h4,h5⟩:=(show bW P w H h a (.dT Sh) from HD ok e);refine ⟨z,y,xs,r,o,es,ep,h1,h2,h3,h4,λx hx=>?_,h5⟩;have all:∀{l:List (List Key×V)}{m:List (List Key×SM×Sl)},KT H l m->∀x∈m,(Zh (d7 P w)).is h x.1 x.2.1:=by
  intro l m q
  induction q with
  | nil=>intro x hx;exact nomatch hx
  | @cons p q ps qs hq t ih=>
   intro x hx;rcases SN.mp hx with e | hx
   ·subst e;exact rK ok (by rw [<-hq.1];exact hq.2.1)
   ·exact ih x hx
 exact all r x hx
theorem M7 {Sh:List (List Key×V)}(ok:eY P w H h) (e:H a=some (.dT Sh)):Sh.length<=sizeLine/\(a == T9)=false/\
  ∃xs,KT H Sh xs/\h.DictOfH (Zh (d7 P w)) a xs:=vI ok (.inl e)
end
noncomputable def g7 (H:Hp) (a:SM) (y:V) (r:Option V):Prop:=
 (∃Sh k,Rd H a (.dK Sh)/\y=kV k/\r=c8 Sh k)\/∃Sh k b,Rd H a (.dT Sh)/\y=.ref b/\H b=some (.tup (k.map kV))/\r=c8 Sh k
noncomputable def pL (H:Hp) (a:SM) (y v:V) (H':Hp):Prop:=
 (∃Sh k,H a=some (.dK Sh)/\y=kV k/\Sh.length < sizeLine/\H'=upd H a (.dK (putK Sh k v)))\/
 ∃Sh k b,H a=some (.dT Sh)/\y=.ref b/\H b=some (.tup (k.map kV))/\Sh.length < sizeLine/\H'=upd H a (.dT (putK Sh k v))
theorem g7.k {H:Hp}{a:SM}{Sh:List (Key×V)}{k:Key}(e:H a=some (.dK Sh)):g7 H a (kV k) (c8 Sh k):=.inl ⟨Sh,k,.inl e,rfl,rfl⟩
theorem g7.t {H:Hp}{a b:SM}{Sh:List (List Key×V)}{k:List Key}(e:H a=some (.dT Sh)) (eb:H b=some (.tup (k.map kV))):g7 H a (.ref b) (c8 Sh k):=.inr ⟨Sh,k,b,.inl e,rfl,eb,rfl⟩
theorem pL.k {H:Hp}{a:SM}{Sh:List (Key×V)}{k:Key}{v:V}(e:H a=some (.dK Sh)) (hl:Sh.length < sizeLine):pL H a (kV k) v (upd H a (.dK (putK Sh k v))):=.inl ⟨Sh,k,e,rfl,hl,rfl⟩
theorem pL.t {H:Hp}{a b:SM}{Sh:List (List Key×V)}{k:List Key}{v:V}(e:H a=some (.dT Sh)) (eb:H b=some (.tup (k.map kV))) (hl:Sh.length < sizeLine):
  pL H a (.ref b) v (upd H a (.dT (putK Sh k v))):=.inr ⟨Sh,k,b,e,rfl,eb,hl,rfl⟩
section
variable {X:Cx}{Sa:List (SM×Obj)}{σ:St}{H:Hp}{s:Sn}{a:SM}{y v:V}{u r:Sl}{o:Option V}{A:Te}{E:Sl->Sn->Prop}
theorem Inv.big (I:Inv X Sa σ H s):T9 < s.heap.objs.size:=by have h:SY < s.heap.objs.size:=(I.mod.glob.keeps I.bk).lt;exact Ur (by decide) h
theorem uB {Q:Sl->Sn->Prop}(hu:A.units + 1 < VP) (I:Inv X Sa σ H s) (g:g7 H a y (some v)) (ry:RelV y u) (h:∀w' s',Inv X Sa σ H s'->RelV v w'->Q w' s'):
  SO (SX X.prog X.w) A (XZ (.ref a) u) Q E s:=by
 rcases g with ⟨Sh,k,e,ey,l⟩ | ⟨Sh,k,b,e,ey,eb,l⟩
 ·subst ey;obtain ⟨z,hd,vs,rel,dd⟩:=qO I.hok e;obtain ⟨w',hw,rw'⟩:=iN.some_of (v:=v) (o:=WD vs k) (by rw [l];exact rel.val k);exact abb (vO ry) dd.mapOf hw (h w' _ (I.tok _) rw')
 ·subst ey;cases (show u=Vi b from ry);obtain ⟨z,hd,xs,rel,dd⟩:=vI I.hok e;obtain ⟨w',hw,rw'⟩:=iN.some_of (v:=v) (o:=(acS xs k).map (·.2)) (by rw [l];exact rel.val k);obtain ⟨p,hp,hp2⟩:=W8.mp hw;refine wpAny_getItem_heap (Yo hu) (rK I.hok eb) dd hp ?_;rw [hp2];exact h w' _ (I.tok _) rw'
theorem zH {Q:Sl->Sn->Prop}(hu:A.units + 1 < VP) (I:Inv X Sa σ H s) (g:g7 H a y o) (ry:RelV y u) (h:∀s',Inv X Sa σ H s'->Q (.bool (!o.isSome)) s'):
  SO (SX X.prog X.w) A (UK .NotIn u (.ref a)) Q E s:=by
 rcases g with ⟨Sh,k,e,ey,l⟩ | ⟨Sh,k,b,e,ey,eb,l⟩
 ·subst ey;obtain ⟨z,hd,vs,rel,dd⟩:=qO I.hok e;refine wpAny_notIn_of (vO ry) hd dd.mapOf ?_;rw [<-(rel.val k).isSome_eq,<-l];exact h _ (I.tok _)
 ·subst ey;cases (show u=Vi b from ry);obtain ⟨z,hd,xs,rel,dd⟩:=vI I.hok e;refine wpAny_notIn_heap (Yo hu) (rK I.hok eb) hd dd ?_;have q:=(rel.val k).isSome_eq;rw [aaX] at q;rw [<-q,<-l];exact h _ (I.tok _)
theorem zI {h':Uo}{t':Nat}{ob:HO}(I:Inv X Sa σ H s) (mu:Ce (H a)) (hs:UJ a s.heap h') (he:∃q,h'.get? a=some q) (new:bW X.prog X.w (upd H a ob) h' a ob):
  Inv X Sa σ (upd H a ob) {s with heap:=h',toks:=t'}:=
 I.write (x:=a) (e:=a) mu (.inl rfl) (λb q hb z=>(hs.2 b hb).trans z) he new
theorem CQ {P:SK}{w:S9}{H':Hp}{h':Uo}{Sh:List (Key×V)}{vs:List (Key×Sl)}(z:Sh.length<=sizeLine) (hd:(a == T9)=false) (rel:KV Sh vs) (dd:h'.DictOf (d7 P w) a vs):
  bW P w H' h' a (.dK Sh):=⟨z,hd,vs,rel,dd⟩
theorem uC {H':Hp}{Q:Unit->Sn->Prop}(hu:A.units + 1 < VP) (I:Inv X Sa σ H s) (g:pL H a y v H') (ry:RelV y u) (rv:RelV v r) (h:∀s',Inv X Sa σ H' s'->Q () s'):
  SO (SX X.prog X.w) A (acm (.ref a) u r) Q E s:=by
 rcases g with ⟨Sh,k,e,ey,l,eH⟩ | ⟨Sh,k,b,e,ey,eb,l,eH⟩
 ·subst ey eH;obtain ⟨z,hd,vs,rel,dd⟩:=G8 I.hok e;have hz:vs.length<=sizeLine:=by rw [<-rel.length];exact z
  have hl:(putK Sh k v).length<=sizeLine:=by have:=pA Sh k v;omega
  refine wpAny_setItem_pairs (hsz:=hz) (vO ry) dd λh' dd' hs=>h _ ?_;have he:∃q,h'.get? a=some q:=let ⟨q,_,_,hq,_⟩:=dd';⟨q,hq⟩
  exact zI I (by rw [e];exact VB) hs he (CQ hl hd (rel.put k rv) dd')
 ·subst ey eH;cases (show u=Vi b from ry);obtain ⟨z,hd,xs,rel,dd⟩:=M7 I.hok e;have hz:xs.length<=sizeLine:=by rw [<-YN rel];exact z
  have hl:(putK Sh k v).length<=sizeLine:=by have:=pA Sh k v;omega
  refine wpAny_setItem_heap (hsz:=hz) (Yo hu) (rK I.hok eb) dd λh' dd' hs=>h _ ?_;obtain ⟨q,es,ep,hq,h2,h3,h4,_,h5⟩:=dd';refine zI I (by rw [e];exact VB) hs ⟨q,hq⟩ ⟨hl,hd,_,(rel.put k eb rv).keeps λc ys ec=>?_,q,es,ep,hq,h2,h3,h4,h5⟩;rw [a_ (Nm ec e (λz=>nomatch z))];exact ec
end
def wg (i:Tv):Prop:=∀ov iv,subscripted i false ov iv=operate [ov,iv] (XZ ov iv)
theorem Ax {prog:SK}{w:S9}{A:Te}{E:Sl->Sn->Prop}{s:Sn}{env:Env}{value slice:Tv}{pos:Pos}{T id:String}{Q:Sl->Sn->Prop}
  (hl:ab9 (.type T) "__getitem__"=pure (some (.builtin id))) (hs:wg slice)
  (h:SO (SX prog w) A (eval value env) (λo s₁=>SO (SX prog w) A (eval slice env) (λi s₂=>s₂.TypeIs o T/\SO (SX prog w) A (XZ o i) Q E s₂) E s₁) E s):
  SO (SX prog w) A (eval (.Subscript value slice pos) env) Q E s:=by
 refine aaF (TN h (λo s₁ h₁=>TN h₁ (λi s₂ h₂=>?_) λ_ _ x=>x) λ_ _ x=>x);obtain ⟨hT,h₂⟩:=h₂;unfold aap;refine Sj ?_;rw [getitemInPython_of_ne hT.not_modules];refine Sj (abN hT hl ?_);have fin:SO (SX prog w) A (subscripted slice false o i) (λr s₃=>SO (SX prog w) A (letTemporaryGo value o r >>= λ_=>pure r) Q E s₃) E s₂:=by rw [hs o i];exact wpAny_operating (TN h₂ (λr s₃ h₃=>Sj (wpAny_letTemporaryGo (Sm h₃))) λ_ _ x=>x)
 first
  | exact Sm (Sj fin)
  | exact Sj (Sm (Sj fin))
  | exact Sj fin
theorem oZ {X:Cx}{Sa:List (SM×Obj)}{σ:St}{H:Hp}{s:Sn}{a:SM}{y:V}{o:Option V}(I:Inv X Sa σ H s) (g:g7 H a y o):s.TypeIs (.ref a) "dict":=by
 rcases g with ⟨Sh,k,e,_,_⟩ | ⟨Sh,k,b,e,_,_,_⟩
 ·obtain ⟨_,_,vs,_,dd⟩:=qO I.hok e;exact dd.typeIs
 ·obtain ⟨_,_,xs,_,dd⟩:=vI I.hok e;exact dd.typeIs
def NO (td ty:TE):TE:=λσ H Q=>td σ H λx H1=>ty σ H1 λy H2=>∃a v,x=.ref a/\g7 H2 a y (some v)/\Q v H2
section
variable {X:Cx}{o i e value:Tv}{pos pos' tpos:Pos}{td ty tv:TE}
theorem Jv (hu:X.A.units + 1 < VP) (ho:PE X o td) (hi:PE X i ty) (hs:wg i):PE X (.Subscript o i pos) (NO td ty):=by intro Sa s σ H Q I h;refine Ax Ww.lookup hs (bO (ho Sa s σ H _ I h) λu s1 ⟨x,H1,I1,rx,q1⟩=>bO (hi Sa s1 σ H1 _ I1 q1) λiv s2 ⟨y,H2,I2,ry,a,v,ex,g,q2⟩=>?_);subst ex;obtain rfl:u=Vi a:=rx;exact ⟨oZ I2 g,uB hu I2 g ry λw' s3 I3 rw'=>⟨v,H2,I3,rw',q2⟩⟩
end
theorem Fe {P:SK}{w:S9}{H:Hp}(h:Uo) (hb:T9 < h.objs.size):bW P w H (h.push {cls:=.type "dict",data:=.dict #[]}) h.objs.size (.dK []):=
 ⟨S5 _,beq_eq_false_iff_ne.mpr (UA (SQ hb)),[],.nil,adU h⟩
section
variable {X:Cx}{Sa:List (SM×Obj)}{σ:St}{H:Hp}{s:Sn}{a:SM}{Sh:List (Key×V)}{A:Te}{E:Sl->Sn->Prop}
theorem Fb {Q:Sl->Sn->Prop}(I:Inv X Sa σ H s) (e:Rd H a (.dK Sh)) (h:∀p s',H p=none->Inv X Sa σ (upd H p (.dK Sh)) s'->Q (.ref p) s'):SO (SX X.prog X.w) A (call (.type "dict") [.ref a]) Q E s:=by obtain ⟨z,hd,vs,rel,dd⟩:=qO I.hok e;refine kt_call_dict hd dd (by rw [<-rel.length];exact z) λh' dd' hs=>?_;refine h _ _ (I.hok.fresh (Sw _)) (I.laid (a:=s.heap.objs.size) (o:=.dK Sh) (t':=s.toks) (λb q hq=>?_) (Sw _) (CQ z (beq_eq_false_iff_ne.mpr (UA (SQ I.big))) rel dd'));exact (hs.2 b (SQ (SJ hq))).trans (Sq _ hq)
end
end L2
namespace DL
open PySem PySem.Spec PyProof.Rows L2 DX
noncomputable def uw:R->Option (List Str×List D)
 | .d .emp=>some ([],[])
 | .d (.ob (.txt ss) xs)=>some (ss,xs)
 | .o _ (.txt ss) xs=>some (ss,xs)
 | _=>none
noncomputable def cI {α:Type}:List Str->List α->Str->Option α
 | s::ss,d::ds,x=>if s=x then some d else cI ss ds x
 | _,_,_=>none
noncomputable def bK {α:Type}(ss:List Str) (xs:List α) (s:Str) (v:α):List Str×List α:=
 if ss.contains s=true then (ss,(ss.zip xs).map λp=>if p.1=s then v else p.2) else (ss++[s],xs++[v])
abbrev mV (ss:List Str) (vs:List V):List (Key×V):=(ss.map Wb).zip vs
section
variable {X:Cx}{c:C}{e ke a b:Tv}{g gk ga gb:G R}{pos:Pos}
theorem RR.txt {He J H:Hp}(hp:HI c J H):∀{r:R}{v:V}{z:List Str×List D},RR c He J H r v->uw r=some z->∃a vs,v=.ref a/\H a=some (.dK (mV z.1 vs))/\z.1.length=vs.length/\aL c.K J z.2 vs
 | .d .emp,v,z,h,e=>by
  cases e;cases h with
  | emp h=>exact ⟨_,[],rfl,hp.sub _ _ h,rfl,.nil⟩
 | .d (.ob (.txt ss) xs),v,z,h,e=>by
  cases e;cases h with
  | ob h hs=>obtain ⟨h1,h2,h3⟩:=h;exact ⟨_,_,rfl,hp.sub _ _ h2,h1,hs⟩
 | .o .fresh (.txt ss) xs,v,z,⟨a,h1,⟨vs,⟨k1,k2,k3⟩,hs⟩,_⟩,e=>by cases e;exact ⟨a,vs,h1,k2,k1,hs⟩
 | .o .own (.txt ss) xs,v,z,⟨a,h1,⟨vs,⟨k1,k2,k3⟩,hs⟩,_⟩,e=>by cases e;exact ⟨a,vs,h1,k2,k1,hs⟩
 | .o .bor (.txt ss) xs,v,z,⟨a,h1,⟨vs,⟨k1,k2,k3⟩,hs⟩⟩,e=>by cases e;exact ⟨a,vs,h1,hp.ent _ _ k2,k1,hs⟩
 | .o m (.ins _ _) _,_,_,_,e=>nomatch e
 | .o m (.mem _ _) _,_,_,_,e=>nomatch e
 | .d (.ob (.ins _ _) _),_,_,_,e=>nomatch e
 | .d (.ob (.mem _ _) _),_,_,_,e=>nomatch e
 | .d .non,_,_,_,e=>nomatch e
 | .d (.bl _),_,_,_,e=>nomatch e
 | .d (.int _),_,_,_,e=>nomatch e
 | .d (.str _),_,_,_,e=>nomatch e
 | .d (.tup _),_,_,_,e=>nomatch e
 | .d (.lst _),_,_,_,e=>nomatch e
 | .d (.dct _ _),_,_,_,e=>nomatch e
 | .d (.exn _ _ _),_,_,_,e=>nomatch e
 | .l _ _,_,_,_,e=>nomatch e
 | .ln _,_,_,_,e=>nomatch e
 | .mo _ _,_,_,_,e=>nomatch e
 | .mb _ _,_,_,_,e=>nomatch e
 | .mf _ _,_,_,_,e=>nomatch e
theorem tP {K:Sk}{J:Hp}{x:Str}:∀{ss:List Str}{xs:List D}{vs:List V},ss.length=vs.length->aL K J xs vs->(∀d,cI ss xs x=some d->∃v,c8 (mV ss vs) (.inr x)=some v/\Rep K J d v)/\(cI ss xs x=none->c8 (mV ss vs) (.inr x)=none)
 | [],xs,vs,h,r=>⟨λd h=>(by cases xs <;> cases h),λ_=>rfl⟩
 | s::ss,_,_,h,.nil=>nomatch h
 | s::ss,d::xs,v::vs,h,.cons r rs=>by
  obtain ⟨i1,i2⟩:=tP (x:=x) (ss:=ss) (by simpa using h) rs;unfold cI;show (∀d',_->∃v',c8 ((Wb s,v)::mV ss vs) (.inr x)=some v'/\_)/\(_->c8 ((Wb s,v)::mV ss vs) (.inr x)=none);by_cases q:s=x
  ·rw [if_pos q,eX (show (Wb s:Key)=.inr x by rw [q])];exact ⟨λd' z=>by cases z;exact ⟨v,rfl,r⟩,λz=>nomatch z⟩
  ·rw [if_neg q,eW (λz=>q (abo z))];exact ⟨i1,i2⟩
noncomputable def jT (x y:R):M R:=match uw x,y with
 | some z,.d (.str k)=>(match cI z.1 z.2 k with
  | some d=>.ok (.d d)
  | none=>.bad)
 | _,_=>.bad
theorem iZ (hu:X.A.units + 64 < VP) (ha:QD X c a ga) (hb:QD X c b gb) (hs:wg b:=by exact λ_ _=>rfl):QD X c (.Subscript a b pos) (g2 jT ga gb):=⟨ef (Jv (by omega) ha.h hb.h hs) λσ H Q ⟨J,env,sr,w⟩=>
 two (k:=λx y H2=>∃a v,x=.ref a/\g7 H2 a y (some v)/\Q v H2) sr w λx y u v J2 H2 sr2 e2 rx ry w=>by
  unfold jT at w;split at w
  ·rename_i z k hz;cases ry;obtain ⟨p,vs,rfl,h1,h2,h3⟩:=rx.txt sr2.hp hz;split at w
   ·rename_i d hl;obtain ⟨v,hv,rd⟩:=(tP h2 h3).1 d hl;refine ⟨p,v,rfl,?_,w v J2 H2 (Ext.refl sr2.hp.sub) rd⟩;rw [<-hv];exact g7.k (k:=.inr k) h1
   ·exact w.elim
  ·exact w.elim⟩
def Mx (neg:Bool):R2:=λx y H Q=>∃p o,y=.ref p/\g7 H p x o/\Q (.bl (if neg then !o.isSome else o.isSome)) H
theorem DS (hu:X.A.units + 64 < VP):dJ X (UK .NotIn) (Mx true):=λSa s σ H x y v u Q I rx ry ⟨p,o,e,g,q⟩=>by subst e;cases ry;exact zH (by omega) I g rx λs' I'=>⟨.bl _,H,I',rfl,q⟩
noncomputable def xu (neg:Bool) (x y:R):M R:=match uw y,x with
 | some z,.d (.str k)=>.ok (.d (.bl (if neg then !(cI z.1 z.2 k).isSome else (cI z.1 z.2 k).isSome)))
 | _,_=>.bad
theorem KU (neg:Bool):BD c (Mx neg) (xu neg):=by
 intro He He' J H x y u v Q hp rx ry w;unfold xu at w;split at w
 ·rename_i z k hz;cases rx;obtain ⟨p,vs,rfl,h1,h2,h3⟩:=ry.txt hp hz;refine ⟨p,_,rfl,g7.k (k:=.inr k) h1,?_⟩;have e:(c8 (mV z.1 vs) (.inr k)).isSome=(cI z.1 z.2 k).isSome:=by
   obtain ⟨l1,l2⟩:=tP (x:=k) h2 h3;cases q:cI z.1 z.2 k with
   | some d=>obtain ⟨_,e,_⟩:=l1 d q;rw [e];rfl
   | none=>rw [l2 q];rfl
  rw [e];exact w _ J H (Ext.refl hp.sub) (.bl _)
 ·exact w.elim
theorem BN (hu:X.A.units + 64 < VP) (ha:QD X c a ga) (hb:QD X c b gb) (hm:autoParam (Ui .NotIn b=false) zA._auto_1):QB X c (.Compare a [.NotIn] [b] pos) (aT (g2 (xu true) ga gb)):=⟨j3 (DS hu) (KU true) ha.h hb.h hm⟩
def vM (i:Nat):G O:=λenv=>.ok (.nx (env.set i (some (.oo (.txt []) []))))
theorem DV:PE X (.Dict [] [] pos) (λσ H Q=>∀p,H p=none->(p == T9)=false->Q (.ref p) (upd H p (.dK []))):=λSa s σ H Q I h=>
 abl ⟨.ref s.heap.objs.size,_,I.laid (a:=s.heap.objs.size) (o:=.dK []) (t':=s.toks) (λ_ _ q=>Sq _ q) (Sw _) (Fe s.heap I.big),rfl,h _ (I.hok.fresh (Sw _)) (beq_eq_false_iff_ne.mpr (UA (SQ I.big)))⟩
theorem nM (i:Nat){x:Str}{pos' p0:Pos}(hN:X.N.Nodup) (hi:autoParam (X.N[i]?=some x) zA._auto_1) (hx:Loc X.env.scope x:=by first | exact V5 rfl | exact Vh rfl) (hs:autoParam (Wc (.Dict [] [] p0) (some (.Name x pos')) pos.line X.env=pure false) zA._auto_1)
  (hf:X.fn x=true\/X.env.scope.names.lookup x=some .local:=by first | exact .inl rfl | exact .inr rfl):jc X c (.Assign [.Name x pos'] (.Dict [] [] p0) pos) (vM i):=⟨f7 (rS hN hi hx DV hs hf) λE σ H ⟨J,env,sr,w⟩ p hp hq=>
 w _ J _ (aW.refl J) (sr.setM (y:=.oo (.txt []) []) (Ext.new sr.hp.sub hp _) hp ⟨p,rfl,⟨[],⟨rfl,bD,hq⟩,.nil⟩,sr.hp.sub.free hp,sr.hp.ent.free hp⟩)⟩
theorem zu {s:Str}:∀{ss:List Str}{vs:List V},ss.length=vs.length->((mV ss vs).any λkv=>decide (kv.1=.inr s))=ss.contains s
 | [],_,_=>rfl
 | t::ss,[],h=>nomatch h
 | t::ss,v::vs,h=>by show (decide ((Wb t:Key)=.inr s) || (mV ss vs).any λkv=>decide (kv.1=.inr s))=(s == t || ss.contains s);rw [zu (by simpa using h),Ds];congr 1;rw [V2,decide_eq_true_iff,beq_iff_eq];exact eq_comm
theorem z_ {s:Str}{v:V}:∀{ss:List Str}{vs:List V},ss.length=vs.length->(mV ss vs).map (λkv=>if kv.1=.inr s then (kv.1,v) else kv)=mV ss ((ss.zip vs).map λp=>if p.1=s then v else p.2)
 | [],_,_=>rfl
 | t::ss,[],h=>nomatch h
 | t::ss,u::vs,h=>by
  refine List.cons_eq_cons.mpr ⟨?_,z_ (by simpa using h)⟩;show (if (Wb t:Key)=.inr s then ((Wb t:Key),v) else ((Wb t:Key),u))=(Wb t,if t=s then v else u);by_cases q:t=s
  ·rw [if_pos (by rw [q]),if_pos q]
  ·rw [if_neg (λz=>q (abo z)),if_neg q]
theorem JE {s:Str}{v:V}{ss:List Str}{vs:List V}(h:ss.length=vs.length):putK (mV ss vs) (.inr s) v=mV (bK ss vs s v).1 (bK ss vs s v).2:=by
 unfold putK bK;rw [zu h];split
 ·exact z_ h
 ·show _=(adX Wb (ss++[s])).zip (vs++[v]);rw [TZ,List.zip_append (by simpa using h)];rfl
theorem oE {α:Type}{s:Str}{v:α}{ss:List Str}{vs:List α}(h:ss.length=vs.length):(bK ss vs s v).1.length=(bK ss vs s v).2.length:=by
 unfold bK;split
 ·show ss.length=((ss.zip vs).map _).length;rw [So,ZM,<-h,Zs]
 ·show (ss++[s]).length=(vs++[v]).length;rw [SE,SE,h];rfl
theorem Am {K:Sk}{J:Hp}{s:Str}{d:D}{v:V}(r:Rep K J d v):∀{ss:List Str}{xs:List D}{vs:List V},aL K J xs vs->aL K J ((ss.zip xs).map λp=>if p.1=s then d else p.2) ((ss.zip vs).map λp=>if p.1=s then v else p.2)
 | [],_,_,_=>.nil
 | _::_,_,_,.nil=>.nil
 | t::ss,_,_,.cons r' rs=>by
  refine .cons ?_ (Am r rs);show Rep K J (if t=s then d else _) (if t=s then v else _);by_cases q:t=s
  ·rw [if_pos q,if_pos q];exact r
  ·rw [if_neg q,if_neg q];exact r'
theorem Gj {K:Sk}{J:Hp}{s:Str}{d:D}{v:V}{ss:List Str}{xs:List D}{vs:List V}(r:Rep K J d v) (h:aL K J xs vs):aL K J (bK ss xs s d).2 (bK ss vs s v).2:=by
 unfold bK;split
 ·exact Am r h
 ·exact h.append (.cons r .nil)
theorem Ak {α β:Type}{s:Str}{v:α}{u:β}{ss:List Str}{vs:List α}{us:List β}:(bK ss vs s v).1=(bK ss us s u).1:=by unfold bK;split <;> rfl
def NG:wF:=λo i v H Q=>∃p Sh k,o=.ref p/\i=kV k/\H p=some (.dK Sh)/\Sh.length < sizeLine/\Q (upd H p (.dK (putK Sh k v)))
theorem JU (hu:X.A.units + 64 < VP):EN X NG:=by intro Sa s σ H o i v ov iv u Q I ro ri rv ⟨p,Sh,k,e1,e2,hp,hl,q⟩;subst e1 e2;cases ro;exact uC (by omega) I (pL.k hp hl) ri rv λs' I'=>⟨_,I',q⟩
noncomputable def nv (i:Nat) (gk g:G R):G O:=λenv=>match env[i]? with
 | some (some (.oo (.txt ss) xs))=>g env >>= λr=>toD r >>= λd=>gk env >>= λr2=>match r2 with
  | .d (.str k)=>if ss.length<=1000 then .ok (.nx (env.set i (some (.oo (.txt (bK ss xs k d).1) (bK ss xs k d).2)))) else .bad
  | _=>.bad
 | _=>.bad
theorem qb (i:Nat){x:Str}{p1 p2:Pos}(hu:X.A.units + 64 < VP) (h:QD X c e g) (hk:QD X c ke gk) (hN:autoParam (X.N[i]?=some x) zA._auto_1) (hv:mH X.env.scope x:=by first | exact V5 rfl | exact Vh (V5 rfl) | exact Vh (Vh rfl)) (hd:autoParam ((x == ("__debug__":Str))=false) zB._auto_1)
  (hcd:autoParam ((x == ("__classdict__":Str))=false) zB._auto_1)
  (ha:∀v,assign (.Subscript (.Name x p1) ke p2) X.env v=(do
   let ov <-holding [v] (eval (.Name x p1) X.env)
   let iv <-holding [v,ov] (eval ke X.env)
   Ws p2
   (holding [v,ov,iv] (acm ov iv v))
   release [v,ov,iv] []):=by intro _;rfl)
  (hs:autoParam (XM [.Subscript (.Name x p1) ke p2] e pos.line X.env=pure false) zA._auto_1) (hw:autoParam (YQ [.Subscript (.Name x p1) ke p2] e X.env=pure none) zA._auto_1)
  (h1:autoParam ((VA [.Subscript (.Name x p1) ke p2] X.env).map (·.2)=[assign (.Subscript (.Name x p1) ke p2) X.env]) zA._auto_1):
  jc X c (.Assign [.Subscript (.Name x p1) ke p2] e pos) (nv i gk g):=
 ⟨f7 (yh h.h (DW (fV hN hv hd hcd) hk.h (JU hu) ha) hs hw h1) λE σ H ⟨J,env,sr,w⟩=>by
  unfold nv at w;split at w
  ·rename_i ss xs hi;obtain ⟨v,q1,p,rfl,⟨vs,⟨k1,k2,k3⟩,hs⟩,h3,h4⟩:=sr.at_ i _ hi;refine ⟨J,env,sr,aC (aG w) λr wr y J1 H1 e1 r1=>?_⟩;obtain ⟨d,q,wr⟩:=jG wr;obtain ⟨J2,e2,s2,rd⟩:=freeze e1 r1 q;refine ⟨.ref p,q1,?_⟩;refine ⟨J2,env,sr.ext e2,aC (aG wr) λrk wk vk J3 H3 e3 r3=>?_⟩;split at wk
   ·rename_i k;split at wk
    ·rename_i hl;cases r3;have e5:=e2.trans e3;have h3':=e5.frz p (by rw [k2];exact λz=>nomatch z) h3;refine ⟨p,_,.inr k,rfl,rfl,e5.h _ _ k2,?_,?_⟩
     ·rw [ZM,So,<-k1,Zs];exact UX hl (by decide)
     ·rw [JE k1];refine wk σ J3 _ e5.j ((sr.ext e5).updM (x:=.oo (.txt ss) xs) (y:=.oo (.txt (bK ss xs k d).1) (bK ss xs k d).2) hi q1 h3' h4 ⟨p,rfl,⟨(bK ss vs k y).2,⟨?_,?_,k3⟩,Gj (rd.mono e3.j) (hs.mono e5.j)⟩,h3',h4⟩)
      ·rw [Ak (us:=vs) (u:=y)];exact oE k1
      ·refine bD.trans ?_;rw [Ak (vs:=xs) (v:=d) (us:=vs) (u:=y)]
    ·exact wk.elim
   ·exact wk.elim
  ·exact w.elim⟩
theorem CB:eK X (.type "dict") (λxs H Q=>∃a Sh,xs=[.ref a]/\H a=some (.dK Sh)/\∀p,H p=none->(p == T9)=false->Q (.ref p) (upd H p (.dK Sh))):=by intro Sa s σ H xs us Q I r ⟨a,Sh,e,h,q⟩;subst e;obtain ⟨u,rfl,ru⟩:=vals1 r;cases ru;exact Fb I (.inl h) λp s' hp I'=>⟨.ref p,_,I',rfl,q p hp (by have z:upd H p (HO.dK Sh) p=some (.dK Sh):=bD;obtain ⟨_,h,_⟩:=G8 I'.hok z;exact h)⟩
theorem A5:Uz "dict"=some (.type "dict"):=by decide +kernel
noncomputable def xr:List R->M R
 | [r]=>match uw r with
  | some z=>.ok (.o .fresh (.txt z.1) z.2)
  | none=>.bad
 | _=>.bad
theorem D_ {p:Pos}{es:List Tv}{gs:G (List R)}(ha:jK X c (e::es) gs) (hm:X.mg "dict"=none) (hg:autoParam (Gl X "dict") zA._auto_1)
  (he:autoParam (SG (e::es) X.env=(false,eval e X.env)::SG es X.env) zA._auto_1) (hpl:autoParam ((Vf pos (SG es X.env)).any (·.1)=false) zA._auto_1):QD X c (.Call (.Name "dict" p) (e::es) [] pos) (gN xr gs):=
 ⟨nI CB (by
  intro He J H xs vs Q hp rs w;unfold xr at w;split at w
  ·obtain ⟨v,rfl,r⟩:=rs.one;split at w
   ·rename_i z hz;obtain ⟨a,vs,rfl,h1,h2,h3⟩:=r.txt hp hz;exact ⟨a,_,rfl,h1,λp hn hq=>w _ J _ (Ext.new hp.sub hn _) ⟨p,rfl,⟨vs,⟨h2,bD,hq⟩,h3⟩,hp.sub.free hn,hn⟩⟩
   ·exact w.elim
  ·exact w.elim) A5 hm ha.h hg (by decide) (by decide) he hpl⟩
end
noncomputable def EU:R->Option (Str×List Str×List D)
 | .d (.ob (.ins cls ns) xs)=>some (cls,ns,xs)
 | .o _ (.ins cls ns) xs=>some (cls,ns,xs)
 | _=>none
section
variable {X:Cx}{c:C}{e ke a b:Tv}{g gk ga gb:G R}{pos:Pos}
theorem RR.ins {He J H:Hp}(hp:HI c J H):∀{r:R}{v:V}{z:Str×List Str×List D},RR c He J H r v->EU r=some z->∃a C dx vs,v=.ref a/\S8 c.K SY z.1=some (some (.ref C))/\m_ c.K C/\z.2.1.length=vs.length/\H a=some (.ins C dx (z.2.1.zip vs))/\aL c.K J z.2.2 vs
 | .d (.ob (.ins _ _) xs),v,z,h,e=>by
  cases e;cases h with
  | ob h hs=>obtain ⟨C,dx,h1,h2,h3,h4⟩:=h;exact ⟨_,C,dx,_,rfl,h1,h2,h3,hp.sub _ _ h4,hs⟩
 | .o .fresh (.ins _ _) xs,v,z,⟨a,h1,⟨vs,⟨C,dx,k1,k2,k3,k4⟩,hs⟩,_⟩,e=>by cases e;exact ⟨a,C,dx,vs,h1,k1,k2,k3,k4,hs⟩
 | .o .own (.ins _ _) xs,v,z,⟨a,h1,⟨vs,⟨C,dx,k1,k2,k3,k4⟩,hs⟩,_⟩,e=>by cases e;exact ⟨a,C,dx,vs,h1,k1,k2,k3,k4,hs⟩
 | .o .bor (.ins _ _) xs,v,z,⟨a,h1,⟨vs,⟨C,dx,k1,k2,k3,k4⟩,hs⟩⟩,e=>by cases e;exact ⟨a,C,dx,vs,h1,k1,k2,k3,hp.ent _ _ k4,hs⟩
 | .o m (.txt _) _,_,_,_,e=>nomatch e
 | .o m (.mem _ _) _,_,_,_,e=>nomatch e
 | .d (.ob (.txt _) _),_,_,_,e=>nomatch e
 | .d (.ob (.mem _ _) _),_,_,_,e=>nomatch e
 | .d .non,_,_,_,e=>nomatch e
 | .d .emp,_,_,_,e=>nomatch e
 | .d (.bl _),_,_,_,e=>nomatch e
 | .d (.int _),_,_,_,e=>nomatch e
 | .d (.str _),_,_,_,e=>nomatch e
 | .d (.tup _),_,_,_,e=>nomatch e
 | .d (.lst _),_,_,_,e=>nomatch e
 | .d (.dct _ _),_,_,_,e=>nomatch e
 | .d (.exn _ _ _),_,_,_,e=>nomatch e
 | .l _ _,_,_,_,e=>nomatch e
 | .ln _,_,_,_,e=>nomatch e
 | .mo _ _,_,_,_,e=>nomatch e
 | .mb _ _,_,_,_,e=>nomatch e
 | .mf _ _,_,_,_,e=>nomatch e
def mF (K:Sk) (cls f:Str):Prop:=∃C,S8 K SY cls=some (some (.ref C))/\gS K C f
noncomputable def iR (cls f:Str) (r:R):M R:=match EU r with
 | some z=>if z.1=cls then (match (z.2.1.zip z.2.2).lookup f with
  | some d=>.ok (.d d)
  | none=>.bad) else .bad
 | none=>.bad
def fE (cls f:Str) (g:G R):G R:=λenv=>g env >>= iR cls f
theorem zM {He J H:Hp}(hp:HI c J H){cls f:Str}{r:R}{v:V}{d:D}(A:mF c.K cls f) (h:RR c He J H r v) (e:iR cls f r=.ok (.d d)):∃a C dx fs u,v=.ref a/\H a=some (.ins C dx fs)/\oO c.K C/\gS c.K C f/\fs.lookup f=some u/\Rep c.K J d u:=by
 unfold iR at e;split at e
 ·rename_i z hz;split at e
  ·rename_i hc;split at e
   ·rename_i d' hl;cases e;obtain ⟨a,C,dx,vs,h1,h2,h3,h4,h5,h6⟩:=h.ins hp hz;obtain ⟨u,k1,k2⟩:=yM h6 hl;obtain ⟨C',n1,n2⟩:=A;rw [hc,n1] at h2;cases h2;exact ⟨a,C,dx,_,u,h1,h5,h3.cl,n2,k1,k2⟩
   ·cases e
  ·cases e
 ·cases e
theorem Ld {cls f:Str}{r:R}{z:R}(e:iR cls f r=.ok z):∃d,z=.d d:=by
 unfold iR at e;split at e
 ·split at e
  ·split at e
   ·cases e;exact ⟨_,rfl⟩
   ·cases e
  ·cases e
 ·cases e
theorem CV {cls f:Str}{r:R}{x:Exc}:iR cls f r≠.exc x:=by
 intro e;unfold iR at e;split at e
 ·split at e
  ·split at e <;> cases e
  ·cases e
 ·cases e
theorem ff {cls f:Str}(A:mF X.K cls f) (h:QD X c e g) (hK:autoParam (X.K=c.K) zA._auto_1) (hb:autoParam (U9 e f X.env (eval e X.env)=eval e X.env) zA._auto_1):QD X c (.Attribute e f pos) (fE cls f g):=
 ⟨ef (rQ h.h hb) λσ H Q ⟨J,env,sr,w⟩=>⟨J,env,sr,aC (aG w) λr wr v J1 H1 e1 r1=>by
  cases q:iR cls f r with
  | bad=>rw [q] at wr;exact wr.elim
  | exc x=>exact (CV q).elim
  | ok z=>
   obtain ⟨d,rfl⟩:=Ld q;rw [q] at wr;obtain ⟨a,C,dx,fs,u,h1,h2,h3,h4,h5,h6⟩:=zM (sr.hp.ext e1) (hK▸A) r1 q;exact ⟨a,C,dx,fs,u,h1,h2,hK▸h3,hK▸h4,h5,wr u J1 H1 e1 h6⟩⟩⟩
noncomputable def Oi (c:C) (g:G O):TS:=λE σ H=>∃J env,SR c J H σ env/\cH (g env) (λo=>match o with
 | .nx e=>∀J' H',aW J J'->SR c J' H' σ e->E.nx σ H'
 | _=>False) c.T
structure QI (X:Cx) (c:C) (x0:List VQ) (x1:G O):Prop where
 h:iI X x0 (Oi c x1)
structure GW (X:Cx) (c:C) (x0:VQ) (x1:G O):Prop where
 h:PS X x0 (Oi c x1)
theorem lE {st:VQ}{rest:List VQ}{t u:G O}(h:GW X c st t) (h':QI X c rest u):QI X c (st::rest) (av t u):=⟨nK (l_ h.h h'.h) λE σ H ⟨J,env,sr,w⟩=>by
 refine ⟨J,env,sr,aC (aG w) λo wo=>?_⟩;cases o with
 | nx e=>
  refine λJ' H' s' sr'=>⟨J',e,sr',aC wo λo q=>?_⟩;cases o with
  | nx e=>exact λJ2 H2 s2 sr2=>q J2 H2 (s'.trans s2) sr2
  | _=>exact q
 | rt r=>exact wo
 | bk e=>exact wo
 | ct e=>exact wo⟩
theorem Ms {st:VQ}{t:G O}(h:GW X c st t):QI X c [st] t:=⟨oB h.h⟩
theorem yi {f:Str}{y:V}:∀{ns:List Str}{vs:List V},ns.length=vs.length->ns.contains f=false->f9 f y (ns.zip vs)=(ns++[f]).zip (vs++[y])
 | [],[],_,_=>rfl
 | [],_::_,h,_=>nomatch h
 | _::_,[],h,_=>nomatch h
 | n::ns,v::vs,h,q=>by have q1:((f == n) || ns.contains f)=false:=q;rw [XJ] at q1;show (if n=f then (n,y)::ns.zip vs else (n,v)::f9 f y (ns.zip vs))=(n,v)::(ns++[f]).zip (vs++[y]);rw [if_neg (λz=>by rw [z] at q1;simp at q1),yi (by simpa using h) q1.2]
noncomputable def u5 (cls f:Str) (d:D):S->Option S
 | .oo (.ins cl ns) xs=>if cl=cls/\ns.contains f=false/\ns.length < 100 then some (.oo (.ins cl (ns++[f])) (xs++[d])) else none
 | _=>none
theorem Et {J H:Hp}{σ:L2.St}{env:Ev}(sr:SR c J H σ env){i:Nat}{cls f:Str}{d:D}{s s':S}(A:mF c.K cls f) (hi:env[i]?=some (some s)) (e:u5 cls f d s=some s'):
  ∃a C dx fs,σ[i]?=some (some (.ref a))/\H a=some (.ins C dx fs)/\oO c.K C/\gS c.K C f/\fs.length < 1000/\∀{J1 H1:Hp}{y:V},Ext J H J1 H1->Rep c.K J1 d y->SR c J1 (upd H1 a (.ins C dx (f9 f y fs))) σ (env.set i (some s')):=by
 cases s with
 | oo k xs=>
  cases k with
  | ins cl ns=>
   simp only [u5] at e;split at e
   ·rename_i hc;obtain ⟨rfl,hf,hl⟩:=hc;cases e;obtain ⟨v,q1,a,rfl,⟨vs,⟨C,dx,k1,k2,k3,k4⟩,hs⟩,h3,h4⟩:=sr.at_ i _ hi;obtain ⟨C',n1,n2⟩:=A;rw [n1] at k1;cases k1;refine ⟨a,C,dx,_,q1,k4,k2.cl,n2,by rw [ZM,<-k3,Zs];omega,fun {J1 H1 y} e1 rd=>?_⟩;have h3':=e1.frz a (by rw [k4];exact λz=>nomatch z) h3;refine (sr.ext e1).updM (x:=.oo (.ins cl ns) xs) (y:=.oo (.ins cl (ns++[f])) (xs++[d])) hi q1 h3' h4 ⟨a,rfl,⟨vs++[y],⟨C,dx,n1,k2,by rw [SE,SE,k3];rfl,?_⟩,(hs.mono e1.j).append (.cons rd .nil)⟩,h3',h4⟩;rw [<-yi k3 hf];exact bD
   ·cases e
  | _=>cases e
 | _=>cases e
noncomputable def kL (i:Nat) (cls f:Str) (g:G R):G O:=λenv=>match env[i]? with
 | some (some s)=>g env >>= λr=>toD r >>= λd=>(match u5 cls f d s with
  | some s'=>.ok (.nx (env.set i (some s')))
  | none=>.bad)
 | _=>.bad
theorem nL (i:Nat){x cls f:Str}{p1 p2:Pos}(A:mF X.K cls f) (h:QD X c e g) (hK:autoParam (X.K=c.K) zA._auto_1) (hN:autoParam (X.N[i]?=some x) zA._auto_1) (hv:mH X.env.scope x:=by first | exact V5 rfl | exact Vh (V5 rfl) | exact Vh (Vh rfl)) (hd:autoParam ((x == ("__debug__":Str))=false) zB._auto_1)
  (hcd:autoParam ((x == ("__classdict__":Str))=false) zB._auto_1) (hs:autoParam (Wc e (some (.Attribute (.Name x p1) f p2)) pos.line X.env=pure false) zA._auto_1):GW X c (.Assign [.Attribute (.Name x p1) f p2] e pos) (kL i cls f g):=
 ⟨f7 (D5 (fV hN hv hd hcd) h.h hs) λE σ H ⟨J,env,sr,w⟩=>by
  unfold kL at w;split at w
  ·rename_i s hi;refine ⟨J,env,sr,aC (aG w) λr wr y J1 H1 e1 r1=>?_⟩;obtain ⟨d,q,wr⟩:=jG wr;obtain ⟨J2,e2,s2,rd⟩:=freeze e1 r1 q;split at wr
   ·rename_i s' hs';obtain ⟨a,C,dx,fs,q1,q2,q3,q4,q5,q6⟩:=Et sr (hK▸A) hi hs';exact ⟨.ref a,q1,a,C,dx,fs,rfl,e2.h _ _ q2,hK▸q3,hK▸q4,q5,wr J2 _ e2.j (q6 e2 rd)⟩
   ·exact wr.elim
  ·exact w.elim⟩
theorem DH {P:SK}{w:S9}{H:Hp}{dom:List (List Int)}{f:List Int->Bool}(h:Uo) (hb:T9 < h.objs.size) (hd:dom.length < sizeLine):bW P w H (h.push {cls:=.type "dict",data:=.dict #[]}) h.objs.size (.memo dom f):=
 ⟨beq_eq_false_iff_ne.mpr (UA (SQ hb)),hd,[],λ_ z=>(nomatch z),[],.nil,_,#[],0,Sz _ rfl,⟨rfl,rfl,rfl⟩,rfl,rfl,Wv⟩
theorem Jx:PE X (.Dict [] [] pos) (λσ H Q=>∃dom f,dom.length < sizeLine/\∀p,H p=none->Q (.ref p) (upd H p (.memo dom f))):=λSa s σ H Q I ⟨dom,f,hd,h⟩=>
 abl ⟨.ref s.heap.objs.size,_,I.laid (a:=s.heap.objs.size) (o:=.memo dom f) (t':=s.toks) (λ_ _ q=>Sq _ q) (Sw _) (DH s.heap I.big hd),rfl,h _ (I.hok.fresh (Sw _))⟩
abbrev Mm:=List (List Int)×(List Int->Bool)
noncomputable def Ft (i:Nat) (cls f:Str) (m:Ev->Mm):G O:=λenv=>match env[i]? with
 | some (some s)=>if (m env).1.length<=1000000 then (match u5 cls f (.ob (.mem (m env).1 (m env).2) []) s with
  | some s'=>.ok (.nx (env.set i (some s')))
  | none=>.bad) else .bad
 | _=>.bad
theorem Mr (i:Nat) (m:Ev->Mm){x cls f:Str}{p0 p1 p2:Pos}(A:mF X.K cls f) (hK:autoParam (X.K=c.K) zA._auto_1) (hN:autoParam (X.N[i]?=some x) zA._auto_1) (hv:mH X.env.scope x:=by first | exact V5 rfl | exact Vh (V5 rfl) | exact Vh (Vh rfl)) (hd:autoParam ((x == ("__debug__":Str))=false) zB._auto_1)
  (hcd:autoParam ((x == ("__classdict__":Str))=false) zB._auto_1) (hs:autoParam (Wc (.Dict [] [] p0) (some (.Attribute (.Name x p1) f p2)) pos.line X.env=pure false) zA._auto_1):GW X c (.Assign [.Attribute (.Name x p1) f p2] (.Dict [] [] p0) pos) (Ft i cls f m):=
 ⟨f7 (D5 (fV hN hv hd hcd) Jx hs) λE σ H ⟨J,env,sr,w⟩=>by
  unfold Ft at w;split at w
  ·rename_i s hi;split at w
   ·rename_i hl;split at w
    ·rename_i s' hs';obtain ⟨a,C,dx,fs,q1,q2,q3,q4,q5,q6⟩:=Et sr (hK▸A) hi hs';refine ⟨(m env).1,(m env).2,UX hl (by decide),λp hp=>?_⟩;have e2:=Ext.newJ sr.hp.sub hp (.memo (m env).1 (m env).2);exact ⟨.ref a,q1,a,C,dx,fs,rfl,e2.h _ _ q2,hK▸q3,hK▸q4,q5,w _ _ e2.j (q6 e2 (.ob ⟨rfl,bD⟩ .nil))⟩
    ·exact w.elim
   ·exact w.elim
  ·exact w.elim⟩
end
noncomputable def tK (cls:Str) (N:List Str) (gB:G O) (as:List S):M R:=match gB (aF N (.oo (.ins cls []) []::as)) with
 | .ok (.nx env)=>(match (env[0]?:Option (Option S)) with
  | some (some (.oo k xs))=>.ok (.o .fresh k xs)
  | _=>.bad)
 | _=>.bad
noncomputable def Of (K:Sk) (C:SM) (n:Nat) (F:List S->M R):Sp:=λvs H Q _=>∃J as H1 x dx us,vs=.ref x::us/\H1 x=none/\H1 dx=none/\dx≠x/\H=upd (upd H1 dx (.own x)) x (.ins C dx [])/\aW J H1/\as.length=n/\iL K J H1 as us/\
 cH (F as) (λr=>match r with
  | .o .fresh k xs=>∀J' H',Ext J H1 J' H'->g8 K J' H' x k xs->J' x=none->Q .non H'
  | _=>False) (λ_=>False)
section
variable {P:SK}{w:S9}{K:Sk}{mg:Str->Option Sl}{base:Uo}{cls Sf:Str}{st:VQ}{f C:SM}{fd:Tj}{N ps:List Str}{k n:Nat}
theorem Es {J H1:Hp}{T:Exc->Prop}{as:List S}{x dx:SM}{us:List V}(nx:H1 x=none) (nd:H1 dx=none) (ne:dx≠x) (hC:S8 K SY cls=some (some (.ref C))) (ik:m_ K C) (hs:aW J H1) (h:iL K J H1 as us):
  SR ⟨K,H1,J,T⟩ J (upd (upd H1 dx (.own x)) x (.ins C dx [])) (L2.start N (.ref x::us)) (aF N (.oo (.ins cls []) []::as)):=by
 have s1:aW H1 (upd (upd H1 dx (.own x)) x (.ins C dx [])):=(cW nd _).trans (cW (by rw [a_ (UA ne)];exact nx) _);have bA:∀(i:Nat) (y:S),(aF N (.oo (.ins cls []) []::as))[i]?=some (some y)->(i=0/\y=.oo (.ins cls []) [])\/∃j v,i=j + 1/\as[j]?=some y/\us[j]?=some v:=λi y q=>by
  have q:=nW q;cases i with
  | zero=>cases q;exact .inl ⟨rfl,rfl⟩
  | succ j=>have q:as[j]?=some y:=q;obtain ⟨v,k1,_⟩:=h.get q;exact .inr ⟨j,v,rfl,q,k1⟩
 have own:∀(i:Nat) (xs:Mn),(aF N (.oo (.ins cls []) []::as))[i]?=some (some (mS xs))->i=0:=λi xs q=>by
  rcases bA i _ q with ⟨rfl,_⟩ | ⟨j,v,rfl,q1,_⟩
  ·rfl
  ·obtain ⟨v,_,k⟩:=h.get q1;cases xs <;> exact k.elim
 refine ⟨⟨hs.trans s1,s1,aW.refl J,λ_ _ q=>q⟩,?_,λi y q=>?_,λi j xs ys v hij q1 q2=>absurd ((own i xs q1).trans (own j ys q2).symm) hij,λi j xs ys hij q1 q2=>absurd ((own i (.nst xs) q1).trans (own j (.nst ys) q2).symm) hij⟩
 ·unfold aF L2.start;rw [SE,SE,So,So,Tz,Tz,Ti,Ti,h.length]
 ·rcases bA i y q with ⟨rfl,rfl⟩ | ⟨j,v,rfl,q1,q2⟩
  ·exact ⟨.ref x,mz rfl,x,rfl,⟨[],⟨C,dx,hC,ik,rfl,bD⟩,.nil⟩,hs.free nx,nx⟩
  ·obtain ⟨v,k1,k2⟩:=h.get q1;refine ⟨v,mz (i:=j + 1) k1,?_⟩;cases y with
   | d y=>exact k2
   | own y=>exact k2.elim
   | bor y=>exact k2
   | dk _ _=>exact k2.elim
   | db _ _=>exact k2
   | fn _=>exact k2
   | ow2 _=>exact k2.elim
   | tn _=>exact k2.elim
   | oo _ _=>exact k2.elim
   | ob _ _=>exact k2
theorem Lg {gB:G O}(F:gg K "__init__" Sf st f fd) (Sc:cS N ps (aJ st)) (hC:S8 K SY cls=some (some (.ref C))) (ik:m_ K C) (hn:ps.length=n + 1)
  (hb:∀(cdv:Sl) (A:Te) (outer:List Env) (s:Sn) (H:Hp) (E:XK) (H0 J:Hp) (T:Exc->Prop),cO k (A.deeper (W3 Sf (aJ st) s.heap.objs.size f cdv))->
   QI (qM P w K mg base N Sf (aJ st) f cdv A outer s H E) ⟨K,H0,J,T⟩ (bB st) gB):eT P w K mg base jI (k + 1) f fd ps (Of K C n (tK cls N gB)):=by
 refine F.ok Sc (λvs H Q E ⟨J,as,H1,x,dx,us,e,_,_,_,_,_,h2,h3,_⟩=>by rw [e,Ti,h3.length,h2,hn]) (λcdv A outer s H vs Q E hr ⟨J,as,H1,x,dx,us,e,nx,nd,ne,eH,h1,h2,h3,h4⟩=>?_);subst e eH;refine ⟨_,(hb cdv A outer s _ E H1 J (λ_=>False) hr).h,J,_,Es (T:=λ_=>False) nx nd ne hC ik h1 h3,?_⟩;unfold tK at h4;cases qg:gB (aF N (.oo (.ins cls []) []::as)) with
 | bad=>rw [qg] at h4;exact h4.elim
 | exc x=>rw [qg] at h4;exact h4.elim
 | ok o=>
  rw [qg] at h4;cases o with
  | rt _=>exact h4.elim
  | bk _=>exact h4.elim
  | ct _=>exact h4.elim
  | nx env=>
   intro J' H' sj sr;dsimp only at h4;split at h4
   ·rename_i k' xs hz;obtain ⟨v,q1,a,rfl,oa,j1,_⟩:=sr.at_ 0 _ hz;have q2:(L2.start N (.ref x::us))[0]?=some (some (.ref x)):=mz rfl;rw [q2] at q1;cases q1;exact h4 J' H' ⟨sr.hp.ent,sr.hp.entJ,sr.hp.sub,sr.hp.frz⟩ oa j1
   ·exact h4.elim
noncomputable def vY (P:SK) (w:S9) (K:Sk) (mg:Str->Option Sl) (base:Uo) (k n:Nat) (cls:Str) (F:List S->M R):Prop:=
 ∃f fd ps C,eT P w K mg base jI k f fd ps (Of K C n F)/\Mk K C f/\mg cls=some (.ref C)/\Binds K fd ps []
theorem Gk {gB:G O}(F:gg K "__init__" Sf st f fd) (M:Mk K C f) (hm:mg cls=some (.ref C)) (hC:S8 K SY cls=some (some (.ref C))) (ik:m_ K C) (Sc:cS N ps (aJ st))
  (hbi:∀(kV doc pm:Sl) (an:Option SM) (cdv ct:Sl) (us:List Sl),us.length=ps.length->Xj (Tp "__init__" Sf (cB st) (bB st) (aJ st) .none kV doc pm an cdv ct) ⟨us,[]⟩=pure (ps.zip us)) (hn:ps.length=n + 1)
  (hb:∀(cdv:Sl) (A:Te) (outer:List Env) (s:Sn) (H:Hp) (E:XK) (H0 J:Hp) (T:Exc->Prop),cO k (A.deeper (W3 Sf (aJ st) s.heap.objs.size f cdv))->
   QI (qM P w K mg base N Sf (aJ st) f cdv A outer s H E) ⟨K,H0,J,T⟩ (bB st) gB):vY P w K mg base (k + 1) n cls (tK cls N gB):=⟨f,fd,ps,C,Lg F Sc hC ik hn hb,M,hm,F.binds hbi⟩
theorem EX {Fm:List S->M R}(F:gg K "__init__" Sf st f fd) (M:Mk K C f) (hm:mg cls=some (.ref C))
  (hbi:∀(kV doc pm:Sl) (an:Option SM) (cdv ct:Sl) (us:List Sl),us.length=ps.length->Xj (Tp "__init__" Sf (cB st) (bB st) (aJ st) .none kV doc pm an cdv ct) ⟨us,[]⟩=pure (ps.zip us)) (hF:∀as,Fm as=.bad):vY P w K mg base k n cls Fm:=
 ⟨f,fd,ps,C,⟨λvs H Q E ⟨J,as,_,_,_,_,_,_,_,_,_,_,_,_,h⟩=>(by rw [hF as] at h;exact h.elim),λA outer s H args us vs Q E _ _ _ _ ⟨J,as,_,_,_,_,_,_,_,_,_,_,_,_,h⟩=>(by rw [hF as] at h;exact h.elim)⟩,M,hm,F.binds hbi⟩
end
section
variable {X:Cx}{c:C}{e:Tv}{es:List Tv}{pos:Pos}
noncomputable def C_ (n:Nat) (F:Ev->List S->M R) (gs:G (List R)):G R:=λenv=>gs env >>= λrs=>if rs.length=n then (match F env (rs.map bI) with
 | .ok (.o .fresh k xs)=>.ok (.o .fresh k xs)
 | _=>.bad) else .bad
theorem Ea {α:Type}(gh:Ev->α){F:α->List S->M R}{k k' n:Nat}{x:Str}{p:Pos}{gs:G (List R)}(G:∀m,vY X.prog X.w X.K X.mg X.base k n x (F m)) (hr:cO k' X.A) (ha:jK X c (e::es) gs) (hk:autoParam (k + 1<=k') zB._auto_1) (hT:autoParam (c.K=X.K) zA._auto_1) (hg:autoParam (Gl X x) zA._auto_1) (hdb:autoParam ((x == ("__debug__":Str))=false) zB._auto_1)
  (he:autoParam (SG (e::es) X.env=(false,eval e X.env)::SG es X.env) zA._auto_1) (hpl:autoParam ((Vf pos (SG es X.env)).any (·.1)=false) zA._auto_1):QD X c (.Call (.Name x p) (e::es) [] pos) (C_ n (λenv=>F (gh env)) gs):=
 ⟨λSa s σ H Q I ⟨J,env,sr,w⟩=>by
  obtain ⟨f,fd,ps,C,h1,h2,h3,h4⟩:=G (gh env);refine Jw (E:=E0) h2 h1 (hr.mono hk) hg h3 h4 .nil Hu ha.h hdb he hpl Sa s σ H Q I ⟨J,env,sr,aC (aG w) λrs wr vs J1 H1 e1 r1=>λa dx na nd ne=>?_⟩;split at wr
  ·rename_i hl;refine ⟨J1,rs.map bI,H1,a,dx,_,rfl,na,nd,ne,rfl,e1.sub,by simpa using hl,by rw [UB,<-hT];exact r1.args (sr.hp.ext e1),?_⟩;dsimp only at wr;cases q:F (gh env) (rs.map bI) with
   | bad=>rw [q] at wr;exact wr.elim
   | exc x=>rw [q] at wr;exact wr.elim
   | ok r=>
    rw [q] at wr;cases r with
    | o m k xs=>
     cases m with
     | fresh=>exact λJ' H' e2 oa ja=>⟨rfl,wr (.ref a) J' H' (e1.trans e2) ⟨a,rfl,hT▸oa,ja,e1.h.free na⟩⟩
     | own=>exact wr.elim
     | bor=>exact wr.elim
    | _=>exact wr.elim
  ·exact wr.elim⟩
end
theorem II {K:Sk}{C:SM}(h1:Xu K C YA=true) (h2:W9 K C=true) (h3:Yz K C=true) (h4:S7 K (.ref C) "__setattr__"=some (some (.builtin "object.__setattr__")))
  (ha:S7 K (.ref C) "__class__"=some (some (.builtin "object.__class__"))) (hn:Wk K (.builtin "object.__class__") "__get__"=some (some (.builtin "getset_descriptor.__get__"))) (htk:WQ K (.builtin "object.__class__")=some true)
  (hc:(Wl K C).map (·.mro)=some [.ref C,.type "object"]):m_ K C:=by
 obtain ⟨cd,c1,c2⟩:=W8.mp hc;have hm:∀b,Vb K C b=some ([Vi C,.type "object"].contains b):=λb=>by unfold Vb;rw [c1,Xw,c2];rfl
 refine ⟨⟨h1,h2,h3,h4⟩,ha,hn,htk,by rw [hm];simp,λT k1 k2=>?_⟩;unfold Xl abW;rw [if_neg (by simp)];simp only [k1,if_true];show Vb K C _=_;rw [hm];have:T≠"object":=λz=>by rw [z] at k2;simp [nZ] at k2
 simp [this]
def Gr (dom:List (List Int)) (f:List Int->Bool) (Sh:List (List Key×V)):Prop:=dom.length < sizeLine/\∀p∈Sh,∃is,is∈dom/\p=(is.map Vl,V.bl (f is))
section
variable {X:Cx}{Sa:List (SM×Obj)}{σ:L2.St}{H:Hp}{s:Sn}{a b:SM}{dom:List (List Int)}{f:List Int->Bool}{Sh:List (List Key×V)}{is:List Int}
theorem zW {H:Hp}:∀{Sh:List (List Key×V)}{xs:List (List Key×SM×Sl)},KT H Sh xs->Sh.map (·.1)=xs.map (·.1)
 | _,_,.nil=>rfl
 | _,_,.cons r rs=>by rw [S4,S4,r.1,zW rs]
theorem zT:∀{a b:List Int},a.map (Vl:Int->Key)=b.map Vl->a=b
 | [],[],_=>rfl
 | [],_::_,h=>nomatch h
 | _::_,[],h=>nomatch h
 | x::xs,y::ys,h=>by
  rw [S4,S4] at h;injection h with h1 h2
  rw [acZ h1,zT h2]
theorem Ln (g:Gr dom f Sh) (nd:(Sh.map (·.1)).Nodup):Sh.length<=dom.length:=by
 have:=Ug nd (l₂:=dom.map λis=>is.map (Vl:Int->Key)) λk hk=>by obtain ⟨p,hp,rfl⟩:=SD.mp hk;obtain ⟨is,h1,rfl⟩:=g.2 p hp;exact SD.mpr ⟨is,h1,rfl⟩
 rw [So,So] at this;exact this
theorem Inv.opn (I:Inv X Sa σ H s) (h:H a=some (.memo dom f)):∃Sh,Gr dom f Sh/\Sh.length < sizeLine/\Inv X Sa σ (upd H a (.dT Sh)) s:=by obtain ⟨h1,h2,Sh,g,xs,kt,o,es,ep,e1,e2,e3,e4,e5⟩:=(show bW X.prog X.w H s.heap a (.memo dom f) from I.hok a _ h);have kt:KT H Sh xs:=kt;have hl:Sh.length < sizeLine:=UX (Ln ⟨h2,g⟩ (by rw [zW kt];exact e5)) h2;refine ⟨Sh,⟨h2,g⟩,hl,?_⟩;have:=I.write (x:=a) (e:=a) (o:=.dT Sh) (t':=s.toks) (h':=s.heap) (by rw [h];exact VB) (.inl rfl) (λ_ _ _ q=>q) ⟨o,e1⟩ ⟨Xo hl,h1,xs,kt.keeps λb ys q=>by rw [a_ (λz=>by rw [z,h] at q;cases q)];exact q,o,es,ep,e1,e2,e3,e4,e5⟩;exact this
theorem Inv.shut (I:Inv X Sa σ H s) (h:H a=some (.dT Sh)) (g:Gr dom f Sh):Inv X Sa σ (upd H a (.memo dom f)) s:=by obtain ⟨h1,h2,xs,kt,o,es,ep,e1,e2,e3,e4,e5⟩:=(show bW X.prog X.w H s.heap a (.dT Sh) from I.hok a _ h);have kt:KT H Sh xs:=kt;have:=I.write (x:=a) (e:=a) (o:=.memo dom f) (t':=s.toks) (h':=s.heap) (by rw [h];exact VB) (.inl rfl) (λ_ _ _ q=>q) ⟨o,e1⟩ ⟨h2,g.1,Sh,g.2,xs,kt.keeps λb ys q=>by rw [a_ (λz=>by rw [z,h] at q;cases q)];exact q,o,es,ep,e1,e2,e3,e4,e5⟩;exact this
theorem yJ {H:Hp}{a:SM}{o u:HO}(h:H a=some o):upd (upd H a u) a o=H:=by
 funext b;by_cases q:b=a
 ·rw [q,bD,h]
 ·rw [a_ q,a_ q]
theorem Lp (g:Gr dom f Sh):c8 Sh (is.map Vl)=none\/c8 Sh (is.map Vl)=some (.bl (f is)):=by
 unfold c8;cases q:Sh.find? λkv=>decide (kv.1=is.map Vl) with
 | none=>exact .inl rfl
 | some p=>
  obtain ⟨js,_,rfl⟩:=g.2 p (VO q);have z:=abJ q;have e:js.map (Vl:Int->Key)=is.map Vl:=of_decide_eq_true z;rw [zT e];exact .inr rfl
theorem Lo (g:Gr dom f Sh) (h:is∈dom):Gr dom f (putK Sh (is.map Vl) (.bl (f is))):=by
 refine ⟨g.1,?_⟩;unfold putK;split
 ·intro p hp;obtain ⟨q,hq,rfl⟩:=SD.mp hp;split
  ·rename_i e;exact ⟨is,h,by rw [e]⟩
  ·exact g.2 q hq
 ·intro p hp;rcases Tc.mp hp with hp | hp
  ·exact g.2 p hp
  ·rw [Su.mp hp];exact ⟨is,h,rfl⟩
theorem tM:is.map V.int=(is.map (Vl:Int->Key)).map kV:=by rw [TF];rfl
noncomputable def OR:R2:=λx y H Q=>∃a b dom f is,y=.ref a/\H a=some (.memo dom f)/\x=.ref b/\H b=some (.tup (is.map V.int))/\Q (.bl true) H/\∀Sh,Gr dom f Sh->c8 Sh (is.map Vl)=some (.bl (f is))->Q (.bl false) (upd H a (.dT Sh))
theorem LS (hu:X.A.units + 64 < VP):dJ X (UK .NotIn) OR:=λSa s σ H x y v u Q I rx ry ⟨a,b,dom,f,is,e1,ha,e2,hb,q1,q2⟩=>by
 subst e1 e2;cases ry;obtain ⟨Sh,g,hl,I2⟩:=Inv.opn I ha;have hne:b≠a:=λz=>by rw [z,ha] at hb;cases hb
 refine zH (a:=a) (y:=.ref b) (by omega) I2 (g7.t (k:=is.map Vl) bD (by rw [a_ hne,<-tM];exact hb)) rx λs' I'=>?_;rcases Lp (is:=is) g with e | e
 ·rw [e];have I3:=Inv.shut I' bD g;rw [yJ ha] at I3;exact ⟨.bl true,H,I3,rfl,q1⟩
 ·rw [e];exact ⟨.bl false,_,I',rfl,q2 Sh g e⟩
noncomputable def NF:wF:=λo i v H Q=>∃a b dom f is,o=.ref a/\i=.ref b/\H a=some (.memo dom f)/\H b=some (.tup (is.map V.int))/\is∈dom/\v=.bl (f is)/\∀Sh,Gr dom f Sh->c8 Sh (is.map Vl)=some (.bl (f is))->Q (upd H a (.dT Sh))
theorem JT (hu:X.A.units + 64 < VP):EN X NF:=by
 intro Sa s σ H o i v ov iv u Q I ro ri rv ⟨a,b,dom,f,is,e1,e2,ha,hb,hd,e3,q⟩;subst e1 e2 e3;cases ro;obtain ⟨Sh,g,hl,I2⟩:=Inv.opn I ha;have hne:b≠a:=λz=>by rw [z,ha] at hb;cases hb
 refine uC (a:=a) (y:=.ref b) (v:=.bl (f is)) (by omega) I2 (pL.t (k:=is.map Vl) bD (by rw [a_ hne,<-tM];exact hb) hl) ri rv λs' I'=>?_;rw [Ke] at I';exact ⟨_,I',q _ (Lo g hd) (by rw [GI,if_pos rfl])⟩
noncomputable def HL (td ty:TE):TE:=λσ H Q=>td σ H λx H1=>ty σ H1 λy H2=>∃a b dom f is Sh,x=.ref a/\y=.ref b/\H2 a=some (.dT Sh)/\Gr dom f Sh/\c8 Sh (is.map Vl)=some (.bl (f is))/\H2 b=some (.tup (is.map V.int))/\Q (.bl (f is)) (upd H2 a (.memo dom f))
theorem Jy {o i:Tv}{td ty:TE}{pos:Pos}(hu:X.A.units + 64 < VP) (ho:PE X o td) (hi:PE X i ty) (hs:wg i):PE X (.Subscript o i pos) (HL td ty):=by
 intro Sa s σ H Q I h;refine Ax Ww.lookup hs (bO (ho Sa s σ H _ I h) λu s1 ⟨x,H1,I1,rx,q1⟩=>bO (hi Sa s1 σ H1 _ I1 q1) λiv s2 ⟨y,H2,I2,ry,a,b,dom,f,is,Sh,ex,ey,ha,g,hv,hb,q2⟩=>?_);subst ex ey;obtain rfl:u=Vi a:=rx;have dg:g7 H2 a (.ref b) (some (.bl (f is))):=by rw [<-hv];exact g7.t ha (by rw [<-tM];exact hb)
 exact ⟨oZ I2 dg,uB (by omega) I2 dg ry λw' s3 I3 rw'=>⟨_,_,Inv.shut I3 ha g,rw',q2⟩⟩
end
noncomputable def ku:List D->Option (List Int)
 | []=>some []
 | .int i::r=>(ku r).map (i::·)
 | _=>none
theorem uH {K:Sk}{J:Hp}:∀{xs:List D}{vs:List V}{is:List Int},aL K J xs vs->ku xs=some is->vs=is.map V.int
 | _,_,_,.nil,h=>by cases h;rfl
 | .int i::r,_,_,.cons (.int _) rs,h=>by obtain ⟨js,h1,rfl⟩:=W8.mp (show (ku r).map (i::·)=some _ from h);rw [uH rs h1];rfl
 | .non::_,_,_,_,h=>nomatch h
 | .bl _::_,_,_,_,h=>nomatch h
 | .str _::_,_,_,_,h=>nomatch h
 | .tup _::_,_,_,_,h=>nomatch h
 | .lst _::_,_,_,_,h=>nomatch h
 | .emp::_,_,_,_,h=>nomatch h
 | .exn _ _ _::_,_,_,_,h=>nomatch h
 | .dct _ _::_,_,_,_,h=>nomatch h
 | .ob _ _::_,_,_,_,h=>nomatch h
noncomputable def vL (i j:Nat) (cls fl:Str) (gl ge:G R):G O:=λenv=>gl env >>= λr=>fQ r >>= λxs=>af i (env.set j (some (.d (.tup xs)))) >>= λrp=>iR cls fl rp >>= λrm=>match rm,ku xs,ge (env.set j (some (.d (.tup xs)))) with
 | .d (.ob (.mem dom f) _),some is,.ok (.d (.bl b))=>if (dom.contains is=true/\j < env.length)/\b=f is then .ok (.rt (.d (.bl b))) else .bad
 | _,_,_=>.bad
section
variable {X:Cx}{c:C}{e l:Tv}{g gl:G R}{pos posI posS p1 p2 p3 p4 p5 p6 p7 p8 p9 pa pb pc pd:Pos}
theorem GK {r:R}{α:Type}{k:List D->M α}{P:α->Prop}{T:Exc->Prop}(w:cH (fQ r >>= k) P T):∃xs,fQ r=.ok xs/\cH (k xs) P T:=by
 cases q:fQ r with
 | ok xs=>rw [q] at w;exact ⟨xs,rfl,w⟩
 | bad=>rw [q] at w;exact w.elim
 | exc x=>
  unfold fQ at q;split at q <;> cases q
theorem IF {J H:Hp}{σ:L2.St}{env:Ev}(sr:SR c J H σ env){i:Nat}{α:Type}{k:R->M α}{P:α->Prop}{T:Exc->Prop}(w:cH (af i env >>= k) P T):∃r v,σ[i]?=some (some v)/\RR c H J H r v/\cH (k r) P T:=by
 unfold af at w;cases q:env[i]? with
 | none=>rw [q] at w;exact w.elim
 | some o=>
  cases o with
  | none=>rw [q] at w;exact w.elim
  | some x=>
   rw [q] at w;obtain ⟨v,h1,h2⟩:=sr.at_ i x q;cases x with
   | fn _=>exact w.elim
   | ow2 _=>obtain ⟨a,vs,k1,k2,k3,k4,k5⟩:=h2;exact ⟨.l .own _,v,h1,⟨a,vs,k1,k2,k3,k4,k5.reps⟩,w⟩
   | tn _=>obtain ⟨a,vs,rfl,k1,k2⟩:=h2;exact ⟨.d (.tup _),_,h1,Rep.tup k1 k2.reps,w⟩
   | d y=>exact ⟨.d y,v,h1,h2,w⟩
   | own y=>exact ⟨.l .own y,v,h1,h2,w⟩
   | bor y=>exact ⟨.l .bor y,v,h1,h2,w⟩
   | dk k y=>exact ⟨.mo k y,v,h1,h2,w⟩
   | db k y=>exact ⟨.mb k y,v,h1,h2,w⟩
   | oo k y=>exact ⟨.o .own k y,v,h1,h2,w⟩
   | ob k y=>exact ⟨.o .bor k y,v,h1,h2,w⟩
theorem Eb {i j:Nat}{x y cls fl:Str}(hu:X.A.units + 64 < VP) (A:mF X.K cls fl) (hl:QD X c l gl) (he:QD X c e g) (hN:X.N.Nodup) (hm:X.mg "tuple"=none) (hij:autoParam (j≠i) zB._auto_1) (hK:autoParam (X.K=c.K) zA._auto_1)
  (hi:autoParam (X.N[i]?=some x) zA._auto_1) (hv:mH X.env.scope x:=by first | exact V5 rfl | exact Vh (V5 rfl) | exact Vh (Vh rfl)) (hd:autoParam ((x == ("__debug__":Str))=false) zB._auto_1) (hcd:autoParam ((x == ("__classdict__":Str))=false) zB._auto_1)
  (hj:autoParam (X.N[j]?=some y) zA._auto_1) (Rt:mH X.env.scope y:=by first | exact V5 rfl | exact Vh (V5 rfl) | exact Vh (Vh rfl)) (Rh:autoParam ((y == ("__debug__":Str))=false) zB._auto_1) (Rg:autoParam ((y == ("__classdict__":Str))=false) zB._auto_1)
  (R6:Loc X.env.scope y:=by first | exact V5 rfl | exact Vh rfl) (hg:autoParam (Gl X "tuple") zA._auto_1) (hst:autoParam (SG [l] X.env=(false,eval l X.env)::SG [] X.env) zA._auto_1) (hpl:autoParam ((Vf p2 (SG [] X.env)).any (·.1)=false) zA._auto_1)
  (hs:autoParam (Wc (.Call (.Name "tuple" p1) [l] [] p2) (some (.Name y p3)) pos.line X.env=pure false) zA._auto_1) (hf:X.fn y=true\/X.env.scope.names.lookup y=some .local:=by first | exact .inl rfl | exact .inr rfl)
  (hb1:autoParam (U9 (.Name x p5) fl X.env (eval (.Name x p5) X.env)=eval (.Name x p5) X.env) zA._auto_1) (hb2:autoParam (U9 (.Name x p8) fl X.env (eval (.Name x p8) X.env)=eval (.Name x p8) X.env) zA._auto_1) (RL:autoParam (U9 (.Name x pa) fl X.env (eval (.Name x pa) X.env)=eval (.Name x pa) X.env) zA._auto_1)
  (RW:autoParam (Ui .NotIn (.Attribute (.Name x p5) fl p6)=false) zA._auto_1)
  (ha:∀v,assign (.Subscript (.Attribute (.Name x p8) fl p9) (.Name y pc) posS) X.env v=(do
   let ov <-holding [v] (eval (.Attribute (.Name x p8) fl p9) X.env)
   let iv <-holding [v,ov] (eval (.Name y pc) X.env)
   Ws posS
   (holding [v,ov,iv] (acm ov iv v))
   release [v,ov,iv] []):=by intro _;rfl)
  {q1 q2 q3:Pos}(hs2:autoParam (XM [.Subscript (.Attribute (.Name x p8) fl p9) (.Name y pc) posS] e q1.line X.env=pure false) zA._auto_1) (hw:autoParam (YQ [.Subscript (.Attribute (.Name x p8) fl p9) (.Name y pc) posS] e X.env=pure none) zA._auto_1)
  (h1:autoParam ((VA [.Subscript (.Attribute (.Name x p8) fl p9) (.Name y pc) posS] X.env).map (·.2)=[assign (.Subscript (.Attribute (.Name x p8) fl p9) (.Name y pc) posS) X.env]) zA._auto_1) (hns:wg (.Name y pd):=by exact λ_ _=>rfl):
  kj X c [.Assign [.Name y p3] (.Call (.Name "tuple" p1) [l] [] p2) pos,.If (.Compare (.Name y p4) [.NotIn] [.Attribute (.Name x p5) fl p6] p7) [.Assign [.Subscript (.Attribute (.Name x p8) fl p9) (.Name y pc) posS] e q1] [] posI,.Return (some (.Subscript (.Attribute (.Name x pa) fl pb) (.Name y pd) q2)) q3] (vL i j cls fl gl g):=by
 refine ⟨nK (l_ (rS hN hj R6 (jk mJ hg hm oX (gq hl.h iE hst) (by decide) (by decide) hst hpl) hs hf) (l_ (HA (tZ (LS hu) (fV hj Rt Rh Rg) (rQ (fV hi hv hd hcd) hb1) RW) (oB (yh he.h (DW (rQ (fV hi hv hd hcd) hb2) (fV hj Rt Rh Rg) (JT hu) ha) hs2 hw h1)) Aj) (oB (D6 (Jy hu (rQ (fV hi hv hd hcd) RL) (fV hj Rt Rh Rg) hns))))) λE σ H ⟨J,env,sr,w⟩=>?_⟩;refine ⟨J,env,sr,aC (aG w) λr wr v J1 H1 e1 r1=>?_⟩;obtain ⟨xs,qa,wr⟩:=GK wr;obtain ⟨p,vs,rfl,hq,hr⟩:=RR.list (sr.hp.ext e1) r1 qa;refine ⟨p,vs,rfl,.inl ⟨hK▸hq,λb hb=>?_⟩⟩;have hp1:=sr.hp.ext e1;have e2:Ext J H (upd J1 b (.tup vs)) (upd H1 b (.tup vs)):=e1.trans (Ext.newJ hp1.sub hb _);have sr2:SR c (upd J1 b (.tup vs)) (upd H1 b (.tup vs)) (σ.set j (some (.ref b))) (env.set j (some (.d (.tup xs)))):=(sr.ext e2).setD (x:=.d (.tup xs)) (j6 hp1 hb hr) λx z=>by cases x <;> cases z
 have Rv:upd J1 b (HO.tup vs) b=some (.tup vs):=bD;generalize upd J1 b (HO.tup vs)=J2 at e2 sr2 Rv ⊢;generalize upd H1 b (HO.tup vs)=H2 at e2 sr2 ⊢;have Q3:H2 b=some (.tup vs):=sr2.hp.sub _ _ Rv;obtain ⟨rp,vp,Ru,rrp,wr⟩:=IF sr2 wr;cases qf:iR cls fl rp with
 | bad=>rw [qf] at wr;exact wr.elim
 | exc z=>exact (CV qf).elim
 | ok rm=>
  rw [qf] at wr;have wr:cH (match rm,ku xs,g (env.set j (some (.d (.tup xs)))) with
   | .d (.ob (.mem dom f) _),some is,.ok (.d (.bl b))=>if (dom.contains is=true/\j < env.length)/\b=f is then .ok (.rt (.d (.bl b))) else .bad
   | _,_,_=>.bad) (oP c J E) c.T:=wr
  split at wr
  ·rename_i dom f zs is bb hi2 Q7 _;split at wr
   ·rename_i hc;obtain ⟨a,C,dx,fs,u,rfl,k2,k3,k4,k5,k6⟩:=zM sr2.hp (hK▸A) rrp qf;obtain rfl:=uH hr hi2;cases k6 with
    | ob h hs'=>
     rename_i am vs';obtain ⟨_,RH⟩:=h;have Q2:=sr2.hp.sub _ _ RH;have hne:a≠am:=λz=>by rw [z,Q2] at k2;cases k2
     have hnb:b≠am:=λz=>by rw [z,Q2] at Q3;cases Q3
     have hjl:j < σ.length:=sr.len▸hc.1.2;have hσj:(σ.set j (some (V.ref b)))[j]?=some (some (.ref b)):=T7 hjl;have k3:oO X.K C:=hK▸k3;have k4:gS X.K C fl:=hK▸k4;have hmem:is∈dom:=Wh.mp hc.1.1;obtain rfl:=hc.2;have ret:∀(J3 H3:Hp),Ext J2 H2 J3 H3->∀Sh,Gr dom f Sh->c8 Sh (is.map Vl)=some (.bl (f is))->HL (MQ X.K (B0 i) fl) (B0 j) (σ.set j (some (.ref b))) (upd H3 am (.dT Sh)) E.rt:=λJ3 H3 e3 Sh gr hv=>by refine ⟨.ref a,Ru,a,C,dx,fs,.ref am,rfl,by rw [a_ hne];exact e3.h _ _ k2,k3,k4,k5,.ref b,hσj,am,b,dom,f,is,Sh,rfl,rfl,bD,gr,hv,by rw [a_ hnb];exact e3.h _ _ Q3,?_⟩;rw [yJ (e3.h _ _ Q2)];exact wr (.bl (f is)) J3 H3 (e2.j.trans e3.j) (sr2.hp.ext e3) (.bl _)
     refine ⟨.ref b,hσj,.ref a,Ru,a,C,dx,fs,.ref am,rfl,k2,k3,k4,k5,am,b,dom,f,is,rfl,Q2,rfl,Q3,⟨true,rfl,Ly ?_⟩,λSh gr hv=>⟨false,rfl,Lx ?_⟩⟩
     ·refine ⟨J2,_,sr2,?_⟩;rw [Q7];intro v J3 H3 e3 r3;cases r3;exact ⟨.ref a,Ru,a,C,dx,fs,.ref am,rfl,e3.h _ _ k2,k3,k4,k5,.ref b,hσj,am,b,dom,f,is,rfl,rfl,e3.h _ _ Q2,e3.h _ _ Q3,hmem,rfl,λSh gr hv=>ret J3 H3 e3 Sh gr hv⟩
     ·exact ret J2 H2 (Ext.refl sr2.hp.sub) Sh gr hv
   ·exact wr.elim
  ·exact wr.elim
end
end DL
namespace K16
open PySem DL K01
noncomputable def wJ (w:Wd) (n:Str) (p:Nat):Bool:=match w.ms.find? λr=>r.1 == n with
 | some r=>decide (p∈r.2)
 | none=>false
noncomputable def uM (w:Wd) (n:Str) (p q:Nat):Bool:=match w.ar.find? λr=>r.1 == n with
 | some r=>decide ((p,q)∈r.2)
 | none=>false
def put (ρ:Str->Nat) (a:Str) (p:Nat):Str->Nat:=λb=>if b=a then p else ρ b
def cnt (m:Nat) (f:Nat->Bool):Nat:=((Sx m).filter f).length
noncomputable def sem (w:Wd):Nat->D->(Str->Nat)->Bool
 | 0,_,_=>false
 | k + 1,.tup [.str h,.str a,.str b],ρ=>if h == "mark" then wJ w a (ρ b) else ρ a == ρ b
 | k + 1,.tup [.str _,.str n,.str a,.str b],ρ=>uM w n (ρ a) (ρ b)
 | k + 1,.tup [.str h,.tup ss],ρ=>if h == "not" then !(sem w k (.tup ss) ρ) else if h == "and" then ss.all λs=>sem w k s ρ else ss.any λs=>sem w k s ρ
 | k + 1,.tup [.str h,.str a,.tup xs],ρ=>if h == "some" then decide (1<=cnt w.m λp=>sem w k (.tup xs) (put ρ a p)) else decide (w.m<=cnt w.m λp=>sem w k (.tup xs) (put ρ a p))
 | k + 1,.tup [.str _,.int i,.str a,.tup xs],ρ=>decide (i<=cnt w.m λp=>sem w k (.tup xs) (put ρ a p))
 | _,_,_=>false
noncomputable def tups (m:Nat):Nat->List (List Int)
 | 0=>[[]]
 | k + 1=>(Sx m).flatMap λ(p:Nat)=>(tups m k).map λl=>(p:Int)::l
noncomputable def asg:List Str->List Int->Str->Nat
 | a::as,i::is,b=>if b=a then i.toNat else asg as is b
 | _,_,_=>0
def mu (w:Wd) (d:D):Mm:=(if (K12.bQ 60 d).length<=3 then tups w.m (K12.bQ 60 d).length else [],λis=>sem w 60 d (asg (K12.bQ 60 d) is))
noncomputable def HN:D->Str×List Nat
 | .tup [.str n,.tup xs]=>(n,xs.map K55.iK)
 | _=>(YA,[])
noncomputable def HM:D->Str×List (Nat×Nat)
 | .tup [.str n,.tup xs]=>(n,xs.map K55.jt)
 | _=>(YA,[])
noncomputable def MZ:D->Wd
 | .tup [.int m,.tup ms,.tup ar]=>⟨m.toNat,ms.map HN,ar.map HM⟩
 | _=>⟨0,[],[]⟩
noncomputable def Oa (mu:D->Mm) (i:Nat) (env:Ev):Mm:=match env[i]? with
 | some (some (.d x))=>mu x
 | _=>([],λ_=>false)
noncomputable def LM (i:Nat) (env:Ev):D->Mm:=match env[i]? with
 | some (some (.d x))=>mu (MZ x)
 | _=>λ_=>([],λ_=>false)
end K16
namespace K16
open PySem DL
def qz:List Str:=["world","many","marks","arrows"]
noncomputable def rq:G O:=(av (nq (gc 3 (b7 (aH 1) (b7 (aH 2) (b7 (aH 3) gv)))) (af 0))
 (aM (bV (aq (gN dW (ah (cT 2 [] (gM (af 2)) (gc 2 (b7 (aH 0) (b7 (aH 1) gv))) fk (af 0)) az)) (aq (gN dW (ah (cT 2 [] (gM (af 3)) (gc 2 (b7 (aH 0) (b7 (aH 1) gv))) fk (af 0)) az)) aI)))))
def jw (as:List S):M R:=fin (rq (aF qz as))
def wc:List Str:=["rows","name","one","things"]
noncomputable def xD:G O:=(av (fF (tF (af 0)) (gc 2 (b7 (aH 2) (b7 (aH 3) gv))) (aQ (aT (g2 (bZ false) (af 2) (af 1))) (aM (af 3)) bh))
 vK)
def iM (as:List S):M R:=fin (xD (aF wc as))
def Cf:List Str:=["world","name","point"]
def Dc:G O:=(aM (g2 (ie false) (af 2) (gN (aE 2 K16.iM) (ah (g2 aV (af 0) (gC (.int 1))) (ah (af 1) az)))))
def m7 (as:List S):M R:=fin (Dc (aF Cf as))
def Cg:List Str:=["world","name","one","other"]
def De:G O:=(aM (g2 (ie false) (bV (aq (af 2) (aq (af 3) aI))) (gN (aE 2 K16.iM) (ah (g2 aV (af 0) (gC (.int 2))) (ah (af 1) az)))))
def m9 (as:List S):M R:=fin (De (aF Cg as))
def Ci:List Str:=["world","order","many","marks","arrows","new_marks","new_arrows"]
noncomputable def Df:G O:=(av (nq (gc 3 (b7 (aH 2) (b7 (aH 3) (b7 (aH 4) gv)))) (af 0))
 (av (aN 5 (cT 2 [1] (gM (af 3)) (gc 2 (b7 (aH 0) (b7 (aH 1) gv))) fk (bV (aq (af 0) (aq (gN dW (ah (gN k9 (ah (cT 1 [2] (gM (af 1)) (aH 0) fk (g2 aV (af 1) (af 0))) az)) az)) aI)))))
 (av (aN 6 (cT 2 [1] (gM (af 4)) (gc 2 (b7 (aH 0) (b7 (aH 1) gv))) fk (bV (aq (af 0) (aq (gN dW (ah (gN k9 (ah (cT 2 [2] (gM (af 1)) (gc 2 (b7 (aH 0) (b7 (aH 1) gv))) fk (bV (aq (g2 aV (af 2) (af 0)) (aq (g2 aV (af 2) (af 1)) aI)))) az)) az)) aI)))))
 (aM (bV (aq (af 2) (aq (gN dW (ah (af 5) az)) (aq (gN dW (ah (af 6) az)) aI))))))))
def qp (as:List S):M R:=fin (Df (aF Ci as))
def GU:List Str:=["self","saying","earlier"]
noncomputable def qY (mu:D->Mm) (Fr:List S->M R):G O:=(av (kL 0 "Part" "saying" (af 1))
 (av (kL 0 "Part" "inner" (cT 1 [2] (gM (gN (aE 1 K12.jA) (ah (af 1) az))) (aH 0) fk (C_ 2 (λ_=>Fr) (ah (af 0) (ah (af 1) az)))))
 (av (kL 0 "Part" "table" (Oc (aT (g2 (bZ false) (g2 aV (af 1) (gC (.int 0))) (gC (.str "row")))) (g2 aV (af 2) (g2 aV (af 1) (gC (.int 1)))) (gC .non)))
 (av (kL 0 "Part" "free" (gN (aE 2 K12.ju) (ah (af 1) (ah (xy 2 [] (gM (fE "Part" "inner" (af 0))) (aH 0) fk (tF (fE "Part" "free" (af 0))) (aH 1) fk (af 1)) az))))
 (av (kL 0 "Part" "kept" (bq (g2 (ie false) (g2 aV (af 1) (gC (.int 0))) (gC (.tup [(.str "some"),(.str "every"),(.str "least")]))) (g2 (bT λi j=>.bl (decide (i<=j))) (gN eE (ah (fE "Part" "free" (af 0)) az)) (gC (.int 3)))))
 (Ft 0 "Part" "found" (K16.Oa mu 1)))))))
noncomputable def gV (mu:D->Mm):Nat->List S->M R
 | 0,_=>.bad
 | k + 1,as=>tK "Part" GU (qY mu (gV mu k)) as
def HZ:List Str:=["world","part","places","wanted","letter","spare","here","point"]
noncomputable def zR (Fr:List S->M R):G O:=(av (aN 4 (g2 aV (gN (aE 1 K12.fM) (ah (fE "Part" "saying" (af 1)) az)) (gC (.int 0))))
 (av (aN 5 (g2 gK (g2 aV (af 0) (gC (.int 0))) (af 3)))
 (av (aN 6 (gN xr (ah (af 2) az)))
 (av (fF (dD (ah (g2 aV (af 0) (gC (.int 0))) az)) (aH 7) (av (nv 6 (af 4) (af 7))
 (av (aQ (aT (gN (aE 3 Fr) (ah (af 0) (ah (g2 aV (fE "Part" "inner" (af 1)) (gC (.int 0))) (ah (af 6) az))))) (jW 3 gK (gC (.int 1))) (jW 5 gK (gC (.int 1))))
 (aQ (bX (aT (g2 (bZ false) (af 3) (gC (.int 0)))) (aT (g2 (bT λi j=>.bl (decide (i < j))) (af 5) (gC (.int 0))))) Hf bh))))
 (aM (g2 (bZ false) (af 3) (gC (.int 0))))))))
def jz (Fr:List S->M R) (as:List S):M R:=fin (zR Fr (aF HZ as))
def v_:List Str:=["world","parts","places","truth","part"]
noncomputable def nC (Fr:List S->M R):G O:=(av (fF (tF (af 1)) (aH 4) (aQ (aT (g2 (bZ false) (gN (aE 3 Fr) (ah (af 0) (ah (af 4) (ah (af 2) az)))) (af 3))) (aM (gC (.bl true))) bh))
 (aM (gC (.bl false))))
def gx (Fr:List S->M R) (as:List S):M R:=fin (nC Fr (aF v_ as))
def Cj:List Str:=["world","part","places","saying","word"]
noncomputable def uG (Fr:List S->M R):G O:=(av (aN 3 (fE "Part" "saying" (af 1)))
 (av (aN 4 (g2 aV (af 3) (gC (.int 0))))
 (av (aQ (aT (g2 (bZ false) (af 4) (gC (.str "mark")))) (aM (gN (aE 3 K16.m7) (ah (af 0) (ah (g2 aV (af 3) (gC (.int 1))) (ah (g2 jT (af 2) (g2 aV (af 3) (gC (.int 2)))) az))))) bh)
 (av (aQ (aT (g2 (bZ false) (af 4) (gC (.str "arrow")))) (aM (gN (aE 4 K16.m9) (ah (af 0) (ah (g2 aV (af 3) (gC (.int 1))) (ah (g2 jT (af 2) (g2 aV (af 3) (gC (.int 2)))) (ah (g2 jT (af 2) (g2 aV (af 3) (gC (.int 3)))) az)))))) bh)
 (av (aQ (aT (g2 (bZ false) (af 4) (gC (.str "same")))) (aM (g2 (bZ false) (g2 jT (af 2) (g2 aV (af 3) (gC (.int 1)))) (g2 jT (af 2) (g2 aV (af 3) (gC (.int 2)))))) bh)
 (av (aQ (aT (g2 (bZ false) (af 4) (gC (.str "row")))) (aM (g2 aV (fE "Part" "table" (af 1)) (gN dW (ah (cT 1 [2] (gM (g2 aV (af 3) (gC (.int 2)))) (aH 0) fk (g2 jT (af 1) (af 0))) az)))) bh)
 (av (aQ (aT (g2 (bZ false) (af 4) (gC (.str "not")))) (aM (bw (gN (aE 3 Fr) (ah (af 0) (ah (g2 aV (fE "Part" "inner" (af 1)) (gC (.int 0))) (ah (af 2) az)))))) bh)
 (av (aQ (aT (g2 (bZ false) (af 4) (gC (.str "and")))) (aM (bw (gN (aE 4 (K16.gx Fr)) (ah (af 0) (ah (fE "Part" "inner" (af 1)) (ah (af 2) (ah (gC (.bl false)) az))))))) bh)
 (av (aQ (aT (g2 (bZ false) (af 4) (gC (.str "or")))) (aM (gN (aE 4 (K16.gx Fr)) (ah (af 0) (ah (fE "Part" "inner" (af 1)) (ah (af 2) (ah (gC (.bl true)) az)))))) bh)
 (av (aQ (aT (g2 (bZ false) (af 4) (gC (.str "some")))) (aM (gN (aE 4 (K16.jz Fr)) (ah (af 0) (ah (af 1) (ah (af 2) (ah (gC (.int 1)) az)))))) bh)
 (av (aQ (aT (g2 (bZ false) (af 4) (gC (.str "every")))) (aM (gN (aE 4 (K16.jz Fr)) (ah (af 0) (ah (af 1) (ah (af 2) (ah (g2 aV (af 0) (gC (.int 0))) az)))))) bh)
 (aM (gN (aE 4 (K16.jz Fr)) (ah (af 0) (ah (af 1) (ah (af 2) (ah (g2 aV (af 3) (gC (.int 1))) az)))))))))))))))))
def ia (Fr:List S->M R) (as:List S):M R:=fin (uG Fr (aF Cj as))
def yO:List Str:=["world","part","places","points"]
noncomputable def kP (Fr:List S->M R):G O:=(av (aQ (bC (aT (fE "Part" "kept" (af 1)))) (aM (gN (aE 3 (K16.ia Fr)) (ah (af 0) (ah (af 1) (ah (af 2) az))))) bh)
 (vL 1 3 "Part" "found" (cT 1 [2] (gM (fE "Part" "free" (af 1))) (aH 0) fk (g2 jT (af 1) (af 0))) (gN (aE 3 (K16.ia Fr)) (ah (af 0) (ah (af 1) (ah (af 2) az))))))
noncomputable def d9:Nat->List S->M R
 | 0,_=>.bad
 | k + 1,as=>fin (kP (d9 k) (aF yO as))
def Kz:List Str:=["world","saying","places","tongue","part","asked","letter"]
noncomputable def Dd:G O:=(av (aQ (aT (g2 (G9 false) (af 2) (gC .non))) (vM 2) bh)
 (av (aN 3 (gN (aE 1 K16.jw) (ah (af 0) az)))
 (av (fF (tF (gN (aE 1 K12.ki) (ah (af 1) az))) (aH 4) (aQ (bC (aT (gN (aE 2 K12.jv) (ah (af 4) (ah (af 3) az))))) vK bh))
 (av (aN 5 (C_ 2 (λenv=>K16.gV ((K16.LM 0) env) 60) (ah (af 1) (ah (bV aI) az))))
 (av (fF (tF (fE "Part" "free" (af 5))) (aH 6) (aQ (aT (g2 (xu true) (af 6) (af 2))) vK bh))
 (aM (gN (aE 3 (K16.d9 60)) (ah (af 0) (ah (af 5) (ah (af 2) az))))))))))
def iu (as:List S):M R:=fin (Dd (aF Kz as))
noncomputable def Oq:List Str:=["_law_script","_law_tongue_here","_law_many","_law_world_here","_law_letters_here","_law_saying","_law_order_here","_law_here","_law_there","_law_k","_law_point","_law_one","_law_other"]
noncomputable def Lm:G O:=(av (aN 1 (gN (aE 1 K01.gw) (ah (gN (aE 2 K01.cP) (ah (af 0) (ah (gC (.int 1)) az))) az)))
 (av (aN 2 (g2 bG (gC (.int 1)) (g2 bP (gN (aE 2 K01.cP) (ah (af 0) (ah (gC (.int 0)) az))) (gC (.int 4)))))
 (av (aN 3 (gN (aE 4 K01.fL) (ah (af 0) (ah (gC (.int 2)) (ah (af 2) (ah (af 1) az))))))
 (av (aN 4 (gN (aE 1 K12.gW) (ah (g2 bP (gN (aE 2 K01.cP) (ah (af 0) (ah (gC (.int 8)) az))) (gC (.int 26))) az)))
 (av (aN 5 (gN (aE 3 K12.gQ) (ah (nu jS (af 0) (mO (gC (.int 14))) (mO (gC (.int 62)))) (ah (af 1) (ah (af 4) az)))))
 (av (aN 6 (gN (aE 2 K03.gR) (ah (gN (aE 2 K01.cP) (ah (af 0) (ah (gC (.int 13)) az))) (ah (af 2) az))))
 (av (vM 7)
 (av (vM 8)
 (av (fF (dD (ah (gC (.int 4)) az)) (aH 9) (av (aN 10 (g2 bP (gN (aE 2 K01.cP) (ah (af 0) (ah (g2 bG (gC (.int 9)) (af 9)) az))) (af 2)))
 (av (nv 7 (g2 aV (af 4) (af 9)) (af 10))
 (nv 8 (g2 aV (af 4) (af 9)) (g2 aV (af 6) (af 10))))))
 (av (aN 11 (gN (aE 3 K16.iu) (ah (af 3) (ah (af 5) (ah (af 7) az)))))
 (av (aN 12 (gN (aE 3 K16.iu) (ah (gN (aE 2 K16.qp) (ah (af 3) (ah (af 6) az))) (ah (af 5) (ah (af 8) az)))))
 (aM (bq (cF "bool" (af 11)) (bq (cF "bool" (af 12)) (g2 (bZ false) (af 11) (af 12))))))))))))))))
def sM (as:List S):M R:=fin (Lm (aF Oq as))
end K16
namespace K16
open PySem PySem.Spec PyProof.Rows L2 DL DX
structure fC (w:S9) (K:Sk) (mg:Str->Option Sl):Prop where
 bool:mg "bool"=none
 dict:mg "dict"=none
 isinstance:mg "isinstance"=none
 len:mg "len"=none
 list:mg "list"=none
 max:mg "max"=none
 range:mg "range"=none
 set:mg "set"=none
 sorted:mg "sorted"=none
 tuple:mg "tuple"=none
 BINDERS:AL K mg "BINDERS" (.tup [(.str "some"),(.str "every"),(.str "least")])
 INNER_PLACES:ql K w mg "INNER_PLACES" [("not",(.int 1)),("some",(.int 2)),("every",(.int 2)),("least",(.int 3))]
 LETTER_PLACES:ql K w mg "LETTER_PLACES" [("mark",(.tup [(.int 2)])),("arrow",(.tup [(.int 2),(.int 3)])),("same",(.tup [(.int 1),(.int 2)])),("not",(.tup [])),("and",(.tup [])),("or",(.tup [])),("some",(.tup [(.int 1)])),("every",(.tup [(.int 1)])),("least",(.tup [(.int 2)]))]
 MOST_KEPT_LETTERS:AL K mg "MOST_KEPT_LETTERS" (.int 3)
 if_Part_found:mF K "Part" "found"
 if_Part_free:mF K "Part" "free"
 if_Part_inner:mF K "Part" "inner"
 if_Part_kept:mF K "Part" "kept"
 if_Part_saying:mF K "Part" "saying"
 if_Part_table:mF K "Part" "table"
section
variable {P:SK}{w:S9}{K:Sk}{mg:Str->Option Sl}{base:Uo}{f:SM}{fd:Tj}
abbrev sF:VQ:=top 5
theorem wY (m:fC w K mg) (e:FB K mg "tongue_of" sF):bU P w K mg base 1 1 "tongue_of" K16.jw:=
 qc K16.rq K16.qz 1 e (λnd _ cdv A outer s H E J T hr=>
 (au (mq (aa 0) (fO (bH (aS 1 nd) (bH (aS 2 nd) (bH (aS 3 nd) fc)))))
 (aD (aU (bL (ay (cV (ak (fm (jr ["name","points"] [] (dw (aa 2)) (λ_ _ _ _ _ hc=>⟨(fO (bH (aS 0 (eV rfl)) (bH (aS 1 (eV rfl)) fc))),cD,(aa 0)⟩))) aA) m.tuple) (ay (cV (ak (fm (jr ["name","pairs"] [] (dw (aa 3)) (λ_ _ _ _ _ hc=>⟨(fO (bH (aS 0 (eV rfl)) (bH (aS 1 (eV rfl)) fc))),cD,(aa 0)⟩))) aA) m.tuple) aX)))))))
abbrev yu:VQ:=top 6
theorem A6 (m:fC w K mg) (e:FB K mg "by_name" yu):bU P w K mg base 1 2 "by_name" K16.iM:=
 qc K16.xD K16.wc 2 e (λnd _ cdv A outer s H E J T hr=>
 (au (dM (j4 (aa 0)) (fO (bH (aS 2 nd) (bH (aS 3 nd) fc))) (aD (bz (cj hr.units (aa 2) (aa 1)) (aD (aU (aa 3))) bx)))
 (aD mj)))
abbrev Ej:VQ:=top 7
theorem EY (m:fC w K mg) (P_:bU P w K mg base 1 2 "by_name" K16.iM) (e:FB K mg "bears" Ej):bU P w K mg base 2 3 "bears" K16.m7:=
 qc K16.Dc K16.Cf 3 e (λnd _ cdv A outer s H E J T hr=>
 (aD (aU (nP hr.units (aa 2) (bf P_ hr (ak (aB (aa 0) ao) (ak (aa 1) aA)))))))
abbrev En:VQ:=top 8
theorem E3 (m:fC w K mg) (P_:bU P w K mg base 1 2 "by_name" K16.iM) (e:FB K mg "leads" En):bU P w K mg base 2 4 "leads" K16.m9:=
 qc K16.De K16.Cg 4 e (λnd _ cdv A outer s H E J T hr=>
 (aD (aU (nP hr.units (bL (ay (aa 2) (ay (aa 3) aX))) (bf P_ hr (ak (aB (aa 0) ao) (ak (aa 1) aA)))))))
abbrev Ep:VQ:=top 9
theorem E4 (m:fC w K mg) (e:FB K mg "moved" Ep):bU P w K mg base 1 2 "moved" K16.qp:=
 qc K16.Df K16.Ci 2 e (λnd _ cdv A outer s H E J T hr=>
 (au (mq (aa 0) (fO (bH (aS 2 nd) (bH (aS 3 nd) (bH (aS 4 nd) fc)))))
 (au (Ao 5 nd (jr ["name","points"] [1] (dw (aa 3)) (λ_ _ _ _ _ hc=>⟨(fO (bH (aS 0 (eV rfl)) (bH (aS 1 (eV rfl)) fc))),cD,(bL (ay (aa 0) (ay (cV (ak (uR hr.units (ak (fm (jr ["point"] [2] (dw (aa 1)) (λ_ _ _ _ _ hc=>⟨(aS 0 (eV rfl)),cD,(aB (aa 1) (aa 0))⟩) (CK (zC hc rfl)))) aA) m.sorted) aA) m.tuple) aX)))⟩)))
 (au (Ao 6 nd (jr ["name","pairs"] [1] (dw (aa 4)) (λ_ _ _ _ _ hc=>⟨(fO (bH (aS 0 (eV rfl)) (bH (aS 1 (eV rfl)) fc))),cD,(bL (ay (aa 0) (ay (cV (ak (uR hr.units (ak (fm (jr ["a","b"] [2] (dw (aa 1)) (λ_ _ _ _ _ hc=>⟨(fO (bH (aS 0 (eV rfl)) (bH (aS 1 (eV rfl)) fc))),cD,(bL (ay (aB (aa 2) (aa 0)) (ay (aB (aa 2) (aa 1)) aX)))⟩) (CK (zC hc rfl)))) aA) m.sorted) aA) m.tuple) aX)))⟩)))
 (aD (aU (bL (ay (aa 2) (ay (cV (ak (aa 5) aA) m.tuple) (ay (cV (ak (aa 6) aA) m.tuple) aX))))))))))
abbrev pJ:VQ:=top 15
theorem vt (m:fC w K mg) (e:FB K mg "letters_at" pJ):bU P w K mg base 1 1 "letters_at" K12.fM:=
 qc K12.o9 K12.oW 1 e (λnd _ cdv A outer s H E J T hr=>
 (au (bz (cj hr.units (aB (aa 0) ao) br) (aD (aU (Gp (ak (aB (aa 0) ao) aA) m.list))) bx)
 (aD (aU (fm (jr ["place"] [0] (dw (yo m.LETTER_PLACES (aB (aa 0) ao))) (λ_ _ _ _ _ hc=>⟨(aS 0 (eV rfl)),cD,(aB (aa 1) (aa 0))⟩)))))))
abbrev Az:VQ:=top 16
theorem CG (m:fC w K mg) (e:FB K mg "within" Az):bU P w K mg base 1 1 "within" K12.jA:=
 qc K12.zS K12.zj 1 e (λnd _ cdv A outer s H E J T hr=>
 (au (aO 1 nd (aB (aa 0) ao))
 (au (bz (D7 hr.units (aa 1) (bL (ay br (ay br aX)))) (aD (aU (aB (aa 0) ao))) bx)
 (au (bz (JH m.INNER_PLACES (aa 1)) (aD (aU (bL (ay (aB (aa 0) (yo m.INNER_PLACES (aa 1))) aX)))) bx)
 (aD (aU (bL aX)))))))
abbrev uZ:VQ:=top 17
theorem yS (m:fC w K mg) (P9:bU P w K mg base 1 1 "within" K12.jA) (e:FB K mg "parts_of" uZ):bU P w K mg base 2 1 "parts_of" K12.ki:=
 qc K12.uF K12.uu 1 e (λnd _ cdv A outer s H E J T hr=>
 (au (aO 1 nd (dB aX))
 (au (aO 2 nd (dB (ay (aa 0) aX)))
 (au (BP 2000 (JI (aa 2)) (au (Gm 3 2 nd)
 (au (eu 1 (aa 3))
 (aD (yZ 2 (JK (bf P9 hr (ak (aa 3) aA)) Ny))))))
 (aD (aU (aa 1)))))))
abbrev sq:VQ:=top 18
theorem wO (m:fC w K mg) (P0:bU P w K mg base 1 1 "letters_at" K12.fM) (e:FB K mg "free_from" sq):bU P w K mg base 2 2 "free_from" K12.ju:=
 qc K12.q9 K12.qx 2 e (λnd _ cdv A outer s H E J T hr=>
 (au (aO 2 nd (bf P0 hr (ak (aa 0) aA)))
 (au (bz (D7 hr.units (aB (aa 0) ao) (nO m.BINDERS)) (aD (aU (rX (Mv ["letter"] [2] (dw (aa 1)) (λ_ _ _ _ _ hc=>⟨(aS 0 (eV rfl)),(Ec (D9 hr.units (aa 0) (aa 1))),(aa 0)⟩)) m.sorted))) bx)
 (aD (aU (rX (JL (ak (Gn (aa 2) (aa 1)) aA) m.set) m.sorted))))))
abbrev su:VQ:=top 19
theorem wQ (m:fC w K mg) (e:FB K mg "is_spoken" su):bU P w K mg base 1 2 "is_spoken" K12.jv:=
 qc K12.q_ K12.qy 2 e (λnd _ cdv A outer s H E J T hr=>
 (au (mq (aa 1) (fO (bH (aS 2 nd) (bH (aS 3 nd) fc))))
 (au (bz (cj hr.units (aB (aa 0) ao) br) (aD (aU (nP hr.units (aB (aa 0) ao) (aa 2)))) bx)
 (au (bz (cj hr.units (aB (aa 0) ao) br) (aD (aU (nP hr.units (aB (aa 0) ao) (aa 3)))) bx)
 (aD (aU nN))))))
abbrev oH:VQ:=topC 20 0
theorem MH:cS ["self","saying","earlier"] ["self","saying","earlier"] (aJ oH):=⟨rfl,rfl,rfl,by decide +kernel,rfl,by decide +kernel,by decide +kernel⟩
theorem zz (m:fC w K mg) (P9:bU P w K mg base 1 1 "within" K12.jA) (Qa:bU P w K mg base 2 2 "free_from" K12.ju) (F:gg K "__init__" "Part.__init__" oH f fd){C:SM}(M:Mk K C f) (hm:mg "Part"=some (.ref C)) (hC:S8 K SY "Part"=some (some (.ref C))) (ik:m_ K C) (mu:D->Mm):∀fu:Nat,vY P w K mg base (2 + 2 * fu) 2 "Part" (K16.gV mu fu)
 | 0=>EX (ps:=["self","saying","earlier"]) F M hm (λ_ _ _ _ _ _ us hl=>match us,hl with | [_,_,_],_=>rfl) (λ_=>rfl)
 | fu + 1=>
  have sc:=MH;have hself:=zz m P9 Qa F M hm hC ik mu fu
  let Fr:=K16.gV mu fu
  Gk (k:=2 + 2 * fu + 1) (gB:=K16.qY mu (K16.gV mu fu)) F M hm hC ik sc (λ_ _ _ _ _ _ us hl=>match us,hl with | [_,_,_],_=>rfl) rfl (λcdv A outer s H E H0 J T hr=>
 (lE (nL 0 m.if_Part_saying (aa 1))
 (lE (nL 0 m.if_Part_inner (fm (jr ["one"] [2] (dw (bf P9 hr (ak (aa 1) aA) (by omega))) (λ_ _ _ _ _ hc=>⟨(aS 0 (eV rfl)),cD,(Ea (λ_=>()) (F:=λ_=>Fr) (λ_=>hself) hr (ak (aa 0) (ak (aa 1) aA)) (by omega))⟩))))
 (lE (nL 0 m.if_Part_table (JJ (cj hr.units (aB (aa 1) ao) br) (aB (aa 2) (aB (aa 1) ao)) Aq))
 (lE (nL 0 m.if_Part_free (bf Qa hr (ak (aa 1) (ak (fm (OB ["part","letter"] [] (dw (ff m.if_Part_inner (aa 0))) (λ_ _ _ _ _ hc=>⟨(aS 0 (eV rfl)),cD,(j4 (ff m.if_Part_free (aa 0))),(aS 1 (eV rfl)),cD,(aa 1)⟩))) aA)) (by omega)))
 (lE (nL 0 m.if_Part_kept (uc (nP hr.units (aB (aa 1) ao) (nO m.BINDERS)) (yl (Mu (fW (ak (ff m.if_Part_free (aa 0)) aA) m.len) (nO m.MOST_KEPT_LETTERS)))))
 (Ms (Mr 0 (K16.Oa mu 1) m.if_Part_found))))))))
abbrev oJ:VQ:=top 21
theorem GA:cS ["world","part","places","wanted","letter","spare","here","point"] ["world","part","places","wanted"] (aJ oJ):=⟨rfl,rfl,rfl,by decide +kernel,rfl,by decide +kernel,by decide +kernel⟩
theorem Cz (m:fC w K mg) (P0:bU P w K mg base 1 1 "letters_at" K12.fM){Fr:List S->M R}{L:Nat}(hL:2<=L) (hself:bU P w K mg base L 3 "part_holds" Fr) (F:gg K "enough" "enough" oJ f fd) (hm:mg "enough"=some (.ref f)):bU P w K mg base (L + 1) 4 "enough" (K16.jz Fr):=
 have sc:=GA
 lD (k:=L + 0) (gB:=K16.zR Fr) F hm sc (λ_ _ _ _ _ _ us hl=>match us,hl with | [_,_,_,_],_=>rfl) (λcdv A outer s H E J T hr=>
 (au (aO 4 sc.nd (aB (bf P0 hr (ak (ff m.if_Part_saying (aa 1)) aA) (by omega)) ao))
 (au (aO 5 sc.nd (ud (aB (aa 0) ao) (aa 3)))
 (au (aO 6 sc.nd (D_ (ak (aa 2) aA) m.dict))
 (au (dM (cL (ak (aB (aa 0) ao) aA) m.range) (aS 7 sc.nd) (au (qb 6 hr.units (aa 7) (aa 4))
 (au (bz (ua (bf hself hr (ak (aa 0) (ak (aB (ff m.if_Part_inner (aa 1)) ao) (ak (aa 6) aA))) (by omega))) (aD (uQ 3 sc.nd ao)) (aD (uQ 5 sc.nd ao)))
 (aD (bz (iY (rV (cj hr.units (aa 3) ao) (t_ (jF BI (iC λ_ _ _=>.bl _) (aa 5) ao)))) (aD BO) bx)))))
 (aD (aU (yp hr.units (aa 3) ao)))))))) (λas r _ h=>h)
abbrev iF:VQ:=top 22
theorem vC:cS ["world","parts","places","truth","part"] ["world","parts","places","truth"] (aJ iF):=⟨rfl,rfl,rfl,by decide +kernel,rfl,by decide +kernel,by decide +kernel⟩
theorem sZ (m:fC w K mg){Fr:List S->M R}{L:Nat}(hL:2<=L) (hself:bU P w K mg base L 3 "part_holds" Fr) (F:gg K "any_part_is" "any_part_is" iF f fd) (hm:mg "any_part_is"=some (.ref f)):bU P w K mg base (L + 1) 4 "any_part_is" (K16.gx Fr):=
 have sc:=vC
 lD (k:=L + 0) (gB:=K16.nC Fr) F hm sc (λ_ _ _ _ _ _ us hl=>match us,hl with | [_,_,_,_],_=>rfl) (λcdv A outer s H E J T hr=>
 (au (dM (j4 (aa 1)) (aS 4 sc.nd) (aD (bz (cj hr.units (bf hself hr (ak (aa 0) (ak (aa 4) (ak (aa 2) aA))) (by omega)) (aa 3)) (aD (aU nN)) bx)))
 (aD (aU nN)))) (λas r _ h=>h)
abbrev kG:VQ:=top 23
theorem BU:cS ["world","part","places","saying","word"] ["world","part","places"] (aJ kG):=⟨rfl,rfl,rfl,by decide +kernel,rfl,by decide +kernel,by decide +kernel⟩
theorem yT (m:fC w K mg) (Qi:bU P w K mg base 2 3 "bears" K16.m7) (Qj:bU P w K mg base 2 4 "leads" K16.m9){Fr:List S->M R}{L:Nat}(hL:2<=L) (hself:bU P w K mg base L 3 "part_holds" Fr) (P4:bU P w K mg base (L + 1) 4 "any_part_is" (K16.gx Fr)) (P7:bU P w K mg base (L + 1) 4 "enough" (K16.jz Fr)) (F:gg K "reckoned" "reckoned" kG f fd) (hm:mg "reckoned"=some (.ref f)):bU P w K mg base (L + 2) 3 "reckoned" (K16.ia Fr):=
 have sc:=BU
 lD (k:=L + 1) (gB:=K16.uG Fr) F hm sc (λ_ _ _ _ _ _ us hl=>match us,hl with | [_,_,_],_=>rfl) (λcdv A outer s H E J T hr=>
 (au (aO 3 sc.nd (ff m.if_Part_saying (aa 1)))
 (au (aO 4 sc.nd (aB (aa 3) ao))
 (au (bz (cj hr.units (aa 4) br) (aD (aU (bf Qi hr (ak (aa 0) (ak (aB (aa 3) ao) (ak (iZ hr.units (aa 2) (aB (aa 3) ao)) aA))) (by omega)))) bx)
 (au (bz (cj hr.units (aa 4) br) (aD (aU (bf Qj hr (ak (aa 0) (ak (aB (aa 3) ao) (ak (iZ hr.units (aa 2) (aB (aa 3) ao)) (ak (iZ hr.units (aa 2) (aB (aa 3) ao)) aA)))) (by omega)))) bx)
 (au (bz (cj hr.units (aa 4) br) (aD (aU (yp hr.units (iZ hr.units (aa 2) (aB (aa 3) ao)) (iZ hr.units (aa 2) (aB (aa 3) ao))))) bx)
 (au (bz (cj hr.units (aa 4) br) (aD (aU (aB (ff m.if_Part_table (aa 1)) (cV (ak (fm (jr ["letter"] [2] (dw (aB (aa 3) ao)) (λ_ _ _ _ _ hc=>⟨(aS 0 (eV rfl)),cD,(iZ hr.units (aa 1) (aa 0))⟩))) aA) m.tuple)))) bx)
 (au (bz (cj hr.units (aa 4) br) (aD (aU (Ar (bf hself hr (ak (aa 0) (ak (aB (ff m.if_Part_inner (aa 1)) ao) (ak (aa 2) aA))) (by omega))))) bx)
 (au (bz (cj hr.units (aa 4) br) (aD (aU (Ar (bf P4 hr (ak (aa 0) (ak (ff m.if_Part_inner (aa 1)) (ak (aa 2) (ak nN aA)))) (by omega))))) bx)
 (au (bz (cj hr.units (aa 4) br) (aD (aU (bf P4 hr (ak (aa 0) (ak (ff m.if_Part_inner (aa 1)) (ak (aa 2) (ak nN aA)))) (by omega)))) bx)
 (au (bz (cj hr.units (aa 4) br) (aD (aU (bf P7 hr (ak (aa 0) (ak (aa 1) (ak (aa 2) (ak ao aA)))) (by omega)))) bx)
 (au (bz (cj hr.units (aa 4) br) (aD (aU (bf P7 hr (ak (aa 0) (ak (aa 1) (ak (aa 2) (ak (aB (aa 0) ao) aA)))) (by omega)))) bx)
 (aD (aU (bf P7 hr (ak (aa 0) (ak (aa 1) (ak (aa 2) (ak (aB (aa 3) ao) aA)))) (by omega)))))))))))))))) (λas r _ h=>h)
abbrev kW:VQ:=top 24
theorem yv:cS ["world","part","places","points"] ["world","part","places"] (aJ kW):=⟨rfl,rfl,rfl,by decide +kernel,rfl,by decide +kernel,by decide +kernel⟩
theorem mK (m:fC w K mg) (P0:bU P w K mg base 1 1 "letters_at" K12.fM) (Qi:bU P w K mg base 2 3 "bears" K16.m7) (Qj:bU P w K mg base 2 4 "leads" K16.m9) (F:gg K "part_holds" "part_holds" kW f fd) (hm:mg "part_holds"=some (.ref f)){fenough:SM}{fdenough:Tj}(Fenough_:gg K "enough" "enough" oJ fenough fdenough) (Qp:mg "enough"=some (.ref fenough)){fany_part_is:SM}{fdany_part_is:Tj}(Fany_part_is_:gg K "any_part_is" "any_part_is" iF fany_part_is fdany_part_is) (P5:mg "any_part_is"=some (.ref fany_part_is)){freckoned:SM}{fdreckoned:Tj}(Freckoned_:gg K "reckoned" "reckoned" kG freckoned fdreckoned) (Qc:mg "reckoned"=some (.ref freckoned)):∀fu:Nat,bU P w K mg base (2 + 3 * fu) 3 "part_holds" (K16.d9 fu)
 | 0=>Im (ps:=["world","part","places"]) F hm (λ_ _ _ _ _ _ us hl=>match us,hl with | [_,_,_],_=>rfl) (λ_=>rfl)
 | fu + 1=>
  have sc:=yv;have hself:=mK m P0 Qi Qj F hm Fenough_ Qp Fany_part_is_ P5 Freckoned_ Qc fu;have P7:=Cz m P0 (L:=2 + 3 * fu) (by omega) hself Fenough_ Qp;have P4:=sZ m (L:=2 + 3 * fu) (by omega) hself Fany_part_is_ P5;have Qg:=yT m Qi Qj (L:=2 + 3 * fu) (by omega) hself P4 P7 Freckoned_ Qc
  lD (k:=2 + 3 * fu + 2) (gB:=K16.kP (K16.d9 fu)) F hm sc (λ_ _ _ _ _ _ us hl=>match us,hl with | [_,_,_],_=>rfl) (λcdv A outer s H E J T hr=>
 (au (bz (An (ua (ff m.if_Part_kept (aa 1)))) (aD (aU (bf Qg hr (ak (aa 0) (ak (aa 1) (ak (aa 2) aA))) (by omega)))) bx)
 (by refine Eb (i:=1) (j:=3) hr.units m.if_Part_found ?_ ?_ sc.nd m.tuple;exact (fm (jr ["letter"] [2] (dw (ff m.if_Part_free (aa 1))) (λ_ _ _ _ _ hc=>⟨(aS 0 (eV rfl)),cD,(iZ hr.units (aa 1) (aa 0))⟩)));exact (bf Qg hr (ak (aa 0) (ak (aa 1) (ak (aa 2) aA))) (by omega))))) (λas r _ h=>h)
abbrev jm:VQ:=top 25
theorem JQ:cS ["world","saying","places","tongue","part","asked","letter"] ["world","saying","places"] (aJ jm):=⟨rfl,rfl,rfl,by decide +kernel,rfl,by decide +kernel,by decide +kernel⟩
theorem Fq (m:fC w K mg) (Q4:∀m,vY P w K mg base 122 2 "Part" (K16.gV m 60)) (Qw:bU P w K mg base 1 1 "tongue_of" K16.jw) (Qx:bU P w K mg base 2 1 "parts_of" K12.ki) (Qu:bU P w K mg base 1 2 "is_spoken" K12.jv) (Qq:bU P w K mg base 182 3 "part_holds" (K16.d9 60)) (F:lN K "holds" "holds" jm f fd):eT P w K mg base (ur P w) 183 f fd ["world","saying","places"] (yC K 3 K16.iu):=
 have sc:=JQ
 IA (k:=182) (gB:=K16.Dd) F sc (λcdv A outer s H E J hr=>kj.h (
 (au (bz (Mt (aa 2) Aq) (aD (nM 2 sc.nd)) bx)
 (au (aO 3 sc.nd (bf Qw hr (ak (aa 0) aA)))
 (au (dM (j4 (bf Qx hr (ak (aa 1) aA))) (aS 4 sc.nd) (aD (bz (An (ua (bf Qu hr (ak (aa 4) (ak (aa 3) aA))))) (aD mj) bx)))
 (au (aO 5 sc.nd (Ea (K16.LM 0) (F:=λm=>K16.gV m 60) Q4 hr (ak (aa 1) (ak (bL aX) aA))))
 (au (dM (j4 (ff m.if_Part_free (aa 5))) (aS 6 sc.nd) (aD (bz (BN hr.units (aa 6) (aa 2)) (aD mj) bx)))
 (aD (aU (bf Qq hr (ak (aa 0) (ak (aa 5) (ak (aa 2) aA))))))))))))) (λ_ _ _=>rfl)
theorem EZ (G:eT P w K mg base (ur P w) 183 f fd ["world","saying","places"] (yC K 3 K16.iu)) (F:lN K "holds" "holds" jm f fd) (hm:mg "holds"=some (.ref f)):EJ P w K mg base 183 3 "holds" K16.iu:=⟨f,fd,["world","saying","places"],G,hm,F.kp,F.bindsAll (λT kV doc pm an cdv ct us hl=>match us,hl with | [_,_,_],_=>⟨_,rfl,rfl⟩)⟩
theorem Cy (G:eT P w K mg base (ur P w) 183 f fd ["world","saying","places"] (yC K 3 K16.iu)) (F:lN K "holds" "holds" jm f fd) (hm:mg "holds"=some (.ref f)):Om P w K mg base 183 2 "holds" K16.iu:=⟨f,fd,["world","saying","places"],G,hm,F.kp,F.bindsOne (λT kV doc pm an cdv ct us hl=>match us,hl with | [_,_],_=>⟨_,rfl,rfl⟩)⟩
abbrev r9:VQ:=top 27
theorem wL (m:fC w K mg) (e:FB K mg "_law_cell" r9):bU P w K mg base 1 2 "_law_cell" K01.cP:=
 qc K01.lU K01.jx 2 e (λnd _ cdv A outer s H E J T hr=>
 (au (bz (jF BI (iC λ_ _ _=>.bl _) (aa 1) (fW (ak (aa 0) aA) m.len)) (aD (aU (bg (aB (aa 0) (aa 1)) (oG ao ao)))) bx)
 (aD (aU ao))))
abbrev pD:VQ:=top 28
theorem vj (m:fC w K mg) (e:FB K mg "_law_names" pD):bU P w K mg base 1 2 "_law_names" K01.fK:=
 qc K01.kM K01.oR 2 e (λnd _ cdv A outer s H E J T hr=>
 (au (aO 2 nd (bg (dQ (aa 0) ao) ao))
 (au (aO 3 nd (aB br (bg (aa 2) ao)))
 (au (aO 4 nd (bR ao (bg (cJ (aa 2) ao) ao)))
 (au (bz (cj hr.units (bg (cJ (aa 2) ao) ao) ao) (aD (aU (fm (jr ["_law_k"] [3] (p_ (cL (ak (aa 1) aA) m.range)) (λ_ _ _ _ _ hc=>⟨(aS 0 (eV rfl)),cD,(dQ (aa 1) (bR ao (aa 0)))⟩))))) bx)
 (au (bz (cj hr.units (bg (cJ (aa 2) ao) ao) ao) (au (aO 5 nd (dB (ay br (ay br (ay br (ay br (ay br (ay br (ay br (ay br aX))))))))))
 (au (aO 6 nd (bg (cJ (aa 2) ao) ao))
 (au (aO 7 nd br)
 (aD (aU (rY (ak (fm (jr ["_law_k"] [5,6,7,2] (p_ (cL (ak (aa 1) aA) m.range)) (λ_ _ _ _ _ hc=>⟨(aS 0 (eV rfl)),cD,(bR (aB (bR (aa 1) (aa 1)) (bR (aa 2) (aa 0))) (aB (aa 3) (bg (cJ (aa 4) ao) ao)))⟩))) aA) m.sorted)))))) bx)
 (au (aO 8 nd (bg (cJ (aa 2) ao) (aa 4)))
 (au (aO 9 nd (dB aX))
 (au (dM (cL (ak (aa 1) aA) m.range) (aS 10 nd) (au (aO 11 nd (aB br (bg (bR (cJ (aa 2) ao) (dQ ao (aa 10))) ao)))
 (aD (eu 9 (bR (bR (dQ (aa 3) (aa 8)) (aa 11)) (dQ (aa 3) (ud (ud (aa 4) ao) (aa 8))))))))
 (aD (aU (rY (ak (aa 9) aA) m.sorted))))))))))))
abbrev sd:VQ:=top 29
theorem wN (m:fC w K mg) (e:FB K mg "_law_some" sd):bU P w K mg base 1 2 "_law_some" K01.gG:=
 qc K01.lV ["_law_bits","_law_many","_law_found","_law_point"] 2 e (λnd _ cdv A outer s H E J T hr=>
 (au (aO 2 nd (dB aX))
 (au (dM (cL (ak (aa 1) aA) m.range) (aS 3 nd) (au (bz (cj hr.units (bg (aa 0) ao) ao) (aD (eu 2 (aa 3))) bx)
 (aD (aO 0 nd (cJ (aa 0) ao)))))
 (aD (aU (cV (ak (aa 2) aA) m.tuple))))))
abbrev pH:VQ:=top 30
theorem vn (m:fC w K mg) (e:FB K mg "_law_pairs" pH):bU P w K mg base 1 2 "_law_pairs" K01.gn:=
 qc K01.kN K01.oU 2 e (λnd _ cdv A outer s H E J T hr=>
 (au (aO 2 nd (dB aX))
 (au (dM (cL (ak (aa 1) aA) m.range) (aS 3 nd) (aD (dM (cL (ak (aa 1) aA) m.range) (aS 4 nd) (au (bz (cj hr.units (bg (aa 0) ao) ao) (aD (eu 2 (bL (ay (aa 3) (ay (aa 4) aX))))) bx)
 (aD (aO 0 nd (cJ (aa 0) ao)))))))
 (aD (aU (cV (ak (aa 2) aA) m.tuple))))))
abbrev nU:VQ:=top 31
theorem sY (m:fC w K mg) (Ql:bU P w K mg base 1 2 "_law_names" K01.fK) (e:FB K mg "_law_tongue" nU):bU P w K mg base 2 1 "_law_tongue" K01.gw:=
 qc K01.jX K01.ng 1 e (λnd _ cdv A outer s H E J T hr=>
 (au (aO 1 nd (bf Ql hr (ak (aa 0) (ak ao aA))))
 (au (aO 2 nd (bg (dQ (aa 0) ao) ao))
 (au (aO 3 nd (bg (cJ (aa 2) ao) ao))
 (aD (aU (bL (ay (cV (ak (ig (aa 1) ir (e_ (bg (aa 2) ao))) aA) m.tuple) (ay (cV (ak (ig (aa 1) (e_ (aa 3)) (e_ (bR (aa 3) (bg (cJ (aa 2) ao) ao)))) aA) m.tuple) aX)))))))))
abbrev pI:VQ:=top 32
theorem vo (m:fC w K mg) (PZ:bU P w K mg base 1 2 "_law_cell" K01.cP) (Qt:bU P w K mg base 1 2 "_law_some" K01.gG) (Qn:bU P w K mg base 1 2 "_law_pairs" K01.gn) (e:FB K mg "_law_world" pI):bU P w K mg base 2 4 "_law_world" K01.fL:=
 qc K01.kO K01.oV 4 e (λnd _ cdv A outer s H E J T hr=>
 (au (aO 4 nd (dB aX))
 (au (dM (cL (ak (fW (ak (aB (aa 3) ao) aA) m.len) aA) m.range) (aS 5 nd) (aD (eu 4 (bL (ay (aB (aB (aa 3) ao) (aa 5)) (ay (bf Qt hr (ak (bg (dQ (bf PZ hr (ak (aa 0) (ak (bR (aa 1) (aa 5)) aA))) ao) (oG ao ao)) (ak (aa 2) aA))) aX))))))
 (au (aO 6 nd (dB aX))
 (au (dM (cL (ak (fW (ak (aB (aa 3) ao) aA) m.len) aA) m.range) (aS 5 nd) (au (aO 7 nd (bg (dQ (bf PZ hr (ak (aa 0) (ak (bR (bR (aa 1) ao) (aa 5)) aA))) ao) (oG ao ao)))
 (aD (eu 6 (bL (ay (aB (aB (aa 3) ao) (aa 5)) (ay (bf Qn hr (ak (aa 7) (ak (aa 2) aA))) aX)))))))
 (aD (aU (bL (ay (aa 2) (ay (cV (ak (aa 4) aA) m.tuple) (ay (cV (ak (aa 6) aA) m.tuple) aX)))))))))))
abbrev mY:VQ:=top 33
theorem qJ (m:fC w K mg) (e:FB K mg "_law_letters" mY):bU P w K mg base 1 1 "_law_letters" K12.gW:=
 qc K12.mP K12.mG 1 e (λnd _ cdv A outer s H E J T hr=>
 (aD (aU (fm (jr ["_law_k"] [0] (p_ (cL (ak ao aA) m.range)) (λ_ _ _ _ _ hc=>⟨(aS 0 (eV rfl)),cD,(aB br (bg (bR (aa 1) (dQ ao (aa 0))) ao))⟩))))))
abbrev r_:VQ:=top 34
theorem wM (m:fC w K mg) (e:FB K mg "_law_leaf" r_):bU P w K mg base 1 3 "_law_leaf" K12.gF:=
 qc K12.qZ K12.qw 3 e (λnd _ cdv A outer s H E J T hr=>
 (au (aO 3 nd (aB (aa 2) (bg (cJ (aa 0) ao) ao)))
 (au (aO 4 nd (aB (aa 2) (bg (cJ (aa 0) ao) ao)))
 (au (bz (iY (oF (cj hr.units (bg (aa 0) ao) ao) (mh (D8 hr.units (aB (aa 1) ao) (bL aX))))) (aD (aU (bL (ay br (ay (aB (aB (aa 1) ao) (bg (cJ (aa 0) ao) (fW (ak (aB (aa 1) ao) aA) m.len))) (ay (aa 3) aX)))))) bx)
 (au (bz (iY (oF (cj hr.units (bg (aa 0) ao) ao) (mh (D8 hr.units (aB (aa 1) ao) (bL aX))))) (aD (aU (bL (ay br (ay (aB (aB (aa 1) ao) (bg (cJ (aa 0) ao) (fW (ak (aB (aa 1) ao) aA) m.len))) (ay (aa 3) (ay (aa 4) aX))))))) bx)
 (aD (aU (bL (ay br (ay (aa 3) (ay (aa 4) aX)))))))))))
abbrev mZ:VQ:=top 35
theorem qK (m:fC w K mg) (e:FB K mg "_law_wrapped" mZ):bU P w K mg base 1 3 "_law_wrapped" K12.gf:=
 qc K12.mQ ["_law_number","_law_letters_here","_law_top","_law_saying","_law_deep","_law_high","_law_letter"] 3 e (λnd _ cdv A outer s H E J T hr=>
 (au (mq (aa 2) (fO (bH (aS 3 nd) (bH (aS 4 nd) (bH (aS 5 nd) fc)))))
 (au (aO 6 nd (aB (aa 1) (bg (cJ (aa 0) ao) ao)))
 (au (bz (iY (rV (cj hr.units (bg (aa 0) ao) ao) (t_ (jF BH (iC λ_ _ _=>.bl _) (aa 4) ao)))) (aD (aU (bL (ay (bL (ay br (ay (aa 3) aX))) (ay (aa 4) (ay (bR (aa 5) ao) aX)))))) bx)
 (au (bz (cj hr.units (bg (aa 0) ao) ao) (aD (aU (bL (ay (bL (ay br (ay (bR ao (bg (cJ (aa 0) ao) (aB (dB (ay ao (ay ao aX))) (bg (cJ (aa 0) ao) ao)))) (ay (aa 6) (ay (aa 3) aX))))) (ay (bR (aa 4) ao) (ay (bR (aa 5) ao) aX)))))) bx)
 (aD (aU (bL (ay (bL (ay (aB (dB (ay br (ay br aX))) (bg (aa 0) ao)) (ay (aa 6) (ay (aa 3) aX)))) (ay (bR (aa 4) ao) (ay (bR (aa 5) ao) aX)))))))))))
abbrev nT:VQ:=top 36
theorem sX (m:fC w K mg) (e:FB K mg "_law_joined" nT):bU P w K mg base 1 2 "_law_joined" K12.fT:=
 qc K12.ny ["_law_number","_law_some_here","_law_parts","_law_deep","_law_high"] 2 e (λnd _ cdv A outer s H E J T hr=>
 (au (aO 2 nd (cV (ak (fm (jr ["_law_one"] [] (dw (aa 1)) (λ_ _ _ _ _ hc=>⟨(aS 0 (eV rfl)),cD,(aB (aa 0) ao)⟩))) aA) m.tuple))
 (au (aO 3 nd (yq (fm (jr ["_law_one"] [] (dw (aa 1)) (λ_ _ _ _ _ hc=>⟨(aS 0 (eV rfl)),cD,(aB (aa 0) ao)⟩))) m.max))
 (au (aO 4 nd (yq (fm (jr ["_law_one"] [] (dw (aa 1)) (λ_ _ _ _ _ hc=>⟨(aS 0 (eV rfl)),cD,(aB (aa 0) ao)⟩))) m.max))
 (au (bz (cj hr.units (fW (ak (aa 1) aA) m.len) ao) (aD (aU (aB (aa 1) ao))) bx)
 (aD (aU (bL (ay (bL (ay (aB (dB (ay br (ay br aX))) (bg (aa 0) ao)) (ay (aa 2) aX))) (ay (aa 3) (ay (bR (aa 4) ao) aX)))))))))))
abbrev pC:VQ:=top 37
theorem vh (m:fC w K mg) (Qs:bU P w K mg base 1 3 "_law_leaf" K12.gF) (P6:bU P w K mg base 1 2 "_law_joined" K12.fT) (Qe:bU P w K mg base 1 3 "_law_wrapped" K12.gf) (e:FB K mg "_law_grown" pC):bU P w K mg base 2 3 "_law_grown" K12.gQ:=
 qc K12.o7 K12.oQ 3 e (λnd _ cdv A outer s H E J T hr=>
 (au (aO 3 nd (dB aX))
 (au (dM (cL (ak (fW (ak (aa 0) aA) m.len) aA) m.range) (aS 4 nd) (au (aO 5 nd (bg (dQ (bR (bg (aB (aa 0) (aa 4)) (oG ao ao)) (dQ ao (aa 4))) ao) ao))
 (au (aO 6 nd (bg (aa 5) ao))
 (au (aO 7 nd (cJ (aa 5) ao))
 (aD (bz (iY (rV (cj hr.units (aa 3) (dB aX)) (rV (jF BI (iC λ_ _ _=>.bl _) (aa 6) ao) (t_ (jF BH (iC λ_ _ _=>.bl _) (aB (aB (aa 3) (lF ao)) ao) ao))))) (aD (eu 3 (bL (ay (bf Qs hr (ak (aa 7) (ak (aa 1) (ak (aa 2) aA)))) (ay ao (ay ao aX)))))) (aD (bz (iY (oF (cj hr.units (aa 6) ao) (mh (jF BH (iC λ_ _ _=>.bl _) (fW (ak (aa 3) aA) m.len) ao)))) (au (aO 8 nd (bR ao (bg (cJ (aa 7) ao) ao)))
 (aD (aO 3 nd (bR (ig (aa 3) ir (e_ (lF (aa 8)))) (dB (ay (bf P6 hr (ak (aa 7) (ak (ig (aa 3) (e_ (lF (aa 8))) ir) aA))) aX)))))) (aD (bz (iY (oF (cj hr.units (aa 6) ao) (mh (cj hr.units (bg (aa 7) ao) ao)))) (aD (eu 3 (bL (ay (bL (ay (aB (dB (ay br (ay br aX))) (bg (cJ (aa 7) ao) ao)) (ay (bL aX) aX))) (ay ao (ay ao aX)))))) (aD (aO 3 nd (bR (ig (aa 3) ir (e_ (lF ao))) (dB (ay (bf Qe hr (ak (aa 7) (ak (aa 2) (ak (aB (aa 3) (lF ao)) aA)))) aX)))))))))))))))
 (aD (aU (aB (bf P6 hr (ak (fW (ak (aa 0) aA) m.len) (ak (aa 3) aA))) ao))))))
abbrev pG:VQ:=top 38
theorem vm (m:fC w K mg) (e:FB K mg "_law_order" pG):bU P w K mg base 1 2 "_law_order" K03.gR:=
 qc K03.o8 K03.oS 2 e (λnd _ cdv A outer s H E J T hr=>
 (au (aO 2 nd (BQ (ak (aa 1) aA) m.range m.list))
 (au (aO 3 nd (dB aX))
 (au (dM (cL (ak (aa 1) aA) m.range) (aS 4 nd) (au (aO 5 nd (bg (aa 0) (fW (ak (aa 2) aA) m.len)))
 (au (aO 0 nd (qd (cJ (aa 0) ao) (dQ ao (aa 5))))
 (au (eu 3 (aB (aa 2) (aa 5)))
 (aD (aO 2 nd (qd (ig (aa 2) ir (e_ (aa 5))) (ig (aa 2) (e_ (qd (aa 5) ao)) ir))))))))
 (aD (aU (cV (ak (aa 3) aA) m.tuple)))))))
abbrev mw:VQ:=top 39
theorem NI:cS ["_law_script","_law_tongue_here","_law_many","_law_world_here","_law_letters_here","_law_saying","_law_order_here","_law_here","_law_there","_law_k","_law_point","_law_one","_law_other"] ["_law_script"] (aJ mw):=⟨rfl,rfl,rfl,by decide +kernel,rfl,by decide +kernel,by decide +kernel⟩
theorem Nr (m:fC w K mg) (PZ:bU P w K mg base 1 2 "_law_cell" K01.cP) (Qh:bU P w K mg base 2 1 "_law_tongue" K01.gw) (Qo:bU P w K mg base 2 4 "_law_world" K01.fL) (Qd:bU P w K mg base 1 1 "_law_letters" K12.gW) (Qk:bU P w K mg base 2 3 "_law_grown" K12.gQ) (Qm:bU P w K mg base 1 2 "_law_order" K03.gR) (Qz:EJ P w K mg base 183 3 "holds" K16.iu) (QV:bU P w K mg base 1 2 "moved" K16.qp) (F:gg K "law" "law" mw f fd):eT P w K mg base jI 184 f fd ["_law_script"] (m6 K 1 K16.sM):=
 have sc:=NI
 JG (k:=183) (gB:=K16.Lm) F sc (λcdv A outer s H E J T hr=>
 (au (aO 1 sc.nd (bf Qh hr (ak (bf PZ hr (ak (aa 0) (ak ao aA))) aA)))
 (au (aO 2 sc.nd (bR ao (bg (bf PZ hr (ak (aa 0) (ak ao aA))) ao)))
 (au (aO 3 sc.nd (bf Qo hr (ak (aa 0) (ak ao (ak (aa 2) (ak (aa 1) aA))))))
 (au (aO 4 sc.nd (bf Qd hr (ak (bg (bf PZ hr (ak (aa 0) (ak ao aA))) ao) aA)))
 (au (aO 5 sc.nd (bf Qk hr (ak (ig (aa 0) (e_ ao) (e_ ao)) (ak (aa 1) (ak (aa 4) aA)))))
 (au (aO 6 sc.nd (bf Qm hr (ak (bf PZ hr (ak (aa 0) (ak ao aA))) (ak (aa 2) aA))))
 (au (nM 7 sc.nd)
 (au (nM 8 sc.nd)
 (au (dM (cL (ak ao aA) m.range) (aS 9 sc.nd) (au (aO 10 sc.nd (bg (bf PZ hr (ak (aa 0) (ak (bR ao (aa 9)) aA))) (aa 2)))
 (au (qb 7 hr.units (aa 10) (aB (aa 4) (aa 9)))
 (aD (qb 8 hr.units (aB (aa 6) (aa 10)) (aB (aa 4) (aa 9)))))))
 (au (aO 11 sc.nd (ym Qz hr (ak (aa 3) (ak (aa 5) (ak (aa 7) aA)))))
 (au (aO 12 sc.nd (ym Qz hr (ak (bf QV hr (ak (aa 3) (ak (aa 6) aA))) (ak (aa 5) (ak (aa 8) aA)))))
 (aD (aU (uc (rW xO qH m.bool (aa 11) m.isinstance) (uc (rW xO qH m.bool (aa 12) m.isinstance) (yl (yp hr.units (aa 11) (aa 12))))))))))))))))))) (λas r _ h=>h)
end
end K16
namespace K16
open PySem PySem.Spec PyProof.Rows DL K01 WP
open K12 (Sy wit eS bnd own bQ jn fG cX dO iX f6)
variable {A B L:List Str}{k:Nat}{d:D}{w:Wd}
theorem qW:∀{k:Nat}{d:D},Sy A B L k d->∀{j:Nat},k<=j->bQ j d=bQ k d
 | 0,d,h,j,hj=>by obtain ⟨_,e⟩:=cX h;cases e
 | k + 1,d,h,j,hj=>by obtain ⟨j,rfl⟩:∃i,j=i + 1:=⟨j - 1,by omega⟩;have:(wit d).flatMap (bQ j)=(wit d).flatMap (bQ k):=f6 λs hs=>qW (dO h s hs) (by omega);unfold bQ;rw [this]
theorem dZ (hb:(bnd d).isEmpty=true){x:Str}(hx:x∈eS d):x∈bQ (k + 1) d:=by unfold bQ;rw [if_pos hb];exact fG.mpr (Uy _ hx)
theorem lS (hb:(bnd d).isEmpty=true){s:D}(hs:s∈wit d){x:Str}(hx:x∈bQ k s):x∈bQ (k + 1) d:=by unfold bQ;rw [if_pos hb];exact fG.mpr (TQ _ (U1.mpr ⟨s,hs,hx⟩))
theorem jV {a:Str}(hb:(bnd d).isEmpty=false) (ha:eS d=[a]){s:D}(hs:s∈wit d){x:Str}(hx:x∈bQ k s) (hn:x≠a):x∈bQ (k + 1) d:=by
 unfold bQ;rw [hb,if_neg (by decide)];refine fG.mpr (VS.mpr ⟨U1.mpr ⟨s,hs,hx⟩,?_⟩);rw [ha];have:(a == x)=false:=by simpa using UA hn
 simp [this]
theorem qC {f g:D->Bool}:∀{l:List D},(∀s∈l,f s=g s)->l.all f=l.all g
 | [],_=>rfl
 | x::l,h=>by rw [WS,WS,h x Sv,qC λs hs=>h s (Ss _ hs)]
theorem qF {f g:D->Bool}:∀{l:List D},(∀s∈l,f s=g s)->l.any f=l.any g
 | [],_=>rfl
 | x::l,h=>by rw [UR,UR,h x Sv,qF λs hs=>h s (Ss _ hs)]
theorem k7 {m:Nat}{f g:Nat->Bool}(h:∀p,p < m->f p=g p):cnt m f=cnt m g:=by unfold cnt;congr 1;exact aaY λp hp=>h p (S0.mp hp)
theorem kc:∀{k:Nat}{d:D},Sy A B L k d->∀{j:Nat},k<=j->∀ρ,sem w j d ρ=sem w k d ρ
 | 0,d,h,j,hj,ρ=>by obtain ⟨_,e⟩:=cX h;cases e
 | k + 1,d,h,j,hj,ρ=>by
  obtain ⟨j,rfl⟩:∃i,j=i + 1:=⟨j - 1,by omega⟩;have hj:k<=j:=by omega
  cases h with
  | mark _ _=>rfl
  | arrow _ _ _=>rfl
  | same _ _=>rfl
  | not h=>exact congrArg not (kc h hj ρ)
  | and h _=>exact qC λs hs=>kc (h s hs) hj ρ
  | or h _=>exact qF λs hs=>kc (h s hs) hj ρ
  | some _ h=>exact congrArg (λn=>decide (1<=n)) (k7 λp _=>kc h hj _)
  | every _ h=>exact congrArg (λn=>decide (w.m<=n)) (k7 λp _=>kc h hj _)
  | least _ _ h=>exact congrArg (λn:Nat=>decide (_<=(n:Int))) (k7 λp _=>kc h hj _)
theorem yj {ρ ρ':Str->Nat}{a:Str}{p:Nat}{l:List Str}(h:∀x∈l,x≠a->ρ x=ρ' x):∀x∈l,put ρ a p x=put ρ' a p x:=λx hx=>by
 unfold put;by_cases q:x=a
 ·rw [if_pos q,if_pos q]
 ·rw [if_neg q,if_neg q];exact h x hx q
theorem jl:∀{k:Nat}{d:D},Sy A B L k d->∀{ρ ρ':Str->Nat},(∀x∈bQ k d,ρ x=ρ' x)->sem w k d ρ=sem w k d ρ'
 | 0,d,h,ρ,ρ',_=>by obtain ⟨_,e⟩:=cX h;cases e
 | k + 1,_,.mark (n:=n) (a:=a) _ _,ρ,ρ',q=>congrArg (wJ w n) (q a (dZ rfl (Su.mpr rfl)))
 | k + 1,_,.arrow (n:=n) (a:=a) (b:=b) _ _ _,ρ,ρ',q=>by show uM w n (ρ a) (ρ b)=uM w n (ρ' a) (ρ' b);rw [q a (dZ rfl Sv),q b (dZ rfl (Ss _ (Su.mpr rfl)))]
 | k + 1,_,.same (a:=a) (b:=b) _ _,ρ,ρ',q=>by show (ρ a == ρ b)=(ρ' a == ρ' b);rw [q a (dZ rfl Sv),q b (dZ rfl (Ss _ (Su.mpr rfl)))]
 | k + 1,_,.not h,ρ,ρ',q=>congrArg not (jl h λx hx=>q x (lS rfl (Su.mpr rfl) hx))
 | k + 1,_,.and h _,ρ,ρ',q=>qC λs hs=>jl (h s hs) λx hx=>q x (lS rfl hs hx)
 | k + 1,_,.or h _,ρ,ρ',q=>qF λs hs=>jl (h s hs) λx hx=>q x (lS rfl hs hx)
 | k + 1,_,.some _ h,ρ,ρ',q=>congrArg (λn=>decide (1<=n)) (k7 λp _=>jl h (yj λx hx hn=>q x (jV rfl rfl (Su.mpr rfl) hx hn)))
 | k + 1,_,.every _ h,ρ,ρ',q=>congrArg (λn=>decide (w.m<=n)) (k7 λp _=>jl h (yj λx hx hn=>q x (jV rfl rfl (Su.mpr rfl) hx hn)))
 | k + 1,_,.least _ _ h,ρ,ρ',q=>congrArg (λn:Nat=>decide (_<=(n:Int))) (k7 λp _=>jl h (yj λx hx hn=>q x (jV rfl rfl (Su.mpr rfl) hx hn)))
theorem zx {ρ:Str->Nat}:∀{l:List Str}{x:Str},x∈l->asg l (l.map λa=>(ρ a:Int)) x=ρ x
 | a::l,x,h=>by
  show (if x=a then (ρ a:Int).toNat else asg l _ x)=_;by_cases q:x=a
  ·rw [if_pos q,q];rfl
  ·rw [if_neg q];exact zx ((SN.mp h).resolve_left q)
theorem yF {m:Nat} {ρ:Str->Nat}:∀{l:List Str},(∀a∈l,ρ a < m)->(l.map λa=>(ρ a:Int))∈tups m l.length
 | [],_=>Su.mpr rfl
 | a::l,h=>U1.mpr ⟨ρ a,S0.mpr (h a Sv),SD.mpr ⟨_,yF λb hb=>h b (Ss _ hb),rfl⟩⟩
theorem GH {m:Nat}(hm:m<=8):∀{k:Nat},k<=3->(tups m k).length<=512:=by
 have step:∀k,(tups m k).length=m ^ k:=λk=>by
  induction k with
  | zero=>rfl
  | succ k ih=>
   have:∀(l:List Nat),(l.flatMap λ(p:Nat)=>(tups m k).map λt=>(p:Int)::t).length=l.length * m ^ k:=λl=>by
    induction l with
    | nil=>simp
    | cons x l ih2=>rw [UP,SE,ih2,So,ih,Ti,acM,Nat.add_comm]
   show ((Sx m).flatMap λ(p:Nat)=>(tups m k).map λt=>(p:Int)::t).length=_;rw [this,Th,aa5,acN]
 intro k hk;rw [step];have h1:m ^ k<=8 ^ k:=Nat.pow_le_pow_left hm k;have h2:8 ^ k<=8 ^ 3:=ZS (by decide) hk;exact Tw h1 h2
end K16
namespace K16
open PySem PySem.Spec PyProof.Rows DL K01 WP
open K12 (Sy wit eS bnd own wd bQ jn fG cX dO iX f6 fD k_ jD qU lK jJ jb qo cU)
variable {A B L:List Str}{k:Nat}{d:D}{w:Wd}
theorem pN (w:Wd) (h1:w.ms.length<=100) (h2:w.ar.length<=100):jw [.d w.d]=.ok (.d (fD (w.ms.map TJ) (w.ar.map TJ))):=by refine eB (BS rfl rfl rfl (cC (dh (aP (n1 (qL (xs:=w.ms) (λr=>.str r.1) (λr=>.tup (r.2.map dN)) (λr=>.str r.1) rfl (by omega) λr hr=>⟨_,rfl,rfl⟩) (x:=.l .fresh (w.ms.map λr=>.str r.1)) rfl) rfl (aP (n1 (qL (xs:=w.ar) (λr=>.str r.1) (λr=>.tup (r.2.map dP)) (λr=>.str r.1) rfl (by omega) λr hr=>⟨_,rfl,rfl⟩) (x:=.l .fresh (w.ar.map λr=>.str r.1)) rfl) rfl bY)) (SS rfl)) rfl ?_));unfold fD;rw [TF,TF];rfl
theorem Kq {α:Type}(nm:α->Str) (g:α->D){xs:List α}{n:Str}{r:α}(h:xs.find? (λr=>nm r == n)=some r) (hg:∀r,rF (.d (g r))=.ok (.d (g r))):iM [.d (.tup (xs.map λr=>.tup [.str (nm r),g r])),.d (.str n)]=.ok (.d (g r)):=by
 refine eB (kE (ds:=xs.map λr=>.tup [.str (nm r),g r]) rfl ?_);have key:∀(X0:Option S) (ys:List α),ys.find? (λr=>nm r == n)=some r->∀x y:Option S,Wp (dS (gc 2 (b7 (aH 2) (b7 (aH 3) gv))) (aQ (aT (g2 (bZ false) (af 2) (af 1))) (aM (af 3)) bh) (ys.map λr=>.tup [.str (nm r),g r]) [X0,some (.d (.str n)),x,y]) (λo=>o=.rt (.d (g r))):=by
  intro X0 ys
  induction ys with
  | nil=>intro h;cases h
  | cons y ys ih=>
   intro h x z;have ht:aT (g2 (bZ false) (af 2) (af 1)) [X0,some (.d (.str n)),some (.d (.str (nm y))),some (.d (g y))]=.ok (nm y == n):=rfl;rw [S4];unfold dS;show Wp (aQ _ _ _ [X0,some (.d (.str n)),some (.d (.str (nm y))),some (.d (g y))] >>= _) _;cases q:nm y == n with
   | true=>
    rw [q] at ht;rw [Ub,q] at h;cases h;rw [lq ht];exact ⟨_,rfl,rfl⟩
   | false=>
    rw [q] at ht;rw [Ub,q] at h;rw [jg ht];exact ih h _ _
 exact (key _ xs h none none).mono λo e=>by subst e;rfl
theorem zO {α:Type}{l:List (Str×α)}{n:Str}(h:n∈l.map TJ):∃r,l.find? (λr=>r.1 == n)=some r:=by
 obtain ⟨r,hr,rfl⟩:=SD.mp h;cases q:l.find? (λx=>x.1 == r.1) with
 | some r=>exact ⟨r,rfl⟩
 | none=>have:=aaC.mp q r hr;simp at this
theorem HR (w:Wd){n:Str}(hn:n∈w.ms.map TJ) (p:Nat):m7 [.d w.d,.d (.str n),.d (dN p)]=.ok (.d (.bl (wJ w n p))):=by obtain ⟨r,hr⟩:=zO hn;refine eB (cC (WP.two (x:=.d (dN p)) (y:=cg (.d (.tup (r.2.map dN)))) rfl (c2 (x:=.d (.tup (w.ms.map i6))) (y:=.d (.str n)) rfl rfl (Kq (α:=Str×List Nat) TJ (λr=>.tup (r.2.map dN)) hr λ_=>rfl)) (K51.OJ p r.2)) rfl ?_);unfold wJ;rw [hr,K55.inN]
theorem HU (w:Wd){n:Str}(hn:n∈w.ar.map TJ) (p q:Nat):m9 [.d w.d,.d (.str n),.d (dN p),.d (dN q)]=.ok (.d (.bl (uM w n p q))):=by obtain ⟨r,hr⟩:=zO hn;refine eB (cC (WP.two (x:=.d (dP (p,q))) (y:=cg (.d (.tup (r.2.map dP)))) (dh (aP rfl rfl (aP rfl rfl bY)) (SS rfl)) (c2 (x:=.d (.tup (w.ar.map kU))) (y:=.d (.str n)) rfl rfl (Kq (α:=Str×List (Nat×Nat)) TJ (λr=>.tup (r.2.map dP)) hr λ_=>rfl)) (K51.OL (p,q) r.2)) rfl ?_);unfold uM;rw [hr,K55.Lr]
def lC:List Str:=["saying","inner","table","free","kept","found"]
def pe (k:Nat) (d:D):Bool:=!(bnd d).isEmpty && decide ((bQ k d).length<=3)
noncomputable def jj (w:Wd):Nat->D->List D
 | 0,_=>[]
 | k + 1,d=>[d,.lst ((wit d).map λs=>.ob (.ins "Part" lC) (jj w k s)),.non,.lst ((bQ (k + 1) d).map .str),.bl (pe (k + 1) d),.ob (.mem (mu w d).1 (mu w d).2) []]
def pd (w:Wd) (k:Nat) (d:D):D:=.ob (.ins "Part" lC) (jj w k d)
section
variable {env:Ev}{i:Nat}{g:G R}{r:R}{Q:O->Prop}{u:G O}
theorem Ni {cls f:Str}{d:D}{s s':S}(h0:env[i]?=some (some s)) (h:g env=.ok r) (h2:toD r=.ok d) (h3:u5 cls f d s=some s') (k:Q (.nx (env.set i (some s')))):Wp (kL i cls f g env) Q:=⟨_,by unfold kL;rw [h0];show (g env >>= _)=_;rw [h,aK,h2,aK,h3],k⟩
theorem se {cls f:Str}{d:D}{s s':S}(h0:env[i]?=some (some s)) (h:g env=.ok r) (h2:toD r=.ok d) (h3:u5 cls f d s=some s') (k:Wp (u (env.set i (some s'))) Q):Wp (av (kL i cls f g) u env) Q:=cu (Ni h0 h h2 h3 k)
theorem lI {cls f:Str}{ns:List Str}{xs:List D}{d:D}(h:ns.contains f=false) (hl:ns.length < 100):u5 cls f d (.oo (.ins cls ns) xs)=some (.oo (.ins cls (ns++[f])) (xs++[d])):=if_pos ⟨rfl,h,hl⟩
theorem Hr {n:Nat}{F:Ev->List S->M R}{gs:G (List R)}{rs:List R}{k:Kd}{xs:List D}(h:gs env=.ok rs) (hl:rs.length=n) (hF:F env (rs.map bI)=.ok (.o .fresh k xs)):C_ n F gs env=.ok (.o .fresh k xs):=by unfold C_;rw [h,aK,if_pos hl,hF]
theorem AX {a b:G R}{p:Bool}{q:Bool}(ha:a env=.ok (.d (.bl p))) (hb:b env=.ok (.d (.bl q))):bq a b env=.ok (.d (.bl (p && q))):=by
 unfold bq;rw [ha,aK];cases p with
 | true=>exact hb
 | false=>rfl
end
theorem uo (h:Sy A B L k d):aV (.d d) (.d (.int 0))=.ok (.d (.str (wd d))):=by cases h <;> rfl
theorem Jg (h:Sy A B L k d):bZ false (.d (.str (wd d))) (.d (.str "row"))=.ok (.d (.bl false)):=by cases h <;> rfl
theorem Ls (h:Sy A B L k d):ie false (.d (.str (wd d))) (.d (.tup [.str "some",.str "every",.str "least"]))=.ok (.d (.bl (!(bnd d).isEmpty))):=by cases h <;> rfl
theorem B_ (hL:∀x∈L,isLet x=true) (hm:w.m<=8):∀(n:Nat){k:Nat}{d:D},Sy A B L k d->k<=n->k<=60->gV (mu w) n [.d d,.d (.tup [])]=.ok (.o .fresh (.ins "Part" lC) (jj w k d))
 | 0,k,d,h,hk,_=>by obtain ⟨_,e⟩:=cX h;omega
 | n + 1,k,d,h,hk,QF=>by
  obtain ⟨j,rfl⟩:=cX h;have hw:=lK h;have inner:∀x∈(wit d).flatMap (bQ j),isLet x=true:=λx hx=>by obtain ⟨s,hs,hx⟩:=U1.mp hx;exact jD hL j (dO h s hs) x hx
  have hn:=qU hL j (dO h);have key:Wp (qY (mu w) (gV (mu w) n) [some (.oo (.ins "Part" []) []),some (.d d),some (.d (.tup []))]) (·=.nx [some (.oo (.ins "Part" lC) (jj w (j + 1) d)),some (.d d),some (.d (.tup []))]):=by
   refine se (d:=d) rfl rfl rfl (lI rfl (by decide)) ?_;refine se (d:=.lst ((wit d).map (pd w j))) (r:=.l .fresh ((wit d).map (pd w j))) rfl (pS (α:=D) (xs:=wit d) (h:=id) (pd w j) ?_ (by omega) λs hs=>⟨.o .fresh (.ins "Part" lC) (jj w j s),Hr (rs:=[.d s,.d (.tup [])]) rfl rfl (B_ hL hm n (dO h s hs) (by omega) (by omega)),rfl⟩) rfl (lI rfl (by decide)) ?_
   ·rw [Xi];show (gN _ _ _ >>= _)=_;rw [c1 (x:=.d d) (z:=.d (.tup (wit d))) rfl (jJ h)];rfl
   refine se (d:=.non) (r:=.d .non) rfl ?_ rfl (lI rfl (by decide)) ?_
   ·show (aT (g2 (bZ false) (g2 aV (af 1) (gC (.int 0))) (gC (.str "row"))) _ >>= _)=_;rw [cU (two (x:=.d (.str (wd d))) (y:=.d (.str "row")) (two (x:=.d d) (y:=.d (.int 0)) rfl rfl (uo h)) rfl (Jg h))];rfl
   refine se (d:=.lst ((bQ (j + 1) d).map .str)) (r:=.l .fresh ((bQ (j + 1) d).map .str)) rfl (c2 (x:=.d d) (y:=.l .fresh (((wit d).flatMap (bQ j)).map .str)) (z:=.l .fresh ((bQ (j + 1) d).map .str)) rfl ?_ (qo hL h inner (by omega))) rfl (lI rfl (by decide)) ?_
   ·unfold xy;refine (K23.G6 (α:=D) (β:=Str) (xs:=wit d) (h:=pd w j) (h':=D.str) (bQ j) (λ_ _=>true) (λ_ y=>.str y) rfl (by omega) λs hs=>⟨Tw (k_ hL j (dO h s hs)) (by decide),λz=>?_,λy hy=>⟨rfl,λ_=>K23.zk rfl rfl⟩⟩).trans ?_
    ·obtain ⟨i,rfl⟩:=cX (dO h s hs);rfl
    ·have:((wit d).flatMap λx=>((bQ j x).filter λ_=>true).map D.str)=((wit d).flatMap (bQ j)).map .str:=by rw [List.map_flatMap];exact f6 λx _=>by rw [aab.mpr λ_ _=>rfl]
     rw [this]
   refine se (d:=.bl (pe (j + 1) d)) (r:=.d (.bl (pe (j + 1) d))) rfl (AX (two (x:=.d (.str (wd d))) (y:=.d (.tup [.str "some",.str "every",.str "least"])) (two (x:=.d d) (y:=.d (.int 0)) rfl rfl (uo h)) rfl (Ls h)) ?_) rfl (lI rfl (by decide)) ?_
   ·show M.ok (R.d (.bl (decide ((((bQ (j + 1) d).map D.str).length:Int)<=3))))=_;rw [So];congr 3;rw [decide_eq_decide];omega
   refine ⟨_,?_,rfl⟩;have hf:=qW h QF;have hlen:(mu w d).1.length<=1000000:=by
    unfold mu;show (if (bQ 60 d).length<=3 then _ else _:List (List Int)).length<=_;split
    ·exact Tw (GH hm ‹_›) (by decide)
    ·exact S5 _
   show (if (mu w d).1.length<=1000000 then (match u5 "Part" "found" (.ob (.mem (mu w d).1 (mu w d).2) []) (.oo (.ins "Part" ["saying","inner","table","free","kept"]) [d,.lst ((wit d).map (pd w j)),.non,.lst ((bQ (j + 1) d).map .str),.bl (pe (j + 1) d)]) with
    | some s'=>M.ok (O.nx [some s',some (.d d),some (.d (.tup []))])
    | none=>.bad) else .bad)=_
   rw [if_pos hlen,lI rfl (by decide)];rfl
  obtain ⟨_,hk,rfl⟩:=key;show tK "Part" GU (qY (mu w) (gV (mu w) n)) [.d d,.d (.tup [])]=_;unfold tK;show (match qY (mu w) (gV (mu w) n) [some (.oo (.ins "Part" []) []),some (.d d),some (.d (.tup []))] with
   | .ok (.nx env)=>_
   | _=>_)=_
  rw [hk];rfl
end K16
namespace K16
open PySem PySem.Spec PyProof.Rows DL K01 WP
open K12 (Sy wit eS bnd own wd bQ jn fG cX dO iX f6 fD k_ jD qU lK jJ jb qo cU l7)
variable {A B L:List Str}{k:Nat}{d:D}{w:Wd}
theorem lA {α:Type}{x:Str}:∀{ss:List Str}{xs:List α},ss.length=xs.length->(cI ss xs x).isSome=ss.contains x
 | [],_,_=>by unfold cI;rfl
 | s::ss,[],h=>nomatch h
 | s::ss,v::xs,h=>by
  unfold cI;rw [Yl];by_cases q:s=x
  ·rw [if_pos q,q,beq_self_eq_true];rfl
  ·rw [if_neg q,lA (by simpa using h),show (x == s)=false by simpa using UA q,YV]
theorem Dz {α:Type}{s x:Str}{v:α}:∀{ss:List Str}{xs:List α},ss.length=xs.length->cI ss ((ss.zip xs).map λp=>if p.1=s then v else p.2) x=(cI ss xs x).map λd=>if x=s then v else d
 | [],_,_=>by unfold cI;rfl
 | t::ss,[],h=>nomatch h
 | t::ss,u::xs,h=>by
  show cI (t::ss) ((if t=s then v else u)::_) x=_;unfold cI;by_cases q:t=x
  ·rw [if_pos q,if_pos q,q];rfl
  ·rw [if_neg q,if_neg q];exact Dz (by simpa using h)
theorem zZ {α:Type}{s x:Str}{v:α}:∀{ss:List Str}{xs:List α},ss.length=xs.length->cI (ss++[s]) (xs++[v]) x=(cI ss xs x).or (if s=x then some v else none)
 | [],[],_=>by show (if s=x then some v else cI [] [] x)=_;by_cases q:s=x <;> simp [cI,q]
 | [],_::_,h=>nomatch h
 | t::ss,[],h=>nomatch h
 | t::ss,u::xs,h=>by
  show (if t=x then some u else cI (ss++[s]) (xs++[v]) x)=(if t=x then some u else cI ss xs x).or _;by_cases q:t=x
  ·rw [if_pos q,if_pos q];rfl
  ·rw [if_neg q,if_neg q];exact zZ (by simpa using h)
theorem DB {α:Type}{s x:Str}{v:α}{ss:List Str}{xs:List α}(h:ss.length=xs.length):cI (bK ss xs s v).1 (bK ss xs s v).2 x=if x=s then some v else cI ss xs x:=by
 unfold bK;split
 ·rename_i hc;show cI ss _ x=_;rw [Dz h];by_cases q:x=s
  ·rw [if_pos q,q];rw [<-lA h] at hc;obtain ⟨u,hu⟩:=Tr.mp hc;rw [hu,VV,if_pos rfl]
  ·rw [if_neg q];cases cI ss xs x <;> simp [q]
 ·rename_i hc;show cI (ss++[s]) (xs++[v]) x=_;rw [zZ h];by_cases q:x=s
  ·rw [if_pos q,q,if_pos rfl];rw [<-lA h] at hc;cases e:cI ss xs s with
   | none=>rfl
   | some u=>rw [e] at hc;exact (hc rfl).elim
  ·rw [if_neg q,if_neg (UA q),Option.or_none]
theorem Al {α:Type}{s:Str}{v:α}{ss:List Str}{xs:List α}:(bK ss xs s v).1.contains s=true:=by
 unfold bK;split
 ·assumption
 ·simp
theorem Mh {α:Type}{s:Str}{v:α}{ss:List Str}{xs:List α}(h:ss.contains s=true):(bK ss xs s v).1=ss:=by unfold bK;rw [if_pos h]
theorem Mi {α:Type}{s:Str}{v:α}{ss:List Str}{xs:List α}:ss.length<=(bK ss xs s v).1.length:=by
 unfold bK;split
 ·exact Sw _
 ·simp
structure Pl (m:Nat) (s:S) (F:List Str) (ρ:Str->Nat) (n:Nat):Prop where
 ex:∃r ss xs,s.rd=.ok r/\bI r=s/\uw r=some (ss,xs)/\ss.length=xs.length/\ss.length<=n/\∀a∈F,cI ss xs a=some (dN (ρ a))/\ρ a < m
theorem Ah {m:Nat}{s:S}{F:List Str} {ρ:Str->Nat}{n i:Nat}(hs:Pl m s F ρ n){env:Ev}(h0:env[i]?=some (some s)){gk:G R}{a:Str}(hk:gk env=.ok (.d (.str a))) (ha:a∈F):g2 jT (af i) gk env=.ok (.d (dN (ρ a))):=by
 obtain ⟨r,ss,xs,h1,h2,h3,h4,h5,h6⟩:=hs.ex;refine WP.two (x:=r) (y:=.d (.str a)) (by unfold af;rw [h0];exact h1) hk ?_;unfold jT;rw [h3];show (match cI ss xs a with
  | some d=>M.ok (R.d d)
  | none=>.bad)=_
 rw [(h6 a ha).1]
def Pt (p:S) (xs:List D):Prop:=∃r,p.rd=.ok r/\bI r=p/\EU r=some (("Part":Str),lC,xs)
theorem je {env:Ev}{i:Nat}{p:S}{xs:List D}{f:Str}{v:D}(h0:env[i]?=some (some p)) (hp:Pt p xs) (hl:(lC.zip xs).lookup f=some v):fE "Part" f (af i) env=.ok (.d v):=by
 obtain ⟨r,h1,h2,h3⟩:=hp;show (af i env >>= _)=_;unfold af;rw [h0];show (p.rd >>= _)=_;rw [h1,aK];unfold iR;rw [h3];show (if ("Part":Str)="Part" then _ else _)=_;rw [if_pos rfl];show (match (lC.zip xs).lookup f with
  | some d=>M.ok (R.d d)
  | none=>.bad)=_
 rw [hl]
theorem OO {k:Nat}{d:D}:Pt (.d (pd w k d)) (jj w k d):=⟨_,rfl,rfl,rfl⟩
theorem eF {env:Ev}{i:Nat}{s:S}{r:R}(h0:env[i]?=some (some s)) (h:s.rd=.ok r):af i env=.ok r:=by unfold af;rw [h0];exact h
theorem Bs {env:Ev}{i:Nat}{g gk:G R}{r:R}{Q:O->Prop}{ss:List Str}{xs:List D}{d:D}{a:Str}(h0:env[i]?=some (some (.oo (.txt ss) xs))) (h:g env=.ok r) (h2:toD r=.ok d) (hk:gk env=.ok (.d (.str a))) (hl:ss.length<=1000) (k:Q (.nx (env.set i (some (.oo (.txt (bK ss xs a d).1) (bK ss xs a d).2))))):Wp (nv i gk g env) Q:=⟨_,by unfold nv;rw [h0];show (g env >>= _)=_;rw [h,aK,h2,aK,hk,aK];exact if_pos hl,k⟩
abbrev bE (Fr:List S->M R):G O:=(av (nv 6 (af 4) (af 7))
 (av (aQ (aT (gN (aE 3 Fr) (ah (af 0) (ah (g2 aV (fE "Part" "inner" (af 1)) (gC (.int 0))) (ah (af 6) az))))) (jW 3 gK (gC (.int 1))) (jW 5 gK (gC (.int 1))))
 (aQ (bX (aT (g2 (bZ false) (af 3) (gC (.int 0)))) (aT (g2 (bT λi j=>.bl (decide (i < j))) (af 5) (gC (.int 0))))) Hf bh)))
section
variable {Fr:List S->M R}{p s:S} {ρ:Str->Nat}{j N:Nat}{x:D}{a:Str}
theorem Mj {ss:List Str}{xs:List D}{F':List Str}{m q:Nat}(hl:ss.length=xs.length) (hF:∀b∈F',b≠a->cI ss xs b=some (dN (ρ b))/\ρ b < m) (hq:q < m) (hN:(bK ss xs a (dN q)).1.length<=N):
  Pl m (.ob (.txt (bK ss xs a (dN q)).1) (bK ss xs a (dN q)).2) F' (put ρ a q) N:=by
 refine ⟨_,_,_,rfl,rfl,rfl,oE hl,hN,λb hb=>?_⟩;rw [DB hl];unfold put;by_cases e:b=a
 ·rw [if_pos e,if_pos e];exact ⟨rfl,hq⟩
 ·rw [if_neg e,if_neg e];exact hF b hb e
theorem xU (hp:Pt p (jj w (j + 1) d)) (hw:wit d=[x]) (hN:N<=900) (IH:∀(s:S) (ρ:Str->Nat),Pl w.m s (bQ j x) ρ (N + 1)->Fr [.d w.d,.d (pd w j x),s]=.ok (.d (.bl (sem w j x ρ)))):
  ∀(n q:Nat),q + n=w.m->∀(wt:Int) (ss:List Str) (xs:List D) (pt:Option S),1<=wt->ss.length=xs.length->(∀v:D,(bK ss xs a v).1.length<=N + 1)->(∀b∈bQ j x,b≠a->cI ss xs b=some (dN (ρ b))/\ρ b < w.m)->
   Wp (dS (aH 7) (bE Fr) ((Xe q n).map dN) [some (.d w.d),some p,some s,some (.d (.int wt)),some (.d (.str a)),some (.d (.int ((n:Int) - wt))),some (.oo (.txt ss) xs),pt])
    (λo=>∃(wt':Int) (e5 e6 e7:Option S),o=.nx [some (.d w.d),some p,some s,some (.d (.int wt')),some (.d (.str a)),e5,e6,e7]/\(wt'=0↔wt<=((Xe q n).filter λt=>sem w j x (put ρ a t)).length))
 | 0,q,hq,wt,ss,xs,pt,h1,hl,hn,hF=>⟨_,rfl,wt,_,_,_,rfl,by simp;omega⟩
 | n + 1,q,hq,wt,ss,xs,pt,h1,hl,hn,hF=>by
  have hT:∀l:List Nat,(l.filter λt=>sem w j x (put ρ a t)).length<=l.length:=λl=>Zz _ _;have hT:=hT (Xe (q + 1) n);rw [List.length_range'] at hT;rw [Y6,S4,abk];unfold dS;have hcall:gN (aE 3 Fr) (ah (af 0) (ah (g2 aV (fE "Part" "inner" (af 1)) (gC (.int 0))) (ah (af 6) az))) [some (.d w.d),some p,some s,some (.d (.int wt)),some (.d (.str a)),some (.d (.int (((n + 1:Nat):Int) - wt))),some (.oo (.txt (bK ss xs a (dN q)).1) (bK ss xs a (dN q)).2),some (.d (dN q))]=.ok (.d (.bl (sem w j x (put ρ a q)))):=by refine c3 (x:=.d w.d) (y:=.d (pd w j x)) (w:=.o .own (.txt (bK ss xs a (dN q)).1) (bK ss xs a (dN q)).2) (z:=.d (.bl (sem w j x (put ρ a q)))) rfl (WP.two (x:=.d (.lst [pd w j x])) (y:=.d (.int 0)) (je rfl hp (by rw [show jj w (j + 1) d=[d,.lst ((wit d).map (pd w j)),.non,.lst ((bQ (j + 1) d).map .str),.bl (pe (j + 1) d),.ob (.mem (mu w d).1 (mu w d).2) []] from rfl,hw];rfl)) rfl rfl) rfl (IH _ _ (Mj hl hF (by omega) (hn _)))
  have hstep:∀(P:O->Prop),Wp (av (aQ (aT (gN (aE 3 Fr) (ah (af 0) (ah (g2 aV (fE "Part" "inner" (af 1)) (gC (.int 0))) (ah (af 6) az))))) (jW 3 gK (gC (.int 1))) (jW 5 gK (gC (.int 1))))
 (aQ (bX (aT (g2 (bZ false) (af 3) (gC (.int 0)))) (aT (g2 (bT λi j=>.bl (decide (i < j))) (af 5) (gC (.int 0))))) Hf bh) [some (.d w.d),some p,some s,some (.d (.int wt)),some (.d (.str a)),some (.d (.int (((n + 1:Nat):Int) - wt))),some (.oo (.txt (bK ss xs a (dN q)).1) (bK ss xs a (dN q)).2),some (.d (dN q))]) P->Wp (bE Fr [some (.d w.d),some p,some s,some (.d (.int wt)),some (.d (.str a)),some (.d (.int (((n + 1:Nat):Int) - wt))),some (.oo (.txt ss) xs),some (.d (dN q))]) P:=λP h=>cu (Bs (d:=dN q) (a:=a) rfl rfl rfl rfl (by have:=hn (dN q);have:=Mi (s:=a) (v:=dN q) (ss:=ss) (xs:=xs);omega) h)
  have hn':∀v:D,(bK (bK ss xs a (dN q)).1 (bK ss xs a (dN q)).2 a v).1.length<=N + 1:=λv=>by rw [Mh Al];exact hn _
  have hF':∀b∈bQ j x,b≠a->cI (bK ss xs a (dN q)).1 (bK ss xs a (dN q)).2 b=some (dN (ρ b))/\ρ b < w.m:=λb hb e=>by rw [DB hl,if_neg e];exact hF b hb e
  show Wp (bE Fr [some (.d w.d),some p,some s,some (.d (.int wt)),some (.d (.str a)),some (.d (.int (((n + 1:Nat):Int) - wt))),some (.oo (.txt ss) xs),some (.d (dN q))] >>= _) _;refine Wp.bind (hstep _ ?_);generalize hA:bK ss xs a (dN q)=A' at *;obtain ⟨ss',xs'⟩:=A';have hl':ss'.length=xs'.length:=by have:=oE (s:=a) (v:=dN q) hl;rw [hA] at this;exact this
  cases hb:sem w j x (put ρ a q) with
  | true=>
   rw [hb] at hcall;refine cu (gu (cU hcall) (Ho rfl rfl rfl rfl ?_));have ht:bX (aT (g2 (bZ false) (af 3) (gC (.int 0)))) (aT (g2 (bT λi j=>.bl (decide (i < j))) (af 5) (gC (.int 0)))) [some (.d w.d),some p,some s,some (.d (.int (wt - 1))),some (.d (.str a)),some (.d (.int (((n + 1:Nat):Int) - wt))),some (.oo (.txt ss') xs'),some (.d (dN q))]=.ok ((wt - 1 == 0) || decide ((((n + 1:Nat):Int) - wt) < 0)):=l7 (cU (eq_int false _ _)) λ_=>rfl;refine jZ ht (λc=>?_) λc=>?_
   ·refine ⟨_,rfl,?_⟩;refine ⟨_,rfl,wt - 1,_,_,_,rfl,?_⟩;simp only [if_true,Ti];rw [UQ,beq_iff_eq,decide_eq_true_iff] at c;omega
   ·refine ⟨_,rfl,?_⟩;rw [XJ,beq_eq_false_iff_ne,decide_eq_false_iff_not] at c;have e:(((n + 1:Nat):Int) - wt)=(n:Int) - (wt - 1):=by omega
    rw [e];refine (xU hp hw hN IH n (q + 1) (by omega) (wt - 1) ss' xs' (some (.d (dN q))) (by omega) hl' hn' hF').mono ?_;rintro o ⟨wt',e5,e6,e7,rfl,h⟩;refine ⟨wt',e5,e6,e7,rfl,?_⟩;simp only [if_true,Ti];rw [h];omega
  | false=>
   rw [hb] at hcall;refine cu (xQ (cU hcall) (Ho rfl rfl rfl rfl ?_));have ht:bX (aT (g2 (bZ false) (af 3) (gC (.int 0)))) (aT (g2 (bT λi j=>.bl (decide (i < j))) (af 5) (gC (.int 0)))) [some (.d w.d),some p,some s,some (.d (.int wt)),some (.d (.str a)),some (.d (.int (((n + 1:Nat):Int) - wt - 1))),some (.oo (.txt ss') xs'),some (.d (dN q))]=.ok ((wt == 0) || decide ((((n + 1:Nat):Int) - wt - 1) < 0)):=l7 (cU (eq_int false _ _)) λ_=>rfl;refine jZ ht (λc=>?_) λc=>?_
   ·refine ⟨_,rfl,?_⟩;refine ⟨_,rfl,wt,_,_,_,rfl,?_⟩;simp only [Tn,if_false];rw [UQ,beq_iff_eq,decide_eq_true_iff] at c;omega
   ·refine ⟨_,rfl,?_⟩;rw [XJ,beq_eq_false_iff_ne,decide_eq_false_iff_not] at c;have e:(((n + 1:Nat):Int) - wt - 1)=(n:Int) - wt:=by omega
    show Wp (dS (aH 7) (bE Fr) ((Xe (q + 1) n).map dN) [some (.d w.d),some p,some s,some (.d (.int wt)),some (.d (.str a)),some (.d (.int (((n + 1:Nat):Int) - wt - 1))),some (.oo (.txt ss') xs'),some (.d (dN q))]) _;rw [e];refine (xU hp hw hN IH n (q + 1) (by omega) wt ss' xs' (some (.d (dN q))) h1 hl' hn' hF').mono ?_;rintro o ⟨wt',e5,e6,e7,rfl,h⟩;refine ⟨wt',e5,e6,e7,rfl,?_⟩;simp only [Tn,if_false];exact h
end
variable {A B L:List Str}{k:Nat}{d:D}{w:Wd}
section
variable {Fr:List S->M R}{p s:S} {ρ:Str->Nat}{j N:Nat}{x:D}{a:Str}
theorem pM (h:Sy A B L (j + 1) d) (hp:Pt p (jj w (j + 1) d)) (ha:eS d=[a]) (hb:(bnd d).isEmpty=false) (hw:wit d=[x]) (hm:w.m<=8) (hN:N<=900) (hs:Pl w.m s (bQ (j + 1) d) ρ N)
  (IH:∀(s:S) (ρ:Str->Nat),Pl w.m s (bQ j x) ρ (N + 1)->Fr [.d w.d,.d (pd w j x),s]=.ok (.d (.bl (sem w j x ρ)))) (i:Int) (hi:1<=i):
  jz Fr [.d w.d,p,s,.d (.int i)]=.ok (.d (.bl (decide (i<=(cnt w.m λq=>sem w j x (put ρ a q):Nat))))):=by
 obtain ⟨r,ss,xs,h1,h2,h3,h4,h5,h6⟩:=hs.ex;refine eB (b9 (r:=.d (.str a)) (WP.two (x:=cg (.l .fresh [.str a])) (y:=.d (.int 0)) (c1 (x:=.d d) (z:=.l .fresh [.str a]) (je rfl hp rfl) ?_) rfl rfl) rfl ?_)
 ·have:=jb h;rw [ha] at this;exact this
 refine b9 (r:=.d (.int ((w.m:Int) - i))) (WP.two (x:=.d (.int w.m)) (y:=.d (.int i)) (WP.two (x:=.d w.d) (y:=.d (.int 0)) rfl rfl rfl) rfl rfl) rfl ?_;refine b9 (r:=.o .fresh (.txt ss) xs) (x:=.oo (.txt ss) xs) (n1 (x:=r) (eF rfl h1) ?_) rfl ?_
 ·show (match uw r with
   | some z=>M.ok (R.o .fresh (.txt z.1) z.2)
   | none=>.bad)=_
  rw [h3]
 refine kE (ds:=(Xe 0 w.m).map dN) ?_ ?_
 ·rw [<-Wt];exact Gw (nt (WP.two (x:=.d w.d) (y:=.d (.int 0)) rfl rfl rfl)) (by omega)
 refine (xU (ρ:=ρ) (a:=a) hp hw hN IH w.m 0 (by omega) i ss xs none hi h4 (λv=>?_) λb hb' e=>h6 b (jV hb ha (by rw [hw];exact Su.mpr rfl) hb' e)).mono ?_
 ·unfold bK;split
  ·show ss.length<=_;omega
  ·show (ss++[a]).length<=_;rw [SE];show ss.length + 1<=_;omega
 rintro o ⟨wt',e5,e6,e7,rfl,hz⟩;refine cC (WP.two (x:=.d (.int wt')) (y:=.d (.int 0)) rfl rfl (eq_int false _ _)) rfl ?_;show O.rt (R.d (.bl (wt' == 0)))=_;congr 3;rw [V2,beq_iff_eq,decide_eq_true_iff,hz];unfold cnt;rw [Wt]
theorem GL {ys:List D}(t:Bool) (hn:ys.length<=100) (IH:∀x∈ys,Fr [.d w.d,.d (pd w j x),s]=.ok (.d (.bl (sem w j x ρ)))) (hs:∃r,s.rd=.ok r/\bI r=s):
  gx Fr [.d w.d,.d (.lst (ys.map (pd w j))),s,.d (.bl t)]=.ok (.d (.bl (ys.any λx=>sem w j x ρ == t))):=by
 obtain ⟨r,h1,h2⟩:=hs;refine eB (kE (ds:=ys.map (pd w j)) rfl ?_);have key:∀(e1:Option S) (zs:List D),(∀x∈zs,x∈ys)->∀x:Option S,Wp (dS (aH 4) (aQ (aT (g2 (bZ false) (gN (aE 3 Fr) (ah (af 0) (ah (af 4) (ah (af 2) az)))) (af 3))) (aM (gC (.bl true))) bh) (zs.map (pd w j)) [some (.d w.d),e1,some s,some (.d (.bl t)),x])
   (λo=>((∃e,o=.nx e)/\(zs.any λx=>sem w j x ρ == t)=false)\/(o=.rt (.d (.bl true))/\(zs.any λx=>sem w j x ρ == t)=true)):=by
  intro e1 zs
  induction zs with
  | nil=>intro _ x;exact ⟨_,rfl,.inl ⟨⟨_,rfl⟩,rfl⟩⟩
  | cons z zs ih=>
   intro hz x;have hc:gN (aE 3 Fr) (ah (af 0) (ah (af 4) (ah (af 2) az))) [some (.d w.d),e1,some s,some (.d (.bl t)),some (.d (pd w j z))]=.ok (.d (.bl (sem w j z ρ))):=c3 (x:=.d w.d) (y:=.d (pd w j z)) (w:=r) (z:=.d (.bl (sem w j z ρ))) rfl rfl (eF rfl h1) (by rw [h2];exact IH z (hz z Sv));have ht:aT (g2 (bZ false) (gN (aE 3 Fr) (ah (af 0) (ah (af 4) (ah (af 2) az)))) (af 3)) [some (.d w.d),e1,some s,some (.d (.bl t)),some (.d (pd w j z))]=.ok (sem w j z ρ == t):=cU (WP.two (x:=.d (.bl (sem w j z ρ))) (y:=.d (.bl t)) hc rfl rfl);rw [S4,UR];unfold dS;show Wp (aQ _ _ _ [some (.d w.d),e1,some s,some (.d (.bl t)),some (.d (pd w j z))] >>= _) _;cases q:sem w j z ρ == t with
   | true=>
    rw [q] at ht;rw [lq ht];exact ⟨_,rfl,.inr ⟨rfl,rfl⟩⟩
   | false=>
    rw [q] at ht;rw [jg ht];exact ih (λx hx=>hz x (Ss _ hx)) _
 refine (key _ ys (λ_ h=>h) none).mono ?_;rintro o (⟨⟨e,rfl⟩,h⟩ | ⟨rfl,h⟩)
 ·rw [h];exact cC rfl rfl rfl
 ·show O.rt _=_;rw [h]
theorem zp (f:D->Bool):∀l:List D,(!(l.any λx=>f x == false))=l.all f
 | []=>rfl
 | x::l=>by rw [UR,WS,<-zp f l];cases f x <;> rfl
theorem zq (f:D->Bool):∀l:List D,(l.any λx=>f x == true)=l.any f
 | []=>rfl
 | x::l=>by rw [UR,UR,<-zq f l];cases f x <;> rfl
theorem DJ {g:G R}{env:Ev}{b:Bool}(h:g env=.ok (.d (.bl b))):bw g env=.ok (.d (.bl (!b))):=by unfold bw;rw [h];rfl
theorem AI (nA:∀n∈A,n∈w.ms.map TJ) (nB:∀n∈B,n∈w.ar.map TJ) (m1:1<=w.m) (hm:w.m<=8) (h:Sy A B L (j + 1) d) (hp:Pt p (jj w (j + 1) d)) (hN:N<=900) (hs:Pl w.m s (bQ (j + 1) d) ρ N)
  (IH:∀x∈wit d,∀(s:S) (ρ:Str->Nat),Pl w.m s (bQ j x) ρ (N + 1)->Fr [.d w.d,.d (pd w j x),s]=.ok (.d (.bl (sem w j x ρ)))):
  ia Fr [.d w.d,p,s]=.ok (.d (.bl (sem w (j + 1) d ρ))):=by
 have hp2:=hp;obtain ⟨rp,p1,p2,p3⟩:=hp2;obtain ⟨rs,ss,xs,h1,h2,h3,h4,h5,h6⟩:=hs.ex;have sub:(bnd d).isEmpty=true->∀x∈wit d,Pl w.m s (bQ j x) ρ (N + 1):=λhb x hx=>⟨rs,ss,xs,h1,h2,h3,h4,by omega,λa ha=>h6 a (lS hb hx ha)⟩;refine eB (b9 (r:=.d d) (je rfl hp rfl) rfl (b9 (r:=.d (.str (wd d))) (WP.two (x:=.d d) (y:=.d (.int 0)) rfl rfl (uo h)) rfl ?_));cases h with
 | mark i1 i2=>exact cu (gu rfl (cC (c3 (x:=.d w.d) (y:=.d (.str _)) (w:=.d (dN _)) (z:=.d (.bl _)) rfl rfl (Ah hs rfl rfl (dZ rfl (Su.mpr rfl))) (HR w (nA _ i1) _)) rfl rfl))
 | arrow i1 i2 i3=>exact bu rfl (cu (gu rfl (cC (c4 (x:=.d w.d) (y:=.d (.str _)) (w:=.d (dN _)) (v:=.d (dN _)) (z:=.d (.bl _)) rfl rfl (Ah hs rfl rfl (dZ rfl Sv)) (Ah hs rfl rfl (dZ rfl (Ss _ (Su.mpr rfl)))) (HU w (nB _ i1) _ _)) rfl rfl)))
 | same i1 i2=>
  rename_i a b;refine bu rfl (bu rfl (cu (gu rfl (cC (WP.two (x:=.d (dN (ρ a))) (y:=.d (dN (ρ b))) (Ah hs rfl rfl (dZ rfl Sv)) (Ah hs rfl rfl (dZ rfl (Ss _ (Su.mpr rfl)))) (eq_int false _ _)) rfl ?_))));show O.rt (R.d (.bl ((ρ a:Int) == (ρ b:Int))))=O.rt (R.d (.bl (ρ a == ρ b)));congr 3;rw [V2,beq_iff_eq,beq_iff_eq];omega
 | not i1=>
  rename_i ys;refine bu rfl (bu rfl (bu rfl (bu rfl (cu (gu rfl (cC (DJ (b:=sem w j (.tup ys) ρ) (c3 (x:=.d w.d) (y:=.d (pd w j (.tup ys))) (w:=rs) (z:=.d (.bl (sem w j (.tup ys) ρ))) rfl (WP.two (x:=.d (.lst [pd w j (.tup ys)])) (y:=.d (.int 0)) (je rfl hp rfl) rfl rfl) (eF rfl h1) (by rw [h2];exact IH _ (Su.mpr rfl) s ρ (sub rfl _ (Su.mpr rfl))))) rfl rfl))))))
 | and i1 i2=>
  rename_i ys;refine bu rfl (bu rfl (bu rfl (bu rfl (bu rfl (cu (gu rfl (cC (DJ (b:=ys.any λx=>sem w j x ρ == false) (c4 (x:=.d w.d) (y:=.d (.lst (ys.map (pd w j)))) (w:=rs) (v:=.d (.bl false)) (z:=.d (.bl (ys.any λx=>sem w j x ρ == false))) rfl (je rfl hp rfl) (eF rfl h1) rfl (by rw [h2];exact GL false i2 (λx hx=>IH x hx s ρ (sub rfl x hx)) ⟨rs,h1,h2⟩))) rfl ?_)))))));rw [zp];rfl
 | or i1 i2=>
  rename_i ys;refine bu rfl (bu rfl (bu rfl (bu rfl (bu rfl (bu rfl (cu (gu rfl (cC (c4 (x:=.d w.d) (y:=.d (.lst (ys.map (pd w j)))) (w:=rs) (v:=.d (.bl true)) (z:=.d (.bl (ys.any λx=>sem w j x ρ == true))) rfl (je rfl hp rfl) (eF rfl h1) rfl (by rw [h2];exact GL true i2 (λx hx=>IH x hx s ρ (sub rfl x hx)) ⟨rs,h1,h2⟩)) rfl ?_))))))));rw [zq];rfl
 | some i1 i2=>
  refine bu rfl (bu rfl (bu rfl (bu rfl (bu rfl (bu rfl (bu rfl (cu (gu rfl (cC (c4 (x:=.d w.d) (y:=rp) (w:=rs) (v:=.d (.int 1)) (z:=.d (.bl _)) rfl (eF rfl p1) (eF rfl h1) rfl (by rw [p2,h2];exact pM (.some i1 i2) hp rfl rfl rfl hm hN hs (IH _ (Su.mpr rfl)) 1 (by omega))) rfl ?_)))))))));show O.rt (R.d (.bl (decide ((1:Int)<=(cnt w.m _:Nat)))))=O.rt (R.d (.bl (decide (1<=cnt w.m _))));congr 3;rw [decide_eq_decide];omega
 | every i1 i2=>
  refine bu rfl (bu rfl (bu rfl (bu rfl (bu rfl (bu rfl (bu rfl (bu rfl (cu (gu rfl (cC (c4 (x:=.d w.d) (y:=rp) (w:=rs) (v:=.d (.int w.m)) (z:=.d (.bl _)) rfl (eF rfl p1) (eF rfl h1) rfl (by rw [p2,h2];exact pM (.every i1 i2) hp rfl rfl rfl hm hN hs (IH _ (Su.mpr rfl)) w.m (by omega))) rfl ?_))))))))));show O.rt (R.d (.bl (decide ((w.m:Int)<=(cnt w.m _:Nat)))))=O.rt (R.d (.bl (decide (w.m<=cnt w.m _))));congr 3;rw [decide_eq_decide];omega
 | least i0 i1 i2=>
  exact bu rfl (bu rfl (bu rfl (bu rfl (bu rfl (bu rfl (bu rfl (bu rfl (bu rfl (cC (c4 (x:=.d w.d) (y:=rp) (w:=rs) (v:=.d (.int _)) (z:=.d (.bl _)) rfl (eF rfl p1) (eF rfl h1) rfl (by rw [p2,h2];exact pM (.least i0 i1 i2) hp rfl rfl rfl hm hN hs (IH _ (Su.mpr rfl)) _ i0)) rfl rfl)))))))))
end
end K16
namespace K16
open PySem PySem.Spec PyProof.Rows DL K01 WP
open K12 (Sy wit eS bnd own wd bQ jn fG cX dO iX f6 fD k_ jD qU lK jJ jb qo cU l7 c7 tX zh v7 sE ML MK)
variable {A B L:List Str}{k:Nat}{d:D}{w:Wd}
theorem Jd {i j:Nat}{cls fl:Str}{gl ge:G R}{env:Ev}{r rp:R}{xs zs:List D}{dom:List (List Int)}{f:List Int->Bool}{is:List Int}{b:Bool}(h1:gl env=.ok r) (h2:fQ r=.ok xs) (h3:af i (env.set j (some (.d (.tup xs))))=.ok rp) (h4:iR cls fl rp=.ok (.d (.ob (.mem dom f) zs))) (h5:ku xs=some is)
  (h6:ge (env.set j (some (.d (.tup xs))))=.ok (.d (.bl b))) (h7:dom.contains is=true) (h8:j < env.length) (h9:b=f is):vL i j cls fl gl ge env=.ok (.rt (.d (.bl b))):=by unfold vL;rw [h1,aK,h2,aK,h3,aK,h4,aK,h5,h6];exact if_pos ⟨⟨h7,h8⟩,h9⟩
theorem ints_map (f:Str->Nat):∀l:List Str,ku (l.map λa=>dN (f a))=some (l.map λa=>(f a:Int))
 | []=>rfl
 | a::l=>by show (ku (l.map λa=>dN (f a))).map ((f a:Int)::·)=_;rw [ints_map f l];rfl
theorem Ks (nA:∀n∈A,n∈w.ms.map TJ) (nB:∀n∈B,n∈w.ar.map TJ) (m1:1<=w.m) (hm:w.m<=8):∀(n k:Nat){d:D},Sy A B L k d->k<=n->k<=60->∀(p s:S) (ρ:Str->Nat) (N:Nat),N + k<=900->Pt p (jj w k d)->Pl w.m s (bQ k d) ρ N->d9 n [.d w.d,p,s]=.ok (.d (.bl (sem w k d ρ)))
 | 0,k,d,h,hk,_=>by obtain ⟨_,e⟩:=cX h;omega
 | n + 1,k,d,h,hk,QF=>by
  obtain ⟨j,rfl⟩:=cX h;intro p s ρ N hN hp hs;have hp2:=hp;obtain ⟨rp,p1,p2,p3⟩:=hp2;obtain ⟨rs,ss,xs,h1,h2,h3,h4,h5,h6⟩:=hs.ex;have hr:ia (d9 n) [.d w.d,p,s]=.ok (.d (.bl (sem w (j + 1) d ρ))):=AI nA nB m1 hm h hp (by omega) hs λx hx s' ρ' hs'=>Ks nA nB m1 hm n j (dO h x hx) (by omega) (by omega) _ s' ρ' (N + 1) (by omega) OO hs';have hcall:∀e:Option S,gN (aE 3 (K16.ia (d9 n))) (ah (af 0) (ah (af 1) (ah (af 2) az))) [some (.d w.d),some p,some s,e]=.ok (.d (.bl (sem w (j + 1) d ρ))):=λe=>c3 (x:=.d w.d) (y:=rp) (w:=rs) (z:=.d (.bl (sem w (j + 1) d ρ))) rfl (eF rfl p1) (eF rfl h1) (by rw [p2,h2];exact hr);have hk0:aT (fE "Part" "kept" (af 1)) [some (.d w.d),some p,some s,none]=.ok (pe (j + 1) d):=cU (je rfl hp rfl);have hk1:bC (aT (fE "Part" "kept" (af 1))) [some (.d w.d),some p,some s,none]=.ok (!pe (j + 1) d):=by show (aT (fE "Part" "kept" (af 1)) _ >>= _)=_;rw [hk0];rfl
  show fin (kP (d9 n) [some (.d w.d),some p,some s,none])=_;cases hq:pe (j + 1) d with
  | false=>
   rw [hq] at hk1;exact eB (cu (gu hk1 (cC (hcall none) rfl rfl)))
  | true=>
   rw [hq] at hk1;refine eB (bu hk1 ⟨_,Jd (r:=.l .fresh ((bQ (j + 1) d).map λa=>dN (ρ a))) (rp:=rp) (zs:=[]) (dom:=(mu w d).1) (f:=(mu w d).2) (is:=(bQ (j + 1) d).map λa=>(ρ a:Int)) (b:=sem w (j + 1) d ρ) ?_ rfl (eF rfl p1) ?_ (ints_map ρ _) (hcall _) ?_ (SS rfl) ?_,rfl⟩)
   ·have hl:(bQ (j + 1) d).length<=3:=by unfold pe at hq;rw [SI,decide_eq_true_iff] at hq;exact hq.2
    refine pS (α:=Str) (xs:=bQ (j + 1) d) (h:=D.str) (λa=>dN (ρ a)) ?_ (by omega) λa ha=>⟨_,Ah (i:=1) hs rfl rfl ha,rfl⟩;show (fE _ _ _ _ >>= _)=_;rw [je (v:=.lst ((bQ (j + 1) d).map .str)) rfl hp rfl];rfl
   ·unfold iR;rw [p3];rfl
   ·have hl:(bQ (j + 1) d).length<=3:=by unfold pe at hq;rw [SI,decide_eq_true_iff] at hq;exact hq.2
    rw [Wh];unfold mu;rw [qW h QF,if_pos hl];exact yF λa ha=>(h6 a ha).2
   ·show _=sem w 60 d (asg (bQ 60 d) _);rw [qW h QF,kc h QF];exact jl h λx hx=>(zx hx).symm
theorem N3 (w:Wd):MZ w.d=w:=by
 obtain ⟨m,ms,ar⟩:=w;show Wd.mk (m:Int).toNat ((ms.map i6).map HN) ((ar.map kU).map HM)=_;have e1:∀r:Str×List Nat,HN (i6 r)=r:=λr=>by show (r.1,(r.2.map dN).map K55.iK)=r;rw [TF,show (K55.iK ∘ dN)=id from rfl,Xi]
 have e2:∀r:Str×List (Nat×Nat),HM (kU r)=r:=λr=>by show (r.1,(r.2.map dP).map K55.jt)=r;rw [TF,show (K55.jt ∘ dP)=id from funext λp=>rfl,Xi]
 rw [TF,TF,show (HN ∘ i6)=id from funext e1,show (HM ∘ kU)=id from funext e2,Xi,Xi];rfl
theorem Nc {r:R}{z:List Str×List D}(h:uw r=some z):G9 false r (.d .non)=.ok (.d (.bl false)):=by
 unfold uw at h;split at h
 ·rfl
 ·rfl
 ·rfl
 ·cases h
theorem zg (hL:∀x∈L,isLet x=true) (m1:1<=w.m) (hm:w.m<=8) (hms:w.ms.length<=100) (har:w.ar.length<=100) (h:Sy (w.ms.map TJ) (w.ar.map TJ) L k d) (QF:k<=60) (hN:(c7 k d).length < 2000){s:S} {ρ:Str->Nat}(hs:Pl w.m s (bQ k d) ρ 300):
  iu [.d w.d,.d d,s]=.ok (.d (.bl (sem w k d ρ))):=by
 obtain ⟨rs,ss,xs,h1,h2,h3,h4,h5,h6⟩:=hs.ex;refine eB (bu (cU (WP.two (x:=rs) (y:=.d .non) (eF rfl h1) rfl (Nc h3))) ?_);refine b9 (r:=.d (fD (w.ms.map TJ) (w.ar.map TJ))) (c1 (x:=.d w.d) (z:=.d (fD (w.ms.map TJ) (w.ar.map TJ))) rfl (pN w hms har)) rfl ?_;refine kE (ds:=c7 k d) ?_ ?_
 ·show (gN _ _ _ >>= _)=_;rw [c1 (x:=.d d) (z:=.l .fresh (c7 k d)) rfl (zh h hN)];rfl
 refine sJ (λ_ env=>∃x:Option S,env=[some (.d w.d),some (.d d),some s,some (.d (fD (w.ms.map TJ) (w.ar.map TJ))),x,none,none]) _ ⟨none,rfl⟩ ?_ ?_
 ·rintro i hi _ ⟨x,rfl⟩;refine ⟨_,rfl,?_⟩;have hy:=tX h _ (UH hi);refine xQ (?_:bC _ _=.ok (!true)) (kQ ⟨_,rfl,_,rfl⟩);show (aT _ _ >>= _)=_;rw [cU (b:=true) (c2 (x:=.d (c7 k d)[i]) (y:=.d (fD (w.ms.map TJ) (w.ar.map TJ))) (z:=.d (.bl true)) rfl rfl (by rw [<-sE hy];exact v7 hy _ _))];rfl
 rintro _ ⟨x,rfl⟩;refine b9 (r:=.o .fresh (.ins "Part" lC) (jj w k d)) (x:=.oo (.ins "Part" lC) (jj w k d)) (Hr (rs:=[.d d,.d (.tup [])]) rfl rfl ?_) rfl ?_
 ·show gV (mu (MZ w.d)) 60 [.d d,.d (.tup [])]=_;rw [N3];exact B_ hL hm 60 h QF QF
 have pt0:Pt (.oo (.ins "Part" lC) (jj w k d)) (jj w k d)\/True:=.inr trivial;refine kE (ds:=(bQ k d).map .str) ?_ ?_
 ·obtain ⟨j,rfl⟩:=cX h;rfl
 refine sJ (λ_ env=>∃y:Option S,env=[some (.d w.d),some (.d d),some s,some (.d (fD (w.ms.map TJ) (w.ar.map TJ))),x,some (.oo (.ins "Part" lC) (jj w k d)),y]) _ ⟨none,rfl⟩ ?_ ?_
 ·rintro i hi _ ⟨y,rfl⟩;refine ⟨_,rfl,?_⟩;have hi':i < (bQ k d).length:=by simpa using hi
  have ha:=UH hi';rw [Y7];refine xQ (cU (WP.two (x:=.d (.str (bQ k d)[i])) (y:=rs) rfl (eF rfl h1) ?_)) (kQ ⟨_,rfl,_,rfl⟩);unfold xu;rw [h3];show M.ok (R.d (.bl (!(cI ss xs (bQ k d)[i]).isSome)))=_;rw [(h6 _ ha).1];rfl
 rintro _ ⟨y,rfl⟩;exact cC (c3 (x:=.d w.d) (y:=.o .own (.ins "Part" lC) (jj w k d)) (w:=rs) (z:=.d (.bl (sem w k d ρ))) rfl rfl (eF rfl h1) (by rw [h2];exact Ks (λ_ h=>h) (λ_ h=>h) m1 hm 60 k h QF QF _ s ρ 300 (by omega) ⟨_,rfl,rfl,rfl⟩ hs)) rfl rfl
end K16
namespace K03
open PySem DL K01 WP K51 K52 K55 K23
end K03
namespace K16
open PySem DL K01 WP K51 K52 K55 K23
open K12 (Sy wit eS bnd bQ cX dO iX fG)
variable {A B L:List Str}{k:Nat}{d:D}{w:Wd}{ps:List Nat}
theorem HV (w:Wd) (h:K03.Ok w) (h64:∀r∈w.ar,r.2.length < 64) (ps:List Nat) (pm:ps.Perm (Sx w.m)):qp [.d w.d,.d (.tup (ps.map dN))]=.ok (.d (fX w ps).d):=by
 have ml:=h.ok.ml;have al:=h.ok.al;have hl:ps.length=w.m:=by rw [pm.length_eq,Th]
 refine eB (BS rfl rfl rfl (b9 (qL (xs:=w.ms) (λr=>.str r.1) (λr=>.tup (r.2.map dN)) (λr=>i6 (r.1,(bM ((r.2.map λp=>ps.getD p 0).map dN)).map iK)) rfl (by omega) λr hr=>?_) rfl ?_))
 ·obtain ⟨h1,h2⟩:=h.gT.mp r hr;have h1':=h.m8 r hr;refine ⟨_,dh (aP rfl rfl (aP (n1 (n1 (pS (xs:=r.2) (h:=dN) (λp=>dN (ps.getD p 0)) rfl (by omega) λp hp=>⟨_,WP.two rfl rfl (Bp (by rw [hl];exact h2 p hp)),rfl⟩) (x:=.l .fresh (r.2.map λp=>dN (ps.getD p 0))) (z:=.l .fresh (bM ((r.2.map λp=>ps.getD p 0).map dN))) ?_) rfl) rfl bY)) t2,?_⟩
  ·have:=OW (r.2.map λp=>ps.getD p 0) (by simp;omega);rw [TF] at this ⊢;exact this
  ·unfold i6;rw [uX dN iK vU];rfl
 refine b9 (qL (xs:=w.ar) (λr=>.str r.1) (λr=>.tup (r.2.map dP)) (λr=>kU (r.1,(bM ((r.2.map λp=>(ps.getD p.1 0,ps.getD p.2 0)).map dP)).map jt)) rfl (by omega) λr hr=>?_) rfl ?_
 ·obtain ⟨h1,h2⟩:=h.gT.ap r hr;have h3:=h64 r hr;refine ⟨_,dh (aP rfl rfl (aP (n1 (n1 (qL (xs:=r.2) (λp=>dN p.1) (λp=>dN p.2) (λp=>dP (ps.getD p.1 0,ps.getD p.2 0)) rfl (by omega) λp hp=>⟨_,dh (aP (WP.two rfl rfl (Bp (by rw [hl];exact (h2 p hp).1))) rfl (aP (WP.two rfl rfl (Bp (by rw [hl];exact (h2 p hp).2))) rfl bY)) t2,rfl⟩) (x:=.l .fresh (r.2.map λp=>dP (ps.getD p.1 0,ps.getD p.2 0))) (z:=.l .fresh (bM ((r.2.map λp=>(ps.getD p.1 0,ps.getD p.2 0)).map dP))) ?_) rfl) rfl bY)) t2,?_⟩
  ·have:=OX (r.2.map λp=>(ps.getD p.1 0,ps.getD p.2 0)) (by rw [So];exact h3);rw [TF] at this ⊢;exact this
  ·unfold kU;rw [uX dP jt vV];rfl
 refine cC (dh (aP rfl rfl (aP rfl rfl (aP rfl rfl bY))) (by show 3<=1000;decide)) rfl ?_;unfold fX Wd.d;simp only [TF];rfl
theorem pV {α:Type}(f:Str×α->Str×α) (hf:∀r,(f r).1=r.1) (n:Str):∀l:List (Str×α),(l.map f).find? (λr=>r.1 == n)=(l.find? λr=>r.1 == n).map f
 | []=>rfl
 | r::l=>by
  rw [S4,Ub,Ub,hf];cases r.1 == n with
  | true=>rfl
  | false=>exact pV f hf n l
theorem KW (h:K03.Ok w) (pm:ps.Perm (Sx w.m)){p:Nat}(hp:p < w.m) (n:Str):wJ (fX w ps) n (ps.getD p 0)=wJ w n p:=by
 unfold wJ;rw [show (fX w ps).ms=w.ms.map λr=>(r.1,(bM ((r.2.map λp=>ps.getD p 0).map dN)).map iK) from rfl,pV (λr:Str×List Nat=>(r.1,(bM ((r.2.map λp=>ps.getD p 0).map dN)).map iK)) (λ_=>rfl)];cases q:w.ms.find? λr=>r.1 == n with
 | none=>rfl
 | some r=>
  have h2:=(h.gT.mp r (VO q)).2;show decide (_∈(bM ((r.2.map λp=>ps.getD p 0).map dN)).map iK)=decide (p∈r.2);rw [decide_eq_decide,Ei dN iK vU,SD];exact ⟨λ⟨x,hx,e⟩=>g_ pm (h2 x hx) hp e▸hx,λhx=>⟨p,hx,rfl⟩⟩
theorem LH (h:K03.Ok w) (pm:ps.Perm (Sx w.m)){p q:Nat}(hp:p < w.m) (hq:q < w.m) (n:Str):uM (fX w ps) n (ps.getD p 0) (ps.getD q 0)=uM w n p q:=by
 unfold uM;rw [show (fX w ps).ar=w.ar.map λr=>(r.1,(bM ((r.2.map λp=>(ps.getD p.1 0,ps.getD p.2 0)).map dP)).map jt) from rfl,pV (λr:Str×List (Nat×Nat)=>(r.1,(bM ((r.2.map λp=>(ps.getD p.1 0,ps.getD p.2 0)).map dP)).map jt)) (λ_=>rfl)];cases e:w.ar.find? λr=>r.1 == n with
 | none=>rfl
 | some r=>
  have h2:=(h.gT.ap r (VO e)).2;show decide (_∈(bM ((r.2.map λp=>(ps.getD p.1 0,ps.getD p.2 0)).map dP)).map jt)=decide ((p,q)∈r.2);rw [decide_eq_decide,Ei dP jt vV,SD];refine ⟨λ⟨x,hx,z⟩=>?_,λhx=>⟨(p,q),hx,rfl⟩⟩;have e1:=g_ pm (h2 x hx).1 hp (congrArg TJ z);have e2:=g_ pm (h2 x hx).2 hq (congrArg adD z);rw [<-e1,<-e2];exact hx
theorem xh (pm:ps.Perm (Sx w.m)) (f g:Nat->Bool) (h:∀p,p < w.m->g (ps.getD p 0)=f p):cnt w.m g=cnt w.m f:=by
 have hl:ps.length=w.m:=by rw [pm.length_eq,Th]
 have e1:cnt w.m g=(ps.filter g).length:=by unfold cnt;exact (pm.symm.filter g).length_eq
 have e2:ps=(Sx w.m).map λk=>ps.getD k 0:=by
  apply VC
  ·simp [hl]
  ·intro i h1 h2;simp [YM,h1]
 rw [e1]
 conv=>lhs;rw [e2]
 rw [List.filter_map,So];unfold cnt;congr 1;exact aaY λp hp=>h p (S0.mp hp)
theorem yk {ρ:Str->Nat}{a:Str}{p:Nat}:put (λb=>ps.getD (ρ b) 0) a (ps.getD p 0)=λb=>ps.getD (put ρ a p b) 0:=by funext b;unfold put;split <;> rfl
theorem j_ (h:K03.Ok w) (pm:ps.Perm (Sx w.m)):∀{k:Nat}{d:D},Sy A B L k d->∀ρ:Str->Nat,(∀b∈bQ k d,ρ b < w.m)->sem (fX w ps) k d (λb=>ps.getD (ρ b) 0)=sem w k d ρ
 | 0,d,hy,ρ,hr=>by obtain ⟨_,e⟩:=cX hy;cases e
 | k + 1,_,.mark (n:=n) (a:=a) _ _,ρ,hr=>KW h pm (hr a (dZ rfl (Su.mpr rfl))) n
 | k + 1,_,.arrow (n:=n) (a:=a) (b:=b) _ _ _,ρ,hr=>LH h pm (hr a (dZ rfl Sv)) (hr b (dZ rfl (Ss _ (Su.mpr rfl)))) n
 | k + 1,_,.same (a:=a) (b:=b) _ _,ρ,hr=>by show (ps.getD (ρ a) 0 == ps.getD (ρ b) 0)=(ρ a == ρ b);rw [V2,beq_iff_eq,beq_iff_eq];exact ⟨λe=>g_ pm (hr a (dZ rfl Sv)) (hr b (dZ rfl (Ss _ (Su.mpr rfl)))) e,λe=>by rw [e]⟩
 | k + 1,_,.not hy,ρ,hr=>congrArg not (j_ h pm hy ρ λb hb=>hr b (lS rfl (Su.mpr rfl) hb))
 | k + 1,_,.and hy _,ρ,hr=>qC λs hs=>j_ h pm (hy s hs) ρ λb hb=>hr b (lS rfl hs hb)
 | k + 1,_,.or hy _,ρ,hr=>qF λs hs=>j_ h pm (hy s hs) ρ λb hb=>hr b (lS rfl hs hb)
 | k + 1,_,.some (a:=a) (xs:=xs) _ hy,ρ,hr=>congrArg (λn=>decide (1<=n)) (xh (w:=w) pm (λp=>sem w k (.tup xs) (put ρ a p)) _ λp hp=>by
   show sem (fX w ps) k (.tup xs) (put (λb=>ps.getD (ρ b) 0) a (ps.getD p 0))=_;rw [yk];exact j_ h pm hy _ λb hb=>by
    unfold put;split
    ·exact hp
    ·exact hr b (jV rfl rfl (Su.mpr rfl) hb ‹_›))
 | k + 1,_,.every (a:=a) (xs:=xs) _ hy,ρ,hr=>congrArg (λn=>decide (w.m<=n)) (xh (w:=w) pm (λp=>sem w k (.tup xs) (put ρ a p)) _ λp hp=>by
   show sem (fX w ps) k (.tup xs) (put (λb=>ps.getD (ρ b) 0) a (ps.getD p 0))=_;rw [yk];exact j_ h pm hy _ λb hb=>by
    unfold put;split
    ·exact hp
    ·exact hr b (jV rfl rfl (Su.mpr rfl) hb ‹_›))
 | k + 1,_,.least (a:=a) (xs:=xs) _ _ hy,ρ,hr=>congrArg (λn:Nat=>decide (_<=(n:Int))) (xh (w:=w) pm (λp=>sem w k (.tup xs) (put ρ a p)) _ λp hp=>by
   show sem (fX w ps) k (.tup xs) (put (λb=>ps.getD (ρ b) 0) a (ps.getD p 0))=_;rw [yk];exact j_ h pm hy _ λb hb=>by
    unfold put;split
    ·exact hp
    ·exact hr b (jV rfl rfl (Su.mpr rfl) hb ‹_›))
theorem zQ:∀(n:Nat){k:Nat}{d:D},Sy A B L k d->∀x∈bQ n d,x∈L
 | 0,_,_,_,x,hx=>by cases hx
 | n + 1,k,d,h,x,hx=>by
  obtain ⟨j,rfl⟩:=cX h;have inner:∀x∈(wit d).flatMap (bQ n),x∈L:=λx hx=>by obtain ⟨s,hs,hx⟩:=U1.mp hx;exact zQ n (dO h s hs) x hx
  unfold bQ at hx;split at hx
  ·rcases Tc.mp (fG.mp hx) with hx | hx
   ·exact iX h x hx
   ·exact inner x hx
  ·exact inner x ((VS.mp (fG.mp hx)).1)
theorem t9 {α β:Type}(f:α->β){ss:List Str}{xs:List α}{s:Str}{v:α}:bK ss (xs.map f) s (f v)=((bK ss xs s v).1,(bK ss xs s v).2.map f):=by
 unfold bK;split
 ·refine adx rfl ?_;show ((ss.zip (xs.map f)).map _)=((ss.zip xs).map _).map f;rw [List.zip_map_right,TF,TF];refine aac λp _=>?_;show (if p.1=s then f v else f p.2)=f (if p.1=s then v else p.2);split <;> rfl
 ·simp
theorem xS {α β:Type}(f:α->β){x:Str}:∀{ss:List Str}{xs:List α},cI ss (xs.map f) x=(cI ss xs x).map f
 | [],_=>by unfold cI;rfl
 | _::_,[]=>rfl
 | s::ss,v::xs=>by
  show (if s=x then some (f v) else cI ss (xs.map f) x)=(if s=x then some v else cI ss xs x).map f;split
  ·rfl
  ·exact xS f
end K16
namespace K16
open PySem DL K01 WP
open K12 (Sy bQ fD Ca zf c7 cU)
theorem DA {α:Type}{x:Str}{v:α}:∀{ss:List Str}{xs:List α},cI ss xs x=some v->v∈xs
 | [],_,h=>by unfold cI at h;cases h
 | _::_,[],h=>by unfold cI at h;cases h
 | s::ss,u::xs,h=>by
  have h:(if s=x then some u else cI ss xs x)=some v:=h;split at h
  ·cases h;exact Sv
  ·exact Ss _ (DA h)
theorem JD {ss:List Str}{xs:List Nat}{s:Str}{v m:Nat}(h:∀p∈xs,p < m) (hv:v < m):∀p∈(bK ss xs s v).2,p < m:=by
 unfold bK;split
 ·intro p hp;obtain ⟨q,hq,rfl⟩:=SD.mp hp;split
  ·exact hv
  ·exact h _ (XU hq).2
 ·intro p hp;rcases Tc.mp hp with hp | hp
  ·exact h p hp
  ·rw [Su.mp hp];exact hv
theorem Gi {ss:List Str}{xs:List Nat}{s a:Str}{v:Nat}(h:ss.contains a=true):(bK ss xs s v).1.contains a=true:=by
 unfold bK;split
 ·exact h
 ·show (ss++[s]).contains a=true;rw [Wh] at h ⊢;exact Uy _ h
theorem Ml {ss:List Str}{xs:List Nat}{s:Str}{v:Nat}:(bK ss xs s v).1.length<=ss.length + 1:=by
 unfold bK;split
 ·exact U5 _
 ·show (ss++[s]).length<=_;rw [SE];exact Sw _
theorem M6 (ns:List Int):∃cs:List Int,DL.cutD (ns.map D.int) (some 14) (some 62)=cs.map .int/\cs.length<=56:=by obtain ⟨cs,e1,e2⟩:=tu D.int ns (some ((14:Nat):Int)) (some ((62:Nat):Int));refine ⟨cs,e1,?_⟩;rw [e2,HT.lH,HT.lH,UG,UY];omega
theorem BK {m n:Nat}{ss:List Str}{qs:List Nat}{F:List Str}(hl:ss.length=qs.length) (hn:ss.length<=n) (hF:∀a∈F,ss.contains a=true) (hm:∀q∈qs,q < m):Pl m (.ob (.txt ss) (qs.map dN)) F (λa=>(cI ss qs a).getD 0) n:=by refine ⟨_,ss,qs.map dN,rfl,rfl,rfl,by rw [So];exact hl,hn,λa ha=>?_⟩;have h1:=hF a ha;rw [<-lA hl] at h1;obtain ⟨q,hq⟩:=Tr.mp h1;rw [xS,hq];exact ⟨rfl,hm q (DA hq)⟩
theorem Ja (ns:List Int) (hl:ns.length<=63):sM [.bor (ns.map D.int)]=.ok (.d (.bl true)):=by
 obtain ⟨A,B,hT,tA,tB⟩:=K01.pN (c9 ns 1);obtain ⟨L,RI,h4,hL⟩:=Ca (c9 ns 8 % 26);obtain ⟨m,hm⟩:∃m:Nat,1 + c9 ns 0 % 4=m:=⟨(1 + c9 ns 0 % 4).toNat,by omega⟩;have m4:m<=4:=by omega
 have m1:1<=m:=by omega
 obtain ⟨ms,rs,hw,fa,fb,pa,pb⟩:=Kv ns 2 m (by omega) A B tA tB;have hw:K01.fL [.bor (ns.map D.int),.d (.int 2),.d (.int m),.d (fD A B)]=.ok (.d (Wd.d ⟨m,ms,rs⟩)):=hw;have ok:K03.Ok ⟨m,ms,rs⟩:=by
  refine ⟨⟨m1,show m<=8 by omega,?_,?_⟩,⟨λr hr=>⟨Tw (pa r hr).1 (by omega),(pa r hr).2.2⟩,λr hr=>⟨(pb r hr).1,(pb r hr).2.2⟩⟩,⟨λr hr=>(pa r hr).2.1,λr hr=>(pb r hr).2.1⟩,λr hr=>(pa r hr).1⟩
  ·show ms.length<=3;have:=tA.1;rw [<-fa,So] at this;exact this
  ·show rs.length<=3;have:=tB.1;rw [<-fb,So] at this;exact this
 have wm:(Wd.mk m ms rs).m=m:=rfl;have fa:(Wd.mk m ms rs).ms.map TJ=A:=fa;have fb:(Wd.mk m ms rs).ar.map TJ=B:=fb;generalize Wd.mk m ms rs=w at *;subst wm;have a64:∀r∈w.ar,r.2.length < 64:=λr hr=>by have:=Ug (K23.DU (ok.jn.ap r hr)) (l₂:=K23.sU w.m w.m) λp hp=>K23.FW.mpr ((ok.gT.ap r hr).2 p hp);rw [K23.FL] at this;have:=ZY m4 m4;omega
 obtain ⟨os,ho,pm⟩:=K03.HX (c9 ns 13) w.m (by omega);have lo:os.length=w.m:=by rw [pm.length_eq,Th]
 obtain ⟨o1,o2,o3,o4,o5,o6⟩:=K23.MU w ok.ok 64 ok.gT ok.jn os pm;have cel:∀(k:Nat) (tl:Ev),gN (aE 2 K01.cP) (ah (af 0) (ah (gC (.int k)) az)) (some (.bor (ns.map D.int))::tl)=.ok (.d (.int (c9 ns k))):=λk tl=>c2 (x:=.l .bor (ns.map .int)) (y:=.d (.int k)) (z:=.d (.int (c9 ns k))) rfl rfl (vZ ns k);obtain ⟨cs,ec,lc⟩:=M6 ns;obtain ⟨q,hG,eok,q57⟩:=zf (A:=A) (B:=B) (L:=L) lc h4 (by have:=tA.1;omega) (by have:=tB.1;omega);generalize q.1=n at eok q57;generalize q.2.1=s at eok hG;have hy:=eok.sy;have hN:(c7 n s).length < 2000:=by have:=eok.len;omega
 refine eB (b9 (r:=.d (fD A B)) (x:=.d (fD A B)) (c1 (x:=.d (.int (c9 ns 1))) (z:=.d (fD A B)) (cel 1 _) hT) rfl ?_);refine b9 (r:=.d (.int w.m)) (by rw [<-hm];exact WP.two (x:=.d (.int 1)) (y:=.d (.int (c9 ns 0 % 4))) rfl (WP.two (cel 0 _) rfl (bN _ 4 (by decide))) (dX _ _)) rfl ?_;refine b9 (r:=.d w.d) (c4 (x:=.l .bor (ns.map .int)) (y:=.d (.int 2)) (w:=.d (.int w.m)) (v:=.d (fD A B)) (z:=.d w.d) rfl rfl rfl rfl hw) rfl ?_;refine b9 (r:=.l .fresh (L.map .str)) (x:=.own (L.map .str)) (c1 (x:=.d (.int (c9 ns 8 % 26))) (z:=.l .fresh (L.map .str)) (WP.two (cel 8 _) rfl (bN _ 26 (by decide))) RI) rfl ?_;refine b9 (r:=.d s) (c3 (x:=.l .fresh (cs.map .int)) (y:=.d (fD A B)) (w:=.l .own (L.map .str)) (z:=.d s) (by show M.ok (R.l .fresh (DL.cutD (ns.map .int) (some 14) (some 62)))=_;exact congrArg (λz=>M.ok (R.l .fresh z)) ec) rfl rfl hG) rfl ?_;refine b9 (r:=.d (.tup (os.map dN))) (c2 (x:=.d (.int (c9 ns 13))) (y:=.d (.int w.m)) (z:=.d (.tup (os.map dN))) (cel 13 _) rfl ho) rfl ?_;refine cu ⟨_,rfl,cu ⟨_,rfl,?_⟩⟩;refine kE (BR (n:=4) rfl (by decide)) (HQ (λk env=>∃(ss:List Str) (qs:List Nat) (x y:Option S),env=[some (.bor (ns.map D.int)),some (.d (fD A B)),some (.d (.int w.m)),some (.d w.d),some (.own (L.map .str)),some (.d s),some (.d (.tup (os.map dN))),some (.oo (.txt ss) (qs.map dN)),some (.oo (.txt ss) ((qs.map λp=>os.getD p 0).map dN)),x,y,none,none]/\ss.length=qs.length/\ss.length<=k/\(∀q∈qs,q < w.m)/\∀(i:Nat) (hi:i < L.length),i < k->ss.contains L[i]=true) ⟨[],[],none,none,rfl,rfl,Sw _,λ_ h=>(nomatch h),λ_ _ h=>(nomatch h)⟩ ?_ ?_)
 ·rintro k hk _ ⟨ss,qs,x,y,rfl,l1,l2,l3,l4⟩;have RA:k < L.length:=by omega
  obtain ⟨p,hp⟩:∃p:Nat,c9 ns (9 + k) % w.m=p:=⟨(c9 ns (9 + k) % w.m).toNat,by have:=UC (c9 ns (9 + k)) (b:=(w.m:Int)) (by omega);omega⟩;have Q9:p < w.m:=by have:=UU (c9 ns (9 + k)) (b:=(w.m:Int)) (by omega);omega
  refine ⟨_,rfl,b9 (r:=.d (dN p)) (WP.two (x:=.d (.int (c9 ns (9 + k)))) (y:=.d (.int w.m)) (c2 (x:=.l .bor (ns.map .int)) (y:=.d (.int ((9 + k:Nat):Int))) (z:=.d (.int (c9 ns (9 + k)))) rfl ?_ (vZ ns (9 + k))) rfl ((bN _ _ (by omega)).trans (by rw [hp]))) rfl ?_⟩
  ·show M.ok (R.d (.int (9 + (k:Int))))=_;congr 3
  refine cu (Bs (d:=dN p) (a:=L[k]) rfl rfl rfl (WP.two (x:=.l .own (L.map .str)) (y:=.d (.int k)) rfl rfl (lR (k:=k) (by simp [RA]))) (by omega) ?_);refine Bs (d:=dN (os.getD p 0)) (a:=L[k]) rfl (WP.two (x:=.d (.tup (os.map dN))) (y:=.d (dN p)) rfl rfl (K55.Bp (by omega))) rfl (WP.two (x:=.l .own (L.map .str)) (y:=.d (.int k)) rfl rfl (lR (k:=k) (by simp [RA]))) (by omega) ⟨_,rfl,(bK ss qs L[k] p).1,(bK ss qs L[k] p).2,some (.d (.int k)),some (.d (dN p)),?_,?_,?_,?_,?_⟩
  ·have e1:=t9 dN (ss:=ss) (xs:=qs) (s:=L[k]) (v:=p);have e2:=t9 dN (ss:=ss) (xs:=qs.map λp=>os.getD p 0) (s:=L[k]) (v:=os.getD p 0);have e3:=t9 (λp=>os.getD p 0) (ss:=ss) (xs:=qs) (s:=L[k]) (v:=p);rw [e3] at e2;rw [e1,e2];rfl
  ·exact oE l1
  ·have:=Ml (ss:=ss) (xs:=qs) (s:=L[k]) (v:=p);omega
  ·exact JD l3 Q9
  ·intro i hi hik;by_cases e:i=k
   ·subst e;exact Al
   ·exact Gi (l4 i hi (by omega))
 rintro _ ⟨ss,qs,x,y,rfl,l1,l2,l3,l4⟩;have hF:∀a∈bQ n s,ss.contains a=true:=λa ha=>by obtain ⟨i,hi,rfl⟩:=Vj.mp (zQ n hy a ha);exact l4 i hi (by omega)
 have hy1:Sy (w.ms.map TJ) (w.ar.map TJ) L n s:=by rw [fa,fb];exact hy
 have R7:Sy ((K55.fX w os).ms.map TJ) ((K55.fX w os).ar.map TJ) L n s:=by rw [o5,o6];exact hy1
 have hm':∀q∈qs.map (λp=>os.getD p 0),q < w.m:=λq hq=>by
  obtain ⟨p,hp,rfl⟩:=SD.mp hq;have h':p < os.length:=by rw [lo];exact l3 p hp
  rw [show os.getD p 0=os[p] by simp [YM,h']];simpa using pm.mem_iff.mp (UH h')
 have l1':ss.length=(qs.map λp=>os.getD p 0).length:=by rw [So];exact l1
 have ml:=ok.ok.ml;have al:=ok.ok.al;have ml':=o1.ml;have al':=o1.al;have one:=zg hL m1 (by omega) (by omega) (by omega) hy1 (by omega) hN (BK (m:=w.m) (n:=300) l1 (by omega) hF l3);have two':=zg (w:=K55.fX w os) hL m1 (show w.m<=8 by omega) (by omega) (by omega) R7 (by omega) hN (BK (m:=w.m) (n:=300) l1' (by omega) hF hm');have same:sem (K55.fX w os) n s (λa=>(cI ss (qs.map λp=>os.getD p 0) a).getD 0)=sem w n s (λa=>(cI ss qs a).getD 0):=by have pl:=(BK (m:=w.m) (n:=300) l1 (by omega) hF l3).ex;obtain ⟨_,_,_,_,_,_,_,_,h6⟩:=pl;rw [<-j_ ok pm hy _ λb hb=>(h6 b hb).2];refine jl hy λb hb=>?_;have h1:=hF b hb;rw [<-lA l1] at h1;obtain ⟨q,hq⟩:=Tr.mp h1;show (cI ss (qs.map λp=>os.getD p 0) b).getD 0=os.getD ((cI ss qs b).getD 0) 0;rw [xS,hq];rfl
 refine b9 (r:=.d (.bl (sem w n s λa=>(cI ss qs a).getD 0))) (c3 (x:=.d w.d) (y:=.d s) (w:=.o .own (.txt ss) (qs.map dN)) (z:=.d (.bl (sem w n s λa=>(cI ss qs a).getD 0))) rfl rfl rfl one) rfl ?_;refine b9 (r:=.d (.bl (sem w n s λa=>(cI ss qs a).getD 0))) (c3 (x:=.d (K55.fX w os).d) (y:=.d s) (w:=.o .own (.txt ss) ((qs.map λp=>os.getD p 0).map dN)) (z:=.d (.bl (sem w n s λa=>(cI ss qs a).getD 0))) (c2 (x:=.d w.d) (y:=.d (.tup (os.map dN))) (z:=.d (K55.fX w os).d) rfl rfl (HV w ok a64 os pm)) rfl rfl (by rw [<-same];exact two')) rfl ?_;refine cC (AX (p:=true) (q:=true) rfl (AX (p:=true) (q:=true) rfl (WP.two (x:=.d (.bl _)) (y:=.d (.bl _)) rfl rfl ?_))) rfl rfl;generalize sem w n s _=b;cases b <;> rfl
end K16
namespace K16
open PySem PySem.Spec PyProof.Rows L2 DL DX
theorem all_mk {l:Zq}{w:S9}{K:Sk}{h:Uo}{mg:Str->Option Sl}{fa:SM}(X:K.In h) (G:h.Ns SY mg) (RT:mg "law"=some (.ref fa))
  {f15 f28:SM}{o15 n15 o28 n28:Option SM}{s15 s28:Array (Option Sl)}{u15 v15 d15 p15 q15 r15 u28 v28 d28 p28 q28 r28:Sl}
  {f10 C10c:SM}{o10 n10:Option SM}{s10:Array (Option Sl)}{u10 v10 d10 p10 q10 r10:Sl}
  {T15:SM}{oT15:Sl}{dT15:Option SM}{nT15:Nat}{sT15:Array (Option Sl)}
  {f1c:SM}{sl1c:Array (Option Sl)}{n1c:Nat}{t2:Tok}{t3:Tok}{t4:Tok}
  {fINNER_PLACES:SM}{epINNER_PLACES:Nat}{ktINNER_PLACES0:Tok}{ktINNER_PLACES1:Tok}{ktINNER_PLACES2:Tok}{ktINNER_PLACES3:Tok}{t5:Tok}{t6:Tok}{t7:Tok}{t8:Tok}
  {fLETTER_PLACES:SM}{epLETTER_PLACES:Nat}{ktLETTER_PLACES0:Tok}{ktLETTER_PLACES1:Tok}{ktLETTER_PLACES2:Tok}{ktLETTER_PLACES3:Tok}{ktLETTER_PLACES4:Tok}{ktLETTER_PLACES5:Tok}{ktLETTER_PLACES6:Tok}{ktLETTER_PLACES7:Tok}{ktLETTER_PLACES8:Tok}{f9c:SM}{sl9c:Array (Option Sl)}{n9c:Nat}{t10:Tok}{f11c:SM}{sl11c:Array (Option Sl)}{n11c:Nat}{t12:Tok}{t13:Tok}{f14c:SM}{sl14c:Array (Option Sl)}{n14c:Nat}{t15:Tok}{t16:Tok}{f17c:SM}{sl17c:Array (Option Sl)}{n17c:Nat}{f18c:SM}{sl18c:Array (Option Sl)}{n18c:Nat}{f19c:SM}{sl19c:Array (Option Sl)}{n19c:Nat}{f20c:SM}{sl20c:Array (Option Sl)}{n20c:Nat}{t21:Tok}{f22c:SM}{sl22c:Array (Option Sl)}{n22c:Nat}{t23:Tok}{f24c:SM}{sl24c:Array (Option Sl)}{n24c:Nat}{t25:Tok}
  {t26:Tok}
  (e0:FA K "tongue_of" sF)
  (e1:FA K "by_name" yu)
  (e2:FA K "bears" Ej)
  (e3:FA K "leads" En)
  (e4:FA K "moved" Ep)
  (e5:FA K "letters_at" pJ)
  (e6:FA K "within" Az)
  (e7:FA K "parts_of" uZ)
  (e8:FA K "free_from" sq)
  (e9:FA K "is_spoken" su)
  (ja10:S8 K SY "Part"=some (some (.ref C10c)))
  (ji10:S7 K (.ref C10c) "__init__"=some (some (.ref f10)))
  (jl10:K.lookup f10=some ⟨u10,o10,.func (Tp "__init__" "Part.__init__" (cB oH) (bB oH) (aJ oH) .none v10 d10 p10 n10 q10 r10),s10⟩)
  (jc10:Vo K q10 "Part.__init__"=true)
  (jk10:T4 K (.ref f10)=true)
  (jm10:Zm K C10c=true)
  (jf10:acI K (.ref f10)=true)
  (jp10:T4 K (.ref C10c)=true)
  (jik10:m_ K C10c)
  (jn_found:S7 K (.ref C10c) "found"=some none)
  (jn_free:S7 K (.ref C10c) "free"=some none)
  (jn_inner:S7 K (.ref C10c) "inner"=some none)
  (jn_kept:S7 K (.ref C10c) "kept"=some none)
  (jn_saying:S7 K (.ref C10c) "saying"=some none)
  (jn_table:S7 K (.ref C10c) "table"=some none)
  (e11:FA K "enough" oJ)
  (e12:FA K "any_part_is" iF)
  (e13:FA K "reckoned" kG)
  (e14:FA K "part_holds" kW)
  (a15:S8 K SY "holds"=some (some (.ref f15)))
  (l15:K.lookup f15=some ⟨u15,o15,.func (Tp "holds" "holds" (cB jm) (bB jm) (aJ jm) (.ref T15) v15 d15 p15 n15 q15 r15),s15⟩)
  (c15:Vo K q15 "holds"=true)
  (k15:T4 K (.ref f15)=true)
  (lT15:K.lookup T15=some ⟨oT15,dT15,.seq #[.none] nT15,sT15⟩)
  (e16:FA K "_law_cell" r9)
  (e17:FA K "_law_names" pD)
  (e18:FA K "_law_some" sd)
  (e19:FA K "_law_pairs" pH)
  (e20:FA K "_law_tongue" nU)
  (e21:FA K "_law_world" pI)
  (e22:FA K "_law_letters" mY)
  (e23:FA K "_law_leaf" r_)
  (e24:FA K "_law_wrapped" mZ)
  (e25:FA K "_law_joined" nT)
  (e26:FA K "_law_grown" pC)
  (e27:FA K "_law_order" pG)
  (a28:S8 K SY "law"=some (some (.ref f28)))
  (l28:K.lookup f28=some ⟨u28,o28,.func (Tp "law" "law" (cB mw) (bB mw) (aJ mw) .none v28 d28 p28 n28 q28 r28),s28⟩)
  (c28:Vo K q28 "law"=true)
  (k28:T4 K (.ref f28)=true)
  (z0:S8 K SY "bool"=some none)
  (z1:S8 K SY "dict"=some none)
  (z2:S8 K SY "isinstance"=some none)
  (z3:S8 K SY "len"=some none)
  (z4:S8 K SY "list"=some none)
  (z5:S8 K SY "max"=some none)
  (z6:S8 K SY "range"=some none)
  (z7:S8 K SY "set"=some none)
  (z8:S8 K SY "sorted"=some none)
  (z9:S8 K SY "tuple"=some none)
  (gBINDERS:S8 K SY "BINDERS"=some (some (.ref f1c)))
  (lc1:K.lookup f1c=some ⟨.type "tuple",none,.seq #[(.str "some" t2),(.str "every" t3),(.str "least" t4)] n1c,sl1c⟩)
  (gINNER_PLACES:S8 K SY "INNER_PLACES"=some (some (.ref fINNER_PLACES)))
  (lINNER_PLACES:K.lookup fINNER_PLACES=some {cls:=.type "dict",data:=.dict #[⟨Ud w.params "not",.str "not" ktINNER_PLACES0,(.int 1 t5)⟩,⟨Ud w.params "some",.str "some" ktINNER_PLACES1,(.int 2 t6)⟩,⟨Ud w.params "every",.str "every" ktINNER_PLACES2,(.int 2 t7)⟩,⟨Ud w.params "least",.str "least" ktINNER_PLACES3,(.int 3 t8)⟩] epINNER_PLACES})
  (gLETTER_PLACES:S8 K SY "LETTER_PLACES"=some (some (.ref fLETTER_PLACES)))
  (lLETTER_PLACES:K.lookup fLETTER_PLACES=some {cls:=.type "dict",data:=.dict #[⟨Ud w.params "mark",.str "mark" ktLETTER_PLACES0,(.ref f9c)⟩,⟨Ud w.params "arrow",.str "arrow" ktLETTER_PLACES1,(.ref f11c)⟩,⟨Ud w.params "same",.str "same" ktLETTER_PLACES2,(.ref f14c)⟩,⟨Ud w.params "not",.str "not" ktLETTER_PLACES3,(.ref f17c)⟩,⟨Ud w.params "and",.str "and" ktLETTER_PLACES4,(.ref f18c)⟩,⟨Ud w.params "or",.str "or" ktLETTER_PLACES5,(.ref f19c)⟩,⟨Ud w.params "some",.str "some" ktLETTER_PLACES6,(.ref f20c)⟩,⟨Ud w.params "every",.str "every" ktLETTER_PLACES7,(.ref f22c)⟩,⟨Ud w.params "least",.str "least" ktLETTER_PLACES8,(.ref f24c)⟩] epLETTER_PLACES})
  (lc9:K.lookup f9c=some ⟨.type "tuple",none,.seq #[(.int 2 t10)] n9c,sl9c⟩)
  (lc11:K.lookup f11c=some ⟨.type "tuple",none,.seq #[(.int 2 t12),(.int 3 t13)] n11c,sl11c⟩)
  (lc14:K.lookup f14c=some ⟨.type "tuple",none,.seq #[(.int 1 t15),(.int 2 t16)] n14c,sl14c⟩)
  (lc17:K.lookup f17c=some ⟨.type "tuple",none,.seq #[] n17c,sl17c⟩)
  (lc18:K.lookup f18c=some ⟨.type "tuple",none,.seq #[] n18c,sl18c⟩)
  (lc19:K.lookup f19c=some ⟨.type "tuple",none,.seq #[] n19c,sl19c⟩)
  (lc20:K.lookup f20c=some ⟨.type "tuple",none,.seq #[(.int 1 t21)] n20c,sl20c⟩)
  (lc22:K.lookup f22c=some ⟨.type "tuple",none,.seq #[(.int 1 t23)] n22c,sl22c⟩)
  (lc24:K.lookup f24c=some ⟨.type "tuple",none,.seq #[(.int 2 t25)] n24c,sl24c⟩)
  (gMOST_KEPT_LETTERS:S8 K SY "MOST_KEPT_LETTERS"=some (some (.int 3 t26)))
  (dINNER_PLACES:(fINNER_PLACES == T9)=false)
  (dLETTER_PLACES:(fLETTER_PLACES == T9)=false):
  ∃fd:Tj,(∀(s:Sn) (v:Sl),abq s fd ⟨[v],[]⟩ [("_law_script",v)])/\∀base:Uo,K.In base->base.Ns SY mg->eT l.prog w K mg base jI 184 fa fd ["_law_script"] (m6 K 1 K16.sM):=by
 have e:=RT.symm.trans (US X G a28);cases e;have F10:=xw (st:=oH) jl10 jc10 jk10;obtain ⟨f11,d11,a11,F11⟩:=e11;obtain ⟨f12,d12,a12,F12⟩:=e12;obtain ⟨f13,d13,a13,F13⟩:=e13;obtain ⟨f14,d14,a14,F14⟩:=e14;have F15:=ID (st:=jm) l15 c15 k15 lT15;have F28:=xw (st:=mw) l28 c28 k28;have m:fC w K mg:=⟨Ul X G z0,
   Ul X G z1,
   Ul X G z2,
   Ul X G z3,
   Ul X G z4,
   Ul X G z5,
   Ul X G z6,
   Ul X G z7,
   Ul X G z8,
   Ul X G z9,
   ⟨_,(.ref f1c),US X G gBINDERS,rfl,λ_=>(.tup (vs:=[(L2.V.str "some"),(L2.V.str "every"),(L2.V.str "least")]) (.inr ⟨_,_,n1c,lc1,rfl,rfl,rfl,(by show 3<=sizeLine;decide),.cons ⟨_,rfl⟩ (.cons ⟨_,rfl⟩ (.cons ⟨_,rfl⟩ (.nil)))⟩) (.cons (.str _) (.cons (.str _) (.cons (.str _) (.nil)))))⟩,
   w4 [("not",ktINNER_PLACES0,(.int 1 t5)),("some",ktINNER_PLACES1,(.int 2 t6)),("every",ktINNER_PLACES2,(.int 2 t7)),("least",ktINNER_PLACES3,(.int 3 t8))] X G gINNER_PLACES lINNER_PLACES (show (["not","some","every","least"]:List Str).Nodup by decide +kernel) dINNER_PLACES (.cons (v:=(.int 1)) ⟨_,rfl⟩ (λ_=>(.int _)) (.cons (v:=(.int 2)) ⟨_,rfl⟩ (λ_=>(.int _)) (.cons (v:=(.int 2)) ⟨_,rfl⟩ (λ_=>(.int _)) (.cons (v:=(.int 3)) ⟨_,rfl⟩ (λ_=>(.int _)) (.nil))))),
   w4 [("mark",ktLETTER_PLACES0,(.ref f9c)),("arrow",ktLETTER_PLACES1,(.ref f11c)),("same",ktLETTER_PLACES2,(.ref f14c)),("not",ktLETTER_PLACES3,(.ref f17c)),("and",ktLETTER_PLACES4,(.ref f18c)),("or",ktLETTER_PLACES5,(.ref f19c)),("some",ktLETTER_PLACES6,(.ref f20c)),("every",ktLETTER_PLACES7,(.ref f22c)),("least",ktLETTER_PLACES8,(.ref f24c))] X G gLETTER_PLACES lLETTER_PLACES (show (["mark","arrow","same","not","and","or","some","every","least"]:List Str).Nodup by decide +kernel) dLETTER_PLACES (.cons (v:=(.ref f9c)) rfl (λ_=>(.tup (vs:=[(L2.V.int 2)]) (.inr ⟨_,_,n9c,lc9,rfl,rfl,rfl,(by show 1<=sizeLine;decide),.cons ⟨_,rfl⟩ (.nil)⟩) (.cons (.int _) (.nil)))) (.cons (v:=(.ref f11c)) rfl (λ_=>(.tup (vs:=[(L2.V.int 2),(L2.V.int 3)]) (.inr ⟨_,_,n11c,lc11,rfl,rfl,rfl,(by show 2<=sizeLine;decide),.cons ⟨_,rfl⟩ (.cons ⟨_,rfl⟩ (.nil))⟩) (.cons (.int _) (.cons (.int _) (.nil))))) (.cons (v:=(.ref f14c)) rfl (λ_=>(.tup (vs:=[(L2.V.int 1),(L2.V.int 2)]) (.inr ⟨_,_,n14c,lc14,rfl,rfl,rfl,(by show 2<=sizeLine;decide),.cons ⟨_,rfl⟩ (.cons ⟨_,rfl⟩ (.nil))⟩) (.cons (.int _) (.cons (.int _) (.nil))))) (.cons (v:=(.ref f17c)) rfl (λ_=>(.tup (vs:=[]) (.inr ⟨_,_,n17c,lc17,rfl,rfl,rfl,(by show 0<=sizeLine;decide),.nil⟩) (.nil))) (.cons (v:=(.ref f18c)) rfl (λ_=>(.tup (vs:=[]) (.inr ⟨_,_,n18c,lc18,rfl,rfl,rfl,(by show 0<=sizeLine;decide),.nil⟩) (.nil))) (.cons (v:=(.ref f19c)) rfl (λ_=>(.tup (vs:=[]) (.inr ⟨_,_,n19c,lc19,rfl,rfl,rfl,(by show 0<=sizeLine;decide),.nil⟩) (.nil))) (.cons (v:=(.ref f20c)) rfl (λ_=>(.tup (vs:=[(L2.V.int 1)]) (.inr ⟨_,_,n20c,lc20,rfl,rfl,rfl,(by show 1<=sizeLine;decide),.cons ⟨_,rfl⟩ (.nil)⟩) (.cons (.int _) (.nil)))) (.cons (v:=(.ref f22c)) rfl (λ_=>(.tup (vs:=[(L2.V.int 1)]) (.inr ⟨_,_,n22c,lc22,rfl,rfl,rfl,(by show 1<=sizeLine;decide),.cons ⟨_,rfl⟩ (.nil)⟩) (.cons (.int _) (.nil)))) (.cons (v:=(.ref f24c)) rfl (λ_=>(.tup (vs:=[(L2.V.int 2)]) (.inr ⟨_,_,n24c,lc24,rfl,rfl,rfl,(by show 1<=sizeLine;decide),.cons ⟨_,rfl⟩ (.nil)⟩) (.cons (.int _) (.nil)))) (.nil)))))))))),
   ⟨_,(.int 3),US X G gMOST_KEPT_LETTERS,⟨_,rfl⟩,λ_=>(.int _)⟩,
   ⟨_,ja10,jn_found⟩,
   ⟨_,ja10,jn_free⟩,
   ⟨_,ja10,jn_inner⟩,
   ⟨_,ja10,jn_kept⟩,
   ⟨_,ja10,jn_saying⟩,
   ⟨_,ja10,jn_table⟩⟩
 refine ⟨Tp "law" "law" (cB mw) (bB mw) (aJ mw) .none v28 d28 p28 n28 q28 r28,λs v=>.of_eq rfl,λbase _ _=>?_⟩;have C0:=wY (P:=l.prog) (base:=base) m (dR X G e0);have C1:=A6 (P:=l.prog) (base:=base) m (dR X G e1);have C2:=EY (P:=l.prog) (base:=base) m C1 (dR X G e2);have C3:=E3 (P:=l.prog) (base:=base) m C1 (dR X G e3);have C4:=E4 (P:=l.prog) (base:=base) m (dR X G e4);have C5:=vt (P:=l.prog) (base:=base) m (dR X G e5);have C6:=CG (P:=l.prog) (base:=base) m (dR X G e6);have C7:=yS (P:=l.prog) (base:=base) m C6 (dR X G e7);have C8:=wO (P:=l.prog) (base:=base) m C5 (dR X G e8);have C9:=wQ (P:=l.prog) (base:=base) m (dR X G e9);have C10:=λmu=>zz (P:=l.prog) (base:=base) m C6 C8 F10 ⟨jm10,ji10,jf10,jp10⟩ (US X G ja10) ja10 jik10 mu 60;have C14:=mK (P:=l.prog) (base:=base) m C5 C2 C3 F14 (US X G a14) F11 (US X G a11) F12 (US X G a12) F13 (US X G a13) 60;have O_holds:=Fq (P:=l.prog) (w:=w) (base:=base) m C10 C0 C7 C9 C14 F15;have C15:=EZ O_holds F15 (US X G a15);have D_holds:=Cy O_holds F15 (US X G a15);have C16:=wL (P:=l.prog) (base:=base) m (dR X G e16);have C17:=vj (P:=l.prog) (base:=base) m (dR X G e17);have C18:=wN (P:=l.prog) (base:=base) m (dR X G e18);have C19:=vn (P:=l.prog) (base:=base) m (dR X G e19);have C20:=sY (P:=l.prog) (base:=base) m C17 (dR X G e20);have C21:=vo (P:=l.prog) (base:=base) m C16 C18 C19 (dR X G e21);have C22:=qJ (P:=l.prog) (base:=base) m (dR X G e22);have C23:=wM (P:=l.prog) (base:=base) m (dR X G e23);have C24:=qK (P:=l.prog) (base:=base) m (dR X G e24);have C25:=sX (P:=l.prog) (base:=base) m (dR X G e25);have C26:=vh (P:=l.prog) (base:=base) m C23 C25 C24 (dR X G e26);have C27:=vm (P:=l.prog) (base:=base) m (dR X G e27);exact Nr m C16 C20 C21 C22 C26 C27 C15 C4 F28
theorem JY (K:Sk) (H:Hp) (a:SM) (ns:List Int) (hl:ns.length<=63) (hO:AQ H) (hS:cQ K H a (ns.map V.int)):m6 K 1 K16.sM [.ref a] H (λv _=>v=.bl true) λ_ _ _=>False:=by
 refine ⟨λ_=>none,[.bor (ns.map D.int)],λ_ _ z=>(by cases z),rfl,⟨_,[],rfl,⟨a,_,rfl,hS,?_⟩,rfl⟩,?_⟩
 ·exact K01.uT ns
 ·rw [Ja ns hl];intro v J H2 _ r;cases r;rfl
theorem walk {l:Zq}{q:SK}{loose:List Str}{XP:(Str->Option Sl)->Uo->Prop}{YP:S9->Uo->Prop}{d:DefRec}{K:adt->Sk}(hn:l.most=some 63) (hdf:d.params.defaults=[])
  (hY:∀(w:S9) (h:Uo),YP w h->(K w.params).In h)
  (F:∀(w:S9) (mg:Str->Option Sl) (fa:SM) (h:Uo),(K w.params).In h->h.Ns SY mg->mg d.name=some (.ref fa)->
   ∃fd:Tj,(∀(s:Sn) (u:Sl),abq s fd ⟨[u],[]⟩ [("_law_script",u)])/\∀base:Uo,(K w.params).In base->base.Ns SY mg->eT l.prog w (K w.params) mg base jI 184 fa fd ["_law_script"] (m6 (K w.params) 1 K16.sM)):
  acu q loose XP YP l.row.toRowW d [] (λf vs=>acd f vs):=
 L2.Kh (n:=63) (k:=184) (x:="_law_script") (CX:=λ_=>jI) (sp:=λw=>m6 (K w.params) 1 K16.sM) hn (by decide) hdf ⟨rfl,by decide,by decide⟩ hY F (λw H a ns hl hO hS=>JY _ H a ns hl hO hS) λ_ _ _ _ _ z=>z
end K16
open PySem PySem.W PyProof.Rows
set_option maxRecDepth 100000 in
set_option maxHeartbeats 0 in
theorem PySem.Challenge.cw_pickalike_k16_whole_moved_worlds_say_the_holds : PySem.Challenge.rw_pickalike_k16_whole_moved_worlds_say_the.Holds := by
 refine holds_law K16.look λsaid=>?_;refine holds_open (q:=K16.VW) (XP:=XL K16.VW []) (YP:=Hook.says K16.HK) K16.left (Hook.of K16.HK) (Hook.keeps K16.HK) (λs e=>xl_of s (ZV.mp e).1) XL.keeps (by rfl) (by rfl) (by rfl) (λs e=>recFacts_of (ZV.mp e).2) (by rfl) said (by decide +kernel) ⟨rfl,rfl,rfl,rfl,rfl,by decide +kernel⟩ ?hw ?hc
 (case hw=>w_witness2)
 delta K16.HK
 k_fill
 refine K16.walk (l:=Tu) rfl rfl (K:=K16.KF) (λw h Y=>PySem.W.kIn_of Y) ?F
 case F=>
  intro w mg fa h KX G hmg;refine' K16.all_mk KX G hmg ..
  all_goals try first | k_is | (refine' DL.M8 ?a ?l ?c ?k;case a | l | c | k=>k_is) | (refine' DL.II ?y0 ?y1 ?y2 ?y3 ?y4 ?y5 ?y6 ?y7 <;> first | k_is | rfl) | rfl | (refine' DL.N5 ?a ?l ?c ?k;case a | l | c | k=>k_is) | (refine' DL.M_ ?y0 ?y1 ?y2 ?y3 ?y4 ?y5;(case y0=>k_is);(case y1=>k_is);(case y2 | y3=>rfl);case y4 | y5=>k_is)
  all_goals decide
